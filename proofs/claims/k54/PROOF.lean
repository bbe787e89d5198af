import PyProof.Rows.All
import KE.KDictOf
import KE.KFromBytes
import KE.KIntText
import KE.KItem
import KE.KRevIter
import KE.KTryMore
import KE.LcSums
import Lean
import PySem.Challenge.RW_stretchdeeds_k54_no_least_algebra
set_option Elab.async false
set_option linter.all false
set_option maxRecDepth 100000
set_option genSizeOf false
set_option bootstrap.genMatcherCode false
noncomputable section
abbrev zC:=PySem.W.Frag
abbrev zD:=@List.length_map
abbrev zzA:=@List.mem_cons
abbrev zzB:=@List.mem_cons_of_mem
abbrev zzC:=@List.getElem?_eq_getElem
abbrev zzD:=@List.mem_cons_self
abbrev zzE:=@List.getElem?_eq_some_iff
abbrev zzF:=@List.size_toArray
abbrev zzG:=@List.getElem?_map
abbrev zzH:=@List.length_append
abbrev zzI:=@Nat.lt_of_lt_of_le
abbrev zzJ:=@List.mem_append_right
abbrev zzK:=@List.mem_append
abbrev zzL:=@Nat.le_refl
abbrev zzM:=@Nat.le_trans
abbrev zzN:=@List.mem_append_left
abbrev zzO:=@Nat.ne_of_lt
abbrev zzP:=@List.mem_singleton
abbrev zzQ:=@List.length_take
abbrev zzR:=@List.length_cons
abbrev zzS:=@List.length_set
abbrev zzT:=@Int.natCast_mul
abbrev zzU:=@List.nodup_cons
abbrev zzV:=@Option.map_eq_some_iff
abbrev zzW:=@List.getElem?_set_ne
abbrev zzX:=@Option.some.inj
abbrev zzY:=@List.mem_of_getElem?
abbrev zzZ:=@List.map_map
abbrev zyA:=@Bool.and_eq_true
abbrev zyB:=@Bool.or_true
abbrev zyC:=@List.append_nil
abbrev zyD:=@List.getD_eq_getElem?_getD
abbrev zyE:=@decide_eq_false
abbrev zyF:=@Int.emod_lt_of_pos
abbrev zyG:=@Int.toNat_natCast
abbrev zyH:=@List.nodup_nil
abbrev zyI:=@List.getElem?_set_self
abbrev zyJ:=@Option.bind_some
abbrev zyK:=@List.map_append
abbrev zyL:=@Int.emod_nonneg
abbrev zyM:=@decide_eq_true
abbrev zyN:=@List.getElem?_append_left
abbrev zyO:=@List.drop_eq_getElem_cons
abbrev zyP:=@List.getElem?_append_right
abbrev zyQ:=@List.map_cons
abbrev zyR:=@Array.length_toList
abbrev zyS:=@List.length_range
abbrev zyT:=@List.getElem?_of_mem
abbrev zyU:=@Bool.false_ne_true
abbrev zyV:=@Nat.le_succ
abbrev zyW:=@Nat.zero_add
abbrev zyX:=@Int.toNat_of_nonneg
abbrev zyY:=@List.getElem_mem
abbrev zyZ:=@Nat.lt_succ_of_lt
abbrev zxA:=@List.not_mem_nil
abbrev zxB:=@List.append_assoc
abbrev zxC:=@List.mem_map
abbrev zxD:=@List.nodup_append
abbrev zxE:=@PySem.wpAny_bind
abbrev zxF:=@PySem.wpAny_pure
abbrev zxG:=@PySem.Heap.get?_push_of_some
abbrev zxH:=@PySem.Heap.lt_size
abbrev zxI:=@PySem.Heap.get?_push_size
abbrev zxJ:=@PySem.wpAny_newObj_type
abbrev zxK:=@PySem.wpAny_holding
abbrev zxL:=@PySem.Heap.get?_update_other
abbrev zxM:=@PySem.Heap.size_push
abbrev zxN:=@PySem.Heap.get?_update_self
abbrev zxO:=@PySem.wpAny_mono
section
namespace L2
open PySem PySem.Spec PyProof.Rows
def inClass(s:Stmt)(j:Nat):Stmt:=match s with
 | .ClassDef _ _ _ body _ _ _ _ _ _ _=>body.getD j (.Pass ⟨0,0,0,0⟩)
 |_=>.Pass ⟨0,0,0,0⟩
def zcY(s:Stmt):Arguments:=match s with
 | .FunctionDef _ a _ _ _ _ _ _ _ _=>a
 |_=>{posonlyargs:=[],args:=[],vararg:=none,kwonlyargs:=[],kw_defaults:=[],kwarg:=none,defaults:=[]}
def ZD(s:Stmt):List Stmt:=match s with
 | .FunctionDef _ _ b _ _ _ _ _ _ _=>b
 |_=>[]
def zr(s:Stmt):Scope:=match s with
 | .FunctionDef _ _ _ _ _ _ sc _ _ _=>sc
 |_=>{kind:=.function,names:=[],isGenerator:=false,isCoroutine:=false}
end L2
end
section
namespace G54
open PySem PySem.W PyProof.Rows L2
def top(i:Nat):Stmt:=PySem.Challenge.pw_stretchdeeds_k54_no_least_algebra.main.body.getD i (.Pass ⟨0,0,0,0⟩)
abbrev vo:Stmt:=top 12
abbrev vB:Stmt:=top 13
abbrev Zc:Stmt:=top 14
abbrev Zx:Stmt:=top 15
abbrev ZF:Stmt:=top 16
abbrev xX:Stmt:=inClass (top 3) 0
abbrev vX:Stmt:=top 17
abbrev Z9:Stmt:=top 19
abbrev YL:Stmt:=top 21
abbrev Xp:Stmt:=top 22
abbrev vp:Stmt:=top 23
abbrev vq:Stmt:=top 24
abbrev Zd:Stmt:=top 26
abbrev Wx:Stmt:=top 27
abbrev ZG:Stmt:=top 28
abbrev Z8:Stmt:=top 29
abbrev Zb:Stmt:=top 30
abbrev Y6:Stmt:=top 31
abbrev ZK:Stmt:=top 32
abbrev YS:Stmt:=top 33
abbrev Yj:Stmt:=top 34
abbrev Xm:Stmt:=top 35
abbrev Yb:Stmt:=top 36
abbrev ZC:Stmt:=top 37
abbrev YW:Stmt:=top 38
abbrev Z7:Stmt:=top 39
abbrev Ye:Stmt:=top 40
abbrev v9:Stmt:=top 41
abbrev v5:Stmt:=top 42
abbrev Zv:Stmt:=top 43
abbrev vm:Stmt:=top 44
abbrev W7:Stmt:=top 45
abbrev v8:Stmt:=top 46
abbrev Yg:Stmt:=top 47
abbrev Yh:Stmt:=top 48
abbrev Y7:Stmt:=top 49
abbrev zkE:Stmt:=top 50
abbrev kF(n q:Str)(s:Stmt)(pm cd:Value):Obj:=⟨.type "function",none,.func (fnOf n q (zcY s) (ZD s) (zr s) .none .none .none pm none cd .none),#[]⟩
abbrev kC(n:Str)(a:Nat)(q:Str)(b c:Nat)(i3 i4 i5 i6 i7:Int)(r8:Addr)(b9:Bool)(i10:Int)(r11 r13 r14 r15:Addr)(i16 i17:Int)(d:Nat):Obj:=⟨.type "code",none,.fields #[.str n a,.str q b,.str "/claim/cut.py" c,.int i3 0,.int i4 0,.int i5 0,.int i6 0,.int i7 0,.ref r8,.bool b9,.int i10 0,.ref r11,.none,.ref r13,.ref r14,.ref r15,.int i16 0,.int i17 0,.str "/claim/cut.py" d],#[]⟩
abbrev kD(es:List DictEntry)(n:Nat):Obj:=⟨.type "dict",none,.dict es.toArray n,#[]⟩
abbrev kE(P:Params)(x:Str)(t:Nat)(v:Value):DictEntry:=⟨PyData.keyHash P x,.str x t,v⟩
abbrev kR(P:Params)(x:Str)(t:Nat)(a:Addr):DictEntry:=kE P x t (.ref a)
def K(P:Params):Frag:=
 (nat_lit 2,⟨.none,none,.dict #[] 0,#[]⟩) ::
 (nat_lit 3,kD [kE P "__name__" 165 (.str "law_stretchdeeds_k54_no_least_algebra" 470),kE P "__doc__" 166 .none,kE P "__package__" 167 .none,kE P "__loader__" 168 (.builtin "__main__.__loader__#opaque"),kE P "__spec__" 169 .none,kR P "__annotations__" 170 6,kR P "__builtins__" 171 4,kE P "__file__" 173 (.str "/claim/cut.py" 172),kE P "__cached__" 174 .none,kR P "StretchError" 206 24,kR P "NoText" 231 44,kR P "NotLetBy" 256 63,kR P "NoMake" 272 75,kR P "NoStretch" 288 87,kR P "NoValue" 304 99,kR P "NoDeed" 320 111,kR P "NoSign" 336 123,kR P "TooGreat" 352 135,kR P "NoRow" 368 147,kR P "nothing_fails" 380 156,kR P "parting_fails" 392 163,kR P "doing_fails" 408 170,kR P "deeds_fail" 419 177,kR P "what_fails" 427 184,kR P "check_let_by" 435 191,kR P "all_steps" 443 196,kR P "numbered" 451 201,kR P "signs_of" 457 206,kR P "class_numbers" 463 211,kR P "least_algebra" 469 216,kR P "_law_cell_at" 479 223,kR P "_law_whole" 486 230,kR P "_law_stream" 497 237,kR P "_law_names" 503 242,kR P "_law_divisor" 511 249,kR P "_law_sums" 517 254,kR P "_law_rising" 523 259,kR P "_law_kept" 529 264,kR P "_law_joins" 535 269,kR P "_law_rows" 541 274,kR P "_law_plain" 547 279,kR P "_law_beside" 553 284,kR P "_law_made" 567 291,kR P "_law_order" 578 298,kR P "_law_signs" 584 303,kR P "_law_algebra" 590 308,kR P "_law_bent" 596 313,kR P "_law_digits" 607 320,kR P "_law_by_digits" 613 325,kR P "_law_any" 622 332,kR P "_law_parting" 634 339,kR P "_law_doing" 652 346,kR P "_law_fails" 668 353,kR P "_law_told" 677 360,kR P "law" 690 367] 55) ::
 (nat_lit 23,kD [kE P "__module__" 196 (.str "stretchdeeds.errors" 187),kE P "__firstlineno__" 200 (.int (2) 199),kR P "__static_attributes__" 201 22,kR P "__weakref__" 203 25,kE P "__doc__" 204 .none] 3) ::
 (nat_lit 24,⟨(.type "type"),none,.cls {name:="StretchError",bases:=[(.type "ValueError")],mro:=[(.ref 24),(.type "ValueError"),(.type "Exception"),(.type "BaseException"),(.type "object")],ns:=23,qualname:="StretchError",hasDict:=true,slotNames:=[],subclasses:=[(.ref 44),(.ref 63),(.ref 75),(.ref 87),(.ref 99),(.ref 111),(.ref 123),(.ref 135),(.ref 147)],abstract:=false,collection:=none,hasDel:=false},#[some (.ref 15),none,some (.str "StretchError" 189),some (.str "StretchError" 197),some (.builtin "ValueError.__new__"),some (.bool true)]⟩) ::
 (nat_lit 43,kD [kE P "__module__" 214 (.str "stretchdeeds.errors" 187),kE P "__firstlineno__" 218 (.int (4) 217),kR P "__init__" 226 41,kR P "__static_attributes__" 228 42,kE P "__doc__" 229 .none] 2) ::
 (nat_lit 44,⟨(.type "type"),none,.cls {name:="NoText",bases:=[(.ref 24)],mro:=[(.ref 44),(.ref 24),(.type "ValueError"),(.type "Exception"),(.type "BaseException"),(.type "object")],ns:=43,qualname:="NoText",hasDict:=true,slotNames:=[],subclasses:=[],abstract:=false,collection:=none,hasDel:=false},#[some (.ref 28),none,some (.str "NoText" 207),some (.str "NoText" 215),some (.builtin "ValueError.__new__"),some (.bool true)]⟩) ::
 (nat_lit 59,kC "__init__" 244 "NotLetBy.__init__" 245 246 11 2 0 0 3 54 true 181 55 56 57 58 249 11 250) ::
 (nat_lit 60,kF "__init__" "NotLetBy.__init__" xX (.str "stretchdeeds.errors" 187) (.ref 59)) ::
 (nat_lit 62,kD [kE P "__module__" 239 (.str "stretchdeeds.errors" 187),kE P "__firstlineno__" 243 (.int (9) 242),kR P "__init__" 251 60,kR P "__static_attributes__" 253 61,kE P "__doc__" 254 .none] 2) ::
 (nat_lit 63,⟨(.type "type"),none,.cls {name:="NotLetBy",bases:=[(.ref 24)],mro:=[(.ref 63),(.ref 24),(.type "ValueError"),(.type "Exception"),(.type "BaseException"),(.type "object")],ns:=62,qualname:="NotLetBy",hasDict:=true,slotNames:=[],subclasses:=[],abstract:=false,collection:=none,hasDel:=false},#[some (.ref 47),none,some (.str "NotLetBy" 232),some (.str "NotLetBy" 240),some (.builtin "ValueError.__new__"),some (.bool true)]⟩) ::
 (nat_lit 74,kD [kE P "__module__" 264 (.str "stretchdeeds.errors" 187),kE P "__firstlineno__" 268 (.int (14) 267),kR P "__static_attributes__" 269 73,kE P "__doc__" 270 .none] 2) ::
 (nat_lit 75,⟨(.type "type"),none,.cls {name:="NoMake",bases:=[(.ref 24)],mro:=[(.ref 75),(.ref 24),(.type "ValueError"),(.type "Exception"),(.type "BaseException"),(.type "object")],ns:=74,qualname:="NoMake",hasDict:=true,slotNames:=[],subclasses:=[],abstract:=false,collection:=none,hasDel:=false},#[some (.ref 66),none,some (.str "NoMake" 257),some (.str "NoMake" 265),some (.builtin "ValueError.__new__"),some (.bool true)]⟩) ::
 (nat_lit 86,kD [kE P "__module__" 280 (.str "stretchdeeds.errors" 187),kE P "__firstlineno__" 284 (.int (16) 283),kR P "__static_attributes__" 285 85,kE P "__doc__" 286 .none] 2) ::
 (nat_lit 87,⟨(.type "type"),none,.cls {name:="NoStretch",bases:=[(.ref 24)],mro:=[(.ref 87),(.ref 24),(.type "ValueError"),(.type "Exception"),(.type "BaseException"),(.type "object")],ns:=86,qualname:="NoStretch",hasDict:=true,slotNames:=[],subclasses:=[],abstract:=false,collection:=none,hasDel:=false},#[some (.ref 78),none,some (.str "NoStretch" 273),some (.str "NoStretch" 281),some (.builtin "ValueError.__new__"),some (.bool true)]⟩) ::
 (nat_lit 98,kD [kE P "__module__" 296 (.str "stretchdeeds.errors" 187),kE P "__firstlineno__" 300 (.int (18) 299),kR P "__static_attributes__" 301 97,kE P "__doc__" 302 .none] 2) ::
 (nat_lit 99,⟨(.type "type"),none,.cls {name:="NoValue",bases:=[(.ref 24)],mro:=[(.ref 99),(.ref 24),(.type "ValueError"),(.type "Exception"),(.type "BaseException"),(.type "object")],ns:=98,qualname:="NoValue",hasDict:=true,slotNames:=[],subclasses:=[],abstract:=false,collection:=none,hasDel:=false},#[some (.ref 90),none,some (.str "NoValue" 289),some (.str "NoValue" 297),some (.builtin "ValueError.__new__"),some (.bool true)]⟩) ::
 (nat_lit 110,kD [kE P "__module__" 312 (.str "stretchdeeds.errors" 187),kE P "__firstlineno__" 316 (.int (20) 315),kR P "__static_attributes__" 317 109,kE P "__doc__" 318 .none] 2) ::
 (nat_lit 111,⟨(.type "type"),none,.cls {name:="NoDeed",bases:=[(.ref 24)],mro:=[(.ref 111),(.ref 24),(.type "ValueError"),(.type "Exception"),(.type "BaseException"),(.type "object")],ns:=110,qualname:="NoDeed",hasDict:=true,slotNames:=[],subclasses:=[],abstract:=false,collection:=none,hasDel:=false},#[some (.ref 102),none,some (.str "NoDeed" 305),some (.str "NoDeed" 313),some (.builtin "ValueError.__new__"),some (.bool true)]⟩) ::
 (nat_lit 122,kD [kE P "__module__" 328 (.str "stretchdeeds.errors" 187),kE P "__firstlineno__" 332 (.int (22) 331),kR P "__static_attributes__" 333 121,kE P "__doc__" 334 .none] 2) ::
 (nat_lit 123,⟨(.type "type"),none,.cls {name:="NoSign",bases:=[(.ref 24)],mro:=[(.ref 123),(.ref 24),(.type "ValueError"),(.type "Exception"),(.type "BaseException"),(.type "object")],ns:=122,qualname:="NoSign",hasDict:=true,slotNames:=[],subclasses:=[],abstract:=false,collection:=none,hasDel:=false},#[some (.ref 114),none,some (.str "NoSign" 321),some (.str "NoSign" 329),some (.builtin "ValueError.__new__"),some (.bool true)]⟩) ::
 (nat_lit 134,kD [kE P "__module__" 344 (.str "stretchdeeds.errors" 187),kE P "__firstlineno__" 348 (.int (24) 347),kR P "__static_attributes__" 349 133,kE P "__doc__" 350 .none] 2) ::
 (nat_lit 135,⟨(.type "type"),none,.cls {name:="TooGreat",bases:=[(.ref 24)],mro:=[(.ref 135),(.ref 24),(.type "ValueError"),(.type "Exception"),(.type "BaseException"),(.type "object")],ns:=134,qualname:="TooGreat",hasDict:=true,slotNames:=[],subclasses:=[],abstract:=false,collection:=none,hasDel:=false},#[some (.ref 126),none,some (.str "TooGreat" 337),some (.str "TooGreat" 345),some (.builtin "ValueError.__new__"),some (.bool true)]⟩) ::
 (nat_lit 146,kD [kE P "__module__" 360 (.str "stretchdeeds.errors" 187),kE P "__firstlineno__" 364 (.int (26) 363),kR P "__static_attributes__" 365 145,kE P "__doc__" 366 .none] 2) ::
 (nat_lit 147,⟨(.type "type"),none,.cls {name:="NoRow",bases:=[(.ref 24)],mro:=[(.ref 147),(.ref 24),(.type "ValueError"),(.type "Exception"),(.type "BaseException"),(.type "object")],ns:=146,qualname:="NoRow",hasDict:=true,slotNames:=[],subclasses:=[],abstract:=false,collection:=none,hasDel:=false},#[some (.ref 138),none,some (.str "NoRow" 353),some (.str "NoRow" 361),some (.builtin "ValueError.__new__"),some (.bool true)]⟩) ::
 (nat_lit 155,kC "nothing_fails" 371 "nothing_fails" 372 373 29 1 0 0 3 150 true 181 151 152 153 154 378 29 379) ::
 (nat_lit 156,kF "nothing_fails" "nothing_fails" vo (.str "stretchdeeds.algebras" 369) (.ref 155)) ::
 (nat_lit 162,kC "parting_fails" 381 "parting_fails" 382 383 36 1 0 0 3 157 true 181 158 159 160 161 390 36 391) ::
 (nat_lit 163,kF "parting_fails" "parting_fails" vB (.str "stretchdeeds.algebras" 369) (.ref 162)) ::
 (nat_lit 169,kC "doing_fails" 393 "doing_fails" 394 395 45 3 0 0 3 164 true 181 165 166 167 168 406 45 407) ::
 (nat_lit 170,kF "doing_fails" "doing_fails" Zc (.str "stretchdeeds.algebras" 369) (.ref 169)) ::
 (nat_lit 176,kC "deeds_fail" 409 "deeds_fail" 410 411 56 1 0 0 3 171 true 181 172 173 174 175 417 56 418) ::
 (nat_lit 177,kF "deeds_fail" "deeds_fail" Zx (.str "stretchdeeds.algebras" 369) (.ref 176)) ::
 (nat_lit 183,kC "what_fails" 420 "what_fails" 421 422 65 1 0 0 3 178 true 181 179 180 181 182 425 65 426) ::
 (nat_lit 184,kF "what_fails" "what_fails" ZF (.str "stretchdeeds.algebras" 369) (.ref 183)) ::
 (nat_lit 190,kC "check_let_by" 428 "check_let_by" 429 430 72 1 0 0 3 185 true 181 186 187 188 189 433 72 434) ::
 (nat_lit 191,kF "check_let_by" "check_let_by" vX (.str "stretchdeeds.algebras" 369) (.ref 190)) ::
 (nat_lit 195,⟨.type "code",none,.fields #[(.str "all_steps" 438),(.str "all_steps" 439),(.str "/claim/cut.py" 440),(.int (77) 0),(.int (1) 0),(.int (0) 0),(.int (0) 0),(.int (3) 0),(.ref 192),(.bool true),(.int (181) 0),(.ref 193),.none,.none,.none,(.ref 194),(.int (441) 0),(.int (77) 0),(.str "/claim/cut.py" 442)],#[]⟩) ::
 (nat_lit 196,kF "all_steps" "all_steps" Z9 (.str "stretchdeeds.alikes" 436) (.ref 195)) ::
 (nat_lit 200,⟨.type "code",none,.fields #[(.str "numbered" 446),(.str "numbered" 447),(.str "/claim/cut.py" 448),(.int (85) 0),(.int (1) 0),(.int (0) 0),(.int (0) 0),(.int (3) 0),(.ref 197),(.bool true),(.int (181) 0),(.ref 198),.none,.none,.none,(.ref 199),(.int (449) 0),(.int (85) 0),(.str "/claim/cut.py" 450)],#[]⟩) ::
 (nat_lit 201,kF "numbered" "numbered" YL (.str "stretchdeeds.leasts" 444) (.ref 200)) ::
 (nat_lit 205,⟨.type "code",none,.fields #[(.str "signs_of" 452),(.str "signs_of" 453),(.str "/claim/cut.py" 454),(.int (90) 0),(.int (2) 0),(.int (0) 0),(.int (0) 0),(.int (3) 0),(.ref 202),(.bool true),(.int (181) 0),(.ref 203),.none,.none,.none,(.ref 204),(.int (455) 0),(.int (90) 0),(.str "/claim/cut.py" 456)],#[]⟩) ::
 (nat_lit 206,kF "signs_of" "signs_of" Xp (.str "stretchdeeds.leasts" 444) (.ref 205)) ::
 (nat_lit 210,⟨.type "code",none,.fields #[(.str "class_numbers" 458),(.str "class_numbers" 459),(.str "/claim/cut.py" 460),(.int (92) 0),(.int (1) 0),(.int (0) 0),(.int (0) 0),(.int (3) 0),(.ref 207),(.bool true),(.int (181) 0),(.ref 208),.none,.none,.none,(.ref 209),(.int (461) 0),(.int (92) 0),(.str "/claim/cut.py" 462)],#[]⟩) ::
 (nat_lit 211,kF "class_numbers" "class_numbers" vp (.str "stretchdeeds.leasts" 444) (.ref 210)) ::
 (nat_lit 215,⟨.type "code",none,.fields #[(.str "least_algebra" 464),(.str "least_algebra" 465),(.str "/claim/cut.py" 466),(.int (101) 0),(.int (1) 0),(.int (0) 0),(.int (0) 0),(.int (3) 0),(.ref 212),(.bool true),(.int (181) 0),(.ref 213),.none,.none,.none,(.ref 214),(.int (467) 0),(.int (101) 0),(.str "/claim/cut.py" 468)],#[]⟩) ::
 (nat_lit 216,kF "least_algebra" "least_algebra" vq (.str "stretchdeeds.leasts" 444) (.ref 215)) ::
 (nat_lit 222,kC "_law_cell_at" 472 "_law_cell_at" 473 474 110 2 0 0 3 217 true 181 218 219 220 221 477 110 478) ::
 (nat_lit 223,kF "_law_cell_at" "_law_cell_at" Zd (.str "law_stretchdeeds_k54_no_least_algebra" 470) (.ref 222)) ::
 (nat_lit 229,kC "_law_whole" 480 "_law_whole" 481 482 114 1 0 0 3 224 true 181 225 226 227 228 484 114 485) ::
 (nat_lit 230,kF "_law_whole" "_law_whole" Wx (.str "law_stretchdeeds_k54_no_least_algebra" 470) (.ref 229)) ::
 (nat_lit 236,kC "_law_stream" 487 "_law_stream" 488 489 116 2 0 0 3 231 true 181 232 233 234 235 495 116 496) ::
 (nat_lit 237,kF "_law_stream" "_law_stream" ZG (.str "law_stretchdeeds_k54_no_least_algebra" 470) (.ref 236)) ::
 (nat_lit 241,⟨.type "code",none,.fields #[(.str "_law_names" 498),(.str "_law_names" 499),(.str "/claim/cut.py" 500),(.int (123) 0),(.int (2) 0),(.int (0) 0),(.int (0) 0),(.int (3) 0),(.ref 238),(.bool true),(.int (181) 0),(.ref 239),.none,.none,.none,(.ref 240),(.int (501) 0),(.int (123) 0),(.str "/claim/cut.py" 502)],#[]⟩) ::
 (nat_lit 242,kF "_law_names" "_law_names" Z8 (.str "law_stretchdeeds_k54_no_least_algebra" 470) (.ref 241)) ::
 (nat_lit 248,kC "_law_divisor" 504 "_law_divisor" 505 506 132 2 0 0 3 243 true 181 244 245 246 247 509 132 510) ::
 (nat_lit 249,kF "_law_divisor" "_law_divisor" Zb (.str "law_stretchdeeds_k54_no_least_algebra" 470) (.ref 248)) ::
 (nat_lit 253,⟨.type "code",none,.fields #[(.str "_law_sums" 512),(.str "_law_sums" 513),(.str "/claim/cut.py" 514),(.int (136) 0),(.int (3) 0),(.int (0) 0),(.int (0) 0),(.int (3) 0),(.ref 250),(.bool true),(.int (181) 0),(.ref 251),.none,.none,.none,(.ref 252),(.int (515) 0),(.int (136) 0),(.str "/claim/cut.py" 516)],#[]⟩) ::
 (nat_lit 254,kF "_law_sums" "_law_sums" Y6 (.str "law_stretchdeeds_k54_no_least_algebra" 470) (.ref 253)) ::
 (nat_lit 258,⟨.type "code",none,.fields #[(.str "_law_rising" 518),(.str "_law_rising" 519),(.str "/claim/cut.py" 520),(.int (142) 0),(.int (3) 0),(.int (0) 0),(.int (0) 0),(.int (3) 0),(.ref 255),(.bool true),(.int (181) 0),(.ref 256),.none,.none,.none,(.ref 257),(.int (521) 0),(.int (142) 0),(.str "/claim/cut.py" 522)],#[]⟩) ::
 (nat_lit 259,kF "_law_rising" "_law_rising" ZK (.str "law_stretchdeeds_k54_no_least_algebra" 470) (.ref 258)) ::
 (nat_lit 263,⟨.type "code",none,.fields #[(.str "_law_kept" 524),(.str "_law_kept" 525),(.str "/claim/cut.py" 526),(.int (146) 0),(.int (3) 0),(.int (0) 0),(.int (0) 0),(.int (3) 0),(.ref 260),(.bool true),(.int (181) 0),(.ref 261),.none,.none,.none,(.ref 262),(.int (527) 0),(.int (146) 0),(.str "/claim/cut.py" 528)],#[]⟩) ::
 (nat_lit 264,kF "_law_kept" "_law_kept" YS (.str "law_stretchdeeds_k54_no_least_algebra" 470) (.ref 263)) ::
 (nat_lit 268,⟨.type "code",none,.fields #[(.str "_law_joins" 530),(.str "_law_joins" 531),(.str "/claim/cut.py" 532),(.int (149) 0),(.int (2) 0),(.int (0) 0),(.int (0) 0),(.int (3) 0),(.ref 265),(.bool true),(.int (181) 0),(.ref 266),.none,.none,.none,(.ref 267),(.int (533) 0),(.int (149) 0),(.str "/claim/cut.py" 534)],#[]⟩) ::
 (nat_lit 269,kF "_law_joins" "_law_joins" Yj (.str "law_stretchdeeds_k54_no_least_algebra" 470) (.ref 268)) ::
 (nat_lit 273,⟨.type "code",none,.fields #[(.str "_law_rows" 536),(.str "_law_rows" 537),(.str "/claim/cut.py" 538),(.int (160) 0),(.int (4) 0),(.int (0) 0),(.int (0) 0),(.int (3) 0),(.ref 270),(.bool true),(.int (181) 0),(.ref 271),.none,.none,.none,(.ref 272),(.int (539) 0),(.int (160) 0),(.str "/claim/cut.py" 540)],#[]⟩) ::
 (nat_lit 274,kF "_law_rows" "_law_rows" Xm (.str "law_stretchdeeds_k54_no_least_algebra" 470) (.ref 273)) ::
 (nat_lit 278,⟨.type "code",none,.fields #[(.str "_law_plain" 542),(.str "_law_plain" 543),(.str "/claim/cut.py" 544),(.int (168) 0),(.int (5) 0),(.int (0) 0),(.int (0) 0),(.int (3) 0),(.ref 275),(.bool true),(.int (181) 0),(.ref 276),.none,.none,.none,(.ref 277),(.int (545) 0),(.int (168) 0),(.str "/claim/cut.py" 546)],#[]⟩) ::
 (nat_lit 279,kF "_law_plain" "_law_plain" Yb (.str "law_stretchdeeds_k54_no_least_algebra" 470) (.ref 278)) ::
 (nat_lit 283,⟨.type "code",none,.fields #[(.str "_law_beside" 548),(.str "_law_beside" 549),(.str "/claim/cut.py" 550),(.int (171) 0),(.int (3) 0),(.int (0) 0),(.int (0) 0),(.int (3) 0),(.ref 280),(.bool true),(.int (181) 0),(.ref 281),.none,.none,.none,(.ref 282),(.int (551) 0),(.int (171) 0),(.str "/claim/cut.py" 552)],#[]⟩) ::
 (nat_lit 284,kF "_law_beside" "_law_beside" ZC (.str "law_stretchdeeds_k54_no_least_algebra" 470) (.ref 283)) ::
 (nat_lit 290,kC "_law_made" 554 "_law_made" 555 556 190 3 0 0 3 285 true 181 286 287 288 289 565 190 566) ::
 (nat_lit 291,kF "_law_made" "_law_made" YW (.str "law_stretchdeeds_k54_no_least_algebra" 470) (.ref 290)) ::
 (nat_lit 297,kC "_law_order" 568 "_law_order" 569 570 203 2 0 0 3 292 true 181 293 294 295 296 576 203 577) ::
 (nat_lit 298,kF "_law_order" "_law_order" Z7 (.str "law_stretchdeeds_k54_no_least_algebra" 470) (.ref 297)) ::
 (nat_lit 302,⟨.type "code",none,.fields #[(.str "_law_signs" 579),(.str "_law_signs" 580),(.str "/claim/cut.py" 581),(.int (209) 0),(.int (3) 0),(.int (0) 0),(.int (0) 0),(.int (3) 0),(.ref 299),(.bool true),(.int (181) 0),(.ref 300),.none,.none,.none,(.ref 301),(.int (582) 0),(.int (209) 0),(.str "/claim/cut.py" 583)],#[]⟩) ::
 (nat_lit 303,kF "_law_signs" "_law_signs" Ye (.str "law_stretchdeeds_k54_no_least_algebra" 470) (.ref 302)) ::
 (nat_lit 307,⟨.type "code",none,.fields #[(.str "_law_algebra" 585),(.str "_law_algebra" 586),(.str "/claim/cut.py" 587),(.int (214) 0),(.int (2) 0),(.int (0) 0),(.int (0) 0),(.int (3) 0),(.ref 304),(.bool true),(.int (181) 0),(.ref 305),.none,.none,.none,(.ref 306),(.int (588) 0),(.int (214) 0),(.str "/claim/cut.py" 589)],#[]⟩) ::
 (nat_lit 308,kF "_law_algebra" "_law_algebra" v9 (.str "law_stretchdeeds_k54_no_least_algebra" 470) (.ref 307)) ::
 (nat_lit 312,⟨.type "code",none,.fields #[(.str "_law_bent" 591),(.str "_law_bent" 592),(.str "/claim/cut.py" 593),(.int (232) 0),(.int (2) 0),(.int (0) 0),(.int (0) 0),(.int (3) 0),(.ref 309),(.bool true),(.int (181) 0),(.ref 310),.none,.none,.none,(.ref 311),(.int (594) 0),(.int (232) 0),(.str "/claim/cut.py" 595)],#[]⟩) ::
 (nat_lit 313,kF "_law_bent" "_law_bent" v5 (.str "law_stretchdeeds_k54_no_least_algebra" 470) (.ref 312)) ::
 (nat_lit 319,kC "_law_digits" 597 "_law_digits" 598 599 246 3 0 0 3 314 true 181 315 316 317 318 605 246 606) ::
 (nat_lit 320,kF "_law_digits" "_law_digits" Zv (.str "law_stretchdeeds_k54_no_least_algebra" 470) (.ref 319)) ::
 (nat_lit 324,⟨.type "code",none,.fields #[(.str "_law_by_digits" 608),(.str "_law_by_digits" 609),(.str "/claim/cut.py" 610),(.int (252) 0),(.int (2) 0),(.int (0) 0),(.int (0) 0),(.int (3) 0),(.ref 321),(.bool true),(.int (181) 0),(.ref 322),.none,.none,.none,(.ref 323),(.int (611) 0),(.int (252) 0),(.str "/claim/cut.py" 612)],#[]⟩) ::
 (nat_lit 325,kF "_law_by_digits" "_law_by_digits" vm (.str "law_stretchdeeds_k54_no_least_algebra" 470) (.ref 324)) ::
 (nat_lit 331,kC "_law_any" 614 "_law_any" 615 616 261 1 0 0 3 326 true 181 327 328 329 330 620 261 621) ::
 (nat_lit 332,kF "_law_any" "_law_any" W7 (.str "law_stretchdeeds_k54_no_least_algebra" 470) (.ref 331)) ::
 (nat_lit 338,kC "_law_parting" 623 "_law_parting" 624 625 267 3 0 0 3 333 true 181 334 335 336 337 632 267 633) ::
 (nat_lit 339,kF "_law_parting" "_law_parting" v8 (.str "law_stretchdeeds_k54_no_least_algebra" 470) (.ref 338)) ::
 (nat_lit 345,kC "_law_doing" 635 "_law_doing" 636 637 277 5 0 0 3 340 true 181 341 342 343 344 650 277 651) ::
 (nat_lit 346,kF "_law_doing" "_law_doing" Yg (.str "law_stretchdeeds_k54_no_least_algebra" 470) (.ref 345)) ::
 (nat_lit 352,kC "_law_fails" 653 "_law_fails" 654 655 286 1 0 0 3 347 true 181 348 349 350 351 666 286 667) ::
 (nat_lit 353,kF "_law_fails" "_law_fails" Yh (.str "law_stretchdeeds_k54_no_least_algebra" 470) (.ref 352)) ::
 (nat_lit 359,kC "_law_told" 669 "_law_told" 670 671 295 1 0 0 3 354 true 181 355 356 357 358 675 295 676) ::
 (nat_lit 360,kF "_law_told" "_law_told" Y7 (.str "law_stretchdeeds_k54_no_least_algebra" 470) (.ref 359)) ::
 (nat_lit 366,kC "law" 678 "law" 679 680 305 1 0 0 3 361 true 181 362 363 364 365 688 305 689) ::
 (nat_lit 367,kF "law" "law" zkE (.str "law_stretchdeeds_k54_no_least_algebra" 470) (.ref 366)) ::
 []
def kA:List Addr:=[2,3,23,24,43,44,59,60,62,63,74,75,86,87,98,99,110,111,122,123,134,135,146,147,155,156,162,163,169,170,176,177,183,184,190,191,195,196,200,201,205,206,210,211,215,216,222,223,229,230,236,237,241,242,248,249,253,254,258,259,263,264,268,269,273,274,278,279,283,284,290,291,297,298,302,303,307,308,312,313,319,320,324,325,331,332,338,339,345,346,352,353,359,360,366,367]
def qv:Program:={PySem.Challenge.pw_stretchdeeds_k54_no_least_algebra with main:={PySem.Challenge.pw_stretchdeeds_k54_no_least_algebra.main with body:=[1,2,3,4,5,6,7,8,9,10,12,13,14,15,16,17,19,21,22,23,24,26,27,28,29,30,31,32,33,34,35,36,37,38,39,40,41,42,43,44,45,46,47,48,49,50].map top}}
theorem kAe(P:Params):kA=(K P).map (·.1):=by kernel_rfl
set_option maxRecDepth 100000
theorem ws:PySem.Challenge.rw_stretchdeeds_k54_no_least_algebra.wellSaid=true:=by kernel_rfl
abbrev Xt(s:Shared):Bool:=xlAt qv [] s&&recOk (RowW.records (OpenRow.toRowW PySem.Challenge.rw_stretchdeeds_k54_no_least_algebra.row)) s
abbrev hk:Hook:=kHook K kA kAe
theorem ha0(w:World):Option.map (λt=>Option.map (λs=>(openSeen qv [] (importedModules PySem.Challenge.pw_stretchdeeds_k54_no_least_algebra.main.body) Xt true s).1) (topFrom treeTable PySem.Challenge.pw_stretchdeeds_k54_no_least_algebra w 8000 t)) (fencedOpening treeTable PySem.Challenge.pw_stretchdeeds_k54_no_least_algebra w 8000)=some (some (openGood qv []).1):=by kernel_rfl
theorem ha1(w:World):Option.map (λt=>Option.map (λs=>(openSeen qv [] (importedModules PySem.Challenge.pw_stretchdeeds_k54_no_least_algebra.main.body) Xt true s).2.1) (topFrom treeTable PySem.Challenge.pw_stretchdeeds_k54_no_least_algebra w 8000 t)) (fencedOpening treeTable PySem.Challenge.pw_stretchdeeds_k54_no_least_algebra w 8000)=some (some (openGood qv []).2.1):=by kernel_rfl
theorem ha2(w:World):Option.map (λt=>Option.map (λs=>(openSeen qv [] (importedModules PySem.Challenge.pw_stretchdeeds_k54_no_least_algebra.main.body) Xt true s).2.2.1) (topFrom treeTable PySem.Challenge.pw_stretchdeeds_k54_no_least_algebra w 8000 t)) (fencedOpening treeTable PySem.Challenge.pw_stretchdeeds_k54_no_least_algebra w 8000)=some (some (openGood qv []).2.2.1):=by kernel_rfl
theorem ha3(w:World):Option.map (λt=>Option.map (λs=>(openSeen qv [] (importedModules PySem.Challenge.pw_stretchdeeds_k54_no_least_algebra.main.body) Xt true s).2.2.2.1) (topFrom treeTable PySem.Challenge.pw_stretchdeeds_k54_no_least_algebra w 8000 t)) (fencedOpening treeTable PySem.Challenge.pw_stretchdeeds_k54_no_least_algebra w 8000)=some (some (openGood qv []).2.2.2.1):=by kernel_rfl
theorem ha4(w:World):Option.map (λt=>Option.map (λs=>(openSeen qv [] (importedModules PySem.Challenge.pw_stretchdeeds_k54_no_least_algebra.main.body) Xt true s).2.2.2.2) (topFrom treeTable PySem.Challenge.pw_stretchdeeds_k54_no_least_algebra w 8000 t)) (fencedOpening treeTable PySem.Challenge.pw_stretchdeeds_k54_no_least_algebra w 8000)=some (some (openGood qv []).2.2.2.2):=by kernel_rfl
theorem hb(w:World):Option.map (λt=>Option.map (λs=>hk.obs s) (topFrom treeTable PySem.Challenge.pw_stretchdeeds_k54_no_least_algebra w 8000 t)) (fencedOpening treeTable PySem.Challenge.pw_stretchdeeds_k54_no_least_algebra w 8000)=some (some (hk.val w)):=by kernel_rfl
def pr{α β γ δ:Type}{x:Option α}{T:α->Option β}{f:β->γ}{g:β->δ}{a:γ}{b:δ}(h:x.map (λt=>(T t).map f)=some (some a))(k:x.map (λt=>(T t).map g)=some (some b)):x.map (λt=>(T t).map λs=>(f s,g s))=some (some (a,b)):=by
 cases x with
 |none=>cases h
 |some y=>
  have h:(T y).map f=some a:=Option.some.inj h;have k:(T y).map g=some b:=Option.some.inj k;show some ((T y).map λs=>(f s,g s))=_;cases e:T y with
  |none=>rw[e] at h;cases h
  |some z=>rw[e] at h k;cases h;cases k;rfl
def pq{α β γ δ:Type}{x:Option α}{T:α->Option β}(o:β->γ×δ)(a:γ×δ)(h:x.map (λt=>(T t).map λs=>(o s).1)=some (some a.1))(k:x.map (λt=>(T t).map λs=>(o s).2)=some (some a.2)):x.map (λt=>(T t).map λs=>o s)=some (some a):=pr h k
def pb{α β γ:Type}{x:Option α}{T:α->Option β}{f:β->γ}{v:γ}(h:x.map (λt=>(T t).map f)=some (some v)):(x.bind T).map f=some v:=by
 cases x with
 |none=>cases h
 |some y=>exact Option.some.inj h
def hA3(w:World):Option.map (λt=>Option.map (λs=>(openSeen qv [] (importedModules PySem.Challenge.pw_stretchdeeds_k54_no_least_algebra.main.body) Xt true s).2.2.2) (topFrom treeTable PySem.Challenge.pw_stretchdeeds_k54_no_least_algebra w 8000 t)) (fencedOpening treeTable PySem.Challenge.pw_stretchdeeds_k54_no_least_algebra w 8000)=some (some (openGood qv []).2.2.2):=pq (x:=fencedOpening treeTable PySem.Challenge.pw_stretchdeeds_k54_no_least_algebra w 8000) (T:=λt=>topFrom treeTable PySem.Challenge.pw_stretchdeeds_k54_no_least_algebra w 8000 t) (λs=>(openSeen qv [] (importedModules PySem.Challenge.pw_stretchdeeds_k54_no_least_algebra.main.body) Xt true s).2.2.2) (openGood qv []).2.2.2 (ha3 w) (ha4 w)
def hA2(w:World):Option.map (λt=>Option.map (λs=>(openSeen qv [] (importedModules PySem.Challenge.pw_stretchdeeds_k54_no_least_algebra.main.body) Xt true s).2.2) (topFrom treeTable PySem.Challenge.pw_stretchdeeds_k54_no_least_algebra w 8000 t)) (fencedOpening treeTable PySem.Challenge.pw_stretchdeeds_k54_no_least_algebra w 8000)=some (some (openGood qv []).2.2):=pq (x:=fencedOpening treeTable PySem.Challenge.pw_stretchdeeds_k54_no_least_algebra w 8000) (T:=λt=>topFrom treeTable PySem.Challenge.pw_stretchdeeds_k54_no_least_algebra w 8000 t) (λs=>(openSeen qv [] (importedModules PySem.Challenge.pw_stretchdeeds_k54_no_least_algebra.main.body) Xt true s).2.2) (openGood qv []).2.2 (ha2 w) (hA3 w)
def hA1(w:World):Option.map (λt=>Option.map (λs=>(openSeen qv [] (importedModules PySem.Challenge.pw_stretchdeeds_k54_no_least_algebra.main.body) Xt true s).2) (topFrom treeTable PySem.Challenge.pw_stretchdeeds_k54_no_least_algebra w 8000 t)) (fencedOpening treeTable PySem.Challenge.pw_stretchdeeds_k54_no_least_algebra w 8000)=some (some (openGood qv []).2):=pq (x:=fencedOpening treeTable PySem.Challenge.pw_stretchdeeds_k54_no_least_algebra w 8000) (T:=λt=>topFrom treeTable PySem.Challenge.pw_stretchdeeds_k54_no_least_algebra w 8000 t) (λs=>(openSeen qv [] (importedModules PySem.Challenge.pw_stretchdeeds_k54_no_least_algebra.main.body) Xt true s).2) (openGood qv []).2 (ha1 w) (hA2 w)
def hA0(w:World):Option.map (λt=>Option.map (λs=>(openSeen qv [] (importedModules PySem.Challenge.pw_stretchdeeds_k54_no_least_algebra.main.body) Xt true s)) (topFrom treeTable PySem.Challenge.pw_stretchdeeds_k54_no_least_algebra w 8000 t)) (fencedOpening treeTable PySem.Challenge.pw_stretchdeeds_k54_no_least_algebra w 8000)=some (some (openGood qv [])):=pq (x:=fencedOpening treeTable PySem.Challenge.pw_stretchdeeds_k54_no_least_algebra w 8000) (T:=λt=>topFrom treeTable PySem.Challenge.pw_stretchdeeds_k54_no_least_algebra w 8000 t) (λs=>(openSeen qv [] (importedModules PySem.Challenge.pw_stretchdeeds_k54_no_least_algebra.main.body) Xt true s)) (openGood qv []) (ha0 w) (hA1 w)
def hl:LeftO PySem.Challenge.pw_stretchdeeds_k54_no_least_algebra qv [] Xt hk.obs hk.val 8000:=by
 intro w;unfold openEnds;exact pb (x:=fencedOpening treeTable PySem.Challenge.pw_stretchdeeds_k54_no_least_algebra w 8000) (T:=λt=>topFrom treeTable PySem.Challenge.pw_stretchdeeds_k54_no_least_algebra w 8000 t) (f:=λs=>((openSeen qv [] (importedModules PySem.Challenge.pw_stretchdeeds_k54_no_least_algebra.main.body) Xt true s),hk.obs s)) (v:=((openGood qv []),hk.val w)) (pr (x:=fencedOpening treeTable PySem.Challenge.pw_stretchdeeds_k54_no_least_algebra w 8000) (T:=λt=>topFrom treeTable PySem.Challenge.pw_stretchdeeds_k54_no_least_algebra w 8000 t) (f:=λs=>(openSeen qv [] (importedModules PySem.Challenge.pw_stretchdeeds_k54_no_least_algebra.main.body) Xt true s)) (g:=λs=>hk.obs s) (a:=(openGood qv [])) (b:=hk.val w) (hA0 w) (hb w))
end G54
end
section
namespace L2
open PySem PySem.Spec PyProof.Rows
abbrev Key:=Sum Int Str
def zcH:Key->Value->Bool
 | .inl k,.bool b=>(if b then 1 else 0)==k
 | .inl k,v=>Value.isInt k v
 | .inr x,v=>Value.isStrOf x v
def zvc(w:World):Key->Int
 | .inl k=>hashInt k
 | .inr x=>hashStr w x
def yX:∀{k:Key}{v:Value},zcH k v=true->(∃i t,k=Sum.inl i/\v=Value.int i t)\/(∃x t,k=Sum.inr x/\v=Value.str x t)\/(∃b,k=Sum.inl (if b=true then 1 else 0)/\v=Value.bool b)
 | .inl i,v,h=>by
  by_cases hb:∃b,v=Value.bool b
  · obtain⟨b,rfl⟩:=hb;have h:((if b=true then 1 else 0)==i)=true:=h;exact .inr (.inr ⟨b,by rw[eq_of_beq h],rfl⟩)
  · have h':Value.isInt i v=true:=by
     cases v<;>first|exact h|exact(hb ⟨_,rfl⟩).elim
    obtain⟨t,e⟩:=Value.isInt_shape (k:=i) (v:=v) h';exact .inl ⟨i,t,rfl,e⟩
 | .inr x,v,h=>by
  obtain⟨t,e⟩:=Value.isStrOf_shape (x:=x) (v:=v) h;exact .inr (.inl ⟨x,t,rfl,e⟩)
def zmX(b:Bool):zcH (.inl (if b=true then 1 else 0)) (.bool b)=true:=by simp[zcH]
def zlH(i:Int)(t:Tok):zcH (.inl i) (.int i t)=true:=by simp[zcH,Value.isInt]
def zlQ(x:Str)(t:Tok):zcH (.inr x) (.str x t)=true:=by simp[zcH,Value.isStrOf]
def zhe(a b:Int):decide ((Sum.inl a:Key)=Sum.inl b)=(a==b):=by
 by_cases e:a=b
 · subst e;simp
 · have h:¬(Sum.inl a:Key)=Sum.inl b:=λq=>e (Sum.inl.inj q);rw[zyE h];exact(beq_eq_false_iff_ne.mpr e).symm
def zrC(a b:Str):decide ((Sum.inr a:Key)=Sum.inr b)=decide (a=b):=by
 by_cases e:a=b
 · subst e;simp
 · have h:¬(Sum.inr a:Key)=Sum.inr b:=λq=>e (Sum.inr.inj q);rw[zyE h,zyE e]
def zns(a:Int)(b:Str):decide ((Sum.inl a:Key)=Sum.inr b)=false:=zyE (λq=>nomatch q)
def zok(a:Str)(b:Int):decide ((Sum.inr a:Key)=Sum.inl b)=false:=zyE (λq=>nomatch q)
def zqG{prog:Program}{w:World}{A:Around}{E:Value->Shared->Prop}{s:Shared}{b:Bool}{Q:Int->Shared->Prop}(h:Q (hashInt (if b=true then 1 else 0)) {s with toks:=s.toks+1}):wpAny (model prog w) A (PySem.pyHash (.bool b)) Q E s:=by
 refine PySem.W.pyHash_slot (B:=_) (v:=.bool b) rfl PySem.F.slot_bool_hash entry_int_hash (args_int_hash _) (beq_builtin_none _) (.inl rfl) ?_;have one:∀n:Int,Q (PySem.reduceHash n) {s with toks:=s.toks+1}->wpAny (model prog w) A.in1 (do ret (<-mkInt n)) (λfin s'=>∃n t,fin = .done (.ret (.int n t))/\Q (PySem.reduceHash n) s') E s:=λn z=>zxE (wpAny_mkInt (zxF ⟨_,_,rfl,z⟩));cases b with
 |false=>exact one 0 h
 |true=>exact one 1 h
def xu(prog:Program)(w:World):PySem.KeyKind prog w Key where
 is:=zcH
 hash:=zvc w
 inj:=λv a b ha hb=>by
  rcases yX ha with⟨i,t,rfl,rfl⟩|⟨x,t,rfl,rfl⟩|⟨c,rfl,rfl⟩
  · rcases yX hb with⟨j,u,rfl,e⟩|⟨y,u,rfl,e⟩|⟨d,rfl,e⟩
    · injection e with e1 _;rw[e1]
    · exact nomatch e
    · exact nomatch e
  · rcases yX hb with⟨j,u,rfl,e⟩|⟨y,u,rfl,e⟩|⟨d,rfl,e⟩
    · exact nomatch e
    · injection e with e1 _;rw[e1]
    · exact nomatch e
  · rcases yX hb with⟨j,u,rfl,e⟩|⟨y,u,rfl,e⟩|⟨d,rfl,e⟩
    · exact nomatch e
    · exact nomatch e
    · injection e with e1;rw[e1]
 byValue:=λk v h=>by
  rcases yX h with⟨i,t,rfl,rfl⟩|⟨x,t,rfl,rfl⟩|⟨c,rfl,rfl⟩<;>rfl
 pyHash:=λhv h=>by
  rcases yX hv with⟨i,t,rfl,rfl⟩|⟨x,t,rfl,rfl⟩|⟨c,rfl,rfl⟩
  · exact wpAny_pyHash_int h
  · exact wpAny_pyHash_str h
  · exact zqG h
 eqBool:=λhu hv h=>by
  rcases yX hu with⟨i,t,rfl,rfl⟩|⟨x,t,rfl,rfl⟩|⟨c,rfl,rfl⟩
  · rcases yX hv with⟨j,u,rfl,rfl⟩|⟨y,u,rfl,rfl⟩|⟨d,rfl,rfl⟩
    · rw[zhe]at h;exact wpAny_eqBool_int h
    · rw[zns]at h;exact SeqAt.EqAt.int_str i t y u _ _ _ _ h
    · rw[zhe]at h;exact SeqAt.EqAt.int_bool i t d _ _ _ _ h
  · rcases yX hv with⟨j,u,rfl,rfl⟩|⟨y,u,rfl,rfl⟩|⟨d,rfl,rfl⟩
    · rw[zok]at h;exact SeqAt.EqAt.str_int x t j u _ _ _ _ h
    · rw[zrC]at h;exact wpAny_eqBool_str h
    · rw[zok]at h;exact SeqAt.EqAt.str_bool x t d _ _ _ _ h
  · rcases yX hv with⟨j,u,rfl,rfl⟩|⟨y,u,rfl,rfl⟩|⟨d,rfl,rfl⟩
    · rw[zhe]at h;exact SeqAt.EqAt.bool_int c j u _ _ _ _ h
    · rw[zns]at h;exact SeqAt.EqAt.bool_str c y u _ _ _ _ h
    · rw[zhe]at h;exact SeqAt.EqAt.bool_bool c d _ _ _ _ (by
       have e:(((if c=true then 1 else 0:Int))==(if d=true then 1 else 0))=(c==d):=by cases c<;>cases d<;>rfl
       rw[e]at h;exact h)
 «strs» := λk x t v h=>by
  rcases yX h with⟨i,u,rfl,e⟩|⟨y,u,rfl,e⟩|⟨d,rfl,e⟩
  · exact nomatch e
  · injection e with e1 _
    subst e1;cases v<;>rfl
  · exact nomatch e
def zhJ(prog:Program)(w:World)(i:Int)(t:Tok):(xu prog w).is (.inl i) (.int i t)=true:=zlH i t
def Wf(prog:Program)(w:World)(x:Str)(t:Tok):(xu prog w).is (.inr x) (.str x t)=true:=zlQ x t
end L2
namespace L2
open PySem PySem.Spec PyProof.Rows
inductive V where
 |non|bl (b:Bool)|int (i:Int)|str (x:Str)|byt (b:Array UInt8)|flt (b:UInt64)|ref (a:Addr)|ty (n:String)
 deriving DecidableEq
def RelV:V->Value->Prop
 | .non,u=>u=Value.none
 | .bl b,u=>u=Value.bool b
 | .int i,u=>∃t,u=Value.int i t
 | .str x,u=>∃t,u=Value.str x t
 | .byt b,u=>∃t,u=Value.bytes b t
 | .flt b,u=>∃t,u=Value.float b t
 | .ref a,u=>u=Value.ref a
 | .ty n,u=>u=Value.type n
abbrev Vals:List V->List Value->Prop:=Paired RelV
def Vals.length(r:Vals xs us):xs.length=us.length:=Paired.length r
theorem Vals.get:∀{xs:List V}{us:List Value}{i:Nat}{x:V},Vals xs us->xs[i]? = some x->∃u,us[i]? = some u/\RelV x u
 |_,_,_,_,.nil,e=>by simp at e
 |_,_,0,_,.cons r _,e=>by simp at e;subst e;exact⟨_,rfl,r⟩
 |_,_,i+1,x,.cons _ t,e=>by
  obtain⟨u,h1,h2⟩:=Vals.get (i:=i) (x:=x) t (by simpa using e);exact⟨u,by simpa using h1,h2⟩
theorem Vals.set(r:RelV x u):∀{xs:List V}{us:List Value}(i:Nat),Vals xs us->Vals (xs.set i x) (us.set i u)
 |_,_,_,.nil=>.nil
 |_,_,0,.cons _ t=>.cons r t
 |_,_,i+1,.cons q t=>.cons q (Vals.set r i t)
theorem Vals.append:∀{xs ys:List V}{us ws:List Value},Vals xs us->Vals ys ws->Vals (xs++ys) (us++ws)
 |_,_,_,_,.nil,s=>s
 |_,_,_,_,.cons r t,s=>.cons r (Vals.append t s)
theorem Vals.take:∀{xs:List V}{us:List Value}(n:Nat),Vals xs us->Vals (xs.take n) (us.take n)
 |_,_,0,_=>.nil
 |_,_,_+1,.nil=>.nil
 |_,_,n+1,.cons r t=>.cons r (Vals.take n t)
theorem Vals.drop:∀{xs:List V}{us:List Value}(n:Nat),Vals xs us->Vals (xs.drop n) (us.drop n)
 |_,_,0,r=>r
 |_,_,_+1,.nil=>.nil
 |_,_,n+1,.cons _ t=>Vals.drop n t
def WK:Option V->Option Value->Prop
 |some v,some u=>RelV v u
 |none,none=>True
 |_,_=>False
def KV{κ:Type}:List (κ×V)->List (κ×Value)->Prop:=Paired λ(p:κ×V) (q:κ×Value)=>p.1=q.1/\RelV p.2 q.2
def kV:Key->V
 | .inl i=>.int i
 | .inr x=>.str x
inductive HO where
 |lst (xs:List V)
 |tup (xs:List V)
 |dK (kvs:List (Key×V))|dT (kvs:List (List Key×V))
 |set (S:Int->Bool) (n:Nat)
 |ins (C dx:Addr) (fs:List (Str×V))
 |own (x:Addr)
 |xd (fs:List (Str×V))
 |met (f x:Addr)
 |rng (lo hi:Int)
 |frz (o:Obj) (u:HO)
 |tbl (ps:Array Value)
 |ext (φ:Heap->Prop)
abbrev Hp:=Addr->Option HO
def upd(H:Hp)(a:Addr)(o:HO):Hp:=λb=>if b=a then some o else H b
def zT:upd H a o a=some o:=by unfold upd;rw[if_pos rfl]
def zH(h:b≠a):upd H a o b=H b:=by unfold upd;rw[if_neg h]
def zuj{H:Hp}{a b:Addr}{o u:HO}(h:H a=some o)(h':H b=some u)(d:o≠u):a≠b:=by
 intro e;subst e;rw[h]at h';exact d (zzX h')
def yf{H:Hp}{a b:Addr}{o:HO}(h:H a=some o)(h':H b=none):a≠b:=by
 intro e;subst e;rw[h]at h';cases h'
def kO:V->Option Key
 | .int i=>some (.inl i) | .str x=>some (.inr x) | .bl b=>some (.inl (if b=true then 1 else 0))|_=>none
def KC(H:Hp)(b:Addr)(k:List Key):Prop:=∃vs,H b=some (.tup vs)/\vs.map kO=k.map some
def KC.mono{H H':Hp}{b:Addr}{k:List Key}(h:KC H b k)(ht:∀ys,H b=some (.tup ys)->H' b=some (.tup ys)):KC H' b k:=let⟨vs,h1,h2⟩:=h;⟨vs,ht _ h1,h2⟩
section
variable(P:Program)(w:World)
def wL(H:Hp)(h:Heap)(a:Addr):HO->Prop
 | .lst xs=>xs.length<=sizeLine/\∃(its:List Value) (n:Nat),Vals xs its/\h.get? a=some {cls:=.type "list",data:=.seq its.toArray n}
 | .tup xs=>xs.length<=sizeLine/\∃its:List Value,Vals xs its/\IsTup h a its.toArray
 | .dK kvs=>kvs.length<=sizeLine/\(a==sysModules)=false/\∃vs,KV kvs vs/\h.DictOf (xu P w) a vs
 | .dT kvs=>kvs.length<=sizeLine/\(a==sysModules)=false/\∃xs:List (List Key×Addr×Value),
  Paired (λ(p:List Key×V) (q:List Key×Addr×Value)=>p.1=q.1/\KC H q.2.1 p.1/\RelV p.2 q.2.2) kvs xs/\
  ∃o es ep,h.get? a=some o/\o.ExactDict/\o.data = .dict es ep/\es.toList=xs.map (entryOfKey (tupleKind (xu P w)))/\(xs.map (·.1)).Nodup
 | .set S n=>h.SetOf (intKind P w) a S n
 | .ins C dx fs=>H dx=some (.own a)/\fs.length<=1000/\dx≠a/\h.get? a=some (PySem.W.instObj C dx)/\
  ∃mA,h.Ns1 dx mA/\(∀f,WK (fs.lookup f) (mA f))/\PySem.Within mA (fs.map (·.1))
 | .own _=>∃o,h.get? a=some o
 | .xd fs=>∃mA,h.Ns1 a mA/\∀f,WK (fs.lookup f) (mA f)
 | .rng lo hi=>∃t u v,h.get? a=some {cls:=.type "range",data:=.fields #[.int lo t,.int hi u,.int 1 v]}
 | .frz o u=>h.get? a=some o/\wL H h a u
 | .tbl ps=>h.get? a=some {cls:=.none,data:=.fields ps}
 | .met f x=>h.get? a=some (PySem.W.methodObj (.ref f) (.ref x))
 | .ext φ=>φ h/\(∃o,h.get? a=some o)/\∀h1 h2:Heap,φ h1->(∀o,h1.get? a=some o->h2.get? a=some o)->φ h2
def HOk(H:Hp)(h:Heap):Prop:=∀a o,H a=some o->wL P w H h a o
end
section
variable{P:Program}{w:World}{H H':Hp}{h h':Heap}{a:Addr}{o:HO}
def wL.lt(x:wL P w H h a o):a<h.objs.size:=by
 cases o with
 |lst xs=>obtain⟨_,_,_,_,e⟩:=x;exact zxH e
 |tup xs=>obtain⟨_,_,_,p⟩:=x;exact p.lt
 |dK kvs=>obtain⟨_,_,_,_,o,_,_,e,_⟩:=x;exact zxH e
 |dT kvs=>obtain⟨_,_,_,_,o,_,_,e,_⟩:=x;exact zxH e
 |set S n=>obtain⟨o,_,_,_,e,_⟩:=x;exact zxH e
 |ins C dx fs=>obtain⟨_,_,_,e,_⟩:=x;exact zxH e
 |own y=>obtain⟨_,e⟩:=x;exact zxH e
 |xd fs=>obtain⟨_,⟨_,_,_,e,_⟩,_⟩:=x;exact zxH e
 |rng lo hi=>obtain⟨_,_,_,e⟩:=x;exact zxH e
 |frz ob u=>obtain⟨e,_⟩:=x;exact zxH e
 |tbl ps=>exact zxH (show h.get? a=some _ from x)
 |met f y=>exact zxH (show h.get? a=some _ from x)
 |ext φ=>obtain⟨_,⟨_,e⟩,_⟩:=x;exact zxH e
theorem Paired.mapP:∀{l₁:List α}{l₂:List β},Paired F l₁ l₂->(∀a b,F a b->G a b)->Paired G l₁ l₂
 |_,_,.nil,_=>.nil
 |_,_,.cons r t,f=>.cons (f _ _ r) (Paired.mapP t f)
def wL.stay(x:wL P w H h a o)(k:∀b u,(b=a\/H b=some (.own a))->h.get? b=some u->h'.get? b=some u)
 (ho:∀b,H b=some (.own a)->H' b=some (.own a)) (ht:∀b xs,H b=some (.tup xs)->H' b=some (.tup xs)):wL P w H' h' a o:=by
 induction o with
 |lst xs=>obtain⟨z,its,n,r,e⟩:=x;exact⟨z,its,n,r,k _ _ (.inl rfl) e⟩
 |tup xs=>obtain⟨z,its,r,ob,e,c⟩:=x;exact⟨z,its,r,ob,k _ _ (.inl rfl) e,c⟩
 |dK kvs=>obtain⟨z,y,vs,r,ob,es,ep,e,c⟩:=x;exact⟨z,y,vs,r,ob,es,ep,k _ _ (.inl rfl) e,c⟩
 |dT kvs=>
  obtain⟨z,y,xs,r,ob,es,ep,e,c⟩:=x;exact⟨z,y,xs,Paired.mapP r λp q z=>⟨z.1,z.2.1.mono λys=>ht _ ys,z.2.2⟩,ob,es,ep,k _ _ (.inl rfl) e,c⟩
 |set S n=>obtain⟨ob,es,ep,t,e,c⟩:=x;exact⟨ob,es,ep,t,k _ _ (.inl rfl) e,c⟩
 |ins C dx fs=>
  obtain⟨d,z,ne,e,mA,⟨od,es,ep,e2,c⟩,r⟩:=x;exact⟨ho _ d,z,ne,k _ _ (.inl rfl) e,mA,⟨od,es,ep,k _ _ (.inr d) e2,c⟩,r⟩
 |own y=>obtain⟨ob,e⟩:=x;exact⟨ob,k _ _ (.inl rfl) e⟩
 |xd fs=>obtain⟨mA,⟨od,es,ep,e,c⟩,r⟩:=x;exact⟨mA,⟨od,es,ep,k _ _ (.inl rfl) e,c⟩,r⟩
 |rng lo hi=>obtain⟨t,u,v,e⟩:=x;exact⟨t,u,v,k _ _ (.inl rfl) e⟩
 |frz ob u ih=>obtain⟨e,q⟩:=x;exact⟨k _ _ (.inl rfl) e,ih q⟩
 |tbl ps=>
  have e:h.get? a=some {cls:=.none,data:=.fields ps}:=x;show h'.get? a=some {cls:=.none,data:=.fields ps};exact k a _ (.inl rfl) e
 |met f y=>
  have e:h.get? a=some (PySem.W.methodObj (.ref f) (.ref y)):=x;show h'.get? a=some (PySem.W.methodObj (.ref f) (.ref y));exact k a _ (.inl rfl) e
 |ext φ=>obtain⟨p,⟨o,e⟩,st⟩:=x;exact⟨st _ _ p λo q=>k _ _ (.inl rfl) q,⟨o,k _ _ (.inl rfl) e⟩,st⟩
def HOk.lt(x:HOk P w H h)(e:H a=some o):a<h.objs.size:=(x a o e).lt
def HOk.fresh(x:HOk P w H h)(e:h.objs.size<=a):H a=none:=by
 cases q:H a with
 |none=>rfl
 |some u=>exact absurd (zzI (x.lt q) e) (Nat.lt_irrefl _)
def HOk.kept(x:HOk P w H h)(k:∀b u,h.get? b=some u->h'.get? b=some u):HOk P w H h':=λa o e=>
 (x a o e).stay (λb u _ q=>k b u q) (λ_ q=>q) λ_ _ q=>q
def HOk.laid(x:HOk P w H h)(k:∀b u,h.get? b=some u->h'.get? b=some u)(hp:h.objs.size<=a)(new:wL P w (upd H a o) h' a o):HOk P w (upd H a o) h':=λb u e=>by
 have hn:=x.fresh hp
 by_cases hb:b=a
 · subst hb;rw[zT]at e;cases e;exact new
 · rw[zH hb]at e;exact(x b u e).stay (λc v _ q=>k c v q) (λc q=>by rw[zH (yf q hn)];exact q) λc xs q=>by rw[zH (yf q hn)];exact q
end
def Rd(H:Hp)(a:Addr)(u:HO):Prop:=H a=some u\/∃o,H a=some (.frz o u)
def Rd.ok(r:Rd H a u)(x:HOk P w H h):wL P w H h a u:=by
 rcases r with r|⟨o,r⟩
 · exact x a u r
 · obtain⟨_,q⟩:=x a _ r;exact q
def Mut:Option HO->Prop
 |some (.lst _)=>True
 |some (.dK _)=>True
 |some (.dT _)=>True
 |some (.set _ _)=>True
 |some (.ins _ _ _)=>True
 |some (.ext _)=>True
 |_=>False
section
variable{P:Program}{w:World}{H:Hp}{h h':Heap}{x e:Addr}{o':HO}
def HOk.write(ok:HOk P w H h)(mu:Mut (H x))(he:e=x\/H e=some (.own x))(k:∀b u,b≠e->h.get? b=some u->h'.get? b=some u)(heo:∃u,h'.get? e=some u)
 (new:wL P w (upd H x o') h' x o'):HOk P w (upd H x o') h':=λb u q=>by
 have nown:∀c y,H c=some (.own y)->c≠x:=λc y r z=>by subst z;rw[r]at mu;exact mu
 have ntup:∀c xs,H c=some (.tup xs)->c≠x:=λc xs r z=>by subst z;rw[r]at mu;exact mu
 by_cases hb:b=x
 · subst hb;rw[zT]at q;cases q;exact new
 · rw[zH hb]at q
   by_cases hbe:b=e
   · have q':H b=some (.own x):=by
      rcases he with z|z
      · exact absurd (hbe.trans z) hb
      · rw[hbe];exact z
     rw[q]at q';cases q';obtain⟨v,hv⟩:=heo;exact⟨v,by rw[hbe];exact hv⟩
   · refine(ok b u q).stay (λc v hc r=>k c v ?_ r) (λc r=>by rw[zH (nown c b r)];exact r) λc xs r=>by rw[zH (ntup c xs r)];exact r
     rcases hc with rfl|hc
     · exact hbe
     · rintro rfl
       rcases he with z|z
       · exact nown c b hc z
       · rw[hc]at z;cases z;exact hb rfl
end
structure Un(fs ex:List Addr)(H H':Hp)(h h':Heap):Prop where
 keep:∀b o,h.get? b=some o->H b=none->b ∉ fs->b ∉ ex->h'.get? b=some o
 slot:∀b o,h.get? b=some o->H b=none->b ∈ fs->b ∉ ex->∃sl,h'.get? b=some {o with slots:=sl}
 free:∀b o,h.get? b=some o->H b=none->b ∉ ex->H' b=none
 there:∀b o,h.get? b=some o->b ∉ ex->∃o',h'.get? b=some o'
 tups:∀b xs,H b=some (.tup xs)->H' b=some (.tup xs)
 frzs:∀b o u,H b=some (.frz o u)->H' b=some (.frz o u)
 tbls:∀b ps,H b=some (.tbl ps)->∃more,H' b=some (.tbl (ps++more))
section
variable{fs fs' ex ex':List Addr}{H H1 H2:Hp}{h h1 h2 h':Heap}{a x e:Addr}{o:HO}
def Un.any(u:Un fs ex H H1 h h1)(q:h.get? b=some ob)(n:H b=none)(hx:b ∉ ex):∃sl,h1.get? b=some {ob with slots:=sl}:=by
 by_cases hb:b ∈ fs
 · exact u.slot b ob q n hb hx
 · exact⟨ob.slots,u.keep b ob q n hb hx⟩
def Un.kept(k:∀b u,h.get? b=some u->h'.get? b=some u):Un fs ex H H h h':=
 ⟨λb ob q _ _ _=>k b ob q,λb ob q _ _ _=>⟨ob.slots,k b ob q⟩,λ_ _ _ n _=>n,λb ob q _=>⟨ob,k b ob q⟩,λ_ _ q=>q,λ_ _ _ q=>q,λ_ ps q=>⟨#[],by rw[q];simp⟩⟩
def Un.refl:Un fs ex H H h h:=Un.kept λ_ _ q=>q
def Un.laid(k:∀b u,h.get? b=some u->h'.get? b=some u)(hp:h.objs.size<=a)(hn:H a=none):Un fs ex H (upd H a o) h h' where
 keep:=λb u q _ _ _=>k b u q
 slot:=λb u q _ _ _=>⟨u.slots,k b u q⟩
 free:=λb u q n _=>by rw[zH (zzO (zzI (zxH q) hp))];exact n
 there:=λb u q _=>⟨u,k b u q⟩
 tups:=λb xs q=>by rw[zH (yf q hn)];exact q
 frzs:=λb u xs q=>by rw[zH (yf q hn)];exact q
 tbls:=λb ps q=>⟨#[],by rw[zH (yf q hn),q];simp⟩
def Un.write(mu:Mut (H x))(he:e=x\/H e=some (.own x))(k:∀b u,b≠e->h.get? b=some u->h'.get? b=some u)(heo:∃u,h'.get? e=some u):Un fs ex H (upd H x o) h h':=by
 have hx:∀b,H b=none->b≠x:=λb n z=>by subst z;rw[n]at mu;exact mu
 have hb:∀b,H b=none->b≠e:=λb n z=>by
  subst z
  rcases he with r|r
  · exact hx b n r
  · rw[n]at r;cases r
 have hm:∀b u,H b=some u->¬Mut (some u)->b≠x:=λb u q nm z=>by subst z;rw[q]at mu;exact nm mu
 refine⟨λb u q n _ _=>k b u (hb b n) q,λb u q n _ _=>⟨u.slots,k b u (hb b n) q⟩,λb u q n _=>by rw[zH (hx b n)];exact n,λb u q _=>?_,
  λb xs q=>by rw[zH (hm b _ q λz=>z)];exact q,λb u xs q=>by rw[zH (hm b _ q λz=>z)];exact q,λb ps q=>⟨#[],by rw[zH (hm b _ q λz=>z),q];simp⟩⟩
 by_cases hbe:b=e
 · subst hbe;exact heo
 · exact⟨u,k b u hbe q⟩
def Un.mono(u:Un fs ex H H1 h h1)(hs:∀b ∈ fs,b ∈ fs')(hx:∀b ∈ ex,b ∈ ex'):Un fs' ex' H H1 h h1:=
 ⟨λb ob q n hb he=>u.keep b ob q n (λz=>hb (hs b z)) λz=>he (hx b z),λ_ _ q n _ he=>u.any q n λz=>he (hx _ z),λb ob q n he=>u.free b ob q n λz=>he (hx b z),λb ob q he=>u.there b ob q λz=>he (hx b z),u.tups,u.frzs,u.tbls⟩
end
def trk(h:Heap)(H:Hp):List Addr:=(List.range h.objs.size).filter λa=>(H a).isSome
def zgd(h:Heap)(H:Hp):Heap:=PySem.W.hideAll h (trk h H)
def zmc(h:Heap)(H:Hp):(zgd h H).objs.size=h.objs.size:=PySem.W.hideAll_size _ _
def zos(e:h.get? b=some o)(n:H b=none):(zgd h H).get? b=some o:=
 PySem.W.hideAll_get _ e λhm=>by
  have q:(H b).isSome=true:=(List.mem_filter.mp hm).2;rw[n]at q;simp at q
def zqf(e:(zgd h H).get? b=some o):h.get? b=some o/\H b=none:=by
 have e':h.get? b=some o:=PySem.W.of_hideAll (trk h H) e;refine⟨e', ?_⟩;cases q:H b with
 |none=>rfl
 |some x=>
  have hm:b ∈ trk h H:=List.mem_filter.mpr ⟨List.mem_range.mpr (zxH e'),by simp[q]⟩;have z:(zgd h H).get? b=none:=PySem.W.hideAll_none (trk h H) hm;rw[z]at e;cases e
end L2
namespace L2
open PySem PySem.Spec PyProof.Rows
structure Mod(K:zC)(mg:Str->Option Value)(base:Heap):Prop where
 kin:K.In base
 glob:base.Ns mainGlobals mg
 blt:∃mb,base.Ns builtinsNs mb/\∀x:Str,x≠"__name__"->mb x=bootBuiltins x
 nolimit:base.NoLimit
structure Cx where
 prog:Program
 w:World
 K:zC
 mg:Str->Option Value
 base:Heap
 A:Around
 N:List Str
 s₀:Shared
 H₀:Hp
 env:Env
 outer:List Env
 stack:List Env
 ex:List Addr
 fn:Str->Bool
 calm:Bool
 pn:List (Addr×Obj)
 xe:Value->Shared->Prop
def frs(l:List Env):List Addr:=l.filterMap (·.frame)
abbrev Cx.fs(X:Cx):List Addr:=frs X.outer
def Vis(sc:Scope)(x:Str):Prop:=sc.names.lookup x=some .local\/sc.names.lookup x=some .cell\/sc.names.lookup x=some .free
def Loc(sc:Scope)(x:Str):Prop:=sc.names.lookup x=some .local\/sc.names.lookup x=some .cell
def Look(env:Env)(h:Heap)(m:Str->Option Value)(x:Str)(u:Value):Prop:=
 (env.kindOf x=some .local/\m x=some u)\/((env.kindOf x=some .cell\/env.kindOf x=some .free)/\∃c,env.cells.lookup x=some c/\h.IsCell c (some u))
structure Cx.Ok(X:Cx):Prop where
 mod:Mod X.K X.mg X.base
 kind:X.env.scope.kind = .function
 glob:X.env.globals=mainGlobals
 blt:X.env.builtins=builtinsNs
 above:X.s₀.heap.objs.size<=X.env.locals
 inj:∀x y c,X.env.cells.lookup x=some c->X.env.cells.lookup y=some c->x=y
 has:∀x,(X.env.kindOf x=some .cell\/X.env.kindOf x=some .free)->∃c,X.env.cells.lookup x=some c
 cab:∀x c,X.fn x=true->X.env.cells.lookup x=some c->X.s₀.heap.objs.size<=c
 hd:X.calm=true->X.A.handled=none
 frames:X.A.frames=some X.stack
 stk:X.stack=X.outer\/(X.stack=X.env::X.outer/\X.env.frame=some X.env.locals)
 exf:∀b ∈ X.ex,b≠X.env.locals/\∀x c,X.env.cells.lookup x=some c->c≠b
 bs:∀b o,X.base.get? b=some o->X.s₀.heap.get? b=some o/\X.H₀ b=none
 bsz:X.base.objs.size<=X.s₀.heap.objs.size
 noex:∀b o,X.base.get? b=some o->b ∉ X.ex
 exfs:∀b ∈ X.ex,b ∉ X.fs
 funs:X.s₀.heap.FunFrames X.base X.outer
 frf:∀b ∈ X.fs,X.H₀ b=none
structure Inv(X:Cx)(pins:List (Addr×Obj))(σ:List (Option V))(H:Hp)(s:Shared):Prop where
 ok:X.Ok
 os:s.os=X.s₀.os
 bare:AllBare s.gens
 base:Un X.fs X.ex X.H₀ H X.s₀.heap s.heap
 loc:∃m,s.heap.Ns X.env.locals m/\∀(i:Nat) (x:Str) (v:V),X.N[i]? = some x->σ[i]? = some (some v)->Vis X.env.scope x->∃u,RelV v u/\Look X.env s.heap m x u
 cell:∀x c,X.env.cells.lookup x=some c->∃v,s.heap.IsCell c v
 free:H X.env.locals=none
 freeC:∀x c,X.env.cells.lookup x=some c->H c=none
 pin:∀p ∈ X.pn++pins,s.heap.get? p.1=some p.2/\H p.1=none/\p.1≠X.env.locals/\p.1 ∉ X.fs/\∀v,p.2.data ≠ .cell v
 hok:HOk X.prog X.w H s.heap
 len:σ.length=X.N.length
section
variable{X:Cx}{pins:List (Addr×Obj)}{σ:List (Option V)}{H H':Hp}{s:Shared}{h':Heap}
def Cx.Ok.nofr(ok:X.Ok)(e:X.base.get? b=some o):b ∉ X.fs:=λhb=>by
 have:=(ok.funs.mem hb).1;rw[e]at this;cases this
def Inv.bs(I:Inv X pins σ H s):∀b o,X.base.get? b=some o->s.heap.get? b=some o/\H b=none:=λb o e=>
 ⟨I.base.keep b o (I.ok.bs b o e).1 (I.ok.bs b o e).2 (I.ok.nofr e) (I.ok.noex b o e),I.base.free b o (I.ok.bs b o e).1 (I.ok.bs b o e).2 (I.ok.noex b o e)⟩
def Inv.bk(I:Inv X pins σ H s):∀b o,X.base.get? b=some o->s.heap.get? b=some o:=λb o e=>(I.bs b o e).1
def Inv.mod(I:Inv X pins σ H s):Mod X.K X.mg X.base:=I.ok.mod
def Inv.kIn(I:Inv X pins σ H s):X.K.In s.heap:=I.ok.mod.kin.keeps I.bk
def Inv.lt(I:Inv X pins σ H s):X.env.locals<s.heap.objs.size:=let⟨_,hn,_⟩:=I.loc;hn.lt
def Inv.sz(I:Inv X pins σ H s):X.s₀.heap.objs.size<=s.heap.objs.size:=zzM I.ok.above (Nat.le_of_lt I.lt)
def Inv.nofs(I:Inv X pins σ H s)(h:s.heap.objs.size<=a):a ∉ X.fs:=λhb=>by
 obtain⟨_,o,ho,_⟩:=I.ok.funs.mem hb;exact absurd (zzI (zxH ho) (zzM I.sz h)) (Nat.lt_irrefl _)
def Inv.cne(I:Inv X pins σ H s):∀x c,X.env.cells.lookup x=some c->c≠X.env.locals:=λx c e z=>by
 obtain⟨v,o,ho,hd⟩:=I.cell x c e;obtain⟨m,⟨o',es,ep,ho',hd',_⟩,_⟩:=I.loc;rw[z,ho']at ho;cases ho;rw[hd']at hd;cases hd
def Inv.funs(I:Inv X pins σ H s):s.heap.FunFrames X.base X.outer:=by
 have all:∀(l:List Env),(∀b ∈ frs l,b ∈ X.fs)->X.s₀.heap.FunFrames X.base l->s.heap.FunFrames X.base l:=by
  intro l
  induction l with
  |nil=>intro _ _;trivial
  |cons env r ih=>
   intro hs hl;obtain⟨hk,⟨L,o,hf,hn,ho,hd⟩,hr⟩:=hl;have hL:L ∈ X.fs:=hs L (by unfold frs;rw[List.filterMap_cons,hf];exact zzD);obtain⟨sl,e⟩:=I.base.slot L o ho (I.ok.frf L hL) hL λz=>I.ok.exfs L z hL;exact⟨hk,⟨L,_,hf,hn,e,hd⟩,ih (λb hb=>hs b (by unfold frs;rw[List.filterMap_cons,hf];exact zzB _ hb)) hr⟩
 exact all X.outer (λ_ hb=>hb) I.ok.funs
def Inv.stack(I:Inv X pins σ H s):s.heap.FunFrames X.base X.stack:=by
 rcases I.ok.stk with e|⟨e,hf⟩
 · rw[e];exact I.funs
 · rw[e];obtain⟨m,hn,_⟩:=I.loc;refine .cons (by rw[I.ok.kind];decide) hf hn ?_ I.funs;exact Heap.get?_none_of_le (zzM I.ok.bsz I.ok.above)
def Inv.stkSub(I:Inv X pins σ H s):∀b ∈ frs X.stack,b ∈ X.env.locals::X.fs:=λb hb=>by
 rcases I.ok.stk with e|⟨e,hf⟩
 · rw[e]at hb;exact zzB _ hb
 · rw[e]at hb;unfold frs at hb;rw[List.filterMap_cons,hf]at hb;exact hb
def Inv.stkFree(I:Inv X pins σ H s):∀b ∈ frs X.stack,H b=none:=λb hb=>by
 rcases zzA.mp (I.stkSub b hb)with e|hb
 · rw[e];exact I.free
 · obtain⟨_,o,ho,_⟩:=I.ok.funs.mem hb;exact I.base.free b o ho (I.ok.frf b hb) λz=>I.ok.exfs b z hb
def Inv.step{g':Array GenState}{t':Nat}{d':Drawn}{ch:List Addr}(I:Inv X pins σ H s)
 (hch:∀b ∈ ch,(b ∈ X.ex\/X.s₀.heap.objs.size<=b)/\b≠X.env.locals/\(∀x c,X.env.cells.lookup x=some c->c≠b)/\∀p ∈ X.pn++pins,p.1≠b)
 (keep:∀b o,b≠X.env.locals->b ∉ X.fs->b ∉ ch->s.heap.get? b=some o->H b=none->h'.get? b=some o)
 (slot:∀b o,b≠X.env.locals->b ∈ X.fs->b ∉ ch->s.heap.get? b=some o->H b=none->∃sl,h'.get? b=some {o with slots:=sl}) (free:∀b o,b ∉ ch->s.heap.get? b=some o->H b=none->H' b=none)
 (there:∀b o,b ∉ ch->s.heap.get? b=some o->∃o',h'.get? b=some o')
 (tups:∀b xs,H b=some (.tup xs)->H' b=some (.tup xs)) (frzs:∀b o u,H b=some (.frz o u)->H' b=some (.frz o u)) (tbls:∀b ps,H b=some (.tbl ps)->∃more,H' b=some (.tbl (ps++more)))
 (ns:∀m,s.heap.Ns X.env.locals m->h'.Ns X.env.locals m) (hok:HOk X.prog X.w H' h') (hg:AllBare g'):
 Inv X pins σ H' {s with heap:=h',gens:=g',drawn:=d',toks:=t'}:=by
 have neL:∀b o,X.s₀.heap.get? b=some o->b≠X.env.locals:=λb o e=>zzO (zzI (zxH e) I.ok.above);have neC:∀b o,X.s₀.heap.get? b=some o->b ∉ X.ex->b ∉ ch:=λb o e hx hb=>by
  rcases(hch b hb).1 with z|z
  · exact hx z
  · exact absurd (zzI (zxH e) z) (Nat.lt_irrefl _)
 have cellK:∀x c,X.env.cells.lookup x=some c->∀v,s.heap.IsCell c v->h'.IsCell c v:=λx c e v ⟨o,ho,hd⟩=>by
  have nch:c ∉ ch:=λz=>(hch c z).2.2.1 x c e rfl
  by_cases hc:c ∈ X.fs
  · obtain⟨sl,q⟩:=slot c o (I.cne x c e) hc nch ho (I.freeC x c e);exact⟨_,q,hd⟩
  · exact⟨o,keep c o (I.cne x c e) hc nch ho (I.freeC x c e),hd⟩
 refine⟨I.ok,I.os,hg,⟨λb o e n hb hx=>?_,λb o e n hb hx=>?_,λb o e n hx=>?_,λb o e hx=>?_,λb xs e=>tups b xs (I.base.tups b xs e),λb o xs e=>frzs b o xs (I.base.frzs b o xs e),λb ps e=>?_⟩, ?_,λx c e=>?_, ?_,λx c e=>?_,λp hp=>?_,hok,I.len⟩
 · exact keep b o (neL b o e) hb (neC b o e hx) (I.base.keep b o e n hb hx) (I.base.free b o e n hx)
 · obtain⟨sl,e1⟩:=I.base.slot b o e n hb hx;obtain⟨sl',e2⟩:=slot b _ (neL b o e) hb (neC b o e hx) e1 (I.base.free b o e n hx);exact⟨sl',e2⟩
 · obtain⟨o',e1⟩:=I.base.there b o e hx;exact free b o' (neC b o e hx) e1 (I.base.free b o e n hx)
 · obtain⟨o',e1⟩:=I.base.there b o e hx;exact there b o' (neC b o e hx) e1
 · obtain⟨m1,e1⟩:=I.base.tbls b ps e;obtain⟨m2,e2⟩:=tbls b _ e1;exact⟨m1++m2,by rw[e2,Array.append_assoc]⟩
 · obtain⟨m,hn,hl⟩:=I.loc;refine⟨m,ns m hn,λi x v e1 e2 e3=>?_⟩;obtain⟨u,r,l⟩:=hl i x v e1 e2 e3;refine⟨u,r, ?_⟩
   rcases l with l|⟨k,c,e,z⟩
   · exact .inl l
   · exact .inr ⟨k,c,e,cellK x c e _ z⟩
 · obtain⟨v,z⟩:=I.cell x c e;exact⟨v,cellK x c e v z⟩
 · obtain⟨m,⟨o,_,_,ho,_⟩,_⟩:=I.loc;exact free _ o (λz=>(hch _ z).2.1 rfl) ho I.free
 · obtain⟨v,o,ho,hd⟩:=I.cell x c e;exact free c o (λz=>(hch c z).2.2.1 x c e rfl) ho (I.freeC x c e)
 · obtain⟨e,n,ne,nf,d⟩:=I.pin p hp;have nch:p.1 ∉ ch:=λz=>(hch p.1 z).2.2.2 p hp rfl;exact⟨keep p.1 p.2 ne nf nch e n,free p.1 p.2 nch e n,ne,nf,d⟩
def Inv.un{t':Nat}(I:Inv X pins σ H s)(u:Un X.fs [] H H' s.heap h')(hok:HOk X.prog X.w H' h'):Inv X pins σ H' {s with heap:=h',toks:=t'}:=by
 obtain⟨m,⟨o,es,ep,ho,r⟩,_⟩:=id I.loc;obtain⟨sl,hL⟩:=u.any ho I.free (by simp);exact I.step (g':=s.gens) (d':=s.drawn) (ch:=[]) (λ_ z=>nomatch z) (λb o _ hb _ e n=>u.keep b o e n hb (by simp)) (λb o _ hb _ e n=>u.slot b o e n hb (by simp)) (λb o _ e n=>u.free b o e n (by simp)) (λb o _ e=>u.there b o e (by simp)) u.tups u.frzs u.tbls (λm' hm=>by
  obtain⟨o',es',ep',ho',r'⟩:=hm;rw[ho]at ho';cases ho';exact⟨_,es',ep',hL,r'⟩) hok I.bare
def Inv.call{g':Array GenState}{t':Nat}{d':Drawn}{ch:List Addr}(I:Inv X pins σ H s)(u:Un (frs X.stack) ch H H' s.heap h')(hok:HOk X.prog X.w H' h')(hg:AllBare g')
 (hch:∀b ∈ ch,(b ∈ X.ex\/X.s₀.heap.objs.size<=b)/\b≠X.env.locals/\(∀x c,X.env.cells.lookup x=some c->c≠b)/\∀p ∈ X.pn++pins,p.1≠b):
 Inv X pins σ H' {s with heap:=h',gens:=g',drawn:=d',toks:=t'}:=by
 obtain⟨m,⟨o,es,ep,ho,r⟩,_⟩:=id I.loc;obtain⟨sl,hL⟩:=u.any ho I.free λz=>(hch _ z).2.1 rfl;exact I.step (ch:=ch) hch (λb o hL hb hc e n=>u.keep b o e n (λz=>(zzA.mp (I.stkSub b z)).elim hL hb) hc) (λb o _ _ hc e n=>u.any e n hc) (λb o hc e n=>u.free b o e n hc) (λb o hc e=>u.there b o e hc) u.tups u.frzs u.tbls (λm' hm=>by
  obtain⟨o',es',ep',ho',r'⟩:=hm;rw[ho]at ho';cases ho';exact⟨_,es',ep',hL,r'⟩) hok hg
def Inv.turned{t':Nat}{it:Addr}(I:Inv X pins σ H s)(k:∀b o,b≠it->s.heap.get? b=some o->h'.get? b=some o)(hn:H it=none)(hL:it≠X.env.locals)
 (h1:it ∈ X.ex\/X.s₀.heap.objs.size<=it) (h2:∀x c,X.env.cells.lookup x=some c->c≠it) (h3:∀p ∈ X.pn++pins,p.1≠it):Inv X pins σ H {s with heap:=h',toks:=t'}:=by
 have nit:∀b u,H b=some u->b≠it:=λb u e z=>by rw[z,hn]at e;cases e
 refine I.step (g':=s.gens) (d':=s.drawn) (ch:=[it]) (λb hb=>?_) (λb o _ _ hc e _=>k b o (λz=>hc (by simp[z])) e) (λb o _ _ hc e _=>⟨o.slots,k b o (λz=>hc (by simp[z])) e⟩) (λ_ _ _ _ n=>n)
  (λb o hc e=>⟨o,k b o (λz=>hc (by simp[z])) e⟩) (λ_ _ e=>e) (λ_ _ _ e=>e) (λb ps e=>⟨#[],by rw[e];simp⟩) (λm hm=>?_) (λb u e=>?_) I.bare
 · have e:b=it:=by simpa using hb
   subst e;exact⟨h1,hL,h2,h3⟩
 · obtain⟨o,es,ep,ho,r⟩:=hm;exact⟨o,es,ep,k _ o (Ne.symm hL) ho,r⟩
 · refine(I.hok b u e).stay (λc v hc q=>k c v ?_ q) (λ_ q=>q) λ_ _ q=>q
   rcases hc with z|z
   · rw[z];exact nit b u e
   · exact nit c _ z
def Inv.tok(I:Inv X pins σ H s)(t:Nat):Inv X pins σ H {s with toks:=t}:=I.un (h':=s.heap) (t':=t) Un.refl I.hok
def Inv.kept(I:Inv X pins σ H s)(k:∀b u,s.heap.get? b=some u->h'.get? b=some u):Inv X pins σ H {s with heap:=h',toks:=t'}:=I.un (Un.kept k) (I.hok.kept k)
def Inv.laid(I:Inv X pins σ H s)(k:∀b u,s.heap.get? b=some u->h'.get? b=some u)(hp:s.heap.objs.size<=a)(new:wL X.prog X.w (upd H a o) h' a o):
 Inv X pins σ (upd H a o) {s with heap:=h',toks:=t'}:=I.un (Un.laid k hp (I.hok.fresh hp)) (I.hok.laid k hp new)
def Inv.write(I:Inv X pins σ H s)(mu:Mut (H x))(he:e=x\/H e=some (.own x))(k:∀b u,b≠e->s.heap.get? b=some u->h'.get? b=some u)(heo:∃u,h'.get? e=some u)
 (new:wL X.prog X.w (upd H x o) h' x o):Inv X pins σ (upd H x o) {s with heap:=h',toks:=t'}:=I.un (Un.write mu he k heo) (I.hok.write mu he k heo new)
def Inv.weak(I:Inv X pins σ H s)(hl:σ'.length=σ.length)(w:∀(i:Nat) v,σ'[i]? = some (some v)->σ[i]? = some (some v)):Inv X pins σ' H s:=
 ⟨I.ok,I.os,I.bare,I.base,let⟨m,hn,hl'⟩:=I.loc;⟨m,hn,λi x v e1 e2 e3=>hl' i x v e1 (w i v e2) e3⟩,I.cell,I.free,I.freeC,I.pin,I.hok,hl.trans I.len⟩
def Inv.pins_of(I:Inv X pins σ H s)(h:∀p ∈ pins',s.heap.get? p.1=some p.2/\H p.1=none/\p.1≠X.env.locals/\p.1 ∉ X.fs/\∀v,p.2.data ≠ .cell v):Inv X pins' σ H s:=
 ⟨I.ok,I.os,I.bare,I.base,I.loc,I.cell,I.free,I.freeC,λp hp=>(zzK.mp hp).elim (λz=>I.pin p (zzN _ z)) (h p),I.hok,I.len⟩
def zee{N:List Str}(hN:N.Nodup){i j:Nat}{x:Str}(a:N[i]? = some x)(b:N[j]? = some x):i=j:=by
 obtain⟨h1,e1⟩:=zzE.mp a;obtain⟨h2,e2⟩:=zzE.mp b;exact(List.getElem_inj hN).mp (e1.trans e2.symm)
def zbw{M:Model}{A:Around}{E:Value->Shared->Prop}{i:Nat}{x:Str}{v:V}{u:Value}{Q:Unit->Shared->Prop}(I:Inv X pins σ H s)(hN:X.N.Nodup)(hi:X.N[i]? = some x)(hx:Loc X.env.scope x)(r:RelV v u)
 (h:∀s',Inv X pins (σ.set i (some v)) H s'->(∃a,Heap.SameBut a s.heap s'.heap/\(a=X.env.locals\/X.env.cells.lookup x=some a))->Q () s') (hf:X.fn x=true\/X.env.scope.names.lookup x=some .local:=by first|exact .inl rfl|exact .inr rfl|assumption):wpAny M A (storeName X.env x u) Q E s:=by
 obtain⟨m,hn,hl⟩:=id I.loc;have hcls:(X.env.scope.kind == .class||(X.env.scope.kind == .module&&X.env.locals != X.env.globals))=false:=by rw[I.ok.kind];rfl
 have hiσ:i<σ.length:=by rw[I.len];exact(zzE.mp hi).1
 have cne:=I.cne;have tracked:∀{a:Addr}{h':Heap},(∃o,s.heap.get? a=some o/\H a=none)->Heap.SameBut a s.heap h'->HOk X.prog X.w H h':=λ{a h'} ha hs b ob e=>by
  obtain⟨_,_,hfree⟩:=ha;refine(I.hok b ob e).stay (λc w' hc q=>(hs.2 c ?_).trans q) (λ_ q=>q) λ_ _ q=>q
  rintro rfl
  rcases hc with rfl|hc
  · rw[hfree]at e;cases e
  · rw[hfree]at hc;cases hc
 rcases hx with hk|hk
 · refine wpAny_storeName_local hk hn (λh' hn' hs=>?_) hcls;obtain⟨oL,_,_,hoL,_⟩:=id hn;refine h _ ⟨I.ok,I.os,I.bare,⟨λb o e n hb hx=>?_,λb o e n hb hx=>?_,I.base.free,λb o e hx=>?_,I.base.tups,I.base.frzs,I.base.tbls⟩,⟨_,hn',λj y v' e1 e2 e3=>?_⟩,λy c e=>?_,I.free,I.freeC,λp hp=>?_,tracked ⟨oL,hoL,I.free⟩ hs,by simpa using I.len⟩ ⟨_,hs,.inl rfl⟩
   · exact(hs.2 b (zzO (zzI (zxH e) I.ok.above))).trans (I.base.keep b o e n hb hx)
   · obtain⟨sl,e1⟩:=I.base.slot b o e n hb hx;exact⟨sl,(hs.2 b (zzO (zzI (zxH e) I.ok.above))).trans e1⟩
   · obtain⟨o',e1⟩:=I.base.there b o e hx;exact⟨o',(hs.2 b (zzO (zzI (zxH e) I.ok.above))).trans e1⟩
   · by_cases hj:j=i
     · subst hj;rw[hi]at e1;cases e1;rw[zyI hiσ]at e2;cases e2;exact⟨u,r,.inl ⟨hk,by simp⟩⟩
     · rw[zzW (Ne.symm hj)]at e2;obtain⟨u',r',q⟩:=hl j y v' e1 e2 e3;refine⟨u',r', ?_⟩
       rcases q with⟨k,e⟩|⟨k,c,e,z⟩
       · refine .inl ⟨k, ?_⟩;have:y≠x:=λe=>hj (zee hN e1 (e ▸ hi));simp[this,e]
       · exact .inr ⟨k,c,e,z.sameBut hs (cne y c e)⟩
   · obtain⟨w',z⟩:=I.cell y c e;exact⟨w',z.sameBut hs (cne y c e)⟩
   · obtain⟨e,n,ne,nf,d⟩:=I.pin p hp;exact⟨(hs.2 p.1 ne).trans e,n,ne,nf,d⟩
 · have hfn:X.fn x=true:=by
    rcases hf with z|z
    · exact z
    · rw[z]at hk;cases hk
   obtain⟨c,hc⟩:=I.ok.has x (.inl hk);obtain⟨w',z⟩:=I.cell x c hc;refine wpAny_storeName_cell I.ok.kind hk hc z (λh' hc' hs=>?_);obtain⟨oc,hoc,hocd⟩:=id z;refine h {s with heap:=h'} ⟨I.ok,I.os,I.bare,⟨λb o e n hb hx=>?_,λb o e n hb hx=>?_,I.base.free,λb o e hx=>?_,I.base.tups,I.base.frzs,I.base.tbls⟩,⟨m,hn.sameBut hs (Ne.symm (cne x c hc)),λj y v' e1 e2 e3=>?_⟩,λy c' e=>?_,I.free,I.freeC,λp hp=>?_,tracked ⟨oc,hoc,I.freeC x c hc⟩ hs,by simpa using I.len⟩ ⟨c,hs,.inr hc⟩
   · exact(hs.2 b (zzO (zzI (zxH e) (I.ok.cab x c hfn hc)))).trans (I.base.keep b o e n hb hx)
   · obtain⟨sl,e1⟩:=I.base.slot b o e n hb hx;exact⟨sl,(hs.2 b (zzO (zzI (zxH e) (I.ok.cab x c hfn hc)))).trans e1⟩
   · obtain⟨o',e1⟩:=I.base.there b o e hx;exact⟨o',(hs.2 b (zzO (zzI (zxH e) (I.ok.cab x c hfn hc)))).trans e1⟩
   · by_cases hj:j=i
     · subst hj;rw[hi]at e1;cases e1;rw[zyI hiσ]at e2;cases e2;exact⟨u,r,.inr ⟨.inl hk,c,hc,hc'⟩⟩
     · rw[zzW (Ne.symm hj)]at e2;obtain⟨u',r',q⟩:=hl j y v' e1 e2 e3;refine⟨u',r', ?_⟩
       rcases q with q|⟨k,c',e,z'⟩
       · exact .inl q
       · refine .inr ⟨k,c',e,z'.sameBut hs ?_⟩
         rintro rfl
         exact hj (zee hN e1 (I.ok.inj _ _ _ e hc ▸ hi))
   · by_cases hcc:c'=c
     · subst hcc;exact⟨_,hc'⟩
     · obtain⟨w2,z2⟩:=I.cell y c' e;exact⟨w2,z2.sameBut hs hcc⟩
   · obtain⟨e,n,ne,nf,d⟩:=I.pin p hp;refine⟨(hs.2 p.1 ?_).trans e,n,ne,nf,d⟩;intro q;rw[q,hoc]at e;have q':oc=p.2:=zzX e;exact d w' (by rw[<-q'];exact hocd)
def zaX(I:Inv X pins σ H s)(hN:X.N.Nodup)(hi:X.N[i]? = some x)(hx:Loc X.env.scope x)(r:RelV v u)
 (h:∀s',Inv X pins (σ.set i (some v)) H s'->Q () s') (hf:X.fn x=true\/X.env.scope.names.lookup x=some .local:=by first|exact .inl rfl|exact .inr rfl|assumption):wpAny M A (storeName X.env x u) Q E s:=
 zbw I hN hi hx r (λs' I' _=>h s' I') hf
def Inv.call'(I:Inv X pins σ H s)(ho:s'.os=s.os)(u:Un (frs X.stack) ch H H' s.heap s'.heap)(hok:HOk X.prog X.w H' s'.heap)(hg:AllBare s'.gens)
 (hch:∀b ∈ ch,(b ∈ X.ex\/X.s₀.heap.objs.size<=b)/\b≠X.env.locals/\(∀x c,X.env.cells.lookup x=some c->c≠b)/\∀p ∈ X.pn++pins,p.1≠b):Inv X pins σ H' s':=by
 obtain⟨h',g',d',t',o'⟩:=s';have e:o'=s.os:=ho;subst e;exact I.call (g':=g') (t':=t') (d':=d') u hok hg hch
end
abbrev XK:=Value->Option Addr->Hp->Prop
abbrev St:=List (Option V)
abbrev VK:=V->Hp->Prop
abbrev TE:=St->Hp->VK->Prop
abbrev TT:=St->Hp->(Bool->Hp->Prop)->Prop
abbrev TA:=St->Hp->(List V->Hp->Prop)->Prop
structure Ends where
 nx:St->Hp->Prop
 rt:VK
 bk:St->Hp->Prop:=λ_ _=>False
 ct:St->Hp->Prop:=λ_ _=>False
abbrev TS:=Ends->St->Hp->Prop
def EP(X:Cx)(pins:List (Addr×Obj))(σ:St)(Q:VK)(u:Value)(s':Shared):Prop:=∃v H',Inv X pins σ H' s'/\RelV v u/\Q v H'
def TP(X:Cx)(pins:List (Addr×Obj))(σ:St)(Q:Bool->Hp->Prop)(b:Bool)(s':Shared):Prop:=∃H',Inv X pins σ H' s'/\Q b H'
def AP(X:Cx)(pins:List (Addr×Obj))(σ:St)(Q:List V->Hp->Prop)(us:List Value)(s':Shared):Prop:=∃vs H',Inv X pins σ H' s'/\Vals vs us/\Q vs H'
def SP(X:Cx)(pins:List (Addr×Obj))(D:Ends)(f:Flow)(s':Shared):Prop:=
 match f with
 | .next=>∃σ' H',Inv X pins σ' H' s'/\D.nx σ' H'
 | .brk=>∃σ' H',Inv X pins σ' H' s'/\D.bk σ' H'
 | .cont=>∃σ' H',Inv X pins σ' H' s'/\D.ct σ' H'
 | .ret u=>∃v σ' H',Inv X pins σ' H' s'/\RelV v u/\D.rt v H'
def PE(X:Cx)(e:Expr)(t:TE):Prop:=
 ∀(pins:List (Addr×Obj)) (s:Shared) (σ:St) (H:Hp) (Q:VK),Inv X pins σ H s->t σ H Q->wpAny (model X.prog X.w) X.A (eval e X.env) (EP X pins σ Q) X.xe s
def PT(X:Cx)(e:Expr)(t:TT):Prop:=
 ∀(pins:List (Addr×Obj)) (s:Shared) (σ:St) (H:Hp) (Q:Bool->Hp->Prop),Inv X pins σ H s->t σ H Q->wpAny (model X.prog X.w) X.A (isTrue e X.env (eval e X.env)) (TP X pins σ Q) X.xe s
def PW(X:Cx)(e:Expr)(t:TT):Prop:=
 ∀(whole:Sem Value) (pins:List (Addr×Obj)) (s:Shared) (σ:St) (H:Hp) (Q:Bool->Hp->Prop),Inv X pins σ H s->t σ H Q->wpAny (model X.prog X.w) X.A (isTrue e X.env whole) (TP X pins σ Q) X.xe s
def PW.pt(h:PW X e t):PT X e t:=h _
def PA(X:Cx)(es:List Expr)(t:TA):Prop:=
 ∀(pos:Pos) (pins:List (Addr×Obj)) (s:Shared) (σ:St) (H:Hp) (Q:List V->Hp->Prop),Inv X pins σ H s->t σ H Q->wpAny (model X.prog X.w) X.A (spliced (backTo pos (starEach es X.env))) (AP X pins σ Q) X.xe s
def PS(X:Cx)(st:Stmt)(t:TS):Prop:=
 ∀(pins:List (Addr×Obj)) (s:Shared) (σ:St) (H:Hp) (D:Ends),Inv X pins σ H s->t D σ H->wpAny (model X.prog X.w) X.A (exec st X.env) (SP X pins D) X.xe s
def PSs(X:Cx)(st:List Stmt)(t:TS):Prop:=
 ∀(pins:List (Addr×Obj)) (s:Shared) (σ:St) (H:Hp) (D:Ends),Inv X pins σ H s->t D σ H->wpAny (model X.prog X.w) X.A (execs st X.env) (SP X pins D) X.xe s
def thn(h:wpAny M A t Q E s)(hQ:∀a s,Q a s->Q' a s):wpAny M A t Q' E s:=zxO h hQ λ_ _ x=>x
end L2
namespace L2
open PySem PySem.Spec PyProof.Rows
section
variable{X:Cx}
def Ws(i:Nat):TE:=λσ H Q=>∃v,σ[i]? = some (some v)/\Q v H
def tC(v:V):TE:=λ_ H Q=>Q v H
def zpa(hN:X.N[i]? = some x)(hv:Vis X.env.scope x)(hd:(x==("__debug__":Str))=false:=by decide)(hcd:(x==("__classdict__":Str))=false:=by decide):PE X (.Name x pos) (Ws i):=by
 intro pins s σ H Q I h;obtain⟨v,e,h⟩:=h;obtain⟨m,hn,hl⟩:=I.loc;obtain⟨u,r,l⟩:=hl i x v hN e hv;have fin:EP X pins σ Q u s:=⟨v,H,I,r,h⟩
 rcases l with⟨hk,hm⟩|⟨hk,c,hc,hcell⟩
 · exact wpAny_Name (wpAny_loadName_local I.ok.kind hk hn hm fin) hd
 · rcases hk with hk|hk
   · exact wpAny_Name (wpAny_loadName_cell I.ok.kind hk hc hcell fin) hd
   · exact wpAny_Name (wpAny_loadName_free I.ok.kind hk hc hcell fin hcd) hd
def zeh:PE X (.Constant (.int i) j pos) (tC (.int i)):=λ_ _ _ H _ I h=>wpAny_Constant_int ⟨.int i,H,I.tok _,⟨_,rfl⟩,h⟩
def ztQ:PE X (.Constant (.bool b) j pos) (tC (.bl b)):=λ_ _ _ H _ I h=>Constant_bool ⟨.bl b,H,I,rfl,h⟩
def zsw:PE X (.Constant .none j pos) (tC .non):=λ_ _ _ H _ I h=>Constant_none ⟨.non,H,I,rfl,h⟩
def zmE:PE X (.Constant (.str x) j pos) (tC (.str x)):=λ_ _ _ H _ I h=>Calls.Constant_str ⟨.str x,H,I.tok _,⟨_,rfl⟩,h⟩
def Gl(X:Cx)(x:Str):Prop:=X.env.kindOf x=some .globalImplicit
def W9(I:Inv X pins σ H s)(hg:Gl X x)(hm:X.mg x=some u)(h:Q u s)
 (hd:(x==("__debug__":Str))=false:=by decide):wpAny (model X.prog X.w) X.A (eval (.Name x pos) X.env) Q E s:=
 Calls.Name_function_global I.ok.kind hg (Calls.loadGlobal_global (by rw[I.ok.glob];exact I.mod.glob.keeps I.bk) hm h) hd
def Ys(I:Inv X pins σ H s)(hg:Gl X x)(hm:X.mg x=none)(hv:bootBuiltins x=some u)(h:Q u s)
 (hn:x≠"__name__":=by decide) (hd:(x==("__debug__":Str))=false:=by decide):wpAny (model X.prog X.w) X.A (eval (.Name x pos) X.env) Q E s:=by
 obtain⟨mb,h1,h2⟩:=I.mod.blt;exact Calls.Name_function_global I.ok.kind hg (Calls.loadGlobal_builtin (by rw[I.ok.glob];exact I.mod.glob.keeps I.bk) hm (by rw[I.ok.blt];exact h1.keeps I.bk) ((h2 x hn).trans hv) h) hd
def zpB(hg:Gl X x)(hm:X.mg x=none)(hv:bootBuiltins x=some u)(r:RelV v u)(hn:x≠"__name__":=by decide)(hd:(x==("__debug__":Str))=false:=by decide):PE X (.Name x pos) (tC v):=
 λ_ _ _ H _ I h=>Ys I hg hm hv ⟨v,H,I,r,h⟩ hn hd
variable{a b:Expr}{ta tb:TE}{pos:Pos}
variable{tA tB':TT}{rest:List Expr}
def zvt(t u:TT):TT:=λσ H Q=>t σ H λc H1=>if c=true then u σ H1 Q else Q false H1
def tOr(t u:TT):TT:=λσ H Q=>t σ H λc H1=>if c=true then Q true H1 else u σ H1 Q
def zvF(t:TT):TT:=λσ H Q=>t σ H λc H1=>Q (!c) H1
def zqB(ha:PT X a tA):PW X (.BoolOp .And [a] pos) tA:=by
 intro wh pins s σ H Q I h;refine isTrue_and (thn (ha pins s σ H Q I h) λc s1 e=>?_);cases c with
 |true=>exact isTrue_and_nil e
 |false=>exact e
def zsi(ha:PT X a tA):PW X (.BoolOp .Or [a] pos) tA:=by
 intro wh pins s σ H Q I h;refine isTrue_or (thn (ha pins s σ H Q I h) λc s1 e=>?_);cases c with
 |false=>exact isTrue_or_nil e
 |true=>exact e
def zsE(ha:PT X a tA)(hb:PW X (.BoolOp .And (b::rest) pos) tB'):PW X (.BoolOp .And (a::b::rest) pos) (zvt tA tB'):=by
 intro wh pins s σ H Q I h;refine isTrue_and (thn (ha pins s σ H _ I h) λc s1 ⟨H1,I1,q1⟩=>?_);cases c with
 |true=>exact hb wh pins s1 σ H1 Q I1 q1
 |false=>exact⟨H1,I1,q1⟩
def zuJ(ha:PT X a tA)(hb:PW X (.BoolOp .Or (b::rest) pos) tB'):PW X (.BoolOp .Or (a::b::rest) pos) (tOr tA tB'):=by
 intro wh pins s σ H Q I h;refine isTrue_or (thn (ha pins s σ H _ I h) λc s1 ⟨H1,I1,q1⟩=>?_);cases c with
 |true=>exact⟨H1,I1,q1⟩
 |false=>exact hb wh pins s1 σ H1 Q I1 q1
def zta(ha:PT X a tA):PT X (.UnaryOp .Not a pos) (zvF tA):=by
 intro pins s σ H Q I h;exact isTrue_not (ha pins s σ H (λc H1=>Q (!c) H1) I h)
def ztX(ta tb:TE):TE:=λσ H Q=>ta σ H λx H1=>∃c,x = .bl c/\if c=true then tb σ H1 Q else Q (.bl false) H1
def ztt(h:PE X a t):PE X (.BoolOp op [a] pos) t:=λpins s σ H Q I hw=>BoolOp_one (h pins s σ H Q I hw)
def zsj(ha:PE X a ta)(hb:PE X (.BoolOp .And (b::rest) pos) tb):PE X (.BoolOp .And (a::b::rest) pos) (ztX ta tb):=by
 intro pins s σ H Q I h;refine BoolOp_and (thn (ha pins s σ H _ I h) λv s1 ⟨x,H1,I1,r1,q1⟩=>?_);obtain⟨c,rfl,q1⟩:=q1;cases r1;refine wpAny_truthy_bool ?_;cases c with
 |true=>exact hb pins s1 σ H1 Q I1 q1
 |false=>exact⟨.bl false,H1,I1,rfl,q1⟩
end
end L2
namespace L2
open PySem PySem.Spec PyProof.Rows
def SqL(K:zC)(H:Hp)(a:Addr)(xs:List V):Prop:=
 Rd H a (.lst xs) \/
  ∃(o:Obj) (its:Array Value) (n:Nat),K.lookup a=some o/\o.cls = .type "list"/\o.dict=none/\o.data = .seq its n/\its.size<=sizeLine/\Vals xs its.toList
def RdL(K:zC)(H:Hp)(a:Addr)(xs:List V):Prop:=
 Rd H a (.lst xs)\/∃(its:Array Value) (n:Nat),K.lookup a=some {cls:=.type "list",data:=.seq its n}/\its.size<=sizeLine/\Vals xs its.toList
def SqT(K:zC)(H:Hp)(a:Addr)(xs:List V):Prop:=
 Rd H a (.tup xs) \/
  ∃(o:Obj) (its:Array Value) (n:Nat),K.lookup a=some o/\o.cls = .type "tuple"/\o.data = .seq its n/\its.size<=sizeLine/\Vals xs its.toList
def zvo:Value->Option V
 | .none=>some .non
 | .bool b=>some (.bl b)
 | .int i _=>some (.int i)
 | .str x _=>some (.str x)
 | .bytes b _=>some (.byt b)
 | .float b _=>some (.flt b)
 | .ref a=>some (.ref a)
 | .type n=>some (.ty n)
 |_=>none
def RelV.abs(r:RelV x u):zvo u=some x:=by
 cases x with
 |non=>cases r;rfl
 |bl _=>cases r;rfl
 |int _=>obtain⟨t,rfl⟩:=r;rfl
 |str _=>obtain⟨t,rfl⟩:=r;rfl
 |byt _=>obtain⟨t,rfl⟩:=r;rfl
 |flt _=>obtain⟨t,rfl⟩:=r;rfl
 |ref _=>cases r;rfl
 |ty _=>cases r;rfl
def RelV.inj(r:RelV x u)(q:RelV y u):x=y:=zzX (r.abs.symm.trans q.abs)
theorem Vals.inj:∀{xs ys:List V}{us:List Value},Vals xs us->Vals ys us->xs=ys
 |_,_,_,.nil,.nil=>rfl
 |_,_,_,.cons r t,.cons r' t'=>by rw[r.inj r',Vals.inj t t']
section
variable{X:Cx}{pins:List (Addr×Obj)}{σ:St}{H:Hp}{s:Shared}{a:Addr}{xs ys:List V}
def Inv.list(I:Inv X pins σ H s)(h:SqL X.K H a xs):∃its:List Value,Vals xs its/\PlainL s.heap a its.toArray/\xs.length<=sizeLine:=by
 rcases h with h|⟨o,its,n,hk,hc,hd,hs,hz,r⟩
 · obtain⟨z,its,n,r,e⟩:=h.ok I.hok;exact⟨its,r,⟨_,n,e,rfl,rfl,rfl⟩,z⟩
 · refine⟨its.toList,r,⟨o,n,I.kIn a o hk,hc,hd,by simpa using hs⟩, ?_⟩;have e:=r.length;simp only[zyR]at e;omega
def Inv.tuple(I:Inv X pins σ H s)(h:SqT X.K H a xs):∃its:List Value,Vals xs its/\IsTup s.heap a its.toArray/\xs.length<=sizeLine:=by
 rcases h with h|⟨o,its,n,hk,hc,hs,hz,r⟩
 · obtain⟨z,its,r,p⟩:=h.ok I.hok;exact⟨its,r,p,z⟩
 · refine⟨its.toList,r,⟨o,I.kIn a o hk,hc,n,by simpa using hs⟩, ?_⟩;have e:=r.length;simp only[zyR]at e;omega
def Inv.list_inj(I:Inv X pins σ H s)(h:SqL X.K H a xs)(h':SqL X.K H a ys):xs=ys:=by
 obtain⟨its,r,⟨o,n,e,_,_,d⟩,_⟩:=I.list h;obtain⟨its',r',⟨o',n',e',_,_,d'⟩,_⟩:=I.list h';rw[e]at e';cases e';rw[d]at d';injection d' with d1 _
 have:its=its':=by simpa using congrArg Array.toList d1
 subst this;exact r.inj r'
def Inv.tuple_inj(I:Inv X pins σ H s)(h:SqT X.K H a xs)(h':SqT X.K H a ys):xs=ys:=by
 obtain⟨its,r,⟨o,e,_,n,d⟩,_⟩:=I.tuple h;obtain⟨its',r',⟨o',e',_,n',d'⟩,_⟩:=I.tuple h';rw[e]at e';cases e';rw[d]at d';injection d' with d1 _
 have:its=its':=by simpa using congrArg Array.toList d1
 subst this;exact r.inj r'
end
abbrev Cx.wish(X:Cx)(E:Value->Shared->Prop):Cx:={X with xe:=E}
abbrev Cx.nox(X:Cx):Cx:=X.wish λ_ _=>False
def Cx.Ok.wish{X:Cx}(ok:X.Ok)(E:Value->Shared->Prop):(X.wish E).Ok:=
 ⟨ok.mod,ok.kind,ok.glob,ok.blt,ok.above,ok.inj,ok.has,ok.cab,ok.hd,ok.frames,ok.stk,ok.exf,ok.bs,ok.bsz,ok.noex,ok.exfs,ok.funs,ok.frf⟩
def Cx.Ok.unwish{X:Cx}{E:Value->Shared->Prop}(ok:(X.wish E).Ok):X.Ok:=
 ⟨ok.mod,ok.kind,ok.glob,ok.blt,ok.above,ok.inj,ok.has,ok.cab,ok.hd,ok.frames,ok.stk,ok.exf,ok.bs,ok.bsz,ok.noex,ok.exfs,ok.funs,ok.frf⟩
section
variable{X:Cx}{pins:List (Addr×Obj)}{σ:St}{H:Hp}{s:Shared}{E:Value->Shared->Prop}
def Inv.wish(I:Inv X pins σ H s)(E:Value->Shared->Prop):Inv (X.wish E) pins σ H s:=⟨I.ok.wish E,I.os,I.bare,I.base,I.loc,I.cell,I.free,I.freeC,I.pin,I.hok,I.len⟩
def Inv.unwish(I:Inv (X.wish E) pins σ H s):Inv X pins σ H s:=⟨I.ok.unwish,I.os,I.bare,I.base,I.loc,I.cell,I.free,I.freeC,I.pin,I.hok,I.len⟩
def SP.unwish(h:SP (X.wish E) pins D f s'):SP X pins D f s':=by
 cases f with
 |next=>obtain⟨σ',H',I,q⟩:=h;exact⟨σ',H',I.unwish,q⟩
 |brk=>obtain⟨σ',H',I,q⟩:=h;exact⟨σ',H',I.unwish,q⟩
 |cont=>obtain⟨σ',H',I,q⟩:=h;exact⟨σ',H',I.unwish,q⟩
 |ret u=>obtain⟨v,σ',H',I,r,q⟩:=h;exact⟨v,σ',H',I.unwish,r,q⟩
def PSs.nox{st:List Stmt}{t:TS}(h:PSs X.nox st t):PSs X st t:=λpins s σ H D I hw=>
 zxO (h pins s σ H D (I.wish _) hw) (λ_ _ q=>q.unwish) λ_ _ z=>False.elim z
end
section
variable{X:Cx}{st:Stmt}{rest:List Stmt}{t u:TS}{e:Expr}{te:TE}{pos:Pos}
def ztR:TS:=λD σ H=>D.nx σ H
def zvp(t u:TS):TS:=λD σ H=>t {D with nx:=u D} σ H
def zgk:PSs X [] ztR:=λ_ _ σ H _ I h=>wpAny_execs_nil ⟨σ,H,I,h⟩
def YF(h1:PS X st t)(h2:PSs X rest u):PSs X (st::rest) (zvp t u):=by
 intro pins s σ H D I h;refine wpAny_execs_cons (thn (h1 pins s σ H {D with nx:=u D} I h) λf s1 q=>?_);cases f with
 |next=>
  obtain⟨σ',H',I',q⟩:=q;exact h2 pins s1 σ' H' D I' q
 |ret v=>exact q
 |brk=>exact q
 |cont=>exact q
def zdc(h1:PS X st t):PSs X [st] t:=by
 intro pins s σ H D I h;refine wpAny_execs_cons (thn (h1 pins s σ H D I h) λf s1 q=>?_);cases f with
 |next=>exact wpAny_execs_nil q
 |ret v=>exact q
 |brk=>exact q
 |cont=>exact q
def Inv.quiet(I:Inv X pins σ H s):interactive X.env=false:=by simp[interactive,I.ok.kind]
def ztN(te:TE):TS:=λD σ H=>te σ H λ_ H1=>D.nx σ H1
def zau(he:PE X e te)(hs:swapsWith e none pos.line X.env=pure false:=by rfl):PS X (.Expr e pos) (ztN te):=by
 intro pins s σ H D I h;exact wpAny_Expr_any (thn (he pins s σ H _ I h) λv s1 ⟨x,H1,I1,r1,q1⟩=>⟨σ,H1,I1,q1⟩) I.quiet hs
def zvD(te:TE):TS:=λD σ H=>te σ H D.rt
def ztA(he:PE X e te):PS X (.Return (some e) pos) (zvD te):=by
 intro pins s σ H D I h;exact wpAny_Return_some (thn (he pins s σ H _ I h) λv s1 ⟨x,H1,I1,r1,q1⟩=>⟨x,σ,H1,I1,r1,q1⟩)
def zvZ(c:TT)(t u:TS):TS:=λD σ H=>c σ H λb H1=>if b=true then t D σ H1 else u D σ H1
def zrb(hc:PT X c tc)(ha:PSs X a t)(hb:PSs X b u):PS X (.If c a b pos) (zvZ tc t u):=by
 intro pins s σ H D I h;refine wpAny_If (thn (hc pins s σ H _ I h) λd s1 ⟨H1,I1,q1⟩=>?_);cases d with
 |true=>exact ha pins s1 σ H1 D I1 q1
 |false=>exact hb pins s1 σ H1 D I1 q1
end
abbrev TG:=V->St->Hp->(St->Hp->Prop)->Prop
abbrev TGs:=List V->St->Hp->(St->Hp->Prop)->Prop
def PG(X:Cx)(target:Expr)(t:TG):Prop:=
 ∀(pins:List (Addr×Obj)) (s:Shared) (σ:St) (H:Hp) (v:V) (u:Value) (Q:St->Hp->Prop),Inv X pins σ H s->RelV v u->t v σ H Q->
  wpAny (model X.prog X.w) X.A (assign target X.env u) (λ_ s'=>∃σ' H',Inv X pins σ' H' s'/\Q σ' H') X.xe s
def PGs(X:Cx)(ts:List Expr)(t:TGs):Prop:=
 ∀(pins:List (Addr×Obj)) (s:Shared) (σ:St) (H:Hp) (vs:List V) (us:List Value) (Q:St->Hp->Prop),Inv X pins σ H s->Vals vs us->t vs σ H Q->
  wpAny (model X.prog X.w) X.A (assignInOrder ((assignEach ts X.env).map (·.2)) us) (λ_ s'=>∃σ' H',Inv X pins σ' H' s'/\Q σ' H') X.xe s
abbrev zuE:=V->V->V->Hp->(Hp->Prop)->Prop
def zuc(X:Cx)(t:zuE):Prop:=
 ∀(pins:List (Addr×Obj)) (s:Shared) (σ:St) (H:Hp) (o i v:V) (ov iv u:Value) (Q:Hp->Prop),Inv X pins σ H s->RelV o ov->RelV i iv->RelV v u->t o i v H Q->
  wpAny (model X.prog X.w) X.A (setItem ov iv u) (λ_ s'=>∃H',Inv X pins σ H' s'/\Q H') X.xe s
section
variable{X:Cx}{pos:Pos}
def ziv(i:Nat):TG:=λv σ H Q=>Q (σ.set i (some v)) H
def zpu(hN:X.N.Nodup)(hi:X.N[i]? = some x)(hx:Loc X.env.scope x)(hf:X.fn x=true\/X.env.scope.names.lookup x=some .local:=by first|exact .inl rfl|exact .inr rfl|assumption):PG X (.Name x pos) (ziv i):=by
 intro pins s σ H v u Q I r h;exact wpAny_assign_Name (zaX I hN hi hx r (λs' I'=>⟨_,H,I',h⟩) hf)
def zvG:TGs:=λvs σ H Q=>vs=[]/\Q σ H
def zuQ(t:TG)(u:TGs):TGs:=λvs σ H Q=>∃v r,vs=v::r/\t v σ H λσ' H'=>u r σ' H' Q
def zqt:PGs X [] zvG:=by
 intro pins s σ H vs us Q I r h;obtain⟨e,h⟩:=h;subst e;cases r;exact assignInOrder_nil ⟨σ,H,I,h⟩
def zmF(h1:PG X e t)(h2:PGs X es u)
 (hs:(assignEach (e::es) X.env).map (·.2)=assign e X.env::(assignEach es X.env).map (·.2):=by rfl):PGs X (e::es) (zuQ t u):=by
 intro pins s σ H vs us Q I r h;obtain⟨v,vr,e1,h⟩:=h;subst e1;cases r with
 |cons r rr=>
  rw[hs];refine assignInOrder_cons (thn (h1 pins s σ H _ _ _ I r h) λ_ s1 ⟨σ1,H1,I1,q1⟩=>?_);exact h2 pins s1 σ1 H1 _ _ Q I1 rr q1
def zvP(K:zC)(n:Nat)(t:TGs):TG:=λv σ H Q=>∃a xs,v = .ref a/\SqT K H a xs/\xs.length=n/\t xs σ H Q
def ztk(hc:X.calm=true)(h:PGs X es t)
 (hn:(assignEach es X.env).length=n:=by rfl) (hst:(assignEach es X.env).findIdx? (·.1)=none:=by rfl):PG X (.Tuple es k pos) (zvP X.K n t):=by
 intro pins s σ H v u Q I r hw;obtain⟨a,xs,e1,hq,hl,hw⟩:=hw;subst e1;cases r;obtain⟨its,rv,ht,hz⟩:=I.tuple hq;refine assign_Tuple_tuple (I.ok.hd hc) ht (by simp[hn,<-hl,rv.length]) hst λh' hx=>?_;have I1:Inv X pins σ H {s with heap:=h'}:=I.kept (t':=s.toks) λb o e=>hx b o (zzO (zxH e)) e;exact h pins _ σ H xs _ Q I1 (by simpa using rv) hw
def zvs(to ti:TE)(t:zuE):TG:=λv σ H Q=>to σ H λo H1=>ti σ H1 λi H2=>t o i v H2 λH3=>Q σ H3
def zdB(ho:PE X o to)(hi:PE X i ti)(hs:zuc X t)
 (ha:∀v,assign (.Subscript o i pos) X.env v=(do
  let ov <-holding [v] (eval o X.env);let iv <-holding [v,ov] (eval i X.env)
  standAt pos
  holding [v,ov,iv] (setItem ov iv v)
  release [v,ov,iv] []):=by intro _;rfl):PG X (.Subscript o i pos) (zvs to ti t):=by
 intro pins s σ H v u Q I r h;rw[ha];refine zxE (zxK (thn (ho pins s σ H _ I h) λov s1 ⟨x,H1,I1,r1,q1⟩=>?_));refine zxE (zxK (thn (hi pins s1 σ H1 _ I1 q1) λiv s2 ⟨y,H2,I2,r2,q2⟩=>?_));refine zxE (wpAny_standAt (zxE (zxK (thn (hs pins s2 σ H2 x y v ov iv u _ I2 r1 r2 r q2) λ_ s3 ⟨H3,I3,q3⟩=>?_))));exact wpAny_release ⟨σ,H3,I3,q3⟩
def zsY(te:TE)(g:TG):TS:=λD σ H=>te σ H λx H1=>g x σ H1 D.nx
def zbF(he:PE X e te)(hg:PG X tg g)(hs:swapsWithSole [tg] e pos.line X.env=pure false:=by rfl)(hw:swappedStores [tg] e X.env=pure none:=by rfl)
 (h1:(assignEach [tg] X.env).map (·.2)=[assign tg X.env]:=by rfl):PS X (.Assign [tg] e pos) (zsY te g):=by
 intro pins s σ H D I h;refine wpAny_Assign_stores (thn (he pins s σ H _ I h) λv s1 ⟨x,H1,I1,r1,q1⟩=>?_) hs hw;rw[h1];exact thn (hg pins s1 σ H1 x v _ I1 r1 q1) λ_ s2 q=>q
def zoP(hN:X.N.Nodup)(hi:X.N[i]? = some x)(hx:Loc X.env.scope x)(he:PE X e te)(hs:swapsWith e (some (.Name x pos')) pos.line X.env=pure false:=by rfl)(hf:X.fn x=true\/X.env.scope.names.lookup x=some .local:=by first|exact .inl rfl|exact .inr rfl|assumption):
 PS X (.Assign [.Name x pos'] e pos) (zsY te (ziv i)):=by
 intro pins s σ H D I h;refine wpAny_Assign_Name (thn (he pins s σ H _ I h) λv s1 ⟨y,H1,I1,r1,q1⟩=>?_) hs;exact zaX I1 hN hi hx r1 (λs2 I2=>⟨_,H1,I2,q1⟩) hf
def zvT(i j:Nat)(ta:TA):TS:=λD σ H=>ta σ H λvs H1=>∃v w,vs=[v,w]/\D.nx ((σ.set i (some v)).set j (some w)) H1
def zsy(hc:X.calm=true)(hN:X.N.Nodup)(hi:X.N[i]? = some x)(hj:X.N[j]? = some y)(hij:i≠j)
 (hx:X.env.scope.names.lookup x=some .local) (hy:X.env.scope.names.lookup y=some .local) (ha:PA X [a,b] ta)
 (hw:swappedStores [.Tuple [.Name x px,.Name y py] kt pt] (.Tuple [a,b] k2 pt2) X.env=pure (some [x,y]))
 (hs:swapsWithSole [.Tuple [.Name x px,.Name y py] kt pt] (.Tuple [a,b] k2 pt2) pos.line X.env=pure false:=by rfl):
 PS X (.Assign [.Tuple [.Name x px,.Name y py] kt pt] (.Tuple [a,b] k2 pt2) pos) (zvT i j ta):=by
 intro pins s σ H D I h;rw[exec_Assign_arm];refine zxE (wpAny_standAt ?_);rw[hs];refine zxE (zxF ?_);rw[if_neg (by decide)];refine zxE (Tuple_ (thn (ha _ pins s σ H _ I h) λus s1 ⟨vs,H1,I1,r1,q1⟩=>?_));obtain⟨v,w,e1,q1⟩:=q1;subst e1;obtain⟨u1,u2,rfl,rv,rw'⟩:∃u1 u2,us=[u1,u2]/\RelV v u1/\RelV w u2:=by
  cases r1 with
  |cons p q=>
   cases q with
   |cons p' q'=>
    cases q';exact⟨_,_,rfl,p,p'⟩
 refine zxJ ?_ (by show 2<=sizeLine;decide);have I2:Inv X pins σ H1 {s1 with heap:=s1.heap.push {cls:=.type "tuple",data:=.seq [u1,u2].toArray}}:=I1.kept (t':=s1.toks) λb o e=>zxG _ e;rw[hw];refine zxE (zxF ?_);show wpAny (model X.prog X.w) X.A (do rule "assign.swapped-stores";let items <-unpackItems (.ref s1.heap.objs.size) 2 none;assignInOrder [λv=>bindName X.env y v,λv=>bindName X.env x v] items.reverse;pure Flow.next) _ _ _;refine zxE (wpAny_rule (zxE (unpackItems_tuple (items:=#[u1,u2]) (I.ok.hd hc) (IsTup.new s1.heap _) λh' hx'=>?_)));have I3:=I2.kept (h':=h') (t':=s1.toks) λb o e=>hx' b o (zzO (zxH e)) e;show wpAny _ _ (assignInOrder [λv=>bindName X.env y v,λv=>bindName X.env x v] [u2,u1] >>= λ_=>pure Flow.next) _ _ _;refine zxE (assignInOrder_cons (wpAny_bindName (zaX I3 hN hj (.inl hy) rw' (λs2 I4=>?_) (.inr hy))));refine assignInOrder_cons (wpAny_bindName (zaX I4 hN hi (.inl hx) rv (λs3 I5=>assignInOrder_nil (zxF ?_)) (.inr hx)));rw[List.set_comm _ _ (Ne.symm hij)]at I5;exact⟨_,H1,I5,q1⟩
end
section
variable{X:Cx}{pos:Pos}
def zrK(c:TT)(tb:TS):TS:=λD σ H=>∃W:Nat->St->Hp->Prop,(∃m,W m σ H)/\∀m σ H,W m σ H->
 c σ H λb H1=>if b=true then ∃N:St->Hp->Prop,(∀σ' H',N σ' H'->∃m',m'<m/\W m' σ' H')/\tb {D with nx:=N,ct:=N,bk:=D.nx} σ H1 else D.nx σ H1
def znF(hp:PassesOwn (model X.prog X.w) X.A X.env X.xe)(hc:PT X c tc)(hb:PSs X body tb):PS X (.While c body [] pos) (zrK tc tb):=by
 intro pins s σ H D I h;obtain⟨W,⟨m0,w0⟩,turn⟩:=h;refine wpAny_While (codeAny_whileLoop (λn s'=>∃σ' H',Inv X pins σ' H' s'/\W n σ' H') ?_ m0 ⟨σ,H,I,w0⟩)
 rintro n s1 ⟨σ1,H1,I1,w1⟩
 refine wpAny_passesOwn hp (thn (hc pins s1 σ1 H1 _ I1 (turn n σ1 H1 w1)) λb s2 ⟨H2,I2,q2⟩=>?_);cases b with
 |true=>
  obtain⟨N,hN,q2⟩:=q2;rw[if_pos rfl];refine wpAny_passesOwn hp (thn (hb pins s2 σ1 H2 _ I2 q2) λf s3 q3=>?_);cases f with
  |next=>
   obtain⟨σ3,H3,I3,n3⟩:=q3;obtain⟨m',hm,w3⟩:=hN σ3 H3 n3;exact⟨m',hm,σ3,H3,I3,w3⟩
  |cont=>
   obtain⟨σ3,H3,I3,n3⟩:=q3;obtain⟨m',hm,w3⟩:=hN σ3 H3 n3;exact⟨m',hm,σ3,H3,I3,w3⟩
  |brk=>exact q3
  |ret v=>exact q3
 |false=>
  rw[if_neg zyU];exact wpAny_execs_nil ⟨σ1,H2,I2,q2⟩
end
structure It where
 go:Nat->Hp->Prop
 yld:Nat->Hp->V->Hp->Prop
 stop:Nat->Hp->Prop
def zcR(X:Cx)(pins:List (Addr×Obj))(H:Hp)(b:Addr):Prop:=
 H b=none/\b≠X.env.locals/\b ∉ X.fs/\(b ∈ X.ex\/X.s₀.heap.objs.size<=b)/\(∀x c,X.env.cells.lookup x=some c->c≠b)/\∀p ∈ X.pn++pins,p.1≠b
def Inv.fpOk(I:Inv X pins σ H s)(hb:s.heap.objs.size<=b)(hn:H' b=none):zcR X pins H' b:=by
 refine⟨hn,Nat.ne_of_gt (zzI I.lt hb),I.nofs hb,.inr (zzM I.sz hb),λx c e z=>?_,λp hp z=>?_⟩
 · obtain⟨v,q⟩:=I.cell x c e;exact absurd (zzI q.lt (by rw[z];exact hb)) (Nat.lt_irrefl _)
 · exact absurd (zzI (zxH (I.pin p hp).1) (by rw[z];exact hb)) (Nat.lt_irrefl _)
structure Turn(P:Program)(w:World)(K:zC)(tg:Expr)(J:It)(fp:List Addr)(it:Addr)(tn:Nat->Heap->Prop):Prop where
 mem:it ∈ fp
 obj:∀i h,tn i h->∀b ∈ fp,∃o,h.get? b=some o/\∀v,o.data ≠ .cell v
 keep:∀i h h',tn i h->(∀b ∈ fp,∀o,h.get? b=some o->h'.get? b=some o)->tn i h'
 item:∀(X:Cx),X.prog=P->X.w=w->X.K=K->X.calm=true->∀(i:Nat) (pins:List (Addr×Obj)) (s:Shared) (σ:St) (H:Hp) (E:Value->Shared->Prop),Inv X pins σ H s->(∀b ∈ fp,zcR X pins H b)->tn i s.heap->J.go i H->
  wpAny (model P w) X.A (pyNext (.ref it)) (λr s1=>∃u,r=some u/\
   wpAny (model P w) X.A (letOwnedTupleGo tg (.ref it) u) (λ_ s2=>∃x H',Inv X pins σ H' s2/\RelV x u/\J.yld i H x H'/\tn (i+1) s2.heap/\∀b ∈ fp,H' b=none) E s1) E s
 done:∀(X:Cx),X.prog=P->X.w=w->X.K=K->X.calm=true->∀(i:Nat) (pins:List (Addr×Obj)) (s:Shared) (σ:St) (H:Hp) (E:Value->Shared->Prop),Inv X pins σ H s->(∀b ∈ fp,zcR X pins H b)->tn i s.heap->J.stop i H->
  wpAny (model P w) X.A (pyNext (.ref it)) (λr s1=>r=none/\Inv X pins σ H s1) E s
 self:∀(A:Around) (i:Nat) (s:Shared) (Q:Value->Shared->Prop) (E:Value->Shared->Prop),tn i s.heap->Q (.ref it) s->wpAny (model P w) A (pyIter (.ref it)) Q E s
abbrev TI:=St->Hp->(It->Hp->Prop)->Prop
def PIE(X:Cx)(pins:List (Addr×Obj))(σ:St)(tg:Expr)(R:It->Hp->Prop)(itv:Value)(s2:Shared):Prop:=
 ∃(it:Addr) (fp:List Addr) (tn:Nat->Heap->Prop) (J:It) (H':Hp),itv = .ref it/\Inv X pins σ H' s2/\Turn X.prog X.w X.K tg J fp it tn/\tn 0 s2.heap/\(∀b ∈ fp,zcR X pins H' b)/\R J H'
def PI(X:Cx)(tg iter:Expr)(wi:TI):Prop:=
 ∀(pins:List (Addr×Obj)) (s:Shared) (σ:St) (H:Hp) (R:It->Hp->Prop),Inv X pins σ H s->wi σ H R->
  wpAny (model X.prog X.w) X.A (eval iter X.env) (λv s1=>wpAny (model X.prog X.w) X.A (pyIter v) (PIE X pins σ tg R) X.xe s1) X.xe s
def zoY(ho:s.heap.get? it=some o)(hc:o.cls = .type n)(hd:o.data = .fields vs)
 (hn : ["enumerate","zip","dict_itemiterator","dict_reverseitemiterator","odict_iterator","itertools.zip_longest","itertools.pairwise"].contains n=false) (hQ:Q () s):wpAny M A (letOwnedTupleGo tg (.ref it) u) Q E s:=by
 unfold letOwnedTupleGo;cases tg<;>first
  |exact zxF hQ
  |(cases u<;>first
   |exact zxF hQ
   | (refine zxE (wpAny_load ho ?_)
      rw[hc,hd];show wpAny M A (if(["enumerate","zip","dict_itemiterator","dict_reverseitemiterator","odict_iterator","itertools.zip_longest","itertools.pairwise"].contains n&&vs[0]? == some (rawInt _))=true then _ else _) Q E s;rw[if_neg (by intro h;rw[hn,Bool.false_and]at h;cases h)];exact zxF hQ))
def Itl(K:zC)(a:Addr):It:=
 ⟨λi H=>∃xs x,SqL K H a xs/\xs[i]? = some x,λi H x H'=>H'=H/\∀xs,SqL K H a xs->xs[i]? = some x,λi H=>∃xs,SqL K H a xs/\xs.length<=i⟩
def Itt(K:zC)(a:Addr):It:=
 ⟨λi H=>∃xs x,SqT K H a xs/\xs[i]? = some x,λi H x H'=>H'=H/\∀xs,SqT K H a xs->xs[i]? = some x,λi H=>∃xs,SqT K H a xs/\xs.length<=i⟩
def Itr(lo:Int)(n:Nat):It:=⟨λi _=>i<n,λi H x H'=>H'=H/\x = .int (lo+i),λi _=>n<=i⟩
def zlD{P:Program}{w:World}{K:zC}{tg:Expr}(a it:Addr):Turn P w K tg (Itl K a) [it] it (λi h=>h.IsListIter it a i)where
 mem:=by simp
 obj:=λi h st b hb=>by
  have e:b=it:=by simpa using hb
  subst e;obtain⟨o,e,c,d⟩:=st;exact⟨o,e,λv z=>by rw[d]at z;cases z⟩
 keep:=λi h h' st k=>st.at λo e=>k it (by simp) o e
 item:=by
  intro X hP hw hK hc i pins s σ H E I hf st hg;subst hP hw hK;obtain⟨xs,x,hq,hx⟩:=hg;obtain⟨its,rv,p,hz⟩:=I.list hq;obtain⟨u,hu,ru⟩:=rv.get hx;obtain⟨f0,f1,f2,f3,f4,f5⟩:=hf it (by simp);refine wpAny_pyNext_list_item st p.isList (x:=u) (by simpa using hu) λh' st' sb=>?_;have I1:Inv X pins σ H {s with heap:=h'}:=I.turned (t':=s.toks) (λb o hb e=>(sb.2 b hb).trans e) f0 f1 f3 f4 f5;obtain⟨o,e,c,d⟩:=id st';exact⟨u,rfl,zoY (s:={s with heap:=h'}) e c d (by decide) ⟨x,H,I1,ru,⟨rfl,λys hy=>by rw[I.list_inj hy hq];exact hx⟩,st',λb hb=>(hf b hb).1⟩⟩
 done:=by
  intro X hP hw hK hc i pins s σ H E I hf st hg;subst hP hw hK;obtain⟨xs,hq,hx⟩:=hg;obtain⟨its,rv,p,hz⟩:=I.list hq;obtain⟨f0,f1,f2,f3,f4,f5⟩:=hf it (by simp);have hl:=rv.length;exact wpAny_pyNext_list_end (I.ok.hd hc) st p.isList (by simp;omega) λh' eb=>⟨rfl,I.turned (t':=s.toks) (λb o hb e=>eb b o hb e) f0 f1 f3 f4 f5⟩
 self:=λ_ _ _ _ _ st h=>wpAny_pyIter_listiter st h
def zjF{P:Program}{w:World}{K:zC}{tg:Expr}(a it:Addr):Turn P w K tg (Itt K a) [it] it (λi h=>h.IsTupleIter it a i)where
 mem:=by simp
 obj:=λi h st b hb=>by
  have e:b=it:=by simpa using hb
  subst e;obtain⟨o,e,c,d⟩:=st;exact⟨o,e,λv z=>by rw[d]at z;cases z⟩
 keep:=λi h h' st k=>st.at λo e=>k it (by simp) o e
 item:=by
  intro X hP hw hK hc i pins s σ H E I hf st hg;subst hP hw hK;obtain⟨xs,x,hq,hx⟩:=hg;obtain⟨its,rv,p,hz⟩:=I.tuple hq;obtain⟨u,hu,ru⟩:=rv.get hx;obtain⟨f0,f1,f2,f3,f4,f5⟩:=hf it (by simp);refine wpAny_pyNext_tuple_item st (show s.heap.IsTuple a its.toArray from p) (x:=u) (by simpa using hu) λh' st' sb=>?_;have I1:Inv X pins σ H {s with heap:=h'}:=I.turned (t':=s.toks) (λb o hb e=>(sb.2 b hb).trans e) f0 f1 f3 f4 f5;obtain⟨o,e,c,d⟩:=id st';exact⟨u,rfl,zoY (s:={s with heap:=h'}) e c d (by decide) ⟨x,H,I1,ru,⟨rfl,λys hy=>by rw[I.tuple_inj hy hq];exact hx⟩,st',λb hb=>(hf b hb).1⟩⟩
 done:=by
  intro X hP hw hK hc i pins s σ H E I hf st hg;subst hP hw hK;obtain⟨xs,hq,hx⟩:=hg;obtain⟨its,rv,p,hz⟩:=I.tuple hq;obtain⟨f0,f1,f2,f3,f4,f5⟩:=hf it (by simp);have hl:=rv.length;exact wpAny_pyNext_tuple_end (I.ok.hd hc) st (show s.heap.IsTuple a its.toArray from p) (by simp;omega) λh' eb=>⟨rfl,I.turned (t':=s.toks) (λb o hb e=>eb b o hb e) f0 f1 f3 f4 f5⟩
 self:=λ_ _ _ _ _ st h=>wpAny_pyIter_tupleiter st h
def ziT{P:Program}{w:World}{K:zC}{tg:Expr}(it:Addr)(lo:Int)(n:Nat):Turn P w K tg (Itr lo n) [it] it (λi h=>IsRangeIter h it (lo+(i:Nat)*1) ((n:Int)-(i:Nat)) 1)where
 mem:=by simp
 obj:=λi h st b hb=>by
  have e:b=it:=by simpa using hb
  subst e;exact⟨_,st,λv z=>by
   have z':Data.fields _=Data.cell v:=z;cases z'⟩
 keep:=λi h h' st k=>k it (by simp) _ st
 item:=by
  intro X hP hw hK hc i pins s σ H E I hf st hg;subst hP hw hK;obtain⟨f0,f1,f2,f3,f4,f5⟩:=hf it (by simp);have W:=Walks.range (prog:=X.prog) (w:=X.w) (I.ok.hd hc) it lo 1 n;refine W.item i s _ _ hg st λv h' tk hv st' kk=>?_;obtain⟨t,rfl⟩:=hv;have I1:Inv X pins σ H {s with heap:=h',toks:=tk}:=I.turned (λb o hb e=>kk b o (by simpa using hb) e) f0 f1 f3 f4 f5;refine⟨_,rfl,zoY (s:={s with heap:=h',toks:=tk}) (n:="range_iterator") st' rfl rfl (by decide) ⟨.int (lo+i),H,I1,⟨t, ?_⟩,⟨rfl,rfl⟩,st',λb hb=>(hf b hb).1⟩⟩;rw[Int.mul_one]
 done:=by
  intro X hP hw hK hc i pins s σ H E I hf st hg;subst hP hw hK;obtain⟨f0,f1,f2,f3,f4,f5⟩:=hf it (by simp);exact wpAny_pyNext_range_end (I.ok.hd hc) st (by have:n<=i:=hg;omega) λh' eb=>⟨rfl,I.turned (t':=s.toks) (λb o hb e=>eb b o hb e) f0 f1 f3 f4 f5⟩
 self:=λ_ _ _ _ _ st h=>wpAny_pyIter_rangeiter st h
end L2
namespace L2
open PySem PySem.Spec PyProof.Rows
section
variable{X:Cx}{tg:Expr}
def zum(K:zC)(tl:TE):TI:=λσ H R=>tl σ H λx H1=>∃a,x = .ref a/\(∃xs,SqL K H1 a xs)/\R (Itl K a) H1
def zvM(K:zC)(tl:TE):TI:=λσ H R=>tl σ H λx H1=>∃a,x = .ref a/\(∃xs,SqT K H1 a xs)/\R (Itt K a) H1
def zhi{l:Expr}{tl:TE}(hl:PE X l tl):PI X tg l (zum X.K tl):=by
 intro pins s σ H R I h;refine thn (hl pins s σ H _ I h) λv s1 ⟨x,H1,I1,r1,q1⟩=>?_;obtain⟨a,e,⟨xs,hq⟩,q⟩:=q1;subst e;cases r1;obtain⟨its,rv,p,hz⟩:=I1.list hq;refine wpAny_pyIter_list p.isList ?_;refine⟨s1.heap.objs.size,[s1.heap.objs.size],_,_,H1,rfl,I1.kept (t':=s1.toks) λb o e=>zxG _ e,zlD a _,⟨_,zxI _ rfl,rfl,rfl⟩,λb hb=>?_,q⟩;have e:b=s1.heap.objs.size:=by simpa using hb
 subst e;exact I1.fpOk (zzL _) (I1.hok.fresh (zzL _))
def zjy{l:Expr}{tl:TE}(hl:PE X l tl):PI X tg l (zvM X.K tl):=by
 intro pins s σ H R I h;refine thn (hl pins s σ H _ I h) λv s1 ⟨x,H1,I1,r1,q1⟩=>?_;obtain⟨a,e,⟨xs,hq⟩,q⟩:=q1;subst e;cases r1;obtain⟨its,rv,p,hz⟩:=I1.tuple hq;refine wpAny_pyIter_tuple (show s1.heap.IsTuple a its.toArray from p) ?_;refine⟨s1.heap.objs.size,[s1.heap.objs.size],_,_,H1,rfl,I1.kept (t':=s1.toks) λb o e=>zxG _ e,zjF a _,⟨_,zxI _ rfl,rfl,rfl⟩,λb hb=>?_,q⟩;have e:b=s1.heap.objs.size:=by simpa using hb
 subst e;exact I1.fpOk (zzL _) (I1.hok.fresh (zzL _))
def zmB{pins:List (Addr×Obj)}{σ:St}{H:Hp}{s:Shared}{R:It->Hp->Prop}{E:Value->Shared->Prop}{lo hi:Int}{t u v:Tok}{tk:Nat}(I:Inv X pins σ H s)(h1 : -(2 ^ 62)<=lo)(h2:lo<2 ^ 62)(h3 : -(2 ^ 62)<=hi)(h4:hi<2 ^ 62)
 (q:R (Itr lo (hi-lo).toNat) H):wpAny (model X.prog X.w) X.A (pyIter (.ref s.heap.objs.size)) (PIE X pins σ tg R) E {s with heap:=s.heap.push {cls:=.type "range",data:=.fields #[.int lo t,.int hi u,.int 1 v]},toks:=tk}:=by
 refine wpAny_pyIter_range (IsRange.new ..) (small_one h1 h2 h3 h4) ?_;have I1:Inv X pins σ H {s with heap:=s.heap.push {cls:=.type "range",data:=.fields #[.int lo t,.int hi u,.int 1 v]},toks:=tk}:=I.kept λb o e=>zxG _ e;refine⟨(s.heap.push {cls:=.type "range",data:=.fields #[.int lo t,.int hi u,.int 1 v]}).objs.size,[(s.heap.push {cls:=.type "range",data:=.fields #[.int lo t,.int hi u,.int 1 v]}).objs.size],_,_,H,rfl,
  I1.kept (t':=tk) λb o e=>zxG _ e,ziT _ lo (hi-lo).toNat, ?_,λb hb=>?_,q⟩
 · have e1:lo+((0:Nat):Int)*1=lo:=by simp
   have e2:(((hi-lo).toNat:Nat):Int)-((0:Nat):Int)=Builtin.Range.rangeSize lo hi 1:=by rw[rangeSize_one];split<;>omega
   show IsRangeIter _ _ (lo+((0:Nat):Int)*1) ((((hi-lo).toNat:Nat):Int)-((0:Nat):Int)) 1;rw[e1,e2];exact zxI _ rfl
 · have e:b=(s.heap.push {cls:=.type "range",data:=.fields #[.int lo t,.int hi u,.int 1 v]}).objs.size:=by simpa using hb
   subst e;exact I1.fpOk (zzL _) (I1.hok.fresh (zzL _))
def zui(ta:TA):TI:=λσ H R=>ta σ H λvs H1=>∃j:Int,vs=[.int j] /\ -(2 ^ 62)<=j/\j<2 ^ 62/\R (Itr 0 j.toNat) H1
def zfM{a:Expr}{ta:TA}{p pos:Pos}(hg:Gl X "range")(hm:X.mg "range"=none)(ha:PA X [a] ta)(hs:starEach [a] X.env=[(false,eval a X.env)]:=by rfl):PI X tg (.Call (.Name "range" p) [a] [] pos) (zui ta):=by
 intro pins s σ H R I h;refine Call_ (Ys I hg hm boot_range (PyProof.Rows.callWith_type1 (thn (ha pos pins s σ H _ I h) λus s1 ⟨vs,H1,I1,r1,q1⟩=>?_) hs rfl));obtain⟨j,e,q1,q2,q⟩:=q1;subst e;cases r1 with
 |cons r rr=>
  cases rr;obtain⟨t,rfl⟩:=r;exact call_range_1 (zmB I1 (by omega) (by omega) q1 q2 (by simpa using q))
def zvC(wi:TI)(g:TG)(tb:TS):TS:=λD σ H=>wi σ H λJ H1=>∃W:Nat->Nat->St->Hp->Prop,(∃m,W 0 m σ H1)/\∀i m σ H,W i m σ H->
 (J.stop i H/\D.nx σ H)\/(J.go i H/\∃N:St->Hp->Prop,(∀σ' H',N σ' H'->∃m',m'<m/\W (i+1) m' σ' H')/\∀x H',J.yld i H x H'->g x σ H' λσ2 H2=>tb {D with nx:=N,ct:=N,bk:=D.nx} σ2 H2)
def zeA(fp:List Addr)(h:Heap):List (Addr×Obj):=fp.filterMap λb=>(h.get? b).map λo=>(b,o)
def YT(hb:b ∈ fp)(e:h.get? b=some o):(b,o) ∈ zeA fp h:=List.mem_filterMap.mpr ⟨b,hb,by rw[e];rfl⟩
def zlT(hp:p ∈ zeA fp h):p.1 ∈ fp/\h.get? p.1=some p.2:=by
 obtain⟨b,hb,e⟩:=List.mem_filterMap.mp hp;cases q:h.get? b with
 |none=>rw[q]at e;cases e
 |some o=>
  rw[q]at e;have e':(b,o)=p:=zzX e;subst e';exact⟨hb,q⟩
def Inv.pinned(I:Inv X pins σ H s)(hf:∀b ∈ fp,zcR X pins H b)(ho:∀b ∈ fp,∃o,s.heap.get? b=some o/\∀v,o.data ≠ .cell v):Inv X (pins++zeA fp s.heap) σ H s:=
 I.pins_of λp hp=>(zzK.mp hp).elim (λz=>I.pin p (zzJ _ z)) λz=>by
  obtain⟨hb,e⟩:=zlT z;obtain⟨f0,f1,f2,_⟩:=hf p.1 hb;obtain⟨o,e',d⟩:=ho p.1 hb;rw[e]at e';cases e';exact⟨e,f0,f1,f2,d⟩
def Inv.unpinned(I:Inv X (pins++pl) σ H s):Inv X pins σ H s:=I.pins_of λp hp=>I.pin p (zzJ _ (zzN _ hp))
def zsx(hp:PassesOwn (model X.prog X.w) X.A X.env X.xe)(hc:X.calm=true)(hi:PI X tg iter wi)(hg:PG X tg g)(hb:PSs X body tb)
 (hs:∀x,foldedSetIterable iter X.env x=pure x:=by intro _;rfl):PS X (.For tg iter body [] pos) (zvC wi g tb):=by
 intro pins s σ H D I h;refine wpAny_For (thn (hi pins s σ H _ I h) λv s1 h1=>thn h1 λitv s2 h2=>?_) hs;obtain⟨it,fp,tn,J,H2,e,I2,T,st2,f2,W,⟨m0,w0⟩,turn⟩:=h2;subst e;have stat:∀{H':Hp},(∀b ∈ fp,H' b=none)->∀b ∈ fp,zcR X pins H' b:=λhn b hb=>⟨hn b hb,(f2 b hb).2⟩;refine codeAny_forLoop_any (λn s'=>∃i σ' H',Inv X pins σ' H' s'/\tn i s'.heap/\(∀b ∈ fp,H' b=none)/\W i n σ' H') ?_ m0 ⟨0,σ,H2,I2,st2,λb hb=>(f2 b hb).1,w0⟩
 rintro n s3 ⟨i,σ3,H3,I3,st3,fr3,w3⟩
 rcases turn i n σ3 H3 w3 with⟨stop,qn⟩|⟨go,N,hN,step⟩
 · refine wpAny_passesOwn hp (thn (T.done X rfl rfl rfl hc i pins s3 σ3 H3 X.xe I3 (stat fr3) st3 stop) λr s4 ⟨hr,I4⟩=>?_);subst hr;exact wpAny_execs_nil ⟨σ3,H3,I4,qn⟩
 · refine wpAny_passesOwn hp (thn (T.item X rfl rfl rfl hc i pins s3 σ3 H3 X.xe I3 (stat fr3) st3 go) λr s4 ⟨u,hr,h4⟩=>?_);subst hr;refine wpAny_passesOwn hp (thn h4 λ_ s5 ⟨x,H5,I5,r5,y5,st5,fr5⟩=>?_);have I5':=I5.pinned (stat fr5) (T.obj _ _ st5);refine wpAny_passesOwn hp (thn (hg _ s5 σ3 H5 x u _ I5' r5 (step x H5 y5)) λ_ s6 ⟨σ6,H6,I6,q6⟩=>?_);refine wpAny_passesOwn hp (thn (hb _ s6 σ6 H6 _ I6 q6) λf s7 q7=>?_);have again:∀{σ7:St}{H7:Hp},Inv X (pins++zeA fp s5.heap) σ7 H7 s7->N σ7 H7->∃m,m<n/\∃i σ' H',Inv X pins σ' H' s7/\tn i s7.heap/\(∀b ∈ fp,H' b=none)/\W i m σ' H':=λ{σ7 H7} I7 n7=>by
    obtain⟨m',hm,w7⟩:=hN σ7 H7 n7;refine⟨m',hm,i+1,σ7,H7,I7.unpinned,T.keep _ _ _ st5 λb hb o e=>(I7.pin (b,o) (zzJ _ (zzJ _ (YT hb e)))).1,λb hb=>?_,w7⟩;obtain⟨o,e,d⟩:=T.obj _ _ st5 b hb;exact(I7.pin (b,o) (zzJ _ (zzJ _ (YT hb e)))).2.1
   cases f with
   |next=>obtain⟨σ7,H7,I7,n7⟩:=q7;exact again I7 n7
   |cont=>obtain⟨σ7,H7,I7,n7⟩:=q7;exact again I7 n7
   |brk=>obtain⟨σ7,H7,I7,q7⟩:=q7;exact⟨σ7,H7,I7.unpinned,q7⟩
   |ret v=>obtain⟨x7,σ7,H7,I7,r7,q7⟩:=q7;exact⟨x7,σ7,H7,I7.unpinned,r7,q7⟩
end
end L2
namespace L2
open PySem PySem.Spec PyProof.Rows
abbrev R2:=V->V->Hp->VK->Prop
def OpR(X:Cx)(f:Value->Value->Sem Value)(r:R2):Prop:=
 ∀(pins:List (Addr×Obj)) (s:Shared) (σ:St) (H:Hp) (x y:V) (v u:Value) (Q:VK),Inv X pins σ H s->RelV x v->RelV y u->r x y H Q->
  wpAny (model X.prog X.w) X.A (f v u) (EP X pins σ Q) X.xe s
def XF(X:Cx)(f:Value)(r:List V->Hp->VK->Prop):Prop:=
 ∀(pins:List (Addr×Obj)) (s:Shared) (σ:St) (H:Hp) (xs:List V) (us:List Value) (Q:VK),Inv X pins σ H s->Vals xs us->r xs H Q->
  wpAny (model X.prog X.w) X.A (call f us) (EP X pins σ Q) X.xe s
def zvm(X:Cx)(r:V->Hp->(Bool->Hp->Prop)->Prop):Prop:=
 ∀(pins:List (Addr×Obj)) (s:Shared) (σ:St) (H:Hp) (x:V) (v:Value) (Q:Bool->Hp->Prop),Inv X pins σ H s->RelV x v->r x H Q->
  wpAny (model X.prog X.w) X.A (truthy v) (TP X pins σ Q) X.xe s
def tOp(r:R2)(ta tb:TE):TE:=λσ H Q=>ta σ H λx H1=>tb σ H1 λy H2=>r x y H2 Q
def rI(C:Int->Int->Prop)(g:Int->Int->V):R2:=λx y H Q=>∃i j,x = .int i/\y = .int j/\C i j/\Q (g i j) H
def rI0(g:Int->Int->V):R2:=λx y H Q=>∃i j,x = .int i/\y = .int j/\Q (g i j) H
section
variable{X:Cx}{a b c:Expr}{ta tb tc:TE}{pos:Pos}
def zsm(ha:PE X a ta)(hb:PE X b tb){pins:List (Addr×Obj)}{s:Shared}{σ:St}{H:Hp}{R:V->V->Hp->Prop}(I:Inv X pins σ H s)
 (h:ta σ H λx H1=>tb σ H1 λy H2=>R x y H2) {Q:Value->Shared->Prop}{f:Value->Value->Sem Value}
 (hf:∀v u s2 x y H2,Inv X pins σ H2 s2->RelV x v->RelV y u->R x y H2->wpAny (model X.prog X.w) X.A (f v u) Q X.xe s2):
 wpAny (model X.prog X.w) X.A (eval a X.env) (λv s₁=>wpAny (model X.prog X.w) X.A (eval b X.env) (λu s₂=>wpAny (model X.prog X.w) X.A (f v u) Q X.xe s₂) X.xe s₁) X.xe s:=by
 refine thn (ha pins s σ H _ I h) λv s1 ⟨x,H1,I1,r1,q1⟩=>?_;refine thn (hb pins s1 σ H1 _ I1 q1) λu s2 ⟨y,H2,I2,r2,q2⟩=>?_;exact hf v u s2 x y H2 I2 r1 r2 q2
def zrn{op:Operator}{r:R2}(ho:OpR X (binaryOp op) r)(ha:PE X a ta)(hb:PE X b tb):PE X (.BinOp a op b pos) (tOp r ta tb):=by
 intro pins s σ H Q I h;exact wpAny_BinOp (zsm ha hb I h λv u s2 x y H2 I2 rx ry q=>ho pins s2 σ H2 x y v u Q I2 rx ry q)
def opI{f:Value->Value->Sem Value}{C:Int->Int->Prop}{g:Int->Int->Int}
 (rule:∀(i j:Int) (t u:Tok) (s:Shared) (Q:Value->Shared->Prop) (E:Value->Shared->Prop),C i j->Q (.int (g i j) s.toks) {s with toks:=s.toks+1}->wpAny (model X.prog X.w) X.A (f (.int i t) (.int j u)) Q E s):
 OpR X f (rI C λi j=>.int (g i j)):=by
 intro pins s σ H x y v u Q I rx ry h;obtain⟨i,j,rfl,rfl,hc,q⟩:=h;obtain⟨t,rfl⟩:=rx;obtain⟨t',rfl⟩:=ry;exact rule i j t t' s _ _ hc ⟨.int (g i j),H,I.tok _,⟨_,rfl⟩,q⟩
def zuy{f:Value->Value->Sem Value}{g:Int->Int->Int}
 (rule:∀(i j:Int) (t u:Tok) (s:Shared) (Q:Value->Shared->Prop) (E:Value->Shared->Prop),Q (.int (g i j) s.toks) {s with toks:=s.toks+1}->wpAny (model X.prog X.w) X.A (f (.int i t) (.int j u)) Q E s):
 OpR X f (rI0 λi j=>.int (g i j)):=by
 intro pins s σ H x y v u Q I rx ry h;obtain⟨i,j,rfl,rfl,q⟩:=h;obtain⟨t,rfl⟩:=rx;obtain⟨t',rfl⟩:=ry;exact rule i j t t' s _ _ ⟨.int (g i j),H,I.tok _,⟨_,rfl⟩,q⟩
def zqm{f:Value->Value->Sem Value}{g:Int->Int->Bool}
 (rule:∀(i j:Int) (t u:Tok) (s:Shared) (Q:Value->Shared->Prop) (E:Value->Shared->Prop),Q (.bool (g i j)) s->wpAny (model X.prog X.w) X.A (f (.int i t) (.int j u)) Q E s):
 OpR X f (rI0 λi j=>.bl (g i j)):=by
 intro pins s σ H x y v u Q I rx ry h;obtain⟨i,j,rfl,rfl,q⟩:=h;obtain⟨t,rfl⟩:=rx;obtain⟨t',rfl⟩:=ry;exact rule i j t t' s _ _ ⟨.bl (g i j),H,I,rfl,q⟩
def zuZ(i j:Int):Prop:=0<j/\j<1073741824
def zwa(i j:Int):Prop:=0<=j/\j<=1000000/\i.natAbs<2 ^ 64
def zrD:OpR X (binaryOp .Add) (rI0 λi j=>.int (i+j)):=zuy λ_ _ _ _ _ _ _ q=>add_int q
def zsh:OpR X (binaryOp .Sub) (rI0 λi j=>.int (i-j)):=zuy λ_ _ _ _ _ _ _ q=>sub_int q
def zpd:OpR X (binaryOp .Mod) (rI (λ_ j=>0<j) λi j=>.int (i%j)):=opI λi j _ _ _ _ _ hc q=>by
 have h1:(0:Int)<j:=hc;exact mod_int' (by omega) (by rw[Int.fmod_eq_emod_of_nonneg i (by omega)];exact q)
def zru:OpR X (binaryOp .Pow) (rI zwa λi j=>.int (i ^ j.toNat)):=opI λ_ _ _ _ _ _ _ hc q=>pow_int_small hc.1 hc.2.1 hc.2.2 q
end
section
variable{X:Cx}{a b c:Expr}{ta tb tc:TE}{pos:Pos}
def xY(I:Inv X pins σ H s)(q:Q (.bl k) H)(e:k=k'):EP X pins σ Q (.bool k') s:=by
 subst e;exact⟨.bl k,H,I,rfl,q⟩
def zuq:OpR X (compareOp .Lt) (rI0 λi j=>.bl (decide (i<j))):=zqm λ_ _ _ _ _ _ _ q=>lt_int q
def ztI:OpR X (compareOp .LtE) (rI0 λi j=>.bl (decide (i<=j))):=zqm λ_ _ _ _ _ _ _ q=>le_int q
def zuI:OpR X (compareOp .Gt) (rI0 λi j=>.bl (decide (j<i))):=zqm λ_ _ _ _ _ _ _ q=>gt_int q
def ztK:OpR X (compareOp .GtE) (rI0 λi j=>.bl (decide (j<=i))):=zqm λ_ _ _ _ _ _ _ q=>ge_int q
def zmf:OpR X (compareOp .In) (λx y H Q=>∃i j,x = .str i/\y = .str j/\Q (.bl (!(Builtin.Str.occurrences j i 0 j.length 1).isEmpty)) H):=by
 intro pins s σ H x y v u Q I rx ry h;obtain⟨i,j,rfl,rfl,q⟩:=h;obtain⟨t,rfl⟩:=rx;obtain⟨t',rfl⟩:=ry;exact in_str (xY I q rfl)
def zst:OpR X (compareOp .Is) (λx y H Q=>y = .non/\Q (.bl (decide (x = .non))) H):=by
 intro pins s σ H x y v u Q I rx ry h;obtain⟨rfl,q⟩:=h;cases ry;refine is_none_gen (xY I q ?_);cases x<;>first
  |(cases rx;rfl)
  |(obtain⟨t,rfl⟩:=rx;rfl)
def zpQ:OpR X (compareOp .IsNot) (λx y H Q=>y = .non/\Q (.bl (!decide (x = .non))) H):=by
 intro pins s σ H x y v u Q I rx ry h;obtain⟨rfl,q⟩:=h;cases ry;refine isnot_none_gen (xY I q ?_);cases x<;>first
  |(cases rx;rfl)
  |(obtain⟨t,rfl⟩:=rx;rfl)
def zgF:OpR X (compareOp .NotIn) (λx y H Q=>∃i j,x = .str i/\y = .str j/\Q (.bl (!(!(Builtin.Str.occurrences j i 0 j.length 1).isEmpty))) H):=by
 intro pins s σ H x y v u Q I rx ry h;obtain⟨i,j,rfl,rfl,q⟩:=h;obtain⟨t,rfl⟩:=rx;obtain⟨t',rfl⟩:=ry;exact notIn_str (xY I q rfl)
def zoI(b:Expr)(h:op ≠ .In:=by decide)(h2:op ≠ .NotIn:=by decide):behindInMarks op b=false:=by
 have e1:(op==CmpOp.In)=false:=by cases op<;>first|rfl|exact absurd rfl h
 have e2:(op==CmpOp.NotIn)=false:=by cases op<;>first|rfl|exact absurd rfl h2
 cases b<;>simp[behindInMarks,e1,e2]
def zpj{op:CmpOp}{r:R2}(ho:OpR X (compareOp op) r)(ha:PE X a ta)(hb:PE X b tb)(hm:behindInMarks op b=false):PE X (.Compare a [op] [b] pos) (tOp r ta tb):=by
 intro pins s σ H Q I h;exact wpAny_Compare1 (zsm ha hb I h λv u s2 x y H2 I2 rx ry q=>ho pins s2 σ H2 x y v u Q I2 rx ry q) hm
def zrf(t:TE):TT:=λσ H Q=>t σ H λx H'=>∃k,x = .bl k/\Q k H'
def zqq(ho:OpR X (compareOp op) r)(ha:PE X a ta)(hb:PE X b tb)(hm:behindInMarks op b=false):PT X (.Compare a [op] [b] pos) (zrf (tOp r ta tb)):=by
 intro pins s σ H Q I h;refine wpAny_isTrue_Compare1 (thn (ha pins s σ H _ I h) λv s1 ⟨x,H1,I1,r1,q1⟩=>thn (hb pins s1 σ H1 _ I1 q1) λu s2 ⟨y,H2,I2,r2,q2⟩=>
  thn (ho pins s2 σ H2 x y v u _ I2 r1 r2 q2) λc s3 ⟨z,H3,I3,r3,k,e,q3⟩=>?_) hm
 subst e;cases r3;exact wpAny_truthy_bool ⟨H3,I3,q3⟩
def zmz(r r':R2)(ta tb tc:TE):TE:=λσ H Q=>ta σ H λx H1=>tb σ H1 λy H2=>r x y H2 λz H3=>∃k,z = .bl k/\
 (if k=true then tc σ H3 λw' H4=>r' y w' H4 Q else Q (.bl false) H3)
def znq(ho:OpR X (compareOp op) r)(ho':OpR X (compareOp op') r')(ha:PE X a ta)(hb:PE X b tb)(hc:PE X c tc)
 (hm:lastMarks [op,op'] [b,c]=false:=by with_unfolding_all rfl):PT X (.Compare a [op,op'] [b,c] pos) (zrf (zmz r r' ta tb tc)):=by
 intro pins s σ H Q I h;refine isTrue_chain (thn (ha pins s σ H _ I h) λv s1 ⟨x,H1,I1,r1,q1⟩=>test_link (thn (hb pins s1 σ H1 _ I1 q1) λu s2 ⟨y,H2,I2,r2,q2⟩=>
  thn (ho pins s2 σ H2 x y v u _ I2 r1 r2 q2) λd s3 ⟨z,H3,I3,r3,k,e,q3⟩=>?_)) hm
 subst e;cases r3;refine wpAny_truthy_bool ?_;cases k with
 |false=>
  obtain⟨k',e',q'⟩:=q3;cases e';exact ite_ff ⟨H3,I3,q'⟩
 |true=>
  refine ite_tt (test_last (thn (hc pins s3 σ H3 _ I3 q3) λw' s4 ⟨z',H4,I4,r4,q4⟩=>thn (ho' pins s4 σ H4 y z' u w' _ I4 r2 r4 q4) λd' s5 ⟨z2,H5,I5,r5,k2,e2,q5⟩=>?_));subst e2;cases r5;exact wpAny_truthy_bool ⟨H5,I5,q5⟩
def zsI(K:zC)(x:V)(H:Hp)(k:Bool):Prop:=
 match x with
 | .non=>k=false
 | .bl b=>k=b
 | .int i=>k=(i != 0)
 | .str y=>y.length<=sizeLine/\k=((y.length:Int) != 0)
 | .byt y=>y.size<=sizeLine/\k=((y.size:Int) != 0)
 | .ref p=>(∃xs,SqL K H p xs/\k = !xs.isEmpty)\/(∃xs,SqT K H p xs/\k = !xs.isEmpty)\/∃kvs,H p=some (.dK kvs)/\k = !kvs.isEmpty
 |_=>False
def zjP(r:KV kvs vs):(!vs.isEmpty) = !kvs.isEmpty:=by
 cases r<;>rfl
def zdS(r:Vals xs its):(!its.toArray.isEmpty) = !xs.isEmpty:=by
 cases r<;>simp
def zac:(sizeLine:Nat)<2 ^ 63:=by rw[sizeLine_eq];decide
def zsR:zvm X (λx H Q=>∃k,zsI X.K x H k/\Q k H):=by
 intro pins s σ H x v Q I rx h;obtain⟨k,e,q⟩:=h;have hl:=zac;have hs:sizeLine=16777216:=sizeLine_eq;cases x with
 |non=>
  cases rx;have e':k=false:=e;subst e';exact truthy_none ⟨H,I,q⟩
 |bl b=>
  cases rx;have e':k=b:=e;subst e';exact wpAny_truthy_bool ⟨H,I,q⟩
 |int i=>
  obtain⟨t,rfl⟩:=rx;have e':k=(i != 0):=e;subst e';exact PySem.P.truthy_int ⟨H,I,q⟩
 |str y=>
  obtain⟨t,rfl⟩:=rx;obtain⟨hy,e'⟩:y.length<=sizeLine/\k=((y.length:Int) != 0):=e;subst e';exact PySem.P.truthy_str (by omega) ⟨H,I.tok _,q⟩
 |byt y=>
  obtain⟨t,rfl⟩:=rx;obtain⟨hy,e'⟩:y.size<=sizeLine/\k=((y.size:Int) != 0):=e;subst e';exact PySem.W.truthy_bytes (by omega) ⟨H,I.tok _,q⟩
 |ref p=>
  cases rx;have e':(∃xs,SqL X.K H p xs/\k = !xs.isEmpty)\/(∃xs,SqT X.K H p xs/\k = !xs.isEmpty)\/∃kvs,H p=some (.dK kvs)/\k = !kvs.isEmpty:=e
  rcases e' with⟨xs,hx,e'⟩|⟨xs,hx,e'⟩|⟨kvs,hx,e'⟩
  · subst e';obtain⟨its,r,pl,hz⟩:=I.list hx;have hlen:=r.length;exact wpAny_truthy_list pl.isList (by simp only[zzF];omega) ⟨H,I.tok _,by rw[zdS r];exact q⟩
  · subst e';obtain⟨its,r,pl,hz⟩:=I.tuple hx;have hlen:=r.length;exact truthy_tuple pl (by simp only[zzF];omega) ⟨H,I.tok _,by rw[zdS r];exact q⟩
  · subst e';obtain⟨hz,hS,vs,r,m⟩:kvs.length<=sizeLine/\(p==sysModules)=false/\∃vs,KV kvs vs/\s.heap.DictOf (xu X.prog X.w) p vs:=I.hok p _ hx;have hlen:kvs.length=vs.length:=Paired.length r;exact wpAny_truthy_dict hS m (by omega) ⟨H,I.tok _,by rw[zjP r];exact q⟩
 |_=>exact(show False from e).elim
def zoV(ha:PE X a ta)(he:∀whole,isTrue a X.env whole=(do let v <-whole;standAt a.pos;holding [v] (truthy v))):
 PT X a (λσ H Q=>ta σ H λx H'=>∃k,zsI X.K x H' k/\Q k H'):=by
 intro pins s σ H Q I h;exact isTrue_plain (thn (ha pins s σ H _ I h) λv s1 ⟨x,H1,I1,r1,q1⟩=>zsR pins s1 σ H1 x v Q I1 r1 q1) (he _)
def zjR:OpR X (binaryOp .Add) (λx y H Q=>∃i j,x = .str i/\y = .str j/\i.length+j.length<=sizeLine/\Q (.str (i++j)) H):=by
 intro pins s σ H x y v u Q I rx ry h;obtain⟨i,j,rfl,rfl,hz,q⟩:=h;obtain⟨t,rfl⟩:=rx;obtain⟨t',rfl⟩:=ry;exact add_str (λt' tk=>⟨.str (i++j),H,I.tok _,⟨_,rfl⟩,q⟩) hz
def vals1(r:Vals [x] us):∃u,us=[u]/\RelV x u:=by
 cases r with
 |cons r1 r2=>cases r2;exact⟨_,rfl,r1⟩
def vals2(r:Vals [x,y] us):∃u w',us=[u,w']/\RelV x u/\RelV y w':=by
 cases r with
 |cons r1 r2=>
  cases r2 with
  |cons r3 r4=>cases r4;exact⟨_,_,rfl,r1,r3⟩
def zlP(hc:X.calm=true):XF X (.builtin "max") (λxs H Q=>∃i j,xs=[.int i,.int j]/\Q (.int (if j > i then j else i)) H):=by
 intro pins s σ H xs us Q I r h;obtain⟨i,j,rfl,q⟩:=h;obtain⟨u,w',rfl,⟨t,rfl⟩,⟨t',rfl⟩⟩:=vals2 r;refine max_two_ints (I.ok.hd hc) λh' tk k=>⟨_,H,I.kept k, ?_,q⟩
 by_cases hj:j > i
 · rw[if_pos hj,if_pos hj];exact⟨_,rfl⟩
 · rw[if_neg hj,if_neg hj];exact⟨_,rfl⟩
def zfr:XF X (.type "int") (λxs H Q=>(∃i,xs=[.int i]/\Q (.int i) H)\/∃k,xs=[.bl k]/\Q (.int (if k then 1 else 0)) H):=by
 intro pins s σ H xs us Q I r h
 rcases h with⟨i,rfl,q⟩|⟨k,rfl,q⟩
 · obtain⟨u,rfl,t,rfl⟩:=vals1 r;exact call_int_int ⟨.int i,H,I,⟨_,rfl⟩,q⟩
 · obtain⟨u,rfl,r1⟩:=vals1 r;cases r1;exact call_int_bool ⟨.int (if k then 1 else 0),H,I.tok _,⟨_,rfl⟩,q⟩
def ziC:XF X (.builtin "divmod") (λxs H Q=>∃i j,xs=[.int i,.int j]/\zuZ i j/\∀p,H p=none->Q (.ref p) (upd H p (.tup [.int (i/j),.int (i%j)]))):=by
 intro pins s σ H xs us Q I r h;obtain⟨i,j,rfl,⟨h1,h2⟩,q⟩:=h;obtain⟨u,w',rfl,⟨t,rfl⟩,⟨t',rfl⟩⟩:=vals2 r;refine divmod_int (by omega) ?_ (.inl (PyProof.noPylong_small (by omega)));rw[Int.fdiv_eq_ediv_of_nonneg i (by omega),Int.fmod_eq_emod_of_nonneg i (by omega)];have hn:H s.heap.objs.size=none:=I.hok.fresh (zzL _);refine⟨.ref s.heap.objs.size,_, ?_,rfl,q _ hn⟩;refine I.laid (λb o e=>zxG _ e) (zzL _) ⟨by simp only[zzR,List.length_nil];rw[sizeLine_eq];decide,[.int (i/j) s.toks,.int (i%j) (s.toks+1)],.cons ⟨_,rfl⟩ (.cons ⟨_,rfl⟩ .nil), ?_⟩;exact⟨_,zxI s.heap rfl,rfl,0,rfl⟩
end
end L2
namespace L2
open PySem PySem.Spec PyProof.Rows
structure ObjM(h:Heap)(x dx C:Addr)(mA:Str->Option Value):Prop where
 obj:h.get? x=some (PySem.W.instObj C dx)
 ns:h.Ns1 dx mA
 ne:dx≠x
def zlG{h:Heap}{dx:Addr}{mA:Str->Option Value}(n:h.Ns1 dx mA):∃od,h.get? dx=some od/\∀name,PySem.W.lookIn name od=some (mA name):=by
 obtain⟨o,es,ep,ho,hd,hk,_,hm⟩:=n;refine⟨o,ho,λname=>?_⟩;have e:=hm name;unfold nsFind findBy at e;rw[<-Array.find?_toList]at e;unfold PySem.W.lookIn;rw[hd];dsimp only
 split
 · rename_i y q;rw[q]at e;exact congrArg some e
 · rename_i q;rw[q]at e;have a:es.toList.any (·.refKey)=false:=by
    rw[List.any_eq_false];intro y hy;obtain⟨z,t,hkey⟩:=hk y (Array.mem_toList_iff.mp hy);simp[DictEntry.refKey,hkey]
   have a':¬es.toList.any (·.refKey)=true:=by rw[a];exact zyU
   rw[if_neg a'];exact congrArg some e
def WK.some_of(r:WK (some v) o):∃u,o=some u/\RelV v u:=by
 cases o with
 |none=>exact(show False from r).elim
 |some u=>exact⟨u,rfl,r⟩
def zlS(r:RelV v u):PySem.W.handedIn u=true:=by
 cases v with
 |non=>cases(show u=Value.none from r);rfl
 |bl b=>cases(show u=Value.bool b from r);rfl
 |int i=>obtain⟨t,e⟩:=(show ∃t,u=Value.int i t from r);cases e;rfl
 |str x=>obtain⟨t,e⟩:=(show ∃t,u=Value.str x t from r);cases e;rfl
 |byt b=>obtain⟨t,e⟩:=(show ∃t,u=Value.bytes b t from r);cases e;rfl
 |flt b=>obtain⟨t,e⟩:=(show ∃t,u=Value.float b t from r);cases e;rfl
 |ref a=>cases(show u=Value.ref a from r);rfl
 |ty n=>cases(show u=Value.type n from r);rfl
structure Cls(K:zC)(C:Addr):Prop where
 pg:PySem.W.plainGet K C Str.empty=true
 hd:PySem.W.hasDictIn K C=true
 po:PySem.W.plainOver K C=true
 sa:PySem.W.findIn K (.ref C) "__setattr__"=some (some (.builtin "object.__setattr__"))
structure Con(K:zC)(C:Addr)(f:Str)(v:V)(u:Value):Prop where
 at_:PySem.W.findIn K (.ref C) f=some (some u)
 rel:RelV v u
 get:PySem.W.specialIn K u "__get__"=some none
 cp:PySem.W.copiedNames.contains f=false
structure Meth(K:zC)(C:Addr)(m:Str)(f:Addr):Prop where
 at_:PySem.W.findIn K (.ref C) m=some (some (.ref f))
 fn:PySem.W.isFn K (.ref f)=true
 kp:PySem.W.keepIn K (.ref f)=true
section
variable{X:Cx}{pins:List (Addr×Obj)}{σ:St}{H:Hp}{s:Shared}{a C dx:Addr}{fs:List (Str×V)}{f:Str}{v:V}{A:Around}{E:Value->Shared->Prop}
def zpD(hb:attributeBase e f env (eval e env)=eval e env)
 (h:wpAny (model prog w) A (eval e env) (λo s₁=>wpAny (model prog w) A (getAttr o f true) Q E s₁) E s):wpAny (model prog w) A (eval (.Attribute e f pos) env) Q E s:=
 Attribute_any_ h (by rw[arm_eval_Attribute,hb])
end
section
variable{X:Cx}{pins:List (Addr×Obj)}{σ:St}{H:Hp}{s:Shared}{A:Around}{E:Value->Shared->Prop}{Q:Value->Shared->Prop}{c:Value}{b:Bool}
inductive TyOf(K:zC)(H:Hp):V->Value->Prop where
 |non:TyOf K H .non (.type "NoneType")
 |bl (x:Bool):TyOf K H (.bl x) (.type "bool")
 |int (i:Int):TyOf K H (.int i) (.type "int")
 |str (x:Str):TyOf K H (.str x) (.type "str")
 |flt (x:UInt64):TyOf K H (.flt x) (.type "float")
 |lst {a:Addr}{xs:List V}(e:H a=some (.lst xs)):TyOf K H (.ref a) (.type "list")
 |frz {a:Addr}{o:Obj}{xs:List V}(e:H a=some (.frz o (.lst xs))):TyOf K H (.ref a) (.type "list")
 |tup {a:Addr}{xs:List V}(e:H a=some (.tup xs)):TyOf K H (.ref a) (.type "tuple")
 |dK {a:Addr}{kvs:List (Key×V)}(e:H a=some (.dK kvs)):TyOf K H (.ref a) (.type "dict")
 |dT {a:Addr}{kvs:List (List Key×V)}(e:H a=some (.dT kvs)):TyOf K H (.ref a) (.type "dict")
 |ins {a C dx:Addr}{fs:List (Str×V)}(e:H a=some (.ins C dx fs)) (cl:Cls K C) (ha:PySem.W.findIn K (.ref C) "__class__"=some (some (.builtin "object.__class__")))
  (hn:PySem.W.specialIn K (.builtin "object.__class__") "__get__"=some (some (.builtin "getset_descriptor.__get__"))) (htk:PySem.W.takesIn K (.builtin "object.__class__")=some true)
  (hm:PySem.W.mroIn K C (.type "object")=some true):TyOf K H (.ref a) (.ref C)
end
end L2
namespace L2
open PySem PySem.Spec PyProof.Rows
structure Room(k:Nat)(A:Around):Prop where
 hd:A.handled=none
 dp:A.depth+3*k+5<recursionLimit
 un:A.units+16*k+200<cLine
 gd:A.guards=some []
def Room.mono(r:Room k A)(h:j<=k):Room j A:=⟨r.hd,by have:=r.dp;omega,by have:=r.un;omega,r.gd⟩
def Room.deeper(r:Room (k+1) A)(env:Env):Room k (A.deeper env):=
 ⟨r.hd,by have:=r.dp;show A.depth+1+3*k+5<_;omega,by have:=r.un;show A.units+3+16*k+200<_;omega,r.gd⟩
def zjd{A:Around}{C:Addr}{us:List Value}{kw:List (Str×Value)}:(A.under (.builtin "type.__call__" ⟨.ref C::us,kw⟩)).depth=A.depth+1:=by
 first|rfl|simp[Around.under,Code.weight,Code.isCreation,Code.isGuard,Code.isCaller,Code.frames,Code.isFrame,guardIds]
def ziX{A:Around}{C:Addr}{us:List Value}{kw:List (Str×Value)}:(A.under (.builtin "type.__call__" ⟨.ref C::us,kw⟩)).units=A.units+1:=by
 first|rfl|simp[Around.under,Code.cUnits,Code.frames,Code.isFrame]
def ziy{A:Around}{C:Addr}{us:List Value}{kw:List (Str×Value)}:(A.under (.builtin "type.__call__" ⟨.ref C::us,kw⟩)).guards=A.guards:=by
 first|rfl|simp[Around.under,Code.guards,Code.isGuard,guardIds,PySem.pushGuards]
def Room.make{k:Nat}{A:Around}(r:Room (k+1) A)(C:Addr)(us:List Value)(kw:List (Str×Value)):Room k (A.under (.builtin "type.__call__" ⟨.ref C::us,kw⟩)):=
 ⟨r.hd,by have:=r.dp;rw[zjd];omega,by have:=r.un;rw[ziX];omega,by rw[ziy];exact r.gd⟩
def Room.depth(r:Room k A):A.depth<recursionLimit:=by have:=r.dp;omega
def Room.units(r:Room k A):A.units+64<cLine:=by have:=r.un;omega
def zuO:TA:=λ_ H Q=>Q [] H
def zqP(ta:TE)(tr:TA):TA:=λσ H Q=>ta σ H λx H1=>tr σ H1 λxs H2=>Q (x::xs) H2
section
variable{X:Cx}{e:Expr}{es:List Expr}{te:TE}{t:TA}{pos:Pos}
def Yu:PA X [] zuO:=λ_ _ _ _ H Q I h=>Calls.spliced_nil ⟨[],H,I,.nil,h⟩
def yZ(ha:PE X e te)(hr:PA X es t)(hs:starEach (e::es) X.env=(false,eval e X.env)::starEach es X.env:=by rfl):PA X (e::es) (zqP te t):=by
 intro pos pins s σ H Q I h;rw[hs];show wpAny _ _ (spliced ((false,eval e X.env)::backTo pos (starEach es X.env))) _ _ s;refine Calls.spliced_cons (thn (ha pins s σ H _ I h) λu s1 ⟨x,H1,I1,r1,q1⟩=>?_);exact thn (hr pos pins s1 σ H1 _ I1 q1) λus s2 ⟨xs,H2,I2,r2,q2⟩=>⟨x::xs,H2,I2,.cons r1 r2,q2⟩
def zvz(t:TA):TE:=λσ H Q=>t σ H λxs H1=>xs.length<=sizeLine/\∀p,H1 p=none->Q (.ref p) (upd H1 p (.tup xs))
def zvB(t:TA):TE:=λσ H Q=>t σ H λxs H1=>xs.length<=sizeLine/\∀p,H1 p=none->Q (.ref p) (upd H1 p (.lst xs))
def zoU(h:PA X es t):PE X (.Tuple es x1 pos) (zvz t):=by
 intro pins s σ H Q I hq;refine wpAny_Tuple_spliced (thn (h pos pins s σ H _ I hq) λus s1 ⟨xs,H1,I1,r,z,q⟩=>⟨by rw[<-r.length];exact z, ?_⟩);have hf:H1 s1.heap.objs.size=none:=I1.hok.fresh (zzL _);refine⟨.ref s1.heap.objs.size,upd H1 s1.heap.objs.size (.tup xs),I1.laid (t':=s1.toks) (λb u e=>zxG _ e) (zzL _) ?_,rfl,q _ hf⟩;exact⟨z,us,r,⟨_,zxI _ rfl,rfl,_,rfl⟩⟩
def ztD(h:PA X es t):PE X (.List es pos) (zvB t):=by
 intro pins s σ H Q I hq;refine wpAny_List_spliced (thn (h pos pins s σ H _ I hq) λus s1 ⟨xs,H1,I1,r,z,q⟩=>⟨by rw[<-r.length];exact z, ?_⟩);have hf:H1 s1.heap.objs.size=none:=I1.hok.fresh (zzL _);refine⟨.ref s1.heap.objs.size,upd H1 s1.heap.objs.size (.lst xs),I1.laid (t':=s1.toks) (λb u e=>zxG _ e) (zzL _) ?_,rfl,q _ hf⟩;exact⟨z,us,0,r,zxI _ rfl⟩
end
abbrev Sp:=List V->Hp->VK->XK->Prop
abbrev CXT:=List Env->Hp->Shared->XK->Value->Shared->Prop
structure Env0(P:Program)(w:World)(K:zC)(mg:Str->Option Value)(base:Heap)(A:Around)(outer:List Env)(s:Shared)(H:Hp):Prop where
 frames:A.frames=some outer
 mod:Mod K mg base
 bs:∀b o,base.get? b=some o->s.heap.get? b=some o/\H b=none
 bsz:base.objs.size<=s.heap.objs.size
 funs:s.heap.FunFrames base outer
 frf:∀b ∈ frs outer,H b=none
 hok:HOk P w H s.heap
 bare:AllBare s.gens
def CE(outer:List Env)(P:Program)(w:World)(H:Hp)(s:Shared)(Q:VK)(u:Value)(s':Shared):Prop:=
 ∃v H',s'.os=s.os/\AllBare s'.gens/\Un (frs outer) [] H H' s.heap s'.heap/\HOk P w H' s'.heap/\RelV v u/\Q v H'
def CR(CX:CXT)(outer:List Env)(P:Program)(w:World)(H:Hp)(s:Shared)(Q:VK)(E:XK)(r:Result)(s':Shared):Prop:=
 match r with
 | .ok (.ret u)=>CE outer P w H s Q u s'
 | .ok _=>False
 | .error e=>CX outer H s E e s'
structure FnOk(P:Program)(w:World)(K:zC)(mg:Str->Option Value)(base:Heap)(CX:CXT)(k:Nat)(f:Addr)(fd:FuncData)(ps:List Str)(sp:Sp):Prop where
 len:∀vs H Q E,sp vs H Q E->vs.length=ps.length
 run:∀(A:Around) (outer:List Env) (s:Shared) (H:Hp) (args:Args) (us:List Value) (vs:List V) (Q:VK) (E:XK),Room k A->Env0 P w K mg base A outer s H->BindsTo s fd args (ps.zip us)->Vals vs us->sp vs H Q E->
  codeAny (model P w) A (.call (.ref f) args) (CR CX outer P w H s Q E) s
def FnOk.imp{P:Program}{w:World}{K:zC}{mg:Str->Option Value}{base:Heap}{CX:CXT}{k:Nat}{f:Addr}{fd:FuncData}{ps:List Str}{sp sp':Sp}(F:FnOk P w K mg base CX k f fd ps sp)
 (h:∀vs H Q E,sp' vs H Q E->sp vs H Q E):FnOk P w K mg base CX k f fd ps sp':=
 ⟨λvs H Q E q=>F.len vs H Q E (h _ _ _ _ q),λA outer s H args us vs Q E hr he hb hv hs=>F.run A outer s H args us vs Q E hr he hb hv (h _ _ _ _ hs)⟩
def Env0.make{P:Program}{w:World}{K:zC}{mg:Str->Option Value}{base:Heap}{A:Around}{outer:List Env}{s:Shared}{H:Hp}(e:Env0 P w K mg base A outer s H)(C:Addr)(us:List Value)(kw:List (Str×Value)):
 Env0 P w K mg base (A.under (.builtin "type.__call__" ⟨.ref C::us,kw⟩)) outer s H:=⟨by first|exact e.frames|(simpa[Around.under,Code.envs,Code.isFrame,pushEnvs]using e.frames),e.mod,e.bs,e.bsz,e.funs,e.frf,e.hok,e.bare⟩
section
variable{X:Cx}{pins:List (Addr×Obj)}{σ:St}{H:Hp}{s s':Shared}
def Inv.env0(I:Inv X pins σ H s):Env0 X.prog X.w X.K X.mg X.base X.A X.stack s H:=
 ⟨I.ok.frames,I.ok.mod,I.bs,zzM I.ok.bsz I.sz,I.stack,I.stkFree,I.hok,I.bare⟩
def Inv.after(I:Inv X pins σ H s)(h:CE X.stack X.prog X.w H s Q u s'):EP X pins σ Q u s':=by
 obtain⟨v,H',os,bare,un,hok,r,q⟩:=h;obtain⟨hh,g,d,t,os'⟩:=s';obtain rfl:os'=s.os:=os;exact⟨v,H',I.call (h':=hh) (g':=g) (d':=d) (t':=t) (ch:=[]) un hok bare (λb z=>absurd z (by simp)),r,q⟩
end
def zrs(sp:Sp)(dvs:List V)(E:XK)(t:TA):TE:=λσ H Q=>t σ H λvs H1=>sp (vs++dvs) H1 Q E
def Binds(K:zC)(fd:FuncData)(ps:List Str)(ds:List Value):Prop:=
 ∀(s:Shared) (us:List Value),K.In s.heap->(us++ds).length=ps.length->BindsTo s fd ⟨us,[]⟩ (ps.zip (us++ds))
def Binds.all{K:zC}{fd:FuncData}{ps:List Str}(h:∀us:List Value,us.length=ps.length->bindArgs fd ⟨us,[]⟩=pure (ps.zip us)):Binds K fd ps []:=λs us _ hl=>by
 rw[zyC]at hl ⊢;exact .of_eq (h us hl)
def zhr(CX:CXT)(X:Cx)(E:XK):Prop:=∀(pins:List (Addr×Obj)) (σ:St) (H:Hp) (s:Shared) (e:Value) (s':Shared),Inv X pins σ H s->CX X.stack H s E e s'->X.xe e s'
section
variable{X:Cx}{CX:CXT}{k:Nat}{f C:Addr}{fd:FuncData}{ps:List Str}{sp:Sp}{dvs:List V}{ds:List Value}{E:XK}{x m:Str}{p pos apos:Pos}{e o:Expr}{es:List Expr}{ta:TE}{t:TA}
def zrx(F:FnOk X.prog X.w X.K X.mg X.base CX k f fd ps sp)(hr:Room k X.A)(hb:Binds X.K fd ps ds)(hd:Vals dvs ds)(hx:zhr CX X E)
 (I:Inv X pins σ H s) (r:Vals vs us) (h:sp (vs++dvs) H Q E):wpAny (model X.prog X.w) X.A (call (.ref f) us) (EP X pins σ Q) X.xe s:=by
 have r2:Vals (vs++dvs) (us++ds):=r.append hd;have hl:(us++ds).length=ps.length:=by rw[<-r2.length];exact F.len _ _ _ _ h
 refine wpAny_call (codeAny_mono (F.run X.A X.stack s H ⟨us,[]⟩ (us++ds) (vs++dvs) Q E hr I.env0 (hb s us I.kIn hl) r2 h) λr s' hq=>?_);cases r with
 |error e=>exact hx pins σ H s e s' I hq
 |ok fl=>
  cases fl with
  |ret u=>exact I.after hq
  |next=>exact False.elim hq
  |brk=>exact False.elim hq
  |cont=>exact False.elim hq
def zph(F:FnOk X.prog X.w X.K X.mg X.base CX k f fd ps sp)(hr:Room k X.A)(hg:Gl X x)(hm:X.mg x=some (.ref f))(hk:PySem.W.keepIn X.K (.ref f)=true)(hb:Binds X.K fd ps ds)(hd:Vals dvs ds)(hx:zhr CX X E)
 (ha:PA X (e::es) t) (hdb:(x==("__debug__":Str))=false:=by decide) (he:starEach (e::es) X.env=(false,eval e X.env)::starEach es X.env:=by rfl) (hpl:(backTo pos (starEach es X.env)).any (·.1)=false:=by rfl):
 PE X (.Call (.Name x p) (e::es) [] pos) (zrs sp dvs E t):=by
 intro pins s σ H Q I h;refine wpAny_Call_Name_kw (W9 I hg hm ?_ hdb);refine PySem.W.callWith_K (h₀:=X.base) I.ok.mod.kin hk (thn (ha pos pins s σ H _ I h) λus s1 ⟨vs,H1,I1,r,q⟩=>⟨I1.kIn, ?_⟩) he hpl;exact zrx F hr hb hd hx I1 r q
structure Mk(K:zC)(C f:Addr):Prop where
 makes:PySem.W.makesIn K C=true
 init:PySem.W.findIn K (.ref C) "__init__"=some (some (.ref f))
 fn:PySem.W.isFn K (.ref f)=true
 kp:PySem.W.keepIn K (.ref C)=true
end
section
variable{X:Cx}{CX:CXT}{k:Nat}{f C:Addr}{fd:FuncData}{ps ks:List Str}{sp:Sp}{E:XK}{x m:Str}{p pos apos kpos:Pos}{e o:Expr}{es:List Expr}{kws:List Keyword}{te ta:TE}{t tk:TA}{nm:Option Str}
structure KBinds(K:zC)(fd:FuncData)(ps ks:List Str)(g:List Value->List Value->List Value)(gV:List V->List V->List V):Prop where
 to:∀(s:Shared) (us ws:List Value),K.In s.heap->(g us ws).length=ps.length->BindsTo s fd ⟨us,ks.zip ws⟩ (ps.zip (g us ws))
 rel:∀{vs:List V}{us:List Value}{zs:List V}{ws:List Value},Vals vs us->Vals zs ws->Vals (gV vs zs) (g us ws)
variable{g:List Value->List Value->List Value}{gV:List V->List V->List V}
end
structure FnScope(N P:List Str)(sc:Scope):Prop where
 kind:sc.kind = .function
 co:sc.isCoroutine=false
 gen:sc.isGenerator=false
 nd:N.Nodup
 pre:N.take P.length=P
 par:∀x ∈ P,sc.names.lookup x=some .local\/sc.names.lookup x=some .cell
 nofree:∀y ∈ sc.names,y.2 ≠ .free
theorem zfO{kindOf:Str->Option NameKind}{x:Str}:∀{binds:List (Str×Value)}{m:Str->Option Value},(∀v,(x,v) ∉ binds)->bindL kindOf binds m x=m x
 | [],_,_=>rfl
 |(n,v)::r,m,h=>by
  unfold bindL;rw[zfO λw hw=>h w (zzB _ hw)]
  split
  · have:x≠n:=by rintro rfl;exact h v zzD
    simp[this]
  · rfl
theorem zfP{kindOf:Str->Option NameKind}{x:Str}:∀{binds:List (Str×Value)}{m:Str->Option Value},(∀v,(x,v) ∉ binds)->bindC kindOf binds m x=m x
 | [],_,_=>rfl
 |(n,v)::r,m,h=>by
  unfold bindC;rw[zfP λw hw=>h w (zzB _ hw)]
  split
  · rfl
  · have:x≠n:=by rintro rfl;exact h v zzD
    simp[this]
theorem zfD{kindOf:Str->Option NameKind}{x:Str}{v:Value}:∀{P:List Str}{vs:List Value}{i:Nat}{m:Str->Option Value},P.Nodup->P[i]? = some x->vs[i]? = some v->kindOf x=some .local->
 bindL kindOf (P.zip vs) m x=some v
 | [],_,_,_,_,h,_,_=>by simp at h
 |_::_,[],_,_,_,_,h,_=>by simp at h
 |p::P,w::vs,0,m,nd,h1,h2,hk=>by
  simp at h1 h2;subst h1;subst h2;show bindL kindOf ((p,w)::P.zip vs) m p=_;unfold bindL;rw[zfO λv hv=>(zzU.mp nd).1 (List.of_mem_zip hv).1,if_pos hk];simp
 |p::P,w::vs,i+1,m,nd,h1,h2,hk=>by
  show bindL kindOf ((p,w)::P.zip vs) m x=_;unfold bindL;exact zfD (i:=i) (zzU.mp nd).2 (by simpa using h1) (by simpa using h2) hk
theorem zfH{kindOf:Str->Option NameKind}{x:Str}{v:Value}:∀{P:List Str}{vs:List Value}{i:Nat}{m:Str->Option Value},P.Nodup->P[i]? = some x->vs[i]? = some v->kindOf x≠some .local->
 bindC kindOf (P.zip vs) m x=some v
 | [],_,_,_,_,h,_,_=>by simp at h
 |_::_,[],_,_,_,_,h,_=>by simp at h
 |p::P,w::vs,0,m,nd,h1,h2,hk=>by
  simp at h1 h2;subst h1;subst h2;show bindC kindOf ((p,w)::P.zip vs) m p=_;unfold bindC;rw[zfP λv hv=>(zzU.mp nd).1 (List.of_mem_zip hv).1,if_neg hk];simp
 |p::P,w::vs,i+1,m,nd,h1,h2,hk=>by
  show bindC kindOf ((p,w)::P.zip vs) m x=_;unfold bindC;exact zfH (i:=i) (zzU.mp nd).2 (by simpa using h1) (by simpa using h2) hk
def start(N:List Str)(vs:List V):St:=vs.map some++List.replicate (N.length-vs.length) none
def Xg(CX:CXT)(P:Program)(w:World)(K:zC)(mg:Str->Option Value)(base:Heap)(N:List Str)(qual:Str)(scope:Scope)(f:Addr)(cd:Value)(A:Around)(outer:List Env)(s:Shared)(H:Hp)(E:XK):Cx where
 prog:=P
 w:=w
 K:=K
 mg:=mg
 base:=base
 A:=A.deeper (envOfC qual scope s.heap.objs.size f cd)
 N:=N
 s₀:=s
 H₀:=H
 env:=envOfC qual scope s.heap.objs.size f cd
 outer:=outer
 stack:=envOfC qual scope s.heap.objs.size f cd::outer
 ex:=[]
 calm:=true
 fn:=λ_=>true
 pn:=[]
 xe:=λe s'=>wpAny (model P w) (A.deeper (envOfC qual scope s.heap.objs.size f cd)) (leaving (envOfC qual scope s.heap.objs.size f cd) e) (λ_ s''=>CX outer H s E e s'') (λe' s''=>CX outer H s E e' s'') s'
def zhF{sc:Scope}{n:Nat}{x:Str}(h:sc.names.lookup x=some .cell):∃c,(cellsFrom n sc.names []).lookup x=some c:=by
 have q:=PySem.W.cellsFrom_some sc.names n [] (.inl h);exact Option.isSome_iff_exists.mp q
def zlo{CX:CXT}{P:Program}{w:World}{K:zC}{mg:Str->Option Value}{base:Heap}{N ps:List Str}{qual:Str}{scope:Scope}{f:Addr}{cd:Value}{A:Around}{outer:List Env}{s s1:Shared}{H:Hp}{E:XK}{us:List Value}{vs:List V}
 (S:FnScope N ps scope) (hd:A.handled=none) (e0:Env0 P w K mg base A outer s H) (hl:vs.length=ps.length) (r:Vals vs us)
 (x:InCallC s s.heap.objs.size (bindL (envOfC qual scope s.heap.objs.size f cd).kindOf (ps.zip us) λ_=>none) (cellsFrom (s.heap.objs.size+1) scope.names []) (bindC (envOfC qual scope s.heap.objs.size f cd).kindOf (ps.zip us) λ_=>none) s1):
 Inv (Xg CX P w K mg base N qual scope f cd A outer s H E) [] (start N vs) H s1:=by
 have hpl:ps.length<=N.length:=by have:=congrArg List.length S.pre;rw[zzQ]at this;omega
 obtain⟨h1,tk,rfl,hk⟩:=x.done;have noA:∀b:Addr,b ∉ (Xg CX P w K mg base N qual scope f cd A outer s H E).ex:=λb z=>absurd (show b ∈ ([]:List Addr)from z) (by simp);refine⟨⟨e0.mod,S.kind,rfl,rfl,zzL _,λy z c h1 h2=>?_,λy hy=>?_,λy c _ h=>?_,λ_=>hd,Around.frames_deeper e0.frames,.inr ⟨rfl,rfl⟩,λb z=>absurd z (noA b),e0.bs,e0.bsz,λb _ _=>noA b,λb z=>absurd z (noA b),e0.funs,e0.frf⟩,
  rfl,e0.bare,Un.kept hk,⟨_,x.toInCall.ns,λi y v h1 h2 h3=>?_⟩,λy c h=>⟨_,x.cell y c h⟩,e0.hok.fresh (zzL _),λy c h=>?_,λp hp=>absurd (show p ∈ ([]:List (Addr×Obj))from hp) (by simp),e0.hok.kept hk, ?_⟩
 · exact name_of_addr x.apart (PySem.mem_of_lookup h1) (PySem.mem_of_lookup h2)
 · have hy:scope.names.lookup y=some .cell\/scope.names.lookup y=some .free:=hy
   rcases hy with hy|hy
   · exact zhF hy
   · exact absurd rfl (S.nofree _ (PySem.mem_of_lookup hy))
 · exact Nat.le_of_lt (x.above y c (PySem.mem_of_lookup h))
 · have hi:i<vs.length:=by
    unfold start at h2
    by_cases hi:i<vs.length
    · exact hi
    · rw[zyP (by simpa using hi)]at h2;rw[List.getElem?_replicate]at h2
      split at h2<;>cases h2
   have ha:vs[i]? = some v:=by
    unfold start at h2;rw[zyN (by simpa using hi),zzG]at h2;cases e:vs[i]? with
    |none=>rw[e]at h2;cases h2
    |some a=>rw[e]at h2;cases h2;rfl
   obtain⟨u,hu,rv⟩:=r.get ha;have hp:ps[i]? = some y:=by
    rw[<-S.pre,List.getElem?_take_of_lt (by omega)];exact h1
   have ndP:ps.Nodup:=by rw[<-S.pre];exact S.nd.sublist (List.take_sublist _ _)
   refine⟨u,rv, ?_⟩
   rcases S.par y (zzY hp)with k|k
   · exact .inl ⟨k,zfD ndP hp hu k⟩
   · obtain⟨c,e⟩:=zhF (n:=s.heap.objs.size+1) k;refine .inr ⟨.inl k,c,e, ?_⟩;have q:=x.cell y c e;rw[zfH ndP hp hu (by show scope.names.lookup y≠_;rw[k];decide)]at q;exact q
 · exact e0.hok.fresh (Nat.le_of_lt (x.above y c (PySem.mem_of_lookup h)))
 · unfold start;show _=N.length;rw[zzH,zD,List.length_replicate];omega
def zne{CX:CXT}{P:Program}{w:World}{K:zC}{mg:Str->Option Value}{base:Heap}{k:Nat}{f:Addr}{name qual:Str}{params:Arguments}{body:List Stmt}{scope:Scope}{dV kV doc pm cdv ct oc:Value}{an od:Option Addr}
 {osl:Array (Option Value)}{N ps:List Str}{sp:Sp}(lk:K.lookup f=some ⟨oc,od,.func (PySem.W.fnOf name qual params body scope dV kV doc pm an cdv ct),osl⟩) (hcd:PySem.W.codeIn K cdv qual=true) (S:FnScope N ps scope)
 (len:∀vs H Q E,sp vs H Q E->vs.length=ps.length)
 (hbody:∀(A:Around) (outer:List Env) (s:Shared) (H:Hp) (vs:List V) (Q:VK) (E:XK),Room k (A.deeper (envOfC qual scope s.heap.objs.size f cdv))->sp vs H Q E->
  ∃t,PSs (Xg CX P w K mg base N qual scope f cdv A outer s H E) body t/\t {nx:=λ_ H'=>Q .non H',rt:=Q} (start N vs) H):
 FnOk P w K mg base CX (k+1) f (PySem.W.fnOf name qual params body scope dV kV doc pm an cdv ct) ps sp:=by
 refine⟨len,λA outer s H args us vs Q E hr e0 hb r hsp=>?_⟩;have hl:=len _ _ _ _ hsp;have KX:K.In s.heap:=e0.mod.kin.keeps λb o e=>(e0.bs b o e).1;have lim:s.heap.NoLimit:=e0.mod.nolimit.keeps λb o e=>(e0.bs b o e).1;have hkind:∀y ∈ ps.zip us,scope.names.lookup y.1=some .local\/(scope.names.lookup y.1=some .cell/\((cellsFrom (s.heap.objs.size+1) scope.names []).lookup y.1).isSome=true):=λ⟨n,v⟩ hy=>by
  rcases S.par n (List.of_mem_zip hy).1 with q|q
  · exact .inl q
  · exact .inr ⟨q,PySem.W.cellsFrom_some _ _ _ (.inl q)⟩
 refine codeAny_call_function hr.depth (KX _ _ lk) rfl S.co S.gen rfl (PySem.W.codeRec_of KX hcd) (hb _ _ _ _ ?_);refine wpAny_newFunctionEnv_cells S.kind hkind λenv he s1 x=>?_;subst he;refine⟨lim.keeps x.toInCall.keep,codeAny_func ?_⟩;obtain⟨t,ht,hq⟩:=hbody A outer s H vs Q E (hr.deeper _) hsp;have I:Inv (Xg CX P w K mg base N qual scope f cdv A outer s H E) [] (start N vs) H s1:=zlo S hr.hd e0 hl r x;refine zxO (ht [] s1 (start N vs) H _ I hq) (λfl s' hs=>?_) λe s' hs=>hs;have fin:∀{σ':St}{H':Hp}{v:V}{u:Value},Inv (Xg CX P w K mg base N qual scope f cdv A outer s H E) [] σ' H' s'->RelV v u->Q v H'->CE outer P w H s Q u s':=
  λ{σ' H' v u} J rv q=>⟨v,H',J.os,J.bare,J.base,J.hok,rv,q⟩
 cases fl with
 |ret u=>
  obtain⟨v,σ',H',J,rv,q⟩:=hs;exact fin J rv q
 |next=>
  obtain⟨σ',H',J,q⟩:=hs;exact fin (v:=V.non) (u:=Value.none) J rfl q
 |brk=>
  obtain⟨_,_,_,q⟩:=hs;exact False.elim q
 |cont=>
  obtain⟨_,_,_,q⟩:=hs;exact False.elim q
end L2
namespace L2
open PySem PySem.Spec PyProof.Rows
section
variable{X:Cx}{x:Str}{p pos:Pos}{e:Expr}{es:List Expr}{t:TA}{id T:String}{r:List V->Hp->VK->Prop}
def tCB(r:List V->Hp->VK->Prop)(t:TA):TE:=λσ H Q=>t σ H λvs H1=>r vs H1 Q
def zak(hc:XF X (.builtin id) r)(hg:Gl X x)(hm:X.mg x=none)(hv:bootBuiltins x=some (.builtin id))(ha:PA X (e::es) t)(hn:x≠"__name__":=by decide)(hdb:(x==("__debug__":Str))=false:=by decide)
 (he:starEach (e::es) X.env=(false,eval e X.env)::starEach es X.env:=by rfl) (hpl:(backTo pos (starEach es X.env)).any (·.1)=false:=by rfl):PE X (.Call (.Name x p) (e::es) [] pos) (tCB r t):=by
 intro pins s σ H Q I h;refine wpAny_Call_Name_kw (Ys I hg hm hv ?_ hn hdb);exact PyProof.Rows.callWith_builtin1 (thn (ha pos pins s σ H _ I h) λus s1 ⟨vs,H1,I1,r1,q1⟩=>hc pins s1 σ H1 vs us Q I1 r1 q1) he hpl
def zlZ(hc:XF X (.type T) r)(hg:Gl X x)(hm:X.mg x=none)(hv:bootBuiltins x=some (.type T))(ha:PA X (e::es) t)(hn:x≠"__name__":=by decide)(hdb:(x==("__debug__":Str))=false:=by decide)
 (he:starEach (e::es) X.env=(false,eval e X.env)::starEach es X.env:=by rfl) (hpl:(backTo pos (starEach es X.env)).any (·.1)=false:=by rfl):PE X (.Call (.Name x p) (e::es) [] pos) (tCB r t):=by
 intro pins s σ H Q I h;refine wpAny_Call_Name_kw (Ys I hg hm hv ?_ hn hdb);exact PyProof.Rows.callWith_type1 (thn (ha pos pins s σ H _ I h) λus s1 ⟨vs,H1,I1,r1,q1⟩=>hc pins s1 σ H1 vs us Q I1 r1 q1) he hpl
end
end L2
namespace L2
open PySem PySem.Spec PyProof.Rows
section
variable{κ:Type}[DecidableEq κ]
def vP(kvs:List (κ×V))(k:κ):Option V:=(kvs.find? λkv=>decide (kv.1=k)).map (·.2)
def putK(kvs:List (κ×V))(k:κ)(v:V):List (κ×V):=
 if(kvs.any λkv=>decide (kv.1=k))=true then kvs.map (λkv=>if kv.1=k then(kv.1,v)else kv)else kvs++[(k,v)]
def zem{p:κ×V}{r:List (κ×V)}{k:κ}(e:p.1=k):vP (p::r) k=some p.2:=by simp[vP,List.find?_cons,e]
def zdF{p:κ×V}{r:List (κ×V)}{k:κ}(e:¬p.1=k):vP (p::r) k=vP r k:=by simp[vP,List.find?_cons,e]
theorem zeT(k:κ):∀kvs:List (κ×V),(kvs.any λkv=>decide (kv.1=k))=(vP kvs k).isSome
 | []=>rfl
 |p::r=>by
  rw[List.any_cons]
  by_cases e:p.1=k
  · simp only[zem e,zyM e,Bool.true_or,Option.isSome_some]
  · rw[zdF e,zyE e,Bool.false_or];exact zeT k r
def WK.isSome_eq(r:WK o u):o.isSome=u.isSome:=by
 cases o with
 |none=>cases u with
  |none=>rfl
  |some _=>exact(show False from r).elim
 |some _=>cases u with
  |none=>exact(show False from r).elim
  |some _=>rfl
def KV.val{kvs:List (κ×V)}{vs:List (κ×Value)}(r:KV kvs vs)(k:κ):WK (vP kvs k) (valueAt vs k):=by
 unfold KV at r
 induction r with
 |nil=>exact True.intro
 | @cons p q ps qs h t ih=>
  obtain⟨h1,h2⟩:=h
  by_cases e:p.1=k
  · have e':q.1=k:=h1.symm.trans e;have b:valueAt (q::qs) k=some q.2:=by simp[valueAt,List.find?_cons,e']
    rw[zem e,b];exact h2
  · have e':¬q.1=k:=λz=>e (h1.trans z);have b:valueAt (q::qs) k=valueAt qs k:=by simp[valueAt,List.find?_cons,e']
    rw[zdF e,b];exact ih
def KV.length(r:KV kvs vs):kvs.length=vs.length:=Paired.length r
end
def zbO(r:RelV (kV k) u):(xu P w).is k u=true:=by
 cases k with
 |inl i=>obtain⟨t,e⟩:=(show ∃t,u=Value.int i t from r);subst e;exact zhJ P w i t
 |inr x=>obtain⟨t,e⟩:=(show ∃t,u=Value.str x t from r);subst e;exact Wf P w x t
def zuD(e:kO v=some k)(r:RelV v u):(xu P w).is k u=true:=by
 cases v with
 |int i=>cases e;exact zbO (k:=.inl i) r
 |str x=>cases e;exact zbO (k:=.inr x) r
 |bl b=>cases e;rw[show u=Value.bool b from r];exact zmX b
 |_=>cases e
theorem zfS:∀{ks:List Key}{vs:List V}{us:List Value},vs.map kO=ks.map some->Vals vs us->ItemsAre (xu P w) ks us
 | [],[],_,_,r=>by cases r;exact .nil
 | [],_::_,_,e,_=>by simp at e
 |_::_,[],_,e,_=>by simp at e
 |k::ks,v::vs,_,e,r=>by
  rw[zyQ,zyQ]at e;injection e with e1 e2
  cases r with
  |cons h t=>exact .cons (zuD e1 h) (zfS e2 t)
abbrev KT(H:Hp):List (List Key×V)->List (List Key×Addr×Value)->Prop:=Paired λp q=>p.1=q.1/\KC H q.2.1 p.1/\RelV p.2 q.2.2
def KT.val{H:Hp}{kvs:List (List Key×V)}{xs:List (List Key×Addr×Value)}(r:KT H kvs xs)(k:List Key):WK (vP kvs k) ((atKey xs k).map (·.2)):=by
 induction r with
 |nil=>exact True.intro
 | @cons p q ps qs h t ih=>
  obtain⟨h1,_,h2⟩:=h
  by_cases e:p.1=k
  · have e':q.1=k:=h1.symm.trans e;have b:atKey (q::qs) k=some q.2:=by simp[atKey,List.find?_cons,e']
    rw[zem e,b];exact h2
  · have e':¬q.1=k:=λz=>e (h1.trans z);have b:atKey (q::qs) k=atKey qs k:=by simp[atKey,List.find?_cons,e']
    rw[zdF e,b];exact ih
def KT.repl(r:KT H kvs xs)(k:List Key)(ry:RelV y u):
 KT H (kvs.map λkv=>if kv.1=k then(kv.1,y)else kv) (xs.map (putAt k u)):=by
 induction r with
 |nil=>exact .nil
 | @cons p q ps qs h t ih=>
  rw[zyQ,zyQ];refine .cons ?_ ih;obtain⟨h1,h2,h3⟩:=h;unfold putAt
  by_cases e:p.1=k
  · rw[if_pos e,if_pos (h1.symm.trans e)];exact⟨h1,h2,ry⟩
  · rw[if_neg e,if_neg (λz=>e (h1.trans z))];exact⟨h1,h2,h3⟩
def KT.put(r:KT H kvs xs)(k:List Key)(hb:KC H b k)(ry:RelV y u):
 KT H (putK kvs k y) (storedH xs k b u):=by
 have e:(kvs.any λkv=>decide (kv.1=k))=(atKey xs k).isSome:=by
  rw[zeT,(r.val k).isSome_eq,Option.isSome_map]
 unfold putK storedH;rw[e]
 by_cases q:(atKey xs k).isSome=true
 · rw[if_pos q,if_pos q];exact r.repl k ry
 · rw[if_neg q,if_neg q];exact Paired.snoc r ⟨rfl,hb,ry⟩
def KT.keeps(r:KT H kvs xs)(ht:∀b ys,H b=some (.tup ys)->H' b=some (.tup ys)):KT H' kvs xs:=
 Paired.mapP r λ_ _ z=>⟨z.1,z.2.1.mono λys=>ht _ ys,z.2.2⟩
section
variable{P:Program}{w:World}{H:Hp}{h:Heap}{a:Addr}
def zre(ok:HOk P w H h)(e:Rd H a u):wL P w H h a u:=e.ok ok
def zkv(ok:HOk P w H h)(e:Rd H a (.dK kvs)):kvs.length<=sizeLine/\(a==sysModules)=false/\∃vs,KV kvs vs/\h.DictOf (xu P w) a vs:=
 show wL P w H h a (.dK kvs)from zre ok e
def zdJ(ok:HOk P w H h)(e:KC H a ks):(tupleKind (xu P w)).is h ks a:=by
 obtain⟨vs,e,ek⟩:=e;obtain⟨_,its,r,o,h1,h2,n,h3⟩:=(show wL P w H h a (.tup vs)from ok a _ e);exact⟨o,its.toArray,n,h1,h2,h3,by simpa using zfS ek r⟩
def ziF(ok:HOk P w H h)(e:Rd H a (.dT kvs)):kvs.length<=sizeLine/\(a==sysModules)=false/\
 ∃xs,KT H kvs xs/\h.DictOfH (tupleKind (xu P w)) a xs:=by
 obtain⟨z,y,xs,r,o,es,ep,h1,h2,h3,h4,h5⟩:=(show wL P w H h a (.dT kvs)from zre ok e);refine⟨z,y,xs,r,o,es,ep,h1,h2,h3,h4,λx hx=>?_,h5⟩;have all:∀{l:List (List Key×V)}{m:List (List Key×Addr×Value)},KT H l m->∀x ∈ m,(tupleKind (xu P w)).is h x.1 x.2.1:=by
  intro l m q
  induction q with
  |nil=>intro x hx;exact nomatch hx
  | @cons p q ps qs hq t ih=>
   intro x hx
   rcases zzA.mp hx with e|hx
   · subst e;exact zdJ ok (by rw[<-hq.1];exact hq.2.1)
   · exact ih x hx
 exact all r x hx
def zrm(ok:HOk P w H h)(e:H a=some (.dT kvs)):kvs.length<=sizeLine/\(a==sysModules)=false/\
 ∃xs,KT H kvs xs/\h.DictOfH (tupleKind (xu P w)) a xs:=ziF ok (.inl e)
end
def zhC(H:Hp)(a:Addr)(y:V)(r:Option V):Prop:=
 (∃kvs k,Rd H a (.dK kvs)/\y=kV k/\r=vP kvs k)\/∃kvs k b,Rd H a (.dT kvs)/\y = .ref b/\KC H b k/\r=vP kvs k
def zhC.t{H:Hp}{a b:Addr}{kvs:List (List Key×V)}{k:List Key}(e:H a=some (.dT kvs))(eb:KC H b k):zhC H a (.ref b) (vP kvs k):=.inr ⟨kvs,k,b,.inl e,rfl,eb,rfl⟩
section
variable{X:Cx}{pins:List (Addr×Obj)}{σ:St}{H:Hp}{s:Shared}{a:Addr}{y v:V}{u r:Value}{o:Option V}{A:Around}{E:Value->Shared->Prop}
def Inv.big(I:Inv X pins σ H s):sysModules<s.heap.objs.size:=by
 have h:mainGlobals<s.heap.objs.size:=(I.mod.glob.keeps I.bk).lt;exact Nat.lt_trans (by decide) h
def zlz(hu:A.units+1<cLine)(I:Inv X pins σ H s)(g:zhC H a y (some v))(ry:RelV y u)(h:∀w' s',Inv X pins σ H s'->RelV v w'->Q w' s'):
 wpAny (model X.prog X.w) A (getItem (.ref a) u) Q E s:=by
 rcases g with⟨kvs,k,e,ey,l⟩|⟨kvs,k,b,e,ey,eb,l⟩
 · subst ey;obtain⟨z,hd,vs,rel,dd⟩:=zkv I.hok e;obtain⟨w',hw,rw'⟩:=WK.some_of (v:=v) (o:=valueAt vs k) (by rw[l];exact rel.val k);exact wpAny_getItem_of (zbO ry) dd.mapOf hw (h w' _ (I.tok _) rw')
 · subst ey;cases(show u=Value.ref b from ry);obtain⟨z,hd,xs,rel,dd⟩:=ziF I.hok e;obtain⟨w',hw,rw'⟩:=WK.some_of (v:=v) (o:=(atKey xs k).map (·.2)) (by rw[l];exact rel.val k);obtain⟨p,hp,hp2⟩:=zzV.mp hw;refine wpAny_getItem_heap (tupleKind_room_in1 hu) (zdJ I.hok eb) dd hp ?_;rw[hp2];exact h w' _ (I.tok _) rw'
def zvx(hu:A.units+1<cLine)(I:Inv X pins σ H s)(g:zhC H a y o)(ry:RelV y u)(h:∀s',Inv X pins σ H s'->Q (.bool o.isSome) s'):
 wpAny (model X.prog X.w) A (compareOp .In u (.ref a)) Q E s:=by
 rcases g with⟨kvs,k,e,ey,l⟩|⟨kvs,k,b,e,ey,eb,l⟩
 · subst ey;obtain⟨z,hd,vs,rel,dd⟩:=zkv I.hok e;refine wpAny_in_of (zbO ry) hd dd.mapOf ?_;rw[<-(rel.val k).isSome_eq,<-l];exact h _ (I.tok _)
 · subst ey;cases(show u=Value.ref b from ry);obtain⟨z,hd,xs,rel,dd⟩:=ziF I.hok e;refine wpAny_in_heap (tupleKind_room_in1 hu) (zdJ I.hok eb) hd dd ?_;have q:=(rel.val k).isSome_eq;rw[Option.isSome_map]at q;rw[<-q,<-l];exact h _ (I.tok _)
def zqJ(hu:A.units+1<cLine)(I:Inv X pins σ H s)(g:zhC H a y o)(ry:RelV y u)(h:∀s',Inv X pins σ H s'->Q (.bool (!o.isSome)) s'):
 wpAny (model X.prog X.w) A (compareOp .NotIn u (.ref a)) Q E s:=by
 rcases g with⟨kvs,k,e,ey,l⟩|⟨kvs,k,b,e,ey,eb,l⟩
 · subst ey;obtain⟨z,hd,vs,rel,dd⟩:=zkv I.hok e;refine wpAny_notIn_of (zbO ry) hd dd.mapOf ?_;rw[<-(rel.val k).isSome_eq,<-l];exact h _ (I.tok _)
 · subst ey;cases(show u=Value.ref b from ry);obtain⟨z,hd,xs,rel,dd⟩:=ziF I.hok e;refine wpAny_notIn_heap (tupleKind_room_in1 hu) (zdJ I.hok eb) hd dd ?_;have q:=(rel.val k).isSome_eq;rw[Option.isSome_map]at q;rw[<-q,<-l];exact h _ (I.tok _)
def zpg(I:Inv X pins σ H s)(mu:Mut (H a))(hs:Heap.SameBut a s.heap h')(he:∃q,h'.get? a=some q)(new:wL X.prog X.w (upd H a ob) h' a ob):
 Inv X pins σ (upd H a ob) {s with heap:=h',toks:=t'}:=
 I.write (x:=a) (e:=a) mu (.inl rfl) (λb q hb z=>(hs.2 b hb).trans z) he new
end
def zox(h:Heap)(hb:sysModules<h.objs.size):wL P w H (h.push {cls:=.type "dict",data:=.dict #[]}) h.objs.size (.dT []):=
 ⟨Nat.zero_le _,beq_eq_false_iff_ne.mpr (Ne.symm (zzO hb)),[],.nil,_,#[],0,zxI _ rfl,⟨rfl,rfl,rfl⟩,rfl,rfl,zyH⟩
def zsX:TE:=λ_ H Q=>∀p,H p=none->Q (.ref p) (upd H p (.dT []))
section
variable{X:Cx}{pos:Pos}
def znQ:PE X (.Dict [] [] pos) zsX:=λpins s σ H Q I h=>
 wpAny_Dict_empty ⟨.ref s.heap.objs.size,_,I.laid (a:=s.heap.objs.size) (o:=.dT []) (t':=s.toks) (λ_ _ q=>zxG _ q) (zzL _) (zox s.heap I.big),rfl,h _ (I.hok.fresh (zzL _))⟩
end
structure M1(X:Cx)(o:Expr)(m:Str)(apos:Pos)(e:Expr)(cpos:Pos):Prop where
 base:attributeBase o m X.env (eval o X.env)=eval o X.env
 few:((backTo cpos (starEach [e] X.env)).all (λx=>!x.1)&&(backToKw cpos (keywordEach [] X.env)).all (λx=>x.1.isSome)
  && decide (([e]:List Expr).length+([]:List Keyword).length+(if([]:List Keyword).isEmpty then 0 else 1)<30))=true
 line:(apos.endLine==cpos.line)=true
 trees:backTo cpos (starEach [e] X.env)=[(false,eval e X.env)]
structure M2(X:Cx)(o:Expr)(m:Str)(apos:Pos)(e f:Expr)(cpos:Pos):Prop where
 base:attributeBase o m X.env (eval o X.env)=eval o X.env
 few:((backTo cpos (starEach [e,f] X.env)).all (λx=>!x.1)&&(backToKw cpos (keywordEach [] X.env)).all (λx=>x.1.isSome)
  && decide (([e,f]:List Expr).length+([]:List Keyword).length+(if([]:List Keyword).isEmpty then 0 else 1)<30))=true
 line:(apos.endLine==cpos.line)=true
 trees:backTo cpos (starEach [e,f] X.env)=[(false,eval e X.env),(false,eval f X.env)]
end L2
namespace HT
open PySem PyProof.Rows
section
variable{prog:Program}{w:World}{A:Around}{E:Value->Shared->Prop}{s:Shared}
def zqA(ht:IsTup s.heap t vs.toArray)(hb:IsTup s.heap b ws.toArray)(hv:vs≠[])
 (h1:ws=[]->Q (.ref t) s) (h2:ws≠[]->Q (.ref s.heap.objs.size) {s with heap:=s.heap.push {cls:=.type "tuple",data:=.seq (vs++ws).toArray}})
 (hsz:vs.length+ws.length<=sizeLine):wpAny (model prog w) A (binaryOp .Add (.ref t) (.ref b)) Q E s:=by
 obtain⟨⟨cls,dd,data,sl⟩,ho,hc,n,hd⟩:=id ht;obtain⟨⟨cls2,dd2,data2,sl2⟩,ho2,hc2,n2,hd2⟩:=id hb;simp only at hc hd hc2 hd2;subst hc hd hc2 hd2;have e:vs.toArray++ws.toArray=(vs++ws).toArray:=by simp
 by_cases hw:ws=[]
 · exact concat_meets ⟨_,ho,rfl⟩ ⟨_,ho2,rfl⟩ noFill_tuple_add seq_tuple_add PySem.F.slot_tuple_add PySem.F.entry_tuple_add (PySem.F.args_tuple_add_2 _ _)
    (tuple_addW1 t b vs.toArray ws.toArray n n2 dd dd2 sl sl2 (by simpa using hv) (by simp[hw])) ⟨ho,ho2,h1 hw⟩
 · refine concat_meets ⟨_,ho,rfl⟩ ⟨_,ho2,rfl⟩ noFill_tuple_add seq_tuple_add PySem.F.slot_tuple_add PySem.F.entry_tuple_add (PySem.F.args_tuple_add_2 _ _)
    (tuple_addW2 t b vs.toArray ws.toArray n n2 dd dd2 sl sl2 (by simpa using hv) (by simpa using hw) (by rw[zzF,zzF];exact hsz)) ⟨ho,ho2, ?_⟩
   rw[e];exact h2 hw
def sIx(n d:Nat):Option Int->Nat
 |none=>d
 |some v=>if v<0 then(v+(n:Int)).toNat else min v.toNat n
def zhW(n d:Nat):sIx n d none=d:=rfl
def zdh(n d k:Nat):sIx n d (some (k:Int))=min k n:=by
 show(if(k:Int)<0 then((k:Int)+(n:Int)).toNat else min (k:Int).toNat n)=min k n;rw[if_neg (by omega),zyG]
def zrB(n d:Nat)(hd:d<=n)(o:Option Int):sIx n d o<=n:=by
 cases o with
 |none=>exact hd
 |some v=>
  show(if v<0 then(v+(n:Int)).toNat else min v.toNat n)<=n
  by_cases hv:v<0
  · rw[if_pos hv];omega
  · rw[if_neg hv];exact Nat.min_le_right _ _
def zkw(v:Int)(n d:Nat):(if v<0 then max (v+(n:Int)) 0 else min v (n:Int))=((sIx n d (some v):Nat):Int):=by
 show(if v<0 then max (v+(n:Int)) 0 else min v (n:Int))=(((if v<0 then(v+(n:Int)).toNat else min v.toNat n):Nat):Int)
 by_cases hv:v<0
 · simp only[if_pos hv];omega
 · simp only[if_neg hv];omega
def zjQ(lo hi:Option Int)(n:Nat):Builtin.Slice.sliceAdjust lo hi 1 (n:Int)=(((sIx n 0 lo:Nat):Int),((sIx n n hi:Nat):Int)):=by
 have h1:¬((1:Int)<0):=by omega
 unfold Builtin.Slice.sliceAdjust;simp only[h1,if_false];refine Prod.ext ?_ ?_
 · cases lo with
   |none=>rfl
   |some v=>exact zkw v n 0
 · cases hi with
   |none=>rfl
   |some v=>exact zkw v n n
def zjp(i j:Nat):Builtin.Slice.slicePlaces (i:Int) (j:Int) 1=j-i:=by
 unfold Builtin.Slice.slicePlaces;have h1:(1:Int) > 0:=by omega
 simp only[h1,if_true,Int.ediv_one]
 split<;>omega
def zdI(p:IsPart v o)(h:Q o s):wpAny (model prog w) A (Builtin.Slice.slicePartIndex v) Q E s:=by
 cases p with
 |none=>exact slicePart_none h
 |int i t=>exact slicePart_int h
def zbG{sl:Addr}{vl vu:Value}{lo hi:Option Int}{n:Nat}{Q:Int×Int×Nat->Shared->Prop}(hs:s.heap.IsSliceOf sl vl vu .none)(pl:IsPart vl lo)(pu:IsPart vu hi)
 (h:Q (((sIx n 0 lo:Nat):Int),1,sIx n n hi-sIx n 0 lo) s):wpAny (model prog w) A (Builtin.Slice.sliceApplied (.ref sl) (pure (n:Int))) Q E s:=by
 obtain⟨os,hos,hcs,hds⟩:=id hs;unfold Builtin.Slice.sliceApplied Builtin.Slice.sliceFields;refine zxE (zxE (wpAny_field hos hds (x:=vl) rfl (zxE (wpAny_field hos hds (x:=vu) rfl (zxE (wpAny_field hos hds (x:=.none) rfl (zxF ?_)))))));refine zxE (slicePart_none ?_);show wpAny _ _ (if((1:Int)==0)=true then _ else _) _ _ s;rw[if_neg (by decide)];refine zxE (zdI pl (zxE (zdI pu (zxE (zxF ?_)))));show wpAny _ _ (match Builtin.Slice.sliceAdjust lo hi 1 (n:Int)with|(lo,hi)=>pure (lo,(1:Int),Builtin.Slice.slicePlaces lo hi 1)) _ _ s;rw[zjQ lo hi n];show wpAny _ _ (pure (((sIx n 0 lo:Nat):Int),(1:Int),Builtin.Slice.slicePlaces ((sIx n 0 lo:Nat):Int) ((sIx n n hi:Nat):Int) 1)) _ _ s;rw[zjp];exact zxF h
def zog(xs:Array Value)(i k:Nat):((List.range k).filterMap λ(m:Nat)=>xs[((i:Int)+(m:Int)*1).toNat]?).toArray=((xs.toList.drop i).take k).toArray:=by
 have e:(λ(m:Nat)=>xs[((i:Int)+(m:Int)*1).toNat]?)=λm=>xs[i+m]? := by
  funext m;have:((i:Int)+(m:Int)*1).toNat=i+m:=by omega
  rw[this]
 rw[e];have:=pick_run xs i k;rw[List.filterMap_map]at this;have e2:((λx=>xs[x]?)∘λx=>i+x)=λm=>xs[i+m]? := rfl;rw[e2]at this;rw[this]
def zaO{t sl:Addr}{items:Array Value}{vl vu:Value}{lo hi:Option Int}{Q:Value->Shared->Prop}(ht:IsTup s.heap t items)(hs:s.heap.IsSliceOf sl vl vu .none)(pl:IsPart vl lo)(pu:IsPart vu hi)
 (hw:¬(sIx items.size 0 lo=0/\sIx items.size items.size hi=items.size))
 (h:Q (.ref s.heap.objs.size) {s with heap:=s.heap.push {cls:=.type "tuple",data:=.seq ((items.toList.drop (sIx items.size 0 lo)).take (sIx items.size items.size hi-sIx items.size 0 lo)).toArray}})
 (hsz:items.size<=sizeLine):wpAny (model prog w) A (getItem (.ref t) (.ref sl)) Q E s:=by
 have htake:sizeOk (.seq ((items.toList.drop (sIx items.size 0 lo)).take (sIx items.size items.size hi-sIx items.size 0 lo)).toArray):=by
  show((items.toList.drop (sIx items.size 0 lo)).take (sIx items.size items.size hi-sIx items.size 0 lo)).toArray.size<=sizeLine;rw[zzF,zzQ,List.length_drop,zyR];omega
 have hj:sIx items.size items.size hi<=items.size:=zrB _ _ (zzL _) hi;obtain⟨os,hos,hcs,hds⟩:=id hs;have hTs:s.TypeIs (.ref sl) "slice":=⟨os,hos,hcs⟩;unfold getItem
 try with_reducible refine zxK ?_
 first|refine zxE (zxF ?_)|skip
 refine zxE (wpAny_sequenceKey ht.typeIs (by decide) ?_);refine zxE (wpAny_callSpecial?_slot (name:=Str.ofString "__getitem__") ht.typeIs PyProof.Rows.slot_tuple_getitem
  (wpAny_call_entry PyProof.Rows.slot_tuple_getitem ht.typeIs entry_tuple_getitem ?_ (args_tuple_getitem _ _)))
 show wpAny _ _ (Builtin.Tuple.tupleItemsOf (.ref t) >>= _) _ _ s;refine zxE (tupleItemsOf_ ht ?_);refine zxE (wpAny_typeOf hTs ?_);rw[if_pos (by decide)];refine zxE (zbG hs pl pu ?_);have hno:¬((((sIx items.size 0 lo:Nat):Int)==0&&(1:Int)==1&&(sIx items.size items.size hi-sIx items.size 0 lo)==items.size)=true):=by
  intro q;rw[zyA,zyA]at q;have q1:((sIx items.size 0 lo:Nat):Int)=0:=eq_of_beq q.1.1;have q2:sIx items.size items.size hi-sIx items.size 0 lo=items.size:=eq_of_beq q.2;exact hw ⟨by omega,by omega⟩
 show wpAny _ _ (if(((sIx items.size 0 lo:Nat):Int)==0&&(1:Int)==1&&(sIx items.size items.size hi-sIx items.size 0 lo)==items.size)=true then _ else _) _ _ s;rw[if_neg hno,zog]
 first
  |exact zxE (m:=Builtin.Tuple.tupleExact _) (zxJ (zxF ⟨_,rfl,zxF h⟩) htake)
  |exact zxE (m:=Builtin.Tuple.tupleExact _) (zxJ (zxE (zxF (zxF ⟨_,rfl,zxF h⟩))) htake)
  |exact zxE (zxE (m:=Builtin.Tuple.tupleExact _) (zxJ (zxF (zxF ⟨_,rfl,zxF h⟩)) htake))
  |exact zxE (zxE (m:=Builtin.Tuple.tupleExact _) (zxJ (zxF ⟨_,rfl,zxF h⟩) htake))
end
end HT
namespace L2
open PySem PySem.Spec PyProof.Rows
abbrev TO:=St->Hp->(Option Int->Hp->Prop)->Prop
def PO(X:Cx)(e:Option Expr)(t:TO):Prop:=
 ∀(pins:List (Addr×Obj)) (s:Shared) (σ:St) (H:Hp) (Q:Option Int->Hp->Prop),Inv X pins σ H s->t σ H Q->
  wpAny (model X.prog X.w) X.A (evalPart e X.env) (λu s'=>∃o H',Inv X pins σ H' s'/\IsPart u o/\Q o H') X.xe s
def zpi:TO:=λ_ H Q=>Q none H
def zue(t:TE):TO:=λσ H Q=>t σ H λx H1=>∃i,x = .int i/\Q (some i) H1
def intsAre_of:∀{us:List Value},Vals (ns.map V.int) us->IntsAre us ns:=by
 induction ns with
 |nil=>intro us r;rw[List.map_nil]at r;cases r;exact .nil
 |cons n ns ih=>
  intro us r;rw[zyQ]at r;cases r with
  |cons r1 r2=>
   obtain⟨t,e⟩:=r1;subst e;exact .cons n t (ih r2)
section
variable{X:Cx}{e:Expr}{te:TE}{lo hi:Option Expr}{tl th:TO}{pos p2:Pos}
def zqu:PO X none zpi:=by
 intro pins s σ H Q I h;rw[evalPart_none];exact zxF ⟨none,H,I,.none,h⟩
def zqd(h:PE X e te):PO X (some e) (zue te):=by
 intro pins s σ H Q I hw;rw[evalPart_some];refine thn (h pins s σ H _ I hw) λu s1 ⟨x,H1,I1,r1,q1⟩=>?_;obtain⟨i,rfl,q⟩:=q1;obtain⟨t,rfl⟩:=r1;exact⟨some i,H1,I1,.int i t,q⟩
def SlR(X:Cx)(r:V->Option Int->Option Int->Hp->VK->Prop):Prop:=
 ∀(pins:List (Addr×Obj)) (s:Shared) (σ:St) (H:Hp) (x:V) (v vl vu:Value) (lo hi:Option Int) (sl:Addr) (Q:VK),Inv X pins σ H s->RelV x v->s.heap.IsSliceOf sl vl vu .none->IsPart vl lo->IsPart vu hi->r x lo hi H Q->
  ∃T id,typeLookup (.type T) "__getitem__"=pure (some (.builtin id))/\s.TypeIs v T/\wpAny (model X.prog X.w) X.A (getItem v (.ref sl)) (EP X pins σ Q) X.xe s
def tSl(r:V->Option Int->Option Int->Hp->VK->Prop)(te:TE)(tl th:TO):TE:=λσ H Q=>te σ H λx H1=>tl σ H1 λl H2=>th σ H2 λu H3=>r x l u H3 Q
def ziJ(hr:SlR X r)(he:PE X e te)(hl:PO X lo tl)(hu:PO X hi th):PE X (.Subscript e (.Slice lo hi none p2) pos) (tSl r te tl th):=by
 intro pins s σ H Q I h;refine Subscript_ (thn (he pins s σ H _ I h) λv s1 ⟨x,H1,I1,r1,q1⟩=>?_);refine wpAny_Slice (thn (hl pins s1 σ H1 _ I1 q1) λvl s2 ⟨l,H2,I2,pl,q2⟩=>thn (hu pins s2 σ H2 _ I2 q2) λvu s3 ⟨u,H3,I3,pu,q3⟩=>?_);rw[evalPart_none];refine zxF ?_;have I4:Inv X pins σ H3 {s3 with heap:=s3.heap.push {cls:=.type "slice",data:=.fields #[vl,vu,.none]}}:=I3.kept (t':=s3.toks) λb ob q=>zxG _ q;obtain⟨T,id,hT,ht,hg⟩:=hr pins {s3 with heap:=s3.heap.push {cls:=.type "slice",data:=.fields #[vl,vu,.none]}} σ H3 x v vl vu l u s3.heap.objs.size Q I4 r1 (Heap.IsSliceOf.new ..) pl pu q3;show wpAny (model X.prog X.w) X.A (subscriptTail e (.Slice lo hi none p2) v (.ref s3.heap.objs.size)) (EP X pins σ Q) X.xe {s3 with heap:=s3.heap.push {cls:=.type "slice",data:=.fields #[vl,vu,.none]}};exact tail_any (ops:=[.ref s3.heap.objs.size,v]) ht hT hg (by with_unfolding_all rfl)
def zis(xs:List V)(lo hi:Option Int):List V:=(xs.drop (HT.sIx xs.length 0 lo)).take (HT.sIx xs.length xs.length hi-HT.sIx xs.length 0 lo)
def zcj(xs:List V)(lo hi:Option Int):(zis xs lo hi).length<=xs.length:=by
 unfold zis;rw[zzQ,List.length_drop];omega
def zvy(K:zC):V->Option Int->Option Int->Hp->VK->Prop:=λx lo hi H Q=>∃a xs,x = .ref a/\SqT K H a xs/\
 ¬(HT.sIx xs.length 0 lo=0/\HT.sIx xs.length xs.length hi=xs.length)/\∀p,H p=none->Q (.ref p) (upd H p (.tup (zis xs lo hi)))
def zsD:SlR X (zvy X.K):=by
 intro pins s σ H x v vl vu lo hi sl Q I rx hs pl pu h;obtain⟨a,xs,rfl,hx,hw,q⟩:=h;cases rx;obtain⟨its,r,ht,hz⟩:=I.tuple hx;have hlen:its.toArray.size=xs.length:=by rw[zzF];exact r.length.symm
 refine⟨"tuple",_,PyProof.Rows.slot_tuple_getitem.lookup,ht.typeIs, ?_⟩;refine HT.zaO ht hs pl pu (by rw[hlen];exact hw) ?_ (by rw[hlen];exact hz);rw[hlen];refine⟨.ref s.heap.objs.size,_,I.laid (t':=s.toks) (o:=.tup (zis xs lo hi)) (λb ob q=>zxG _ q) (zzL _) ?_,rfl,q _ (I.hok.fresh (zzL _))⟩;exact⟨zzM (zcj xs lo hi) hz,_,(r.drop (HT.sIx xs.length 0 lo)).take (HT.sIx xs.length xs.length hi-HT.sIx xs.length 0 lo),IsTup.new _ _⟩
def zuC(K:zC):R2:=λx y H Q=>∃a b xs ys,x = .ref a/\y = .ref b/\SqT K H a xs/\SqT K H b ys/\xs≠[]/\xs.length+ys.length<=sizeLine/\
 (ys=[]->Q (.ref a) H)/\(ys≠[]->∀p,H p=none->Q (.ref p) (upd H p (.tup (xs++ys))))
def Vals.nil_iff(r:Vals xs us):us=[] ↔ xs=[]:=by
 cases r with
 |nil=>simp
 |cons _ _=>simp
def zqN:OpR X (binaryOp .Add) (zuC X.K):=by
 intro pins s σ H x y v u Q I rx ry h;obtain⟨a,b,xs,ys,rfl,rfl,ha,hb,hx,hz,q1,q2⟩:=h;cases rx;cases ry;obtain⟨its,r1,p1,_⟩:=I.tuple ha;obtain⟨its2,r2,p2,_⟩:=I.tuple hb;refine HT.zqA p1 p2 (λz=>hx (r1.nil_iff.mp z)) (λz=>⟨.ref a,H,I,rfl,q1 (r2.nil_iff.mp z)⟩) (λz=>?_) (by rw[<-r1.length,<-r2.length];exact hz);refine⟨.ref s.heap.objs.size,_,I.laid (t':=s.toks) (o:=.tup (xs++ys)) (λb ob q=>zxG _ q) (zzL _) ?_,rfl,q2 (λw=>z (r2.nil_iff.mpr w)) _ (I.hok.fresh (zzL _))⟩;exact⟨by rw[zzH];exact hz,_,r1.append r2,IsTup.new _ _⟩
end
end L2
namespace L2
open PySem PySem.Spec PyProof.Rows
def ixN(n:Nat)(i:Int):Option Nat:=if 0<=i then(if i<n then some i.toNat else none)else if -(n:Int)<=i then some (i+n).toNat else none
def atI{α:Type}(xs:List α)(i:Int):Option α:=(ixN xs.length i).bind λj=>xs[j]?
def zkJ(h:ixN n i=some j):seqIndex? i n=some j/\j<n /\ -(n:Int)<=i/\i<n:=by
 unfold ixN at h
 by_cases h0:0<=i
 · rw[if_pos h0]at h
   by_cases h1:i<n
   · rw[if_pos h1]at h;have e:i.toNat=j:=zzX h;exact⟨by rw[seqIndex_of h0 h1,e],by omega,by omega,h1⟩
   · rw[if_neg h1]at h;cases h
 · rw[if_neg h0]at h
   by_cases h1 : -(n:Int)<=i
   · rw[if_pos h1]at h;have e:(i+n).toNat=j:=zzX h;exact⟨by rw[seqIndex_neg (by omega) h1,e],by omega,h1,by omega⟩
   · rw[if_neg h1]at h;cases h
def zgE(h:atI xs i=some v):∃j,seqIndex? i xs.length=some j/\xs[j]? = some v/\j<xs.length /\ -(xs.length:Int)<=i/\i<xs.length:=by
 unfold atI at h;cases e:ixN xs.length i with
 |none=>rw[e]at h;cases h
 |some j=>
  rw[e]at h;obtain⟨h1,h2,h3,h4⟩:=zkJ e;exact⟨j,h1,h,h2,h3,h4⟩
def ZM{α:Type}{xs:List α}{j:Nat}{v:α}(h:xs[j]? = some v):atI xs (j:Int)=some v:=by
 have hj:j<xs.length:=(zzE.mp h).1;have e:ixN xs.length (j:Int)=some j:=by
  unfold ixN;rw[if_pos (by omega),if_pos (by omega)];simp
 unfold atI;rw[e];exact h
def Zw(b:Expr):Prop:=∀o i,subscripted b false o i=operate [o,i] (getItem o i)
def IxR(X:Cx)(r:R2):Prop:=
 ∀(value slice:Expr) (pins:List (Addr×Obj)) (s:Shared) (σ:St) (H:Hp) (x y:V) (v u:Value) (Q:VK),Inv X pins σ H s->RelV x v->RelV y u->r x y H Q->
  subscripted slice false v u=operate [v,u] (getItem v u)->wpAny (model X.prog X.w) X.A (subscriptTail value slice v u) (EP X pins σ Q) X.xe s
def MtR(X:Cx)(id:String)(r:V->List V->Hp->VK->Prop):Prop:=
 ∀(pins:List (Addr×Obj)) (s:Shared) (σ:St) (H:Hp) (x:V) (xs:List V) (v:Value) (us:List Value) (Q:VK),Inv X pins σ H s->RelV x v->Vals xs us->r x xs H Q->
  wpAny (model X.prog X.w) X.A (call (.builtin id) (v::us)) (EP X pins σ Q) X.xe s
section
variable{X:Cx}{a b:Expr}{ta tb:TE}{pos:Pos}
def zdK(hr:IxR X r)(ha:PE X a ta)(hb:PE X b tb)(hs:Zw b):PE X (.Subscript a b pos) (tOp r ta tb):=by
 intro pins s σ H Q I h;exact Subscript_ (zsm ha hb I h λv u s2 x y H2 I2 rx ry q=>hr a b pins s2 σ H2 x y v u Q I2 rx ry q (hs _ _))
def zvg(K:zC):R2:=λx y H Q=>∃p xs i v,x = .ref p/\y = .int i/\SqL K H p xs/\atI xs i=some v/\Q v H
def zvq(K:zC):R2:=λx y H Q=>∃p xs i v,x = .ref p/\y = .int i/\SqT K H p xs/\atI xs i=some v/\Q v H
def zvE:R2:=λx y H Q=>∃z i c,x = .str z/\y = .int i/\z.length<=sizeLine/\atI z.cps.toList i=some c/\Q (.str ⟨#[c]⟩) H
def WW:IxR X (zvg X.K):=by
 intro value slice pins s σ H x y v u Q I rx ry h hs;obtain⟨p,xs,i,z,rfl,rfl,hq,he,q⟩:=h;cases rx;obtain⟨t,rfl⟩:=ry;obtain⟨its,r,pl,hz⟩:=I.list hq;obtain⟨j,h1,h2,h3,h4,h5⟩:=zgE he;obtain⟨w,ew,rw'⟩:=r.get h2;have hl:=r.length;have hn:=zac;have fin:EP X pins σ Q w s:=⟨z,H,I,rw',q⟩
 by_cases h0:0<=i
 · have hj:i.toNat=j:=by
    rw[seqIndex_of h0 h5]at h1;exact zzX h1
   exact item_listR pl.isList h0 (by omega) (by rw[hj];simpa using ew) fin hs
 · have hj:(i+(its.toArray.size:Int)).toNat=j:=by
    rw[seqIndex_neg (by omega) h4]at h1;rw[zzF,<-hl];exact zzX h1
   exact subscriptTail_builtinR (x:=w) pl.isList.typeIs slot_list_getitem.lookup
    (wpAny_getItem_list_neg (Q:=λr s'=>r=w/\EP X pins σ Q r s') pl.isList (by omega) (by rw[zzF]<;>omega) (by omega) (by rw[hj];simpa using ew) ⟨rfl,fin⟩) hs
def znl:IxR X (zvq X.K):=by
 intro value slice pins s σ H x y v u Q I rx ry h hs;obtain⟨p,xs,i,z,rfl,rfl,hq,he,q⟩:=h;cases rx;obtain⟨t,rfl⟩:=ry;obtain⟨its,r,pl,hz⟩:=I.tuple hq;obtain⟨j,h1,h2,h3,h4,h5⟩:=zgE he;obtain⟨w,ew,rw'⟩:=r.get h2;have hl:=r.length;have hn:=zac;have fin:EP X pins σ Q w s:=⟨z,H,I,rw',q⟩;exact subscriptTail_builtinR (x:=w) pl.typeIs slot_tuple_getitem.lookup
  (getItem_tuple (j:=j) (Q:=λr s'=>r=w/\EP X pins σ Q r s') pl (by omega) (by omega) (by rw[zzF,<-hl];exact h1) (by simpa using ew) ⟨rfl,fin⟩) hs
def ztr:IxR X zvE:=by
 intro value slice pins s σ H x y v u Q I rx ry h hs;obtain⟨z,i,c,rfl,rfl,hz,he,q⟩:=h;obtain⟨t,rfl⟩:=rx;obtain⟨t',rfl⟩:=ry;obtain⟨j,h1,h2,h3,h4,h5⟩:=zgE he;have hl:z.cps.toList.length=z.length:=by simp[Str.length]
 rw[hl]at h1 h4 h5;have hn:=zac;exact tail_any (typeIs_str s z t) slot_str_getitem.lookup (getItem_str (c:=c) (by
  have e1:decide (i < -(2 ^ 63:Int))=false:=zyE (by omega);have e2:decide (i ≥ 2 ^ 63)=false:=zyE (by omega);rw[e1,e2,Bool.or_false]) (by rw[h1];simpa using h2) ⟨.str ⟨#[c]⟩,H,I.tok _,⟨_,rfl⟩,q⟩) hs
def zjs(its:List Value)(n j:Nat)(u:Value):Obj.mapSeq (·.setIfInBounds j u) {cls:=.type "list",data:=.seq its.toArray n}={cls:=.type "list",data:=.seq (its.set j u).toArray n}:=by
 simp[Obj.mapSeq]
def Inv.lst(I:Inv X pins σ H s)(h:H p=some (.lst xs)):
 ∃(its:List Value) (n:Nat),Vals xs its/\s.heap.get? p=some {cls:=.type "list",data:=.seq its.toArray n}/\xs.length<=sizeLine:=by
 obtain⟨z,its,n,r,e⟩:=I.hok p _ h;exact⟨its,n,r,e,z⟩
def Inv.lstUpd{pins:List (Addr×Obj)}{σ:St}{H:Hp}{s:Shared}{p:Addr}{xs ys:List V}{its its':List Value}{n n':Nat}{f:Obj->Obj}(I:Inv X pins σ H s)(h:H p=some (.lst xs))
 (ho:s.heap.get? p=some {cls:=.type "list",data:=.seq its.toArray n}) (hf:f {cls:=.type "list",data:=.seq its.toArray n}={cls:=.type "list",data:=.seq its'.toArray n'}) (r:Vals ys its') (hz:ys.length<=sizeLine) (t:Nat):
 Inv X pins σ (upd H p (.lst ys)) {s with heap:=s.heap.update p f,toks:=t}:=by
 have e:(s.heap.update p f).get? p=some {cls:=.type "list",data:=.seq its'.toArray n'}:=by
  rw[zxN f ho (by rw[hf]<;>rfl),hf]
 refine I.write (x:=p) (e:=p) (by rw[h];trivial) (.inl rfl) (λb u hb q=>(zxL _ _ (Ne.symm hb)).trans q) ⟨_,e⟩ ?_;exact⟨hz,its',n',r,e⟩
def zuh:V->V->V->Hp->(Hp->Prop)->Prop:=λo i v H Q=>∃p xs k j,o = .ref p/\i = .int k/\H p=some (.lst xs)/\ixN xs.length k=some j/\Q (upd H p (.lst (xs.set j v)))
def set_list:zuc X zuh:=by
 intro pins s σ H o i v ov iv u Q I ro ri rv h;obtain⟨p,xs,k,j,rfl,rfl,hp,hj,q⟩:=h;cases ro;obtain⟨t,rfl⟩:=ri;obtain⟨its,n,r,ho,hz⟩:=I.lst hp;obtain⟨h1,h2,h3,h4⟩:=zkJ hj;have hl:=r.length;have hn:=zac;have I':Inv X pins σ (upd H p (.lst (xs.set j v))) {s with heap:=s.heap.update p (Obj.mapSeq (·.setIfInBounds j u))}:=
  I.lstUpd hp ho (zjs its n j u) (r.set rv j) (by rw[zzS];exact hz) s.toks
 by_cases h0:0<=k
 · have hk:k.toNat=j:=by
    rw[seqIndex_of h0 h4]at h1;exact zzX h1
   exact PySem.W.ki_setAt ho h0 (by omega) (by rw[zzF,<-hl];exact h4) (by rw[hk];exact⟨_,I',q⟩)
 · have hk:(k+(its.toArray.size:Int)).toNat=j:=by
    rw[seqIndex_neg (by omega) h3]at h1;rw[zzF,<-hl];exact zzX h1
   exact PySem.W.ki_setBack ho (by omega) (by rw[zzF,<-hl];exact h3) (by omega) (by rw[hk];exact⟨_,I',q⟩)
def zhv(lo hi:Option Int)(n:Nat):(sliceBounds lo hi none n).1=((HT.sIx n 0 lo:Nat):Int)/\(sliceBounds lo hi none n).2.1=((HT.sIx n n hi:Nat):Int)/\(sliceBounds lo hi none n).2.2=1:=by
 refine⟨?_, ?_,rfl⟩
 · cases lo with
   |none=>simp[sliceBounds,HT.sIx]
   |some i=>
    simp only[sliceBounds,HT.sIx,Option.getD_none,show(1:Int) > 0 by decide,if_true]
    by_cases h:i<0
    · simp only[h,if_true]<;>omega
    · simp only[h,if_false]<;>omega
 · cases hi with
   |none=>simp[sliceBounds,HT.sIx]
   |some i=>
    simp only[sliceBounds,HT.sIx,Option.getD_none,show(1:Int) > 0 by decide,if_true]
    by_cases h:i<0
    · simp only[h,if_true]<;>omega
    · simp only[h,if_false]<;>omega
def zfe(its:List Value)(lo hi:Option Int):slicePick its.toArray lo hi none=((its.drop (HT.sIx its.length 0 lo)).take (HT.sIx its.length its.length hi-HT.sIx its.length 0 lo)).toArray:=by
 obtain⟨h1,h2,h3⟩:=zhv lo hi its.toArray.size;unfold slicePick;rw[h1,h2,h3];simp only[sliceRange_one,pick_run,zzF]<;>rfl
def zvb(K:zC):V->Option Int->Option Int->Hp->VK->Prop:=λx lo hi H Q=>∃a xs,x = .ref a/\SqL K H a xs/\∀p,H p=none->Q (.ref p) (upd H p (.lst (zis xs lo hi)))
def zqa:SlR X (zvb X.K):=by
 intro pins s σ H x v vl vu lo hi sl Q I rx hs pl pu h;obtain⟨a,xs,rfl,hx,q⟩:=h;cases rx;obtain⟨its,r,ht,hz⟩:=I.list hx;have hlen:=r.length;refine⟨"list",_,slot_list_getitem.lookup,ht.isList.typeIs, ?_⟩;refine wpAny_getItem_list_slice ht.isList hs pl pu .none (by simp) ?_ (by rw[zzF]<;>omega);rw[zfe,<-hlen];refine⟨.ref s.heap.objs.size,_,I.laid (t':=s.toks) (o:=.lst (zis xs lo hi)) (λb ob q=>zxG _ q) (zzL _) ?_,rfl,q _ (I.hok.fresh (zzL _))⟩;exact⟨zzM (zcj xs lo hi) hz,_,0,(r.drop (HT.sIx xs.length 0 lo)).take (HT.sIx xs.length xs.length hi-HT.sIx xs.length 0 lo),zxI _ rfl⟩
def Xi:XF X (.builtin "len") (λxs H Q=>∃p ys,xs=[.ref p]/\(SqL X.K H p ys\/SqT X.K H p ys)/\Q (.int ys.length) H):=by
 intro pins s σ H xs us Q I r h;obtain⟨p,ys,rfl,hq,q⟩:=h;obtain⟨u,rfl,rx⟩:=vals1 r;cases rx;have hn:=zac
 rcases hq with hq|hq
 · obtain⟨its,r',pl,hz⟩:=I.list hq;have hlen:=r'.length;exact Calls.call_len_list pl.isList (by simp only[zzF]<;>omega) ⟨.int ys.length,H,I.tok _,⟨s.toks+1,by rw[zzF,hlen]⟩,q⟩
 · obtain⟨its,r',pl,hz⟩:=I.tuple hq;have hlen:=r'.length;exact len_tuple pl (by simp only[zzF]<;>omega) ⟨.int ys.length,H,I.tok _,⟨s.toks+1,by rw[zzF,hlen]⟩,q⟩
def zgW:XF X (.builtin "len") (λxs H Q=>∃z,xs=[.str z]/\z.length<=sizeLine/\Q (.int z.length) H):=by
 intro pins s σ H xs us Q I r h;obtain⟨z,rfl,hz,q⟩:=h;obtain⟨u,rfl,t,rfl⟩:=vals1 r;have hn:=zac;exact len_str (by omega) ⟨.int z.length,H,I.tok _,⟨_,rfl⟩,q⟩
def zal:XF X (.type "list") (λxs H Q=>∃p ys,xs=[.ref p]/\(SqL X.K H p ys\/SqT X.K H p ys)/\∀l,H l=none->Q (.ref l) (upd H l (.lst ys))):=by
 intro pins s σ H xs us Q I r h;obtain⟨p,ys,rfl,hq,q⟩:=h;obtain⟨u,rfl,rx⟩:=vals1 r;cases rx;have fin:∀(its:List Value),Vals ys its->ys.length<=sizeLine->∀(h':Heap) (c':Nat),(∀b o',s.heap.get? b=some o'->h'.get? b=some o')->
  h'.get? s.heap.objs.size=some {cls:=.type "list",dict:=none,data:=.seq its.toArray c',slots:=#[]}->EP X pins σ Q (.ref s.heap.objs.size) {s with heap:=h'}:=λits r' hz h' c' kp e=>
  ⟨.ref s.heap.objs.size,_,I.laid (t':=s.toks) kp (zzL _) (show wL X.prog X.w _ h' _ (.lst ys)from⟨hz,its,c',r',e⟩),rfl,q _ (I.hok.fresh (zzL _))⟩
 rcases hq with hq|hq
 · obtain⟨its,r',pl,hz⟩:=I.list hq;have hlen:=r'.length;obtain⟨o,ho,hc,n,hd⟩:=pl.isList;exact call_list_seq p (.inl rfl) ho hc hd (λh' c' kp e=>fin its r' hz h' c' kp e) (by simp only[zzF]<;>omega)
 · obtain⟨its,r',pl,hz⟩:=I.tuple hq;have hlen:=r'.length;obtain⟨o,ho,hc,n,hd⟩:=pl;exact call_list_seq p (.inr rfl) ho hc hd (λh' c' kp e=>fin its r' hz h' c' kp e) (by simp only[zzF]<;>omega)
def Vy:XF X (.type "tuple") (λxs H Q=>∃p ys,xs=[.ref p]/\((SqL X.K H p ys/\∀l,H l=none->Q (.ref l) (upd H l (.tup ys)))\/(SqT X.K H p ys/\Q (.ref p) H))):=by
 intro pins s σ H xs us Q I r h;obtain⟨p,ys,rfl,h⟩:=h;obtain⟨u,rfl,rx⟩:=vals1 r;cases rx
 rcases h with⟨hq,q⟩|⟨hq,q⟩
 · obtain⟨its,r',pl,hz⟩:=I.list hq;have hlen:=r'.length;refine call_tuple_list pl.isList (λh' kp=>?_) (by simp only[zzF]<;>omega);have I1:Inv X pins σ H {s with heap:=h'}:=I.kept (t':=s.toks) kp;have I2:Inv X pins σ (upd H h'.objs.size (.tup ys)) {s with heap:=h'.push {cls:=.type "tuple",data:=.seq its.toArray}}:=
    I1.laid (t':=s.toks) (λb o e=>zxG _ e) (zzL _) (show wL X.prog X.w _ _ _ (.tup ys)from⟨hz,its,r',IsTup.new _ _⟩)
   exact⟨.ref h'.objs.size,_,I2,rfl,q _ (I1.hok.fresh (zzL _))⟩
 · obtain⟨its,r',pl,hz⟩:=I.tuple hq;exact call_tuple_same pl ⟨.ref p,H,I,rfl,q⟩
def tyV(K:zC)(T:String)(x:V)(H:Hp):Prop:=match x with
 | .str _=>T="str"
 | .int _=>T="int"
 | .ref p=>(T="list"/\∃xs,SqL K H p xs)\/(T="tuple"/\∃o,K.lookup p=some o/\o.cls = .type "tuple"/\o.dict=none) \/
  (T="dict"/\((∃kvs,H p=some (.dK kvs))\/∃kvs,H p=some (.dT kvs)))\/(T="set"/\∃S n,H p=some (.set S n))
 |_=>False
def zsL(I:Inv X pins σ H s)(r:RelV x v)(ty:tyV X.K T x H):
 s.TypeIs v T/\∀a,v = .ref a->∃ob,s.heap.get? a=some ob/\ob.dict=none:=by
 cases x with
 |str z=>
  obtain⟨t,rfl⟩:=r;cases(show T="str" from ty);exact⟨typeIs_str s z t,λ_ e=>nomatch e⟩
 |int i=>
  obtain⟨t,rfl⟩:=r;cases(show T="int" from ty);exact⟨typeIs_int s i t,λ_ e=>nomatch e⟩
 |ref p=>
  cases r
  rcases ty with⟨rfl,xs,hq⟩|⟨rfl,o,hk,hc,hd⟩|⟨rfl,hk⟩|⟨rfl,S,n,hk⟩
  · obtain⟨its,_,pl,_⟩:=I.list hq;refine⟨pl.isList.typeIs,λa e=>?_⟩;cases e;obtain⟨o,n,e,c,hd,_⟩:=pl;exact⟨o,e,hd⟩
  · refine⟨⟨o,I.kIn p o hk,hc⟩,λa e=>?_⟩;cases e;exact⟨o,I.kIn _ o hk,hd⟩
  · have z:∃o,s.heap.get? p=some o/\o.ExactDict:=by
     rcases hk with⟨kvs,hk⟩|⟨kvs,hk⟩
     · obtain⟨_,_,_,_,o,_,_,e,ex,_⟩:=I.hok p _ hk;exact⟨o,e,ex⟩
     · obtain⟨_,_,_,_,o,_,_,e,ex,_⟩:=I.hok p _ hk;exact⟨o,e,ex⟩
    obtain⟨o,e,ex⟩:=z;refine⟨⟨o,e,ex.1⟩,λa e2=>?_⟩;cases e2;exact⟨o,e,ex.2.1⟩
  · obtain⟨o,_,_,_,e,ex,_⟩:=I.hok p _ hk;refine⟨⟨o,e,ex.1⟩,λa e2=>?_⟩;cases e2;exact⟨o,e,ex.2.1⟩
 |_=>exact False.elim ty
def tBM(K:zC)(T:String)(r:V->List V->Hp->VK->Prop)(to:TE)(t:TA):TE:=λσ H Q=>to σ H λx H1=>tyV K T x H1/\t σ H1 λxs H2=>r x xs H2 Q
variable{o e:Expr}{es:List Expr}{to:TE}{t:TA}{name:Str}{apos cpos:Pos}{T id:String}{r:V->List V->Hp->VK->Prop}
def zob(pa:PlainAttrs T)(slot:Slot T name id)(hty:typeOf (.builtin id)=pure (.type "method_descriptor"))(hm:MtR X id r)(ho:PE X o to)(ha:PA X (e::es) t)
 (hbase:attributeBase o name X.env (eval o X.env)=eval o X.env:=by rfl)
 (hfew:((backTo cpos (starEach (e::es) X.env)).all (λx=>!x.1)&&(backToKw cpos (keywordEach [] X.env)).all (λx=>x.1.isSome)
  && decide ((e::es).length+([]:List Keyword).length+(if([]:List Keyword).isEmpty then 0 else 1)<30))=true:=by rfl)
 (hline:(apos.endLine==cpos.line)=true:=by rfl) (hs:starEach (e::es) X.env=(false,eval e X.env)::starEach es X.env:=by rfl) (hplain:(backTo cpos (starEach es X.env)).any (·.1)=false:=by rfl):
 PE X (.Call (.Attribute o name apos) (e::es) [] cpos) (tBM X.K T r to t):=by
 intro pins s σ H Q I h;refine wpAny_Call_method_late hbase hfew hline rfl (thn (ho pins s σ H _ I h) λv s1 ⟨x,H1,I1,r1,ty,q1⟩=>?_);obtain⟨h1,h2⟩:=zsL I1 r1 ty;refine⟨T,id,pa,slot,hty,h1,h2, ?_⟩;have hA:=ha cpos pins s1 σ H1 _ I1 q1;rw[hs]at hA ⊢;refine Calls.callWith_builtin (by show(false||(backTo cpos (starEach es X.env)).any (·.1))=false;rw[hplain]<;>rfl) (Calls.evalArgs_plain ?_);exact thn hA λus s2 ⟨vs,H2,I2,r2,q2⟩=>hm pins s2 σ H2 x vs v us Q I2 r1 r2 q2
end
end L2
namespace L2
open PySem PySem.Spec PyProof.Rows
def MtM(X:Cx)(id:String)(r:V->List V->Hp->VK->Prop):Prop:=
 ∀(pins:List (Addr×Obj)) (s:Shared) (σ:St) (H:Hp) (x:V) (xs:List V) (v:Value) (us:List Value) (Q:VK),Inv X pins σ H s->RelV x v->Vals xs us->r x xs H Q->
  wpAny (model X.prog X.w) X.A (call (.builtin id) (v::us)) (EP X pins σ Q) X.xe s
def Vals.one:∀{x:V}{us:List Value},Vals [x] us->∃u,us=[u]/\RelV x u
 |_,_,.cons r .nil=>⟨_,rfl,r⟩
def Vals.two:∀{x y:V}{us:List Value},Vals [x,y] us->∃u v,us=[u,v]/\RelV x u/\RelV y v
 |_,_,_,.cons r (.cons q .nil)=>⟨_,_,rfl,r,q⟩
theorem Vals.eraseIdx:∀{xs:List V}{us:List Value}(i:Nat),Vals xs us->Vals (xs.eraseIdx i) (us.eraseIdx i)
 |_,_,_,.nil=>.nil
 |_,_,0,.cons _ t=>t
 |_,_,i+1,.cons r t=>.cons r (Vals.eraseIdx i t)
theorem Vals.rep(h:Vals xs us):∀k:Nat,Vals (List.replicate k xs).flatten (List.replicate k us).flatten
 |0=>.nil
 |k+1=>by
  rw[List.replicate_succ,List.replicate_succ,List.flatten_cons,List.flatten_cons];exact Vals.append h (Vals.rep h k)
theorem zfE:∀(l:List α) (i:Nat),(l.eraseIdx i).length<=l.length
 | [],_=>zzL _
 |_::_,0=>zyV _
 |_::r,i+1=>Nat.succ_le_succ (zfE r i)
theorem foldl_rep(its:List Value):∀(k:Nat) (acc:List Value),
 List.foldl (λx1 x2=>x1++x2) acc.toArray (List.replicate k its.toArray)=(acc++(List.replicate k its).flatten).toArray
 |0,acc=>by simp
 |k+1,acc=>by
  have e:acc.toArray++its.toArray=(acc++its).toArray:=by simp
  have e2:(acc++its)++(List.replicate k its).flatten=acc++(List.replicate (k+1) its).flatten:=by
   rw[List.replicate_succ,List.flatten_cons,zxB]
  rw[<-e2,<-foldl_rep its k (acc++its),<-e,List.replicate_succ,List.foldl_cons]
section
variable{X:Cx}{pins:List (Addr×Obj)}{σ:St}{H:Hp}{s:Shared}{l b:Addr}{xs ys zs:List V}
def Inv.lset{its its':List Value}{n:Nat}{f:Array Value->Array Value}{t':Nat}(I:Inv X pins σ H s)(hH:H l=some (.lst xs))
 (e:s.heap.get? l=some {cls:=.type "list",data:=.seq its.toArray n}) (hf:f its.toArray=its'.toArray) (hv:Vals ys its') (hz:ys.length<=sizeLine):
 Inv X pins σ (upd H l (.lst ys)) {s with heap:=s.heap.update l (Obj.mapSeq f),toks:=t'}:=by
 have q:=PySem.IsL.update e f;rw[hf]at q;refine I.write (x:=l) (e:=l) (by rw[hH];exact trivial) (.inl rfl) (λb' u hb hu=>(zxL s.heap (Obj.mapSeq f) (Ne.symm hb)).trans hu) ⟨_,q⟩ ?_;exact⟨hz,its',_,hv,q⟩
def Inv.lnew(I:Inv X pins σ H s)(hv:Vals ys its)(hz:ys.length<=sizeLine):
 Inv X pins σ (upd H s.heap.objs.size (.lst ys)) {s with heap:=s.heap.push {cls:=.type "list",data:=.seq its.toArray},toks:=t'}:=
 I.laid (λ_ _ q=>zxG _ q) (zzL _) ⟨hz,its,0,hv,zxI _ rfl⟩
def Inv.fresh(I:Inv X pins σ H s):H s.heap.objs.size=none:=I.hok.fresh (zzL _)
def Inv.lstM(I:Inv X pins σ H s)(hH:H l=some (.lst xs)):xs.length<=sizeLine/\∃(its:List Value) (n:Nat),Vals xs its/\xs.length=its.length/\s.heap.get? l=some {cls:=.type "list",data:=.seq its.toArray n}:=by
 obtain⟨z,its,n,r,e⟩:=I.hok l _ hH;exact⟨z,its,n,r,r.length,e⟩
def zhO(h:n<=sizeLine):Builtin.List.listTooLong n=false:=by
 unfold Builtin.List.listTooLong;exact zyE (by omega)
end
section
variable{X:Cx}
def zkn:V->List V->Hp->VK->Prop:=λx vs H Q=>∃l xs y,x = .ref l/\vs=[y]/\H l=some (.lst xs)/\xs.length<sizeLine/\Q .non (upd H l (.lst (xs++[y])))
def zfT:MtM X "list.append" zkn:=by
 intro pins s σ H x vs v us Q I rx rv h;obtain⟨l,xs,y,rfl,rfl,hH,hz,q⟩:=h;cases rx;obtain⟨u,rfl,ru⟩:=rv.one;obtain⟨z,its,n,r,hl,e⟩:=I.lstM hH;refine call_meets F.slot_list_append ⟨_,e,rfl⟩ F.entry_list_append (F.args_list_append_2 _ _) (PySem.list_append l its.toArray n u (by rw[zzF];omega)) ⟨e, ?_⟩;refine⟨.non,_,I.lset (its':=its++[u]) hH e (by simp) (r.append (.cons ru .nil)) ?_,rfl,q⟩;rw[zzH,List.length_singleton];omega
def zkf:V->List V->Hp->VK->Prop:=λx vs H Q=>∃l b xs zs,x = .ref l/\vs=[.ref b]/\H l=some (.lst xs)/\H b=some (.lst zs)/\xs.length+zs.length<=sizeLine/\Q .non (upd H l (.lst (xs++zs)))
def zlt:MtM X "list.extend" zkf:=by
 intro pins s σ H x vs v us Q I rx rv h;obtain⟨l,b,xs,zs,rfl,rfl,hH,hB,hz,q⟩:=h;cases rx;obtain⟨u,rfl,ru⟩:=rv.one;cases ru;obtain⟨z,its,n,r,hl,e⟩:=I.lstM hH;obtain⟨z2,its2,n2,r2,hl2,e2⟩:=I.lstM hB;have hsz:its.toArray.size+its2.toArray.size<=sizeLine:=by rw[zzF,zzF];omega
 have hlong:¬(!its.toArray.isEmpty&&Builtin.List.listTooLong (its.toArray.size+its2.toArray.size))=true:=by
  rw[zhO hsz,Bool.and_false];exact zyU
 refine call_meets F.slot_list_extend ⟨_,e,rfl⟩ F.entry_list_extend (F.args_list_extend_2 _ _)
  (AutoSeq1.list_extend_list_list_0 l its.toArray n b its2.toArray n2 hlong (by rw[zzF];omega) (by omega)) ⟨e,e2, ?_⟩
 refine⟨.non,_,I.lset (its':=its++its2) hH e (by simp) (r.append r2) ?_,rfl,q⟩;rw[zzH];omega
def zmn:V->List V->Hp->VK->Prop:=λx vs H Q=>∃l xs i k y,x = .ref l/\vs=[.int i]/\H l=some (.lst xs) /\ -(2 ^ 63)<=i/\i<2 ^ 63/\seqIndex? i xs.length=some k/\xs[k]? = some y/\Q y (upd H l (.lst (xs.eraseIdx k)))
def zoR:MtM X "list.pop" zmn:=by
 intro pins s σ H x vs v us Q I rx rv h;obtain⟨l,xs,i,k,y,rfl,rfl,hH,h1,h2,hk,hy,q⟩:=h;cases rx;obtain⟨u,rfl,ru⟩:=rv.one;obtain⟨t,rfl⟩:=ru;obtain⟨z,its,n,r,hl,e⟩:=I.lstM hH;obtain⟨w,hw,rw'⟩:=r.get hy;refine call_meets F.slot_list_pop ⟨_,e,rfl⟩ F.entry_list_pop (F.args_list_pop_2 _ _)
  (MeetsSeq.list_pop_at l its.toArray n i t k w (fitsIndex_both h1 h2) (by rw[zzF,<-hl];exact hk) (by rw[<-Array.getElem?_toList];exact hw) (by rw[zzF];omega)) ⟨e, ?_⟩
 refine⟨y,_,I.lset (its':=its.eraseIdx k) hH e ?_ (r.eraseIdx k) ?_,rw',q⟩
 · show its.toArray.eraseIdxIfInBounds k=(its.eraseIdx k).toArray;rw[List.eraseIdxIfInBounds_toArray]
 · have:=zfE xs k;omega
def len_rep(xs:List α)(k:Nat):(List.replicate k xs).flatten.length=k*xs.length:=by
 induction k with
 |zero=>simp
 |succ k ih=>rw[List.replicate_succ,List.flatten_cons,zzH,ih,Nat.succ_mul,Nat.add_comm]
end
end L2
namespace Att
open PySem PySem.W PySem.Calls PyProof.Rows
def zcU:∀(ns:List Int) (vs:List Value),WellAll P h vs (ns.map WData.int)->IntsAre vs ns:=by
 intro ns
 induction ns with
 |nil=>
  intro vs w;rw[List.map_nil]at w;cases w;exact .nil
 |cons n ns ih=>
  intro vs w;rw[zyQ]at w;cases w with
  |cons a b=>
   cases a;exact .cons _ _ (ih _ b)
def zmg{l:OpenLaw}{n:Nat}(hn:l.most=some n){P:Params}{h:Heap}{args:List WData}{vals:List Value}
 (hpre:l.row.toRowW.claim.pre args=true) (hwl:WellAll P h vals args):
 ∃a vs ns,vals=[Value.ref a]/\args=[WData.list (ns.map WData.int)]/\h.get? a=some {cls:=.type "list",data:=.seq vs.toArray}/\IntsAre vs ns/\ns.length<=n:=by
 have hsh:WShape.hasAll [] args [.list .int]=true:=(pre_splitW hpre).1;have hc:l.pre.holds [] {args:=args}=true:=(pre_splitW hpre).2;obtain⟨d,r,rfl,h1,h2⟩:=hasAllW_cons hsh;obtain rfl:=hasAllW_nil h2;obtain⟨xs,rfl,h3⟩:=hasW_list h1;obtain⟨ns,rfl⟩:=items_int h3;have hlen:ns.length<=n:=by
  unfold OpenLaw.pre at hc;have h4:(WTm.not (.lt (.lit (.int (n:Int))) (.len (.arg 0)))).holds [] {args:=[.list (ns.map .int)]}=true:=by
   have h4:=(holds_andW hc).1;rw[hn]at h4;exact h4
  have h5:=condW_of h4 (w_not (w_lt w_lit (w_len_list (w_arg rfl))));rw[zD]at h5;refine Nat.le_of_not_lt λq=>?_;have q':(n:Int)<((ns.length:Nat):Int):=by omega
  first
   |(rw[zyM q']at h5;exact absurd h5 (by decide))
   |(simp at h5;omega)
 cases hwl with
 |cons w1 w2=>
  cases w2;cases w1 with
  |list ho hall=>exact⟨_,_,ns,rfl,rfl,ho,zcU ns _ hall,hlen⟩
def zmh(l:OpenLaw)(args:List WData):l.row.toRowW.claim.post args (.bool true) args=true:=
 postW_of (r:=l.row.toRowW) (X:=(true==true))
  (show WShape.has [] (.bool true) .bool=true by first|rfl|decide|simp[WShape.has,WShape.arms,WShape.armsAll])
  (show(WTm.eq .res (.lit (.bool true))).value [] {args:=args,res:=some (.bool true),after:=args}=some (.bool (true==true))from w_eq_bool (w_res rfl) w_lit) rfl
def zhI{l:OpenLaw}{n:Nat}{q:Program}{loose:List Str}{XP:(Str->Option Value)->Heap->Prop}{YP:World->Heap->Prop}{d:DefRec}
 (hn:l.most=some n) (hdf:d.params.defaults=[])
 (call:∀(w:World) (s₀ s₁:Shared) (mg mb:Str->Option Value) (fa:Addr) (o:Obj) (pm cd doc:Value) (a:Addr) (vs:List Value) (ns:List Int),
  Ground q loose [] XP w s₀ mg mb s₁.heap->YP w s₁.heap->
  s₁.heap.get? fa=some o->o.data = .func (docDef d.name d.params d.body d.scope pm cd doc)->s₁.heap.CodeRec cd d.name->mg d.name=some (.ref fa)->
  s₁.heap.get? a=some {cls:=.type "list",data:=.seq vs.toArray}->IntsAre vs ns->ns.length<=n->s₁.gens = #[]->
  codeAny (model l.prog w) callerA (.call (.ref fa) ⟨[.ref a],[]⟩) (λr s'=>r = .ok (.ret (.bool true))/\OldK s₁.heap s'.heap/\s'.os=s₁.os/\AllBare s'.gens) s₁):
 WalkO q loose XP YP l.row.toRowW d [] (λf vs=>PySem.call f vs):=by
 intro w s₀ s₁ mg mb G Y fa o pm cd doc dV kV ho hd hcd hD hmg hg args vals as hpre hlay hrd hwl hlo;obtain rfl:dV = .none:=Dflts.none hD hdf;obtain rfl:kV = .none:=Dflts.noKw hD;obtain⟨a,vs,ns,rfl,rfl,hobj,hints,hlen⟩:=zmg hn hpre hwl;refine enter_call (codeAny_mono (call w s₀ s₁ mg mb fa o pm cd doc a vs ns G Y ho (fd_plain hd) hcd hmg hobj hints hlen hg) λr s' hq=>?_);obtain⟨rfl,h2,h3,h4⟩:=hq;exact⟨.inl ⟨.bool true,.bool true,[],rfl,λ_=>rfl,.bool true,zmh l _,λ_=>⟨List.Pairwise.nil,λ_ hm=>(nomatch hm)⟩⟩,h2,h3,h4⟩
end Att
namespace L2
open PySem PySem.Spec PyProof.Rows
def Yw:∀{vs:List Value}{ns:List Int},IntsAre vs ns->Vals (ns.map V.int) vs
 |_,_,.nil=>.nil
 |_,_,.cons n t h=>.cons ⟨t,rfl⟩ (Yw h)
def Only(H:Hp):Prop:=∀b,H b=none\/∃o xs,H b=some (.frz o (.lst xs))
def znp{P:Program}{w:World}{K:zC}{mg mb:Str->Option Value}{CX:CXT}{k:Nat}{fa a:Addr}{fd:FuncData}{x:Str}{sp:Sp}{s₁:Shared}{vs:List Value}{ns:List Int}
 (KX:K.In s₁.heap) (hns:s₁.heap.Ns mainGlobals mg) (hb:s₁.heap.Ns builtinsNs mb) (hbb:∀x:Str,x≠"__name__"->mb x=bootBuiltins x) (hlim:s₁.heap.NoLimit) (hg:s₁.gens = #[])
 (ha:s₁.heap.get? a=some {cls:=.type "list",data:=.seq vs.toArray}) (hi:IntsAre vs ns) (hl:ns.length<=sizeLine) (hr:Room k callerA)
 (F:∀base:Heap,K.In base->base.Ns mainGlobals mg->FnOk P w K mg base CX k fa fd [x] sp) (hbind:∀(s:Shared) (u:Value),BindsTo s fd ⟨[u],[]⟩ [(x,u)])
 (hsp:∀H:Hp,Only H->RdL K H a (ns.map V.int)->sp [.ref a] H (λv _=>v = .bl true) λ_ _ _=>False)
 (hCX:∀H e s',CX [] H s₁ (λ_ _ _=>False) e s'->False):
 codeAny (model P w) callerA (.call (.ref fa) ⟨[.ref a],[]⟩) (λr s'=>r = .ok (.ret (.bool true))/\OldK s₁.heap s'.heap/\s'.os=s₁.os/\AllBare s'.gens) s₁:=by
 have rv:=Yw hi;have lenV:=hi.length;have core:∀H:Hp,Only H->RdL K H a (ns.map V.int)->HOk P w H s₁.heap->(∀b,H b≠none->b=a)->(H a≠none->K.lookup a=none)->
  codeAny (model P w) callerA (.call (.ref fa) ⟨[.ref a],[]⟩) (λr s'=>r = .ok (.ret (.bool true))/\OldK s₁.heap s'.heap/\s'.os=s₁.os/\AllBare s'.gens) s₁:=by
  intro H hO hS hok hA hK;have base_of:∀{b:Addr}{o:Obj},s₁.heap.get? b=some o->H b=none->(zgd s₁.heap H).get? b=some o:=λe n=>zos e n;have noA:∀{b:Addr}{o:Obj}{es:Array DictEntry}{ep:Nat},s₁.heap.get? b=some o->o.data = .dict es ep->H b=none:=λ{b o es ep} e d=>by
   cases q:H b with
   |none=>rfl
   |some u=>
    have e':b=a:=hA b (by rw[q];simp);subst e';rw[ha]at e;cases e;have d':Data.seq vs.toArray _=Data.dict es ep:=d;cases d'
  have nsK:∀{b:Addr}{m:Str->Option Value},s₁.heap.Ns b m->(zgd s₁.heap H).Ns b m:=λ{b m} ⟨o,es,ep,e,d,r⟩=>⟨o,es,ep,base_of e (noA e d),d,r⟩;have hKb:K.In (zgd s₁.heap H):=λb o e=>base_of (KX b o e) (by
   cases q:H b with
   |none=>rfl
   |some u=>
    have e':b=a:=hA b (by rw[q];simp);subst e';rw[hK (by rw[q];simp)]at e;cases e)
  have hM:Mod K mg (zgd s₁.heap H):=⟨hKb,nsK hns,⟨mb,nsK hb,hbb⟩,let⟨mc,h1,h2⟩:=hlim;⟨mc,nsK h1,h2⟩⟩;have e0:Env0 P w K mg (zgd s₁.heap H) callerA [] s₁ H:=⟨rfl,hM,λb o e=>zqf e,Nat.le_of_eq (zmc _ _),trivial,λb hb=>absurd (show b ∈ ([]:List Addr)from hb) (by simp),hok,.of_eq hg⟩;refine codeAny_mono ((F _ hKb (nsK hns)).run callerA [] s₁ H ⟨[.ref a],[]⟩ [.ref a] [.ref a] _ _ hr e0 (hbind s₁ (.ref a)) (.cons rfl .nil) (hsp H hO hS)) λr s' h=>?_;cases r with
  |error e=>exact(hCX H e s' h).elim
  |ok fl=>
   cases fl with
   |next=>exact False.elim h
   |brk=>exact False.elim h
   |cont=>exact False.elim h
   |ret u=>
    obtain⟨v,H',os,bare,un,hok',r',q⟩:=h;have q':v = .bl true:=q;subst q';obtain rfl:u=Value.bool true:=r';refine⟨rfl,OldK.of_keep λb o e=>?_,os,bare⟩;cases q:H b with
    |none=>exact un.keep b o e q (by intro z;exact absurd (show b ∈ ([]:List Addr)from z) (by simp)) (by simp)
    |some u=>
     rcases hO b with z|⟨ob,xs,z⟩
     · rw[q]at z;cases z
     · have z2:=un.frzs b ob _ z;obtain⟨e1,_⟩:=hok b _ z;obtain⟨e2,_⟩:=hok' b _ z2;rw[e]at e1;cases e1;exact e2
 cases hk:K.lookup a with
 |some o=>
  have e:=KX a o hk;rw[ha]at e;cases e;refine core (λ_=>none) (λ_=>.inl rfl) (.inr ⟨vs.toArray,_,hk,by rw[zzF,lenV];exact hl,by simpa using rv⟩) (λb u z=>by have z':(none:Option HO)=some u:=z;cases z') (λb z=>absurd rfl z) λz=>absurd rfl z
 |none=>
  refine core (λb=>if b=a then some (.frz {cls:=.type "list",data:=.seq vs.toArray} (.lst (ns.map V.int)))else none) (λb=>?_) (.inl (.inr ⟨{cls:=.type "list",data:=.seq vs.toArray},if_pos rfl⟩)) (λb u z=>?_) (λb z=>?_) λ_=>hk
  · by_cases hb:b=a
    · exact .inr ⟨_,_,if_pos hb⟩
    · exact .inl (if_neg hb)
  · by_cases hb:b=a
    · have z':=(if_pos hb).symm.trans z;cases z';subst hb;exact⟨ha,by rw[zD];exact hl,vs,_,rv,ha⟩
    · have z':=(if_neg hb).symm.trans z;cases z'
  · by_cases hb:b=a
    · exact hb
    · exact absurd (if_neg hb) z
end L2
namespace L2
open PySem PySem.Spec PyProof.Rows
def walk_of{l:PySem.W.OpenLaw}{n k:Nat}{q:Program}{loose:List Str}{XP:(Str->Option Value)->Heap->Prop}{YP:World->Heap->Prop}{d:DefRec}{K:Params->zC}{CX:World->CXT}{sp:World->Sp}{x:Str}
 (hn:l.most=some n) (hn2:n<=sizeLine) (hdf:d.params.defaults=[]) (hr:Room k callerA)
 (hY:∀(w:World) (h:Heap),YP w h->(K w.params).In h)
 (F:∀(w:World) (mg:Str->Option Value) (fa:Addr) (h:Heap),(K w.params).In h->h.Ns mainGlobals mg->mg d.name=some (.ref fa)->
  ∃fd:FuncData,(∀(s:Shared) (u:Value),BindsTo s fd ⟨[u],[]⟩ [(x,u)])/\
   ∀base:Heap,(K w.params).In base->base.Ns mainGlobals mg->FnOk l.prog w (K w.params) mg base (CX w) k fa fd [x] (sp w))
 (hsp:∀(w:World) (H:Hp) (a:Addr) (ns:List Int),ns.length<=n->Only H->RdL (K w.params) H a (ns.map V.int)->sp w [.ref a] H (λv _=>v = .bl true) λ_ _ _=>False)
 (hCX:∀(w:World) (H:Hp) (s:Shared) (e:Value) (s':Shared),CX w [] H s (λ_ _ _=>False) e s'->False):
 PySem.W.WalkO q loose XP YP l.row.toRowW d [] (λf vs=>PySem.call f vs):=by
 refine Att.zhI hn hdf λw s₀ s₁ mg mb fa o pm cd doc a vs ns G Y ho hd hcd hmg hobj hints hlen hg=>?_;have KX:=hY w _ Y;obtain⟨fd,hb,hF⟩:=F w mg fa _ KX G.T.g hmg;exact znp KX G.T.g G.T.b G.T.builtins G.T.nolimit hg hobj hints (zzM hlen hn2) hr hF hb (λH hO hS=>hsp w H a ns hlen hO hS) λH e s'=>hCX w H s₁ e s'
end L2
namespace L2
open PySem PySem.Spec PyProof.Rows
abbrev CX0:CXT:=λ_ _ _ _ _ _=>False
abbrev E0:XK:=λ_ _ _=>False
def zua:zhr CX0 X E0:=λ_ _ _ _ _ _ _ h=>h.elim
structure Fun(K:zC)(x qual:Str)(st:Stmt)(f:Addr)(fd:FuncData):Prop where
 ex:∃(oc:Value) (od:Option Addr) (kV doc pm:Value) (an:Option Addr) (cdv ct:Value) (osl:Array (Option Value)),
  fd=PySem.W.fnOf x qual (zcY st) (ZD st) (zr st) .none kV doc pm an cdv ct/\K.lookup f=some ⟨oc,od,.func fd,osl⟩/\PySem.W.codeIn K cdv qual=true
 kp:PySem.W.keepIn K (.ref f)=true
section
variable{P:Program}{w:World}{K:zC}{mg:Str->Option Value}{base:Heap}
def Fun.ok{x qual:Str}{st:Stmt}{f:Addr}{fd:FuncData}{N ps:List Str}{k:Nat}{sp:Sp}(F:Fun K x qual st f fd)(S:FnScope N ps (zr st))(len:∀vs H Q E,sp vs H Q E->vs.length=ps.length)
 (hbody:∀(cdv:Value) (A:Around) (outer:List Env) (s:Shared) (H:Hp) (vs:List V) (Q:VK) (E:XK),Room k (A.deeper (envOfC qual (zr st) s.heap.objs.size f cdv))->sp vs H Q E->
  ∃t,PSs (Xg CX0 P w K mg base N qual (zr st) f cdv A outer s H E).nox (ZD st) t/\t {nx:=λ_ H'=>Q .non H',rt:=Q} (start N vs) H):FnOk P w K mg base CX0 (k+1) f fd ps sp:=by
 obtain⟨oc,od,kV,doc,pm,an,cdv,ct,osl,rfl,lk,hcd⟩:=F.ex;refine zne lk hcd S len λA outer s H vs Q E hr hsp=>?_;obtain⟨t,h,q⟩:=hbody cdv A outer s H vs Q E hr hsp;exact⟨t,h.nox,q⟩
def Fun.binds{x qual:Str}{st:Stmt}{f:Addr}{fd:FuncData}{ps:List Str}(F:Fun K x qual st f fd)
 (h:∀(kV doc pm:Value) (an:Option Addr) (cdv ct:Value) (us:List Value),us.length=ps.length->bindArgs (PySem.W.fnOf x qual (zcY st) (ZD st) (zr st) .none kV doc pm an cdv ct) ⟨us,[]⟩=pure (ps.zip us)):Binds K fd ps []:=by
 obtain⟨oc,od,kV,doc,pm,an,cdv,ct,osl,rfl,lk,hcd⟩:=F.ex;exact .all (h kV doc pm an cdv ct)
end
def zqW(hr:Room k A):A.units+1<cLine:=Nat.lt_of_le_of_lt (Nat.add_le_add_left (by decide:1<=64) _) hr.units
def wJ(h:n<=1000):n<sizeLine:=Nat.lt_of_le_of_lt h (by decide)
section
variable{X:Cx}
def pv(i:Nat)(hN:X.N[i]? = some x:=by rfl)(hv:Vis X.env.scope x:=by first|exact Or.inl rfl|exact Or.inr (Or.inl rfl)|exact Or.inr (Or.inr rfl))(hd:(x==("__debug__":Str))=false:=by decide)
 (hcd:(x==("__classdict__":Str))=false:=by decide):PE X (.Name x pos) (Ws i):=zpa hN hv hd hcd
end
end L2
end
section
namespace PF
open PySem PySem.Spec PyProof.Rows L2
abbrev St:=L2.St
structure KD where
 d:Addr->List (Key×V)->Prop
 c:Str->Addr
instance:CoeFun KD (λ_=>Addr->List (Key×V)->Prop):=⟨KD.d⟩
inductive D where
 |non|bl (b:Bool)|int (i:Int)|str (x:Str)|tup (ds:List D)|lst (ds:List D)|dct (kvs:List (Key×D))|cl (c:Str)|ob (c:Str) (ns:List Str) (ds:List D)|dt (ks:List (List Key)) (ds:List D)|er (c an:Str) (d:D)
def XB(a C dx:Addr):Heap->Prop:=λh=>∃o,h.get? a=some o/\o.cls = .ref C/\o.dict=some dx/\∃vs,o.data = .fields vs
mutual
inductive Rp(K:zC)(kd:KD)(O:Addr->Prop)(H:Hp):V->D->Prop
 |non:Rp K kd O H .non .non
 |bl (b:Bool):Rp K kd O H (.bl b) (.bl b)
 |int (i:Int):Rp K kd O H (.int i) (.int i)
 |str (x:Str):Rp K kd O H (.str x) (.str x)
 |tup {a:Addr}{vs:List V}{ds:List D}:¬O a->H a=some (.tup vs)->RpL K kd O H vs ds->Rp K kd O H (.ref a) (.tup ds)
 |lst {a:Addr}{vs:List V}{ds:List D}:¬O a->Rd H a (.lst vs)->RpL K kd O H vs ds->Rp K kd O H (.ref a) (.lst ds)
 |lstK {a:Addr}{its:Array Value}{n:Nat}{vs:List V}{ds:List D}:K.lookup a=some {cls:=.type "list",data:=.seq its n}->its.size<=sizeLine->Vals vs its.toList->RpL K kd O H vs ds->Rp K kd O H (.ref a) (.lst ds)
 |dct {a:Addr}{kvs:List (Key×V)}{ds:List (Key×D)}:¬O a->Rd H a (.dK kvs)->RpM K kd O H kvs ds->Rp K kd O H (.ref a) (.dct ds)
 |dctK {a:Addr}{kvs:List (Key×V)}{ds:List (Key×D)}:kd a kvs->RpM K kd O H kvs ds->Rp K kd O H (.ref a) (.dct ds)
 |cl (c:Str):Rp K kd O H (.ref (kd.c c)) (.cl c)
 |ob {a dx:Addr}{c:Str}{ns:List Str}{vs:List V}{ds:List D}:¬O a->H a=some (.ins (kd.c c) dx (ns.zip vs))->ns.length=vs.length->RpL K kd O H vs ds->Rp K kd O H (.ref a) (.ob c ns ds)
 |dt {a:Addr}{ks:List (List Key)}{vs:List V}{ds:List D}:¬O a->H a=some (.dT (ks.zip vs))->ks.length=vs.length->RpL K kd O H vs ds->Rp K kd O H (.ref a) (.dt ks ds)
 |er {a dx:Addr}{c an:Str}{v:V}{d:D}:¬O a->¬O dx->H a=some (.ext (XB a (kd.c c) dx))->H dx=some (.xd [(an,v)])->Rp K kd O H v d->Rp K kd O H (.ref a) (.er c an d)
inductive RpL(K:zC)(kd:KD)(O:Addr->Prop)(H:Hp):List V->List D->Prop
 |nil:RpL K kd O H [] []
 |cons {v:V}{d:D}{vs:List V}{ds:List D}:Rp K kd O H v d->RpL K kd O H vs ds->RpL K kd O H (v::vs) (d::ds)
inductive RpM(K:zC)(kd:KD)(O:Addr->Prop)(H:Hp):List (Key×V)->List (Key×D)->Prop
 |nil:RpM K kd O H [] []
 |cons {k:Key}{v:V}{d:D}{vs:List (Key×V)}{ds:List (Key×D)}:Rp K kd O H v d->RpM K kd O H vs ds->RpM K kd O H ((k,v)::vs) ((k,d)::ds)
end
structure Grow(W:Addr->Prop)(H:Hp)(W':Addr->Prop)(H':Hp):Prop where
 keep:∀b o,H b=some o->¬W b->H' b=some o
 own:∀b,W' b->W b\/H b=none
def Grow.refl:Grow W H W H:=⟨λ_ _ h _=>h,λ_ h=>.inl h⟩
def Grow.trans(a:Grow W H W1 H1)(b:Grow W1 H1 W2 H2):Grow W H W2 H2 where
 keep:=λx o h n=>b.keep x o (a.keep x o h n) λq=>(a.own x q).elim n λz=>by rw[z]at h;cases h
 own:=λx q=>by
  rcases b.own x q with h|h
  · exact a.own x h
  · cases e:H x with
    |none=>exact .inr rfl
    |some o=>
     refine .inl (Classical.byContradiction λn=>?_);rw[a.keep x o e n]at h;cases h
def Grow.less(h:∀a,W' a->W a):Grow W H W' H:=⟨λ_ _ q _=>q,λb q=>.inl (h b q)⟩
def Grow.wr(h:W p):Grow W H W (upd H p o):=
 ⟨λb u q n=>by rw[zH (λe=>n (by rw[e];exact h))];exact q,λ_ q=>.inl q⟩
abbrev Un2(F W:Addr->Prop):Addr->Prop:=λa=>F a\/W a
section
variable{K:zC}{kd:KD}{F W W':Addr->Prop}{H H':Hp}
def zax(g:Grow W H W' H')(n:¬W a)(h:Rd H a u):Rd H' a u:=by
 rcases h with h|⟨o,h⟩
 · exact .inl (g.keep _ _ h n)
 · exact .inr ⟨o,g.keep _ _ h n⟩
def zpG(h:Rd H a u):H a≠none:=by
 rcases h with h|⟨o,h⟩<;>(rw[h];simp)
def Z0(g:Grow W H W' H')(n:¬Un2 F W a)(h:Rd H a u):¬Un2 F W' a:=λq=>
 q.elim (λz=>n (.inl z)) λz=>(g.own a z).elim (λy=>n (.inr y)) λy=>zpG h y
def Rp.grow(g:Grow W H W' H')(h:Rp K kd (Un2 F W) H v d):Rp K kd (Un2 F W') H' v d:=
 Rp.rec (motive_1:=λv d _=>Rp K kd (Un2 F W') H' v d) (motive_2:=λvs ds _=>RpL K kd (Un2 F W') H' vs ds) (motive_3:=λvs ds _=>RpM K kd (Un2 F W') H' vs ds) .non .bl .int .str (λn h _ r=>.tup (Z0 g n (.inl h)) (g.keep _ _ h λz=>n (.inr z)) r) (λn h _ r=>.lst (Z0 g n h) (zax g (λz=>n (.inr z)) h) r) (λa e f _ r=>.lstK a e f r) (λn h _ r=>.dct (Z0 g n h) (zax g (λz=>n (.inr z)) h) r) (λh _ r=>.dctK h r) .cl (λn h l _ r=>.ob (Z0 g n (.inl h)) (g.keep _ _ h λz=>n (.inr z)) l r) (λn h l _ r=>.dt (Z0 g n (.inl h)) (g.keep _ _ h λz=>n (.inr z)) l r) (λn m h k _ r=>.er (Z0 g n (.inl h)) (Z0 g m (.inl k)) (g.keep _ _ h λz=>n (.inr z)) (g.keep _ _ k λz=>m (.inr z)) r) .nil (λ_ _ h r=>.cons h r) .nil (λ_ _ h r=>.cons h r) h
def RpL.ind{O:Addr->Prop}{P:List V->List D->Prop}(h0:P [] [])(h1:∀{v d vs ds},Rp K kd O H v d->RpL K kd O H vs ds->P vs ds->P (v::vs) (d::ds)){vs:List V}{ds:List D}(h:RpL K kd O H vs ds):P vs ds:=
 RpL.rec (motive_1:=λ_ _ _=>True) (motive_2:=λvs ds _=>P vs ds) (motive_3:=λ_ _ _=>True) ⟨⟩ (λ_=>⟨⟩) (λ_=>⟨⟩) (λ_=>⟨⟩) (λ_ _ _ _=>⟨⟩) (λ_ _ _ _=>⟨⟩) (λ_ _ _ _ _=>⟨⟩) (λ_ _ _ _=>⟨⟩) (λ_ _ _=>⟨⟩) (λ_=>⟨⟩) (λ_ _ _ _ _=>⟨⟩) (λ_ _ _ _ _=>⟨⟩) (λ_ _ _ _ _ _=>⟨⟩) h0 (λa r _ ih=>h1 a r ih) ⟨⟩ (λ_ _ _ _=>⟨⟩) h
def RpM.ind{O:Addr->Prop}{P:List (Key×V)->List (Key×D)->Prop}(h0:P [] [])(h1:∀{k v d vs ds},Rp K kd O H v d->RpM K kd O H vs ds->P vs ds->P ((k,v)::vs) ((k,d)::ds)){vs:List (Key×V)}{ds:List (Key×D)}(h:RpM K kd O H vs ds):P vs ds:=
 RpM.rec (motive_1:=λ_ _ _=>True) (motive_2:=λ_ _ _=>True) (motive_3:=λvs ds _=>P vs ds) ⟨⟩ (λ_=>⟨⟩) (λ_=>⟨⟩) (λ_=>⟨⟩) (λ_ _ _ _=>⟨⟩) (λ_ _ _ _=>⟨⟩) (λ_ _ _ _ _=>⟨⟩) (λ_ _ _ _=>⟨⟩) (λ_ _ _=>⟨⟩) (λ_=>⟨⟩) (λ_ _ _ _ _=>⟨⟩) (λ_ _ _ _ _=>⟨⟩) (λ_ _ _ _ _ _=>⟨⟩) ⟨⟩ (λ_ _ _ _=>⟨⟩) h0 (λa r _ ih=>h1 a r ih) h
def RpL.grow(g:Grow W H W' H'){vs:List V}{ds:List D}(h:RpL K kd (Un2 F W) H vs ds):RpL K kd (Un2 F W') H' vs ds:=RpL.ind .nil (λa _ r=>.cons (Rp.grow g a) r) h
def Rp.less(g:∀a,O' a->O a)(h:Rp K kd O H v d):Rp K kd O' H v d:=
 Rp.rec (motive_1:=λv d _=>Rp K kd O' H v d) (motive_2:=λvs ds _=>RpL K kd O' H vs ds) (motive_3:=λvs ds _=>RpM K kd O' H vs ds) .non .bl .int .str (λn h _ r=>.tup (λz=>n (g _ z)) h r) (λn h _ r=>.lst (λz=>n (g _ z)) h r) (λa e f _ r=>.lstK a e f r) (λn h _ r=>.dct (λz=>n (g _ z)) h r) (λh _ r=>.dctK h r) .cl (λn h l _ r=>.ob (λz=>n (g _ z)) h l r) (λn h l _ r=>.dt (λz=>n (g _ z)) h l r) (λn m h k _ r=>.er (λz=>n (g _ z)) (λz=>m (g _ z)) h k r) .nil (λ_ _ h r=>.cons h r) .nil (λ_ _ h r=>.cons h r) h
def RpL.less{O O':Addr->Prop}(g:∀a,O' a->O a){vs:List V}{ds:List D}(h:RpL K kd O H vs ds):RpL K kd O' H vs ds:=RpL.ind .nil (λa _ r=>.cons (Rp.less g a) r) h
def RpM.less{O O':Addr->Prop}(g:∀a,O' a->O a){vs:List (Key×V)}{ds:List (Key×D)}(h:RpM K kd O H vs ds):RpM K kd O' H vs ds:=RpM.ind .nil (λa _ r=>.cons (Rp.less g a) r) h
def RpL.length{O:Addr->Prop}{vs:List V}{ds:List D}(h:RpL K kd O H vs ds):vs.length=ds.length:=RpL.ind (P:=λvs ds=>vs.length=ds.length) rfl (λ_ _ r=>congrArg (· + 1) r) h
def RpM.length{O:Addr->Prop}{vs:List (Key×V)}{ds:List (Key×D)}(h:RpM K kd O H vs ds):vs.length=ds.length:=RpM.ind (P:=λvs ds=>vs.length=ds.length) rfl (λ_ _ r=>congrArg (· + 1) r) h
def RpL.get{O:Addr->Prop}{vs:List V}{ds:List D}{i:Nat}{d:D}(h:RpL K kd O H vs ds)(e:ds[i]? = some d):∃v,vs[i]? = some v/\Rp K kd O H v d:=
 RpL.ind (P:=λvs ds=>∀i,ds[i]? = some d->∃v,vs[i]? = some v/\Rp K kd O H v d) (λi e=>by rw[List.getElem?_nil]at e;cases e) (λa _ ih i e=>by
  cases i with
  |zero=>cases e;exact⟨_,rfl,a⟩
  |succ i=>exact ih i e) h i e
def RpL.append{O:Addr->Prop}{vs ws:List V}{ds es:List D}(h:RpL K kd O H vs ds)(r:RpL K kd O H ws es):RpL K kd O H (vs++ws) (ds++es):=RpL.ind (P:=λvs ds=>RpL K kd O H (vs++ws) (ds++es)) r (λa _ t=>.cons a t) h
def RpL.take{O:Addr->Prop}{vs:List V}{ds:List D}(n:Nat)(h:RpL K kd O H vs ds):RpL K kd O H (vs.take n) (ds.take n):=
 RpL.ind (P:=λvs ds=>∀n,RpL K kd O H (vs.take n) (ds.take n)) (λn=>by rw[List.take_nil,List.take_nil];exact .nil) (λa _ ih n=>by
  cases n with
  |zero=>exact .nil
  |succ n=>exact .cons a (ih n)) h n
def RpL.drop{O:Addr->Prop}{vs:List V}{ds:List D}(n:Nat)(h:RpL K kd O H vs ds):RpL K kd O H (vs.drop n) (ds.drop n):=
 RpL.ind (P:=λvs ds=>∀n,RpL K kd O H (vs.drop n) (ds.drop n)) (λn=>by rw[List.drop_nil,List.drop_nil];exact .nil) (λa b ih n=>by
  cases n with
  |zero=>exact .cons a b
  |succ n=>exact ih n) h n
theorem RpL.rep(h:RpL K kd O H vs ds):∀k:Nat,RpL K kd O H (List.replicate k vs).flatten (List.replicate k ds).flatten
 |0=>.nil
 |k+1=>by
  rw[List.replicate_succ,List.replicate_succ,List.flatten_cons,List.flatten_cons];exact h.append (RpL.rep h k)
end
inductive Vw(K:zC)(kd:KD)(O:Addr->Prop)(H:Hp):V->D->Prop
 |non:Vw K kd O H .non .non
 |bl (b:Bool):Vw K kd O H (.bl b) (.bl b)
 |int (i:Int):Vw K kd O H (.int i) (.int i)
 |str (x:Str):Vw K kd O H (.str x) (.str x)
 |tup {a:Addr}{vs:List V}{ds:List D}:Rp K kd O H (.ref a) (.tup ds)->SqT K H a vs->RpL K kd O H vs ds->Vw K kd O H (.ref a) (.tup ds)
 |lst {a:Addr}{vs:List V}{ds:List D}:RdL K H a vs->RpL K kd O H vs ds->Vw K kd O H (.ref a) (.lst ds)
 |dct {a:Addr}{kvs:List (Key×V)}{ds:List (Key×D)}:(Rd H a (.dK kvs)\/kd a kvs)->RpM K kd O H kvs ds->Vw K kd O H (.ref a) (.dct ds)
 |cl (c:Str):Vw K kd O H (.ref (kd.c c)) (.cl c)
 |ob {a dx:Addr}{c:Str}{ns:List Str}{vs:List V}{ds:List D}:H a=some (.ins (kd.c c) dx (ns.zip vs))->ns.length=vs.length->RpL K kd O H vs ds->Vw K kd O H (.ref a) (.ob c ns ds)
 |dt {a:Addr}{ks:List (List Key)}{vs:List V}{ds:List D}:H a=some (.dT (ks.zip vs))->ks.length=vs.length->RpL K kd O H vs ds->Vw K kd O H (.ref a) (.dt ks ds)
 |er {a dx:Addr}{c an:Str}{v:V}{d:D}:H a=some (.ext (XB a (kd.c c) dx))->H dx=some (.xd [(an,v)])->Rp K kd O H v d->Vw K kd O H (.ref a) (.er c an d)
def Rp.vw{K:zC}{kd:KD}{O:Addr->Prop}{H:Hp}{v:V}{d:D}(h:Rp K kd O H v d):Vw K kd O H v d:=by
 cases h with
 |non=>exact .non
 |bl b=>exact .bl b
 |int i=>exact .int i
 |str x=>exact .str x
 |tup n h r=>exact .tup (.tup n h r) (.inl (.inl h)) r
 |lst n h r=>exact .lst (.inl h) r
 |lstK a e f r=>exact .lst (.inr ⟨_,_,a,e,f⟩) r
 |dct n h r=>exact .dct (.inl h) r
 |dctK h r=>exact .dct (.inr h) r
 |cl c=>exact .cl c
 |ob n h l r=>exact .ob h l r
 |dt n h l r=>exact .dt h l r
 |er n m h k r=>exact .er h k r
def _root_.L2.RdL.sq{K:zC}{H:Hp}{a:Addr}{xs:List V}(h:RdL K H a xs):SqL K H a xs:=by
 rcases h with h|⟨its,n,k,z,r⟩
 · exact .inl h
 · exact .inr ⟨_,its,n,k,rfl,rfl,rfl,z,r⟩
def zjG(I:Inv X pins σ H s)(h:RdL X.K H a xs):
 xs.length<=sizeLine/\∃(its:List Value) (n:Nat),Vals xs its/\s.heap.get? a=some {cls:=.type "list",data:=.seq its.toArray n}:=by
 rcases h with h|⟨its,n,k,z,r⟩
 · exact h.ok I.hok
 · refine⟨by rw[r.length];simpa using z,its.toList,n,r,by simpa using I.kIn _ _ k⟩
def Rp.cl_eq{K:zC}{kd:KD}{O:Addr->Prop}{H:Hp}{C:Addr}{c:Str}(h:Rp K kd O H (.ref C) (.cl c)):C=kd.c c:=by
 cases h;rfl
def zZ:D->Bool
 | .non=>true | .bl _=>true | .int _=>true | .str _=>true|_=>false
def Rp.flat{K:zC}{kd:KD}{O O':Addr->Prop}{H H':Hp}{v:V}{d:D}(h:Rp K kd O H v d)(e:zZ d=true):Rp K kd O' H' v d:=by
 cases h with
 |non=>exact .non
 |bl b=>exact .bl b
 |int i=>exact .int i
 |str x=>exact .str x
 |_=>cases e
inductive Kind where
 |ls|tp|dc (ks:List Key)|ob (c:Str) (ns:List Str)|dt (ks:List (List Key))
inductive O where
 |lf (st:Bool) (d:D)|nd (k:Kind) (os:List O)
abbrev lfs(st:Bool)(d:D):O:=.lf (zZ d||st) d
mutual
inductive Ro(L:Bool->V->D->Prop)(N:Addr->Prop)(H:Hp):V->O->List Addr->Prop
 |lf {st:Bool}{v:V}{d:D}:L st v d->Ro L N H v (.lf st d) []
 |ls {a:Addr}{vs:List V}{os:List O}{fp:List Addr}:H a=some (.lst vs)->RoL L N H vs os fp->Ro L N H (.ref a) (.nd .ls os) (a::fp)
 |dc {a:Addr}{ks:List Key}{vs:List V}{os:List O}{fp:List Addr}:H a=some (.dK (ks.zip vs))->ks.length=vs.length->RoL L N H vs os fp->Ro L N H (.ref a) (.nd (.dc ks) os) (a::fp)
 |ob {a dx C:Addr}{c:Str}{ns:List Str}{vs:List V}{os:List O}{fp:List Addr}:L true (.ref C) (.cl c)->H a=some (.ins C dx (ns.zip vs))->ns.length=vs.length->RoL L N H vs os fp->Ro L N H (.ref a) (.nd (.ob c ns) os) (a::fp)
 |dt {a:Addr}{ks:List (List Key)}{vs:List V}{os:List O}{fp:List Addr}:H a=some (.dT (ks.zip vs))->ks.length=vs.length->RoL L N H vs os fp->Ro L N H (.ref a) (.nd (.dt ks) os) (a::fp)
 |tp {a:Addr}{vs:List V}{os:List O}{fp:List Addr}:N a->H a=some (.tup vs)->RoL L N H vs os fp->Ro L N H (.ref a) (.nd .tp os) fp
inductive RoL(L:Bool->V->D->Prop)(N:Addr->Prop)(H:Hp):List V->List O->List Addr->Prop
 |nil:RoL L N H [] [] []
 |cons {v:V}{o:O}{vs:List V}{os:List O}{fp fq:List Addr}:Ro L N H v o fp->RoL L N H vs os fq->RoL L N H (v::vs) (o::os) (fp++fq)
end
mutual
def O.toD:O->D
 | .lf _ d=>d
 | .nd .ls os=>.lst (O.toDs os)
 | .nd .tp os=>.tup (O.toDs os)
 | .nd (.dc ks) os=>.dct (ks.zip (O.toDs os))
 | .nd (.ob c ns) os=>.ob c ns (O.toDs os)
 | .nd (.dt ks) os=>.dt ks (O.toDs os)
def O.toDs:List O->List D
 | []=>[]
 |o::r=>o.toD::O.toDs r
end
mutual
def O.str:O->Bool
 | .lf st _=>st
 | .nd _ os=>O.strs os
def O.strs:List O->Bool
 | []=>true
 |o::r=>o.str&&O.strs r
end
section
variable{L L':Bool->V->D->Prop}{N N':Addr->Prop}{H H':Hp}{K:zC}{kd:KD}{Ob:Addr->Prop}
def Ro.mono(hL:∀st v d,L st v d->L' st v d)(hN:∀a vs,N a->H a=some (.tup vs)->N' a/\H' a=some (.tup vs))(k:∀a ∈ fp,∀u,H a=some u->H' a=some u)(h:Ro L N H v o fp):Ro L' N' H' v o fp:=
 Ro.rec (motive_1:=λv o fp _=>(∀a ∈ fp,∀u,H a=some u->H' a=some u)->Ro L' N' H' v o fp) (motive_2:=λvs os fp _=>(∀a ∈ fp,∀u,H a=some u->H' a=some u)->RoL L' N' H' vs os fp)
  (λh _=>.lf (hL _ _ _ h)) (λh _ r k=>.ls (k _ zzD _ h) (r λa m=>k a (zzB _ m))) (λh l _ r k=>.dc (k _ zzD _ h) l (r λa m=>k a (zzB _ m))) (λc h l _ r k=>.ob (hL _ _ _ c) (k _ zzD _ h) l (r λa m=>k a (zzB _ m))) (λh l _ r k=>.dt (k _ zzD _ h) l (r λa m=>k a (zzB _ m))) (λn h _ r k=>.tp (hN _ _ n h).1 (hN _ _ n h).2 (r k))
  (λ_=>.nil) (λ_ _ h r k=>.cons (h λa m=>k a (zzN _ m)) (r λa m=>k a (zzJ _ m))) h k
def RoL.ind{P:List V->List O->List Addr->Prop}(h0:P [] [] [])(h1:∀{v o vs os fp fq},Ro L N H v o fp->RoL L N H vs os fq->P vs os fq->P (v::vs) (o::os) (fp++fq)){vs:List V}{os:List O}{fp:List Addr}(h:RoL L N H vs os fp):P vs os fp:=
 RoL.rec (motive_1:=λ_ _ _ _=>True) (motive_2:=λvs os fp _=>P vs os fp) (λ_=>⟨⟩) (λ_ _ _=>⟨⟩) (λ_ _ _ _=>⟨⟩) (λ_ _ _ _ _=>⟨⟩) (λ_ _ _ _=>⟨⟩) (λ_ _ _ _=>⟨⟩) h0 (λa r _ ih=>h1 a r ih) h
def RoL.mono(hL:∀st v d,L st v d->L' st v d)(hN:∀a vs,N a->H a=some (.tup vs)->N' a/\H' a=some (.tup vs)){vs:List V}{os:List O}{fp:List Addr}(k:∀a ∈ fp,∀u,H a=some u->H' a=some u)(h:RoL L N H vs os fp):RoL L' N' H' vs os fp:=
 RoL.ind (P:=λvs os fp=>(∀a ∈ fp,∀u,H a=some u->H' a=some u)->RoL L' N' H' vs os fp) (λ_=>.nil) (λh _ r k=>.cons (Ro.mono hL hN (λa m=>k a (zzN _ m)) h) (r λa m=>k a (zzJ _ m))) h k
theorem zcX:∀{ks:List Key}{vs:List V}{ds:List D},RpL K kd Ob H vs ds->ks.length=vs.length->RpM K kd Ob H (ks.zip vs) (ks.zip ds)
 | [],_,_,_,_=>.nil
 |_::_,_,_,.nil,e=>by simp at e
 |_::_,_,_,.cons h r,e=>.cons h (zcX r (by simpa using e))
def Ro.rp(b:Bool)(hL:∀st v d,(b=true->st=true)->L st v d->Rp K kd Ob H v d)(hN:∀a,N a->¬Ob a){v:V}{o:O}{fp:List Addr}(s:b=true->o.str=true)(k:∀a ∈ fp,¬Ob a)(h:Ro L N H v o fp):Rp K kd Ob H v o.toD:=
 Ro.rec (motive_1:=λv o fp _=>(b=true->o.str=true)->(∀a ∈ fp,¬Ob a)->Rp K kd Ob H v o.toD) (motive_2:=λvs os fp _=>(b=true->O.strs os=true)->(∀a ∈ fp,¬Ob a)->RpL K kd Ob H vs (O.toDs os))
  (λh s _=>hL _ _ _ s h) (λh _ r s k=>.lst (k _ zzD) (.inl h) (r s λa m=>k a (zzB _ m))) (λh l _ r s k=>.dct (k _ zzD) (.inl h) (zcX (r s λa m=>k a (zzB _ m)) l)) (λc h l _ r s k=>by
   have e:=(hL _ _ _ (λ_=>rfl) c).cl_eq;subst e;exact .ob (k _ zzD) h l (r s λa m=>k a (zzB _ m))) (λh l _ r s k=>.dt (k _ zzD) h l (r s λa m=>k a (zzB _ m))) (λn h _ r s k=>.tup (hN _ n) h (r s k))
  (λ_ _=>.nil) (λ_ _ h r s k=>.cons (h (λz=>((zyA _ _).mp (s z)).1) λa m=>k a (zzN _ m)) (r (λz=>((zyA _ _).mp (s z)).2) λa m=>k a (zzJ _ m))) h s k
def RoL.rp(b:Bool)(hL:∀st v d,(b=true->st=true)->L st v d->Rp K kd Ob H v d)(hN:∀a,N a->¬Ob a){vs:List V}{os:List O}{fp:List Addr}(s:b=true->O.strs os=true)(k:∀a ∈ fp,¬Ob a)(h:RoL L N H vs os fp):RpL K kd Ob H vs (O.toDs os):=
 RoL.ind (P:=λvs os fp=>(b=true->O.strs os=true)->(∀a ∈ fp,¬Ob a)->RpL K kd Ob H vs (O.toDs os)) (λ_ _=>.nil) (λh _ r s k=>.cons (Ro.rp b hL hN (λz=>((zyA _ _).mp (s z)).1) (λa m=>k a (zzN _ m)) h) (r (λz=>((zyA _ _).mp (s z)).2) λa m=>k a (zzJ _ m))) h s k
def RoL.length{vs:List V}{os:List O}{fp:List Addr}(h:RoL L N H vs os fp):vs.length=os.length:=RoL.ind (P:=λvs os _=>vs.length=os.length) rfl (λ_ _ r=>congrArg (· + 1) r) h
theorem Wc:∀os:List O,(O.toDs os).length=os.length
 | []=>rfl
 |_::r=>congrArg (· + 1) (Wc r)
def RoL.append{vs ws:List V}{os ps:List O}{f g:List Addr}(h:RoL L N H vs os f)(r:RoL L N H ws ps g):RoL L N H (vs++ws) (os++ps) (f++g):=RoL.ind (P:=λvs os f=>RoL L N H (vs++ws) (os++ps) (f++g)) r (λh _ t=>by rw[zxB];exact .cons h t) h
def RoL.one(h:Ro L N H v o f):RoL L N H [v] [o] f:=by
 have:=RoL.cons h (RoL.nil (L:=L) (N:=N) (H:=H));rw[zyC]at this;exact this
def RoL.at_:∀{vs:List V}{os:List O}{fp:List Addr},RoL L N H vs os fp->os[k]? = some o->∃v f fo g,vs[k]? = some v/\fp=f++(fo++g)/\Ro L N H v o fo/\RoL L N H (vs.take k) (os.take k) f/\RoL L N H (vs.drop (k+1)) (os.drop (k+1)) g:=by
 induction k with
 |zero=>
  intro vs os fp h e;cases h with
  |nil=>cases e
  |cons h r=>
   rw[List.getElem?_cons_zero]at e;cases e;exact⟨_,[],_,_,rfl,rfl,h,.nil,r⟩
 |succ k ih=>
  intro vs os fp h e;cases h with
  |nil=>cases e
  |cons h r=>
   rw[List.getElem?_cons_succ]at e;obtain⟨v,f,fo,g,e1,e2,h1,h2,h3⟩:=ih r e;subst e2;exact⟨v,_,fo,g,by rw[List.getElem?_cons_succ];exact e1,(zxB _ _ _).symm,h1,.cons h h2,h3⟩
def zcz(l:List α)(k:Nat):l.eraseIdx k=l.take k++l.drop (k+1):=List.eraseIdx_eq_take_drop_succ l k
end
abbrev AS:=List (Option O)
abbrev Ad:=Nat->List Addr
def Gw(T:List Addr)(ad:Ad):Addr->Prop:=λa=>a ∈ T\/∃i,a ∈ ad i
abbrev Lv(F B G:Addr->Prop)(st:Bool):Addr->Prop:=Un2 (λa=>(st=true/\F a)\/B a) G
abbrev Lf(K:zC)(kd:KD)(F B G:Addr->Prop)(H:Hp):Bool->V->D->Prop:=λst v d=>Rp K kd (Lv F B G st) H v d
abbrev Nf(F B G:Addr->Prop):Addr->Prop:=λa=>¬Lv F B G true a
abbrev RoS(K:zC)(kd:KD)(F B G:Addr->Prop)(H:Hp):V->O->List Addr->Prop:=Ro (Lf K kd F B G H) (Nf F B G) H
abbrev vZ(K:zC)(kd:KD)(F B G:Addr->Prop)(H:Hp):List V->List O->List Addr->Prop:=RoL (Lf K kd F B G H) (Nf F B G) H
def zfc(K:zC)(kd:KD)(F B G:Addr->Prop)(H:Hp):Option O->Option (Option V)->List Addr->Prop
 |none,_,fp=>fp=[]
 |some o,s,fp=>∃v,s=some (some v)/\RoS K kd F B G H v o fp
structure Rel(K:zC)(kd:KD)(F B:Addr->Prop)(T:List Addr)(ad:Ad)(as:AS)(σ:St)(H:Hp):Prop where
 len:as.length=σ.length
 out:∀i,as.length<=i->ad i=[]
 nd:∀i,(ad i).Nodup
 inj:∀i j a,a ∈ ad i->a ∈ ad j->i=j
 tnd:T.Nodup
 dis:∀i a,a ∈ ad i->a ∉ T
 ftr:∀a,F a->H a≠none
 btr:∀a,B a->H a≠none/\¬F a/\¬Gw T ad a
 gtr:∀a,Gw T ad a->H a≠none/\¬F a
 sl:∀i s,as[i]? = some s->zfc K kd F B (Gw T ad) H s σ[i]? (ad i)
inductive RV where
 |ow (o:O)|bo (i:Nat)
def wB(K:zC)(kd:KD)(F B:Addr->Prop)(T:List Addr)(ad:Ad)(σ:St)(H:Hp)(v:V):RV->Prop
 | .ow o=>RoS K kd F B (Gw T ad) H v o T
 | .bo i=>T=[]/\σ[i]? = some (some v)
def O.frz(o:O):O:=.lf o.str o.toD
def RV.frz:RV->RV
 | .ow o=>.ow o.frz
 | .bo i=>.bo i
def O.isLf:O->Bool
 | .lf _ _=>true
 |_=>false
def O.kl:O->Option Bool
 | .lf st _=>some st
 | .nd _ os=>if os.all O.isLf=true then some (O.strs os)else none
def RV.view(as:AS):RV->Option (D×Option Bool)
 | .ow o=>some (o.toD,some o.str)
 | .bo i=>match as[i]? with
  |some (some o)=>some (o.toD,o.kl)
  |_=>none
def Obl(F B G:Addr->Prop):Option Bool->Addr->Prop
 |some st=>Lv F B G st
 |none=>λ_=>False
section
variable{K:zC}{kd:KD}{F B F' B':Addr->Prop}{G G':Addr->Prop}{T T':List Addr}{ad ad1:Ad}{as as1:AS}{σ:St}{H H1 H':Hp}{v:V}{r:RV}{o:O}{fp:List Addr}{vs:List V}{os:List O}
def RoS.grow(g:Grow G H G' H')(k:∀a ∈ fp,∀u,H a=some u->H' a=some u)(h:RoS K kd F B G H v o fp):RoS K kd F B G' H' v o fp:=
 Ro.mono (λst v d r=>Rp.grow g r) (λa vs n e=>⟨λz=>z.elim (λy=>n (.inl y)) λy=>(g.own a y).elim (λw=>n (.inr w)) λw=>(by rw[w]at e;cases e),g.keep a _ e (λw=>n (.inr w))⟩) k h
def vZ.grow(g:Grow G H G' H')(k:∀a ∈ fp,∀u,H a=some u->H' a=some u)(h:vZ K kd F B G H vs os fp):vZ K kd F B G' H' vs os fp:=
 RoL.mono (λst v d r=>Rp.grow g r) (λa vs n e=>⟨λz=>z.elim (λy=>n (.inl y)) λy=>(g.own a y).elim (λw=>n (.inr w)) λw=>(by rw[w]at e;cases e),g.keep a _ e (λw=>n (.inr w))⟩) k h
def RoS.lv(g:∀st a,Lv F' B' G' st a->Lv F B G st a)(h:RoS K kd F B G H v o fp):RoS K kd F' B' G' H v o fp:=
 Ro.mono (λst v d r=>r.less (g st)) (λa vs n e=>⟨λz=>n (g true a z),e⟩) (λ_ _ _ e=>e) h
def vZ.lv(g:∀st a,Lv F' B' G' st a->Lv F B G st a)(h:vZ K kd F B G H vs os fp):vZ K kd F' B' G' H vs os fp:=
 RoL.mono (λst v d r=>r.less (g st)) (λa vs n e=>⟨λz=>n (g true a z),e⟩) (λ_ _ _ e=>e) h
def RoS.less(g:∀a,G' a->G a)(h:RoS K kd F B G H v o fp):RoS K kd F B G' H v o fp:=RoS.lv (λ_ a z=>z.elim .inl λy=>.inr (g a y)) h
def Gw.drop:∀a,Gw [] ad a->Gw T ad a:=λ_ h=>h.elim (λz=>nomatch z) .inr
def Rel.trk(R:Rel K kd F B T ad as σ H)(st:Bool):∀a,Lv F B (Gw T ad) st a->H a≠none:=λa h=>by
 rcases h with(h|h)|h
 · exact R.ftr a h.2
 · exact(R.btr a h).1
 · exact(R.gtr a h).1
def Rel.tr(R:Rel K kd F B T ad as σ H)(lv:Option Bool):∀a,Obl F B (Gw T ad) lv a->H a≠none:=λa h=>by
 cases lv with
 |none=>exact h.elim
 |some st=>exact R.trk st a h
def zfc.lv(g:∀st a,Lv F' B' G' st a->Lv F B G st a)(h:zfc K kd F B G H s x fp):zfc K kd F' B' G' H s x fp:=by
 cases s with
 |none=>exact h
 |some o=>obtain⟨v,e,r⟩:=h;exact⟨v,e,RoS.lv g r⟩
def zfc.less(g:∀a,G' a->G a)(h:zfc K kd F B G H s x fp):zfc K kd F B G' H s x fp:=h.lv (λ_ a z=>z.elim .inl λy=>.inr (g a y))
def zfc.grow(g:Grow G H G' H')(k:∀a ∈ fp,∀u,H a=some u->H' a=some u)(h:zfc K kd F B G H s x fp):zfc K kd F B G' H' s x fp:=by
 cases s with
 |none=>exact h
 |some o=>obtain⟨v,e,r⟩:=h;exact⟨v,e,RoS.grow g k r⟩
def Rel.drop(R:Rel K kd F B T ad as σ H):Rel K kd F B [] ad as σ H where
 len:=R.len
 out:=R.out
 nd:=R.nd
 inj:=R.inj
 tnd:=zyH
 dis:=λ_ _ _ z=>nomatch z
 ftr:=R.ftr
 btr:=λa h=>let⟨h1,h2,h3⟩:=R.btr a h;⟨h1,h2,λz=>h3 (Gw.drop a z)⟩
 gtr:=λa h=>R.gtr a (Gw.drop a h)
 sl:=λi s e=>(R.sl i s e).less Gw.drop
def zjw(R:Rel K kd F B T ad as σ H)(h:RoS K kd F B (Gw T ad) H v o T):Rp K kd (Lv F B (Gw [] ad) o.str) H v o.toD:=
 Ro.rp o.str (λst v d hs r=>r.less λa z=>z.elim (λy=>.inl (y.elim (λx=>.inl ⟨hs x.1,x.2⟩) .inr)) λy=>.inr (Gw.drop a y))
  (λa n z=>n (z.elim (λy=>.inl (y.elim (λx=>.inl ⟨rfl,x.2⟩) .inr)) λy=>.inr (Gw.drop a y))) id
  (λa m z=>by
   rcases z with(z|z)|z|⟨i,z⟩
   · exact(R.gtr a (.inl m)).2 z.2
   · exact(R.btr a z).2.2 (.inl m)
   · cases z
   · exact R.dis i a z m) h
def wB.drop(R:Rel K kd F B T ad as σ H)(h:wB K kd F B T ad σ H v r):wB K kd F B [] ad σ H v r.frz:=by
 cases r with
 |ow o=>exact .lf (zjw R h)
 |bo i=>exact⟨rfl,h.2⟩
def wB.grow(g:Grow (Gw [] ad) H (Gw [] ad1) H1)(h:wB K kd F B [] ad σ H v r):wB K kd F B [] ad1 σ H1 v r:=by
 cases r with
 |ow o=>exact RoS.grow g (λ_ m=>nomatch m) h
 |bo i=>exact h
def zmx(h:vZ K kd F B G H vs os fp):os.all O.isLf=true->fp=[]:=
 RoL.ind (P:=λ_ os fp=>os.all O.isLf=true->fp=[]) (λ_=>rfl) (λh _ ih e=>by
  rw[List.all_cons,zyA]at e;rw[ih e.2,zyC];cases h with
  |lf=>rfl
  |ls=>cases e.1
  |dc=>cases e.1
  |ob=>cases e.1
  |dt=>cases e.1
  |tp=>cases e.1) h
def zdG{st:Bool}{b:Bool}(hs:b=true->st=true):∀a,Lv F B G b a->Lv F B G st a:=λa z=>z.elim (λy=>.inl (y.elim (λx=>.inl ⟨hs x.1,x.2⟩) .inr)) .inr
def zbB(h:vZ K kd F B G H vs os fp)(e:os.all O.isLf=true):RpL K kd (Lv F B G (O.strs os)) H vs (O.toDs os):=by
 have:=zmx h e;subst this;exact RoL.rp (O.strs os) (λst v d hs r=>r.less (zdG hs)) (λa n z=>n (zdG (λ_=>rfl) a z)) id (by intro a m;cases m) h
def W0(h:vZ K kd F B G H vs os fp):RpL K kd (λ_=>False) H vs (O.toDs os):=RoL.rp false (λst v d _ r=>r.less λ_ z=>z.elim) (λ_ _ z=>z) (λz=>Bool.noConfusion z) (λ_ _ z=>z) h
def zhg(h:RoS K kd F B G H v o fp):Rp K kd (λ_=>False) H v o.toD:=Ro.rp false (λst v d _ r=>r.less λ_ z=>z.elim) (λ_ _ z=>z) (λz=>Bool.noConfusion z) (λ_ _ z=>z) h
def zgo(h:RoS K kd F B G H v o []):Rp K kd (Lv F B G o.str) H v o.toD:=
 Ro.rp o.str (λst v d hs r=>r.less (zdG hs)) (λa n z=>n (zdG (λ_=>rfl) a z)) id (by intro a m;cases m) h
def RoS.vw(h:RoS K kd F B G H v o fp):Vw K kd (Obl F B G o.kl) H v o.toD:=by
 cases h with
 |lf h=>exact h.vw
 |ls hH r=>
  rename_i a vs' os' fp';show Vw K kd (Obl F B G (if os'.all O.isLf=true then some (O.strs os')else none)) H _ (.lst (O.toDs os'))
  by_cases e:os'.all O.isLf=true
  · rw[if_pos e];exact .lst (.inl (.inl hH)) (zbB r e)
  · rw[if_neg e];exact .lst (.inl (.inl hH)) (W0 r)
 |dc hH l r=>
  rename_i a ks vs' os' fp';show Vw K kd (Obl F B G (if os'.all O.isLf=true then some (O.strs os')else none)) H _ (.dct (ks.zip (O.toDs os')))
  by_cases e:os'.all O.isLf=true
  · rw[if_pos e];exact .dct (.inl (.inl hH)) (zcX (zbB r e) l)
  · rw[if_neg e];exact .dct (.inl (.inl hH)) (zcX (W0 r) l)
 |ob hc hH l r=>
  rename_i a dx C c ns vs' os' fp';have ec:C=kd.c c:=hc.cl_eq;subst ec;show Vw K kd (Obl F B G (if os'.all O.isLf=true then some (O.strs os')else none)) H _ (.ob c ns (O.toDs os'))
  by_cases e:os'.all O.isLf=true
  · rw[if_pos e];exact .ob hH l (zbB r e)
  · rw[if_neg e];exact .ob hH l (W0 r)
 |dt hH l r=>
  rename_i a ks vs' os' fp';show Vw K kd (Obl F B G (if os'.all O.isLf=true then some (O.strs os')else none)) H _ (.dt ks (O.toDs os'))
  by_cases e:os'.all O.isLf=true
  · rw[if_pos e];exact .dt hH l (zbB r e)
  · rw[if_neg e];exact .dt hH l (W0 r)
 |tp n hH r=>
  rename_i a vs' os';show Vw K kd (Obl F B G (if os'.all O.isLf=true then some (O.strs os')else none)) H _ (.tup (O.toDs os'))
  by_cases e:os'.all O.isLf=true
  · rw[if_pos e];have rl:=zbB r e;exact .tup (.tup (λz=>n (zdG (λ_=>rfl) _ z)) hH rl) (.inl (.inl hH)) rl
  · rw[if_neg e];exact .tup (.tup (λz=>z) hH (W0 r)) (.inl (.inl hH)) (W0 r)
def wB.vw(R:Rel K kd F B [] ad as σ H)(h:wB K kd F B [] ad σ H v r)(e:r.view as=some (d,lv)):Vw K kd (Obl F B (Gw [] ad) lv) H v d:=by
 cases r with
 |ow o=>
  cases e;exact(zgo h).vw
 |bo i=>
  have e:(match as[i]? with|some (some o)=>some (o.toD,o.kl)|_=>none)=some (d,lv):=e;cases k:as[i]? with
  |none=>rw[k]at e;cases e
  |some s=>
   cases s with
   |none=>rw[k]at e;cases e
   |some o=>
    rw[k]at e;cases e;obtain⟨w,hw,ro⟩:=R.sl i _ k;rw[h.2]at hw;cases hw;exact ro.vw
def Rel.add(R:Rel K kd F B T ad as σ H)(hn:N.Nodup)(hl:∀a ∈ N,H a=none)(k:∀b u,H b=some u->H' b=some u)(h1:∀a ∈ N,H' a≠none):Rel K kd F B (N++T) ad as σ H'/\Grow (Gw T ad) H (Gw (N++T) ad) H':=by
 have g:Grow (Gw T ad) H (Gw (N++T) ad) H':=⟨λb u h _=>k b u h,λb h=>by
  rcases h with h|h
  · rcases zzK.mp h with h|h
    · exact .inr (hl b h)
    · exact .inl (.inl h)
  · exact .inl (.inr h)⟩
 have kn:∀a,H a≠none->H' a≠none:=λa z=>by
  cases e:H a with
  |none=>exact absurd e z
  |some u=>rw[k a u e];simp
 refine⟨⟨R.len,R.out,R.nd,R.inj, ?_,λi a m z=>?_,λa z=>kn a (R.ftr a z),λa z=>?_,λa z=>?_,λi s e=>(R.sl i s e).grow g λa _ u h=>k a u h⟩,g⟩
 · refine zxD.mpr ⟨hn,R.tnd,λa m b m' e=>?_⟩;subst e;exact(R.gtr a (.inl m')).1 (hl a m)
 · rcases zzK.mp z with z|z
   · exact(R.gtr a (.inr ⟨i,m⟩)).1 (hl a z)
   · exact R.dis i a m z
 · obtain⟨b1,b2,b3⟩:=R.btr a z;refine⟨kn a b1,b2,λy=>?_⟩
   rcases y with y|y
   · rcases zzK.mp y with y|y
     · exact b1 (hl a y)
     · exact b3 (.inl y)
   · exact b3 (.inr y)
 · rcases z with z|z
   · rcases zzK.mp z with z|z
     · exact⟨h1 a z,λf=>R.ftr a f (hl a z)⟩
     · exact⟨kn a (R.gtr a (.inl z)).1,(R.gtr a (.inl z)).2⟩
   · exact⟨kn a (R.gtr a (.inr z)).1,(R.gtr a (.inr z)).2⟩
def Rel.more(R:Rel K kd F B T ad as σ H)(k:∀b u,H b=some u->H' b=some u):Rel K kd F B T ad as σ H'/\Grow (Gw T ad) H (Gw T ad) H':=
 R.add (N:=[]) zyH (λ_ m=>nomatch m) k (λ_ m=>nomatch m)
def Rel.news(R:Rel K kd F B [] ad as σ H)(hn:T'.Nodup)(hl:∀a ∈ T',H a=none)(k:∀b u,H b=some u->H' b=some u)(h1:∀a ∈ T',H' a≠none):Rel K kd F B T' ad as σ H'/\Grow (Gw [] ad) H (Gw T' ad) H':=by
 have:=R.add hn hl k h1;rw[zyC]at this;exact this
end
inductive R0 where
 |im (d:D)|fl (ds:List D)|fd (kvs:List (Key×D))
def RQ(K:zC)(kd:KD)(O:Addr->Prop)(H:Hp)(Q:VK):R0->Prop
 | .im d=>∀v H',(∀b o,H b=some o->H' b=some o)->Rp K kd O H' v d->Q v H'
 | .fl ds=>∀l vs H',H l=none->(∀b o,H b=some o->H' b=some o)->H' l=some (.lst vs)->RpL K kd (Un2 O (· = l)) H' vs ds->Q (.ref l) H'
 | .fd ds=>∀l vs H',H l=none->(∀b o,H b=some o->H' b=some o)->H' l=some (.dK vs)->RpM K kd (Un2 O (· = l)) H' vs ds->Q (.ref l) H'
def wrap(lv:Option Bool):R0->Option RV
 | .im d=>if(zZ d||lv.isSome)=true then some (.ow (lfs (lv.getD false) d))else none
 | .fl ds=>if(ds.all zZ||lv.isSome)=true then some (.ow (.nd .ls (ds.map (lfs (lv.getD false)))))else none
 | .fd kvs=>if((kvs.map (·.2)).all zZ||lv.isSome)=true then some (.ow (.nd (.dc (kvs.map (·.1))) ((kvs.map (·.2)).map (lfs (lv.getD false)))))else none
def bS_(h:o.bind f=some b):∃a,o=some a/\f a=some b:=by
 cases o with
 |none=>cases h
 |some a=>exact⟨a,rfl,h⟩
def ite_some'[Decidable c](h:(if c then a else none)=some b):c/\a=some b:=by
 by_cases hc:c
 · rw[if_pos hc]at h;exact⟨hc,h⟩
 · rw[if_neg hc]at h;cases h
def zQ[Decidable c](h:(if c then some a else none)=some b):c/\a=b:=by
 by_cases hc:c
 · rw[if_pos hc]at h;cases h;exact⟨hc,rfl⟩
 · rw[if_neg hc]at h;cases h
section
variable{K:zC}{kd:KD}{F B:Addr->Prop}{G:Addr->Prop}{ad:Ad}{as:AS}{σ:St}{H H':Hp}{v:V}{r:R0}{rv:RV}{Q:VK}{lv:Option Bool}
def zrd(h:zZ d=true\/lv.isSome=true)(hO:∀st,lv=some st->∀a,Lv F B G st a->Ob a)(rp:Rp K kd Ob H v d):Lf K kd F B G H (zZ d||lv.getD false) v d:=by
 cases e:zZ d with
 |true=>exact rp.flat e
 |false=>
  rw[e]at h;cases lv with
  |none=>rcases h with h|h<;>cases h
  |some st=>exact rp.less (hO st rfl)
def zoJ(hO:∀st,lv=some st->∀a,Lv F B G st a->Ob a)(e:(ds.all zZ||lv.isSome)=true)(h:RpL K kd Ob H vs ds):RoL (Lf K kd F B G H) N H vs (ds.map (lfs (lv.getD false))) []:=
 RpL.ind (P:=λvs ds=>(ds.all zZ||lv.isSome)=true->RoL (Lf K kd F B G H) N H vs (ds.map (lfs (lv.getD false))) []) (λ_=>.nil) (λ{v d vs ds} h _ ih e=>by
  rw[List.all_cons]at e;have e1:zZ d=true\/lv.isSome=true:=by
   cases h1:lv.isSome<;>cases h2:zZ d<;>simp[h1,h2]at e ⊢
  have e2:(ds.all zZ||lv.isSome)=true:=by
   cases h1:lv.isSome with
   |true=>simp
   |false=>
    rw[h1,Bool.or_false,zyA]at e;rw[Bool.or_false];exact e.2
  exact RoL.cons (.lf (zrd e1 hO h)) (ih e2)) h e
def zll{O:Addr->Prop}{vs:List (Key×V)}{ds:List (Key×D)}(h:RpM K kd O H vs ds):vs=(ds.map (·.1)).zip (vs.map (·.2))/\RpL K kd O H (vs.map (·.2)) (ds.map (·.2)):=
 RpM.ind (P:=λvs ds=>vs=(ds.map (·.1)).zip (vs.map (·.2))/\RpL K kd O H (vs.map (·.2)) (ds.map (·.2))) ⟨rfl,.nil⟩ (λh _ ih=>by
  obtain⟨h1,h2⟩:=ih;refine⟨?_,.cons h h2⟩
  conv=>lhs;rw[h1]
  rfl) h
def vM(R:Rel K kd F B [] ad as σ H)(e:wrap lv r=some rv)(q:∀v T' H',Rel K kd F B T' ad as σ H'->wB K kd F B T' ad σ H' v rv->Grow (Gw [] ad) H (Gw T' ad) H'->Q v H'):RQ K kd (Obl F B (Gw [] ad) lv) H Q r:=by
 have hO:∀(l:List Addr) st,lv=some st->∀a,Lv F B (Gw l ad) st a->Un2 (Obl F B (Gw [] ad) lv) (· ∈ l) a:=by
  intro l st e a z;subst e
  rcases z with z|z|z
  · exact .inl (.inl z)
  · exact .inr z
  · exact .inl (.inr (.inr z))
 cases r with
 |im d=>
  obtain⟨c,rfl⟩:=zQ e;intro v H' k rp;obtain⟨R',g⟩:=R.more k;refine q v [] H' R' (.lf (zrd ((Bool.or_eq_true _ _).mp c) (λst e a z=>?_) rp)) g;exact(hO [] st e a z).elim id λm=>nomatch m
 |fl ds=>
  obtain⟨c,rfl⟩:=zQ e;intro l vs H' hl k hl' rp;obtain⟨R',g⟩:=R.news (T':=[l]) (by simp) (λa m=>by rw[zzP.mp m];exact hl) k (λa m=>by rw[zzP.mp m,hl'];simp);exact q _ [l] H' R' (.ls hl' (zoJ (λst e a z=>(hO [l] st e a z).elim .inl λm=>.inr (zzP.mp m)) c rp)) g
 |fd ds=>
  obtain⟨c,rfl⟩:=zQ e;intro l vs H' hl k hl' rp;obtain⟨R',g⟩:=R.news (T':=[l]) (by simp) (λa m=>by rw[zzP.mp m];exact hl) k (λa m=>by rw[zzP.mp m,hl'];simp);obtain⟨e1,r1⟩:=zll rp;refine q _ [l] H' R' (.dc (vs:=vs.map (·.2)) (by rw[hl',<-e1]) (by rw[zD,zD,rp.length]) (zoJ (λst e a z=>(hO [l] st e a z).elim .inl λm=>.inr (zzP.mp m)) c r1)) g
end
abbrev EF:=AS->Option (RV×AS)
def al(K:zC)(kd:KD)(f:EF):TE:=λσ H Q=>∃F B ad as r as',Rel K kd F B [] ad as σ H/\f as=some (r,as')/\
 ∀v T' ad' H',Rel K kd F B T' ad' as' σ H'->wB K kd F B T' ad' σ H' v r->Grow (Gw [] ad) H (Gw T' ad') H'->Q v H'
@[irreducible] def AE(X:Cx)(kd:KD)(e:Expr)(f:EF):Prop:=PE X e (al X.K kd f)
def yV(h:PE X e t)(k:∀σ H Q,t' σ H Q->t σ H Q):PE X e t':=λpins s σ H Q I q=>h pins s σ H Q I (k σ H Q q)
section
variable{K:zC}{kd:KD}{F B:Addr->Prop}{ad:Ad}{as as1:AS}{σ:St}{H:Hp}{r:RV}{f:EF}{P:VK}
def v7(R:Rel K kd F B [] ad as σ H)(e:f as=some (r,as1))(k:∀v ad1 H1,Rel K kd F B [] ad1 as1 σ H1->wB K kd F B [] ad1 σ H1 v r.frz->Grow (Gw [] ad) H (Gw [] ad1) H1->P v H1):al K kd f σ H P:=
 ⟨F,B,ad,as,r,as1,R,e,λv T' ad' H' R' rv g=>k v ad' H' R'.drop (wB.drop R' rv) (g.trans (Grow.less Gw.drop))⟩
end
def OpD(X:Cx)(kd:KD)(f:Value->Value->Sem Value)(g:D->D->Option R0):Prop:=
 OpR X f (λx y H Q=>∃O d e r,(∀a,O a->H a≠none)/\Vw X.K kd O H x d/\Vw X.K kd O H y e/\g d e=some r/\RQ X.K kd O H Q r)
inductive VwL(K:zC)(kd:KD)(O:Addr->Prop)(H:Hp):List V->List D->Prop
 |nil:VwL K kd O H [] []
 |cons {v:V}{d:D}{vs:List V}{ds:List D}:Vw K kd O H v d->VwL K kd O H vs ds->VwL K kd O H (v::vs) (d::ds)
def CallD(X:Cx)(kd:KD)(f:Value)(g:List D->Option R0):Prop:=
 XF X f (λxs H Q=>∃O ds r,(∀a,O a->H a≠none)/\VwL X.K kd O H xs ds/\g ds=some r/\RQ X.K kd O H Q r)
def IxD(X:Cx)(kd:KD)(g:D->D->Option R0):Prop:=
 IxR X (λx y H Q=>∃O d e r,(∀a,O a->H a≠none)/\Vw X.K kd O H x d/\Vw X.K kd O H y e/\g d e=some r/\RQ X.K kd O H Q r)
def meet:Option Bool->Option Bool->Option Bool
 |some a,some b=>some (a&&b)
 |_,_=>none
def Obl.meet1:∀x,Obl F B G (meet a b) x->Obl F B G a x:=λx h=>by
 cases a with
 |none=>cases b<;>exact h.elim
 |some p=>
  cases b with
  |none=>exact h.elim
  |some q=>exact zdG (λz=>((zyA _ _).mp z).1) x h
def Obl.meet2:∀x,Obl F B G (meet a b) x->Obl F B G b x:=λx h=>by
 cases a with
 |none=>cases b<;>exact h.elim
 |some p=>
  cases b with
  |none=>exact h.elim
  |some q=>exact zdG (λz=>((zyA _ _).mp z).2) x h
def Vw.less{K:zC}{kd:KD}{O O':Addr->Prop}{H:Hp}{v:V}{d:D}(g:∀a,O' a->O a)(h:Vw K kd O H v d):Vw K kd O' H v d:=by
 cases h with
 |non=>exact .non
 |bl b=>exact .bl b
 |int i=>exact .int i
 |str x=>exact .str x
 |tup r s l=>exact .tup (r.less g) s (l.less g)
 |lst h l=>exact .lst h (l.less g)
 |dct h l=>exact .dct h (l.less g)
 |cl c=>exact .cl c
 |ob h k l=>exact .ob h k (l.less g)
 |dt h k l=>exact .dt h k (l.less g)
 |er h k l=>exact .er h k (l.less g)
def f2(fa fb:EF)(g:D->D->Option R0):EF:=λas=>(fa as).bind λp=>(fb p.2).bind λq=>(p.1.frz.view q.2).bind λx=>(q.1.frz.view q.2).bind λy=>(g x.1 y.1).bind λr=>(wrap (meet x.2 y.2) r).bind λz=>some (z,q.2)
def zkd(h:f2 fa fb g as=some (rv,as')):
 ∃p as1 q x y lx ly r,fa as=some (p,as1)/\fb as1=some (q,as')/\p.frz.view as'=some (x,lx)/\q.frz.view as'=some (y,ly)/\g x y=some r/\wrap (meet lx ly) r=some rv:=by
 unfold f2 at h;obtain⟨⟨p,as1⟩,h1,h⟩:=bS_ h;obtain⟨⟨q,as2⟩,h2,h⟩:=bS_ h;obtain⟨⟨x,lx⟩,h3,h⟩:=bS_ h;obtain⟨⟨y,ly⟩,h4,h⟩:=bS_ h;obtain⟨r,h5,h⟩:=bS_ h;obtain⟨z,h6,h⟩:=bS_ h;cases h;exact⟨p,as1,q,x,y,lx,ly,r,h1,h2,h3,h4,h5,h6⟩
section
variable{X:Cx}{kd:KD}{a b c:Expr}{fa fb fc:EF}{pos:Pos}
def al2(hr:∀x y H Q,(∃O d e r,(∀a,O a->H a≠none)/\Vw X.K kd O H x d/\Vw X.K kd O H y e/\g d e=some r/\RQ X.K kd O H Q r)->R2' x y H Q)
 (h:al X.K kd (f2 fa fb g) σ H Q):tOp R2' (al X.K kd fa) (al X.K kd fb) σ H Q:=by
 obtain⟨F,B,ad,as,r,as',R,e,q⟩:=h;obtain⟨p,as1,z,x,y,lx,ly,r0,h1,h2,h3,h4,h5,h6⟩:=zkd e;refine v7 R h1 λv ad1 H1 R1 rv1 g1=>v7 R1 h2 λu ad2 H2 R2 rv2 g2=>hr _ _ _ _ ?_;exact⟨_,x,y,r0,R2.tr _,(wB.vw R2 (rv1.grow g2) h3).less Obl.meet1,(wB.vw R2 rv2 h4).less Obl.meet2,h5,vM R2 h6 λw T' H' R' rv' g'=>q w T' ad2 H' R' rv' ((g1.trans g2).trans g')⟩
def zte(ho:OpD X kd (binaryOp op) g)(ha:AE X kd a fa)(hb':AE X kd b fb):AE X kd (.BinOp a op b pos) (f2 fa fb g):=by with_unfolding_all exact(yV (zrn ho ha hb') λσ H Q h=>al2 (λ_ _ _ _ z=>z) h)
def zsJ(ho:OpD X kd (compareOp op) g)(ha:AE X kd a fa)(hb':AE X kd b fb)(hm:behindInMarks op b=false):AE X kd (.Compare a [op] [b] pos) (f2 fa fb g):=by with_unfolding_all exact(yV (zpj ho ha hb' hm) λσ H Q h=>al2 (λ_ _ _ _ z=>z) h)
def zrt(ho:IxD X kd g)(ha:AE X kd a fa)(hb':AE X kd b fb)(hm:Zw b):AE X kd (.Subscript a b pos) (f2 fa fb g):=by with_unfolding_all exact(yV (zdK ho ha hb' hm) λσ H Q h=>al2 (λ_ _ _ _ z=>z) h)
def fC(d:D):EF:=λas=>some (.ow (.lf true d),as)
noncomputable def fV(i:Nat):EF:=λas=>match as[i]? with
 |some (some (.lf st d))=>some (.ow (.lf st d),as)
 |some (some (.nd _ _))=>some (.bo i,as)
 |_=>none
def zgj(h:PE X a (tC v))(hr:∀O H,Rp X.K kd O H v d):AE X kd a (fC d):=by with_unfolding_all exact(yV h λσ H Q h=>by
 obtain⟨F,B,ad,as,r,as',R,e,q⟩:=h;cases e;exact q v [] ad H R (.lf (hr _ _)) Grow.refl)
def zsA(h:PE X a (Ws i)):AE X kd a (fV i):=by with_unfolding_all exact(yV h λσ H Q h=>by
 obtain⟨F,B,ad,as,r,as',R,e,q⟩:=h;unfold fV at e;cases k:as[i]? with
 |none=>rw[k]at e;cases e
 |some s=>
  rw[k]at e;cases s with
  |none=>cases e
  |some o=>
   obtain⟨v,h1,h2⟩:=R.sl i _ k;cases o with
   |lf st d=>
    cases e;have e0:ad i=[]:=by
     generalize hfp:ad i=fp at h2;cases h2;rfl
    rw[e0]at h2;exact⟨v,h1,q v [] ad H R h2 Grow.refl⟩
   |nd kk os=>
    cases e;exact⟨_,h1,q _ [] ad H R ⟨rfl,h1⟩ Grow.refl⟩)
end
def wO(ad:Ad)(i:Nat)(x:List Addr):Ad:=λj=>if j=i then x else ad j
section
variable{K:zC}{kd:KD}{F B:Addr->Prop}{T T1 T2:List Addr}{ad ad1:Ad}{as as1:AS}{σ:St}{H H1:Hp}{v:V}{r:RV}{o:O}{i:Nat}
def zO:wO ad i x i=x:=if_pos rfl
def zV(h:j≠i):wO ad i x j=ad j:=if_neg h
def wU:∀a,Gw T (wO ad i []) a->Gw T ad a:=λa h=>by
 rcases h with h|⟨j,h⟩
 · exact .inl h
 · by_cases e:j=i
   · subst e;rw[zO]at h;cases h
   · rw[zV e]at h;exact .inr ⟨j,h⟩
def Zy:∀a,Gw [] (wO ad i T) a->Gw T ad a:=λa h=>by
 rcases h with h|⟨j,h⟩
 · cases h
 · by_cases e:j=i
   · subst e;rw[zO]at h;exact .inl h
   · rw[zV e]at h;exact .inr ⟨j,h⟩
def zkl:∀st a,Lv F (λa=>B a\/a ∈ T) (Gw [] ad) st a->Lv F B (Gw T ad) st a:=λst a z=>by
 rcases z with(z|z|z)|z
 · exact .inl (.inl z)
 · exact .inl (.inr z)
 · exact .inr (.inl z)
 · exact .inr (Gw.drop a z)
def W8:∀st a,Lv F B (Gw (T1++T2) ad) st a->Lv F (λa=>B a\/a ∈ T1) (Gw T2 ad) st a:=λst a z=>by
 rcases z with(z|z)|z|z
 · exact .inl (.inl z)
 · exact .inl (.inr (.inl z))
 · rcases zzK.mp z with z|z
   · exact .inl (.inr (.inr z))
   · exact .inr (.inl z)
 · exact .inr (.inr z)
def Rel.hide(R:Rel K kd F B T ad as σ H):Rel K kd F (λa=>B a\/a ∈ T) [] ad as σ H where
 len:=R.len
 out:=R.out
 nd:=R.nd
 inj:=R.inj
 tnd:=zyH
 dis:=λ_ _ _ z=>nomatch z
 ftr:=R.ftr
 btr:=λa h=>by
  rcases h with h|h
  · obtain⟨h1,h2,h3⟩:=R.btr a h;exact⟨h1,h2,λz=>h3 (Gw.drop a z)⟩
  · exact⟨(R.gtr a (.inl h)).1,(R.gtr a (.inl h)).2,λz=>z.elim (λm=>nomatch m) λ⟨j,y⟩=>R.dis j a y h⟩
 gtr:=λa h=>R.gtr a (Gw.drop a h)
 sl:=λi s e=>(R.sl i s e).lv zkl
def Rel.unhide(hn:T1.Nodup)(hb:∀a ∈ T1,¬B a)(R:Rel K kd F (λa=>B a\/a ∈ T1) T2 ad as σ H):Rel K kd F B (T1++T2) ad as σ H where
 len:=R.len
 out:=R.out
 nd:=R.nd
 inj:=R.inj
 tnd:=zxD.mpr ⟨hn,R.tnd,λa m b m' e=>by subst e;exact(R.btr a (.inr m)).2.2 (.inl m')⟩
 dis:=λi a m z=>by
  rcases zzK.mp z with z|z
  · exact(R.btr a (.inr z)).2.2 (.inr ⟨i,m⟩)
  · exact R.dis i a m z
 ftr:=R.ftr
 btr:=λa h=>by
  obtain⟨h1,h2,h3⟩:=R.btr a (.inl h);refine⟨h1,h2,λz=>?_⟩
  rcases z with z|z
  · rcases zzK.mp z with z|z
    · exact hb a z h
    · exact h3 (.inl z)
  · exact h3 (.inr z)
 gtr:=λa h=>by
  rcases h with h|h
  · rcases zzK.mp h with h|h
    · exact⟨(R.btr a (.inr h)).1,(R.btr a (.inr h)).2.1⟩
    · exact R.gtr a (.inl h)
  · exact R.gtr a (.inr h)
 sl:=λi s e=>(R.sl i s e).lv W8
def Rel.frz(R:Rel K kd F B T ad as σ H)(h:as[i]? = some (some o)):
 Rel K kd F B T (wO ad i []) (as.set i (some o.frz)) σ H/\∃v,σ[i]? = some (some v)/\Rp K kd (Lv F B (Gw T (wO ad i [])) o.str) H v o.toD:=by
 obtain⟨v,hv,ro⟩:=R.sl i _ h;have rp:Rp K kd (Lv F B (Gw T (wO ad i [])) o.str) H v o.toD:=
  Ro.rp o.str (λst v d hs r=>r.less λa z=>z.elim (λy=>.inl (y.elim (λx=>.inl ⟨hs x.1,x.2⟩) .inr)) λy=>.inr (wU a y))
   (λa n z=>n (z.elim (λy=>.inl (y.elim (λx=>.inl ⟨rfl,x.2⟩) .inr)) λy=>.inr (wU a y))) id
   (λa m z=>by
    rcases z with(z|z)|z|⟨j,z⟩
    · exact(R.gtr a (.inr ⟨i,m⟩)).2 z.2
    · exact(R.btr a z).2.2 (.inr ⟨i,m⟩)
    · exact R.dis i a m z
    · by_cases e:j=i
      · subst e;rw[zO]at z;cases z
      · rw[zV e]at z;exact e (R.inj j i a z m)) ro
 have hi:i<as.length:=(zzE.mp h).1;refine⟨⟨by rw[zzS];exact R.len,λj hj=>?_,λj=>?_,λj k a h1 h2=>?_,R.tnd,λj a h1=>?_,R.ftr,λa h1=>?_,λa h1=>R.gtr a (wU a h1),λj s e=>?_⟩,v,hv,rp⟩
 · rw[zzS]at hj;rw[zV (by omega)];exact R.out j hj
 · by_cases e:j=i
   · subst e;rw[zO];exact zyH
   · rw[zV e];exact R.nd j
 · by_cases e:j=i
   · subst e;rw[zO]at h1;cases h1
   · by_cases e':k=i
     · subst e';rw[zO]at h2;cases h2
     · rw[zV e]at h1;rw[zV e']at h2;exact R.inj j k a h1 h2
 · by_cases e:j=i
   · subst e;rw[zO]at h1;cases h1
   · rw[zV e]at h1;exact R.dis j a h1
 · obtain⟨b1,b2,b3⟩:=R.btr a h1;exact⟨b1,b2,λz=>b3 (wU a z)⟩
 · by_cases q:j=i
   · subst q;rw[zyI hi]at e;cases e;rw[zO];exact⟨v,hv,.lf rp⟩
   · rw[zzW (Ne.symm q)]at e;rw[zV q];exact(R.sl j s e).less wU
def Rel.put(R:Rel K kd F B T ad as σ H)(hi:i<as.length)(h:RoS K kd F B (Gw T ad) H v o T):Rel K kd F B [] (wO ad i T) (as.set i (some o)) (σ.set i (some v)) H:=by
 have hi':i<σ.length:=by rw[<-R.len];exact hi
 refine⟨by rw[zzS,zzS];exact R.len,λj hj=>?_,λj=>?_,λj k a h1 h2=>?_,zyH,(λ_ _ _ z=>nomatch z),R.ftr,λa h1=>?_,λa h1=>R.gtr a (Zy a h1),λj s e=>?_⟩
 · rw[zzS]at hj;rw[zV (by omega)];exact R.out j hj
 · by_cases e:j=i
   · subst e;rw[zO];exact R.tnd
   · rw[zV e];exact R.nd j
 · by_cases e:j=i
   · subst e;rw[zO]at h1
     by_cases e':k=j
     · exact e'.symm
     · rw[zV e']at h2;exact(R.dis k a h2 h1).elim
   · rw[zV e]at h1
     by_cases e':k=i
     · subst e';rw[zO]at h2;exact(R.dis j a h1 h2).elim
     · rw[zV e']at h2;exact R.inj j k a h1 h2
 · obtain⟨b1,b2,b3⟩:=R.btr a h1;exact⟨b1,b2,λz=>b3 (Zy a z)⟩
 · by_cases q:j=i
   · subst q;rw[zyI hi]at e;cases e;rw[zO,zyI hi'];exact⟨v,rfl,h.less Zy⟩
   · rw[zzW (Ne.symm q)]at e;rw[zV q,zzW (Ne.symm q)];exact(R.sl j s e).less Zy
def toO(as:AS):RV->Option (O×AS)
 | .ow o=>some (o,as)
 | .bo i=>match as[i]? with
  |some (some o)=>some (o.frz,as.set i (some o.frz))
  |_=>none
def zeL(R:Rel K kd F B T ad as σ H)(h:wB K kd F B T ad σ H v r)(e:toO as r=some (o,as')):∃ad',Rel K kd F B T ad' as' σ H/\RoS K kd F B (Gw T ad') H v o T/\∀a,Gw T ad' a->Gw T ad a:=by
 cases r with
 |ow o'=>cases e;exact⟨ad,R,h,λ_ z=>z⟩
 |bo i=>
  have e:(match as[i]? with|some (some o)=>some (o.frz,as.set i (some o.frz))|_=>none)=some (o,as'):=e;cases k:as[i]? with
  |none=>rw[k]at e;cases e
  |some s=>
   cases s with
   |none=>rw[k]at e;cases e
   |some o1=>
    rw[k]at e;cases e;obtain⟨hT,hs⟩:=h;subst hT;obtain⟨R',w,hw,rp⟩:=R.frz k;rw[hs]at hw;cases hw;exact⟨_,R',.lf rp,wU⟩
end
abbrev TF:=AS->Option (Bool×AS)
def alT(K:zC)(kd:KD)(f:TF):TT:=λσ H Q=>∃F B ad as b as',Rel K kd F B [] ad as σ H/\f as=some (b,as')/\
 ∀ad' H',Rel K kd F B [] ad' as' σ H'->Grow (Gw [] ad) H (Gw [] ad') H'->Q b H'
@[irreducible] def AT(X:Cx)(kd:KD)(e:Expr)(f:TF):Prop:=PT X e (alT X.K kd f)
@[irreducible] def AW(X:Cx)(kd:KD)(e:Expr)(f:TF):Prop:=PW X e (alT X.K kd f)
def truth:D->Option Bool
 | .non=>some false
 | .bl b=>some b
 | .int i=>some (i != 0)
 | .str x=>if x.length<=sizeLine then some ((x.length:Int) != 0)else none
 | .tup ds=>some (!ds.isEmpty)
 | .lst ds=>some (!ds.isEmpty)
 |_=>none
def fT(f:EF):TF:=λas=>(f as).bind λp=>(p.1.frz.view p.2).bind λx=>(truth x.1).bind λb=>some (b,p.2)
def Wa(f g:TF):TF:=λas=>(f as).bind λp=>if p.1=true then g p.2 else some (false,p.2)
def zbh(f g:TF):TF:=λas=>(f as).bind λp=>if p.1=true then some (true,p.2)else g p.2
def zhN(f:TF):TF:=λas=>(f as).bind λp=>some (!p.1,p.2)
def asI:D->Option Int
 | .int i=>some i
 |_=>none
def asS:D->Option Str
 | .str i=>some i
 |_=>none
def asL:D->Option (List D)
 | .lst i=>some i
 |_=>none
def asT:D->Option (List D)
 | .tup i=>some i
 |_=>none
def zad(e:asL d=some i):d = .lst i:=by
 cases d with
 |lst j=>cases e;rfl
 |_=>cases e
def ztF(e:asT d=some i):d = .tup i:=by
 cases d with
 |tup j=>cases e;rfl
 |_=>cases e
def zgG(h:asI d=some c):d = .int c:=by
 cases d with
 |int i=>cases h;rfl
 |_=>cases h
def asB:D->Option Bool
 | .bl i=>some i
 |_=>none
def zsZ(h:asB d=some c):d = .bl c:=by
 cases d with
 |bl i=>cases h;rfl
 |_=>cases h
def rvD:RV->Option D
 | .ow (.lf _ d)=>some d
 |_=>none
def zoi(h:rvD r=some d):∃st,r = .ow (.lf st d):=by
 cases r with
 |bo i=>cases h
 |ow o=>
  cases o with
  |nd k os=>cases h
  |lf st d=>cases h;exact⟨st,rfl⟩
def rvB(r:RV):Option Bool:=(rvD r).bind asB
def zsU(h:rvB r=some c):∃st,r = .ow (.lf st (.bl c)):=by
 obtain⟨d,h1,h⟩:=bS_ h;cases zsZ h;exact zoi h1
def rvI(r:RV):Option Int:=(rvD r).bind asI
def ztl(h:rvI r=some c):∃st,r = .ow (.lf st (.int c)):=by
 obtain⟨d,h1,h⟩:=bS_ h;cases zgG h;exact zoi h1
def zrv{α:Type}:List α->Option (α×α)
 | [a,b]=>some (a,b)
 |_=>none
def zkO{α:Type}{os:List α}{p:α×α}(h:zrv os=some p):os=[p.1,p.2]:=by
 cases os with
 |nil=>cases h
 |cons x r=>
  cases r with
  |nil=>cases h
  |cons y r=>
   cases r with
   |nil=>cases h;rfl
   |cons _ _=>cases h
def rvL(r:RV):Option (Bool×List D):=match r with
 | .ow (.lf s d)=>(asL d).bind λl=>some (s,l)
 |_=>none
def zoG(h:rvL r=some p):r = .ow (.lf p.1 (.lst p.2)):=by
 cases r with
 |bo i=>cases h
 |ow o=>
  cases o with
  |nd k os=>cases h
  |lf st d=>
   obtain⟨l,h1,h⟩:=bS_ (show(asL d).bind _=_ from h);cases h;cases zad h1;rfl
def zoL(f g:EF):EF:=λas=>(f as).bind λp=>(rvB p.1).bind λc=>if c=true then g p.2 else some (.ow (.lf true (.bl false)),p.2)
def f1(fa:EF)(g:D->Option R0):EF:=λas=>(fa as).bind λp=>(p.1.frz.view p.2).bind λx=>(g x.1).bind λr=>(wrap x.2 r).bind λz=>some (z,p.2)
section
variable{X:Cx}{kd:KD}{a b c:Expr}{fa fb:EF}{ta tb:TF}{pos:Pos}{es rest:List Expr}
def zgD(h:PT X e t)(k:∀σ H Q,t' σ H Q->t σ H Q):PT X e t':=λpins s σ H Q I q=>h pins s σ H Q I (k σ H Q q)
def znE(h:PW X e t)(k:∀σ H Q,t' σ H Q->t σ H Q):PW X e t':=λw pins s σ H Q I q=>h w pins s σ H Q I (k σ H Q q)
def zts{O:Addr->Prop}{H:Hp}{v:V}{d:D}{k:Bool}(h:Vw X.K kd O H v d)(e:truth d=some k):zsI X.K v H k:=by
 cases h with
 |non=>cases e;rfl
 |bl b=>cases e;rfl
 |int i=>cases e;rfl
 |str x=>
  have e:(if x.length<=sizeLine then some ((x.length:Int) != 0)else none)=some k:=e
  by_cases hl:x.length<=sizeLine
  · rw[if_pos hl]at e;cases e;exact⟨hl,rfl⟩
  · rw[if_neg hl]at e;cases e
 |tup r hs hr=>
  cases e;refine .inr (.inl ⟨_,hs, ?_⟩);cases hr<;>rfl
 |lst hs hr=>
  cases e;refine .inl ⟨_,hs.sq, ?_⟩;cases hr<;>rfl
 |dct=>cases e
 |cl=>cases e
 |ob=>cases e
 |dt=>cases e
 |er=>cases e
def ztv(ha:AE X kd a fa)(he:∀whole,isTrue a X.env whole=(do let v <-whole;standAt a.pos;holding [v] (truthy v))):AT X kd a (fT fa):=by with_unfolding_all exact(zgD (zoV ha he) λσ H Q h=>by
 obtain⟨F,B,ad,as,bb,as',R,e,q⟩:=h;obtain⟨⟨p,as1⟩,h1,e⟩:=bS_ (show(fa as).bind _=_ from e);obtain⟨⟨d,lv⟩,h2,e⟩:=bS_ e;obtain⟨k,h3,e⟩:=bS_ e;cases e;exact v7 R h1 λv ad1 H1 R1 rv1 g1=>⟨_,zts (wB.vw R1 rv1 h2) h3,q ad1 H1 R1 g1⟩)
def zsk(ho:OpD X kd (compareOp op) g)(hg:∀x y r,g x y=some r->∃k,r = .im (.bl k))(ha:AE X kd a fa)(hb:AE X kd b fb)(hm:behindInMarks op b=false):
 AT X kd (.Compare a [op] [b] pos) (fT (f2 fa fb g)):=by with_unfolding_all exact(zgD (zqq ho ha hb hm) λσ H Q h=>by
 obtain⟨F,B,ad,as,bb,as',R,e,q⟩:=h;obtain⟨⟨p,as1⟩,h1,e⟩:=bS_ (show(f2 fa fb g as).bind _=_ from e);obtain⟨⟨d,lv⟩,h2,e⟩:=bS_ e;obtain⟨k,h3,e⟩:=bS_ e;cases e;obtain⟨_,_,_,x,y,_,_,r0,_,_,_,_,hp,hw⟩:=zkd h1;obtain⟨k',rfl⟩:=hg _ _ _ hp;cases hw;cases h2;cases h3;refine al2 (λ_ _ _ _ z=>z) ⟨F,B,ad,as,_,_,R,h1,λv T' ad' H' R' rv g'=>?_⟩;generalize hT:T'=T2 at rv R' g';cases rv with
 |lf rp=>
  cases rp;exact⟨_,rfl,q ad' H' R' g'⟩)
def zrz(ha:AT X kd a ta):AT X kd (.UnaryOp .Not a pos) (zhN ta):=by with_unfolding_all exact(zgD (zta ha) λσ H Q h=>by
 obtain⟨F,B,ad,as,bb,as',R,e,q⟩:=h;obtain⟨⟨p,as1⟩,h1,e⟩:=bS_ (show(ta as).bind _=_ from e);cases e;exact⟨F,B,ad,as,p,_,R,h1,λad' H' R' g=>q ad' H' R' g⟩)
def Y0(ha:AT X kd a ta):AW X kd (.BoolOp .And [a] pos) ta:=by with_unfolding_all exact(zqB ha)
def zbt(ha:AT X kd a ta):AW X kd (.BoolOp .Or [a] pos) ta:=by with_unfolding_all exact(zsi ha)
def zgx(ha:AT X kd a ta)(hb:AW X kd (.BoolOp .And (b::rest) pos) tb):AW X kd (.BoolOp .And (a::b::rest) pos) (Wa ta tb):=by with_unfolding_all exact(znE (zsE ha hb) λσ H Q h=>by
 obtain⟨F,B,ad,as,bb,as',R,e,q⟩:=h;obtain⟨⟨p,as1⟩,h1,e⟩:=bS_ (show(ta as).bind _=_ from e);refine⟨F,B,ad,as,p,as1,R,h1,λad' H' R' g=>?_⟩;cases p with
 |true=>exact⟨F,B,ad',as1,bb,as',R',e,λad2 H2 R2 g2=>q ad2 H2 R2 (g.trans g2)⟩
 |false=>cases e;exact q ad' H' R' g)
def zkD(ha:AT X kd a ta)(hb:AW X kd (.BoolOp .Or (b::rest) pos) tb):AW X kd (.BoolOp .Or (a::b::rest) pos) (zbh ta tb):=by with_unfolding_all exact(znE (zuJ ha hb) λσ H Q h=>by
 obtain⟨F,B,ad,as,bb,as',R,e,q⟩:=h;obtain⟨⟨p,as1⟩,h1,e⟩:=bS_ (show(ta as).bind _=_ from e);refine⟨F,B,ad,as,p,as1,R,h1,λad' H' R' g=>?_⟩;cases p with
 |false=>exact⟨F,B,ad',as1,bb,as',R',e,λad2 H2 R2 g2=>q ad2 H2 R2 (g.trans g2)⟩
 |true=>cases e;exact q ad' H' R' g)
def AW.at_(h:AW X kd e ta):AT X kd e ta:=by with_unfolding_all exact(PW.pt h)
def zuA{K:zC}{F B:Addr->Prop}{T:List Addr}{ad:Ad}{σ:St}{H:Hp}{v:V}{st c:Bool}(h:wB K kd F B T ad σ H v (.ow (.lf st (.bl c)))):T=[]/\v = .bl c:=by
 have h:RoS K kd F B (Gw T ad) H v (.lf st (.bl c)) T:=h;generalize hT:Gw T ad=G at h;cases h with
 |lf rp=>cases rp;exact⟨rfl,rfl⟩
def zoa(ha:AE X kd a fa):AE X kd (.BoolOp op [a] pos) fa:=by with_unfolding_all exact(ztt ha)
def zoc(ha:AE X kd a fa)(hb:AE X kd (.BoolOp .And (b::rest) pos) fb):AE X kd (.BoolOp .And (a::b::rest) pos) (zoL fa fb):=by with_unfolding_all exact(yV (zsj ha hb) λσ H Q h=>by
 obtain⟨F,B,ad,as,r,as',R,e,q⟩:=h;obtain⟨⟨p,as1⟩,h1,e⟩:=bS_ (show(fa as).bind _=_ from e);refine⟨F,B,ad,as,p,as1,R,h1,λv T' ad' H' R' rv g=>?_⟩;obtain⟨k,e1,e⟩:=bS_ e;obtain⟨st,rfl⟩:=zsU e1;obtain⟨rfl,rfl⟩:=zuA rv;cases k with
 |true=>exact⟨true,rfl,⟨F,B,ad',as1,r,as',R',e,λv T2 ad2 H2 R2 rv g2=>q v T2 ad2 H2 R2 rv (g.trans g2)⟩⟩
 |false=>
  cases e;exact⟨false,rfl,q _ [] ad' H' R' (.lf (.bl false)) g⟩)
end
abbrev AF:=AS->Option (List RV×AS)
inductive RVs(K:zC)(kd:KD)(F B:Addr->Prop)(ad:Ad)(σ:St)(H:Hp):List V->List RV->Prop
 |nil:RVs K kd F B ad σ H [] []
 |cons {v:V}{r:RV}{vs:List V}{rs:List RV}:wB K kd F B [] ad σ H v r->RVs K kd F B ad σ H vs rs->RVs K kd F B ad σ H (v::vs) (r::rs)
def alA(K:zC)(kd:KD)(f:AF):TA:=λσ H Q=>∃F B ad as rs as',Rel K kd F B [] ad as σ H/\f as=some (rs,as')/\
 ∀vs ad' H',Rel K kd F B [] ad' as' σ H'->RVs K kd F B ad' σ H' vs rs->Grow (Gw [] ad) H (Gw [] ad') H'->Q vs H'
@[irreducible] def AA(X:Cx)(kd:KD)(es:List Expr)(f:AF):Prop:=PA X es (alA X.K kd f)
def aN:AF:=λas=>some ([],as)
def aC(fa:EF)(fr:AF):AF:=λas=>(fa as).bind λp=>(fr p.2).bind λq=>some (p.1.frz::q.1,q.2)
def zgR(h:PA X e t)(k:∀σ H Q,t' σ H Q->t σ H Q):PA X e t':=λpos pins s σ H Q I q=>h pos pins s σ H Q I (k σ H Q q)
abbrev DF:=AS->Option (List O×AS)
def alD(K:zC)(kd:KD)(f:DF):TA:=λσ H Q=>∃F B ad as os as',Rel K kd F B [] ad as σ H/\f as=some (os,as')/\
 ∀vs T' ad' H',Rel K kd F B T' ad' as' σ H'->vZ K kd F B (Gw T' ad') H' vs os T'->Grow (Gw [] ad) H (Gw T' ad') H'->Q vs H'
@[irreducible] def AD(X:Cx)(kd:KD)(es:List Expr)(f:DF):Prop:=PA X es (alD X.K kd f)
def dN:DF:=λas=>some ([],as)
def dC(fa:EF)(fr:DF):DF:=λas=>(fa as).bind λp=>(toO p.2 p.1).bind λx=>(fr x.2).bind λq=>some (x.1::q.1,q.2)
def views(as:AS):List RV->Option (List D×Option Bool)
 | []=>some ([],some true)
 |r::rs=>(r.view as).bind λx=>(views as rs).bind λy=>some (x.1::y.1,meet x.2 y.2)
def fP(fr:AF)(g:List D->Option R0):EF:=λas=>(fr as).bind λp=>(views p.2 p.1).bind λx=>(g x.1).bind λr=>(wrap x.2 r).bind λz=>some (z,p.2)
def zmm(as:AS):RV->Option (Bool×D)
 | .ow o=>some (zZ o.toD||o.str,o.toD)
 | .bo i=>match as[i]? with
  |some (some o)=>some (false,o.toD)
  |_=>none
def Yn(as:AS):List RV->Option (List (Bool×D))
 | []=>some []
 |r::rs=>(zmm as r).bind λx=>(Yn as rs).bind λy=>some (x::y)
def zM(fr:AF)(g:List (Bool×D)->Option O):EF:=λas=>(fr as).bind λp=>(Yn p.2 p.1).bind λx=>(g x).bind λo=>some (.ow o,p.2)
def RQO(K:zC)(kd:KD)(F:Addr->Prop)(H:Hp)(Q:VK)(o:O):Prop:=
 ∀v T H',T.Nodup->(∀a ∈ T,H a=none)->(∀b u,H b=some u->H' b=some u)->(∀a ∈ T,H' a≠none)->Ro (λ_ v d=>Rp K kd (Un2 F (· ∈ T)) H' v d) (λa=>¬Un2 F (· ∈ T) a) H' v o T->Q v H'
inductive RpA(K:zC)(kd:KD)(F:Addr->Prop)(H:Hp):List V->List (Bool×D)->Prop
 |nil:RpA K kd F H [] []
 |cons {v:V}{st:Bool}{d:D}{vs:List V}{ds:List (Bool×D)}:Rp K kd (λa=>st=true/\F a) H v d->RpA K kd F H vs ds->RpA K kd F H (v::vs) ((st,d)::ds)
def spD(K:zC)(kd:KD)(g:List (Bool×D)->Option O):Sp:=λvs H Q _=>∃F ds o,(∀a,F a->H a≠none)/\RpA K kd F H vs ds/\g ds=some o/\RQO K kd F H Q o
def YH(os:List O):O:=if os.all O.isLf=true then .lf (O.strs os) (.tup (O.toDs os))else .nd .tp os
def yw(fr:DF):EF:=λas=>(fr as).bind λp=>if p.1.length<=sizeLine then some (.ow (YH p.1),p.2)else none
def yN(fr:DF):EF:=λas=>(fr as).bind λp=>if p.1.length<=sizeLine then some (.ow (.nd .ls p.1),p.2)else none
section
variable{X:Cx}{kd:KD}{a b c:Expr}{fa fb:EF}{ta tb:TF}{pos:Pos}{es rest:List Expr}{fr:AF}{fd:DF}
def RpA.length{K:zC}{F:Addr->Prop}{H:Hp}{vs:List V}{ds:List (Bool×D)}(h:RpA K kd F H vs ds):vs.length=ds.length:=by
 induction h with
 |nil=>rfl
 |cons _ _ ih=>exact congrArg (· + 1) ih
def wN:AA X kd [] aN:=by with_unfolding_all exact(zgR Yu λσ H Q h=>by
 obtain⟨F,B,ad,as,rs,as',R,e,q⟩:=h;cases e;exact q [] ad H R .nil Grow.refl)
def zpR(ha:AE X kd a fa)(hr:AA X kd es fr)(hs:starEach (a::es) X.env=(false,eval a X.env)::starEach es X.env):AA X kd (a::es) (aC fa fr):=by with_unfolding_all exact(zgR (yZ ha hr hs) λσ H Q h=>by
 obtain⟨F,B,ad,as,rs,as',R,e,q⟩:=h;obtain⟨⟨p,as1⟩,h1,e⟩:=bS_ (show(fa as).bind _=_ from e);obtain⟨⟨z,as2⟩,h2,e⟩:=bS_ e;cases e;refine v7 R h1 λv ad1 H1 R1 rv1 g1=>⟨F,B,ad1,as1,z,_,R1,h2,λvs ad2 H2 R2 rv2 g2=>?_⟩;exact q _ ad2 H2 R2 (.cons (rv1.grow g2) rv2) (g1.trans g2))
def Zm:AD X kd [] dN:=by with_unfolding_all exact(zgR Yu λσ H Q h=>by
 obtain⟨F,B,ad,as,rs,as',R,e,q⟩:=h;cases e;exact q [] [] ad H R .nil Grow.refl)
def zpK(ha:AE X kd a fa)(hr:AD X kd es fd)(hs:starEach (a::es) X.env=(false,eval a X.env)::starEach es X.env):AD X kd (a::es) (dC fa fd):=by with_unfolding_all exact(zgR (yZ ha hr hs) λσ H Q h=>by
 obtain⟨F,B,ad,as,rs,as',R,e,q⟩:=h;obtain⟨⟨p,as1⟩,h1,e⟩:=bS_ (show(fa as).bind _=_ from e);obtain⟨⟨o,as2⟩,h2,e⟩:=bS_ e;obtain⟨⟨os,as3⟩,h3,e⟩:=bS_ e;cases e;refine⟨F,B,ad,as,p,as1,R,h1,λv T1 ad1 H1 R1 rv1 g1=>?_⟩;obtain⟨ad2,R2,ro2,le2⟩:=zeL R1 rv1 h2;refine⟨F,_,ad2,as2,os,_,R2.hide,h3,λvs T3 ad3 H3 R3 ro3 g3=>?_⟩;have kT:∀a ∈ T1,∀u,H1 a=some u->H3 a=some u:=λa m u e=>g3.keep a u e λz=>z.elim (λy=>nomatch y) λ⟨i,y⟩=>R2.dis i a y m;have r1:RoS X.K kd F B (Gw (T1++T3) ad3) H3 v o T1:=RoS.lv W8 (RoS.grow g3 kT (RoS.lv zkl ro2));have r3:vZ X.K kd F B (Gw (T1++T3) ad3) H3 vs os T3:=vZ.lv W8 ro3;refine q _ (T1++T3) ad3 H3 (R3.unhide R2.tnd λa m z=>(R2.btr a z).2.2 (.inl m)) (.cons r1 r3) ((g1.trans (Grow.less le2)).trans ⟨λb u e n=>g3.keep b u e λz=>n (Gw.drop b z),λb z=>?_⟩)
 rcases z with z|z
 · rcases zzK.mp z with z|z
   · exact .inl (.inl z)
   · exact(g3.own b (.inl z)).elim (λy=>.inl (Gw.drop b y)) .inr
 · exact(g3.own b (.inr z)).elim (λy=>.inl (Gw.drop b y)) .inr)
def zjM(h:AD X kd es fd):AE X kd (.Tuple es x1 pos) (yw fd):=by with_unfolding_all exact(yV (zoU h) λσ H Q h=>by
 obtain⟨F,B,ad,as,r,as',R,e,q⟩:=h;obtain⟨⟨os,as1⟩,h1,e⟩:=bS_ (show(fd as).bind _=_ from e);obtain⟨hz,e⟩:=zQ e;cases e;refine⟨F,B,ad,as,os,_,R,h1,λvs T1 ad1 H1 R1 ro1 g1=>⟨by rw[ro1.length];exact hz,λp hp=>?_⟩⟩;have k:∀b o,H1 b=some o->upd H1 p (.tup vs) b=some o:=λb o hb=>by rw[zH (yf hb hp)];exact hb
 obtain⟨R2,g2⟩:=R1.more k;have ro2:=vZ.grow g2 (λa _ u h=>k a u h) ro1;have np:∀st,¬Lv F B (Gw T1 ad1) st p:=λst z=>R1.trk st p z hp;refine q _ T1 ad1 _ R2 ?_ (g1.trans g2);show RoS X.K kd F B (Gw T1 ad1) _ _ (YH os) T1;unfold YH
 by_cases hl:os.all O.isLf=true
 · rw[if_pos hl];have:=zmx ro2 hl;subst this;exact .lf (.tup (np _) zT (zbB ro2 hl))
 · rw[if_neg hl];exact .tp (np _) zT ro2)
def Wj(h:AD X kd es fd):AE X kd (.List es pos) (yN fd):=by with_unfolding_all exact(yV (ztD h) λσ H Q h=>by
 obtain⟨F,B,ad,as,r,as',R,e,q⟩:=h;obtain⟨⟨os,as1⟩,h1,e⟩:=bS_ (show(fd as).bind _=_ from e);obtain⟨hz,e⟩:=zQ e;cases e;refine⟨F,B,ad,as,os,_,R,h1,λvs T1 ad1 H1 R1 ro1 g1=>⟨by rw[ro1.length];exact hz,λp hp=>?_⟩⟩;have k:∀b o,H1 b=some o->upd H1 p (.lst vs) b=some o:=λb o hb=>by rw[zH (yf hb hp)];exact hb
 obtain⟨R2,g2⟩:=R1.add (N:=[p]) (by simp) (λa m=>by rw[zzP.mp m];exact hp) k (λa m=>by rw[zzP.mp m,zT];simp);exact q _ _ ad1 _ R2 (.ls zT (vZ.grow g2 (λa _ u h=>k a u h) ro1)) (g1.trans g2))
def VwL.less{K:zC}{O O':Addr->Prop}{H:Hp}(g:∀a,O' a->O a){vs:List V}{ds:List D}(h:VwL K kd O H vs ds):VwL K kd O' H vs ds:=by
 induction h with
 |nil=>exact .nil
 |cons h _ ih=>exact .cons (h.less g) ih
def WR{K:zC}{F B:Addr->Prop}{ad:Ad}{as:AS}{σ:St}{H:Hp}(R:Rel K kd F B [] ad as σ H){vs:List V}{rs:List RV}{ds:List D}{lv:Option Bool}(h:RVs K kd F B ad σ H vs rs)(e:views as rs=some (ds,lv)):VwL K kd (Obl F B (Gw [] ad) lv) H vs ds:=by
 induction h generalizing ds lv with
 |nil=>cases e;exact .nil
 |cons h t ih=>
  obtain⟨⟨d,l⟩,h1,e⟩:=bS_ (show(RV.view as _).bind _=_ from e);obtain⟨⟨ds,l2⟩,h2,e⟩:=bS_ e;cases e;exact .cons ((wB.vw R h h1).less Obl.meet1) ((ih h2).less Obl.meet2)
def alP{g:List D->Option R0}{σ:St}{H:Hp}{Q:VK}{R':List V->Hp->VK->Prop}(hr:∀vs H Q,(∃O ds r,(∀a,O a->H a≠none)/\VwL X.K kd O H vs ds/\g ds=some r/\RQ X.K kd O H Q r)->R' vs H Q)
 (h:al X.K kd (fP fr g) σ H Q):alA X.K kd fr σ H λvs H1=>R' vs H1 Q:=by
 obtain⟨F,B,ad,as,r,as',R,e,q⟩:=h;obtain⟨⟨p,as1⟩,h1,e⟩:=bS_ (show(fr as).bind _=_ from e);obtain⟨⟨ds,lv⟩,h2,e⟩:=bS_ e;obtain⟨z,h3,e⟩:=bS_ e;obtain⟨y,h4,e⟩:=bS_ e;cases e;exact⟨F,B,ad,as,p,_,R,h1,λvs ad1 H1 R1 rv1 g1=>hr _ _ _ ⟨_,ds,z,R1.tr _,WR R1 rv1 h2,h3,vM R1 h4 λw T' H' R' rv' g'=>q w T' ad1 H' R' rv' (g1.trans g')⟩⟩
def zkz{K:zC}{F B:Addr->Prop}{ad:Ad}{as:AS}{σ:St}{H:Hp}(R:Rel K kd F B [] ad as σ H){vs:List V}{rs:List RV}{ds:List (Bool×D)}(h:RVs K kd F B ad σ H vs rs)(e:Yn as rs=some ds):RpA K kd (Lv F B (Gw [] ad) true) H vs ds:=by
 induction h generalizing ds with
 |nil=>cases e;exact .nil
 |cons h t ih=>
  rename_i v r vs rs;obtain⟨⟨st,d⟩,h1,e⟩:=bS_ (show(zmm as r).bind _=_ from e);obtain⟨ds,h2,e⟩:=bS_ e;cases e;refine .cons ?_ (ih h2);cases r with
  |ow o=>
   cases h1;cases hf:zZ o.toD with
   |true=>exact(zhg h).flat hf
   |false=>
    refine(zgo h).less λa z=>?_;have zs:o.str=true:=z.1;rw[zs];exact z.2
  |bo i=>
   have e:(match as[i]? with|some (some o)=>some (false,o.toD)|_=>none)=some (st,d):=h1;cases k:as[i]? with
   |none=>rw[k]at e;cases e
   |some s=>
    cases s with
    |none=>rw[k]at e;cases e
    |some o=>
     rw[k]at e;cases e;obtain⟨w,hw,ro⟩:=R.sl i _ k;rw[h.2]at hw;cases hw;exact(zhg ro).less λa z=>nomatch z.1
def zto{K:zC}{F B:Addr->Prop}{ad:Ad}{as:AS}{σ:St}{H:Hp}{Q:VK}{o:O}(R:Rel K kd F B [] ad as σ H)(q:∀v T' H',Rel K kd F B T' ad as σ H'->wB K kd F B T' ad σ H' v (.ow o)->Grow (Gw [] ad) H (Gw T' ad) H'->Q v H'):
 RQO K kd (Lv F B (Gw [] ad) true) H Q o:=λv T H' hn hl k h1 ro=>by
 obtain⟨R',g⟩:=R.news hn hl k h1;have le:∀st a,Lv F B (Gw T ad) st a->Un2 (Lv F B (Gw [] ad) true) (· ∈ T) a:=λst a z=>by
  rcases z with(z|z)|z|z
  · exact .inl (.inl (.inl ⟨rfl,z.2⟩))
  · exact .inl (.inl (.inr z))
  · exact .inr z
  · exact .inl (.inr (.inr z))
 exact q v T H' R' (Ro.mono (λst v d r=>r.less (le st)) (λa vs n e=>⟨λz=>n (le true a z),e⟩) (λ_ _ _ e=>e) ro) g
def zsn(h:al X.K kd (zM fr g) σ H Q):zrs (spD X.K kd g) [] E (alA X.K kd fr) σ H Q:=by
 obtain⟨F,B,ad,as,r,as',R,e,q⟩:=h;obtain⟨⟨p,as1⟩,h1,e⟩:=bS_ (show(fr as).bind _=_ from e);obtain⟨ds,h2,e⟩:=bS_ e;obtain⟨o,h3,e⟩:=bS_ e;cases e;refine⟨F,B,ad,as,p,_,R,h1,λvs ad1 H1 R1 rv1 g1=>?_⟩;show spD X.K kd g (vs++[]) H1 Q E;rw[zyC];exact⟨_,ds,o,R1.trk true,zkz R1 rv1 h2,h3,zto R1 λw T' H' R' rv' g'=>q w T' ad1 H' R' rv' (g1.trans g')⟩
end
inductive Out where
 |nx (as:AS)|rt (o:O)|bk (as:AS)|ct (as:AS)
abbrev SF:=AS->Option Out
structure RetOk(K:zC)(kd:KD)(F:Addr->Prop)(T:List Addr)(H:Hp)(v:V)(o:O):Prop where
 nd:T.Nodup
 tr:∀a ∈ T,H a≠none
 ro:Ro (λ_ v d=>Rp K kd (Un2 F (· ∈ T)) H v d) (λa=>¬Un2 F (· ∈ T) a) H v o T
def zkS(K:zC)(kd:KD)(F B:Addr->Prop)(ad:Ad)(H:Hp)(D:Ends):Out->Prop
 | .nx as'=>∀σ' ad' H',Rel K kd F B [] ad' as' σ' H'->Grow (Gw [] ad) H (Gw [] ad') H'->D.nx σ' H'
 | .bk as'=>∀σ' ad' H',Rel K kd F B [] ad' as' σ' H'->Grow (Gw [] ad) H (Gw [] ad') H'->D.bk σ' H'
 | .ct as'=>∀σ' ad' H',Rel K kd F B [] ad' as' σ' H'->Grow (Gw [] ad) H (Gw [] ad') H'->D.ct σ' H'
 | .rt o=>∀v T H',RetOk K kd F T H' v o->Grow (Gw [] ad) H (· ∈ T) H'->D.rt v H'
def be(K:zC)(kd:KD)(f:SF):TS:=λD σ H=>∃F B ad as o,Rel K kd F B [] ad as σ H/\f as=some o/\zkS K kd F B ad H D o
@[irreducible] def ASt(X:Cx)(kd:KD)(st:Stmt)(f:SF):Prop:=PS X st (be X.K kd f)
@[irreducible] def ASs(X:Cx)(kd:KD)(st:List Stmt)(f:SF):Prop:=PSs X st (be X.K kd f)
def vd(h:PS X e t)(k:∀D σ H,t' D σ H->t D σ H):PS X e t':=λpins s σ H D I q=>h pins s σ H D I (k D σ H q)
def zdk(h:PSs X e t)(k:∀D σ H,t' D σ H->t D σ H):PSs X e t':=λpins s σ H D I q=>h pins s σ H D I (k D σ H q)
def zkS.pre{K:zC}{kd:KD}{F B:Addr->Prop}{ad ad1:Ad}{H H1:Hp}{D:Ends}{o:Out}(g:Grow (Gw [] ad) H (Gw [] ad1) H1)(h:zkS K kd F B ad H D o):zkS K kd F B ad1 H1 D o:=by
 cases o with
 |nx as=>exact λσ' ad' H' R g'=>h σ' ad' H' R (g.trans g')
 |bk as=>exact λσ' ad' H' R g'=>h σ' ad' H' R (g.trans g')
 |ct as=>exact λσ' ad' H' R g'=>h σ' ad' H' R (g.trans g')
 |rt r=>exact λv T H' R g'=>h v T H' R (g.trans g')
noncomputable def sNx:SF:=λas=>some (.nx as)
noncomputable def zy(f g:SF):SF:=λas=>(f as).bind λo=>match o with | .nx as'=>g as'|o=>some o
def sIf(c:TF)(f g:SF):SF:=λas=>(c as).bind λp=>if p.1=true then f p.2 else g p.2
def yF(f:EF):SF:=λas=>(f as).bind λp=>some (.nx p.2)
def zmG(as:AS):RV->Option O
 | .ow o=>if o.str=true then some o else none
 | .bo i=>match as[i]? with
  |some (some o)=>if o.str=true then some o else none
  |_=>none
def yC(f:EF):SF:=λas=>(f as).bind λp=>(zmG p.2 p.1).bind λo=>some (.rt o)
def zL(z:Bool)(i:Nat)(f:EF):SF:=λas=>(f as).bind λp=>(toO p.2 (if z=true then p.1.frz else p.1)).bind λx=>if i<x.2.length then some (.nx (x.2.set i (some x.1)))else none
def Ro.strong(h:Ro L N H v o fp)(e:o.str=true):Ro (λst v d=>st=true/\L st v d) N H v o fp:=
 Ro.rec (motive_1:=λv o fp _=>o.str=true->Ro (λst v d=>st=true/\L st v d) N H v o fp) (motive_2:=λvs os fp _=>O.strs os=true->RoL (λst v d=>st=true/\L st v d) N H vs os fp)
  (λh e=>.lf ⟨e,h⟩) (λh _ r e=>.ls h (r e)) (λh l _ r e=>.dc h l (r e)) (λc h l _ r e=>.ob ⟨rfl,c⟩ h l (r e)) (λh l _ r e=>.dt h l (r e)) (λn h _ r e=>.tp n h (r e)) (λ_=>.nil) (λ_ _ h r e=>.cons (h ((zyA _ _).mp e).1) (r ((zyA _ _).mp e).2)) h e
section
variable{K:zC}{kd:KD}{F B:Addr->Prop}{T:List Addr}{ad ad1:Ad}{as as1:AS}{σ:St}{H H1:Hp}{v:V}{r:RV}{o:O}
def zje(R:Rel K kd F B T ad as σ H)(hn:T'.Nodup)(hs:∀a ∈ T',Gw T ad a)(h:RoS K kd F B (Gw T ad) H v o T')(e:o.str=true):RetOk K kd F T' H v o:=by
 have le:∀a,Un2 F (· ∈ T') a->Lv F B (Gw T ad) true a:=λa z=>z.elim (λy=>.inl (.inl ⟨rfl,y⟩)) λy=>.inr (hs a y);exact⟨hn,λa m=>(R.gtr a (hs a m)).1,Ro.mono (λst v d r=>by obtain⟨rfl,r⟩:=r;exact r.less le) (λa vs n e=>⟨λz=>n (le a z),e⟩) (λ_ _ _ e=>e) (Ro.strong h e)⟩
def Rel.ret(R:Rel K kd F B T ad as σ H)(hr:wB K kd F B T ad σ H v r)(e:zmG as r=some o):∃T',RetOk K kd F T' H v o/\∀b ∈ T',Gw T ad b:=by
 cases r with
 |ow o'=>
  obtain⟨hs,rfl⟩:=zQ e;exact⟨T,zje R R.tnd (λa m=>.inl m) hr hs,λa m=>.inl m⟩
 |bo i=>
  have e:(match as[i]? with|some (some o)=>if o.str=true then some o else none|_=>none)=some o:=e;cases k:as[i]? with
  |none=>rw[k]at e;cases e
  |some s=>
   cases s with
   |none=>rw[k]at e;cases e
   |some o1=>
    rw[k]at e;obtain⟨hs,rfl⟩:=zQ e;obtain⟨w,hw,ro⟩:=R.sl i _ k;rw[hr.2]at hw;cases hw;exact⟨ad i,zje R (R.nd i) (λa m=>.inr ⟨i,m⟩) ro hs,λa m=>.inr ⟨i,m⟩⟩
end
section
variable{X:Cx}{kd:KD}{st:Stmt}{sts rest:List Stmt}{a b c e:Expr}{fa fb:EF}{ta:TF}{pos:Pos}{f g:SF}
def Y9:ASs X kd [] sNx:=by with_unfolding_all exact(zdk zgk λD σ H h=>by
 obtain⟨F,B,ad,as,o,R,e,q⟩:=h;cases e;exact q σ ad H R Grow.refl)
def xQ(h1:ASt X kd st f)(h2:ASs X kd rest g):ASs X kd (st::rest) (zy f g):=by with_unfolding_all exact(zdk (YF h1 h2) λD σ H h=>by
 obtain⟨F,B,ad,as,o,R,e,q⟩:=h;obtain⟨o1,e1,e⟩:=bS_ (show(f as).bind _=_ from e);refine⟨F,B,ad,as,o1,R,e1, ?_⟩;cases o1 with
 |nx as1=>exact λσ' ad' H' R' g'=>⟨F,B,ad',as1,o,R',e,q.pre g'⟩
 |bk as1=>cases e;exact q
 |ct as1=>cases e;exact q
 |rt r=>cases e;exact q)
def vW(h1:ASt X kd st f):ASs X kd [st] f:=by with_unfolding_all exact(zdc h1)
def sNo:SF:=λ_=>none
def zuB:ASt X kd st sNo:=by with_unfolding_all exact(λpins s σ H D I h=>by obtain⟨F,B,ad,as,o,R,e,q⟩:=h;cases e)
def zel(hc:AT X kd c ta)(ha:ASs X kd sts f)(hb:ASs X kd rest g):ASt X kd (.If c sts rest pos) (sIf ta f g):=by with_unfolding_all exact(vd (zrb hc ha hb) λD σ H h=>by
 obtain⟨F,B,ad,as,o,R,e,q⟩:=h;obtain⟨⟨p,as1⟩,h1,e⟩:=bS_ (show(ta as).bind _=_ from e);refine⟨F,B,ad,as,p,as1,R,h1,λad' H' R' g=>?_⟩;cases p with
 |true=>exact⟨F,B,ad',as1,o,R',e,q.pre g⟩
 |false=>exact⟨F,B,ad',as1,o,R',e,q.pre g⟩)
def zpE(he:AE X kd e fa)(hs:swapsWith e none pos.line X.env=pure false):ASt X kd (.Expr e pos) (yF fa):=by with_unfolding_all exact(vd (zau he hs) λD σ H h=>by
 obtain⟨F,B,ad,as,o,R,e,q⟩:=h;obtain⟨⟨p,as1⟩,h1,e⟩:=bS_ (show(fa as).bind _=_ from e);cases e;exact⟨F,B,ad,as,p,as1,R,h1,λv T' ad' H' R' rv g=>q σ ad' H' R'.drop (g.trans (Grow.less Gw.drop))⟩)
def zbf(he:AE X kd e fa):ASt X kd (.Return (some e) pos) (yC fa):=by with_unfolding_all exact(vd (ztA he) λD σ H h=>by
 obtain⟨F,B,ad,as,o,R,e,q⟩:=h;obtain⟨⟨p,as1⟩,h1,e⟩:=bS_ (show(fa as).bind _=_ from e);obtain⟨r,h2,e⟩:=bS_ e;cases e;refine⟨F,B,ad,as,p,as1,R,h1,λv T' ad' H' R' rv g=>?_⟩;obtain⟨T2,ro,le⟩:=R'.ret rv h2;exact q v T2 H' ro (g.trans (Grow.less le)))
def znP{K:zC}{F B:Addr->Prop}{T:List Addr}{ad:Ad}{as as2:AS}{σ:St}{H:Hp}{v:V}{r:RV}{z:Bool}{o:O}{i:Nat}(R:Rel K kd F B T ad as σ H)(rv:wB K kd F B T ad σ H v r)
 (h2:toO as (if z=true then r.frz else r)=some (o,as2)) (hl:i<as2.length):∃ad',Rel K kd F B [] ad' (as2.set i (some o)) (σ.set i (some v)) H/\∀a,Gw [] ad' a->Gw T ad a:=by
 cases z with
 |true=>
  obtain⟨ad1,R1,ro,le⟩:=zeL R.drop (wB.drop R rv) h2;exact⟨_,R1.put hl ro,λa y=>Gw.drop a (le a (Zy a y))⟩
 |false=>
  obtain⟨ad1,R1,ro,le⟩:=zeL R rv h2;exact⟨_,R1.put hl ro,λa y=>le a (Zy a y)⟩
def zoo(hN:X.N.Nodup)(hi:X.N[i]? = some x)(hx:Loc X.env.scope x)(he:AE X kd e fa)(hs:swapsWith e (some (.Name x pos')) pos.line X.env=pure false)(hf:X.fn x=true\/X.env.scope.names.lookup x=some .local):
 ASt X kd (.Assign [.Name x pos'] e pos) (zL z i fa):=by with_unfolding_all exact(vd (zoP hN hi hx he hs hf) λD σ H h=>by
 obtain⟨F,B,ad,as,o,R,e,q⟩:=h;obtain⟨⟨p,as1⟩,h1,e⟩:=bS_ (show(fa as).bind _=_ from e);obtain⟨⟨y,as2⟩,h2,e⟩:=bS_ e;obtain⟨hl,e⟩:=zQ e;cases e;refine⟨F,B,ad,as,p,as1,R,h1,λv T' ad' H' R' rv g=>?_⟩;obtain⟨ad2,R2,le⟩:=znP R' rv h2 hl;exact q _ ad2 H' R2 (g.trans (Grow.less le)))
end
def wK(n:Nat)(ds:List (Bool×D)):AS:=ds.map (λx=>some (.lf x.1 x.2))++List.replicate (n-ds.length) none
def zvX:Out->Option O
 | .nx _=>some (.lf true .non)
 | .rt o=>some o
 |_=>none
def fnR(n m:Nat)(f:SF)(ds:List (Bool×D)):Option O:=if ds.length=m then(f (wK n ds)).bind zvX else none
theorem RpA.get{K:zC}{kd:KD}{F:Addr->Prop}{H:Hp}:∀{vs:List V}{ds:List (Bool×D)}{i:Nat}{x:Bool×D},RpA K kd F H vs ds->ds[i]? = some x->∃v,vs[i]? = some v/\Rp K kd (λa=>x.1=true/\F a) H v x.2
 |_,_,_,_,.nil,e=>by simp at e
 |_,_,0,_,.cons h _,e=>by simp at e;subst e;exact⟨_,rfl,h⟩
 |_,_,i+1,_,.cons _ r,e=>by
  obtain⟨v,h1,h2⟩:=RpA.get (i:=i) r (by simpa using e);exact⟨v,by simpa using h1,h2⟩
def zbo{K:zC}{kd:KD}{F:Addr->Prop}{H:Hp}{N:List Str}{vs:List V}{ds:List (Bool×D)}(ht:∀a,F a->H a≠none)(rp:RpA K kd F H vs ds):
 Rel K kd F (λ_=>False) [] (λ_=>[]) (wK N.length ds) (L2.start N vs) H:=by
 have hl:=rp.length;have no:∀a,¬Gw [] (λ_=>[]) a:=λa z=>z.elim (λy=>nomatch y) λ⟨_,y⟩=>nomatch y;refine⟨by unfold wK L2.start;simp[hl],λ_ _=>rfl,λ_=>zyH,(λ_ _ _ z=>nomatch z),zyH,(λ_ _ _ z=>nomatch z),ht,(λ_ z=>z.elim),λa z=>(no a z).elim,λi s e=>?_⟩;unfold wK at e;unfold L2.start
 by_cases hi:i<ds.length
 · rw[zyN (by rw[zD];exact hi),zzG]at e;obtain⟨d,hd,ea⟩:=zzV.mp e;subst ea;obtain⟨v,hv,rv⟩:=rp.get hd;rw[zyN (by rw[zD,hl];exact hi),zzG,hv];refine⟨v,rfl,.lf (rv.less λa z=>?_)⟩
   rcases z with(z|z)|z
   · exact z
   · exact z.elim
   · exact(no a z).elim
 · rw[zyP (by rw[zD];omega)]at e;have:=zzY e;have ea:s=none:=(List.mem_replicate.mp this).2;subst ea;rfl
section
variable{P:Program}{w:World}{K:zC}{mg:Str->Option Value}{base:Heap}
def zpb(q:RQO K kd F H Q o)(ro:RetOk K kd F T H' v o)(g:Grow (Gw [] λ_=>[]) H (· ∈ T) H'):Q v H':=by
 have no:∀a,¬Gw [] (λ_=>[]) a:=λa z=>z.elim (λy=>nomatch y) λ⟨_,y⟩=>nomatch y;exact q v T H' ro.nd (λa m=>(g.own a m).resolve_left (no a)) (λb u h=>g.keep b u h (no b)) ro.tr ro.ro
def zuL{kd:KD}{x qual:Str}{st:Stmt}{f:Addr}{fd:FuncData}{N ps:List Str}{k:Nat}{c:SF}(Fn:Fun K x qual st f fd)(S:FnScope N ps (zr st))
 (hb:∀(cdv:Value) (A:Around) (outer:List Env) (s:Shared) (H:Hp) (E:XK),Room k (A.deeper (envOfC qual (zr st) s.heap.objs.size f cdv))->ASs (Xg CX0 P w K mg base N qual (zr st) f cdv A outer s H E).nox kd (ZD st) c):
 FnOk P w K mg base CX0 (k+1) f fd ps (spD K kd (fnR N.length ps.length c)):=by
 with_unfolding_all (
 refine Fn.ok S (λvs H Q E h=>?_) (λcdv A outer s H vs Q E hr h=>⟨_,hb cdv A outer s H E hr, ?_⟩)
 · obtain⟨F,ds,r,_,rp,e,_⟩:=h;unfold fnR at e
   by_cases hl:ds.length=ps.length
   · rw[rp.length,hl]
   · rw[if_neg hl]at e;cases e
 · obtain⟨F,ds,r,ht,rp,e,q⟩:=h;unfold fnR at e
   by_cases hl:ds.length=ps.length
   · rw[if_pos hl]at e;obtain⟨o,e1,e⟩:=bS_ e;refine⟨F,λ_=>False,λ_=>[],wK N.length ds,o,zbo ht rp,e1, ?_⟩;cases o with
     |nx as=>cases e;exact λσ' ad' H' R g=>zpb q (T:=[]) ⟨zyH,(λ_ m=>nomatch m),.lf .non⟩ (g.trans (Grow.less (λ_ z=>nomatch z)))
     |rt o=>cases e;exact λv T H' ro g=>zpb q ro g
     |bk=>cases e
     |ct=>cases e
   · rw[if_neg hl]at e;cases e)
end
abbrev It1:=Bool×D
abbrev GF:=It1->AS->Option AS
abbrev GFs:=List It1->AS->Option AS
def kids(st:Bool)(ds:List D):List It1:=ds.map λd=>(zZ d||st,d)
inductive RpI(K:zC)(kd:KD)(F B G:Addr->Prop)(H:Hp):List V->List It1->Prop
 |nil:RpI K kd F B G H [] []
 |cons {v:V}{x:It1}{vs:List V}{ds:List It1}:Rp K kd (Lv F B G x.1) H v x.2->RpI K kd F B G H vs ds->RpI K kd F B G H (v::vs) (x::ds)
def alG(K:zC)(kd:KD)(S:List Nat)(g:GF):TG:=λv σ H Q=>∃F B ad as x as',Rel K kd F B [] ad as σ H/\Rp K kd (Lv F B (Gw [] ad) x.1) H v x.2/\g x as=some as'/\
 ∀σ' ad' H',Rel K kd F B [] ad' as' σ' H'->Grow (Gw [] ad) H (Gw [] ad') H'->(∀j,j ∉ S->σ'[j]? = σ[j]?)->Q σ' H'
def zvJ(K:zC)(kd:KD)(S:List Nat)(g:GFs):TGs:=λvs σ H Q=>∃F B ad as ds as',Rel K kd F B [] ad as σ H/\RpI K kd F B (Gw [] ad) H vs ds/\g ds as=some as'/\
 ∀σ' ad' H',Rel K kd F B [] ad' as' σ' H'->Grow (Gw [] ad) H (Gw [] ad') H'->(∀j,j ∉ S->σ'[j]? = σ[j]?)->Q σ' H'
@[irreducible] def AG(X:Cx)(kd:KD)(tg:Expr)(S:List Nat)(g:GF):Prop:=PG X tg (alG X.K kd S g)
@[irreducible] def AGs(X:Cx)(kd:KD)(tg:List Expr)(S:List Nat)(g:GFs):Prop:=PGs X tg (zvJ X.K kd S g)
def zrw(h:PG X e t)(k:∀v σ H Q,t' v σ H Q->t v σ H Q):PG X e t':=λpins s σ H v u Q I r q=>h pins s σ H v u Q I r (k v σ H Q q)
def zko(h:PGs X e t)(k:∀v σ H Q,t' v σ H Q->t v σ H Q):PGs X e t':=λpins s σ H v u Q I r q=>h pins s σ H v u Q I r (k v σ H Q q)
def gN(i:Nat):GF:=λx as=>if i<as.length then some (as.set i (some (.lf x.1 x.2)))else none
def gsN:GFs:=λds as=>match ds with | []=>some as|_::_=>none
def gsC(g:GF)(gs:GFs):GFs:=λds as=>match ds with | []=>none|d::r=>(g d as).bind λas1=>gs r as1
def gT(n:Nat)(gs:GFs):GF:=λx as=>match x.2 with
 | .tup ds=>if ds.length=n then gs (kids x.1 ds) as else none
 | .lst ds=>if ds.length=n then gs (kids x.1 ds) as else none
 |_=>none
section
variable{K:zC}{kd:KD}{F B G G':Addr->Prop}{H H':Hp}
def RpI.length(h:RpI K kd F B G H vs ds):vs.length=ds.length:=by
 induction h with
 |nil=>rfl
 |cons _ _ ih=>exact congrArg (· + 1) ih
def RpI.grow(g:Grow G H G' H')(h:RpI K kd F B G H vs ds):RpI K kd F B G' H' vs ds:=by
 induction h with
 |nil=>exact .nil
 |cons h _ ih=>exact .cons (Rp.grow g h) ih
def RpI.get{vs:List V}{ds:List It1}{i:Nat}{x:It1}(h:RpI K kd F B G H vs ds)(e:ds[i]? = some x):∃v,vs[i]? = some v/\Rp K kd (Lv F B G x.1) H v x.2:=by
 induction h generalizing i with
 |nil=>simp at e
 |cons h r ih=>
  cases i with
  |zero=>simp at e;subst e;exact⟨_,rfl,h⟩
  |succ i=>
   obtain⟨v,h1,h2⟩:=ih (i:=i) (by simpa using e);exact⟨v,by simpa using h1,h2⟩
def WN{st:Bool}{vs:List V}{ds:List D}(h:RpL K kd (Lv F B G st) H vs ds):RpI K kd F B G H vs (kids st ds):=
 RpL.ind (P:=λvs ds=>RpI K kd F B G H vs (kids st ds)) .nil (λ{v d vs ds} h _ ih=>by
  refine .cons (x:=(zZ d||st,d)) ?_ ih;cases e:zZ d with
  |true=>exact h.flat e
  |false=>exact h) h
end
section
variable{prog:Program}{w:World}{A:Around}{E:Value->Shared->Prop}{s:Shared}
theorem zfJ(hne:l≠it):∀(n i:Nat) (s:Shared) (Q:List Value->Shared->Prop),s.heap.IsListIter it l i->s.heap.IsList l items->i+n<=items.size->
 (∀h',h'.IsListIter it l (i+n)->Heap.SameBut it s.heap h'->Q ((items.toList.drop i).take n) {s with heap:=h'})->wpAny (model prog w) A (draw (.ref it) n) Q E s
 |0,i,s,Q,hit,_,_,hQ=>by
  show wpAny _ _ (pure []) Q E s;exact zxF (by simpa using hQ s.heap hit (Heap.SameBut.refl ..))
 |n+1,i,s,Q,hit,ht,hle,hQ=>by
  have hlt:i<items.size:=by omega
  show wpAny _ _ (pyNext (.ref it) >>= _) Q E s;refine zxE (wpAny_pyNext_list_item hit ht (x:=items[i]) (by simp[hlt]) λh₁ hit₁ hs₁=>?_);refine zxE (zxK (zfJ hne n (i+1) _ _ hit₁ (ht.extBut hs₁.extBut hne) (by omega) λh₂ hit₂ hs₂=>zxF ?_));have hd:items.toList.drop i=items[i]::items.toList.drop (i+1):=by simp[zyO,hlt]
  have:=hQ h₂ (by rw[show i+(n+1)=i+1+n by omega];exact hit₂) (hs₁.trans hs₂);rw[hd,List.take_succ_cons]at this;exact this
def zhZ(hh:A.handled=none)(ht:s.heap.IsList l items)
 (hn:targets.length=items.size) (hstar:targets.findIdx? (·.1)=none)
 (h:∀h',Heap.ExtBut s.heap.objs.size s.heap h'->wpAny (model prog w) A (assignInOrder (targets.map (·.2)) items.toList) Q E {s with heap:=h'}):
 wpAny (model prog w) A (unpack (.ref l) targets) Q E s:=by
 unfold unpack;rw[hn,hstar];refine zxE (zxK ?_);have hlt:l≠s.heap.objs.size:=by obtain⟨o,ho,_⟩:=ht;exact zzO (zxH ho)
 unfold unpackItems;refine zxE ?_;unfold notIterableAtAll;refine zxE (wpAny_specialOf ht.typeIs PySem.F.slot_list_iter.lookup ?_);refine zxF ?_;simp only[Bool.false_eq_true,if_false];refine zxE (zxK (wpAny_pyIter_list ht ?_));refine zxE (zxK (zfJ hlt items.size 0 _ _ ⟨_,zxI _ rfl,rfl,rfl⟩ (ht.push _) (by omega) λh₁ hit₁ hs₁=>?_));have hall:List.take items.size (List.drop 0 items.toList)=items.toList:=by
  rw[List.drop_zero];exact List.take_of_length_le (by simp)
 rw[hall];rw[if_neg (by simp)];have ht₁:h₁.IsList l items:=(ht.push _).extBut hs₁.extBut hlt;refine zxE (zxK (wpAny_pyNext_list_end hh hit₁ ht₁ (by simp) λh₂ he₂=>?_));simp only[Option.isSome_none,Bool.false_eq_true,if_false];exact zxF (h h₂ λb o hb e=>he₂ b o hb (hs₁.extBut b o hb (zxG _ e)))
end
section
variable{X:Cx}{kd:KD}{a b c e tg iter:Expr}{es:List Expr}{body:List Stmt}{fa fb:EF}{pos:Pos}{g:GF}{gs:GFs}{f:SF}{ta:TF}{S S1 S2:List Nat}
def zvf(K:zC)(n:Nat)(t:TGs):TG:=λv σ H Q=>∃a xs,v = .ref a/\SqL K H a xs/\xs.length=n/\t xs σ H Q
def znJ(hc:X.calm=true)(h:PGs X es t)(hn:(assignEach es X.env).length=n)(hst:(assignEach es X.env).findIdx? (·.1)=none):PG X (.Tuple es k pos) (zvf X.K n t):=by
 intro pins s σ H v u Q I r hw;obtain⟨a,xs,e1,hq,hl,hw⟩:=hw;subst e1;cases r;obtain⟨its,rv,ht,hz⟩:=I.list hq;rw[assign_Tuple];refine zxE (wpAny_standAt (zhZ (I.ok.hd hc) ht.isList (by simp[hn,<-hl,rv.length]) hst λh' hx=>?_));have I1:Inv X pins σ H {s with heap:=h'}:=I.kept (t':=s.toks) λb o e=>hx b o (zzO (zxH e)) e;exact h pins _ σ H xs _ Q I1 (by simpa using rv) hw
def zka(hN:X.N.Nodup)(hi:X.N[i]? = some x)(hx:Loc X.env.scope x)(hf:X.fn x=true\/X.env.scope.names.lookup x=some .local):AG X kd (.Name x pos) [i] (gN i):=by with_unfolding_all exact(zrw (zpu hN hi hx hf) λv σ H Q h=>by
 obtain⟨F,B,ad,as,y,as',R,rp,e,q⟩:=h;obtain⟨hl,e⟩:=zQ e;cases e;exact q _ _ H (R.put hl (o:=.lf y.1 y.2) (.lf rp)) (Grow.less Zy) λj hj=>zzW (λz=>hj (by rw[z];simp)))
def zaW:AGs X kd [] [] gsN:=by with_unfolding_all exact(zko zqt λvs σ H Q h=>by
 obtain⟨F,B,ad,as,ds,as',R,rp,e,q⟩:=h;cases rp with
 |nil=>cases e;exact⟨rfl,q σ ad H R Grow.refl λ_ _=>rfl⟩
 |cons=>cases e)
def wG(h1:AG X kd a S1 g)(h2:AGs X kd es S2 gs)(hs:(assignEach (a::es) X.env).map (·.2)=assign a X.env::(assignEach es X.env).map (·.2)):AGs X kd (a::es) (S1++S2) (gsC g gs):=by with_unfolding_all exact(zko (zmF h1 h2 hs) λvs σ H Q h=>by
 obtain⟨F,B,ad,as,ds,as',R,rp,e,q⟩:=h;cases rp with
 |nil=>cases e
 |cons r rr=>
  obtain⟨as1,e1,e⟩:=bS_ (show(g _ as).bind _=_ from e);refine⟨_,_,rfl,F,B,ad,as,_,as1,R,r,e1,λσ' ad' H' R' g' k'=>?_⟩;exact⟨F,B,ad',as1,_,as',R',rr.grow g',e,λσ2 ad2 H2 R2 g2 k2=>q σ2 ad2 H2 R2 (g'.trans g2) λj hj=>(k2 j λz=>hj (zzJ _ z)).trans (k' j λz=>hj (zzN _ z))⟩)
def zes{k n:Nat}(hc:X.calm=true)(h:AGs X kd es S gs)(hn:(assignEach es X.env).length=n)(hst:(assignEach es X.env).findIdx? (·.1)=none):AG X kd (.Tuple es k pos) S (gT n gs):=by
 with_unfolding_all (
 intro pins s σ H v u Q I r hw;obtain⟨F,B,ad,as,⟨st,d⟩,as',R,rp,e,q⟩:=hw;cases d with
 |tup ds=>
  have e:(if ds.length=n then gs (kids st ds) as else none)=some as':=e
  by_cases hl:ds.length=n
  · rw[if_pos hl]at e;have go:∃a xs,v = .ref a/\SqT X.K H a xs/\RpL X.K kd (Lv F B (Gw [] ad) st) H xs ds:=by
     cases rp with
     |tup n h r=>exact⟨_,_,rfl,.inl (.inl h),r⟩
    obtain⟨a,xs,rfl,hs,rl⟩:=go;exact ztk hc h hn hst pins s σ H _ u Q I r ⟨a,xs,rfl,hs,by rw[rl.length,hl],F,B,ad,as,_,as',R,WN rl,e,q⟩
  · rw[if_neg hl]at e;cases e
 |lst ds=>
  have e:(if ds.length=n then gs (kids st ds) as else none)=some as':=e
  by_cases hl:ds.length=n
  · rw[if_pos hl]at e;cases rp with
    |lstK a b c r'=>exact znJ hc h hn hst pins s σ H _ u Q I r ⟨_,_,rfl,.inr ⟨_,_,_,a,rfl,rfl,rfl,b,c⟩,by rw[r'.length,hl],F,B,ad,as,_,as',R,WN r',e,q⟩
    |lst n h' r'=>exact znJ hc h hn hst pins s σ H _ u Q I r ⟨_,_,rfl,.inl h',by rw[r'.length,hl],F,B,ad,as,_,as',R,WN r',e,q⟩
  · rw[if_neg hl]at e;cases e
 |_=>cases e)
def zbz(as:AS)(r:RV):Option (It1×AS):=(toO as r.frz).bind λx=>match x.1 with | .lf st d=>some ((st,d),x.2)|_=>none
def Va{K:zC}{F B:Addr->Prop}{T:List Addr}{ad:Ad}{as as':AS}{σ:St}{H:Hp}{v:V}{r:RV}{x:It1}(R:Rel K kd F B T ad as σ H)(h:wB K kd F B T ad σ H v r)(e:zbz as r=some (x,as')):
 ∃ad',Rel K kd F B [] ad' as' σ H/\Rp K kd (Lv F B (Gw [] ad') x.1) H v x.2/\∀a,Gw [] ad' a->Gw T ad a:=by
 obtain⟨⟨o,as1⟩,h1,e⟩:=bS_ e;obtain⟨ad1,R1,ro,le⟩:=zeL R.drop (wB.drop R h) h1;cases o with
 |lf st d=>
  cases e;refine⟨ad1,R1, ?_,λa y=>Gw.drop a (le a y)⟩;have:=zgo ro;exact this
 |nd k os=>cases e
def Vh(f:EF)(g:GF):SF:=λas=>(f as).bind λp=>(zbz p.2 p.1).bind λq=>(g q.1 q.2).bind λas'=>some (.nx as')
def zjl(he:AE X kd e fa)(hg:AG X kd tg S g)(hs:swapsWithSole [tg] e pos.line X.env=pure false)(hw:swappedStores [tg] e X.env=pure none)(h1:(assignEach [tg] X.env).map (·.2)=[assign tg X.env]):
 ASt X kd (.Assign [tg] e pos) (Vh fa g):=by with_unfolding_all exact(vd (zbF he hg hs hw h1) λD σ H h=>by
 obtain⟨F,B,ad,as,o,R,e,q⟩:=h;obtain⟨⟨p,as1⟩,h1,e⟩:=bS_ (show(fa as).bind _=_ from e);obtain⟨⟨x,as2⟩,h2,e⟩:=bS_ e;obtain⟨as3,h3,e⟩:=bS_ e;cases e;refine⟨F,B,ad,as,p,as1,R,h1,λv T' ad' H' R' rv g1=>?_⟩;obtain⟨ad2,R2,rp,le⟩:=Va R' rv h2;exact⟨F,B,ad2,as2,_,as3,R2,rp,h3,λσ' ad' H' R' g' _=>q σ' ad' H' R' ((g1.trans (Grow.less le)).trans g')⟩)
structure ItOk(K:zC)(kd:KD)(F B:Addr->Prop)(ad:Ad)(H:Hp)(J:It)(ds:List It1):Prop where
 all:∀(ad2:Ad) (H2:Hp),Grow (Gw [] ad) H (Gw [] ad2) H2->(∀st a,Lv F B (Gw [] ad2) st a->H2 a≠none)->∀i,(i<ds.length->J.go i H2)/\(ds.length<=i->J.stop i H2)/\
  ∀v H3,J.yld i H2 v H3->(∀b o,H2 b=some o->H3 b=some o)/\∀x,ds[i]? = some x->Rp K kd (Lv F B (Gw [] ad2) x.1) H3 v x.2
abbrev IF:=AS->Option (List It1×AS)
def alI(K:zC)(kd:KD)(f:IF):TI:=λσ H R=>∃F B ad as ds as',Rel K kd F B [] ad as σ H/\f as=some (ds,as')/\
 ∀J ad' H',Rel K kd F B [] ad' as' σ H'->Grow (Gw [] ad) H (Gw [] ad') H'->ItOk K kd F B ad' H' J ds->R J H'
@[irreducible] def AI(X:Cx)(kd:KD)(tg iter:Expr)(f:IF):Prop:=PI X tg iter (alI X.K kd f)
def forL(g:GF)(f:SF):List It1->AS->Option Out
 | [],as=>some (.nx as)
 |d::r,as=>(g d as).bind λas1=>(f as1).bind λo=>match o with
  | .nx as'=>forL g f r as'
  | .ct as'=>forL g f r as'
  | .bk as'=>some (.nx as')
  | .rt r=>some (.rt r)
def xO(fi:IF)(g:GF)(f:SF):SF:=λas=>(fi as).bind λp=>forL g f p.1 p.2
def zgf(hp:PassesOwn (model X.prog X.w) X.A X.env X.xe)(hc:X.calm=true)(hi:AI X kd tg iter fi)(hg:AG X kd tg S g)(hb:ASs X kd body f)(hs:∀x,foldedSetIterable iter X.env x=pure x):
 ASt X kd (.For tg iter body [] pos) (xO fi g f):=by with_unfolding_all exact(vd (zsx hp hc hi hg hb hs) λD σ H h=>by
 obtain⟨F,B,ad,as,o,R,e,q⟩:=h;obtain⟨⟨ds,as1⟩,h1,e⟩:=bS_ (show(fi as).bind _=_ from e);refine⟨F,B,ad,as,ds,as1,R,h1,λJ ad1 H1 R1 g1 it=>?_⟩;refine⟨λi m σ2 H2=>m+i=ds.length/\∃ad2 as2,Rel X.K kd F B [] ad2 as2 σ2 H2/\Grow (Gw [] ad1) H1 (Gw [] ad2) H2/\forL g f (ds.drop i) as2=some o,⟨ds.length,rfl,ad1,as1,R1,Grow.refl,e⟩, ?_⟩
 rintro i m σ2 H2 ⟨hm,ad2,as2,R2,g2,e2⟩
 obtain⟨k1,k2,k3⟩:=it.all ad2 H2 g2 R2.trk i
 by_cases hi:i<ds.length
 · refine .inr ⟨k1 hi,λσ3 H3=>∃ad3 as3,Rel X.K kd F B [] ad3 as3 σ3 H3/\Grow (Gw [] ad1) H1 (Gw [] ad3) H3/\forL g f (ds.drop (i+1)) as3=some o,λσ3 H3 ⟨ad3,as3,R3,g3,e3⟩=>⟨m-1,by omega,by omega,ad3,as3,R3,g3,e3⟩,λv H3 hy=>?_⟩;obtain⟨kp,rp⟩:=k3 v H3 hy;rw[zyO hi]at e2;obtain⟨as3,e3,e2⟩:=bS_ (show(g _ as2).bind _=_ from e2);obtain⟨o3,e4,e2⟩:=bS_ e2;obtain⟨R3,g3⟩:=R2.more kp;refine⟨F,B,ad2,as2,_,as3,R3,rp _ (zzC hi),e3,λσ4 ad4 H4 R4 g4 _=>?_⟩;refine⟨F,B,ad4,as3,o3,R4,e4, ?_⟩;have gg:=(g2.trans g3).trans g4;cases o3 with
   |nx as5=>exact λσ5 ad5 H5 R5 g5=>⟨ad5,as5,R5,gg.trans g5,e2⟩
   |ct as5=>exact λσ5 ad5 H5 R5 g5=>⟨ad5,as5,R5,gg.trans g5,e2⟩
   |bk as5=>
    cases e2;exact λσ5 ad5 H5 R5 g5=>q σ5 ad5 H5 R5 (g1.trans (gg.trans g5))
   |rt r=>
    cases e2;exact λv T H5 ro g5=>q v T H5 ro (g1.trans (gg.trans g5))
 · refine .inl ⟨k2 (by omega), ?_⟩;rw[List.drop_eq_nil_of_le (by omega)]at e2;cases e2;exact q σ2 ad2 H2 R2 (g1.trans g2))
def whL(c:TF)(f:SF):Nat->AS->Option Out
 |0,_=>none
 |n+1,as=>(c as).bind λp=>if p.1=true then(f p.2).bind λo=>match o with
  | .nx as'=>whL c f n as'
  | .ct as'=>whL c f n as'
  | .bk as'=>some (.nx as')
  | .rt r=>some (.rt r)else some (.nx p.2)
def zmp(hp:PassesOwn (model X.prog X.w) X.A X.env X.xe)(hc:AT X kd c ta)(hb:ASs X kd body f):ASt X kd (.While c body [] pos) (whL ta f n):=by with_unfolding_all exact(vd (znF hp hc hb) λD σ H h=>by
 obtain⟨F,B,ad,as,o,R,e,q⟩:=h;refine⟨λm σ2 H2=>∃ad2 as2,Rel X.K kd F B [] ad2 as2 σ2 H2/\Grow (Gw [] ad) H (Gw [] ad2) H2/\whL ta f m as2=some o,⟨n,ad,as,R,Grow.refl,e⟩, ?_⟩
 rintro m σ2 H2 ⟨ad2,as2,R2,g2,e2⟩
 cases m with
 |zero=>cases e2
 |succ m=>
  obtain⟨⟨p,as3⟩,e3,e2⟩:=bS_ (show(ta as2).bind _=_ from e2);refine⟨F,B,ad2,as2,p,as3,R2,e3,λad3 H3 R3 g3=>?_⟩;cases p with
  |true=>
   rw[if_pos rfl]at e2 ⊢;obtain⟨o3,e4,e2⟩:=bS_ e2;refine⟨λσ3 H3=>∃ad3 as3,Rel X.K kd F B [] ad3 as3 σ3 H3/\Grow (Gw [] ad) H (Gw [] ad3) H3/\whL ta f m as3=some o,λσ3 H3 h=>⟨m,by omega,h⟩,F,B,ad3,as3,o3,R3,e4, ?_⟩;have gg:=g2.trans g3;cases o3 with
   |nx as5=>exact λσ5 ad5 H5 R5 g5=>⟨ad5,as5,R5,gg.trans g5,e2⟩
   |ct as5=>exact λσ5 ad5 H5 R5 g5=>⟨ad5,as5,R5,gg.trans g5,e2⟩
   |bk as5=>
    cases e2;exact λσ5 ad5 H5 R5 g5=>q σ5 ad5 H5 R5 (gg.trans g5)
   |rt r=>
    cases e2;exact λv T H5 ro g5=>q v T H5 ro (gg.trans g5)
  |false=>
   rw[if_neg zyU]at e2 ⊢;cases e2;exact q σ2 ad3 H3 R3 (g2.trans g3))
def zhQ:It1->Option (List It1)
 |(st,.lst ds)=>some (kids st ds)
 |(st,.tup ds)=>some (kids st ds)
 |_=>none
def zed(f:EF):IF:=λas=>(f as).bind λp=>(zbz p.2 p.1).bind λq=>(zhQ q.1).bind λds=>some (ds,q.2)
def zkp{K:zC}{F B:Addr->Prop}{ad:Ad}{H:Hp}{a:Addr}{vs:List V}{ds:List It1}(hs:∀(ad3:Ad) (H3:Hp),Grow (Gw [] ad) H (Gw [] ad3) H3->SqL K H3 a vs)(r:RpI K kd F B (Gw [] ad) H vs ds):ItOk K kd F B ad H (Itl K a) ds:=⟨λad3 H3 g3 _ i=>by
 have hr3:=hs ad3 H3 g3;have rl3:=r.grow g3;refine⟨λhi=>?_,λhi=>⟨_,hr3,by rw[r.length];exact hi⟩,λv H4 hy=>?_⟩
 · obtain⟨u,hu,_⟩:=r.get (zzC hi);exact⟨_,u,hr3,hu⟩
 · obtain⟨rfl,hv⟩:=hy;refine⟨λ_ _ z=>z,λd hd=>?_⟩;obtain⟨u,hu,ru⟩:=rl3.get hd;have:=hv _ hr3;rw[hu]at this;cases this;exact ru⟩
def zsB{K:zC}{F B:Addr->Prop}{ad:Ad}{H:Hp}{a:Addr}{vs:List V}{ds:List It1}(hs:∀(ad3:Ad) (H3:Hp),Grow (Gw [] ad) H (Gw [] ad3) H3->SqT K H3 a vs)(r:RpI K kd F B (Gw [] ad) H vs ds):ItOk K kd F B ad H (Itt K a) ds:=⟨λad3 H3 g3 _ i=>by
 have hr3:=hs ad3 H3 g3;have rl3:=r.grow g3;refine⟨λhi=>?_,λhi=>⟨_,hr3,by rw[r.length];exact hi⟩,λv H4 hy=>?_⟩
 · obtain⟨u,hu,_⟩:=r.get (zzC hi);exact⟨_,u,hr3,hu⟩
 · obtain⟨rfl,hv⟩:=hy;refine⟨λ_ _ z=>z,λd hd=>?_⟩;obtain⟨u,hu,ru⟩:=rl3.get hd;have:=hv _ hr3;rw[hu]at this;cases this;exact ru⟩
def zrA(he:AE X kd e fa):AI X kd tg e (zed fa):=by
 with_unfolding_all (
 intro pins s σ H R I h;obtain⟨F,B,ad,as,ds,as',Rl,e,q⟩:=h;obtain⟨⟨p,as1⟩,h1,e⟩:=bS_ (show(fa as).bind _=_ from e);obtain⟨⟨⟨st,x⟩,as2⟩,h2,e⟩:=bS_ e;obtain⟨ys,h3,e⟩:=bS_ e;cases e;cases x with
 |lst xs=>
  cases h3;refine zhi he pins s σ H R I ⟨F,B,ad,as,p,as1,Rl,h1,λv T1 ad1 H1 R1 rv1 g1=>?_⟩;obtain⟨ad2,R2,rp,le⟩:=Va R1 rv1 h2;cases rp with
  |lst hn hr rl=>exact⟨_,rfl,⟨_,.inl hr⟩,q _ ad2 H1 R2 (g1.trans (Grow.less le)) (zkp (λad3 H3 g3=>.inl (zax g3 (λz=>hn (.inr z)) hr)) (WN rl))⟩
  |lstK a b c rl=>exact⟨_,rfl,⟨_,.inr ⟨_,_,_,a,rfl,rfl,rfl,b,c⟩⟩,q _ ad2 H1 R2 (g1.trans (Grow.less le)) (zkp (λad3 H3 g3=>.inr ⟨_,_,_,a,rfl,rfl,rfl,b,c⟩) (WN rl))⟩
 |tup xs=>
  cases h3;refine zjy he pins s σ H R I ⟨F,B,ad,as,p,as1,Rl,h1,λv T1 ad1 H1 R1 rv1 g1=>?_⟩;obtain⟨ad2,R2,rp,le⟩:=Va R1 rv1 h2;have go:∃a ys,v = .ref a/\(∀(ad3:Ad) (H3:Hp),Grow (Gw [] ad2) H1 (Gw [] ad3) H3->SqT X.K H3 a ys)/\RpL X.K kd (Lv F B (Gw [] ad2) st) H1 ys xs:=by
   cases rp with
   |tup n h r=>exact⟨_,_,rfl,λad3 H3 g3=>.inl (zax g3 (λz=>n (.inr z)) (.inl h)),r⟩
  obtain⟨a,ys,rfl,hs,rl⟩:=go;exact⟨_,rfl,⟨_,hs ad2 H1 Grow.refl⟩,q _ ad2 H1 R2 (g1.trans (Grow.less le)) (zsB hs (WN rl))⟩
 |_=>cases h3)
def wg(lo:Int)(n:Nat):List It1:=(List.range n).map λ(i:Nat)=>(true,D.int (lo+(i:Int)))
def zso{K:zC}{F B:Addr->Prop}{ad:Ad}{H:Hp}(lo:Int)(n:Nat):ItOk K kd F B ad H (Itr lo n) (wg lo n):=⟨λad2 H2 g _ i=>by
 have hl:(wg lo n).length=n:=by unfold wg;simp
 refine⟨λhi=>by rw[hl]at hi;exact hi,λhi=>by rw[hl]at hi;exact hi,λv H3 hy=>?_⟩;obtain⟨rfl,rfl⟩:=hy;refine⟨λ_ _ z=>z,λd hd=>?_⟩;have hi:i<n:=by rw[<-hl];exact(zzE.mp hd).1
 unfold wg at hd;rw[zzG,List.getElem?_range hi]at hd;cases hd;exact .int _⟩
def ztY:List D->Option D
 | [x]=>some x
 |_=>none
def zqx(h:ztY ds=some d):ds=[d]:=by
 cases ds with
 |nil=>cases h
 |cons x r=>
  cases r with
  |nil=>cases h;rfl
  |cons _ _=>cases h
def yq(ds:List D):Option (List It1):=((ztY ds).bind asI).bind λj=>if -(2 ^ 62)<=j/\j<2 ^ 62 then some (wg 0 j.toNat)else none
def zkP(h:yq ds=some xs):∃j,ds=[.int j]/\(if -(2 ^ 62)<=j/\j<2 ^ 62 then some (wg 0 j.toNat)else none)=some xs:=by
 obtain⟨j,h1,h⟩:=bS_ h;obtain⟨d,h2,h1⟩:=bS_ h1;cases zgG h1;exact⟨j,zqx h2,h⟩
def yp(fr:AF)(h:List D->Option (List It1)):IF:=λas=>(fr as).bind λp=>(views p.2 p.1).bind λds=>(h ds.1).bind λxs=>some (xs,p.2)
def zlr(hg:Gl X "range")(hm:X.mg "range"=none)(ha:AA X kd [a] fr)(hs:starEach [a] X.env=[(false,eval a X.env)]):AI X kd tg (.Call (.Name "range" p) [a] [] pos) (yp fr yq):=by
 with_unfolding_all (
 intro pins s σ H R I h;obtain⟨F,B,ad,as,ds,as',Rl,e,q⟩:=h;obtain⟨⟨ps,as1⟩,h1,e⟩:=bS_ (show(fr as).bind _=_ from e);obtain⟨⟨xs,lv⟩,h2,e⟩:=bS_ e;obtain⟨ys,h3,e⟩:=bS_ e;cases e;obtain⟨j,rfl,h3⟩:=zkP h3
 · obtain⟨hj,e3⟩:=zQ h3;cases e3;refine zfM hg hm ha hs pins s σ H R I ⟨F,B,ad,as,ps,_,Rl,h1,λvs ad1 H1 R1 rv1 g1=>?_⟩;have vl:=WR R1 rv1 h2;cases vl with
   |cons v1 v2=>
    cases v2;cases v1;exact⟨j,rfl,hj.1,hj.2,q _ ad1 H1 R1 g1 (zso 0 _)⟩)
def Rel.mut{K:zC}{F B:Addr->Prop}{T fo:List Addr}{ad:Ad}{as:AS}{σ:St}{H:Hp}{i:Nat}{l:Addr}{fp fp':List Addr}{n:O}{u:HO}(R:Rel K kd F B T ad as σ H)(hi:i<as.length)(hl:ad i=l::fp)(hs:σ[i]? = some (some (.ref l)))
 (hsub:∀a ∈ fp'++fo,a ∈ fp++T) (hnd:(fp'++fo).Nodup) (hu:H l≠none)
 (ro:∀(H':Hp) (G':Addr->Prop),H' l=some u->Grow (Gw T ad) H G' H'->(∀a ∈ fp',∀w,H a=some w->H' a=some w)->RoS K kd F B G' H' (.ref l) n (l::fp')):
 Rel K kd F B fo (wO ad i (l::fp')) (as.set i (some n)) σ (upd H l u)/\Grow (Gw T ad) H (Gw fo (wO ad i (l::fp'))) (upd H l u):=by
 have hli:l ∈ ad i:=by rw[hl];exact zzD
 have lT:l ∉ T:=R.dis i l hli;have lfp:l ∉ fp:=by have:=R.nd i;rw[hl]at this;exact(zzU.mp this).1
 have lsub:∀a ∈ fp'++fo,a≠l:=λa m e=>by
  subst e
  rcases zzK.mp (hsub _ m)with z|z
  · exact lfp z
  · exact lT z
 have sub:∀a ∈ fp'++fo,Gw T ad a:=λa m=>by
  rcases zzK.mp (hsub a m)with z|z
  · exact .inr ⟨i,by rw[hl];exact zzB _ z⟩
  · exact .inl z
 have gsub:∀a,Gw fo (wO ad i (l::fp')) a->Gw T ad a:=λa z=>by
  rcases z with z|⟨j,z⟩
  · exact sub a (zzJ _ z)
  · by_cases e:j=i
    · subst e;rw[zO]at z
      rcases zzA.mp z with z|z
      · subst z;exact .inr ⟨j,hli⟩
      · exact sub a (zzN _ z)
    · rw[zV e]at z;exact .inr ⟨j,z⟩
 have g:Grow (Gw T ad) H (Gw fo (wO ad i (l::fp'))) (upd H l u):=⟨λb w h n=>by rw[zH (λe=>n (by subst e;exact .inr ⟨i,hli⟩))];exact h,λb z=>.inl (gsub b z)⟩;have kn:∀a,H a≠none->upd H l u a≠none:=λa z=>by
  by_cases e:a=l
  · subst e;rw[zT];simp
  · rw[zH e];exact z
 obtain⟨hnd1,hnd2,hnd3⟩:=zxD.mp hnd;have inT:∀j a,j≠i->a ∈ ad j->a ∈ fp'++fo->False:=λj a hj m m'=>by
  rcases zzK.mp (hsub a m')with z|z
  · exact hj (R.inj j i a m (by rw[hl];exact zzB _ z))
  · exact R.dis j a m z
 refine⟨⟨by rw[zzS];exact R.len,λj hj=>?_,λj=>?_,λj k a h1 h2=>?_,hnd2,λj a h1 h2=>?_,λa z=>kn a (R.ftr a z),λa z=>?_,λa z=>⟨kn a (R.gtr a (gsub a z)).1,(R.gtr a (gsub a z)).2⟩,λj s e=>?_⟩,g⟩
 · rw[zzS]at hj;rw[zV (by omega)];exact R.out j hj
 · by_cases e:j=i
   · subst e;rw[zO];exact zzU.mpr ⟨λm=>lsub l (zzN _ m) rfl,hnd1⟩
   · rw[zV e];exact R.nd j
 · by_cases e:j=i
   · subst e
     by_cases e':k=j
     · exact e'.symm
     · rw[zO]at h1;rw[zV e']at h2
       rcases zzA.mp h1 with z|z
       · subst z;exact R.inj j k a hli h2
       · exact(inT k a e' h2 (zzN _ z)).elim
   · rw[zV e]at h1
     by_cases e':k=i
     · subst e';rw[zO]at h2
       rcases zzA.mp h2 with z|z
       · subst z;exact R.inj j k a h1 hli
       · exact(inT j a e h1 (zzN _ z)).elim
     · rw[zV e']at h2;exact R.inj j k a h1 h2
 · by_cases e:j=i
   · subst e;rw[zO]at h1
     rcases zzA.mp h1 with z|z
     · subst z;exact lsub a (zzJ _ h2) rfl
     · exact hnd3 a z a h2 rfl
   · rw[zV e]at h1;exact inT j a e h1 (zzJ _ h2)
 · obtain⟨b1,b2,b3⟩:=R.btr a z;exact⟨kn a b1,b2,λy=>b3 (gsub a y)⟩
 · by_cases q:j=i
   · subst q;rw[zyI hi]at e;cases e;rw[zO];refine⟨_,hs,ro _ _ zT g λa m w h=>?_⟩;rw[zH (lsub a (zzN _ m))];exact h
   · rw[zzW (Ne.symm q)]at e;rw[zV q];refine(R.sl j s e).grow g λa m w h=>?_;rw[zH (λz=>q (R.inj j i l (by rw[<-z];exact m) hli))];exact h
abbrev MG:=List O->List O->Option (List O×O)
def xJ(i:Nat)(fr:DF)(g:MG):EF:=λas=>match as[i]? with
 |some (some (.nd .ls _))=>(fr as).bind λp=>match p.2[i]? with
  |some (some (.nd .ls os))=>(g os p.1).bind λz=>some (.ow z.2,p.2.set i (some (.nd .ls z.1)))
  |_=>none
 |_=>none
def MuD(X:Cx)(kd:KD)(r:V->List V->Hp->VK->Prop)(g:MG):Prop:=
 ∀(F B G:Addr->Prop) (l:Addr) (vs ws:List V) (os es os':List O) (o:O) (fp fq:List Addr) (H:Hp) (Q:VK),H l=some (.lst vs)->vZ X.K kd F B G H vs os fp->vZ X.K kd F B G H ws es fq->(fp++fq).Nodup->g os es=some (os',o)->
  (∀v vs' fp' fo,vZ X.K kd F B G H vs' os' fp'->RoS X.K kd F B G H v o fo->(∀a ∈ fp'++fo,a ∈ fp++fq)->(fp'++fo).Nodup->Q v (upd H l (.lst vs')))->r (.ref l) ws H Q
def zuz{i:Nat}{fr:DF}{g:MG}{r:V->List V->Hp->VK->Prop}(hr:MuD X kd r g)
 {σ:St}{H:Hp}{Q:VK}(h:al X.K kd (xJ i fr g) σ H Q):tBM X.K "list" r (Ws i) (alD X.K kd fr) σ H Q:=by
 obtain⟨F,B,ad,as,z,as',R,e,q⟩:=h;unfold xJ at e;cases k:as[i]? with
 |none=>rw[k]at e;cases e
 |some a0=>
  rw[k]at e
  match a0,e,k with
  |some (.nd .ls os0),e,k=>
   obtain⟨⟨es,as1⟩,h1,e⟩:=bS_ (show(fr as).bind _=_ from e);obtain⟨v0,hs0,ro0⟩:=R.sl i _ k;generalize hfp0:ad i=fp0 at ro0;cases ro0 with
   |ls hH0 rl0=>
   rename_i l vs0 fp00;refine⟨_,hs0,.inl ⟨rfl,_,.inl (.inl hH0)⟩,F,B,ad,as,es,as1,R,h1,λws T1 ad1 H1 R1 ro1 g1=>?_⟩;cases k2:as1[i]? with
   |none=>rw[k2]at e;cases e
   |some a2=>
    rw[k2]at e
    match a2,e,k2 with
    |some (.nd .ls os),e,k2=>
     obtain⟨⟨os',o⟩,h3,e⟩:=bS_ (show(g os es).bind _=_ from e);cases e;obtain⟨v1,hs1,ro2⟩:=R1.sl i _ k2;rw[hs0]at hs1;cases hs1;generalize hfp:ad1 i=fp1 at ro2;cases ro2 with
     |ls hH rl=>
     rename_i vs fp;have hnd:(fp++T1).Nodup:=zxD.mpr ⟨by have:=R1.nd i;rw[hfp]at this;exact(zzU.mp this).2,R1.tnd,λa m b m' e=>by
          subst e;exact R1.dis i a (by rw[hfp];exact zzB _ m) m'⟩
     refine hr F B (Gw T1 ad1) _ vs ws os es os' o fp T1 H1 Q hH rl ro1 hnd h3 λv vs' fp' fo rl' ro' hsub hnd'=>?_;obtain⟨R3,g3⟩:=R1.mut (n:=.nd .ls os') (u:=.lst vs') (zzE.mp k2).1 hfp hs0 hsub hnd' (by rw[hH];simp) λH' G' hl' gr kp=>.ls hl' (vZ.grow gr kp rl');have lno:∀a ∈ fo,∀w,H1 a=some w->upd H1 l (.lst vs') a=some w:=λa m w h=>by
          rw[zH (λe=>?_)]
          · exact h
          · subst e
            rcases zzK.mp (hsub _ (zzJ _ m))with z|z
            · have:=R1.nd i;rw[hfp]at this;exact(zzU.mp this).1 z
            · exact R1.dis i _ (by rw[hfp];exact zzD) z
     exact q v fo _ _ R3 (RoS.grow g3 lno ro') (g1.trans g3)
end
end PF
end
section
set_option exponentiation.threshold 5000
namespace PF
open PySem PySem.Spec PyProof.Rows L2
section
variable{K:zC}{kd:KD}{O:Addr->Prop}{H:Hp}{Q:VK}
def yu(q:RQ K kd O H Q (.im d))(r:Rp K kd O H v d):Q v H:=q v H (λ_ _ z=>z) r
def zkb(hp:H p=none)(r:RpL K kd O H vs ds):RpL K kd (Un2 O (· = p)) (upd H p o) vs ds:=
 RpL.grow (F:=O) (W:=λ_=>False) ⟨λb u q _=>by rw[zH (yf q hp)];exact q,λb z=>.inr (by rw[z];exact hp)⟩ (r.less λa z=>z.elim id False.elim)
def vL(hp:H p=none):∀b u,H b=some u->upd H p o b=some u:=λb u q=>by rw[zH (yf q hp)];exact q
def zbr(q:RQ K kd O H Q (.fl ds))(r:RpL K kd O H vs ds):∀p,H p=none->Q (.ref p) (upd H p (.lst vs)):=λp hp=>
 q p vs _ hp (vL hp) zT (zkb hp r)
def zdO(ht:∀a,O a->H a≠none)(q:RQ K kd O H Q (.im (.tup ds)))(r:RpL K kd O H vs ds):∀p,H p=none->Q (.ref p) (upd H p (.tup vs)):=λp hp=>
 q _ _ (vL hp) (.tup (λz=>ht p z hp) zT ((zkb hp r).less λa z=>.inl z))
end
def big:Nat:=2 ^ 4000
def zhH(h:i.natAbs<big):Builtin.Int.intBits i<=2 ^ 20:=by
 unfold Builtin.Int.intBits
 split
 · exact Nat.zero_le _
 · have:i.natAbs.log2<4000:=by
    rcases Nat.eq_zero_or_pos i.natAbs with h0|hp
    · rw[h0];decide
    · exact(Nat.log2_lt (Nat.ne_of_gt hp)).mpr h
   have e:(2:Nat) ^ 20=1048576:=by decide
   omega
def onI(f:Int->Int->Option R0)(x y:D):Option R0:=(asI x).bind λi=>(asI y).bind λj=>f i j
def zvL(x y:D):Option R0:=match x with
 | .int i=>(asI y).bind λj=>some (.im (.int (i+j)))
 | .str x=>(asS y).bind λy=>if x.length+y.length<=sizeLine then some (.im (.str (x++y)))else none
 | .lst xs=>(asL y).bind λys=>if xs.length+ys.length<=sizeLine then some (.fl (xs++ys))else none
 | .tup xs=>(asT y).bind λys=>if xs.length+ys.length<=sizeLine then some (.im (.tup (xs++ys)))else none
 |_=>none
def zvH(x y:D):Option R0:=match x with
 | .int i=>(asI y).bind λj=>if i.natAbs<big/\j.natAbs<big then some (.im (.int (i*j)))else none
 | .lst xs=>(asI y).bind λk=>if -(2 ^ 63)<=k/\k<2 ^ 63/\xs.length*k.toNat<=sizeLine then some (.fl (List.replicate k.toNat xs).flatten)else none
 | .tup xs=>(asI y).bind λk=>if 1<=k/\k<2 ^ 63/\xs.length≠0/\xs.length*k.toNat<=sizeLine then some (.im (.tup (List.replicate k.toNat xs).flatten))else none
 |_=>none
def zaf(o:Operator)(x y:D):Option R0:=match o with
 | .Add=>zvL x y
 | .Sub=>onI (λi j=>some (.im (.int (i-j)))) x y
 | .Mult=>zvH x y
 | .FloorDiv=>onI (λi j=>if 0<j/\j.natAbs<big then some (.im (.int (i/j)))else none) x y
 | .Mod=>onI (λi j=>if 0<j then some (.im (.int (i%j)))else none) x y
 | .Pow=>onI (λi j=>if 0<=j/\j<=1000000/\i.natAbs<2 ^ 64 then some (.im (.int (i ^ j.toNat)))else none) x y
 |_=>none
def Xo{K:zC}{kd:KD}{O:Addr->Prop}{H:Hp}{v:V}{d:D}{i:Int}(h:Vw K kd O H v d)(e:asI d=some i):d = .int i/\v = .int i:=by
 cases h with
 |int j=>cases e;exact⟨rfl,rfl⟩
 |_=>cases e
def zry{K:zC}{kd:KD}{O:Addr->Prop}{H:Hp}{v:V}{d:D}{i:Str}(h:Vw K kd O H v d)(e:asS d=some i):d = .str i/\v = .str i:=by
 cases h with
 |str j=>cases e;exact⟨rfl,rfl⟩
 |_=>cases e
def Xj{K:zC}{kd:KD}{O:Addr->Prop}{H:Hp}{v w:V}{d e:D}{f:Int->Int->Option R0}{r:R0}(vx:Vw K kd O H v d)(vy:Vw K kd O H w e)(h:onI f d e=some r):∃i j,v = .int i/\w = .int j/\f i j=some r:=by
 obtain⟨i,h1,h⟩:=bS_ (show(asI d).bind _=_ from h);obtain⟨j,h2,h⟩:=bS_ h;exact⟨i,j,(Xo vx h1).2,(Xo vy h2).2,h⟩
section
variable{X:Cx}{kd:KD}
def zqi:OpR X (binaryOp .Add) (λx y H Q=>∃l b xs zs,x = .ref l/\y = .ref b/\RdL X.K H l xs/\RdL X.K H b zs/\xs.length+zs.length<=sizeLine/\∀p,H p=none->Q (.ref p) (upd H p (.lst (xs++zs)))):=by
 intro pins s σ H x y v u Q I rx ry h;obtain⟨l,b,xs,zs,rfl,rfl,hH,hB,hz,q⟩:=h;cases rx;cases ry;obtain⟨z,its,n,r,e⟩:=zjG I hH;obtain⟨z2,its2,n2,r2,e2⟩:=zjG I hB;have hl:=r.length;have hl2:=r2.length;refine PySem.P.add_list e e2 ?_ (by rw[zzF,zzF];omega);have ea:its.toArray++its2.toArray=(its++its2).toArray:=by simp
 rw[ea];exact⟨.ref _,_,I.lnew (t':=s.toks) (r.append r2) (by rw[zzH];omega),rfl,q _ I.fresh⟩
def zps:OpR X (binaryOp .Mult) (λx y H Q=>∃l k xs,x = .ref l/\y = .int k/\RdL X.K H l xs /\ -(2 ^ 63)<=k/\k<2 ^ 63/\xs.length*k.toNat<=sizeLine/\
 ∀p,H p=none->Q (.ref p) (upd H p (.lst (List.replicate k.toNat xs).flatten))):=by
 intro pins s σ H x y v u Q I rx ry h;obtain⟨l,k,xs,rfl,rfl,hH,h1,h2,hz,q⟩:=h;cases rx;obtain⟨t,rfl⟩:=ry;obtain⟨z,its,n,r,e⟩:=zjG I hH;have hl:=r.length;have hlen:its.toArray.size*k.toNat<=sizeLine:=by rw[zzF,<-hl];exact hz
 have hcap:¬its.toArray.size*k.toNat > (2 ^ 63-1)/8:=by
  have:(sizeLine:Nat)<=(2 ^ 63-1)/8:=by decide
  omega
 have hfit:¬(!Builtin.List.listFitsIndex k)=true:=by
  rw[fitsIndex_both h1 h2];exact zyU
 have hlong:¬Builtin.List.listTooLong (its.toArray.size*k.toNat)=true:=by
  rw[zhO hlen];exact zyU
 have hnew:List.foldl (λx1 x2=>x1++x2) #[] (List.replicate (if its.toArray.isEmpty=true then 0 else k.toNat) its.toArray)=(List.replicate k.toNat its).flatten.toArray:=by
  have f0:∀m:Nat,List.foldl (λx1 x2=>x1++x2) #[] (List.replicate m its.toArray)=(List.replicate m its).flatten.toArray:=λm=>by
   have:=foldl_rep its m [];rw[List.nil_append]at this;exact this
  rw[f0];cases its with
  |nil=>simp
  |cons a r'=>rw[if_neg (by simp)]
 refine wpAny_binaryOp_repeat_ref (T:="list") (U:="int") (by decide) ⟨_,e,rfl⟩ (λs'=>typeIs_int s' k t) noFill_list_mul F.fills_int_mul F.slot_int_rmul repeat_list F.slot_int_index.lookup
  (call_meets F.slot_int_rmul (typeIs_int s k t) F.entry_int_rmul (F.args_int_rmul_2 _ _) (int___rmul___int_list k t l its.toArray n)
   ⟨e,rfl,⟨_,e,rfl⟩,call_meets F.slot_list_mul ⟨_,e,rfl⟩ F.entry_list_mul (F.args_list_mul_2 _ _) (AutoListH.list___mul___list_int_3 l its.toArray n k t hfit hcap hlong) ⟨e, ?_⟩⟩)
 rw[hnew];refine⟨.ref _,_,I.lnew (t':=s.toks) (r.rep k.toNat) ?_,rfl,q _ I.fresh⟩;rw[len_rep,Nat.mul_comm];exact hz
def tuple_addW0(l b:Addr)(items items2:Array Value)(n n2:Nat)(dd dd2:Option Addr)(sl sl2:Array (Option Value))(h0:items.isEmpty=true):
 Meets (Builtin.«tuple.__add__» {pos:=[.ref l,.ref b]}) (λ_ R s=>s.heap.get? l=some {cls:=.type "tuple",dict:=dd,data:=.seq items n,slots:=sl}/\s.heap.get? b=some {cls:=.type "tuple",dict:=dd2,data:=.seq items2 n2,slots:=sl2}/\R (.ok (.ret (.ref b))) s):=
 .of_wp λprog w A R s h=>by
  obtain⟨hp,g,d,tk,os⟩:=s;obtain⟨hl,hb,h⟩:=h;have f2:=AutoSeq1.sub_tuple_tuple
  wp_walk using wpAny_loadPart' hl,wpAny_loadPart' hb
  exact⟨_,rfl,h⟩
def ziw(l:Addr)(items:Array Value)(n:Nat)(dd:Option Addr)(sl:Array (Option Value))(u:Tok):
 Meets (Builtin.«tuple.__mul__» {pos:=[.ref l,.int 1 u]}) (λ_ R s=>s.heap.get? l=some {cls:=.type "tuple",dict:=dd,data:=.seq items n,slots:=sl}/\R (.ok (.ret (.ref l))) s):=
 .of_wp λprog w A R s h=>by
  obtain⟨hp,g,d,tk,os⟩:=s;obtain⟨hl,h⟩:=h;have f2:=AutoSeq1.sub_tuple_tuple
  wp_walk using wpAny_loadPart' hl
  exact⟨_,rfl,h⟩
def ziK(l:Addr)(items its2:Array Value)(n:Nat)(dd:Option Addr)(sl:Array (Option Value))(x:Int)(u:Tok)(c1:¬(decide (x < -2 ^ 63)||decide (x ≥ 2 ^ 63))=true)(c2:¬(items.isEmpty||x==1)=true)(c3:¬(decide (x<=0)||items.isEmpty)=true)
 (hcap:¬(items.size:Int)*x > (2 ^ 63-1)/8) (ht:¬Builtin.Tuple.tupleTooMany (items.size*x)=true) (hz:¬(List.foldl (λx1 x2=>x1++x2) #[] (List.replicate x.toNat items)).size > sizeLine):
 Meets (Builtin.«tuple.__mul__» {pos:=[.ref l,.int x u]}) (λ_ R s=>s.heap.get? l=some {cls:=.type "tuple",dict:=dd,data:=.seq items n,slots:=sl}/\R (.ok (.ret (.ref s.heap.objs.size))) {s with heap:=s.heap.push {cls:=.type "tuple",data:=.seq (List.foldl (λx1 x2=>x1++x2) #[] (List.replicate x.toNat items))}}):=
 .of_wp λprog w A R s h=>by
  obtain⟨hp,g,d,tk,os⟩:=s;obtain⟨hl,h⟩:=h;have f2:=AutoSeq1.sub_tuple_tuple
  wp_walk using wpAny_loadPart' hl
  rw[if_neg c1]
  wp_walk using wpAny_loadPart' hl
  rw[if_neg hcap]
  wp_walk
  exact⟨_,rfl,h⟩
def zbI:fillsNumberSlot (Value.type "tuple") "mul"=pure false:=PySem.fillsNumberSlot_seq rfl rfl rfl rfl
def zgg:seqRepeat? (Value.type "tuple")=pure (some (Value.builtin "tuple.__mul__")):=W.of_pureOf rfl
def zeO(a:Int)(t:Tok)(l:Addr)(items:Array Value)(n:Nat)(dd:Option Addr)(sl:Array (Option Value)):
 Meets (Builtin.«int.__rmul__» {pos:=[.int a t,.ref l]}) (λ_ R s=>s.heap.get? l=some {cls:=.type "tuple",dict:=dd,data:=.seq items n,slots:=sl}/\R (.ok (.ret .notImplemented)) s):=
 .of_wp λprog w A R s h=>by
  obtain⟨hp,g,d,tk,os⟩:=s;obtain⟨hl,h⟩:=h
  wp_walk using wpAny_load' hl,wpAny_loadPart' hl
  exact⟨_,rfl,h⟩
def zpY:OpR X (binaryOp .Add) (λx y H Q=>∃a b ys,x = .ref a/\y = .ref b/\SqT X.K H a []/\SqT X.K H b ys/\Q (.ref b) H):=by
 intro pins s σ H x y v u Q I rx ry h;obtain⟨a,b,ys,rfl,rfl,ha,hb,q⟩:=h;cases rx;cases ry;obtain⟨its,r1,p1,_⟩:=I.tuple ha;obtain⟨its2,r2,p2,_⟩:=I.tuple hb;cases r1;obtain⟨⟨cls,dd,data,sl⟩,ho,hc,n,hd⟩:=id p1;obtain⟨⟨cls2,dd2,data2,sl2⟩,ho2,hc2,n2,hd2⟩:=id p2;simp only at hc hd hc2 hd2;subst hc hd hc2 hd2;exact concat_meets ⟨_,ho,rfl⟩ ⟨_,ho2,rfl⟩ noFill_tuple_add seq_tuple_add PySem.F.slot_tuple_add PySem.F.entry_tuple_add (PySem.F.args_tuple_add_2 _ _) (tuple_addW0 a b _ _ n n2 dd dd2 sl sl2 rfl) ⟨ho,ho2,⟨.ref b,H,I,rfl,q⟩⟩
def zqL:OpR X (binaryOp .Mult) (λx y H Q=>∃l k xs,x = .ref l/\y = .int k/\SqT X.K H l xs/\xs≠[]/\1<=k/\k<2 ^ 63/\xs.length*k.toNat<=sizeLine/\(k=1->Q (.ref l) H)/\
 (2<=k->∀p,H p=none->Q (.ref p) (upd H p (.tup (List.replicate k.toNat xs).flatten)))):=by
 intro pins s σ H x y v u Q I rx ry h;obtain⟨l,k,xs,rfl,rfl,hH,hne,h1,h2,hz,q1,q2⟩:=h;cases rx;obtain⟨t,rfl⟩:=ry;obtain⟨its,r,p,_⟩:=I.tuple hH;have hl:=r.length;have hlen:its.toArray.size*k.toNat<=sizeLine:=by rw[zzF,<-hl];exact hz
 have hki:((its.toArray.size:Int)*k)=((its.toArray.size*k.toNat:Nat):Int):=by
  rw[zzT,zyX (by omega)]
 have he:its.toArray.isEmpty=false:=by
  cases its with
  |nil=>rw[List.length_nil]at hl;exact absurd (List.length_eq_zero_iff.mp hl) hne
  |cons a r'=>rfl
 have hnew:List.foldl (λx1 x2=>x1++x2) #[] (List.replicate k.toNat its.toArray)=(List.replicate k.toNat its).flatten.toArray:=by
  have:=foldl_rep its k.toNat [];rw[List.nil_append]at this;exact this
 obtain⟨⟨cls,dd,data,sl⟩,ho,hc,n,hd⟩:=id p;simp only at hc hd;subst hc hd;refine wpAny_binaryOp_repeat_ref (T:="tuple") (U:="int") (by decide) ⟨_,ho,rfl⟩ (λs'=>typeIs_int s' k t) zbI F.fills_int_mul F.slot_int_rmul zgg F.slot_int_index.lookup
  (call_meets F.slot_int_rmul (typeIs_int s k t) F.entry_int_rmul (F.args_int_rmul_2 _ _) (zeO k t l its.toArray n dd sl) ⟨ho,rfl,⟨_,ho,rfl⟩, ?_⟩)
 by_cases hk:k=1
 · subst hk;exact call_meets F.slot_tuple_mul ⟨_,ho,rfl⟩ F.entry_tuple_mul (F.args_tuple_mul_2 _ _) (ziw l its.toArray n dd sl t) ⟨ho,⟨.ref l,H,I,rfl,q1 rfl⟩⟩
 · have hfl:(List.replicate k.toNat xs).flatten.length<=sizeLine:=by rw[len_rep,Nat.mul_comm];exact hz
   refine call_meets F.slot_tuple_mul ⟨_,ho,rfl⟩ F.entry_tuple_mul (F.args_tuple_mul_2 _ _) (ziK l its.toArray #[] n dd sl k t (by simp;omega) (by rw[he];simpa using hk) (by rw[he];simp;omega) ?_ ?_ ?_) ⟨ho, ?_⟩
   · rw[hki];have:((sizeLine:Nat):Int)<=(2 ^ 63-1)/8:=by decide
     omega
   · unfold Builtin.Tuple.tupleTooMany;rw[hki];simp only[gt_iff_lt,decide_eq_true_eq];omega
   · rw[hnew,zzF,len_rep,Nat.mul_comm];rw[zzF]at hlen;omega
   · rw[hnew];refine⟨.ref s.heap.objs.size,_,I.laid (t':=s.toks) (o:=.tup (List.replicate k.toNat xs).flatten) (λb ob q=>zxG _ q) (zzL _) ?_,rfl,q2 (by omega) _ (I.hok.fresh (zzL _))⟩;exact⟨hfl,_,r.rep k.toNat,IsTup.new _ _⟩
def zrT(op:Operator):OpD X kd (binaryOp op) (zaf op):=by
 intro pins s σ H x y v u Q I rx ry h;obtain⟨O,d,e,r,ht,vx,vy,he,q⟩:=h;cases op with
 |Add=>
  cases vx with
  |int i=>
   obtain⟨j,h1,he⟩:=bS_ (show(asI e).bind _=_ from he);obtain⟨rfl,rfl⟩:=Xo vy h1;cases he;exact zrD pins s σ H _ _ v u Q I rx ry ⟨_,_,rfl,rfl,yu q (.int _)⟩
  |str i=>
   obtain⟨j,h1,he⟩:=bS_ (show(asS e).bind _=_ from he);obtain⟨rfl,rfl⟩:=zry vy h1;obtain⟨c,rfl⟩:=zQ he;exact zjR pins s σ H _ _ v u Q I rx ry ⟨_,_,rfl,rfl,c,yu q (.str _)⟩
  |lst hx rx'=>
   obtain⟨j,h1,he⟩:=bS_ (show(asL e).bind _=_ from he);cases zad h1;obtain⟨c,rfl⟩:=zQ he;cases vy with
   |lst hy ry'=>exact zqi pins s σ H _ _ v u Q I rx ry ⟨_,_,_,_,rfl,rfl,hx,hy,by rw[rx'.length,ry'.length];exact c,zbr q (rx'.append ry')⟩
  | @tup a1 vs1 ds1 r1 hx rx'=>
   obtain⟨j,h1,he⟩:=bS_ (show(asT e).bind _=_ from he);cases ztF h1;obtain⟨c,rfl⟩:=zQ he;cases vy with
   |tup r2 hy ry'=>
    by_cases h0:vs1=([]:List V)
    · subst h0;cases rx';exact zpY pins s σ H _ _ v u Q I rx ry ⟨_,_,_,rfl,rfl,hx,hy,yu q r2⟩
    refine zqN pins s σ H _ _ v u Q I rx ry ⟨_,_,_,_,rfl,rfl,hx,hy,h0,by rw[rx'.length,ry'.length];exact c,λhn=>?_,λhn=>zdO ht q (rx'.append ry')⟩
    · subst hn;cases ry';rw[zyC]at q;exact yu q r1
  |_=>cases he
 |Sub=>
  obtain⟨i,j,rfl,rfl,he⟩:=Xj vx vy he;cases he;exact zsh pins s σ H _ _ v u Q I rx ry ⟨_,_,rfl,rfl,yu q (.int _)⟩
 |Mult=>
  cases vx with
  |int i=>
   obtain⟨j,h1,he⟩:=bS_ (show(asI e).bind _=_ from he);obtain⟨rfl,rfl⟩:=Xo vy h1;obtain⟨c,rfl⟩:=zQ he;obtain⟨t,rfl⟩:=rx;obtain⟨t',rfl⟩:=ry;exact mul_int ⟨.int _,H,I.tok _,⟨_,rfl⟩,yu q (.int _)⟩ (IntMulOk.of_bits (zhH c.1) (zhH c.2))
  |lst hx rx'=>
   obtain⟨j,h1,he⟩:=bS_ (show(asI e).bind _=_ from he);obtain⟨rfl,rfl⟩:=Xo vy h1;obtain⟨c,rfl⟩:=zQ he;exact zps pins s σ H _ _ v u Q I rx ry ⟨_,_,_,rfl,rfl,hx,c.1,c.2.1,by rw[rx'.length];exact c.2.2,zbr q (rx'.rep _)⟩
  |tup r1 hx rx'=>
   obtain⟨j,h1,he⟩:=bS_ (show(asI e).bind _=_ from he);obtain⟨rfl,rfl⟩:=Xo vy h1;obtain⟨c,rfl⟩:=zQ he;refine zqL pins s σ H _ _ v u Q I rx ry ⟨_,_,_,rfl,rfl,hx,λe=>?_,c.1,c.2.1,by rw[rx'.length];exact c.2.2.2,λe=>?_,λ_=>zdO ht q (rx'.rep _)⟩
   · have:=rx'.length;rw[e]at this;exact c.2.2.1 this.symm
   · subst e;refine yu q ?_;rw[show(1:Int).toNat=1 from rfl,List.replicate_one,List.flatten_cons,List.flatten_nil,zyC];exact r1
  |_=>cases he
 |FloorDiv=>
  obtain⟨i,j,rfl,rfl,he⟩:=Xj vx vy he;obtain⟨c,rfl⟩:=zQ he;obtain⟨t,rfl⟩:=rx;obtain⟨t',rfl⟩:=ry;refine floordiv_int (by omega) ?_ (.inl (PyProof.noPylong_of_log2 ?_))
  · rw[Int.fdiv_eq_ediv_of_nonneg _ (by omega)];exact⟨.int _,H,I.tok _,⟨_,rfl⟩,yu q (.int _)⟩
  · exact zzI ((Nat.log2_lt (by have:=c.1;omega)).mpr (show _<2 ^ 4000 from c.2)) (by decide)
 |Mod=>
  obtain⟨i,j,rfl,rfl,he⟩:=Xj vx vy he;obtain⟨c,rfl⟩:=zQ he;exact zpd pins s σ H _ _ v u Q I rx ry ⟨_,_,rfl,rfl,c,yu q (.int _)⟩
 |Pow=>
  obtain⟨i,j,rfl,rfl,he⟩:=Xj vx vy he;obtain⟨c,rfl⟩:=zQ he;exact zru pins s σ H _ _ v u Q I rx ry ⟨_,_,rfl,rfl,c,yu q (.int _)⟩
 |_=>cases he
end
def eqL(f:D->D->Option Bool):List D->List D->Option Bool
 | [],[]=>some true
 |x::r,y::t=>(f x y).bind λb=>(eqL f r t).bind λc=>some (b&&c)
 |_,_=>some false
def eqF:Nat->D->D->Option Bool
 |0,_,_=>none
 |_+1,.non,.non=>some true
 |_+1,.bl a,.bl b=>some (a==b)
 |_+1,.int a,.int b=>some (a==b)
 |_+1,.str a,.str b=>some (a==b)
 |_+1,.bl a,.int b=>some ((if a then 1 else 0)==b)
 |_+1,.int a,.bl b=>some (a==(if b then 1 else 0))
 |n+1,.lst xs,.lst ys=>eqL (eqF n) xs ys
 |n+1,.tup xs,.tup ys=>eqL (eqF n) xs ys
 |_+1,.dct _,_=>none
 |_+1,.cl _,_=>none
 |_+1,.ob _ _ _,_=>none
 |_+1,.dt _ _,_=>none
 |_+1,.er _ _ _,_=>none
 |_+1,_,.dct _=>none
 |_+1,_,.cl _=>none
 |_+1,_,.ob _ _ _=>none
 |_+1,_,.dt _ _=>none
 |_+1,_,.er _ _ _=>none
 |_+1,_,_=>some false
def eqJ(f:D->D->Option Bool)(xs ys:List D)(j:Nat):Bool:=match xs[j]?,ys[j]? with
 |some d,some e=>(f d e).getD false
 |_,_=>false
theorem zeV:∀{xs ys:List D}{b:Bool},eqL f xs ys=some b->(∀(j:Nat) d e,xs[j]? = some d->ys[j]? = some e->∃c,f d e=some c)/\
 b=((List.range (min xs.length ys.length)).all (eqJ f xs ys)&&xs.length==ys.length)
 | [],[],b,h=>by cases h;exact⟨λj d e h=>by simp at h,by simp⟩
 | [],y::t,b,h=>by cases h;exact⟨λj d e h=>by simp at h,by simp⟩
 |x::r,[],b,h=>by cases h;exact⟨λj d e _ h=>by simp at h,by simp⟩
 |x::r,y::t,b,h=>by
  obtain⟨b1,h1,h⟩:=bS_ (show(f x y).bind _=_ from h);obtain⟨c1,h2,h⟩:=bS_ h;cases h;obtain⟨k1,k2⟩:=zeV h2;refine⟨λj d e hd he=>?_, ?_⟩
  · cases j with
    |zero=>simp at hd he;subst hd he;exact⟨b1,h1⟩
    |succ j=>exact k1 j d e (by simpa using hd) (by simpa using he)
  · have e0:min (x::r).length (y::t).length=min r.length t.length+1:=by simp only[zzR];omega
    rw[e0,List.range_succ_eq_map,List.all_cons,List.all_map,k2];have e1:eqJ f (x::r) (y::t) 0=b1:=by show(f x y).getD false=b1;rw[h1];rfl
    have e2:(eqJ f (x::r) (y::t)∘Nat.succ)=eqJ f r t:=by
     funext j;show eqJ f (x::r) (y::t) (j+1)=_;unfold eqJ;simp
    have e3:((x::r).length==(y::t).length)=(r.length==t.length):=by
     by_cases hh:r.length=t.length<;>simp[hh]
    rw[e1,e2,e3,Bool.and_assoc]
structure EqAll(A:Around)(s:Shared)(u v:Value)(b:Bool):Prop where
 rc:SeqAt.RcAt A s u v b
 ne:SeqAt.RcNeAt A s u v (!b)
 eq:SeqAt.EqAt A s u v b
section
variable{X:Cx}{kd:KD}{pins:List (Addr×Obj)}{σ:St}{H:Hp}{s:Shared}{O:Addr->Prop}
def zla(I:Inv X pins σ H s)(h:SqT X.K H a xs)(h':SqL X.K H a ys):False:=by
 obtain⟨_,_,⟨o,e,c,_⟩,_⟩:=I.tuple h;obtain⟨_,_,⟨o',n,e',c',_⟩,_⟩:=I.list h';rw[e]at e';cases e';rw[c]at c';exact absurd c' (by decide)
theorem zkY(I:Inv X pins σ H s):∀(n:Nat) (v:V) (d e:D) (b:Bool),Vw X.K kd O H v d->Vw X.K kd O H v e->eqF n d e=some b->b=true
 |0,_,_,_,_,_,_,h=>by cases h
 |n+1,v,d,e,b,h1,h2,h=>by
  have lst:∀(vs:List V) (ds es:List D) (b:Bool),RpL X.K kd O H vs ds->RpL X.K kd O H vs es->eqL (eqF n) ds es=some b->b=true:=by
   intro vs
   induction vs with
   |nil=>intro ds es b r1 r2 h;cases r1;cases r2;cases h;rfl
   |cons v vs ih=>
    intro ds es b r1 r2 h;cases r1 with
    |cons a1 r1=>
     cases r2 with
     |cons a2 r2=>
      obtain⟨b1,k1,h⟩:=bS_ (show(eqF n _ _).bind _=_ from h);obtain⟨c1,k2,h⟩:=bS_ h;cases h;rw[zkY I n _ _ _ _ a1.vw a2.vw k1,ih _ _ _ r1 r2 k2];rfl
  cases h1 with
  |non=>cases h2;cases h;rfl
  |bl x=>cases h2;cases h;simp
  |int x=>cases h2;cases h;simp
  |str x=>cases h2;cases h;simp
  |tup r1 s1 l1=>
   cases h2 with
   |tup r2 s2 l2=>
    have:=I.tuple_inj s1 s2;subst this;exact lst _ _ _ _ l1 l2 h
   |lst s2 l2=>exact(zla I s1 s2.sq).elim
   |_=>cases h
  |lst s1 l1=>
   cases h2 with
   |tup r2 s2 l2=>exact(zla I s2 s1.sq).elim
   |lst s2 l2=>
    have:=I.list_inj s1.sq s2.sq;subst this;exact lst _ _ _ _ l1 l2 h
   |_=>cases h
  |_=>cases h
theorem zhw(I:Inv X pins σ H s):∀(n:Nat) (A:Around) (x y:V) (d e:D) (u v:Value) (b:Bool),A.units+n<cLine->Vw X.K kd O H x d->Vw X.K kd O H y e->RelV x u->RelV y v->eqF n d e=some b->EqAll A s u v b
 |0,_,_,_,_,_,_,_,_,_,_,_,_,_,h=>by cases h
 |n+1,A,x,y,d,e,u,v,b,hu,h1,h2,r1,r2,h=>by
  have hu0:A.units<cLine:=by omega
  have itm:∀{vs ws:List V}{its its2:List Value}{ds es:List D},RpL X.K kd O H vs ds->RpL X.K kd O H ws es->Vals vs its->Vals ws its2->(∀(j:Nat) d e,ds[j]? = some d->es[j]? = some e->∃c,eqF n d e=some c)->
   ∀j (h1:j<its.toArray.size) (h2:j<its2.toArray.size),SeqAt.EqAt A.in1 s its.toArray[j] its2.toArray[j] (eqJ (eqF n) ds es j):=by
   intro vs ws its its2 ds es l1 l2 v1 v2 hd j j1 j2;have q1:j<ds.length:=by rw[<-l1.length,v1.length];simpa using j1
   have q2:j<es.length:=by rw[<-l2.length,v2.length];simpa using j2
   obtain⟨a1,ha1,ra1⟩:=l1.get (zzC q1);obtain⟨a2,ha2,ra2⟩:=l2.get (zzC q2);obtain⟨u1,hu1,ru1⟩:=v1.get ha1;obtain⟨u2,hu2,ru2⟩:=v2.get ha2;obtain⟨c,hc⟩:=hd j _ _ (zzC q1) (zzC q2);have e1:its.toArray[j]=u1:=by
    have:=(zzE.mp hu1).2;simpa using this
   have e2:its2.toArray[j]=u2:=by
    have:=(zzE.mp hu2).2;simpa using this
   rw[e1,e2];have e3:eqJ (eqF n) ds es j=c:=by
    unfold eqJ;rw[zzC q1,zzC q2];show(eqF n _ _).getD false=c;rw[hc];rfl
   rw[e3];exact(zhw I n A.in1 a1 a2 _ _ u1 u2 c (by show A.units+1+n<cLine;omega) ra1.vw ra2.vw ru1 ru2 hc).eq
  have same:∀{a a':Addr},x = .ref a->y = .ref a'->a=a'->b=true:=by
   intro a a' e1 e2 e3;subst e1 e2 e3;exact zkY I (n+1) _ _ _ _ h1 h2 h
  cases h1 with
  |non=>
   cases r1;cases h2 with
   |non=>cases r2;cases h;exact⟨SeqAt.RcAt.none_none,SeqAt.RcNeAt.none_none,SeqAt.EqAt.same _⟩
   |bl=>cases r2;cases h;exact⟨SeqAt.RcAt.none_bool _,SeqAt.RcNeAt.none_bool _,SeqAt.EqAt.none_bool _⟩
   |int=>obtain⟨t,rfl⟩:=r2;cases h;exact⟨SeqAt.RcAt.none_int _ _,SeqAt.RcNeAt.none_int _ _,SeqAt.EqAt.none_int _ _⟩
   |str=>obtain⟨t,rfl⟩:=r2;cases h;exact⟨SeqAt.RcAt.none_str _ _,SeqAt.RcNeAt.none_str _ _,SeqAt.EqAt.none_str _ _⟩
   |tup r s2 l2=>
    cases r2;cases h;obtain⟨its,rv,p,_⟩:=I.tuple s2;exact⟨SeqAt.RcAt.none_tuple p hu0,SeqAt.RcNeAt.none_tuple p hu0,SeqAt.EqAt.none_tuple p hu0⟩
   |lst s2 l2=>
    cases r2;cases h;obtain⟨its,rv,p,_⟩:=I.list s2.sq;exact⟨SeqAt.RcAt.none_list p.isList hu0,SeqAt.RcNeAt.none_list p.isList hu0,SeqAt.EqAt.none_list p.isList hu0⟩
   |_=>cases h
  |bl c=>
   cases r1;cases h2 with
   |non=>cases r2;cases h;exact⟨SeqAt.RcAt.bool_none _,SeqAt.RcNeAt.bool_none _,SeqAt.EqAt.bool_none _⟩
   |bl=>cases r2;cases h;exact⟨SeqAt.RcAt.bool_bool _ _,SeqAt.RcNeAt.bool_bool _ _,SeqAt.EqAt.bool_bool _ _⟩
   |int=>obtain⟨t,rfl⟩:=r2;cases h;exact⟨SeqAt.RcAt.bool_int _ _ _,SeqAt.RcNeAt.bool_int _ _ _,SeqAt.EqAt.bool_int _ _ _⟩
   |str=>obtain⟨t,rfl⟩:=r2;cases h;exact⟨SeqAt.RcAt.bool_str _ _ _,SeqAt.RcNeAt.bool_str _ _ _,SeqAt.EqAt.bool_str _ _ _⟩
   |tup r s2 l2=>
    cases r2;cases h;obtain⟨its,rv,p,_⟩:=I.tuple s2;exact⟨SeqAt.RcAt.bool_tuple _ p hu0,SeqAt.RcNeAt.bool_tuple _ p hu0,SeqAt.EqAt.bool_tuple _ p hu0⟩
   |lst s2 l2=>
    cases r2;cases h;obtain⟨its,rv,p,_⟩:=I.list s2.sq;exact⟨SeqAt.RcAt.bool_list _ p.isList hu0,SeqAt.RcNeAt.bool_list _ p.isList hu0,SeqAt.EqAt.bool_list _ p.isList hu0⟩
   |_=>cases h
  |int c=>
   obtain⟨t0,rfl⟩:=r1;cases h2 with
   |non=>cases r2;cases h;exact⟨SeqAt.RcAt.int_none _ _,SeqAt.RcNeAt.int_none _ _,SeqAt.EqAt.int_none _ _⟩
   |bl=>cases r2;cases h;exact⟨SeqAt.RcAt.int_bool _ _ _,SeqAt.RcNeAt.int_bool _ _ _,SeqAt.EqAt.int_bool _ _ _⟩
   |int=>obtain⟨t,rfl⟩:=r2;cases h;exact⟨SeqAt.RcAt.int_int _ _ _ _,SeqAt.RcNeAt.int_int _ _ _ _,SeqAt.EqAt.int_int _ _ _ _⟩
   |str=>obtain⟨t,rfl⟩:=r2;cases h;exact⟨SeqAt.RcAt.int_str _ _ _ _,SeqAt.RcNeAt.int_str _ _ _ _,SeqAt.EqAt.int_str _ _ _ _⟩
   |tup r s2 l2=>
    cases r2;cases h;obtain⟨its,rv,p,_⟩:=I.tuple s2;exact⟨SeqAt.RcAt.int_tuple _ _ p hu0,SeqAt.RcNeAt.int_tuple _ _ p hu0,SeqAt.EqAt.int_tuple _ _ p hu0⟩
   |lst s2 l2=>
    cases r2;cases h;obtain⟨its,rv,p,_⟩:=I.list s2.sq;exact⟨SeqAt.RcAt.int_list _ _ p.isList hu0,SeqAt.RcNeAt.int_list _ _ p.isList hu0,SeqAt.EqAt.int_list _ _ p.isList hu0⟩
   |_=>cases h
  |str c=>
   obtain⟨t0,rfl⟩:=r1;cases h2 with
   |non=>cases r2;cases h;exact⟨SeqAt.RcAt.str_none _ _,SeqAt.RcNeAt.str_none _ _,SeqAt.EqAt.str_none _ _⟩
   |bl=>cases r2;cases h;exact⟨SeqAt.RcAt.str_bool _ _ _,SeqAt.RcNeAt.str_bool _ _ _,SeqAt.EqAt.str_bool _ _ _⟩
   |int=>obtain⟨t,rfl⟩:=r2;cases h;exact⟨SeqAt.RcAt.str_int _ _ _ _,SeqAt.RcNeAt.str_int _ _ _ _,SeqAt.EqAt.str_int _ _ _ _⟩
   |str=>obtain⟨t,rfl⟩:=r2;cases h;exact⟨SeqAt.RcAt.str_str _ _ _ _,SeqAt.RcNeAt.str_str _ _ _ _,SeqAt.EqAt.str_str _ _ _ _⟩
   |tup r s2 l2=>
    cases r2;cases h;obtain⟨its,rv,p,_⟩:=I.tuple s2;exact⟨SeqAt.RcAt.str_tuple _ _ p hu0,SeqAt.RcNeAt.str_tuple _ _ p hu0,SeqAt.EqAt.str_tuple _ _ p hu0⟩
   |lst s2 l2=>
    cases r2;cases h;obtain⟨its,rv,p,_⟩:=I.list s2.sq;exact⟨SeqAt.RcAt.str_list _ _ p.isList hu0,SeqAt.RcNeAt.str_list _ _ p.isList hu0,SeqAt.EqAt.str_list _ _ p.isList hu0⟩
   |_=>cases h
  | @tup a1 vs1 ds1 r s1 l1=>
   cases r1;obtain⟨its1,rv1,p1,_⟩:=I.tuple s1;cases h2 with
   |non=>cases r2;cases h;exact⟨SeqAt.RcAt.tuple_none p1 hu0,SeqAt.RcNeAt.tuple_none p1 hu0,SeqAt.EqAt.tuple_none p1 hu0⟩
   |bl=>cases r2;cases h;exact⟨SeqAt.RcAt.tuple_bool _ p1 hu0,SeqAt.RcNeAt.tuple_bool _ p1 hu0,SeqAt.EqAt.tuple_bool _ p1 hu0⟩
   |int=>obtain⟨t,rfl⟩:=r2;cases h;exact⟨SeqAt.RcAt.tuple_int _ _ p1 hu0,SeqAt.RcNeAt.tuple_int _ _ p1 hu0,SeqAt.EqAt.tuple_int _ _ p1 hu0⟩
   |str=>obtain⟨t,rfl⟩:=r2;cases h;exact⟨SeqAt.RcAt.tuple_str _ _ p1 hu0,SeqAt.RcNeAt.tuple_str _ _ p1 hu0,SeqAt.EqAt.tuple_str _ _ p1 hu0⟩
   | @tup a2 vs2 ds2 r' s2 l2=>
    cases r2;obtain⟨its2,rv2,p2,_⟩:=I.tuple s2;obtain⟨k1,k2⟩:=zeV h;have he:=itm l1 l2 rv1 rv2 k1;have eb:((List.range (min its1.toArray.size its2.toArray.size)).all (eqJ (eqF n) ds1 ds2)&&its1.toArray.size==its2.toArray.size)=b:=by
     rw[k2,zzF,zzF,<-rv1.length,<-rv2.length,l1.length,l2.length]
    have b1:=SeqAt.RcAt.tuples p1 p2 hu0 he;have b2:=SeqAt.RcNeAt.tuples p1 p2 hu0 he;rw[eb]at b1 b2;refine⟨b1,b2, ?_⟩
    by_cases ha:a1=a2
    · have hb:=same rfl rfl ha;subst ha;rw[hb];exact SeqAt.EqAt.same _
    · exact SeqAt.EqAt.of_refs ha b1
   |lst s2 l2=>
    cases r2;cases h;obtain⟨its,rv,p,_⟩:=I.list s2.sq;exact⟨SeqAt.RcAt.tuple_list p1 p.isList hu0,SeqAt.RcNeAt.tuple_list p1 p.isList hu0,SeqAt.EqAt.tuple_list p1 p.isList hu0⟩
   |_=>cases h
  | @lst a1 vs1 ds1 s1 l1=>
   cases r1;obtain⟨its1,rv1,p1,_⟩:=I.list s1.sq;cases h2 with
   |non=>cases r2;cases h;exact⟨SeqAt.RcAt.list_none p1.isList hu0,SeqAt.RcNeAt.list_none p1.isList hu0,SeqAt.EqAt.list_none p1.isList hu0⟩
   |bl=>cases r2;cases h;exact⟨SeqAt.RcAt.list_bool _ p1.isList hu0,SeqAt.RcNeAt.list_bool _ p1.isList hu0,SeqAt.EqAt.list_bool _ p1.isList hu0⟩
   |int=>obtain⟨t,rfl⟩:=r2;cases h;exact⟨SeqAt.RcAt.list_int _ _ p1.isList hu0,SeqAt.RcNeAt.list_int _ _ p1.isList hu0,SeqAt.EqAt.list_int _ _ p1.isList hu0⟩
   |str=>obtain⟨t,rfl⟩:=r2;cases h;exact⟨SeqAt.RcAt.list_str _ _ p1.isList hu0,SeqAt.RcNeAt.list_str _ _ p1.isList hu0,SeqAt.EqAt.list_str _ _ p1.isList hu0⟩
   |tup r' s2 l2=>
    cases r2;cases h;obtain⟨its2,rv2,p2,_⟩:=I.tuple s2;exact⟨SeqAt.RcAt.list_tuple p1.isList p2 hu0,SeqAt.RcNeAt.list_tuple p1.isList p2 hu0,SeqAt.EqAt.list_tuple p1.isList p2 hu0⟩
   | @lst a2 vs2 ds2 s2 l2=>
    cases r2;obtain⟨its2,rv2,p2,_⟩:=I.list s2.sq;obtain⟨k1,k2⟩:=zeV h;have he:=itm l1 l2 rv1 rv2 k1;have ez1:its1.toArray.size=_:=zzF.trans (rv1.length.symm.trans l1.length);have ez2:its2.toArray.size=_:=zzF.trans (rv2.length.symm.trans l2.length);have both:SeqAt.RcAt A s (.ref a1) (.ref a2) b/\SeqAt.RcNeAt A s (.ref a1) (.ref a2) (!b):=by
     by_cases hz:its1.toArray.size=its2.toArray.size
     · have b1:=SeqAt.RcAt.lists p1.isList p2.isList hz hu0 he;have b2:=SeqAt.RcNeAt.lists p1.isList p2.isList hz hu0 he;have eb:(List.range its1.toArray.size).all (eqJ (eqF n) ds1 ds2)=b:=by
        rw[k2,<-ez1,<-ez2,<-hz,Nat.min_self];simp
       rw[eb]at b1 b2;exact⟨b1,b2⟩
     · have hz':(its1.toArray.size != its2.toArray.size)=true:=by simpa using hz
       have eb:b=false:=by
        rw[k2,<-ez1,<-ez2];have:(its1.toArray.size==its2.toArray.size)=false:=by simpa using hz
        rw[this,Bool.and_false]
       rw[eb];exact⟨SeqAt.RcAt.lists_lengths p1.isList p2.isList hz' hu0,SeqAt.RcNeAt.lists_lengths p1.isList p2.isList hz' hu0⟩
    refine⟨both.1,both.2, ?_⟩
    by_cases ha:a1=a2
    · have hb:=same rfl rfl ha;subst ha;rw[hb];exact SeqAt.EqAt.same _
    · exact SeqAt.EqAt.of_refs ha both.1
   |_=>cases h
  |_=>cases h
end
structure DkAt(P:Program)(w:World)(h:Heap)(a:Addr)(kvs:List (Key×V)):Prop where
 le:kvs.length<=sizeLine
 ns:(a==sysModules)=false
 ex:∃vs,KV kvs vs/\h.DictOf (xu P w) a vs
structure KdOk(X:Cx)(kd:KD):Prop where
 inj:∀a k k',kd a k->kd a k'->k=k'
 inK:∀a k,kd a k->∃o,X.K.lookup a=some o
 at_:∀a k h,kd a k->X.K.In h->DkAt X.prog X.w h a k
section
variable{X:Cx}{kd:KD}{pins:List (Addr×Obj)}{σ:St}{H:Hp}{s:Shared}{O:Addr->Prop}
def zhM(I:Inv X pins σ H s)(hk:KdOk X kd)(h:Rd H a (.dK kvs)\/kd a kvs):DkAt X.prog X.w s.heap a kvs:=by
 rcases h with h|h
 · obtain⟨z,hd,vs,rel,dd⟩:=zkv I.hok h;exact⟨z,hd,vs,rel,dd⟩
 · exact hk.at_ _ _ _ h I.kIn
theorem znG(I:Inv X pins σ H s):∀(n:Nat) (v:V) (d e x:D) (b c:Bool),Vw X.K kd O H v d->Vw X.K kd O H v e->eqF n d x=some b->eqF n e x=some c->b=c
 |0,_,_,_,_,_,_,_,_,h,_=>by cases h
 |n+1,v,d,e,x,b,c,h1,h2,h,h'=>by
  have lst:∀(vs:List V) (ds es xs:List D) (b c:Bool),RpL X.K kd O H vs ds->RpL X.K kd O H vs es->eqL (eqF n) ds xs=some b->eqL (eqF n) es xs=some c->b=c:=by
   intro vs
   induction vs with
   |nil=>intro ds es xs b c r1 r2 h h';cases r1;cases r2;exact zzX (h.symm.trans h')
   |cons v vs ih=>
    intro ds es xs b c r1 r2 h h';cases r1 with
    |cons a1 r1=>
     cases r2 with
     |cons a2 r2=>
      cases xs with
      |nil=>cases h;cases h';rfl
      |cons x xs=>
       obtain⟨b1,k1,h⟩:=bS_ (show(eqF n _ _).bind _=_ from h);obtain⟨c1,k2,h⟩:=bS_ h;obtain⟨b2,k3,h'⟩:=bS_ (show(eqF n _ _).bind _=_ from h');obtain⟨c2,k4,h'⟩:=bS_ h';cases h;cases h';rw[znG I n _ _ _ _ _ _ a1.vw a2.vw k1 k3,ih _ _ _ _ _ r1 r2 k2 k4]
  cases h1 with
  |tup r1 s1 l1=>
   cases h2 with
   |tup r2 s2 l2=>
    have:=I.tuple_inj s1 s2;subst this;cases x with
    |tup xs=>exact lst _ _ _ _ _ _ l1 l2 h h'
    |_=>exact zzX (h.symm.trans h')
   |lst s2 l2=>exact(zla I s1 s2.sq).elim
   |_=>cases h'
  |lst s1 l1=>
   cases h2 with
   |tup r2 s2 l2=>exact(zla I s2 s1.sq).elim
   |lst s2 l2=>
    have:=I.list_inj s1.sq s2.sq;subst this;cases x with
    |lst xs=>exact lst _ _ _ _ _ _ l1 l2 h h'
    |_=>exact zzX (h.symm.trans h')
   |_=>cases h'
  |dct s1 l1=>cases h
  |cl=>cases h
  |ob=>cases h
  |dt=>cases h
  |er=>cases h
  |_=>cases h2;exact zzX (h.symm.trans h')
end
def zms:D->Option Key
 | .int i=>some (.inl i)
 | .str x=>some (.inr x)
 |_=>none
def zgs(kvs:List (Key×D))(k:Key):Option D:=(kvs.find? λkv=>decide (kv.1=k)).map (·.2)
def zhz{K:zC}{kd:KD}{O:Addr->Prop}{H:Hp}(k:Key){vs:List (Key×V)}{ds:List (Key×D)}(h:RpM K kd O H vs ds):(∃v d,vP vs k=some v/\zgs ds k=some d/\Rp K kd O H v d)\/(vP vs k=none/\zgs ds k=none):=
 RpM.ind (P:=λvs ds=>(∃v d,vP vs k=some v/\zgs ds k=some d/\Rp K kd O H v d)\/(vP vs k=none/\zgs ds k=none)) (.inr ⟨rfl,rfl⟩) (λ{k' v d vs ds} a _ ih=>by
  by_cases e:k'=k
  · left;refine⟨_,_, ?_, ?_,a⟩
    · unfold vP;simp[e]
    · unfold zgs;simp[e]
  · rcases ih with⟨v,d,h1,h2,h3⟩|⟨h1,h2⟩
    · left;refine⟨v,d, ?_, ?_,h3⟩
      · unfold vP at h1 ⊢;simpa[e]using h1
      · unfold zgs at h2 ⊢;simpa[e]using h2
    · right;refine⟨?_, ?_⟩
      · unfold vP at h1 ⊢;simpa[e]using h1
      · unfold zgs at h2 ⊢;simpa[e]using h2) h
def keyB:D->Option Key
 | .bl b=>some (.inl (if b=true then 1 else 0))
 |d=>zms d
def zco:List D->Option (List Key)
 | []=>some []
 |d::r=>(keyB d).bind λk=>(zco r).bind λks=>some (k::ks)
def zbs:D->Option (List Key)
 | .tup ds=>zco ds
 |_=>none
def zdZ(ks:List (List Key))(ds:List D)(k:List Key):Option D:=((ks.zip ds).find? λkv=>decide (kv.1=k)).map (·.2)
def zop{K:zC}{kd:KD}{O:Addr->Prop}{H:Hp}{vs:List V}{ds:List D}(h:RpL K kd O H vs ds):∀{k:List Key},zco ds=some k->vs.map kO=k.map some:=
 RpL.ind (P:=λvs ds=>∀{k:List Key},zco ds=some k->vs.map kO=k.map some) (λe=>by cases e;rfl) (λ{v d vs ds} a _ ih k e=>by
  obtain⟨k1,h1,e⟩:=bS_ (show(keyB d).bind _=_ from e);obtain⟨k2,h2,e⟩:=bS_ e;cases e;have hv:kO v=some k1:=by
   cases a with
   |int i=>cases h1;rfl
   |str i=>cases h1;rfl
   |bl b=>cases h1;rfl
   |_=>cases h1
  rw[zyQ,zyQ,hv,ih h2]) h
def zdq{K:zC}{kd:KD}{O:Addr->Prop}{H:Hp}{v:V}{d:D}{k:List Key}(h:Vw K kd O H v d)(e:zbs d=some k):∃b,v = .ref b/\KC H b k:=by
 cases h with
 |tup rp hs rl=>
  cases rp with
  |tup n h r=>exact⟨_,rfl,_,h,zop r e⟩
 |_=>cases e
def zex{K:zC}{kd:KD}{O:Addr->Prop}{H:Hp}(k:List Key){vs:List V}{ds:List D}(h:RpL K kd O H vs ds):∀{ks:List (List Key)},ks.length=vs.length->(∃v d,vP (ks.zip vs) k=some v/\zdZ ks ds k=some d/\Rp K kd O H v d)\/(vP (ks.zip vs) k=none/\zdZ ks ds k=none):=
 RpL.ind (P:=λvs ds=>∀{ks:List (List Key)},ks.length=vs.length->(∃v d,vP (ks.zip vs) k=some v/\zdZ ks ds k=some d/\Rp K kd O H v d)\/(vP (ks.zip vs) k=none/\zdZ ks ds k=none)) (λ{ks} e=>by
  cases ks with
  |nil=>exact .inr ⟨rfl,rfl⟩
  |cons=>simp at e) (λ{v d vs ds} a _ ih ks e=>by
  cases ks with
  |nil=>simp at e
  |cons k1 ks=>
   have e':ks.length=vs.length:=by simpa using e
   unfold vP zdZ;rw[List.zip_cons_cons,List.zip_cons_cons]
   by_cases hk:k1=k
   · rw[List.find?_cons_of_pos (by simpa using hk),List.find?_cons_of_pos (by simpa using hk)];exact .inl ⟨_,_,rfl,rfl,a⟩
   · rw[List.find?_cons_of_neg (by simpa using hk),List.find?_cons_of_neg (by simpa using hk)];exact ih e') h
def anyF(f:D->Option Bool):List D->Option Bool
 | []=>some false
 |x::r=>(f x).bind λb=>(anyF f r).bind λc=>some (b||c)
def blR(b:Bool):R0:=.im (.bl b)
def inP(x:D):D->Option Bool
 | .lst ys=>anyF (λy=>eqF 50 y x) ys
 | .tup ys=>anyF (λy=>eqF 50 y x) ys
 | .str y=>match x with | .str i=>some (!(Builtin.Str.occurrences y i 0 y.length 1).isEmpty)|_=>none
 | .dct kvs=>(zms x).bind λk=>some (zgs kvs k).isSome
 | .dt ks ds=>(zbs x).bind λk=>some (zdZ ks ds k).isSome
 |_=>none
def isP:D->D->Option Bool
 |d,.non=>some (match d with | .non=>true|_=>false)
 |d,.bl b=>match d with | .bl c=>some (c==b)|_=>some false
 |_,_=>none
def zly(f:Int->Int->Bool):D->D->Option R0:=onI λi j=>some (blR (f i j))
def zR(o:CmpOp)(d e:D):Option R0:=match o with
 | .Eq=>(eqF 60 d e).bind λb=>some (blR b)
 | .NotEq=>(eqF 60 d e).bind λb=>some (blR !b)
 | .Lt=>zly (λi j=>decide (i<j)) d e
 | .LtE=>zly (λi j=>decide (i<=j)) d e
 | .Gt=>zly (λi j=>decide (j<i)) d e
 | .GtE=>zly (λi j=>decide (j<=i)) d e
 | .In=>(inP d e).bind λb=>some (blR b)
 | .NotIn=>(inP d e).bind λb=>some (blR !b)
 | .Is=>(isP d e).bind λb=>some (blR b)
 | .IsNot=>(isP d e).bind λb=>some (blR !b)
def WY{o:Option Bool}{f:Bool->Bool}{r:R0}(h:(o.bind λb=>some (blR (f b)))=some r):∃k,r = .im (.bl k):=by
 obtain⟨b,_,h⟩:=bS_ h;cases h;exact⟨_,rfl⟩
def zda(h:zly f x y=some r):∃k,r = .im (.bl k):=by
 obtain⟨i,_,h⟩:=bS_ (show(asI x).bind _=_ from h);obtain⟨j,_,h⟩:=bS_ h;cases h;exact⟨_,rfl⟩
def zkg(op:CmpOp)(x y:D)(r:R0)(h:zR op x y=some r):∃k,r = .im (.bl k):=by
 cases op with
 |Eq=>exact WY (f:=id) h
 |NotEq=>exact WY (f:=not) h
 |Lt=>exact zda h
 |LtE=>exact zda h
 |Gt=>exact zda h
 |GtE=>exact zda h
 |In=>exact WY (f:=id) h
 |NotIn=>exact WY (f:=not) h
 |Is=>exact WY (f:=id) h
 |IsNot=>exact WY (f:=not) h
section
variable{X:Cx}{kd:KD}{pins:List (Addr×Obj)}{σ:St}{H:Hp}{s:Shared}{O:Addr->Prop}
noncomputable def eqW(K:zC)(kd:KD)(O:Addr->Prop)(H:Hp)(n:Nat)(x:D)(u:Value):Bool:=@decide (∃v d,RelV v u/\Rp K kd O H v d/\eqF n d x=some true) (Classical.propDecidable _)
def zgy(I:Inv X pins σ H s)(hk:KdOk X kd)(r:RelV v u)(p:Rp X.K kd O H v d)(e:eqF n d x=some b):eqW X.K kd O H n x u=b:=by
 unfold eqW;cases b with
 |true=>exact @zyM _ (Classical.propDecidable _) ⟨v,d,r,p,e⟩
 |false=>
  refine @zyE _ (Classical.propDecidable _) λ⟨v',d',r',p',e'⟩=>?_;have:=r.inj r';subst this;exact Bool.noConfusion (znG I n _ _ _ _ _ _ p.vw p'.vw e e')
def zdl(I:Inv X pins σ H s)(hk:KdOk X kd)(hv:Vals vs us)(h:RpL X.K kd O H vs ds)(e:anyF (λy=>eqF n y x) ds=some b):us.any (eqW X.K kd O H n x)=b:=
 RpL.ind (P:=λvs ds=>∀us b,Vals vs us->anyF (λy=>eqF n y x) ds=some b->us.any (eqW X.K kd O H n x)=b) (λus b hv e=>by cases e;cases hv;rfl) (λ{v d vs ds} a _ ih us b hv h=>by
  cases hv with
  |cons r t=>
   obtain⟨b1,h1,h⟩:=bS_ (show(eqF n _ x).bind _=_ from h);obtain⟨c1,h2,h⟩:=bS_ h;cases h;rw[List.any_cons,zgy I hk r a h1,ih _ _ t h2]) h us b hv e
theorem Yy:∀{ds:List D}{b:Bool},anyF f ds=some b->∀d ∈ ds,∃c,f d=some c
 | [],_,_,d,hd=>by simp at hd
 |x::r,b,h,d,hd=>by
  obtain⟨b1,h1,h⟩:=bS_ (show(f x).bind _=_ from h);obtain⟨c1,h2,h⟩:=bS_ h
  rcases zzA.mp hd with e|e
  · subst e;exact⟨b1,h1⟩
  · exact Yy h2 d e
def zaH(I:Inv X pins σ H s)(hk:KdOk X kd)(hu:A.units+n<cLine)(vx:Vw X.K kd O H x d)(rx:RelV x v)(hv:Vals vs us)(h:RpL X.K kd O H vs ds)(k:∀e ∈ ds,∃c,eqF n e d=some c):∀u ∈ us,SeqAt.EqAt A s u v (eqW X.K kd O H n d u):=
 RpL.ind (P:=λvs ds=>∀us,Vals vs us->(∀e ∈ ds,∃c,eqF n e d=some c)->∀u ∈ us,SeqAt.EqAt A s u v (eqW X.K kd O H n d u)) (λus hv _ u hu=>by cases hv;simp at hu) (λa q ih us hv h u hm=>by
  cases hv with
  |cons r t=>
   rcases zzA.mp hm with e|e
   · subst e;obtain⟨c,hc⟩:=h _ zzD;rw[zgy I hk r a hc];exact(zhw I n A _ _ _ _ _ _ _ hu a.vw vx r rx hc).eq
   · exact ih _ t (λe he=>h e (zzB _ he)) u e) h us hv k
def zen(vx:Vw X.K kd O H x d)(rx:RelV x v)(e:isP d (.bl b)=some c)(h:Q c s):wpAny (model X.prog X.w) A (isSame v (.bool b)) Q E s:=by
 cases vx with
 |non=>cases rx;cases e;exact zxF h
 |bl k=>
  cases rx;have e:some (k==b)=some c:=e;cases e;refine zxF ?_;cases k<;>cases b<;>exact h
 |int=>obtain⟨t,rfl⟩:=rx;cases e;exact zxF h
 |str=>obtain⟨t,rfl⟩:=rx;cases e;exact zxF h
 |tup=>cases rx;cases e;exact zxF h
 |lst=>cases rx;cases e;exact zxF h
 |dct=>cases rx;cases e;exact zxF h
 |cl=>cases rx;cases e;exact zxF h
 |ob=>cases rx;cases e;exact zxF h
 |dt=>cases rx;cases e;exact zxF h
 |er=>cases rx;cases e;exact zxF h
def zhk(hk:KdOk X kd)(hu:X.A.units+100<cLine)(op:CmpOp):OpD X kd (compareOp op) (zR op):=by
 intro pins s σ H x y v u Q I rx ry h;obtain⟨O,d,e,r,ht,vx,vy,he,q⟩:=h;cases op with
 |Eq=>
  obtain⟨b,h1,he⟩:=bS_ (show(eqF 60 d e).bind _=_ from he);cases he;exact(zhw I 60 X.A x y d e v u b (by omega) vx vy rx ry h1).rc _ _ _ _ (xY I (yu q (.bl _)) rfl)
 |NotEq=>
  obtain⟨b,h1,he⟩:=bS_ (show(eqF 60 d e).bind _=_ from he);cases he;exact(zhw I 60 X.A x y d e v u b (by omega) vx vy rx ry h1).ne _ _ _ _ (xY I (yu q (.bl _)) rfl)
 |Lt=>
  obtain⟨i,j,rfl,rfl,he⟩:=Xj vx vy he;cases he;exact zuq pins s σ H _ _ v u Q I rx ry ⟨_,_,rfl,rfl,yu q (.bl _)⟩
 |LtE=>
  obtain⟨i,j,rfl,rfl,he⟩:=Xj vx vy he;cases he;exact ztI pins s σ H _ _ v u Q I rx ry ⟨_,_,rfl,rfl,yu q (.bl _)⟩
 |Gt=>
  obtain⟨i,j,rfl,rfl,he⟩:=Xj vx vy he;cases he;exact zuI pins s σ H _ _ v u Q I rx ry ⟨_,_,rfl,rfl,yu q (.bl _)⟩
 |GtE=>
  obtain⟨i,j,rfl,rfl,he⟩:=Xj vx vy he;cases he;exact ztK pins s σ H _ _ v u Q I rx ry ⟨_,_,rfl,rfl,yu q (.bl _)⟩
 |In=>
  obtain⟨b,h1,he⟩:=bS_ (show(inP d e).bind _=_ from he);cases he;cases vy with
  |lst hs rl=>
   cases ry;obtain⟨its,rv,p,_⟩:=I.list hs.sq;refine SeqAt.in_listAt (eqW X.K kd O H 50 d) p.isList (λw hw=>zaH I hk (by show X.A.units+1+50<cLine;omega) vx rx rv rl (Yy h1) w (by simpa using hw)) ?_;have:=zdl I hk rv rl h1;rw[show its.toArray.any (eqW X.K kd O H 50 d)=b by rw[<-this];simp];exact xY (I) (yu q (.bl _)) rfl
  |tup rp hs rl=>
   cases ry;obtain⟨its,rv,p,_⟩:=I.tuple hs;refine SeqAt.in_tupleAt (eqW X.K kd O H 50 d) p (λw hw=>zaH I hk (by show X.A.units+1+50<cLine;omega) vx rx rv rl (Yy h1) w (by simpa using hw)) ?_;have:=zdl I hk rv rl h1;rw[show its.toArray.any (eqW X.K kd O H 50 d)=b by rw[<-this];simp];exact xY (I) (yu q (.bl _)) rfl
  |str z=>
   cases vx with
   |str i=>cases h1;exact zmf pins s σ H _ _ v u Q I rx ry ⟨_,_,rfl,rfl,yu q (.bl _)⟩
   |_=>cases h1
  |dct hs rm=>
   cases ry;obtain⟨k,k1,h1⟩:=bS_ h1;cases h1;obtain⟨z,hd,vs,rel,dd⟩:=zhM I hk hs;have ek:x=kV k:=by
    cases vx with
    |int i=>cases k1;rfl
    |str i=>cases k1;rfl
    |_=>cases k1
   subst ek;refine wpAny_in_of (zbO rx) hd dd.mapOf ?_;rw[<-(rel.val k).isSome_eq]
   rcases zhz k rm with⟨v1,d1,e1,e2,_⟩|⟨e1,e2⟩
   · rw[e1];rw[e2]at q;exact xY (I.tok _) (yu q (.bl _)) rfl
   · rw[e1];rw[e2]at q;exact xY (I.tok _) (yu q (.bl _)) rfl
  |dt hH l rl=>
   cases ry;obtain⟨k,k1,h1⟩:=bS_ h1;cases h1;obtain⟨b,rfl,hb⟩:=zdq vx k1;refine zvx (by show X.A.units+1<cLine;omega) I (zhC.t hH hb) rx λs' I'=>?_
   rcases zex k rl l with⟨v1,d1,e1,e2,_⟩|⟨e1,e2⟩
   · rw[e1];rw[e2]at q;exact xY I' (yu q (.bl _)) rfl
   · rw[e1];rw[e2]at q;exact xY I' (yu q (.bl _)) rfl
  |_=>cases h1
 |NotIn=>
  obtain⟨b,h1,he⟩:=bS_ (show(inP d e).bind _=_ from he);cases he;cases vy with
  |lst hs rl=>
   cases ry;obtain⟨its,rv,p,_⟩:=I.list hs.sq;refine SeqAt.notIn_listAt (eqW X.K kd O H 50 d) p.isList (λw hw=>zaH I hk (by show X.A.units+1+50<cLine;omega) vx rx rv rl (Yy h1) w (by simpa using hw)) ?_;have:=zdl I hk rv rl h1;rw[show its.toArray.any (eqW X.K kd O H 50 d)=b by rw[<-this];simp];exact xY (I) (yu q (.bl _)) rfl
  |tup rp hs rl=>
   cases ry;obtain⟨its,rv,p,_⟩:=I.tuple hs;refine SeqAt.notIn_tupleAt (eqW X.K kd O H 50 d) p (λw hw=>zaH I hk (by show X.A.units+1+50<cLine;omega) vx rx rv rl (Yy h1) w (by simpa using hw)) ?_;have:=zdl I hk rv rl h1;rw[show its.toArray.any (eqW X.K kd O H 50 d)=b by rw[<-this];simp];exact xY (I) (yu q (.bl _)) rfl
  |str z=>
   cases vx with
   |str i=>cases h1;exact zgF pins s σ H _ _ v u Q I rx ry ⟨_,_,rfl,rfl,yu q (.bl _)⟩
   |_=>cases h1
  |dct hs rm=>
   cases ry;obtain⟨k,k1,h1⟩:=bS_ h1;cases h1;obtain⟨z,hd,vs,rel,dd⟩:=zhM I hk hs;have ek:x=kV k:=by
    cases vx with
    |int i=>cases k1;rfl
    |str i=>cases k1;rfl
    |_=>cases k1
   subst ek;refine wpAny_notIn_of (zbO rx) hd dd.mapOf ?_;rw[<-(rel.val k).isSome_eq]
   rcases zhz k rm with⟨v1,d1,e1,e2,_⟩|⟨e1,e2⟩
   · rw[e1];rw[e2]at q;exact xY (I.tok _) (yu q (.bl _)) rfl
   · rw[e1];rw[e2]at q;exact xY (I.tok _) (yu q (.bl _)) rfl
  |dt hH l rl=>
   cases ry;obtain⟨k,k1,h1⟩:=bS_ h1;cases h1;obtain⟨b,rfl,hb⟩:=zdq vx k1;refine zqJ (by show X.A.units+1<cLine;omega) I (zhC.t hH hb) rx λs' I'=>?_
   rcases zex k rl l with⟨v1,d1,e1,e2,_⟩|⟨e1,e2⟩
   · rw[e1];rw[e2]at q;exact xY I' (yu q (.bl _)) rfl
   · rw[e1];rw[e2]at q;exact xY I' (yu q (.bl _)) rfl
  |_=>cases h1
 |Is=>
  obtain⟨b,h1,he⟩:=bS_ (show(isP d e).bind _=_ from he);cases he;cases vy with
  |non=>
   refine zst pins s σ H _ _ v u Q I rx ry ⟨rfl, ?_⟩;have:decide (x=V.non)=b:=by cases vx<;>(cases h1;rfl)
   rw[this];exact yu q (.bl b)
  |bl c=>
   cases ry;exact zxE (zen vx rx h1 (zxF (xY I (yu q (.bl _)) rfl)))
  |_=>cases h1
 |IsNot=>
  obtain⟨b,h1,he⟩:=bS_ (show(isP d e).bind _=_ from he);cases he;cases vy with
  |non=>
   refine zpQ pins s σ H _ _ v u Q I rx ry ⟨rfl, ?_⟩;have:decide (x=V.non)=b:=by cases vx<;>(cases h1;rfl)
   rw[this];exact yu q (.bl _)
  |bl c=>
   cases ry;exact zxE (zen vx rx h1 (zxF (xY I (yu q (.bl _)) rfl)))
  |_=>cases h1
end
def zkM{K:zC}{kd:KD}{O:Addr->Prop}{H:Hp}{vs:List V}{ds:List D}{i:Int}{d:D}(r:RpL K kd O H vs ds)(h:atI ds i=some d):∃v,atI vs i=some v/\Rp K kd O H v d:=by
 unfold atI at h ⊢;obtain⟨j,h1,h2⟩:=bS_ h;rw[r.length,h1];exact r.get h2
def imR(o:Option D):Option R0:=o.bind λd=>some (.im d)
def ixP(x y:D):Option R0:=match x with
 | .lst xs=>(asI y).bind λi=>imR (atI xs i)
 | .tup xs=>(asI y).bind λi=>imR (atI xs i)
 | .str x=>(asI y).bind λi=>if x.length<=sizeLine then(atI x.cps.toList i).bind λc=>some (.im (.str ⟨#[c]⟩))else none
 | .dct kvs=>(zms y).bind λk=>imR (zgs kvs k)
 |_=>none
def zao(h:imR o=some r):∃d,o=some d/\r = .im d:=by
 obtain⟨d,h1,h2⟩:=bS_ (show o.bind _=_ from h);cases h2;exact⟨d,h1,rfl⟩
section
variable{X:Cx}{kd:KD}
def zrM{K:zC}{O:Addr->Prop}{H:Hp}{x:V}{d:D}{k:Key}(vx:Vw K kd O H x d)(e:zms d=some k):x=kV k:=by
 cases vx with
 |int i=>cases e;rfl
 |str i=>cases e;rfl
 |_=>cases e
def zvA(hk:KdOk X kd):IxD X kd ixP:=by
 intro value slice pins s σ H x y v u Q I rx ry h hs;obtain⟨O,d,e,r,ht,vx,vy,he,q⟩:=h;cases vx with
 |lst hr rl=>
  obtain⟨i,h0,he⟩:=bS_ (show(asI e).bind _=_ from he);obtain⟨rfl,rfl⟩:=Xo vy h0;obtain⟨d,h1,rfl⟩:=zao he;obtain⟨w,hw,rw'⟩:=zkM rl h1;exact WW value slice pins s σ H _ _ v u Q I rx ry ⟨_,_,_,w,rfl,rfl,hr.sq,hw,yu q rw'⟩ hs
 |tup rp hr rl=>
  obtain⟨i,h0,he⟩:=bS_ (show(asI e).bind _=_ from he);obtain⟨rfl,rfl⟩:=Xo vy h0;obtain⟨d,h1,rfl⟩:=zao he;obtain⟨w,hw,rw'⟩:=zkM rl h1;exact znl value slice pins s σ H _ _ v u Q I rx ry ⟨_,_,_,w,rfl,rfl,hr,hw,yu q rw'⟩ hs
 |str z=>
  obtain⟨i,h0,he⟩:=bS_ (show(asI e).bind _=_ from he);obtain⟨rfl,rfl⟩:=Xo vy h0;obtain⟨hz,he⟩:=ite_some' he;obtain⟨c,h1,he⟩:=bS_ he;cases he;exact ztr value slice pins s σ H _ _ v u Q I rx ry ⟨_,_,c,rfl,rfl,hz,h1,yu q (.str _)⟩ hs
 |dct hr rm=>
  obtain⟨k,h1,he⟩:=bS_ (show(zms e).bind _=_ from he);obtain⟨d,h2,rfl⟩:=zao he;cases rx;obtain⟨z,hd,vs,rel,dd⟩:=zhM I hk hr;have:=zrM vy h1;subst this
  rcases zhz k rm with⟨v1,d1,e1,e2,rp⟩|⟨e1,e2⟩
  · rw[h2]at e2;cases e2;obtain⟨w',hw,rw'⟩:=WK.some_of (v:=v1) (o:=valueAt vs k) (by rw[<-e1];exact rel.val k);exact tail_any dd.typeIs PySem.F.slot_dict_getitem.lookup (wpAny_getItem_of (zbO ry) dd.mapOf hw ⟨v1,H,I.tok _,rw',yu q rp⟩) hs
  · rw[h2]at e2;cases e2
 |_=>cases he
def cutD(xs:List D)(lo hi:Option Int):List D:=(xs.drop (HT.sIx xs.length 0 lo)).take (HT.sIx xs.length xs.length hi-HT.sIx xs.length 0 lo)
def zkV{K:zC}{O:Addr->Prop}{H:Hp}{vs:List V}{ds:List D}(r:RpL K kd O H vs ds)(lo hi:Option Int):RpL K kd O H (zis vs lo hi) (cutD ds lo hi):=by
 unfold zis cutD;rw[r.length];exact(r.drop _).take _
def slP(x:D)(lo hi:Option Int):Option R0:=match x with
 | .lst xs=>some (.fl (cutD xs lo hi))
 | .tup xs=>if HT.sIx xs.length 0 lo=0/\HT.sIx xs.length xs.length hi=xs.length then none else some (.im (.tup (cutD xs lo hi)))
 |_=>none
abbrev OF:=AS->Option (Option Int×AS)
def oN:OF:=λas=>some (none,as)
def oS(f:EF):OF:=λas=>(f as).bind λp=>(rvI p.1).bind λi=>some (some i,p.2)
def fSl(fa:EF)(fl fh:OF)(g:D->Option Int->Option Int->Option R0):EF:=λas=>(fa as).bind λp=>(fl p.2).bind λl=>(fh l.2).bind λh=>(p.1.frz.view h.2).bind λx=>(g x.1 l.1 h.1).bind λr=>(wrap x.2 r).bind λz=>some (z,h.2)
def alO(K:zC)(kd:KD)(f:OF):TO:=λσ H Q=>∃F B ad as o as',Rel K kd F B [] ad as σ H/\f as=some (o,as')/\
 ∀ad' H',Rel K kd F B [] ad' as' σ H'->Grow (Gw [] ad) H (Gw [] ad') H'->Q o H'
@[irreducible] def AO(X:Cx)(kd:KD)(e:Option Expr)(f:OF):Prop:=PO X e (alO X.K kd f)
def znS(h:PO X e t)(k:∀σ H Q,t' σ H Q->t σ H Q):PO X e t':=λpins s σ H Q I q=>h pins s σ H Q I (k σ H Q q)
def zpy:AO X kd none oN:=by with_unfolding_all exact(znS zqu λσ H Q h=>by
 obtain⟨F,B,ad,as,o,as',R,e,q⟩:=h;cases e;exact q ad H R Grow.refl)
def zsC{K:zC}{F B:Addr->Prop}{T:List Addr}{ad:Ad}{σ:St}{H:Hp}{v:V}{st:Bool}{c:Int}(h:wB K kd F B T ad σ H v (.ow (.lf st (.int c)))):T=[]/\v = .int c:=by
 have h:RoS K kd F B (Gw T ad) H v (.lf st (.int c)) T:=h;generalize hT:Gw T ad=G at h;cases h with
 |lf rp=>cases rp;exact⟨rfl,rfl⟩
def zqC{a:Expr}{fa:EF}(ha:AE X kd a fa):AO X kd (some a) (oS fa):=by with_unfolding_all exact(znS (zqd ha) λσ H Q h=>by
 obtain⟨F,B,ad,as,o,as',R,e,q⟩:=h;obtain⟨⟨p,as1⟩,h1,e⟩:=bS_ (show(fa as).bind _=_ from e);obtain⟨i,e1,e⟩:=bS_ e;obtain⟨st,rfl⟩:=ztl e1;cases e;refine⟨F,B,ad,as,_,_,R,h1,λv T' ad1 H1 R1 rv1 g1=>?_⟩;obtain⟨rfl,rfl⟩:=zsC rv1;exact⟨i,rfl,q ad1 H1 R1 g1⟩)
def zvY:SlR X (λx lo hi H Q=>∃O d r,(∀a,O a->H a≠none)/\Vw X.K kd O H x d/\slP d lo hi=some r/\RQ X.K kd O H Q r):=by
 intro pins s σ H x v vl vu lo hi sl Q I rx hs pl pu h;obtain⟨O,d,r,ht,vx,he,q⟩:=h;cases vx with
 |lst hr rl=>cases he;exact zqa pins s σ H _ v vl vu lo hi sl Q I rx hs pl pu ⟨_,_,rfl,hr.sq,zbr q (zkV rl lo hi)⟩
 |tup rp hr rl=>
  have he:(if _ then none else some _:Option R0)=_:=he
  split at he
  · cases he
  · rename_i hw;cases he;exact zsD pins s σ H _ v vl vu lo hi sl Q I rx hs pl pu ⟨_,_,rfl,hr,by rw[rl.length];exact hw,zdO ht q (zkV rl lo hi)⟩
 |_=>cases he
def zmZ{a:Expr}{lo hi:Option Expr}{fa:EF}{fl fh:OF}{pos p2:Pos}(ha:AE X kd a fa)(hl:AO X kd lo fl)(hh:AO X kd hi fh):AE X kd (.Subscript a (.Slice lo hi none p2) pos) (fSl fa fl fh slP):=by with_unfolding_all exact(yV (ziJ zvY ha hl hh) λσ H Q h=>by
 obtain⟨F,B,ad,as,r,as',R,e,q⟩:=h;obtain⟨⟨p,as1⟩,h1,e⟩:=bS_ (show(fa as).bind _=_ from e);obtain⟨⟨l,as2⟩,h2,e⟩:=bS_ e;obtain⟨⟨u,as3⟩,h3,e⟩:=bS_ e;obtain⟨⟨d,lv⟩,h4,e⟩:=bS_ e;obtain⟨r',h5,e⟩:=bS_ e;obtain⟨z,h6,e⟩:=bS_ e;cases e;refine v7 R h1 λv ad1 H1 R1 rv1 g1=>⟨F,B,ad1,as1,l,as2,R1,h2,λad2 H2 R2 g2=>⟨F,B,ad2,as2,u,_,R2,h3,λad3 H3 R3 g3=>?_⟩⟩;exact⟨_,d,r',R3.tr _,wB.vw R3 ((rv1.grow g2).grow g3) h4,h5,vM R3 h6 λw T' H' R' rv' g'=>q w T' ad3 H' R' rv' (((g1.trans g2).trans g3).trans g')⟩)
end
def Zt:List D->Option (List Int)
 | []=>some []
 | .int i::r=>(Zt r).bind λs=>some (i::s)
 |_::_=>none
def zrR:List Int->Int
 | []=>0
 |x::r=>r.foldl (λa b=>if a<b then b else a) x
theorem zfK:∀(r:List Int) (x:Int),r.foldl (λa b=>if a<b then b else a) x ∈ x::r/\∀a ∈ x::r,a<=r.foldl (λa b=>if a<b then b else a) x
 | [],x=>⟨by simp,by simp⟩
 |y::r,x=>by
  rw[List.foldl_cons];obtain⟨h1,h2⟩:=zfK r (if x<y then y else x);refine⟨?_,λa ha=>?_⟩
  · rcases zzA.mp h1 with e|e
    · rw[e];split<;>simp
    · exact zzB _ (zzB _ e)
  · have h3:=h2 _ zzD
    rcases zzA.mp ha with e|e
    · subst e;exact Int.le_trans (by split<;>omega) h3
    · rcases zzA.mp e with e|e
      · subst e;exact Int.le_trans (by split<;>omega) h3
      · exact h2 a (zzB _ e)
def zqw(h1:M ∈ ns)(h2:∀a ∈ ns,a<=M):zrR ns=M:=by
 cases ns with
 |nil=>simp at h1
 |cons x r=>
  obtain⟨k1,k2⟩:=zfK r x;have a1:=k2 M h1;have a2:=h2 _ k1;show r.foldl _ x=M;omega
def on1(f:D->Option R0)(ds:List D):Option R0:=match ds with
 | [x]=>f x
 |_=>none
def zbm{K:zC}{kd:KD}{O:Addr->Prop}{H:Hp}{f:D->Option R0}{xs:List V}{ds:List D}{r:R0}(vl:VwL K kd O H xs ds)(h:on1 f ds=some r):∃x d,xs=[x]/\Vw K kd O H x d/\f d=some r:=by
 cases vl with
 |nil=>cases h
 |cons a b=>
  cases b with
  |nil=>exact⟨_,_,rfl,a,h⟩
  |cons _ _=>cases h
def zvl:D->Option R0
 | .lst ds=>some (.im (.int ds.length))
 | .tup ds=>some (.im (.int ds.length))
 | .str x=>if x.length<=sizeLine then some (.im (.int x.length))else none
 | .dct kvs=>some (.im (.int kvs.length))
 | .dt _ ds=>some (.im (.int ds.length))
 |_=>none
def ZP:List D->Option R0:=on1 zvl
def zvW:D->Option R0
 | .int i=>some (.im (.int i))
 | .bl b=>some (.im (.int (if b then 1 else 0)))
 |_=>none
def tupP:List D->Option R0
 | [.lst ds]=>some (.im (.tup ds))
 | [.tup ds]=>some (.im (.tup ds))
 |_=>none
def zvU:D->Option R0
 | .lst ds=>some (.fl ds)
 | .tup ds=>some (.fl ds)
 |_=>none
def lstP:List D->Option R0:=on1 zvU
def zsF(ds:List D):Option R0:=match ds with
 | [x,y]=>onI (λi j=>some (.im (.int (if j > i then j else i)))) x y
 | [x]=>(asL x).bind λds=>(Zt ds).bind λns=>if 0<ns.length then some (.im (.int (zrR ns)))else none
 |_=>none
def zhx{K:zC}{kd:KD}{O:Addr->Prop}{H:Hp}{xs:List V}{d:D}(h:VwL K kd O H xs [d]):∃x,xs=[x]/\Vw K kd O H x d:=by
 cases h with
 |cons a b=>cases b;exact⟨_,rfl,a⟩
def zpP{K:zC}{kd:KD}{O:Addr->Prop}{H:Hp}{xs:List V}{d e:D}(h:VwL K kd O H xs [d,e]):∃x y,xs=[x,y]/\Vw K kd O H x d/\Vw K kd O H y e:=by
 cases h with
 |cons a b=>
  cases b with
  |cons b c=>cases c;exact⟨_,_,rfl,a,b⟩
def zmS{K:zC}{kd:KD}{O:Addr->Prop}{H:Hp}{vs:List V}{ds:List D}{ns:List Int}(h:RpL K kd O H vs ds)(e:Zt ds=some ns):vs=ns.map V.int:=
 RpL.ind (P:=λvs ds=>∀ns,Zt ds=some ns->vs=ns.map V.int) (λns e=>by cases e;rfl) (λ{v d vs ds} a _ ih ns e=>by
  cases d with
  |int i=>
   obtain⟨s,h1,h2⟩:=bS_ (show(Zt _).bind _=_ from e);cases h2;cases a;rw[ih _ h1];rfl
  |_=>cases e) h ns e
section
variable{X:Cx}{kd:KD}
def ztE(I:Inv X pins σ H s)(hH:H a=some (.dT kvs))(q:∀t s',Inv X pins σ H s'->Q (.int kvs.length t) s'):wpAny (model X.prog X.w) A (call (.builtin "len") [.ref a]) Q E s:=by
 obtain⟨hz,hd,xs,rel,dd⟩:=zrm I.hok hH;have ty:=dd.typeIs;obtain⟨o,es,ep,ho,_,hdat,h4,_,_⟩:=dd;have sz:es.size=kvs.length:=by rw[show kvs.length=xs.length from Paired.length rel,<-zyR,h4,zD]
 have body:MeetsIn X.prog X.w (Builtin.«dict.__len__» ⟨[.ref a],[]⟩) (λ_ R s'=>s'=s/\R (.ok (.ret (.int kvs.length s.toks))) {s with toks:=s.toks+1}):=.of_wp λA' R s' z=>by
  obtain⟨rfl,z⟩:=z;show wpAny _ _ (dictSize a >>= _) _ _ s';unfold dictSize;exact zxE (zxE (wpAny_dictEntries ho hdat (zxF (show wpAny _ _ (Builtin.Dict.pendingCount a >>= _) _ _ s' from zxE (wpAny_pendingCount_other hd (wpAny_ret_mkInt (by rw[Nat.add_zero,sz];exact z)))))))
 refine Calls.call_function_entry kind_len plain_len entry_len (args_len1 _) ?_;unfold Builtin.«len»;exact zxE (m:=oneArg "len" _) (zxF (zxE (m:=callSpecial? (.ref a) (Str.ofString "__len__")) (wpAny_callSpecial?_slot (name:=Str.ofString "__len__") ty PySem.F.slot_dict_len (call_meetsIn PySem.F.slot_dict_len ty PySem.F.entry_dict_len (PySem.F.args_dict_len_1 _) body ⟨rfl,show wpAny _ _ _ _ _ {s with toks:=s.toks+1}from zxE (zxK (zxF (zxE (wpAny_letGo (show wpAny _ _ (if((kvs.length:Nat):Int)<0 then _ else _) _ _ _ from by
  rw[if_neg (by omega)];show wpAny _ _ (if((kvs.length:Nat):Int) ≥ 2 ^ 63 then _ else _) _ _ _;rw[if_neg (by rw[sizeLine_eq]at hz;omega)];exact zxE (wpAny_mkInt (zxF ⟨_,rfl,q _ _ ((I.tok _).tok _)⟩)))))))⟩))))
def zfw(hk:KdOk X kd):CallD X kd (.builtin "len") ZP:=by
 intro pins s σ H xs us Q I r h;obtain⟨O,ds,z,ht,vl,he,q⟩:=h;obtain⟨x,d,rfl,vx,he⟩:=zbm vl he;cases vx with
 |lst hr rl=>cases he;exact Xi pins s σ H _ us Q I r ⟨_,_,rfl,.inl hr.sq,by rw[rl.length];exact yu q (.int _)⟩
 |tup rp hr rl=>cases he;exact Xi pins s σ H _ us Q I r ⟨_,_,rfl,.inr hr,by rw[rl.length];exact yu q (.int _)⟩
 |str y=>
  obtain⟨c,rfl⟩:=zQ he;exact zgW pins s σ H _ us Q I r ⟨_,rfl,c,yu q (.int _)⟩
 |dct hr rm=>
  cases he;obtain⟨u,rfl,ru⟩:=vals1 r;cases ru;obtain⟨z,hd,vs,rel,dd⟩:=zhM I hk hr;refine call_len_dict hd dd (by rw[<-rel.length];rw[sizeLine_eq]at z;omega) ?_;rw[<-rel.length,rm.length];exact⟨.int _,H,I.tok _,⟨_,rfl⟩,yu q (.int _)⟩
 |dt hH l rl=>
  cases he;obtain⟨u,rfl,ru⟩:=vals1 r;cases ru;refine ztE I hH λt s' I'=>⟨.int _,H,I',⟨_,rfl⟩, ?_⟩;rw[List.length_zip,l,Nat.min_self,rl.length];exact yu q (.int _)
 |_=>cases he
def zma:CallD X kd (.type "tuple") tupP:=by
 intro pins s σ H xs us Q I r h;obtain⟨O,ds,z,ht,vl,he,q⟩:=h;unfold tupP at he
 split at he
 · cases he;obtain⟨x,rfl,vx⟩:=zhx vl;cases vx with
   |lst hr rl=>exact Vy pins s σ H _ us Q I r ⟨_,_,rfl,.inl ⟨hr.sq,zdO ht q rl⟩⟩
 · cases he;obtain⟨x,rfl,vx⟩:=zhx vl;cases vx with
   |tup rp hr rl=>exact Vy pins s σ H _ us Q I r ⟨_,_,rfl,.inr ⟨hr,yu q rp⟩⟩
 · cases he
def zbl:CallD X kd (.type "list") lstP:=by
 intro pins s σ H xs us Q I r h;obtain⟨O,ds,z,ht,vl,he,q⟩:=h;obtain⟨x,d,rfl,vx,he⟩:=zbm vl he;cases vx with
 |lst hr rl=>cases he;exact zal pins s σ H _ us Q I r ⟨_,_,rfl,.inl hr.sq,zbr q rl⟩
 |tup rp hr rl=>cases he;exact zal pins s σ H _ us Q I r ⟨_,_,rfl,.inr hr,zbr q rl⟩
 |_=>cases he
def zli(hc:X.calm=true):CallD X kd (.builtin "max") zsF:=by
 intro pins s σ H xs us Q I r h;obtain⟨O,ds,z,ht,vl,he,q⟩:=h;cases vl with
 |nil=>cases he
 |cons vx vl=>
  cases vl with
  |nil=>
   obtain⟨ds,h0,he⟩:=bS_ (show(asL _).bind _=_ from he);cases zad h0;obtain⟨ns,h1,he⟩:=bS_ he;obtain⟨c,rfl⟩:=zQ he;cases vx with
   |lst hr rl=>
    obtain⟨u,rfl,ru⟩:=vals1 r;cases ru;obtain⟨its,rv,p,_⟩:=I.list hr.sq;rw[zmS rl h1]at rv;have hi:=intsAre_of rv;obtain⟨ys,e⟩:=hi.allInts.items;have hns:ns=ys.toList.map (·.1):=by rw[<-hi.numsOf,<-nums_intItems,<-e]
    have hsz:0<ys.size:=by
     have h3:=c;rw[hns,zD,zyR]at h3;exact h3
    have hl:=p.isList;rw[e]at hl;refine max_intList (I.ok.hd hc) hl hsz λv h' tk hv kp=>?_;obtain⟨t,rfl⟩:=intItems_at hv;obtain⟨k1,k2⟩:=argBest_gt (numAt ys) (ys.size-1);refine⟨.int (zrR ns),H,I.kept kp,⟨t, ?_⟩,yu q (.int _)⟩
    congr 1
    refine(zqw ?_ λa ha=>?_).symm
    · rw[hns,numAt_eq];have hlt:argBest (λi j=>decide (numAt ys i > numAt ys j)) (ys.size-1)<(ys.toList.map (·.1)).length:=by rw[zD,zyR];omega
      rw[zyD,zzC hlt];exact zyY hlt
    · rw[hns]at ha;obtain⟨j,hj,rfl⟩:=List.getElem_of_mem ha;have hj':=hj;rw[zD,zyR]at hj;have:=k2 j (by omega);rw[numAt_eq ys j,zyD,zzC hj']at this;exact this
  |cons vy vl=>
   cases vl with
   |nil=>
    obtain⟨i,j,rfl,rfl,he⟩:=Xj vx vy he;cases he;exact zlP hc pins s σ H _ us Q I r ⟨_,_,rfl,yu q (.int _)⟩
   |cons _ _=>cases he
end
def wW(env:Env):List (Str×NameKind)->List (Str×Addr)->List (Str×Addr)
 | [],cs=>cs
 |(n,k)::r,cs=>wW env r (if k == .free then((n,(env.cells.lookup n).getD 0)::cs)else cs)
def Vr(h:∀x ∈ scope.names,x.2 = .free->∃c,env.cells.lookup x.1=some c):closureFor scope env=pure (wW env scope.names []):=by
 have go:∀(names:List (Str×NameKind)) (cs:List (Str×Addr)) (f:Str×NameKind->List (Str×Addr)->Sem (ForInStep (List (Str×Addr)))),
  (∀name kind cs,f (name,kind) cs=if kind == .free then(do let a <-cellOf env name;pure (.yield ((name,a)::cs)))else pure (.yield cs))->
  (∀x ∈ names,x.2 = .free->∃c,env.cells.lookup x.1=some c)->(forIn names cs f:Sem (List (Str×Addr)))=pure (wW env names cs):=by
  intro names
  induction names with
  |nil=>intro cs f _ _;rfl
  |cons x r ih=>
   intro cs f hf hx;obtain⟨n,k⟩:=x;rw[List.forIn_cons,hf];unfold wW
   by_cases hk:(k == .free)=true
   · obtain⟨c,hc⟩:=hx (n,k) zzD (by simpa using hk);rw[if_pos hk,if_pos hk];have e:cellOf env n=pure c:=by unfold cellOf;rw[hc]
     rw[e,hc];exact ih _ f hf λy hy=>hx y (zzB _ hy)
   · rw[if_neg hk,if_neg hk];exact ih _ f hf λy hy=>hx y (zzB _ hy)
 simp only[closureFor];rw[go scope.names [] _ (λname kind cs=>?_) h]
 · rfl
 · rfl
theorem zfy:∀(names:List (Str×NameKind)) (cs:List (Str×Addr)) (p:Str×Addr),p ∈ wW env names cs->p ∈ cs\/((p.1,NameKind.free) ∈ names/\p.2=(env.cells.lookup p.1).getD 0)
 | [],_,_,h=>.inl h
 |(n,k)::r,cs,p,h=>by
  unfold wW at h
  rcases zfy r _ p h with h|h
  · by_cases hk:(k == .free)=true
    · rw[if_pos hk]at h
      rcases zzA.mp h with e|h
      · subst e;have:k = .free:=by simpa using hk
        subst this;exact .inr ⟨zzD,rfl⟩
      · exact .inl h
    · rw[if_neg hk]at h;exact .inl h
  · exact .inr ⟨zzB _ h.1,h.2⟩
theorem zeM:∀(names:List (Str×NameKind)) (cs:List (Str×Addr)) (p:Str×Addr),p ∈ cs->p ∈ wW env names cs
 | [],_,_,h=>h
 |(n,k)::r,cs,p,h=>by
  unfold wW;refine zeM r _ p ?_
  split
  · exact zzB _ h
  · exact h
theorem zfx:∀(names:List (Str×NameKind)) (cs:List (Str×Addr)) (x:Str),(x,NameKind.free) ∈ names->(x,(env.cells.lookup x).getD 0) ∈ wW env names cs
 |(n,k)::r,cs,x,h=>by
  unfold wW
  rcases zzA.mp h with e|h
  · cases e;exact zeM r _ _ (by simp)
  · exact zfx r _ x h
theorem Ym:∀{l:List (Str×α)},(∀p ∈ l,p.1=x->p.2=a)->(∃b,(x,b) ∈ l)->l.lookup x=some a
 | [],_,h=>by obtain⟨_,h⟩:=h;cases h
 |(k,v)::r,u,h=>by
  rw[List.lookup_cons];cases hb:x==k with
  |true=>
   have:=u (k,v) zzD (beq_iff_eq.mp hb).symm;exact congrArg some this
  |false=>
   refine Ym (λp hp=>u p (zzB _ hp)) ?_;obtain⟨b,h⟩:=h
   rcases zzA.mp h with e|h
   · cases e;simp at hb
   · exact⟨b,h⟩
theorem zbq:∀(names:List (Str×NameKind)) (h:Heap) (acc:List (Str×Addr)) (p:Str×Addr),p ∈ cellsFrom h.objs.size names acc->
 p ∈ acc\/((p.1,NameKind.cell) ∈ names/\(pushCells h names).IsCell p.2 none/\h.objs.size<=p.2)
 | [],_,_,_,m=>.inl m
 |(n,k)::r,h,acc,p,m=>by
  unfold cellsFrom at m;unfold pushCells
  split at m
  · rename_i hk;rw[if_pos hk];have e:(h.push {cls:=.type "cell",data:=.cell none}).objs.size=h.objs.size+1:=zxM ..;rw[<-e]at m
    rcases zbq r _ _ p m with m|⟨m1,m2,m3⟩
    · rcases zzA.mp m with e2|m
      · subst e2;have:k = .cell:=by simpa using hk
        subst this;refine .inr ⟨zzD, ?_,zzL _⟩;have z:(h.push {cls:=.type "cell",data:=.cell none}).IsCell h.objs.size none:=⟨_,zxI _ rfl,rfl⟩;exact z.keeps (pushCells_keeps r _)
      · exact .inl m
    · exact .inr ⟨zzB _ m1,m2,by rw[e]at m3;omega⟩
  · rename_i hk;rw[if_neg hk]
    rcases zbq r h acc p m with m|⟨m1,m2,m3⟩
    · exact .inl m
    · exact .inr ⟨zzB _ m1,m2,m3⟩
theorem YX:∀(names:List (Str×NameKind)) (n:Nat) (acc:List (Str×Addr)) (p:Str×Addr),p ∈ acc->p ∈ cellsFrom n names acc
 | [],_,_,_,m=>m
 |(_,k)::r,n,acc,p,m=>by
  unfold cellsFrom
  split
  · exact YX r _ _ p (zzB _ m)
  · exact YX r _ _ p m
theorem zbe:∀(names:List (Str×NameKind)) (n:Nat) (acc:List (Str×Addr)) (x:Str),(x,NameKind.cell) ∈ names->∃c,(x,c) ∈ cellsFrom n names acc
 |(y,k)::r,n,acc,x,m=>by
  unfold cellsFrom
  rcases zzA.mp m with e|m
  · cases e;rw[if_pos (by decide)];exact⟨n,YX r _ _ _ zzD⟩
  · split
    · exact zbe r _ _ x m
    · exact zbe r _ _ x m
theorem zbu:∀(names:List (Str×NameKind)) (n:Nat) (acc:List (Str×Addr)),(∀p ∈ acc,p.2<n)->(∀p ∈ acc,∀q ∈ acc,p.2=q.2->p.1=q.1)->∀p ∈ cellsFrom n names acc,∀q ∈ cellsFrom n names acc,p.2=q.2->p.1=q.1
 | [],_,_,_,h=>h
 |(y,k)::r,n,acc,lt,h=>by
  unfold cellsFrom
  split
  · refine zbu r (n+1) _ (λp m=>?_) (λp m q m' e=>?_)
    · rcases zzA.mp m with z|m
      · subst z;exact Nat.lt_succ_self _
      · exact zyZ (lt p m)
    · rcases zzA.mp m with z|m
      · rcases zzA.mp m' with z'|m'
        · rw[z,z']
        · subst z;have:=lt q m';rw[<-e]at this;exact absurd this (Nat.lt_irrefl _)
      · rcases zzA.mp m' with z'|m'
        · subst z';have:=lt p m;rw[e]at this;exact absurd this (Nat.lt_irrefl _)
        · exact h p m q m' e
  · exact zbu r n acc lt h
section
variable{M:Model}{A:Around}{E:Value->Shared->Prop}{s:Shared}
def We(scope:Scope)(env:Env)(cl:List (Str×Addr))(L:Addr):Env:=
 {scope:=relabel scope env,locals:=L,globals:=env.globals,cells:=cellsFrom (L+1) scope.names cl,qual:=env.qual,func:=none,code:=env.code,frame:=env.frame,builtins:=env.builtins}
def zgz
 (h:∀h' env',{env' with scope:=relabel scope env}=We scope env cl s.heap.objs.size->env'.locals=s.heap.objs.size->(∀b o,s.heap.get? b=some o->h'.get? b=some o)->h'.Ns s.heap.objs.size (λ_=>none)->
  (∀p ∈ cellsFrom (s.heap.objs.size+1) scope.names cl,p ∈ cl\/((p.1,NameKind.cell) ∈ scope.names/\h'.IsCell p.2 none/\s.heap.objs.size+1<=p.2))->Q env' {s with heap:=h'}):
 wpAny M A (newFunctionEnv scope env.globals cl [] env.qual none .none (some env)) Q E s:=by
 simp only[newFunctionEnv,Option.isSome_some,if_true];refine zxE (wpAny_alloc ?_);refine zxE (wpAny_layCells _ (λname kind cells=>by cases hkc:kind==NameKind.cell<;>simp[hkc]) _ _ _ _ ?_);have e:(s.heap.push {cls:=.type "dict",data:=.dict #[]}).objs.size=s.heap.objs.size+1:=zxM ..;refine zxE (zxF (zxF (h _ _ ?_ rfl (λb o q=>pushCells_keeps _ _ b o (zxG _ q)) ((Heap.Ns.new s.heap (.type "dict")).keeps (pushCells_keeps _ _)) λp m=>?_)))
 · unfold We;rw[<-e]
 · rw[<-e]at m
   rcases zbq _ _ _ p m with m|⟨m1,m2,m3⟩
   · exact .inl m
   · exact .inr ⟨m1,m2,by rw[e]at m3;exact m3⟩
end
abbrev xr(X:Cx)(N:List Str)(scope:Scope)(cl:List (Str×Addr))(s:Shared)(H:Hp)(fp:List Addr):Cx:=
 {X with N:=N,s₀:=s,H₀:=H,env:=We scope X.env cl (s.heap.objs.size+1),outer:=X.stack,ex:=fp,fn:=λx=>scope.names.lookup x==some .cell,pn:=[],xe:=λ_ _=>False}
def ztM(σ:St):Option Nat->Option V
 |none=>none
 |some j=>(σ[j]?).getD none
def vU(cap:List (Option Nat))(σ:St):St:=cap.map (ztM σ)
def Vs(N XN:List Str)(names:List (Str×NameKind))(envNames:List (Str×NameKind))(cap:List (Option Nat)):Bool:=
 N.length==cap.length&&(N.zip cap).all (λp=>match p.2 with|none=>true|some j=>XN[j]? == some p.1&&names.contains (p.1,NameKind.free)) &&
 names.all (λp=>p.2 != .free||envNames.lookup p.1==some .cell||envNames.lookup p.1==some .free)&&decide (names.map (·.1)).Nodup
def PTs(X:Cx)(ifs:List Expr)(t:TT):Prop:=
 ∀(pins:List (Addr×Obj)) (s:Shared) (σ:St) (H:Hp) (Q:Bool->Hp->Prop),Inv X pins σ H s->t σ H Q->
  wpAny (model X.prog X.w) X.A (forIn ifs true λc r=>if r=true then do let ok <-isTrue c X.env (eval c X.env);pure (ForInStep.yield ok)else pure (ForInStep.yield r)) (TP X pins σ Q) X.xe s
def zqh:PTs X [] (λ_ H Q=>Q true H):=λpins s σ H Q I h=>wpAny_tests_nil ⟨H,I,h⟩
def zpv(h:PT X c t):PTs X [c] t:=λpins s σ H Q I q=>wpAny_tests_one (h pins s σ H Q I q)
def zon(wi:TI)(cap:List (Option Nat))(g:TG)(tt:TT)(te:TE):TE:=λσ H Q=>wi σ H λJ H1=>∃W:Nat->Nat->List V->Hp->Prop,(∃m,W 0 m [] H1)/\∀i m ys H,W i m ys H->ys.length<=sizeLine/\
 ((J.stop i H/\∀p,H p=none->Q (.ref p) (upd H p (.lst ys)))\/(J.go i H/\∀x H',J.yld i H x H'->g x (vU cap σ) H' λσ2 H2=>(∀(j:Nat) v,(vU cap σ)[j]? = some (some v)->σ2[j]? = some (some v))/\
   tt σ2 H2 λb H3=>if b=true then ys.length<sizeLine/\te σ2 H3 λy H4=>∃m',m'<m/\W (i+1) m' (ys++[y]) H4 else ∃m',m'<m/\W (i+1) m' ys H3))
section
variable{prog:Program}{w:World}{A:Around}{E:Value->Shared->Prop}{R:Result->Shared->Prop}{s:Shared}
def zgq(I:Nat->Shared->Prop)
 (turn:∀n s (E:Value->Shared->Prop),I n s->wpAny (model prog w) A (pyNext it) (λr s₁=>match r with
  |none=>R (.ok .next) s₁
  |some v=>wpAny (model prog w) A (letOwnedTupleGo target it v) (λ_ s₁=>wpAny (model prog w) A (assign target env v) (λ_ s₂=>
   wpAny (model prog w) A (forIn ifs true λc r=>if r=true then do let ok <-isTrue c env (eval c env);pure (ForInStep.yield ok)else pure (ForInStep.yield r)) (λok s₃=>
    if ok=true then wpAny (model prog w) A (eval elt env) (λx s₄=>
     wpAny (model prog w) A (call (.builtin "list.append") [acc,x]) (λ_ s₅=>∃m,m<n/\I m s₅) E s₄) E s₃
    else ∃m,m<n/\I m s₃) E s₂) E s₁) E s₁) E s)
 (n:Nat) (h:I n s):
 codeAny (model prog w) A (.compLoop (.ListComp elt [⟨target,iter,ifs,0⟩] scope pos) 0 it acc env) R s:=by
 refine codeAny_loop rfl I (λn s hI=>?_) n h;show wpAny _ A ((compTurn (.ListComp elt [⟨target,iter,ifs,0⟩] scope pos) 0 it acc env).onRaise (λx=>do noteFrame x env;theTreesLotGoes x)) _ _ s;refine wpAny_noted ?_;rw[compTurn_list];refine zxE (wpAny_standAt (zxE (zxO (turn n s _ hI) (λr s₁ h₁=>?_) λ_ _ h'=>h')));cases r with
 |none=>exact zxF h₁
 |some v=>
  refine zxE (zxO h₁ (λ_ s₁ h₁=>?_) λ_ _ h'=>h');refine zxE (zxO h₁ (λ_ s₂ h₂=>zxE (zxO h₂ (λok s₃ h₃=>?_) λ_ _ h'=>h')) λ_ _ h'=>h');cases ok with
  |false=>exact zxF ⟨rfl,h₃⟩
  |true=>
   exact zxE (zxE (zxO h₃ (λx s₄ h₄=>zxE (zxO h₄ (λ_ s₅ h₅=>zxF (zxF ⟨rfl,h₅⟩)) λ_ _ h'=>h')) λ_ _ h'=>h'))
end
structure CapOk(N XN:List Str)(names:List (Str×NameKind))(envNames:List (Str×NameKind))(cap:List (Option Nat)):Prop where
 len:N.length=cap.length
 at_:∀(i:Nat) x (j:Nat),N[i]? = some x->cap[i]? = some (some j)->XN[j]? = some x/\(x,NameKind.free) ∈ names
 fr:∀p ∈ names,p.2 = .free->envNames.lookup p.1=some .cell\/envNames.lookup p.1=some .free
 nd:(names.map (·.1)).Nodup
def zih(h:Vs N XN names envNames cap=true):CapOk N XN names envNames cap:=by
 unfold Vs at h;simp only[zyA,beq_iff_eq,List.all_eq_true,decide_eq_true_eq]at h;obtain⟨⟨⟨h1,h2⟩,h3⟩,h4⟩:=h;refine⟨h1,λi x j e1 e2=>?_,λp hp e=>?_,h4⟩
 · have m:(x,some j) ∈ N.zip cap:=zzY (i:=i) (by rw[List.getElem?_zip_eq_some];exact⟨e1,e2⟩);have:=h2 _ m;simp only[zyA,beq_iff_eq]at this;exact⟨this.1,by simpa using this.2⟩
 · have:=h3 p hp;rw[e]at this;simpa using this
def zgu{names:List (Str×NameKind)}(h:(names.map (·.1)).Nodup){x:Str}{k k':NameKind}(m:(x,k) ∈ names)(m':(x,k') ∈ names):k=k':=by
 induction names with
 |nil=>cases m
 |cons p r ih=>
  obtain⟨h1,h2⟩:=zzU.mp (show(p.1::r.map (·.1)).Nodup from h)
  rcases zzA.mp m with e|m
  · rcases zzA.mp m' with e'|m'
    · rw[<-e]at e';cases e';rfl
    · exact absurd (zxC.mpr ⟨_,m',by rw[<-e]⟩) h1
  · rcases zzA.mp m' with e'|m'
    · exact absurd (zxC.mpr ⟨_,m,by rw[<-e']⟩) h1
    · exact ih h2 m m'
def zbi{names:List (Str×NameKind)}(h:(names.map (·.1)).Nodup){x:Str}{k:NameKind}(m:(x,k) ∈ names):names.lookup x=some k:=
 Ym (λp hp e=>by obtain⟨y,k'⟩:=p;cases(show y=x from e);exact zgu h hp m) ⟨k,m⟩
def WM(x:Str):(relabel scope env).names.lookup x=(scope.names.lookup x).map λk=>if(k == .free&&env.scope.kind == .function&&env.kindOf x==some .cell)=true then NameKind.cell else k:=by
 unfold relabel;show(scope.names.map _).lookup x=_;generalize scope.names=names
 induction names with
 |nil=>rfl
 |cons p r ih=>
  obtain⟨n,k⟩:=p;rw[zyQ,List.lookup_cons (k:=n) (as:=r)];cases hb:x==n with
  |true=>
   have e:x=n:=beq_iff_eq.mp hb;subst e;show List.lookup x ((if(k==NameKind.free&&env.scope.kind == .function&&env.kindOf x==some .cell)=true then(x,NameKind.cell)else(x,k))::_)=_;show _=some (if(k==NameKind.free&&env.scope.kind == .function&&env.kindOf x==some .cell)=true then NameKind.cell else k)
   split
   · rw[List.lookup_cons,hb]
   · rw[List.lookup_cons,hb]
  |false=>
   show List.lookup x ((if(k==NameKind.free&&env.scope.kind == .function&&env.kindOf n==some .cell)=true then(n,NameKind.cell)else(n,k))::_)=_
   split
   · rw[List.lookup_cons,hb];exact ih
   · rw[List.lookup_cons,hb];exact ih
def zjD{X:Cx}{pins:List (Addr×Obj)}{σ:St}{H:Hp}{s:Shared}{N:List Str}{scope:Scope}{cap:List (Option Nat)}{fp:List Addr}{h':Heap}(I:Inv X pins σ H s)(C:CapOk N X.N scope.names X.env.scope.names cap)(hk:scope.kind = .function)
 (hf:∀b ∈ fp,zcR X pins H b) (ho:∀b ∈ fp,∃o,s.heap.get? b=some o)
 (old:∀b o,s.heap.get? b=some o->h'.get? b=some o) (ns:h'.Ns (s.heap.objs.size+1) (λ_=>none))
 (hc:∀p ∈ cellsFrom (s.heap.objs.size+1+1) scope.names (wW X.env scope.names []),p ∈ wW X.env scope.names []\/((p.1,NameKind.cell) ∈ scope.names/\h'.IsCell p.2 none/\s.heap.objs.size+1+1<=p.2)):
 Inv (xr X N scope (wW X.env scope.names []) s H fp) [] (vU cap σ) H {s with heap:=h'}:=by
 have has:∀x,(x,NameKind.free) ∈ scope.names->∃c,X.env.cells.lookup x=some c:=λx m=>I.ok.has x (C.fr _ m rfl);have clo:∀p ∈ wW X.env scope.names [],X.env.cells.lookup p.1=some p.2/\(p.1,NameKind.free) ∈ scope.names:=λp m=>by
  rcases zfy _ _ p m with z|⟨z1,z2⟩
  · cases z
  · obtain⟨c,e⟩:=has _ z1;rw[e]at z2;exact⟨by rw[e];exact congrArg some z2.symm,z1⟩
 have look:∀x c,(cellsFrom (s.heap.objs.size+1+1) scope.names (wW X.env scope.names [])).lookup x=some c->(X.env.cells.lookup x=some c/\(x,NameKind.free) ∈ scope.names)\/((x,NameKind.cell) ∈ scope.names/\h'.IsCell c none/\s.heap.objs.size+1+1<=c):=λx c e=>by
  rcases hc _ (mem_of_lookup e)with m|m
  · exact .inl (clo _ m)
  · exact .inr m
 have lt:∀x c,X.env.cells.lookup x=some c->c<s.heap.objs.size:=λx c e=>by obtain⟨v,z⟩:=I.cell x c e;exact z.lt
 have lookF:∀x,(x,NameKind.free) ∈ scope.names->∃c,(cellsFrom (s.heap.objs.size+1+1) scope.names (wW X.env scope.names [])).lookup x=some c/\X.env.cells.lookup x=some c:=λx m=>by
  obtain⟨c,e⟩:=has x m;have m1:=YX scope.names (s.heap.objs.size+1+1) _ _ (zfx (env:=X.env) scope.names [] x m);refine⟨c,Ym (λp hp ep=>?_) ⟨_,m1⟩,e⟩
  rcases hc p hp with z|z
  · have:=(clo p z).1;rw[ep,e]at this;exact(zzX this).symm
  · rw[ep]at z;exact absurd (zgu C.nd z.1 m) (by decide)
 have kinds:∀x,((relabel scope X.env).names.lookup x=some .cell\/(relabel scope X.env).names.lookup x=some .free)->(x,NameKind.free) ∈ scope.names\/(x,NameKind.cell) ∈ scope.names:=λx h=>by
  rw[WM]at h;cases e:scope.names.lookup x with
  |none=>rw[e]at h;rcases h with h|h<;>cases h
  |some k=>
   have m:=mem_of_lookup e;cases k with
   |free=>exact .inl m
   |cell=>exact .inr m
   |_=>rw[e]at h;rcases h with h|h<;>(simp at h)
 have lsz:s.heap.objs.size+1<h'.objs.size:=ns.lt;refine⟨⟨I.ok.mod,hk,I.ok.glob,I.ok.blt,zyV _, ?_, ?_, ?_,I.ok.hd,I.ok.frames,.inl rfl, ?_,I.bs,zzM I.ok.bsz I.sz, ?_, ?_,I.stack,I.stkFree⟩,rfl,I.bare,(Un.kept old),⟨_,ns, ?_⟩, ?_,I.hok.fresh (zyV _), ?_,(λ_ z=>nomatch z),I.hok.kept old, ?_⟩
 · intro x y c e1 e2;refine zbu scope.names (s.heap.objs.size+1+1) _ (λp m=>?_) (λp m q m' e=>?_) (x,c) (mem_of_lookup e1) (y,c) (mem_of_lookup e2) rfl
   · exact zyZ (zyZ (lt _ _ (clo p m).1))
   · refine I.ok.inj _ _ _ (clo p m).1 ?_;rw[e];exact(clo q m').1
 · intro x h
   rcases kinds x h with m|m
   · obtain⟨c,e,_⟩:=lookF x m;exact⟨c,e⟩
   · obtain⟨c,e⟩:=zbe scope.names (s.heap.objs.size+1+1) (wW X.env scope.names []) x m;cases q:(cellsFrom (s.heap.objs.size+1+1) scope.names (wW X.env scope.names [])).lookup x with
     |some c'=>exact⟨c',q⟩
     |none=>
      exfalso;have:=List.lookup_eq_none_iff.mp q (x,c) e;simp at this
 · intro x c hx e;have hx:(scope.names.lookup x==some .cell)=true:=hx;have m:=mem_of_lookup (beq_iff_eq.mp hx)
   rcases look x c e with z|z
   · exact absurd (zgu C.nd z.2 m) (by decide)
   · exact zzM (zzM (zyV _) (zyV _)) z.2.2
 · intro b hb;obtain⟨o,e⟩:=ho b hb;refine⟨zzO (zyZ (zxH e)),λx c ec=>?_⟩
   rcases look x c ec with z|z
   · exact(hf b hb).2.2.2.2.1 x c z.1
   · have:=zxH e;intro q;subst q;exact absurd (zzI this (zzM (zzM (zyV _) (zyV _)) z.2.2)) (Nat.lt_irrefl _)
 · intro b o e hb
   rcases(hf b hb).2.2.2.1 with z|z
   · exact I.ok.noex b o e z
   · exact absurd (zzI (zxH e) (zzM I.ok.bsz z)) (Nat.lt_irrefl _)
 · intro b hb hm
   rcases zzA.mp (I.stkSub b hm)with z|z
   · exact(hf b hb).2.1 z
   · exact(hf b hb).2.2.1 z
 · intro i x v e1 e2 e3;have e2:(vU cap σ)[i]? = some (some v):=e2;unfold vU at e2;rw[zzG]at e2;cases ec:cap[i]? with
   |none=>rw[ec]at e2;cases e2
   |some c=>
    cases c with
    |none=>rw[ec]at e2;cases e2
    |some j=>
     rw[ec]at e2;have e2:(σ[j]?).getD none=some v:=zzX e2;obtain⟨xn,m⟩:=C.at_ i x j e1 ec;have es:σ[j]? = some (some v):=by
      cases q:σ[j]? with
      |none=>rw[q]at e2;cases e2
      |some y=>rw[q]at e2;exact congrArg some e2
     have kf:=C.fr _ m rfl;obtain⟨mm,hn,hl⟩:=I.loc;obtain⟨u,r,l⟩:=hl j x v xn es (by rcases kf with k|k;exact .inr (.inl k);exact .inr (.inr k));refine⟨u,r,.inr ⟨?_, ?_⟩⟩
     · show(relabel scope X.env).names.lookup x=some .cell\/(relabel scope X.env).names.lookup x=some .free;rw[WM,zbi C.nd m];show some (if _ then _ else _)=_\/some (if _ then _ else _)=_
       split
       · exact .inl rfl
       · exact .inr rfl
     · obtain⟨c,ec,eo⟩:=lookF x m;refine⟨c,ec, ?_⟩
       rcases l with⟨k1,_⟩|⟨_,c2,e4,z⟩
       · have k1:X.env.scope.names.lookup x=some .local:=k1
         rcases kf with k|k<;>(rw[k1]at k;cases k)
       · rw[eo]at e4;cases e4;exact z.keeps old
 · intro x c e
   rcases look x c e with z|z
   · obtain⟨v,q⟩:=I.cell x c z.1;exact⟨v,q.keeps old⟩
   · exact⟨none,z.2.1⟩
 · intro x c e
   rcases look x c e with z|z
   · exact I.freeC x c z.1
   · exact I.hok.fresh (zzM (zzM (zyV _) (zyV _)) z.2.2)
 · show(vU cap σ).length=N.length;unfold vU;rw[zD,C.len]
abbrev lobj(its:List Value):Obj:={cls:=.type "list",data:=.seq its.toArray its.length}
section
variable{X:Cx}{pins:List (Addr×Obj)}{σ:St}{H2:Hp}{s2:Shared}{elt tg iter:Expr}{ifs:List Expr}{scope:Scope}{pos:Pos}{N:List Str}{cap:List (Option Nat)}{g:TG}{tt:TT}{te:TE}{wi:TI}
set_option maxHeartbeats 1000000
def zeq{J:It}{it:Addr}{fp:List Addr}{tn:Nat->Heap->Prop}{Q:VK}{R:Value->Addr->Result->Shared->Prop}{E:Value->Shared->Prop}
 (hc:X.calm=true) (C:CapOk N X.N scope.names X.env.scope.names cap) (hk:scope.kind = .function)
 (hg:∀cl s H fp,PG (xr X N scope cl s H fp) tg g) (ht:∀cl s H fp,PTs (xr X N scope cl s H fp) ifs tt) (he:∀cl s H fp,PE (xr X N scope cl s H fp) elt te)
 (I2:Inv X pins σ H2 s2) (T:Turn X.prog X.w X.K tg J fp it tn) (st2:tn 0 s2.heap) (f2:∀b ∈ fp,zcR X pins H2 b)
 (W:Nat->Nat->List V->Hp->Prop) (m0:Nat) (w0:W 0 m0 [] H2)
 (turn:∀i m ys H,W i m ys H->ys.length<=sizeLine/\((J.stop i H/\∀p,H p=none->Q (.ref p) (upd H p (.lst ys)))\/(J.go i H/\∀x H',J.yld i H x H'->g x (vU cap σ) H' λσ2 H2=>(∀(j:Nat) v,(vU cap σ)[j]? = some (some v)->σ2[j]? = some (some v))/\
  tt σ2 H2 λb H3=>if b=true then ys.length<sizeLine/\te σ2 H3 λy H4=>∃m',m'<m/\W (i+1) m' (ys++[y]) H4 else ∃m',m'<m/\W (i+1) m' ys H3)))
 (fin:∀ys H3 s1 m,Inv X pins σ (upd H3 s2.heap.objs.size (.lst ys)) s1->s1.heap.Ns (s2.heap.objs.size+1) m->zcR X pins (upd H3 s2.heap.objs.size (.lst ys)) (s2.heap.objs.size+1)->
  Q (.ref s2.heap.objs.size) (upd H3 s2.heap.objs.size (.lst ys))->R (.ref s2.heap.objs.size) (s2.heap.objs.size+1) (.ok .next) s1):
 wpAny (model X.prog X.w) X.A (newList []) (λacc s₃=>wpAny (model X.prog X.w) X.A (newFunctionEnv scope X.env.globals (wW X.env scope.names []) [] X.env.qual none .none (some X.env)) (λcenv s₄=>
  codeAny (model X.prog X.w) X.A (.compStart (.ListComp elt [⟨tg,iter,ifs,0⟩] scope pos) 0 (.ref it) acc {cenv with scope:=relabel scope X.env}) (R acc cenv.locals) s₄) E s₃) E s2:=by
 refine zxJ (zgz λh' env' eE eL old hns hcells=>?_);have e1:(s2.heap.push {cls:=.type "list",dict:=none,data:=.seq ([]:List Value).toArray}).objs.size=s2.heap.objs.size+1:=zxM ..;dsimp only at eE eL old hns hcells;rw[e1]at eE eL hns hcells;have hD0:(s2.heap.push {cls:=.type "list",dict:=none,data:=.seq ([]:List Value).toArray}).get? s2.heap.objs.size=some (lobj []):=zxI _ rfl;have hD:h'.get? s2.heap.objs.size=some (lobj []):=old _ _ hD0;have old':∀b o,s2.heap.get? b=some o->h'.get? b=some o:=λb o q=>old b o (zxG _ q);have fex:∀b ∈ fp,∃o,s2.heap.get? b=some o:=λb hb=>by obtain⟨o,e,_⟩:=T.obj _ _ st2 b hb;exact⟨o,e⟩
 have flt:∀b ∈ fp,b<s2.heap.objs.size:=λb hb=>by obtain⟨o,e⟩:=fex b hb;exact zxH e
 have I':=zjD I2 C hk f2 fex old' hns hcells;rw[eE,eL];generalize hX:xr X N scope (wW X.env scope.names []) s2 H2 fp=X' at I';have xP:X'.prog=X.prog:=by rw[<-hX]
 have xw:X'.w=X.w:=by rw[<-hX]
 have xK:X'.K=X.K:=by rw[<-hX]
 have xA:X'.A=X.A:=by rw[<-hX]
 have xe:X'.env=We scope X.env (wW X.env scope.names []) (s2.heap.objs.size+1):=by rw[<-hX]
 have xL:X'.env.locals=s2.heap.objs.size+1:=by rw[xe];rfl
 have xfs:X'.fs=frs X.stack:=by rw[<-hX]
 have xex:X'.ex=fp:=by rw[<-hX]
 have xs:X'.s₀=s2:=by rw[<-hX]
 have xH:X'.H₀=H2:=by rw[<-hX]
 have xpn:X'.pn=[]:=by rw[<-hX]
 have xc:X'.calm=true:=by rw[<-hX];exact hc
 have xE:X'.xe=λ_ _=>False:=by rw[<-hX]
 have hg':PG X' tg g:=by rw[<-hX];exact hg _ _ _ _
 have ht':PTs X' ifs tt:=by rw[<-hX];exact ht _ _ _ _
 have he':PE X' elt te:=by rw[<-hX];exact he _ _ _ _
 have H2D:H2 s2.heap.objs.size=none:=I2.hok.fresh (zzL _);have Dfs:s2.heap.objs.size ∉ X'.fs:=by
  rw[xfs];intro hm
  rcases zzA.mp (I2.stkSub _ hm)with z|z
  · exact absurd I2.lt (by rw[<-z];exact Nat.lt_irrefl _)
  · exact I2.nofs (zzL _) z
 have DL:s2.heap.objs.size≠X'.env.locals:=by rw[xL];exact zzO (Nat.lt_succ_self _)
 have pinD:∀{σ':St}{H':Hp}{s':Shared}{its:List Value}{ps:List (Addr×Obj)},Inv X' ps σ' H' s'->s'.heap.get? s2.heap.objs.size=some (lobj its)->H' s2.heap.objs.size=none->Inv X' [(s2.heap.objs.size,lobj its)] σ' H' s':=λI e n=>
  I.pins_of λp hp=>by
   cases zzP.mp hp;exact⟨e,n,DL,Dfs,λv z=>by cases z⟩
 have stat:∀{H':Hp}{its:List Value},(∀b ∈ fp,H' b=none)->∀b ∈ fp,zcR X' [(s2.heap.objs.size,lobj its)] H' b:=λhn b hb=>by
  refine⟨hn b hb, ?_, ?_,.inl (by rw[xex];exact hb),(I'.ok.exf b (by rw[xex];exact hb)).2,λp hp=>?_⟩
  · exact(I'.ok.exf b (by rw[xex];exact hb)).1
  · exact I'.ok.exfs b (by rw[xex];exact hb)
  · rw[xpn,List.nil_append]at hp;cases zzP.mp hp;exact Nat.ne_of_gt (flt b hb)
 have loop:∀(n:Nat) (s':Shared),(∃i ys its H3,Inv X' [(s2.heap.objs.size,lobj its)] (vU cap σ) H3 s'/\tn i s'.heap/\(∀b ∈ fp,H3 b=none)/\Vals ys its/\W i n ys H3)->
  codeAny (model X.prog X.w) X.A (.compLoop (.ListComp elt [⟨tg,iter,ifs,0⟩] scope pos) 0 (.ref it) (.ref s2.heap.objs.size) (We scope X.env (wW X.env scope.names []) (s2.heap.objs.size+1)))
   (R (.ref s2.heap.objs.size) (s2.heap.objs.size+1)) s':=by
  intro n s' h0;refine zgq (λn s'=>∃i ys its H3,Inv X' [(s2.heap.objs.size,lobj its)] (vU cap σ) H3 s'/\tn i s'.heap/\(∀b ∈ fp,H3 b=none)/\Vals ys its/\W i n ys H3) ?_ n h0;clear h0 n s'
  rintro n s3 E' ⟨i,ys,its,H3,I3,st3,fr3,rv3,w3⟩
  obtain⟨hz,hstep⟩:=turn i n ys H3 w3
  rcases hstep with⟨stop,qn⟩|⟨go,step⟩
  · have:=T.done X' xP xw xK xc i _ s3 _ H3 E' I3 (stat fr3) st3 stop;rw[xA]at this;refine zxO this (λr s4 ⟨hr,I4⟩=>?_) λ_ _ z=>z;subst hr;obtain⟨gD,nD,_⟩:=I4.pin (s2.heap.objs.size,lobj its) (by rw[xpn];simp);obtain⟨m,hn,_⟩:=I4.loc;rw[xL]at hn;have b4:=I4.base;rw[xfs,xex,xH,xs]at b4;have nL:H3 (s2.heap.objs.size+1)=none:=by have:=I4.free;rw[xL]at this;exact this
    have neD:∀b o,s2.heap.get? b=some o->b≠s2.heap.objs.size:=λb o e=>zzO (zxH e);have neH:∀b u,H2 b=some u->b≠s2.heap.objs.size:=λb u e z=>by rw[z,H2D]at e;cases e
    have ne3:∀b u,H3 b=some u->b≠s2.heap.objs.size:=λb u e z=>by rw[z,nD]at e;cases e
    have hok4:=I4.hok;rw[xP,xw]at hok4;refine fin ys H3 s4 m (I2.call' (ch:=fp) ?_ ⟨b4.keep,b4.slot,λb o e n hx=>?_,b4.there,λb xs e=>?_,λb o u e=>?_,λb ps e=>?_⟩ ?_ I4.bare λb hb=>?_) hn (I2.fpOk (zyV _) (by rw[zH (Nat.ne_of_gt (Nat.lt_succ_self _))];exact nL)) (qn _ nD)
    · have:=I4.os;rw[xs]at this;exact this
    · rw[zH (neD b o e)];exact b4.free b o e n hx
    · rw[zH (neH b _ e)];exact b4.tups b xs e
    · rw[zH (neH b _ e)];exact b4.frzs b o u e
    · rw[zH (neH b _ e)];exact b4.tbls b ps e
    · intro b u e
      by_cases hb:b=s2.heap.objs.size
      · subst hb;rw[zT]at e;cases e;exact⟨hz,its,its.length,rv3,gD⟩
      · rw[zH hb]at e;exact(hok4 b u e).stay (λc v _ q=>q) (λc q=>by rw[zH (ne3 c _ q)];exact q) λc xs q=>by rw[zH (ne3 c _ q)];exact q
    · obtain⟨f0,f1,f3,f4,f5,f6⟩:=f2 b hb;exact⟨f4,f1,f5,f6⟩
  · have:=T.item X' xP xw xK xc i _ s3 _ H3 E' I3 (stat fr3) st3 go;rw[xA]at this;refine zxO this (λr s4 ⟨u,hr,h4⟩=>?_) λ_ _ z=>z;subst hr;refine zxO h4 (λ_ s5 ⟨x,H5,I5,r5,y5,st5,fr5⟩=>?_) λ_ _ z=>z;have I5':=I5.pinned (stat fr5) (T.obj _ _ st5);have h6:=hg' _ s5 _ H5 x u _ I5' r5 (step x H5 y5);rw[xP,xw,xA,xe,xE]at h6;refine zxO h6 (λ_ s6 ⟨σ6,H6,I6,cap6,q6⟩=>?_) λ_ _ z=>z.elim;have h7:=ht' _ s6 σ6 H6 _ I6 q6;rw[xP,xw,xA,xe,xE]at h7;refine zxO h7 (λb s7 ⟨H7,I7,q7⟩=>?_) λ_ _ z=>z.elim;have keep:∀{H8:Hp}{s8:Shared},Inv X' ([(s2.heap.objs.size,lobj its)]++zeA fp s5.heap) σ6 H8 s8->Inv X' [(s2.heap.objs.size,lobj its)] (vU cap σ) H8 s8/\tn (i+1) s8.heap/\∀b ∈ fp,H8 b=none:=λ{H8 s8} I8=>by
     refine⟨I8.unpinned.weak ?_ cap6,T.keep _ _ _ st5 λb hb o e=>(I8.pin (b,o) (zzJ _ (zzJ _ (YT hb e)))).1,λb hb=>?_⟩
     · rw[I3.len];exact I8.len.symm
     · obtain⟨o,e,d⟩:=T.obj _ _ st5 b hb;exact(I8.pin (b,o) (zzJ _ (zzJ _ (YT hb e)))).2.1
    cases b with
    |false=>
     obtain⟨m',hm,w7⟩:=q7;obtain⟨k1,k2,k3⟩:=keep I7;exact⟨m',hm,i+1,ys,its,H7,k1,k2,k3,rv3,w7⟩
    |true=>
     obtain⟨hz2,q7⟩:=q7;have h8:=he' _ s7 σ6 H7 _ I7 q7;rw[xP,xw,xA,xe,xE]at h8;show wpAny _ _ _ _ _ _;refine zxO h8 (λyv s8 ⟨y,H8,I8,ry,m',hm,w8⟩=>?_) λ_ _ z=>z.elim;obtain⟨k1,k2,k3⟩:=keep I8;obtain⟨gD,nD,_⟩:=k1.pin (s2.heap.objs.size,lobj its) (by rw[xpn];simp);have hl:=rv3.length;refine append_at gD (λh9 sb gD9=>?_) (by rw[zzF];omega);have I9:Inv X' [] (vU cap σ) H8 {s8 with heap:=h9}:=(k1.pins_of (pins':=[]) (λ_ z=>nomatch z)).turned (t':=s8.toks) (it:=s2.heap.objs.size) (λb o hb e=>(sb.2 b hb).trans e) nD DL (.inr (by rw[xs];exact zzL _)) (λx c ec z=>by
      obtain⟨v,o,ho,hd⟩:=k1.cell x c ec;rw[z,gD]at ho;cases ho;cases hd) (λp hp=>by rw[xpn]at hp;cases hp)
     have gD9':h9.get? s2.heap.objs.size=some (lobj (its++[yv])):=by
      rw[gD9]
      congr 1
      show({cls:=.type "list",data:=.seq (its.toArray.push yv) (its.length+1)}:Obj)={cls:=.type "list",data:=.seq (its++[yv]).toArray (its++[yv]).length};rw[zzH,List.length_singleton,List.push_toArray]
     refine⟨m',hm,i+1,ys++[y],its++[yv],H8,pinD I9 gD9' nD,T.keep _ _ _ k2 λb hb o e=>(sb.2 b (zzO (flt b hb))).trans e,k3,rv3.append (.cons ry .nil),w8⟩
 have start:∃i ys its H3,Inv X' [(s2.heap.objs.size,lobj its)] (vU cap σ) H3 {s2 with heap:=h'}/\tn i h'/\(∀b ∈ fp,H3 b=none)/\Vals ys its/\W i m0 ys H3:=
  ⟨0,[],[],H2,pinD I' hD H2D,T.keep _ _ _ st2 λb hb o e=>old' b o e,λb hb=>(f2 b hb).1,.nil,w0⟩
 exact codeAny_compStart_list (loop m0 _ start) (T.self _ 0 _ _ _ (T.keep _ _ _ st2 λb hb o e=>old' b o e) (loop m0 _ start))
def zpZ(hc:X.calm=true)(hi:PI X tg iter wi)(hk:scope.kind = .function)(hcap:Vs N X.N scope.names X.env.scope.names cap=true)
 (hg:∀cl s H fp,PG (xr X N scope cl s H fp) tg g) (ht:∀cl s H fp,PTs (xr X N scope cl s H fp) ifs tt) (he:∀cl s H fp,PE (xr X N scope cl s H fp) elt te)
 (hs:∀x,foldedSetIterable iter X.env x=pure x):PE X (.ListComp elt [⟨tg,iter,ifs,0⟩] scope pos) (zon wi cap g tt te):=by
 intro pins s σ H Q I h;have C:=zih hcap;rw[eval_ListComp];refine wpAny_comprehension_free (use:=none) rfl hs (Vr λx m e=>I.ok.has x.1 (C.fr x m e)) hk (λy m e=>zbi C.nd (by rw[<-e];exact m)) ?_;refine thn (hi pins s σ H _ I h) λv s1 h1=>thn h1 λitv s2 h2=>?_;obtain⟨it,fp,tn,J,H2,e,I2,T,st2,f2,W,⟨m0,w0⟩,turn⟩:=h2;subst e;refine zeq (R:=λacc C r s'=>compPost (model X.prog X.w) X.A X.xe none (EP X pins σ Q) acc C r s') hc C hk hg ht he I2 T st2 f2 W m0 w0 turn λys H3 s3 m I3 hn fl q=>?_;refine⟨m,hn,λh' sb=>?_⟩;obtain⟨f0,f1,f3,f4,f5,f6⟩:=fl;exact⟨.ref s2.heap.objs.size,_,I3.turned (t':=s3.toks) (λb o hb e=>(sb.2 b hb).trans e) f0 f1 f4 f5 f6,rfl,q⟩
def zpT(hN:X.N.Nodup)(hiy:X.N[i]? = some y)(hy:Loc X.env.scope y)(hf:X.fn y=true\/X.env.scope.names.lookup y=some .local)
 (hsw:swapsWith (.ListComp elt [⟨tg,iter,ifs,0⟩] scope pos) (some (.Name y py)) spos.line X.env=pure true)
 (hc:X.calm=true) (hi:PI X tg iter wi) (hk:scope.kind = .function) (hcap:Vs N X.N scope.names X.env.scope.names cap=true)
 (hg:∀cl s H fp,PG (xr X N scope cl s H fp) tg g) (ht:∀cl s H fp,PTs (xr X N scope cl s H fp) ifs tt) (he:∀cl s H fp,PE (xr X N scope cl s H fp) elt te)
 (hs:∀x,foldedSetIterable iter X.env x=pure x):PS X (.Assign [.Name y py] (.ListComp elt [⟨tg,iter,ifs,0⟩] scope pos) spos) (zsY (zon wi cap g tt te) (ziv i)):=by
 intro pins s σ H D I h;have C:=zih hcap;rw[exec_Assign_Name_used _ _ _ _ hsw];refine zxE (wpAny_standAt (zxE ?_));show wpAny _ X.A (do let _ <-comprehension (.ListComp elt [⟨tg,iter,ifs,0⟩] scope pos) scope X.env _ (newList []) false (eval iter X.env) (some (assign (.Name y py) X.env))) _ _ s;refine zxE (zxO (wpAny_comprehension_free (use:=some (assign (.Name y py) X.env)) (Q:=λ_ s'=>SP X pins D .next s') rfl hs (Vr λx m e=>I.ok.has x.1 (C.fr x m e)) hk (λy m e=>zbi C.nd (by rw[<-e];exact m)) ?_) (λ_ s' hq=>zxF (zxF hq)) λ_ _ e=>e);refine thn (hi pins s σ H _ I h) λv s1 h1=>thn h1 λitv s2 h2=>?_;obtain⟨it,fp,tn,J,H2,e,I2,T,st2,f2,W,⟨m0,w0⟩,turn⟩:=h2;subst e;refine zeq (Q:=λx H1=>ziv i x σ H1 D.nx) (R:=λacc C r s'=>compPost (model X.prog X.w) X.A X.xe (some (assign (.Name y py) X.env)) (λ_ s'=>SP X pins D .next s') acc C r s') hc C hk hg ht he I2 T st2 f2 W m0 w0 turn λys H3 s3 m I3 hn fl q=>?_;obtain⟨f0,f1,f3,f4,f5,f6⟩:=fl;refine wpAny_assign_Name (zbw I3 hN hiy hy (v:=.ref s2.heap.objs.size) rfl (λs4 I4 ⟨a,sb,ha⟩=>?_) hf);refine⟨m,hn.sameBut sb (λz=>?_),λh' sb'=>?_⟩
 · rcases ha with ha|ha
   · exact f1 (z.trans ha)
   · exact f5 y a ha z.symm
 · exact⟨_,_,I4.turned (t':=s4.toks) (λb o hb e=>(sb'.2 b hb).trans e) f0 f1 f4 f5 f6,q⟩
end
structure ItC(K:zC)(kd:KD)(F:Addr->Prop)(H:Hp)(J:It)(ds:List It1):Prop where
 all:∀(H2:Hp) (T:Addr->Prop),(∀b u,H b=some u->H2 b=some u)->(∀a,T a->H a=none/\H2 a≠none)->∀i,(i<ds.length->J.go i H2)/\(ds.length<=i->J.stop i H2)/\
  ∀v H3,J.yld i H2 v H3->(∀b o,H2 b=some o->H3 b=some o)/\∀x,ds[i]? = some x->Rp K kd (λa=>x.1=true/\(F a\/T a)) H3 v x.2
def alC(K:zC)(kd:KD)(f:IF):TI:=λσ H R=>∃F B ad as ds as',Rel K kd F B [] ad as σ H/\f as=some (ds,as')/\
 ∀J ad' H',Rel K kd F B [] ad' as' σ H'->Grow (Gw [] ad) H (Gw [] ad') H'->ItC K kd (Lv F B (Gw [] ad') true) H' J ds->R J H'
@[irreducible] def AIc(X:Cx)(kd:KD)(tg iter:Expr)(f:IF):Prop:=PI X tg iter (alC X.K kd f)
def zbg(os:List O):List It1:=os.map λo=>match o with | .lf st d=>(st,d)|o=>(false,o.toD)
def zvw(as:AS):RV->Option (List It1)
 | .ow o=>zhQ (o.str,o.toD)
 | .bo i=>match as[i]? with
  |some (some (.nd .ls os))=>some (zbg os)
  |some (some (.nd .tp os))=>some (zbg os)
  |_=>none
def yU(f:EF):IF:=λas=>(f as).bind λp=>(zvw p.2 p.1).bind λds=>some (ds,p.2)
section
variable{K:zC}{kd:KD}{F B:Addr->Prop}{G:Addr->Prop}{T:List Addr}{ad:Ad}{as:AS}{σ:St}{H H':Hp}
inductive RpC(K:zC)(kd:KD)(F:Addr->Prop)(H:Hp):List V->List It1->Prop
 |nil:RpC K kd F H [] []
 |cons {v:V}{x:It1}{vs:List V}{ds:List It1}:Rp K kd (λa=>x.1=true/\F a) H v x.2->RpC K kd F H vs ds->RpC K kd F H (v::vs) (x::ds)
def RpC.length(h:RpC K kd F H vs ds):vs.length=ds.length:=by
 induction h with
 |nil=>rfl
 |cons _ _ ih=>exact congrArg (· + 1) ih
def RpC.get{vs:List V}{ds:List It1}{i:Nat}{x:It1}(h:RpC K kd F H vs ds)(e:ds[i]? = some x):∃v,vs[i]? = some v/\Rp K kd (λa=>x.1=true/\F a) H v x.2:=by
 induction h generalizing i with
 |nil=>simp at e
 |cons h r ih=>
  cases i with
  |zero=>simp at e;subst e;exact⟨_,rfl,h⟩
  |succ i=>
   obtain⟨v,h1,h2⟩:=ih (i:=i) (by simpa using e);exact⟨v,by simpa using h1,h2⟩
def Rp.since{Ob:Addr->Prop}{v:V}{d:D}{T:Addr->Prop}(k:∀b u,H b=some u->H' b=some u)(hT:∀a,T a->H a=none)(h:Rp K kd Ob H v d):Rp K kd (Un2 Ob T) H' v d:=
 Rp.grow (F:=Ob) (W:=λ_=>False) (W':=T) (H':=H') ⟨λb u q _=>k b u q,λb z=>.inr (hT b z)⟩ (h.less λa z=>z.elim id False.elim)
def zfa{st:Bool}{vs:List V}{ds:List D}(h:RpL K kd (Lv F B G st) H vs ds):RpC K kd (Lv F B G true) H vs (kids st ds):=
 RpL.ind (P:=λvs ds=>RpC K kd (Lv F B G true) H vs (kids st ds)) .nil (λ{v d vs ds} h _ ih=>by
  refine .cons (x:=(zZ d||st,d)) ?_ ih;cases e:zZ d with
  |true=>exact h.flat e
  |false=>
   refine h.less λa z=>?_;have zs:st=true:=z.1;rw[zs];exact z.2) h
def zrk{vs:List V}{os:List O}{fp:List Addr}(h:vZ K kd F B G H vs os fp):RpC K kd (Lv F B G true) H vs (zbg os):=
 RoL.ind (P:=λvs os _=>RpC K kd (Lv F B G true) H vs (zbg os)) .nil (λ{v o vs os fp fq} h _ ih=>by
  have ha:=zhg h;refine .cons ?_ ih;cases h with
  |lf rp=>exact rp.less λa z=>(by have zs:=z.1;dsimp only at zs;rw[zs];exact z.2)
  |ls=>exact ha.less λa z=>nomatch z.1
  |dc=>exact ha.less λa z=>nomatch z.1
  |ob=>exact ha.less λa z=>nomatch z.1
  |dt=>exact ha.less λa z=>nomatch z.1
  |tp=>exact ha.less λa z=>nomatch z.1) h
def zeC{a:Addr}{vs:List V}{ds:List It1}(h:SqL K H a vs)(r:RpC K kd F H vs ds):ItC K kd F H (Itl K a) ds:=⟨λH3 T k hT i=>by
 have hr3:SqL K H3 a vs:=by
  rcases h with(h|⟨o,h⟩)|h
  · exact .inl (.inl (k _ _ h))
  · exact .inl (.inr ⟨o,k _ _ h⟩)
  · exact .inr h
 refine⟨λhi=>?_,λhi=>⟨_,hr3,by rw[r.length];exact hi⟩,λv H4 hy=>?_⟩
 · obtain⟨u,hu,_⟩:=r.get (zzC hi);exact⟨_,u,hr3,hu⟩
 · obtain⟨rfl,hv⟩:=hy;refine⟨λ_ _ z=>z,λd hd=>?_⟩;obtain⟨u,hu,ru⟩:=r.get hd;have:=hv _ hr3;rw[hu]at this;cases this;exact(ru.since k λa z=>(hT a z).1).less λa z=>z.2.elim (λy=>.inl ⟨z.1,y⟩) .inr⟩
def zjX{a:Addr}{vs:List V}{ds:List It1}(h:SqT K H a vs)(r:RpC K kd F H vs ds):ItC K kd F H (Itt K a) ds:=⟨λH3 T k hT i=>by
 have hr3:SqT K H3 a vs:=by
  rcases h with(h|⟨o,h⟩)|h
  · exact .inl (.inl (k _ _ h))
  · exact .inl (.inr ⟨o,k _ _ h⟩)
  · exact .inr h
 refine⟨λhi=>?_,λhi=>⟨_,hr3,by rw[r.length];exact hi⟩,λv H4 hy=>?_⟩
 · obtain⟨u,hu,_⟩:=r.get (zzC hi);exact⟨_,u,hr3,hu⟩
 · obtain⟨rfl,hv⟩:=hy;refine⟨λ_ _ z=>z,λd hd=>?_⟩;obtain⟨u,hu,ru⟩:=r.get hd;have:=hv _ hr3;rw[hu]at this;cases this;exact(ru.since k λa z=>(hT a z).1).less λa z=>z.2.elim (λy=>.inl ⟨z.1,y⟩) .inr⟩
def zpS(lo:Int)(n:Nat):ItC K kd F H (Itr lo n) (wg lo n):=⟨λH2 T k hT i=>by
 have hl:(wg lo n).length=n:=by unfold wg;simp
 refine⟨λhi=>by rw[hl]at hi;exact hi,λhi=>by rw[hl]at hi;exact hi,λv H3 hy=>?_⟩;obtain⟨rfl,rfl⟩:=hy;refine⟨λ_ _ z=>z,λd hd=>?_⟩;have hi:i<n:=by rw[<-hl];exact(zzE.mp hd).1
 unfold wg at hd;rw[zzG,List.getElem?_range hi]at hd;cases hd;exact .int _⟩
end
def zhs(he:AE X kd e fa):AIc X kd tg e (yU fa):=by
 with_unfolding_all (
 intro pins s σ H R I h;obtain⟨F,B,ad,as,ds,as',Rl,e,q⟩:=h;obtain⟨⟨p,as1⟩,h1,e⟩:=bS_ (show(fa as).bind _=_ from e);obtain⟨ys,h2,e⟩:=bS_ e;cases e;cases p with
 |ow o=>
  have h2:zhQ (o.str,o.toD)=some ds:=h2;generalize hd:o.toD=d at h2;cases d with
  |lst xs=>
   cases h2;refine zhi he pins s σ H R I ⟨F,B,ad,as,_,as1,Rl,h1,λv T1 ad1 H1 R1 rv1 g1=>?_⟩;have rp:=zjw R1 rv1;rw[hd]at rp;cases rp with
   |lst hn hr rl=>exact⟨_,rfl,⟨_,.inl hr⟩,q _ ad1 H1 R1.drop (g1.trans (Grow.less Gw.drop)) (zeC (.inl hr) (zfa rl))⟩
   |lstK a b c rl=>exact⟨_,rfl,⟨_,.inr ⟨_,_,_,a,rfl,rfl,rfl,b,c⟩⟩,q _ ad1 H1 R1.drop (g1.trans (Grow.less Gw.drop)) (zeC (.inr ⟨_,_,_,a,rfl,rfl,rfl,b,c⟩) (zfa rl))⟩
  |tup xs=>
   cases h2;refine zjy he pins s σ H R I ⟨F,B,ad,as,_,as1,Rl,h1,λv T1 ad1 H1 R1 rv1 g1=>?_⟩;have rp:=zjw R1 rv1;rw[hd]at rp;have go:∃a ys,v = .ref a/\SqT X.K H1 a ys/\RpL X.K kd (Lv F B (Gw [] ad1) o.str) H1 ys xs:=by
    cases rp with
    |tup n h r=>exact⟨_,_,rfl,.inl (.inl h),r⟩
   obtain⟨a,ys,rfl,hs,rl⟩:=go;exact⟨_,rfl,⟨_,hs⟩,q _ ad1 H1 R1.drop (g1.trans (Grow.less Gw.drop)) (zjX hs (zfa rl))⟩
  |_=>cases h2
 |bo i=>
  have h2:(match as1[i]? with|some (some (.nd .ls os))=>some (zbg os)|some (some (.nd .tp os))=>some (zbg os)|_=>none)=some ds:=h2;cases k:as1[i]? with
  |none=>rw[k]at h2;cases h2
  |some s0=>
   rw[k]at h2
   match s0,h2,k with
   |some (.nd .ls os),h2,k=>
    cases h2;refine zhi he pins s σ H R I ⟨F,B,ad,as,_,as1,Rl,h1,λv T1 ad1 H1 R1 rv1 g1=>?_⟩;obtain⟨rfl,hs⟩:=rv1;obtain⟨w,hw,ro⟩:=R1.sl i _ k;rw[hs]at hw;cases hw;generalize hfp:ad1 i=fp at ro;cases ro with
    |ls hH rl=>exact⟨_,rfl,⟨_,.inl (.inl hH)⟩,q _ ad1 H1 R1 g1 (zeC (.inl (.inl hH)) (zrk rl))⟩
   |some (.nd .tp os),h2,k=>
    cases h2;refine zjy he pins s σ H R I ⟨F,B,ad,as,_,as1,Rl,h1,λv T1 ad1 H1 R1 rv1 g1=>?_⟩;obtain⟨rfl,hs⟩:=rv1;obtain⟨w,hw,ro⟩:=R1.sl i _ k;rw[hs]at hw;cases hw;generalize hfp:ad1 i=fp at ro;cases ro with
    |tp n hH rl=>exact⟨_,rfl,⟨_,.inl (.inl hH)⟩,q _ ad1 H1 R1 g1 (zjX (.inl (.inl hH)) (zrk rl))⟩)
def zln(hg:Gl X "range")(hm:X.mg "range"=none)(ha:AA X kd [a] fr)(hs:starEach [a] X.env=[(false,eval a X.env)]):AIc X kd tg (.Call (.Name "range" p) [a] [] pos) (yp fr yq):=by
 with_unfolding_all (
 intro pins s σ H R I h;obtain⟨F,B,ad,as,ds,as',Rl,e,q⟩:=h;obtain⟨⟨ps,as1⟩,h1,e⟩:=bS_ (show(fr as).bind _=_ from e);obtain⟨⟨xs,lv⟩,h2,e⟩:=bS_ e;obtain⟨ys,h3,e⟩:=bS_ e;cases e;obtain⟨j,rfl,h3⟩:=zkP h3
 · obtain⟨hj,e3⟩:=zQ h3;cases e3;refine zfM hg hm ha hs pins s σ H R I ⟨F,B,ad,as,ps,_,Rl,h1,λvs ad1 H1 R1 rv1 g1=>?_⟩;have vl:=WR R1 rv1 h2;cases vl with
   |cons v1 v2=>
    cases v2;cases v1;exact⟨j,rfl,hj.1,hj.2,q _ ad1 H1 R1 g1 (zpS 0 _)⟩)
def zvj(as:AS):Option Nat->Option O
 |none=>none
 |some j=>match as[j]? with
  |some (some (.lf st d))=>some (.lf st d)
  |some (some o)=>some (.lf false o.toD)
  |_=>none
def vI(cap:List (Option Nat))(as:AS):AS:=cap.map (zvj as)
def xj(g:GF)(tt:TF)(fe:EF)(as0:AS):List It1->Option (List O)
 | []=>some []
 |x::r=>(g x as0).bind λas1=>(tt as1).bind λb=>if b.1=true then(fe b.2).bind λp=>(toO p.2 p.1).bind λq=>if q.1.str=true then(xj g tt fe as0 r).bind λos=>some (q.1::os)else none
  else xj g tt fe as0 r
def zB(fi:IF)(cap:List (Option Nat))(g:GF)(tt:TF)(fe:EF):EF:=λas=>(fi as).bind λp=>if p.1.length<=sizeLine then(xj g tt fe (vI cap p.2) p.1).bind λos=>some (.ow (.nd .ls os),p.2)else none
def zX:TF:=λas=>some (true,as)
section
variable{K:zC}{kd:KD}{F B:Addr->Prop}{T:List Addr}{ad:Ad}{as:AS}{σ:St}{H H':Hp}{cap:List (Option Nat)}
def zpf(R:Rel K kd F B [] ad as σ H)(k:∀b u,H b=some u->H' b=some u)(hT:∀a ∈ T,H a=none)(hT':∀a ∈ T,H' a≠none):
 Rel K kd (Un2 (Lv F B (Gw [] ad) true) (· ∈ T)) (λ_=>False) [] (λ_=>[]) (vI cap as) (vU cap σ) H':=by
 have no:∀a,¬Gw [] (λ_=>[]) a:=λa z=>z.elim (λy=>nomatch y) λ⟨_,y⟩=>nomatch y;have kn:∀a,H a≠none->H' a≠none:=λa z=>by
  cases e:H a with
  |none=>exact absurd e z
  |some u=>rw[k a u e];simp
 have up:∀{st:Bool}{v:V}{d:D},Rp K kd (λa=>st=true/\Lv F B (Gw [] ad) true a) H v d->Rp K kd (Lv (Un2 (Lv F B (Gw [] ad) true) (· ∈ T)) (λ_=>False) (Gw [] λ_=>[]) st) H' v d:=λ{st v d} h=>by
  have:=Rp.grow (F:=λa=>st=true/\Lv F B (Gw [] ad) true a) (W:=λ_=>False) (W':=(· ∈ T)) (H':=H') ⟨λb u q _=>k b u q,λb z=>.inr (hT b z)⟩ (h.less λa z=>z.elim id False.elim);refine this.less λa z=>?_
  rcases z with(⟨z1,z2⟩|z)|z
  · rcases z2 with z2|z2
    · exact .inl ⟨z1,z2⟩
    · exact .inr z2
  · exact z.elim
  · exact(no a z).elim
 refine⟨by unfold vI vU;rw[zD,zD],λ_ _=>rfl,λ_=>zyH,(λ_ _ _ z=>nomatch z),zyH,(λ_ _ _ z=>nomatch z),λa z=>z.elim (λy=>kn a (R.trk true a y)) (hT' a),(λ_ z=>z.elim),λa z=>(no a z).elim,λi s e=>?_⟩;unfold vI at e;rw[zzG]at e;obtain⟨c,hc,rfl⟩:=zzV.mp e;have es:(vU cap σ)[i]? = some (ztM σ c):=by
  unfold vU;rw[zzG,hc];rfl
 rw[es];cases c with
 |none=>rfl
 |some j=>
  show zfc _ _ _ _ _ _ (match as[j]? with|some (some (.lf st d))=>some (.lf st d)|some (some o)=>some (.lf false o.toD)|_=>none) _ _;cases k2:as[j]? with
  |none=>rfl
  |some s0=>
   cases s0 with
   |none=>rfl
   |some o=>
    obtain⟨v,hv,ro⟩:=R.sl j _ k2;cases o with
    |lf st d=>
     have e0:ad j=[]:=by
      generalize hfp:ad j=fp at ro;cases ro;rfl
     rw[e0]at ro;refine⟨v,by show some ((σ[j]?).getD none)=_;rw[hv];rfl,.lf (up ?_)⟩;exact(zgo ro).less λa z=>by have zs:st=true:=z.1;show Lv F B (Gw [] ad) st a;rw[zs];exact z.2
    |nd kk os=>exact⟨v,by show some ((σ[j]?).getD none)=_;rw[hv];rfl,.lf (up ((zhg ro).less λa z=>nomatch z.1))⟩
def zmT{S:List Nat}{fi:IF}{g:GF}{tt:TF}{fe:EF}{Q:VK}(hS:∀i ∈ S,cap[i]? = some none)(h:al K kd (zB fi cap g tt fe) σ H Q):
 zon (alC K kd fi) cap (alG K kd S g) (alT K kd tt) (al K kd fe) σ H Q:=by
 obtain⟨F,B,ad,as,r,as',R,e,q⟩:=h;obtain⟨⟨ds,as1⟩,h1,e⟩:=bS_ (show(fi as).bind _=_ from e)
 by_cases hz:ds.length<=sizeLine
 · have e:(if ds.length<=sizeLine then(xj g tt fe (vI cap as1) ds).bind λos=>some (RV.ow (.nd .ls os),as1)else none)=some (r,as'):=e;rw[if_pos hz]at e;obtain⟨os,h2,e⟩:=bS_ e;cases e;refine⟨F,B,ad,as,ds,as',R,h1,λJ ad1 H1 R1 g1 it=>?_⟩;refine⟨λi m ys H3=>m+i=ds.length/\∃T os1 os2,os=os1++os2/\xj g tt fe (vI cap as') (ds.drop i)=some os2/\os1.length<=i/\T.Nodup/\(∀a ∈ T,H1 a=none/\H3 a≠none)/\(∀b u,H1 b=some u->H3 b=some u)/\
    RoL (λ_ v d=>Rp K kd (Un2 (Lv F B (Gw [] ad1) true) (· ∈ T)) H3 v d) (λa=>¬Un2 (Lv F B (Gw [] ad1) true) (· ∈ T) a) H3 ys os1 T,⟨ds.length,rfl,[],[],os,rfl,h2,zzL _,zyH,(λ_ m=>nomatch m),(λ_ _ z=>z),.nil⟩, ?_⟩
   rintro i m ys H3 ⟨hm,T,os1,os2,eo,ec,hl,tnd,tf,k3,rl⟩
   obtain⟨i1,i2,i3⟩:=it.all H3 (· ∈ T) k3 tf i;have yl:=rl.length;refine⟨by omega, ?_⟩
   by_cases hi:i<ds.length
   · refine .inr ⟨i1 hi,λv H4 hy=>?_⟩;obtain⟨k4,rp⟩:=i3 v H4 hy;rw[zyO hi]at ec;obtain⟨as2,e2,ec⟩:=bS_ (show(g _ _).bind _=_ from ec);obtain⟨⟨b,as3⟩,e3,ec⟩:=bS_ ec;have k14:∀b u,H1 b=some u->H4 b=some u:=λb u h=>k4 b u (k3 b u h);have kn4:∀a,H3 a≠none->H4 a≠none:=λa z=>by
      cases e:H3 a with
      |none=>exact absurd e z
      |some u=>rw[k4 a u e];simp
     have R4:=zpf (cap:=cap) (T:=T) R1 k14 (λa z=>(tf a z).1) (λa z=>kn4 a (tf a z).2);have no:∀a,¬Gw [] (λ_=>[]) a:=λa z=>z.elim (λy=>nomatch y) λ⟨_,y⟩=>nomatch y;refine⟨_,_,_,_,ds[i],as2,R4,(rp _ (zzC hi)).less λa z=>?_,e2,λσ5 ad5 H5 R5 g5 keep5=>⟨λj w hw=>?_,_,_,ad5,as2,b,as3,R5,e3,λad6 H6 R6 g6=>?_⟩⟩
     · rcases z with(z|z)|z
       · exact z
       · exact z.elim
       · exact(no a z).elim
     · rw[keep5 j λz=>?_]
       · exact hw
       · have:=hS j z;unfold vU at hw;rw[zzG,this]at hw;cases hw
     · -- what stood is kept
       have g46:=g5.trans g6;have k46:∀b u,H4 b=some u->H6 b=some u:=λb u h=>g46.keep b u h (no b);have k36:∀b u,H3 b=some u->H6 b=some u:=λb u h=>k46 b u (k4 b u h);have kn6:∀a,H3 a≠none->H6 a≠none:=λa z=>by
        cases e:H3 a with
        |none=>exact absurd e z
        |some u=>rw[k36 a u e];simp
       have up:∀{H7:Hp}{T2:List Addr},(∀b u,H3 b=some u->H7 b=some u)->(∀a ∈ T2,H3 a=none)->RoL (λ_ v d=>Rp K kd (Un2 (Lv F B (Gw [] ad1) true) (· ∈ T++T2)) H7 v d) (λa=>¬Un2 (Lv F B (Gw [] ad1) true) (· ∈ T++T2) a) H7 ys os1 T:=λ{H7 T2} k7 f7=>
        RoL.mono (λst v d r=>(r.since k7 f7).less λa z=>z.elim (λy=>.inl (.inl y)) λy=>(zzK.mp y).elim (λx=>.inl (.inr x)) .inr)
         (λa vs n e=>⟨λz=>z.elim (λy=>n (.inl y)) λy=>(zzK.mp y).elim (λx=>n (.inr x)) λx=>(by have:=f7 a x;rw[this]at e;cases e),k7 _ _ e⟩) (λa _ u h=>k7 a u h) rl
       cases b with
       |false=>
        have:=up (T2:=[]) k36 (λ_ m=>nomatch m);rw[zyC]at this;exact⟨m-1,by omega,by omega,T,os1,os2,eo,ec,Nat.le_succ_of_le hl,tnd,λa z=>⟨(tf a z).1,kn6 a (tf a z).2⟩,λb u h=>k36 b u (k3 b u h),this⟩
       |true=>
        rw[if_pos rfl]at ec;obtain⟨⟨p,as7⟩,e7,ec⟩:=bS_ ec;obtain⟨⟨o,as8⟩,e8,ec⟩:=bS_ ec
        by_cases hs:o.str=true
        · have ec:(if o.str=true then(xj g tt fe (vI cap as') (ds.drop (i+1))).bind λos=>some (o::os)else none)=some os2:=ec;rw[if_pos hs]at ec;obtain⟨os3,e9,ec⟩:=bS_ ec;cases ec;refine⟨by omega,_,_,ad6,as3,p,as7,R6,e7,λy T2 ad7 H7 R7 rv7 g7=>?_⟩;obtain⟨ad8,R8,ro8,le8⟩:=zeL R7 rv7 e8;have g47:=g46.trans g7;have k47:∀b u,H4 b=some u->H7 b=some u:=λb u h=>g47.keep b u h (no b);have k37:∀b u,H3 b=some u->H7 b=some u:=λb u h=>k47 b u (k4 b u h);have f42:∀a ∈ T2,H4 a=none:=λa z=>(g47.own a (.inl z)).resolve_left (no a);have f32:∀a ∈ T2,H3 a=none:=λa z=>by
             cases e:H3 a with
             |none=>rfl
             |some u=>have:=k4 a u e;rw[f42 a z]at this;cases this
          have rt:=zje R8 R8.tnd (λa z=>.inl z) ro8 hs;have ro9:Ro (λ_ v d=>Rp K kd (Un2 (Lv F B (Gw [] ad1) true) (· ∈ T++T2)) H7 v d) (λa=>¬Un2 (Lv F B (Gw [] ad1) true) (· ∈ T++T2) a) H7 y o T2:=
             Ro.mono (λst v d r=>r.less λa z=>z.elim (λy=>.inl (.inl y)) λy=>(zzK.mp y).elim (λx=>.inl (.inr x)) .inr)
              (λa vs n e=>⟨λz=>n (z.elim (λy=>.inl (.inl y)) λy=>(zzK.mp y).elim (λx=>.inl (.inr x)) .inr),e⟩) (λ_ _ _ h=>h) rt.ro
          refine⟨m-1,by omega,by omega,T++T2,os1++[o],os3,by rw[eo,zxB];rfl,e9,by rw[zzH,List.length_singleton];omega,zxD.mpr ⟨tnd,rt.nd,λa z b z' e=>?_⟩,λa z=>?_,λb u h=>k37 b u (k3 b u h),(up k37 f32).append (RoL.one ro9)⟩
          · subst e;exact(tf a z).2 (f32 a z')
          · rcases zzK.mp z with z|z
            · refine⟨(tf a z).1, ?_⟩;cases e:H3 a with
              |none=>exact absurd e (tf a z).2
              |some u=>rw[k37 a u e];simp
            · refine⟨?_,rt.tr a z⟩;cases e:H1 a with
              |none=>rfl
              |some u=>have:=k3 a u e;rw[f32 a z]at this;cases this
        · have ec:(if o.str=true then(xj g tt fe (vI cap as') (ds.drop (i+1))).bind λos=>some (o::os)else none)=some os2:=ec;rw[if_neg hs]at ec;cases ec
   · refine .inl ⟨i2 (by omega),λp hp=>?_⟩;rw[List.drop_eq_nil_of_le (by omega)]at ec;cases ec;rw[zyC]at eo;subst eo;have pT:p ∉ T:=λz=>(tf p z).2 hp;have H1p:H1 p=none:=by
      cases e:H1 p with
      |none=>rfl
      |some u=>have:=k3 p u e;rw[hp]at this;cases this
     have kp:∀b u,H3 b=some u->upd H3 p (.lst ys) b=some u:=λb u h=>by rw[zH (yf h hp)];exact h
     obtain⟨R9,g9⟩:=R1.news (T':=p::T) (H':=upd H3 p (.lst ys)) (zzU.mpr ⟨pT,tnd⟩) (λa z=>(zzA.mp z).elim (λe=>by rw[e];exact H1p) λz=>(tf a z).1) (λb u h=>kp b u (k3 b u h)) (λa z=>by
      rcases zzA.mp z with e|z
      · rw[e,zT];simp
      · cases e:H3 a with
        |none=>exact absurd e (tf a z).2
        |some u=>rw[kp a u e];simp)
     refine q _ (p::T) ad1 _ R9 (.ls zT ?_) (g1.trans g9);have le:∀st a,Lv F B (Gw (p::T) ad1) st a->Un2 (Un2 (Lv F B (Gw [] ad1) true) (· ∈ T)) (· = p) a:=λst a z=>by
      rcases z with(z|z)|z|z
      · exact .inl (.inl (.inl (.inl ⟨rfl,z.2⟩)))
      · exact .inl (.inl (.inl (.inr z)))
      · exact(zzA.mp z).elim .inr λy=>.inl (.inr y)
      · exact .inl (.inl (.inr (.inr z)))
     exact RoL.mono (λst v d r=>(r.since kp (T:=(· = p)) λa z=>by rw[z];exact hp).less (le st)) (λa vs n e=>⟨λz=>(le true a z).elim n λy=>(by rw[y,hp]at e;cases e),kp _ _ e⟩) (λa _ u h=>kp a u h) rl
 · have e:(if ds.length<=sizeLine then(xj g tt fe (vI cap as1) ds).bind λos=>some (RV.ow (.nd .ls os),as1)else none)=some (r,as'):=e;rw[if_neg hz]at e;cases e
end
section
variable{X:Cx}{kd:KD}{elt tg iter e a b c:Expr}{es ifs:List Expr}{scope:Scope}{pos:Pos}{N:List Str}{cap:List (Option Nat)}{g:GF}{tt:TF}{fe fa fb:EF}{fi:IF}{S:List Nat}{fr:AF}{fd:DF}
def zdf:PTs X [] (alT X.K kd zX):=λpins s σ H Q I h=>by
 obtain⟨F,B,ad,as,b,as',R,e,q⟩:=h;cases e;exact zqh pins s σ H Q I (q ad H R Grow.refl)
def zqg(h:AT X kd c tt):PTs X [c] (alT X.K kd tt):=by with_unfolding_all exact(zpv h)
def zle(hc:X.calm=true)(hi:AIc X kd tg iter fi)(hk:scope.kind = .function)(hcap:Vs N X.N scope.names X.env.scope.names cap=true)(hS:S.all (λi=>cap[i]? == some none)=true)
 (hg:∀cl s H fp,AG (xr X N scope cl s H fp) kd tg S g) (ht:∀cl s H fp,PTs (xr X N scope cl s H fp) ifs (alT X.K kd tt)) (he:∀cl s H fp,AE (xr X N scope cl s H fp) kd elt fe)
 (hs:∀x,foldedSetIterable iter X.env x=pure x):AE X kd (.ListComp elt [⟨tg,iter,ifs,0⟩] scope pos) (zB fi cap g tt fe):=by with_unfolding_all exact(yV (zpZ (g:=alG X.K kd S g) (te:=al X.K kd fe) hc hi hk hcap hg ht he hs) λσ H Q h=>zmT (λi m=>by simpa using List.all_eq_true.mp hS i m) h)
def zhm(hN:X.N.Nodup)(hiy:X.N[i]? = some y)(hy:Loc X.env.scope y)(hf:X.fn y=true\/X.env.scope.names.lookup y=some .local)
 (hsw:swapsWith (.ListComp elt [⟨tg,iter,ifs,0⟩] scope pos) (some (.Name y py)) spos.line X.env=pure true)
 (hc:X.calm=true) (hi:AIc X kd tg iter fi) (hk:scope.kind = .function) (hcap:Vs N X.N scope.names X.env.scope.names cap=true) (hS:S.all (λi=>cap[i]? == some none)=true)
 (hg:∀cl s H fp,AG (xr X N scope cl s H fp) kd tg S g) (ht:∀cl s H fp,PTs (xr X N scope cl s H fp) ifs (alT X.K kd tt)) (he:∀cl s H fp,AE (xr X N scope cl s H fp) kd elt fe)
 (hs:∀x,foldedSetIterable iter X.env x=pure x):ASt X kd (.Assign [.Name y py] (.ListComp elt [⟨tg,iter,ifs,0⟩] scope pos) spos) (zL z i (zB fi cap g tt fe)):=by with_unfolding_all exact(vd (zpT (g:=alG X.K kd S g) (te:=al X.K kd fe) hN hiy hy hf hsw hc hi hk hcap hg ht he hs) λD σ H h=>by
 obtain⟨F,B,ad,as,o,R,e,q⟩:=h;obtain⟨⟨p,as1⟩,h1,e⟩:=bS_ (show(zB fi cap g tt fe as).bind _=_ from e);obtain⟨⟨y,as2⟩,h2,e⟩:=bS_ e;obtain⟨hl,e⟩:=zQ e;cases e;refine zmT (Q:=λx H1=>ziv i x σ H1 D.nx) (λi m=>by simpa using List.all_eq_true.mp hS i m) ⟨F,B,ad,as,p,as1,R,h1,λv T' ad' H' R' rv g=>?_⟩;obtain⟨ad2,R2,le⟩:=znP R' rv h2 hl;exact q _ ad2 H' R2 (g.trans (Grow.less le)))
def zql(F:FnOk X.prog X.w X.K X.mg X.base CX0 k f fdt ps (spD X.K kd gg))(hr:Room k X.A)(hg:Gl X x)(hm:X.mg x=some (.ref f))(hk:PySem.W.keepIn X.K (.ref f)=true)
 (hb:Binds X.K fdt ps []) (hx:zhr CX0 X (λ_ _ _=>False)) (ha:AA X kd (e::es) fr) (hdb:(x==("__debug__":Str))=false) (he:starEach (e::es) X.env=(false,eval e X.env)::starEach es X.env) (hpl:(backTo pos (starEach es X.env)).any (·.1)=false):
 AE X kd (.Call (.Name x p) (e::es) [] pos) (zM fr gg):=by with_unfolding_all exact(yV (zph F hr hg hm hk hb .nil hx ha hdb he hpl) λσ H Q h=>zsn h)
def zsO{id:String}{gg:List D->Option R0}{x:Str}{p:Pos}(hc:CallD X kd (.builtin id) gg)(hg:Gl X x)(hm:X.mg x=none)(hv:bootBuiltins x=some (.builtin id))(ha:AA X kd (e::es) fr)(hn:x≠"__name__")(hdb:(x==("__debug__":Str))=false)
 (he:starEach (e::es) X.env=(false,eval e X.env)::starEach es X.env) (hpl:(backTo pos (starEach es X.env)).any (·.1)=false):AE X kd (.Call (.Name x p) (e::es) [] pos) (fP fr gg):=by with_unfolding_all exact(yV (zak hc hg hm hv ha hn hdb he hpl) λσ H Q h=>alP (λ_ _ _ z=>z) h)
def ztj(hc:CallD X kd (.type T) gg)(hg:Gl X x)(hm:X.mg x=none)(hv:bootBuiltins x=some (.type T))(ha:AA X kd (e::es) fr)(hn:x≠"__name__")(hdb:(x==("__debug__":Str))=false)
 (he:starEach (e::es) X.env=(false,eval e X.env)::starEach es X.env) (hpl:(backTo pos (starEach es X.env)).any (·.1)=false):AE X kd (.Call (.Name x p) (e::es) [] pos) (fP fr gg):=by with_unfolding_all exact(yV (zlZ hc hg hm hv ha hn hdb he hpl) λσ H Q h=>alP (λ_ _ _ z=>z) h)
def xU:MG:=λos es=>match es with | [o]=>if os.length<sizeLine then some (os++[o],.lf true .non)else none|_=>none
def Wy:MG:=λos es=>match es with | [.lf _ (.int i)]=>if -(2 ^ 63)<=i/\i<2 ^ 63 then(seqIndex? i os.length).bind λk=>(os[k]?).bind λo=>some (os.eraseIdx k,o)else none|_=>none
def zmb:MG:=λos es=>match es with | [.nd .ls ps]=>if os.length+ps.length<=sizeLine then some (os++ps,.lf true .non)else none|_=>none
def zpw{l f fo g:List Addr}(h:l.Nodup)(e:l=f++(fo++g)):((f++g)++fo).Nodup/\∀a ∈ (f++g)++fo,a ∈ l:=by
 subst e;have p:(f++(fo++g)).Perm ((f++g)++fo):=by
  rw[zxB];exact(List.perm_append_comm).append_left f
 exact⟨p.nodup_iff.mp h,λa m=>p.mem_iff.mpr m⟩
def ztB:MuD X kd zkn xU:=by
 intro F B G l vs ws os es os' o fp fq H Q hH rl rw' hn e k;unfold xU at e
 split at e
 · obtain⟨hz,e⟩:=zQ e;cases e;cases rw' with
   |cons h1 h2=>
    cases h2;rw[zyC]at hn k;exact⟨l,vs,_,rfl,rfl,hH,by rw[rl.length];exact hz,k _ _ _ [] (rl.append (RoL.one h1)) (.lf .non) (λa m=>by rwa [zyC]at m) (by rw[zyC];exact hn)⟩
 · cases e
def zoT:MuD X kd zmn Wy:=by
 intro F B G l vs ws os es os' o fp fq H Q hH rl rw' hn e k;unfold Wy at e
 split at e
 · rename_i st i
   split at e
   · rename_i hi;obtain⟨j,hj,e⟩:=bS_ e;obtain⟨o1,ho,e⟩:=bS_ e;cases e;obtain⟨v,f,fo,gg,hv,hf,ro,r1,r2⟩:=rl.at_ ho;cases rw' with
     |cons h1 h2=>
      cases h2;cases h1 with
      |lf rp=>
       cases rp;rw[zyC,zyC]at hn k;obtain⟨n1,n2⟩:=zpw hn hf;refine⟨l,vs,i,j,v,rfl,rfl,hH,hi.1,hi.2,by rw[rl.length];exact hj,hv,k v _ (f++gg) fo ?_ ro n2 n1⟩;rw[zcz,zcz];exact r1.append r2
   · cases e
 · cases e
def zsH:MuD X kd zkf zmb:=by
 intro F B G l vs ws os es os' o fp fq H Q hH rl rw' hn e k;unfold zmb at e
 split at e
 · rename_i ps;obtain⟨hz,e⟩:=zQ e;cases e;cases rw' with
   |cons h1 h2=>
    cases h2;cases h1 with
    |ls hb rb=>
     rename_i b zs fz;rw[zyC]at hn k;obtain⟨n1,n2,n3⟩:=zxD.mp hn;obtain⟨n4,n5⟩:=zzU.mp n2;refine⟨l,b,vs,zs,rfl,rfl,hH,hb,by rw[rl.length,rb.length];exact hz,k .non _ _ [] (rl.append rb) (.lf .non) (λa m=>?_) ?_⟩
     · rw[zyC]at m
       rcases zzK.mp m with m|m
       · exact zzN _ m
       · exact zzJ _ (zzB _ m)
     · rw[zyC];exact zxD.mpr ⟨n1,n5,λa m b m'=>n3 a m b (zzB _ m')⟩
 · cases e
def ziW{i:Nat}{x:Str}{gg:MG}{r:V->List V->Hp->VK->Prop}{name:Str}{id:String}{apos cpos p:Pos}(hm:MtM X id r)(hr:MuD X kd r gg)(slot:Slot "list" name id)(hty:typeOf (.builtin id)=pure (.type "method_descriptor"))(ho:PE X (.Name x p) (Ws i))(ha:AD X kd (e::es) fd)
 (hbase:attributeBase (.Name x p) name X.env (eval (.Name x p) X.env)=eval (.Name x p) X.env)
 (hfew:((backTo cpos (starEach (e::es) X.env)).all (λx=>!x.1)&&(backToKw cpos (keywordEach [] X.env)).all (λx=>x.1.isSome)
  && decide ((e::es).length+([]:List Keyword).length+(if([]:List Keyword).isEmpty then 0 else 1)<30))=true)
 (hline:(apos.endLine==cpos.line)=true) (hs:starEach (e::es) X.env=(false,eval e X.env)::starEach es X.env) (hplain:(backTo cpos (starEach es X.env)).any (·.1)=false):
 AE X kd (.Call (.Attribute (.Name x p) name apos) (e::es) [] cpos) (xJ i fd gg):=by with_unfolding_all exact(yV (zob PySem.F.plainAttrs_list slot hty hm ho ha hbase hfew hline hs hplain) λσ H Q h=>zuz hr h)
end
inductive Ty where
 |str|lst|dct|int
def Ty.nm:Ty->String
 | .str=>"str" | .lst=>"list" | .dct=>"dict" | .int=>"int"
def zpI:Ty->D->Bool
 | .str,.str _=>true
 | .lst,.lst _=>true
 | .dct,.dct _=>true
 | .int,.int _=>true
 |_,_=>false
def tyS(X:Cx)(T:String)(x:V)(H:Hp):Prop:=∀(pins:List (Addr×Obj)) (σ:St) (s:Shared) (v:Value),Inv X pins σ H s->RelV x v->s.TypeIs v T/\∀a,v = .ref a->∃ob,s.heap.get? a=some ob/\ob.dict=none
def tMD(X:Cx)(T:String)(r:V->List V->Hp->VK->Prop)(to:TE)(t:TA):TE:=λσ H Q=>to σ H λx H1=>tyS X T x H1/\t σ H1 λxs H2=>r x xs H2 Q
section
variable{X:Cx}{kd:KD}{o e:Expr}{es:List Expr}{to:TE}{t:TA}{name:Str}{apos cpos:Pos}{T id:String}{r:V->List V->Hp->VK->Prop}
def zux(pa:PlainAttrs T)(slot:Slot T name id)(hty:typeOf (.builtin id)=pure (.type "method_descriptor"))(hm:MtR X id r)(ho:PE X o to)(ha:PA X (e::es) t)
 (hbase:attributeBase o name X.env (eval o X.env)=eval o X.env)
 (hfew:((backTo cpos (starEach (e::es) X.env)).all (λx=>!x.1)&&(backToKw cpos (keywordEach [] X.env)).all (λx=>x.1.isSome)
  && decide ((e::es).length+([]:List Keyword).length+(if([]:List Keyword).isEmpty then 0 else 1)<30))=true)
 (hline:(apos.endLine==cpos.line)=true) (hs:starEach (e::es) X.env=(false,eval e X.env)::starEach es X.env) (hplain:(backTo cpos (starEach es X.env)).any (·.1)=false):
 PE X (.Call (.Attribute o name apos) (e::es) [] cpos) (tMD X T r to t):=by
 intro pins s σ H Q I h;refine wpAny_Call_method_late hbase hfew hline rfl (thn (ho pins s σ H _ I h) λv s1 ⟨x,H1,I1,r1,ty,q1⟩=>?_);obtain⟨h1,h2⟩:=ty _ _ _ _ I1 r1;refine⟨T,id,pa,slot,hty,h1,h2, ?_⟩;have hA:=ha cpos pins s1 σ H1 _ I1 q1;rw[hs]at hA ⊢;refine Calls.callWith_builtin (by show(false||(backTo cpos (starEach es X.env)).any (·.1))=false;rw[hplain]<;>rfl) (Calls.evalArgs_plain ?_);exact thn hA λus s2 ⟨vs,H2,I2,r2,q2⟩=>hm pins s2 σ H2 x vs v us Q I2 r1 r2 q2
def MtD(X:Cx)(kd:KD)(id:String)(g:D->List D->Option R0):Prop:=
 MtR X id (λx xs H Q=>∃O d ds r,(∀a,O a->H a≠none)/\Vw X.K kd O H x d/\VwL X.K kd O H xs ds/\g d ds=some r/\RQ X.K kd O H Q r)
def zuP(hk:KdOk X kd){O:Addr->Prop}{H:Hp}{x:V}{d:D}{ty:Ty}(h:Vw X.K kd O H x d)(e:zpI ty d=true):tyS X ty.nm x H:=by
 intro pins σ s v I rx;cases h with
 |str z=>
  obtain⟨t,rfl⟩:=rx;cases ty<;>first|(cases e;done)|exact⟨typeIs_str s z t,λ_ e=>nomatch e⟩
 |int z=>
  obtain⟨t,rfl⟩:=rx;cases ty<;>first|(cases e;done)|exact⟨typeIs_int s z t,λ_ e=>nomatch e⟩
 |lst hr rl=>
  cases rx;obtain⟨its,_,pl,_⟩:=I.list hr.sq;cases ty<;>first|(cases e;done)|skip
  refine⟨pl.isList.typeIs,λa e=>?_⟩;cases e;obtain⟨o,n,e,c,hd,_⟩:=pl;exact⟨o,e,hd⟩
 |dct hr rm=>
  cases rx;obtain⟨z,hd,vs,rel,dd⟩:=zhM I hk hr;cases ty<;>first|(cases e;done)|skip
  refine⟨dd.typeIs,λb q=>?_⟩;cases q;obtain⟨ob,_,_,h1,h2,_⟩:=dd;exact⟨ob,h1,h2.2.1⟩
 |non=>cases ty<;>cases e
 |bl=>cases ty<;>cases e
 |tup=>cases ty<;>cases e
 |cl=>cases ty<;>cases e
 |er=>cases ty<;>cases e
 |ob=>cases ty<;>cases e
 |dt=>cases ty<;>cases e
def Z1(ty:Ty)(fa:EF)(fr:AF)(g:D->List D->Option R0):EF:=λas=>(fa as).bind λp=>(p.1.frz.view p.2).bind λw=>if zpI ty w.1=true then(fr p.2).bind λq=>(p.1.frz.view q.2).bind λx=>(views q.2 q.1).bind λy=>(g x.1 y.1).bind λr=>(wrap (meet x.2 y.2) r).bind λz=>some (z,q.2)else none
def zrO(hk:KdOk X kd)(h:al X.K kd (Z1 ty fa fr g) σ H Q):
 tMD X ty.nm (λx xs H Q=>∃O d ds r,(∀a,O a->H a≠none)/\Vw X.K kd O H x d/\VwL X.K kd O H xs ds/\g d ds=some r/\RQ X.K kd O H Q r) (al X.K kd fa) (alA X.K kd fr) σ H Q:=by
 obtain⟨F,B,ad,as,r,as',R,e,q⟩:=h;obtain⟨⟨p,as1⟩,h1,e⟩:=bS_ (show(fa as).bind _=_ from e);obtain⟨⟨d0,l0⟩,h0,e⟩:=bS_ e;obtain⟨hty,e⟩:=ite_some' e;obtain⟨⟨ps,as2⟩,h2,e⟩:=bS_ e;obtain⟨⟨d,lv⟩,h3,e⟩:=bS_ e;obtain⟨⟨ds,lv2⟩,h4,e⟩:=bS_ e;obtain⟨r0,h5,e⟩:=bS_ e;obtain⟨z,h6,e⟩:=bS_ e;cases e;refine v7 R h1 λv ad1 H1 R1 rv1 g1=>⟨zuP hk (wB.vw R1 rv1 h0) hty,F,B,ad1,as1,ps,_,R1,h2,λvs ad2 H2 R2 rv2 g2=>?_⟩;exact⟨_,d,ds,r0,R2.tr _,(wB.vw R2 (rv1.grow g2) h3).less Obl.meet1,(WR R2 rv2 h4).less Obl.meet2,h5,vM R2 h6 λw T' H' R' rv' g'=>q w T' ad2 H' R' rv' ((g1.trans g2).trans g')⟩
def zkc(hk:KdOk X kd)(hm:MtD X kd id g)(pa:PlainAttrs ty.nm)(slot:Slot ty.nm name id)(hty:typeOf (.builtin id)=pure (.type "method_descriptor"))(ho:AE X kd a fa)(ha:AA X kd (e::es) fr)
 (hbase:attributeBase a name X.env (eval a X.env)=eval a X.env)
 (hfew:((backTo cpos (starEach (e::es) X.env)).all (λx=>!x.1)&&(backToKw cpos (keywordEach [] X.env)).all (λx=>x.1.isSome)
  && decide ((e::es).length+([]:List Keyword).length+(if([]:List Keyword).isEmpty then 0 else 1)<30))=true)
 (hline:(apos.endLine==cpos.line)=true) (hs:starEach (e::es) X.env=(false,eval e X.env)::starEach es X.env) (hplain:(backTo cpos (starEach es X.env)).any (·.1)=false):
 AE X kd (.Call (.Attribute a name apos) (e::es) [] cpos) (Z1 ty fa fr g):=by with_unfolding_all exact(yV (zux pa slot hty hm ho ha hbase hfew hline hs hplain) λσ H Q h=>zrO hk h)
end
section
variable{K:zC}{kd:KD}{F B G:Addr->Prop}{T:List Addr}{ad:Ad}{as:AS}{σ:St}{H H':Hp}
def Rel.wrT(R:Rel K kd F B T ad as σ H)(hp:p ∈ T):Rel K kd F B T ad as σ (upd H p u)/\Grow (Gw T ad) H (Gw T ad) (upd H p u):=by
 have g:Grow (Gw T ad) H (Gw T ad) (upd H p u):=Grow.wr (.inl hp);have kn:∀a,H a≠none->upd H p u a≠none:=λa z=>by
  by_cases e:a=p
  · subst e;rw[zT];simp
  · rw[zH e];exact z
 exact⟨⟨R.len,R.out,R.nd,R.inj,R.tnd,R.dis,λa z=>kn a (R.ftr a z),λa z=>⟨kn a (R.btr a z).1,(R.btr a z).2⟩,λa z=>⟨kn a (R.gtr a z).1,(R.gtr a z).2⟩,λi s e=>(R.sl i s e).grow g λa m w h=>by
  rw[zH (λz=>R.dis i a m (by rw[z];exact hp))];exact h⟩,g⟩
inductive RPs(K:zC)(kd:KD)(F B G:Addr->Prop)(H:Hp):List (V×V)->List (Key×O)->Prop
 |nil:RPs K kd F B G H [] []
 |cons {k:Key}{v:V}{o:O}{ps:List (V×V)}{kos:List (Key×O)}:RoS K kd F B G H v o []->RPs K kd F B G H ps kos->RPs K kd F B G H ((kV k,v)::ps) ((k,o)::kos)
end
section
variable{X:Cx}{kd:KD}{e a b c o i:Expr}{pos pos':Pos}{fa fb fk fv:EF}
def zeS{κ:Type}[DecidableEq κ](ks:List κ)(k:κ):Bool:=ks.any λx=>decide (x=k)
def zkX{κ:Type}[DecidableEq κ](ks:List κ)(k:κ):List κ:=if zeS ks k=true then ks else ks++[k]
def zkt{κ α:Type}[DecidableEq κ](ks:List κ)(os:List α)(k:κ)(o:α):List α:=if zeS ks k=true then(ks.zip os).map (λp=>if p.1=k then o else p.2)else os++[o]
theorem zgU[DecidableEq κ](k:κ):∀(ks:List κ) (vs:List α),ks.length=vs.length->((ks.zip vs).any λkv=>decide (kv.1=k))=zeS ks k
 | [],_,_=>rfl
 |x::r,[],h=>by simp at h
 |x::r,v::vs,h=>by
  show(decide (x=k)||(r.zip vs).any _)=(decide (x=k)||_);rw[zgU k r vs (by simpa using h)];rfl
theorem zkZ[DecidableEq κ]:∀(ks:List κ) (vs:List V),ks.length=vs.length->(ks.zip vs).map (λkv=>if kv.1=k then(kv.1,v)else kv)=ks.zip ((ks.zip vs).map λp=>if p.1=k then v else p.2)
 | [],_,_=>rfl
 |x::r,[],h=>by simp at h
 |x::r,w::vs,h=>by
  show _::(r.zip vs).map _=(x,_)::r.zip ((r.zip vs).map _);rw[zkZ r vs (by simpa using h)]
  congr 1
  by_cases e:x=k
  · simp[e]
  · simp[e]
def znm{κ:Type}[DecidableEq κ]{ks:List κ}{vs:List V}{k:κ}{v:V}(h:ks.length=vs.length):putK (ks.zip vs) k v=(zkX ks k).zip (zkt ks vs k v):=by
 unfold putK zkX zkt;rw[zgU k ks vs h]
 split
 · exact zkZ ks vs h
 · rw[List.zip_append h];rfl
end
abbrev Fn:=List (Bool×D)->Option O
section
variable{P:Program}{w:World}{K:zC}{mg:Str->Option Value}{base:Heap}{kd:KD}
def zfs(hr:Room k A):A.units+100<cLine:=by have:=hr.un;omega
def KD1(P:Program)(w:World)(K:zC)(kd:KD):Prop:=∀X:Cx,X.prog=P->X.w=w->X.K=K->KdOk X kd
theorem X7{O:Addr->Prop}{H:Hp}:∀ns:List Int,RpL K kd O H (ns.map V.int) (ns.map D.int)
 | []=>.nil
 |_::r=>.cons (.int _) (X7 r)
def zrW{H:Hp}{a:Addr}{ns:List Int}{g:Fn}{E:XK}(hg:g [(true,.lst (ns.map D.int))]=some (.lf true (.bl true)))(hS:RdL K H a (ns.map V.int)):spD K kd g [.ref a] H (λv _=>v = .bl true) E:=by
 refine⟨λ_=>False,[(true,.lst (ns.map D.int))],.lf true (.bl true),(λ_ z=>z.elim),.cons ?_ .nil,hg,λv T H' _ _ _ _ ro=>?_⟩
 · rcases hS with h|⟨its,n,k,z,r⟩
   · exact .lst (λz=>z.2) h (X7 ns)
   · exact .lstK k z r (X7 ns)
 · cases ro with
   |lf rp=>cases rp;rfl
end
namespace Bt
def len:bootBuiltins "len"=some (.builtin "len"):=by decide +kernel
def max:bootBuiltins "max"=some (.builtin "max"):=by decide +kernel
def sorted:bootBuiltins "sorted"=some (.builtin "sorted"):=by decide +kernel
def divmod:bootBuiltins "divmod"=some (.builtin "divmod"):=by decide +kernel
def isinstance:bootBuiltins "isinstance"=some (.builtin "isinstance"):=by decide +kernel
def int:bootBuiltins "int"=some (.type "int"):=by decide +kernel
def list:bootBuiltins "list"=some (.type "list"):=by decide +kernel
def tuple:bootBuiltins "tuple"=some (.type "tuple"):=by decide +kernel
def n(x:Str)(h:(x==("__name__":Str))=false):x≠"__name__":=λe=>by subst e;simp at h
end Bt
def WD(f:EF)(as:AS)(st:Bool)(d:D):Prop:=f as=some (.ow (.lf st d),as)
def WT(f:TF)(as:AS)(b:Bool):Prop:=f as=some (b,as)
def WA(f:AF)(as:AS)(rs:List (Bool×D)):Prop:=f as=some (rs.map (λx=>.ow (.lf x.1 x.2)),as)
def WO(f:DF)(as:AS)(os:List O):Prop:=f as=some (os,as)
section
variable{as:AS}{f a b:EF}{s t:Bool}{x y z:D}{i j:Int}
def zb:WD (fC x) as true x:=rfl
def za{i:Nat}(h:as[i]? = some (some (.lf s x))):WD (fV i) as s x:=by unfold WD fV;rw[h]
def zqX(ha:WD a as s x)(hb:WD b as t y)(hg:g x y=some (.im z)):WD (f2 a b g) as (zZ z||(s&&t)) z:=by
 unfold WD f2 at *;rw[ha];show((b as).bind _)=_;rw[hb];show((g x y).bind _)=_;rw[hg];show(if(zZ z||(meet (some s) (some t)).isSome)=true then _ else _:Option RV).bind _=_;rw[if_pos (by unfold meet;simp)];rfl
def zus(ha:a as=some (.ow oa,as))(hb:b as=some (.ow ob,as))(hg:g oa.toD ob.toD=some (.im z)):WD (f2 a b g) as (zZ z||(oa.str&&ob.str)) z:=by
 unfold WD f2 at *;rw[ha];show((b as).bind _)=_;rw[hb];show((g oa.toD ob.toD).bind _)=_;rw[hg];show(if(zZ z||(meet (some oa.str) (some ob.str)).isSome)=true then _ else _:Option RV).bind _=_;rw[if_pos (by unfold meet;simp)];rfl
def zG(ha:WD a as s x)(hb:WD b as t y)(hg:g x y=some (.im z))(e:zZ z=true):WD (f2 a b g) as true z:=by
 have:=zqX ha hb hg;rw[e]at this;exact this
def yR(ha:WD a as s (.int i))(hb:WD b as t (.int j)):WD (f2 a b (zaf .Add)) as true (.int (i+j)):=zG ha hb rfl rfl
def zjA(ha:WD a as s (.int i))(hb:WD b as t (.int j)):WD (f2 a b (zaf .Sub)) as true (.int (i-j)):=zG ha hb rfl rfl
def xT(ha:WD a as s (.int i))(hb:WD b as t (.int j))(h1:i.natAbs<big)(h2:j.natAbs<big):WD (f2 a b (zaf .Mult)) as true (.int (i*j)):=zG ha hb (by show(if _ then _ else _)=_;rw[if_pos ⟨h1,h2⟩]) rfl
def Zh(ha:WD a as s (.int i))(hb:WD b as t (.int j))(h1:0<j)(h2:j.natAbs<big):WD (f2 a b (zaf .FloorDiv)) as true (.int (i/j)):=zG ha hb (by show(if _ then _ else _)=_;rw[if_pos ⟨h1,h2⟩]) rfl
def yx(ha:WD a as s (.int i))(hb:WD b as t (.int j))(h1:0<j):WD (f2 a b (zaf .Mod)) as true (.int (i%j)):=zG ha hb (by show(if _ then _ else _)=_;rw[if_pos h1]) rfl
def yJ(ha:WD a as s x)(hb:WD b as t y)(h:eqF 60 x y=some c):WD (f2 a b (zR .Eq)) as true (.bl c):=zG ha hb (by show(eqF 60 x y).bind _=_;rw[h];rfl) rfl
def zlc(ha:WD a as s x)(hb:WD b as t y)(h:eqF 60 x y=some c):WD (f2 a b (zR .NotEq)) as true (.bl (!c)):=zG ha hb (by show(eqF 60 x y).bind _=_;rw[h];rfl) rfl
def ziE(ha:WD a as s (.int i))(hb:WD b as t (.int j)):WD (f2 a b (zR .Lt)) as true (.bl (decide (i<j))):=zG ha hb rfl rfl
def zaw(ha:WD a as s (.int i))(hb:WD b as t (.int j)):WD (f2 a b (zR .Gt)) as true (.bl (decide (j<i))):=zG ha hb rfl rfl
def yc(h:WD f as s x)(e:truth x=some c):WT (fT f) as c:=by
 unfold WT fT;unfold WD at h;rw[h];show((truth x).bind _)=_;rw[e];rfl
def ztp(h:WT c as k):WT (zhN c) as (!k):=by unfold WT zhN at *;rw[h];rfl
def Yl(h:WT c as k)(h2:k=true->WT e as l)(h3:k=false->l=false):WT (Wa c e) as l:=by
 unfold WT Wa at *;rw[h];cases k with
 |true=>exact h2 rfl
 |false=>rw[h3 rfl];rfl
def zkK(h:WT c as k)(h2:k=false->WT e as l)(h3:k=true->l=true):WT (zbh c e) as l:=by
 unfold WT zbh at *;rw[h];cases k with
 |false=>exact h2 rfl
 |true=>rw[h3 rfl];rfl
def zsQ(h:WD a as s (.bl k))(h2:k=true->WD b as true (.bl l))(h3:k=false->l=false):WD (zoL a b) as true (.bl l):=by
 unfold WD zoL at *;rw[h];cases k with
 |true=>exact h2 rfl
 |false=>rw[h3 rfl];rfl
def zJ:WA aN as []:=rfl
def zu(ha:WD a as s x)(hr:WA fr as rs):WA (aC a fr) as ((s,x)::rs):=by
 unfold WA aC at *;unfold WD at ha;rw[ha];show((fr as).bind _)=_;rw[hr];rfl
theorem Yz:∀rs:List (Bool×D),Yn as (rs.map (λx=>.ow (.lf x.1 x.2)))=some (rs.map λx=>(zZ x.2||x.1,x.2))
 | []=>rfl
 |r::rs=>by
  show(zmm as (.ow (.lf r.1 r.2))).bind _=_;show(Yn as (rs.map _)).bind _=_;rw[Yz rs];rfl
theorem WF:∀rs:List (Bool×D),views as (rs.map (λx=>.ow (.lf x.1 x.2)))=some (rs.map (·.2),some (rs.all (·.1)))
 | []=>rfl
 |r::rs=>by
  show(views as (rs.map _)).bind _=_;rw[WF rs];rfl
def W5(ha:WA fr as rs)(hg:g (rs.map λx=>(zZ x.2||x.1,x.2))=some (.lf s x)):WD (zM fr g) as s x:=by
 unfold WD zM;unfold WA at ha;rw[ha];show(Yn as _).bind _=_;rw[Yz];show(g _).bind _=_;rw[hg];rfl
def Z3(ha:WA fr as rs)(hg:g (rs.map λx=>(zZ x.2||x.1,x.2))=some o):zM fr g as=some (.ow o,as):=by
 unfold zM;unfold WA at ha;rw[ha];show(Yn as _).bind _=_;rw[Yz];show(g _).bind _=_;rw[hg];rfl
def zkN(ha:WA fr as rs)(hg:g (rs.map (·.2))=some (.im x)):WD (fP fr g) as (zZ x||rs.all (·.1)) x:=by
 unfold WD fP;unfold WA at ha;rw[ha];show(views as _).bind _=_;rw[WF];show(g _).bind _=_;rw[hg];show(if(zZ x||(some (rs.all (·.1))).isSome)=true then _ else _:Option RV).bind _=_;rw[if_pos (by simp)];rfl
def wD(ha:WA fr as rs)(hg:g (rs.map (·.2))=some (.im x))(e:zZ x=true):WD (fP fr g) as true x:=by
 have:=zkN ha hg;rw[e]at this;exact this
def zU:WO dN as []:=rfl
def zf{fr:DF}{os:List O}(ha:WD a as s x)(hr:WO fr as os):WO (dC a fr) as (.lf s x::os):=by
 unfold WO dC at *;unfold WD at ha;rw[ha];show((fr as).bind _)=_;rw[hr];rfl
def wy{fr:DF}{os:List O}(h:WO fr as os)(hl:os.length<=sizeLine):yN fr as=some (.ow (.nd .ls os),as):=by
 unfold yN;unfold WO at h;rw[h];show(if os.length<=sizeLine then _ else _)=_;rw[if_pos hl]
def ym{f g:SF}{as1:AS}{o:Option Out}(h1:f as=some (.nx as1))(h2:g as1=o):zy f g as=o:=by unfold zy;rw[h1];exact h2
def zkG{f g:SF}{o:O}(h1:f as=some (.rt o)):zy f g as=some (.rt o):=by unfold zy;rw[h1];rfl
def vV{c:TF}{f g:SF}{o:Option Out}(h:WT c as true)(h1:f as=o):sIf c f g as=o:=by unfold sIf;unfold WT at h;rw[h];exact h1
def yh{c:TF}{f g:SF}{o:Option Out}(h:WT c as false)(h1:g as=o):sIf c f g as=o:=by unfold sIf;unfold WT at h;rw[h];exact h1
def yE{i:Nat}{st:Bool}(h:WD f as s x)(hi:i<as.length):zL st i f as=some (.nx (as.set i (some (.lf s x)))):=by
 unfold zL;unfold WD at h;rw[h];cases st<;>exact if_pos hi
def xg{i:Nat}{o:O}(h:f as=some (.ow o,as))(hi:i<as.length):zL false i f as=some (.nx (as.set i (some o))):=by
 unfold zL;rw[h];exact if_pos hi
def zqr{i:Nat}{o:O}(h:f as=some (.ow o,as))(hi:i<as.length):zL true i f as=some (.nx (as.set i (some o.frz))):=by
 unfold zL;rw[h];exact if_pos hi
def zho(h:WD f as true x):yC f as=some (.rt (.lf true x)):=by unfold yC;unfold WD at h;rw[h];rfl
def zaY(hl:ds.length=m)(h:c (wK n ds)=some (.rt o)):fnR n m c ds=some o:=by unfold fnR;rw[if_pos hl,h];rfl
theorem xM{g:GF}{f:SF}(I:Nat->AS->Prop):∀(xs:List It1) (k:Nat) (as:AS),(∀i x as,xs[i]? = some x->I (k+i) as->∃as1,g x as=some as1/\∃as2,f as1=some (.nx as2)/\I (k+i+1) as2)->I k as->∃as',forL g f xs as=some (.nx as')/\I (k+xs.length) as'
 | [],k,as,_,h=>⟨as,rfl,h⟩
 |x::r,k,as,st,h=>by
  obtain⟨as1,h1,as2,h2,h3⟩:=st 0 x as rfl h;obtain⟨as',h4,h5⟩:=xM I r (k+1) as2 (λi y as e q=>by
   obtain⟨u,k1,v,k2,k3⟩:=st (i+1) y as e (by rw[show k+(i+1)=k+1+i by omega];exact q);exact⟨u,k1,v,k2,by rw[show k+1+i+1=k+(i+1)+1 by omega];exact k3⟩) h3
  refine⟨as', ?_,by rw[zzR,show k+(r.length+1)=k+1+r.length by omega];exact h5⟩;show(g x as).bind _=_;rw[h1];show(f as1).bind _=_;rw[h2];exact h4
def wz{fi:IF}{g:GF}{f:SF}{xs:List It1}{as':AS}{o:Option Out}(h:fi as=some (xs,as'))(h2:forL g f xs as'=o):xO fi g f as=o:=by unfold xO;rw[h];exact h2
def vg{lo:Int}{n i:Nat}{x:It1}(h:(wg lo n)[i]? = some x):x=(true,.int (lo+i))/\i<n:=by
 unfold wg at h;rw[zzG]at h;cases e:(List.range n)[i]? with
 |none=>rw[e]at h;cases h
 |some k=>
  rw[e]at h;obtain⟨h1,h2⟩:=zzE.mp e;rw[zyS]at h1;rw[List.getElem_range]at h2;subst h2;exact⟨(zzX h).symm,h1⟩
def xN(h:WA fr as [(u,.int j)])(h0:0<=j)(h1:j<1000000):yp fr yq as=some (wg 0 j.toNat,as):=by
 unfold yp;unfold WA at h;rw[h];simp only[zyJ,WF];show((if -(2 ^ 62)<=j/\j<2 ^ 62 then some (wg 0 j.toNat)else none).bind _)=_;rw[if_pos ⟨by omega,by omega⟩];rfl
def znt(ha:a as=some (.ow o,as))(hr:WA fr as rs):WA (aC a fr) as ((o.str,o.toD)::rs):=by
 unfold WA aC at *;rw[ha];show((fr as).bind _)=_;rw[hr];rfl
def zdi{i:Nat}{o:O}(h:as[i]? = some (some o)):RV.view as (.bo i)=some (o.toD,o.kl):=by simp only[RV.view,h]
def znD{i:Nat}{o:O}(h:as[i]? = some (some o)):toO as (.bo i)=some (o.frz,as.set i (some o.frz)):=by simp only[toO,h]
def zqz{i:Nat}{o:O}(h:as[i]? = some (some o))(hs:o.str=true):zmG as (.bo i)=some o:=by simp only[zmG,h,hs,if_true]
def zeE{i:Nat}{k:Kind}{os:List O}(h:as[i]? = some (some (.nd k os))):fV i as=some (.bo i,as):=by unfold fV;rw[h]
def zwb{i:Nat}{os:List O}(h:as[i]? = some (some (.nd .ls os))):WD (fP (aC (fV i) aN) ZP) as true (.int os.length):=by
 have e:views as [.bo i]=some ([.lst (O.toDs os)],meet (O.nd .ls os).kl (some true)):=by
  show(RV.view as (.bo i)).bind _=_;rw[zdi h];rfl
 unfold WD fP aC;rw[zeE h];simp only[zyJ,aN,RV.frz,e];rw[show ZP [.lst (O.toDs os)]=some (.im (.int os.length)) by show some (R0.im (.int ((O.toDs os).length:Nat)))=_;rw[Wc]];rfl
def YC{g:GF}{f:SF}{d:It1}{r:List It1}{as1 as2:AS}{o:Option Out}(h1:g d as=some as1)(h2:f as1=some (.nx as2))(h3:forL g f r as2=o):forL g f (d::r) as=o:=by
 show(g d as).bind _=_;rw[h1];show(f as1).bind _=_;rw[h2];exact h3
def znR{g:GF}{f:SF}{d:It1}{r:List It1}{as1:AS}{o:O}(h1:g d as=some as1)(h2:f as1=some (.rt o)):forL g f (d::r) as=some (.rt o):=by
 show(g d as).bind _=_;rw[h1];show(f as1).bind _=_;rw[h2];rfl
def zsN{i:Nat}{os:List O}(h:as[i]? = some (some (.nd .ls os)))(hl:os.length<sizeLine)(ha:WD a as s x):yF (xJ i (dC a dN) xU) as=some (.nx (as.set i (some (.nd .ls (os++[.lf s x]))))):=by
 unfold yF xJ;rw[h];have e:dC a dN as=some ([.lf s x],as):=zf ha zU;show((dC a dN as).bind _).bind _=_;rw[e];show(Option.bind (match as[i]? with|some (some (.nd .ls os))=>_|_=>none) _)=_;rw[h];show((xU os [.lf s x]).bind _).bind _=_;have e2:xU os [.lf s x]=some (os++[.lf s x],.lf true .non):=by unfold xU;exact if_pos hl
 rw[e2];rfl
def znY{i:Nat}{os:List O}{k:Int}{o:O}(h:as[i]? = some (some (.nd .ls os)))(ha:WD a as s (.int k))(h0:0<=k)(h1:k<os.length)(hs:os.length<2 ^ 60)(ho:os[k.toNat]? = some o):xJ i (dC a dN) Wy as=some (.ow o,as.set i (some (.nd .ls (os.eraseIdx k.toNat)))):=by
 unfold xJ;rw[h];have e:dC a dN as=some ([.lf s (.int k)],as):=zf ha zU;show((dC a dN as).bind _)=_;rw[e];show(match as[i]? with|some (some (.nd .ls os))=>_|_=>none)=_;rw[h];show((Wy os [.lf s (.int k)]).bind _)=_;have e2:Wy os [.lf s (.int k)]=some (os.eraseIdx k.toNat,o):=by
  unfold Wy;show(if -(2 ^ 63)<=k/\k<2 ^ 63 then _ else _)=_;rw[if_pos ⟨by omega,by omega⟩];have e3:seqIndex? k os.length=some k.toNat:=by unfold seqIndex?;simp;omega
  rw[e3];show((os[k.toNat]?).bind _)=_;rw[ho];rfl
 rw[e2];rfl
def zsV(h:f as=some (.ow o,as))(hg:g (o.str,o.toD) as=some as'):Vh f g as=some (.nx as'):=by
 unfold Vh;rw[h];show(g (o.str,o.toD) as).bind _=_;rw[hg];rfl
def zdg{i:Nat}{o:O}(h:as[i]? = some (some o))(hs:o.str=true):yC (fV i) as=some (.rt o):=by
 cases o with
 |lf st d=>unfold yC fV;rw[h];have:st=true:=hs;subst this;rfl
 |nd k os=>
  unfold yC;rw[zeE h];show(zmG as (.bo i)).bind _=_;rw[zqz h hs];rfl
def zbA{fr:DF}{os:List O}(h:WO fr as os)(hl:os.length<=sizeLine)(ha:os.all O.isLf=true):WD (yw fr) as (O.strs os) (.tup (O.toDs os)):=by
 unfold WD yw;unfold WO at h;rw[h];show(if os.length<=sizeLine then some (RV.ow (YH os),as)else _)=_;rw[if_pos hl];unfold YH;rw[if_pos ha]
def zsK(ha:a as=some (.ow oa,as1))(hb:b as1=some (.ow ob,as2))(hg:g oa.toD ob.toD=some (.fl zs)):f2 a b g as=some (.ow (.nd .ls (zs.map (lfs (oa.str&&ob.str)))),as2):=by
 unfold f2;rw[ha];show((b as1).bind _)=_;rw[hb];show((g oa.toD ob.toD).bind _)=_;rw[hg];show(if(zs.all zZ||(meet (some oa.str) (some ob.str)).isSome)=true then _ else _:Option RV).bind _=_;rw[if_pos (by unfold meet;simp)];rfl
def yG(ha:WD a as true x)(hb:WD b as true y)(hg:g x y=some (.im z)):WD (f2 a b g) as true z:=by
 have:=zqX ha hb hg;rw[show(zZ z||(true&&true))=true by simp]at this;exact this
theorem WX:∀zs:List D,zs.map (lfs true)=zs.map (O.lf true)
 | []=>rfl
 |z::r=>by
  show lfs true z::r.map (lfs true)=_;rw[WX r];unfold lfs;rw[zyB];rfl
def zpO(ha:a as=some (.ow oa,as1))(hb:b as1=some (.ow ob,as2))(hg:g oa.toD ob.toD=some (.fl zs))(h1:oa.str=true)(h2:ob.str=true):f2 a b g as=some (.ow (.nd .ls (zs.map (O.lf true))),as2):=by
 have:=zsK ha hb hg;rw[h1,h2,show(true&&true)=true from rfl,WX]at this;exact this
def yS{fr:DF}{o:O}{os:List O}{as1 as2:AS}(ha:a as=some (.ow o,as1))(hr:fr as1=some (os,as2)):dC a fr as=some (o::os,as2):=by
 unfold dC;rw[ha];show((fr as1).bind _)=_;rw[hr];rfl
def add_lists(h:xs.length+ys.length<=sizeLine):zaf .Add (.lst xs) (.lst ys)=some (.fl (xs++ys)):=if_pos h
def zbp(lo:Int)(n:Nat):wg lo (n+1)=(true,.int lo)::wg (lo+1) n:=by
 unfold wg;rw[List.range_succ_eq_map,zyQ,zzZ]
 congr 1
 · simp
 · apply List.map_congr_left;intro i _;show(true,D.int _)=(true,D.int _)
   congr 2
   show lo+((i+1:Nat):Int)=_;omega
def ziG(ha:WA fr as rs)(hg:g (rs.map (·.2))=some (.im x))(e:rs.all (·.1)=true):WD (fP fr g) as true x:=by
 have:=zkN ha hg;rw[e,zyB]at this;exact this
def zde(ha:WD a as s y)(ht:zpI ty y=true)(hr:WA fr as rs)(hg:g y (rs.map (·.2))=some (.im x))(e:zZ x=true):WD (Z1 ty a fr g) as true x:=by
 unfold WD Z1;unfold WD at ha;unfold WA at hr;rw[ha];show(if zpI ty y=true then _ else _:Option (RV×AS))=_;rw[if_pos ht,hr];simp only[zyJ,WF];show((g y (rs.map (·.2))).bind _)=_;rw[hg];show(if(zZ x||_)=true then _ else _:Option RV).bind _=_;rw[if_pos (by rw[e];rfl)];show some (RV.ow (.lf (zZ x||_) x),as)=_;rw[e];rfl
def zmN{fl fh:OF}{lo hi:Option Int}{g:D->Option Int->Option Int->Option R0}(ha:WD a as s y)(hl:fl as=some (lo,as))(hh:fh as=some (hi,as))(hg:g y lo hi=some (.im x)):WD (fSl a fl fh g) as (zZ x||s) x:=by
 unfold WD fSl;unfold WD at ha;rw[ha];show((fl as).bind _)=_;rw[hl];show((fh as).bind _)=_;rw[hh];show((g y lo hi).bind _)=_;rw[hg];show(if(zZ x||(some s).isSome)=true then _ else _:Option RV).bind _=_;rw[if_pos (by simp)];rfl
def Vb{fi:IF}{cap:List (Option Nat)}{g:GF}{tt:TF}{fe:EF}{xs:List It1}{os:List O}(h1:fi as=some (xs,as))(hl:xs.length<=sizeLine)(h2:xj g tt fe (vI cap as) xs=some os):zB fi cap g tt fe as=some (.ow (.nd .ls os),as):=by
 unfold zB;rw[h1];show(if xs.length<=sizeLine then _ else _)=_;rw[if_pos hl];show(xj g tt fe (vI cap as) xs).bind _=_;rw[h2];rfl
end
def szl(h:Nat.ble n 1000=true):n<=sizeLine:=Nat.le_of_lt (wJ (Nat.le_of_ble_eq_true h))
def zp(h:Nat.ble (a+1) b=true):a<b:=Nat.le_of_ble_eq_true h
def zW(h0 : -(10 ^ 200)<i)(h1:i<10 ^ 200):i.natAbs<big:=by
 have:(10:Nat) ^ 200<big:=by unfold big;decide +kernel
 have e:((10 ^ 200:Nat):Int)=(10:Int) ^ 200:=by norm_cast
 have:(i.natAbs:Int)<((10 ^ 200:Nat):Int):=by rw[e];omega
 omega
def zpq{ns:List Int}{k:Int}(h0:0<=k)(h1:k<ns.length):∃x,ixP (.lst (ns.map D.int)) (.int k)=some (.im (.int x)):=by
 have hk:k.toNat<ns.length:=by omega
 refine⟨ns[k.toNat], ?_⟩;have h:=ZM (xs:=ns.map D.int) (j:=k.toNat) (v:=D.int ns[k.toNat]) (by rw[zzG,zzC hk];rfl);rw[show((k.toNat:Nat):Int)=k by omega]at h;show imR (atI _ _)=_;rw[h];rfl
section
variable{X:Cx}{kd:KD}{K:zC}{mg:Str->Option Value}
def spL(K:zC)(g:Fn):Sp:=λvs H Q E=>∀kd:KD,spD K kd g vs H Q E
end
def X8(fa fb fc:EF)(g g':D->D->Option R0):EF:=λas=>(fa as).bind λp=>(fb p.2).bind λq=>(p.1.frz.view q.2).bind λx=>(q.1.frz.view q.2).bind λy=>(g x.1 y.1).bind λr=>match r with
 | .im (.bl true)=>(fc q.2).bind λt=>(q.1.frz.view t.2).bind λy'=>(t.1.frz.view t.2).bind λz=>(g' y'.1 z.1).bind λr'=>(wrap (meet y'.2 z.2) r').bind λo=>some (o,t.2)
 | .im (.bl false)=>some (.ow (.lf true (.bl false)),q.2)
 |_=>none
def lfO:O->Option (Bool×D)
 | .lf s d=>some (s,d)
 |_=>none
def znB(h:lfO o=some p):o = .lf p.1 p.2:=by
 cases o with
 |lf s d=>cases h;rfl
 |nd k os=>cases h
def zna(i j:Nat)(fd:DF):SF:=λas=>(fd as).bind λp=>(zrv p.1).bind λo=>(lfO o.1).bind λa=>(lfO o.2).bind λb=>if i<p.2.length/\j<p.2.length then some (.nx ((p.2.set i (some (.lf a.1 a.2))).set j (some (.lf b.1 b.2))))else none
section
variable{X:Cx}{kd:KD}{a b:Expr}{fd:DF}{pos:Pos}
def zsl(hc:X.calm=true)(hN:X.N.Nodup)(hi:X.N[i]? = some x)(hj:X.N[j]? = some y)(hij:i≠j)
 (hx:X.env.scope.names.lookup x=some .local) (hy:X.env.scope.names.lookup y=some .local) (ha:AD X kd [a,b] fd)
 (hw:swappedStores [.Tuple [.Name x px,.Name y py] kt pt] (.Tuple [a,b] k2 pt2) X.env=pure (some [x,y]))
 (hs:swapsWithSole [.Tuple [.Name x px,.Name y py] kt pt] (.Tuple [a,b] k2 pt2) pos.line X.env=pure false):
 ASt X kd (.Assign [.Tuple [.Name x px,.Name y py] kt pt] (.Tuple [a,b] k2 pt2) pos) (zna i j fd):=by with_unfolding_all exact(vd (zsy hc hN hi hj hij hx hy ha hw hs) λD σ H h=>by
 obtain⟨F,B,ad,as,o,R,e,q⟩:=h;obtain⟨⟨os,as1⟩,h1,e⟩:=bS_ (show(fd as).bind _=_ from e);obtain⟨⟨o1,o2⟩,e1,e⟩:=bS_ e;obtain⟨⟨s1,d1⟩,e2,e⟩:=bS_ e;obtain⟨⟨s2,d2⟩,e3,e⟩:=bS_ e;cases zkO e1;cases znB e2;cases znB e3
 · obtain⟨⟨l1,l2⟩,e⟩:=zQ e;cases e;refine⟨F,B,ad,as,_,as1,R,h1,λvs T' ad' H' R' rl g=>?_⟩;cases rl with
   |cons ra rb=>
    cases rb with
    |cons rb rn=>
     cases rn;cases ra with
     |lf ra=>
      cases rb with
      |lf rb=>
       refine⟨_,_,rfl, ?_⟩;have R2:=R'.put (T:=[]) (i:=i) (o:=.lf s1 d1) l1 (.lf ra);have R3:=R2.put (T:=[]) (i:=j) (o:=.lf s2 d2) (by rw[zzS];exact l2) (RoS.less wU (.lf rb));exact q _ _ _ R3 (g.trans (Grow.less λa z=>wU a (wU a z))))
end
inductive Ents(w:World):List DictEntry->List (Key×V)->Prop
 |nil:Ents w [] []
 |str {x:Str}{t:Tok}{v:V}{u:Value}{r:List DictEntry}{s:List (Key×V)}:RelV v u->Ents w r s->Ents w (⟨PyData.keyHash w.params x,.str x t,u⟩::r) ((.inr x,v)::s)
theorem Ents.keys:∀{es:List DictEntry}{kvs:List (Key×V)},Ents w es kvs->∀e ∈ es,∃k,(xu P w).is k e.key=true/\e.hash=(xu P w).hash k
 |_,_,.nil,_,m=>nomatch m
 |_,_,.str (x:=x) (t:=t) _ r,e,m=>by
  rcases zzA.mp m with rfl|m
  · exact⟨.inr x,Wf P w x t,rfl⟩
  · exact r.keys e m
theorem Ents.pairs:∀{es:List DictEntry}{kvs:List (Key×V)},Ents w es kvs->∃vs,KV kvs vs/\Pairs (xu P w) es vs/\vs.map (·.1)=kvs.map (·.1)
 |_,_,.nil=>⟨[],.nil,.nil,rfl⟩
 |_,_,.str (x:=x) (t:=t) (u:=u) h r=>by
  obtain⟨vs,h1,h2,h3⟩:=r.pairs (P:=P);exact⟨(.inr x,u)::vs,.cons ⟨rfl,h⟩ h1,.cons (Wf P w x t) rfl h2,by rw[zyQ,zyQ,h3]⟩
structure DctAt(w:World)(K:zC)(a:Addr)(kvs:List (Key×V)):Prop where
 ex:∃es ep,K.lookup a=some {cls:=.type "dict",data:=.dict es ep}/\Ents w es.toList kvs
 nd:(kvs.map (·.1)).Nodup
 le:kvs.length<=sizeLine
 ns:(a==sysModules)=false
def kdL(l:List (Addr×List (Key×V)))(c:Str->Addr:=λ_=>0):KD:=⟨λa k=>l.lookup a=some k,c⟩
def lookup_mem{l:List (Addr×List (Key×V))}{a:Addr}{k:List (Key×V)}(h:l.lookup a=some k):(a,k) ∈ l:=by
 induction l with
 |nil=>cases h
 |cons p r ih=>
  rw[List.lookup_cons]at h
  by_cases e:a=p.1
  · subst e;rw[beq_self_eq_true]at h;cases h;exact zzD
  · rw[show(a==p.1)=false from beq_eq_false_iff_ne.mpr e]at h;exact zzB _ (ih h)
def zsf{P:Program}{w:World}{K:zC}{l:List (Addr×List (Key×V))}{c:Str->Addr}(h:∀p ∈ l,DctAt w K p.1 p.2):KD1 P w K (kdL l c):=λX e1 e2 e3=>by
 subst e1;subst e2;subst e3;refine⟨λa k k' h1 h2=>zzX (h1.symm.trans h2),λa k h1=>?_,λa k hp h1 hin=>?_⟩
 · obtain⟨es,ep,e,_⟩:=(h _ (lookup_mem h1)).ex;exact⟨_,e⟩
 · have q:=h _ (lookup_mem h1);obtain⟨es,ep,e,en⟩:=q.ex;obtain⟨vs,h2,h3,h4⟩:=en.pairs (P:=X.prog);refine⟨q.le,q.ns,vs,h2,_,es,ep,hin _ _ e,⟨rfl,rfl,rfl⟩,rfl,λx m=>en.keys x (by simpa using m),h3,by rw[h4];exact q.nd⟩
def isStar:Expr->Bool
 | .Starred .. => true
 |_=>false
def wI(h:isStar a=false):starEach (a::es) env=(false,eval a env)::starEach es env:=by
 cases a<;>first|rfl|cases h
section
variable{as:AS}{f a b c:EF}{s t u:Bool}{x y z:D}{i j k:Int}
def zfQ{fl fh:OF}{lo hi:Option Int}{g:D->Option Int->Option Int->Option R0}(ha:WD a as true y)(hl:fl as=some (lo,as))(hh:fh as=some (hi,as))(hg:g y lo hi=some (.im x)):WD (fSl a fl fh g) as true x:=by
 have:=zmN ha hl hh hg;rw[zyB]at this;exact this
def zmy(h:WT cc as true)(h1:g as=some (.nx as1))(h2:whL cc g n as1=o):whL cc g (n+1) as=o:=by
 unfold WT at h;show(cc as).bind _=_;rw[h];show(g as).bind _=_;rw[h1];exact h2
def zjT(h:WT cc as false):whL cc g (n+1) as=some (.nx as):=by
 unfold WT at h;show(cc as).bind _=_;rw[h];rfl
def ztd(h:WO fd as [.lf s x,.lf t y])(hi:p<as.length)(hj:q<as.length):zna p q fd as=some (.nx ((as.set p (some (.lf s x))).set q (some (.lf t y)))):=by
 unfold zna;unfold WO at h;rw[h];show(if _ then _ else _)=_;rw[if_pos ⟨hi,hj⟩]
def zfZ(h1:g w as0=some as1)(h2:WT tt as1 false)(h3:xj g tt fe as0 r=o):xj g tt fe as0 (w::r)=o:=by
 unfold WT at h2;show(g w as0).bind _=_;rw[h1];show(tt as1).bind _=_;rw[h2];exact h3
def zlY{g:GF}{tt:TF}{fe:EF}{as0 as1:AS}{w:It1}{r:List It1}{os:List O}(h1:g w as0=some as1)(h2:WT tt as1 true)(h3:WD fe as1 true x)(h4:xj g tt fe as0 r=some os):xj g tt fe as0 (w::r)=some (.lf true x::os):=by
 unfold WT at h2;unfold WD at h3;show(g w as0).bind _=_;rw[h1];show(tt as1).bind _=_;rw[h2];show(fe as1).bind _=_;rw[h3];show(xj g tt fe as0 r).bind _=_;rw[h4];rfl
def WE(f:EF)(as:AS)(x:D):Prop:=∃o,f as=some (.ow o,as)/\o.str=true/\o.toD=x
def RE(r:Option O)(x:D):Prop:=∃o,r=some o/\o.str=true/\o.toD=x
def WD.e(h:WD f as true x):WE f as x:=⟨_,h,rfl,rfl⟩
def wM{fr:DF}{os:List O}(h:WO fr as os)(hl:os.length<=sizeLine)(hs:O.strs os=true)(e:D.lst (O.toDs os)=x):WE (yN fr) as x:=⟨_,wy h hl,hs,e⟩
def YD(h:WE a as x)(hr:WA fr as rs):WA (aC a fr) as ((true,x)::rs):=by
 obtain⟨o,h1,h2,rfl⟩:=h;have:=znt h1 hr;rw[h2]at this;exact this
def vG(ha:WE a as x)(hg:RE (g [(true,x)]) z):WE (zM (aC a aN) g) as z:=by
 obtain⟨o,h1,h2,h3⟩:=hg;exact⟨o,Z3 (YD ha zJ) (by show g [(zZ x||true,x)]=_;rw[zyB];exact h1),h2,h3⟩
def Wv(ha:WE a as x)(hb:WE b as y)(hg:RE (g [(true,x),(true,y)]) z):WE (zM (aC a (aC b aN)) g) as z:=by
 obtain⟨o,h1,h2,h3⟩:=hg;exact⟨o,Z3 (YD ha (YD hb zJ)) (by show g [(zZ x||true,x),(zZ y||true,y)]=_;rw[zyB,zyB];exact h1),h2,h3⟩
def Yp(ha:WE a as x)(hb:WE b as y)(hc:WE c as w)(hg:RE (g [(true,x),(true,y),(true,w)]) z):WE (zM (aC a (aC b (aC c aN))) g) as z:=by
 obtain⟨o,h1,h2,h3⟩:=hg;exact⟨o,Z3 (YD ha (YD hb (YD hc zJ))) (by show g [(zZ x||true,x),(zZ y||true,y),(zZ w||true,w)]=_;rw[zyB,zyB,zyB];exact h1),h2,h3⟩
def f2E(ha:WE a as x)(hb:WE b as y)(hg:g x y=some (.im z)):WD (f2 a b g) as true z:=by
 obtain⟨o,h1,h2,rfl⟩:=ha;obtain⟨p,h3,h4,rfl⟩:=hb;have:=zus h1 h3 hg;rw[h2,h4,Bool.and_true,zyB]at this;exact this
def f2L(ha:WE a as x)(hb:WE b as y)(hg:g x y=some (.fl zs)):f2 a b g as=some (.ow (.nd .ls (zs.map (O.lf true))),as):=by
 obtain⟨o,h1,h2,rfl⟩:=ha;obtain⟨p,h3,h4,rfl⟩:=hb;exact zpO h1 h3 hg h2 h4
theorem zfI:∀zs:List D,O.strs (zs.map (O.lf true))=true
 | []=>rfl
 |_::r=>zfI r
theorem zfu:∀zs:List D,O.toDs (zs.map (O.lf true))=zs
 | []=>rfl
 |z::r=>congrArg (z :: ·) (zfu r)
def zsW(ha:WE a as x)(hb:WE b as y)(hg:g x y=some (.fl zs)):WE (f2 a b g) as (.lst zs):=⟨_,f2L ha hb hg,zfI zs,congrArg D.lst (zfu zs)⟩
def xZ(h:WE f as x)(hi:p<as.length):zL true p f as=some (.nx (as.set p (some (.lf true x)))):=by
 obtain⟨o,h1,h2,rfl⟩:=h;have:=zqr h1 hi;rw[show o.frz = .lf true o.toD by unfold O.frz;rw[h2]]at this;exact this
def ztb(ha:WE a as x)(hb:WE b as y)(h:eqF 60 x y=some q):WD (f2 a b (zR .Eq)) as true (.bl q):=f2E ha hb (by show(eqF 60 x y).bind _=_;rw[h];rfl)
def zol(ha:WE a as x)(hb:WE b as y)(h:eqF 60 x y=some q):WD (f2 a b (zR .NotEq)) as true (.bl (!q)):=f2E ha hb (by show(eqF 60 x y).bind _=_;rw[h];rfl)
def zrG(ha:WE a as x)(hg:g [x]=some (.im z)):WD (fP (aC a aN) g) as true z:=ziG (YD ha zJ) hg rfl
def Y8{fr:DF}{o:O}{os:List O}(ha:a as=some (.ow o,as))(hr:WO fr as os):WO (dC a fr) as (o::os):=yS ha hr
def ziS{fr:DF}{os:List O}(h:WO fr as os)(hl:os.length<=sizeLine):yw fr as=some (.ow (YH os),as):=by
 unfold yw;unfold WO at h;rw[h];show(if os.length<=sizeLine then some (RV.ow (YH os),as)else _)=_;rw[if_pos hl]
def zcW{fl fh:OF}{lo hi:Option Int}{g:D->Option Int->Option Int->Option R0}{zs:List D}(ha:WE a as y)(hl:fl as=some (lo,as))(hh:fh as=some (hi,as))(hg:g y lo hi=some (.fl zs)):WE (fSl a fl fh g) as (.lst zs):=by
 obtain⟨o,h1,h2,rfl⟩:=ha;refine⟨.nd .ls (zs.map (O.lf true)), ?_,zfI zs,congrArg D.lst (zfu zs)⟩;unfold fSl;rw[h1];show((fl as).bind _)=_;rw[hl];show((fh as).bind _)=_;rw[hh];show((g o.toD lo hi).bind _)=_;rw[hg];show(if(zs.all zZ||(some o.str).isSome)=true then some (RV.ow (.nd .ls (zs.map (lfs ((some o.str).getD false)))))else none:Option RV).bind _=_;rw[if_pos (by simp),h2];show some (RV.ow (.nd .ls (zs.map (lfs true))),as)=_;rw[WX]
def zmW:slP (.lst (xs++ys)) (some (xs.length:Int)) none=some (.fl ys):=by
 show some (R0.fl (cutD (xs++ys) (some (xs.length:Int)) none))=_
 congr 2
 unfold cutD;rw[HT.zdh,HT.zhW,zzH,Nat.min_eq_left (by omega),List.drop_left,List.take_of_length_le (by omega)]
theorem zgJ:∀ds:List D,kids true ds=ds.map λd=>(true,d)
 | []=>rfl
 |d::r=>by show(zZ d||true,d)::kids true r=_;rw[zgJ r,zyB];rfl
def zey(h:WE f as (.lst ds)):yU f as=some (ds.map λd=>(true,d),as):=by
 obtain⟨o,h1,h2,h3⟩:=h;unfold yU;rw[h1];show(zhQ (o.str,o.toD)).bind _=_;rw[h2,h3];show some (kids true ds,as)=_;rw[zgJ]
def znH(h:WD f as true (.lst ds)):zed f as=some (ds.map λd=>(true,d),as):=by
 unfold zed;unfold WD at h;rw[h];show some (kids true ds,as)=_;rw[zgJ]
end
def zcE:List D->Option (List Str)
 | []=>some []
 | .str x::r=>(zcE r).bind λs=>some (x::s)
 |_::_=>none
def zqj{K:zC}{kd:KD}{O:Addr->Prop}{H:Hp}{vs:List V}{us:List Value}{ds:List D}{ns:List Str}(h:RpL K kd O H vs ds)(hv:Vals vs us)(e:zcE ds=some ns):StrsAre us ns:=
 RpL.ind (P:=λvs ds=>∀us ns,Vals vs us->zcE ds=some ns->StrsAre us ns) (λus ns hv e=>by cases e;cases hv;exact .nil) (λ{v d vs ds} a _ ih us ns hv e=>by
  cases hv with
  |cons b t=>
   cases a with
   |str x=>
    obtain⟨ys,h1,h2⟩:=bS_ (show(zcE _).bind _=_ from e);cases h2;obtain⟨tk,rfl⟩:=b;exact .cons _ _ (ih _ _ t h1)
   |_=>cases e) h us ns hv e
def zkA:D->List D->Option R0
 | .str sep,[.lst ds]=>(zcE ds).bind λys=>if(ys.map (·.length)).sum+ys.length*sep.length<=16777216 then some (.im (.str (Txt.join sep ys)))else none
 |_,_=>none
section
variable{X:Cx}{kd:KD}
def zpA:MtD X kd "str.join" zkA:=by
 intro pins s σ H x xs v us Q I rx r h;obtain⟨O,d,ds,r0,ht,vx,vl,he,q⟩:=h;unfold zkA at he
 split at he
 · rename_i sep es;obtain⟨ys,h1,he⟩:=bS_ he;obtain⟨hz,he⟩:=zQ he;cases he;cases vx;obtain⟨t,rfl⟩:=rx;obtain⟨y,rfl,vy⟩:=zhx vl;cases vy with
   |lst hr rl=>
    obtain⟨u,rfl,ru⟩:=vals1 r;cases ru;obtain⟨its,rv,pl,_⟩:=I.list hr.sq;exact join_list pl.isList (zqj rl (by simpa using rv) h1) hz λt' k=>⟨.str _,H,I.tok _,⟨t',rfl⟩,yu q (.str _)⟩
 · cases he
def zvN:D->Option R0
 | .str x=>if x.length<=640 then(PySem.intText? x).bind λn=>some (.im (.int n))else none
 |d=>zvW d
def ziO:List D->Option R0:=on1 zvN
def zjS:CallD X kd (.type "int") ziO:=by
 intro pins s σ H xs us Q I r h;obtain⟨O,ds,z,ht,vl,he,q⟩:=h;obtain⟨x,d,rfl,vx,he⟩:=zbm vl he;cases vx with
 |str y=>
  obtain⟨hl,he⟩:=ite_some' he;obtain⟨n,hn,he⟩:=bS_ he;cases he;obtain⟨u,rfl,ru⟩:=vals1 r;obtain⟨t,rfl⟩:=ru;exact PySem.W.KIN.call_text hn hl ⟨.int _,H,I.tok _,⟨_,rfl⟩,yu q (.int _)⟩
 |int i=>cases he;exact zfr pins s σ H _ us Q I r (.inl ⟨_,rfl,yu q (.int _)⟩)
 |bl b=>cases he;exact zfr pins s σ H _ us Q I r (.inr ⟨_,rfl,yu q (.int _)⟩)
 |_=>cases he
end
section
variable{X:Cx}{pins:List (Addr×Obj)}{σ:List (Option V)}{H:Hp}{s:Shared}{h':Heap}
def zba{t':Nat}{ch:List Addr}{T:Addr}{o:HO}(I:Inv X pins σ H s)(hf:∀b ∈ ch,zcR X pins H b)(k:∀b u,b ∉ ch->s.heap.get? b=some u->h'.get? b=some u)(hp:s.heap.objs.size<=T)
 (new:wL X.prog X.w (upd H T o) h' T o):Inv X pins σ (upd H T o) {s with heap:=h',toks:=t'}:=by
 have hn:H T=none:=I.hok.fresh hp;have nT:∀b u,s.heap.get? b=some u->b≠T:=λb u e z=>absurd (zzI (zxH e) (by rw[z];exact hp)) (Nat.lt_irrefl _);have nc:∀b u,H b=some u->b ∉ ch:=λb u e z=>by have:=(hf b z).1;rw[e]at this;cases this
 refine I.step (g':=s.gens) (d':=s.drawn) (ch:=ch) (λb hb=>?_) (λb o _ _ hc e _=>k b o hc e) (λb o _ _ hc e _=>⟨o.slots,k b o hc e⟩) (λb o _ e n=>by rw[zH (nT b o e)];exact n)
  (λb o hc e=>⟨o,k b o hc e⟩) (λb xs e=>by rw[zH (yf e hn)];exact e) (λb o u e=>by rw[zH (yf e hn)];exact e) (λb ps e=>⟨#[],by rw[zH (yf e hn),e];simp⟩) (λm hm=>?_) (λb u e=>?_) I.bare
 · obtain⟨f0,f1,f2,f3,f4,f5⟩:=hf b hb;exact⟨f3,f1,f4,f5⟩
 · obtain⟨o,es,ep,ho,r⟩:=hm;exact⟨o,es,ep,k _ o (λz=>(hf _ z).2.1 rfl) ho,r⟩
 · by_cases hb:b=T
   · subst hb;rw[zT]at e;cases e;exact new
   · rw[zH hb]at e;refine(I.hok b u e).stay (λc v hc q=>k c v ?_ q) (λc q=>by rw[zH (yf q hn)];exact q) λc xs q=>by rw[zH (yf q hn)];exact q
     rcases hc with z|z
     · rw[z];exact nc b u e
     · exact nc c _ z
end
def Ite(K:zC)(a:Addr):It:=
 ⟨λi H=>∃xs x,SqL K H a xs/\xs[i]? = some x,λi H v H'=>∃T x,H T=none/\v = .ref T/\H'=upd H T (.tup [.int i,x])/\∀xs,SqL K H a xs->xs[i]? = some x,λi H=>∃xs,SqL K H a xs/\xs.length<=i⟩
def zlm{P:Program}{w:World}{K:zC}{elts:List Expr}{k:Nat}{pos:Pos}(a e it:Addr)(hei:e≠it):Turn P w K (.Tuple elts k pos) (Ite K a) [e,it] e (λi h=>(∃old,IsEnum h e it i old)/\h.IsListIter it a i)where
 mem:=by simp
 obj:=λi h st b hb=>by
  obtain⟨⟨old,he⟩,⟨o,e1,c,d⟩⟩:=st
  rcases zzA.mp hb with rfl|hb
  · exact⟨_,he,λv z=>by cases z⟩
  · rw[zzP.mp hb];exact⟨o,e1,λv z=>by rw[d]at z;cases z⟩
 keep:=λi h h' st kk=>⟨st.1.imp λold he=>kk e (by simp) _ he,st.2.at λo q=>kk it (by simp) o q⟩
 item:=by
  intro X hP hw hK hc i pins s σ H E I hf st hg;subst hP hw hK;obtain⟨xs,x,hq,hx⟩:=hg;obtain⟨its,rv,p,hz⟩:=I.list hq;obtain⟨u,hu,ru⟩:=rv.get hx;have hil:i<its.toArray.size:=by have:=(zzE.mp hu).1;simpa using this
  obtain⟨ol,hol,hcl,_⟩:=p.isList;have hae:a≠e:=λz=>by
   obtain⟨⟨old,he⟩,_⟩:=st;rw[z]at hol;rw[show s.heap.get? e=_ from he]at hol;cases hol;injection hcl with q;exact absurd q (by decide)
  have hai:a≠it:=λz=>by
   obtain⟨_,⟨o,e1,c,d⟩⟩:=st;rw[z,e1]at hol;cases hol;rw[c]at hcl;injection hcl with q;exact absurd q (by decide)
  have W:=WalksT.enumerate (prog:=X.prog) (w:=X.w) (A:=X.A) (I.ok.hd hc) e it a hei hae hai its.toArray;refine W.item i s _ _ hil ⟨st.1,st.2,p.isList⟩ λT vals h1 tk hP hT hTup hMid kk=>?_;obtain⟨t,v,hv,rfl⟩:=hP;have:v=u:=by rw[show its.toArray[i]? = its[i]? by simp,hu]at hv;cases hv;rfl
  subst this;refine⟨_,rfl,W.go elts k pos i T {s with heap:=h1,toks:=tk} _ _ hMid λh2 hSt kk2=>?_⟩;have hn:H T=none:=I.hok.fresh hT;have hTw:=W.apart i T h1 hMid;have k2:∀b o,b ∉ [e,it]->s.heap.get? b=some o->h2.get? b=some o:=λb o hb q=>kk2 b o hb (kk b o hb q);have hT2:IsTup h2 T #[.int i t,v]:=by
   obtain⟨o,q1,q2⟩:=hTup;exact⟨o,kk2 T o hTw q1,q2⟩
  refine⟨.ref T,upd H T (.tup [.int i,x]),zba (s:=s) (t':=tk) (ch:=[e,it]) I hf k2 hT ⟨by show 2<=sizeLine;decide,[.int i t,v],.cons ⟨t,rfl⟩ (.cons ru .nil),hT2⟩,rfl,⟨T,x,hn,rfl,rfl,λys hy=>by rw[I.list_inj hy hq];exact hx⟩,⟨hSt.1,hSt.2.1⟩,λb hb=>?_⟩;have hbT:b≠T:=λz=>hTw (by rw[<-z];exact hb);rw[zH hbT];exact(hf b hb).1
 done:=by
  intro X hP hw hK hc i pins s σ H E I hf st hg;subst hP hw hK;obtain⟨xs,hq,hx⟩:=hg;obtain⟨its,rv,p,hz⟩:=I.list hq;have hl:=rv.length;obtain⟨⟨old,he⟩,hit⟩:=st;obtain⟨f0,f1,f2,f3,f4,f5⟩:=hf it (by simp);exact wpAny_pyNext_enum_end (I.ok.hd hc) he hit p.isList (by simp;omega) λh' eb=>⟨rfl,I.turned (t':=s.toks) (λb o hb e=>eb b o hb e) f0 f1 f3 f4 f5⟩
 self:=λ_ _ _ _ _ st h=>by
  obtain⟨⟨old,he⟩,_⟩:=st;exact wpAny_pyIter_enum he h
section
variable{X:Cx}{tg:Expr}
def zsG(K:zC)(ta:TA):TI:=λσ H R=>ta σ H λvs H1=>∃a,vs=[.ref a]/\(∃xs,SqL K H1 a xs)/\R (Ite K a) H1
def zpH{l:Expr}{ta:TA}{p pos pos':Pos}{elts:List Expr}{k:Nat}(hg:Gl X "enumerate")(hm:X.mg "enumerate"=none)(ha:PA X [l] ta)(hs:starEach [l] X.env=[(false,eval l X.env)]):
 PI X (.Tuple elts k pos') (.Call (.Name "enumerate" p) [l] [] pos) (zsG X.K ta):=by
 intro pins s σ H R I h;refine Call_ (Ys I hg hm boot_enumerate (PyProof.Rows.callWith_type1 (thn (ha pos pins s σ H _ I h) λus s1 ⟨vs,H1,I1,r1,q1⟩=>?_) hs rfl));obtain⟨a,rfl,⟨xs,hq⟩,q⟩:=q1;cases r1 with
 |cons r rr=>
  cases rr;cases r;obtain⟨its,rv,pl,hz⟩:=I1.list hq;refine call_enumerate_list pl.isList λh' he hit hsz hk=>?_;refine wpAny_pyIter_enum he ⟨s1.heap.objs.size+1,[s1.heap.objs.size+1,s1.heap.objs.size],_,_,H1,rfl,I1.kept (t':=s1.toks) hk,zlm a _ _ (Nat.succ_ne_self _),⟨⟨_,he⟩,hit⟩,λb hb=>?_,q⟩;have hb':s1.heap.objs.size<=b:=by
   rcases zzA.mp hb with rfl|hb
   · exact zyV _
   · rw[zzP.mp hb];exact zzL _
  exact I1.fpOk hb' (I1.hok.fresh hb')
end
section
variable{X:Cx}{kd:KD}{tg e:Expr}{fa:EF}
def V1(st:Bool):Nat->List D->List It1
 |_,[]=>[]
 |i,d::r=>(st,.tup [.int i,d])::V1 st (i+1) r
theorem zfz(st:Bool):∀(i:Nat) (ds:List D),(V1 st i ds).length=ds.length
 |_,[]=>rfl
 |i,_::r=>congrArg (· + 1) (zfz st (i+1) r)
theorem zfL{st:Bool}:∀{j:Nat}{ds:List D}{i:Nat}{y:It1},(V1 st j ds)[i]? = some y->∃d,ds[i]? = some d/\y=(st,.tup [.int ((j+i:Nat):Int),d])
 |_,[],_,_,h=>by simp[V1]at h
 |j,d::r,0,y,h=>by
  simp only[V1,List.getElem?_cons_zero]at h;cases h;exact⟨d,rfl,rfl⟩
 |j,d::r,i+1,y,h=>by
  simp only[V1,List.getElem?_cons_succ]at h;obtain⟨d',h1,h2⟩:=zfL h;exact⟨d',by simpa using h1,by rw[h2,show j+1+i=j+(i+1) by omega]⟩
def zqc(f:EF):IF:=λas=>(f as).bind λp=>(zbz p.2 p.1).bind λq=>match q.1 with
 |(st,.lst ds)=>some (V1 st 0 ds,q.2)
 |_=>none
end
mutual
def pyD:D->Option PyData
 | .non=>some .none
 | .bl b=>some (.bool b)
 | .int i=>some (.int i)
 | .str x=>some (.str x)
 | .tup ds=>(zgn ds).bind λps=>some (.tuple ps)
 | .lst ds=>(zgn ds).bind λps=>some (.list ps)
 | .dct _=>none
 | .cl _=>none
 | .ob _ _ _=>none
 | .dt _ _=>none
 | .er _ _ _=>none
def zgn:List D->Option (List PyData)
 | []=>some []
 |d::r=>(pyD d).bind λp=>(zgn r).bind λps=>some (p::ps)
end
section
variable{X:Cx}{kd:KD}{pins:List (Addr×Obj)}{σ:St}{H:Hp}{s:Shared}{O:Addr->Prop}
mutual
theorem ziH(I:Inv X pins σ H s):∀{v:V}{d:D}{u:Value}{p:PyData},Rp X.K kd O H v d->RelV v u->pyD d=some p->∃as,Reads s.heap u p as
 |_,_,u,p,.non,r,e=>by unfold pyD at e;cases e;cases r;exact⟨_,.none⟩
 |_,_,u,p,.bl b,r,e=>by unfold pyD at e;cases e;cases r;exact⟨_,.bool b⟩
 |_,_,u,p,.int i,r,e=>by unfold pyD at e;cases e;obtain⟨t,rfl⟩:=r;exact⟨_,.int i t⟩
 |_,_,u,p,.str x,r,e=>by unfold pyD at e;cases e;obtain⟨t,rfl⟩:=r;exact⟨_,.str x t⟩
 |_,_,u,p,.tup hn hr rl,r,e=>by
  unfold pyD at e;obtain⟨ps,h1,h2⟩:=bS_ e;cases h2;cases r;obtain⟨its,rv,⟨o,e1,c,n,dd⟩,_⟩:=I.tuple (.inl (.inl hr));obtain⟨as,ra⟩:=W3 I rl rv h1;exact⟨_,.tuple e1 c dd (by simpa using ra)⟩
 |_,_,u,p,.lst hn hr rl,r,e=>by
  unfold pyD at e;obtain⟨ps,h1,h2⟩:=bS_ e;cases h2;cases r;obtain⟨its,rv,⟨o,n,e1,c,_,dd⟩,_⟩:=I.list (.inl hr);obtain⟨as,ra⟩:=W3 I rl rv h1;exact⟨_,.list e1 c dd (by simpa using ra)⟩
 |_,_,u,p,.lstK hk hz hv rl,r,e=>by
  unfold pyD at e;obtain⟨ps,h1,h2⟩:=bS_ e;cases h2;cases r;obtain⟨as,ra⟩:=W3 I rl hv h1;exact⟨_,.list (I.kIn _ _ hk) rfl rfl ra⟩
 |_,_,u,p,.dct _ _ _,r,e=>by unfold pyD at e;cases e
 |_,_,u,p,.cl _,r,e=>by unfold pyD at e;cases e
 |_,_,u,p,.ob _ _ _ _,r,e=>by unfold pyD at e;cases e
 |_,_,u,p,.dt _ _ _ _,r,e=>by unfold pyD at e;cases e
 |_,_,u,p,.er _ _ _ _ _,r,e=>by unfold pyD at e;cases e
 |_,_,u,p,.dctK _ _,r,e=>by unfold pyD at e;cases e
theorem W3(I:Inv X pins σ H s):∀{vs:List V}{ds:List D}{us:List Value}{ps:List PyData},RpL X.K kd O H vs ds->Vals vs us->zgn ds=some ps->∃as,ReadsAll s.heap us ps as
 |_,_,_,_,.nil,.nil,e=>by unfold zgn at e;cases e;exact⟨_,.nil⟩
 |_,_,_,_,.cons a r,.cons b t,e=>by
  unfold zgn at e;obtain⟨p,h1,e⟩:=bS_ e;obtain⟨ps,h2,e⟩:=bS_ e;cases e;obtain⟨as,x⟩:=ziH I a b h1;obtain⟨bs,y⟩:=W3 I r t h2;exact⟨_,.cons x y⟩
end
end
def zoB(sep:Str)(ys:List Str):Txt.join sep ys=Str.join sep ys:=StrLaws.glued_eq_join sep ys
section
variable{as:AS}{f a b:EF}{s t:Bool}{x y z:D}
def zmQ:slP (.lst (xs++ys)) none (some (xs.length:Int))=some (.fl xs):=by
 show some (R0.fl (cutD (xs++ys) none (some (xs.length:Int))))=_
 congr 2
 unfold cutD;rw[HT.zdh,HT.zhW,zzH,Nat.min_eq_left (by omega),List.drop_zero,Nat.sub_zero,List.take_left]
end
def Itz(K:zC)(a b:Addr):It:=
 ⟨λi H=>∃xs ys x y,SqL K H a xs/\SqL K H b ys/\xs[i]? = some x/\ys[i]? = some y,
  λi H v H'=>∃T x y,H T=none/\v = .ref T/\H'=upd H T (.tup [x,y])/\(∀xs,SqL K H a xs->xs[i]? = some x)/\∀ys,SqL K H b ys->ys[i]? = some y,
  λi H=>∃xs ys,SqL K H a xs/\SqL K H b ys/\(xs.length<=i\/ys.length<=i)⟩
def ziZ{X:Cx}{pins:List (Addr×Obj)}{σ:List (Option V)}{H:Hp}{s:Shared}{h':Heap}{t':Nat}{ch:List Addr}(I:Inv X pins σ H s)(hf:∀b ∈ ch,zcR X pins H b)(k:∀b u,b ∉ ch->s.heap.get? b=some u->h'.get? b=some u):Inv X pins σ H {s with heap:=h',toks:=t'}:=by
 have nc:∀b u,H b=some u->b ∉ ch:=λb u e z=>by have:=(hf b z).1;rw[e]at this;cases this
 refine I.step (g':=s.gens) (d':=s.drawn) (ch:=ch) (λb hb=>?_) (λb o _ _ hc e _=>k b o hc e) (λb o _ _ hc e _=>⟨o.slots,k b o hc e⟩) (λb o _ e n=>n)
  (λb o hc e=>⟨o,k b o hc e⟩) (λb xs e=>e) (λb o u e=>e) (λb ps e=>⟨#[],by rw[e];simp⟩) (λm hm=>?_) (λb u e=>?_) I.bare
 · obtain⟨f0,f1,f2,f3,f4,f5⟩:=hf b hb;exact⟨f3,f1,f4,f5⟩
 · obtain⟨o,es,ep,ho,r⟩:=hm;exact⟨o,es,ep,k _ o (λz=>(hf _ z).2.1 rfl) ho,r⟩
 · refine(I.hok b u e).stay (λc v hc q=>k c v ?_ q) (λc q=>q) λc xs q=>q
   rcases hc with z|z
   · rw[z];exact nc b u e
   · exact nc c _ z
def znO{P:Program}{w:World}{K:zC}{elts:List Expr}{k:Nat}{pos:Pos}(a b z TI TO i1 i2:Addr)(D:ZipApart z TI TO i1 i2 a b):Turn P w K (.Tuple elts k pos) (Itz K a b) [z,TI,TO,i1,i2] z
 (λi h=>IsZip h z TI TO .none/\IsPair h TI (.ref i1) (.ref i2)/\(∃p q,IsPair h TO p q)/\h.IsListIter i1 a i/\h.IsListIter i2 b i)where
 mem:=by simp
 obj:=λi h st c hc=>by
  obtain⟨hz,hTI,⟨p,q,hTO⟩,⟨o1,e1,c1,d1⟩,⟨o2,e2,c2,d2⟩⟩:=st;simp only[zzA,zxA,or_false]at hc
  rcases hc with rfl|rfl|rfl|rfl|rfl
  · exact⟨_,hz,λv z=>by cases z⟩
  · exact⟨_,hTI,λv z=>by cases z⟩
  · exact⟨_,hTO,λv z=>by cases z⟩
  · exact⟨o1,e1,λv z=>by rw[d1]at z;cases z⟩
  · exact⟨o2,e2,λv z=>by rw[d2]at z;cases z⟩
 keep:=λi h h' st kk=>by
  obtain⟨hz,hTI,⟨p,q,hTO⟩,h1,h2⟩:=st;exact⟨kk z (by simp) _ hz,kk TI (by simp) _ hTI,⟨p,q,kk TO (by simp) _ hTO⟩,h1.at λo e=>kk i1 (by simp) o e,h2.at λo e=>kk i2 (by simp) o e⟩
 item:=by
  intro X hP hw hK hc i pins s σ H E I hf st hg;subst hP hw hK;obtain⟨xs,ys,x,y,hq,hr,hx,hy⟩:=hg;obtain⟨its,rv,p,hz⟩:=I.list hq;obtain⟨jts,rw',p',hz'⟩:=I.list hr;obtain⟨u,hu,ru⟩:=rv.get hx;obtain⟨u',hu',ru'⟩:=rw'.get hy;have W:=WalksT.zip2 (prog:=X.prog) (w:=X.w) (A:=X.A) (I.ok.hd hc) z TI TO i1 i2 a b D its.toArray jts.toArray;obtain⟨s1,s2,s3,s4,s5⟩:=st;have hil:i<min its.toArray.size jts.toArray.size:=by
   have:=(zzE.mp hu).1;have:=(zzE.mp hu').1;simp only[zzF];omega
  refine W.item i s _ _ hil ⟨s1,s2,s3,s4,s5,p.isList,p'.isList⟩ λT vals h1 tk hP hT hTup hMid kk=>?_;obtain⟨v,v',hv,hv',rfl⟩:=hP;have e1:v=u:=by rw[show its.toArray[i]? = its[i]? by simp,hu]at hv;cases hv;rfl
  have e2:v'=u':=by rw[show jts.toArray[i]? = jts[i]? by simp,hu']at hv';cases hv';rfl
  subst e1 e2;refine⟨_,rfl,W.go elts k pos i T {s with heap:=h1,toks:=tk} _ _ hMid λh2 hSt kk2=>?_⟩;have hn:H T=none:=I.hok.fresh hT;have hTw:=W.apart i T h1 hMid;have sub:∀c,c ∉ [z,TI,TO,i1,i2]->c ∉ [z,TO,i1,i2]:=λc hc m=>hc (by simp only[zzA,zxA,or_false]at m ⊢;rcases m with rfl|rfl|rfl|rfl<;>simp);have k2:∀c o,c ∉ [z,TI,TO,i1,i2]->s.heap.get? c=some o->h2.get? c=some o:=λc o hb q=>kk2 c o (sub c hb) (kk c o (sub c hb) q);have hT2:IsTup h2 T #[v,v']:=by
   obtain⟨o,q1,q2⟩:=hTup;exact⟨o,kk2 T o hTw q1,q2⟩
  obtain⟨t1,t2,t3,t4,t5,_,_⟩:=hSt;refine⟨.ref T,upd H T (.tup [x,y]),zba (s:=s) (t':=tk) (ch:=[z,TI,TO,i1,i2]) I hf k2 hT ⟨by show 2<=sizeLine;decide,[v,v'],.cons ru (.cons ru' .nil),hT2⟩,rfl,⟨T,x,y,hn,rfl,rfl,λq hq'=>by rw[I.list_inj hq' hq];exact hx,λq hq'=>by rw[I.list_inj hq' hr];exact hy⟩,⟨t1,t2,t3,t4,t5⟩,λc hc=>?_⟩;have hcT:c≠T:=λe=>by
   have:c<s.heap.objs.size:=by
    have hob:∀d ∈ [z,TI,TO,i1,i2],∃o,s.heap.get? d=some o:=λd hd=>by
     obtain⟨pp,qq,hTO⟩:=s3;obtain⟨o1,e1,_⟩:=s4;obtain⟨o2,e2,_⟩:=s5;simp only[zzA,zxA,or_false]at hd
     rcases hd with rfl|rfl|rfl|rfl|rfl
     · exact⟨_,s1⟩
     · exact⟨_,s2⟩
     · exact⟨_,hTO⟩
     · exact⟨_,e1⟩
     · exact⟨_,e2⟩
    obtain⟨o,ho⟩:=hob c hc;exact zxH ho
   rw[e]at this;exact absurd (zzI this hT) (Nat.lt_irrefl _)
  rw[zH hcT];exact(hf c hc).1
 done:=by
  intro X hP hw hK hc i pins s σ H E I hf st hg;subst hP hw hK;obtain⟨xs,ys,hq,hr,hx⟩:=hg;obtain⟨its,rv,p,hz⟩:=I.list hq;obtain⟨jts,rw',p',hz'⟩:=I.list hr;have hl:=rv.length;have hl':=rw'.length;obtain⟨s1,s2,⟨pp,qq,s3⟩,s4,s5⟩:=st;refine wpAny_pyNext_zip_end (I.ok.hd hc) D s1 s2 s3 s4 s5 p.isList p'.isList (hx.imp (λh=>by simp;omega) (λh=>by simp;omega)) λh' eb=>⟨rfl,ziZ (t':=s.toks) (ch:=[z,TI,TO,i1,i2]) I hf λc o hc q=>eb c o ?_ ?_ ?_ ?_ q⟩<;>(intro e;exact hc (by simp[e]))
 self:=λ_ _ _ _ _ st h=>wpAny_pyIter_zip st.1 h
section
variable{X:Cx}{tg:Expr}
def zuH(K:zC)(ta:TA):TI:=λσ H R=>ta σ H λvs H1=>∃a b,vs=[.ref a,.ref b]/\(∃xs,SqL K H1 a xs)/\(∃ys,SqL K H1 b ys)/\R (Itz K a b) H1
def zlC(I l1 l2:Nat)(h1:l1<I)(h2:l2<I):ZipApart (I+4) (I+2) (I+3) I (I+1) l1 l2:=by
 constructor<;>(show(_:Nat)≠_;omega)
def zti{l l':Expr}{ta:TA}{p pos pos':Pos}{elts:List Expr}{k:Nat}(hg:Gl X "zip")(hm:X.mg "zip"=none)(ha:PA X [l,l'] ta)(hs:starEach [l,l'] X.env=[(false,eval l X.env),(false,eval l' X.env)])(hs2:starEach [l'] X.env=[(false,eval l' X.env)]):
 PI X (.Tuple elts k pos') (.Call (.Name "zip" p) [l,l'] [] pos) (zuH X.K ta):=by
 intro pins s σ H R I h;refine Call_ (Ys I hg hm boot_zip (PyProof.Rows.callWith_type1 (thn (ha pos pins s σ H _ I h) λus s1 ⟨vs,H1,I1,r1,q1⟩=>?_) (by rw[hs,hs2]) (by rw[hs2];rfl)));obtain⟨a,b,rfl,⟨xs,hq⟩,⟨ys,hr⟩,q⟩:=q1;cases r1 with
 |cons r rr=>
  cases rr with
  |cons r' rr=>
   cases rr;cases r;cases r';obtain⟨its,rv,pl,hz⟩:=I1.list hq;obtain⟨jts,rw',pl',hz'⟩:=I1.list hr;obtain⟨o1,ho1,_⟩:=pl.isList;obtain⟨o2,ho2,_⟩:=pl'.isList;refine call_zip_2 pl.isList pl'.isList λh' hZ hTI hTO hi1 hi2 hsz hk=>?_;refine wpAny_pyIter_zip hZ ⟨s1.heap.objs.size+4,[s1.heap.objs.size+4,s1.heap.objs.size+2,s1.heap.objs.size+3,s1.heap.objs.size,s1.heap.objs.size+1],_,_,H1,rfl,I1.kept (t':=s1.toks) hk,znO a b _ _ _ _ _ (zlC _ _ _ (zxH ho1) (zxH ho2)),⟨hZ,hTI,⟨_,_,hTO⟩,hi1,hi2⟩,λc hc=>?_,q⟩;have hb':s1.heap.objs.size<=c:=by
    simp only[zzA,zxA,or_false]at hc
    rcases hc with rfl|rfl|rfl|rfl|rfl<;>first|exact zzL _|exact Nat.le_add_right _ _
   exact I1.fpOk hb' (I1.hok.fresh hb')
end
section
variable{X:Cx}{kd:KD}{tg e:Expr}{fa:EF}
def Y5(st:Bool):List D->List D->List It1
 |x::r,y::t=>(st,.tup [x,y])::Y5 st r t
 |_,_=>[]
theorem zaL(st:Bool):∀(xs ys:List D),(Y5 st xs ys).length=min xs.length ys.length
 | [],_=>by simp[Y5]
 |_::_,[]=>by simp[Y5]
 |_::r,_::t=>by simp only[Y5,zzR,zaL st r t];omega
theorem Wu{st:Bool}:∀{xs ys:List D}{i:Nat}{y:It1},(Y5 st xs ys)[i]? = some y->∃d e,xs[i]? = some d/\ys[i]? = some e/\y=(st,.tup [d,e])
 | [],_,_,_,h=>by simp[Y5]at h
 |_::_,[],_,_,h=>by simp[Y5]at h
 |x::r,y::t,0,z,h=>by
  simp only[Y5,List.getElem?_cons_zero]at h;cases h;exact⟨x,y,rfl,rfl,rfl⟩
 |x::r,y::t,i+1,z,h=>by
  simp only[Y5,List.getElem?_cons_succ]at h;obtain⟨d,e,h1,h2,h3⟩:=Wu h;exact⟨d,e,by simpa using h1,by simpa using h2,h3⟩
def ztz{K:zC}{F B:Addr->Prop}{ad:Ad}{H:Hp}{a b:Addr}{vs ws:List V}{st:Bool}{ds es:List D}(hs:∀(ad3:Ad) (H3:Hp),Grow (Gw [] ad) H (Gw [] ad3) H3->SqL K H3 a vs)(hs':∀(ad3:Ad) (H3:Hp),Grow (Gw [] ad) H (Gw [] ad3) H3->SqL K H3 b ws)
 (r:RpL K kd (Lv F B (Gw [] ad) st) H vs ds) (r':RpL K kd (Lv F B (Gw [] ad) st) H ws es):ItOk K kd F B ad H (Itz K a b) (Y5 st ds es):=⟨λad3 H3 g3 tr i=>by
 have hr3:=hs ad3 H3 g3;have hr4:=hs' ad3 H3 g3;have rl3:RpL K kd (Lv F B (Gw [] ad3) st) H3 vs ds:=RpL.grow g3 r;have rl4:RpL K kd (Lv F B (Gw [] ad3) st) H3 ws es:=RpL.grow g3 r';have hlen:=zaL st ds es;have l1:vs.length=ds.length:=r.length;have l2:ws.length=es.length:=r'.length;refine⟨λhi=>?_,λhi=>⟨_,_,hr3,hr4,by omega⟩,λv H4 hy=>?_⟩
 · obtain⟨u,hu,_⟩:=r.get (zzC (show i<ds.length by omega));obtain⟨u',hu',_⟩:=r'.get (zzC (show i<es.length by omega));exact⟨_,_,u,u',hr3,hr4,hu,hu'⟩
 · obtain⟨T,x,y,hn,rfl,rfl,hv,hv'⟩:=hy;refine⟨vL hn,λq hq=>?_⟩;obtain⟨d,e,hd,he,rfl⟩:=Wu hq;obtain⟨u,hu,ru⟩:=rl3.get hd;obtain⟨u',hu',ru'⟩:=rl4.get he;have:=hv _ hr3;rw[hu]at this;cases this;have:=hv' _ hr4;rw[hu']at this;cases this;exact .tup (λz=>tr _ _ z hn) zT (.cons (Rp.grow ⟨λb o q _=>vL hn b o q,λb z=>.inl z⟩ ru) (.cons (Rp.grow ⟨λb o q _=>vL hn b o q,λb z=>.inl z⟩ ru') .nil))⟩
def zlA(fr:AF):IF:=λas=>(fr as).bind λp=>(zrv p.1).bind λo=>(rvL o.1).bind λa=>(rvL o.2).bind λb=>some (Y5 (a.1&&b.1) a.2 b.2,p.2)
def zgL{K:zC}{F B:Addr->Prop}{ad:Ad}{H:Hp}{v:V}{st q:Bool}{ds:List D}(rp:Rp K kd (Lv F B (Gw [] ad) st) H v (.lst ds))(hq:q=true->st=true):∃a vs,v = .ref a/\(∀(ad3:Ad) (H3:Hp),Grow (Gw [] ad) H (Gw [] ad3) H3->SqL K H3 a vs)/\RpL K kd (Lv F B (Gw [] ad) q) H vs ds:=by
 have le:∀a,Lv F B (Gw [] ad) q a->Lv F B (Gw [] ad) st a:=λa z=>z.imp (λy=>y.imp (λx=>⟨hq x.1,x.2⟩) id) id;cases rp with
 |lst hn hr rl=>exact⟨_,_,rfl,λad3 H3 g3=>.inl (zax g3 (λz=>hn (.inr z)) hr),rl.less le⟩
 |lstK a b c rl=>exact⟨_,_,rfl,λad3 H3 g3=>.inr ⟨_,_,_,a,rfl,rfl,rfl,b,c⟩,rl.less le⟩
def zrI{l l':Expr}{fr:AF}{p pos pos':Pos}{elts:List Expr}{k:Nat}(hg:Gl X "zip")(hm:X.mg "zip"=none)(ha:AA X kd [l,l'] fr)(hs:starEach [l,l'] X.env=[(false,eval l X.env),(false,eval l' X.env)])(hs2:starEach [l'] X.env=[(false,eval l' X.env)]):
 AI X kd (.Tuple elts k pos') (.Call (.Name "zip" p) [l,l'] [] pos) (zlA fr):=by
 with_unfolding_all (
 intro pins s σ H R I h;obtain⟨F,B,ad,as,ds,as',Rl,e',q⟩:=h;obtain⟨⟨rs,as1⟩,h1,e'⟩:=bS_ (show(fr as).bind _=_ from e');obtain⟨⟨o1,o2⟩,e1,e'⟩:=bS_ e';obtain⟨⟨s1,d1⟩,e2,e'⟩:=bS_ e';obtain⟨⟨s2,d2⟩,e3,e'⟩:=bS_ e';cases zkO e1;cases zoG e2;cases zoG e3
 · cases e';refine zti hg hm ha hs hs2 pins s σ H R I ⟨F,B,ad,as,_,as1,Rl,h1,λvs ad1 H1 R1 rv1 g1=>?_⟩;cases rv1 with
   |cons r1 rr=>
    cases rr with
    |cons r2 rr=>
     cases rr;cases r1 with
     |lf rp1=>
      cases r2 with
      |lf rp2=>
       obtain⟨a,vs,rfl,ha,ra⟩:=zgL (q:=s1&&s2) rp1 (λz=>(Bool.and_eq_true_iff.mp z).1);obtain⟨b,ws,rfl,hb,rb⟩:=zgL (q:=s1&&s2) rp2 (λz=>(Bool.and_eq_true_iff.mp z).2);exact⟨a,b,rfl,⟨_,ha _ _ Grow.refl⟩,⟨_,hb _ _ Grow.refl⟩,q _ ad1 H1 R1 g1 (ztz ha hb ra rb)⟩)
end
def insI(x:Int):List Int->List Int
 | []=>[x]
 |y::r=>if x<=y then x::y::r else y::insI x r
def sortI:List Int->List Int
 | []=>[]
 |x::r=>insI x (sortI r)
theorem insI_perm(x:Int):∀l:List Int,(insI x l).Perm (x::l)
 | []=>List.Perm.refl _
 |y::r=>by
  unfold insI
  split
  · exact List.Perm.refl _
  · exact((insI_perm x r).cons y).trans (List.Perm.swap x y r)
theorem sortI_perm:∀l:List Int,(sortI l).Perm l
 | []=>List.Perm.refl _
 |x::r=>(insI_perm x (sortI r)).trans ((sortI_perm r).cons x)
theorem zcF(x:Int):∀l:List Int,l.Pairwise (· <= ·)->(insI x l).Pairwise (· <= ·)
 | [],_=>by simp[insI]
 |y::r,h=>by
  unfold insI;rw[List.pairwise_cons]at h
  split
  · rename_i hxy;rw[List.pairwise_cons,List.pairwise_cons];refine⟨λz hz=>?_,h⟩
    rcases zzA.mp hz with rfl|hz
    · exact hxy
    · exact Int.le_trans hxy (h.1 z hz)
  · rename_i hxy;rw[List.pairwise_cons];refine⟨λz hz=>?_,zcF x r h.2⟩
    rcases zzA.mp ((insI_perm x r).mem_iff.mp hz)with rfl|hz
    · omega
    · exact h.1 z hz
theorem Xa:∀l:List Int,(sortI l).Pairwise (· <= ·)
 | []=>List.Pairwise.nil
 |x::r=>zcF x _ (Xa r)
theorem zfA:∀(a b:List Int),a.Perm b->a.Pairwise (· <= ·)->b.Pairwise (· <= ·)->a=b
 | [],b,p,_,_=>by rw[List.nil_perm]at p;exact p.symm
 |x::r,[],p,_,_=>by rw[List.perm_nil]at p;cases p
 |x::r,y::t,p,ha,hb=>by
  rw[List.pairwise_cons]at ha hb;have hxy:x=y:=by
   have h1:x ∈ y::t:=p.mem_iff.mp (zzD ..);have h2:y ∈ x::r:=p.mem_iff.mpr (zzD ..)
   rcases zzA.mp h1 with e|e
   · exact e
   · rcases zzA.mp h2 with e'|e'
     · exact e'.symm
     · have:=hb.1 x e;have:=ha.1 y e';omega
  subst hxy;rw[zfA r t (List.Perm.cons_inv p) ha.2 hb.2]
def ints_of{K:zC}{kd:KD}{O:Addr->Prop}{H:Hp}{vs:List V}{us:List Value}{ds:List D}{ns:List Int}(h:RpL K kd O H vs ds)(hv:Vals vs us)(e:Zt ds=some ns):IntsAre us ns:=
 RpL.ind (P:=λvs ds=>∀us ns,Vals vs us->Zt ds=some ns->IntsAre us ns) (λus ns hv e=>by cases e;cases hv;exact .nil) (λ{v d vs ds} a _ ih us ns hv e=>by
  cases hv with
  |cons b t=>
   cases a with
   |int x=>
    obtain⟨ys,h1,h2⟩:=bS_ (show(Zt _).bind _=_ from e);cases h2;obtain⟨tk,rfl⟩:=b;exact .cons _ _ (ih _ _ t h1)
   |_=>cases e) h us ns hv e
def Yw:∀{us:List Value}{ns:List Int},IntsAre us ns->Vals (ns.map V.int) us
 |_,_,.nil=>.nil
 |_,_,.cons n t r=>.cons ⟨t,rfl⟩ (Yw r)
theorem ziP{K:zC}{kd:KD}{O:Addr->Prop}{H:Hp}:∀ns:List Int,RpL K kd O H (ns.map V.int) (ns.map D.int)
 | []=>.nil
 |y::r=>.cons (.int y) (ziP r)
def znz:List D->Option R0:=on1 λx=>(asL x).bind λds=>(Zt ds).bind λns=>if ns.length<64 then some (.fl ((sortI ns).map .int))else none
section
variable{X:Cx}{kd:KD}
def zjj:CallD X kd (.builtin "sorted") znz:=by
 intro pins s σ H xs us Q I r h;obtain⟨O,ds,z,ht,vl,he,q⟩:=h;obtain⟨x,d,rfl,vx,he⟩:=zbm vl he;obtain⟨ds,h0,he2⟩:=bS_ (show(asL d).bind _=_ from he);cases zad h0
 · obtain⟨ns,h1,he⟩:=bS_ he2;obtain⟨hz,he⟩:=zQ he;cases he;cases vx with
   |lst hr rl=>
    obtain⟨u,rfl,ru⟩:=vals1 r;cases ru;obtain⟨its,rv,pl,_⟩:=I.list hr.sq;have hI:=ints_of rl rv h1;have hl:=hI.length;refine sorted_ints pl.isList hI (by omega) λout ns' a1 a2 a3=>?_;have e:ns'=sortI ns:=zfA _ _ (a2.trans (sortI_perm ns).symm) a3 (Xa ns);subst e;obtain⟨ee,hob⟩:=sortedAll_at s.heap its out;have hn:H (s.heap.objs.size+1)=none:=I.hok.fresh (zyV _);refine⟨.ref (s.heap.objs.size+1),_,I.laid (t':=s.toks) (λb o e=>sortedAll_old e) (zyV _) (show wL X.prog X.w _ _ _ (.lst ((sortI ns).map V.int))from⟨?_,out.toList,ee,Yw a1,by simpa[seqObj]using hob⟩),rfl,zbr q (ziP _) _ hn⟩;rw[zD,(sortI_perm ns).length_eq];exact Nat.le_of_lt (wJ (by omega))
end
def zbn(f:D->Option Bool):List D->Option Nat
 | []=>none
 |x::r=>(f x).bind λb=>if b=true then(anyF f r).bind λ_=>some 0 else(zbn f r).bind λj=>some (j+1)
def ZR(d:D):List D->Option R0:=on1 λx=>(asL d).bind λds=>(zbn (λy=>eqF 50 y x) ds).bind λj=>if ds.length<=1000 then some (.im (.int j))else none
theorem zit:∀{ds:List D}{j:Nat},zbn f ds=some j->∀d ∈ ds,∃c,f d=some c
 | [],_,h,_,m=>nomatch m
 |x::r,j,h,d,m=>by
  obtain⟨b,h1,h⟩:=bS_ (show(f x).bind _=_ from h)
  rcases zzA.mp m with rfl|m
  · exact⟨b,h1⟩
  · cases b with
    |true=>
     obtain⟨c,h2,_⟩:=bS_ (show(anyF f r).bind _=_ from h);exact Yy h2 d m
    |false=>
     obtain⟨k,h2,_⟩:=bS_ (show(zbn f r).bind _=_ from h);exact zit h2 d m
section
variable{X:Cx}{kd:KD}{pins:List (Addr×Obj)}{σ:St}{H:Hp}{s:Shared}{O:Addr->Prop}
def zpW(I:Inv X pins σ H s)(hk:KdOk X kd)(hv:Vals vs us)(h:RpL X.K kd O H vs ds)(e:zbn (λy=>eqF n y x) ds=some j):∃h:j<us.length,eqW X.K kd O H n x us[j]=true/\∀m (hm:m<us.length),m<j->eqW X.K kd O H n x us[m]=false:=
 RpL.ind (P:=λvs ds=>∀us j,Vals vs us->zbn (λy=>eqF n y x) ds=some j->∃h:j<us.length,eqW X.K kd O H n x us[j]=true/\∀m (hm:m<us.length),m<j->eqW X.K kd O H n x us[m]=false) (λus j hv e=>by cases e) (λ{v d vs ds} a _ ih us j hv h=>by
  cases hv with
  |cons r t=>
   obtain⟨b,h1,h⟩:=bS_ (show(eqF n _ x).bind _=_ from h);cases b with
   |true=>
    obtain⟨c,h2,h3⟩:=bS_ (show(anyF _ _).bind _=_ from h);cases h3;exact⟨by simp,zgy I hk r a h1,λm hm hlt=>by omega⟩
   |false=>
    obtain⟨k,h2,h3⟩:=bS_ (show(zbn _ _).bind _=_ from h);cases h3;obtain⟨hk',e1,e2⟩:=ih _ _ t h2;refine⟨by simpa using hk',by simpa using e1,λm hm hlt=>?_⟩;cases m with
    |zero=>exact zgy I hk r a h1
    |succ m=>simpa using e2 m (by simpa using hm) (by omega)) h us j hv e
def znk(hk:KdOk X kd)(hu:X.A.units+100<cLine):MtD X kd "list.index" ZR:=by
 intro pins s σ H x xs v us Q I rx r h;obtain⟨O,d,ds,r0,ht,vx,vl,he,q⟩:=h;obtain⟨y',y,rfl,vy,he⟩:=zbm vl he;obtain⟨es,h0,he2⟩:=bS_ (show(asL d).bind _=_ from he);cases zad h0
 · obtain⟨j,h1,he⟩:=bS_ he2;obtain⟨hz,he⟩:=zQ he;cases he;obtain⟨u,rfl,ru⟩:=vals1 r;cases vx with
   |lst hr rl=>
    cases rx;obtain⟨its,rv,pl,_⟩:=I.list hr.sq;obtain⟨⟨cls,dd,data,sl⟩,ho,hc,n,hd⟩:=pl.isList;simp only at hc hd;subst hc hd;obtain⟨hj,e1,e2⟩:=zpW I hk rv rl h1;have hlen:=rv.length;have hlen2:=rl.length;refine call_meets PySem.F.slot_list_index ⟨_,ho,rfl⟩ PySem.F.entry_list_index (PySem.F.args_list_index_2 _ _)
     (SeqAt.list_indexAt _ its.toArray n dd sl _ (eqW X.K kd O H 50 y) j (by simpa using hj) (by omega) (by simpa using e1) (λm hm hlt=>by simpa using e2 m (by simpa using hm) hlt))
     ⟨ho,λw hw=>zaH I hk (by show X.A.units+1+50<cLine;omega) vy ru rv rl (zit h1) w (by simpa using hw),⟨.int j,H,I.tok _,⟨_,rfl⟩,yu q (.int _)⟩⟩
end
theorem zcd:∀{vs:List V}{us:List Value},vs.length=us.length->(∀(i:Nat) v u,vs[i]? = some v->us[i]? = some u->RelV v u)->Vals vs us
 | [],[],_,_=>.nil
 | [],_::_,h,_=>by simp at h
 |_::_,[],h,_=>by simp at h
 |v::vs,u::us,h,k=>.cons (k 0 v u rfl rfl) (zcd (by simpa using h) λi a b x y=>k (i+1) a b (by simpa using x) (by simpa using y))
section
variable{X:Cx}{tg:Expr}
def ztJ(ta:TA):TE:=λσ H Q=>ta σ H λvs H1=>∃j:Int,vs=[.int j] /\ -(2 ^ 62)<=j/\j<2 ^ 62/\∀r,H1 r=none->Q (.ref r) (upd H1 r (.rng 0 j))
def zmr(hg:Gl X "range")(hm:X.mg "range"=none)(ha:PA X [a] ta)(hs:starEach [a] X.env=[(false,eval a X.env)]):PE X (.Call (.Name "range" p) [a] [] pos) (ztJ ta):=by
 intro pins s σ H Q I h;refine Call_ (Ys I hg hm boot_range (PyProof.Rows.callWith_type1 (thn (ha pos pins s σ H _ I h) λus s1 ⟨vs,H1,I1,r1,q1⟩=>?_) hs rfl));obtain⟨j,e,b1,b2,q⟩:=q1;subst e;cases r1 with
 |cons r rr=>
  cases rr;obtain⟨t,rfl⟩:=r;exact call_range_1 ⟨.ref s1.heap.objs.size,_,I1.laid (λb o e=>zxG _ e) (zzL _) (show wL X.prog X.w _ _ _ (.rng 0 j)from⟨_,_,_,zxI _ rfl⟩),rfl,q _ (I1.hok.fresh (zzL _))⟩
def tLR(ta:TA):TE:=λσ H Q=>zqP (ztJ ta) zuO σ H λvs H2=>∃r H1,∃j:Int,vs=[.ref r]/\H1 r=none/\H2=upd H1 r (.rng 0 j)/\0<=j/\j<=100000/\∀l,H2 l=none->Q (.ref l) (upd H2 l (.lst ((List.range j.toNat).map λ(i:Nat)=>V.int i)))
def zlp(hc:X.calm=true)(hg:Gl X "range")(hm:X.mg "range"=none)(hgl:Gl X "list")(hml:X.mg "list"=none)(ha:PA X [a] ta)(hs:starEach [a] X.env=[(false,eval a X.env)])
 (hs':starEach [.Call (.Name "range" p) [a] [] pos] X.env=[(false,eval (.Call (.Name "range" p) [a] [] pos) X.env)]):PE X (.Call (.Name "list" p') [.Call (.Name "range" p) [a] [] pos] [] pos') (tLR ta):=by
 intro pins s σ H Q I h;refine Call_ (Ys I hgl hml Bt.list (PyProof.Rows.callWith_type1 (thn ((yZ (zmr hg hm ha hs) Yu hs') pos' pins s σ H (λvs H2=>∃r H1,∃j:Int,vs=[.ref r]/\H1 r=none/\H2=upd H1 r (.rng 0 j)/\0<=j/\j<=100000/\∀l,H2 l=none->Q (.ref l) (upd H2 l (.lst ((List.range j.toNat).map λ(i:Nat)=>V.int i)))) I ?_) λus s1 ⟨vs,H2,I2,r1,q1⟩=>?_) hs' rfl))
 · exact h
 obtain⟨r,H1,j,rfl,hn,rfl,h0,h1,q⟩:=q1;cases r1 with
 |cons rr rs=>
  cases rs;cases rr;obtain⟨t,u,v,ho⟩:=I2.hok r _ (zT ..);have hsz:Builtin.Range.rangeSize 0 j 1=(j.toNat:Nat):=by rw[rangeSize_one];split<;>omega
  refine call_list_range (I2.ok.hd hc) ho (small_one (by omega) (by omega) (by omega) (by omega)) (n:=j.toNat) (by exact_mod_cast hsz) (by omega) λh' tk acc c' hk hob hit=>?_;refine⟨.ref s1.heap.objs.size,_,I2.laid hk (zzL _) (show wL X.prog X.w _ _ _ (.lst ((List.range j.toNat).map λ(i:Nat)=>V.int i))from⟨?_,acc.toList,c', ?_,by simpa using hob⟩),rfl,q _ (I2.hok.fresh (zzL _))⟩
  · rw[zD,zyS];exact zzM (show j.toNat<=100000 by omega) (by decide)
  · refine zcd (by rw[zD,zyS];simpa using hit.1.symm) λi x y hx hy=>?_;rw[zzG]at hx;obtain⟨tk',e⟩:=hit.2 i y (by simpa using hy);cases hr:(List.range j.toNat)[i]? with
    |none=>rw[hr]at hx;cases hx
    |some k=>
     rw[hr]at hx;obtain⟨_,hk'⟩:=zzE.mp hr;rw[List.getElem_range]at hk';subst hk';cases hx;exact⟨tk',by rw[e];simp⟩
end
section
variable{X:Cx}{kd:KD}
def lrP:List D->Option R0
 | [.int j]=>if 0<=j/\j<=100000 then some (.fl ((List.range j.toNat).map λ(i:Nat)=>.int i))else none
 |_=>none
theorem zkR{K:zC}{O:Addr->Prop}{H:Hp}:∀l:List Nat,RpL K kd O H (l.map λ(i:Nat)=>V.int i) (l.map λ(i:Nat)=>D.int i)
 | []=>.nil
 |y::r=>.cons (.int y) (zkR r)
def zlB(hc:X.calm=true)(hg:Gl X "range")(hm:X.mg "range"=none)(hgl:Gl X "list")(hml:X.mg "list"=none)(ha:AA X kd [a] fr)(hs:starEach [a] X.env=[(false,eval a X.env)])
 (hs':starEach [.Call (.Name "range" p) [a] [] pos] X.env=[(false,eval (.Call (.Name "range" p) [a] [] pos) X.env)]):AE X kd (.Call (.Name "list" p') [.Call (.Name "range" p) [a] [] pos] [] pos') (fP fr lrP):=by
 with_unfolding_all exact(yV (zlp hc hg hm hgl hml ha hs hs') λσ H Q h=>by
  obtain⟨F,B,ad,as,r,as',R,e,q⟩:=h;obtain⟨⟨rs,as1⟩,h1,e⟩:=bS_ (show(fr as).bind _=_ from e);obtain⟨⟨ds,lv⟩,h2,e⟩:=bS_ e;obtain⟨r0,h3,e⟩:=bS_ e;obtain⟨z,h4,e⟩:=bS_ e;cases e
  match ds,h3,h2 with
  | [.int j],h3,h2=>
   obtain⟨⟨b1,b2⟩,e3⟩:=zQ (show(if 0<=j/\j<=100000 then some (R0.fl ((List.range j.toNat).map λ(i:Nat)=>.int i))else none)=some r0 from h3);cases e3;refine(show alA X.K kd fr σ H _ from⟨F,B,ad,as,rs,as1,R,h1,λvs ad1 H1 R1 rv1 g1=>?_⟩);have vl:=WR R1 rv1 h2;have rq:=vM R1 h4 (Q:=Q) λw T' H' R' rv' g'=>q w T' ad1 H' R' rv' (g1.trans g');cases vl with
   |cons v1 v2=>
    cases v2;cases v1;refine⟨j,rfl,by omega,by omega,λr hr=>⟨r,H1,j,rfl,hr,rfl,b1,b2,λl hl=>?_⟩⟩;have hlr:l≠r:=λe=>by rw[e,zT]at hl;cases hl
    have hl1:H1 l=none:=by rw[zH hlr]at hl;exact hl
    exact rq l _ _ hl1 (λb o q=>vL hl b o (vL hr b o q)) zT (zkR _))
end
def zdb(h:RoL L N H vs ls fp):vs.length=ls.length:=RoL.length h
section
variable{K:zC}{kd:KD}{F B G:Addr->Prop}{H:Hp}
theorem zik{L:Bool->V->D->Prop}{N:Addr->Prop}{v:V}{st:Bool}{d:D}(h:L st v d):∀(os:List O) {vs:List V}{fp:List Addr},RoL L N H vs os fp->RoL L N H (vs++[v]) (os++[.lf st d]) fp
 | [],_,_,r=>by cases r;exact .cons (.lf h) .nil
 |o::os,_,_,r=>by
  cases r with
  |cons a r=>
   exact .cons a (zik h os r)
end
def zqK:upd (upd H l u) l w=upd H l w:=by
 funext a
 by_cases e:a=l
 · subst e;rw[zT,zT]
 · rw[zH e,zH e,zH e]
section
variable{K:zC}{kd:KD}{F B G:Addr->Prop}{H:Hp}
def YG(hp:G p):Grow G H G (upd H p u):=⟨λb w h n=>by rw[zH (λe=>n (by subst e;exact hp))];exact h,λb z=>.inl z⟩
theorem zgX:∀(os:List O) {vs:List V}{fp:List Addr}{n:Nat}{o:O},vZ K kd F B G H vs os fp->fp.Nodup->(∀a ∈ fp,G a)->os[n]? = some o->
 ∃v f,vs[n]? = some v/\RoS K kd F B G H v o f/\f.Nodup/\(∀a ∈ f,a ∈ fp)/\∀(p:Addr) (u:HO) (o':O),p ∈ f->RoS K kd F B G (upd H p u) v o' f->vZ K kd F B G (upd H p u) vs (os.set n o') fp
 | [],_,_,_,_,_,_,_,e=>by simp at e
 |o1::os,_,_,n,o,r,hn,hG,e=>by
  cases r with
  |cons a r=>
   rename_i v vs fp fq;obtain⟨n1,n2,n3⟩:=zxD.mp hn;cases n with
   |zero=>
    simp at e;subst e;exact⟨v,fp,rfl,a,n1,λx m=>zzN _ m,λp u o' hp ro=>.cons ro (vZ.grow (YG (hG p (zzN _ hp))) (λx m w h=>by rw[zH (λe=>n3 p hp x m e.symm)];exact h) r)⟩
   |succ n=>
    obtain⟨v',f,h1,h2,h3,h4,h5⟩:=zgX os (n:=n) (o:=o) r n2 (λx m=>hG x (zzJ _ m)) (by simpa using e);exact⟨v',f,by simpa using h1,h2,h3,λx m=>zzJ _ (h4 x m),λp u o' hp ro=>.cons (RoS.grow (YG (hG p (zzJ _ (h4 p hp)))) (λx m w h=>by rw[zH (λe=>n3 x m p (h4 p hp) e)];exact h) a) (h5 p u o' hp ro)⟩
theorem zfV(h:L st' v d'):∀(os:List O) {vs:List V}{fp:List Addr}{n:Nat}{st:Bool}{d:D},RoL L N H vs os fp->os[n]? = some (.lf st d)->RoL L N H (vs.set n v) (os.set n (.lf st' d')) fp
 | [],_,_,_,_,_,_,e=>by simp at e
 |o1::os,_,_,n,st,d,r,e=>by
  cases r with
  |cons a r=>
   cases n with
   |zero=>
    simp at e;subst e;cases a with
    |lf _=>exact .cons (.lf h) r
   |succ n=>exact .cons a (zfV h os (n:=n) (st:=st) (d:=d) r (by simpa using e))
def zgO{v:V}{inner:List O}{fp:List Addr}{n:Nat}{st:Bool}{d:D}(c:Int)(r:RoS K kd F B G H v (.nd .ls inner) fp)(hn:fp.Nodup)(hG:∀a ∈ fp,G a)(e:inner[n]? = some (.lf st d)):
 ∃p ivs,v = .ref p/\p ∈ fp/\H p=some (.lst ivs)/\n<ivs.length/\RoS K kd F B G (upd H p (.lst (ivs.set n (.int c)))) v (.nd .ls (inner.set n (.lf true (.int c)))) fp:=by
 cases r with
 |ls hp ir=>
  rename_i p ivs ifp;have hpfp:p ∉ ifp:=(zzU.mp hn).1;refine⟨p,ivs,rfl,zzD ..,hp,by rw[zdb ir];exact(zzE.mp e).1,.ls zT (zfV (.int c) inner (vZ.grow (YG (hG p (zzD ..))) (λx m w h=>by rw[zH (λe=>hpfp (by subst e;exact m))];exact h) ir) e)⟩
def zez{v:V}{os:List O}{fp:List Addr}{n:Nat}{o:O}(r:RoS K kd F B G H v (.nd .ls os) fp)(hn:fp.Nodup)(hG:∀a ∈ fp,G a)(e:os[n]? = some o):
 ∃l vs w f,v = .ref l/\H l=some (.lst vs)/\vs[n]? = some w/\RoS K kd F B G H w o f/\f.Nodup/\(∀a ∈ f,a ∈ fp)/\∀(p:Addr) (u:HO) (o':O),p ∈ f->RoS K kd F B G (upd H p u) w o' f->RoS K kd F B G (upd H p u) v (.nd .ls (os.set n o')) fp:=by
 cases r with
 |ls hp ir=>
  rename_i l vs ifp;obtain⟨w,f,h1,h2,h3,h4,h5⟩:=zgX os ir (zzU.mp hn).2 (λa m=>hG a (zzB _ m)) e;exact⟨l,vs,w,f,rfl,hp,h1,h2,h3,λa m=>zzB _ (h4 a m),λp u o' hpf ro=>.ls (by rw[zH (λe=>(zzU.mp hn).1 (by rw[e];exact h4 p hpf))];exact hp) (h5 p u o' hpf ro)⟩
def zth{v:V}{os:List O}{fp:List Addr}{n:Nat}{o:O}(r:RoS K kd F B G H v (.nd .tp os) fp)(hn:fp.Nodup)(hG:∀a ∈ fp,G a)(e:os[n]? = some o):
 ∃l vs w f,v = .ref l/\H l=some (.tup vs)/\vs[n]? = some w/\RoS K kd F B G H w o f/\f.Nodup/\(∀a ∈ f,a ∈ fp)/\∀(p:Addr) (u:HO) (o':O),p ∈ f->RoS K kd F B G (upd H p u) w o' f->RoS K kd F B G (upd H p u) v (.nd .tp (os.set n o')) fp:=by
 cases r with
 |tp hN hp ir=>
  rename_i l vs;obtain⟨w,f,h1,h2,h3,h4,h5⟩:=zgX os ir hn hG e;exact⟨l,vs,w,f,rfl,hp,h1,h2,h3,h4,λp u o' hpf ro=>.tp hN (by rw[zH (λe=>hN (.inr (by rw[e];exact hG p (h4 p hpf))))];exact hp) (h5 p u o' hpf ro)⟩
end
section
variable{K:zC}{kd:KD}{F B:Addr->Prop}{ad:Ad}{as:AS}{σ:St}{H:Hp}{i:Nat}{o:O}
def Rel.slotU(R:Rel K kd F B [] ad as σ H)(k:as[i]? = some (some o)):
 ∃v,σ[i]? = some (some v)/\RoS K kd F B (Gw [] ad) H v o (ad i)/\(ad i).Nodup/\(∀a ∈ ad i,Gw [] ad a)/\
  ∀(p:Addr) (u:HO) (o':O),p ∈ ad i->RoS K kd F B (Gw [] ad) (upd H p u) v o' (ad i)->Rel K kd F B [] ad (as.set i (some o')) σ (upd H p u)/\Grow (Gw [] ad) H (Gw [] ad) (upd H p u):=by
 obtain⟨v,hv,ro⟩:=R.sl i _ k;have hi:i<as.length:=(zzE.mp k).1;refine⟨v,hv,ro,R.nd i,λa m=>.inr ⟨i,m⟩,λp u o' hp ro'=>?_⟩;have g:Grow (Gw [] ad) H (Gw [] ad) (upd H p u):=YG (.inr ⟨i,hp⟩);have kn:∀a,H a≠none->upd H p u a≠none:=λa z=>by
  by_cases e:a=p
  · subst e;rw[zT];simp
  · rw[zH e];exact z
 refine⟨⟨by rw[zzS];exact R.len,λj hj=>R.out j (by rw[zzS]at hj;exact hj),R.nd,R.inj,R.tnd,R.dis,λa z=>kn a (R.ftr a z),λa z=>⟨kn a (R.btr a z).1,(R.btr a z).2⟩,λa z=>⟨kn a (R.gtr a z).1,(R.gtr a z).2⟩,λj s e=>?_⟩,g⟩
 by_cases q:j=i
 · subst q;rw[zyI hi]at e;cases e;exact⟨v,hv,ro'⟩
 · rw[zzW (Ne.symm q)]at e;exact(R.sl j s e).grow g λa m u h=>by rw[zH (λe=>q (R.inj j i a m (by rw[e];exact hp)))];exact h
def Rel.any(R:Rel K kd F B [] ad as σ H)(hy:as[y]? = some none):Rel K kd F B [] ad as (σ.set y v) H:=by
 refine⟨by rw[zzS];exact R.len,R.out,R.nd,R.inj,R.tnd,R.dis,R.ftr,R.btr,R.gtr,λj s e=>?_⟩
 by_cases q:j=y
 · subst q;rw[hy]at e;cases e;exact R.sl j none hy
 · rw[zzW (Ne.symm q)];exact R.sl j s e
end
abbrev IXF:=AS->Option Int
def tSt(K:zC)(kd:KD)(f:IXF):TE:=λσ H Q=>∃F B ad as k,Rel K kd F B [] ad as σ H/\f as=some k/\Q (.int k) H
@[irreducible] def AK(X:Cx)(kd:KD)(e:Expr)(f:IXF):Prop:=PE X e (tSt X.K kd f)
def xC(c:Int):IXF:=λ_=>some c
def Ze:O->Option (List O)
 | .nd .ls os=>some os
 |_=>none
def zpC:O->Option (List O)
 | .nd .tp os=>some os
 |_=>none
def zbH:O->Option D
 | .lf _ d=>some d
 |_=>none
def atO{α:Type}(f:O->Option α)(os:List O)(k:Nat):Option α:=os[k]?.bind f
def slO{α:Type}(f:O->Option α)(as:AS)(i:Nat):Option α:=as[i]?.bind λs=>s.bind f
def zkx{o:O}{os:List O}(h:Ze o=some os):o = .nd .ls os:=by
 cases o with
 |lf s d=>cases h
 |nd k os=>cases k<;>cases h;rfl
def zqv{o:O}{os:List O}(h:zpC o=some os):o = .nd .tp os:=by
 cases o with
 |lf s d=>cases h
 |nd k os=>cases k<;>cases h;rfl
def zkm(h:zbH o=some d):∃st,o = .lf st d:=by
 cases o with
 |lf s d=>cases h;exact⟨s,rfl⟩
 |nd k os=>cases h
def zjz{α:Type}{f:O->Option α}{os:List O}{k:Nat}{a:α}(h:atO f os k=some a):∃o,os[k]? = some o/\f o=some a:=bS_ h
def zmL(h:slO f as k=some a):∃o,as[k]? = some (some o)/\f o=some a:=by
 obtain⟨s,h1,h⟩:=bS_ h;obtain⟨o,rfl,h⟩:=bS_ h;exact⟨o,h1,h⟩
def zqy{os inner:List O}{k:Nat}(h:atO Ze os k=some inner):os[k]? = some (.nd .ls inner):=by
 obtain⟨o,h1,h⟩:=zjz h;cases zkx h;exact h1
def zvS{os inner:List O}{k:Nat}(h:atO zpC os k=some inner):os[k]? = some (.nd .tp inner):=by
 obtain⟨o,h1,h⟩:=zjz h;cases zqv h;exact h1
def zrX{os:List O}{d:D}{k:Nat}(h:atO zbH os k=some d):∃st,os[k]? = some (.lf st d):=by
 obtain⟨o,h1,h⟩:=zjz h;obtain⟨st,rfl⟩:=zkm h;exact⟨st,h1⟩
def zlL{as:AS}{inner:List O}{k:Nat}(h:slO Ze as k=some inner):as[k]? = some (some (.nd .ls inner)):=by
 obtain⟨o,h1,h⟩:=zmL h;cases zkx h;exact h1
def zuG(h:slO zbH as k=some d):∃st,as[k]? = some (some (.lf st d)):=by
 obtain⟨o,h1,h⟩:=zmL h;obtain⟨st,rfl⟩:=zkm h;exact⟨st,h1⟩
def YK{α:Type}{f:O->Option α}{os:List O}{k:Nat}{o:O}{a:α}(h:os[k]? = some o)(e:f o=some a):atO f os k=some a:=by unfold atO;rw[h];exact e
def Xd(h:as[k]? = some (some o))(e:f o=some a):slO f as k=some a:=by unfold slO;rw[h];exact e
def xV(i:Nat):IXF:=λas=>(slO zbH as i).bind asI
def xAt(i:Nat)(f:IXF):IXF:=λas=>(f as).bind λk=>if 0<=k then(slO zbH as i).bind λd=>(asL d).bind λds=>ds[k.toNat]?.bind asI else none
def Wd(f g:IXF):IXF:=λas=>(f as).bind λa=>(g as).bind λb=>if 0<b then some (a%b)else none
def znf(i:Nat):IXF:=λas=>(slO Ze as i).bind λos=>some (os.length:Int)
section
variable{X:Cx}{kd:KD}{f g:IXF}{a b:Expr}
def ZV:AK X kd (.Constant (.int c) j pos) (xC c):=by
 with_unfolding_all exact(yV zeh λσ H Q h=>by
  obtain⟨F,B,ad,as,k,R,e,q⟩:=h;cases e;exact q)
def zby(hv:PE X (.Name x p) (Ws i)):AK X kd (.Name x p) (xV i):=by
 with_unfolding_all exact(yV hv λσ H Q h=>by
  obtain⟨F,B,ad,as,k,R,e,q⟩:=h;obtain⟨d,e1,e⟩:=bS_ (show(slO zbH as i).bind _=_ from e);cases zgG e;obtain⟨st,k1⟩:=zuG e1;obtain⟨v,hv,ro⟩:=R.sl i _ k1;generalize ad i=fp at ro;cases ro with
  |lf rp=>cases rp;exact⟨_,hv,q⟩)
def zeH(hv:PE X (.Name x p) (Ws i))(hb:AK X kd b f)(hs:Zw b):AK X kd (.Subscript (.Name x p) b pos) (xAt i f):=by
 with_unfolding_all exact(yV (zdK WW hv hb hs) λσ H Q h=>by
  obtain⟨F,B,ad,as,c,R,e,q⟩:=h;obtain⟨k,h1,e⟩:=bS_ (show(f as).bind _=_ from e);obtain⟨hk,e⟩:=ite_some' e;obtain⟨d0,e1,e3⟩:=bS_ e;obtain⟨ds,e2,e4⟩:=bS_ e3;obtain⟨d,k2,e5⟩:=bS_ e4;cases zad e2;cases zgG e5;obtain⟨st,k1⟩:=zuG e1;obtain⟨v,hv,ro⟩:=R.sl i _ k1;generalize ad i=fp at ro;cases ro with
  |lf rp=>
   obtain⟨l,vs,rfl,hq,rl⟩:=zgL (ad:=ad) (q:=st) rp (λz=>z);obtain⟨w,hw,rw'⟩:=rl.get k2;cases rw';refine⟨_,hv,F,B,ad,as,k,R,h1,l,vs,k,_,rfl,rfl,hq ad H Grow.refl, ?_,q⟩;have:=ZM hw;rw[zyX hk]at this;exact this)
def V8(ha:AK X kd a f)(hb:AK X kd b g):AK X kd (.BinOp a .Mod b pos) (Wd f g):=by
 with_unfolding_all exact(yV (zrn zpd ha hb) λσ H Q h=>by
  obtain⟨F,B,ad,as,c,R,e,q⟩:=h;obtain⟨m,h1,e⟩:=bS_ (show(f as).bind _=_ from e);obtain⟨n,h2,e⟩:=bS_ e;obtain⟨hn,e⟩:=zQ e;cases e;exact⟨F,B,ad,as,m,R,h1,F,B,ad,as,n,R,h2,m,n,rfl,rfl,hn,q⟩)
def ztq(hg:Gl X "len")(hm:X.mg "len"=none)(hb:bootBuiltins "len"=some (.builtin "len"))(hv:PE X (.Name x p) (Ws i))(hst:starEach [.Name x p] X.env=(false,eval (.Name x p) X.env)::starEach [] X.env)(hpl:(backTo pos (starEach [] X.env)).any (·.1)=false):AK X kd (.Call (.Name "len" p0) [.Name x p] [] pos) (znf i):=by
 with_unfolding_all exact(yV (zak Xi hg hm hb (yZ hv Yu hst) (by decide) (by decide) hst hpl) λσ H Q h=>by
  obtain⟨F,B,ad,as,c,R,e,q⟩:=h;obtain⟨os,e1,e⟩:=bS_ (show(slO Ze as i).bind _=_ from e);cases e;obtain⟨v,hv,ro⟩:=R.sl i _ (zlL e1);generalize ad i=fp at ro;cases ro with
  |ls hH rl=>
   rename_i l vs fp;refine⟨_,hv,l,vs,rfl,.inl (.inl (.inl hH)), ?_⟩;rw[zdb rl];exact q)
end
def zmH(i:Nat)(f fv:IXF):SF:=λas=>(f as).bind λk=>(fv as).bind λc=>if 0<=k then(slO Ze as i).bind λos=>(atO zbH os k.toNat).bind λ_=>some (.nx (as.set i (some (.nd .ls (os.set k.toNat (.lf true (.int c)))))))else none
def zil(i:Nat)(f1 f2 fv:IXF):SF:=λas=>(f1 as).bind λk1=>(f2 as).bind λk2=>(fv as).bind λc=>if 0<=k1/\0<=k2 then(slO Ze as i).bind λos=>(atO Ze os k1.toNat).bind λinner=>(atO zbH inner k2.toNat).bind λ_=>some (.nx (as.set i (some (.nd .ls (os.set k1.toNat (.nd .ls (inner.set k2.toNat (.lf true (.int c)))))))))else none
def noS(as:AS)(y:Nat):Bool:=match as[y]? with
 |some none=>true
 |_=>false
def ztG(h:noS as y=true):as[y]? = some none:=by
 unfold noS at h;cases k:as[y]? with
 |none=>rw[k]at h;cases h
 |some s=>
  cases s with
  |none=>rfl
  |some _=>rw[k]at h;cases h
def znh(y i:Nat)(f1:IXF)(n:Nat)(f2 f3 fv:IXF):SF:=λas=>(f1 as).bind λk1=>(f2 as).bind λk2=>(f3 as).bind λk3=>(fv as).bind λc=>if 0<=k1/\0<=k2/\0<=k3/\noS as y=true then
 (slO Ze as i).bind λos=>(atO zpC os k1.toNat).bind λps=>(atO Ze ps n).bind λrows=>(atO Ze rows k2.toNat).bind λinner=>(atO zbH inner k3.toNat).bind λ_=>some (.nx (as.set i (some (.nd .ls (os.set k1.toNat (.nd .tp (ps.set n (.nd .ls (rows.set k2.toNat (.nd .ls (inner.set k3.toNat (.lf true (.int c)))))))))))))else none
def zpk(h:j<n):ixN n (j:Int)=some j:=by
 unfold ixN;rw[if_pos (by omega),if_pos (by omega)];simp
def zdm(h0:0<=k)(h:k.toNat<n):ixN n k=some k.toNat:=by
 have:=zpk h;rw[show((k.toNat:Nat):Int)=k by omega]at this;exact this
def zgl(h0:0<=k)(h:xs[k.toNat]? = some v):atI xs k=some v:=by
 have:=ZM h;rw[show((k.toNat:Nat):Int)=k by omega]at this;exact this
section
variable{X:Cx}{kd:KD}{f f1 f2 f3 fv:IXF}{e1 e2 e3 ev:Expr}{i y:Nat}
def zqn(ho:PE X (.Name x p) (Ws i))(h1:AK X kd e1 f)(hv:AK X kd ev fv)
 (ha:∀v,assign (.Subscript (.Name x p) e1 tpos) X.env v=(do
  let ov <-holding [v] (eval (.Name x p) X.env);let iv <-holding [v,ov] (eval e1 X.env)
  standAt tpos
  holding [v,ov,iv] (setItem ov iv v)
  release [v,ov,iv] []))
 (hs:swapsWithSole [.Subscript (.Name x p) e1 tpos] ev pos.line X.env=pure false) (hw:swappedStores [.Subscript (.Name x p) e1 tpos] ev X.env=pure none)
 (hm:(assignEach [.Subscript (.Name x p) e1 tpos] X.env).map (·.2)=[assign (.Subscript (.Name x p) e1 tpos) X.env]):
 ASt X kd (.Assign [.Subscript (.Name x p) e1 tpos] ev pos) (zmH i f fv):=by
 with_unfolding_all exact(vd (zbF hv (zdB ho h1 set_list ha) hs hw hm) λD σ H h=>by
  obtain⟨F,B,ad,as,o,R,e,q⟩:=h;obtain⟨k,j1,e⟩:=bS_ (show(f as).bind _=_ from e);obtain⟨c,j2,e⟩:=bS_ e;obtain⟨hk,e⟩:=ite_some' e;obtain⟨os,e1,e⟩:=bS_ e;obtain⟨d,e2,e⟩:=bS_ e;have k1:=zlL e1;obtain⟨st,k2⟩:=zrX e2;cases e;obtain⟨v,sv,ro,hn,hG,up⟩:=R.slotU k1;obtain⟨p,ivs,rfl,hp,hH,hl,ro'⟩:=zgO c ro hn hG k2;obtain⟨R2,g2⟩:=up p _ _ hp ro';exact⟨F,B,ad,as,c,R,j2,_,sv,F,B,ad,as,k,R,j1,p,ivs,k,k.toNat,rfl,rfl,hH,zdm hk hl,q σ ad _ R2 g2⟩)
def zqe{x:Str}{p p1 tpos pos:Pos}(ho:PE X (.Name x p) (Ws i))(h1:AK X kd e1 f1)(hp1:Zw e1)(h2:AK X kd e2 f2)(hv:AK X kd ev fv)
 (ha:∀v,assign (.Subscript (.Subscript (.Name x p) e1 p1) e2 tpos) X.env v=(do
  let ov <-holding [v] (eval (.Subscript (.Name x p) e1 p1) X.env);let iv <-holding [v,ov] (eval e2 X.env)
  standAt tpos
  holding [v,ov,iv] (setItem ov iv v)
  release [v,ov,iv] []))
 (hs:swapsWithSole [.Subscript (.Subscript (.Name x p) e1 p1) e2 tpos] ev pos.line X.env=pure false) (hw:swappedStores [.Subscript (.Subscript (.Name x p) e1 p1) e2 tpos] ev X.env=pure none)
 (hm:(assignEach [.Subscript (.Subscript (.Name x p) e1 p1) e2 tpos] X.env).map (·.2)=[assign (.Subscript (.Subscript (.Name x p) e1 p1) e2 tpos) X.env]):
 ASt X kd (.Assign [.Subscript (.Subscript (.Name x p) e1 p1) e2 tpos] ev pos) (zil i f1 f2 fv):=by
 with_unfolding_all exact(vd (zbF hv (zdB (zdK WW ho h1 hp1) h2 set_list ha) hs hw hm) λD σ H h=>by
  obtain⟨F,B,ad,as,o,R,e,q⟩:=h;obtain⟨n1,j1,e⟩:=bS_ (show(f1 as).bind _=_ from e);obtain⟨n2,j2,e⟩:=bS_ e;obtain⟨c,j3,e⟩:=bS_ e;obtain⟨⟨hk1,hk2⟩,e⟩:=ite_some' e;obtain⟨os,e1,e⟩:=bS_ e;obtain⟨inner,e2,e⟩:=bS_ e;obtain⟨d,e3,e⟩:=bS_ e;have k1:=zlL e1;have k2:=zqy e2;obtain⟨st,k3⟩:=zrX e3;cases e;obtain⟨v,sv,ro,hn,hG,up⟩:=R.slotU k1;obtain⟨l,vs,w,fw,rfl,hH,hvs,rw1,fn,fs,up1⟩:=zez ro hn hG k2;obtain⟨p,ivs,rfl,hp,hHp,hl,ro'⟩:=zgO c rw1 fn (λa m=>hG a (fs a m)) k3;obtain⟨R2,g2⟩:=up p _ _ (fs p hp) (up1 p _ _ hp ro');exact⟨F,B,ad,as,c,R,j3,_,sv,F,B,ad,as,n1,R,j1,l,vs,n1,_,rfl,rfl,.inl (.inl hH),zgl hk1 hvs,F,B,ad,as,n2,R,j2,p,ivs,n2,n2.toNat,rfl,rfl,hHp,zdm hk2 hl,q σ ad _ R2 g2⟩)
def zqb{x z:Str}{n:Nat}{ec:Expr}{p p1 p2 py pos0 q0 q1 tpos pos:Pos}(hN:X.N.Nodup)(hyi:X.N[y]? = some z)(hyl:Loc X.env.scope z)(hyf:X.fn z=true\/X.env.scope.names.lookup z=some .local)
 (ho:PE X (.Name x p) (Ws i)) (h1:AK X kd e1 f1) (hp1:Zw e1) (hc:PE X ec (tC (.int n))) (hpc:Zw ec) (hsw:swapsWith (.Subscript (.Subscript (.Name x p) e1 p1) ec p2) (some (.Name z py)) pos0.line X.env=pure false)
 (ho2:PE X (.Name z q0) (Ws y)) (h2:AK X kd e2 f2) (hp2:Zw e2) (h3:AK X kd e3 f3) (hv:AK X kd ev fv)
 (ha:∀v,assign (.Subscript (.Subscript (.Name z q0) e2 q1) e3 tpos) X.env v=(do
  let ov <-holding [v] (eval (.Subscript (.Name z q0) e2 q1) X.env);let iv <-holding [v,ov] (eval e3 X.env)
  standAt tpos
  holding [v,ov,iv] (setItem ov iv v)
  release [v,ov,iv] []))
 (hs:swapsWithSole [.Subscript (.Subscript (.Name z q0) e2 q1) e3 tpos] ev pos.line X.env=pure false) (hw:swappedStores [.Subscript (.Subscript (.Name z q0) e2 q1) e3 tpos] ev X.env=pure none)
 (hm:(assignEach [.Subscript (.Subscript (.Name z q0) e2 q1) e3 tpos] X.env).map (·.2)=[assign (.Subscript (.Subscript (.Name z q0) e2 q1) e3 tpos) X.env]):
 ASs X kd [.Assign [.Name z py] (.Subscript (.Subscript (.Name x p) e1 p1) ec p2) pos0,.Assign [.Subscript (.Subscript (.Name z q0) e2 q1) e3 tpos] ev pos] (znh y i f1 n f2 f3 fv):=by
 with_unfolding_all exact(zdk (YF (zoP hN hyi hyl (zdK znl (zdK WW ho h1 hp1) hc hpc) hsw hyf) (zdc (zbF hv (zdB (zdK WW ho2 h2 hp2) h3 set_list ha) hs hw hm))) λD σ H h=>by
  obtain⟨F,B,ad,as,o,R,e,q⟩:=h;obtain⟨n1,j1,e⟩:=bS_ (show(f1 as).bind _=_ from e);obtain⟨n2,j2,e⟩:=bS_ e;obtain⟨n3,j3,e⟩:=bS_ e;obtain⟨c,j4,e⟩:=bS_ e;obtain⟨⟨hk1,hk2,hk3,hy⟩,e⟩:=ite_some' e;have hy:=ztG hy;obtain⟨os,e1,e⟩:=bS_ e;obtain⟨ps,e2,e⟩:=bS_ e;obtain⟨rows,e3,e⟩:=bS_ e;obtain⟨inner,e4,e⟩:=bS_ e;obtain⟨d,e5,e⟩:=bS_ e;have k1:=zlL e1;have k2:=zvS e2;have k3:=zqy e3;have k4:=zqy e4;obtain⟨st,k5⟩:=zrX e5;cases e;obtain⟨v,sv,ro,hn,hG,up⟩:=R.slotU k1;obtain⟨l,vs,w,fw,rfl,hH,hvs,rw1,fn,fs,up1⟩:=zez ro hn hG k2;obtain⟨l2,vs2,w2,fw2,rfl,hH2,hvs2,rw2,fn2,fs2,up2⟩:=zth rw1 fn (λa m=>hG a (fs a m)) k3;obtain⟨l3,vs3,w3,fw3,rfl,hH3,hvs3,rw3,fn3,fs3,up3⟩:=zez rw2 fn2 (λa m=>hG a (fs a (fs2 a m))) k4;obtain⟨p,ivs,rfl,hp,hHp,hl,ro'⟩:=zgO c rw3 fn3 (λa m=>hG a (fs a (fs2 a (fs3 a m)))) k5;have m3:=fs3 p hp;have m2:=fs2 p m3;have m1:=fs p m2;obtain⟨R2,g2⟩:=up p _ _ m1 (up1 p _ _ m2 (up2 p _ _ m3 (up3 p _ _ hp ro')));have yl:y<σ.length:=by rw[<-R.len];exact(zzE.mp hy).1
  have R':=R.any (y:=y) (v:=some (.ref l3)) hy;have niy:i≠y:=λe=>by subst e;rw[hy]at k1;cases k1
  have R2':=R2.any (y:=y) (v:=some (.ref l3)) (by rw[zzW niy];exact hy);refine⟨_,sv,F,B,ad,as,n1,R,j1,l,vs,n1,_,rfl,rfl,.inl (.inl hH),zgl hk1 hvs,l2,vs2,(n:Int),_,rfl,rfl,.inl (.inl hH2),ZM hvs2, ?_⟩;exact⟨F,B,ad,as,c,R',j4,_,zyI yl,F,B,ad,as,n2,R',j2,l3,vs3,n2,_,rfl,rfl,.inl (.inl hH3),zgl hk2 hvs3,F,B,ad,as,n3,R',j3,p,ivs,n3,n3.toNat,rfl,rfl,hHp,zdm hk3 hl,q _ ad _ R2' g2⟩)
end
section
variable{X:Cx}{kd:KD}
def zrE:SlR X (λx lo hi H Q=>∃z,x = .str z/\z.length<=sizeLine/\Q (.str (Txt.slice z lo hi)) H):=by
 intro pins s σ H x v vl vu lo hi sl Q I rx hs pl pu h;obtain⟨z,rfl,hz,q⟩:=h;obtain⟨t,rfl⟩:=rx;refine⟨"str",_,F.slot_str_getitem.lookup,typeIs_str _ _ _, ?_⟩;cases pl with
 |none=>
  cases pu with
  |none=>exact wpAny_getItem_str_slice (l:=none) (u:=none) (st:=none) hs rfl (post_val_or_str ⟨zzM (Txt.slice_le z _ _) hz,λt' k=>⟨.str _,H,I.kept (λ_ _ e=>e),⟨_,rfl⟩,q⟩⟩)
  |int j uj=>exact wpAny_getItem_str_slice (l:=none) (u:=some (j,uj)) (st:=none) hs rfl (post_val_or_str ⟨zzM (Txt.slice_le z _ _) hz,λt' k=>⟨.str _,H,I.kept (λ_ _ e=>e),⟨_,rfl⟩,q⟩⟩)
 |int i ui=>
  cases pu with
  |none=>exact wpAny_getItem_str_slice (l:=some (i,ui)) (u:=none) (st:=none) hs rfl (post_val_or_str ⟨zzM (Txt.slice_le z _ _) hz,λt' k=>⟨.str _,H,I.kept (λ_ _ e=>e),⟨_,rfl⟩,q⟩⟩)
  |int j uj=>exact wpAny_getItem_str_slice (l:=some (i,ui)) (u:=some (j,uj)) (st:=none) hs rfl (post_val_or_str ⟨zzM (Txt.slice_le z _ _) hz,λt' k=>⟨.str _,H,I.kept (λ_ _ e=>e),⟨_,rfl⟩,q⟩⟩)
def slS:D->Option Int->Option Int->Option R0
 | .str z,lo,hi=>if z.length<=sizeLine then some (.im (.str (Txt.slice z lo hi)))else none
 |_,_,_=>none
def ztW:SlR X (λx lo hi H Q=>∃O d r,(∀a,O a->H a≠none)/\Vw X.K kd O H x d/\slS d lo hi=some r/\RQ X.K kd O H Q r):=by
 intro pins s σ H x v vl vu lo hi sl Q I rx hs pl pu h;obtain⟨O,d,r,ht,vx,he,q⟩:=h;unfold slS at he
 split at he
 · obtain⟨c,rfl⟩:=zQ he;cases vx;exact zrE pins s σ H _ v vl vu lo hi sl Q I rx hs pl pu ⟨_,rfl,c,yu q (.str _)⟩
 · cases he
def zlv{a:Expr}{lo hi:Option Expr}{fa:EF}{fl fh:OF}{pos p2:Pos}(ha:AE X kd a fa)(hl:AO X kd lo fl)(hh:AO X kd hi fh):AE X kd (.Subscript a (.Slice lo hi none p2) pos) (fSl fa fl fh slS):=by with_unfolding_all exact(yV (ziJ ztW ha hl hh) λσ H Q h=>by
 obtain⟨F,B,ad,as,r,as',R,e,q⟩:=h;obtain⟨⟨p,as1⟩,h1,e⟩:=bS_ (show(fa as).bind _=_ from e);obtain⟨⟨l,as2⟩,h2,e⟩:=bS_ e;obtain⟨⟨u,as3⟩,h3,e⟩:=bS_ e;obtain⟨⟨d,lv⟩,h4,e⟩:=bS_ e;obtain⟨r',h5,e⟩:=bS_ e;obtain⟨z,h6,e⟩:=bS_ e;cases e;refine v7 R h1 λv ad1 H1 R1 rv1 g1=>⟨F,B,ad1,as1,l,as2,R1,h2,λad2 H2 R2 g2=>⟨F,B,ad2,as2,u,_,R2,h3,λad3 H3 R3 g3=>?_⟩⟩;exact⟨_,d,r',R3.tr _,wB.vw R3 ((rv1.grow g2).grow g3) h4,h5,vM R3 h6 λw T' H' R' rv' g'=>q w T' ad3 H' R' rv' (((g1.trans g2).trans g3).trans g')⟩)
end
def ziV:List D->Option R0
 | [.int i,.int j]=>if 0<j/\j<1073741824 then some (.im (.tup [.int (i/j),.int (i%j)]))else none
 |_=>none
def l1_{α:Type}{P:List α->Prop}(h:∀a,P [a]):∀us:List α,us.length=1->P us
 | [a],_=>h a
def l2_{α:Type}{P:List α->Prop}(h:∀a b,P [a,b]):∀us:List α,us.length=2->P us
 | [a,b],_=>h a b
def l3_{α:Type}{P:List α->Prop}(h:∀a b c,P [a,b,c]):∀us:List α,us.length=3->P us
 | [a,b,c],_=>h a b c
def l4_{α:Type}{P:List α->Prop}(h:∀a b c d,P [a,b,c,d]):∀us:List α,us.length=4->P us
 | [a,b,c,d],_=>h a b c d
def l5_{α:Type}{P:List α->Prop}(h:∀a b c d e,P [a,b,c,d,e]):∀us:List α,us.length=5->P us
 | [a,b,c,d,e],_=>h a b c d e
section
variable{X:Cx}{kd:KD}
def zlV:CallD X kd (.builtin "divmod") ziV:=by
 intro pins s σ H xs us Q I r h;obtain⟨O,ds,z,ht,vl,he,q⟩:=h;unfold ziV at he
 split at he
 · obtain⟨hc,rfl⟩:=zQ he;obtain⟨x,y,rfl,vx,vy⟩:=zpP vl;cases vx;cases vy;exact ziC pins s σ H _ us Q I r ⟨_,_,rfl,hc,zdO ht q (.cons (.int _) (.cons (.int _) .nil))⟩
 · cases he
def aI:AE X kd (.Constant (.int c) j pos) (fC (.int c)):=zgj zeh λ_ _=>.int _
def aS:AE X kd (.Constant (.str c) j pos) (fC (.str c)):=zgj zmE λ_ _=>.str _
def aZ:AE X kd (.Constant .none j pos) (fC .non):=zgj zsw λ_ _=>.non
def aB:AE X kd (.Constant (.bool c) j pos) (fC (.bl c)):=zgj ztQ λ_ _=>.bl _
def ax{P:Program}{w:World}{K:zC}{a b:Expr}{fa fb:EF}{pos:Pos}(hkd:KD1 P w K kd)(ha:AE X kd a fa)(hb:AE X kd b fb)(h1:X.prog=P:=by rfl)(h2:X.w=w:=by rfl)(h3:X.K=K:=by rfl)(hm:Zw b:=by exact λ_ _=>rfl):AE X kd (.Subscript a b pos) (f2 fa fb ixP):=zrt (zvA (hkd _ h1 h2 h3)) ha hb hm
def sv(z:Bool)(i:Nat)(hN:X.N.Nodup)(he:AE X kd e fa)(hi:X.N[i]? = some x:=by rfl)(hx:Loc X.env.scope x:=by first|exact Or.inl rfl|exact Or.inr rfl)(hs:swapsWith e (some (.Name x pos')) pos.line X.env=pure false:=by rfl)(hf:X.fn x=true\/X.env.scope.names.lookup x=some .local:=by first|exact Or.inl rfl|exact Or.inr rfl):
 ASt X kd (.Assign [.Name x pos'] e pos) (zL z i fa):=zoo hN hi hx he hs hf
def an(i:Nat)(hN:X.N.Nodup)(hi:X.N[i]? = some x:=by rfl)(hx:Loc X.env.scope x:=by first|exact Or.inl rfl|exact Or.inr rfl)(hf:X.fn x=true\/X.env.scope.names.lookup x=some .local:=by first|exact Or.inl rfl|exact Or.inr rfl):AG X kd (.Name x pos) [i] (gN i):=zka hN hi hx hf
def av(i:Nat)(hN:X.N[i]? = some x:=by rfl)(hv:Vis X.env.scope x:=by first|exact Or.inl rfl|exact Or.inr (Or.inl rfl)|exact Or.inr (Or.inr rfl))(hd:(x==("__debug__":Str))=false:=by decide)
 (hcd:(x==("__classdict__":Str))=false:=by decide):AE X kd (.Name x pos) (fV i):=zsA (zpa hN hv hd hcd)
end
def zpU(mg:Str->Option Value):Str->Addr:=λx=>match mg x with
 |some (.ref a)=>a
 |_=>0
def zpp(h:mg x=some (.ref a)):zpU mg x=a:=by
 unfold zpU;rw[h]
structure CI(K:zC)(kd:KD)(mg:Str->Option Value)(c:Str)(C:Addr):Prop where
 eq:kd.c c=C
 cl:Cls K C
 mks:PySem.W.makesIn K C=true
 kp:PySem.W.keepIn K (.ref C)=true
 mg:mg c=some (.ref C)
def szs(h:n<=1000000):n<=sizeLine:=zzM h (by decide)
section
variable{as:AS}{f fo a b:EF}{fr:AF}{s t:Bool}{x y z d:D}{c m:Str}{ns cs:List Str}{ds:List D}{tbl:List (Str×Fn)}{g:Fn}{o:O}
inductive SqD:D->List D->Prop
 |l (ds:List D):SqD (.lst ds) ds
 |t (ds:List D):SqD (.tup ds) ds
theorem zbk:∀(l:List α),(∀q ∈ l,∃as1,gg (it q) as0=some as1/\WE fe as1 (h q))->∃os,xj gg zX fe as0 (l.map it)=some os/\O.strs os=true/\O.toDs os=l.map h
 | [],_=>⟨[],rfl,rfl,rfl⟩
 |q::l,H=>by
  obtain⟨os,e1,e2,e3⟩:=zbk l λp m=>H p (zzB _ m);obtain⟨as1,h1,o,h2,h3,h4⟩:=H q zzD;refine⟨o::os, ?_,by show(o.str&&O.strs os)=true;rw[h3,e2];rfl,by show o.toD::O.toDs os=_;rw[h4,e3];rfl⟩;show xj gg zX fe as0 (it q::l.map it)=_;unfold xj;rw[h1];show((fe as1).bind _)=_;rw[h2];show(if o.str=true then _ else _)=_;rw[if_pos h3,e1];rfl
theorem zfU:∀(l:List α),(∀q ∈ l,∃as1,gg (it q) as0=some as1/\WT tt as1 (p q)/\(p q=true->WE fe as1 (h q)))->∃os,xj gg tt fe as0 (l.map it)=some os/\O.strs os=true/\O.toDs os=(l.filter p).map h
 | [],_=>⟨[],rfl,rfl,rfl⟩
 |q::l,H=>by
  obtain⟨os,e1,e2,e3⟩:=zfU l λp m=>H p (zzB _ m);obtain⟨as1,h1,h2,h3⟩:=H q zzD;cases hp:p q with
  |false=>
   rw[hp]at h2;refine⟨os,zfZ h1 h2 e1,e2, ?_⟩;rw[List.filter_cons_of_neg (by simp[hp])];exact e3
  |true=>
   rw[hp]at h2;obtain⟨o,k1,k2,k3⟩:=h3 hp;refine⟨o::os, ?_,by show(o.str&&O.strs os)=true;rw[k2,e2];rfl, ?_⟩
   · unfold WT at h2;show xj gg tt fe as0 (it q::l.map it)=_;unfold xj;rw[h1];show(tt as1).bind _=_;rw[h2];show((fe as1).bind _)=_;rw[k1];show(if o.str=true then _ else _)=_;rw[if_pos k2,e1];rfl
   · rw[List.filter_cons_of_pos hp];show o.toD::O.toDs os=_;rw[k3,e3];rfl
def zii{fi:IF}{cap:List (Option Nat)}{gg:GF}{tt:TF}{fe:EF}{xs:List It1}{os:List O}{zs:List D}(h1:fi as=some (xs,as))(hl:xs.length<=1000000)(h2:xj gg tt fe (vI cap as) xs=some os)(hs:O.strs os=true)(e:O.toDs os=zs):WE (zB fi cap gg tt fe) as (.lst zs):=by
 refine⟨.nd .ls os, ?_,hs,congrArg D.lst e⟩;unfold zB;rw[h1];show(if xs.length<=sizeLine then _ else _)=_;rw[if_pos (szs hl),h2];rfl
def wY(l:List α)(h1:fi as=some (l.map it,as))(hl:l.length<=1000000)(H:∀q ∈ l,∃as1,gg (it q) (vI cap as)=some as1/\WE fe as1 (h q)):WE (zB fi cap gg zX fe) as (.lst (l.map h)):=by
 obtain⟨os,e1,e2,e3⟩:=zbk l H;exact zii h1 (by rw[zD];exact hl) e1 e2 e3
def zrY(l:List α)(h1:fi as=some (l.map it,as))(hl:l.length<=1000000)(H:∀q ∈ l,∃as1,gg (it q) (vI cap as)=some as1/\WT tt as1 (p q)/\(p q=true->WE fe as1 (h q))):WE (zB fi cap gg tt fe) as (.lst ((l.filter p).map h)):=by
 obtain⟨os,e1,e2,e3⟩:=zfU l H;exact zii h1 (by rw[zD];exact hl) e1 e2 e3
def zlh{g:List D->Option R0}(ha:WE a as x)(hg:g [x]=some (.im z)):WE (fP (aC a aN) g) as z:=WD.e (zrG ha hg)
def zty{fd:DF}{os:List O}{zs:List D}(h:WO fd as os)(hl:os.length<=1000000)(hs:O.strs os=true)(e:O.toDs os=zs):WE (yw fd) as (.tup zs):=by
 refine⟨YH os,ziS h (szs hl), ?_, ?_⟩
 · unfold YH;split
   · exact hs
   · exact hs
 · subst e;unfold YH;split
   · rfl
   · rfl
def ztL{fd:DF}{os:List O}(h:WE a as x)(hr:WO fd as os):∃o,o.str=true/\o.toD=x/\WO (dC a fd) as (o::os):=by
 obtain⟨o,h1,h2,h3⟩:=h;exact⟨o,h2,h3,Y8 h1 hr⟩
def Yk(ha:WE a as x)(hb:WE b as y):WE (yw (dC a (dC b dN))) as (.tup [x,y]):=by
 obtain⟨p,k1,rfl,k3⟩:=ztL hb zU;obtain⟨o,h1,rfl,h3⟩:=ztL ha k3;exact zty h3 (by show 2<=_;omega) (by show(o.str&&(p.str&&true))=true;rw[h1,k1];rfl) rfl
def zut{g:D->D->Option R0}(ha:WE a as x)(hb:WE b as y)(hg:g x y=some (.im z)):WE (f2 a b g) as z:=WD.e (f2E ha hb hg)
end
open AutoSeq1 (wpAny_loadPart')
def ixT(x y:D):Option R0:=match x with
 | .dt ks ds=>(zbs y).bind λk=>imR (zdZ ks ds k)
 |_=>none
section
variable{X:Cx}{kd:KD}{e a b c o i:Expr}{pos pos':Pos}{fa fb fk fv:EF}
def zuk(hu:X.A.units+1<cLine):IxD X kd ixT:=by
 intro value slice pins s σ H x y v u Q I rx ry h hs;obtain⟨O,d,e,r,ht,vx,vy,he,q⟩:=h;cases vx with
 |dt hH l rl=>
  obtain⟨k,h1,he⟩:=bS_ (show(zbs e).bind _=_ from he);obtain⟨d,h2,rfl⟩:=zao he;cases rx;obtain⟨b,rfl,hb⟩:=zdq vy h1
  rcases zex k rl l with⟨v1,d1,e1,e2,rp⟩|⟨e1,e2⟩
  · rw[h2]at e2;cases e2;obtain⟨_,_,_,_,dd⟩:=ziF I.hok (.inl hH);have g:=zhC.t hH hb;rw[e1]at g;exact tail_any dd.typeIs PySem.F.slot_dict_getitem.lookup (zlz hu I g ry λw' s' I' rw'=>⟨v1,H,I',rw',yu q rp⟩) hs
  · rw[h2]at e2;cases e2
 |_=>cases he
end
def zhE{K:zC}{kd:KD}{F:Addr->Prop}{H:Hp}{a:Addr}{vs:List V}{st:Bool}{ds:List D}(ft:∀a,F a->H a≠none)(hs:∀H3:Hp,(∀b u,H b=some u->H3 b=some u)->SqL K H3 a vs)(r:RpL K kd (λa=>st=true/\F a) H vs ds):ItC K kd F H (Ite K a) (V1 st 0 ds):=⟨λH3 T k hT i=>by
 have hr3:=hs H3 k;have hlen:=zfz st 0 ds;refine⟨λhi=>?_,λhi=>⟨_,hr3,by rw[r.length];omega⟩,λv H4 hy=>?_⟩
 · obtain⟨u,hu,_⟩:=r.get (zzC (by rw[<-hlen];exact hi));exact⟨_,u,hr3,hu⟩
 · obtain⟨A,x,hn,rfl,rfl,hv⟩:=hy;have hnH:H A=none:=by
    cases e:H A with
    |none=>rfl
    |some u=>rw[k A u e]at hn;cases hn
   refine⟨vL hn,λy hy=>?_⟩;obtain⟨d,hd,rfl⟩:=zfL hy;obtain⟨u,hu,ru⟩:=r.get hd;have:=hv _ hr3;rw[hu]at this;cases this;rw[zyW];exact .tup (λz=>z.2.elim (λy=>ft A y hnH) λy=>(hT A y).2 hn) zT (.cons (.int _) (.cons ((ru.since (λb o q=>vL hn b o (k b o q)) λa z=>(hT a z).1).less λa z=>z.2.elim (λy=>.inl ⟨z.1,y⟩) .inr) .nil))⟩
section
variable{X:Cx}{kd:KD}{e:Expr}{fa:EF}{pos pos':Pos}
def zqD{p:Pos}{elts:List Expr}{k:Nat}(hg:Gl X "enumerate")(hm:X.mg "enumerate"=none)(he:AE X kd e fa)(hs:starEach [e] X.env=[(false,eval e X.env)]):
 AIc X kd (.Tuple elts k pos') (.Call (.Name "enumerate" p) [e] [] pos) (zqc fa):=by
 with_unfolding_all (
 intro pins s σ H R I h;obtain⟨F,B,ad,as,ds,as',Rl,e',q⟩:=h;obtain⟨⟨p,as1⟩,h1,e'⟩:=bS_ (show(fa as).bind _=_ from e');obtain⟨⟨⟨st,x⟩,as2⟩,h2,e'⟩:=bS_ e'
 match x,e',h2 with
 | .lst xs,e',h2=>
  cases e';refine zpH hg hm (yZ he Yu hs) hs pins s σ H R I (show al X.K kd fa σ H _ from⟨F,B,ad,as,p,as1,Rl,h1,λv T1 ad1 H1 R1 rv1 g1=>?_⟩);obtain⟨ad2,R2,rp,le⟩:=Va R1 rv1 h2;cases rp with
  |lst hn hr rl=>exact⟨_,rfl,⟨_,.inl hr⟩,q _ ad2 H1 R2 (g1.trans (Grow.less le)) (zhE (R2.trk true) (λH3 k=>.inl (hr.elim (λh=>.inl (k _ _ h)) λ⟨o,h⟩=>.inr ⟨o,k _ _ h⟩)) (rl.less λa z=>by have z1:=z.1;rw[z1];exact z.2))⟩
  |lstK a b c rl=>exact⟨_,rfl,⟨_,.inr ⟨_,_,_,a,rfl,rfl,rfl,b,c⟩⟩,q _ ad2 H1 R2 (g1.trans (Grow.less le)) (zhE (R2.trk true) (λH3 k=>.inr ⟨_,_,_,a,rfl,rfl,rfl,b,c⟩) (rl.less λa z=>by have z1:=z.1;rw[z1];exact z.2))⟩)
end
section
variable{X:Cx}{kd:KD}{P:Program}{w:World}{K:zC}{a b e o:Expr}{es:List Expr}{fa fb fo:EF}{fr:AF}{fd_:DF}{pos p apos:Pos}{k n:Nat}
def fsc(h1:sc.kind = .function:=by rfl)(h2:sc.isCoroutine=false:=by rfl)(h3:sc.isGenerator=false:=by rfl)(h4:N.Nodup:=by decide +kernel)(h5:N.take Ps.length=Ps:=by rfl)(h6:∀x ∈ Ps,sc.names.lookup x=some .local\/sc.names.lookup x=some .cell:=by decide +kernel)(h7:∀y ∈ sc.names,y.2 ≠ .free:=by decide +kernel):FnScope N Ps sc:=⟨h1,h2,h3,h4,h5,h6,h7⟩
def bs{x qual:Str}{st:Stmt}{f:Addr}{fd:FuncData}{ps:List Str}(F:Fun K x qual st f fd)
 (h:∀(kV doc pm:Value) (an:Option Addr) (cdv ct:Value) (us:List Value),us.length=ps.length->bindArgs (PySem.W.fnOf x qual (zcY st) (ZD st) (zr st) .none kV doc pm an cdv ct) ⟨us,[]⟩=pure (ps.zip us):=by first|exact λ_ _ _ _ _ _=>l1_ λ_=>rfl|exact λ_ _ _ _ _ _=>l2_ λ_ _=>rfl|exact λ_ _ _ _ _ _=>l3_ λ_ _ _=>rfl|exact λ_ _ _ _ _ _=>l4_ λ_ _ _ _=>rfl|exact λ_ _ _ _ _ _=>l5_ λ_ _ _ _ _=>rfl|exact λ_ _ _ _ _ _=>l6_ λ_ _ _ _ _ _=>rfl):Binds K fd ps []:=F.binds h
def bc(ha:AE X kd a fa)(hr:AA X kd es fr)(hs:isStar a=false:=by rfl):AA X kd (a::es) (aC fa fr):=zpR ha hr (wI hs)
def bd(ha:AE X kd a fa)(hr:AD X kd es fd_)(hs:isStar a=false:=by rfl):AD X kd (a::es) (dC fa fd_):=zpK ha hr (wI hs)
def bn{op:Operator}(ha:AE X kd a fa)(hb:AE X kd b fb):AE X kd (.BinOp a op b pos) (f2 fa fb (zaf op)):=zte (zrT op) ha hb
def tc{op:CmpOp}(hkd:KD1 P w K kd)(hr:Room k X.A)(ha:AE X kd a fa)(hb:AE X kd b fb)(h1:X.prog=P:=by rfl)(h2:X.w=w:=by rfl)(h3:X.K=K:=by rfl)(hm:behindInMarks op b=false:=by exact zoI _):AT X kd (.Compare a [op] [b] pos) (fT (f2 fa fb (zR op))):=zsk (zhk (hkd _ h1 h2 h3) (zfs hr) op) (zkg op) ha hb hm
def ec{op:CmpOp}(hkd:KD1 P w K kd)(hr:Room k X.A)(ha:AE X kd a fa)(hb:AE X kd b fb)(h1:X.prog=P:=by rfl)(h2:X.w=w:=by rfl)(h3:X.K=K:=by rfl)(hm:behindInMarks op b=false:=by exact zoI _):AE X kd (.Compare a [op] [b] pos) (f2 fa fb (zR op)):=zsJ (zhk (hkd _ h1 h2 h3) (zfs hr) op) ha hb hm
def bi{id:String}{gg:List D->Option R0}{x:Str}(hc:CallD X kd (.builtin id) gg)(hm:X.mg x=none)(hv:bootBuiltins x=some (.builtin id))(ha:AA X kd (e::es) fr)(hg:Gl X x:=by rfl)(hn:x≠"__name__":=by exact Bt.n _ rfl)(hdb:(x==("__debug__":Str))=false:=by decide)
 (he:starEach (e::es) X.env=(false,eval e X.env)::starEach es X.env:=by rfl) (hpl:(backTo pos (starEach es X.env)).any (·.1)=false:=by rfl):AE X kd (.Call (.Name x p) (e::es) [] pos) (fP fr gg):=zsO hc hg hm hv ha hn hdb he hpl
def by_(hc:CallD X kd (.type T) gg)(hm:X.mg x=none)(hv:bootBuiltins x=some (.type T))(ha:AA X kd (e::es) fr)(hg:Gl X x:=by rfl)(hn:x≠"__name__":=by exact Bt.n _ rfl)(hdb:(x==("__debug__":Str))=false:=by decide)
 (he:starEach (e::es) X.env=(false,eval e X.env)::starEach es X.env:=by rfl) (hpl:(backTo pos (starEach es X.env)).any (·.1)=false:=by rfl):AE X kd (.Call (.Name x p) (e::es) [] pos) (fP fr gg):=ztj hc hg hm hv ha hn hdb he hpl
def sj(i:Nat){z:Bool}{x:Str}{pos':Pos}{rest:List Stmt}{g:SF}(hN:X.N.Nodup)(he:AE X kd e fa)(h2:ASs X kd rest g)(hi:X.N[i]? = some x:=by rfl)(hx:Loc X.env.scope x:=by first|exact Or.inl rfl|exact Or.inr rfl)(hs:swapsWith e (some (.Name x pos')) pos.line X.env=pure false:=by rfl)(hf:X.fn x=true\/X.env.scope.names.lookup x=some .local:=by first|exact Or.inl rfl|exact Or.inr rfl):
 ASs X kd (.Assign [.Name x pos'] e pos::rest) (zy (zL z i fa) g):=xQ (zoo hN hi hx he hs hf) h2
end
end PF
end
section
namespace PySem
section
variable{prog:Program}{w:World}{K:Type}[DecidableEq K]{knd:HeapKind prog w K}{A:Around}{E:Value->Shared->Prop}{s:Shared}
def zoN(hu:knd.room A)(hkey:knd.is s.heap k a)(hm:s.heap.DictOfH knd d xs)
 (h1:∀u,(atKey xs k).map (·.2)=some u->Q u {s with toks:=s.toks+knd.draws k})
 (hQ:atKey xs k=none->∀h',h'.DictOfH knd d (storedH xs k a v)->Heap.SameBut d s.heap h'->Q v {s with heap:=h',toks:=s.toks+knd.draws k})
 (hsz:xs.length<=sizeLine):wpAny (model prog w) A (dictSetDefault d (.ref a) v) Q E s:=by
 obtain⟨o,es,ep,ho,hc,hd,he,his,hn⟩:=hm;unfold dictSetDefault
 try with_reducible refine zxK ?_
 refine zxE (knd.pyHash hu hkey (zxE (wpAny_dictFind_heap (s:={s with toks:=s.toks+knd.draws k}) hu hkey ho hd he his hn ?_ ?_)))
 · intro hno;have hnot:k ∉ xs.map (·.1):=not_mem_keys_of_get hno;refine zxE (wpAny_rule (zxE (wpAny_updateDictKeys (hz:=by have e:=size_of_entries he;omega) (s:={s with toks:=s.toks+knd.draws k}) ho hd (zxF (hQ (atKey_none_of_get hno) _ ⟨_,_,ep+1,zxN _ ho (Obj.isFreed_of_dict (Obj.data_mapDictKeys hd _)),
    hc.mapDictKeys _,Obj.data_mapDictKeys hd _, ?_, ?_, ?_⟩ (Heap.SameBut.update ..))))))
   · rw[storedH_new (atKey_none_of_get hno)];simp[he,entryOfKey]
   · rw[storedH_new (atKey_none_of_get hno)];intro x hx
     rcases zzK.mp hx with hx|hx
     · exact knd.keeps (his x hx) ho hd (Heap.SameBut.update ..)
     · simp only[zzP]at hx;subst hx;exact knd.keeps hkey ho hd (Heap.SameBut.update ..)
   · rw[storedH_new (atKey_none_of_get hno),zyK,zxD];refine⟨hn,by simp, ?_⟩;intro x hx y hy;simp only[zyQ,List.map_nil,zzP]at hy;subst hy;exact λe=>hnot (e ▸ hx)
 · intro j p hj;refine zxE (wpAny_dictEntries (s:={s with toks:=s.toks+knd.draws k}) ho hd ?_);rw[entry_at he j,hj];exact zxE (wpAny_rule (zxF (h1 _ (by rw[atKey_of_get hn hj];rfl))))
def zjk(knd:HeapKind prog w K)(d a:Addr)(hd:(d==sysModules)=false)(dflt:Value):
 MeetsIn prog w (Builtin.«dict.setdefault» ⟨[.ref d,.ref a,dflt],[]⟩) (λA R s=>knd.room A.in1/\∃k xs,knd.is s.heap k a/\s.heap.DictOfH knd d xs/\xs.length<=sizeLine/\
  (∀u,(atKey xs k).map (·.2)=some u->R (.ok (.ret u)) {s with toks:=s.toks+knd.draws k})/\
  (atKey xs k=none->∀h',h'.DictOfH knd d (storedH xs k a dflt)->Heap.SameBut d s.heap h'->R (.ok (.ret dflt)) {s with heap:=h',toks:=s.toks+knd.draws k})):=
 .of_wp λA R s ⟨hu,k,xs,hkey,hm,hz,h1,h2⟩=>by
  unfold Builtin.«dict.setdefault»;refine zxE ?_;unfold Builtin.Dict.keyAndDefault;refine zxE (wpAny_notOrdered_dict hm.typeIs ?_);show wpAny _ _ (pure (d,Value.ref a,some dflt)) _ _ s;refine zxF ?_;show wpAny _ _ (if(d==sysModules)=true then _ else(dictSetDefault d (.ref a) dflt >>= _)) _ _ s;rw[if_neg (by rw[hd];exact zyU)];exact zxE (zoN hu hkey hm (λv hv=>zxF ⟨v,rfl,h1 v hv⟩) (λhn h' hm' hs'=>zxF ⟨dflt,rfl,h2 hn h' hm' hs'⟩) hz)
end
end PySem
namespace PF
open PySem PySem.Spec PyProof.Rows L2
def zuY(x:V)(xs:List V)(H:Hp)(Q:VK):Prop:=∃a kvs k b y,x = .ref a/\xs=[.ref b,y]/\H a=some (.dT kvs)/\KC H b k/\kvs.length<sizeLine/\
 (∀v,vP kvs k=some v->Q v H)/\(vP kvs k=none->Q y (upd H a (.dT (putK kvs k y))))
section
variable{X:Cx}{kd:KD}
def zsq(hu:X.A.units+1<cLine):MtM X "dict.setdefault" zuY:=by
 intro pins s σ H x xs v us Q I rx rv h;obtain⟨a,kvs,k,b,y,rfl,rfl,hH,hb,hz,q1,q2⟩:=h;cases rx;obtain⟨u1,u2,rfl,r1,r2⟩:=rv.two;cases r1;obtain⟨z,hd,ys,rel,dd⟩:=zrm I.hok hH;have hyl:ys.length<=sizeLine:=by rw[<-rel.length];exact z
 refine call_meetsIn PySem.F.slot_dict_setdefault dd.typeIs PySem.F.entry_dict_setdefault (PySem.F.args_dict_setdefault_3 _ _ _) (zjk (tupleKind (xu X.prog X.w)) a b hd u2) ⟨tupleKind_room_in1 hu,k,ys,zdJ I.hok hb,dd,hyl,λu hu'=>?_,λhn h' dd' hs=>?_⟩
 · have:=rel.val k;rw[hu']at this;cases hv:vP kvs k with
   |none=>rw[hv]at this;exact absurd this (by intro z;cases z)
   |some w=>
    rw[hv]at this;exact⟨w,H,I.tok _,this,q1 w hv⟩
 · have hv:vP kvs k=none:=by
    have:=rel.val k;rw[hn]at this;cases hv:vP kvs k with
    |none=>rfl
    |some w=>rw[hv]at this;exact absurd this (by intro z;cases z)
   refine⟨y,_, ?_,r2,q2 hv⟩;obtain⟨q,es,ep,hq,h2,h3,h4,_,h5⟩:=dd';refine zpg I (by rw[hH];exact True.intro) hs ⟨q,hq⟩ ⟨?_,hd,_,(rel.put k hb r2).keeps λc ys' ec=>?_,q,es,ep,hq,h2,h3,h4,h5⟩
   · have:(putK kvs k y).length<=kvs.length+1:=by
      unfold putK
      split
      · rw[zD];omega
      · rw[zzH];exact zzL _
     omega
   · rw[zH (zuj ec hH (λz=>nomatch z))];exact ec
def kvO:List O->Option (O×Bool×D)
 | [ok,.lf st d]=>some (ok,st,d)
 |_=>none
def zlq(i:Nat)(fr:DF):SF:=λas=>match as[i]? with
 |some (some (.nd (.dt _) _))=>(fr as).bind λp=>(kvO p.1).bind λz=>match p.2[i]? with
  |some (some (.nd (.dt ks) os))=>(zbs z.1.toD).bind λk=>if ks.length<sizeLine then some (.nx (if zeS ks k=true then p.2 else p.2.set i (some (.nd (.dt (ks++[k])) (os++[.lf z.2.1 z.2.2])))))else none
  |_=>none
 |_=>none
def ztw{os:List O}{z:O×Bool×D}(h:kvO os=some z):os=[z.1,.lf z.2.1 z.2.2]:=by
 match os,h with
 | [ok,.lf st d],h=>cases h;rfl
def zsv{i:Nat}{x:Str}{p apos cpos pos':Pos}{e:Expr}{es:List Expr}{fr:DF}(hu:X.A.units+1<cLine)(ho:PE X (.Name x p) (Ws i))(ha:AD X kd (e::es) fr)
 (hbase:attributeBase (.Name x p) "setdefault" X.env (eval (.Name x p) X.env)=eval (.Name x p) X.env)
 (hfew:((backTo cpos (starEach (e::es) X.env)).all (λx=>!x.1)&&(backToKw cpos (keywordEach [] X.env)).all (λx=>x.1.isSome)
  && decide ((e::es).length+([]:List Keyword).length+(if([]:List Keyword).isEmpty then 0 else 1)<30))=true)
 (hline:(apos.endLine==cpos.line)=true) (hs:starEach (e::es) X.env=(false,eval e X.env)::starEach es X.env) (hplain:(backTo cpos (starEach es X.env)).any (·.1)=false)
 (hsw:swapsWith (.Call (.Attribute (.Name x p) "setdefault" apos) (e::es) [] cpos) none pos'.line X.env=pure false):
 ASt X kd (.Expr (.Call (.Attribute (.Name x p) "setdefault" apos) (e::es) [] cpos) pos') (zlq i fr):=by
 with_unfolding_all exact(vd (zau (zob PySem.F.plainAttrs_dict PySem.F.slot_dict_setdefault PySem.F.type_dict_setdefault (zsq hu) ho ha hbase hfew hline hs hplain) hsw) λD σ H h=>by
  obtain⟨F,B,ad,as,o,R,e,q⟩:=h;cases k1:as[i]? with
  |none=>unfold zlq at e;rw[k1]at e;cases e
  |some a0=>
   unfold zlq at e;rw[k1]at e
   match a0,e,k1 with
   |some (.nd (.dt ks0) os0),e,k1=>
    obtain⟨⟨os1,as1⟩,h1,e⟩:=bS_ (show(fr as).bind _=_ from e);obtain⟨v0,hs0,ro0⟩:=R.sl i _ k1;generalize hfp0:ad i=fp0 at ro0;cases ro0 with
    |dt hH0 hl0 rl0=>
     rename_i l vs0 fp00;refine⟨_,hs0,.inr (.inr (.inl ⟨rfl,.inr ⟨_,hH0⟩⟩)),F,B,ad,as,os1,as1,R,h1,λws T1 ad1 H1 R1 ro1 g1=>?_⟩;obtain⟨⟨ok,st,d⟩,h2,e⟩:=bS_ e;cases ztw h2;cases k2:as1[i]? with
     |none=>rw[k2]at e;cases e
     |some a2=>
      rw[k2]at e
      match a2,e,k2 with
      |some (.nd (.dt ks) os),e,k2=>
           obtain⟨k,hk,e⟩:=bS_ (show(zbs ok.toD).bind _=_ from e);obtain⟨hz,e⟩:=zQ e;cases e;have R2:=R1.drop;obtain⟨v1,hs1,ro2⟩:=R2.sl i _ k2;rw[hs0]at hs1;cases hs1;cases ro1 with
           |cons ra rb=>
            rename_i va wb fa fb;cases rb with
            |cons rc rd=>
             rename_i vc we fc fe;cases rd;cases rc with
             |lf rp=>
              have rk:Rp X.K kd (λ_=>False) H1 va ok.toD:=Ro.rp false (λst v d _ r=>Rp.less (λa z=>z.elim) r) (λ_ _ z=>z) (λz=>nomatch z) (λ_ _ z=>z) ra;obtain⟨bk,rfl,hbk⟩:=zdq rk.vw hk;generalize hfp:ad1 i=fp1 at ro2;cases ro2 with
              |dt hH hl rl=>
               rename_i vs fp;have hv:zeS ks k=(vP (ks.zip vs) k).isSome:=by rw[<-zeT,zgU k ks vs hl]
               have gd:=g1.trans (Grow.less (H:=H1) (Gw.drop (T:=fa++([]++[])) (ad:=ad1)));refine⟨_,ks.zip vs,k,bk,vc,rfl,rfl,hH,hbk,by rw[List.length_zip,hl,Nat.min_self,<-hl];exact hz,λv ev=>?_,λev=>?_⟩
               · rw[ev]at hv;rw[show zeS ks k=true from hv,if_pos rfl]at q;exact q σ ad1 H1 R2 gd
               · rw[ev]at hv;have hv:zeS ks k=false:=hv;rw[hv,if_neg zyU]at q;have rp2:RoS X.K kd F B (Gw [] ad1) H1 vc (.lf st d) []:=.lf (Rp.less (λa z=>z.imp id λy=>Gw.drop a y) rp);have rl':vZ X.K kd F B (Gw [] ad1) H1 (vs++[vc]) (os++[.lf st d]) fp:=by have:=rl.append (RoL.one rp2);rw[zyC]at this;exact this
                 have hnd:=R2.nd i;rw[hfp]at hnd;rw[znm hl,show zkX ks k=ks++[k] by unfold zkX;rw[hv];rfl,show zkt ks vs k vc=vs++[vc] by unfold zkt;rw[hv];rfl];obtain⟨R4,g4⟩:=R2.mut (fo:=[]) (n:=.nd (.dt (ks++[k])) (os++[.lf st d])) (u:=.dT ((ks++[k]).zip (vs++[vc]))) (zzE.mp k2).1 hfp hs0 (fp':=fp) (λa m=>m) (by rw[zyC];exact(zzU.mp hnd).2) (by rw[hH];simp) λH' G' hl' gr kp=>.dt hl' (by rw[zzH,zzH,hl];rfl) (vZ.grow gr kp rl');exact q σ _ _ R4 (gd.trans g4))
end
def zbP(ss:List Int):Nat:=(ss.foldl step_dedup []).length
def zoy(ss:List Int):(List.range ss.length).map (λi=>ss.getD i 0)=ss:=by
 refine List.ext_getElem? λi=>?_;rw[zzG]
 by_cases h:i<ss.length
 · rw[zzC (by rw[zyS];exact h),List.getElem_range,zzC h];show some (ss.getD i 0)=_;rw[zyD,zzC h];rfl
 · rw[List.getElem?_eq_none (by rw[zyS];omega),List.getElem?_eq_none (by omega)];rfl
def zse:bootBuiltins "set"=some (.type "set"):=by decide +kernel
theorem zfF:∀{us:List Value}{ss:List Int},IntsAre us ss->us.length=ss.length
 |_,_,.nil=>rfl
 |_,_,.cons _ _ r=>congrArg (· + 1) (zfF r)
section
variable{X:Cx}{kd:KD}
def tLS(K:zC)(ta:TA):TE:=λσ H Q=>ta σ H λvs H1=>∃r ys ss,vs=[.ref r]/\SqL K H1 r ys/\(∀us,Vals ys us->IntsAre us ss)/\ss.length<=1000/\Q (.int (zbP ss)) H1
def zlI(hc:X.calm=true)(hg:Gl X "set")(hm:X.mg "set"=none)(hgl:Gl X "len")(hml:X.mg "len"=none)(ha:PA X [a] ta)(hs:starEach [a] X.env=[(false,eval a X.env)])
 (hs':starEach [.Call (.Name "set" p) [a] [] pos] X.env=[(false,eval (.Call (.Name "set" p) [a] [] pos) X.env)]):PE X (.Call (.Name "len" p') [.Call (.Name "set" p) [a] [] pos] [] pos') (tLS X.K ta):=by
 intro pins s σ H Q I h;refine wpAny_Call_Name_kw (Ys I hgl hml Bt.len (PyProof.Rows.callWith_builtin1 ?_ hs' rfl));rw[hs'];show wpAny _ _ (spliced ((false,eval _ X.env)::backTo pos' [])) _ _ s;refine Calls.spliced_cons ?_;refine wpAny_Call_Name_kw (Ys I hg hm zse (PyProof.Rows.callWith_type1 (thn (ha pos pins s σ H _ I h) λus s1 ⟨vs,H1,I1,r1,q1⟩=>?_) hs rfl));obtain⟨r,ys,ss,rfl,sq,hss,hz,q⟩:=q1;cases r1 with
 |cons rr rs=>
  cases rs;cases rr;obtain⟨its,rv,pl,_⟩:=I1.list sq;have hS:=hss its rv;have hl:=zfF hS;refine call_set_list (ns:=ss) (I1.ok.hd hc) pl.isList (by simpa using hS) (by simp only[zzF];unfold scanBound;omega) λh' tk hSet hk=>?_;refine Calls.spliced_nil ?_;obtain⟨o,es,ep,t,ho,hex,hd,_,_,hb,hf,hn⟩:=hSet;refine call_len_set ho hex hd hf (by unfold scanBound at hb;omega) ?_;have e:es.size=zbP ss:=by
   rw[hn,zzF,hl];unfold PyProof.Rows.firstMet zbP;rw[zoy]
  refine⟨.int (zbP ss),H1,I1.kept λb u e=>hk b u (zxH e) e,⟨_,by rw[e]⟩,q⟩
def lsP:List D->Option R0:=on1 λx=>(asL x).bind λds=>(Zt ds).bind λss=>if ss.length<=1000 then some (.im (.int (zbP ss)))else none
def zlk(hc:X.calm=true)(hg:Gl X "set")(hm:X.mg "set"=none)(hgl:Gl X "len")(hml:X.mg "len"=none)(ha:AA X kd [a] fr)(hs:starEach [a] X.env=[(false,eval a X.env)])
 (hs':starEach [.Call (.Name "set" p) [a] [] pos] X.env=[(false,eval (.Call (.Name "set" p) [a] [] pos) X.env)]):AE X kd (.Call (.Name "len" p') [.Call (.Name "set" p) [a] [] pos] [] pos') (fP fr lsP):=by
 with_unfolding_all exact(yV (zlI hc hg hm hgl hml ha hs hs') λσ H Q h=>by
  obtain⟨F,B,ad,as,r,as',R,e,q⟩:=h;obtain⟨⟨rs,as1⟩,h1,e⟩:=bS_ (show(fr as).bind _=_ from e);obtain⟨⟨ds,lv⟩,h2,e⟩:=bS_ e;obtain⟨r0,h3,e⟩:=bS_ e;obtain⟨z,h4,e⟩:=bS_ e;cases e;refine(show alA X.K kd fr σ H _ from⟨F,B,ad,as,rs,as1,R,h1,λvs ad1 H1 R1 rv1 g1=>?_⟩);have vl:=WR R1 rv1 h2;have rq:=vM R1 h4 (Q:=Q) λw T' H' R' rv' g'=>q w T' ad1 H' R' rv' (g1.trans g');obtain⟨x,d,rfl,vx,he⟩:=zbm vl h3;obtain⟨ds',h0,he2⟩:=bS_ (show(asL d).bind _=_ from he);cases zad h0;obtain⟨ss,k1,he3⟩:=bS_ he2;obtain⟨hz,he4⟩:=zQ he3;cases he4;cases vx with
  |lst hr rl=>exact⟨_,_,ss,rfl,hr.sq,λus hv=>ints_of rl hv k1,hz,yu rq (.int _)⟩)
end
def zuu:EF:=λas=>some (.ow (.nd (.dt []) []),as)
section
variable{X:Cx}{kd:KD}{n:Nat}
def zrJ:AE X kd (.Dict [] [] pos) zuu:=by with_unfolding_all exact(yV znQ λσ H Q h=>by
 obtain⟨F,B,ad,as,r,as',R,e,q⟩:=h;cases e;intro p hp;have k:∀b o,H b=some o->upd H p (.dT []) b=some o:=λb o hb=>by rw[zH (yf hb hp)];exact hb
 obtain⟨R2,g2⟩:=R.news (T':=[p]) (by simp) (λa m=>by rw[zzP.mp m];exact hp) k (λa m=>by rw[zzP.mp m,zT];simp);exact q _ [p] ad _ R2 (.dt (ks:=[]) (vs:=[]) zT rfl .nil) g2)
end
structure Co(x:Str)(P:Program)(w:World)(K:zC)(mg:Str->Option Value)(base:Heap)(kd:KD)(k:Nat)(f:Addr)(d:FuncData)(ps:List Str)(gg:List (Bool×D)->Option O):Prop where
 F:FnOk P w K mg base CX0 k f d ps (spD K kd gg)
 m:mg x=some (.ref f)
 kp:PySem.W.keepIn K (.ref f)=true
 b:Binds K d ps []
def nmC:List Str->List Str->List (Option Nat)->List Str
 |t::ts,XN,none::c=>t::nmC ts XN c
 | [],XN,none::c=>""::nmC [] XN c
 |ts,XN,some j::c=>XN.getD j ""::nmC ts XN c
 |_,_,[]=>[]
def zuT:Expr->Str
 | .Name x _=>x
 |_=>""
def tgN:Expr->List Str
 | .Tuple es _ _=>es.map zuT
 |e=>[zuT e]
def noJ:Nat->List (Option Nat)->List Nat
 |_,[]=>[]
 |k,none::c=>k::noJ (k+1) c
 |k,some _::c=>noJ (k+1) c
theorem ziR:∀(c d:List (Option Nat)) (i:Nat),i ∈ noJ d.length c->(d++c)[i]? = some none
 | [],_,_,h=>nomatch h
 |none::c,d,i,h=>by
  have ih:=ziR c (d++[none]) i;rw[zzH,zxB]at ih
  rcases zzA.mp (show i ∈ d.length::noJ (d.length+1) c from h)with rfl|h
  · simp
  · exact ih h
 |some x::c,d,i,h=>by
  have ih:=ziR c (d++[some x]) i;rw[zzH,zxB]at ih;exact ih h
def zot:(noJ 0 cap).all (λi=>cap[i]? == some none)=true:=List.all_eq_true.mpr λi m=>by
 have:=ziR cap [] i m;rw[List.nil_append]at this;rw[this];rfl
def ndk{N:List Str}(h:decide N.Nodup=true):N.Nodup:=of_decide_eq_true h
section
variable{X:Cx}{kd:KD}{elt tg iter e:Expr}{es ifs:List Expr}{scope:Scope}{pos p:Pos}{cap:List (Option Nat)}{g:GF}{tt:TF}{fe:EF}{fi:IF}{S:List Nat}{fr:AF}{k n:Nat}
def cq(C:Co x X.prog X.w X.K X.mg X.base kd k f d ps gg)(hr:Room n X.A)(ha:AA X kd (e::es) fr)(hn:k<=n:=by omega)(hg:Gl X x:=by rfl)(hdb:(x==("__debug__":Str))=false:=by decide)(he:starEach (e::es) X.env=(false,eval e X.env)::starEach es X.env:=by rfl)(hpl:(backTo pos (starEach es X.env)).any (·.1)=false:=by rfl):
 AE X kd (.Call (.Name x p) (e::es) [] pos) (zM fr gg):=zql C.F (hr.mono hn) hg C.m C.kp C.b zua ha hdb he hpl
def agc(h1:AG X kd a [i] g)(h2:AGs X kd es S gs)(hs:(assignEach (a::es) X.env).map (·.2)=assign a X.env::(assignEach es X.env).map (·.2):=by rfl):AGs X kd (a::es) (i::S) (gsC g gs):=wG h1 h2 hs
def AGe(X:Cx)(kd:KD)(tg:Expr)(g:GF):Prop:=∃S,AG X kd tg S g
def znV(X:Cx)(kd:KD)(es:List Expr)(gs:GFs):Prop:=∃S,AGs X kd es S gs
def zuX(i:Nat)(hN:X.N.Nodup)(hi:X.N[i]? = some x:=by rfl)(hx:Loc X.env.scope x:=by first|exact Or.inl rfl|exact Or.inr rfl)(hf:X.fn x=true\/X.env.scope.names.lookup x=some .local:=by first|exact Or.inl rfl|exact Or.inr rfl):AGe X kd (.Name x pos) (gN i):=⟨_,zka hN hi hx hf⟩
def get_(h:znV X kd es gs)(hc:X.calm=true:=by rfl)(hn:(assignEach es X.env).length=m:=by rfl)(hst:(assignEach es X.env).findIdx? (·.1)=none:=by rfl):AGe X kd (.Tuple es j pos) (gT m gs):=h.elim λ_ h=>⟨_,zes hc h hn hst⟩
def zvv(h1:AGe X kd a g)(h2:znV X kd es gs)(hs:(assignEach (a::es) X.env).map (·.2)=assign a X.env::(assignEach es X.env).map (·.2):=by rfl):znV X kd (a::es) (gsC g gs):=h1.elim λ_ h1=>h2.elim λ_ h2=>⟨_,wG h1 h2 hs⟩
def zvk:znV X kd [] gsN:=⟨_,zaW⟩
def fo_(hi:AI X kd tg iter fi)(hg:AGe X kd tg g)(hb:ASs X kd body f)(hp:PassesOwn (model X.prog X.w) X.A X.env X.xe:=by exact PassesOwn.never)(hc:X.calm=true:=by rfl)(hs:∀x,foldedSetIterable iter X.env x=pure x:=by exact λ_=>rfl):ASt X kd (.For tg iter body [] pos) (xO fi g f):=hg.elim λ_ hg=>zgf hp hc hi hg hb hs
def zvI(he:AE X kd e fe)(hg:AGe X kd tg g)(hs:swapsWithSole [tg] e pos.line X.env=pure false:=by rfl)(hw:swappedStores [tg] e X.env=pure none:=by rfl)(h1:(assignEach [tg] X.env).map (·.2)=[assign tg X.env]:=by rfl):ASt X kd (.Assign [tg] e pos) (Vh fe g):=hg.elim λ_ hg=>zjl he hg hs hw h1
theorem cm(hi:AIc X kd tg iter fi)(hg:∀cl s H fp,AG (xr X (nmC (tgN tg) X.N cap) scope cl s H fp) kd tg (noJ 0 cap) g)(ht:∀cl s H fp,PTs (xr X (nmC (tgN tg) X.N cap) scope cl s H fp) ifs (alT X.K kd tt))(he:∀cl s H fp,AE (xr X (nmC (tgN tg) X.N cap) scope cl s H fp) kd elt fe)
 (hc:X.calm=true:=by rfl) (hk:scope.kind = .function:=by rfl) (hcap:Vs (nmC (tgN tg) X.N cap) X.N scope.names X.env.scope.names cap=true:=by kernel_rfl) (hs:∀x,foldedSetIterable iter X.env x=pure x:=by exact λ_=>rfl):AE X kd (.ListComp elt [⟨tg,iter,ifs,0⟩] scope pos) (zB fi cap g tt fe):=zle hc hi hk hcap zot hg ht he hs
theorem cs_(hN:X.N.Nodup)(hi:AIc X kd tg iter fi)(hg:∀cl s H fp,AG (xr X (nmC (tgN tg) X.N cap) scope cl s H fp) kd tg (noJ 0 cap) g)(ht:∀cl s H fp,PTs (xr X (nmC (tgN tg) X.N cap) scope cl s H fp) ifs (alT X.K kd tt))(he:∀cl s H fp,AE (xr X (nmC (tgN tg) X.N cap) scope cl s H fp) kd elt fe)
 (hiy:X.N[i]? = some y:=by rfl) (hy:Loc X.env.scope y:=by first|exact Or.inl rfl|exact Or.inr rfl) (hf:X.fn y=true\/X.env.scope.names.lookup y=some .local:=by first|exact Or.inl rfl|exact Or.inr rfl) (hsw:swapsWith (.ListComp elt [⟨tg,iter,ifs,0⟩] scope pos) (some (.Name y py)) spos.line X.env=pure true:=by rfl)
 (hc:X.calm=true:=by rfl) (hk:scope.kind = .function:=by rfl) (hcap:Vs (nmC (tgN tg) X.N cap) X.N scope.names X.env.scope.names cap=true:=by kernel_rfl) (hs:∀x,foldedSetIterable iter X.env x=pure x:=by exact λ_=>rfl):ASt X kd (.Assign [.Name y py] (.ListComp elt [⟨tg,iter,ifs,0⟩] scope pos) spos) (zL z i (zB fi cap g tt fe)):=zhm hN hiy hy hf hsw hc hi hk hcap zot hg ht he hs
end
abbrev bmV:List Value:=[.type "ValueError",.type "Exception",.type "BaseException",.type "object"]
structure XC(K:zC)(C S f:Addr)(an:Str):Prop where
 cls:∃N nm q bs sn sub ab col dd k0 k1 k2 k3 k5,K.lookup C=some (excClassObj nm q C N bs (.ref S::bmV) true sn sub ab col dd k0 k1 k2 k3 k5 "ValueError.__new__")
 tl:PySem.W.tailIn K bmV (.ref S::bmV)=true
 ini:PySem.W.findIn K (.ref C) "__init__"=some (some (.ref f))
 ity:PySem.W.typeIn K (.ref f)=some (.type "function")
 sat:PySem.W.findIn K (.ref C) "__setattr__"=some (some (.builtin "object.__setattr__"))
 att:PySem.W.findIn K (.ref C) an=some none
section
variable{prog:Program}{w:World}{A:Around}{E:Value->Shared->Prop}{h:Heap}{g:Array GenState}{d:Drawn}{t:Nat}{os:OsState}{K:zC}{C S f:Addr}{an:Str}{rest:List Value}
def zhS(h:Heap)(C:Addr)(rest:List Value):Heap:=(h.push {cls:=.type "tuple",data:=.seq rest.toArray}).push {cls:=.ref C,data:=.fields #[.ref h.objs.size,.none,.none,.none,.bool false,.none]}
def zbD:∀b o,h.get? b=some o->(zhS h C rest).get? b=some o:=λb o e=>zxG _ (zxG _ e)
def zhb:(zhS h C rest).get? (h.objs.size+1)=some {cls:=.ref C,data:=.fields #[.ref h.objs.size,.none,.none,.none,.bool false,.none]}:=by unfold zhS;heap_get
def zju(X:XC K C S f an)(hK:K.In h)(hrest:rest.length<=sizeLine)
 (hq:wpAny (model prog w) A (call (.ref f) (.ref (h.objs.size+1)::rest)) (λr s'=>r = .none/\Q (.done (.ret (.ref (h.objs.size+1)))) s') E ⟨zhS h C rest,g,d,t,os⟩):
 wpAny (model prog w) A (Builtin.«type.__call__» ⟨.ref C::rest,[]⟩) Q E ⟨h,g,d,t,os⟩:=by
 obtain⟨N,nm,q,bs,sn,sub,ab,col,dd,k0,k1,k2,k3,k5,lk⟩:=X.cls;have hC:=hK _ _ lk;have T:OwnTail h bmV (.ref S::bmV):=PySem.W.tail_of_in hK X.tl;have F:=PySem.F.excBase_ValueError
 repeat (first|with_reducible refine wpAny_loadPart_at hC ?_|with_reducible refine wpAny_madeBy_exc hC ?_|wp_step)
 refine codeAny_call_builtin_code (Code.quiet_builtin _ F.quiet) (wpAny_check_new_subT F T hC ?_);refine codeAny_exc_new_subT F T hC ?_ hrest;show wpAny _ _ _ _ _ _;have hC₁:=zbD (C:=C) (rest:=rest) _ _ hC;have hget:=zhb (h:=h) (C:=C) (rest:=rest);have hK1:K.In (zhS h C rest):=hK.keeps λb o e=>zbD b o e;unfold zhS at hC₁ hget hK1;have hcC:(Value.ref C :: .ref S::bmV).contains (.ref C)=true:=by simp
 unfold isInstance
 repeat (first|with_reducible refine wpAny_loadPart_at hget ?_|(with_reducible refine wpAny_isSubtype_exc hC₁ ?_;rw[hcC])|wp_step)
 show wpAny _ _ (typeLookup (.ref C) _) _ _ _;refine(PySem.W.looks_findIn hK1 X.ini).here ?_;refine zxK (zxE ?_);unfold bindSpecial;refine zxE ((PySem.W.looks_typeIn hK1 X.ity).here ?_);rw[if_pos (by decide)];refine zxF (zxE (zxO hq (λr s' hr=>?_) λ_ _ x=>x));obtain⟨rfl,hQ⟩:=hr
 wp_walk
 exact hQ
def zul(X:XC K C S f an)(hK:K.In h)(hrest:rest.length<=sizeLine)
 (hq:wpAny (model prog w) (A.under (.builtin "type.__call__" ⟨.ref C::rest,[]⟩)) (call (.ref f) (.ref (h.objs.size+1)::rest)) (λr s'=>r = .none/\Q (.ref (h.objs.size+1)) s') E ⟨zhS h C rest,g,d,t,os⟩):
 wpAny (model prog w) A (call (.ref C) rest) Q E ⟨h,g,d,t,os⟩:=by
 obtain⟨N,nm,q,bs,sn,sub,ab,col,dd,k0,k1,k2,k3,k5,lk⟩:=X.cls;have hC:=hK _ _ lk;have f1:=tc_lookup;have f2:=tc_bind (.ref C);have hT:(⟨h,g,d,t,os⟩:Shared).TypeIs (.ref C) "type":=⟨_,hC,rfl⟩;refine wpAny_call (codeAny_of_tree ?_);show wpAny _ _ (callAny (.ref C) _) _ _ _
 repeat (any_goals (first|assumption|with_reducible refine wpAny_loadPart_at hC ?_|wp_step))
 refine⟨rfl, ?_⟩;refine codeAny_call_builtin_at (Code.quiet_builtin _ (by decide +kernel)) entry_typeCall (wpAny_check_type_call_sub hC (zju X hK hrest hq))
end
def XO(e C:Addr):Heap->Prop:=λh=>∃t,h.get? e=some {cls:=.ref C,data:=.fields #[.ref t,.none,.none,.none,.bool false,.none]}
def znd(h:H a=some o):upd H a o=H:=by
 funext b
 by_cases e:b=a
 · subst e;rw[zT,h]
 · rw[zH e]
def zqS:∀h1 h2:Heap,XO e C h1->(∀o,h1.get? e=some o->h2.get? e=some o)->XO e C h2:=λ_ _ ⟨t,q⟩ k=>⟨t,k _ q⟩
structure XS(K:zC)(S:Addr):Prop where
 ga:PySem.W.specialIn K (.ref S) "__getattribute__"=some (some (.builtin "type.__getattribute__"))
 rd:PySem.W.readsIn K S (.type "type")=true
 fi:PySem.W.findCls K (.ref S) (.type "type") "__init__"=some (.val (.builtin "ValueError.__init__"))
section
variable{X:Cx}{pins:List (Addr×Obj)}{σ:St}{H:Hp}{s:Shared}{e C S f:Addr}{an:Str}{A:Around}{E:Value->Shared->Prop}
def zlN(Y:XC X.K C S f an)(I:Inv X pins σ H s)(he:H e=some (.ext (XO e C)))(hq:∀s',Inv X pins σ H s'->Q .none s'):
 wpAny (model X.prog X.w) A (call (.builtin "ValueError.__init__") [.ref e,u]) Q E s:=by
 obtain⟨N,nm,q,bs,sn,sub,ab,col,dd,k0,k1,k2,k3,k5,lk⟩:=Y.cls;have hC:=I.kIn _ _ lk;have T:OwnTail s.heap bmV (.ref S::bmV):=PySem.W.tail_of_in I.kIn Y.tl;have F:=PySem.F.excBase_ValueError;obtain⟨⟨t,hget⟩,_,_⟩:=I.hok e _ he;have hlt:=zxH hget;obtain⟨h,g,d,tk,os⟩:=s;refine wpAny_call (codeAny_call_builtin F.init.plain F.initEntry (wpAny_check_init_subT F T hC hget rfl ?_))
 wp_walk
 refine hq _ ?_;have hg2:=zxG (h:=h) {cls:=.type "tuple",data:=.seq [u].toArray} hget;have W:=I.write (x:=e) (e:=e) (o:=.ext (XO e C)) (t':=tk) (h':=(h.push {cls:=.type "tuple",data:=.seq [u].toArray}).update e (Obj.mapFields (·.setIfInBounds 0 (.ref h.objs.size))))
  (by rw[he];exact True.intro) (.inl rfl) (λb o hb z=>(zxL _ _ (Ne.symm hb)).trans (zxG _ z)) ⟨_,zxN _ hg2 rfl⟩
  ⟨⟨_,zxN _ hg2 rfl⟩,⟨_,zxN _ hg2 rfl⟩,zqS⟩
 rw[znd he]at W;exact W
def zni(Y:XC X.K C S f an)(Z:XS X.K S)(hg:Gl X x)(hm:X.mg x=some (.ref S))(ha:PA X (a::es) t)
 (hst:starEach (a::es) X.env=(false,eval a X.env)::starEach es X.env) (hpl:(backTo pos (starEach es X.env)).any (·.1)=false) (hdb:(x==("__debug__":Str))=false)
 (ht:eval (.Call (.Attribute (.Name x p) "__init__" apos) (a::es) [] pos) X.env=(do
  let ov <-eval (.Name x p) X.env
  standAt apos.atName
  let(f,first) <-holding [ov] (getMethod ov "__init__" pl)
  callWith pos f first (backTo pos (starEach (a::es) X.env)) (backToKw pos (keywordEach [] X.env)))):
 PE X (.Call (.Attribute (.Name x p) "__init__" apos) (a::es) [] pos) (λσ H Q=>t σ H λvs H1=>∃e y,vs=[.ref e,.str y]/\H1 e=some (.ext (XO e C))/\Q .non H1):=by
 intro pins s σ H Q I h;refine PySem.W.methodCall_KW (pl:=pl) (W9 I hg hm ?_ hdb) ht;refine PySem.W.method_cls I.kIn Z.ga (PySem.W.cls_value I.kIn Z.rd Z.fi rfl ?_);have I1:=I.tok (s.toks+1);refine PyProof.Rows.callWith_builtin1 (thn (ha pos pins _ σ H _ I1 h) λus s1 ⟨vs,H1,I2,r,e,y,ev,he,q⟩=>?_) hst hpl;subst ev;cases r with
 |cons r1 r2=>
  cases r2 with
  |cons r2 r3=>
   cases r3;cases(show _=Value.ref e from r1);exact zlN Y I2 he λs' I'=>⟨.non,H1,I',rfl,q⟩
def pOk:D->Bool
 | .str x=>x.cps.toList.all (λc=>decide (c<16 ^ 8))&&decide (x.length<=100)
 | .int i=>decide (i.natAbs.log2<1920)
 |_=>false
def Z2:D->Bool
 | .tup ds=>decide (ds.length<=10)&&ds.all pOk
 |_=>false
theorem zky:∀ds:List D,ds.all pOk=true->∃ps,zgn ds=some ps/\PyData.showableAll ps=true/\PyData.hasDictAll ps=false/\PyData.depthAll ps=0/\(PyData.shownAll ps).length=ds.length/\((PyData.shownAll ps).map (·.length)).sum<=2000*ds.length
 | [],_=>⟨[],by unfold zgn;rfl,by simp[PyData.showableAll],by simp[PyData.hasDictAll],by simp[PyData.depthAll],by simp[PyData.shownAll],by simp[PyData.shownAll]⟩
 |d::r,h=>by
  rw[List.all_cons,zyA]at h;obtain⟨ps,h1,h2,h3,h4,h5,h6⟩:=zky r h.2;have one:∃p,pyD d=some p/\p.showable=true/\p.hasDict=false/\p.depth=0/\p.shown.length<=2000:=by
   cases d with
   |str x=>
    have h:(x.cps.toList.all (λc=>decide (c<16 ^ 8))&&decide (x.length<=100))=true:=h.1;rw[zyA,List.all_eq_true,decide_eq_true_eq]at h;refine⟨.str x,by unfold pyD;rfl,by simp[PyData.showable],by simp[PyData.hasDict],by simp[PyData.depth], ?_⟩;have:=PySem.StrLaws.reprText_len x λc m=>of_decide_eq_true (h.1 c m);have:=h.2;simp only[PyData.shown];omega
   |int i=>
    have h:decide (i.natAbs.log2<1920)=true:=h.1;refine⟨.int i,by unfold pyD;rfl,by simpa[PyData.showable]using h,by simp[PyData.hasDict],by simp[PyData.depth], ?_⟩;have:=int_text_length_le (k:=1920) (by decide) (of_decide_eq_true h);simp only[PyData.shown];rw[PySem.ofString_length];omega
   |_=>exact absurd h.1 (by simp[pOk])
  obtain⟨p,q1,q2,q3,q4,q5⟩:=one;refine⟨p::ps,by unfold zgn;rw[q1,h1];rfl,by simp[PyData.showableAll,q2,h2],by simp[PyData.hasDictAll,q3,h3],by simp[PyData.depthAll,q4,h4],by simp[PyData.shownAll,h5], ?_⟩;simp only[PyData.shownAll,zyQ,List.sum_cons,zzR];omega
def zmK(h:Z2 d=true):∃ds p,d = .tup ds/\pyD d=some p/\p.showable=true/\p.hasDict=false/\p.depth<=60/\p.shown.length<=100000:=by
 cases d with
 |tup ds=>
  have h:(decide (ds.length<=10)&&ds.all pOk)=true:=h;rw[zyA,decide_eq_true_eq]at h;obtain⟨ps,h1,h2,h3,h4,h5,h6⟩:=zky ds h.2;refine⟨ds,.tuple ps,rfl,by unfold pyD;rw[h1];rfl,by simpa[PyData.showable]using h2,by simpa[PyData.hasDict]using h3,by simp[PyData.depth,h4], ?_⟩;have:=tupleText_len_le (PyData.shownAll ps);have:=h.1;simp only[PyData.shown];omega
 |_=>cases h
def zqH{x:Str}{e:Expr}{j:Nat}{p p1 p2:Pos}{te:TE}(he:PE X e te)(hx:x.length<=1000)(hg:X.A.guards=some [])(hu:X.A.units+100<cLine):
 PE X (.JoinedStr [.Constant (.str x) j p1,.FormattedValue e 114 none p2] p) (λσ H Q=>te σ H λv H1=>∃kd O d,Rp X.K kd O H1 v d/\Z2 d=true/\∀y,Q (.str y) H1):=by
 intro pins s σ H Q I h;refine wpAny_JoinedStr ?_;refine thn (zmE pins s σ H (λv H'=>v = .str x/\H'=H) I ⟨rfl,rfl⟩) λu s1 ⟨v,H1,I1,r1,ev,eH⟩=>?_;subst ev;subst eH;obtain⟨tk,rfl⟩:=(show ∃t,u=Value.str x t from r1);have hx0:(Str.empty++x).length<=1000:=by rw[strLen_append];show 0+x.length<=1000;omega
 refine⟨x,tk,rfl,zzM hx0 (by rw[sizeLine_eq];omega), ?_⟩;refine wpAny_FormattedValue_repr (thn (he pins s1 σ H1 _ I1 h) λu s2 ⟨v,H2,I2,r2,kd,O,d,rp,hd,q⟩=>?_);obtain⟨ds,pd,rfl,e1,e2,e3,e4,e5⟩:=zmK hd;obtain⟨as,rd⟩:=ziH I2 rp r2 e1;have hv:∃a,u=Value.ref a:=by
  cases rp with
  |tup _ _ _=>cases r2;exact⟨_,rfl⟩
 obtain⟨a,rfl⟩:=hv;refine pyReprObj_of_reads rd e2 (PyData.noDict_hsm e3) hg (by omega) (λ_ _ e=>e) (λh' u' tk' hk=>?_) (zzM e5 (by rw[sizeLine_eq];omega));have I3:Inv X pins σ H2 {s2 with heap:=h',toks:=tk'}:=I2.kept hk;have hz:((Str.empty++x)++pd.shown).length<=sizeLine:=by rw[strLen_append,sizeLine_eq];omega
 exact PyProof.Rows.formatField_str (λt' tk3=>⟨_,t',rfl,hz,hz,.str _,H2,(I3.tok _).tok _,⟨_,rfl⟩,q _⟩) (zzM e5 (by rw[sizeLine_eq];omega))
def XA(e C dx:Addr):Heap->Prop:=λh=>∃t,h.get? e=some {cls:=.ref C,dict:=some dx,data:=.fields #[.ref t,.none,.none,.none,.bool false,.none]}
def ztP:∀h1 h2:Heap,XA e C dx h1->(∀o,h1.get? e=some o->h2.get? e=some o)->XA e C dx h2:=λ_ _ ⟨t,q⟩ k=>⟨t,k _ q⟩
def zoE(Y:XC X.K C S f an)(I:Inv X pins σ H s)(he:H e=some (.ext (XO e C)))(rv:RelV v u)
 (hq:∀dx s',H dx=none->dx≠e->Inv X pins σ (upd (upd H e (.ext (XA e C dx))) dx (.xd [(an,v)])) s'->Q () s'):
 wpAny (model X.prog X.w) A (setAttr (.ref e) an u) Q E s:=by
 obtain⟨N,nm,q,bs,sn,sub,ab,col,dd,k0,k1,k2,k3,k5,lk⟩:=Y.cls;obtain⟨⟨t,hget⟩,_,_⟩:=I.hok e _ he;have SF:=PySem.F.store_ValueError;obtain⟨h,g,d,tk,os⟩:=s;have hK:=I.kIn;dsimp only at hget hK;have J:PySem.W.InstAt h e {cls:=.ref C,data:=.fields #[.ref t,.none,.none,.none,.bool false,.none]} C none:=⟨hget,rfl,rfl,True.intro⟩;refine PySem.W.set_plain I.kIn J Y.sat ?_;have hc:PySem.W.clsIn X.K C=some {name:=nm,bases:=bs,mro:=.ref C :: .ref S::bmV,ns:=N,qualname:=q,hasDict:=true,slotNames:=sn,subclasses:=sub,abstract:=ab,collection:=col,hasDel:=false}:=by
  unfold PySem.W.clsIn;rw[lk]
 have L0:=J.type (M:=model X.prog X.w);have sb:PySem.W.Looks (model X.prog X.w) h (isInstance (.ref e) (.type "object")) true:=L0.andThen (PySem.W.looks_mroIn hK (by unfold PySem.W.mroIn;rw[hc];rfl));refine codeAny_call_builtin SF.slot.plain SF.entry (@PySem.W.check_slot (model X.prog X.w) _ _ ⟨h,g,d,tk+1,os⟩ "object.__setattr__" "object" "__setattr__" (.ref e) [.str an tk,u] [] _ SF.kind SF.split sb (SF.args (.ref e) (.str an tk) u) ?_);have hm:PySem.W.Looks (model X.prog X.w) h (mroOf (.ref C)) (.ref C :: .ref S::bmV):=(PySem.W.looks_clsIn hK hc).andThen .now;rw[PySem.W.osa_eq,refuse_eq];refine zxE (zxE (L0.at (zxE (hm.at ?_))));rw[refuseLoop_ref,refuseLoop_ref,SF.passes];refine zxF (zxE (L0.at (zxE ((PySem.W.looks_findIn hK Y.att).at (zxE (zxF ?_))))));have hxs:e≠h.objs.size:=zzO (zxH hget);have hx1:(h.push {cls:=.type "dict",data:=.dict #[]}).get? e=some _:=zxG _ hget;refine zxE (zxF (zxE (zxE (wpAny_loadPart hget (zxE ((PySem.W.looks_clsIn hK hc).at ?_))))));refine zxE (wpAny_alloc' ?_);refine zxE (wpAny_update' hx1 ?_);refine zxF ?_;have hgd:((h.push {cls:=.type "dict",data:=.dict #[]}).update e λo=>{cls:=o.cls,dict:=some h.objs.size,data:=o.data,slots:=o.slots}).get? h.objs.size=some {cls:=.type "dict",data:=.dict #[]}:=
  (Heap.get?_update_ne _ _ _ _ hxs.symm).trans (Heap.get?_push_at rfl rfl)
 have hnd:((h.push {cls:=.type "dict",data:=.dict #[]}).update e λo=>{cls:=o.cls,dict:=some h.objs.size,data:=o.data,slots:=o.slots}).Ns h.objs.size (λ_=>none):=
  ⟨_,#[],_,hgd,rfl,λe he=>absurd he (by simp),λ_=>rfl⟩
 show wpAny _ _ (Builtin.ObjectAttr.storeInDict h.objs.size (.str an tk) an u) _ _ _;unfold Builtin.ObjectAttr.storeInDict Builtin.ObjectAttr.newKeyGuard;refine zxE (zxF (zxE (wpAny_nsSet1 (Heap.Ns1.of_empty hnd) λh' hn' hs=>?_)));obtain⟨oD,esD,epD,hoD,hdD,hcD⟩:=hn'.count (Within.cons an u Within.nil);refine zxE (wpAny_lookBehind hoD (by rw[hdD];exact pastItsLine_dict (zzM hcD (by rw[zzR,List.length_nil,sizeLine_eq];omega))) ?_);refine zxF ?_;have Wr:=I.write (x:=e) (e:=e) (o:=.ext (XA e C h.objs.size)) (t':=tk) (h':=h.update e λo=>{cls:=o.cls,dict:=some h.objs.size,data:=o.data,slots:=o.slots})
  (by rw[he];exact True.intro) (.inl rfl) (λb o hb z=>(zxL _ _ (Ne.symm hb)).trans z) ⟨_,zxN _ hget rfl⟩
  ⟨⟨_,zxN _ hget rfl⟩,⟨_,zxN _ hget rfl⟩,ztP⟩
 have hsz:(h.update e λo=>{cls:=o.cls,dict:=some h.objs.size,data:=o.data,slots:=o.slots}).objs.size=h.objs.size:=Heap.size_update _ _ _;have hfree:H h.objs.size=none:=I.hok.fresh (zzL _);refine hq h.objs.size _ hfree (Ne.symm hxs) ?_;refine Wr.laid (a:=h.objs.size) (h':=h') (t':=_) (λb o z=>?_) (by dsimp only;rw[hsz];exact zzL _) ⟨_,hn',λy=>?_⟩
 · have hb:b≠h.objs.size:=by
    intro z';have:=zxH z;dsimp only at this;rw[hsz,z']at this;exact absurd this (Nat.lt_irrefl _)
   refine(hs.2 b hb).trans ?_;dsimp only at z
   by_cases hbe:b=e
   · subst hbe;rw[zxN _ hget rfl]at z;rw[zxN _ hx1 rfl];exact z
   · rw[zxL _ _ (Ne.symm hbe)]at z;rw[zxL _ _ (Ne.symm hbe)];exact zxG _ z
 · by_cases hy:y=an
   · subst hy;simpa[List.lookup,WK]using rv
   · have:(y==(an:Str))=false:=by simpa using hy
     simp[List.lookup,this,hy,WK]
def zrS(Y:XC X.K C S f an)(ho:PE X o to)(hv:PE X value tv)(hs:swapsWith value (some (.Attribute o an pos')) pos.line X.env=pure false):
 PS X (.Assign [.Attribute o an pos'] value pos) (λD σ H=>tv σ H λv H1=>to σ H1 λx H2=>∃e,x = .ref e/\H2 e=some (.ext (XO e C))/\∀dx,H2 dx=none->dx≠e->D.nx σ (upd (upd H2 e (.ext (XA e C dx))) dx (.xd [(an,v)]))):=by
 intro pins s σ H D I h;refine plainObj_wpAny_Assign_Attribute (thn (hv pins s σ H _ I h) λu s1 ⟨v,H1,I1,rv,q⟩=>thn (ho pins s1 σ H1 _ I1 q) λov s2 ⟨x,H2,I2,rx,e,ex,he,q2⟩=>?_) hs;subst ex;cases(show ov=Value.ref e from rx);exact zoE Y I2 he rv λdx s' hd hn I'=>⟨σ,_,I',q2 dx hd hn⟩
end
def spN(K:zC)(C:Addr)(an:Str):Sp:=λvs H Q _=>∃e v,vs=[.ref e,v]/\H e=some (.ext (XO e C))/\(∃kd O d,Rp K kd O H v d/\Z2 d=true)/\∀dx,H dx=none->dx≠e->Q .non (upd (upd H e (.ext (XA e C dx))) dx (.xd [(an,v)]))
def zpF{K:zC}{C:Addr}{an:Str}:∀vs H Q E,spN K C an vs H Q E->vs.length=([("self":Str),an]:List Str).length:=λvs H Q E ⟨e,k,h,_⟩=>by rw[h];rfl
abbrev HX(an:Str)(H:Hp)(e C dx:Addr)(v:V):Hp:=upd (upd H e (.ext (XA e C dx))) dx (.xd [(an,v)])
def zoZ{K:zC}{kd:KD}{O:Addr->Prop}{H H':Hp}{v:V}{d:D}(k:∀b u,H b=some u->H' b=some u)(h:Rp K kd O H v d):Rp K kd O H' v d:=
 (Rp.grow (F:=O) (W:=λ_=>False) (W':=λ_=>False) ⟨λb u z _=>k b u z,λ_ z=>z.elim⟩ (h.less λa z=>z.elim id λy=>y.elim)).less λa z=>.inl z
section
variable{X:Cx}{pins:List (Addr×Obj)}{σ:St}{H:Hp}{s:Shared}{e C S f:Addr}{an:Str}{n:Nat}{fd:FuncData}
def zud(Y:XC X.K C S f an)(F:FnOk X.prog X.w X.K X.mg X.base CX0 n f fd ["self",an] (spN X.K C an))(hr:Room (n+1) X.A)(hb:Binds X.K fd ["self",an] [])(I:Inv X pins σ H s){k:V}{u:Value}(ru:RelV k u)(hk:∃kd O d,Rp X.K kd O H k d/\Z2 d=true)
 {Q:Value->Shared->Prop}{E:Value->Shared->Prop}(hq:∀e dx s',H e=none->H dx=none->dx≠e->X.s₀.heap.objs.size<=e->s.heap.get? dx=none->Inv X pins σ (HX an H e C dx k) s'->Q (.ref e) s'):wpAny (model X.prog X.w) X.A (call (.ref C) [u]) Q E s:=by
 obtain⟨h,g,d,t,os⟩:=s;have hsz:=I.sz;refine zul Y I.kIn (by rw[sizeLine_eq];show 1<=16777216;decide) ?_;have I1:Inv X pins σ H ⟨h.push {cls:=.type "tuple",data:=.seq [u].toArray},g,d,t,os⟩:=I.kept (t':=t) λb o z=>zxG _ z;have I2:Inv X pins σ (upd H (h.objs.size+1) (.ext (XO (h.objs.size+1) C))) ⟨zhS h C [u],g,d,t,os⟩:=
  I1.laid (t':=t) (λb o z=>zxG _ z) (by rw[zxM];exact zzL _) ⟨⟨_,zhb⟩,⟨_,zhb⟩,zqS⟩
 have hf:H (h.objs.size+1)=none:=I.hok.fresh (zyV _);have hk2:∃kd O d,Rp X.K kd O (upd H (h.objs.size+1) (.ext (XO (h.objs.size+1) C))) k d/\Z2 d=true:=by
  obtain⟨kd,O,d,z1,z2⟩:=hk;exact⟨kd,O,d,zoZ (λb u z=>by rw[zH (yf z hf)];exact z) z1,z2⟩
 have r2:Vals [V.ref (h.objs.size+1),k] [Value.ref (h.objs.size+1),u]:=.cons rfl (.cons ru .nil);have sp:spN X.K C an [V.ref (h.objs.size+1),k] (upd H (h.objs.size+1) (.ext (XO (h.objs.size+1) C))) (λv H2=>v = .non/\∃dx,H dx=none/\dx≠h.objs.size+1/\H2=HX an H (h.objs.size+1) C dx k) E0:=
  ⟨_,_,rfl,zT,hk2,λdx h1 h2=>⟨rfl,dx,by rw[zH h2]at h1;exact h1,h2,by unfold HX;rw[zqK]⟩⟩
 refine wpAny_call (codeAny_mono (F.run _ X.stack _ _ ⟨[Value.ref (h.objs.size+1),u],[]⟩ [Value.ref (h.objs.size+1),u] _ _ E0 (hr.make C [u] []) (I2.env0.make C [u] []) (hb _ [Value.ref (h.objs.size+1),u] I2.kIn rfl) r2 sp) λr s' hq'=>?_);cases r with
 |error e=>exact False.elim hq'
 |ok fl=>
  cases fl with
  |ret u'=>
   obtain⟨v,H',I3,rv,ev,dx,h1,h2,e3⟩:=I2.after (Q:=λv H2=>v = .non/\∃dx,H dx=none/\dx≠h.objs.size+1/\h.get? dx=none/\H2=HX an H (h.objs.size+1) C dx k) (by
    obtain⟨v,H2,a1,a2,un,a3,a4,a5,dx,a6,a7,a8⟩:=hq';refine⟨v,H2,a1,a2,un,a3,a4,a5,dx,a6,a7, ?_,a8⟩;cases z:h.get? dx with
    |none=>rfl
    |some o=>
     have:=un.free dx o (zbD dx o z) (by rw[zH a7];exact a6) (by simp);rw[a8]at this;unfold HX at this;rw[zT]at this;cases this)
   obtain⟨h3,e3⟩:=e3;subst ev;subst e3;exact⟨rv,hq _ dx s' hf h1 h2 (zzM hsz (zyV _)) h3 I3⟩
  |next=>exact False.elim hq'
  |brk=>exact False.elim hq'
  |cont=>exact False.elim hq'
def zou(Y:XC X.K C S f an)(kp:PySem.W.keepIn X.K (.ref C)=true)(F:FnOk X.prog X.w X.K X.mg X.base CX0 n f fd ["self",an] (spN X.K C an))(hr:Room (n+1) X.A)(hb:Binds X.K fd ["self",an] [])
 (hg:Gl X x) (hm:X.mg x=some (.ref C)) (ha:PE X a te) (hdb:(x==("__debug__":Str))=false) (he:starEach [a] X.env=(false,eval a X.env)::starEach [] X.env) (hex:X.ex=[]):
 PS X (.Raise (some (.Call (.Name x np) [a] [] cpos)) none pos) (λD σ H=>te σ H λk H1=>(∃kd O d,Rp X.K kd O H1 k d/\Z2 d=true)/\
  ∀pins s' e dx,H1 e=none->H1 dx=none->dx≠e->X.s₀.heap.objs.size<=e->X.s₀.heap.get? dx=none->Inv X pins σ (HX an H1 e C dx k) s'->X.xe (.ref e) s'):=by
 intro pins s σ H D I h;rw[arm_exec_Raise];obtain⟨N,nm,q,bs,sn,sub,ab,col,dd,k0,k1,k2,k3,k5,lk⟩:=Y.cls;have hcB:(Value.ref C :: .ref S::bmV).contains (.type "BaseException")=true:=by simp
 have fin:∀(x:Sem Value) (s:Shared),wpAny (model X.prog X.w) X.A x (λv s'=>∃e dx k H1,v = .ref e/\dx≠e/\Inv X pins σ (HX an H1 e C dx k) s'/\X.xe (.ref e) s') X.xe s->
  wpAny (model X.prog X.w) X.A (raiseStmt X.env (some x) none) (SP X pins D) X.xe s:=λx s hx=>by
  unfold raiseStmt;refine zxE (zxO hx (λv s' h1=>?_) λ_ _ z=>z);obtain⟨e,dx,k,H1,rfl,hne,I',hx⟩:=h1;have he:HX an H1 e C dx k e=some (.ext (XA e C dx)):=by unfold HX;rw[zH (Ne.symm hne),zT]
  obtain⟨⟨t,hget⟩,_,_⟩:=I'.hok e _ he;have hC:=I'.kIn _ _ lk;have hh:=hr.hd;obtain⟨hp,g,d,tk,os⟩:=s'
  repeat (first|with_reducible refine wpAny_loadPart_at hget ?_|with_reducible refine wpAny_loadPart_at hC ?_|(with_reducible refine wpAny_isSubtype_exc hC ?_;rw[hcB])|wp_step)
  exact wpAny_raiseNew_none hh hx
 have main:wpAny (model X.prog X.w) X.A (eval (.Call (.Name x np) [a] [] cpos) X.env) (λv s'=>∃e dx k H1,v = .ref e/\dx≠e/\Inv X pins σ (HX an H1 e C dx k) s'/\X.xe (.ref e) s') X.xe s:=by
  refine wpAny_Call_Name_kw (W9 I hg hm ?_ hdb);refine PySem.W.callWith_K (h₀:=X.base) I.ok.mod.kin kp (thn ((yZ ha Yu he) cpos pins s σ H (λvs H1=>match vs with
   | [k]=>(∃kd O d,Rp X.K kd O H1 k d/\Z2 d=true)/\∀pins s' e dx,H1 e=none->H1 dx=none->dx≠e->X.s₀.heap.objs.size<=e->X.s₀.heap.get? dx=none->Inv X pins σ (HX an H1 e C dx k) s'->X.xe (.ref e) s'
   |_=>False) I h) λus s1 ⟨vs,H1,I1,r,z⟩=>⟨I1.kIn, ?_⟩) he rfl
  cases r with
  |nil=>exact z.elim
  |cons r1 r2=>
   cases r2 with
   |nil=>
    obtain⟨hk,q⟩:=z;exact zud Y F hr hb I1 r1 hk λe dx s' h1 h2 h3 h4 h5 I'=>⟨e,dx,_,H1,rfl,h3,I',q pins s' e dx h1 h2 h3 h4 (by
     cases z:X.s₀.heap.get? dx with
     |none=>rfl
     |some o=>
      obtain⟨o',z'⟩:=I1.base.there dx o z (by rw[hex];simp);rw[h5]at z';cases z') I'⟩
   |cons _ _=>exact z.elim
 first
  |exact zxE (wpAny_standAt (fin _ _ (zxE (thn main λv s₁ h₁=>zxE (wpAny_standAt (zxF h₁))))))
  |(simp only[evalOpt,Option.map];exact zxE (wpAny_standAt (fin _ _ (zxE (thn main λv s₁ h₁=>zxE (wpAny_standAt (zxF h₁)))))))
end
structure Mv(fs ch:List Addr)(h h':Heap):Prop where
 keep:∀b o,b ∉ fs->b ∉ ch->h.get? b=some o->h'.get? b=some o
 slot:∀b o,b ∈ fs->b ∉ ch->h.get? b=some o->∃sl,h'.get? b=some {o with slots:=sl}
structure Fly(h:Heap)(e C dx T:Addr):Prop where
 ob:∃oe vs,h.get? e=some oe/\oe.cls = .ref C/\oe.dict=some dx/\oe.data = .fields vs/\vs[1]? = some (.ref T)
 tb:∃oT ts,h.get? T=some oT/\oT.data = .fields ts/\ts[3]? = some .none
 ne:T≠e
section
variable{M:Model}{A:Around}{E:Value->Shared->Prop}{s:Shared}{base:Heap}{env:Env}{outer:List Env}{L e C dx T:Addr}
def zmJ(hfr:A.frames=some (env::outer))(hl:s.heap.FunFrames base (env::outer))(hf:env.frame=some L)
 (he:s.heap.get? e=some oe) (hd:oe.data = .fields vs) (hsz:1<vs.size) (hc:oe.cls = .ref C) (hdx:oe.dict=some dx)
 (h:∀h' T,s.heap.objs.size<=T->Mv (frs (env::outer)) [e] s.heap h'->Fly h' e C dx T->Q () {s with heap:=h'}):
 wpAny M A (do let a <-frameOf env;let pl <-entryPlaceOf L hn;let b <-EntryCells.newEntry head a .none (rawInt L) .none pl;setField (.ref e) 1 b) (λ_ s'=>wpAny M A (setFlight (.ref e) none) Q E s') E s:=by
 have hene:e ∉ (env::outer).filterMap (·.frame):=λhm=>by
  obtain⟨_,o,ho,hnf⟩:=hl.mem hm;rw[he]at ho;injection ho with ho;subst ho;exact hnf vs hd
 refine zxE (wpAny_frameOf_fun hfr hl hf λh1 hs1=>?_);refine zxE (wpAny_entryPlaceOf λpl hpl=>?_);unfold EntryCells.newEntry newFields;refine zxE (zxJ ?_ (hpl.sizeOk5 _ _ _ _ _));generalize hob:({cls:=.type "traceback",dict:=none,data:=.fields ([head,.ref L,.none,rawInt L,.none]++(if pl.isEmpty then List.replicate 6 Value.none else pl)).toArray}:Obj)=ob;have hobd:ob.data = .fields ([head,.ref L,.none,rawInt L,.none]++(if pl.isEmpty then List.replicate 6 Value.none else pl)).toArray:=by rw[<-hob]
 have he1:h1.get? e=some oe:=(hs1.2.1 e hene).trans he;have he2:=zxG (h:=h1) ob he1;refine wpAny_setField he2 hd hsz ?_;have hTe:h1.objs.size≠e:=Nat.ne_of_gt (zxH he1);have hd3:=Obj.data_mapFields hd (·.setIfInBounds 1 (Value.ref h1.objs.size));have he3:=zxN (Obj.mapFields (·.setIfInBounds 1 (Value.ref h1.objs.size))) he2 (Obj.isFreed_of_fields hd3);have hT3:=(zxL (h1.push ob) (Obj.mapFields (·.setIfInBounds 1 (Value.ref h1.objs.size))) (Ne.symm hTe)).trans (zxI h1 (Obj.isFreed_of_fields hobd));unfold setFlight;refine zxE (wpAny_field he3 hd3 (x:=.ref h1.objs.size) (by simp[hsz]) ?_);rw[if_pos (show(Value.ref h1.objs.size != Value.none)=true from by simp)];refine wpAny_setField hT3 hobd (by simp only[zzF,zzH,zzR,List.length_nil]<;>omega) (h _ h1.objs.size (by rw[hs1.1];exact zzL _) ⟨λb o hb1 hb2 hb=>?_,λb o hb1 hb2 hb=>?_⟩ ?_)
 · have hbe:b≠e:=λz=>hb2 (by rw[z];exact zzP.mpr rfl);have hb':h1.get? b=some o:=(hs1.2.1 b hb1).trans hb;rw[zxL _ _ (Nat.ne_of_gt (zxH hb')),zxL _ _ (Ne.symm hbe)];exact zxG _ hb'
 · have hbe:b≠e:=λz=>hb2 (by rw[z];exact zzP.mpr rfl);obtain⟨sl,hb'⟩:=hs1.2.2 b o hb;refine⟨sl, ?_⟩;rw[zxL _ _ (Nat.ne_of_gt (zxH hb')),zxL _ _ (Ne.symm hbe)];exact zxG _ hb'
 · refine⟨⟨_,_, ?_, ?_, ?_,hd3,by simp[hsz]⟩,⟨_,_,zxN _ hT3 (Obj.isFreed_of_fields (Obj.data_mapFields hobd _)),Obj.data_mapFields hobd _,by first|(simp;done)|(rcases hpl with rfl|⟨_,_,_,_,_,_,_,rfl⟩<;>simp)⟩,hTe⟩
   · rw[zxL _ _ hTe];exact he3
   · rw[Obj.cls_mapFields];exact hc
   · obtain⟨c0,d0,dt,sl⟩:=oe;dsimp only at hd hdx;subst hd;exact hdx
def leave1(hfr:A.frames=some (env::outer))(hl:s.heap.FunFrames base (env::outer))(hf:env.frame=some L)
 (he:s.heap.get? e=some oe) (hd:oe.data = .fields vs) (h1:vs[1]? = some .none) (hc:oe.cls = .ref C) (hdx:oe.dict=some dx)
 (h:∀h' T,s.heap.objs.size<=T->Mv (frs (env::outer)) [e] s.heap h'->Fly h' e C dx T->Q () {s with heap:=h'}):wpAny M A (leaving env (.ref e)) Q E s:=by
 unfold leaving noteFrame;simp only[hf];refine zxE (zxE (wpAny_field he hd h1 ?_));rw[if_neg (by decide)];exact zmJ hfr hl hf he hd (Array.getElem?_eq_some_iff.mp h1).1 hc hdx h
def znU(hfr:A.frames=some (env::outer))(hl:s.heap.FunFrames base (env::outer))(hf:env.frame=some L)(F:Fly s.heap e C dx T)
 (h:∀h' T',s.heap.objs.size<=T'->Mv (frs (env::outer)) [e,T] s.heap h'->Fly h' e C dx T'->Q () {s with heap:=h'}):
 wpAny M A (noteFrame (.ref e) env) (λ_ s'=>wpAny M A (setFlight (.ref e) none) Q E s') E s:=by
 obtain⟨⟨oe,vs,he,hc,hdx,hd,h1⟩,⟨oT,ts,hT,hdT,h3⟩,hTe⟩:=F;unfold noteFrame;simp only[hf];refine zxE (wpAny_field he hd h1 ?_);rw[if_pos (show(Value.ref T != Value.none)=true from by simp)];refine zxE (wpAny_field hT hdT h3 ?_);rw[if_neg (show ¬((Value.none==rawInt L)=true)from by simp[rawInt])];refine zxE (wpAny_setField hT hdT (Array.getElem?_eq_some_iff.mp h3).1 ?_);have other:∀b,b≠T->(s.heap.update T (Obj.mapFields (·.setIfInBounds 3 Value.none))).get? b=s.heap.get? b:=λb hb=>zxL _ _ (Ne.symm hb);have noRec:∀b o,s.heap.get? b=some o->(∀vs,o.data ≠ .fields vs)->b≠T:=λb o hb hnf q=>by
  rw[q,hT]at hb;injection hb with hb;subst hb;exact hnf ts hdT
 refine zmJ hfr (hl.of_keeps λb o hb hnf=>⟨o,(other b (noRec b o hb hnf)).trans hb,rfl⟩) hf ((other e (Ne.symm hTe)).trans he) hd (Array.getElem?_eq_some_iff.mp h1).1 hc hdx λh' T' hz m F=>h h' T' ?_ ⟨λb o h1 h2 h3=>?_,λb o h1 h2 h3=>?_⟩ F
 · dsimp only at hz;rw[Heap.size_update]at hz;exact hz
 · exact m.keep b o h1 (λz=>h2 (by rw[zzP.mp z];exact zzD)) ((other b λz=>h2 (by rw[z];simp)).trans h3)
 · exact m.slot b o h1 (λz=>h2 (by rw[zzP.mp z];exact zzD)) ((other b λz=>h2 (by rw[z];simp)).trans h3)
def land(F:Fly s.heap e C dx T)(h:∀h',Mv [] [T] s.heap h'->Fly h' e C dx T->s.heap.objs.size=h'.objs.size->Q () {s with heap:=h'}):wpAny M A (setFlight (.ref e) none) Q E s:=by
 obtain⟨⟨oe,vs,he,hc,hdx,hd,h1⟩,⟨oT,ts,hT,hdT,h3⟩,hTe⟩:=F;refine wpAny_setFlight_none he hd h1 hT hdT (Array.getElem?_eq_some_iff.mp h3).1 (h _ ⟨λb o _ hb z=>?_,λb o hb=>nomatch hb⟩ ⟨⟨oe,vs, ?_,hc,hdx,hd,h1⟩,⟨_,_,zxN _ hT (Obj.isFreed_of_fields (Obj.data_mapFields hdT _)),Obj.data_mapFields hdT _, ?_⟩,hTe⟩ (Heap.size_update _ _ _).symm)
 · rw[zxL _ _ λq=>hb (by rw[q];simp)];exact z
 · rw[zxL _ _ hTe];exact he
 · have:=(Array.getElem?_eq_some_iff.mp h3).1;simp[this]
end
def zoW(m:Mv fs ch h h')(hok:HOk P w H h)(hfs:∀b ∈ fs,H b=none)(hch:∀b ∈ ch,H b=none):Un fs ch H H h h'/\HOk P w H h':=by
 refine⟨⟨λb o e _ h1 h2=>m.keep b o h1 h2 e,λb o e _ h1 h2=>m.slot b o h1 h2 e,λb o e n _=>n,λb o e h2=>?_,λ_ _ q=>q,λ_ _ _ q=>q,λb ps q=>⟨#[],by rw[q,Array.append_empty]⟩⟩,λa o e=>?_⟩
 · by_cases hb:b ∈ fs
   · obtain⟨sl,z⟩:=m.slot b o hb h2 e;exact⟨_,z⟩
   · exact⟨o,m.keep b o hb h2 e⟩
 · refine(hok a o e).stay (λb u hb z=>m.keep b u (λq=>?_) (λq=>?_) z) (λ_ q=>q) λ_ _ q=>q
   · have:=hfs b q
     rcases hb with rfl|hb
     · rw[e]at this;cases this
     · rw[hb]at this;cases this
   · have:=hch b q
     rcases hb with rfl|hb
     · rw[e]at this;cases this
     · rw[hb]at this;cases this
def cv:V->Value
 | .non=>.none
 | .bl b=>.bool b
 | .int i=>.int i 0
 | .str x=>.str x 0
 | .byt b=>.bytes b 0
 | .flt b=>.float b 0
 | .ref a=>.ref a
 | .ty n=>.type n
def CX1(P:Program)(w:World)(C:Addr)(an:Str):CXT:=λouter H s E v s'=>∃e dx T k H',v = .ref e/\s'.os=s.os/\AllBare s'.gens/\Un (frs outer) [] H H' s.heap s'.heap/\HOk P w H' s'.heap/\Fly s'.heap e C dx T/\
 s.heap.objs.size<=e/\s.heap.objs.size<=T/\s.heap.get? dx=none/\H' e=none/\H' T=none/\H' dx=none/\dx≠e/\dx≠T/\(∃mA,s'.heap.Ns1 dx mA/\∀f,WK (([(an,k)]:List (Str×V)).lookup f) (mA f))/\E (cv k) none H'
section
variable{P:Program}{w:World}{K:zC}{mg:Str->Option Value}{base:Heap}{N:List Str}{qual:Str}{scope:Scope}{f:Addr}{cd:Value}{A:Around}{outer:List Env}{s:Shared}{H:Hp}{E:XK}{C:Addr}{an:Str}
def zmA(h1:H1 e=none)(h2:H1 dx=none)(hne:dx≠e)
 (hs:s.heap.objs.size<=e) (hsd:s.heap.get? dx=none) (I:Inv (Xg (CX1 P w C an) P w K mg base N qual scope f cd A outer s H E) pins σ (HX an H1 e C dx k) s') (hE:E (cv k) none H1):
 (Xg (CX1 P w C an) P w K mg base N qual scope f cd A outer s H E).xe (.ref e) s':=by
 have he:HX an H1 e C dx k e=some (.ext (XA e C dx)):=by unfold HX;rw[zH (Ne.symm hne),zT]
 have hd:HX an H1 e C dx k dx=some (.xd [(an,k)]):=by unfold HX;rw[zT]
 have ho:∀b,b≠e->b≠dx->HX an H1 e C dx k b=H1 b:=λb hb hb'=>by unfold HX;rw[zH hb',zH hb]
 have ho':∀b u,HX an H1 e C dx k b=some u->(∀φ,u ≠ .ext φ)->(∀fs,u ≠ .xd fs)->H1 b=some u:=λb u z n1 n2=>by
  rw[<-ho b (λq=>by rw[q,he]at z;cases z;exact n1 _ rfl) λq=>by rw[q,hd]at z;cases z;exact n2 _ rfl];exact z
 obtain⟨⟨t,hget⟩,_,_⟩:=I.hok e _ he;obtain⟨mA,hNs,hrel⟩:=I.hok dx _ hd;have frE:∀b ∈ frs (envOfC qual scope s.heap.objs.size f cd::outer),HX an H1 e C dx k b=none:=I.stkFree;refine leave1 (base:=base) (L:=s.heap.objs.size) I.ok.frames I.stack rfl hget rfl rfl rfl rfl λh' T hT m F=>?_;have hTn:HX an H1 e C dx k T=none:=I.hok.fresh hT;have hTe:T≠e:=F.ne;have hTd:dx≠T:=λq=>by rw[<-q,hd]at hTn;cases hTn
 have small:∀b o,s.heap.get? b=some o->b≠e:=λb o z q=>by have:=zxH z;rw[q]at this;exact absurd this (Nat.not_lt.mpr hs)
 have smalld:∀b o,s.heap.get? b=some o->b≠dx:=λb o z q=>by rw[q,hsd]at z;cases z
 have nloc:∀b o,s.heap.get? b=some o->b ∉ frs outer->b ∉ frs (envOfC qual scope s.heap.objs.size f cd::outer):=λb o z hb q=>by
  rcases zzA.mp (show b ∈ s.heap.objs.size::frs outer from q)with q|q
  · have:=zxH z;rw[q]at this;exact absurd this (Nat.lt_irrefl _)
  · exact hb q
 have n1:∀b,b≠e->b ∉ [e]:=λb hb q=>hb (zzP.mp q);have ndx:dx ∉ frs (envOfC qual scope s.heap.objs.size f cd::outer):=λq=>by have:=frE dx q;rw[hd]at this;cases this
 have hNs':h'.Ns1 dx mA:=by
  obtain⟨o,es,ep,z,r⟩:=hNs;exact⟨o,es,ep,m.keep dx o ndx (n1 dx hne) z,r⟩
 refine⟨e,dx,T,k,H1,rfl,I.os,I.bare,⟨λb o z n hb hx=>?_,λb o z n hb hx=>?_,λb o z n hx=>?_,λb o z hx=>?_,λb xs z=>?_,λb o u z=>?_,λb ps z=>?_⟩,λa o z=>?_,F,hs,zzM I.sz hT,hsd,h1,by rw[<-ho T hTe (Ne.symm hTd)];exact hTn,h2,hne,hTd,⟨mA,hNs',hrel⟩,hE⟩
 · exact m.keep b o (nloc b o z hb) (n1 b (small b o z)) (I.base.keep b o z n hb hx)
 · obtain⟨sl,q⟩:=I.base.slot b o z n hb hx;obtain⟨sl',q'⟩:=m.slot b _ (zzB _ hb) (n1 b (small b o z)) q;exact⟨sl',q'⟩
 · rw[<-ho b (small b o z) (smalld b o z)];exact I.base.free b o z n hx
 · obtain⟨o',q⟩:=I.base.there b o z hx
   by_cases hb:b ∈ frs (envOfC qual scope s.heap.objs.size f cd::outer)
   · obtain⟨sl,q'⟩:=m.slot b _ hb (n1 b (small b o z)) q;exact⟨_,q'⟩
   · exact⟨o',m.keep b o' hb (n1 b (small b o z)) q⟩
 · exact ho' b _ (I.base.tups b xs z) (λ_ q=>nomatch q) λ_ q=>nomatch q
 · exact ho' b _ (I.base.frzs b o u z) (λ_ q=>nomatch q) λ_ q=>nomatch q
 · obtain⟨more,q⟩:=I.base.tbls b ps z;exact⟨more,ho' b _ q (λ_ q=>nomatch q) λ_ q=>nomatch q⟩
 · have hae:a≠e:=λr=>by rw[r,h1]at z;cases z
   have had:a≠dx:=λr=>by rw[r,h2]at z;cases z
   have q:=I.hok a o (by rw[ho a hae had];exact z);refine q.stay (λb u hb r=>m.keep b u (λy=>?_) (n1 b λy=>?_) r) (λb r=>ho' b _ r (λ_ q=>nomatch q) λ_ q=>nomatch q) λb xs r=>ho' b _ r (λ_ q=>nomatch q) λ_ q=>nomatch q
   · have:=frE b y
     rcases hb with rfl|hb
     · rw[ho b hae had,z]at this;cases this
     · rw[hb]at this;cases this
   · rcases hb with hb|hb
     · exact hae (hb ▸ y)
     · rw[y,he]at hb;cases hb
end
def nxA:Out->Option AS
 | .nx as=>some as
 |_=>none
def zjx(h:nxA o=some as):o = .nx as:=by cases o<;>cases h;rfl
def slD(as:AS)(i:Nat):Option D:=match as[i]? with
 |some (some (.lf true d))=>some d
 |_=>none
def zsr(h:slD as i=some d):as[i]? = some (some (.lf true d)):=by
 unfold slD at h;cases e:as[i]? with
 |none=>rw[e]at h;cases h
 |some x=>
  rw[e]at h;cases x with
  |none=>cases h
  |some o=>
   cases o with
   |nd _ _=>cases h
   |lf st d=>
    cases st with
    |true=>cases h;rfl
    |false=>cases h
def Rel.slD{K:zC}{kd:KD}{F B:Addr->Prop}{T:List Addr}{ad:Ad}{as:AS}{σ:St}{H:Hp}{i:Nat}{d:D}(R:Rel K kd F B T ad as σ H)(h:PF.slD as i=some d):∃v,σ[i]? = some (some v)/\Rp K kd (Lv F B (Gw T ad) true) H v d:=by
 obtain⟨v,hv,ro⟩:=R.sl i _ (zsr h);generalize ad i=fp at ro;cases ro with
 |lf r=>exact⟨v,hv,r⟩
def gX(n m i:Nat)(c1:SF)(tc:TF)(ds:List (Bool×D)):Option D:=
 if ds.length=m then(c1 (wK n ds)).bind λo1=>(nxA o1).bind λas1=>(tc as1).bind λp=>if p.1=true then(slD p.2 i).bind λd=>if Z2 d=true then some d else none else none else none
def spX(K:zC)(kd:KD)(g:List (Bool×D)->Option D):Sp:=λvs H _ E=>∃F ds d,(∀a,F a->H a≠none)/\RpA K kd F H vs ds/\g ds=some d/\∀v H',(∀b u,H b=some u->H' b=some u)->Rp K kd F H' v d->E (cv v) none H'
def zrr:∀a,¬Gw [] (λ_=>[]) a:=λa z=>z.elim (λy=>nomatch y) λ⟨_,y⟩=>nomatch y
section
variable{P:Program}{w:World}{K:zC}{mg:Str->Option Value}{base:Heap}
def ztS{kd:KD}{x qual an:Str}{st:Stmt}{f C:Addr}{fd:FuncData}{N ps:List Str}{k i:Nat}{c1:SF}{tc:TF}{a1 rs:Stmt}{c:Expr}{rest:List Stmt}{pos:Pos}(Fn:Fun K x qual st f fd)(S:FnScope N ps (zr st))
 (hB:ZD st=a1 :: .If c [rs] [] pos::rest)
 (hb:∀(cdv:Value) (A:Around) (outer:List Env) (s:Shared) (H:Hp) (E:XK),Room k (A.deeper (envOfC qual (zr st) s.heap.objs.size f cdv))->
  ASt (Xg (CX1 P w C an) P w K mg base N qual (zr st) f cdv A outer s H E) kd a1 c1/\AT (Xg (CX1 P w C an) P w K mg base N qual (zr st) f cdv A outer s H E) kd c tc/\
  PS (Xg (CX1 P w C an) P w K mg base N qual (zr st) f cdv A outer s H E) rs (λD σ H'=>Ws i σ H' λk H1=>(∃kd O d,Rp K kd O H1 k d/\Z2 d=true)/\
   ∀pins s' e dx,H1 e=none->H1 dx=none->dx≠e->s.heap.objs.size<=e->s.heap.get? dx=none->Inv (Xg (CX1 P w C an) P w K mg base N qual (zr st) f cdv A outer s H E) pins σ (HX an H1 e C dx k) s'->(Xg (CX1 P w C an) P w K mg base N qual (zr st) f cdv A outer s H E).xe (.ref e) s')):
 FnOk P w K mg base (CX1 P w C an) (k+1) f fd ps (spX K kd (gX N.length ps.length i c1 tc)):=by
 with_unfolding_all (
 obtain⟨oc,od,kV,doc,pm,an',cdv,ct,osl,rfl,lk,hcd⟩:=Fn.ex;refine zne lk hcd S (λvs H Q E h=>?_) λA outer s H vs Q E hr hsp=>?_
 · obtain⟨F,ds,r,_,rp,e,_⟩:=h;unfold gX at e
   by_cases hl:ds.length=ps.length
   · rw[rp.length,hl]
   · rw[if_neg hl]at e;cases e
 · obtain⟨F,ds,r,ht,rp,e,q⟩:=hsp;unfold gX at e
   by_cases hl:ds.length=ps.length
   · rw[if_pos hl]at e;obtain⟨o1,e1,e⟩:=bS_ e;obtain⟨as1,y1,e⟩:=bS_ e;obtain⟨⟨p,as3⟩,e3,e⟩:=bS_ e;obtain⟨hp,e⟩:=ite_some' e;obtain⟨k',e4,e⟩:=bS_ e;obtain⟨hk,e⟩:=zQ e;subst e;cases zjx y1;dsimp only at hp e4;subst hp;obtain⟨h1,h3,h4⟩:=hb cdv A outer s H E hr;have h5:PSs (Xg (CX1 P w C an) P w K mg base N qual (zr st) f cdv A outer s H E) rest (λ_ _ _=>False):=λ_ _ _ _ _ _ z=>z.elim;rw[hB];refine⟨_,YF h1 (YF (zrb h3 (zdc h4) zgk) h5), ?_⟩;refine⟨F,λ_=>False,λ_=>[],wK N.length ds,_,zbo ht rp,e1,λσ1 ad1 H1 R1 g1=>?_⟩;refine⟨F,λ_=>False,ad1,as1,true,as3,R1,e3,λad3 H3 R3 g3=>?_⟩;obtain⟨v,hv,rv⟩:=R3.slD e4;refine⟨v,hv,⟨kd,_,k',rv,hk⟩,λpins s' e dx z1 z2 z3 z4 z5 I=>?_⟩;refine zmA z1 z2 z3 z4 z5 I (q v _ (λb u hb=>?_) (rv.less λa z=>.inl (.inl ⟨rfl,z⟩)));exact(g1.trans g3).keep b u hb (zrr b)
   · rw[if_neg hl]at e;cases e)
end
section
variable{X:Cx}{pins:List (Addr×Obj)}{σ:St}{H:Hp}{s:Shared}{M:Model}{A:Around}{E:Value->Shared->Prop}
def zlM(I:Inv X pins σ H s)(hN:X.N.Nodup)(hj:X.N[j]? = some n)(hk:X.env.kindOf n=some .local)(h:∀s',Inv X pins (σ.set j none) H s'->Q () s'):
 wpAny M A (do bindName X.env n .none;unbindBehindTheSuite X.env n pos) Q E s:=by
 obtain⟨m,hn,hl⟩:=id I.loc;have hcls:(X.env.scope.kind == .class||(X.env.scope.kind == .module&&X.env.locals != X.env.globals))=false:=by rw[I.ok.kind];rfl
 have cne:=I.cne;refine wpAny_nameGoes_keeps hk hn hcls λh' v hn' hs=>?_;obtain⟨oL,_,_,hoL,_⟩:=id hn;have tracked:HOk X.prog X.w H h':=λb ob e=>by
  refine(I.hok b ob e).stay (λc w' hc q=>(hs.2 c ?_).trans q) (λ_ q=>q) λ_ _ q=>q
  rintro rfl
  rcases hc with z|hc
  · rw[<-z,I.free]at e;cases e
  · rw[I.free]at hc;cases hc
 have nl:∀b o,X.s₀.heap.get? b=some o->b≠X.env.locals:=λb o e=>zzO (zzI (zxH e) I.ok.above);refine h _ ⟨I.ok,I.os,I.bare,⟨λb o e n hb hx=>(hs.2 b (nl b o e)).trans (I.base.keep b o e n hb hx),λb o e n hb hx=>?_,I.base.free,λb o e hx=>?_,I.base.tups,I.base.frzs,I.base.tbls⟩,⟨_,hn',λi y v' e1 e2 e3=>?_⟩,λy c e=>?_,I.free,I.freeC,λp hp=>?_,tracked,by simpa using I.len⟩
 · obtain⟨sl,e1⟩:=I.base.slot b o e n hb hx;exact⟨sl,(hs.2 b (nl b o e)).trans e1⟩
 · obtain⟨o',e1⟩:=I.base.there b o e hx;exact⟨o',(hs.2 b (nl b o e)).trans e1⟩
 · by_cases hij:i=j
   · subst hij;rw[List.getElem?_set]at e2;simp at e2
   · rw[zzW (Ne.symm hij)]at e2;obtain⟨u',r',q⟩:=hl i y v' e1 e2 e3;refine⟨u',r', ?_⟩
     rcases q with⟨k,e⟩|⟨k,c,e,z⟩
     · refine .inl ⟨k, ?_⟩;have:y≠n:=λe=>hij (zee hN e1 (e ▸ hj));simp[this,e]
     · exact .inr ⟨k,c,e,z.sameBut hs (cne y c e)⟩
 · obtain⟨w',z⟩:=I.cell y c e;exact⟨w',z.sameBut hs (cne y c e)⟩
 · obtain⟨e,n,ne,nf,d⟩:=I.pin p hp;exact⟨(hs.2 p.1 ne).trans e,n,ne,nf,d⟩
abbrev inX(X:Cx)(e:Addr)(pl:List (Addr×Obj)):Cx:={X with A:=X.A.mark (some (.ref e)),calm:=false,pn:=pl++X.pn}
def zuS(o:X.Ok):(inX X e pl).Ok:=⟨o.mod,o.kind,o.glob,o.blt,o.above,o.inj,o.has,o.cab,(λz=>nomatch z),o.frames,o.stk,o.exf,o.bs,o.bsz,o.noex,o.exfs,o.funs,o.frf⟩
def znT(I:Inv X pins σ H s)(h:∀p ∈ pl,s.heap.get? p.1=some p.2/\H p.1=none/\p.1≠X.env.locals/\p.1 ∉ X.fs/\∀v,p.2.data ≠ .cell v):Inv (inX X e pl) pins σ H s:=
 ⟨zuS I.ok,I.os,I.bare,I.base,I.loc,I.cell,I.free,I.freeC,λp hp=>by
  rw[zxB]at hp
  rcases zzK.mp hp with z|z
  · exact h p z
  · exact I.pin p z,I.hok,I.len⟩
def zqs(o:X.Ok)(I:Inv (inX X e pl) pins σ H s):Inv X pins σ H s:=
 ⟨o,I.os,I.bare,I.base,I.loc,I.cell,I.free,I.freeC,λp hp=>I.pin p (by rw[zxB];exact zzJ _ hp),I.hok,I.len⟩
end
def Far(X:Cx)(pins:List (Addr×Obj))(b:Addr):Prop:=(b ∈ X.ex\/X.s₀.heap.objs.size<=b)/\b≠X.env.locals/\(∀x c,X.env.cells.lookup x=some c->c≠b)/\∀p ∈ X.pn++pins,p.1≠b
structure Thr(X:Cx)(C:Addr)(an:Str)(pins:List (Addr×Obj))(σ:St)(e dx T:Addr)(v:V)(H:Hp)(s:Shared):Prop where
 inv:Inv X pins σ H s
 fly:Fly s.heap e C dx T
 fe:Far X pins e
 fT:Far X pins T
 se:X.s₀.heap.objs.size<=e
 sT:X.s₀.heap.objs.size<=T
 l:dx≠X.env.locals
 cl:∀x c,X.env.cells.lookup x=some c->c≠dx
 fr:dx ∉ frs X.stack
 fre:e ∉ frs X.stack
 pd:∀p ∈ X.pn++pins,p.1≠dx
 s0:X.s₀.heap.get? dx=none
 ne:H e=none
 nT:H T=none
 nd:H dx=none
 d1:dx≠e
 d2:dx≠T
 ns:∃mA,s.heap.Ns1 dx mA/\∀f,WK (([(an,v)]:List (Str×V)).lookup f) (mA f)
section
variable{X:Cx}{pins:List (Addr×Obj)}{σ:St}{H:Hp}{s s':Shared}{C:Addr}{an:Str}{E:XK}{v:Value}
def zrQ(hex:X.ex=[])(I:Inv X pins σ H s)(h:CX1 X.prog X.w C an X.stack H s E v s'):∃e dx T k H',v = .ref e/\Thr X C an pins σ e dx T k H' s'/\E (cv k) none H':=by
 obtain⟨e,dx,T,k,H',rfl,hos,hb,un,hok,fly,l1,l2,l3,n1,n2,n3,n4,n5,ns,hE⟩:=h;have out1:∀b,s.heap.objs.size<=b->Far X pins b:=λb hb=>by
  refine⟨.inr (zzM I.sz hb),λz=>absurd (zzI I.lt hb) (by rw[z];exact Nat.lt_irrefl _),λy c z w=>?_,λp hp w=>?_⟩
  · obtain⟨v,o,z',_⟩:=I.cell y c z;exact absurd (zzI (zxH z') hb) (by rw[w];exact Nat.lt_irrefl _)
  · exact absurd (zzI (zxH (I.pin p hp).1) hb) (by rw[w];exact Nat.lt_irrefl _)
 have frx:∀b ∈ frs X.stack,∃o,s.heap.get? b=some o:=λb hb=>by
  obtain⟨_,o,z,_⟩:=I.stack.mem hb;exact⟨o,z⟩
 refine⟨e,dx,T,k,H',rfl,⟨I.call' (ch:=[]) hos un hok hb (λb z=>nomatch z),fly,out1 e l1,out1 T l2,zzM I.sz l1,zzM I.sz l2, ?_, ?_, ?_, ?_, ?_, ?_,n1,n2,n3,n4,n5,ns⟩,hE⟩
 · intro z;obtain⟨m,⟨o,_,_,z',_⟩,_⟩:=I.loc;rw[<-z,l3]at z';cases z'
 · intro y c z w;obtain⟨v,o,z',_⟩:=I.cell y c z;rw[w,l3]at z';cases z'
 · intro z;obtain⟨o,z'⟩:=frx dx z;rw[l3]at z';cases z'
 · intro z;obtain⟨o,z'⟩:=frx e z;exact absurd (zzI (zxH z') l1) (Nat.lt_irrefl _)
 · intro p hp z;have z':=(I.pin p hp).1;rw[z,l3]at z';cases z'
 · cases z:X.s₀.heap.get? dx with
   |none=>rfl
   |some o=>
    obtain⟨o',z'⟩:=I.base.there dx o z (by rw[hex];simp);rw[l3]at z';cases z'
end
section
variable{P:Program}{w:World}{K:zC}{mg:Str->Option Value}{base:Heap}{N:List Str}{qual:Str}{scope:Scope}{f:Addr}{cd:Value}{A:Around}{outer:List Env}{s:Shared}{H:Hp}{E:XK}{C:Addr}{an:Str}
def zlX(t:Thr (Xg (CX1 P w C an) P w K mg base N qual scope f cd A outer s H E) C an pins σ e dx T k H1 s')(hE:E (cv k) none H1):
 (Xg (CX1 P w C an) P w K mg base N qual scope f cd A outer s H E).xe (.ref e) s':=by
 have I:=t.inv;show wpAny _ _ (leaving _ _) _ _ _;unfold leaving;refine zxE (znU (base:=base) (L:=s.heap.objs.size) I.ok.frames I.stack rfl t.fly λh' T' hT m F=>?_);have frE:∀b ∈ frs (envOfC qual scope s.heap.objs.size f cd::outer),H1 b=none:=I.stkFree;have hch:∀b ∈ [e,T],H1 b=none/\s.heap.objs.size<=b:=λb hb=>by
  rcases zzA.mp hb with rfl|hb
  · exact⟨t.ne,t.se⟩
  · rw[zzP.mp hb];exact⟨t.nT,t.sT⟩
 obtain⟨un2,hok2⟩:=zoW m I.hok frE λb hb=>(hch b hb).1;have old:∀b o,s.heap.get? b=some o->b ∉ [e,T]:=λb o z q=>absurd (zzI (zxH z) (hch b q).2) (Nat.lt_irrefl _);have nloc:∀b o,s.heap.get? b=some o->b ∉ frs outer->b ∉ frs (envOfC qual scope s.heap.objs.size f cd::outer):=λb o z hb q=>by
  rcases zzA.mp (show b ∈ s.heap.objs.size::frs outer from q)with q|q
  · have:=zxH z;rw[q]at this;exact absurd this (Nat.lt_irrefl _)
  · exact hb q
 have hT':H1 T'=none:=I.hok.fresh hT;obtain⟨mA,hNs,hrel⟩:=t.ns;have hNs':h'.Ns1 dx mA:=by
  obtain⟨o,es,ep,z,r⟩:=hNs;exact⟨o,es,ep,m.keep dx o t.fr (λq=>by
   rcases zzA.mp q with q|q
   · exact t.d1 q
   · exact t.d2 (zzP.mp q)) z,r⟩
 have hdT:dx≠T':=λq=>by
  obtain⟨o,es,ep,z,r⟩:=hNs;exact absurd (zzI (zxH z) hT) (by rw[q];exact Nat.lt_irrefl _)
 have bs:Un (frs outer) [] H H1 s.heap s'.heap:=I.base;refine⟨e,dx,T',k,H1,rfl,I.os,I.bare,⟨λb o z n hb hx=>?_,λb o z n hb hx=>?_,bs.free,λb o z hx=>?_,bs.tups,bs.frzs,bs.tbls⟩,hok2,F,t.se,zzM I.sz hT,t.s0,t.ne,hT',t.nd,t.d1,hdT,⟨mA,hNs',hrel⟩,hE⟩
 · exact m.keep b o (nloc b o z hb) (old b o z) (bs.keep b o z n hb hx)
 · obtain⟨sl,q⟩:=bs.slot b o z n hb hx;obtain⟨sl',q'⟩:=m.slot b _ (zzB _ hb) (old b o z) q;exact⟨sl',q'⟩
 · obtain⟨o',q⟩:=bs.there b o z hx
   by_cases hb:b ∈ frs (envOfC qual scope s.heap.objs.size f cd::outer)
   · obtain⟨sl,q'⟩:=m.slot b _ hb (old b o z) q;exact⟨_,q'⟩
   · exact⟨o',m.keep b o' hb (old b o z) q⟩
end
abbrev GF2:=AS->Option (D×AS)
def thP(X:Cx)(kd:KD)(C:Addr)(an:Str)(g:GF2):St->Hp->Prop:=λσ H=>∃F B ad as d as',Rel X.K kd F B [] ad as σ H/\g as=some (d,as')/\
 ∀pins σ' ad' e dx T v H' s',Thr X C an pins σ' e dx T v H' s'->Rel X.K kd F B [] ad' as' σ' H'->Grow (Gw [] ad) H (Gw [] ad') H'->Rp X.K kd (Lv F B (Gw [] ad') true) H' v d->X.xe (.ref e) s'
@[irreducible] def AXE(X:Cx)(kd:KD)(C:Addr)(an:Str)(e:Expr)(g:GF2):Prop:=PE X e λσ H _=>thP X kd C an g σ H
@[irreducible] def AX(X:Cx)(kd:KD)(C:Addr)(an:Str)(st:Stmt)(g:GF2):Prop:=PS X st λ_ σ H=>thP X kd C an g σ H
@[irreducible] def AXs(X:Cx)(kd:KD)(C:Addr)(an:Str)(st:List Stmt)(g:GF2):Prop:=PSs X st λ_ σ H=>thP X kd C an g σ H
def ztf(h:cv v=cv w):v=w:=by cases v<;>cases w<;>cases h<;>rfl
def thE(K:zC)(kd:KD)(O:Addr->Prop)(H:Hp)(d:D):XK:=λu _ H'=>∃v,u=cv v/\(∀b u,H b=some u->H' b=some u)/\Rp K kd O H' v d
def gC(fr:AF)(g:List (Bool×D)->Option D):GF2:=λas=>(fr as).bind λp=>(Yn p.2 p.1).bind λx=>(g x).bind λd=>some (d,p.2)
section
variable{X:Cx}{kd:KD}{f C C0:Addr}{an c0:Str}{fd:FuncData}{ps:List Str}{g:List (Bool×D)->Option D}{n i:Nat}{x y:Str}{p cp pos pos':Pos}{a c e:Expr}{es:List Expr}{fr:AF}{st:Stmt}{sts rest:List Stmt}{ta:TF}{gf gg:GF2}
def ziL(F:FnOk X.prog X.w X.K X.mg X.base (CX1 X.prog X.w C an) n f fd ps (spX X.K kd g))(hr:Room n X.A)(hg:Gl X x)(hm:X.mg x=some (.ref f))(hk:PySem.W.keepIn X.K (.ref f)=true)(hb:Binds X.K fd ps [])(hex:X.ex=[])(ha:AA X kd (a::es) fr)
 (hdb:(x==("__debug__":Str))=false) (he:starEach (a::es) X.env=(false,eval a X.env)::starEach es X.env) (hpl:(backTo cp (starEach es X.env)).any (·.1)=false):
 AXE X kd C an (.Call (.Name x p) (a::es) [] cp) (gC fr g):=by
 with_unfolding_all (
 intro pins s σ H Q I h;obtain⟨F0,B0,ad,as,d,as',R,e,q⟩:=h;obtain⟨⟨rs,as1⟩,h1,e⟩:=bS_ (show(fr as).bind _=_ from e);obtain⟨ds,h2,e⟩:=bS_ e;obtain⟨d',h3,e⟩:=bS_ e;cases e;refine wpAny_Call_Name_kw (W9 I hg hm ?_ hdb);refine PySem.W.callWith_K (h₀:=X.base) I.ok.mod.kin hk (zxO (ha cp pins s σ H (λvs H1=>∃ad1,Rel X.K kd F0 B0 [] ad1 as1 σ H1/\RVs X.K kd F0 B0 ad1 σ H1 vs rs/\Grow (Gw [] ad) H (Gw [] ad1) H1) I ⟨F0,B0,ad,as,rs,as1,R,h1,λvs ad1 H1 R1 rv1 g1=>⟨ad1,R1,rv1,g1⟩⟩) (λus s1 z=>?_) λ_ _ z=>z) he hpl;obtain⟨vs,H1,I1,r,ad1,R1,rv1,g1⟩:=z;refine⟨I1.kIn, ?_⟩;have sp:spX X.K kd g vs H1 (λ_ _=>False) (thE X.K kd (Lv F0 B0 (Gw [] ad1) true) H1 d):=⟨_,ds,d,R1.trk true,zkz R1 rv1 h2,h3,λv H' k r=>⟨v,rfl,k,r⟩⟩;have hl:us.length=ps.length:=by rw[<-r.length];exact F.len _ _ _ _ sp
 have r2:Vals vs us:=r;refine wpAny_call (codeAny_mono (F.run X.A X.stack s1 H1 ⟨us,[]⟩ us vs _ _ hr I1.env0 (by have z:=hb s1 us I1.kIn (by rw[zyC];exact hl);rw[zyC]at z;exact z) r2 sp) λr s' hq'=>?_);cases r with
 |ok fl=>
  cases fl with
  |ret u=>obtain⟨_,_,_,_,_,_,_,z⟩:=hq';exact z.elim
  |next=>exact False.elim hq'
  |brk=>exact False.elim hq'
  |cont=>exact False.elim hq'
 |error v=>
  obtain⟨ea,dx,T,k,H2,rfl,t,w,ek,kp,rp⟩:=zrQ hex I1 (show CX1 X.prog X.w C an X.stack _ _ (thE X.K kd (Lv F0 B0 (Gw [] ad1) true) H1 d) v s' from hq');cases ztf ek;obtain⟨R2,g2⟩:=R1.more kp;exact q pins σ ad1 ea dx T k H2 s' t R2 (g1.trans g2) rp)
def zpz(he:AXE X kd C an e gf)(hs:swapsWith e none pos.line X.env=pure false):AX X kd C an (.Expr e pos) gf:=by
 with_unfolding_all exact(vd (zau he hs) λD σ H h=>h)
def zix(h:AX X kd C an st gf):AXs X kd C an (st::rest) gf:=by
 with_unfolding_all exact(zdk (YF h (show PSs X rest (λ_ _ _=>False)from λ_ _ _ _ _ _ z=>z.elim)) λD σ H h=>h)
end
def gY(n m:Nat)(g:GF2)(ds:List (Bool×D)):Option D:=if ds.length=m then(g (wK n ds)).bind λp=>some p.1 else none
section
variable{P:Program}{w:World}{K:zC}{mg:Str->Option Value}{base:Heap}{kd:KD}{x qual an:Str}{st:Stmt}{f C:Addr}{fd:FuncData}{N ps:List Str}{k:Nat}{g:GF2}
def ztU(Fn:Fun K x qual st f fd)(S:FnScope N ps (zr st))
 (hb:∀(cdv:Value) (A:Around) (outer:List Env) (s:Shared) (H:Hp) (E:XK),Room k (A.deeper (envOfC qual (zr st) s.heap.objs.size f cdv))->AXs (Xg (CX1 P w C an) P w K mg base N qual (zr st) f cdv A outer s H E) kd C an (ZD st) g):
 FnOk P w K mg base (CX1 P w C an) (k+1) f fd ps (spX K kd (gY N.length ps.length g)):=by
 with_unfolding_all (
 obtain⟨oc,od,kV,doc,pm,an',cdv,ct,osl,rfl,lk,hcd⟩:=Fn.ex;refine zne lk hcd S (λvs H Q E h=>?_) λA outer s H vs Q E hr hsp=>⟨_,hb cdv A outer s H E hr, ?_⟩
 · obtain⟨F,ds,r,_,rp,e,_⟩:=h;obtain⟨hl,_⟩:=ite_some' (show(if ds.length=ps.length then _ else none)=_ from e);rw[rp.length,hl]
 · obtain⟨F,ds,r,ht,rp,e,q⟩:=hsp;obtain⟨hl,e⟩:=ite_some' (show(if ds.length=ps.length then _ else none)=_ from e);obtain⟨⟨d,as'⟩,e1,e⟩:=bS_ e;cases e;refine⟨F,λ_=>False,λ_=>[],wK N.length ds,_,as',zbo ht rp,e1,λpins σ' ad' ea dx T v H' s' t R' g' rv=>zlX t (q v H' (λb u hb=>g'.keep b u hb (zrr b)) (rv.less λa z=>.inl (.inl ⟨rfl,z⟩)))⟩)
end
section
variable{K:zC}{kd:KD}{F B:Addr->Prop}{ad:Ad}{as:AS}{σ:St}{H:Hp}
def Rel.unset(j:Nat)(R:Rel K kd F B [] ad as σ H):Rel K kd F B [] (wO ad j []) (as.set j none) (σ.set j none) H/\∀a,Gw [] (wO ad j []) a->Gw [] ad a:=by
 have le:∀a,Gw [] (wO ad j []) a->Gw [] ad a:=λa z=>Zy a z;refine⟨⟨by rw[zzS,zzS];exact R.len,λi hi=>?_,λi=>?_,λi k a h1 h2=>?_,zyH,(λ_ _ _ z=>nomatch z),R.ftr,λa h1=>?_,λa h1=>R.gtr a (le a h1),λi s e=>?_⟩,le⟩
 · by_cases e:i=j
   · subst e;exact zO
   · rw[zV e];exact R.out i (by rw[zzS]at hi;exact hi)
 · by_cases e:i=j
   · subst e;rw[zO];exact zyH
   · rw[zV e];exact R.nd i
 · by_cases e:i=j
   · subst e;rw[zO]at h1;cases h1
   · rw[zV e]at h1
     by_cases e':k=j
     · subst e';rw[zO]at h2;cases h2
     · rw[zV e']at h2;exact R.inj i k a h1 h2
 · obtain⟨b1,b2,b3⟩:=R.btr a h1;exact⟨b1,b2,λz=>b3 (le a z)⟩
 · by_cases q:i=j
   · subst q;rw[zO];have:s=none:=by
      rw[List.getElem?_set]at e;rw[if_pos rfl]at e
      split at e
      · exact(zzX e).symm
      · cases e
     subst this;exact(rfl:([]:List Addr)=[])
   · rw[zzW (Ne.symm q)]at e;rw[zV q,zzW (Ne.symm q)];exact(R.sl i s e).less le
end
section
variable{X:Cx}{pins:List (Addr×Obj)}{σ:St}{H:Hp}{s:Shared}
def zuF:∀h1 h2:Heap,XB e C dx h1->(∀o,h1.get? e=some o->h2.get? e=some o)->XB e C dx h2:=λ_ _ ⟨o,q,r⟩ k=>⟨o,k _ q,r⟩
def zmi{e dx C:Addr}{an:Str}{v:V}(I:Inv X pins σ H s)(he:H e=none)(hd:H dx=none)(hne:dx≠e)(fe:Far X pins e)(se:X.s₀.heap.objs.size<=e)(l:dx≠X.env.locals)(cl:∀x c,X.env.cells.lookup x=some c->c≠dx)(pd:∀p ∈ X.pn++pins,p.1≠dx)(s0:X.s₀.heap.get? dx=none)
 (xb:XB e C dx s.heap) (ns:∃mA,s.heap.Ns1 dx mA/\∀f,WK (([(an,v)]:List (Str×V)).lookup f) (mA f)):Inv X pins σ (upd (upd H e (.ext (XB e C dx))) dx (.xd [(an,v)])) s:=by
 have k:∀b,b≠e->b≠dx->upd (upd H e (.ext (XB e C dx))) dx (.xd [(an,v)]) b=H b:=λb h1 h2=>by rw[zH h2,zH h1]
 have kn:∀b u,H b=some u->upd (upd H e (.ext (XB e C dx))) dx (.xd [(an,v)]) b=some u:=λb u z=>by rw[k b (yf z he) (yf z hd)];exact z
 refine⟨I.ok,I.os,I.bare,⟨I.base.keep,I.base.slot,λb o z n hx=>?_,I.base.there,λb xs z=>kn b _ (I.base.tups b xs z),λb o u z=>kn b _ (I.base.frzs b o u z),λb ps z=>?_⟩,I.loc,I.cell, ?_,λx c z=>?_,λp hp=>?_,λa o z=>?_,I.len⟩
 · rw[k b (λq=>absurd (zzI (zxH z) se) (by rw[q];exact Nat.lt_irrefl _)) (λq=>by rw[q,s0]at z;cases z)];exact I.base.free b o z n hx
 · obtain⟨more,z'⟩:=I.base.tbls b ps z;exact⟨more,kn b _ z'⟩
 · rw[k _ (Ne.symm fe.2.1) (Ne.symm l)];exact I.free
 · rw[k c (fe.2.2.1 x c z) (cl x c z)];exact I.freeC x c z
 · obtain⟨p1,p2,p3,p4,p5⟩:=I.pin p hp;exact⟨p1,by rw[k _ (fe.2.2.2 p hp) (pd p hp)];exact p2,p3,p4,p5⟩
 · by_cases q1:a=dx
   · subst q1;rw[zT]at z;cases z;exact ns
   · by_cases q2:a=e
     · subst q2;rw[zH q1,zT]at z;cases z;obtain⟨o,z1,z2⟩:=xb;exact⟨⟨o,z1,z2⟩,⟨o,z1⟩,zuF⟩
     · rw[k a q2 q1]at z;exact(I.hok a o z).stay (λb u _ y=>y) (λb y=>kn b _ y) λb xs y=>kn b _ y
def zqM(E:Value->Shared->Prop)(I:Inv X pins σ H s):Inv {X with xe:=E,pn:=X.pn++pins} [] σ H s:=
 ⟨⟨I.ok.mod,I.ok.kind,I.ok.glob,I.ok.blt,I.ok.above,I.ok.inj,I.ok.has,I.ok.cab,I.ok.hd,I.ok.frames,I.ok.stk,I.ok.exf,I.ok.bs,I.ok.bsz,I.ok.noex,I.ok.exfs,I.ok.funs,I.ok.frf⟩,I.os,I.bare,I.base,I.loc,I.cell,I.free,I.freeC,λp hp=>I.pin p (by rw[zyC]at hp;exact hp),I.hok,I.len⟩
def zls(I:Inv {X with xe:=E,pn:=X.pn++pins} pins' σ H s):Inv X pins σ H s:=
 ⟨⟨I.ok.mod,I.ok.kind,I.ok.glob,I.ok.blt,I.ok.above,I.ok.inj,I.ok.has,I.ok.cab,I.ok.hd,I.ok.frames,I.ok.stk,I.ok.exf,I.ok.bs,I.ok.bsz,I.ok.noex,I.ok.exfs,I.ok.funs,I.ok.frf⟩,I.os,I.bare,I.base,I.loc,I.cell,I.free,I.freeC,λp hp=>I.pin p (zzN _ hp),I.hok,I.len⟩
def ziM(z:Far {X with xe:=E,pn:=X.pn++pins} pins' b):Far X pins b:=⟨z.1,z.2.1,z.2.2.1,λp hp=>z.2.2.2 p (zzN _ hp)⟩
end
def zlu(j:Nat)(cn an:Str)(cb:SF)(gb:GF2)(c:SF):SF:=λas=>match(cb as).bind nxA with
 |some as'=>some (.nx as')
 |none=>(gb as).bind λp=>if j<p.2.length then(c (p.2.set j (some (.lf true (.er cn an p.1))))).bind λo=>(nxA o).bind λas2=>some (.nx (as2.set j none))else none
section
variable{X:Cx}{kd:KD}{C S:Addr}{cn an sx en:Str}{j:Nat}{sp pos hp:Pos}{b0:Stmt}{body suite:List Stmt}{cb c:SF}{gb:GF2}
def zrH(hC:kd.c cn=C)(hb1:ASs X kd body cb)(hb2:∀E pn,AXs {X with xe:=E,pn:=pn} kd C an body gb)
 (hgS:Gl X sx) (hmS:X.mg sx=some (.ref S)) (hdS:(sx==("__debug__":Str))=false) (hex:PySem.W.exmOne X.K (.ref C) (.ref S)=some true)
 (hnx:∀v s,¬X.xe v s) (hst:X.stack=X.env::X.outer) (hfm:X.env.frame=some X.env.locals)
 (hN:X.N.Nodup) (hj:X.N[j]? = some en) (hjl:X.env.kindOf en=some .local) (hff:X.fn en=true\/X.env.scope.names.lookup en=some .local)
 (hs:∀e,ASs (inX X e []) kd (b0::suite) c):
 ASt X kd (.Try body [.ExceptHandler (some (.Name sx sp)) (some en) (b0::suite) hp] [] [] pos) (zlu j cn an cb gb c):=by
 subst hC
 with_unfolding_all (
 intro pins s σ H D I h;obtain⟨F0,B0,ad,as,o,R,e,q⟩:=h;have e:(match(cb as).bind nxA with
  |some as'=>some (.nx as')
  |none=>(gb as).bind λp=>if j<p.2.length then(c (p.2.set j (some (.lf true (.er cn an p.1))))).bind λo=>(nxA o).bind λas2=>some (.nx (as2.set j none))else none)=some o:=e
 cases k:(cb as).bind nxA with
 |some as'=>
  rw[k]at e;cases e;obtain⟨o1,h1,h2⟩:=bS_ k;cases zjx h2;refine wpAny_Try_except (zxO (hb1 pins s σ H {nx:=λσ' H'=>∃ad',Rel X.K kd F0 B0 [] ad' as' σ' H'/\Grow (Gw [] ad) H (Gw [] ad') H',rt:=λ_ _=>False} I ⟨F0,B0,ad,as,_,R,h1,λσ' ad' H' R' g'=>⟨ad',R',g'⟩⟩) (λfl s1 z=>?_) λ_ _ z=>(hnx _ _ z).elim);cases fl with
  |ret u=>obtain⟨_,_,_,_,_,z⟩:=z;exact z.elim
  |brk=>obtain⟨_,_,_,z⟩:=z;exact z.elim
  |cont=>obtain⟨_,_,_,z⟩:=z;exact z.elim
  |next=>
   obtain⟨σ1,H1,I1,ad1,R1,g1⟩:=z;exact zgk pins s1 σ1 H1 D I1 (q σ1 ad1 H1 R1 g1)
 |none=>
  rw[k]at e;obtain⟨⟨d,as1⟩,h1,e⟩:=bS_ (show(gb as).bind _=_ from e);obtain⟨hlt,e⟩:=ite_some' e;obtain⟨o1,h4,e⟩:=bS_ e;obtain⟨as2,h5,e⟩:=bS_ e;cases e;cases zjx h5;dsimp only at hlt h4;refine wpAny_Try_except (zxO (hb2 _ (X.pn++pins) [] s σ H {nx:=λ_ _=>False,rt:=λ_ _=>False} (zqM _ I) ⟨F0,B0,ad,as,d,as1,R,h1, ?_⟩) (λfl s1 z=>?_) λ_ _ z=>z)
  · intro pins' σ' ad' ea dx T v H' s' t R' g' rp;have I2:Inv X pins σ' H' s':=zls t.inv;have fe:=ziM t.fe;have fT:=ziM t.fT;have hfs:∀b ∈ frs (X.env::X.outer),H' b=none:=by rw[<-hst];exact I2.stkFree
    refine znU (base:=X.base) (L:=X.env.locals) (by rw[<-hst];exact I2.ok.frames) (by rw[<-hst];exact I2.stack) hfm t.fly λh' T' hT' m fly'=>?_;have hch:∀b ∈ [ea,T],H' b=none/\Far X pins b:=λb hb=>by
     rcases zzA.mp hb with rfl|hb
     · exact⟨t.ne,fe⟩
     · rw[zzP.mp hb];exact⟨t.nT,fT⟩
    obtain⟨un2,hok2⟩:=zoW m I2.hok hfs λb hb=>(hch b hb).1;have I3:Inv X pins σ' H' {s' with heap:=h'}:=I2.call' (s':={s' with heap:=h'}) (ch:=[ea,T]) rfl (by rw[hst];exact un2) hok2 I2.bare λb hb=>(hch b hb).2;have hT2:H' T'=none:=I2.hok.fresh hT';have fT':Far X pins T':=by
     refine⟨.inr (zzM I2.sz hT'),λz=>absurd (zzI I2.lt hT') (by rw[z];exact Nat.lt_irrefl _),λy c z w=>?_,λp hp w=>?_⟩
     · obtain⟨v,o,z',_⟩:=I2.cell y c z;exact absurd (zzI (zxH z') hT') (by rw[w];exact Nat.lt_irrefl _)
     · exact absurd (zzI (zxH (I2.pin p hp).1) hT') (by rw[w];exact Nat.lt_irrefl _)
    refine wpAny_handleBy_cons (codeAny_handlers_test ?_) (by intro q;cases q);refine W9 (X:=inX X ea []) (znT I3 (λp z=>nomatch z)) hgS hmS ?_ hdS;have LT:PySem.W.Looks (model X.prog X.w) h' (typeOf (.ref ea)) (.ref (kd.c cn)):=by
     obtain⟨⟨oe,vs,z,zc,_⟩,_⟩:=fly';exact(PySem.W.Looks.ld z).andThen (by rw[zc];exact .now)
    refine(PySem.W.exm_one (K:=X.K) I3.kIn LT hex).here ?_;refine codeAny_handlers_suite_as ?_;refine land fly' λh2 m2 fly2 hsz=>?_;obtain⟨un3,hok3⟩:=zoW m2 I3.hok (λb z=>nomatch z) (λb z=>by rw[zzP.mp z];exact hT2);have I4:Inv X pins σ' H' {s' with heap:=h2}:=I3.call' (s':={s' with heap:=h2}) (ch:=[T']) rfl (un3.mono (λb z=>nomatch z) λb z=>z) hok3 I2.bare λb hb=>by rw[zzP.mp hb];exact fT'
    refine zbw I4 hN hj (.inl hjl) (v:=.ref ea) rfl (λs5 I5 hsame=>?_) hff;obtain⟨a5,sb5,ha5⟩:=hsame;have a5d:dx≠a5:=by
     rcases ha5 with z|z
     · rw[z];exact t.l
     · exact λw=>t.cl en a5 z w.symm
    have a5e:ea≠a5:=by
     rcases ha5 with z|z
     · rw[z];exact fe.2.1
     · exact λw=>fe.2.2.1 en a5 z w.symm
    obtain⟨⟨oe,vs,ge,ce,de,fv,_⟩,_,_⟩:=fly2;have xb5:XB ea (kd.c cn) dx s5.heap:=⟨oe,(sb5.2 ea a5e).trans ge,ce,de,vs,fv⟩;obtain⟨mA,⟨od,es',ep',gd,dd⟩,hrel⟩:=t.ns;have gd1:h'.get? dx=some od:=m.keep dx od (by rw[<-hst];exact t.fr) (λz=>by
     rcases zzA.mp z with z|z
     · exact t.d1 z
     · exact t.d2 (zzP.mp z)) gd
    have gd2:h2.get? dx=some od:=m2.keep dx od (λz=>nomatch z) (λz=>absurd (zzI (zxH gd) hT') (by rw[zzP.mp z];exact Nat.lt_irrefl _)) gd1;have gd5:s5.heap.get? dx=some od:=(sb5.2 dx a5d).trans gd2;have I6:=zmi (C:=kd.c cn) (an:=an) (v:=v) I5 t.ne t.nd t.d1 fe t.se t.l t.cl (λp hp=>t.pd p (zzN _ hp)) t.s0 xb5 ⟨mA,⟨od,es',ep',gd5,dd⟩,hrel⟩;have kn:∀b u,H' b=some u->upd (upd H' ea (.ext (XB ea (kd.c cn) dx))) dx (.xd [(an,v)]) b=some u:=λb u z=>by rw[zH (yf z t.nd),zH (yf z t.ne)];exact z
    obtain⟨R7,g7⟩:=R'.more kn;have R8:=R7.put (T:=[]) (v:=.ref ea) (o:=.lf true (.er cn an d)) hlt (.lf (Rp.er (dx:=dx) (v:=v) (λz=>R'.trk true _ z t.ne) (λz=>R'.trk true _ z t.nd) (by rw[zH (Ne.symm t.d1),zT]) zT (zoZ kn rp)));refine zxO (hs ea pins s5 _ _ {nx:=λσ6 H6=>∃ad6,Rel X.K kd F0 B0 [] ad6 as2 σ6 H6/\Grow (Gw [] (wO ad' j [])) _ (Gw [] ad6) H6,rt:=λ_ _=>False} (znT I6 (λp z=>nomatch z)) ⟨_,_,_,_,_,R8,h4,λσ6 ad6 H6 R6' g6=>⟨ad6,R6',g6⟩⟩) (λfl s6 z=>?_) λ_ _ z=>(hnx _ _ z).elim;cases fl with
    |ret u=>obtain⟨_,_,_,_,_,z⟩:=z;exact z.elim
    |brk=>obtain⟨_,_,_,z⟩:=z;exact z.elim
    |cont=>obtain⟨_,_,_,z⟩:=z;exact z.elim
    |next=>
     obtain⟨σ6,H6,I6',ad6,R6',g6⟩:=z;obtain⟨R9,le9⟩:=R6'.unset j;refine zlM (zqs I.ok I6') hN hj hjl λs7 I7=>⟨σ6.set j none,H6,I7, ?_⟩;refine q _ _ H6 R9 ?_;exact(g'.trans (g7.trans ((Grow.less λa z=>Zy a z).trans g6))).trans (Grow.less le9)
  · cases fl with
    |ret u=>obtain⟨_,_,_,_,_,z⟩:=z;exact z.elim
    |brk=>obtain⟨_,_,_,z⟩:=z;exact z.elim
    |cont=>obtain⟨_,_,_,z⟩:=z;exact z.elim
    |next=>obtain⟨_,_,_,z⟩:=z;exact z.elim)
end
structure XI(K:zC)(C:Addr)(an:Str):Prop where
 ga:PySem.W.findIn K (.ref C) "__getattribute__"=some (some (.builtin "BaseException.__getattribute__"))
 gh:PySem.W.findIn K (.ref C) "__getattr__"=some none
 mb:PySem.W.mroIn K C (.type "BaseException")=some true
 hd:PySem.W.hasDictIn K C=true
 ha:PySem.W.findIn K (.ref C) "__class__"=some (some (.builtin "object.__class__"))
 hn:PySem.W.specialIn K (.builtin "object.__class__") "__get__"=some (some (.builtin "getset_descriptor.__get__"))
 ht:PySem.W.takesIn K (.builtin "object.__class__")=some true
 hm:PySem.W.mroIn K C (.type "object")=some true
 at_:PySem.W.findIn K (.ref C) an=some none
section
open PySem.W
variable{prog:Program}{w:World}{A:Around}{E:Value->Shared->Prop}{s:Shared}{K:Frag}{x C:Addr}{ox:Obj}{od:Obj}{name an:Str}{tk:Tok}
def zlf{fill expr:Bool}{Q:Value->Shared->Prop}(Z:XI K C an)(X:K.In s.heap)(I:InstAt s.heap x ox C (some od))
 (h:wpAny (model prog w) A.in1 (Builtin.«object.__getattribute__» ⟨[.ref x,.str name tk],[]⟩) (λfin s'=>match fin with | .done (.ret v)=>wpAny (model prog w) A (handedOut v) Q E s'|_=>False) (λ_ _=>False) s):
 wpAny (model prog w) A (getAttrBy (.ref x) (.str name tk) fill expr) Q E s:=by
 have FX:=PySem.F.excAttr_ValueError;have L0:=I.type (M:=model prog w);have L1:=looks_findIn (M:=model prog w) X Z.ga;have L2:Looks (model prog w) s.heap (hookBefore (.ref C)) none:=by
  unfold hookBefore;rw[if_pos (show onTheHeap (Value.ref C)=true from rfl)];exact looks_findIn X Z.gh
 have sb:Looks (model prog w) s.heap (isInstance (.ref x) (.type "BaseException")) true:=L0.andThen (looks_mroIn X Z.mb);unfold getAttrBy;refine zxK (zxE (L0.here (zxE (L1.here ?_))));dsimp only;rw[show(onTheHeap (Value.ref C)&&Value.builtin "BaseException.__getattribute__"==Value.builtin "object.__getattribute__")=false from by rw[show(Value.builtin "BaseException.__getattribute__"==Value.builtin "object.__getattribute__")=false from by decide +kernel,Bool.and_false],if_neg (by decide)];unfold getAttrByItsOwn;refine zxE (L2.here (zxE (wpAny_attempt (zxK ?_))));unfold callGetattribute;rw[show(expr&&onTheHeap (Value.builtin "BaseException.__getattribute__"))=false from Bool.and_false _,if_neg (by decide)];unfold boundAndCalled;rw[FX.ga.bind];refine zxE (zxF ?_);show wpAny _ _ (call (.builtin "BaseException.__getattribute__") [.ref x,.str name tk]) _ _ _;refine wpAny_call (codeAny_call_builtin FX.ga.plain PySem.F.entry_bexc_ga ?_);refine @check_slot (model prog w) _ _ s "BaseException.__getattribute__" "BaseException" "__getattribute__" (.ref x) [.str name tk] [] _ (by decide +kernel) (by decide +kernel) sb (PySem.F.args_bexc_ga (.ref x) (.str name tk)) ?_;refine zxO h (λfin s' z=>?_) λ_ _ z=>z.elim
 rcases fin with(_|_|_|_)|_<;>first|exact z|exact z.elim
def zja{v:Value}{expr:Bool}{Q:Value->Shared->Prop}(Z:XI K C an)(X:K.In s.heap)(I:InstAt s.heap x ox C (some od))(hf:findObj K C (some od) name=some (.value v))(hh:handedIn v=true)(h:Q v {s with toks:=s.toks+1}):
 wpAny (model prog w) A (getAttr (.ref x) name expr) Q E s:=by
 unfold getAttr;refine zxE (wpAny_mkText (zlf (s:={s with toks:=s.toks+1}) Z X I ?_));obtain⟨h',g,d,t,os⟩:=s;have L0:=I.type (M:=model prog w);have L1:=looks_find (M:=model prog w) X I hf;refine zxE (zxF (zxE (zxF (zxE (L0.at (zxE (L1.at ?_)))))));refine zxF ?_;show wpAny _ _ (handedOut v) _ _ _;rw[handedOut_of hh];exact zxF h
def zjn{Q:Option Value->Shared->Prop}(Z:XI K C an)(X:K.In s.heap)(I:InstAt s.heap x ox C (some od))(h:Q (some (.ref C)) {s with toks:=s.toks+1}):wpAny (model prog w) A (getAttr? (.ref x) "__class__") Q E s:=by
 have hf:findObj K C (some od) "__class__"=some (.bind (.builtin "getset_descriptor.__get__") (.builtin "object.__class__")):=findObj_data (by obtain⟨cd,hc,_⟩:=any_some Z.hd;rw[hc];rfl) Z.ha Z.hn Z.ht;unfold getAttr?;refine zxE (wpAny_mkText ?_);unfold getAttrBy?;refine zxE (wpAny_attempt (zlf (s:={s with toks:=s.toks+1}) Z X I ?_));obtain⟨h',g,d,t,os⟩:=s;have L0:=I.type (M:=model prog w);have L1:=looks_find (M:=model prog w) X I hf;refine zxE (zxF (zxE (zxF (zxE (L0.at (zxE (L1.at ?_)))))));show wpAny _ _ (Builtin.ObjectAttr.bindTo _ _ _ _) _ _ _;show wpAny _ _ (holding [.builtin "object.__class__"] (call (.builtin "getset_descriptor.__get__") [.builtin "object.__class__",.ref x,.ref C]) >>= ret) _ _ _;refine zxE (zxK (wpAny_call (class_get (s:=⟨h',g,d,t+1,os⟩) (ox:=ox) (od:=some od) X I Z.hm ?_)));refine zxF ?_;show wpAny _ _ (handedOut (.ref C)) _ _ _;rw[handedOut_of rfl];exact zxF (zxF h)
end
section
variable{X:Cx}{kd:KD}{pins:List (Addr×Obj)}{σ:St}{H:Hp}{s:Shared}{e C dx:Addr}{k:Int}{oe od:Obj}
def zig{K:zC}{x C:Addr}{an:Str}{ox od:Obj}(Z:XI K C an):PySem.W.KitX K (.ref x) (.ref C) (λh=>PySem.W.InstAt h x ox C (some od))where
 ty:=λ_ _ _ I=>I.type
 it:=λ_ _ X _=>by
  obtain⟨cdD,hcD,_⟩:=PySem.W.any_some Z.hd;unfold PySem.W.clsIn at hcD
  split at hcD
  · rename_i c' d' cd' sl' ho;intro A' Q' E' s' k q;unfold isType loadHead;exact zxE (wpAny_loadPart (k _ _ (X _ _ ho)) (zxF q))
  · cases hcD
 ne:=λh tp dd its n sl X htp=>by
  obtain⟨cdD,hcD,_⟩:=PySem.W.any_some Z.hd;refine Bool.eq_false_iff.mpr λq=>?_;have e:C=tp:=Value.ref.inj (beq_iff_eq.mp q);subst e;unfold PySem.W.clsIn at hcD
  split at hcD
  · rename_i c' d' cd' sl' ho;have z:=(X _ _ ho).symm.trans htp;cases z
  · cases hcD
 ca:=λX I k=>zjn Z X I k
def zgv{a:Addr}{c an:Str}{v:V}(I:Inv X pins σ H s)(h1:H a=some (.ext (XB a (kd.c c) dx)))(h2:H dx=some (.xd [(an,v)])):∃ox od,PySem.W.InstAt s.heap a ox (kd.c c) (some od)/\∃u,RelV v u/\PySem.W.lookIn an od=some (some u):=by
 obtain⟨⟨o,g1,g2,g3,vs,g4⟩,_,_⟩:=I.hok a _ h1;obtain⟨mA,hNs,hrel⟩:=I.hok dx _ h2;obtain⟨od,ho,hl⟩:=zlG hNs;refine⟨o,od,⟨g1,g2, ?_, ?_⟩, ?_⟩
 · unfold PySem.W.notCls;rw[g4]
 · rw[g3];exact ho
 · have z:=hrel an;rw[show([(an,v)]:List (Str×V)).lookup an=some v from by rw[List.lookup_cons,beq_self_eq_true]]at z;obtain⟨u,e,r⟩:=WK.some_of z;exact⟨u,r,by rw[hl,e]⟩
def zfk(c an:Str)(b:Bool):D->Option R0
 | .er c' an' _=>if c'=c/\an'=an then some (.im (.bl b))else none
 |_=>none
def erP(c an:Str):D->Option R0
 | .er c' an' d=>if c'=c/\an'=an then some (.im d)else none
 |_=>none
variable{x y en an c:Str}{p p1 p2 pos:Pos}{b:Bool}{a:Expr}{fa:EF}
def zod{b:Bool}{cv:Value}{w:V}(Z:XI X.K (kd.c c) an)(hc:∀u,RelV w u->u=cv)(hk:PySem.W.kitOne X.K (.ref (kd.c c)) cv=some b):
 XF X (.builtin "isinstance") (λxs H Q=>∃e dx v,xs=[.ref e,w]/\H e=some (.ext (XB e (kd.c c) dx))/\H dx=some (.xd [(an,v)])/\Q (.bl b) H):=by
 intro pins s σ H xs us Q I r ⟨e,dx,v,ex,h1,h2,q⟩;subst ex;cases r with
 |cons r1 r2=>
  cases r2 with
  |cons r2 r3=>
   cases r3;cases(show _=Value.ref e from r1);cases hc _ r2;obtain⟨ox,od,hi,_⟩:=zgv I h1 h2;exact PySem.W.kia_one (zig Z) I.kIn hi hk (λz=>nomatch z) λtk=>⟨.bl b,H,I.tok tk,rfl,q⟩
def zlw{b:Bool}{cs:List Addr}(Z:XI X.K (kd.c c) an)(hk:PySem.W.kitAny X.K (.ref (kd.c c)) (cs.map .ref)=some b):
 XF X (.builtin "isinstance") (λxs H Q=>∃e dx v t,xs=[.ref e,.ref t]/\H e=some (.ext (XB e (kd.c c) dx))/\H dx=some (.xd [(an,v)])/\H t=some (.tup (cs.map .ref))/\Q (.bl b) H):=by
 intro pins s σ H xs us Q I r ⟨e,dx,v,t,ex,h1,h2,ht,q⟩;subst ex;cases r with
 |cons r1 r2=>
  cases r2 with
  |cons r2 r3=>
   cases r3;cases(show _=Value.ref e from r1);cases(show _=Value.ref t from r2);obtain⟨_,its,rv,⟨o,g1,g2,n,g3⟩⟩:=I.hok t _ ht;have ei:∀{l:List Addr}{us:List Value},Vals (l.map V.ref) us->us=l.map Value.ref:=by
    intro l
    induction l with
    |nil=>intro us r;cases r;rfl
    |cons a l ih=>
     intro us r;cases r with
     |cons ra rb=>
      cases(show _=Value.ref a from ra);rw[ih rb];rfl
   cases ei rv;obtain⟨oc,odd,odt,osl⟩:=o;dsimp only at g2 g3;subst g2;subst g3;obtain⟨ox,od,hi,_⟩:=zgv I h1 h2;exact PySem.W.kia_tup (zig Z) I.kIn hi g1 hk (λz=>nomatch z) λtk=>⟨.bl b,H,I.tok tk,rfl,q⟩
def Yr(hg:Gl X x)(hm:X.mg x=some (.ref C))(hd:(x==("__debug__":Str))=false:=by decide):PE X (.Name x p) (tC (.ref C)):=λ_ _ _ H _ I q=>W9 I hg hm ⟨.ref C,H,I,rfl,q⟩ hd
def zgt(h:f1 fa g as=some (r,as')):∃p d lv r0,fa as=some (p,as')/\p.frz.view as'=some (d,lv)/\g d=some r0/\wrap lv r0=some r:=by
 obtain⟨⟨p,as1⟩,h1,h⟩:=bS_ (show(fa as).bind _=_ from h);obtain⟨⟨d,lv⟩,h2,h⟩:=bS_ h;obtain⟨r0,h3,h⟩:=bS_ h;obtain⟨z,h4,h⟩:=bS_ h;cases h;exact⟨p,d,lv,r0,h1,h2,h3,h4⟩
def zkB(h:zfk c an b d=some r):∃d',d = .er c an d'/\r = .im (.bl b):=by
 cases d with
 |er c' an' d'=>
  obtain⟨⟨rfl,rfl⟩,e⟩:=zQ (show(if c'=c/\an'=an then some (R0.im (.bl b))else none)=some r from h);exact⟨d',rfl,e.symm⟩
 |_=>cases h
def zrZ(h:erP c an d=some r):∃d',d = .er c an d'/\r = .im d':=by
 cases d with
 |er c' an' d'=>
  obtain⟨⟨rfl,rfl⟩,e⟩:=zQ (show(if c'=c/\an'=an then some (R0.im d')else none)=some r from h);exact⟨d',rfl,e.symm⟩
 |_=>cases h
def zjH{C:Addr}{cv:Value}{w:V}{ec:Expr}(hC:kd.c c=C)(Z:XI X.K C an)(hc:∀u,RelV w u->u=cv)(hk:PySem.W.kitOne X.K (.ref C) cv=some b)
 (hg:Gl X x) (hm:X.mg x=none) (hv:bootBuiltins x=some (.builtin "isinstance")) (ha:AE X kd a fa) (hcl:PE X ec (tC w))
 (hn:x≠"__name__") (hdb:(x==("__debug__":Str))=false) (he:starEach [a,ec] X.env=(false,eval a X.env)::starEach [ec] X.env) (he2:starEach [ec] X.env=(false,eval ec X.env)::starEach [] X.env) (hpl:(backTo pos (starEach [ec] X.env)).any (·.1)=false):
 AE X kd (.Call (.Name x p) [a,ec] [] pos) (f1 fa (zfk c an b)):=by
 subst hC
 with_unfolding_all exact(yV (zak (zod (b:=b) Z hc hk) hg hm hv (yZ ha (yZ hcl Yu he2) he) hn hdb he hpl) λσ H Q h=>by
  obtain⟨F,B,ad,as,r,as',R,e,q⟩:=h;obtain⟨p,d,lv,r0,h1,h2,h3,h4⟩:=zgt e;obtain⟨d',rfl,rfl⟩:=zkB h3;refine v7 R h1 λv ad1 H1 R1 rv1 g1=>?_;have vw:=wB.vw R1 rv1 h2;have rq:=vM R1 h4 λw T' H' R' rv' g'=>q w T' ad1 H' R' rv' (g1.trans g');cases vw with
  |er z1 z2 z3=>exact⟨_,_,_,rfl,z1,z2,rq (.bl b) H1 (λ_ _ z=>z) (.bl b)⟩)
def zpr{C:Addr}{cs:List Addr}{es:List Expr}{ctx:Nat}{t:TA}(hC:kd.c c=C)(Z:XI X.K C an)(hk:PySem.W.kitAny X.K (.ref C) (cs.map .ref)=some b)(hz:cs.length<=1000)
 (hg:Gl X x) (hm:X.mg x=none) (hv:bootBuiltins x=some (.builtin "isinstance")) (ha:AE X kd a fa) (hes:PA X es t) (ht:∀σ H Q,Q (cs.map .ref) H->t σ H Q)
 (hn:x≠"__name__") (hdb:(x==("__debug__":Str))=false) (he:starEach [a,.Tuple es ctx p2] X.env=(false,eval a X.env)::starEach [.Tuple es ctx p2] X.env) (he2:starEach [.Tuple es ctx p2] X.env=(false,eval (.Tuple es ctx p2) X.env)::starEach [] X.env) (hpl:(backTo pos (starEach [.Tuple es ctx p2] X.env)).any (·.1)=false):
 AE X kd (.Call (.Name x p) [a,.Tuple es ctx p2] [] pos) (f1 fa (zfk c an b)):=by
 subst hC
 with_unfolding_all exact(yV (zak (zlw (b:=b) Z hk) hg hm hv (yZ ha (yZ (zoU hes) Yu he2) he) hn hdb he hpl) λσ H Q h=>by
  obtain⟨F,B,ad,as,r,as',R,e,q⟩:=h;obtain⟨p,d,lv,r0,h1,h2,h3,h4⟩:=zgt e;obtain⟨d',rfl,rfl⟩:=zkB h3;refine v7 R h1 λv ad1 H1 R1 rv1 g1=>?_;have vw:=wB.vw R1 rv1 h2;have rq:=vM R1 h4 λw T' H' R' rv' g'=>q w T' ad1 H' R' rv' (g1.trans g');cases vw with
  |er z1 z2 z3=>
   refine ht σ H1 _ ⟨by rw[zD,sizeLine_eq];omega,λq hq=>?_⟩;have k:∀b u,H1 b=some u->upd H1 q (.tup (cs.map .ref)) b=some u:=λb u y=>by rw[zH (yf y hq)];exact y
   exact⟨_,_,_,q,rfl,k _ _ z1,k _ _ z2,zT,rq (.bl b) _ k (.bl b)⟩)
def zrP(hC:kd.c c=C)(Z:XI X.K C an)(ha:AE X kd a fa)(hb:attributeBase a an X.env (eval a X.env)=eval a X.env):
 AE X kd (.Attribute a an pos) (f1 fa (erP c an)):=by
 subst hC
 with_unfolding_all (
 intro pins s σ H Q I z;obtain⟨F,B,ad,as,r,as',R,e,q⟩:=z;obtain⟨p,d,lv,r0,h1,h2,h3,h4⟩:=zgt e;obtain⟨d',rfl,rfl⟩:=zrZ h3;refine zpD hb (thn (ha pins s σ H (λv H'=>∃ad1,Rel X.K kd F B [] ad1 as' σ H'/\wB X.K kd F B [] ad1 σ H' v p.frz/\Grow (Gw [] ad) H (Gw [] ad1) H') I (v7 R h1 λv ad1 H1 R1 rv1 g1=>⟨ad1,R1,rv1,g1⟩)) λu s1 ⟨v,H1,I1,r1,ad1,R1,rv1,g1⟩=>?_);have vw:=wB.vw R1 rv1 h2;have rq:=vM R1 h4 λw T' H' R' rv' g'=>q w T' ad1 H' R' rv' (g1.trans g');cases vw with
 |er z1 z2 z3=>
  rename_i ea dx v;cases(show u=Value.ref ea from r1);obtain⟨ox,od,hi,u,ru,hl⟩:=zgv I1 z1 z2;exact zja Z I1.kIn hi (PySem.W.findObj_own Z.hd Z.at_ rfl hl) (zlS ru) ⟨v,H1,I1.tok _,ru,rq v H1 (λ_ _ z=>z) z3⟩)
end
section
variable{K:zC}{kd:KD}{F B:Addr->Prop}{T:List Addr}{ad:Ad}{as:AS}{σ:St}{H:Hp}{i:Nat}{o:O}{v:V}
def zfC:Gw (ad i) (wO ad i []) a ↔ Gw [] ad a:=by
 constructor
 · rintro(z|⟨j,z⟩)
   · exact .inr ⟨i,z⟩
   · by_cases e:j=i
     · subst e;rw[zO]at z;cases z
     · rw[zV e]at z;exact .inr ⟨j,z⟩
 · rintro(z|⟨j,z⟩)
   · cases z
   · by_cases e:j=i
     · subst e;exact .inl z
     · exact .inr ⟨j,by rw[zV e];exact z⟩
def Rel.mv(R:Rel K kd F B [] ad as σ H)(h:as[i]? = some (some o)):
 Rel K kd F B (ad i) (wO ad i []) (as.set i none) σ H/\∃v,σ[i]? = some (some v)/\RoS K kd F B (Gw (ad i) (wO ad i [])) H v o (ad i):=by
 have hi:i<as.length:=(zzE.mp h).1;obtain⟨v,hv,ro⟩:=R.sl i _ h;refine⟨⟨by rw[zzS];exact R.len,λj hj=>?_,λj=>?_,λj k a h1 h2=>?_,R.nd i,λj a h1 h2=>?_,R.ftr,λa h1=>?_,λa h1=>R.gtr a (zfC.mp h1),λj s e=>?_⟩,v,hv,ro.less λa z=>zfC.mp z⟩
 · rw[zzS]at hj;rw[zV (by omega)];exact R.out j hj
 · by_cases e:j=i
   · subst e;rw[zO];exact zyH
   · rw[zV e];exact R.nd j
 · by_cases e:j=i
   · subst e;rw[zO]at h1;cases h1
   · rw[zV e]at h1
     by_cases e':k=i
     · subst e';rw[zO]at h2;cases h2
     · rw[zV e']at h2;exact R.inj j k a h1 h2
 · by_cases e:j=i
   · subst e;rw[zO]at h1;cases h1
   · rw[zV e]at h1;exact e (R.inj j i a h1 h2)
 · obtain⟨b1,b2,b3⟩:=R.btr a h1;exact⟨b1,b2,λz=>b3 (zfC.mp z)⟩
 · by_cases q:j=i
   · subst q;rw[zyI hi]at e;cases e;rw[zO];exact(rfl:([]:List Addr)=[])
   · rw[zzW (Ne.symm q)]at e;rw[zV q];have:=R.sl j s e;cases s with
     |none=>exact this
     |some o'=>
      obtain⟨w,hw,rw'⟩:=this;exact⟨w,hw,rw'.less λa z=>zfC.mp z⟩
end
structure RoomQ(k:Nat)(A:Around):Prop where
 dp:A.depth+3*k+5<recursionLimit
 un:A.units+16*k+200<cLine
structure FnQ(P:Program)(w:World)(K:zC)(mg:Str->Option Value)(base:Heap)(k:Nat)(f:Addr)(fd:FuncData)(ps:List Str)(sp:Sp):Prop where
 len:∀vs H Q E,sp vs H Q E->vs.length=ps.length
 run:∀(A:Around) (outer:List Env) (s:Shared) (H:Hp) (args:Args) (us:List Value) (vs:List V) (Q:VK) (E:XK),RoomQ k A->Env0 P w K mg base A outer s H->BindsTo s fd args (ps.zip us)->Vals vs us->sp vs H Q E->
  codeAny (model P w) A (.call (.ref f) args) (CR CX0 outer P w H s Q E) s
theorem zkU(h:Ro L N H v o' T):∀(os:List O) {vs:List V}{fp:List Addr}{k:Nat},RoL L N H vs os fp->k<os.length->
 ∃fp',(∀a ∈ fp',a ∈ fp\/a ∈ T)/\(fp.Nodup->T.Nodup->(∀a ∈ fp,a ∉ T)->fp'.Nodup)/\RoL L N H (vs.set k v) (os.set k o') fp'
 | [],_,_,_,_,e=>absurd e (Nat.not_lt_zero _)
 |o1::os,_,_,k,r,e=>by
  cases r with
  |cons a r=>
   rename_i w vs f g;cases k with
   |zero=>
    refine⟨T++g,λa m=>(zzK.mp m).elim .inr λz=>.inl (zzJ _ z),λn1 n2 n3=>?_,.cons h r⟩;obtain⟨_,m2,_⟩:=zxD.mp n1;exact zxD.mpr ⟨n2,m2,λa m b m' e=>by subst e;exact n3 a (zzJ _ m') m⟩
   |succ k=>
    obtain⟨fp',h1,h2,h3⟩:=zkU h os (k:=k) r (by simpa using e);refine⟨f++fp',λa m=>(zzK.mp m).elim (λz=>.inl (zzN _ z)) λz=>(h1 a z).elim (λy=>.inl (zzJ _ y)) .inr,λn1 n2 n3=>?_,.cons a h3⟩;obtain⟨m1,m2,m3⟩:=zxD.mp n1;refine zxD.mpr ⟨m1,h2 m2 n2 λa m=>n3 a (zzJ _ m),λa m b m' e=>?_⟩;subst e;exact(h1 a m').elim (λy=>m3 a m a y rfl) λy=>n3 a (zzN _ m) y
def zdy(i:Nat)(f:IXF)(fe:EF):SF:=λas=>(fe as).bind λp=>match p.1 with
 | .ow o'=>(f p.2).bind λk=>if 0<=k then(slO Ze p.2 i).bind λos=>if k.toNat<os.length then some (.nx (p.2.set i (some (.nd .ls (os.set k.toNat o')))))else none else none
 | .bo _=>none
section
variable{X:Cx}{kd:KD}{n:Nat}{f:IXF}{fe:EF}{e1 ev:Expr}{i:Nat}
def zlb(ho:PE X (.Name x p) (Ws i))(h1:AK X kd e1 f)(hv:AE X kd ev fe)
 (ha:∀v,assign (.Subscript (.Name x p) e1 tpos) X.env v=(do
  let ov <-holding [v] (eval (.Name x p) X.env);let iv <-holding [v,ov] (eval e1 X.env)
  standAt tpos
  holding [v,ov,iv] (setItem ov iv v)
  release [v,ov,iv] []))
 (hs:swapsWithSole [.Subscript (.Name x p) e1 tpos] ev pos.line X.env=pure false) (hw:swappedStores [.Subscript (.Name x p) e1 tpos] ev X.env=pure none)
 (hm:(assignEach [.Subscript (.Name x p) e1 tpos] X.env).map (·.2)=[assign (.Subscript (.Name x p) e1 tpos) X.env]):
 ASt X kd (.Assign [.Subscript (.Name x p) e1 tpos] ev pos) (zdy i f fe):=by
 with_unfolding_all exact(vd (zbF hv (zdB ho h1 set_list ha) hs hw hm) λD σ H h=>by
  obtain⟨F,B,ad,as,o,R,e,q⟩:=h;obtain⟨⟨r,as1⟩,j1,e⟩:=bS_ (show(fe as).bind _=_ from e);cases r with
  |bo _=>cases e
  |ow o'=>
   obtain⟨k,j2,e⟩:=bS_ (show(f as1).bind _=_ from e);obtain⟨hk,e⟩:=ite_some' e;obtain⟨os,e1,e⟩:=bS_ e;obtain⟨hl,e⟩:=zQ e;have k1:=zlL e1;cases e;refine⟨F,B,ad,as,_,as1,R,j1,λv T1 ad1 H1 R1 rv1 g1=>?_⟩;obtain⟨w,hw,ro⟩:=R1.sl i _ k1;generalize hfp:ad1 i=fp1 at ro;cases ro with
   |ls hH rl=>
    rename_i l vs fp;have rv:RoS X.K kd F B (Gw T1 ad1) H1 v o' T1:=rv1;obtain⟨fp',c1,c2,c3⟩:=zkU rv os rl hl;have hnd:=R1.nd i;rw[hfp]at hnd;have hdis:∀a ∈ fp,a ∉ T1:=λa m=>R1.dis i a (by rw[hfp];exact zzB _ m);obtain⟨R2,g2⟩:=R1.mut (fo:=[]) (n:=.nd .ls (os.set k.toNat o')) (u:=.lst (vs.set k.toNat v)) (zzE.mp k1).1 hfp hw (fp':=fp') (λa m=>by
     rw[zyC]at m;exact zzK.mpr (c1 a m)) (by rw[zyC];exact c2 (zzU.mp hnd).2 R1.tnd hdis) (by rw[hH];simp) λH' G' hl' gr kp=>.ls hl' (vZ.grow gr kp c3)
    exact⟨_,hw,F,B,ad1,as1,k,R1.drop,j2,l,vs,k,k.toNat,rfl,rfl,hH,zdm hk (by rw[zdb rl];exact hl),q σ _ _ R2 (g1.trans g2)⟩)
def zsu{C:Addr}{an:Str}{gf:GF2}{x:Str}{p tpos pos:Pos}(ho:PE X (.Name x p) (Ws i))(h1:AK X kd e1 f)(hv:AXE X kd C an ev gf)
 (ha:∀v,assign (.Subscript (.Name x p) e1 tpos) X.env v=(do
  let ov <-holding [v] (eval (.Name x p) X.env);let iv <-holding [v,ov] (eval e1 X.env)
  standAt tpos
  holding [v,ov,iv] (setItem ov iv v)
  release [v,ov,iv] []))
 (hs:swapsWithSole [.Subscript (.Name x p) e1 tpos] ev pos.line X.env=pure false) (hw:swappedStores [.Subscript (.Name x p) e1 tpos] ev X.env=pure none)
 (hm:(assignEach [.Subscript (.Name x p) e1 tpos] X.env).map (·.2)=[assign (.Subscript (.Name x p) e1 tpos) X.env]):
 AX X kd C an (.Assign [.Subscript (.Name x p) e1 tpos] ev pos) gf:=by
 with_unfolding_all exact(vd (zbF hv (zdB ho h1 set_list ha) hs hw hm) λD σ H h=>h)
end
def zrp:List O->Option (Bool×D)
 | [.lf st d]=>some (st,d)
 |_=>none
def zng{os:List O}{st:Bool}{d:D}(h:zrp os=some (st,d)):os=[.lf st d]:=by
 match os,h with
 | [.lf _ _],h=>cases h;rfl
def zmU(i n:Nat)(fr:DF):SF:=λas=>(slO Ze as i).bind λos=>(atO Ze os n).bind λinner=>(fr (as.set i none)).bind λp=>(zrp p.1).bind λx=>if inner.length<sizeLine/\i<p.2.length then some (.nx (p.2.set i (some (.nd .ls (os.set n (.nd .ls (inner++[.lf x.1 x.2])))))))else none
section
variable{X:Cx}{kd:KD}{i:Nat}{fr:DF}{e:Expr}
def zdw{K:zC}{F B G:Addr->Prop}{H:Hp}{v:V}{es:List O}{fp:List Addr}(h:RoS K kd F B G H v (.nd .ls es) fp):∃p vs fq,v = .ref p/\fp=p::fq/\H p=some (.lst vs)/\vZ K kd F B G H vs es fq:=by
 cases h with
 |ls hp r=>exact⟨_,_,_,rfl,rfl,hp,r⟩
def zow{xi:Str}{j n:Nat}{p1 p2 p3 apos cpos pos':Pos}(h1:PE X (.Name xi p1) (Ws i))(h2:PE X (.Constant (.int (n:Int)) j p2) (tC (.int (n:Int))))(hp:Zw (.Constant (.int (n:Int)) j p2))(ha:AD X kd [e] fr)
 (hbase:attributeBase (.Subscript (.Name xi p1) (.Constant (.int (n:Int)) j p2) p3) "append" X.env (eval (.Subscript (.Name xi p1) (.Constant (.int (n:Int)) j p2) p3) X.env)=eval (.Subscript (.Name xi p1) (.Constant (.int (n:Int)) j p2) p3) X.env)
 (hfew:((backTo cpos (starEach [e] X.env)).all (λx=>!x.1)&&(backToKw cpos (keywordEach [] X.env)).all (λx=>x.1.isSome)
  && decide (([e]:List Expr).length+([]:List Keyword).length+(if([]:List Keyword).isEmpty then 0 else 1)<30))=true)
 (hline:(apos.endLine==cpos.line)=true) (hs:starEach [e] X.env=(false,eval e X.env)::starEach [] X.env) (hplain:(backTo cpos (starEach [] X.env)).any (·.1)=false)
 (hsw:swapsWith (.Call (.Attribute (.Subscript (.Name xi p1) (.Constant (.int (n:Int)) j p2) p3) "append" apos) [e] [] cpos) none pos'.line X.env=pure false):
 ASt X kd (.Expr (.Call (.Attribute (.Subscript (.Name xi p1) (.Constant (.int (n:Int)) j p2) p3) "append" apos) [e] [] cpos) pos') (zmU i n fr):=by
 with_unfolding_all exact(vd (zau (zob PySem.F.plainAttrs_list PySem.F.slot_list_append PySem.F.type_list_append zfT (zdK WW h1 h2 hp) ha hbase hfew hline hs hplain) hsw) λD σ H h=>by
  obtain⟨F,B,ad,as,o,R,e,q⟩:=h;obtain⟨os,e1,e⟩:=bS_ (show(slO Ze as i).bind _=_ from e);obtain⟨inner,e2,e⟩:=bS_ e;obtain⟨⟨os1,as1⟩,g1,e⟩:=bS_ e;obtain⟨⟨st,d⟩,e3,e⟩:=bS_ e;obtain⟨⟨z1,z2⟩,e⟩:=zQ e;cases e;cases zng e3;have k1:=zlL e1;have k2:=zqy e2;obtain⟨R',v,hv,ro⟩:=R.mv k1;have hn:=R.nd i;have hG:∀a ∈ ad i,Gw (ad i) (wO ad i []) a:=λa m=>.inl m;obtain⟨l,vs,w,f,rfl,hH,hvs,rw0,fn,fs,_⟩:=zez ro hn hG k2;obtain⟨L,ivs,fq,rfl,ef,hL,_⟩:=zdw rw0;have hLi:L ∈ ad i:=fs L (by rw[ef];exact zzD ..);have hli:l ∈ ad i:=by
   obtain⟨l',_,fq',el,efp,_,_⟩:=zdw ro;cases el;rw[efp];exact zzD ..
  refine⟨_,hv,l,vs,(n:Int),.ref L,rfl,rfl,.inl (.inl hH),ZM (j:=n) hvs,.inl ⟨rfl,ivs,.inl (.inl hL)⟩,F,_,wO ad i [],as.set i none,_,as1,R'.hide,g1,λws1 T1 ad1 H1 R1 ro1 gr1=>?_⟩;cases ro1 with
  |cons a r=>
   cases r;cases a with
   |lf rp=>
    rename_i w1;have R1:Rel X.K kd F (λa=>B a\/a ∈ ad i) [] ad1 as1 σ H1:=R1;have nG:∀a ∈ ad i,¬Gw [] (wO ad i []) a:=λa m z=>z.elim (λy=>nomatch y) λ⟨j,y⟩=>R'.dis j a y m;have kp:∀a ∈ ad i,∀u,H a=some u->H1 a=some u:=λa m u hu=>gr1.keep a u hu (nG a m);have Ru:=R1.unhide (T1:=ad i) (T2:=[]) hn λa m z=>(R.btr a z).2.2 (.inr ⟨i,m⟩);rw[zyC]at Ru;have g2:Grow (Gw (ad i) (wO ad i [])) H (Gw (ad i) ad1) H1:=⟨λb u hb nb=>gr1.keep b u hb λz=>nb (Gw.drop b z),λb z=>by
     rcases z with z|z
     · exact .inl (.inl z)
     · exact(gr1.own b (.inr z)).imp (λy=>Gw.drop b y) id⟩
    have ro2:=RoS.grow g2 kp ro;have hG2:∀a ∈ ad i,Gw (ad i) ad1 a:=λa m=>.inl m;obtain⟨l',vs',w',f',el,hH',hvs',rw1,fn',fs',up1⟩:=zez ro2 hn hG2 k2;cases el;rw[kp l hli _ hH]at hH';cases hH';rw[hvs]at hvs';cases hvs';obtain⟨L',ivs',fq',eL,ef',hL',ir⟩:=zdw rw1;cases eL;rw[kp L hLi _ hL]at hL';cases hL';have rp2:Rp X.K kd (Lv F B (Gw (ad i) ad1) st) H1 w1 d:=by
     have:=rp.less (W8 (F:=F) (B:=B) (T1:=ad i) (T2:=[]) (ad:=ad1) st);rw[zyC]at this;exact this
    have gL:Gw (ad i) ad1 L:=.inl hLi;have hLq:L ∉ fq':=by rw[ef']at fn';exact(zzU.mp fn').1
    have rw2:RoS X.K kd F B (Gw (ad i) ad1) (upd H1 L (.lst (ivs++[w1]))) (.ref L) (.nd .ls (inner++[.lf st d])) f':=by
     rw[ef'];exact .ls zT (zik (Rp.grow (YG gL) rp2) inner (vZ.grow (YG gL) (λx m w h=>by rw[zH (λe=>hLq (by subst e;exact m))];exact h) ir))
    have ro3:=up1 L _ _ (by rw[ef'];exact zzD ..) rw2;obtain⟨R3,g3⟩:=Ru.wrT (u:=.lst (ivs++[w1])) hLi;have R4:=R3.put z2 ro3;have es:σ.set i (some (.ref l))=σ:=by
     refine List.ext_getElem? λj=>?_
     by_cases q:i=j
     · subst q;rw[zyI (zzE.mp hv).1,hv]
     · rw[zzW q]
    rw[es]at R4;refine⟨L,ivs,w1,rfl,rfl,kp L hLi _ hL, ?_,q σ _ _ R4 ⟨λb u hb nb=>?_,λb z=>?_⟩⟩
    · rw[zdb ir];exact z1
    · have n1:b ∉ ad i:=λm=>nb (.inr ⟨i,m⟩);rw[zH (λe=>n1 (by rw[e];exact hLi))];exact gr1.keep b u hb λy=>nb (zfC.mp (Gw.drop b y))
    · rcases z with z|⟨j,z⟩
      · exact nomatch z
      · by_cases e:j=i
        · subst e;rw[zO]at z;exact .inl (.inr ⟨j,z⟩)
        · rw[zV e]at z;exact(gr1.own b (.inr ⟨j,z⟩)).imp (λy=>zfC.mp (Gw.drop b y)) id)
end
section
variable{X:Cx}{kd:KD}{a b c:Expr}{fa fb fc:EF}{pos:Pos}{g g':D->D->Option R0}
def znX{K:zC}{kd:KD}{σ:St}{H:Hp}{Q:VK}(h:al K kd (X8 fa fb fc g g') σ H Q):zmz (λx y H Q=>∃O d e r,(∀a,O a->H a≠none)/\Vw K kd O H x d/\Vw K kd O H y e/\g d e=some r/\RQ K kd O H Q r) (λx y H Q=>∃O d e r,(∀a,O a->H a≠none)/\Vw K kd O H x d/\Vw K kd O H y e/\g' d e=some r/\RQ K kd O H Q r) (al K kd fa) (al K kd fb) (al K kd fc) σ H Q:=by
 obtain⟨F,B,ad,as,r,as',R,e,q⟩:=h;obtain⟨⟨p,as1⟩,h1,e⟩:=bS_ (show(fa as).bind _=_ from e);obtain⟨⟨z,as2⟩,h2,e⟩:=bS_ e;obtain⟨⟨x,lx⟩,h3,e⟩:=bS_ e;obtain⟨⟨y,ly⟩,h4,e⟩:=bS_ e;obtain⟨r0,h5,e⟩:=bS_ e;refine v7 R h1 λv ad1 H1 R1 rv1 g1=>v7 R1 h2 λu ad2 H2 R2 rv2 g2=>⟨_,x,y,r0,R2.tr (meet lx ly),(wB.vw R2 (rv1.grow g2) h3).less Obl.meet1,(wB.vw R2 rv2 h4).less Obl.meet2,h5, ?_⟩
 match r0,e with
 | .im (.bl true),e=>
  obtain⟨⟨t,as3⟩,h6,e⟩:=bS_ (show(fc as2).bind _=_ from e);obtain⟨⟨y',ly'⟩,h7,e⟩:=bS_ e;obtain⟨⟨z',lz'⟩,h8,e⟩:=bS_ e;obtain⟨r1,h9,e⟩:=bS_ e;obtain⟨o,h10,e⟩:=bS_ e;cases e;intro w H3 kp rp;cases rp;obtain⟨R3,g3⟩:=R2.more kp;refine⟨true,rfl, ?_⟩;rw[if_pos rfl];refine v7 R3 h6 λw' ad4 H4 R4 rv4 g4=>⟨_,y',z',r1,R4.tr (meet ly' lz'),(wB.vw R4 ((rv2.grow g3).grow g4) h7).less Obl.meet1,(wB.vw R4 rv4 h8).less Obl.meet2,h9, ?_⟩;exact vM R4 h10 λw T' H' R' rv' g'=>q w T' ad4 H' R' rv' ((((g1.trans g2).trans g3).trans g4).trans g')
 | .im (.bl false),e=>
  cases e;intro w H3 kp rp;cases rp;obtain⟨R3,g3⟩:=R2.more kp;refine⟨false,rfl, ?_⟩;rw[if_neg zyU];exact q _ [] ad2 H3 R3 (.lf (.bl _)) ((g1.trans g2).trans g3)
def znW(hg:∀x y r,g' x y=some r->∃k,r = .im (.bl k))(h:X8 fa fb fc g g' as=some (p,as1)):∃k,p = .ow (.lf true (.bl k)):=by
 obtain⟨_,_,h⟩:=bS_ (show(fa as).bind _=_ from h);obtain⟨_,_,h⟩:=bS_ h;obtain⟨_,_,h⟩:=bS_ h;obtain⟨_,_,h⟩:=bS_ h;obtain⟨r0,_,h⟩:=bS_ h
 match r0,h with
 | .im (.bl true),h=>
  obtain⟨_,_,h⟩:=bS_ h;obtain⟨_,_,h⟩:=bS_ h;obtain⟨_,_,h⟩:=bS_ h;obtain⟨r1,h1,h⟩:=bS_ h;obtain⟨o,h2,h⟩:=bS_ h;cases h;obtain⟨k,rfl⟩:=hg _ _ _ h1;cases h2;exact⟨k,rfl⟩
 | .im (.bl false),h=>cases h;exact⟨false,rfl⟩
def zno{op op':CmpOp}(ho:OpD X kd (compareOp op) g)(ho':OpD X kd (compareOp op') g')(hg:∀x y r,g' x y=some r->∃k,r = .im (.bl k))(ha:AE X kd a fa)(hb:AE X kd b fb)(hc:AE X kd c fc)(hm:lastMarks [op,op'] [b,c]=false):
 AT X kd (.Compare a [op,op'] [b,c] pos) (fT (X8 fa fb fc g g')):=by with_unfolding_all exact(zgD (znq ho ho' ha hb hc hm) λσ H Q h=>by
 obtain⟨F,B,ad,as,bb,as',R,e,q⟩:=h;obtain⟨⟨p,as1⟩,h1,e⟩:=bS_ (show(X8 fa fb fc g g' as).bind _=_ from e);obtain⟨⟨d,lv⟩,h2,e⟩:=bS_ e;obtain⟨k,h3,e⟩:=bS_ e;cases e;obtain⟨k',rfl⟩:=znW hg h1;cases h2;cases h3;refine znX ⟨F,B,ad,as,_,_,R,h1,λv T' ad' H' R' rv g'=>?_⟩;generalize hT:T'=T2 at rv R' g';cases rv with
 |lf rp=>
  cases rp;exact⟨_,rfl,q ad' H' R' g'⟩)
end
end PF
end
section
namespace G54
open PySem PySem.Spec PyProof.Rows L2 PF
abbrev zq:EF:=fV 1
abbrev yo:EF:=fC (.int 0)
abbrev zm:EF:=fV 0
abbrev yD:EF:=fC (.int 2)
abbrev yg:EF:=fC (.int 1)
abbrev zE:EF:=fV 2
abbrev vJ:EF:=fC (.int 4)
abbrev Wo:GF:=gN 4
abbrev yj:EF:=fV 4
abbrev zP:EF:=fV 3
abbrev ye:GF:=gN 0
abbrev zF:=zaf .Add
abbrev xG:EF:=fV 5
abbrev zcO:EF:=fC (.int 5)
abbrev vD:EF:=fV 6
abbrev vK:EF:=fV 7
abbrev xF:EF:=fV 11
abbrev zK:=zaf .Mod
abbrev zN:=zaf .Mult
abbrev X4:EF:=fC (.int 8)
abbrev yd:=zaf .FloorDiv
abbrev vf:EF:=fC (.int 3)
abbrev Xb:=zaf .Sub
abbrev V7:EF:=fC (.int 6)
abbrev Ww:AF:=aC (fV 3) aN
abbrev xR:AF:=aC (fV 0) aN
abbrev xx:AF:=aC (fV 1) aN
abbrev Xc:AF:=aC (fV 2) aN
abbrev zsM:AF:=aC (fV 5) aN
abbrev zvd:AF:=aC (fV 7) aN
abbrev Xv:List Str:=["algebra","join","nothing","a"]
def Yx:FnScope Xv ["algebra"] (zr vo):=fsc
def Xu:SF:=
 (zy (zL true 1 (f2 zm yD ixP))
  (zy (zL true 2 (f2 zm vf ixP))
  (zy (xO (yp (aC (f2 zm yo ixP) aN) yq) (gN 3) (sIf (zbh (fT (f2 (f2 (f2 zq zE ixP) zP ixP) zP (zR .NotEq))) (fT (f2 (f2 (f2 zq zP ixP) zE ixP) zP (zR .NotEq)))) (yC (yw (dC (fC (.str "nothing")) (dC zP dN)))) sNx))
  (yC (fC .non)))))
def Zi:Fn:=fnR 4 1 Xu
abbrev Xx:List Str:=["algebra","n","join","a","b","c"]
def Yv:FnScope Xx ["algebra"] (zr vB):=fsc
def XQ:SF:=
 (zy (zL true 1 (f2 zm yo ixP))
  (zy (zL true 2 (f2 zm yD ixP))
  (zy (xO (yp xx yq) (gN 3) (xO (yp xx yq) Wo (xO (yp xx yq) (gN 5) (sIf (fT (f2 (f2 (f2 zE (f2 (f2 zE zP ixP) yj ixP) ixP) xG ixP) (f2 (f2 zE zP ixP) (f2 (f2 zE yj ixP) xG ixP) ixP) (zR .NotEq))) (yC (yw (dC (fC (.str "parting")) (dC zP (dC yj (dC xG dN)))))) sNx))))
  (yC (fC .non)))))
def Zg:Fn:=fnR 6 1 XQ
abbrev Vn:List Str:=["algebra","name","rows","n","m","join","a","i","b","j"]
def WL:FnScope Vn ["algebra","name","rows"] (zr Zc):=fsc
def Vp:SF:=
 (zy (zL true 3 (f2 zm yo ixP))
  (zy (zL true 4 (f2 zm yg ixP))
  (zy (zL true 5 (f2 zm yD ixP))
  (zy (xO (yp Ww yq) (gN 6) (xO (yp (aC yj aN) yq) (gN 7) (xO (yp Ww yq) (gN 8) (xO (yp (aC yj aN) yq) (gN 9) (sIf (fT (f2 (f2 (f2 zE (f2 (f2 vK (fV 9) zF) yj zK) ixP) (f2 (f2 xG vD ixP) (fV 8) ixP) ixP) (f2 (f2 xG (f2 (f2 zE vK ixP) vD ixP) ixP) (f2 (f2 zE (fV 9) ixP) (fV 8) ixP) ixP) (zR .NotEq))) (yC (yw (dC (fC (.str "doing")) (dC zq (dC vD (dC vK (dC (fV 8) (dC (fV 9) dN)))))))) sNx)))))
  (yC (fC .non))))))
def Za:Fn:=fnR 10 3 Vp
abbrev zbb:List Str:=["algebra","nothing","name","rows","fault"]
def VN:FnScope zbb ["algebra"] (zr Zx):=fsc
def zaj:SF:=
 (zy (zL true 1 (f2 zm vf ixP))
  (zy (xO (zed (f2 zm vJ ixP)) (gT 2 (gsC (gN 2) (gsC (gN 3) gsN))) (zy (sIf (fT (f2 (f2 (f2 zP yo ixP) zq ixP) zq (zR .NotEq))) (yC (yw (dC (fC (.str "empty")) (dC zE dN)))) sNx)
  (zy (zL true 4 (zM (aC zm (aC zE Ww)) Za))
  (sIf (fT (f2 yj (fC .non) (zR .IsNot))) (yC yj) sNx))))
  (yC (fC .non))))
def Xe:Fn:=fnR 5 1 zaj
abbrev zav:List Str:=["algebra","fault"]
def VP:FnScope zav ["algebra"] (zr ZF):=fsc
def zaz:SF:=
 (zy (zL true 1 (zM xR Zi))
  (zy (sIf (fT (f2 zq (fC .non) (zR .Is))) (zL true 1 (zM xR Zg)) sNx)
  (zy (sIf (fT (f2 zq (fC .non) (zR .Is))) (zL true 1 (zM xR Xe)) sNx)
  (yC zq))))
def ZJ:Fn:=fnR 2 1 zaz
abbrev Zu:List Str:=["self","what"]
def X5:FnScope Zu ["self","what"] (zr xX):=fsc
abbrev ZS:List Str:=["algebra","fault"]
def vz:FnScope ZS ["algebra"] (zr vX):=fsc
def vY:SF:=
 (zy (zL true 1 (zM xR ZJ))
  (sIf (fT (f2 zq (fC .non) (zR .IsNot))) sNo sNx))
def yP:Fn:=fnR 2 1 vY
def vO:List (Bool×D)->Option D:=gX 2 1 1 (zL true 1 (zM xR ZJ)) (fT (f2 zq (fC .non) (zR .IsNot)))
abbrev zbN:List Str:=["algebra","join","places","found","name","rows"]
def zap:FnScope zbN ["algebra"] (zr Z9):=fsc
def zcc:SF:=
 (zy (zL true 1 (f2 zm yD ixP))
  (zy (zL true 2 (fP (aC (f2 zm yo ixP) aN) lrP))
  (zy (zL false 3 (f2 (zB (yU zE) [none,some 1] ye zX (yw (dC (yw (dC (fC (.str "left")) (dC zm dN))) (dC (f2 zq zm ixP) dN)))) (zB (yU zE) [none,some 1] ye zX (yw (dC (yw (dC (fC (.str "right")) (dC zm dN))) (dC (zB (yU zq) [none,some 0] ye zX (f2 zm zq ixP)) dN)))) zF))
  (zy (xO (zed (f2 zm vJ ixP)) (gT 2 (gsC Wo (gsC (gN 5) gsN))) (yF (xJ 3 (dC (zB (zqc xG) [none,none,some 4] (gT 2 (gsC ye (gsC (gN 1) gsN))) zX (yw (dC (yw (dC (fC (.str "deed")) (dC zE (dC zm dN)))) (dC zq dN)))) dN) zmb)))
  (yC zP)))))
def Z6:Fn:=fnR 6 1 zcc
abbrev zeB:List Str:=["keys","numbers","key"]
def zcC:FnScope zeB ["keys"] (zr YL):=fsc
def zeI:SF:=
 (zy (zL false 1 zuu)
  (zy (xO (zed zm) (gN 2) (zlq 1 (dC zE (dC (fP xx ZP) dN))))
  (yC (zB (yU zm) [none,some 1] ye zX (f2 zq zm ixT)))))
def v4:Fn:=fnR 3 1 zeI
abbrev zdA:List Str:=["algebra","value"]
def zch:FnScope zdA ["algebra","value"] (zr Xp):=fsc
def zdE:SF:=
 (yC (fP (aC (zB (yU (f2 zm zcO ixP)) [none,none,some 1] (gT 2 (gsC ye (gsC (gN 1) gsN))) zX (f2 zE zq (zR .In))) aN) tupP))
def Xk:Fn:=fnR 2 2 zdE
abbrev XJ:List Str:=["algebra","places","rows","numbers","finer"]
def YJ:FnScope XJ ["algebra"] (zr vp):=fsc
def Xy:SF:=
 (zy (zL true 1 (fP (aC (f2 zm yo ixP) aN) lrP))
  (zy (zL true 2 (f2 (yN (dC zq dN)) (zB (yU (zM xR Z6)) [none,none] (gT 2 (gsC ye (gsC (gN 1) gsN))) zX zq) zF))
  (zy (zL true 3 (zM (aC (zB (yU zq) [none,some 0] ye zX (zM (aC zq xR) Xk)) aN) v4))
  (zy (zL true 4 (zM (aC (zB (yU zq) [none,some 3,some 2] ye zX (fP (aC (zB (yU zE) [none,some 1,some 0] ye zX (f2 zq (f2 zm zE ixP) ixP)) aN) tupP)) aN) v4))
  (zy (whL (fT (f2 yj zP (zR .NotEq))) (zy (zL true 3 yj)
  (zL true 4 (zM (aC (zB (yU zq) [none,some 3,some 2] ye zX (fP (aC (zB (yU zE) [none,some 1,some 0] ye zX (f2 zq (f2 zm zE ixP) ixP)) aN) tupP)) aN) v4))) 10000)
  (yC zP))))))
def vA:Fn:=fnR 5 1 Xy
abbrev Zf:List Str:=["algebra","numbers","chosen","join","deeds","signs"]
def v6:FnScope Zf ["algebra"] (zr vq):=fsc
def Zq:SF:=
 (zy (yF (zM xR yP))
  (zy (zL true 1 (zM xR vA))
  (zy (zL true 2 (zB (yp (aC (fP xx lsP) aN) yq) [none,some 1] ye zX (Z1 .lst zq xR ZR)))
  (zy (zL true 3 (zB (yU zE) [none,some 1,some 2,some 0] ye zX (zB (yU zE) [none,some 1,some 0,some 3] ye zX (f2 zq (f2 (f2 (f2 zP yD ixP) zE ixP) zm ixP) ixP))))
  (zy (zL true 4 (zB (yU (f2 zm vJ ixP)) [none,none,some 1,some 2] (gT 2 (gsC ye (gsC (gN 1) gsN))) zX (yw (dC zm (dC (zB (yU zq) [none,some 2,some 3] ye zX (zB (yU zE) [none,some 1,some 0] ye zX (f2 zq (f2 zE zm ixP) ixP))) dN)))))
  (zy (zL true 5 (zB (yU (f2 zm zcO ixP)) [none,none,some 1,some 2] (gT 2 (gsC ye (gsC (gN 1) gsN))) zX (yw (dC zm (dC (zB (yU zP) [none,some 2,some 1] ye (fT (f2 zm zE (zR .In))) (f2 zq zm ixP)) dN)))))
  (yC (yw (dC (yw (dC (fP Xc ZP) (dC (f2 zm yg ixP) (dC zP (dC (f2 zq (f2 zm vf ixP) ixP) (dC yj (dC xG dN))))))) (dC zq dN))))))))))
def yH:Fn:=fnR 6 1 Zq
def wA:List (Bool×D)->Option D:=gY 6 1 (gC xR vO)
abbrev Vk:List Str:=["_law_script","_law_k"]
def Wb:FnScope Vk ["_law_script","_law_k"] (zr Zd):=fsc
def VH:SF:=
 (zy (sIf (fT (f2 zq (fP xR ZP) (zR .Lt))) (yC (f2 zm zq ixP)) sNx)
  (yC yo))
def yt:Fn:=fnR 2 2 VH
abbrev zaJ:List Str:=["_law_cell","_law_many","_law_found","_law_number","_law_k"]
def Vj:FnScope zaJ ["_law_cell","_law_many"] (zr ZG):=fsc
def zaG:SF:=
 (zy (zL false 2 (yN dN))
  (zy (zL true 3 (f2 (f2 zm (fC (.int 2147483647)) zK) (fC (.int 48271)) zF))
  (zy (xO (yp (aC (f2 zq yg zF) aN) yq) Wo (zy (zL true 3 (f2 (f2 (f2 (f2 zP zP zN) (f2 (fC (.int 48271)) zP zN) zF) yj zF) (fC (.int 2147483647)) zK))
  (yF (xJ 2 (dC (f2 (f2 (f2 zP (fC (.int 40692)) zN) (f2 (fC (.int 7)) yj zN) zF) (fC (.int 2147483399)) zK) dN) xU))))
  (yC (fSl zE (oS yg) oN slP)))))
def yI:Fn:=fnR 5 2 zaG
abbrev zbT:List Str:=["_law_cell","_law_many","_law_letters","_law_xs","_law_base","_law_at","_law_found","_law_k"]
def zaU:FnScope zbT ["_law_cell","_law_many"] (zr Z8):=fsc
def zcA:SF:=
 (zy (zL true 2 (fC (.str "abcdefghijklmnopqrstuvwxyz")))
  (zy (zL true 3 (zM (aC zm (aC (fC (.int 9)) aN)) yI))
  (zy (zL true 4 (Z1 .str (fC (.str "")) (aC (zB (yU (fSl zP oN (oS (f2 yg (f2 zm X4 zK) zF)) slP)) [none,some 2] ye zX (f2 zq (f2 zm (fC (.int 26)) zK) ixP)) aN) zkA))
  (zy (zL true 5 (f2 (f2 zm X4 yd) (fP (aC yj aN) ZP) zK))
  (zy (zL false 6 (yN dN))
  (zy (xO (yp xx yq) (gN 7) (yF (xJ 6 (dC (f2 (f2 (fSl yj oN (oS xG) slS) (f2 zE (f2 (f2 (f2 zP X4 ixP) (f2 vf vK zN) zF) (fC (.int 26)) zK) ixP) zF) (fSl yj (oS (f2 xG yg zF)) oN slS) zF) dN) xU)))
  (yC vD)))))))
def Wl:Fn:=fnR 8 2 zcA
abbrev VR:List Str:=["_law_one","_law_other"]
def Wg:FnScope VR ["_law_one","_law_other"] (zr Zb):=fsc
def V0:SF:=
 (zy (whL (fT (f2 zq yo (zR .Gt))) (zna 0 1 (dC zq (dC (f2 zm zq zK) dN))) 10000)
  (yC zm))
def Yo:Fn:=fnR 2 2 V0
abbrev zet:List Str:=["_law_n","_law_m","_law_xs","_law_step","_law_rows_here","_law_c"]
def zcn:FnScope zet ["_law_n","_law_m","_law_xs"] (zr Y6):=fsc
def zfd:SF:=
 (zy (zL true 3 (f2 zm (zM (aC zm xx) Yo) yd))
  (zy (zL false 4 (yN dN))
  (zy (xO (yp xx yq) (gN 5) (yF (xJ 4 (dC (zB (yp xR yq) [none,some 0,some 2,some 5,some 3] ye zX (f2 (f2 (f2 zm (f2 zE yo ixP) zN) (f2 (f2 zP yj zN) (f2 zE yg ixP) zN) zF) zq zK)) dN) xU)))
  (yC yj))))
def V5:Fn:=fnR 6 3 zfd
abbrev zan:List Str:=["_law_n","_law_m","_law_xs","_law_row"]
def Vm:FnScope zan ["_law_n","_law_m","_law_xs"] (zr ZK):=fsc
def zas:SF:=
 (zy (zL false 3 (fP (aC (f2 (yN (dC yo dN)) (zB (yp (aC (f2 zm yg Xb) aN) yq) [none,some 0,some 2] ye zX (f2 (f2 zE zm ixP) zq zK)) zF) aN) znz))
  (zy (zmH 3 (xC 0) (xC 0))
  (yC (zB (yp xx yq) [none,some 3] ye zX (fP xx lstP)))))
def Y4:Fn:=fnR 4 3 zas
abbrev zdC:List Str:=["_law_n","_law_m","_law_xs","_law_row"]
def zcb:FnScope zdC ["_law_n","_law_m","_law_xs"] (zr YS):=fsc
def zeN:SF:=
 (zy (zL true 3 (f2 (yN (dC yo dN)) (zB (yp (aC (f2 zm yg Xb) aN) yq) [none,some 2,some 0] ye zX (f2 yg (f2 (f2 zq zm ixP) (f2 zE yg Xb) zK) zF)) zF))
  (yC (zB (yp xx yq) [none,some 3] ye zX (fP xx lstP))))
def V4:Fn:=fnR 4 3 zeN
abbrev zci:List Str:=["_law_kind","_law_n","_law_maps"]
def zat:FnScope zci ["_law_kind","_law_n"] (zr Yj):=fsc
def zcu:SF:=
 (zy (sIf (fT (f2 zm yo (zR .Eq))) (yC (zB (yp xx yq) [none,some 1] ye zX (zB (yp xx yq) [none,some 1,some 0] ye zX (f2 (f2 zE zm zF) zq zK)))) sNx)
  (zy (sIf (fT (f2 zm yg (zR .Eq))) (yC (zB (yp xx yq) [none,some 1] ye zX (zB (yp xx yq) [none,some 0] ye zX (fP (aC zq xR) zsF)))) sNx)
  (zy (sIf (fT (f2 zm yD (zR .Eq))) (yC (zB (yp xx yq) [none,some 1] ye zX (zB (yp xx yq) [none,some 0] ye zX (f2 (yN (dC zm (dC zq dN))) (fP (aC (f2 zm yo (zR .Eq)) aN) ziO) ixP)))) sNx)
  (zy (sIf (fT (f2 zm vf (zR .Eq))) (yC (zB (yp xx yq) [none,some 1] ye zX (zB (yp xx yq) [none,some 0] ye zX (f2 (yN (dC zq (dC zm dN))) (fP (aC (f2 zq yo (zR .Eq)) aN) ziO) ixP)))) sNx)
  (zy (zL true 2 (yN (dC (yw (dC yo (dC yg dN))) (dC (yw (dC yg (dC yo dN))) (dC (yw (dC yo (dC yo dN))) (dC (yw (dC yg (dC yg dN))) dN))))))
  (yC (zB (yU zE) [none,some 2] ye zX (zB (yU zq) [none,some 1,some 0] ye zX (Z1 .lst zq (aC (yw (dC (f2 zm (f2 zE yo ixP) ixP) (dC (f2 zm (f2 zE yg ixP) ixP) dN))) aN) ZR)))))))))
def Yd:Fn:=fnR 3 2 zcu
abbrev zeX:List Str:=["_law_kind","_law_n","_law_m","_law_xs"]
def zbQ:FnScope zeX ["_law_kind","_law_n","_law_m","_law_xs"] (zr Xm):=fsc
def zdP:SF:=
 (zy (sIf (fT (f2 zm yo (zR .Eq))) (yC (zM (aC zq (aC zE Ww)) V5)) sNx)
  (zy (sIf (fT (f2 zm yg (zR .Eq))) (yC (zM (aC zq (aC zE Ww)) Y4)) sNx)
  (zy (sIf (fT (f2 zm vJ (zR .Lt))) (yC (zM (aC zq (aC zE Ww)) V4)) sNx)
  (yC (zB (yp Xc yq) [none,some 3] ye zX (f2 (yN (dC (yN (dC yo (dC yg (dC yD (dC vf dN))))) (dC (yN (dC yo (dC yg (dC vf (dC yD dN))))) dN))) (f2 (f2 zq yo ixP) yD zK) ixP))))))
def YQ:Fn:=fnR 4 4 zdP
abbrev zbZ:List Str:=["_law_kind","_law_n","_law_m","_law_many","_law_cell","_law_rows_here"]
def zaN:FnScope zbZ ["_law_kind","_law_n","_law_m","_law_many","_law_cell"] (zr Yb):=fsc
def zcg:SF:=
 (zy (zL true 5 (zB (yp Ww yq) [none,some 0,some 1,some 2,some 4] ye zX (zM (aC zq (aC zE (aC zP (aC (zM (aC (f2 yj (f2 (fC (.int 31)) zm zN) zF) (aC (fC (.int 9)) aN)) yI) aN)))) YQ)))
  (yC (yw (dC zq (dC (zM (aC zm xx) Yd) (dC xG dN))))))
def vH:Fn:=fnR 6 5 zcg
abbrev zaq:List Str:=["_law_one","_law_other","_law_m","_law_n","_law_by","_law_join","_law_p","_law_here","_law_there","_law_deeds","_law_rows_here","_law_c","_law_made_here","_law_ahead"]
def Vo:FnScope zaq ["_law_one","_law_other","_law_m"] (zr ZC):=fsc
def zaD:SF:=
 (zy (zL true 3 (f2 (f2 zm yo ixP) (f2 zq yo ixP) zN))
  (zy (zL true 4 (f2 zq yo ixP))
  (zy (zL false 5 (yN dN))
  (zy (xO (yp Ww yq) (gN 6) (zy (zL true 7 (f2 (f2 zm yg ixP) (f2 vD yj yd) ixP))
  (zy (zL true 8 (f2 (f2 zq yg ixP) (f2 vD yj zK) ixP))
  (yF (xJ 5 (dC (zB (yp Ww yq) [none,some 4,some 8,some 7] ye zX (f2 (f2 (f2 zP (f2 zm zq yd) ixP) zq zN) (f2 zE (f2 zm zq zK) ixP) zF)) dN) xU)))))
  (zy (zL false 9 (yN dN))
  (zy (xO (zlA (aC (f2 zm yD ixP) (aC (f2 zq yD ixP) aN))) (gT 2 (gsC (gN 7) (gsC (gN 8) gsN))) (zy (zL false 10 (yN dN))
  (zy (xO (yp Xc yq) (gN 11) (zy (zL false 12 (yN dN))
  (zy (xO (yp Ww yq) (gN 6) (zy (zL true 13 (f2 (f2 (f2 vK xF ixP) (f2 vD yj yd) ixP) yj zN))
  (yF (xJ 12 (dC (f2 (fV 13) (f2 (f2 (fV 8) xF ixP) (f2 vD yj zK) ixP) zF) dN) xU))))
  (yF (xJ 10 (dC (fV 12) dN) xU)))))
  (yF (xJ 9 (dC (fV 10) dN) xU)))))
  (yC (yw (dC zP (dC xG (dC (fV 9) dN)))))))))))
def Xf:Fn:=fnR 14 3 zaD
abbrev zdH:List Str:=["_law_cell","_law_m","_law_many","_law_xs","_law_kind","_law_sizes","_law_one","_law_n"]
def zcl:FnScope zdH ["_law_cell","_law_m","_law_many"] (zr YW):=fsc
def zeJ:SF:=
 (zy (zL true 3 (zM (aC zm (aC zcO aN)) yI))
  (zy (zL true 4 (f2 (f2 zP yo ixP) (fC (.int 7)) zK))
  (zy (sIf (fT (f2 yj vJ (zR .Gt))) (zy (zL true 5 (f2 (yN (dC (yw (dC yD (dC yD dN))) (dC (yw (dC vf (dC yD dN))) (dC (yw (dC yD (dC vf dN))) (dC (yw (dC vJ (dC yD dN))) (dC (yw (dC yD (dC vJ dN))) (dC (yw (dC yD (dC yD dN))) dN))))))) (f2 (f2 zP yg ixP) V7 zK) ixP))
  (zy (zL true 6 (zM (aC (f2 (f2 zP yD ixP) vJ zK) (aC (f2 xG yo ixP) (aC zq (aC zE (aC (f2 zP vf ixP) aN))))) vH))
  (yC (zM (aC vD (aC (zM (aC (f2 (f2 zP vJ ixP) vJ zK) (aC (f2 xG yg ixP) (aC zq (aC zE (aC (f2 (f2 zP vf ixP) (fC (.int 7)) zF) aN))))) vH) xx)) Xf)))) sNx)
  (zy (zL true 7 (f2 (yN (dC yD (dC vf (dC vJ (dC zcO (dC vf (dC vJ (dC V7 (dC X4 dN))))))))) (f2 (f2 zP yg ixP) X4 zK) ixP))
  (zy (sIf (Wa (fT (f2 yj yo (zR .Eq))) (fT (f2 (f2 (f2 zP yD ixP) (fC (.int 9)) zK) yo (zR .Eq)))) (zL true 7 yg) sNx)
  (zy (sIf (fT (f2 yj vJ (zR .Eq))) (zL true 7 vJ) sNx)
  (yC (zM (aC yj (aC vK (aC zq (aC zE (aC (f2 zP vf ixP) aN))))) vH))))))))
def zaa:Fn:=fnR 8 3 zeJ
abbrev zbM:List Str:=["_law_cell","_law_n","_law_left","_law_found","_law_x"]
def zaM:FnScope zbM ["_law_cell","_law_n"] (zr Z7):=fsc
def zcx:SF:=
 (zy (zL false 2 (fP xx lrP))
  (zy (zL false 3 (yN dN))
  (zy (xO (zed (zM (aC zm xx) yI)) Wo (yF (xJ 3 (dC (xJ 2 (dC (f2 yj (fP Xc ZP) zK) dN) Wy) dN) xU)))
  (yC zP))))
def Wz:Fn:=fnR 5 2 zcx
abbrev zcp:List Str:=["_law_cell","_law_n","_law_names_here","_law_signs_here","_law_x","_law_name"]
def zaE:FnScope zcp ["_law_cell","_law_n","_law_names_here"] (zr Ye):=fsc
def zcf:SF:=
 (zy (zL false 3 (yN dN))
  (zy (xO (zlA (aC (zM (aC zm (aC (fP Xc ZP) aN)) yI) Xc)) (gT 2 (gsC Wo (gsC (gN 5) gsN))) (yF (xJ 3 (dC (yw (dC xG (dC (zB (yp xx yq) [none,some 4] ye (fT (f2 (f2 (f2 zq (f2 (yN (dC yg (dC yD (dC vJ (dC X4 (dC (fC (.int 16)) (dC (fC (.int 32)) (dC (fC (.int 64)) (dC (fC (.int 128)) dN))))))))) zm ixP) yd) yD zK) yg (zR .Eq))) zm) dN))) dN) xU)))
  (yC zP)))
def Z5:Fn:=fnR 6 3 zcf
abbrev Vx:List Str:=["_law_cell","_law_other","_law_ys","_law_m","_law_many","_law_n","_law_join","_law_deeds","_law_order_here","_law_back","_law_joins_here","_law_names_here","_law_told_here","_law_name","_law_rows_here","_law_signs_here"]
def Wm:FnScope Vx ["_law_cell","_law_other"] (zr v9):=fsc
def VF:SF:=
 (zy (zL true 2 (zM (aC zq (aC V7 aN)) yI))
  (zy (zL true 3 (f2 yg (f2 (f2 zE yo ixP) V7 zK) zF))
  (zy (sIf (fT (f2 (f2 (f2 (f2 zE yo ixP) V7 yd) yD zK) yo (zR .Eq))) (zL true 3 (f2 yg (f2 (f2 (f2 zE yo ixP) (fC (.int 12)) yd) vf zK) zF)) sNx)
  (zy (zL true 4 (f2 (yN (dC yg (dC yD (dC yo (dC vJ (dC vf (dC yD (dC V7 (dC zcO dN))))))))) (f2 (f2 zE yg ixP) X4 zK) ixP))
  (zy (sIf (fT (f2 yj vf (zR .Gt))) (zL true 3 (f2 yg (f2 zP yD zK) zF)) sNx)
  (zy (Vh (zM (aC zm (aC zP (aC yj aN))) zaa) (gT 3 (gsC (gN 5) (gsC (gN 6) (gsC (gN 7) gsN)))))
  (zy (zL true 8 (zM (aC (f2 zE yD ixP) zsM) Wz))
  (zy (zL true 9 (zB (yp zsM yq) [none,some 8] ye zX (Z1 .lst zq xR ZR)))
  (zy (zL true 10 (zB (yp zsM yq) [none,some 8,some 5,some 6,some 9] ye zX (zB (yp Xc yq) [none,some 1,some 3,some 4,some 0] ye zX (f2 zq (f2 (f2 zE (f2 zP yj ixP) ixP) (f2 zP zm ixP) ixP) ixP))))
  (zy (zL true 11 (zM (aC (f2 zE vf ixP) (aC (fC (.int 10)) aN)) Wl))
  (zy (zL false 12 (yN dN))
  (zy (xO (zlA (aC (fSl xF oN (oS V7) slP) zvd)) (gT 2 (gsC (gN 13) (gsC (gN 14) gsN))) (yF (xJ 12 (dC (yw (dC (fV 13) (dC (zB (yU (fV 14)) [none,some 8,some 5,some 9] ye zX (zB (yp Xc yq) [none,some 1,some 0,some 3] ye zX (f2 zq (f2 zE (f2 zP zm ixP) ixP) ixP))) dN))) dN) xU)))
  (zy (zL true 15 (zM (aC (f2 zE vJ ixP) (aC xG (aC (fSl xF (oS V7) (oS (f2 V7 (f2 (yN (dC yg (dC yD (dC yg (dC vJ (dC yo (dC yD (dC vf (dC yg dN))))))))) (f2 (f2 zE zcO ixP) X4 zK) ixP) zF)) slP) aN))) Z5))
  (yC (yw (dC xG (dC zP (dC (fV 10) (dC (f2 (fV 8) yo ixP) (dC (fV 12) (dC (fV 15) dN)))))))))))))))))))))
def wH:Fn:=fnR 16 2 VF
abbrev Xl:List Str:=["_law_algebra_here","_law_cell","_law_n","_law_m","_law_join","_law_nothing","_law_deeds","_law_signs_here","_law_xs","_law_joins_here","_law_told_here","_law_way","_law_rows_here"]
def yL:FnScope Xl ["_law_algebra_here","_law_cell"] (zr v5):=fsc
def zfl:(["_law_row"]:List Str).Nodup:=by decide +kernel
def Vv:(["_law_name","_law_rows_here"]:List Str).Nodup:=by decide +kernel
def zff:(["_law_row"]:List Str).Nodup:=by decide +kernel
def zeP:SF:=
 (zy (Vh zm (gT 6 (gsC (gN 2) (gsC (gN 3) (gsC Wo (gsC (gN 5) (gsC (gN 6) (gsC (gN 7) gsN))))))))
  (zy (zL true 8 (zM (aC zq (aC X4 aN)) yI))
  (zy (zL false 9 (zB (yU yj) [none] ye zX (fP xR lstP)))
  (zy (zL false 10 (zB (yU vD) [none,none] (gT 2 (gsC ye (gsC (gN 1) gsN))) zX (yw (dC zm (dC (zB (yU zq) [none] ye zX (fP xR lstP)) dN)))))
  (zy (zL true 11 (f2 (f2 (fV 8) yo ixP) V7 zK))
  (zy (sIf (fT (f2 xF yo (zR .Eq))) (zL true 5 (f2 (f2 (fV 8) yg ixP) zE zK)) sNx)
  (zy (sIf (zbh (fT (f2 xF yg (zR .Eq))) (fT (f2 xF yD (zR .Eq)))) (zil 9 (Wd (xAt 8 (xC 2)) (xV 2)) (Wd (xAt 8 (xC 3)) (xV 2)) (Wd (xAt 8 (xC 4)) (xV 2))) sNx)
  (zy (sIf (Wa (fT (f2 xF yD (zR .Gt))) (fT (f2 (fV 10) (yN dN) (zR .NotEq)))) (znh 12 10 (Wd (xAt 8 (xC 5)) (znf 10)) 1 (Wd (xAt 8 (xC 6)) (xV 3)) (Wd (xAt 8 (xC 7)) (xV 2)) (Wd (xAt 8 (xC 4)) (xV 2))) sNx)
  (yC (yw (dC zE (dC zP (dC (fV 9) (dC xG (dC (fV 10) (dC vK dN))))))))))))))))
def zab:Fn:=fnR 13 2 zeP
abbrev zbd:List Str:=["_law_cell","_law_base","_law_many","_law_found","_law_k"]
def Vt:FnScope zbd ["_law_cell","_law_base","_law_many"] (zr Zv):=fsc
def zam:SF:=
 (zy (zL false 3 (yN dN))
  (zy (xO (yp Xc yq) Wo (zy (yF (xJ 3 (dC (f2 zm zq zK) dN) xU))
  (zL true 0 (f2 zm zq yd))))
  (yC zP)))
def Xh:Fn:=fnR 5 3 zam
abbrev XR:List Str:=["_law_algebra_here","_law_cell","_law_n","_law_m","_law_join","_law_nothing","_law_deeds","_law_signs_here","_law_digits_here","_law_joins_here","_law_told_here","_law_k","_law_at"]
def YB:FnScope XR ["_law_algebra_here","_law_cell"] (zr vm):=fsc
def XX:SF:=
 (zy (Vh zm (gT 6 (gsC (gN 2) (gsC (gN 3) (gsC Wo (gsC (gN 5) (gsC (gN 6) (gsC (gN 7) gsN))))))))
  (zy (zL true 8 (zM (aC zq (aC zE (aC (f2 (f2 yg (f2 zE zE zN) zF) (f2 (f2 zE zP zN) (fP (aC vD aN) ZP) zN) zF) aN))) Xh))
  (zy (zL true 9 (zB (yp Xc yq) [none,some 8,some 2] ye zX (fSl zq (oS (f2 yg (f2 zE zm zN) zF)) (oS (f2 (f2 yg (f2 zE zm zN) zF) zE zF)) slP)))
  (zy (zL false 10 (yN dN))
  (zy (xO (yp (aC (fP (aC vD aN) ZP) aN) yq) (gN 11) (zy (zL true 12 (f2 (f2 yg (f2 zE zE zN) zF) (f2 (f2 zE zP zN) xF zN) zF))
  (yF (xJ 10 (dC (yw (dC (f2 (f2 vD xF ixP) yo ixP) (dC (zB (yp Ww yq) [none,some 8,some 12,some 2] ye zX (fSl zq (oS (f2 zE (f2 zP zm zN) zF)) (oS (f2 (f2 zE (f2 zP zm zN) zF) zP zF)) slP)) dN))) dN) xU))))
  (yC (yw (dC zE (dC zP (dC (fV 9) (dC (f2 (fV 8) yo ixP) (dC (fV 10) (dC vK dN)))))))))))))
def Zj:Fn:=fnR 13 2 XX
abbrev zfX:List Str:=["_law_script","_law_cell","_law_algebra_here"]
def zeg:FnScope zfX ["_law_script"] (zr W7):=fsc
def zga:SF:=
 (zy (zL true 1 (zM (aC zm (aC yD aN)) yt))
  (zy (zL true 2 (zM (aC (zM (aC zm (aC yo aN)) yt) (aC (zM (aC zm (aC yg aN)) yt) aN)) wH))
  (zy (sIf (fT (f2 (f2 zq yD zK) yg (zR .Eq))) (yC (zM (aC zE (aC (f2 zq yD yd) aN)) Zj)) sNx)
  (yC (zM (aC zE (aC (f2 zq yD yd) aN)) zab)))))
def WQ:Fn:=fnR 3 1 zga
abbrev Vu:List Str:=["_law_n","_law_join","_law_nothing","_law_a","_law_b","_law_c"]
def Wn:FnScope Vu ["_law_n","_law_join","_law_nothing"] (zr v8):=fsc
def VL:SF:=
 (zy (xO (yp xR yq) (gN 3) (sIf (zbh (fT (f2 (f2 (f2 zq zE ixP) zP ixP) zP (zR .NotEq))) (fT (f2 (f2 (f2 zq zP ixP) zE ixP) zP (zR .NotEq)))) (yC (yw (dC (fC (.str "nothing")) (dC zP dN)))) sNx))
  (zy (xO (yp xR yq) (gN 3) (xO (yp xR yq) Wo (xO (yp xR yq) (gN 5) (sIf (fT (f2 (f2 (f2 zq (f2 (f2 zq zP ixP) yj ixP) ixP) xG ixP) (f2 (f2 zq zP ixP) (f2 (f2 zq yj ixP) xG ixP) ixP) (zR .NotEq))) (yC (yw (dC (fC (.str "parting")) (dC zP (dC yj (dC xG dN)))))) sNx))))
  (yC (fC .non))))
def Yt:Fn:=fnR 6 3 VL
abbrev zcm:List Str:=["_law_n","_law_m","_law_join","_law_name","_law_rows_here","_law_p","_law_q","_law_a","_law_i","_law_b","_law_j","_law_made_here"]
def zaB:FnScope zcm ["_law_n","_law_m","_law_join","_law_name","_law_rows_here"] (zr Yg):=fsc
def zcy:SF:=
 (zy (xO (yp (aC (f2 zm zq zN) aN) yq) (gN 5) (xO (yp (aC (f2 zm zq zN) aN) yq) (gN 6) (zy (Vh (fP (aC xG xx) ziV) (gT 2 (gsC (gN 7) (gsC (gN 8) gsN))))
  (zy (Vh (fP (aC vD xx) ziV) (gT 2 (gsC (gN 9) (gsC (gN 10) gsN))))
  (zy (zL true 11 (f2 (f2 zE (f2 (f2 yj (fV 8) ixP) vK ixP) ixP) (f2 (f2 yj (fV 10) ixP) (fV 9) ixP) ixP))
  (sIf (fT (f2 (f2 (f2 yj (f2 (f2 (fV 8) (fV 10) zF) zq zK) ixP) (f2 (f2 zE vK ixP) (fV 9) ixP) ixP) xF (zR .NotEq))) (yC (yw (dC (fC (.str "doing")) (dC zP (dC vK (dC (fV 8) (dC (fV 9) (dC (fV 10) dN)))))))) sNx))))))
  (yC (fC .non)))
def Yi:Fn:=fnR 12 5 zcy
abbrev zbV:List Str:=["_law_algebra_here","_law_n","_law_m","_law_join","_law_nothing","_law_deeds","_law_signs_here","_law_found","_law_name","_law_rows_here"]
def zbc:FnScope zbV ["_law_algebra_here"] (zr Yh):=fsc
def zcs:SF:=
 (zy (Vh zm (gT 6 (gsC (gN 1) (gsC (gN 2) (gsC (gN 3) (gsC Wo (gsC (gN 5) (gsC (gN 6) gsN))))))))
  (zy (zL true 7 (zM (aC zq (aC zP (aC yj aN))) Yt))
  (zy (xO (zed xG) (gT 2 (gsC (gN 8) (gsC (gN 9) gsN))) (zy (sIf (Wa (fT (f2 vK (fC .non) (zR .Is))) (fT (f2 (f2 (f2 (fV 9) yo ixP) yj ixP) yj (zR .NotEq)))) (zL true 7 (yw (dC (fC (.str "empty")) (dC (fV 8) dN)))) sNx)
  (sIf (fT (f2 vK (fC .non) (zR .Is))) (zL true 7 (zM (aC zq (aC zE (aC zP (aC (fV 8) (aC (fV 9) aN))))) Yi)) sNx)))
  (yC vK))))
def Wi:Fn:=fnR 10 1 zcs
abbrev zdL:List Str:=["_law_algebra_here","_law_found","e"]
def Wq:FnScope zdL ["_law_algebra_here"] (zr Y7):=fsc
def zej:SF:=
 (zy (zL false 1 (yN (dC (fC .non) (dC (yN dN) dN))))
  (zy (zlu 2 "NotLetBy" "what" (zdy 1 (xC 0) (zM xR yH)) (gC xR wA)
  (zy (zdy 1 (xC 1) (yN (dC (f1 zE (zfk "NotLetBy" "what" true)) (dC (f1 zE (zfk "NotLetBy" "what" true)) dN))))
  (zy (zmU 1 1 (dC (f1 zE (zfk "NotLetBy" "what" false)) dN))
  (sIf (fT (f1 zE (zfk "NotLetBy" "what" true))) (zmU 1 1 (dC (f1 zE (erP "NotLetBy" "what")) dN)) sNx))))
  (yC zq)))
def wR:Fn:=fnR 3 1 zej
abbrev zqV:List Str:=["_law_script","_law_algebra_here","_law_kept_here","_law_due","_law_found","_law_refused","_law_good"]
def V6:FnScope zqV ["_law_script"] (zr zkE):=fsc
def zrh:SF:=
 (zy (zL true 1 (zM xR WQ))
  (zy (zL true 2 (zM xR WQ))
  (zy (zL true 3 (zM Xc Wi))
  (zy (Vh (zM xx wR) (gT 2 (gsC Wo (gsC (gN 5) gsN))))
  (zy (sIf (Wa (fT (f2 zP (fC .non) (zR .IsNot))) (fT (f2 xG (yN (dC (fC (.bl true)) (dC (fC (.bl true)) (dC (fC (.bl false)) (dC zP dN))))) (zR .NotEq)))) (yC (fC (.bl false))) sNx)
  (zy (sIf (Wa (fT (f2 zP (fC .non) (zR .Is))) (zbh (fT (f2 xG (yN dN) (zR .NotEq))) (zbh (fT (f2 (fP (aC yj aN) ZP) yD (zR .NotEq))) (zhN (fT (X8 yo (f2 (f2 yj yo ixP) yo ixP) (f2 zq yo ixP) (zR .Lt) (zR .LtE))))))) (yC (fC (.bl false))) sNx)
  (zy (zL true 6 (zM (aC (zM (aC zm (aC yo aN)) yt) (aC (zM (aC zm (aC yg aN)) yt) aN)) wH))
  (yC (zoL (f2 (f2 (zM (aC vD aN) wR) yg ixP) (yN dN) (zR .Eq)) (f2 zq zE (zR .Eq)))))))))))
def zfW:Fn:=fnR 7 1 zrh
structure Fq(K:zC)(mg:Str->Option Value)(x:Str)(st:Stmt)(f:Addr)(d:FuncData)(ps:List Str):Prop where
 F:Fun K x x st f d
 b:Binds K d ps []
 m:mg x=some (.ref f)
theorem fnq{P:Program}{w:World}{K:zC}{mg:Str->Option Value}{base:Heap}{kd:KD}{x:Str}{st:Stmt}{f:Addr}{d:FuncData}{N ps:List Str}{k:Nat}{c:SF}(Q:Fq K mg x st f d ps)(S:FnScope N ps (zr st))
 (hb:∀(cdv:Value) (A:Around) (outer:List Env) (s:Shared) (H:Hp) (E:XK),Room k (A.deeper (envOfC x (zr st) s.heap.objs.size f cdv))->ASs (Xg CX0 P w K mg base N x (zr st) f cdv A outer s H E).nox kd (ZD st) c):
 Co x P w K mg base kd (k+1) f d ps (fnR N.length ps.length c):=⟨zuL Q.F S hb,Q.m,Q.F.kp,Q.b⟩
set_option genInjectivity false in
set_option genSizeOf false in
structure Adr where
 X3:Addr
 XD:FuncData
 Xr:Addr
 Xq:FuncData
 Vl:Addr
 Vq:FuncData
 zaR:Addr
 zaA:FuncData
 zaQ:Addr
 zaF:FuncData
 xW:Addr
 wZ:FuncData
 ZX:Addr
 ZZ:FuncData
 zbY:Addr
 zbR:FuncData
 zdQ:Addr
 zeu:FuncData
 zdz:Addr
 zdW:FuncData
 Xz:Addr
 Xw:FuncData
 Zn:Addr
 Zo:FuncData
 Vz:Addr
 VG:FuncData
 zim:Addr
 zhL:FuncData
 zaK:Addr
 zaZ:FuncData
 zbU:Addr
 zbW:FuncData
 VJ:Addr
 VV:FuncData
 zeb:Addr
 zer:FuncData
 zag:Addr
 zah:FuncData
 zeW:Addr
 zdr:FuncData
 zbL:Addr
 zcq:FuncData
 zea:Addr
 zdt:FuncData
 zce:Addr
 zcw:FuncData
 zar:Addr
 zaI:FuncData
 zdT:Addr
 zdN:FuncData
 zbJ:Addr
 zcr:FuncData
 zbX:Addr
 zcG:FuncData
 Vi:Addr
 VB:FuncData
 zek:Addr
 zeZ:FuncData
 zai:Addr
 zay:FuncData
 XH:Addr
 XM:FuncData
 zft:Addr
 zfv:FuncData
 VM:Addr
 V2:FuncData
 zcD:Addr
 zbS:FuncData
 zca:Addr
 zct:FuncData
 zeG:Addr
 zdu:FuncData
 zqY:Addr
 zrg:FuncData
 yQ:Addr
 zeQ:Addr
 zew:Addr
 zgc:Addr
 zeR:Addr
 Wt:Addr
 zeo:Addr
 zbv:Addr
 vN:Addr
 V9:Addr
structure Txt(K:zC)(kd:KD)(mg:Str->Option Value)(t:Adr):Prop where
 zcM:Fq K mg "nothing_fails" vo t.X3 t.XD ["algebra"]
 zcK:Fq K mg "parting_fails" vB t.Xr t.Xq ["algebra"]
 zfp:Fq K mg "doing_fails" Zc t.Vl t.Vq ["algebra","name","rows"]
 zgY:Fq K mg "deeds_fail" Zx t.zaR t.zaA ["algebra"]
 zhp:Fq K mg "what_fails" ZF t.zaQ t.zaF ["algebra"]
 Vf:Fun K "__init__" "NotLetBy.__init__" xX t.xW t.wZ
 Vg:Binds K t.wZ ["self","what"] []
 wQ:Fq K mg "check_let_by" vX t.ZX t.ZZ ["algebra"]
 zib:Fq K mg "all_steps" Z9 t.zbY t.zbR ["algebra"]
 zjJ:Fq K mg "numbered" YL t.zdQ t.zeu ["keys"]
 zjm:Fq K mg "signs_of" Xp t.zdz t.zdW ["algebra","value"]
 zcV:Fq K mg "class_numbers" vp t.Xz t.Xw ["algebra"]
 wF:Fq K mg "least_algebra" vq t.Zn t.Zo ["algebra"]
 zfj:Fq K mg "_law_cell_at" Zd t.Vz t.VG ["_law_script","_law_k"]
 zqU:Fq K mg "_law_whole" Wx t.zim t.zhL ["_law_found"]
 zgQ:Fq K mg "_law_stream" ZG t.zaK t.zaZ ["_law_cell","_law_many"]
 zia:Fq K mg "_law_names" Z8 t.zbU t.zbW ["_law_cell","_law_many"]
 zfi:Fq K mg "_law_divisor" Zb t.VJ t.VV ["_law_one","_law_other"]
 zjN:Fq K mg "_law_sums" Y6 t.zeb t.zer ["_law_n","_law_m","_law_xs"]
 zgK:Fq K mg "_law_rising" ZK t.zag t.zah ["_law_n","_law_m","_law_xs"]
 zjW:Fq K mg "_law_kept" YS t.zeW t.zdr ["_law_n","_law_m","_law_xs"]
 zhY:Fq K mg "_law_joins" Yj t.zbL t.zcq ["_law_kind","_law_n"]
 zjb:Fq K mg "_law_rows" Xm t.zea t.zdt ["_law_kind","_law_n","_law_m","_law_xs"]
 zic:Fq K mg "_law_plain" Yb t.zce t.zcw ["_law_kind","_law_n","_law_m","_law_many","_law_cell"]
 zge:Fq K mg "_law_beside" ZC t.zar t.zaI ["_law_one","_law_other","_law_m"]
 ziY:Fq K mg "_law_made" YW t.zdT t.zdN ["_law_cell","_law_m","_law_many"]
 zhB:Fq K mg "_law_order" Z7 t.zbJ t.zcr ["_law_cell","_law_n"]
 zhU:Fq K mg "_law_signs" Ye t.zbX t.zcG ["_law_cell","_law_n","_law_names_here"]
 zfq:Fq K mg "_law_algebra" v9 t.Vi t.VB ["_law_cell","_law_other"]
 zjf:Fq K mg "_law_bent" v5 t.zek t.zeZ ["_law_algebra_here","_law_cell"]
 zgV:Fq K mg "_law_digits" Zv t.zai t.zay ["_law_cell","_law_base","_law_many"]
 zcN:Fq K mg "_law_by_digits" vm t.XH t.XM ["_law_algebra_here","_law_cell"]
 zlR:Fq K mg "_law_any" W7 t.zft t.zfv ["_law_script"]
 zfh:Fq K mg "_law_parting" v8 t.VM t.V2 ["_law_n","_law_join","_law_nothing"]
 ziq:Fq K mg "_law_doing" Yg t.zcD t.zbS ["_law_n","_law_m","_law_join","_law_name","_law_rows_here"]
 zid:Fq K mg "_law_fails" Yh t.zca t.zct ["_law_algebra_here"]
 zjh:Fq K mg "_law_told" Y7 t.zeG t.zdu ["_law_algebra_here"]
 ztO:Fq K mg "law" zkE t.zqY t.zrg ["_law_script"]
 zhl:mg "ValueError"=none
 ztC:mg "bool"=none
 zmu:mg "divmod"=none
 ziz:mg "enumerate"=none
 zra:mg "int"=none
 wV:mg "isinstance"=none
 zkF:mg "len"=none
 zhu:mg "list"=none
 zuf:mg "max"=none
 zhd:mg "range"=none
 zuV:mg "set"=none
 zoF:mg "sorted"=none
 zpn:mg "tuple"=none
 ztZ:mg "zip"=none
 zae:mg "NotLetBy"=some (.ref t.yQ)
 zmR:mg "NoDeed"=some (.ref t.zeQ)
 zoH:mg "NoMake"=some (.ref t.zew)
 zpM:mg "NoRow"=some (.ref t.zgc)
 zoC:mg "NoSign"=some (.ref t.zeR)
 ziD:mg "NoStretch"=some (.ref t.Wt)
 znc:mg "NoText"=some (.ref t.zeo)
 zmj:mg "NoValue"=some (.ref t.zbv)
 Wh:mg "StretchError"=some (.ref t.vN)
 zjC:mg "TooGreat"=some (.ref t.V9)
 xq:kd.c "NotLetBy"=t.yQ
 xf:PySem.W.findIn K (.ref t.yQ) "__init__"=some (some (.ref t.xW))
 xc:XC K t.yQ t.vN t.xW "what"
 xs:XS K t.vN
 xi:XI K t.yQ "what"
 xk:PySem.W.keepIn K (.ref t.yQ)=true
 xm:PySem.W.exmOne K (.ref t.yQ) (.ref t.vN)=some true
 k1_NotLetBy:PySem.W.kitOne K (.ref t.yQ) (.ref t.yQ)=some true
 k1_ValueError:PySem.W.kitOne K (.ref t.yQ) (.type "ValueError")=some true
 ka:PySem.W.kitAny K (.ref t.yQ) ([t.zeQ,t.zew,t.zgc,t.zeR,t.Wt,t.zeo,t.zbv,t.V9].map .ref)=some false
set_option maxHeartbeats 8000000
section
variable{P:Program}{w:World}{K:zC}{mg:Str->Option Value}{base:Heap}{kd:KD}{t:Adr}
local macro_rules | `(tactic| trivial)=>do let T:=Lean.mkIdent `T;let h:=Lean.mkIdent `hkd;let r:=Lean.mkIdent `hr;`(tactic| first|(show AE _ _ _ _;first|exact av _|exact aI|(refine ax $h ?_ ?_<;>trivial)|(refine bn ?_ ?_<;>trivial)|exact aS|exact aZ|(refine ec $h $r ?_ ?_<;>trivial)|(refine ec $h $r ?_ ?_ (hm:=rfl)<;>trivial)|(refine cq (by assumption) $r ?_<;>trivial)|(refine zjM ?_;trivial)|(refine Wj ?_;trivial)|(refine cm ?_ ?_ ?_ ?_<;>trivial)|(refine zmZ ?_ ?_ ?_<;>trivial)|(refine zlv ?_ ?_ ?_<;>trivial)|(refine bi (zfw ($h _ rfl rfl rfl)) (Txt.zkF $T) Bt.len ?_;trivial)|(refine bi (zli rfl) (Txt.zuf $T) Bt.max ?_;trivial)|(refine bi zjj (Txt.zoF $T) Bt.sorted ?_;trivial)|(refine bi zlV (Txt.zmu $T) Bt.divmod ?_;trivial)|(refine by_ zjS (Txt.zra $T) Bt.int ?_;trivial)|(refine ae_isi ($h _ rfl rfl rfl) rfl rfl (Txt.wV $T) Bt.isinstance rfl (Txt.zra $T) Bt.int ?_ (Bt.n _ rfl) (by decide) (Bt.n _ rfl) (by decide) rfl rfl rfl;trivial)|(refine by_ zma (Txt.zpn $T) Bt.tuple ?_;trivial)|(refine by_ zbl (Txt.zhu $T) Bt.list ?_;trivial)|(refine ae_isi ($h _ rfl rfl rfl) rfl rfl (Txt.wV $T) Bt.isinstance rfl (Txt.ztC $T) Bt.bool ?_ (Bt.n _ rfl) (by decide) (Bt.n _ rfl) (by decide) rfl rfl rfl;trivial)|(refine zlB rfl rfl (Txt.zhd $T) rfl (Txt.zhu $T) ?_ rfl rfl;trivial)|(refine zlk rfl rfl (Txt.zuV $T) rfl (Txt.zkF $T) ?_ rfl rfl;trivial)|(refine ae_not ?_;trivial)|(refine zoc ?_ ?_<;>trivial)|(refine zoa ?_;trivial)|(refine zrt (zuk (zqW $r)) ?_ ?_ (λ_ _=>rfl)<;>trivial)|exact zrJ|exact ae_d0|(refine ziW zfT ztB PySem.F.slot_list_append PySem.F.type_list_append (pv _) ?_ rfl rfl rfl rfl rfl;trivial)|(refine ziW zoR zoT PySem.F.slot_list_pop PySem.F.type_list_pop (pv _) ?_ rfl rfl rfl rfl rfl;trivial)|(refine ziW zlt zsH PySem.F.slot_list_extend PySem.F.type_list_extend (pv _) ?_ rfl rfl rfl rfl rfl;trivial)|(refine zkc (ty:=.str) ($h _ rfl rfl rfl) zpA PySem.F.plainAttrs_str PySem.F.slot_str_join PySem.F.type_str_join ?_ ?_ rfl rfl rfl rfl rfl<;>trivial)|(refine zkc (ty:=.lst) ($h _ rfl rfl rfl) (znk ($h _ rfl rfl rfl) (zfs $r)) PySem.F.plainAttrs_list PySem.F.slot_list_index PySem.F.type_list_index ?_ ?_ rfl rfl rfl rfl rfl<;>trivial))|(show AA _ _ _ _;first|(refine bc ?_ ?_<;>trivial)|exact wN)|exact zdf|(refine zqg ?_;trivial)|(intro _;trivial)|(show ASt _ _ _ _;first|(refine cs_ (by assumption) ?_ ?_ ?_ ?_<;>trivial)|(refine zsv (zqW $r) (pv _) ?_ rfl rfl rfl rfl rfl rfl;trivial)|(refine zbf ?_;trivial)|(refine zel ?_ ?_ ?_<;>trivial)|(refine fo_ ?_ ?_ ?_<;>trivial)|(refine zmp PassesOwn.never ?_ ?_<;>trivial)|(refine zpE ?_ rfl;trivial)|(refine sv _ _ (by assumption) ?_;trivial)|(refine zsl rfl (by assumption) rfl rfl (by decide) rfl rfl ?_ rfl rfl;trivial)|(refine zvI ?_ ?_<;>trivial)|(refine zqn (pv _) ?_ ?_ (λ_=>rfl) rfl rfl rfl<;>trivial)|exact zuB)|(show ASs _ _ _ _;first|(refine sj _ (by assumption) ?_ ?_<;>trivial)|(refine xQ ?_ ?_<;>trivial)|(refine vW ?_;trivial)|exact Y9)|(show AT _ _ _ _;first|(refine tc $h $r ?_ ?_<;>trivial)|(refine tc $h $r ?_ ?_ (hm:=rfl)<;>trivial)|(refine AW.at_ ?_;trivial))|(show AD _ _ _ _;first|(refine bd ?_ ?_<;>trivial)|exact Zm)|(show AO _ _ _ _;first|(refine zqC ?_;trivial)|exact zpy)|(show AG _ _ _ _ _;first|exact an _ (by assumption)|exact an _ (ndk (by kernel_rfl))|(refine zes rfl ?_ rfl rfl;trivial))|(show AGs _ _ _ _ _;first|(refine agc ?_ ?_<;>trivial)|exact zaW)|(show AGe _ _ _ _;first|exact zuX _ (by assumption)|(refine get_ ?_;trivial))|(show znV _ _ _ _;first|(refine zvv ?_ ?_<;>trivial)|exact zvk)|(show AIc _ _ _ _ _;first|(refine zln rfl (Txt.zhd $T) ?_ rfl;trivial)|(refine zqD rfl (Txt.ziz $T) ?_ rfl;trivial)|(refine zhs ?_;trivial))|(show AI _ _ _ _ _;first|(refine zlr rfl (Txt.zhd $T) ?_ rfl;trivial)|(refine zrI rfl (Txt.ztZ $T) ?_ rfl rfl;trivial)|(refine zrA ?_;trivial))|(show AW _ _ _ _;first|(refine zkD ?_ ?_<;>trivial)|(refine zgx ?_ ?_<;>trivial)|(refine zbt ?_;trivial)|(refine Y0 ?_;trivial))|(show AK _ _ _ _;first|exact ZV))
def zcI(T:Txt K kd mg t)(hkd:KD1 P w K kd):Co "nothing_fails" P w K mg base kd 1 t.X3 t.XD ["algebra"] Zi:=by
 refine fnq (N:=Xv) (k:=0) (c:=Xu) T.zcM Yx λcdv A outer s H E hr=>?_;have:=Yx.nd;conv=>arg 3;whnf
 trivial
def zcQ(T:Txt K kd mg t)(hkd:KD1 P w K kd):Co "parting_fails" P w K mg base kd 1 t.Xr t.Xq ["algebra"] Zg:=by
 refine fnq (N:=Xx) (k:=0) (c:=XQ) T.zcK Yv λcdv A outer s H E hr=>?_;have:=Yv.nd;conv=>arg 3;whnf
 trivial
def zfn(T:Txt K kd mg t)(hkd:KD1 P w K kd):Co "doing_fails" P w K mg base kd 1 t.Vl t.Vq ["algebra","name","rows"] Za:=by
 refine fnq (N:=Vn) (k:=0) (c:=Vp) T.zfp WL λcdv A outer s H E hr=>?_;have:=WL.nd;conv=>arg 3;whnf
 trivial
def zgm(T:Txt K kd mg t)(hkd:KD1 P w K kd):Co "deeds_fail" P w K mg base kd 2 t.zaR t.zaA ["algebra"] Xe:=by
 refine fnq (N:=zbb) (k:=1) (c:=zaj) T.zgY VN λcdv A outer s H E hr=>?_;have:=VN.nd;have:=zfn (base:=base) T hkd;conv=>arg 3;whnf
 trivial
def zaC(T:Txt K kd mg t)(hkd:KD1 P w K kd):Co "what_fails" P w K mg base kd 3 t.zaQ t.zaF ["algebra"] ZJ:=by
 refine fnq (N:=zav) (k:=2) (c:=zaz) T.zhp VP λcdv A outer s H E hr=>?_;have:=VP.nd;have:=zcI (base:=base) T hkd;have:=zcQ (base:=base) T hkd;have:=zgm (base:=base) T hkd;conv=>arg 3;whnf
 trivial
def Ve(T:Txt K kd mg t):FnOk P w K mg base CX0 1 t.xW t.wZ ["self","what"] (spN K t.yQ "what"):=
 Fun.ok (N:=Zu) (ps:=["self","what"]) (k:=0) T.Vf X5 zpF λcdv A outer s H vs Q E hr h=>by
  obtain⟨e,v,rfl,he,⟨kd',O,d,rp,hd⟩,q⟩:=h;exact⟨_,YF (zau (zni T.xc T.xs rfl T.Wh (yZ (pv 0) (yZ (zqH (pv 1) (by decide) hr.gd (zfs hr)) Yu)) rfl rfl (by decide) rfl) rfl) (zdc (zrS T.xc (pv 0) (pv 1) rfl)),.ref e,rfl,v,rfl,kd',O,d,rp,hd,λy=>⟨e,y,rfl,he,v,rfl,.ref e,rfl,e,rfl,he,λdx h1 h2=>q dx h1 h2⟩⟩
def zeY(T:Txt K kd mg t)(hkd:KD1 P w K kd):Co "check_let_by" P w K mg base kd 4 t.ZX t.ZZ ["algebra"] yP:=by
 refine fnq (N:=ZS) (k:=3) (c:=vY) T.wQ vz λcdv A outer s H E hr=>?_;have:=vz.nd;have:=zaC (base:=base) T hkd;conv=>arg 3;whnf
 trivial
def zeK(T:Txt K kd mg t)(hkd:KD1 P w K kd):FnOk P w K mg base (CX1 P w t.yQ "what") 4 t.ZX t.ZZ ["algebra"] (spX K kd vO):=by
 refine ztS (N:=ZS) (k:=3) (i:=1) T.wQ.F vz rfl λcdv A outer s H E hr=>⟨?_, ?_, ?_⟩
 · exact(by refine sv true 1 vz.nd ?_;exact(cq (zaC T hkd) hr (bc (av 0) wN)))
 · exact(tc hkd hr (av 1) aZ)
 · exact zou T.xc T.xk (Ve T) (hr.mono (by omega)) T.Vg rfl T.zae (pv 1) (by decide) rfl rfl
def zij(T:Txt K kd mg t)(hkd:KD1 P w K kd):Co "all_steps" P w K mg base kd 1 t.zbY t.zbR ["algebra"] Z6:=by
 refine fnq (N:=zbN) (k:=0) (c:=zcc) T.zib zap λcdv A outer s H E hr=>?_;have:=zap.nd;conv=>arg 3;whnf
 trivial
def zjO(T:Txt K kd mg t)(hkd:KD1 P w K kd):Co "numbered" P w K mg base kd 1 t.zdQ t.zeu ["keys"] v4:=by
 refine fnq (N:=zeB) (k:=0) (c:=zeI) T.zjJ zcC λcdv A outer s H E hr=>?_;have:=zcC.nd;conv=>arg 3;whnf
 trivial
def zjg(T:Txt K kd mg t)(hkd:KD1 P w K kd):Co "signs_of" P w K mg base kd 1 t.zdz t.zdW ["algebra","value"] Xk:=by
 refine fnq (N:=zdA) (k:=0) (c:=zdE) T.zjm zch λcdv A outer s H E hr=>?_;have:=zch.nd;conv=>arg 3;whnf
 trivial
def zcS(T:Txt K kd mg t)(hkd:KD1 P w K kd):Co "class_numbers" P w K mg base kd 2 t.Xz t.Xw ["algebra"] vA:=by
 refine fnq (N:=XJ) (k:=1) (c:=Xy) T.zcV YJ λcdv A outer s H E hr=>?_;have:=YJ.nd;have:=zij (base:=base) T hkd;have:=zjO (base:=base) T hkd;have:=zjg (base:=base) T hkd;conv=>arg 3;whnf
 trivial
def zcL(T:Txt K kd mg t)(hkd:KD1 P w K kd):Co "least_algebra" P w K mg base kd 5 t.Zn t.Zo ["algebra"] yH:=by
 refine fnq (N:=Zf) (k:=4) (c:=Zq) T.wF v6 λcdv A outer s H E hr=>?_;have:=v6.nd;have:=zeY (base:=base) T hkd;have:=zcS (base:=base) T hkd;conv=>arg 3;whnf
 trivial
def zcJ(T:Txt K kd mg t)(hkd:KD1 P w K kd):FnOk P w K mg base (CX1 P w t.yQ "what") 5 t.Zn t.Zo ["algebra"] (spX K kd wA):=by
 refine ztU (N:=Zf) (k:=4) T.wF.F v6 λcdv A outer s H E hr=>?_;exact(zix (zpz (ziL (zeK T hkd) (hr.mono (by omega)) rfl T.wQ.m T.wQ.F.kp T.wQ.b rfl (bc (av 0) wN) (by decide) rfl rfl) rfl))
def Yq(T:Txt K kd mg t)(hkd:KD1 P w K kd):Co "_law_cell_at" P w K mg base kd 1 t.Vz t.VG ["_law_script","_law_k"] yt:=by
 refine fnq (N:=Vk) (k:=0) (c:=VH) T.zfj Wb λcdv A outer s H E hr=>?_;have:=Wb.nd;conv=>arg 3;whnf
 trivial
def wu(T:Txt K kd mg t)(hkd:KD1 P w K kd):Co "_law_stream" P w K mg base kd 1 t.zaK t.zaZ ["_law_cell","_law_many"] yI:=by
 refine fnq (N:=zaJ) (k:=0) (c:=zaG) T.zgQ Vj λcdv A outer s H E hr=>?_;have:=Vj.nd;conv=>arg 3;whnf
 trivial
def zir(T:Txt K kd mg t)(hkd:KD1 P w K kd):Co "_law_names" P w K mg base kd 2 t.zbU t.zbW ["_law_cell","_law_many"] Wl:=by
 refine fnq (N:=zbT) (k:=1) (c:=zcA) T.zia zaU λcdv A outer s H E hr=>?_;have:=zaU.nd;have:=wu (base:=base) T hkd;conv=>arg 3;whnf
 trivial
def zfm(T:Txt K kd mg t)(hkd:KD1 P w K kd):Co "_law_divisor" P w K mg base kd 1 t.VJ t.VV ["_law_one","_law_other"] Yo:=by
 refine fnq (N:=VR) (k:=0) (c:=V0) T.zfi Wg λcdv A outer s H E hr=>?_;have:=Wg.nd;conv=>arg 3;whnf
 trivial
def zjr(T:Txt K kd mg t)(hkd:KD1 P w K kd):Co "_law_sums" P w K mg base kd 2 t.zeb t.zer ["_law_n","_law_m","_law_xs"] V5:=by
 refine fnq (N:=zet) (k:=1) (c:=zfd) T.zjN zcn λcdv A outer s H E hr=>?_;have:=zcn.nd;have:=zfm (base:=base) T hkd;conv=>arg 3;whnf
 trivial
def zgp(T:Txt K kd mg t)(hkd:KD1 P w K kd):Co "_law_rising" P w K mg base kd 1 t.zag t.zah ["_law_n","_law_m","_law_xs"] Y4:=by
 refine fnq (N:=zan) (k:=0) (c:=zas) T.zgK Vm λcdv A outer s H E hr=>?_;have:=Vm.nd;conv=>arg 3;whnf
 trivial
def zjV(T:Txt K kd mg t)(hkd:KD1 P w K kd):Co "_law_kept" P w K mg base kd 1 t.zeW t.zdr ["_law_n","_law_m","_law_xs"] V4:=by
 refine fnq (N:=zdC) (k:=0) (c:=zeN) T.zjW zcb λcdv A outer s H E hr=>?_;have:=zcb.nd;conv=>arg 3;whnf
 trivial
def zhT(T:Txt K kd mg t)(hkd:KD1 P w K kd):Co "_law_joins" P w K mg base kd 1 t.zbL t.zcq ["_law_kind","_law_n"] Yd:=by
 refine fnq (N:=zci) (k:=0) (c:=zcu) T.zhY zat λcdv A outer s H E hr=>?_;have:=zat.nd;conv=>arg 3;whnf
 trivial
def zjL(T:Txt K kd mg t)(hkd:KD1 P w K kd):Co "_law_rows" P w K mg base kd 3 t.zea t.zdt ["_law_kind","_law_n","_law_m","_law_xs"] YQ:=by
 refine fnq (N:=zeX) (k:=2) (c:=zdP) T.zjb zbQ λcdv A outer s H E hr=>?_;have:=zbQ.nd;have:=zjr (base:=base) T hkd;have:=zgp (base:=base) T hkd;have:=zjV (base:=base) T hkd;conv=>arg 3;whnf
 trivial
def zhG(T:Txt K kd mg t)(hkd:KD1 P w K kd):Co "_law_plain" P w K mg base kd 4 t.zce t.zcw ["_law_kind","_law_n","_law_m","_law_many","_law_cell"] vH:=by
 refine fnq (N:=zbZ) (k:=3) (c:=zcg) T.zic zaN λcdv A outer s H E hr=>?_;have:=zaN.nd;have:=zjL (base:=base) T hkd;have:=wu (base:=base) T hkd;have:=zhT (base:=base) T hkd;conv=>arg 3;whnf
 trivial
def zgH(T:Txt K kd mg t)(hkd:KD1 P w K kd):Co "_law_beside" P w K mg base kd 1 t.zar t.zaI ["_law_one","_law_other","_law_m"] Xf:=by
 refine fnq (N:=zaq) (k:=0) (c:=zaD) T.zge Vo λcdv A outer s H E hr=>?_;have:=Vo.nd;conv=>arg 3;whnf
 trivial
def ziU(T:Txt K kd mg t)(hkd:KD1 P w K kd):Co "_law_made" P w K mg base kd 5 t.zdT t.zdN ["_law_cell","_law_m","_law_many"] zaa:=by
 refine fnq (N:=zdH) (k:=4) (c:=zeJ) T.ziY zcl λcdv A outer s H E hr=>?_;have:=zcl.nd;have:=wu (base:=base) T hkd;have:=zhG (base:=base) T hkd;have:=zgH (base:=base) T hkd;conv=>arg 3;whnf
 trivial
def zhD(T:Txt K kd mg t)(hkd:KD1 P w K kd):Co "_law_order" P w K mg base kd 2 t.zbJ t.zcr ["_law_cell","_law_n"] Wz:=by
 refine fnq (N:=zbM) (k:=1) (c:=zcx) T.zhB zaM λcdv A outer s H E hr=>?_;have:=zaM.nd;have:=wu (base:=base) T hkd;conv=>arg 3;whnf
 trivial
def ziA(T:Txt K kd mg t)(hkd:KD1 P w K kd):Co "_law_signs" P w K mg base kd 2 t.zbX t.zcG ["_law_cell","_law_n","_law_names_here"] Z5:=by
 refine fnq (N:=zcp) (k:=1) (c:=zcf) T.zhU zaE λcdv A outer s H E hr=>?_;have:=zaE.nd;have:=wu (base:=base) T hkd;conv=>arg 3;whnf
 trivial
def VD(T:Txt K kd mg t)(hkd:KD1 P w K kd):Co "_law_algebra" P w K mg base kd 6 t.Vi t.VB ["_law_cell","_law_other"] wH:=by
 refine fnq (N:=Vx) (k:=5) (c:=VF) T.zfq Wm λcdv A outer s H E hr=>?_;have:=Wm.nd;have:=wu (base:=base) T hkd;have:=ziU (base:=base) T hkd;have:=zhD (base:=base) T hkd;have:=zir (base:=base) T hkd;have:=ziA (base:=base) T hkd;conv=>arg 3;whnf
 trivial
def zjI(T:Txt K kd mg t)(hkd:KD1 P w K kd):Co "_law_bent" P w K mg base kd 2 t.zek t.zeZ ["_law_algebra_here","_law_cell"] zab:=by
 refine fnq (N:=Xl) (k:=1) (c:=zeP) T.zjf yL λcdv A outer s H E hr=>?_;exact(by
  refine xQ ?_ ?_;exact(zjl (av 0) (zes rfl (wG (an 2 yL.nd) (wG (an 3 yL.nd) (wG (an 4 yL.nd) (wG (an 5 yL.nd) (wG (an 6 yL.nd) (wG (an 7 yL.nd) zaW rfl) rfl) rfl) rfl) rfl) rfl) rfl rfl) rfl rfl rfl);refine sj 8 yL.nd ?_ ?_;exact(cq (wu T hkd) hr (bc (av 1) (bc aI wN)));refine xQ ?_ ?_;exact(zhm (z:=false) (i:=9) (N:=["_law_row"]) (cap:=[none]) (S:=[0]) yL.nd rfl (by exact Or.inl rfl) (by exact Or.inr rfl) rfl rfl (zhs (av 4)) rfl (by change Vs _ Xl _ (zr v5).names _=true;decide +kernel) (by decide) (λcl s H fp=>(an 0 zfl)) (λcl s H fp=>zdf) (λcl s H fp=>(by_ zbl T.zhu Bt.list (bc (av 0) wN))) (λ_=>rfl));refine xQ ?_ ?_;exact(zhm (z:=false) (i:=10) (N:=["_law_name","_law_rows_here"]) (cap:=[none,none]) (S:=[0,1]) yL.nd rfl (by exact Or.inl rfl) (by exact Or.inr rfl) rfl rfl (zhs (av 6)) rfl (by change Vs _ Xl _ (zr v5).names _=true;decide +kernel) (by decide) (λcl s H fp=>(zes rfl (wG (an 0 Vv) (wG (an 1 Vv) zaW rfl) rfl) rfl rfl)) (λcl s H fp=>zdf) (λcl s H fp=>(zjM (bd (av 0) (bd (zle (N:=["_law_row"]) (cap:=[none]) (S:=[0]) rfl (zhs (av 1)) rfl (by with_unfolding_all rfl) (by decide) (λcl s H fp=>(an 0 zff)) (λcl s H fp=>zdf) (λcl s H fp=>(by_ zbl T.zhu Bt.list (bc (av 0) wN))) (λ_=>rfl)) Zm)))) (λ_=>rfl));refine sj 11 yL.nd ?_ ?_;exact(bn (ax hkd (av 8) aI) aI);refine xQ ?_ ?_;exact(zel (tc hkd hr (av 11) aI) (vW (by refine sv true 5 yL.nd ?_;exact(bn (ax hkd (av 8) aI) (av 2)))) Y9);refine xQ ?_ ?_;exact(zel (AW.at_ (zkD (tc hkd hr (av 11) aI) (zbt (tc hkd hr (av 11) aI)))) (vW (zqe (pv 9) (V8 (zeH (pv 8) ZV (λ_ _=>rfl)) (zby (pv 2))) (λ_ _=>rfl) (V8 (zeH (pv 8) ZV (λ_ _=>rfl)) (zby (pv 2))) (V8 (zeH (pv 8) ZV (λ_ _=>rfl)) (zby (pv 2))) (λ_=>rfl) rfl rfl rfl)) Y9);refine xQ ?_ ?_;exact(zel (AW.at_ (zgx (tc hkd hr (av 11) aI) (Y0 (tc hkd hr (av 10) (Wj Zm))))) (zqb (y:=12) (n:=1) yL.nd rfl (by exact Or.inl rfl) (by exact Or.inr rfl) (pv 10) (V8 (zeH (pv 8) ZV (λ_ _=>rfl)) (ztq rfl T.zkF Bt.len (pv 10) rfl rfl)) (λ_ _=>rfl) zeh (λ_ _=>rfl) rfl (pv 12) (V8 (zeH (pv 8) ZV (λ_ _=>rfl)) (zby (pv 3))) (λ_ _=>rfl) (V8 (zeH (pv 8) ZV (λ_ _=>rfl)) (zby (pv 2))) (V8 (zeH (pv 8) ZV (λ_ _=>rfl)) (zby (pv 2))) (λ_=>rfl) rfl rfl rfl) Y9);exact vW (zbf (zjM (bd (av 2) (bd (av 3) (bd (av 9) (bd (av 5) (bd (av 10) (bd (av 7) Zm)))))))))
def zhj(T:Txt K kd mg t)(hkd:KD1 P w K kd):Co "_law_digits" P w K mg base kd 1 t.zai t.zay ["_law_cell","_law_base","_law_many"] Xh:=by
 refine fnq (N:=zbd) (k:=0) (c:=zam) T.zgV Vt λcdv A outer s H E hr=>?_;have:=Vt.nd;conv=>arg 3;whnf
 trivial
def zcP(T:Txt K kd mg t)(hkd:KD1 P w K kd):Co "_law_by_digits" P w K mg base kd 2 t.XH t.XM ["_law_algebra_here","_law_cell"] Zj:=by
 refine fnq (N:=XR) (k:=1) (c:=XX) T.zcN YB λcdv A outer s H E hr=>?_;have:=YB.nd;have:=zhj (base:=base) T hkd;conv=>arg 3;whnf
 trivial
def zfG(T:Txt K kd mg t)(hkd:KD1 P w K kd):Co "_law_any" P w K mg base kd 7 t.zft t.zfv ["_law_script"] WQ:=by
 refine fnq (N:=zfX) (k:=6) (c:=zga) T.zlR zeg λcdv A outer s H E hr=>?_;have:=zeg.nd;have:=Yq (base:=base) T hkd;have:=VD (base:=base) T hkd;have:=zcP (base:=base) T hkd;have:=zjI (base:=base) T hkd;conv=>arg 3;whnf
 trivial
def zfo(T:Txt K kd mg t)(hkd:KD1 P w K kd):Co "_law_parting" P w K mg base kd 1 t.VM t.V2 ["_law_n","_law_join","_law_nothing"] Yt:=by
 refine fnq (N:=Vu) (k:=0) (c:=VL) T.zfh Wn λcdv A outer s H E hr=>?_;have:=Wn.nd;conv=>arg 3;whnf
 trivial
def zin(T:Txt K kd mg t)(hkd:KD1 P w K kd):Co "_law_doing" P w K mg base kd 1 t.zcD t.zbS ["_law_n","_law_m","_law_join","_law_name","_law_rows_here"] Yi:=by
 refine fnq (N:=zcm) (k:=0) (c:=zcy) T.ziq zaB λcdv A outer s H E hr=>?_;have:=zaB.nd;conv=>arg 3;whnf
 trivial
def zif(T:Txt K kd mg t)(hkd:KD1 P w K kd):Co "_law_fails" P w K mg base kd 2 t.zca t.zct ["_law_algebra_here"] Wi:=by
 refine fnq (N:=zbV) (k:=1) (c:=zcs) T.zid zbc λcdv A outer s H E hr=>?_;have:=zbc.nd;have:=zfo (base:=base) T hkd;have:=zin (base:=base) T hkd;conv=>arg 3;whnf
 trivial
def zeU(T:Txt K kd mg t)(hkd:KD1 P w K kd):Co "_law_told" P w K mg base kd 6 t.zeG t.zdu ["_law_algebra_here"] wR:=by
 refine fnq (N:=zdL) (k:=5) (c:=zej) T.zjh Wq λcdv A outer s H E hr=>?_;exact(by
  refine sj 1 Wq.nd ?_ ?_;exact(Wj (bd aZ (bd (Wj Zm) Zm)));refine xQ ?_ ?_;exact(zrH (j:=2) T.xq (vW (zlb (pv 1) ZV (cq (zcL T hkd) hr (bc (av 0) wN)) (λ_=>rfl) rfl rfl rfl)) (λ_ _=>(zix (zsu (pv 1) ZV (ziL (zcJ T hkd) (hr.mono (by omega)) rfl T.wF.m T.wF.F.kp T.wF.b rfl (bc (av 0) wN) (by decide) rfl rfl) (λ_=>rfl) rfl rfl rfl))) rfl T.Wh (by decide) T.xm (λ_ _ z=>z) rfl rfl Wq.nd rfl rfl (by first|exact Or.inl rfl|exact Or.inr rfl) λe=>(by
  refine xQ ?_ ?_;exact(zlb (pv 1) ZV (Wj (bd (zjH (w:=.ref _) (cv:=.ref _) T.xq T.xi (λ_ z=>z) T.k1_NotLetBy rfl T.wV Bt.isinstance (av 2) (Yr rfl T.zae) (Bt.n _ rfl) (by decide) rfl rfl rfl) (bd (zjH (w:=.ty "ValueError") (cv:=.type "ValueError") T.xq T.xi (λ_ z=>z) T.k1_ValueError rfl T.wV Bt.isinstance (av 2) (zpB (v:=.ty "ValueError") rfl T.zhl PyProof.Rows.Boot.«ValueError» rfl (Bt.n _ rfl) (by decide)) (Bt.n _ rfl) (by decide) rfl rfl rfl) Zm))) (λ_=>rfl) rfl rfl rfl);refine xQ ?_ ?_;exact(zow (n:=1) (pv 1) zeh (λ_ _=>rfl) (bd (zpr (cs:=[t.zeQ,t.zew,t.zgc,t.zeR,t.Wt,t.zeo,t.zbv,t.V9]) T.xq T.xi T.ka (show 8<=1000 by decide) rfl T.wV Bt.isinstance (av 2) (yZ (Yr rfl T.zmR) (yZ (Yr rfl T.zoH) (yZ (Yr rfl T.zpM) (yZ (Yr rfl T.zoC) (yZ (Yr rfl T.ziD) (yZ (Yr rfl T.znc) (yZ (Yr rfl T.zmj) (yZ (Yr rfl T.zjC) Yu (wI rfl)) (wI rfl)) (wI rfl)) (wI rfl)) (wI rfl)) (wI rfl)) (wI rfl)) (wI rfl)) (λ_ _ _ z=>z) (Bt.n _ rfl) (by decide) rfl rfl rfl) Zm) rfl rfl rfl rfl rfl rfl);exact vW (zel (ztv (zjH (w:=.ref _) (cv:=.ref _) T.xq T.xi (λ_ z=>z) T.k1_NotLetBy rfl T.wV Bt.isinstance (av 2) (Yr rfl T.zae) (Bt.n _ rfl) (by decide) rfl rfl rfl) (λ_=>rfl)) (vW (zow (n:=1) (pv 1) zeh (λ_ _=>rfl) (bd (zrP T.xq T.xi (av 2) rfl) Zm) rfl rfl rfl rfl rfl rfl)) Y9)))
  exact vW (zbf (av 1)))
def o_law(T:Txt K kd mg t)(hkd:KD1 P w K kd):Co "law" P w K mg base kd 8 t.zqY t.zrg ["_law_script"] zfW:=by
 refine fnq (N:=zqV) (k:=7) (c:=zrh) T.ztO V6 λcdv A outer s H E hr=>?_;exact(by
  refine sj 1 V6.nd ?_ ?_;exact(cq (zfG T hkd) hr (bc (av 0) wN));refine sj 2 V6.nd ?_ ?_;exact(cq (zfG T hkd) hr (bc (av 0) wN));refine sj 3 V6.nd ?_ ?_;exact(cq (zif T hkd) hr (bc (av 2) wN));refine xQ ?_ ?_;exact(zjl (cq (zeU T hkd) hr (bc (av 1) wN)) (zes rfl (wG (an 4 V6.nd) (wG (an 5 V6.nd) zaW rfl) rfl) rfl rfl) rfl rfl rfl);refine xQ ?_ ?_;exact(zel (AW.at_ (zgx (tc hkd hr (av 3) aZ) (Y0 (tc hkd hr (av 5) (Wj (bd aB (bd aB (bd aB (bd (av 3) Zm))))))))) (vW (zbf aB)) Y9);refine xQ ?_ ?_;exact(zel (AW.at_ (zgx (tc hkd hr (av 3) aZ) (Y0 (AW.at_ (zkD (tc hkd hr (av 5) (Wj Zm)) (zkD (tc hkd hr (bi (zfw (hkd _ rfl rfl rfl)) T.zkF Bt.len (bc (av 4) wN)) aI) (zbt (zrz (zno (zhk (hkd _ rfl rfl rfl) (zfs hr) .Lt) (zhk (hkd _ rfl rfl rfl) (zfs hr) .LtE) (zkg .LtE) aI (ax hkd (ax hkd (av 4) aI) aI) (ax hkd (av 1) aI) (by with_unfolding_all rfl)))))))))) (vW (zbf aB)) Y9);refine sj 6 V6.nd ?_ ?_;exact(cq (VD T hkd) hr (bc (cq (Yq T hkd) hr (bc (av 0) (bc aI wN))) (bc (cq (Yq T hkd) hr (bc (av 0) (bc aI wN))) wN)));exact vW (zbf (zoc (ec hkd hr (ax hkd (cq (zeU T hkd) hr (bc (av 6) wN)) aI) (Wj Zm)) (zoa (ec hkd hr (av 1) (av 2))))))
end
abbrev NsR(K:zC)(x:Str)(f:Addr):Prop:=PySem.W.nsIn K mainGlobals x=some (some (.ref f))
abbrev FnAt(K:zC)(x q:Str)(s:Stmt)(f:Addr):Prop:=∃d,Fun K x q s f d
abbrev Fk(K:zC)(x:Str)(s:Stmt)(f:Addr):Prop:=NsR K x f/\FnAt K x x s f
def zrL{l:PySem.W.OpenLaw}{w:World}{K:zC}{h:Heap}{mg:Str->Option Value}{fa:Addr}(X:K.In h)(G:h.Ns mainGlobals mg)(hfa:mg "law"=some (.ref fa))
 {f0 f1 f2 f3 f4 f5 f6 f7 f8 f9 f10 f11 f12 f13 f14 f15 f16 f17 f18 f19 f20 f21 f22 f23 f24 f25 f26 f27 f28 f29 f30 f31 f32 f33 f34 f35 f36 C0 C1 C2 C3 C4 C5 C6 C7 C8 C9:Addr}
 (aC0:PySem.W.nsIn K mainGlobals "NotLetBy"=some (some (.ref C0)))
 (aC1:PySem.W.nsIn K mainGlobals "NoDeed"=some (some (.ref C1)))
 (aC2:PySem.W.nsIn K mainGlobals "NoMake"=some (some (.ref C2)))
 (aC3:PySem.W.nsIn K mainGlobals "NoRow"=some (some (.ref C3)))
 (aC4:PySem.W.nsIn K mainGlobals "NoSign"=some (some (.ref C4)))
 (aC5:PySem.W.nsIn K mainGlobals "NoStretch"=some (some (.ref C5)))
 (aC6:PySem.W.nsIn K mainGlobals "NoText"=some (some (.ref C6)))
 (aC7:PySem.W.nsIn K mainGlobals "NoValue"=some (some (.ref C7)))
 (aC8:PySem.W.nsIn K mainGlobals "StretchError"=some (some (.ref C8)))
 (aC9:PySem.W.nsIn K mainGlobals "TooGreat"=some (some (.ref C9)))
 (xf:PySem.W.findIn K (.ref C0) "__init__"=some (some (.ref f5)))
 (xc:XC K C0 C8 f5 "what")
 (xs:XS K C8)
 (xi:XI K C0 "what")
 (xk:PySem.W.keepIn K (.ref C0)=true)
 (xm:PySem.W.exmOne K (.ref C0) (.ref C8)=some true)
 (k1_NotLetBy:PySem.W.kitOne K (.ref C0) (.ref C0)=some true)
 (k1_ValueError:PySem.W.kitOne K (.ref C0) (.type "ValueError")=some true)
 (ka:PySem.W.kitAny K (.ref C0) ([C1,C2,C3,C4,C5,C6,C7,C9].map .ref)=some false)
 (a0:Fk K "nothing_fails" vo f0)
 (a1:Fk K "parting_fails" vB f1)
 (a2:Fk K "doing_fails" Zc f2)
 (a3:Fk K "deeds_fail" Zx f3)
 (a4:Fk K "what_fails" ZF f4)
 (l5:FnAt K "__init__" "NotLetBy.__init__" xX f5)
 (a6:Fk K "check_let_by" vX f6)
 (a7:Fk K "all_steps" Z9 f7)
 (a8:Fk K "numbered" YL f8)
 (a9:Fk K "signs_of" Xp f9)
 (a10:Fk K "class_numbers" vp f10)
 (a11:Fk K "least_algebra" vq f11)
 (a12:Fk K "_law_cell_at" Zd f12)
 (a13:Fk K "_law_whole" Wx f13)
 (a14:Fk K "_law_stream" ZG f14)
 (a15:Fk K "_law_names" Z8 f15)
 (a16:Fk K "_law_divisor" Zb f16)
 (a17:Fk K "_law_sums" Y6 f17)
 (a18:Fk K "_law_rising" ZK f18)
 (a19:Fk K "_law_kept" YS f19)
 (a20:Fk K "_law_joins" Yj f20)
 (a21:Fk K "_law_rows" Xm f21)
 (a22:Fk K "_law_plain" Yb f22)
 (a23:Fk K "_law_beside" ZC f23)
 (a24:Fk K "_law_made" YW f24)
 (a25:Fk K "_law_order" Z7 f25)
 (a26:Fk K "_law_signs" Ye f26)
 (a27:Fk K "_law_algebra" v9 f27)
 (a28:Fk K "_law_bent" v5 f28)
 (a29:Fk K "_law_digits" Zv f29)
 (a30:Fk K "_law_by_digits" vm f30)
 (a31:Fk K "_law_any" W7 f31)
 (a32:Fk K "_law_parting" v8 f32)
 (a33:Fk K "_law_doing" Yg f33)
 (a34:Fk K "_law_fails" Yh f34)
 (a35:Fk K "_law_told" Y7 f35)
 (a36:Fk K "law" zkE f36)
 (z0:PySem.W.nsIn K mainGlobals "ValueError"=some none) (z1:PySem.W.nsIn K mainGlobals "bool"=some none) (z2:PySem.W.nsIn K mainGlobals "divmod"=some none) (z3:PySem.W.nsIn K mainGlobals "enumerate"=some none) (z4:PySem.W.nsIn K mainGlobals "int"=some none) (z5:PySem.W.nsIn K mainGlobals "isinstance"=some none) (z6:PySem.W.nsIn K mainGlobals "len"=some none) (z7:PySem.W.nsIn K mainGlobals "list"=some none) (z8:PySem.W.nsIn K mainGlobals "max"=some none) (z9:PySem.W.nsIn K mainGlobals "range"=some none) (z10:PySem.W.nsIn K mainGlobals "set"=some none) (z11:PySem.W.nsIn K mainGlobals "sorted"=some none) (z12:PySem.W.nsIn K mainGlobals "tuple"=some none) (z13:PySem.W.nsIn K mainGlobals "zip"=some none):
 ∃fd:FuncData,(∀(s:Shared) (v:Value),BindsTo s fd ⟨[v],[]⟩ [("_law_script",v)])/\∀base:Heap,K.In base->base.Ns mainGlobals mg->FnOk l.prog w K mg base CX0 8 fa fd ["_law_script"] (spL K zfW):=by
 have e:=hfa.symm.trans (PySem.W.mg_of X G a36.1);cases e;obtain⟨a0,_,F0⟩:=a0;obtain⟨a1,_,F1⟩:=a1;obtain⟨a2,_,F2⟩:=a2;obtain⟨a3,_,F3⟩:=a3;obtain⟨a4,_,F4⟩:=a4;obtain⟨_,F5⟩:=l5;obtain⟨a6,_,F6⟩:=a6;obtain⟨a7,_,F7⟩:=a7;obtain⟨a8,_,F8⟩:=a8;obtain⟨a9,_,F9⟩:=a9;obtain⟨a10,_,F10⟩:=a10;obtain⟨a11,_,F11⟩:=a11;obtain⟨a12,_,F12⟩:=a12;obtain⟨a13,_,F13⟩:=a13;obtain⟨a14,_,F14⟩:=a14;obtain⟨a15,_,F15⟩:=a15;obtain⟨a16,_,F16⟩:=a16;obtain⟨a17,_,F17⟩:=a17;obtain⟨a18,_,F18⟩:=a18;obtain⟨a19,_,F19⟩:=a19;obtain⟨a20,_,F20⟩:=a20;obtain⟨a21,_,F21⟩:=a21;obtain⟨a22,_,F22⟩:=a22;obtain⟨a23,_,F23⟩:=a23;obtain⟨a24,_,F24⟩:=a24;obtain⟨a25,_,F25⟩:=a25;obtain⟨a26,_,F26⟩:=a26;obtain⟨a27,_,F27⟩:=a27;obtain⟨a28,_,F28⟩:=a28;obtain⟨a29,_,F29⟩:=a29;obtain⟨a30,_,F30⟩:=a30;obtain⟨a31,_,F31⟩:=a31;obtain⟨a32,_,F32⟩:=a32;obtain⟨a33,_,F33⟩:=a33;obtain⟨a34,_,F34⟩:=a34;obtain⟨a35,_,F35⟩:=a35;obtain⟨a36,_,F36⟩:=a36;obtain⟨_,_,_,_,_,_,_,_,_,rfl,_,_⟩:=F36.ex;let KL:List (Addr×List (Key×V)):=[];have hkd:KD1 l.prog w K (kdL KL (zpU mg)):=zsf λp m=>by
  exact absurd (show p ∈ ([]:List (Addr×List (Key×V)))from m) zxA
 have T:Txt K (kdL KL (zpU mg)) mg ⟨_,_,_,_,_,_,_,_,_,_,_,_,_,_,_,_,_,_,_,_,_,_,_,_,_,_,_,_,_,_,_,_,_,_,_,_,_,_,_,_,_,_,_,_,_,_,_,_,_,_,_,_,_,_,_,_,_,_,_,_,_,_,_,_,_,_,_,_,_,_,_,_,_,_,_,_,_,_,_,_,_,_,_,_⟩:=⟨⟨F0,bs F0,PySem.W.mg_of X G a0⟩,⟨F1,bs F1,PySem.W.mg_of X G a1⟩,⟨F2,bs F2,PySem.W.mg_of X G a2⟩,⟨F3,bs F3,PySem.W.mg_of X G a3⟩,⟨F4,bs F4,PySem.W.mg_of X G a4⟩,F5,bs F5,⟨F6,bs F6,PySem.W.mg_of X G a6⟩,⟨F7,bs F7,PySem.W.mg_of X G a7⟩,⟨F8,bs F8,PySem.W.mg_of X G a8⟩,⟨F9,bs F9,PySem.W.mg_of X G a9⟩,⟨F10,bs F10,PySem.W.mg_of X G a10⟩,⟨F11,bs F11,PySem.W.mg_of X G a11⟩,⟨F12,bs F12,PySem.W.mg_of X G a12⟩,⟨F13,bs F13,PySem.W.mg_of X G a13⟩,⟨F14,bs F14,PySem.W.mg_of X G a14⟩,⟨F15,bs F15,PySem.W.mg_of X G a15⟩,⟨F16,bs F16,PySem.W.mg_of X G a16⟩,⟨F17,bs F17,PySem.W.mg_of X G a17⟩,⟨F18,bs F18,PySem.W.mg_of X G a18⟩,⟨F19,bs F19,PySem.W.mg_of X G a19⟩,⟨F20,bs F20,PySem.W.mg_of X G a20⟩,⟨F21,bs F21,PySem.W.mg_of X G a21⟩,⟨F22,bs F22,PySem.W.mg_of X G a22⟩,⟨F23,bs F23,PySem.W.mg_of X G a23⟩,⟨F24,bs F24,PySem.W.mg_of X G a24⟩,⟨F25,bs F25,PySem.W.mg_of X G a25⟩,⟨F26,bs F26,PySem.W.mg_of X G a26⟩,⟨F27,bs F27,PySem.W.mg_of X G a27⟩,⟨F28,bs F28,PySem.W.mg_of X G a28⟩,⟨F29,bs F29,PySem.W.mg_of X G a29⟩,⟨F30,bs F30,PySem.W.mg_of X G a30⟩,⟨F31,bs F31,PySem.W.mg_of X G a31⟩,⟨F32,bs F32,PySem.W.mg_of X G a32⟩,⟨F33,bs F33,PySem.W.mg_of X G a33⟩,⟨F34,bs F34,PySem.W.mg_of X G a34⟩,⟨F35,bs F35,PySem.W.mg_of X G a35⟩,⟨F36,bs F36,PySem.W.mg_of X G a36⟩,PySem.W.mg_none_of X G z0,PySem.W.mg_none_of X G z1,PySem.W.mg_none_of X G z2,PySem.W.mg_none_of X G z3,PySem.W.mg_none_of X G z4,PySem.W.mg_none_of X G z5,PySem.W.mg_none_of X G z6,PySem.W.mg_none_of X G z7,PySem.W.mg_none_of X G z8,PySem.W.mg_none_of X G z9,PySem.W.mg_none_of X G z10,PySem.W.mg_none_of X G z11,PySem.W.mg_none_of X G z12,PySem.W.mg_none_of X G z13,PySem.W.mg_of X G aC0,PySem.W.mg_of X G aC1,PySem.W.mg_of X G aC2,PySem.W.mg_of X G aC3,PySem.W.mg_of X G aC4,PySem.W.mg_of X G aC5,PySem.W.mg_of X G aC6,PySem.W.mg_of X G aC7,PySem.W.mg_of X G aC8,PySem.W.mg_of X G aC9,zpp (PySem.W.mg_of X G aC0),xf,xc,xs,xi,xk,xm,k1_NotLetBy,k1_ValueError,ka⟩;exact⟨_,λs v=>.of_eq rfl,λbase _ _=>(o_law T hkd).F.imp λvs H Q E h=>h _⟩
def walk{l:PySem.W.OpenLaw}{q:Program}{loose:List Str}{XP:(Str->Option Value)->Heap->Prop}{YP:World->Heap->Prop}{d:DefRec}{K:Params->zC}(hn:l.most=some 63)(hdf:d.params.defaults=[])
 (hY:∀(w:World) (h:Heap),YP w h->(K w.params).In h) (hm:∀ns:List Int,ns.length<=63->zfW [(true,.lst (ns.map D.int))]=some (.lf true (.bl true)))
 (F:∀(w:World) (mg:Str->Option Value) (fa:Addr) (h:Heap),(K w.params).In h->h.Ns mainGlobals mg->mg d.name=some (.ref fa)->
  ∃fd:FuncData,(∀(s:Shared) (u:Value),BindsTo s fd ⟨[u],[]⟩ [("_law_script",u)])/\∀base:Heap,(K w.params).In base->base.Ns mainGlobals mg->FnOk l.prog w (K w.params) mg base CX0 8 fa fd ["_law_script"] (spL (K w.params) zfW)):
 PySem.W.WalkO q loose XP YP l.row.toRowW d [] (λf vs=>PySem.call f vs):=
 L2.walk_of (n:=63) (k:=8) (x:="_law_script") (CX:=λ_=>CX0) (sp:=λw=>spL (K w.params) zfW) hn (by decide) hdf ⟨rfl,by decide,by decide,rfl⟩ hY F (λ_ _ a ns hl _ hS kd=>zrW (hm ns hl) hS) λ_ _ _ _ _ z=>z
end G54
end
section
namespace PP
def least{P:Nat->Prop}:∀(x:Nat),P x->∃y,P y/\y<=x/\∀z,z<y->¬P z:=λx=>by
 induction x using Nat.strongRecOn with
 |_ x ih=>
  intro h
  by_cases e:∃z,z<x/\P z
  · obtain⟨z,hz,pz⟩:=e;obtain⟨y,h1,h2,h3⟩:=ih z hz pz;exact⟨y,h1,by omega,h3⟩
  · exact⟨x,h,zzL _,λz hz pz=>e ⟨z,hz,pz⟩⟩
noncomputable def cnt(P:Nat->Prop):Nat->Nat
 |0=>0
 |n+1=>cnt P n + @ite Nat (P n) (Classical.propDecidable _) 1 0
theorem zrj(P:Nat->Prop):∀n,cnt P n<=n
 |0=>zzL _
 |n+1=>by
  have:=zrj P n;unfold cnt
  split<;>omega
theorem zjK:∀n,(∀v,v<n->P v->Q v)->cnt P n<=cnt Q n
 |0,_=>zzL _
 |n+1,h=>by
  have ih:=zjK n λv hv=>h v (by omega);unfold cnt
  by_cases p:P n
  · rw[if_pos p,if_pos (h n (by omega) p)];omega
  · rw[if_neg p];omega
theorem zoK:∀n,(∀v,v<n->P v->Q v)->v<n->Q v->¬P v->cnt P n<cnt Q n
 |0,_,hv,_,_=>absurd hv (Nat.not_lt_zero _)
 |n+1,h,hv,q,np=>by
  unfold cnt
  by_cases e:v=n
  · subst e;have ih:=zjK v λw hw=>h w (by omega);rw[if_neg np,if_pos q];omega
  · have ih:=zoK n (λw hw=>h w (by omega)) (by omega) q np
    by_cases p:P n
    · rw[if_pos p,if_pos (h n (by omega) p)];omega
    · rw[if_neg p];omega
section
variable{β δ:Type}{H:Int->β}{f:δ->Int->Int}{P:δ->Prop}{n:Nat}
def fr(f:δ->Int->Int)(r:List δ)(v:Int):Int:=r.foldl (λw d=>f d w) v
def Ek(H:Int->β)(f:δ->Int->Int)(P:δ->Prop)(k:Nat)(u v:Int):Prop:=∀r:List δ,(∀d ∈ r,P d)->r.length<=k->H (fr f r u)=H (fr f r v)
def Ek.symm(h:Ek H f P k u v):Ek H f P k v u:=λr hr hl=>(h r hr hl).symm
def Ek.trans(h:Ek H f P k u v)(g:Ek H f P k v w):Ek H f P k u w:=λr hr hl=>(h r hr hl).trans (g r hr hl)
def Ek.refl:Ek H f P k u u:=λ_ _ _=>rfl
def Ek.mono(h:Ek H f P k u v)(g:j<=k):Ek H f P j u v:=λr hr hl=>h r hr (zzM hl g)
def Ek.succ:Ek H f P (k+1) u v ↔ Ek H f P k u v/\∀d,P d->Ek H f P k (f d u) (f d v):=
 ⟨λh=>⟨h.mono (zyV _),λd hd r hr hl=>h (d::r) (λx mx=>(zzA.mp mx).elim (λz=>z ▸ hd) (hr x)) (Nat.succ_le_succ hl)⟩,λ⟨h,g⟩ r hr hl=>by
  cases r with
  |nil=>exact h [] hr (Nat.zero_le _)
  |cons d r=>exact g d (hr d (zzD ..)) r (λx mx=>hr x (zzB _ mx)) (Nat.le_of_succ_le_succ hl)⟩
def Ek.zero:Ek H f P 0 u v ↔ H u=H v:=⟨λh=>h [] (λ_ m=>nomatch m) (zzL _),λh r _ hl=>by
 cases r with
 |nil=>exact h
 |cons=>exact absurd hl (Nat.not_succ_le_zero _)⟩
abbrev St(H:Int->β)(f:δ->Int->Int)(P:δ->Prop)(n k:Nat):Prop:=∀u v:Nat,u<n->v<n->Ek H f P k u v->Ek H f P (k+1) u v
abbrev Rep(H:Int->β)(f:δ->Int->Int)(P:δ->Prop)(k v:Nat):Prop:=∀u:Nat,u<v->¬Ek H f P k (u:Int) (v:Int)
def zoq(h:¬St H f P n k):cnt (Rep H f P k) n<cnt (Rep H f P (k+1)) n:=by
 have mo:∀v,v<n->Rep H f P k v->Rep H f P (k+1) v:=λv _ hv u hu z=>hv u hu (z.mono (zyV _));have⟨u,v,hu,hv,e,ne⟩:∃u v:Nat,u<n/\v<n/\Ek H f P k u v/\¬Ek H f P (k+1) u v:=Classical.byContradiction λz=>h λu v hu hv e=>Classical.byContradiction λne=>z ⟨u,v,hu,hv,e,ne⟩;obtain⟨m0,h1,h2,h3⟩:=least (P:=λw=>Ek H f P k (u:Int) (w:Int)) u .refl;have⟨x,hx,ex,nx⟩:∃x:Nat,x<n/\Ek H f P k (u:Int) (x:Int)/\¬Ek H f P (k+1) (x:Int) (m0:Int):=by
  by_cases z:Ek H f P (k+1) (u:Int) (m0:Int)
  · exact⟨v,hv,e,λy=>ne (z.trans y.symm)⟩
  · exact⟨u,hu,.refl,z⟩
 obtain⟨w,g1,g2,g3⟩:=least (P:=λw=>Ek H f P (k+1) (x:Int) (w:Int)) x .refl;have kw:Ek H f P k (u:Int) (w:Int):=ex.trans (g1.mono (zyV _));have mw:m0<w:=by
  have:m0<=w:=Nat.le_of_not_lt λz=>h3 w z kw
  rcases Nat.lt_or_eq_of_le this with z|z
  · exact z
  · exact absurd (z ▸ g1) nx
 exact zoK (v:=w) n mo (by omega) (λy hy z=>g3 y hy (g1.trans z.symm)) λz=>z m0 mw (h1.symm.trans kw)
def stable(n1:1<=n):∃k,k<n/\St H f P n k:=Classical.byContradiction λz=>by
 have gr:∀k,k<=n->k+1<=cnt (Rep H f P k) n:=λk=>by
  induction k with
  |zero=>
   intro _;obtain⟨m,rfl⟩:∃m,n=m+1:=⟨n-1,by omega⟩;have h0:cnt (λv=>v=0) (m+1)<=cnt (Rep H f P 0) (m+1):=zjK _ λv _ hv u hu=>by subst hv;exact absurd hu (Nat.not_lt_zero _)
   have h1:∀j,1<=cnt (λv=>v=0) (j+1):=λj=>by
    induction j with
    |zero=>unfold cnt;rw[if_pos rfl];omega
    |succ j ih=>unfold cnt;omega
   have:=h1 m;omega
  |succ k ih=>
   intro hk;have:=ih (by omega);have:=zoq (n:=n) λh=>z ⟨k,by omega,h⟩;omega
 have:=gr n (zzL _);have:=zrj (Rep H f P n) n;omega
end
end PP
end
section
namespace G54
abbrev InR(n:Nat)(x:Int):Prop:=0<=x/\x<(n:Int)
structure LJ(n:Nat)(j:Int->Int->Int)(e:Int):Prop where
 cl:∀a b,InR n a->InR n b->InR n (j a b)
 ce:InR n e
 ul:∀a,InR n a->j e a=a
 ur:∀a,InR n a->j a e=a
 as:∀a b c,InR n a->InR n b->InR n c->j (j a b) c=j a (j b c)
structure LD(n m:Nat)(j:Int->Int->Int)(e:Int)(d:Int->Int->Int):Prop where
 cl:∀c a,InR m c->InR n a->InR n (d c a)
 em:d 0 e=e
 dn:∀a i b k,InR n a->InR m i->InR n b->InR m k->d ((i+k)%m) (j a b)=j (d i a) (d k b)
def zjo(hn:0<n):InR n (x%n):=⟨zyL _ (by omega),zyF _ (by omega)⟩
def LJ.congr(h:LJ n j e)(q:∀a b,InR n a->InR n b->j' a b=j a b):LJ n j' e:=by
 refine⟨λa b ha hb=>by rw[q a b ha hb];exact h.cl a b ha hb,h.ce,λa ha=>by rw[q _ _ h.ce ha];exact h.ul a ha,λa ha=>by rw[q _ _ ha h.ce];exact h.ur a ha,λa b c ha hb hc=>?_⟩;rw[q a b ha hb,q b c hb hc,q _ _ (h.cl a b ha hb) hc,q _ _ ha (h.cl b c hb hc)];exact h.as a b c ha hb hc
def LD.congr(hm:0<m)(hj:LJ n j e)(h:LD n m j e d)(q:∀a b,InR n a->InR n b->j' a b=j a b)(p:∀c a,InR m c->InR n a->d' c a=d c a):LD n m j' e d':=by
 refine⟨λc a hc ha=>by rw[p c a hc ha];exact h.cl c a hc ha,by rw[p 0 e ⟨by omega,by omega⟩ hj.ce];exact h.em,λa i b k ha hi hb hk=>?_⟩;rw[q a b ha hb,p _ _ (zjo hm) (hj.cl a b ha hb),p i a hi ha,p k b hk hb,q _ _ (h.cl i a hi ha) (h.cl k b hk hb)];exact h.dn a i b k ha hi hb hk
def jS(n:Nat)(a b:Int):Int:=(a+b)%n
def jM(a b:Int):Int:=if b > a then b else a
def jL(a b:Int):Int:=if b=0 then a else b
def jF(a b:Int):Int:=if a=0 then b else a
def p1(a:Int):Int:=if a=1\/a=3 then 1 else 0
def p2(a:Int):Int:=if a=0\/a=3 then 1 else 0
def ixM(u v:Int):Int:=if u=0 then(if v=0 then 2 else 0)else(if v=0 then 1 else 3)
def pk(u v k:Int):Int:=if k=0 then u else v
def j4(a b:Int):Int:=ixM (pk (p1 b) (p2 b) (p1 a)) (pk (p1 b) (p2 b) (p2 a))
def ljS(hn:0<n):LJ n (jS n) 0:=by
 refine⟨λa b _ _=>zjo hn,⟨by omega,by omega⟩,λa ha=>?_,λa ha=>?_,λa b c _ _ _=>?_⟩
 · unfold jS;rw[Int.zero_add,Int.emod_eq_of_lt ha.1 ha.2]
 · unfold jS;rw[Int.add_zero,Int.emod_eq_of_lt ha.1 ha.2]
 · unfold jS;rw[Int.emod_add_emod,Int.add_emod_emod,Int.add_assoc]
def ljM(hn:0<n):LJ n jM 0:=by
 refine⟨λa b ha hb=>?_,⟨by omega,by omega⟩,λa ha=>?_,λa ha=>?_,λa b c _ _ _=>?_⟩<;>unfold jM<;>(try unfold jM)<;>grind
def ljL(hn:0<n):LJ n jL 0:=by
 refine⟨λa b ha hb=>?_,⟨by omega,by omega⟩,λa ha=>?_,λa ha=>?_,λa b c _ _ _=>?_⟩<;>unfold jL<;>grind
def ljF(hn:0<n):LJ n jF 0:=by
 refine⟨λa b ha hb=>?_,⟨by omega,by omega⟩,λa ha=>?_,λa ha=>?_,λa b c _ _ _=>?_⟩<;>unfold jF<;>grind
def four{P:Int->Prop}(h0:P 0)(h1:P 1)(h2:P 2)(h3:P 3){a:Int}(h:InR 4 a):P a:=by
 rcases(show a=0\/a=1\/a=2\/a=3 by have:=h.1;have:=h.2;omega)with rfl|rfl|rfl|rfl<;>assumption
def f4{P:Int->Prop}(h:∀a ∈ ([0,1,2,3]:List Int),P a){a:Int}(ha:InR 4 a):P a:=four (h 0 (by decide)) (h 1 (by decide)) (h 2 (by decide)) (h 3 (by decide)) ha
def lj4:LJ 4 j4 0:=by
 refine⟨λa b ha hb=>?_,⟨by decide,by decide⟩,λa ha=>?_,λa ha=>?_,λa b c ha hb hc=>?_⟩
 · revert b;refine f4 (P:=λa=>∀b,InR 4 b->InR 4 (j4 a b)) ?_ ha
   have:∀a ∈ ([0,1,2,3]:List Int),∀b ∈ ([0,1,2,3]:List Int),InR 4 (j4 a b):=by decide
   exact λa m b hb=>f4 (P:=λb=>InR 4 (j4 a b)) (this a m) hb
 · exact f4 (P:=λa=>j4 0 a=a) (by decide) ha
 · exact f4 (P:=λa=>j4 a 0=a) (by decide) ha
 · have:∀a ∈ ([0,1,2,3]:List Int),∀b ∈ ([0,1,2,3]:List Int),∀c ∈ ([0,1,2,3]:List Int),j4 (j4 a b) c=j4 a (j4 b c):=by decide
   refine f4 (P:=λa=>j4 (j4 a b) c=j4 a (j4 b c)) (λa m=>f4 (P:=λb=>j4 (j4 a b) c=j4 a (j4 b c)) (λb m'=>f4 (P:=λc=>j4 (j4 a b) c=j4 a (j4 b c)) (this a m b m') hc) hb) ha
def ldS{n m:Nat}{g x0 x1:Int}(hn:0<n)(hm:0<m)(g0:0<g)(gn:g ∣ n)(gm:g ∣ m):LD n m (jS n) 0 (λc a=>(a*x0+c*((n:Int)/g)*x1)%n):=by
 refine⟨λc a _ _=>zjo hn,by simp,λa i b k _ _ _ _=>?_⟩;obtain⟨t,ht⟩:=gm;have h:(m:Int)*((n:Int)/g)=n*t:=by
  obtain⟨s,hs⟩:=gn;rw[hs,Int.mul_ediv_cancel_left _ (by omega),ht];grind
 show(_:Int)=jS n _ _;unfold jS;rw[<-Int.add_emod];generalize (n:Int)/g=st at h;rw[Int.emod_def (i+k) m,Int.emod_def (a+b) n];generalize (i+k)/(m:Int)=q;generalize (a+b)/(n:Int)=p;rw[show((a+b)-(n:Int)*p)*x0+((i+k)-(m:Int)*q)*st*x1=(a*x0+i*st*x1+(b*x0+k*st*x1))+(n:Int)*(-(p*x0)-t*q*x1) by grind,Int.add_mul_emod_self_left]
def ldM{n m:Nat}{r:Int->Int}(hm:0<m)(h0:r 0=0)(hc:∀a,InR n a->InR n (r a))(hr:∀a b,InR n a->InR n b->a<=b->r a<=r b):LD n m jM 0 (λ_ a=>r a):=by
 refine⟨λc a _ ha=>hc a ha,h0,λa i b k ha _ hb _=>?_⟩;show r (jM a b)=jM (r a) (r b);unfold jM;have h1:=hr a b ha hb;have h2:=hr b a hb ha
 split<;>split<;>grind
def ldL{n m:Nat}{r:Int->Int}(h0:r 0=0)(hc:∀a,InR n a->InR n (r a))(hr:∀a,InR n a->a≠0->r a≠0):LD n m jL 0 (λ_ a=>r a):=by
 refine⟨λc a _ ha=>hc a ha,h0,λa i b k ha _ hb _=>?_⟩;show r (jL a b)=jL (r a) (r b);unfold jL;have h2:=hr b hb
 split<;>split<;>grind
def ldF{n m:Nat}{r:Int->Int}(h0:r 0=0)(hc:∀a,InR n a->InR n (r a))(hr:∀a,InR n a->a≠0->r a≠0):LD n m jF 0 (λ_ a=>r a):=by
 refine⟨λc a _ ha=>hc a ha,h0,λa i b k ha _ hb _=>?_⟩;show r (jF a b)=jF (r a) (r b);unfold jF;have h2:=hr a ha
 split<;>split<;>grind
def ld4{m:Nat}{r:Int->Int}(h:(∀a,InR 4 a->r a=a)\/(∀a,InR 4 a->r a=(if a=2 then 3 else if a=3 then 2 else a))):LD 4 m j4 0 (λ_ a=>r a):=by
 rcases h with h|h
 · refine⟨λc a _ ha=>by show InR 4 (r a);rw[h a ha];exact ha,h 0 ⟨by decide,by decide⟩,λa i b k ha _ hb _=>?_⟩;show r (j4 a b)=j4 (r a) (r b);rw[h a ha,h b hb,h _ (lj4.cl a b ha hb)]
 · refine⟨λc a _ ha=>by show InR 4 (r a);rw[h a ha];exact f4 (P:=λa=>InR 4 (if a=2 then 3 else if a=3 then 2 else a)) (by decide) ha,h 0 ⟨by decide,by decide⟩,λa i b k ha _ hb _=>?_⟩;show r (j4 a b)=j4 (r a) (r b);rw[h a ha,h b hb,h _ (lj4.cl a b ha hb)];have:∀a ∈ ([0,1,2,3]:List Int),∀b ∈ ([0,1,2,3]:List Int),(if j4 a b=2 then 3 else if j4 a b=3 then 2 else j4 a b)=j4 (if a=2 then 3 else if a=3 then 2 else a) (if b=2 then 3 else if b=3 then 2 else b):=by decide
   exact f4 (P:=λa=>(if j4 a b=2 then 3 else if j4 a b=3 then 2 else j4 a b)=j4 (if a=2 then 3 else if a=3 then 2 else a) (if b=2 then 3 else if b=3 then 2 else b)) (λa m=>f4 (P:=λb=>(if j4 a b=2 then 3 else if j4 a b=3 then 2 else j4 a b)=j4 (if a=2 then 3 else if a=3 then 2 else a) (if b=2 then 3 else if b=3 then 2 else b)) (this a m) hb) ha
def znC(hx:InR n1 x)(hy:InR n2 y):InR (n1*n2) (x*n2+y):=by
 have h1:0<=x*n2:=Int.mul_nonneg hx.1 (by omega);have h2:x*n2<=((n1:Int)-1)*n2:=Int.mul_le_mul_of_nonneg_right (by have:=hx.2;omega) (by omega);rw[Int.sub_mul,Int.one_mul]at h2;refine⟨by have:=hy.1;omega, ?_⟩;rw[zzT];have:=hy.2;omega
def yr(h2:0<n2)(h:InR (n1*n2) p):InR n1 (p/n2)/\InR n2 (p%n2):=
 ⟨⟨Int.ediv_nonneg h.1 (by omega),Int.ediv_lt_of_lt_mul (by omega) (by have:=h.2;rw[zzT]at this;exact this)⟩,zjo h2⟩
def zfg(hy:InR n2 y):(x*n2+y)/n2=x/\(x*n2+y)%n2=y:=by
 have h0:(n2:Int)≠0:=by have:=hy.1;have:=hy.2;omega
 constructor
 · rw[Int.add_comm,Int.add_mul_ediv_right _ _ h0,Int.ediv_eq_zero_of_lt hy.1 hy.2,Int.zero_add]
 · rw[Int.add_comm,Int.add_mul_emod_self_right,Int.emod_eq_of_lt hy.1 hy.2]
def zuv{n2:Nat}{p:Int}:(p/n2)*n2+p%n2=p:=by rw[Int.mul_comm];exact Int.mul_ediv_add_emod p n2
def jB(n2:Nat)(j1 j2:Int->Int->Int)(p q:Int):Int:=j1 (p/n2) (q/n2)*n2+j2 (p%n2) (q%n2)
def dB(n2:Nat)(d1 d2:Int->Int->Int)(c p:Int):Int:=d1 c (p/n2)*n2+d2 c (p%n2)
def ljB{n1 n2:Nat}{j1 j2:Int->Int->Int}(h1:LJ n1 j1 0)(h2:LJ n2 j2 0)(p2:0<n2):LJ (n1*n2) (jB n2 j1 j2) 0:=by
 refine⟨λa b ha hb=>?_, ?_,λa ha=>?_,λa ha=>?_,λa b c ha hb hc=>?_⟩
 · exact znC (h1.cl _ _ (yr p2 ha).1 (yr p2 hb).1) (h2.cl _ _ (yr p2 ha).2 (yr p2 hb).2)
 · have:=znC h1.ce h2.ce;simpa using this
 · unfold jB;rw[Int.zero_ediv,Int.zero_emod,h1.ul _ (yr p2 ha).1,h2.ul _ (yr p2 ha).2,zuv]
 · unfold jB;rw[Int.zero_ediv,Int.zero_emod,h1.ur _ (yr p2 ha).1,h2.ur _ (yr p2 ha).2,zuv]
 · unfold jB;rw[(zfg (h2.cl _ _ (yr p2 ha).2 (yr p2 hb).2)).1,(zfg (h2.cl _ _ (yr p2 ha).2 (yr p2 hb).2)).2,(zfg (h2.cl _ _ (yr p2 hb).2 (yr p2 hc).2)).1,(zfg (h2.cl _ _ (yr p2 hb).2 (yr p2 hc).2)).2,h1.as _ _ _ (yr p2 ha).1 (yr p2 hb).1 (yr p2 hc).1,h2.as _ _ _ (yr p2 ha).2 (yr p2 hb).2 (yr p2 hc).2]
def ldB(h1:LJ n1 j1 0)(h2:LJ n2 j2 0)(p2:0<n2)(e1:LD n1 m j1 0 d1)(e2:LD n2 m j2 0 d2):LD (n1*n2) m (jB n2 j1 j2) 0 (dB n2 d1 d2):=by
 refine⟨λc a hc ha=>znC (e1.cl _ _ hc (yr p2 ha).1) (e2.cl _ _ hc (yr p2 ha).2), ?_,λa i b k ha hi hb hk=>?_⟩
 · unfold dB;rw[Int.zero_ediv,Int.zero_emod,e1.em,e2.em,Int.zero_mul,Int.add_zero]
 · unfold jB dB;rw[(zfg (h2.cl _ _ (yr p2 ha).2 (yr p2 hb).2)).1,(zfg (h2.cl _ _ (yr p2 ha).2 (yr p2 hb).2)).2,(zfg (e2.cl i _ hi (yr p2 ha).2)).1,(zfg (e2.cl i _ hi (yr p2 ha).2)).2,(zfg (e2.cl k _ hk (yr p2 hb).2)).1,(zfg (e2.cl k _ hk (yr p2 hb).2)).2,e1.dn _ _ _ _ (yr p2 ha).1 hi (yr p2 hb).1 hk,e2.dn _ _ _ _ (yr p2 ha).2 hi (yr p2 hb).2 hk]
def ljT{n:Nat}{j:Int->Int->Int}{F B:Int->Int}(h:LJ n j 0)(hF:∀a,InR n a->InR n (F a))(hB:∀a,InR n a->InR n (B a))(hFB:∀a,InR n a->F (B a)=a)(hBF:∀a,InR n a->B (F a)=a):LJ n (λa b=>F (j (B a) (B b))) (F 0):=by
 refine⟨λa b ha hb=>hF _ (h.cl _ _ (hB a ha) (hB b hb)),hF 0 h.ce,λa ha=>?_,λa ha=>?_,λa b c ha hb hc=>?_⟩
 · show F (j (B (F 0)) (B a))=a;rw[hBF 0 h.ce,h.ul _ (hB a ha),hFB a ha]
 · show F (j (B a) (B (F 0)))=a;rw[hBF 0 h.ce,h.ur _ (hB a ha),hFB a ha]
 · show F (j (B (F (j (B a) (B b)))) (B c))=F (j (B a) (B (F (j (B b) (B c)))));rw[hBF _ (h.cl _ _ (hB a ha) (hB b hb)),hBF _ (h.cl _ _ (hB b hb) (hB c hc)),h.as _ _ _ (hB a ha) (hB b hb) (hB c hc)]
def ldT{n m:Nat}{j d:Int->Int->Int}{F B:Int->Int}(hm:0<m)(h:LJ n j 0)(e:LD n m j 0 d)(hF:∀a,InR n a->InR n (F a))(hB:∀a,InR n a->InR n (B a))(hFB:∀a,InR n a->F (B a)=a)(hBF:∀a,InR n a->B (F a)=a):LD n m (λa b=>F (j (B a) (B b))) (F 0) (λc a=>F (d c (B a))):=by
 refine⟨λc a hc ha=>hF _ (e.cl _ _ hc (hB a ha)), ?_,λa i b k ha hi hb hk=>?_⟩
 · show F (d 0 (B (F 0)))=F 0;rw[hBF 0 h.ce,e.em]
 · show F (d ((i+k)%m) (B (F (j (B a) (B b)))))=F (j (B (F (d i (B a)))) (B (F (d k (B b)))));rw[hBF _ (h.cl _ _ (hB a ha) (hB b hb)),hBF _ (e.cl _ _ hi (hB a ha)),hBF _ (e.cl _ _ hk (hB b hb)),e.dn _ _ _ _ (hB a ha) hi (hB b hb) hk]
def leN(h:n<=8)(hk:8<=k:=by decide):n<=k:=zzM h hk
def np1{n:Nat}(h:1<=n):(0:Int)<n:=Int.natCast_pos.mpr h
def nq1(h:1<=n):0<n:=h
def nq2(h:2<=n):0<n:=zzM (by decide) h
def stL(h:0<=x/\x<k) : -(10 ^ 200:Int)<x:=Int.lt_of_lt_of_le (by decide) h.1
def stU{x:Int}(h:0<=x/\x<2147483399):x<10 ^ 200:=Int.lt_trans h.2 (by decide)
def lnK(h:m<=8)(e:l=0+i)(hi:i<m):l<1000:=by rw[e,zyW];exact zzI hi (zzM h (by decide))
def zi1(i:Nat):0+i+1=i+1:=by rw[zyW]
def lnE(h:l=0+m):l=m:=by rw[h,zyW]
def tS{a:Int}{n:Nat}(h0:0<=a)(h1:a<n):a.toNat<n:=Int.ofNat_lt.mp (by rw[zyX h0];exact h1)
def b6{n:Nat}(h:n<=6):(n:Int)<10 ^ 200:=Int.lt_of_le_of_lt (Int.ofNat_le.mpr h) (by decide)
def bgU{n:Nat}(h:n<=8):(n:Int)<10 ^ 200:=Int.lt_of_le_of_lt (Int.ofNat_le.mpr h) (by decide)
def bgL(n:Nat) : -(10 ^ 200:Int)<n:=Int.lt_of_lt_of_le (by decide) (Int.natCast_nonneg n)
def mU{n:Nat}{k:Int}(h:n<=8)(hk:8<k:=by decide):(n:Int)<k:=Int.lt_of_le_of_lt (Int.ofNat_le.mpr h) hk
def iT(h:InR n x):x.toNat<n:=Int.ofNat_lt.mp (by rw[zyX h.1];exact h.2)
def iC(h:InR n x):((x.toNat:Nat):Int)=x:=zyX h.1
def zI(i:Nat):(0:Int)<=0+i:=by rw[Int.zero_add];exact Int.natCast_nonneg i
def bL0(h:0<=x) : -(10 ^ 200:Int)<x:=Int.lt_of_lt_of_le (by decide) h
def bU0{x:Int}{n:Nat}(h:x<(n:Int))(hn:n<=8):x<10 ^ 200:=Int.lt_trans h (bgU hn)
def rAt(r:List Int)(v:Int):Int:=(r[v.toNat]?).getD 0
def jAt(J:List (List Int))(w v:Int):Int:=rAt ((J[w.toNat]?).getD []) v
open PySem PySem.Spec PyProof.Rows L2 PF
local macro_rules | `(tactic| trivial)=>`(tactic| first|with_reducible first|assumption|exact Int.natCast_nonneg _|exact Nat.le_refl _|exact Int.le_refl _|exact rfl|exact leN (by assumption)|exact np1 (by assumption)|exact np2 (by assumption)|exact nq1 (by assumption)|exact nq2 (by assumption)|exact Int.natCast_pos.mpr (by assumption)|exact Nat.le_trans (by assumption) (by decide)|exact bgL _|exact bgU (by assumption)|exact mU (by assumption)|exact zI _|exact bL0 (by assumption)|exact bU0 (by assumption) (by assumption)|exact iL (by assumption)|exact iU (by assumption) (by assumption)|exact iC (by assumption)|exact iT (by assumption)|exact stL (by assumption)|exact stU (by assumption)|exact lnK (by assumption) (by assumption) (by assumption)|exact zi1 _|exact lnE (by assumption)|exact ltL (by assumption)|exact Int.toNat_of_nonneg (by assumption)|exact tS (by assumption) (by assumption)|exact b6 (by assumption)|exact Int.emod_nonneg _ (by decide)|exact Int.emod_lt_of_pos _ (by decide)|decide|omega)
abbrev lfI(x:Int):O:=.lf true (.int x)
abbrev sI(x:Int):Option O:=some (lfI x)
abbrev sT(d:D):Option O:=some (.lf true d)
abbrev sN(os:List O):Option O:=some (.nd .ls os)
abbrev TZ:Type:=List (List Int)
abbrev DZ:Type:=List (Str×TZ)
abbrev SS:Type:=List (Str×List Int)
def Vc(h:f as=some (.ow o,as1))(hs:o.str=true):yC f as=some (.rt o):=by
 unfold yC;rw[h];show((if o.str=true then some o else none).bind _)=_;rw[if_pos hs];rfl
def szs(h:n<=1000000):n<=sizeLine:=zzM h (by decide)
theorem wC:∀xs:List Int,(xs.map lfI).all O.isLf=true/\O.strs (xs.map lfI)=true/\O.toDs (xs.map lfI)=xs.map D.int
 | []=>⟨rfl,rfl,rfl⟩
 |x::r=>⟨(wC r).1,(wC r).2.1,congrArg (D.int x :: ·) (wC r).2.2⟩
def zgS(xs:List Int):(xs.map D.int).map (O.lf true)=xs.map lfI:=by rw[zzZ];rfl
def zsc{as:AS}{i:Nat}{os:List O}{fl fh:OF}{lo hi:Option Int}(h:as[i]? = some (sN os))(hl:os.all O.isLf=true)(hs:O.strs os=true)(h1:fl as=some (lo,as))(h2:fh as=some (hi,as)):
 fSl (fV i) fl fh slP as=some (.ow (.nd .ls ((cutD (O.toDs os) lo hi).map (O.lf true))),as):=by
 unfold fSl;rw[zeE h];show((fl as).bind _)=_;rw[h1];show((fh as).bind _)=_;rw[h2];show((RV.view as (.bo i)).bind _)=_;rw[zdi h];have e:(O.nd .ls os).kl=some true:=by simp only[O.kl,hl,if_true,hs]
 rw[e];show(wrap (some true) (.fl (cutD (O.toDs os) lo hi))).bind _=_;show(if((cutD (O.toDs os) lo hi).all zZ||true)=true then some (RV.ow (.nd .ls ((cutD (O.toDs os) lo hi).map (lfs true))))else none:Option RV).bind _=_;rw[if_pos (by simp),WX];rfl
def zlK:cutD (x::xs) (some 1) none=xs:=by
 have:=zmW (xs:=[x]) (ys:=xs);have e:slP (.lst ([x]++xs)) (some (([x]:List D).length:Int)) none=some (.fl (cutD (x::xs) (some 1) none)):=rfl;rw[e]at this;injection this with this
 injection this
abbrev stB:SF:=(zy (zL true 3 (f2 (f2 (f2 (f2 zP zP zN) (f2 (fC (.int 48271)) zP zN) zF) yj zF) (fC (.int 2147483647)) zK))
 (yF (xJ 2 (dC (f2 (f2 (f2 zP (fC (.int 40692)) zN) (f2 (fC (.int 7)) yj zN) zF) (fC (.int 2147483399)) zK) dN) xU)))
def ziQ(ys:List Int)(w:Int):(ys++[w]).map lfI=ys.map lfI++[O.lf true (.int w)]:=by rw[zyK];rfl
theorem zeF:∀(n:Nat) (k x:Int) (ys:List Int) (e4:Option O),0<=k->k+n<=1000->0<=x->x<2 ^ 40->ys.length+n<=1000->(∀y ∈ ys,0<=y/\y<2147483399)->∃(x':Int) (zs:List Int) (e4':Option O),zs.length=ys.length+n/\(∀z ∈ zs,0<=z/\z<2147483399)/\
 forL Wo stB (wg k n) [A,B,sN (ys.map lfI),sI x,e4]=some (.nx [A,B,sN (zs.map lfI),sI x',e4'])
 |0,k,x,ys,e4,_,_,_,_,_,h=>⟨x,ys,e4,rfl,h,rfl⟩
 |n+1,k,x,ys,e4,hk,hkn,hx0,hx1,hl,h=>by
  have y0:=zyL (x*x+48271*x+k) (show(2147483647:Int)≠0 by decide);have y1:=zyF (x*x+48271*x+k) (show(0:Int)<2147483647 by decide);have w0:=zyL ((x*x+48271*x+k)%2147483647*40692+7*k) (show(2147483399:Int)≠0 by decide);have w1:=zyF ((x*x+48271*x+k)%2147483647*40692+7*k) (show(0:Int)<2147483399 by decide);obtain⟨x',zs,e4',h1,h2,h3⟩:=zeF (A:=A) (B:=B) n (k+1) ((x*x+48271*x+k)%2147483647) (ys++[((x*x+48271*x+k)%2147483647*40692+7*k)%2147483399]) (sI k) (by trivial) (by trivial) y0 (Int.lt_trans y1 (by decide)) (by rw[zzH];show ys.length+1+n<=_;trivial) (λz m=>by
   rcases zzK.mp m with m|m
   · exact h z m
   · rw[zzP.mp m];exact⟨w0,w1⟩)
  refine⟨x',zs,e4',by rw[h1,zzH];show ys.length+1+n=_;trivial,h2, ?_⟩;rw[ziQ]at h3;rw[zbp];have bx:x.natAbs<big:=zW (Int.lt_of_lt_of_le (by decide) hx0) (Int.lt_trans hx1 (by decide));have bk:k.natAbs<big:=zW (by trivial) (by trivial);exact YC (as1:=[A,B,sN (ys.map lfI),sI x,sI k]) rfl (ym (yE (i:=3) (yx (yR (yR (xT (za rfl) (za rfl) bx bx) (xT zb (za rfl) (zW (by decide) (by decide)) bx)) (za rfl)) zb (by decide)) (zp rfl))
   (zsN (i:=2) rfl (by rw[zD];exact wJ (by trivial)) (yx (yR (xT (za rfl) zb (zW (Int.lt_of_lt_of_le (by decide) y0) (Int.lt_trans y1 (by decide))) (zW (by decide) (by decide))) (xT zb (za rfl) (zW (by decide) (by decide)) bk)) zb (by decide)))) h3
def zlU{s:Bool}{c m:Int}(h0:0<=m)(h1:m<=900):∃xs:List Int,(xs.length:Int)=m/\(∀x ∈ xs,0<=x/\x<2147483399)/\yI [(true,.int c),(true,.int m)]=sN (xs.map lfI):=by
 have y0:=zyL c (show(2147483647:Int)≠0 by decide);have y1:=zyF c (show(0:Int)<2147483647 by decide);obtain⟨x',zs,e4,z1,z2,hf⟩:=zeF (A:=sI c) (B:=sI m) (m+1).toNat 0 (c%2147483647+48271) [] none (by trivial) (by trivial) (by trivial) (by trivial) (by show 0+_<=_;trivial) (λ_ m=>nomatch m);cases zs with
 |nil=>rw[List.length_nil]at z1;simp at z1;trivial
 |cons z r=>
  refine⟨r,by rw[zzR]at z1;simp at z1;trivial,λx hx=>z2 x (zzB _ hx), ?_⟩;obtain⟨i1,i2,i3⟩:=wC (z::r);have hs:=zsc (as:=[sI c,sI m,sN ((z::r).map lfI),sI x',e4]) (i:=2) (fl:=oS yg) (fh:=oN) (lo:=some 1) (hi:=none) rfl i1 i2 rfl rfl;rw[i3]at hs;have hc:cutD ((z::r).map D.int) (some 1) none=r.map D.int:=zlK;rw[hc,zgS]at hs;refine zaY rfl (ym (xg (i:=2) (wy zU (szl rfl)) (zp rfl)) (ym (yE (i:=3) (yR (yx (za rfl) zb (by decide)) zb) (zp rfl)) (ym (wz (xN (zu (yR (za rfl) zb) zJ) (by trivial) (by trivial)) hf) ?_)));exact Vc hs (wC r).2.1
def zck(xs:List Int):(O.nd .ls (xs.map lfI)).str=true/\(O.nd .ls (xs.map lfI)).toD = .lst (xs.map D.int):=⟨(wC xs).2.1,congrArg D.lst (wC xs).2.2⟩
abbrev Zr(r:List Int):O:=.nd .ls (r.map lfI)
abbrev zg(r:List Int):D:=.lst (r.map D.int)
theorem W4:∀T:TZ,O.strs (T.map Zr)=true/\O.toDs (T.map Zr)=T.map zg
 | []=>⟨rfl,rfl⟩
 |r::T=>⟨by show(O.strs (r.map lfI)&&O.strs (T.map Zr))=true;rw[(wC r).2.1,(W4 T).1];rfl,by
  show D.lst (O.toDs (r.map lfI))::O.toDs (T.map Zr)=_;rw[(wC r).2.2,(W4 T).2];rfl⟩
def zaT{g:GF}{fe:EF}{as0 as1:AS}{y:It1}{r:List It1}{o:O}{os:List O}(h1:g y as0=some as1)(h2:fe as1=some (.ow o,as1))(hs:o.str=true)(h3:xj g zX fe as0 r=some os):xj g zX fe as0 (y::r)=some (o::os):=by
 unfold xj;rw[h1];show((fe as1).bind _)=_;rw[h2];show(if o.str=true then _ else _)=_;rw[if_pos hs,h3];rfl
theorem yW:∀(n:Nat) (k:Int),(wg k n).length=n
 |0,_=>rfl
 |n+1,k=>by rw[zbp];exact congrArg (· + 1) (yW n (k+1))
theorem vh:∀{xs:List D},(∀x ∈ xs,f x x=some true)->eqL f xs xs=some true
 | [],_=>rfl
 |x::r,h=>by
  show(f x x).bind _=_;rw[h x (zzD),zyJ,vh (xs:=r) λy m=>h y (zzB _ m)];rfl
theorem zgM:∀{n:Nat}{k:Int}{y:It1},y ∈ wg k n->∃b:Int,y=(true,.int b)/\k<=b/\b<k+n
 |0,_,_,h=>nomatch h
 |n+1,k,y,h=>by
  rw[zbp]at h
  rcases zzA.mp h with rfl|h
  · exact⟨k,rfl,by trivial,by trivial⟩
  · obtain⟨b,e,h1,h2⟩:=zgM h;exact⟨b,e,by trivial,by trivial⟩
theorem zfY{α:Type}(toD:α->D){Q:α->Prop}{g:GF}{fe:EF}{as0:AS}:∀{xs:List It1},(∀y ∈ xs,∃as1 a,g y as0=some as1/\WE fe as1 (toD a)/\Q a)->∃(os:List O) (l:List α),xj g zX fe as0 xs=some os/\O.strs os=true/\O.toDs os=l.map toD/\l.length=xs.length/\∀a ∈ l,Q a
 | [],_=>⟨[],[],rfl,rfl,rfl,rfl,λ_ m=>nomatch m⟩
 |y::xs,H=>by
  obtain⟨as1,a,h1,⟨o,h2,h3,h4⟩,h5⟩:=H y (zzD ..);obtain⟨os,l,a1,a2,a3,a4,a5⟩:=zfY toD (Q:=Q) (g:=g) (fe:=fe) (as0:=as0) (xs:=xs) λz m=>H z (zzB _ m);refine⟨o::os,a::l,zaT h1 h2 h3 a1,by show(o.str&&O.strs os)=true;rw[h3,a2];rfl,by show o.toD::O.toDs os=_;rw[h4,a3];rfl,congrArg (· + 1) a4,λb m=>?_⟩
  rcases zzA.mp m with rfl|m
  · exact h5
  · exact a5 b m
def zjY{α:Type}(toD:α->D){Q:α->Prop}{fi:IF}{cap:List (Option Nat)}{g:GF}{fe:EF}{as:AS}{xs:List It1}(h1:fi as=some (xs,as))(hl:xs.length<=1000)(H:∀y ∈ xs,∃as1 a,g y (vI cap as)=some as1/\WE fe as1 (toD a)/\Q a):
 ∃l:List α,l.length=xs.length/\(∀a ∈ l,Q a)/\WE (zB fi cap g zX fe) as (.lst (l.map toD)):=by
 obtain⟨os,l,a1,a2,a3,a4,a5⟩:=zfY toD H;exact⟨l,a4,a5,_,Vb h1 (szs (by trivial)) a1,a2,congrArg D.lst a3⟩
def zei{α:Type}(toD:α->D){Q:α->Prop}{fr:AF}{cap:List (Option Nat)}{fe:EF}{as:AS}{n:Nat}{u:Bool}(h1:WA fr as [(u,.int n)])(hl:n<=1000)(H:∀b:Int,0<=b->b<n->∃as1 a,gN 0 (true,.int b) (vI cap as)=some as1/\WE fe as1 (toD a)/\Q a):
 ∃l:List α,l.length=n/\(∀a ∈ l,Q a)/\WE (zB (yp fr yq) cap ye zX fe) as (.lst (l.map toD)):=by
 obtain⟨l,a1,a2,a3⟩:=zjY toD (Q:=Q) (cap:=cap) (g:=gN 0) (fe:=fe) (xN h1 (by trivial) (by trivial)) (by rw[yW];trivial) (λy m=>by
  obtain⟨b,rfl,h0,h2⟩:=zgM m;exact H b h0 (by trivial))
 rw[yW]at a1;exact⟨l,by trivial,a2,a3⟩
def zoO(h:WE f as x):∃o,yC f as=some (.rt o)/\o.str=true/\o.toD=x:=by
 obtain⟨o,h1,h2,h3⟩:=h;exact⟨o,Vc h1 h2,h2,h3⟩
def yM(hl:ds.length=m)(h:∃o,c (wK n ds)=some (.rt o)/\o.str=true/\o.toD=x):RE (fnR n m c ds) x:=by
 obtain⟨o,h1,h2,h3⟩:=h;exact⟨o,zaY hl h1,h2,h3⟩
abbrev Rt(r:Option Out)(x:D):Prop:=∃o,r=some (.rt o)/\o.str=true/\o.toD=x
def zj(h1:f as=some (.nx as1))(h2:Rt (g as1) x):Rt (zy f g as) x:=by
 obtain⟨o,a,b,c⟩:=h2;exact⟨o,ym h1 a,b,c⟩
def vC(h1:Rt (f as) x):Rt (zy f g as) x:=by
 obtain⟨o,a,b,c⟩:=h1;exact⟨o,zkG a,b,c⟩
def Zk(h:WT c as true)(h1:Rt (f as) x):Rt (sIf c f g as) x:=by
 obtain⟨o,a,b,d⟩:=h1;exact⟨o,vV h a,b,d⟩
def yK(h:WE f as x):Rt (yC f as) x:=zoO h
def Row(n:Nat)(r:List Int):Prop:=r.length=n/\∀x ∈ r,0<=x/\x<(n:Int)
def Tab(k n:Nat)(T:TZ):Prop:=T.length=k/\∀r ∈ T,Row n r
abbrev zx(T:TZ):D:=.lst (T.map zg)
def zeD{r:List Int}{P:Int->Prop}{k:Int}(h0:0<=k)(h1:k<r.length)(hp:∀x ∈ r,P x):∃x,ixP (zg r) (.int k)=some (.im (.int x))/\P x:=by
 have hk:k.toNat<r.length:=by trivial
 refine⟨r[k.toNat], ?_,hp _ (zyY hk)⟩;have h:=ZM (xs:=r.map D.int) (j:=k.toNat) (v:=D.int r[k.toNat]) (by rw[zzG,zzC hk];rfl);rw[show((k.toNat:Nat):Int)=k by trivial]at h;show imR (atI _ _)=_;rw[h];rfl
abbrev St(x:Int):Prop:=0<=x/\x<2147483399
def stE{a b:EF}{as:AS}{c:Int}{m:Nat}(hm:m<=900)(ha:WE a as (.int c))(hb:WE b as (.int m)):∃xs:List Int,xs.length=m/\(∀x ∈ xs,St x)/\WE (zM (aC a (aC b aN)) yI) as (zg xs):=by
 obtain⟨xs,h1,h2,h3⟩:=zlU (s:=true) (c:=c) (m:=m) (by trivial) (by trivial);exact⟨xs,by trivial,h2,Wv ha hb ⟨_,h3,(zck xs).1,(zck xs).2⟩⟩
def zha{α:Type}{f:α->D}{l:List α}{i:Nat}{p:α}(h:l[i]? = some p):ixP (.lst (l.map f)) (.int (i:Int))=some (.im (f p)):=by
 have h:=ZM (xs:=l.map f) (j:=i) (v:=f p) (by rw[zzG,h];rfl);show imR (atI _ _)=_;rw[h];rfl
def zsd{n k:Nat}{r:List Int}{v:Int}(hl:r.length=k)(hr:∀x ∈ r,InR n x)(hv:InR k v):ixP (zg r) (.int v)=some (.im (.int (rAt r v)))/\InR n (rAt r v):=by
 have hk:v.toNat<r.length:=by rw[hl];have:=hv.1;have:=hv.2;trivial
 have g:=zzC hk;have e:rAt r v=r[v.toNat]:=by unfold rAt;rw[g];rfl
 rw[e];refine⟨?_,hr _ (zyY hk)⟩;have:=zha (f:=D.int) g;rw[show((v.toNat:Nat):Int)=v by have:=hv.1;trivial]at this;exact this
abbrev zef(T:TZ)(w:Int):List Int:=(T[w.toNat]?).getD []
def vR{k n:Nat}{T:TZ}{w:Int}(hT:Tab k n T)(hw:InR k w):ixP (zx T) (.int w)=some (.im (zg (zef T w)))/\Row n (zef T w):=by
 have hk:w.toNat<T.length:=by rw[hT.1];have:=hw.1;have:=hw.2;trivial
 have g:=zzC hk;unfold zef;rw[g];refine⟨?_,hT.2 _ (zyY hk)⟩;have:=zha (f:=zg) g;rw[show((w.toNat:Nat):Int)=w by have:=hw.1;trivial]at this;exact this
def rowAt(hr:Row n r)(hv:InR n v):ixP (zg r) (.int v)=some (.im (.int (rAt r v)))/\InR n (rAt r v):=zsd hr.1 hr.2 hv
theorem zkr{α:Type}(toD:α->D){Q:Nat->α->Prop}{g:GF}{fe:EF}{as0:AS}:∀{xs:List It1}(k:Nat),(∀i y,xs[i]? = some y->∃as1 a,g y as0=some as1/\WE fe as1 (toD a)/\Q (k+i) a)->∃(os:List O) (l:List α),xj g zX fe as0 xs=some os/\O.strs os=true/\O.toDs os=l.map toD/\l.length=xs.length/\∀i a,l[i]? = some a->Q (k+i) a
 | [],k,_=>⟨[],[],rfl,rfl,rfl,rfl,λi a h=>by simp at h⟩
 |y::xs,k,H=>by
  obtain⟨as1,a,h1,⟨o,h2,h3,h4⟩,h5⟩:=H 0 y rfl;obtain⟨os,l,a1,a2,a3,a4,a5⟩:=zkr toD (Q:=Q) (g:=g) (fe:=fe) (as0:=as0) (xs:=xs) (k+1) λi z m=>by
   have:=H (i+1) z (by simpa using m)
   rwa [show k+(i+1)=k+1+i by trivial]at this
  refine⟨o::os,a::l,zaT h1 h2 h3 a1,by show(o.str&&O.strs os)=true;rw[h3,a2];rfl,by show o.toD::O.toDs os=_;rw[h4,a3];rfl,congrArg (· + 1) a4,λi b m=>?_⟩;cases i with
  |zero=>simp at m;subst m;exact h5
  |succ i=>
   have:=a5 i b (by simpa using m)
   rwa [show k+1+i=k+(i+1) by trivial]at this
def zfR{α:Type}(toD:α->D){Q:Nat->α->Prop}{fi:IF}{cap:List (Option Nat)}{g:GF}{fe:EF}{as:AS}{xs:List It1}(h1:fi as=some (xs,as))(hl:xs.length<=1000)(H:∀i y,xs[i]? = some y->∃as1 a,g y (vI cap as)=some as1/\WE fe as1 (toD a)/\Q i a):
 ∃l:List α,l.length=xs.length/\(∀i a,l[i]? = some a->Q i a)/\WE (zB fi cap g zX fe) as (.lst (l.map toD)):=by
 obtain⟨os,l,a1,a2,a3,a4,a5⟩:=zkr toD (Q:=Q) (g:=g) (fe:=fe) (as0:=vI cap as) 0 (λi y h=>by rw[zyW];exact H i y h);exact⟨l,a4,(λi a h=>by have:=a5 i a h;rwa [zyW]at this),_,Vb h1 (szs (by trivial)) a1,a2,congrArg D.lst a3⟩
abbrev Vd(N n:Nat)(f:Int->Int)(r:List Int):Prop:=r.length=n/\(∀x ∈ r,InR N x)/\∀b,InR n b->rAt r b=f b
abbrev zaP(k n:Nat)(f:Int->Int->Int)(T:TZ):Prop:=Tab k n T/\∀a b,InR k a->InR n b->jAt T a b=f a b
def zgh(hl:l.length=n)(h:∀(i:Nat) a,l[i]? = some a->a=f i/\InR N a):Vd N n f l:=by
 refine⟨hl,λx m=>?_,λb hb=>?_⟩
 · obtain⟨i,hi⟩:=zyT m;exact(h i x hi).2
 · have hk:b.toNat<l.length:=by rw[hl];have:=hb.1;have:=hb.2;trivial
   have g:=zzC hk;unfold rAt;rw[g];show l[b.toNat]=_;rw[(h _ _ g).1,show((b.toNat:Nat):Int)=b by have:=hb.1;trivial]
def WP(hl:l.length=k)(h:∀(i:Nat) r,l[i]? = some r->Vd n n (f i) r):zaP k n f l:=by
 refine⟨⟨hl,λx m=>?_⟩,λa b ha hb=>?_⟩
 · obtain⟨i,hi⟩:=zyT m;exact⟨(h i x hi).1,(h i x hi).2.1⟩
 · have hk:a.toNat<l.length:=by rw[hl];have:=ha.1;have:=ha.2;trivial
   have g:=zzC hk;unfold jAt;rw[g];show rAt l[a.toNat] b=_;have:=(h _ _ g).2.2 b hb;rw[show((a.toNat:Nat):Int)=a by have:=ha.1;trivial]at this;exact this
def zaV{f:Int->Int}{N:Nat}{fr:AF}{cap:List (Option Nat)}{fe:EF}{as:AS}{n:Nat}{u:Bool}(h1:WA fr as [(u,.int n)])(hl:n<=1000)(H:∀b:Int,InR n b->∃as1,gN 0 (true,.int b) (vI cap as)=some as1/\WE fe as1 (.int (f b))/\InR N (f b)):
 ∃r:List Int,Vd N n f r/\WE (zB (yp fr yq) cap ye zX fe) as (zg r):=by
 obtain⟨l,a1,a2,a3⟩:=zfR D.int (Q:=λi a=>a=f i/\InR N a) (cap:=cap) (g:=gN 0) (fe:=fe) (xN h1 (by trivial) (by trivial)) (by rw[yW];trivial) (λi y m=>by
  obtain⟨rfl,hi⟩:=vg m;obtain⟨as1,b1,b2,b3⟩:=H (0+i) ⟨by trivial,by trivial⟩;exact⟨as1,f (0+i),b1,b2,by rw[Int.zero_add],b3⟩)
 rw[yW]at a1;exact⟨l,zgh (by trivial) a2,a3⟩
def zdp{f:Int->Int->Int}{n:Nat}{fr:AF}{cap:List (Option Nat)}{fe:EF}{as:AS}{k:Nat}{u:Bool}(h1:WA fr as [(u,.int k)])(hl:k<=1000)(H:∀b:Int,InR k b->∃as1 r,gN 0 (true,.int b) (vI cap as)=some as1/\WE fe as1 (zg r)/\Vd n n (f b) r):
 ∃T:TZ,zaP k n f T/\WE (zB (yp fr yq) cap ye zX fe) as (zx T):=by
 obtain⟨l,a1,a2,a3⟩:=zfR zg (Q:=λi r=>Vd n n (f i) r) (cap:=cap) (g:=gN 0) (fe:=fe) (xN h1 (by trivial) (by trivial)) (by rw[yW];trivial) (λi y m=>by
  obtain⟨rfl,hi⟩:=vg m;obtain⟨as1,r,b1,b2,b3⟩:=H (0+i) ⟨by trivial,by trivial⟩;rw[Int.zero_add]at b3;exact⟨as1,r,b1,b2,b3⟩)
 rw[yW]at a1;exact⟨l,WP (by trivial) a2,a3⟩
def zji:∀(b:Nat) (a:Int) (f:Nat),b<f->0<a->a<1000->b<1000->∃g e,0<g/\g<1000/\g ∣ a/\g ∣ (b:Int)/\whL (fT (f2 zq yo (zR .Gt))) (zna 0 1 (dC zq (dC (f2 zm zq zK) dN))) f [sI a,sI b]=some (.nx [sI g,e]):=by
 intro b
 induction b using Nat.strongRecOn with
 |ind b ih=>
  intro a f hf ha ha2 hb2;cases f with
  |zero=>trivial
  |succ f=>
   by_cases hb:b=0
   · subst hb;exact⟨a,_,ha,ha2,Int.dvd_refl a,Int.dvd_zero a,zjT (yc (zaw (za rfl) zb) rfl)⟩
   · have m0:=zyL a (show(b:Int)≠0 by trivial);have m1:=zyF a (show(0:Int)<b by trivial);obtain⟨g,e,g0,g1,d1,d2,hg⟩:=ih (a%b).toNat (by trivial) b f (by trivial) (by trivial) (by trivial) (by trivial);rw[show(((a%b).toNat:Nat):Int)=a%b by trivial]at hg d2;refine⟨g,e,g0,g1, ?_,d1,zmy (yc (zaw (za rfl) zb) (congrArg some (zyM (show(0:Int)<b by trivial)))) (ztd (zf (za rfl) (zf (yx (za rfl) (za rfl) (by trivial)) zU)) (zp rfl) (zp rfl)) hg⟩;rw[<-Int.mul_ediv_add_emod a b];exact Int.dvd_add (Int.dvd_trans d1 (Int.dvd_mul_right _ _)) d2
def zjt{n m:Nat}{s t:Bool}(hn:0<n)(hn2:n<=8)(hm:m<=8):∃g:Int,0<g/\g<1000/\g ∣ (n:Int)/\g ∣ (m:Int)/\Yo [(true,.int n),(true,.int m)]=sI g:=by
 obtain⟨g,e,g0,g1,d1,d2,hg⟩:=zji m n 10000 (by trivial) (by trivial) (by trivial) (by trivial);exact⟨g,g0,g1,d1,d2,zaY rfl (ym hg (zho (za rfl)))⟩
theorem strs_snoc:∀(os:List O) (o:O),O.strs os=true->o.str=true->O.strs (os++[o])=true
 | [],o,_,h=>by show(o.str&&true)=true;rw[h];rfl
 |p::r,o,h,h'=>by
  have h:=(zyA _ _).mp (show(p.str&&O.strs r)=true from h);show(p.str&&O.strs (r++[o]))=true;rw[h.1,strs_snoc r o h.2 h'];rfl
theorem zbE:∀(os:List O) (o:O),O.toDs (os++[o])=O.toDs os++[o.toD]
 | [],o=>rfl
 |p::r,o=>congrArg (p.toD :: ·) (zbE r o)
structure Ows{α:Type}(toD:α->D)(Q:α->Prop)(os:List O)(l:List α):Prop where
 st:O.strs os=true
 ds:O.toDs os=l.map toD
 al:∀a ∈ l,Q a
 ln:os.length=l.length
def Ows.nil{α:Type}{toD:α->D}{Q:α->Prop}:Ows toD Q [] []:=⟨rfl,rfl,(λ_ m=>nomatch m),rfl⟩
def Ows.snoc{α:Type}{toD:α->D}{Q:α->Prop}{os:List O}{l:List α}{o:O}{a:α}(h:Ows toD Q os l)(h1:o.str=true)(h2:o.toD=toD a)(h3:Q a):Ows toD Q (os++[o]) (l++[a]):=
 ⟨strs_snoc os o h.st h1,(by rw[zbE,h.ds,h2,zyK];rfl),(λb m=>(zzK.mp m).elim (h.al b) λm=>(by rw[zzP.mp m];exact h3)),(by rw[zzH,zzH,h.ln];rfl)⟩
def zhy{as as1:AS}{a:EF}{i:Nat}{os0 os:List O}{o:O}(h:as[i]? = some (sN os0))(ha:a as=some (.ow o,as1))(h1:as1[i]? = some (sN os))(hl:os.length<sizeLine):yF (xJ i (dC a dN) xU) as=some (.nx (as1.set i (sN (os++[o])))):=by
 unfold yF xJ;rw[h];have e:dC a dN as=some ([o],as1):=yS ha rfl;show((dC a dN as).bind _).bind _=_;rw[e];show(Option.bind (match as1[i]? with|some (some (.nd .ls os))=>_|_=>none) _)=_;rw[h1];show((xU os [o]).bind _).bind _=_;have e2:xU os [o]=some (os++[o],.lf true .non):=by unfold xU;exact if_pos hl
 rw[e2];rfl
def zmv{α:Type}{toD:α->D}{Q:α->Prop}{as:AS}{a:EF}{i:Nat}{os:List O}{l:List α}{x:α}(h:as[i]? = some (sN os))(ho:Ows toD Q os l)(hl:l.length<1000)(ha:WE a as (toD x))(hx:Q x):
 ∃os',Ows toD Q os' (l++[x])/\yF (xJ i (dC a dN) xU) as=some (.nx (as.set i (sN os'))):=by
 obtain⟨o,h1,h2,h3⟩:=ha;exact⟨os++[o],ho.snoc h2 h3 hx,zhy h h1 h (by rw[ho.ln];exact wJ (by trivial))⟩
def Ows.retB{α:Type}{toD:α->D}{Q:α->Prop}{as:AS}{i:Nat}{os:List O}{l:List α}(h:as[i]? = some (sN os))(ho:Ows toD Q os l):Rt (yC (fV i) as) (.lst (l.map toD)):=
 ⟨_,zdg h ho.st,ho.st,congrArg D.lst ho.ds⟩
def at2{xs:List Int}(h:∀x ∈ xs,St x){k:Int}(h0:0<=k)(h1:k<xs.length):∃x,ixP (zg xs) (.int k)=some (.im (.int x))/\St x:=zeD h0 h1 h
def vQ{x:Int}{n:Nat}(hn:0<n):0<=x%n/\x%n<(n:Int):=⟨zyL _ (by trivial),zyF _ (by trivial)⟩
structure OwsX{α:Type}(toD:α->D)(Q:Nat->α->Prop)(os:List O)(l:List α):Prop where
 st:O.strs os=true
 ds:O.toDs os=l.map toD
 al:∀i a,l[i]? = some a->Q i a
 ln:os.length=l.length
def OwsX.nil{α:Type}{toD:α->D}{Q:Nat->α->Prop}:OwsX toD Q [] []:=⟨rfl,rfl,(λi a h=>by simp at h),rfl⟩
def OwsX.snoc{α:Type}{toD:α->D}{Q:Nat->α->Prop}{os:List O}{l:List α}{o:O}{a:α}(h:OwsX toD Q os l)(h1:o.str=true)(h2:o.toD=toD a)(h3:Q l.length a):OwsX toD Q (os++[o]) (l++[a]):=by
 refine⟨strs_snoc os o h.st h1,(by rw[zbE,h.ds,h2,zyK];rfl),(λi b m=>?_),(by rw[zzH,zzH,h.ln];rfl)⟩
 by_cases hi:i<l.length
 · rw[zyN hi]at m;exact h.al i b m
 · have hl:=(zzE.mp m).1;rw[zzH]at hl;have e:i=l.length:=by have:i<l.length+1:=hl;trivial
   subst e;rw[zyP (zzL _),Nat.sub_self]at m;cases m;exact h3
def OwsX.ows{α:Type}{toD:α->D}{Q:Nat->α->Prop}{os:List O}{l:List α}(h:OwsX toD Q os l):Ows toD (λ_=>True) os l:=⟨h.st,h.ds,(λ_ _=>trivial),h.ln⟩
def ztu{α:Type}{toD:α->D}{Q:Nat->α->Prop}{as:AS}{a:EF}{i:Nat}{os:List O}{l:List α}{x:α}(h:as[i]? = some (sN os))(ho:OwsX toD Q os l)(hl:l.length<1000)(ha:WE a as (toD x))(hx:Q l.length x):
 ∃os',OwsX toD Q os' (l++[x])/\yF (xJ i (dC a dN) xU) as=some (.nx (as.set i (sN os'))):=by
 obtain⟨o,h1,h2,h3⟩:=ha;exact⟨os++[o],ho.snoc h2 h3 hx,zhy h h1 h (by rw[ho.ln];exact wJ (by trivial))⟩
def zqO{n m:Nat}{xs:List Int}(hn:0<n)(hn2:n<=8)(hm0:0<m)(hm:m<=8)(hl:xs.length=9)(hx:∀x ∈ xs,St x):∃T,(Tab m n T/\LD n m (jS n) 0 (jAt T))/\RE (V5 [(true,.int n),(true,.int m),(true,zg xs)]) (zx T):=by
 obtain⟨g,g0,g1,gn,gm,hg⟩:=zjt (s:=true) (t:=true) (n:=n) (m:=m) hn hn2 hm;obtain⟨x0,a0,b0⟩:=at2 hx (k:=0) (by trivial) (by trivial);obtain⟨x1,a1,b1⟩:=at2 hx (k:=1) (by trivial) (by trivial);have q0:0<=(n:Int)/g:=Int.ediv_nonneg (by trivial) (by trivial);have q1:(n:Int)/g<=n:=Int.ediv_le_self _ (by trivial);have hLD:=ldS (x0:=x0) (x1:=x1) hn hm0 g0 gn gm;generalize hst:(n:Int)/g=st at q0 q1 hLD;have st4:∀(os:List O) (c:Int),0<=c->c<8->∃l:List Int,Vd n n (λa=>(a*x0+c*st*x1)%n) l/\WE (zB (yp xR yq) [none,some 0,some 2,some 5,some 3] ye zX (f2 (f2 (f2 zm (f2 zE yo ixP) zN) (f2 (f2 zP yj zN) (f2 zE yg ixP) zN) zF) zq zK))
  [sI n,sI m,sT (zg xs),sI st,sN os,sI c] (zg l):=λos c c0 c1=>
  zaV (N:=n) (n:=n) (zu (za rfl) zJ) (by trivial) λb ⟨h0,h1⟩=>by
   have cs:0<=c*st/\c*st<=64:=⟨Int.mul_nonneg c0 q0,by have:=Int.mul_le_mul (show c<=8 by trivial) (show st<=8 by trivial) q0 (by trivial);trivial⟩;exact⟨[sI b,sI n,sT (zg xs),sI c,sI st],rfl,WD.e (yx (yR (xT (za rfl) (zG (za rfl) zb a0 rfl) (zW (by trivial) (by trivial)) (zW (by trivial) (by trivial))) (xT (xT (za rfl) (za rfl) (zW (by trivial) (by trivial)) (zW (by trivial) (by trivial))) (zG (za rfl) zb a1 rfl) (zW (by trivial) (by trivial)) (zW (by trivial) (by trivial)))) (za rfl) (by trivial)),vQ hn⟩
 obtain⟨as',hf,os,l,e5,rfl,ho,hlen⟩:=xM (g:=gN 5) (f:=yF (xJ 4 (dC (zB (yp xR yq) [none,some 0,some 2,some 5,some 3] ye zX (f2 (f2 (f2 zm (f2 zE yo ixP) zN) (f2 (f2 zP yj zN) (f2 zE yg ixP) zN) zF) zq zK)) dN) xU))
  (λi as=>∃(os:List O) (l:TZ) (e5:Option O),as=[sI n,sI m,sT (zg xs),sI st,sN os,e5]/\OwsX zg (λ(i:Nat) r=>Vd n n (λa=>(a*x0+(i:Int)*st*x1)%n) r) os l/\l.length=i)
  (wg 0 m) 0 [sI n,sI m,sT (zg xs),sI st,sN [],none] (λi x as hx' hI=>by
   obtain⟨os,l,e5,rfl,ho,hlen⟩:=hI;obtain⟨rfl,hi⟩:=vg hx';obtain⟨r,r1,r3⟩:=st4 os (0+i) (by trivial) (by trivial);obtain⟨os',o1,o2⟩:=ztu (x:=r) (i:=4) (toD:=zg) (Q:=λ(i:Nat) r=>Vd n n (λa=>(a*x0+(i:Int)*st*x1)%n) r) rfl ho (by trivial) r3 (by rw[hlen,zyW];rw[Int.zero_add]at r1;exact r1);exact⟨[sI n,sI m,sT (zg xs),sI st,sN os,sI (0+i)],rfl,_,o2,os',l++[r],_,rfl,o1,by rw[zzH,hlen];rfl⟩)
  ⟨[],[],none,rfl,OwsX.nil,rfl⟩
 rw[yW]at hlen;have hT:zaP m n (λc a=>(a*x0+c*st*x1)%n) l:=WP (by trivial) ho.al;refine⟨l,⟨hT.1,hLD.congr hm0 (ljS hn) (λ_ _ _ _=>rfl) hT.2⟩,yM rfl (zj (as1:=[sI n,sI m,sT (zg xs),sI st,none,none]) ?_ (zj (xg (i:=4) (wy zU (szl rfl)) (zp rfl)) (zj (wz (xN (zu (za rfl) zJ) (by trivial) (by trivial)) hf) (Ows.retB (i:=4) rfl ho.ows))))⟩;have:=yE (st:=true) (i:=3) (as:=[sI n,sI m,sT (zg xs),none,none,none]) (Zh (za (i:=0) rfl) (W5 (zu (za (i:=0) rfl) (zu (za (i:=1) rfl) zJ)) hg) g0 (zW (by trivial) (by trivial))) (zp rfl);rw[hst]at this;exact this
def zri(ha:WA fr as rs)(hg:g (rs.map (·.2))=some (.fl zs)):fP fr g as=some (.ow (.nd .ls (zs.map (lfs (rs.all (·.1))))),as):=by
 unfold fP;unfold WA at ha;rw[ha];show(views as _).bind _=_;rw[WF];show(g _).bind _=_;rw[hg];show(if(zs.all zZ||(some (rs.all (·.1))).isSome)=true then _ else _:Option RV).bind _=_;rw[if_pos (by simp)];rfl
def zgZ(ha:WE a as x)(hg:g [x]=some (.fl zs)):fP (aC a aN) g as=some (.ow (.nd .ls (zs.map (O.lf true))),as):=by
 have:=zri (g:=g) (YD ha (zJ (as:=as))) hg;rw[show([(true,x)].all (·.1))=true from rfl,WX]at this;exact this
def zqR(h:WD a as s (zg r)):fP (aC a aN) lstP as=some (.ow (Zr r),as):=by
 have:=zri (g:=lstP) (zu h (zJ (as:=as))) rfl;rw[zzZ]at this;exact this
def ztx(h:WD a as s (zg r)):WE (fP (aC a aN) lstP) as (zg r):=⟨_,zqR h,(zck r).1,(zck r).2⟩
def zsP(ha:WE a as x)(hb:WE b as y)(hc:WE c as z)(hd:WE d as u)(hg:RE (g [(true,x),(true,y),(true,z),(true,u)]) w):WE (zM (aC a (aC b (aC c (aC d aN)))) g) as w:=by
 obtain⟨o,h1,h2⟩:=hg;exact⟨o,Z3 (YD ha (YD hb (YD hc (YD hd zJ)))) (by show g [(zZ x||true,x),(zZ y||true,y),(zZ z||true,z),(zZ u||true,u)]=_;rw[zyB,zyB,zyB,zyB];exact h1),h2⟩
def zhq(ha:WE a as x)(hb:WE b as y)(hc:WE c as z)(hd:WE d as u)(he:WE e as v)(hg:RE (g [(true,x),(true,y),(true,z),(true,u),(true,v)]) w):WE (zM (aC a (aC b (aC c (aC d (aC e aN))))) g) as w:=by
 obtain⟨o,h1,h2⟩:=hg;exact⟨o,Z3 (YD ha (YD hb (YD hc (YD hd (YD he zJ))))) (by show g [(zZ x||true,x),(zZ y||true,y),(zZ z||true,z),(zZ u||true,u),(zZ v||true,v)]=_;rw[zyB,zyB,zyB,zyB,zyB];exact h1),h2⟩
def zcT{fr:DF}{as:AS}{os:List O}{x:D}(h:WO fr as os)(hl:os.length<=sizeLine)(hs:O.strs os=true)(e:D.tup (O.toDs os)=x):WE (yw fr) as x:=by
 refine⟨_,ziS h hl, ?_, ?_⟩
 · unfold YH
   split
   · exact hs
   · exact hs
 · unfold YH
   split
   · exact e
   · exact e
def ints_of:∀l:List Int,Zt (l.map D.int)=some l
 | []=>rfl
 |x::r=>by
  show(Zt (r.map D.int)).bind _=_;rw[ints_of r];rfl
def copies{n m:Nat}{fr:AF}{cap:List (Option Nat)}{as:AS}{u s:Bool}{r:List Int}(hr:Row n r)(hm:m<=8)(h1:WA fr as [(u,.int m)])(h2:∀b:Int,∃as1,gN 0 (true,.int b) (vI cap as)=some as1/\WD zq as1 s (zg r)):
 ∃T,zaP m n (λ_ a=>rAt r a) T/\WE (zB (yp fr yq) cap ye zX (fP xx lstP)) as (zx T):=
 zdp (f:=λ_ a=>rAt r a) (n:=n) (k:=m) (cap:=cap) (fe:=fP xx lstP) h1 (by trivial) λb _=>by
  obtain⟨as1,g1,g2⟩:=h2 b;exact⟨as1,r,g1,ztx g2,hr.1,hr.2,λ_ _=>rfl⟩
def zlE{l:List Int}(h:l.Pairwise (· <= ·)){i j:Nat}(hij:i<j)(hj:j<l.length):l[i]<=l[j]:=List.pairwise_iff_getElem.mp h i j (by trivial) hj hij
def YM(h:a.toNat<r.length):rAt r a=r[a.toNat]:=by unfold rAt;rw[zzC h];rfl
def zlW{n m:Nat}{xs:List Int}(hn:0<n)(hn2:n<=8)(hm0:0<m)(hm:m<=8)(hl:xs.length=9)(hx:∀x ∈ xs,St x):∃T,(Tab m n T/\LD n m jM 0 (jAt T))/\RE (Y4 [(true,.int n),(true,.int m),(true,zg xs)]) (zx T):=by
 obtain⟨l,l1,l2,l3⟩:=zei (as:=[sI n,sI m,sT (zg xs),none]) (u:=true) D.int (Q:=λx=>0<=x/\x<(n:Int)) (n:=n-1) (cap:=[none,some 0,some 2]) (fr:=aC (f2 zm yg Xb) aN) (fe:=f2 (f2 zE zm ixP) zq zK)
  (by rw[show(((n-1:Nat):Nat):Int)=(n:Int)-1 by trivial];exact zu (zjA (za rfl) zb) zJ) (by trivial) (λb h0 h1=>by
   obtain⟨x,hx1,hx2⟩:=at2 hx (k:=b) h0 (by trivial);exact⟨[sI b,sI n,sT (zg xs)],_,rfl,WD.e (yx (zG (za rfl) (za rfl) hx1 rfl) (za rfl) (by trivial)),vQ hn⟩)
 have w0:WE (f2 (yN (dC yo dN)) (zB (yp (aC (f2 zm yg Xb) aN) yq) [none,some 0,some 2] ye zX (f2 (f2 zE zm ixP) zq zK)) zF) [sI n,sI m,sT (zg xs),none] (.lst ((0::l).map D.int)):=
  zsW (wM (os:=[lfI 0]) (zf zb zU) (szl rfl) rfl rfl) l3 (add_lists (by rw[zD];exact szs (by show 1+_<=_;trivial)))
 have hp:=sortI_perm (0::l);have hlen:(sortI (0::l)).length=n:=by rw[hp.length_eq,zzR];trivial
 have hr:Row n ((sortI (0::l)).set 0 0):=by
  refine⟨by rw[zzS];exact hlen,λx m=>?_⟩
  rcases List.mem_or_eq_of_mem_set m with m|rfl
  · rcases zzA.mp (hp.mem_iff.mp m)with rfl|m
    · trivial
    · exact l2 x m
  · trivial
 have s3:=xg (i:=3) (zgZ (g:=znz) w0 (by
  show(Zt ((0::l).map D.int)).bind _=_;rw[ints_of];show(if(0::l).length<64 then _ else _)=_;rw[if_pos (by rw[zzR];trivial)])) (zp rfl)
 rw[zgS]at s3;have s4:zmH 3 (xC 0) (xC 0) [sI n,sI m,sT (zg xs),sN ((sortI (0::l)).map lfI)]=some (.nx [sI n,sI m,sT (zg xs),sN (((sortI (0::l)).set 0 0).map lfI)]):=by
  cases hs:sortI (0::l)with
  |nil=>rw[hs]at hlen;simp at hlen;trivial
  |cons y t=>rfl
 obtain⟨T,t1,t2⟩:=copies (n:=n) (m:=m) (s:=false) (u:=true) (cap:=[none,some 3]) (as:=[sI n,sI m,sT (zg xs),sN (((sortI (0::l)).set 0 0).map lfI)]) (fr:=aC zq aN) hr hm (zu (za rfl) zJ) (λb=>⟨[sI b,some (.lf false (.lst (O.toDs (((sortI (0::l)).set 0 0).map lfI))))],rfl,by rw[(wC _).2.2];exact za rfl⟩);have hz:rAt ((sortI (0::l)).set 0 0) 0=0:=by
  rw[YM (by rw[hr.1];exact hn)];exact List.getElem_set_self (by rw[zzS,hlen];exact hn)
 have hLD:LD n m jM 0 (λ_ a=>rAt ((sortI (0::l)).set 0 0) a):=by
  refine ldM hm0 hz (λa ha=>(rowAt hr ha).2) λa b ha hb hab=>?_
  by_cases h0:a=0
  · rw[h0,hz];exact(rowAt hr hb).2.1
  by_cases he:a=b
  · rw[he];exact Int.le_refl _
  have a0:=ha.1;have b1:=hb.2;rw[YM (by rw[hr.1];trivial),YM (by rw[hr.1];trivial),List.getElem_set_ne (by trivial),List.getElem_set_ne (by trivial)];exact zlE (Xa (0::l)) (by trivial) (by rw[hlen];trivial)
 exact⟨T,⟨t1.1,hLD.congr hm0 (ljM hn) (λ_ _ _ _=>rfl) t1.2⟩,yM rfl (zj s3 (zj s4 (yK t2)))⟩
def zkk{n m:Nat}{xs:List Int}(hn:2<=n)(hn2:n<=8)(hm0:0<m)(hm:m<=8)(hl:xs.length=9)(hx:∀x ∈ xs,St x):∃T,(Tab m n T/\LD n m jL 0 (jAt T)/\LD n m jF 0 (jAt T))/\RE (V4 [(true,.int n),(true,.int m),(true,zg xs)]) (zx T):=by
 obtain⟨l,l1,l2,l3⟩:=zei (as:=[sI n,sI m,sT (zg xs),none]) (u:=true) D.int (Q:=λx=>1<=x/\x<(n:Int)) (n:=n-1) (cap:=[none,some 2,some 0]) (fr:=aC (f2 zm yg Xb) aN) (fe:=f2 yg (f2 (f2 zq zm ixP) (f2 zE yg Xb) zK) zF)
  (by rw[show(((n-1:Nat):Nat):Int)=(n:Int)-1 by trivial];exact zu (zjA (za rfl) zb) zJ) (by trivial) (λb h0 h1=>by
   obtain⟨x,hx1,hx2⟩:=at2 hx (k:=b) h0 (by trivial);have m0:=zyL x (show(n:Int)-1≠0 by trivial);have m1:=zyF x (show(0:Int)<(n:Int)-1 by trivial);exact⟨[sI b,sT (zg xs),sI n],_,rfl,WD.e (yR zb (yx (zG (za rfl) (za rfl) hx1 rfl) (zjA (za rfl) zb) (by trivial))),by trivial,by trivial⟩)
 have w0:WE (f2 (yN (dC yo dN)) (zB (yp (aC (f2 zm yg Xb) aN) yq) [none,some 2,some 0] ye zX (f2 yg (f2 (f2 zq zm ixP) (f2 zE yg Xb) zK) zF)) zF) [sI n,sI m,sT (zg xs),none] (.lst ((0::l).map D.int)):=
  zsW (wM (os:=[lfI 0]) (zf zb zU) (szl rfl) rfl rfl) l3 (add_lists (by rw[zD];exact szs (by show 1+_<=_;trivial)))
 have hr:Row n (0::l):=⟨by rw[zzR];trivial,λx m=>by
  rcases zzA.mp m with rfl|m
  · trivial
  · have:=l2 x m;trivial⟩
 obtain⟨T,t1,t2⟩:=copies (n:=n) (m:=m) (s:=true) (u:=true) (cap:=[none,some 3]) (as:=[sI n,sI m,sT (zg xs),sT (.lst ((0::l).map D.int))]) (fr:=aC zq aN) hr hm (zu (za rfl) zJ) (λb=>⟨[sI b,sT (.lst ((0::l).map D.int))],rfl,za rfl⟩);have hz:rAt (0::l) 0=0:=rfl;have hp:∀a,InR n a->a≠0->rAt (0::l) a≠0:=λa ha h0=>by
  have a0:=ha.1;have a1:=ha.2;have hk:a.toNat<(0::l).length:=by rw[hr.1];trivial
  rw[YM hk];have hm:=zyY hk;obtain⟨k,ek⟩:∃k,a.toNat=k+1:=⟨a.toNat-1,by trivial⟩;have:(0::l)[a.toNat]=l[k]'(by rw[zzR]at hk;trivial):=by simp only[ek,List.getElem_cons_succ]
  rw[this];have:=l2 _ (zyY (show k<l.length by rw[zzR]at hk;trivial));trivial
 have hc:∀a,InR n a->InR n (rAt (0::l) a):=λa ha=>(rowAt hr ha).2;have n0:0<n:=by trivial
 exact⟨T,⟨t1.1,(ldL (m:=m) hz hc hp).congr hm0 (ljL n0) (λ_ _ _ _=>rfl) t1.2,(ldF (m:=m) hz hc hp).congr hm0 (ljF n0) (λ_ _ _ _=>rfl) t1.2⟩,yM rfl (zj (xZ (p:=3) w0 (zp rfl)) (yK t2))⟩
def KN(k:Int)(n:Nat):Prop:=(k=0/\1<=n)\/(k=1/\1<=n)\/(k=2/\2<=n)\/(k=3/\2<=n)\/(k=4/\n=4)
def zro:ixP (.lst [.int x,.int y]) (.int (if c=true then 1 else 0))=some (.im (.int (if c=true then y else x))):=by cases c<;>rfl
def jK(k:Int)(n:Nat):Int->Int->Int:=if k=0 then jS n else if k=1 then jM else if k=2 then jL else if k=3 then jF else j4
def ljK(h:KN k n):LJ n (jK k n) 0:=by
 rcases h with⟨rfl,hn⟩|⟨rfl,hn⟩|⟨rfl,hn⟩|⟨rfl,hn⟩|⟨rfl,rfl⟩
 · exact ljS hn
 · exact ljM hn
 · exact ljL (by trivial)
 · exact ljF (by trivial)
 · exact lj4
def zpo{as:AS}{n:Nat}{cap cap2:List (Option Nat)}{fr:AF}{u:Bool}{fe:EF}{f:Int->Int->Int}(hn2:n<=8)(h1:WA fr as [(true,.int n)])(H:∀a:Int,InR n a->∃as1,gN 0 (true,.int a) (vI cap as)=some as1/\WA xx as1 [(true,.int n)]/\∀b:Int,InR n b->∃as2,gN 0 (true,.int b) (vI cap2 as1)=some as2/\WD fe as2 true (.int (f a b))/\InR n (f a b)):
 ∃T,zaP n n f T/\WE (zB (yp fr yq) cap ye zX (zB (yp xx yq) cap2 ye zX fe)) as (zx T):=
 zdp (n:=n) (k:=n) (cap:=cap) (fe:=zB (yp xx yq) cap2 ye zX fe) h1 (by trivial) λa ha=>by
  obtain⟨as1,g1,g2,g3⟩:=H a ha;obtain⟨r,b1,b3⟩:=zaV (f:=f a) (N:=n) (n:=n) (cap:=cap2) (fe:=fe) g2 (by trivial) λb hb=>by
   obtain⟨as2,c1,c2,c3⟩:=g3 b hb;exact⟨as2,c1,WD.e c2,c3⟩
  exact⟨as1,r,g1,b3,b1⟩
abbrev zcB:List D:=[.tup [.int 0,.int 1],.tup [.int 1,.int 0],.tup [.int 0,.int 0],.tup [.int 1,.int 1]]
def zjZ(m:(zcB.map λd=>(true,d))[i]? = some y):y=(true,.tup [.int (p1 i),.int (p2 i)])/\i<4:=by
 match i,m with
 |0,m=>cases m;exact⟨rfl,by decide⟩
 |1,m=>cases m;exact⟨rfl,by decide⟩
 |2,m=>cases m;exact⟨rfl,by decide⟩
 |3,m=>cases m;exact⟨rfl,by decide⟩
def zor(i:Int):p1 i=0\/p1 i=1:=by unfold p1;split<;>simp
def znI(i:Int):p2 i=0\/p2 i=1:=by unfold p2;split<;>simp
def zqT(hu:u=0\/u=1)(hv:v=0\/v=1):pk u v k=0\/pk u v k=1:=by unfold pk;split<;>assumption
def zmY(hu:u=0\/u=1)(hv:v=0\/v=1):InR 4 (ixM u v)/\ZR (.lst zcB) [.tup [.int u,.int v]]=some (.im (.int (ixM u v))):=by
 rcases hu with rfl|rfl<;>rcases hv with rfl|rfl
 · exact⟨by decide,rfl⟩
 · exact⟨by decide,rfl⟩
 · exact⟨by decide,rfl⟩
 · exact⟨by decide,rfl⟩
def zke(hk:k=0\/k=1):ixP (.tup [.int p,.int q]) (.int k)=some (.im (.int (pk p q k))):=by
 rcases hk with rfl|rfl
 · rfl
 · rfl
def zss:∃T,zaP 4 4 j4 T/\RE (Yd [(true,.int 4),(true,.int (4:Nat))]) (zx T):=by
 obtain⟨T,t1,t2,t3⟩:=zfR (as:=[sI 4,sI (4:Nat),sT (.lst zcB)]) zg (Q:=λi r=>Vd 4 4 (j4 i) r) (cap:=[none,some 2]) (g:=gN 0) (fe:=zB (yU zq) [none,some 1,some 0] ye zX (Z1 .lst zq (aC (yw (dC (f2 zm (f2 zE yo ixP) ixP) (dC (f2 zm (f2 zE yg ixP) ixP) dN))) aN) ZR)) (zey (f:=fV 2) (WD.e (za rfl))) (by rw[zD];show 4<=1000;decide) λi y m=>by
  obtain⟨rfl,hi⟩:=zjZ m;obtain⟨r,r1,r2,r3⟩:=zfR (as:=[sT (.tup [.int (p1 i),.int (p2 i)]),sT (.lst zcB)]) D.int (Q:=λk x=>x=j4 i k/\InR 4 x) (cap:=[none,some 1,some 0]) (g:=gN 0) (fe:=Z1 .lst zq (aC (yw (dC (f2 zm (f2 zE yo ixP) ixP) (dC (f2 zm (f2 zE yg ixP) ixP) dN))) aN) ZR) (zey (f:=fV 1) (WD.e (za rfl))) (by rw[zD];show 4<=1000;decide) λk y m=>by
   obtain⟨rfl,hk⟩:=zjZ m;obtain⟨j1,ej⟩:=zmY (zqT (k:=p1 i) (zor k) (znI k)) (zqT (k:=p2 i) (zor k) (znI k));exact⟨[sT (.tup [.int (p1 k),.int (p2 k)]),sT (.lst zcB),sT (.tup [.int (p1 i),.int (p2 i)])],j4 i k,rfl,WD.e (zde (za rfl) rfl (zu (zbA (os:=[lfI (pk (p1 k) (p2 k) (p1 i)),lfI (pk (p1 k) (p2 k) (p2 i))]) (zf (zG (za rfl) (zG (za rfl) zb rfl rfl) (zke (zor i)) rfl) (zf (zG (za rfl) (zG (za rfl) zb rfl rfl) (zke (znI i)) rfl) zU)) (szl rfl) rfl) zJ) ej rfl),rfl,j1⟩
  rw[zD]at r1;exact⟨[sT (.tup [.int (p1 i),.int (p2 i)]),sT (.lst zcB)],r,rfl,r3,zgh r1 r2⟩
 rw[zD]at t1;refine⟨T,WP t1 t2,yM rfl (zj (yh (yc (yJ (za rfl) zb rfl) rfl) rfl) (zj (yh (yc (yJ (za rfl) zb rfl) rfl) rfl) (zj (yh (yc (yJ (za rfl) zb rfl) rfl) rfl) (zj (yh (yc (yJ (za rfl) zb rfl) rfl) rfl) (zj (xZ (p:=2) (x:=.lst zcB) (wM (os:=zcB.map (O.lf true)) ?_ (szl rfl) rfl rfl) (zp rfl)) (yK t3))))))⟩;exact zf (zbA (os:=[lfI 0,lfI 1]) (zf zb (zf zb zU)) (szl rfl) rfl) (zf (zbA (os:=[lfI 1,lfI 0]) (zf zb (zf zb zU)) (szl rfl) rfl) (zf (zbA (os:=[lfI 0,lfI 0]) (zf zb (zf zb zU)) (szl rfl) rfl) (zf (zbA (os:=[lfI 1,lfI 1]) (zf zb (zf zb zU)) (szl rfl) rfl) zU)))
def zmq{k:Int}{n:Nat}(h:KN k n)(hn2:n<=8):∃T,zaP n n (jK k n) T/\RE (Yd [(true,.int k),(true,.int n)]) (zx T):=by
 rcases h with⟨rfl,hn⟩|⟨rfl,hn⟩|⟨rfl,hn⟩|⟨rfl,hn⟩|⟨rfl,rfl⟩
 · obtain⟨T,t1,t2⟩:=zpo (f:=jS n) (as:=[sI 0,sI n,none]) (n:=n) (u:=true) (cap:=[none,some 1]) (cap2:=[none,some 1,some 0]) (fr:=aC zq aN) (fe:=f2 (f2 zE zm zF) zq zK) hn2 (zu (za rfl) zJ) λa ha=>⟨[sI a,sI n],rfl,zu (za rfl) zJ,λb hb=>⟨[sI b,sI n,sI a],rfl,yx (yR (za rfl) (za rfl)) (za rfl) (by trivial),zjo hn⟩⟩;exact⟨T,t1,yM rfl (vC (Zk (yc (yJ (za rfl) zb rfl) rfl) (yK t2)))⟩
 · obtain⟨T,t1,t2⟩:=zpo (f:=jM) (as:=[sI 1,sI n,none]) (n:=n) (u:=true) (cap:=[none,some 1]) (cap2:=[none,some 0]) (fr:=aC zq aN) (fe:=fP (aC zq xR) zsF) hn2 (zu (za rfl) zJ) λa ha=>⟨[sI a,sI n],rfl,zu (za rfl) zJ,λb hb=>⟨[sI b,sI a],rfl,wD (zu (za rfl) (zu (za rfl) zJ)) rfl rfl,(ljM hn).cl a b ha hb⟩⟩;exact⟨T,t1,yM rfl (zj (yh (yc (yJ (za rfl) zb rfl) rfl) rfl) (vC (Zk (yc (yJ (za rfl) zb rfl) rfl) (yK t2))))⟩
 · obtain⟨T,t1,t2⟩:=zpo (f:=jL) (as:=[sI 2,sI n,none]) (n:=n) (u:=true) (cap:=[none,some 1]) (cap2:=[none,some 0]) (fr:=aC zq aN) (fe:=f2 (yN (dC zm (dC zq dN))) (fP (aC (f2 zm yo (zR .Eq)) aN) ziO) ixP) hn2 (zu (za rfl) zJ) λa ha=>⟨[sI a,sI n],rfl,zu (za rfl) zJ,λb hb=>⟨[sI b,sI a],rfl,f2E (wM (os:=[lfI b,lfI a]) (zf (za rfl) (zf (za rfl) zU)) (szl rfl) rfl rfl) (WD.e (wD (zu (yJ (za rfl) zb rfl) zJ) rfl rfl)) (zro.trans (by unfold jL;by_cases h:b=0<;>simp[h])),(ljL (by trivial)).cl a b ha hb⟩⟩;exact⟨T,t1,yM rfl (zj (yh (yc (yJ (za rfl) zb rfl) rfl) rfl) (zj (yh (yc (yJ (za rfl) zb rfl) rfl) rfl) (vC (Zk (yc (yJ (za rfl) zb rfl) rfl) (yK t2)))))⟩
 · obtain⟨T,t1,t2⟩:=zpo (f:=jF) (as:=[sI 3,sI n,none]) (n:=n) (u:=true) (cap:=[none,some 1]) (cap2:=[none,some 0]) (fr:=aC zq aN) (fe:=f2 (yN (dC zq (dC zm dN))) (fP (aC (f2 zq yo (zR .Eq)) aN) ziO) ixP) hn2 (zu (za rfl) zJ) λa ha=>⟨[sI a,sI n],rfl,zu (za rfl) zJ,λb hb=>⟨[sI b,sI a],rfl,f2E (wM (os:=[lfI a,lfI b]) (zf (za rfl) (zf (za rfl) zU)) (szl rfl) rfl rfl) (WD.e (wD (zu (yJ (za rfl) zb rfl) zJ) rfl rfl)) (zro.trans (by unfold jF;by_cases h:a=0<;>simp[h])),(ljF (by trivial)).cl a b ha hb⟩⟩;exact⟨T,t1,yM rfl (zj (yh (yc (yJ (za rfl) zb rfl) rfl) rfl) (zj (yh (yc (yJ (za rfl) zb rfl) rfl) rfl) (zj (yh (yc (yJ (za rfl) zb rfl) rfl) rfl) (vC (Zk (yc (yJ (za rfl) zb rfl) rfl) (yK t2))))))⟩
 · exact zss
def zqo(h:KN k n)(hn2:n<=8)(hm0:0<m)(hm:m<=8)(hl:xs.length=9)(hx:∀x ∈ xs,St x):∃T,(Tab m n T/\LD n m (jK k n) 0 (jAt T))/\RE (YQ [(true,.int k),(true,.int n),(true,.int m),(true,zg xs)]) (zx T):=by
 rcases h with⟨rfl,hn⟩|⟨rfl,hn⟩|⟨rfl,hn⟩|⟨rfl,hn⟩|⟨rfl,rfl⟩
 · obtain⟨T,t1,t2⟩:=zqO (m:=m) (xs:=xs) hn hn2 hm0 hm hl hx;exact⟨T,t1,yM rfl (vC (Zk (yc (yJ (za rfl) zb rfl) rfl) (yK (Yp (WD.e (za rfl)) (WD.e (za rfl)) (WD.e (za rfl)) t2))))⟩
 · obtain⟨T,t1,t2⟩:=zlW (m:=m) (xs:=xs) hn hn2 hm0 hm hl hx;exact⟨T,t1,yM rfl (zj (yh (yc (yJ (za rfl) zb rfl) rfl) rfl) (vC (Zk (yc (yJ (za rfl) zb rfl) rfl) (yK (Yp (WD.e (za rfl)) (WD.e (za rfl)) (WD.e (za rfl)) t2)))))⟩
 · obtain⟨T,t1,t2⟩:=zkk (m:=m) (xs:=xs) hn hn2 hm0 hm hl hx;exact⟨T,⟨t1.1,t1.2.1⟩,yM rfl (zj (yh (yc (yJ (za rfl) zb rfl) rfl) rfl) (zj (yh (yc (yJ (za rfl) zb rfl) rfl) rfl) (vC (Zk (yc (ziE (za rfl) zb) rfl) (yK (Yp (WD.e (za rfl)) (WD.e (za rfl)) (WD.e (za rfl)) t2))))))⟩
 · obtain⟨T,t1,t2⟩:=zkk (m:=m) (xs:=xs) hn hn2 hm0 hm hl hx;exact⟨T,⟨t1.1,t1.2.2⟩,yM rfl (zj (yh (yc (yJ (za rfl) zb rfl) rfl) rfl) (zj (yh (yc (yJ (za rfl) zb rfl) rfl) rfl) (vC (Zk (yc (ziE (za rfl) zb) rfl) (yK (Yp (WD.e (za rfl)) (WD.e (za rfl)) (WD.e (za rfl)) t2))))))⟩
 · obtain⟨x0,a0,b0⟩:=at2 hx (k:=0) (by trivial) (by trivial);have hp:∃r:List Int,(Row 4 r/\LD 4 m j4 0 (λ_ a=>rAt r a))/\ixP (.lst [zg [0,1,2,3],zg [0,1,3,2]]) (.int (x0%2))=some (.im (zg r)):=by
    rcases(show x0%2=0\/x0%2=1 by trivial)with e|e<;>rw[e]
    · exact⟨[0,1,2,3],⟨⟨rfl,by decide⟩,ld4 (.inl λa ha=>f4 (P:=λa=>rAt [0,1,2,3] a=a) (by decide) ha)⟩,rfl⟩
    · exact⟨[0,1,3,2],⟨⟨rfl,by decide⟩,ld4 (.inr λa ha=>f4 (P:=λa=>rAt [0,1,3,2] a=(if a=2 then 3 else if a=3 then 2 else a)) (by decide) ha)⟩,rfl⟩
   obtain⟨r,r1,r2⟩:=hp;obtain⟨T,c1,c3⟩:=zdp (as:=[sI 4,sI (4:Nat),sI m,sT (zg xs)]) (u:=true) (f:=λ_ a=>rAt r a) (n:=4) (k:=m) (cap:=[none,some 3]) (fr:=aC zE aN) (fe:=f2 (yN (dC (yN (dC yo (dC yg (dC yD (dC vf dN))))) (dC (yN (dC yo (dC yg (dC vf (dC yD dN))))) dN))) (f2 (f2 zq yo ixP) yD zK) ixP) (zu (za rfl) zJ) (by trivial) λb _=>
    ⟨[sI b,sT (zg xs)],r,rfl,WD.e (f2E (wM (Y8 (wy (zf zb (zf zb (zf zb (zf zb zU)))) (szl rfl)) (Y8 (wy (zf zb (zf zb (zf zb (zf zb zU)))) (szl rfl)) zU)) (szl rfl) rfl rfl) (WD.e (yx (zG (za rfl) zb a0 rfl) zb (by decide))) r2),r1.1.1,r1.1.2,λ_ _=>rfl⟩
   exact⟨T,⟨c1.1,r1.2.congr hm0 lj4 (λ_ _ _ _=>rfl) c1.2⟩,yM rfl (zj (yh (yc (yJ (za rfl) zb rfl) rfl) rfl) (zj (yh (yc (yJ (za rfl) zb rfl) rfl) rfl) (zj (yh (yc (ziE (za rfl) zb) rfl) rfl) (yK c3))))⟩
structure LawP(n m:Nat)(J:TZ)(Ds:List TZ):Prop where
 tj:Tab n n J
 lj:LJ n (jAt J) 0
 td:∀T ∈ Ds,Tab m n T
 ld:∀T ∈ Ds,LD n m (jAt J) 0 (jAt T)
abbrev plD(n:Nat)(J:TZ)(Ds:List TZ):D:=.tup [.int n,zx J,.lst (Ds.map zx)]
def zdD(h:KN k n)(hn2:n<=8)(hm0:0<m)(hm:m<=8)(hw:w<=8):∃J Ds,LawP n m J Ds/\Ds.length=w/\RE (vH [(true,.int k),(true,.int n),(true,.int m),(true,.int w),(true,.int c)]) (plD n J Ds):=by
 obtain⟨J,j1,oj,j2,j3,j4⟩:=zmq h hn2;obtain⟨Ds,d1,d2,d3⟩:=zei (as:=[sI k,sI n,sI m,sI w,sI c,none]) (u:=true) zx (Q:=λT=>Tab m n T/\LD n m (jK k n) 0 (jAt T)) (n:=w) (cap:=[none,some 0,some 1,some 2,some 4]) (fr:=aC zP aN) (fe:=zM (aC zq (aC zE (aC zP (aC (zM (aC (f2 yj (f2 (fC (.int 31)) zm zN) zF) (aC (fC (.int 9)) aN)) yI) aN)))) YQ) (zu (za rfl) zJ) (by trivial) λb b0 b1=>by
  obtain⟨xs,x1,x2,x3⟩:=stE (as:=[sI b,sI k,sI n,sI m,sI c]) (a:=f2 yj (f2 (fC (.int 31)) zm zN) zF) (b:=fC (.int 9)) (m:=9) (by trivial) (WD.e (yR (za rfl) (xT zb (za rfl) (zW (by decide) (by decide)) (zW (by trivial) (by trivial))))) (WD.e zb);obtain⟨T,t1,t2⟩:=zqo h hn2 hm0 hm x1 x2;exact⟨[sI b,sI k,sI n,sI m,sI c],T,rfl,zsP (WD.e (za rfl)) (WD.e (za rfl)) (WD.e (za rfl)) x3 t2,t1⟩
 have lj:=(ljK h).congr j1.2;refine⟨J,Ds,⟨j1.1,lj,λT mT=>(d2 T mT).1,λT mT=>(d2 T mT).2.congr hm0 (ljK h) j1.2 (λ_ _ _ _=>rfl)⟩,d1,yM rfl (zj (xZ (p:=5) d3 (zp rfl)) (yK (zcT (os:=[lfI n,oj,.lf true (.lst (Ds.map zx))]) (zf (za rfl) (Y8 (Z3 (zu (za rfl) (zu (za rfl) zJ)) j2) (zf (za rfl) zU))) (szl rfl) ?_ ?_)))⟩
 · show(true&&(oj.str&&(true&&true)))=true;rw[j3];rfl
 · show D.tup [.int n,oj.toD,.lst (Ds.map zx)]=_;rw[j4]
def zkL{as:AS}{i j:Nat}{os ps:List O}(hij:i≠j)(h:as[i]? = some (sN os))(hj:as[j]? = some (sN ps))(hl:os.length<sizeLine):
 yF (xJ i (dC (fV j) dN) xU) as=some (.nx ((as.set j (some (O.nd .ls ps).frz)).set i (sN (os++[(O.nd .ls ps).frz])))):=by
 have e:dC (fV j) dN as=some ([(O.nd .ls ps).frz],as.set j (some (O.nd .ls ps).frz)):=by
  unfold dC;rw[zeE hj];show((toO as (.bo j)).bind _)=_;rw[znD hj];rfl
 unfold yF xJ;rw[h];show((dC (fV j) dN as).bind _).bind _=_;rw[e];show(Option.bind (match(as.set j (some (O.nd .ls ps).frz))[i]? with|some (some (.nd .ls os))=>_|_=>none) _)=_;rw[zzW (Ne.symm hij),h];show((xU os [(O.nd .ls ps).frz]).bind _).bind _=_;have e2:xU os [(O.nd .ls ps).frz]=some (os++[(O.nd .ls ps).frz],.lf true .non):=by unfold xU;exact if_pos hl
 rw[e2];rfl
def Ows.frz{α:Type}{toD:α->D}{Q:α->Prop}{os:List O}{l:List α}(h:Ows toD Q os l):(O.nd .ls os).frz = .lf true (.lst (l.map toD)):=by
 show O.lf (O.strs os) (.lst (O.toDs os))=_;rw[h.st,h.ds]
section
variable{n1 n2 m:Nat}{J1 J2:TZ}{D1 D2:List TZ}
def zmC(h1:0<n1)(h2:0<n2)(hn:n1*n2<=8)(j1:Tab n1 n1 J1)(j2:Tab n2 n2 J2):
 ∃os l e6 e7 e8,OwsX zg (λ(i:Nat) r=>Vd (n1*n2) (n1*n2) (jB n2 (jAt J1) (jAt J2) i) r) os l/\l.length=n1*n2/\forL (gN 6) (zy (zL true 7 (f2 (f2 zm yg ixP) (f2 vD yj yd) ixP))
 (zy (zL true 8 (f2 (f2 zq yg ixP) (f2 vD yj zK) ixP))
 (yF (xJ 5 (dC (zB (yp Ww yq) [none,some 4,some 8,some 7] ye zX (f2 (f2 (f2 zP (f2 zm zq yd) ixP) zq zN) (f2 zE (f2 zm zq zK) ixP) zF)) dN) xU))))
  (wg 0 (n1*n2)) [sT (plD n1 J1 D1),sT (plD n2 J2 D2),sI m,sI ((n1*n2:Nat):Int),sI n2,sN [],none,none,none,none,none,none,none,none]
  = some (.nx [sT (plD n1 J1 D1),sT (plD n2 J2 D2),sI m,sI ((n1*n2:Nat):Int),sI n2,sN os,e6,e7,e8,none,none,none,none,none]):=by
 have hn2:n2<=8:=zzM (Nat.le_mul_of_pos_left n2 h1) hn;obtain⟨as',hf,os,l,e6,e7,e8,rfl,ho,hlen⟩:=xM (g:=gN 6) (f:=(zy (zL true 7 (f2 (f2 zm yg ixP) (f2 vD yj yd) ixP))
  (zy (zL true 8 (f2 (f2 zq yg ixP) (f2 vD yj zK) ixP))
  (yF (xJ 5 (dC (zB (yp Ww yq) [none,some 4,some 8,some 7] ye zX (f2 (f2 (f2 zP (f2 zm zq yd) ixP) zq zN) (f2 zE (f2 zm zq zK) ixP) zF)) dN) xU)))))
  (λi as=>∃(os:List O) (l:TZ) (e6 e7 e8:Option O),as=[sT (plD n1 J1 D1),sT (plD n2 J2 D2),sI m,sI ((n1*n2:Nat):Int),sI n2,sN os,e6,e7,e8,none,none,none,none,none]/\OwsX zg (λ(i:Nat) r=>Vd (n1*n2) (n1*n2) (jB n2 (jAt J1) (jAt J2) i) r) os l/\l.length=i)
  (wg 0 (n1*n2)) 0 [sT (plD n1 J1 D1),sT (plD n2 J2 D2),sI m,sI ((n1*n2:Nat):Int),sI n2,sN [],none,none,none,none,none,none,none,none] (λi x as hx' hI=>by
   obtain⟨os,l,e6,e7,e8,rfl,ho,hlen⟩:=hI;obtain⟨rfl,hi⟩:=vg hx';obtain⟨u1,u2⟩:=yr (n1:=n1) (n2:=n2) (p:=0+i) h2 ⟨by trivial,by trivial⟩;obtain⟨a1,b1⟩:=vR j1 u1;obtain⟨a2,b2⟩:=vR j2 u2;have n18:n1<=8:=zzM (Nat.le_mul_of_pos_right n1 h2) hn;obtain⟨r,c1,c3⟩:=zaV (f:=jB n2 (jAt J1) (jAt J2) (0+i)) (N:=n1*n2) (as:=[sT (plD n1 J1 D1),sT (plD n2 J2 D2),sI m,sI ((n1*n2:Nat):Int),sI n2,sN os,sI (0+i),sT (zg (zef J1 ((0+i)/n2))),sT (zg (zef J2 ((0+i)%n2))),none,none,none,none,none]) (u:=true) (n:=n1*n2) (cap:=[none,some 4,some 8,some 7]) (fr:=aC zP aN) (fe:=f2 (f2 (f2 zP (f2 zm zq yd) ixP) zq zN) (f2 zE (f2 zm zq zK) ixP) zF) (zu (za rfl) zJ) (by trivial) λb hb=>by
    obtain⟨v1,v2⟩:=yr h2 hb;obtain⟨x1,x2⟩:=rowAt b1 v1;obtain⟨y1,y2⟩:=rowAt b2 v2;have x3:0<=jAt J1 ((0+i)/n2) (b/n2):=x2.1;have x4:jAt J1 ((0+i)/n2) (b/n2)<n1:=x2.2;exact⟨[sI b,sI n2,sT (zg (zef J2 ((0+i)%n2))),sT (zg (zef J1 ((0+i)/n2)))],rfl,WD.e (yR (xT (zG (za rfl) (Zh (za rfl) (za rfl) (by trivial) (zW (by trivial) (by trivial))) x1 rfl) (za rfl) (zW (by trivial) (by trivial)) (zW (by trivial) (by trivial))) (zG (za rfl) (yx (za rfl) (za rfl) (by trivial)) y1 rfl)),znC x2 y2⟩
   rw[Int.zero_add]at c1;obtain⟨os',o1,o2⟩:=ztu (x:=r) (i:=5) (toD:=zg) (Q:=λ(i:Nat) r=>Vd (n1*n2) (n1*n2) (jB n2 (jAt J1) (jAt J2) i) r) rfl ho (by trivial) c3 (by rw[hlen,zyW];exact c1);refine⟨[sT (plD n1 J1 D1),sT (plD n2 J2 D2),sI m,sI ((n1*n2:Nat):Int),sI n2,sN os,sI (0+i),e7,e8,none,none,none,none,none],rfl,_,ym (yE (i:=7) (yG (yG (za (i:=0) rfl) zb rfl) (Zh (za (i:=6) rfl) (za (i:=4) rfl) (by trivial) (zW (by trivial) (by trivial))) a1) (zp rfl)) (ym (yE (i:=8) (yG (yG (za (i:=1) rfl) zb rfl) (yx (za (i:=6) rfl) (za (i:=4) rfl) (by trivial)) a2) (zp rfl)) o2),os',l++[r],_,_,_,rfl,o1,by rw[zzH,hlen];rfl⟩)
  ⟨[],[],none,none,none,rfl,OwsX.nil,rfl⟩
 rw[yW]at hlen;exact⟨os,l,e6,e7,e8,ho,by trivial,hf⟩
end
abbrev B14(n1 n2 m:Nat)(J1 J2:TZ)(D1 D2:List TZ)(os5:List O)(e6 e7 e8 e9 e10 e11 e12 e13:Option O):AS:=
 [sT (plD n1 J1 D1),sT (plD n2 J2 D2),sI m,sI ((n1*n2:Nat):Int),sI n2,sN os5,e6,e7,e8,e9,e10,e11,e12,e13]
abbrev bs1:SF:=(zy (zL true 13 (f2 (f2 (f2 vK xF ixP) (f2 vD yj yd) ixP) yj zN))
 (yF (xJ 12 (dC (f2 (fV 13) (f2 (f2 (fV 8) xF ixP) (f2 vD yj zK) ixP) zF) dN) xU)))
abbrev bs2:SF:=(zy (zL false 12 (yN dN))
 (zy (xO (yp Ww yq) (gN 6) bs1)
 (yF (xJ 10 (dC (fV 12) dN) xU))))
abbrev bs3:SF:=(zy (zL false 10 (yN dN))
 (zy (xO (yp Xc yq) (gN 11) bs2)
 (yF (xJ 9 (dC (fV 10) dN) xU))))
section
variable{n1 n2 m:Nat}{J1 J2:TZ}{D1 D2:List TZ}{os5:List O}
def zvQ{T1 T2:TZ}{c:Int}{e6 e9 e10 e13:Option O}(h1:0<n1)(h2:0<n2)(hn:n1*n2<=8)(t1:Tab m n1 T1)(t2:Tab m n2 T2)(c0:0<=c)(c1:c<m):
 ∃os r f6 f13,OwsX D.int (λ(i:Nat) x=>x=dB n2 (jAt T1) (jAt T2) c i/\InR (n1*n2) x) os r/\r.length=n1*n2/\forL (gN 6) bs1 (wg 0 (n1*n2)) (B14 n1 n2 m J1 J2 D1 D2 os5 e6 (sT (zx T1)) (sT (zx T2)) e9 e10 (sI c) (sN []) e13)
  = some (.nx (B14 n1 n2 m J1 J2 D1 D2 os5 f6 (sT (zx T1)) (sT (zx T2)) e9 e10 (sI c) (sN os) f13)):=by
 have n28:n2<=8:=zzM (Nat.le_mul_of_pos_left n2 h1) hn;have n18:n1<=8:=zzM (Nat.le_mul_of_pos_right n1 h2) hn;obtain⟨a1,b1⟩:=vR t1 ⟨c0,c1⟩;obtain⟨a2,b2⟩:=vR t2 ⟨c0,c1⟩;obtain⟨as',hf,os,l,f6,f13,rfl,ho,hlen⟩:=xM (g:=gN 6) (f:=bs1)
  (λi as=>∃(os:List O) (l:List Int) (f6 f13:Option O),as=B14 n1 n2 m J1 J2 D1 D2 os5 f6 (sT (zx T1)) (sT (zx T2)) e9 e10 (sI c) (sN os) f13/\OwsX D.int (λ(i:Nat) x=>x=dB n2 (jAt T1) (jAt T2) c i/\InR (n1*n2) x) os l/\l.length=i)
  (wg 0 (n1*n2)) 0 (B14 n1 n2 m J1 J2 D1 D2 os5 e6 (sT (zx T1)) (sT (zx T2)) e9 e10 (sI c) (sN []) e13) (λi x as hx' hI=>by
   obtain⟨os,l,f6,f13,rfl,ho,hlen⟩:=hI;obtain⟨rfl,hi⟩:=vg hx';obtain⟨u1,u2⟩:=yr (n1:=n1) (n2:=n2) (p:=0+i) h2 ⟨by trivial,by trivial⟩;obtain⟨x1,x2⟩:=rowAt b1 u1;obtain⟨y1,y2⟩:=rowAt b2 u2;have q:=znC x2 y2;have ev:rAt (zef T1 c) ((0+i)/n2)*n2+rAt (zef T2 c) ((0+i)%n2)=dB n2 (jAt T1) (jAt T2) c i:=by rw[Int.zero_add];rfl
   generalize rAt (zef T1 c) ((0+i)/n2)=x at x1 x2 q ev;generalize rAt (zef T2 c) ((0+i)%n2)=y at y1 y2 q ev;have x3:=x2.1;have x4:=x2.2;obtain⟨os',o1,o2⟩:=ztu (as:=B14 n1 n2 m J1 J2 D1 D2 os5 (sI (0+i)) (sT (zx T1)) (sT (zx T2)) e9 e10 (sI c) (sN os) (sI (x*n2))) (x:=x*n2+y) (i:=12) (toD:=D.int) (Q:=λ(i:Nat) x=>x=dB n2 (jAt T1) (jAt T2) c i/\InR (n1*n2) x) (a:=f2 (fV 13) (f2 (f2 (fV 8) xF ixP) (f2 vD yj zK) ixP) zF) rfl ho (by trivial)
    (WD.e (yR (za rfl) (zG (yG (za rfl) (za rfl) a2) (yx (za rfl) (za rfl) (by trivial)) y1 rfl))) ⟨by rw[hlen,zyW];exact ev,q⟩
   exact⟨B14 n1 n2 m J1 J2 D1 D2 os5 (sI (0+i)) (sT (zx T1)) (sT (zx T2)) e9 e10 (sI c) (sN os) f13,rfl,_,ym (yE (i:=13) (xT (zG (yG (za (i:=7) rfl) (za (i:=11) rfl) a1) (Zh (za (i:=6) rfl) (za (i:=4) rfl) (by trivial) (zW (by trivial) (by trivial))) x1 rfl) (za (i:=4) rfl) (zW (by trivial) (by trivial)) (zW (by trivial) (by trivial))) (zp rfl)) o2,os',l++[x*n2+y],_,_,rfl,o1,by rw[zzH,hlen];rfl⟩)
  ⟨[],[],_,_,rfl,OwsX.nil,rfl⟩
 rw[yW]at hlen;exact⟨os,l,f6,f13,ho,by trivial,hf⟩
def zuW{T1 T2:TZ}{e6 e9 e11 e12 e13:Option O}(h1:0<n1)(h2:0<n2)(hn:n1*n2<=8)(hm:m<=8)(t1:Tab m n1 T1)(t2:Tab m n2 T2):
 ∃os T f6 f11 f12 f13,OwsX zg (λ(c:Nat) r=>Vd (n1*n2) (n1*n2) (dB n2 (jAt T1) (jAt T2) c) r) os T/\T.length=m/\forL (gN 11) bs2 (wg 0 m) (B14 n1 n2 m J1 J2 D1 D2 os5 e6 (sT (zx T1)) (sT (zx T2)) e9 (sN []) e11 e12 e13)
  = some (.nx (B14 n1 n2 m J1 J2 D1 D2 os5 f6 (sT (zx T1)) (sT (zx T2)) e9 (sN os) f11 f12 f13)):=by
 obtain⟨as',hf,os,l,f6,f11,f12,f13,rfl,ho,hlen⟩:=xM (g:=gN 11) (f:=bs2)
  (λi as=>∃(os:List O) (l:TZ) (f6 f11 f12 f13:Option O),as=B14 n1 n2 m J1 J2 D1 D2 os5 f6 (sT (zx T1)) (sT (zx T2)) e9 (sN os) f11 f12 f13/\OwsX zg (λ(c:Nat) r=>Vd (n1*n2) (n1*n2) (dB n2 (jAt T1) (jAt T2) c) r) os l/\l.length=i)
  (wg 0 m) 0 (B14 n1 n2 m J1 J2 D1 D2 os5 e6 (sT (zx T1)) (sT (zx T2)) e9 (sN []) e11 e12 e13) (λi x as hx' hI=>by
   obtain⟨os,l,f6,f11,f12,f13,rfl,ho,hlen⟩:=hI;obtain⟨rfl,hi⟩:=vg hx';obtain⟨ps,r,g6,g13,p1,p2,p3⟩:=zvQ (J1:=J1) (J2:=J2) (D1:=D1) (D2:=D2) (os5:=os5) (e6:=f6) (e9:=e9) (e10:=sN os) (e13:=f13) h1 h2 hn t1 t2 (c:=0+i) (by trivial) (by trivial);have ap:=zkL (as:=B14 n1 n2 m J1 J2 D1 D2 os5 g6 (sT (zx T1)) (sT (zx T2)) e9 (sN os) (sI (0+i)) (sN ps) g13) (i:=10) (j:=12) (by decide) rfl rfl (by rw[ho.ln];exact wJ (by trivial));rw[p1.ows.frz]at ap;have pr:Vd (n1*n2) (n1*n2) (dB n2 (jAt T1) (jAt T2) i) r:=by
    have:=zgh p2 p1.al;rw[Int.zero_add]at this;exact this
   exact⟨B14 n1 n2 m J1 J2 D1 D2 os5 f6 (sT (zx T1)) (sT (zx T2)) e9 (sN os) (sI (0+i)) f12 f13,rfl,_,ym (xg (i:=12) (wy zU (szl rfl)) (zp rfl)) (ym (wz (xN (zu (za (i:=3) rfl) zJ) (by trivial) (by trivial)) p3) ap),_,l++[r],_,_,_,_,rfl,ho.snoc (o:=.lf true (zg r)) (a:=r) rfl rfl (by rw[hlen,zyW];exact pr),by rw[zzH,hlen];rfl⟩)
  ⟨[],[],_,_,_,_,rfl,OwsX.nil,rfl⟩
 rw[yW]at hlen;exact⟨os,l,f6,f11,f12,f13,ho,by trivial,hf⟩
def zdo{α:Type}{f:α->D}{l:List α}{i:Nat}{d:D}(h:(l.map f)[i]? = some d):∃a ∈ l,d=f a:=by
 rw[zzG]at h;obtain⟨a,h1,h2⟩:=zzV.mp h;exact⟨a,zzY h1,h2.symm⟩
def zvu{w:Nat}{e6 e7 e8 e10 e11 e12 e13:Option O}(h1:0<n1)(h2:0<n2)(hn:n1*n2<=8)(hm:m<=8)(hw:w<=8)(l1:D1.length=w)(l2:D2.length=w)(hm0:0<m)(L1:LawP n1 m J1 D1)(L2:LawP n2 m J2 D2):
 ∃os Ds f6 f7 f8 f10 f11 f12 f13,Ows zx (λT=>Tab m (n1*n2) T/\LD (n1*n2) m (jB n2 (jAt J1) (jAt J2)) 0 (jAt T)) os Ds/\Ds.length=w/\forL (gT 2 (gsC (gN 7) (gsC (gN 8) gsN))) bs3 (Y5 true (D1.map zx) (D2.map zx)) (B14 n1 n2 m J1 J2 D1 D2 os5 e6 e7 e8 (sN []) e10 e11 e12 e13)
  = some (.nx (B14 n1 n2 m J1 J2 D1 D2 os5 f6 f7 f8 (sN os) f10 f11 f12 f13)):=by
 obtain⟨as',hf,os,l,f6,f7,f8,f10,f11,f12,f13,rfl,ho,hlen⟩:=xM (g:=gT 2 (gsC (gN 7) (gsC (gN 8) gsN))) (f:=bs3)
  (λi as=>∃(os:List O) (l:List TZ) (f6 f7 f8 f10 f11 f12 f13:Option O),as=B14 n1 n2 m J1 J2 D1 D2 os5 f6 f7 f8 (sN os) f10 f11 f12 f13/\Ows zx (λT=>Tab m (n1*n2) T/\LD (n1*n2) m (jB n2 (jAt J1) (jAt J2)) 0 (jAt T)) os l/\l.length=i)
  (Y5 true (D1.map zx) (D2.map zx)) 0 (B14 n1 n2 m J1 J2 D1 D2 os5 e6 e7 e8 (sN []) e10 e11 e12 e13) (λi x as hx' hI=>by
   obtain⟨os,l,f6,f7,f8,f10,f11,f12,f13,rfl,ho,hlen⟩:=hI;obtain⟨d,e,z1,z2,rfl⟩:=Wu hx';have hil:i<D1.length:=by have:=(zzE.mp z1).1;rw[zD]at this;exact this
   obtain⟨T1,m1,rfl⟩:=zdo z1;obtain⟨T2,m2,rfl⟩:=zdo z2;obtain⟨ps,T,g6,g11,g12,g13,p1,p2,p3⟩:=zuW (J1:=J1) (J2:=J2) (D1:=D1) (D2:=D2) (os5:=os5) (e6:=f6) (e9:=sN os) (e11:=f11) (e12:=f12) (e13:=f13) h1 h2 hn hm (L1.td T1 m1) (L2.td T2 m2);have ap:=zkL (as:=B14 n1 n2 m J1 J2 D1 D2 os5 g6 (sT (zx T1)) (sT (zx T2)) (sN os) (sN ps) g11 g12 g13) (i:=9) (j:=10) (by decide) rfl rfl (by rw[ho.ln];exact wJ (by trivial));rw[p1.ows.frz]at ap;have pt:zaP m (n1*n2) (dB n2 (jAt T1) (jAt T2)) T:=WP p2 p1.al;exact⟨B14 n1 n2 m J1 J2 D1 D2 os5 f6 (sT (zx T1)) (sT (zx T2)) (sN os) f10 f11 f12 f13,rfl,_,ym (xg (i:=10) (wy zU (szl rfl)) (zp rfl)) (ym (wz (xN (zu (za (i:=2) rfl) zJ) (by trivial) (by trivial)) p3) ap),_,l++[T],_,_,_,_,_,_,_,rfl,ho.snoc (o:=.lf true (zx T)) (a:=T) rfl rfl ⟨pt.1,(ldB L1.lj L2.lj h2 (L1.ld T1 m1) (L2.ld T2 m2)).congr hm0 (ljB L1.lj L2.lj h2) (λ_ _ _ _=>rfl) pt.2⟩,by rw[zzH,hlen];rfl⟩)
  ⟨[],[],_,_,_,_,_,_,_,rfl,Ows.nil,rfl⟩
 rw[zaL,zD,zD,l1,l2,Nat.min_self]at hlen;exact⟨os,l,f6,f7,f8,f10,f11,f12,f13,ho,by trivial,hf⟩
def zbj{as as2:AS}{j:Nat}{ps:List O}{fr:DF}{os:List O}(hj:as[j]? = some (sN ps))(hr:fr (as.set j (some (O.nd .ls ps).frz))=some (os,as2)):dC (fV j) fr as=some ((O.nd .ls ps).frz::os,as2):=by
 unfold dC;rw[zeE hj];show((toO as (.bo j)).bind _)=_;rw[znD hj];show(fr (as.set j (some (O.nd .ls ps).frz))).bind _=_;rw[hr];rfl
def zcZ{as as1:AS}{fr:DF}{os:List O}(h:fr as=some (os,as1))(hl:os.length<=sizeLine):yw fr as=some (.ow (YH os),as1):=by
 unfold yw;rw[h];show(if os.length<=sizeLine then _ else _)=_;rw[if_pos hl]
def zlx{w:Nat}(h1:0<n1)(h2:0<n2)(hn:n1*n2<=8)(hm:m<=8)(hw:w<=8)(l1:D1.length=w)(l2:D2.length=w)(hm0:0<m)(L1:LawP n1 m J1 D1)(L2:LawP n2 m J2 D2):
 ∃J Ds,LawP (n1*n2) m J Ds/\Ds.length=w/\RE (Xf [(true,plD n1 J1 D1),(true,plD n2 J2 D2),(true,.int m)]) (plD (n1*n2) J Ds):=by
 have n28:n2<=8:=zzM (Nat.le_mul_of_pos_left n2 h1) hn;have n18:n1<=8:=zzM (Nat.le_mul_of_pos_right n1 h2) hn;obtain⟨os,J,e6,e7,e8,ho,hl,hf⟩:=zmC (m:=m) (D1:=D1) (D2:=D2) h1 h2 hn L1.tj L2.tj;obtain⟨ps,Ds,f6,f7,f8,f10,f11,f12,f13,po,pl,pf⟩:=zvu (J1:=J1) (J2:=J2) (os5:=os) (e6:=e6) (e7:=e7) (e8:=e8) (e10:=none) (e11:=none) (e12:=none) (e13:=none) h1 h2 hn hm hw l1 l2 hm0 L1 L2;have hJ:zaP (n1*n2) (n1*n2) (jB n2 (jAt J1) (jAt J2)) J:=WP hl ho.al;have ljb:=ljB L1.lj L2.lj h2;refine⟨J,Ds,⟨hJ.1,ljb.congr hJ.2,λT mT=>(po.al T mT).1,λT mT=>(po.al T mT).2.congr hm0 ljb hJ.2 (λ_ _ _ _=>rfl)⟩,pl,yM rfl (zj (as1:=[sT (plD n1 J1 D1),sT (plD n2 J2 D2),sI m,sI ((n1*n2:Nat):Int),none,none,none,none,none,none,none,none,none,none]) ?_ (zj (yE (i:=4) (zG (za rfl) zb rfl rfl) (zp rfl)) (zj (xg (i:=5) (wy zU (szl rfl)) (zp rfl)) (zj (wz (xN (zu (za rfl) zJ) (by trivial) (by trivial)) hf) (zj (xg (i:=9) (wy zU (szl rfl)) (zp rfl)) (zj (wz ?_ pf) ?_))))))⟩
 · have:=yE (st:=true) (i:=3) (as:=[sT (plD n1 J1 D1),sT (plD n2 J2 D2),sI m,none,none,none,none,none,none,none,none,none,none,none]) (xT (zG (g:=ixP) (za (i:=0) rfl) (zb (x:=.int 0)) rfl rfl) (zG (g:=ixP) (za (i:=1) rfl) (zb (x:=.int 0)) rfl rfl) (zW (i:=(n1:Int)) (by trivial) (by trivial)) (zW (i:=(n2:Int)) (by trivial) (by trivial))) (zp rfl);rw[zzT];exact this
 · rfl
 · have e:=yS (as:=B14 n1 n2 m J1 J2 D1 D2 os f6 f7 f8 (sN ps) f10 f11 f12 f13) (a:=fV 3) (za rfl) (zbj (j:=5) (fr:=dC (fV 9) dN) rfl (zbj (j:=9) (fr:=dN) rfl rfl));rw[ho.ows.frz,po.frz]at e;exact⟨_,Vc (zcZ e (szl rfl)) rfl,rfl,rfl⟩
end
abbrev zjU:List D:=[.tup [.int 2,.int 2],.tup [.int 3,.int 2],.tup [.int 2,.int 3],.tup [.int 4,.int 2],.tup [.int 2,.int 4],.tup [.int 2,.int 2]]
def zmk(x:Int):∃a b:Nat,2<=a/\2<=b/\a*b<=8/\ixP (.lst zjU) (.int (x%6))=some (.im (.tup [.int a,.int b])):=by
 rcases(show x%6=0\/x%6=1\/x%6=2\/x%6=3\/x%6=4\/x%6=5 by trivial)with e|e|e|e|e|e<;>rw[e]
 · exact⟨2,2,by decide,by decide,by decide,rfl⟩
 · exact⟨3,2,by decide,by decide,by decide,rfl⟩
 · exact⟨2,3,by decide,by decide,by decide,rfl⟩
 · exact⟨4,2,by decide,by decide,by decide,rfl⟩
 · exact⟨2,4,by decide,by decide,by decide,rfl⟩
 · exact⟨2,2,by decide,by decide,by decide,rfl⟩
def zuN(x:Int):∃n:Nat,2<=n/\n<=8/\ixP (.lst [.int 2,.int 3,.int 4,.int 5,.int 3,.int 4,.int 6,.int 8]) (.int (x%8))=some (.im (.int n)):=by
 rcases(show x%8=0\/x%8=1\/x%8=2\/x%8=3\/x%8=4\/x%8=5\/x%8=6\/x%8=7 by trivial)with e|e|e|e|e|e|e|e<;>rw[e]
 · exact⟨2,by decide,by decide,rfl⟩
 · exact⟨3,by decide,by decide,rfl⟩
 · exact⟨4,by decide,by decide,rfl⟩
 · exact⟨5,by decide,by decide,rfl⟩
 · exact⟨3,by decide,by decide,rfl⟩
 · exact⟨4,by decide,by decide,rfl⟩
 · exact⟨6,by decide,by decide,rfl⟩
 · exact⟨8,by decide,by decide,rfl⟩
def KN4(h:2<=n):KN (x%4) n:=by
 rcases(show x%4=0\/x%4=1\/x%4=2\/x%4=3 by trivial)with e|e|e|e<;>rw[e]
 · exact .inl ⟨rfl,by trivial⟩
 · exact .inr (.inl ⟨rfl,by trivial⟩)
 · exact .inr (.inr (.inl ⟨rfl,h⟩))
 · exact .inr (.inr (.inr (.inl ⟨rfl,h⟩)))
def zsb:WE (yN (dC (yw (dC yD (dC yD dN))) (dC (yw (dC vf (dC yD dN))) (dC (yw (dC yD (dC vf dN))) (dC (yw (dC vJ (dC yD dN))) (dC (yw (dC yD (dC vJ dN))) (dC (yw (dC yD (dC yD dN))) dN))))))) as (.lst zjU):=by
 have t:∀a b:Int,WD (yw (dC (fC (.int a)) (dC (fC (.int b)) dN))) as true (.tup [.int a,.int b]):=λa b=>zbA (os:=[lfI a,lfI b]) (zf zb (zf zb zU)) (szl rfl) rfl;exact wM (os:=zjU.map (O.lf true)) (zf (t 2 2) (zf (t 3 2) (zf (t 2 3) (zf (t 4 2) (zf (t 2 4) (zf (t 2 2) zU)))))) (szl rfl) rfl rfl
def zqp(hm0:0<m)(hm:m<=8)(hw:w<=8):∃(n:Nat) (J:TZ) (Ds:List TZ),1<=n/\n<=8/\LawP n m J Ds/\Ds.length=w/\RE (zaa [(true,.int c),(true,.int m),(true,.int w)]) (plD n J Ds):=by
 obtain⟨xs,hl,hx,ws⟩:=stE (as:=[sI c,sI m,sI w,none,none,none,none,none]) (a:=fV 0) (b:=fC (.int 5)) (c:=c) (m:=5) (by trivial) (WD.e (za rfl)) (WD.e zb);obtain⟨x0,a0,_⟩:=at2 hx (k:=0) (by trivial) (by trivial);obtain⟨x1,a1,_⟩:=at2 hx (k:=1) (by trivial) (by trivial);obtain⟨x2,a2,_⟩:=at2 hx (k:=2) (by trivial) (by trivial);obtain⟨x3,a3,_⟩:=at2 hx (k:=3) (by trivial) (by trivial);obtain⟨x4,a4,_⟩:=at2 hx (k:=4) (by trivial) (by trivial);have y0:0<=x0%7/\x0%7<7:=⟨by trivial,by trivial⟩;have start:∀(C:SF) (x:D),Rt (C [sI c,sI m,sI w,sT (zg xs),sI (x0%7),none,none,none]) x->Rt (zy (zL true 3 (zM (aC zm (aC zcO aN)) yI)) (zy (zL true 4 (f2 (f2 zP yo ixP) (fC (.int 7)) zK)) C) [sI c,sI m,sI w,none,none,none,none,none]) x:=λC x h=>
  zj (xZ (p:=3) ws (zp rfl)) (zj (yE (i:=4) (yx (zG (za rfl) zb a0 rfl) zb (by decide)) (zp rfl)) h)
 generalize x0%7=k at y0 start
 by_cases hk:4<k
 · obtain⟨a,b,ha,hb,hab,es⟩:=zmk x1;obtain⟨J1,D1,L1,l1,p1⟩:=zdD (k:=x2%4) (c:=x3) (m:=m) (w:=w) (KN4 ha) (zzM (Nat.le_mul_of_pos_right a (by trivial)) hab) hm0 hm hw;obtain⟨J2,D2,L2,l2,p2⟩:=zdD (k:=x4%4) (c:=x3+7) (m:=m) (w:=w) (KN4 hb) (zzM (Nat.le_mul_of_pos_left b (by trivial)) hab) hm0 hm hw;obtain⟨J,Ds,q1,q2,q4⟩:=zlx (n1:=a) (n2:=b) (m:=m) (w:=w) (by trivial) (by trivial) hab hm hw l1 l2 hm0 L1 L2;refine⟨a*b,J,Ds,Nat.mul_pos (by trivial) (by trivial),hab,q1,q2,yM rfl (start _ _ (vC (Zk (yc (zaw (za rfl) zb) (congrArg some (zyM hk))) (zj (yE (i:=5) (f2E zsb (WD.e (yx (zG (za rfl) zb a1 rfl) zb (by decide))) es) (zp rfl)) (zj (xZ (p:=6) (zhq (WD.e (yx (zG (za rfl) zb a2 rfl) zb (by decide))) (WD.e (zG (za rfl) zb rfl rfl)) (WD.e (za rfl)) (WD.e (za rfl)) (WD.e (zG (za rfl) zb a3 rfl)) p1) (zp rfl)) (yK (Yp (WD.e (za rfl)) (zhq (WD.e (yx (zG (za rfl) zb a4 rfl) zb (by decide))) (WD.e (zG (za rfl) zb rfl rfl)) (WD.e (za rfl)) (WD.e (za rfl)) (WD.e (yR (zG (za rfl) zb a3 rfl) zb)) p2) (WD.e (za rfl)) q4)))))))⟩
 · obtain⟨n,n2,n8,en⟩:=zuN x1;have fin:∀n':Nat,KN k n'->n'<=8->∃(n:Nat) (J:TZ) (Ds:List TZ),1<=n/\n<=8/\LawP n m J Ds/\Ds.length=w/\Rt (yC (zM (aC yj (aC vK (aC zq (aC zE (aC (f2 zP vf ixP) aN))))) vH) [sI c,sI m,sI w,sT (zg xs),sI k,none,none,sI n']) (plD n J Ds):=λn' hK h8=>by
    obtain⟨J,Ds,L1,l1,p1⟩:=zdD (k:=k) (c:=x3) (m:=m) (w:=w) hK h8 hm0 hm hw;refine⟨n',J,Ds, ?_,h8,L1,l1,yK (zhq (WD.e (za rfl)) (WD.e (za rfl)) (WD.e (za rfl)) (WD.e (za rfl)) (WD.e (zG (za rfl) zb a3 rfl)) p1)⟩;unfold KN at hK;trivial
   have hk':=congrArg some (zyE hk);have set7:zL true 7 (f2 (yN (dC yD (dC vf (dC vJ (dC zcO (dC vf (dC vJ (dC V7 (dC X4 dN))))))))) (f2 (f2 zP yg ixP) X4 zK) ixP) [sI c,sI m,sI w,sT (zg xs),sI k,none,none,none]=some (.nx [sI c,sI m,sI w,sT (zg xs),sI k,none,none,sI n]):=
    yE (i:=7) (f2E (wM (os:=([2,3,4,5,3,4,6,8]:List Int).map lfI) (zf zb (zf zb (zf zb (zf zb (zf zb (zf zb (zf zb (zf zb zU)))))))) (szl rfl) rfl rfl) (WD.e (yx (zG (za rfl) zb a1 rfl) zb (by decide))) en) (zp rfl)
   by_cases h4:k=4
   · subst h4;obtain⟨n',J,Ds,r1,r2,r3,r4,r6⟩:=fin 4 (.inr (.inr (.inr (.inr ⟨rfl,rfl⟩)))) (by decide);exact⟨n',J,Ds,r1,r2,r3,r4,yM rfl (start _ _ (zj (yh (yc (zaw (za rfl) zb) hk') rfl) (zj set7 (zj (yh (Yl (k:=false) (yc (yJ (za rfl) zb rfl) rfl) (λh=>nomatch h) (λ_=>rfl)) rfl) (zj (vV (yc (yJ (za rfl) zb rfl) rfl) (yE (i:=7) zb (zp rfl))) r6)))))⟩
   · have f4:∀e:Option O,WT (fT (f2 yj vJ (zR .Eq))) [sI c,sI m,sI w,sT (zg xs),sI k,none,none,e] false:=λe=>yc (yJ (za rfl) zb rfl) (by show some (k==4)=_;simp[h4])
     by_cases h0:k=0/\x2%9=0
     · obtain⟨rfl,h9⟩:=h0;obtain⟨n',J,Ds,r1,r2,r3,r4,r6⟩:=fin 1 (.inl ⟨rfl,zzL _⟩) (by decide);exact⟨n',J,Ds,r1,r2,r3,r4,yM rfl (start _ _ (zj (yh (yc (zaw (za rfl) zb) hk') rfl) (zj set7 (zj (vV (Yl (k:=true) (yc (yJ (za rfl) zb rfl) rfl) (λ_=>yc (yJ (yx (zG (za rfl) zb a2 rfl) zb (by decide)) zb rfl) (by show some (x2%9==0)=_;simp[h9])) (λh=>nomatch h)) (yE (i:=7) zb (zp rfl))) (zj (yh (f4 _) rfl) r6)))))⟩
     · have hK:KN k n:=by unfold KN;trivial
       obtain⟨n',J,Ds,r1,r2,r3,r4,r6⟩:=fin n hK n8;refine⟨n',J,Ds,r1,r2,r3,r4,yM rfl (start _ _ (zj (yh (yc (zaw (za rfl) zb) hk') rfl) (zj set7 (zj (yh (Yl (k:=k==0) (yc (yJ (za rfl) zb rfl) rfl) (λh=>yc (yJ (yx (zG (za rfl) zb a2 rfl) zb (by decide)) zb rfl) ?_) (λ_=>rfl)) rfl) (zj (yh (f4 _) rfl) r6)))))⟩;have hk0:k=0:=by simpa using h
       show some (x2%9==0)=some false;have:¬x2%9=0:=λz=>h0 ⟨hk0,z⟩;simp[this]
def zsT(h:WE f as (.lst ds)):zed f as=some (ds.map λd=>(true,d),as):=by
 obtain⟨o,h1,h2,h3⟩:=h;unfold zed;rw[h1];have e:zbz as (.ow o)=some ((o.str,o.toD),as):=rfl;show(zbz as (RV.ow o)).bind (λq=>(zhQ q.1).bind λds=>some (ds,q.2))=_;rw[e,h2,h3];show some (kids true ds,as)=_;rw[zgJ]
theorem zdM:∀(l:List Int) (k:Nat) (h:k<l.length),(l[k]::l.eraseIdx k).Perm l
 |x::r,0,_=>List.Perm.refl _
 |x::r,k+1,h=>(List.Perm.swap _ _ _).trans ((zdM r k (by simpa using h)).cons x)
abbrev zY(n:Nat):List Int:=(List.range n).map λ(i:Nat)=>(i:Int)
def zoA(hn:0<n)(hn8:n<=8):∃F:List Int,F.Perm (zY n)/\RE (Wz [(true,.int c),(true,.int n)]) (zg F):=by
 obtain⟨xs,hl,hx,ws⟩:=stE (as:=[sI c,sI n,sN ((zY n).map lfI),sN [],none]) (a:=fV 0) (b:=fV 1) (c:=c) (m:=n) (by trivial) (WD.e (za rfl)) (WD.e (za rfl));obtain⟨as',hf,L,F,e4,rfl,hp,hlen⟩:=xM (g:=gN 4) (f:=yF (xJ 3 (dC (xJ 2 (dC (f2 yj (fP Xc ZP) zK) dN) Wy) dN) xU))
  (λi as=>∃(L F:List Int) (e4:Option O),as=[sI c,sI n,sN (L.map lfI),sN (F.map lfI),e4]/\(L++F).Perm (zY n)/\L.length+i=n)
  ((xs.map D.int).map λd=>(true,d)) 0 [sI c,sI n,sN ((zY n).map lfI),sN [],none] (λi x as hx' hI=>by
    obtain⟨L,F,e4,rfl,hp,hlen⟩:=hI;have hi:i<n:=by
     have:=(zzE.mp hx').1;rw[zD,zD,hl]at this;exact this
    obtain⟨y,rfl⟩:∃y:Int,x=(true,.int y):=by
     rw[zzZ,zzG]at hx';obtain⟨a,_,h2⟩:=zzV.mp hx';exact⟨a,h2.symm⟩
    have l0:(0:Int)<((L.map lfI).length:Int):=by rw[zD];trivial
    have z0:=zyL y (show((L.map lfI).length:Int)≠0 by trivial);have z1:=zyF y l0;have hk:(y%((L.map lfI).length:Int)).toNat<L.length:=by rw[zD]at z0 z1 ⊢;trivial
    generalize hkk:(y%((L.map lfI).length:Int)).toNat=k at hk;have pop:=znY (as:=[sI c,sI n,sN (L.map lfI),sN (F.map lfI),sI y]) (i:=2) (os:=L.map lfI) (o:=lfI L[k]) rfl (yx (za (i:=4) rfl) (zwb (i:=2) rfl) l0) z0 z1 (by rw[zD];trivial) (by rw[hkk,zzG,zzC hk];rfl);rw[hkk,show(L.map lfI).eraseIdx k=(L.eraseIdx k).map lfI by rw[List.eraseIdx_eq_take_drop_succ,List.eraseIdx_eq_take_drop_succ,zyK,List.map_take,List.map_drop]]at pop;have ap:=zhy (i:=3) (os:=F.map lfI) (as:=[sI c,sI n,sN (L.map lfI),sN (F.map lfI),sI y]) rfl pop rfl (by rw[zD];have:=hp.length_eq;rw[zzH,zD,zyS]at this;exact wJ (by trivial));rw[<-ziQ]at ap;refine⟨[sI c,sI n,sN (L.map lfI),sN (F.map lfI),sI y],rfl,_,ap,L.eraseIdx k,F++[L[k]],_,rfl, ?_,by rw[List.length_eraseIdx_of_lt hk];trivial⟩;rw[<-zxB];refine(List.perm_append_singleton _ _).trans ?_;rw[<-List.cons_append];exact((zdM L k hk).append_right F).trans hp)
  ⟨zY n,[],none,rfl,by rw[zyC],by rw[zD,zyS];rfl⟩
 rw[zD,zD,hl]at hlen;have hL:L=[]:=List.eq_nil_of_length_eq_zero (by trivial);subst hL;have s2:=xg (i:=2) (as:=[sI c,sI n,none,none,none]) (zgZ (a:=fV 1) (x:=.int n) (g:=lrP) (zs:=(zY n).map D.int) (WD.e (za rfl)) (by
  show(if(0:Int)<=n/\(n:Int)<=100000 then _ else _)=_;rw[if_pos ⟨by trivial,by trivial⟩,zzZ];rfl)) (zp rfl)
 rw[zgS]at s2;exact⟨F,hp,yM rfl (zj s2 (zj (xg (i:=3) (wy zU (szl rfl)) (zp rfl)) (zj (wz (zsT ws) hf) ⟨_,zdg (i:=3) rfl (wC F).2.1,(zck F).1,(zck F).2⟩)))⟩
abbrev abc:Str:="abcdefghijklmnopqrstuvwxyz"
def zpl:∀k,k<26->abc.cps.toList[k]? = some (97+k):=by decide +kernel
def znj(h0:0<=i)(h1:i<26):ixP (.str abc) (.int i)=some (.im (.str ⟨#[97+i.toNat]⟩)):=by
 show(if abc.length<=sizeLine then(atI abc.cps.toList i).bind (λc=>some (R0.im (.str ⟨#[c]⟩)))else none)=_;rw[if_pos (show abc.length<=sizeLine by decide +kernel)];have:=ZM (zpl i.toNat (by trivial));rw[show((i.toNat:Nat):Int)=i by trivial]at this;rw[this];rfl
theorem zie:∀l:List Str,zcE (l.map D.str)=some l
 | []=>rfl
 |x::r=>by
  show(zcE (r.map D.str)).bind _=_;rw[zie r];rfl
theorem zup:∀l:List Str,(∀s ∈ l,s.length=1)->(l.map (·.length)).sum=l.length
 | [],_=>rfl
 |x::r,h=>by
  show x.length+(r.map (·.length)).sum=r.length+1;rw[h x (zzD ..),zup r λs m=>h s (zzB _ m)];trivial
def len_app(a b:Str):(a++b).length=a.length+b.length:=by
 show(a++b).cps.size=a.cps.size+b.cps.size;rw[Str.cps_append,Array.size_append]
theorem ziN:∀l:List Str,(∀s ∈ l,s.length=1)->(Str.join "" l).length=l.length
 | [],_=>rfl
 | [x],h=>h x (zzD ..)
 |x::y::r,h=>by
  show(x++""++Str.join "" (y::r)).length=_;rw[len_app,len_app,h x (zzD ..),ziN (y::r) λs m=>h s (zzB _ m)];show 1+0+(r.length+1)=r.length+1+1;trivial
def add_str(h:a.length+b.length<=1000):zaf .Add (.str a) (.str b)=some (.im (.str (a++b))):=if_pos (szs (by trivial))
abbrev nm(A B:Str)(x:Int)(k:Nat):Str:=A++⟨#[97+((x+3*(k:Int))%26).toNat]⟩++B
def zrN(hk:k<10)(hj:j<10)(h:nm A B x k=nm A B x j):k=j:=by
 have h:=congrArg (λs:Str=>s.cps.toList) h;simp only[Str.cps_append,Array.toList_append,zxB,List.append_cancel_left_eq]at h;have h:=(List.append_cancel_right h);injection h with h
 trivial
abbrev Lt(s:Str):Prop:=∀c ∈ s.cps.toList,97<=c/\c<123
abbrev ztm(s:Str):Prop:=s.length<=100/\Lt s
def Lt.app(h:Lt a)(g:Lt b):Lt (a++b):=λc m=>by
 rw[Str.cps_append,Array.toList_append]at m;exact(zzK.mp m).elim (h c) (g c)
theorem zkW:∀l:List Str,(∀s ∈ l,Lt s)->Lt (Str.join "" l)
 | [],_=>λ_ z=>nomatch z
 | [x],h=>h x (zzD ..)
 |x::y::r,h=>Lt.app (Lt.app (h x (zzD ..)) λ_ z=>nomatch z) (zkW (y::r) λs m=>h s (zzB _ m))
def Lt.slice(h:Lt x)(l u:Option Int):Lt (Txt.slice x l u):=by
 unfold Txt.slice
 split
 · exact h
 · intro c m;obtain⟨i,_,hi⟩:=List.mem_filterMap.mp (by simpa using m);exact h c (by rw[<-Array.getElem?_toList]at hi;exact zzY hi)
abbrev Nk(Ds:DZ):Prop:=∀p ∈ Ds,ztm p.1
def zlg(h:Ds'.map (·.1)=Ds.map (·.1))(k:Nk Ds):Nk Ds':=λp mp=>by
 have:p.1 ∈ Ds.map (·.1):=by rw[<-h];exact List.mem_map_of_mem mp
 obtain⟨q,mq,e⟩:=zxC.mp this;rw[<-e];exact k q mq
def znA:∃ss:List Str,ss.length=10/\ss.Nodup/\(∀s ∈ ss,ztm s)/\RE (Wl [(true,.int c),(true,.int (10:Nat))]) (.lst (ss.map D.str)):=by
 obtain⟨xs,hl,hx,ws⟩:=stE (as:=[sI c,sI (10:Nat),sT (.str abc),none,none,none,none,none]) (a:=fV 0) (b:=fC (.int 9)) (c:=c) (m:=9) (by trivial) (WD.e (za rfl)) (WD.e zb);obtain⟨x8,a8,_⟩:=at2 hx (k:=8) (by trivial) (by trivial);have hk:(1+c%8).toNat<=9:=by trivial
 have sl:WE (fSl zP oN (oS (f2 yg (f2 zm X4 zK) zF)) slP) [sI c,sI (10:Nat),sT (.str abc),sT (zg xs),none,none,none,none] (.lst ((xs.take (1+c%8).toNat).map D.int)):=by
  refine zcW (lo:=none) (hi:=some (1+c%8)) (WD.e (za rfl)) rfl ?_ ?_
  · have:=yR (as:=[sI c,sI (10:Nat),sT (.str abc),sT (zg xs),none,none,none,none]) (zb (x:=.int 1)) (yx (za (i:=0) rfl) (zb (x:=.int 8)) (by decide));unfold oS;unfold WD at this;rw[this];rfl
  · have:=zmQ (xs:=(xs.take (1+c%8).toNat).map D.int) (ys:=(xs.drop (1+c%8).toNat).map D.int);rw[<-zyK,List.take_append_drop,zD,zzQ,Nat.min_eq_left (by trivial),show(((1+c%8).toNat:Nat):Int)=1+c%8 by trivial]at this;exact this
 obtain⟨l,l1,l2,l3⟩:=zjY D.str (Q:=λs=>s.length=1/\Lt s) (cap:=[none,some 2]) (g:=gN 0) (fe:=f2 zq (f2 zm (fC (.int 26)) zK) ixP) (zey sl) (by rw[zD,zD,zzQ];trivial) λy m=>by
  rw[zzZ]at m;obtain⟨z,_,rfl⟩:=zxC.mp m;exact⟨[sI z,sT (.str abc)],⟨#[97+(z%26).toNat]⟩,rfl,WD.e (zG (za rfl) (yx (za rfl) zb (by decide)) (znj (by trivial) (by trivial)) rfl),rfl,λq mq=>by
   rw[zzP.mp mq];have h0:=zyL z (show(26:Int)≠0 by decide);have h1:=zyF z (show(0:Int)<26 by decide);exact⟨by omega,by omega⟩⟩
 rw[zD,zD,zzQ]at l1;have hb:(Str.join "" l).length=l.length:=ziN l λs m=>(l2 s m).1;have hlt:Lt (Str.join "" l):=zkW l λs m=>(l2 s m).2;have hm:WD (Z1 .str (fC (.str "")) (aC (zB (yU (fSl zP oN (oS (f2 yg (f2 zm X4 zK) zF)) slP)) [none,some 2] ye zX (f2 zq (f2 zm (fC (.int 26)) zK) ixP)) aN) zkA) [sI c,sI (10:Nat),sT (.str abc),sT (zg xs),none,none,none,none] true (.str (Str.join "" l)):=
  zde zb rfl (YD l3 zJ) (by
   show(zcE (l.map D.str)).bind _=_;rw[zie];show(if(l.map (·.length)).sum+l.length*0<=16777216 then some (R0.im (.str (Txt.join "" l)))else none)=_;rw[if_pos (by rw[zup l λs m=>(l2 s m).1];trivial),zoB]) rfl
 generalize Str.join "" l=base at hb hm hlt;have lb:(0:Int)<(base.length:Int):=by trivial
 have lz:base.length<=sizeLine:=szs (by trivial);have z0:=zyL (c/8) (show(base.length:Int)≠0 by trivial);have z1:=zyF (c/8) lb;generalize hat:c/8%(base.length:Int)=at_ at z0 z1
 have lA:=Txt.slice_le base none (some at_);have lB:=Txt.slice_le base (some (at_+1)) none;have tA:=hlt.slice none (some at_);have tB:=hlt.slice (some (at_+1)) none;have eA:slS (.str base) none (some at_)=some (.im (.str (Txt.slice base none (some at_)))):=if_pos lz;have eB:slS (.str base) (some (at_+1)) none=some (.im (.str (Txt.slice base (some (at_+1)) none))):=if_pos lz;generalize Txt.slice base none (some at_)=A at lA eA tA;generalize Txt.slice base (some (at_+1)) none=B at lB eB tB;have lo1:∀(f:EF) (as:AS) (k:Int),WD f as true (.int k)->oS f as=some (some k,as):=λf as k h=>by
  unfold oS;unfold WD at h;rw[h];rfl
 obtain⟨as',hf,os,e7,rfl,ho⟩:=xM (g:=gN 7) (f:=yF (xJ 6 (dC (f2 (f2 (fSl yj oN (oS xG) slS) (f2 zE (f2 (f2 (f2 zP X4 ixP) (f2 vf vK zN) zF) (fC (.int 26)) zK) ixP) zF) (fSl yj (oS (f2 xG yg zF)) oN slS) zF) dN) xU))
  (λi as=>∃(os:List O) (e7:Option O),as=[sI c,sI (10:Nat),sT (.str abc),sT (zg xs),sT (.str base),sI at_,sN os,e7]/\Ows D.str (λ_=>True) os ((List.range i).map (nm A B x8)))
  (wg 0 10) 0 [sI c,sI (10:Nat),sT (.str abc),sT (zg xs),sT (.str base),sI at_,sN [],none] (λi x as hx' hI=>by
   obtain⟨os,e7,rfl,ho⟩:=hI;obtain⟨rfl,hi⟩:=vg hx';rw[zyW]at ho;have d1:=znj (i:=(x8+3*((0:Int)+i))%26) (by trivial) (by trivial);have e0:(x8+3*((0:Int)+i))%26=(x8+3*(i:Int))%26:=by rw[Int.zero_add]
   obtain⟨os',o1,o2⟩:=zmv (as:=[sI c,sI (10:Nat),sT (.str abc),sT (zg xs),sT (.str base),sI at_,sN os,sI (0+i)]) (x:=nm A B x8 i) (i:=6) (toD:=D.str) (Q:=λ_=>True) (a:=f2 (f2 (fSl yj oN (oS xG) slS) (f2 zE (f2 (f2 (f2 zP X4 ixP) (f2 vf vK zN) zF) (fC (.int 26)) zK) ixP) zF) (fSl yj (oS (f2 xG yg zF)) oN slS) zF) rfl ho (by rw[zD,zyS];trivial)
    (WD.e (yG (yG (zfQ (za (i:=4) rfl) rfl (lo1 _ _ _ (za (i:=5) rfl)) eA) (zG (za (i:=2) rfl) (yx (yR (zG (za (i:=3) rfl) zb a8 rfl) (xT zb (za (i:=7) rfl) (zW (by decide) (by decide)) (zW (by trivial) (by trivial)))) zb (by decide)) d1 rfl) (add_str (by show A.length+1<=_;trivial))) (zfQ (za (i:=4) rfl) (lo1 _ _ _ (yR (za (i:=5) rfl) zb)) rfl eB) (by
     rw[e0];exact add_str (by rw[len_app];show A.length+1+B.length<=_;trivial)))) trivial
   refine⟨[sI c,sI (10:Nat),sT (.str abc),sT (zg xs),sT (.str base),sI at_,sN os,sI (0+i)],rfl,_,o2,os',_,rfl, ?_⟩;rw[show 0+i+1=i+1 by trivial,List.range_succ,zyK];exact o1)
  ⟨[],none,rfl,Ows.nil⟩
 rw[yW,zyW]at ho;have s5:=yE (st:=true) (i:=5) (as:=[sI c,sI (10:Nat),sT (.str abc),sT (zg xs),sT (.str base),none,none,none]) (yx (Zh (za (i:=0) rfl) (zb (x:=.int 8)) (by decide) (zW (by decide) (by decide))) (wD (g:=ZP) (x:=.int base.length) (zu (za (i:=4) rfl) zJ) (if_pos lz) rfl) lb) (zp rfl);rw[hat]at s5;refine⟨(List.range 10).map (nm A B x8),by rw[zD,zyS], ?_,λs ms=>?_,yM rfl (zj (yE (i:=2) zb (zp rfl)) (zj (xZ (p:=3) ws (zp rfl)) (zj (yE (i:=4) hm (zp rfl)) (zj s5 (zj (xg (i:=6) (wy zU (szl rfl)) (zp rfl)) (zj (wz (xN (zu (za rfl) zJ) (by decide) (by decide)) hf) (Ows.retB (i:=6) rfl ho)))))))⟩
 · exact List.pairwise_map.mpr ((List.nodup_range (n:=10)).imp_of_mem λha hb hne he=>hne (zrN (List.mem_range.mp ha) (List.mem_range.mp hb) he))
 · obtain⟨i,_,rfl⟩:=zxC.mp ms;have h0:=zyL (x8+3*(i:Int)) (show(26:Int)≠0 by decide);have h1:=zyF (x8+3*(i:Int)) (show(0:Int)<26 by decide);refine⟨?_,Lt.app (Lt.app tA λq mq=>by rw[zzP.mp mq];exact⟨by omega,by omega⟩) tB⟩;rw[len_app,len_app];show A.length+1+B.length<=100;omega
def zug(ha:WE a as (.lst d1))(hb:WE b as (.lst d2)):zlA (aC a (aC b aN)) as=some (Y5 true d1 d2,as):=by
 have h:=YD ha (YD hb (zJ (as:=as)));unfold WA at h;unfold zlA;rw[h];rfl
theorem zfN:∀{xs:List It1},(∀y ∈ xs,∃as1 b x,g y as0=some as1/\WT tt as1 b/\WD fe as1 true (.int x))->∃l:List Int,xj g tt fe as0 xs=some (l.map lfI)
 | [],_=>⟨[],rfl⟩
 |y::xs,H=>by
  obtain⟨as1,b,x,h1,h2,h3⟩:=H y (zzD ..);obtain⟨l,hl⟩:=zfN (g:=g) (tt:=tt) (fe:=fe) (as0:=as0) (xs:=xs) λz m=>H z (zzB _ m);cases b with
  |true=>exact⟨x::l,zlY h1 h2 h3 hl⟩
  |false=>exact⟨l,zfZ h1 h2 hl⟩
abbrev yO(p:Str×List Int):D:=.tup [.str p.1,zg p.2]
abbrev Sg(S:SS):Prop:=S.length<=10/\(S.map (·.1)).Nodup
abbrev zqZ:List Int:=[1,2,4,8,16,32,64,128]
theorem zkQ(st:Bool):∀(a b:List D),(Y5 st a b).length<=b.length
 | [],b=>Nat.zero_le _
 |_::_,[]=>zzL _
 |_::a,_::b=>Nat.succ_le_succ (zkQ st a b)
def znK{c:Int}{n:Nat}{ns:List Str}(hn:n<=8)(hl:ns.length<=10)(nd:ns.Nodup):∃ss:SS,Sg ss/\RE (Z5 [(true,.int c),(true,.int n),(true,.lst (ns.map D.str))]) (.lst (ss.map yO)):=by
 obtain⟨xs,xl,hx,ws⟩:=stE (as:=[sI c,sI n,sT (.lst (ns.map D.str)),sN [],none,none]) (a:=fV 0) (b:=fP Xc ZP) (c:=c) (m:=ns.length) (by omega) (WD.e (za rfl)) (WD.e (wD (zu (za rfl) zJ) (by show some (R0.im (.int ((ns.map D.str).length:Int)))=_;rw[zD]) rfl));obtain⟨as',hf,os,l,e4,e5,rfl,ho,hll,hnm⟩:=xM (g:=gT 2 (gsC Wo (gsC (gN 5) gsN))) (f:=yF (xJ 3 (dC (yw (dC xG (dC (zB (yp xx yq) [none,some 4] ye (fT (f2 (f2 (f2 zq (f2 (yN (dC yg (dC yD (dC vJ (dC X4 (dC (fC (.int 16)) (dC (fC (.int 32)) (dC (fC (.int 64)) (dC (fC (.int 128)) dN))))))))) zm ixP) yd) yD zK) yg (zR .Eq))) zm) dN))) dN) xU))
  (λi as=>∃(os:List O) (l:SS) (e4 e5:Option O),as=[sI c,sI n,sT (.lst (ns.map D.str)),sN os,e4,e5]/\Ows yO (λ_=>True) os l/\l.length=i/\l.map (·.1)=ns.take i)
  (Y5 true (xs.map D.int) (ns.map D.str)) 0 [sI c,sI n,sT (.lst (ns.map D.str)),sN [],none,none] (λi x as hx' hI=>by
   obtain⟨os,l,e4,e5,rfl,ho,hlen,hnm⟩:=hI;obtain⟨d,e,z1,z2,rfl⟩:=Wu hx';have hil:i<ns.length:=by have:=(zzE.mp z2).1;rw[zD]at this;exact this
   obtain⟨y,m1,rfl⟩:=zdo z1;rw[zzG]at z2;obtain⟨s,m2,rfl⟩:=zzV.mp z2;obtain⟨r,hr⟩:=zfN (g:=gN 0) (as0:=[none,sI y]) (tt:=fT (f2 (f2 (f2 zq (f2 (yN (dC yg (dC yD (dC vJ (dC X4 (dC (fC (.int 16)) (dC (fC (.int 32)) (dC (fC (.int 64)) (dC (fC (.int 128)) dN))))))))) zm ixP) yd) yD zK) yg (zR .Eq))) (fe:=fV 0) (xs:=wg 0 n) λw m=>by
    obtain⟨b,rfl,b0,b1⟩:=zgM m;obtain⟨q,q1,q2⟩:=zeD (r:=zqZ) (P:=λx=>0<x/\x<1000) (k:=b) b0 (by show b<8;omega) (by decide);exact⟨[sI b,sI y],_,b,rfl,yc (yJ (yx (Zh (za rfl) (f2E (wM (os:=zqZ.map lfI) (zf zb (zf zb (zf zb (zf zb (zf zb (zf zb (zf zb (zf zb zU)))))))) (szl rfl) rfl rfl) (WD.e (za rfl)) q1) q2.1 (zW (by omega) (by omega))) zb (by decide)) zb rfl) rfl,za rfl⟩
   have hc:=Vb (as:=[sI c,sI n,sT (.lst (ns.map D.str)),sN os,sI y,sT (.str s)]) (cap:=[none,some 4]) (xN (zu (za (i:=1) rfl) zJ) (by omega) (by omega)) (by rw[yW];exact szs (by omega)) hr;obtain⟨os',o1,o2⟩:=zmv (as:=[sI c,sI n,sT (.lst (ns.map D.str)),sN os,sI y,sT (.str s)]) (x:=(s,r)) (i:=3) (toD:=yO) (Q:=λ_=>True) rfl ho (by omega) (zcT (zf (za (i:=5) rfl) (Y8 hc zU)) (szl rfl) (by show(true&&((O.nd .ls (r.map lfI)).str&&true))=true;rw[(zck r).1];rfl) (by show D.tup [.str s,(O.nd .ls (r.map lfI)).toD]=_;rw[(zck r).2])) trivial;exact⟨[sI c,sI n,sT (.lst (ns.map D.str)),sN os,sI y,sT (.str s)],rfl,_,o2,os',l++[(s,r)],_,_,rfl,o1,by rw[zzH,hlen];show 0+i+1=_;omega,by rw[zyK,hnm,zyW,List.take_succ,m2];rfl⟩)
  ⟨[],[],none,none,rfl,Ows.nil,rfl,rfl⟩
 have hz:l.length<=10:=zzM (Nat.le_of_eq (hll.trans (zyW _))) (zzM (zkQ _ _ _) (zzM (Nat.le_of_eq (zD ..)) hl));exact⟨l,⟨hz,by rw[hnm];exact nd.sublist (List.take_sublist _ _)⟩,yM rfl (zj (xg (i:=3) (wy zU (szl rfl)) (zp rfl)) (zj (wz (zug ws (WD.e (za rfl))) hf) (Ows.retB (i:=3) rfl ho)))⟩
theorem any_ints(b:Int):∀r:List Int,∃t,anyF (λy=>eqF 50 y (.int b)) (r.map D.int)=some t
 | []=>⟨_,rfl⟩
 |x::r=>by
  obtain⟨t,h⟩:=any_ints b r;refine⟨(x==b)||t, ?_⟩;show(some (x==b)).bind _=_;rw[zyJ,h];rfl
theorem zds:∀{r:List Int},b ∈ r->∃j:Nat,j<r.length/\r[j]? = some b/\zbn (λy=>eqF 50 y (.int b)) (r.map D.int)=some j
 |x::r,m=>by
  by_cases e:x=b
  · obtain⟨t,h⟩:=any_ints b r;refine⟨0,Nat.succ_pos _,by rw[e];rfl, ?_⟩;show(some (x==b)).bind _=_;rw[zyJ,show(x==b)=true by simp[e]];show(anyF _ (r.map D.int)).bind _=_;rw[h];rfl
  · obtain⟨j,h1,h3,h2⟩:=zds (r:=r) ((zzA.mp m).resolve_left λz=>e z.symm);refine⟨j+1,Nat.succ_lt_succ h1,by simpa using h3, ?_⟩;show(some (x==b)).bind _=_;rw[zyJ,show(x==b)=false by simp[e]];show(zbn _ (r.map D.int)).bind _=_;rw[h2];rfl
def zfb(h:F.Perm (zY n)):Row n F/\∀b:Int,0<=b->b<n->b ∈ F:=by
 refine⟨⟨by rw[h.length_eq,zD,zyS],λx m=>?_⟩,λb b0 b1=>h.mem_iff.mpr ?_⟩
 · obtain⟨i,hi,rfl⟩:=zxC.mp (h.mem_iff.mp m);have:=List.mem_range.mp hi;trivial
 · exact zxC.mpr ⟨b.toNat,List.mem_range.mpr (by trivial),by trivial⟩
def zpV{α:Type}(toD:α->D){Q:Nat->α->Prop}{fr:AF}{cap:List (Option Nat)}{fe:EF}{as:AS}{n:Nat}{u:Bool}(h1:WA fr as [(u,.int n)])(hl:n<=1000)(H:∀i:Nat,i<n->∃as1 a,gN 0 (true,.int (i:Int)) (vI cap as)=some as1/\WE fe as1 (toD a)/\Q i a):
 ∃l:List α,l.length=n/\(∀i a,l[i]? = some a->Q i a)/\WE (zB (yp fr yq) cap ye zX fe) as (.lst (l.map toD)):=by
 obtain⟨l,a1,a2,a3⟩:=zfR toD (Q:=Q) (cap:=cap) (g:=gN 0) (fe:=fe) (xN h1 (by trivial) (by trivial)) (by rw[yW];trivial) (λi y m=>by
  obtain⟨rfl,hi⟩:=vg m;rw[Int.zero_add];exact H i (by trivial))
 rw[yW]at a1;exact⟨l,by trivial,a2,a3⟩
def zmM(h:F.Perm (zY n))(hv:InR n v)(hw:InR n w)(e:rAt F v=rAt F w):v=w:=by
 have hl:=(zfb h).1.1;have v0:=hv.1;have v1:=hv.2;have w0:=hw.1;have w1:=hw.2;have nd:F.Nodup:=by
  refine h.nodup_iff.mpr (List.pairwise_map.mpr (List.nodup_range.imp λz q=>z (by trivial)))
 rw[YM (by trivial),YM (by trivial)]at e;have:=(List.getElem_inj nd).mp e;trivial
def zuw{as:AS}{F:List Int}{n:Nat}{cap:List (Option Nat)}{fr:AF}(hF:F.Perm (zY n))(hn:n<=8)(h1:WA fr as [(true,.int n)])(h2:∀b:Int,gN 0 (true,.int b) (vI cap as)=some [sI b,sT (zg F)]):
 ∃B,(Row n B/\(∀v,InR n v->rAt F (rAt B v)=v)/\∀v,InR n v->rAt B (rAt F v)=v)/\WE (zB (yp fr yq) cap ye zX (Z1 .lst zq xR ZR)) as (zg B):=by
 obtain⟨r1,r2⟩:=zfb hF;obtain⟨B,b1,b2,b3⟩:=zpV D.int (Q:=λi x=>rAt F x=i/\InR n x) (n:=n) (cap:=cap) (fe:=Z1 .lst zq xR ZR) h1 (by trivial) λb hb=>by
  obtain⟨j,j1,j3,j2⟩:=zds (r2 b (by trivial) (by trivial));refine⟨_,(j:Int),h2 b,WD.e (zde (za rfl) rfl (zu (za rfl) zJ) ?_ rfl), ?_,by trivial,by rw[r1.1]at j1;trivial⟩
  · show(zbn _ (F.map D.int)).bind _=_;rw[j2];show(if(F.map D.int).length<=1000 then some (R0.im (.int j))else none)=_;rw[if_pos (by rw[zD,r1.1];trivial)]
  · unfold rAt;rw[zyG,j3];rfl
 have rB:Row n B:=⟨b1,λx m=>by
  obtain⟨i,hi⟩:=zyT m;exact(b2 i x hi).2⟩
 have fb:∀v,InR n v->rAt F (rAt B v)=v:=λv hv=>by
  have v0:=hv.1;have v1:=hv.2;have hk:v.toNat<B.length:=by trivial
  rw[YM hk,(b2 _ _ (zzC hk)).1];trivial
 exact⟨B,⟨rB,fb,λv hv=>zmM hF (rowAt rB (rowAt r1 hv).2).2 hv (fb _ (rowAt r1 hv).2)⟩,b3⟩
def ziB(h:WE f as x)(hg:g (true,x) as=some as'):Vh f g as=some (.nx as'):=by
 obtain⟨o,h1,h2,h3⟩:=h;exact zsV h1 (by rw[h2,h3];exact hg)
def ztH(hn:n<=8)(hF:Row n F)(hB:Row n B)(hJ:Tab n n J)(h1:WA fr as [(true,.int n)])(h2:∀a:Int,gN 0 (true,.int a) (vI cap as)=some [sI a,sT (zg F),sI n,sT (zx J),sT (zg B)]):
 ∃T,zaP n n (λa b=>rAt F (jAt J (rAt B a) (rAt B b))) T/\WE (zB (yp fr yq) cap ye zX (zB (yp Xc yq) [none,some 1,some 3,some 4,some 0] ye zX (f2 zq (f2 (f2 zE (f2 zP yj ixP) ixP) (f2 zP zm ixP) ixP) ixP))) as (zx T):=
 zdp (f:=λa b=>rAt F (jAt J (rAt B a) (rAt B b))) (n:=n) (k:=n) (cap:=cap) (fe:=zB (yp Xc yq) [none,some 1,some 3,some 4,some 0] ye zX (f2 zq (f2 (f2 zE (f2 zP yj ixP) ixP) (f2 zP zm ixP) ixP) ixP)) h1 (by trivial) λa ha=>by
  obtain⟨r,r1,r3⟩:=zaV (f:=λb=>rAt F (jAt J (rAt B a) (rAt B b))) (N:=n) (as:=[sI a,sT (zg F),sI n,sT (zx J),sT (zg B)]) (u:=true) (n:=n) (fr:=aC zE aN) (cap:=[none,some 1,some 3,some 4,some 0]) (fe:=f2 zq (f2 (f2 zE (f2 zP yj ixP) ixP) (f2 zP zm ixP) ixP) ixP) (zu (za rfl) zJ) (by trivial) λb hb=>by
   obtain⟨p1,p2⟩:=rowAt hB ha;obtain⟨q1,q2⟩:=rowAt hB hb;obtain⟨t1,t2⟩:=vR hJ p2;obtain⟨v1,v2⟩:=rowAt t2 q2;obtain⟨w1,w2⟩:=rowAt hF v2;exact⟨[sI b,sT (zg F),sT (zx J),sT (zg B),sI a],rfl,WD.e (zG (za rfl) (zG (yG (za rfl) (zG (za rfl) (za rfl) p1 rfl) t1) (zG (za rfl) (za rfl) q1 rfl) v1 rfl) w1 rfl),w2⟩
  exact⟨_,r,h2 a,r3,r1⟩
abbrev yz(p:Str×TZ):D:=.tup [.str p.1,zx p.2]
abbrev zmI:EF:=zB (yU (fV 14)) [none,some 8,some 5,some 9] ye zX (zB (yp Xc yq) [none,some 1,some 0,some 3] ye zX (f2 zq (f2 zE (f2 zP zm ixP) ixP) ixP))
def zuU(hn:n<=8)(hm:m<=8)(hF:Row n F)(hB:Row n B)(hT:Tab m n T)(h1:as[14]? = some (sT (zx T)))(h2:∀d:D,gN 0 (true,d) (vI [none,some 8,some 5,some 9] as)=some [sT d,sT (zg F),sI n,sT (zg B)]):
 ∃T',zaP m n (λc a=>rAt F (jAt T c (rAt B a))) T'/\WE zmI as (zx T'):=by
 obtain⟨T',t1,t2,t3⟩:=zfR zg (Q:=λ(c:Nat) r=>Vd n n (λa=>rAt F (jAt T c (rAt B a))) r) (cap:=[none,some 8,some 5,some 9]) (g:=gN 0) (fe:=zB (yp Xc yq) [none,some 1,some 0,some 3] ye zX (f2 zq (f2 zE (f2 zP zm ixP) ixP) ixP)) (zey (f:=fV 14) (as:=as) (WD.e (za h1))) (by rw[zD,zD,hT.1];trivial) λc y my=>by
  rw[zzZ,zzG]at my;obtain⟨r,mr,rfl⟩:=zzV.mp my;have hr:=hT.2 r (zzY mr);have hj:∀v,jAt T c v=rAt r v:=λv=>by unfold jAt;rw[zyG,mr];rfl
  obtain⟨l,l1,l3⟩:=zaV (f:=λa=>rAt F (jAt T c (rAt B a))) (N:=n) (as:=[sT (zg r),sT (zg F),sI n,sT (zg B)]) (u:=true) (n:=n) (fr:=aC zE aN) (cap:=[none,some 1,some 0,some 3]) (fe:=f2 zq (f2 zE (f2 zP zm ixP) ixP) ixP) (zu (za rfl) zJ) (by trivial) λa ha=>by
   obtain⟨p1,p2⟩:=rowAt hB ha;obtain⟨v1,v2⟩:=rowAt hr p2;obtain⟨w1,w2⟩:=rowAt hF v2;rw[hj];exact⟨[sI a,sT (zg F),sT (zg r),sT (zg B)],rfl,WD.e (zG (za rfl) (zG (za rfl) (zG (za rfl) (za rfl) p1 rfl) v1 rfl) w1 rfl),w2⟩
  exact⟨_,l,h2 _,l3,l1⟩
 rw[zD,zD]at t1;exact⟨T',WP (by rw[t1,hT.1]) t2,t3⟩
structure Alg(n m:Nat)(J:TZ)(e:Int)(Ds:DZ):Prop where
 n1:1<=n
 n8:n<=8
 m1:1<=m
 m6:m<=6
 j:Tab n n J
 e0:0<=e
 en:e<n
 dl:Ds.length<=6
 ds:∀p ∈ Ds,Tab m n p.2
 nd:(Ds.map (·.1)).Nodup
structure LawA(n m:Nat)(J:TZ)(e:Int)(Ds:DZ):Prop where
 lj:LJ n (jAt J) e
 ld:∀p ∈ Ds,LD n m (jAt J) e (jAt p.2)
abbrev zA(n m:Nat)(J:TZ)(e:Int)(Ds:DZ)(S:SS):D:=.tup [.int n,.int m,zx J,.int e,.lst (Ds.map yz),.lst (S.map yO)]
def znu{A0 A1 A2 A3 A4 A6 A7 A10 A11 A15:Option O}{F B:List Int}{Ds:List TZ}{ns:List Str}{m n:Nat}(hn:n<=8)(hm:m<=8)(hF:Row n F)(hB:Row n B)(hD:∀T ∈ Ds,Tab m n T)(hl:Ds.length<=ns.length)(hl8:Ds.length<=8):
 ∃os l e13 e14,Ows yz (λp=>∃T ∈ Ds,zaP m n (λc a=>rAt F (jAt T c (rAt B a))) p.2) os l/\l.map (·.1)=ns.take Ds.length/\l.length=Ds.length/\forL (gT 2 (gsC (gN 13) (gsC (gN 14) gsN))) (yF (xJ 12 (dC (yw (dC (fV 13) (dC zmI dN))) dN) xU)) (Y5 true (ns.map D.str) (Ds.map zx))
  [A0,A1,A2,A3,A4,sI n,A6,A7,sT (zg F),sT (zg B),A10,A11,sN [],none,none,A15]
  = some (.nx [A0,A1,A2,A3,A4,sI n,A6,A7,sT (zg F),sT (zg B),A10,A11,sN os,e13,e14,A15]):=by
 obtain⟨as',hf,os,l,e13,e14,rfl,ho,hlm,hlen⟩:=xM (g:=gT 2 (gsC (gN 13) (gsC (gN 14) gsN))) (f:=yF (xJ 12 (dC (yw (dC (fV 13) (dC zmI dN))) dN) xU))
  (λi as=>∃(os:List O) (l:DZ) (e13 e14:Option O),as=[A0,A1,A2,A3,A4,sI n,A6,A7,sT (zg F),sT (zg B),A10,A11,sN os,e13,e14,A15]/\Ows yz (λp=>∃T ∈ Ds,zaP m n (λc a=>rAt F (jAt T c (rAt B a))) p.2) os l/\l.map (·.1)=ns.take i/\l.length=i)
  (Y5 true (ns.map D.str) (Ds.map zx)) 0 [A0,A1,A2,A3,A4,sI n,A6,A7,sT (zg F),sT (zg B),A10,A11,sN [],none,none,A15] (λi x as hx' hI=>by
   obtain⟨os,l,e13,e14,rfl,ho,hlm,hlen⟩:=hI;obtain⟨d,e,z1,z2,rfl⟩:=Wu hx';have hil:i<Ds.length:=by have:=(zzE.mp z2).1;rw[zD]at this;exact this
   obtain⟨T,mT,rfl⟩:=zdo z2;rw[zzG]at z1;obtain⟨s,s1,rfl⟩:=zzV.mp z1;obtain⟨T',t1,o,t2,t3,t4⟩:=zuU (as:=[A0,A1,A2,A3,A4,sI n,A6,A7,sT (zg F),sT (zg B),A10,A11,sN os,sT (.str s),sT (zx T),A15]) hn hm hF hB (hD T mT) rfl (λ_=>rfl);obtain⟨os',o1,o2⟩:=zmv (as:=[A0,A1,A2,A3,A4,sI n,A6,A7,sT (zg F),sT (zg B),A10,A11,sN os,sT (.str s),sT (zx T),A15]) (x:=(s,T')) (i:=12) (toD:=yz) (Q:=λp=>∃T ∈ Ds,zaP m n (λc a=>rAt F (jAt T c (rAt B a))) p.2) rfl ho (by trivial) (zcT (zf (za (i:=13) rfl) (Y8 t2 zU)) (szl rfl) (by show(true&&(o.str&&true))=true;rw[t3];rfl) (by show D.tup [.str s,o.toD]=_;rw[t4])) ⟨T,mT,t1⟩;refine⟨[A0,A1,A2,A3,A4,sI n,A6,A7,sT (zg F),sT (zg B),A10,A11,sN os,sT (.str s),sT (zx T),A15],rfl,_,o2,os',l++[(s,T')],_,_,rfl,o1, ?_,by rw[zzH,hlen];rfl⟩;rw[zyK,hlm,show 0+i+1=i+1 by trivial,zyW,List.take_succ,s1];rfl)
  ⟨[],[],none,none,rfl,Ows.nil,rfl,rfl⟩
 rw[zaL,zD,zD,Nat.min_eq_right hl,zyW]at hlm hlen;exact⟨os,l,e13,e14,ho,hlm,hlen,hf⟩
def zqI(x:Int):∃n:Nat,n<=6/\ixP (.lst (([1,2,0,4,3,2,6,5]:List Int).map D.int)) (.int (x%8))=some (.im (.int n)):=by
 obtain⟨v,h1,h2⟩:=zeD (r:=[1,2,0,4,3,2,6,5]) (P:=λx=>0<=x/\x<=6) (k:=x%8) (by trivial) (by show x%8<8;trivial) (by decide);exact⟨v.toNat,by trivial,by rw[show((v.toNat:Nat):Int)=v by trivial];exact h1⟩
def zsg(x:Int):∃n:Nat,n<=4/\ixP (.lst (([1,2,1,4,0,2,3,1]:List Int).map D.int)) (.int (x%8))=some (.im (.int n)):=by
 obtain⟨v,h1,h2⟩:=zeD (r:=[1,2,1,4,0,2,3,1]) (P:=λx=>0<=x/\x<=4) (k:=x%8) (by trivial) (by show x%8<8;trivial) (by decide);exact⟨v.toNat,by trivial,by rw[show((v.toNat:Nat):Int)=v by trivial];exact h1⟩
def zdR(h:WD f as true (.int k)):oS f as=some (some k,as):=by
 unfold oS;unfold WD at h;rw[h];rfl
def zpL(f:α->D)(l:List α)(lo hi:Option Int):∃l':List α,l'.Sublist l/\PF.cutD (l.map f) lo hi=l'.map f:=by
 unfold PF.cutD;rw[zD,<-List.map_drop,<-List.map_take];exact⟨_,(List.take_sublist _ _).trans (List.drop_sublist _ _),rfl⟩
def zrq:WE (yN (dC (fC (.int a)) (dC (fC (.int b)) (dC (fC (.int c)) (dC (fC (.int d)) (dC (fC (.int e)) (dC (fC (.int f)) (dC (fC (.int g)) (dC (fC (.int h)) dN))))))))) as (.lst (([a,b,c,d,e,f,g,h]:List Int).map D.int)):=
 wM (os:=([a,b,c,d,e,f,g,h]:List Int).map lfI) (zf zb (zf zb (zf zb (zf zb (zf zb (zf zb (zf zb (zf zb zU)))))))) (szl rfl) rfl rfl
def zdv:∃n m J e Ds S,(Alg n m J e Ds/\LawA n m J e Ds)/\(Sg S/\Nk Ds)/\RE (wH [(true,.int c),(true,.int c')]) (zA n m J e Ds S):=by
 obtain⟨ys,hl,hy,ws⟩:=stE (as:=[sI c,sI c',none,none,none,none,none,none,none,none,none,none,none,none,none,none]) (a:=fV 1) (b:=fC (.int 6)) (c:=c') (m:=6) (by trivial) (WD.e (za rfl)) (WD.e zb);obtain⟨y0,a0,_⟩:=at2 hy (k:=0) (by trivial) (by trivial);obtain⟨y1,a1,_⟩:=at2 hy (k:=1) (by trivial) (by trivial);obtain⟨y2,a2,_⟩:=at2 hy (k:=2) (by trivial) (by trivial);obtain⟨y3,a3,_⟩:=at2 hy (k:=3) (by trivial) (by trivial);obtain⟨y4,a4,_⟩:=at2 hy (k:=4) (by trivial) (by trivial);obtain⟨y5,a5,_⟩:=at2 hy (k:=5) (by trivial) (by trivial);obtain⟨w,w6,ew⟩:=zqI y1;obtain⟨k,k4,ek⟩:=zsg y5;have b3:(2:Int).natAbs<big:=zW (by decide) (by decide);obtain⟨m1,m11,m16,hC⟩:∃m1:Int,1<=m1/\m1<=6/\sIf (fT (f2 (f2 (f2 (f2 zE yo ixP) V7 yd) yD zK) yo (zR .Eq))) (zL true 3 (f2 yg (f2 (f2 (f2 zE yo ixP) (fC (.int 12)) yd) vf zK) zF)) sNx
  [sI c,sI c',sT (zg ys),sI (1+y0%6),none,none,none,none,none,none,none,none,none,none,none,none]=some (.nx [sI c,sI c',sT (zg ys),sI m1,none,none,none,none,none,none,none,none,none,none,none,none]):=by
  by_cases h:y0/6%2=0
  · exact⟨1+y0/12%3,by trivial,by trivial,vV (yc (yJ (yx (Zh (zG (za rfl) zb a0 rfl) zb (by decide) (zW (by decide) (by decide))) zb (by decide)) zb rfl) (by show some (y0/6%2==0)=_;simp[h])) (yE (i:=3) (yR zb (yx (Zh (zG (za rfl) zb a0 rfl) zb (by decide) (zW (by decide) (by decide))) zb (by decide))) (zp rfl))⟩
  · exact⟨1+y0%6,by trivial,by trivial,yh (yc (yJ (yx (Zh (zG (za rfl) zb a0 rfl) zb (by decide) (zW (by decide) (by decide))) zb (by decide)) zb rfl) (by show some (y0/6%2==0)=_;simp[h])) rfl⟩
 obtain⟨m,mm1,mm6,hE⟩:∃m:Nat,1<=m/\m<=6/\sIf (fT (f2 yj vf (zR .Gt))) (zL true 3 (f2 yg (f2 zP yD zK) zF)) sNx
  [sI c,sI c',sT (zg ys),sI m1,sI w,none,none,none,none,none,none,none,none,none,none,none]=some (.nx [sI c,sI c',sT (zg ys),sI m,sI w,none,none,none,none,none,none,none,none,none,none,none]):=by
  by_cases h:(3:Int)<w
  · refine⟨(1+m1%2).toNat,by trivial,by trivial, ?_⟩;rw[show(((1+m1%2).toNat:Nat):Int)=1+m1%2 by trivial];exact vV (yc (zaw (za rfl) zb) (congrArg some (zyM h))) (yE (i:=3) (yR zb (yx (za rfl) zb (by decide))) (zp rfl))
  · refine⟨m1.toNat,by trivial,by trivial, ?_⟩;rw[show((m1.toNat:Nat):Int)=m1 by trivial];exact yh (yc (zaw (za rfl) zb) (congrArg some (zyE h))) rfl
 obtain⟨n,J,Ds,n1,n8,LP,dl,hmade⟩:=zqp (c:=c) (m:=m) (w:=w) (by trivial) (by trivial) (by trivial);have hJ:=LP.tj;have hD:=LP.td;obtain⟨F,hF,hord⟩:=zoA (c:=y2) n1 n8;obtain⟨rF,_⟩:=zfb hF;obtain⟨B,⟨rB,fb,bf⟩,hback⟩:=zuw (as:=[sI c,sI c',sT (zg ys),sI m,sI w,sI n,sT (zx J),sT (.lst (Ds.map zx)),sT (zg F),none,none,none,none,none,none,none]) (cap:=[none,some 8]) (fr:=aC xG aN) hF n8 (zu (za rfl) zJ) (λb=>rfl);obtain⟨J',hJ',hjoin⟩:=ztH (as:=[sI c,sI c',sT (zg ys),sI m,sI w,sI n,sT (zx J),sT (.lst (Ds.map zx)),sT (zg F),sT (zg B),none,none,none,none,none,none]) (cap:=[none,some 8,some 5,some 6,some 9]) (fr:=aC xG aN) n8 rF rB hJ (zu (za rfl) zJ) (λa=>rfl);obtain⟨ns,nl,nnd,nnk,hnames⟩:=znA (c:=y3);obtain⟨os,l,e13,e14,ho,hlm,hlen,hf⟩:=znu (A0:=sI c) (A1:=sI c') (A2:=sT (zg ys)) (A3:=sI m) (A4:=sI w) (A6:=sT (zx J)) (A7:=sT (.lst (Ds.map zx))) (A10:=sT (zx J')) (A11:=sT (.lst (ns.map D.str))) (A15:=none) (ns:=ns.take 6) n8 (by trivial) rF rB hD (by rw[zzQ,nl];trivial) (by trivial);obtain⟨ef,ff⟩:=rowAt rF (v:=0) ⟨by trivial,by trivial⟩;obtain⟨ks,kl,ck⟩:=zpL D.str ns (some 6) (some (6+(k:Int)));obtain⟨S,hSg,hS⟩:=znK (c:=y4) (n:=n) (ns:=ks) n8 (by have:=kl.length_le;omega) (nnd.sublist kl);have cF:∀a,InR n a->InR n (rAt F a):=λa ha=>(rowAt rF ha).2;have cB:∀a,InR n a->InR n (rAt B a):=λa ha=>(rowAt rB ha).2;have lj:=ljT LP.lj cF cB fb bf;refine⟨n,m,J',rAt F 0,l,S,⟨⟨n1,n8,mm1,mm6,hJ'.1,ff.1,ff.2,by trivial,λp mp=>?_, ?_⟩,⟨lj.congr hJ'.2,λp mp=>?_⟩⟩,⟨hSg,λp mp=>nnk p.1 (List.mem_of_mem_take (List.mem_of_mem_take (by rw[<-hlm];exact List.mem_map_of_mem mp)))⟩, ?_⟩
 · obtain⟨T,_,hT⟩:=ho.al p mp;exact hT.1
 · rw[hlm];exact(nnd.sublist (List.take_sublist _ _)).sublist (List.take_sublist _ _)
 · obtain⟨T,mT,hT⟩:=ho.al p mp;exact(ldT (by trivial) LP.lj (LP.ld T mT) cF cB fb bf).congr (by trivial) lj hJ'.2 hT.2
 have z6:WE (fSl xF oN (oS V7) slP) [sI c,sI c',sT (zg ys),sI m,sI w,sI n,sT (zx J),sT (.lst (Ds.map zx)),sT (zg F),sT (zg B),sT (zx J'),sT (.lst (ns.map D.str)),sN [],none,none,none] (.lst ((ns.take 6).map D.str)):=by
  refine zcW (lo:=none) (hi:=some 6) (WD.e (za rfl)) rfl (zdR zb) ?_;have:=zmQ (xs:=(ns.take 6).map D.str) (ys:=(ns.drop 6).map D.str);rw[<-zyK,List.take_append_drop,zD,zzQ,nl]at this;exact this
 have zS:WE (zM (aC (f2 zE vJ ixP) (aC xG (aC (fSl xF (oS V7) (oS (f2 V7 (f2 (yN (dC yg (dC yD (dC yg (dC vJ (dC yo (dC yD (dC vf (dC yg dN))))))))) (f2 (f2 zE zcO ixP) X4 zK) ixP) zF)) slP) aN))) Z5) [sI c,sI c',sT (zg ys),sI m,sI w,sI n,sT (zx J),sT (.lst (Ds.map zx)),sT (zg F),sT (zg B),sT (zx J'),sT (.lst (ns.map D.str)),sN os,e13,e14,none] (.lst (S.map yO)):=
  Yp (WD.e (zG (za rfl) zb a4 rfl)) (WD.e (za rfl)) (zcW (lo:=some 6) (hi:=some (6+(k:Int))) (WD.e (za rfl)) (zdR zb) (zdR (yR zb (f2E zrq (WD.e (yx (zG (za rfl) zb a5 rfl) zb (by decide))) ek))) (by show some (R0.fl (PF.cutD (ns.map D.str) (some 6) (some (6+(k:Int)))))=_;rw[ck])) hS
 refine yM rfl (zj (xZ (p:=2) ws (zp rfl)) (zj (yE (i:=3) (yR zb (yx (zG (za rfl) zb a0 rfl) zb (by decide))) (zp rfl)) (zj hC (zj (yE (i:=4) (f2E zrq (WD.e (yx (zG (za rfl) zb a1 rfl) zb (by decide))) ew) (zp rfl)) (zj hE
  (zj (as1:=[sI c,sI c',sT (zg ys),sI m,sI w,sI n,sT (zx J),sT (.lst (Ds.map zx)),none,none,none,none,none,none,none,none]) (ziB (Yp (WD.e (za rfl)) (WD.e (za rfl)) (WD.e (za rfl)) hmade) rfl)
  (zj (xZ (p:=8) (Wv (WD.e (zG (za rfl) zb a2 rfl)) (WD.e (za rfl)) hord) (zp rfl)) (zj (xZ (p:=9) hback (zp rfl)) (zj (xZ (p:=10) hjoin (zp rfl)) (zj (xZ (p:=11) (Wv (WD.e (zG (za rfl) zb a3 rfl)) (WD.e zb) hnames) (zp rfl)) (zj (xg (i:=12) (wy zU (szl rfl)) (zp rfl)) (zj (wz (zug z6 (WD.e (za rfl))) hf) (zj (xZ (p:=15) zS (zp rfl)) ?_)))))))))))))
 have e:=yS (as:=[sI c,sI c',sT (zg ys),sI m,sI w,sI n,sT (zx J),sT (.lst (Ds.map zx)),sT (zg F),sT (zg B),sT (zx J'),sT (.lst (ns.map D.str)),sN os,e13,e14,sT (.lst (S.map yO))]) (a:=fV 5) (za rfl) (yS (a:=fV 3) (za rfl) (yS (a:=fV 10) (za rfl) (yS (a:=f2 (fV 8) yo ixP) (zG (za rfl) zb ef rfl) (zbj (j:=12) (fr:=dC (fV 15) dN) rfl (yS (a:=fV 15) (za rfl) rfl)))));rw[ho.frz]at e;exact⟨_,Vc (zcZ e (szl rfl)) rfl,rfl,rfl⟩
def zlJ(hn:0<n)(hn8:n<=8)(hk:k<=900):∃ds:List Int,ds.length=k/\(∀x ∈ ds,InR n x)/\RE (Xh [(true,.int c),(true,.int n),(true,.int k)]) (zg ds):=by
 obtain⟨as',hf,x,os,l,e4,rfl,ho,hlen⟩:=xM (g:=gN 4) (f:=zy (yF (xJ 3 (dC (f2 zm zq zK) dN) xU)) (zL true 0 (f2 zm zq yd)))
  (λi as=>∃(x:Int) (os:List O) (l:List Int) (e4:Option O),as=[sI x,sI n,sI k,sN os,e4]/\Ows D.int (InR n) os l/\l.length=i)
  (wg 0 k) 0 [sI c,sI n,sI k,sN [],none] (λi y as hx' hI=>by
   obtain⟨x,os,l,e4,rfl,ho,hlen⟩:=hI;obtain⟨rfl,hi⟩:=vg hx';obtain⟨os',o1,o2⟩:=zmv (as:=[sI x,sI n,sI k,sN os,sI (0+i)]) (x:=x%n) (i:=3) (toD:=D.int) (Q:=InR n) (a:=f2 zm zq zK) rfl ho (by trivial) (WD.e (yx (za rfl) (za rfl) (by trivial))) (vQ hn);exact⟨[sI x,sI n,sI k,sN os,sI (0+i)],rfl,_,ym o2 (yE (i:=0) (Zh (za rfl) (za rfl) (by trivial) (zW (by trivial) (by trivial))) (zp rfl)),x/n,os',l++[x%n],_,rfl,o1,by rw[zzH,hlen];rfl⟩)
  ⟨c,[],[],none,rfl,Ows.nil,rfl⟩
 rw[yW]at hlen;exact⟨l,by trivial,ho.al,yM rfl (zj (xg (i:=3) (wy zU (szl rfl)) (zp rfl)) (zj (wz (xN (zu (za rfl) zJ) (by trivial) (by trivial)) hf) (Ows.retB (i:=3) rfl ho)))⟩
def zaS{ns:List Int}{k:Int}{s t:Bool}(hk:0<=k):∃x,yt [(s,.lst (ns.map .int)),(t,.int k)]=sT (.int x):=by
 by_cases h:k<((ns.map D.int).length:Int)
 · obtain⟨x,hx⟩:=zpq (ns:=ns) hk (by rw[zD]at h;exact h);exact⟨x,zaY rfl (zkG (vV (yc (ziE (za rfl) (wD (zu (za rfl) zJ) rfl rfl)) (congrArg some (zyM h))) (zho (zG (za rfl) (za rfl) hx rfl))))⟩
 · exact⟨0,zaY rfl (ym (yh (yc (ziE (za rfl) (wD (zu (za rfl) zJ) rfl rfl)) (congrArg some (zyE h))) rfl) (zho zb))⟩
def zpJ{ds:List Int}{a n:Nat}(h:a+n<=ds.length):slP (zg ds) (some (a:Int)) (some ((a+n:Nat):Int))=some (.fl (((ds.drop a).take n).map D.int)):=by
 show some (R0.fl (PF.cutD (ds.map D.int) (some (a:Int)) (some ((a+n:Nat):Int))))=_
 congr 2
 unfold PF.cutD;rw[HT.zdh,HT.zdh,zD,Nat.min_eq_left h,Nat.min_eq_left (show a<=ds.length by trivial),<-List.map_drop,<-List.map_take,Nat.add_sub_cancel_left]
def zld{ds:List Int}{a n N:Nat}(h:a+n<=ds.length)(hd:∀x ∈ ds,InR N x)(e:n=N):Row N ((ds.drop a).take n):=by
 refine⟨by rw[zzQ,List.length_drop];trivial,λx m=>hd x (List.mem_of_mem_drop (List.mem_of_mem_take m))⟩
def cutE{f fl fh:EF}{as:AS}{ds:List Int}{a n:Nat}{lo hi:Int}(h:a+n<=ds.length)(hf:WD f as true (zg ds))(h1:WD fl as true (.int lo))(h2:WD fh as true (.int hi))(e1:lo=(a:Int))(e2:hi=((a+n:Nat):Int)):WE (fSl f (oS fl) (oS fh) slP) as (zg ((ds.drop a).take n)):=by
 subst e1 e2;exact zcW (lo:=some (a:Int)) (hi:=some ((a+n:Nat):Int)) (WD.e hf) (zdR h1) (zdR h2) (zpJ h)
abbrev bdC:EF:=zB (yp Ww yq) [none,some 8,some 12,some 2] ye zX (fSl zq (oS (f2 zE (f2 zP zm zN) zF)) (oS (f2 (f2 zE (f2 zP zm zN) zF) zP zF)) slP)
abbrev bdB:SF:=(zy (zL true 12 (f2 (f2 yg (f2 zE zE zN) zF) (f2 (f2 zE zP zN) xF zN) zF))
 (yF (xJ 10 (dC (yw (dC (f2 (f2 vD xF ixP) yo ixP) (dC bdC dN))) dN) xU)))
abbrev Y13(n m:Nat)(a0 a1 a4 a5 a7 a9:Option O)(Ds:DZ)(ds:List Int)(e10 e11 e12:Option O):AS:=
 [a0,a1,sI n,sI m,a4,a5,sT (.lst (Ds.map yz)),a7,sT (zg ds),a9,e10,e11,e12]
def zsS{n m:Nat}{a0 a1 a4 a5 a7 a9:Option O}{Ds:DZ}{ds:List Int}(n1:1<=n)(n8:n<=8)(m6:m<=6)(dl:Ds.length<=6)(d1:ds.length=1+n*n+n*m*Ds.length)(d2:∀x ∈ ds,InR n x):
 ∃os l e11 e12,Ows yz (λp=>Tab m n p.2) os l/\l.map (·.1)=Ds.map (·.1)/\l.length=Ds.length/\forL (gN 11) bdB (wg 0 Ds.length) (Y13 n m a0 a1 a4 a5 a7 a9 Ds ds (sN []) none none)=some (.nx (Y13 n m a0 a1 a4 a5 a7 a9 Ds ds (sN os) e11 e12)):=by
 have nn:n*n<=64:=Nat.mul_le_mul n8 n8;have nm:n*m<=48:=Nat.mul_le_mul n8 m6;obtain⟨as',hf,os,l,e11,e12,rfl,ho,hlm,hlen⟩:=xM (g:=gN 11) (f:=bdB)
  (λi as=>∃(os:List O) (l:DZ) (e11 e12:Option O),as=Y13 n m a0 a1 a4 a5 a7 a9 Ds ds (sN os) e11 e12/\Ows yz (λp=>Tab m n p.2) os l/\l.map (·.1)=(Ds.map (·.1)).take i/\l.length=i)
  (wg 0 Ds.length) 0 (Y13 n m a0 a1 a4 a5 a7 a9 Ds ds (sN []) none none) (λi x as hx' hI=>by
   obtain⟨os,l,e11,e12,rfl,ho,hlm,hlen⟩:=hI;obtain⟨rfl,hi⟩:=vg hx';rw[Int.zero_add]at hx' ⊢;have g0:=zzC hi;generalize Ds[i]=p at g0;have hk:n*m*i+n*m<=n*m*Ds.length:=by rw[<-Nat.mul_succ];exact Nat.mul_le_mul_left _ hi
   have hk2:n*m*i<=288:=zzM (zzM (Nat.le_add_right _ _) hk) (Nat.mul_le_mul nm dl);have eat:((1+n*n+n*m*i:Nat):Int)=1+n*n+n*m*i:=by rw[Int.natCast_add,Int.natCast_add,zzT,zzT,zzT];rfl
   have enm:((n*m:Nat):Int)=n*m:=zzT n m;obtain⟨T,t1,t2,o,t3,t4,t5⟩:=zei (as:=Y13 n m a0 a1 a4 a5 a7 a9 Ds ds (sN os) (sI i) (sI ((1+n*n+n*m*i:Nat):Int))) (u:=true) zg (Q:=Row n) (n:=m) (fr:=aC zP aN) (cap:=[none,some 8,some 12,some 2]) (fe:=fSl zq (oS (f2 zE (f2 zP zm zN) zF)) (oS (f2 (f2 zE (f2 zP zm zN) zF) zP zF)) slP) (zu (za rfl) zJ) (by trivial) λc c0 c1=>by
    have ha:n*c.toNat+n<=n*m:=by rw[<-Nat.mul_succ];exact Nat.mul_le_mul_left n (by trivial)
    have ec:(c.toNat:Int)=c:=by trivial
    have w:WD (f2 zE (f2 zP zm zN) zF) [sI c,sT (zg ds),sI ((1+n*n+n*m*i:Nat):Int),sI n] true (.int (((1+n*n+n*m*i:Nat):Int)+n*c)):=yR (za rfl) (xT (za rfl) (za rfl) (zW (by trivial) (by trivial)) (zW (by trivial) (by trivial)));exact⟨[sI c,sT (zg ds),sI ((1+n*n+n*m*i:Nat):Int),sI n],_,rfl,cutE (a:=(1+n*n+n*m*i)+n*c.toNat) (n:=n) (by trivial) (za rfl) w (yR w (za rfl)) (by rw[Int.natCast_add (1+n*n+n*m*i),zzT n c.toNat,ec]) (by rw[Int.natCast_add (1+n*n+n*m*i+n*c.toNat),Int.natCast_add (1+n*n+n*m*i),zzT n c.toNat,ec]),zld (by trivial) d2 rfl⟩
   obtain⟨os',o1,o2⟩:=zmv (as:=Y13 n m a0 a1 a4 a5 a7 a9 Ds ds (sN os) (sI i) (sI ((1+n*n+n*m*i:Nat):Int))) (a:=yw (dC (f2 (f2 vD xF ixP) yo ixP) (dC bdC dN))) (x:=(p.1,T)) (i:=10) (toD:=yz) (Q:=λp=>Tab m n p.2) rfl ho (by trivial) (zcT (zf (zG (yG (za (i:=6) rfl) (za (i:=11) rfl) (zha g0)) zb rfl rfl) (Y8 t3 zU)) (szl rfl) (by show(true&&(o.str&&true))=true;rw[t4];rfl) (by show D.tup [.str p.1,o.toD]=_;rw[t5])) ⟨t1,t2⟩;refine⟨Y13 n m a0 a1 a4 a5 a7 a9 Ds ds (sN os) (sI i) e12,rfl,_,ym (as1:=Y13 n m a0 a1 a4 a5 a7 a9 Ds ds (sN os) (sI i) (sI ((1+n*n+n*m*i:Nat):Int))) ?_ o2,os',l++[(p.1,T)],_,_,rfl,o1, ?_,by rw[zzH,hlen];rfl⟩
   · rw[eat];exact yE (i:=12) (yR (yR zb (xT (za (i:=2) rfl) (za (i:=2) rfl) (zW (by trivial) (by trivial)) (zW (by trivial) (by trivial)))) (xT (xT (za (i:=2) rfl) (za (i:=3) rfl) (zW (by trivial) (by trivial)) (zW (by trivial) (by trivial))) (za (i:=11) rfl) (by rw[<-enm];exact zW (by trivial) (by trivial)) (zW (by trivial) (by trivial)))) (zp rfl)
   · rw[zyK,hlm,show 0+i+1=i+1 by trivial,zyW,List.take_succ,zzG,g0];rfl)
  ⟨[],[],none,none,rfl,Ows.nil,rfl,rfl⟩
 rw[yW,zyW]at hlm hlen;exact⟨os,l,e11,e12,ho,by rw[hlm,<-zD (f:=λp:Str×TZ=>p.1),List.take_length],hlen,hf⟩
abbrev zhK(T:TZ):O:=.nd .ls (T.map Zr)
abbrev wX(p:Str×TZ):O:=.nd .tp [.lf true (.str p.1),zhK p.2]
abbrev zrF:EF:=fP xR lstP
theorem zfB:∀T:TZ,xj ye zX zrF [none] ((T.map zg).map λd=>(true,d))=some (T.map Zr)
 | []=>rfl
 |r::T=>zaT (as1:=[sT (zg r)]) rfl (zqR (za rfl)) (wC r).2.1 (zfB T)
def znL(hl:T.length<=1000)(h:WE f as (zx T)):zB (yU f) [none] ye zX zrF as=some (.ow (zhK T),as):=
 Vb (zey h) (by rw[zD,zD];exact szs (by trivial)) (zfB T)
def zbC(p:Str×TZ):(wX p).str=true/\(wX p).toD=yz p:=by
 constructor
 · show(true&&(O.strs (p.2.map Zr)&&true))=true;rw[(W4 p.2).1];rfl
 · show D.tup [.str p.1,.lst (O.toDs (p.2.map Zr))]=_;rw[(W4 p.2).2]
theorem W6:∀Ds:DZ,O.strs (Ds.map wX)=true/\O.toDs (Ds.map wX)=Ds.map yz
 | []=>⟨rfl,rfl⟩
 |p::Ds=>⟨by show((wX p).str&&O.strs (Ds.map wX))=true;rw[(zbC p).1,(W6 Ds).1];rfl,by
  show(wX p).toD::O.toDs (Ds.map wX)=_;rw[(zbC p).2,(W6 Ds).2];rfl⟩
abbrev zub:EF:=yw (dC zm (dC (zB (yU zq) [none] ye zX zrF) dN))
def znZ(hl:p.2.length<=1000):zub [sT (.str p.1),sT (zx p.2)]=some (.ow (wX p),[sT (.str p.1),sT (zx p.2)]):=
 ziS (os:=[.lf true (.str p.1),zhK p.2]) (zf (za (i:=0) rfl) (Y8 (znL hl (WD.e (za (i:=1) rfl))) zU)) (szl rfl)
theorem zep:∀Ds:DZ,(∀p ∈ Ds,p.2.length<=1000)->xj (gT 2 (gsC ye (gsC (gN 1) gsN))) zX zub [none,none] ((Ds.map yz).map λd=>(true,d))=some (Ds.map wX)
 | [],_=>rfl
 |p::Ds,h=>zaT (as1:=[sT (.str p.1),sT (zx p.2)]) rfl (znZ (h p (zzD ..))) (zbC p).1 (zep Ds λq m=>h q (zzB _ m))
def YZ(h:as[i]? = some (some (.lf s (zg xs))))(hk:0<=k)(hx:xs[k.toNat]? = some x):xAt i (xC k) as=some x:=by
 have e:(xs.map D.int)[k.toNat]? = some (.int x):=by rw[zzG,hx];rfl
 unfold xAt xC;show(if 0<=k then _ else none:Option Int)=_;rw[if_pos hk,Xd (f:=zbH) h rfl];show((xs.map D.int)[k.toNat]?).bind asI=_;rw[e];rfl
def zbx(h:as[i]? = some (some (.lf s (.int k)))):xV i as=some k:=by
 unfold xV;rw[Xd (f:=zbH) h rfl];rfl
def zoX{as:AS}{i:Nat}{os:List O}(h:as[i]? = some (sN os)):znf i as=some (os.length:Int):=by
 unfold znf;rw[Xd (f:=Ze) h rfl];rfl
def ZW(h1:f as=some a)(h2:g as=some b)(hb:0<b):Wd f g as=some (a%b):=by
 unfold Wd;simp only[h1,h2,zyJ,if_pos hb]
def zpc{r:List Int}{k:Int}(h:k.toNat<r.length):(r.map lfI)[k.toNat]? = sT (.int r[k.toNat]):=by
 rw[zzG,zzC h];rfl
def zlj{as:AS}{i:Nat}{f1 f2 fv:IXF}{k1 k2 c:Int}{T:TZ}{r:List Int}(h1:f1 as=some k1)(h2:f2 as=some k2)(hv:fv as=some c)(p1:0<=k1)(p2:0<=k2)(hi:as[i]? = some (some (zhK T)))(hr:T[k1.toNat]? = some r)(hk:k2.toNat<r.length):
 zil i f1 f2 fv as=some (.nx (as.set i (some (zhK (T.set k1.toNat (r.set k2.toNat c)))))):=by
 have e1:(T.map Zr)[k1.toNat]? = sN (r.map lfI):=by rw[zzG,hr];rfl
 have e2:=zpc hk;have e3:(T.map Zr).set k1.toNat (.nd .ls ((r.map lfI).set k2.toNat (.lf true (.int c))))=(T.set k1.toNat (r.set k2.toNat c)).map Zr:=by
  rw[List.map_set];show _=(T.map Zr).set k1.toNat (.nd .ls ((r.set k2.toNat c).map lfI));rw[List.map_set]
 unfold zil;simp only[h1,h2,hv,zyJ,if_pos (show 0<=k1/\0<=k2 from⟨p1,p2⟩),(Xd hi rfl:slO Ze as i=some (T.map Zr)),(YK e1 rfl:atO Ze _ _=some (r.map lfI)),(YK e2 rfl:atO zbH _ _=some (.int r[k2.toNat])),e3]
def zmV{as:AS}{y i:Nat}{f1 f2 f3 fv:IXF}{k1 k2 k3 c:Int}{Ds:DZ}{p:Str×TZ}{r:List Int}(h1:f1 as=some k1)(h2:f2 as=some k2)(h3:f3 as=some k3)(hv:fv as=some c)(p1:0<=k1)(p2:0<=k2)(p3:0<=k3)(hy:noS as y=true)(hi:as[i]? = some (sN (Ds.map wX)))(hp:Ds[k1.toNat]? = some p)(hr:p.2[k2.toNat]? = some r)(hk:k3.toNat<r.length):
 znh y i f1 1 f2 f3 fv as=some (.nx (as.set i (sN ((Ds.set k1.toNat (p.1,p.2.set k2.toNat (r.set k3.toNat c))).map wX)))):=by
 have e1:(Ds.map wX)[k1.toNat]? = some (.nd .tp [.lf true (.str p.1),.nd .ls (p.2.map Zr)]):=by rw[zzG,hp];rfl
 have e2:([.lf true (.str p.1),.nd .ls (p.2.map Zr)]:List O)[1]? = sN (p.2.map Zr):=rfl;have e3:(p.2.map Zr)[k2.toNat]? = sN (r.map lfI):=by rw[zzG,hr];rfl
 have e4:=zpc hk;have e6:(p.2.map Zr).set k2.toNat (.nd .ls ((r.map lfI).set k3.toNat (.lf true (.int c))))=(p.2.set k2.toNat (r.set k3.toNat c)).map Zr:=by
  rw[List.map_set];show _=(p.2.map Zr).set k2.toNat (.nd .ls ((r.set k3.toNat c).map lfI));rw[List.map_set]
 have e5:(Ds.map wX).set k1.toNat (.nd .tp ([.lf true (.str p.1),.nd .ls (p.2.map Zr)].set 1 (.nd .ls ((p.2.set k2.toNat (r.set k3.toNat c)).map Zr))))=(Ds.set k1.toNat (p.1,p.2.set k2.toNat (r.set k3.toNat c))).map wX:=by
  symm;rw[List.map_set];rfl
 unfold znh;simp only[h1,h2,h3,hv,zyJ,if_pos (show 0<=k1/\0<=k2/\0<=k3/\noS as y=true from⟨p1,p2,p3,hy⟩),(Xd hi rfl:slO Ze as i=some (Ds.map wX)),(YK e1 rfl:atO zpC _ _=some [.lf true (.str p.1),.nd .ls (p.2.map Zr)]),(YK e2 rfl:atO Ze _ _=some (p.2.map Zr)),(YK e3 rfl:atO Ze _ _=some (r.map lfI)),(YK e4 rfl:atO zbH _ _=some (.int r[k3.toNat])),e6,e5]
def zvR{as:AS}{i:Nat}{os:List O}{b:EF}(h:as[i]? = some (sN os))(hb:b as=some (.ow (.nd .ls []),as)):WD (f2 (fV i) b (zR .NotEq)) as true (.bl (!os.isEmpty)):=by
 have hc:zR .NotEq (O.nd .ls os).toD (.lst [])=some (.im (.bl (!os.isEmpty))):=by
  cases os with
  |nil=>rfl
  |cons o r=>rfl
 have hv:RV.view as (RV.ow (O.nd .ls [])).frz=some (.lst [],some true):=rfl;have hi:RV.view as (RV.bo i).frz=some ((O.nd .ls os).toD,(O.nd .ls os).kl):=zdi h;have hw:wrap (meet (O.nd .ls os).kl (some true)) (.im (.bl (!os.isEmpty)))=some (.ow (.lf true (.bl (!os.isEmpty)))):=by
  simp[wrap,zZ,lfs]
 unfold WD f2;rw[zeE h];simp only[zyJ,hb,hi,hv,hc,hw]
def neB{as:AS}{i:Nat}{os:List O}(h:as[i]? = some (sN os)):WD (f2 (fV i) (yN dN) (zR .NotEq)) as true (.bl (!os.isEmpty)):=zvR h (wy zU (szl rfl))
def zkh(hr:Row n r)(hc:InR n c):Row n (r.set i c):=by
 refine⟨by rw[zzS];exact hr.1,λx m=>?_⟩
 rcases List.mem_or_eq_of_mem_set m with m|rfl
 · exact hr.2 x m
 · exact hc
def zkT(hT:Tab k n T)(hr:Row n r):Tab k n (T.set i r):=by
 refine⟨by rw[zzS];exact hT.1,λx m=>?_⟩
 rcases List.mem_or_eq_of_mem_set m with m|rfl
 · exact hT.2 x m
 · exact hr
theorem set_same:∀{l:List α}{i:Nat}{a:α},l[i]? = some a->l.set i a=l
 | [],_,_,h=>by simp at h
 |x::l,0,a,h=>by
  simp at h;rw[h];rfl
 |x::l,i+1,a,h=>congrArg (x :: ·) (set_same (l:=l) (i:=i) (by simpa using h))
abbrev B13(n m:Nat)(a0 a1 a4 a6 a7:Option O)(xs:List Int)(w:Int)(e:Int)(J:TZ)(Ds:DZ):AS:=
 [a0,a1,sI n,sI m,a4,sI e,a6,a7,sT (zg xs),some (zhK J),sN (Ds.map wX),sI w,none]
section
variable{n m:Nat}{a0 a1 a4 a6 a7:Option O}{xs:List Int}{w e:Int}{J:TZ}{Ds:DZ}
def Xn(hl:xs.length=8)(k:Nat)(hk:k<8):∃x,xs[k]? = some x/\ixP (zg xs) (.int (k:Int))=some (.im (.int x)):=by
 have g:=zzC (l:=xs) (i:=k) (by trivial);exact⟨_,g,zha g⟩
def zuM(hl:xs.length=8)(n1:1<=n)(he:InR n e):∃e',InR n e'/\sIf (fT (f2 xF yo (zR .Eq))) (zL true 5 (f2 (f2 (fV 8) yg ixP) zE zK)) sNx (B13 n m a0 a1 a4 a6 a7 xs w e J Ds)=some (.nx (B13 n m a0 a1 a4 a6 a7 xs w e' J Ds)):=by
 obtain⟨x,_,hx⟩:=Xn hl 1 (by trivial)
 by_cases h:w=0
 · exact⟨x%n,vQ n1,vV (yc (yJ (za (i:=11) rfl) zb rfl) (by show some (w==0)=_;simp[h])) (yE (i:=5) (yx (zG (za (i:=8) rfl) zb hx rfl) (za (i:=2) rfl) (by trivial)) (zp rfl))⟩
 · exact⟨e,he,yh (yc (yJ (za (i:=11) rfl) zb rfl) (by show some (w==0)=_;simp[h])) rfl⟩
def zuK(hl:xs.length=8)(n1:1<=n)(hJ:Tab n n J):∃J',Tab n n J'/\sIf (zbh (fT (f2 xF yg (zR .Eq))) (fT (f2 xF yD (zR .Eq)))) (zil 9 (Wd (xAt 8 (xC 2)) (xV 2)) (Wd (xAt 8 (xC 3)) (xV 2)) (Wd (xAt 8 (xC 4)) (xV 2))) sNx (B13 n m a0 a1 a4 a6 a7 xs w e J Ds)=some (.nx (B13 n m a0 a1 a4 a6 a7 xs w e J' Ds)):=by
 obtain⟨x2,g2,_⟩:=Xn hl 2 (by trivial);obtain⟨x3,g3,_⟩:=Xn hl 3 (by trivial);obtain⟨x4,g4,_⟩:=Xn hl 4 (by trivial);have t1:WT (fT (f2 xF yg (zR .Eq))) (B13 n m a0 a1 a4 a6 a7 xs w e J Ds) (w==1):=yc (yJ (za (i:=11) rfl) zb rfl) rfl;have t2:WT (fT (f2 xF yD (zR .Eq))) (B13 n m a0 a1 a4 a6 a7 xs w e J Ds) (w==2):=yc (yJ (za (i:=11) rfl) zb rfl) rfl;have t:WT (zbh (fT (f2 xF yg (zR .Eq))) (fT (f2 xF yD (zR .Eq)))) (B13 n m a0 a1 a4 a6 a7 xs w e J Ds) (w==1||w==2):=zkK t1 (λh=>by rw[h,Bool.false_or];exact t2) (λh=>by rw[h];rfl);cases hw:(w==1||w==2)with
 |false=>rw[hw]at t;exact⟨J,hJ,yh t rfl⟩
 |true=>
  rw[hw]at t;have m2:=vQ (x:=x2) n1;have m3:=vQ (x:=x3) n1;have m4:=vQ (x:=x4) n1;have hk:(x2%(n:Int)).toNat<J.length:=by rw[hJ.1];trivial
  have hr:=zzC hk;have hR:=hJ.2 _ (zyY hk);generalize J[(x2%(n:Int)).toNat]=r at hr hR;have hn:(0:Int)<n:=by trivial
  exact⟨_,zkT hJ (zkh hR m4),vV t (zlj (ZW (YZ (i:=8) rfl (by decide) g2) (zbx (i:=2) rfl) hn) (ZW (YZ (i:=8) rfl (by decide) g3) (zbx (i:=2) rfl) hn) (ZW (YZ (i:=8) rfl (by decide) g4) (zbx (i:=2) rfl) hn) m2.1 m3.1 rfl hr (by rw[hR.1];trivial))⟩
def ztV(hl:xs.length=8)(n1:1<=n)(m1:1<=m)(hD:∀p ∈ Ds,Tab m n p.2):∃Ds',Ds'.map (·.1)=Ds.map (·.1)/\(∀p ∈ Ds',Tab m n p.2)/\sIf (Wa (fT (f2 xF yD (zR .Gt))) (fT (f2 (fV 10) (yN dN) (zR .NotEq)))) (znh 12 10 (Wd (xAt 8 (xC 5)) (znf 10)) 1 (Wd (xAt 8 (xC 6)) (xV 3)) (Wd (xAt 8 (xC 7)) (xV 2)) (Wd (xAt 8 (xC 4)) (xV 2))) sNx (B13 n m a0 a1 a4 a6 a7 xs w e J Ds)=some (.nx (B13 n m a0 a1 a4 a6 a7 xs w e J Ds')):=by
 obtain⟨x4,g4,_⟩:=Xn hl 4 (by trivial);obtain⟨x5,g5,_⟩:=Xn hl 5 (by trivial);obtain⟨x6,g6,_⟩:=Xn hl 6 (by trivial);obtain⟨x7,g7,_⟩:=Xn hl 7 (by trivial);have t1:WT (fT (f2 xF yD (zR .Gt))) (B13 n m a0 a1 a4 a6 a7 xs w e J Ds) (decide (2<w)):=yc (zaw (za (i:=11) rfl) zb) rfl;have t2:WT (fT (f2 (fV 10) (yN dN) (zR .NotEq))) (B13 n m a0 a1 a4 a6 a7 xs w e J Ds) (!(Ds.map wX).isEmpty):=yc (neB (i:=10) rfl) rfl;have t:WT (Wa (fT (f2 xF yD (zR .Gt))) (fT (f2 (fV 10) (yN dN) (zR .NotEq)))) (B13 n m a0 a1 a4 a6 a7 xs w e J Ds) (decide (2<w) && !(Ds.map wX).isEmpty):=Yl t1 (λh=>by rw[h,Bool.true_and];exact t2) (λh=>by rw[h];rfl);cases hw:(decide (2<w) && !(Ds.map wX).isEmpty)with
 |false=>rw[hw]at t;exact⟨Ds,rfl,hD,yh t rfl⟩
 |true=>
  rw[hw]at t;have hne:0<Ds.length:=by
   cases Ds with
   |nil=>simp at hw
   |cons p r=>exact Nat.zero_lt_succ _
  have hlen:((Ds.map wX).length:Int)=Ds.length:=by rw[zD]
  have m4:=vQ (x:=x4) n1;have m5:=vQ (x:=x5) hne;have m6:=vQ (x:=x6) m1;have m7:=vQ (x:=x7) n1;have hk:(x5%(Ds.length:Int)).toNat<Ds.length:=by trivial
  have hp:=zzC hk;have hP:=hD _ (zyY hk);generalize Ds[(x5%(Ds.length:Int)).toNat]=p at hp hP;have hk2:(x6%(m:Int)).toNat<p.2.length:=by rw[hP.1];trivial
  have hr:=zzC hk2;have hR:=hP.2 _ (zyY hk2);generalize p.2[(x6%(m:Int)).toNat]=r at hr hR;have hn:(0:Int)<n:=by trivial
  have hm:(0:Int)<m:=by trivial
  refine⟨Ds.set (x5%(Ds.length:Int)).toNat (p.1,p.2.set (x6%(m:Int)).toNat (r.set (x7%(n:Int)).toNat (x4%n))), ?_,λq mq=>?_,vV t (zmV (ZW (YZ (i:=8) rfl (by decide) g5) (by rw[<-hlen];exact zoX (i:=10) rfl) (by trivial)) (ZW (YZ (i:=8) rfl (by decide) g6) (zbx (i:=3) rfl) hm) (ZW (YZ (i:=8) rfl (by decide) g7) (zbx (i:=2) rfl) hn) (ZW (YZ (i:=8) rfl (by decide) g4) (zbx (i:=2) rfl) hn) m5.1 m6.1 m7.1 rfl rfl hp hr (by rw[hR.1];trivial))⟩
  · rw[List.map_set];exact set_same (by rw[zzG,hp];rfl)
  · rcases List.mem_or_eq_of_mem_set mq with mq|rfl
    · exact hD q mq
    · exact zkT hP (zkh hR m4)
end
def zpx(T:TZ):(zhK T).frz = .lf true (zx T):=by
 show O.lf (O.strs _) (.lst (O.toDs _))=_;rw[(W4 T).1,(W4 T).2]
def zlF(Ds:DZ):(O.nd .ls (Ds.map wX)).frz = .lf true (.lst (Ds.map yz)):=by
 show O.lf (O.strs _) (.lst (O.toDs _))=_;rw[(W6 Ds).1,(W6 Ds).2]
def zqF(A:Alg n m J e Ds):∃J' e' Ds',Alg n m J' e' Ds'/\Ds'.map (·.1)=Ds.map (·.1)/\RE (zab [(true,zA n m J e Ds S),(true,.int c)]) (zA n m J' e' Ds' S):=by
 have n8:=A.n8;have m6:=A.m6;have dl:=A.dl;obtain⟨xs,xl,hx,ws⟩:=stE (as:=[sT (zA n m J e Ds S),sI c,sI n,sI m,sT (zx J),sI e,sT (.lst (Ds.map yz)),sT (.lst (S.map yO)),none,none,none,none,none]) (a:=fV 1) (b:=fC (.int 8)) (c:=c) (m:=8) (by trivial) (WD.e (za rfl)) (WD.e zb);obtain⟨x0,_,a0⟩:=Xn xl 0 (by trivial);obtain⟨e',he,s1⟩:=zuM (m:=m) (a0:=sT (zA n m J e Ds S)) (a1:=sI c) (a4:=sT (zx J)) (a6:=sT (.lst (Ds.map yz))) (a7:=sT (.lst (S.map yO))) (w:=x0%6) (J:=J) (Ds:=Ds) xl A.n1 ⟨A.e0,A.en⟩;obtain⟨J',hJ,s2⟩:=zuK (m:=m) (a0:=sT (zA n m J e Ds S)) (a1:=sI c) (a4:=sT (zx J)) (a6:=sT (.lst (Ds.map yz))) (a7:=sT (.lst (S.map yO))) (w:=x0%6) (e:=e') (Ds:=Ds) xl A.n1 A.j;obtain⟨Ds',hn,hD,s3⟩:=ztV (a0:=sT (zA n m J e Ds S)) (a1:=sI c) (a4:=sT (zx J)) (a6:=sT (.lst (Ds.map yz))) (a7:=sT (.lst (S.map yO))) (w:=x0%6) (e:=e') (J:=J') xl A.n1 A.m1 A.ds;have hlen:Ds'.length=Ds.length:=by rw[<-zD (f:=λp:Str×TZ=>p.1),hn,zD]
 refine⟨J',e',Ds',⟨A.n1,n8,A.m1,m6,hJ,he.1,he.2,by trivial,hD,by rw[hn];exact A.nd⟩,hn, ?_⟩;have c9:=xg (i:=9) (znL (T:=J) (f:=fV 4) (as:=[sT (zA n m J e Ds S),sI c,sI n,sI m,sT (zx J),sI e,sT (.lst (Ds.map yz)),sT (.lst (S.map yO)),sT (zg xs),none,none,none,none]) (by rw[A.j.1];trivial) (WD.e (za rfl))) (zp rfl);have c10:=xg (i:=10) (Vb (cap:=[none,none]) (zey (f:=fV 6) (as:=[sT (zA n m J e Ds S),sI c,sI n,sI m,sT (zx J),sI e,sT (.lst (Ds.map yz)),sT (.lst (S.map yO)),sT (zg xs),some (zhK J),none,none,none]) (WD.e (za rfl))) (by rw[zD,zD];exact szs (by trivial)) (zep Ds λp mp=>by rw[(A.ds p mp).1];trivial)) (zp rfl);refine yM rfl (zj (as1:=[sT (zA n m J e Ds S),sI c,sI n,sI m,sT (zx J),sI e,sT (.lst (Ds.map yz)),sT (.lst (S.map yO)),none,none,none,none,none]) (ziB (WD.e (za rfl)) rfl) (zj (xZ (p:=8) ws (zp rfl)) (zj c9 (zj c10 (zj (yE (i:=11) (yx (zG (za rfl) zb a0 rfl) zb (by decide)) (zp rfl)) (zj s1 (zj s2 (zj s3 ?_))))))));have q:=yS (as:=B13 n m (sT (zA n m J e Ds S)) (sI c) (sT (zx J)) (sT (.lst (Ds.map yz))) (sT (.lst (S.map yO))) xs (x0%6) e' J' Ds') (a:=fV 2) (za rfl) (yS (a:=fV 3) (za rfl) (zbj (j:=9) (fr:=dC xG (dC (fV 10) (dC vK dN))) rfl (yS (a:=fV 5) (za rfl) (zbj (j:=10) (fr:=dC vK dN) rfl (yS (a:=fV 7) (za rfl) rfl)))));rw[zpx,zlF]at q;exact⟨_,Vc (zcZ q (szl rfl)) rfl,rfl,rfl⟩
def zdX(hJ:Tab n n J)(hw:InR n w)(hv:InR n v):InR n (jAt J w v):=(rowAt (vR hJ hw).2 hv).2
def ZQ(hJ:Tab n n J)(hw:InR n w)(hv:InR n v)(ha:WD a as true (zx J))(hb:WD b as true (.int w))(hc:WD c as true (.int v)):WD (f2 (f2 a b ixP) c ixP) as true (.int (jAt J w v)):=
 zG (yG ha hb (vR hJ hw).1) hc (rowAt (vR hJ hw).2 hv).1 rfl
def X6(hT:Tab m n T)(hw:InR m w)(hv:InR n v)(ha:WD a as true (zx T))(hb:WD b as true (.int w))(hc:WD c as true (.int v)):WD (f2 (f2 a b ixP) c ixP) as true (.int (jAt T w v))/\InR n (jAt T w v):=
 ⟨zG (yG ha hb (vR hT hw).1) hc (rowAt (vR hT hw).2 hv).1 rfl,(rowAt (vR hT hw).2 hv).2⟩
def ZL(h:as[v]? = some (some (.lf s (.int n))))(hn:n<=1000):xO (yp (aC (fV v) aN) yq) g f as=forL g f (wg 0 n) as:=
 wz (xN (zu (za h) zJ) (by trivial) (by trivial)) (by rw[zyG])
def zjB(ha:WD a as s (.int x))(hb:WD b as t (.int y)):WT (fT (f2 a b (zR .NotEq))) as (!(x==y)):=yc (zlc (c:=x==y) ha hb rfl) rfl
abbrev FT:=Option (List D)
def oD:FT->D
 |none=>.non
 |some ds=>.tup ds
def fs(n:Nat)(t:Int->FT):FT:=(List.range n).findSome? λi:Nat=>t (i:Int)
abbrev R4(r:Option Out)(I:AS->Prop)(t:FT):Prop:=(t=none/\∃as',r=some (.nx as')/\I as')\/∃ds,t=some ds/\Rt r (.tup ds)
def zqE(h1:g d as=some as1)(h2:Rt (f as1) x):Rt (forL g f (d::r) as) x:=by
 obtain⟨o,e1,e2⟩:=h2;exact⟨o,znR h1 e1,e2⟩
theorem l_F(I:AS->Prop)(t:α->FT):∀(l:List α),(∀x ∈ l,∀as,I as->∃as1,g (it x) as=some as1/\R4 (f as1) I (t x))->∀as,I as->R4 (forL g f (l.map it) as) I (l.findSome? t)
 | [],_,as,h=>.inl ⟨rfl,as,rfl,h⟩
 |x::l,H,as,h=>by
  obtain⟨as1,h1,h2⟩:=H x zzD as h
  rcases h2 with⟨e,as2,h2,h3⟩|⟨ds,e,h2⟩
  · have k:=l_F I t l (λy my=>H y (zzB _ my)) as2 h3;rw[List.findSome?_cons,e]
    rcases k with⟨e',as3,k1,k2⟩|⟨ds,e',o,k1,k2⟩
    · exact .inl ⟨e',as3,YC h1 h2 k1,k2⟩
    · exact .inr ⟨ds,e',o,YC h1 h2 k1,k2⟩
  · rw[List.findSome?_cons,e];exact .inr ⟨ds,rfl,zqE h1 h2⟩
def V3(I:AS->Prop)(t:Int->FT)(H:∀b,InR n b->∀as,I as->∃as1,gN v (true,.int b) as=some as1/\R4 (f as1) I (t b))(h:I as):R4 (forL (gN v) f (wg 0 n) as) I (fs n t):=by
 refine l_F (it:=λi:Nat=>(true,D.int (0+(i:Int)))) I (λi:Nat=>t (i:Int)) (List.range n) (λi mi as hI=>?_) as h;have:=List.mem_range.mp mi;rw[Int.zero_add];exact H i ⟨by omega,by omega⟩ as hI
def znn(ht:WT c as q)(hf:WE f as (.tup ds))(hI:I as):R4 (sIf c (yC f) sNx as) I (if q=true then some ds else none):=by
 cases q with
 |true=>exact .inr ⟨ds,rfl,Zk ht (yK hf)⟩
 |false=>exact .inl ⟨rfl,as,yh ht rfl,hI⟩
def R4.seq(h:f as=some (.nx as1))(k:R4 (g as1) I t):R4 (zy f g as) I t:=by
 rcases k with⟨e,a,b,c⟩|⟨ds,e,b⟩
 · exact .inl ⟨e,a,ym h b,c⟩
 · exact .inr ⟨ds,e,zj h b⟩
def R4.imp(h:R4 r I t)(k:∀as,I as->I' as):R4 r I' t:=Or.imp (λ⟨e,a,b,c⟩=>⟨e,a,b,k a c⟩) id h
def R4.rt(h:R4 (f as) I t)(k:∀as',I as'->Rt (g as') (oD t')):Rt (zy f g as) (oD (t.or t')):=by
 rcases h with⟨rfl,as',h1,h2⟩|⟨ds,rfl,h1⟩
 · exact zj h1 (k as' h2)
 · exact vC h1
def or_none{t:FT}:t.or none=t:=by cases t<;>rfl
def zhP(h:∀b,InR n b->t b=t' b):fs n t=fs n t':=by
 unfold fs;have:∀l:List Nat,(∀i ∈ l,i<n)->l.findSome? (λi:Nat=>t (i:Int))=l.findSome? λi:Nat=>t' (i:Int):=λl=>by
  induction l with
  |nil=>exact λ_=>rfl
  |cons i l ih=>
   intro hl;have:=hl i zzD;rw[List.findSome?_cons,List.findSome?_cons,h i ⟨by omega,by omega⟩,ih λj mj=>hl j (zzB _ mj)]
 exact this _ λi mi=>List.mem_range.mp mi
theorem zjc(m1:1<=m)(t:Int->Int->FT):∀n:Nat,fs (n*m) (λp=>t (p/m) (p%m))=fs n λa=>fs m λi=>t a i
 |0=>by rw[Nat.zero_mul];unfold fs;rfl
 |n+1=>by
  have ih:=zjc m1 t n;unfold fs at ih ⊢;rw[Nat.succ_mul,List.range_add,List.findSome?_append,ih,List.range_succ,List.findSome?_append]
  congr 1
  rw[List.findSome?_map];have e:∀l:List Nat,(∀j ∈ l,j<m)->l.findSome? ((λp:Nat=>t ((p:Int)/m) ((p:Int)%m))∘λx=>n*m+x)=l.findSome? λi:Nat=>t (n:Int) (i:Int):=λl=>by
   induction l with
   |nil=>exact λ_=>rfl
   |cons j l ih=>
    intro hl;have hj:=hl j zzD;have e1:(((n*m+j:Nat):Int))/m=n:=by
     rw[<-Int.natCast_ediv,Nat.mul_comm,Nat.mul_add_div (by omega),Nat.div_eq_of_lt hj,Nat.add_zero]
    have e2:(((n*m+j:Nat):Int))%m=j:=by
     rw[<-Int.natCast_emod,Nat.mul_comm,Nat.mul_add_mod,Nat.mod_eq_of_lt hj]
    rw[List.findSome?_cons,List.findSome?_cons,ih λi mi=>hl i (zzB _ mi)];have e3:((λp:Nat=>t ((p:Int)/m) ((p:Int)%m))∘λx=>n*m+x) j=t (n:Int) (j:Int):=by
     show t (((n*m+j:Nat):Int)/m) (((n*m+j:Nat):Int)%m)=_;rw[e1,e2]
    rw[e3]
  rw[e _ λj mj=>List.mem_range.mp mj];simp only[List.findSome?_cons,List.findSome?_nil];cases(List.range m).findSome? λi:Nat=>t (n:Int) (i:Int)<;>rfl
section
variable{S:Option O->Option O->Option O->AS}{vj vn ve:Nat}{J T:TZ}{n m:Nat}{e:Int}{Ds:DZ}{SS':SS}
def tU(n:Nat)(J:TZ)(e:Int):FT:=fs n λa=>if(!(jAt J e a==a) || !(jAt J a e==a))=true then some [.str "nothing",.int a]else none
def tA(n:Nat)(J:TZ):FT:=fs n λa=>fs n λb=>fs n λc=>if(!(jAt J (jAt J a b) c==jAt J a (jAt J b c)))=true then some [.str "parting",.int a,.int b,.int c]else none
def tD(n m:Nat)(J T:TZ)(s:Str):FT:=fs n λa=>fs m λi=>fs n λb=>fs m λk=>if(!(jAt T ((i+k)%m) (jAt J a b)==jAt J (jAt T i a) (jAt T k b)))=true then some [.str "doing",.str s,.int a,.int i,.int b,.int k]else none
def zoe(hJ:Tab n n J)(he:InR n e)(hj:∀x y z,(S x y z)[vj]? = some (sT (zx J)))(hv:∀x y z,(S x y z)[ve]? = some (sI e))(h3:∀x y z,(S x y z)[3]? = some x)(g3:∀d x y z,gN 3 (true,d) (S x y z)=some (S (sT d) y z)):
 R4 (forL (gN 3) (sIf (zbh (fT (f2 (f2 (f2 (fV vj) (fV ve) ixP) zP ixP) zP (zR .NotEq))) (fT (f2 (f2 (f2 (fV vj) zP ixP) (fV ve) ixP) zP (zR .NotEq)))) (yC (yw (dC (fC (.str "nothing")) (dC zP dN)))) sNx) (wg 0 n) (S x y z)) (λas=>∃x,as=S x y z) (tU n J e):=by
 refine V3 (λas=>∃x,as=S x y z) _ (λa ha as hI=>?_) ⟨x,rfl⟩;obtain⟨x,rfl⟩:=hI;have w3:WD zP (S (sI a) y z) true (.int a):=za (h3 _ _ _);have t1:=zjB (ZQ hJ he ha (za (hj (sI a) y z)) (za (hv (sI a) y z)) w3) w3;have t2:=zjB (ZQ hJ ha he (za (hj (sI a) y z)) w3 (za (hv (sI a) y z))) w3;exact⟨S (sI a) y z,g3 _ _ _ _,znn (q:=!(jAt J e a==a) || !(jAt J a e==a)) (zkK t1 (λh=>by rw[h,Bool.false_or];exact t2) (λh=>by rw[h];rfl)) (zcT (os:=[.lf true (.str "nothing"),lfI a]) (zf zb (zf w3 zU)) (szl rfl) rfl rfl) ⟨_,rfl⟩⟩
abbrev zvn(vj:Nat):SF:=sIf (fT (f2 (f2 (f2 (fV vj) (f2 (f2 (fV vj) zP ixP) yj ixP) ixP) xG ixP) (f2 (f2 (fV vj) zP ixP) (f2 (f2 (fV vj) yj ixP) xG ixP) ixP) (zR .NotEq))) (yC (yw (dC (fC (.str "parting")) (dC zP (dC yj (dC xG dN)))))) sNx
abbrev asB(vj vn:Nat):SF:=xO (yp (aC (fV vn) aN) yq) Wo (xO (yp (aC (fV vn) aN) yq) (gN 5) (zvn vj))
def zgf(n8:n<=8)(hJ:Tab n n J)(hj:∀x y z,(S x y z)[vj]? = some (sT (zx J)))(hn:∀x y z,(S x y z)[vn]? = some (sI n))(h3:∀x y z,(S x y z)[3]? = some x)(h4:∀x y z,(S x y z)[4]? = some y)(h5:∀x y z,(S x y z)[5]? = some z)
 (g3:∀d x y z,gN 3 (true,d) (S x y z)=some (S (sT d) y z)) (g4:∀d x y z,gN 4 (true,d) (S x y z)=some (S x (sT d) z)) (g5:∀d x y z,gN 5 (true,d) (S x y z)=some (S x y (sT d))):
 R4 (forL (gN 3) (asB vj vn) (wg 0 n) (S x y z)) (λas=>∃x y z,as=S x y z) (tA n J):=by
 refine V3 (λas=>∃x y z,as=S x y z) _ (λa ha as hI=>?_) ⟨x,y,z,rfl⟩;obtain⟨x,y,z,rfl⟩:=hI;refine⟨_,g3 _ _ _ _, ?_⟩;unfold asB;rw[ZL (hn _ _ _) (by trivial)];refine(V3 (v:=4) (n:=n) (λas=>∃y z,as=S (sI a) y z) _ (λb hb as hI=>?_) ⟨y,z,rfl⟩).imp λas ⟨y,z,e⟩=>⟨_,y,z,e⟩;obtain⟨y,z,rfl⟩:=hI;refine⟨_,g4 _ _ _ _, ?_⟩;rw[ZL (hn _ _ _) (by trivial)];refine(V3 (v:=5) (n:=n) (λas=>∃z,as=S (sI a) (sI b) z) _ (λc hc as hI=>?_) ⟨z,rfl⟩).imp λas ⟨z,e⟩=>⟨_,z,e⟩;obtain⟨z,rfl⟩:=hI;have w3:WD zP (S (sI a) (sI b) (sI c)) true (.int a):=za (h3 _ _ _);have w4:WD yj (S (sI a) (sI b) (sI c)) true (.int b):=za (h4 _ _ _);have w5:WD xG (S (sI a) (sI b) (sI c)) true (.int c):=za (h5 _ _ _);have wj:WD (fV vj) (S (sI a) (sI b) (sI c)) true (zx J):=za (hj _ _ _);have ab:=zdX hJ ha hb;have bc:=zdX hJ hb hc;exact⟨_,g5 _ _ _ _,znn (zjB (ZQ hJ ab hc wj (ZQ hJ ha hb wj w3 w4) w5) (ZQ hJ ha bc wj w3 (ZQ hJ hb hc wj w4 w5))) (zcT (os:=[.lf true (.str "parting"),lfI a,lfI b,lfI c]) (zf zb (zf w3 (zf w4 (zf w5 zU)))) (szl rfl) rfl rfl) ⟨_,rfl⟩⟩
end
section
variable{n m:Nat}{J T:TZ}{e:Int}{Ds:DZ}{S:SS}
def zdx(n8:n<=8)(hJ:Tab n n J)(he:InR n e):RE (Yt [(true,.int n),(true,zx J),(true,.int e)]) (oD ((tU n J e).or (tA n J))):=by
 have k1:=zoe (S:=λx y z=>[sI n,sT (zx J),sI e,x,y,z]) (x:=none) (y:=none) (z:=none) (vj:=1) (ve:=2) hJ he (λ_ _ _=>rfl) (λ_ _ _=>rfl) (λ_ _ _=>rfl) (λ_ _ _ _=>rfl);rw[<-ZL (v:=0) (n:=n) (as:=[sI n,sT (zx J),sI e,none,none,none]) rfl (by trivial)]at k1;refine yM rfl (k1.rt λas' hI=>?_);obtain⟨x,rfl⟩:=hI;have k2:=zgf (S:=λx y z=>[sI n,sT (zx J),sI e,x,y,z]) (x:=x) (y:=none) (z:=none) (vj:=1) (vn:=0) n8 hJ (λ_ _ _=>rfl) (λ_ _ _=>rfl) (λ_ _ _=>rfl) (λ_ _ _=>rfl) (λ_ _ _=>rfl) (λ_ _ _ _=>rfl) (λ_ _ _ _=>rfl) (λ_ _ _ _=>rfl);rw[<-ZL (v:=0) (n:=n) (g:=gN 3) (f:=asB 1 0) (as:=[sI n,sT (zx J),sI e,x,none,none]) rfl (by trivial)]at k2;rw[<-or_none (t:=tA n J)];exact k2.rt λ_ _=>yK (WD.e zb)
def zjq(n8:n<=8)(hJ:Tab n n J)(he:InR n e):RE (Zi [(true,zA n m J e Ds S)]) (oD (tU n J e)):=by
 have s1:zL true 1 (f2 zm yD ixP) [sT (zA n m J e Ds S),none,none,none]=some (.nx [sT (zA n m J e Ds S),sT (zx J),none,none]):=yE (i:=1) (yG (za (i:=0) rfl) zb rfl) (zp rfl);have s2:zL true 2 (f2 zm vf ixP) [sT (zA n m J e Ds S),sT (zx J),none,none]=some (.nx [sT (zA n m J e Ds S),sT (zx J),sI e,none]):=yE (i:=2) (yG (za (i:=0) rfl) zb rfl) (zp rfl);have k:=zoe (S:=λx _ _=>[sT (zA n m J e Ds S),sT (zx J),sI e,x]) (x:=none) (y:=none) (z:=none) (vj:=1) (ve:=2) hJ he (λ_ _ _=>rfl) (λ_ _ _=>rfl) (λ_ _ _=>rfl) (λ_ _ _ _=>rfl);have hr:=xN (as:=[sT (zA n m J e Ds S),sT (zx J),sI e,none]) (zu (yG (a:=fV 0) (b:=fC (.int 0)) (g:=ixP) (z:=.int n) (za (i:=0) rfl) (zb (x:=.int 0)) rfl) zJ) (by trivial) (by trivial);rw[zyG]at hr;refine yM rfl (zj s1 (zj s2 ?_));rw[<-or_none (t:=tU n J e)];refine R4.rt (I:=λas=>∃x,as=[sT (zA n m J e Ds S),sT (zx J),sI e,x]) ?_ λ_ _=>yK (WD.e zb);rw[wz hr rfl];exact k
def zjv(n8:n<=8)(hJ:Tab n n J):RE (Zg [(true,zA n m J e Ds S)]) (oD (tA n J)):=by
 have s1:zL true 1 (f2 zm yo ixP) [sT (zA n m J e Ds S),none,none,none,none,none]=some (.nx [sT (zA n m J e Ds S),sI n,none,none,none,none]):=yE (i:=1) (yG (za (i:=0) rfl) zb rfl) (zp rfl);have s2:zL true 2 (f2 zm yD ixP) [sT (zA n m J e Ds S),sI n,none,none,none,none]=some (.nx [sT (zA n m J e Ds S),sI n,sT (zx J),none,none,none]):=yE (i:=2) (yG (za (i:=0) rfl) zb rfl) (zp rfl);have k:=zgf (S:=λx y z=>[sT (zA n m J e Ds S),sI n,sT (zx J),x,y,z]) (x:=none) (y:=none) (z:=none) (vj:=2) (vn:=1) n8 hJ (λ_ _ _=>rfl) (λ_ _ _=>rfl) (λ_ _ _=>rfl) (λ_ _ _=>rfl) (λ_ _ _=>rfl) (λ_ _ _ _=>rfl) (λ_ _ _ _=>rfl) (λ_ _ _ _=>rfl);rw[<-ZL (v:=1) (n:=n) (g:=gN 3) (f:=asB 2 1) (as:=[sT (zA n m J e Ds S),sI n,sT (zx J),none,none,none]) rfl (by trivial)]at k;refine yM rfl (zj s1 (zj s2 ?_));rw[<-or_none (t:=tA n J)];exact k.rt λ_ _=>yK (WD.e zb)
end
section
variable{n m:Nat}{J T:TZ}{e:Int}{Ds:DZ}{S:SS}
abbrev dfI:SF:=(sIf (fT (f2 (f2 (f2 zE (f2 (f2 vK (fV 9) zF) yj zK) ixP) (f2 (f2 xG vD ixP) (fV 8) ixP) ixP) (f2 (f2 xG (f2 (f2 zE vK ixP) vD ixP) ixP) (f2 (f2 zE (fV 9) ixP) (fV 8) ixP) ixP) (zR .NotEq))) (yC (yw (dC (fC (.str "doing")) (dC zq (dC vD (dC vK (dC (fV 8) (dC (fV 9) dN)))))))) sNx)
abbrev D10(n m:Nat)(J T:TZ)(e:Int)(Ds:DZ)(S:SS)(s:Str)(x y z w:Option O):AS:=[sT (zA n m J e Ds S),sT (.str s),sT (zx T),sI n,sI m,sT (zx J),x,y,z,w]
def df4(hJ:Tab n n J)(hT:Tab m n T)(m1:1<=m)(ha:InR n a)(hi:InR m i)(hb:InR n b)(hk:InR m k):R4 (dfI (D10 n m J T e Ds S s (sI a) (sI i) (sI b) (sI k))) (λas=>∃w,as=D10 n m J T e Ds S s (sI a) (sI i) (sI b) w) (if(!(jAt T ((i+k)%m) (jAt J a b)==jAt J (jAt T i a) (jAt T k b)))=true then some [.str "doing",.str s,.int a,.int i,.int b,.int k]else none):=by
 have w2:WD zE (D10 n m J T e Ds S s (sI a) (sI i) (sI b) (sI k)) true (zx T):=za rfl;have w5:WD xG (D10 n m J T e Ds S s (sI a) (sI i) (sI b) (sI k)) true (zx J):=za rfl;have w6:WD vD (D10 n m J T e Ds S s (sI a) (sI i) (sI b) (sI k)) true (.int a):=za rfl;have w7:WD vK (D10 n m J T e Ds S s (sI a) (sI i) (sI b) (sI k)) true (.int i):=za rfl;have w8:WD (fV 8) (D10 n m J T e Ds S s (sI a) (sI i) (sI b) (sI k)) true (.int b):=za rfl;have w9:WD (fV 9) (D10 n m J T e Ds S s (sI a) (sI i) (sI b) (sI k)) true (.int k):=za rfl;obtain⟨q1,q2⟩:=X6 hT hi ha w2 w7 w6;obtain⟨q3,q4⟩:=X6 hT hk hb w2 w9 w8;obtain⟨q5,q6⟩:=X6 hT (w:=(i+k)%m) (zjo m1) (zdX hJ ha hb) w2 (yx (yR w7 w9) (za (i:=4) (x:=.int m) (s:=true) rfl) (by trivial)) (ZQ hJ ha hb w5 w6 w8);exact znn (zjB q5 (ZQ hJ q2 q4 w5 q1 q3)) (zcT (os:=[.lf true (.str "doing"),.lf true (.str s),lfI a,lfI i,lfI b,lfI k]) (zf zb (zf (za (i:=1) rfl) (zf w6 (zf w7 (zf w8 (zf w9 zU)))))) (szl rfl) rfl rfl) ⟨_,rfl⟩
def zof(n8:n<=8)(m1:1<=m)(m6:m<=6)(hJ:Tab n n J)(hT:Tab m n T):RE (Za [(true,zA n m J e Ds S),(true,.str s),(true,zx T)]) (oD (tD n m J T s)):=by
 have k:R4 (forL (gN 6) (xO (yp (aC yj aN) yq) (gN 7) (xO (yp Ww yq) (gN 8) (xO (yp (aC yj aN) yq) (gN 9) dfI))) (wg 0 n) (D10 n m J T e Ds S s none none none none)) (λas=>∃x y z w,as=D10 n m J T e Ds S s x y z w) (tD n m J T s):=by
  refine V3 (λas=>∃x y z w,as=D10 n m J T e Ds S s x y z w) _ (λa ha as hI=>?_) ⟨_,_,_,_,rfl⟩;obtain⟨x,y,z,w,rfl⟩:=hI;refine⟨D10 n m J T e Ds S s (sI a) y z w,rfl, ?_⟩;rw[ZL (v:=4) (n:=m) rfl (by trivial)];refine(V3 (v:=7) (n:=m) (λas=>∃y z w,as=D10 n m J T e Ds S s (sI a) y z w) _ (λi hi as hI=>?_) ⟨_,_,_,rfl⟩).imp λas ⟨y,z,w,e⟩=>⟨_,y,z,w,e⟩;obtain⟨y,z,w,rfl⟩:=hI;refine⟨D10 n m J T e Ds S s (sI a) (sI i) z w,rfl, ?_⟩;rw[ZL (v:=3) (n:=n) rfl (by trivial)];refine(V3 (v:=8) (n:=n) (λas=>∃z w,as=D10 n m J T e Ds S s (sI a) (sI i) z w) _ (λb hb as hI=>?_) ⟨_,_,rfl⟩).imp λas ⟨z,w,e⟩=>⟨_,z,w,e⟩;obtain⟨z,w,rfl⟩:=hI;refine⟨D10 n m J T e Ds S s (sI a) (sI i) (sI b) w,rfl, ?_⟩;rw[ZL (v:=4) (n:=m) rfl (by trivial)];refine(V3 (v:=9) (n:=m) (λas=>∃w,as=D10 n m J T e Ds S s (sI a) (sI i) (sI b) w) _ (λk hk as hI=>?_) ⟨_,rfl⟩).imp λas ⟨w,e⟩=>⟨_,w,e⟩;obtain⟨w,rfl⟩:=hI;exact⟨_,rfl,df4 hJ hT m1 ha hi hb hk⟩
 rw[<-ZL (v:=3) (n:=n) (as:=D10 n m J T e Ds S s none none none none) rfl (by trivial)]at k;have s3:zL true 3 (f2 zm yo ixP) [sT (zA n m J e Ds S),sT (.str s),sT (zx T),none,none,none,none,none,none,none]=some (.nx [sT (zA n m J e Ds S),sT (.str s),sT (zx T),sI n,none,none,none,none,none,none]):=yE (i:=3) (yG (za (i:=0) rfl) zb rfl) (zp rfl);have s4:zL true 4 (f2 zm yg ixP) [sT (zA n m J e Ds S),sT (.str s),sT (zx T),sI n,none,none,none,none,none,none]=some (.nx [sT (zA n m J e Ds S),sT (.str s),sT (zx T),sI n,sI m,none,none,none,none,none]):=yE (i:=4) (yG (za (i:=0) rfl) zb rfl) (zp rfl);have s5:zL true 5 (f2 zm yD ixP) [sT (zA n m J e Ds S),sT (.str s),sT (zx T),sI n,sI m,none,none,none,none,none]=some (.nx (D10 n m J T e Ds S s none none none none)):=yE (i:=5) (yG (za (i:=0) rfl) zb rfl) (zp rfl);refine yM rfl (zj s3 (zj s4 (zj s5 ?_)));rw[<-or_none (t:=tD n m J T s)];exact k.rt λ_ _=>yK (WD.e zb)
abbrev W12(n m:Nat)(J T:TZ)(s:Str)(p q a i b k v:Option O):AS:=[sI n,sI m,sT (zx J),sT (.str s),sT (zx T),p,q,a,i,b,k,v]
abbrev ldI:SF:=(zy (Vh (fP (aC xG xx) ziV) (gT 2 (gsC (gN 7) (gsC (gN 8) gsN))))
 (zy (Vh (fP (aC vD xx) ziV) (gT 2 (gsC (gN 9) (gsC (gN 10) gsN))))
 (zy (zL true 11 (f2 (f2 zE (f2 (f2 yj (fV 8) ixP) vK ixP) ixP) (f2 (f2 yj (fV 10) ixP) (fV 9) ixP) ixP))
 (sIf (fT (f2 (f2 (f2 yj (f2 (f2 (fV 8) (fV 10) zF) zq zK) ixP) (f2 (f2 zE vK ixP) (fV 9) ixP) ixP) xF (zR .NotEq))) (yC (yw (dC (fC (.str "doing")) (dC zP (dC vK (dC (fV 8) (dC (fV 9) (dC (fV 10) dN)))))))) sNx))))
def ztT(ha:WD a as true (.int x))(hb:WD b as true (.int y))(h0:0<y)(h1:y<1000):WD (fP (aC a (aC b aN)) ziV) as true (.tup [.int (x/y),.int (x%y)]):=
 ziG (zu ha (zu hb zJ)) (by show(if 0<y/\y<1073741824 then _ else _)=_;rw[if_pos ⟨h0,by trivial⟩]) rfl
def zun(hJ:Tab n n J)(hT:Tab m n T)(m1:1<=m)(m6:m<=6)(hp:InR (n*m) p)(hq:InR (n*m) q):R4 (ldI (W12 n m J T s (sI p) (sI q) a i b k v)) (λas=>∃y a i b k v,as=W12 n m J T s (sI p) y a i b k v) (if(!(jAt T ((p%m+q%m)%m) (jAt J (p/m) (q/m))==jAt J (jAt T (p%m) (p/m)) (jAt T (q%m) (q/m))))=true then some [.str "doing",.str s,.int (p/m),.int (p%m),.int (q/m),.int (q%m)]else none):=by
 obtain⟨ha,hi⟩:=yr m1 hp;obtain⟨hb,hk⟩:=yr m1 hq;refine R4.seq (as1:=W12 n m J T s (sI p) (sI q) (sI (p/m)) (sI (p%m)) b k v) (ziB (WD.e (ztT (za (i:=5) rfl) (za (i:=1) rfl) (by trivial) (by trivial))) rfl) ?_;refine R4.seq (as1:=W12 n m J T s (sI p) (sI q) (sI (p/m)) (sI (p%m)) (sI (q/m)) (sI (q%m)) v) (ziB (WD.e (ztT (za (i:=6) rfl) (za (i:=1) rfl) (by trivial) (by trivial))) rfl) ?_;generalize p/(m:Int)=a' at *;generalize p%(m:Int)=i' at *;generalize q/(m:Int)=b' at *;generalize q%(m:Int)=k' at *;obtain⟨q1,q2⟩:=X6 (as:=W12 n m J T s (sI p) (sI q) (sI a') (sI i') (sI b') (sI k') v) hT hi ha (za (i:=4) rfl) (za (i:=8) rfl) (za (i:=7) rfl);obtain⟨q3,q4⟩:=X6 (as:=W12 n m J T s (sI p) (sI q) (sI a') (sI i') (sI b') (sI k') v) hT hk hb (za (i:=4) rfl) (za (i:=10) rfl) (za (i:=9) rfl);refine R4.seq (as1:=W12 n m J T s (sI p) (sI q) (sI a') (sI i') (sI b') (sI k') (sI (jAt J (jAt T i' a') (jAt T k' b')))) (yE (i:=11) (ZQ hJ q2 q4 (za (i:=2) rfl) q1 q3) (zp rfl)) ?_;obtain⟨q5,_⟩:=X6 (as:=W12 n m J T s (sI p) (sI q) (sI a') (sI i') (sI b') (sI k') (sI (jAt J (jAt T i' a') (jAt T k' b')))) hT (w:=(i'+k')%m) (zjo m1) (zdX hJ ha hb) (za (i:=4) rfl) (yx (yR (za (i:=8) rfl) (za (i:=10) rfl)) (za (i:=1) (x:=.int m) (s:=true) rfl) (by trivial)) (ZQ hJ ha hb (za (i:=2) rfl) (za (i:=7) rfl) (za (i:=9) rfl));exact znn (zjB q5 (za (i:=11) (s:=true) rfl)) (zcT (os:=[.lf true (.str "doing"),.lf true (.str s),lfI a',lfI i',lfI b',lfI k']) (zf zb (zf (za (i:=3) rfl) (zf (za (i:=7) rfl) (zf (za (i:=8) rfl) (zf (za (i:=9) rfl) (zf (za (i:=10) rfl) zU)))))) (szl rfl) rfl rfl) ⟨_,_,_,_,_,_,rfl⟩
def zhA(h0:as[0]? = some (sI n))(h1:as[1]? = some (sI m))(n8:n<=8)(m6:m<=6):xO (yp (aC (f2 zm zq zN) aN) yq) g f as=forL g f (wg 0 (n*m)) as:=by
 have nm:n*m<=48:=Nat.mul_le_mul n8 m6;have w:=xT (za h0) (za h1) (zW (by trivial) (by trivial)) (zW (by trivial) (by trivial));rw[<-zzT]at w;exact wz (xN (zu w zJ) (by trivial) (by trivial)) (by rw[zyG])
def zgb(n8:n<=8)(m1:1<=m)(m6:m<=6)(hJ:Tab n n J)(hT:Tab m n T):RE (Yi [(true,.int n),(true,.int m),(true,zx J),(true,.str s),(true,zx T)]) (oD (tD n m J T s)):=by
 have k:R4 (forL (gN 5) (xO (yp (aC (f2 zm zq zN) aN) yq) (gN 6) ldI) (wg 0 (n*m)) (W12 n m J T s none none none none none none none)) (λas=>∃x y a i b k v,as=W12 n m J T s x y a i b k v) (fs (n*m) λp=>fs (n*m) λq=>if(!(jAt T ((p%m+q%m)%m) (jAt J (p/m) (q/m))==jAt J (jAt T (p%m) (p/m)) (jAt T (q%m) (q/m))))=true then some [.str "doing",.str s,.int (p/m),.int (p%m),.int (q/m),.int (q%m)]else none):=by
  refine V3 (λas=>∃x y a i b k v,as=W12 n m J T s x y a i b k v) _ (λp hp as hI=>?_) ⟨_,_,_,_,_,_,_,rfl⟩;obtain⟨x,y,a,i,b,k,v,rfl⟩:=hI;refine⟨W12 n m J T s (sI p) y a i b k v,rfl, ?_⟩;rw[zhA (n:=n) (m:=m) rfl rfl n8 m6];refine(V3 (v:=6) (n:=n*m) (λas=>∃y a i b k v,as=W12 n m J T s (sI p) y a i b k v) _ (λq hq as hI=>?_) ⟨_,_,_,_,_,_,rfl⟩).imp λas ⟨y,a,i,b,k,v,e⟩=>⟨_,y,a,i,b,k,v,e⟩;obtain⟨y,a,i,b,k,v,rfl⟩:=hI;exact⟨W12 n m J T s (sI p) (sI q) a i b k v,rfl,zun hJ hT m1 m6 hp hq⟩
 have e1:=zjc m1 (λa i=>fs (n*m) λq=>if(!(jAt T ((i+q%m)%m) (jAt J a (q/m))==jAt J (jAt T i a) (jAt T (q%m) (q/m))))=true then some [.str "doing",.str s,.int a,.int i,.int (q/m),.int (q%m)]else none) n;rw[e1]at k;have e2:(fs n λa=>fs m λi=>fs (n*m) λq=>if(!(jAt T ((i+q%m)%m) (jAt J a (q/m))==jAt J (jAt T i a) (jAt T (q%m) (q/m))))=true then some [.str "doing",.str s,.int a,.int i,.int (q/m),.int (q%m)]else none)=tD n m J T s:=by
  unfold tD;refine zhP λa _=>zhP λi _=>?_;exact zjc m1 (λb k=>if(!(jAt T ((i+k)%m) (jAt J a b)==jAt J (jAt T i a) (jAt T k b)))=true then some [.str "doing",.str s,.int a,.int i,.int b,.int k]else none) n
 rw[e2]at k;rw[<-zhA (n:=n) (m:=m) (as:=W12 n m J T s none none none none none none none) rfl rfl n8 m6]at k;refine yM rfl ?_;rw[<-or_none (t:=tD n m J T s)];exact k.rt λ_ _=>yK (WD.e zb)
end
section
variable{n m:Nat}{J T:TZ}{e:Int}{Ds:DZ}{S:SS}
def R4.thn(h:R4 (f as) I t)(k:∀as',I as'->R4 (g as') I' t'):R4 (zy f g as) I' (t.or t'):=by
 rcases h with⟨rfl,as',h1,h2⟩|⟨ds,rfl,h1⟩
 · rcases k as' h2 with⟨e,a,b,c⟩|⟨ds,e,b⟩
   · exact .inl ⟨e,a,ym h1 b,c⟩
   · exact .inr ⟨ds,e,zj h1 b⟩
 · exact .inr ⟨ds,rfl,vC h1⟩
def tE(n m:Nat)(J:TZ)(e:Int)(p:Str×TZ):FT:=(if(!(jAt p.2 0 e==e))=true then some [.str "empty",.str p.1]else none).or (tD n m J p.2 p.1)
def tW(n m:Nat)(J:TZ)(e:Int)(Ds:DZ):FT:=((tU n J e).or (tA n J)).or (Ds.findSome? (tE n m J e))
def zsp:zR .Is (oD t) .non=some (.im (.bl t.isNone)):=by cases t<;>rfl
def zpt:zR .IsNot (oD t) .non=some (.im (.bl t.isSome)):=by cases t<;>rfl
def isT(h:as[i]? = some (sT (oD t))):WT (fT (f2 (fV i) (fC .non) (zR .Is))) as t.isNone:=yc (zG (za h) (zb (x:=.non)) zsp rfl) rfl
def zom(h:as[i]? = some (sT (oD t))):WT (fT (f2 (fV i) (fC .non) (zR .IsNot))) as t.isSome:=yc (zG (za h) (zb (x:=.non)) zpt rfl) rfl
def znw(A:Alg n m J e Ds):RE (Xe [(true,zA n m J e Ds S)]) (oD (Ds.findSome? (tE n m J e))):=by
 have n8:=A.n8;have m1:=A.m1;have s1:zL true 1 (f2 zm vf ixP) [sT (zA n m J e Ds S),none,none,none,none]=some (.nx [sT (zA n m J e Ds S),sI e,none,none,none]):=yE (i:=1) (yG (za (i:=0) rfl) zb rfl) (zp rfl);have k:=l_F (g:=gT 2 (gsC (gN 2) (gsC (gN 3) gsN))) (f:=(zy (sIf (fT (f2 (f2 (f2 zP yo ixP) zq ixP) zq (zR .NotEq))) (yC (yw (dC (fC (.str "empty")) (dC zE dN)))) sNx)
  (zy (zL true 4 (zM (aC zm (aC zE Ww)) Za))
  (sIf (fT (f2 yj (fC .non) (zR .IsNot))) (yC yj) sNx)))) (it:=λp:Str×TZ=>(true,yz p)) (λas=>∃(x y z:Option O),as=[sT (zA n m J e Ds S),sI e,x,y,z]) (tE n m J e) Ds (λp mp as hI=>by
   obtain⟨x,y,z,rfl⟩:=hI;have hT:=A.ds p mp;obtain⟨q1,_⟩:=X6 (as:=[sT (zA n m J e Ds S),sI e,sT (.str p.1),sT (zx p.2),z]) hT (w:=0) (v:=e) ⟨by trivial,by trivial⟩ ⟨A.e0,A.en⟩ (za (i:=3) rfl) (zb (x:=.int 0)) (za (i:=1) rfl);have t1:=zjB q1 (za (i:=1) (x:=.int e) (s:=true) rfl);refine⟨[sT (zA n m J e Ds S),sI e,sT (.str p.1),sT (zx p.2),z],rfl, ?_⟩;refine(znn (I:=λas=>as=[sT (zA n m J e Ds S),sI e,sT (.str p.1),sT (zx p.2),z]) t1 (zcT (os:=[.lf true (.str "empty"),.lf true (.str p.1)]) (zf zb (zf (za (i:=2) rfl) zU)) (szl rfl) rfl rfl) rfl).thn λas' hI=>?_;subst hI;refine R4.seq (xZ (p:=4) (Yp (WD.e (za (i:=0) rfl)) (WD.e (za (i:=2) rfl)) (WD.e (za (i:=3) rfl)) (zof (s:=p.1) n8 m1 A.m6 A.j hT)) (zp rfl)) ?_;have tt:=zom (as:=[sT (zA n m J e Ds S),sI e,sT (.str p.1),sT (zx p.2),sT (oD (tD n m J p.2 p.1))]) (i:=4) (t:=tD n m J p.2 p.1) rfl;generalize tD n m J p.2 p.1=t at tt;cases t with
   |none=>exact .inl ⟨rfl,_,yh tt rfl,_,_,_,rfl⟩
   |some ds=>exact .inr ⟨ds,rfl,Zk tt (yK (WD.e (za (i:=4) rfl)))⟩) [sT (zA n m J e Ds S),sI e,none,none,none] ⟨_,_,_,rfl⟩
 refine yM rfl (zj s1 ?_);rw[<-or_none (t:=Ds.findSome? (tE n m J e))];refine R4.rt (I:=λas=>∃(x y z:Option O),as=[sT (zA n m J e Ds S),sI e,x,y,z]) ?_ λ_ _=>yK (WD.e zb);have hi:=znH (as:=[sT (zA n m J e Ds S),sI e,none,none,none]) (f:=f2 zm vJ ixP) (ds:=Ds.map yz) (yG (za (i:=0) rfl) zb rfl);rw[zzZ]at hi;rw[wz hi rfl];exact k
def zgB(A:Alg n m J e Ds):RE (ZJ [(true,zA n m J e Ds S)]) (oD (tW n m J e Ds)):=by
 have r1:=zjq (m:=m) (Ds:=Ds) (S:=S) A.n8 A.j ⟨A.e0,A.en⟩;have r2:=zjv (m:=m) (e:=e) (Ds:=Ds) (S:=S) A.n8 A.j;have r3:=znw (S:=S) A;have s1:=xZ (as:=wK 2 [(true,zA n m J e Ds S)]) (p:=1) (vG (WD.e (za (i:=0) rfl)) r1) (zp rfl);have st:∀(t t':FT) (g:Fn),RE (g [(true,zA n m J e Ds S)]) (oD t')->sIf (fT (f2 zq (fC .non) (zR .Is))) (zL true 1 (zM xR g)) sNx [sT (zA n m J e Ds S),sT (oD t)]=some (.nx [sT (zA n m J e Ds S),sT (oD (t.or t'))]):=λt t' g hg=>by
  have tt:=isT (as:=[sT (zA n m J e Ds S),sT (oD t)]) (i:=1) rfl;cases t with
  |none=>exact vV tt (xZ (p:=1) (vG (WD.e (za (i:=0) rfl)) hg) (zp rfl))
  |some ds=>exact yh tt rfl
 exact yM rfl (zj s1 (zj (st _ _ _ r2) (zj (st _ _ _ r3) (yK (WD.e (za (i:=1) rfl))))))
abbrev F10(n m:Nat)(J:TZ)(e:Int)(Ds:DZ)(S:SS)(d:D)(x y:Option O):AS:=[sT (zA n m J e Ds S),sI n,sI m,sT (zx J),sI e,sT (.lst (Ds.map yz)),sT (.lst (S.map yO)),sT d,x,y]
abbrev faB:SF:=(zy (sIf (Wa (fT (f2 vK (fC .non) (zR .Is))) (fT (f2 (f2 (f2 (fV 9) yo ixP) yj ixP) yj (zR .NotEq)))) (zL true 7 (yw (dC (fC (.str "empty")) (dC (fV 8) dN)))) sNx)
 (sIf (fT (f2 vK (fC .non) (zR .Is))) (zL true 7 (zM (aC zq (aC zE (aC zP (aC (fV 8) (aC (fV 9) aN))))) Yi)) sNx))
def zgN(A:Alg n m J e Ds):RE (Wi [(true,zA n m J e Ds S)]) (oD (tW n m J e Ds)):=by
 have n8:=A.n8;have m1:=A.m1;have he:InR n e:=⟨A.e0,A.en⟩;have h0:=zdx (e:=e) n8 A.j he;obtain⟨as',hf,x,y,rfl⟩:=xM (g:=gT 2 (gsC (gN 8) (gsC (gN 9) gsN))) (f:=faB)
  (λi as=>∃(x y:Option O),as=F10 n m J e Ds S (oD (((tU n J e).or (tA n J)).or ((Ds.take i).findSome? (tE n m J e)))) x y)
  ((Ds.map yz).map λd=>(true,d)) 0 (F10 n m J e Ds S (oD ((tU n J e).or (tA n J))) none none) (λi x as hx' hI=>by
    obtain⟨x,y,rfl⟩:=hI;rw[zzZ,zzG]at hx';obtain⟨p,hp,rfl⟩:=zzV.mp hx';have hT:=A.ds p (zzY hp);have es:((tU n J e).or (tA n J)).or ((Ds.take (0+i+1)).findSome? (tE n m J e))=(((tU n J e).or (tA n J)).or ((Ds.take (0+i)).findSome? (tE n m J e))).or (tE n m J e p):=by
     have e2:List.findSome? (tE n m J e) (Option.toList (some p))=tE n m J e p:=by
      rw[Option.toList_some,List.findSome?_cons,List.findSome?_nil];cases tE n m J e p<;>rfl
     generalize (tU n J e).or (tA n J)=X;rw[zyW,List.take_succ,hp,List.findSome?_append,e2,Option.or_assoc]
    rw[es];generalize ((tU n J e).or (tA n J)).or ((Ds.take (0+i)).findSome? (tE n m J e))=t;refine⟨F10 n m J e Ds S (oD t) (sT (.str p.1)) (sT (zx p.2)),rfl, ?_⟩;have tn:=isT (as:=F10 n m J e Ds S (oD t) (sT (.str p.1)) (sT (zx p.2))) (i:=7) rfl;cases t with
    |some ds=>exact⟨_,ym (yh (Yl tn (λh=>nomatch h) (λ_=>rfl)) rfl) (yh tn rfl),_,_,rfl⟩
    |none=>
     obtain⟨q1,_⟩:=X6 (as:=F10 n m J e Ds S (oD none) (sT (.str p.1)) (sT (zx p.2))) hT (w:=0) (v:=e) ⟨by trivial,by trivial⟩ he (za (i:=9) rfl) (zb (x:=.int 0)) (za (i:=4) rfl);have t1:=zjB q1 (za (i:=4) (x:=.int e) (s:=true) rfl);have t2:=Yl (l:=!(jAt p.2 0 e==e)) tn (λ_=>t1) (λh=>nomatch h);have ed:tE n m J e p=(if(!(jAt p.2 0 e==e))=true then some [.str "empty",.str p.1]else none).or (tD n m J p.2 p.1):=rfl;rw[show(none:FT).or (tE n m J e p)=tE n m J e p from rfl,ed];generalize (!(jAt p.2 0 e==e))=q at t2;cases q with
     |true=>exact⟨_,ym (as1:=F10 n m J e Ds S (.tup [.str "empty",.str p.1]) (sT (.str p.1)) (sT (zx p.2))) (vV t2 (xZ (p:=7) (zcT (os:=[.lf true (.str "empty"),.lf true (.str p.1)]) (zf zb (zf (za (i:=8) rfl) zU)) (szl rfl) rfl rfl) (zp rfl))) (yh (yc (zG (za (i:=7) rfl) zb rfl rfl) rfl) rfl),_,_,rfl⟩
     |false=>exact⟨_,ym (yh t2 rfl) (vV tn (xZ (p:=7) (zhq (WD.e (za (i:=1) rfl)) (WD.e (za (i:=2) rfl)) (WD.e (za (i:=3) rfl)) (WD.e (za (i:=8) rfl)) (WD.e (za (i:=9) rfl)) (zgb (s:=p.1) n8 m1 A.m6 A.j hT)) (zp rfl))),_,_,rfl⟩)
  ⟨none,none,by rw[List.take_zero,List.findSome?_nil,or_none]⟩
 rw[zD,zD,zyW,List.take_length]at hf;exact yM rfl (zj (as1:=[sT (zA n m J e Ds S),sI n,sI m,sT (zx J),sI e,sT (.lst (Ds.map yz)),sT (.lst (S.map yO)),none,none,none]) (ziB (WD.e (za (i:=0) rfl)) rfl) (zj (xZ (p:=7) (Yp (WD.e (za (i:=1) rfl)) (WD.e (za (i:=3) rfl)) (WD.e (za (i:=4) rfl)) h0) (zp rfl)) (zj (wz (znH (za (i:=5) rfl)) hf) (yK (WD.e (za (i:=7) rfl))))))
end
def zgI(A:Alg n m J e Ds):∃J' e' Ds',Alg n m J' e' Ds'/\Ds'.map (·.1)=Ds.map (·.1)/\RE (Zj [(true,zA n m J e Ds S),(true,.int c)]) (zA n m J' e' Ds' S):=by
 have n1:=A.n1;have n8:=A.n8;have m6:=A.m6;have dl:=A.dl;have nn:n*n<=64:=Nat.mul_le_mul n8 n8;have nm:n*m<=48:=Nat.mul_le_mul n8 m6;have nmd:n*m*Ds.length<=288:=Nat.mul_le_mul nm dl;obtain⟨ds,d1,d2,d3⟩:=zlJ (c:=c) (n:=n) (k:=1+n*n+n*m*Ds.length) n1 n8 (by omega);obtain⟨e',e1,e2⟩:=zeD (r:=ds) (P:=InR n) (k:=0) (by omega) (by omega) d2;obtain⟨J',j1,j2,j3⟩:=zei (as:=[sT (zA n m J e Ds S),sI c,sI n,sI m,sT (zx J),sI e,sT (.lst (Ds.map yz)),sT (.lst (S.map yO)),sT (.lst (ds.map D.int)),none,none,none,none]) (u:=true) zg (Q:=Row n) (n:=n) (fr:=aC zE aN) (cap:=[none,some 8,some 2]) (fe:=fSl zq (oS (f2 yg (f2 zE zm zN) zF)) (oS (f2 (f2 yg (f2 zE zm zN) zF) zE zF)) slP) (zu (za rfl) zJ) (by omega) λa a0 a1=>by
  have ha:n*a.toNat+n<=n*n:=by rw[<-Nat.mul_succ];exact Nat.mul_le_mul_left n (by omega)
  have ea:(a.toNat:Int)=a:=by omega
  have w:WD (f2 yg (f2 zE zm zN) zF) [sI a,sT (.lst (ds.map D.int)),sI n] true (.int (1+n*a)):=yR zb (xT (za rfl) (za rfl) (zW (by omega) (by omega)) (zW (by omega) (by omega)));exact⟨[sI a,sT (.lst (ds.map D.int)),sI n],_,rfl,cutE (a:=1+n*a.toNat) (n:=n) (by omega) (za rfl) w (yR w (za rfl)) (by rw[Int.natCast_add,zzT,ea];rfl) (by rw[Int.natCast_add,Int.natCast_add,zzT,ea];rfl),zld (by omega) d2 rfl⟩
 obtain⟨os,l,e11,e12,ho,hlm,hlen,hf⟩:=zsS (a0:=sT (zA n m J e Ds S)) (a1:=sI c) (a4:=sT (zx J)) (a5:=sI e) (a7:=sT (.lst (S.map yO))) (a9:=sT (zx J')) n1 n8 m6 dl d1 d2;refine⟨J',e',l,⟨n1,n8,A.m1,m6,⟨j1,j2⟩,e2.1,e2.2,by omega,ho.al,by rw[hlm];exact A.nd⟩,hlm, ?_⟩;have ek:((1+n*n+n*m*Ds.length:Nat):Int)=1+n*n+n*m*((Ds.map yz).length:Int):=by rw[Int.natCast_add,Int.natCast_add,zzT,zzT,zzT,zD];rfl
 have enm:((n*m:Nat):Int)=n*m:=zzT n m;rw[ek]at d3;refine yM rfl (zj (as1:=[sT (zA n m J e Ds S),sI c,sI n,sI m,sT (zx J),sI e,sT (.lst (Ds.map yz)),sT (.lst (S.map yO)),none,none,none,none,none]) (ziB (WD.e (za rfl)) rfl) (zj (xZ (p:=8) (Yp (WD.e (za rfl)) (WD.e (za rfl)) (WD.e (yR (yR zb (xT (za rfl) (za rfl) (zW (by omega) (by omega)) (zW (by omega) (by omega)))) (xT (xT (za rfl) (za rfl) (zW (by omega) (by omega)) (zW (by omega) (by omega))) (wD (zu (za rfl) zJ) rfl rfl) (by rw[<-enm];exact zW (by omega) (by omega)) (zW (by rw[zD];omega) (by rw[zD];omega))))) d3) (zp rfl)) (zj (xZ (p:=9) j3 (zp rfl)) (zj (xg (i:=10) (wy zU (szl rfl)) (zp rfl)) (zj (wz (xN (j:=((Ds.map yz).length:Int)) (zu (wD (zu (za rfl) zJ) rfl rfl) zJ) (by omega) (by rw[zD];omega)) (by rw[zD];exact hf)) ?_)))));have q:=yS (as:=Y13 n m (sT (zA n m J e Ds S)) (sI c) (sT (zx J)) (sI e) (sT (.lst (S.map yO))) (sT (zx J')) Ds ds (sN os) e11 e12) (a:=fV 2) (za rfl) (yS (a:=fV 3) (za rfl) (yS (a:=fV 9) (za rfl) (yS (a:=f2 (fV 8) yo ixP) (zG (za rfl) zb e1 rfl) (zbj (j:=10) (fr:=dC vK dN) rfl (yS (a:=fV 7) (za rfl) rfl)))));rw[ho.frz]at q;exact⟨_,Vc (zcZ q (szl rfl)) rfl,rfl,rfl⟩
def ztn{ns:List Int}:∃n m J e Ds S,Alg n m J e Ds/\(Sg S/\Nk Ds)/\RE (WQ [(true,.lst (ns.map .int))]) (zA n m J e Ds S):=by
 obtain⟨c,hc⟩:=zaS (ns:=ns) (k:=2) (s:=true) (t:=true) (by omega);obtain⟨c0,hc0⟩:=zaS (ns:=ns) (k:=0) (s:=true) (t:=true) (by omega);obtain⟨c1,hc1⟩:=zaS (ns:=ns) (k:=1) (s:=true) (t:=true) (by omega);obtain⟨n,m,J,e,Ds,S,⟨A,_⟩,hSl,hA⟩:=zdv (c:=c0) (c':=c1);have s1:zL true 1 (zM (aC zm (aC yD aN)) yt) [sT (.lst (ns.map .int)),none,none]=some (.nx [sT (.lst (ns.map .int)),sI c,none]):=yE (i:=1) (W5 (zu (za rfl) (zu zb zJ)) hc) (zp rfl);have s2:zL true 2 (zM (aC (zM (aC zm (aC yo aN)) yt) (aC (zM (aC zm (aC yg aN)) yt) aN)) wH) [sT (.lst (ns.map .int)),sI c,none]=some (.nx [sT (.lst (ns.map .int)),sI c,sT (zA n m J e Ds S)]):=
  xZ (p:=2) (Wv (WD.e (W5 (zu (za rfl) (zu zb zJ)) hc0)) (WD.e (W5 (zu (za rfl) (zu zb zJ)) hc1)) hA) (zp rfl)
 by_cases h:c%2=1
 · obtain⟨J',e',Ds',A',nm',h'⟩:=zgI (c:=c/2) (S:=S) A;exact⟨n,m,J',e',Ds',S,A',⟨hSl.1,zlg nm' hSl.2⟩,yM rfl (zj s1 (zj s2 (vC (Zk (yc (yJ (yx (za rfl) zb (by decide)) zb rfl) (by show some (c%2==1)=_;simp[h])) (yK (Wv (WD.e (za rfl)) (WD.e (Zh (za rfl) zb (by decide) (zW (by decide) (by decide)))) h'))))))⟩
 · obtain⟨J',e',Ds',A',nm',h'⟩:=zqF (c:=c/2) (S:=S) A;exact⟨n,m,J',e',Ds',S,A',⟨hSl.1,zlg nm' hSl.2⟩,yM rfl (zj s1 (zj s2 (zj (yh (yc (yJ (yx (za rfl) zb (by decide)) zb rfl) (by show some (c%2==1)=_;simp[h])) rfl) (yK (Wv (WD.e (za rfl)) (WD.e (Zh (za rfl) zb (by decide) (zW (by decide) (by decide)))) h')))))⟩
def Z4(h:fs n t=none)(hb:InR n b):t b=none:=by
 unfold fs at h;have:=List.findSome?_eq_none_iff.mp h b.toNat (List.mem_range.mpr (by have:=hb.1;have:=hb.2;omega));rw[show((b.toNat:Nat):Int)=b by have:=hb.1;omega]at this;exact this
def zoS(h:t.or t'=none):t=none/\t'=none:=by cases t with
 |none=>exact⟨rfl,h⟩
 |some d=>cases h
def zkj(h:(if q=true then some ds else none)=none):q=false:=by cases q with
 |false=>rfl
 |true=>cases h
def zdU{a b:Int}(h:(!(a==b))=false):a=b:=by simpa using h
def zml{n m:Nat}{J:TZ}{e:Int}{Ds:DZ}(A:Alg n m J e Ds)(h:tW n m J e Ds=none):LawA n m J e Ds:=by
 obtain⟨h1,h3⟩:=zoS h;obtain⟨h1,h2⟩:=zoS h1;have un:∀a,InR n a->jAt J e a=a/\jAt J a e=a:=λa ha=>by
  have:=zkj (Z4 h1 ha);rw[Bool.or_eq_false_iff]at this;exact⟨zdU this.1,zdU this.2⟩
 have m0:InR m (0:Int):=⟨Int.le_refl _,by have:=A.m1;omega⟩;have cl:∀{k:Nat}{T:TZ}(c a:Int),Tab k n T->InR k c->InR n a->InR n (jAt T c a):=λc a hT hc ha=>(rowAt (vR hT hc).2 ha).2;have he:InR n e:=⟨A.e0,A.en⟩;refine⟨⟨λa b ha hb=>cl a b A.j ha hb,he,λa ha=>(un a ha).1,λa ha=>(un a ha).2,λa b c ha hb hc=>zdU (zkj (Z4 (Z4 (Z4 h2 ha) hb) hc))⟩,λp mp=>?_⟩;obtain⟨g1,g2⟩:=zoS (List.findSome?_eq_none_iff.mp h3 p mp);exact⟨λc a hc ha=>cl c a (A.ds p mp) hc ha,zdU (zkj g1),λa i b k ha hi hb hk=>zdU (zkj (Z4 (Z4 (Z4 (Z4 g2 ha) hi) hb) hk))⟩
def zdY(A:Alg n m J e Ds)(L:LawA n m J e Ds):tW n m J e Ds=none:=by
 have fn:∀{k:Nat}{t:Int->FT},(∀b,InR k b->t b=none)->fs k t=none:=λ{k t} H=>by
  unfold fs;exact List.findSome?_eq_none_iff.mpr λi mi=>H _ ⟨by omega,by have:=List.mem_range.mp mi;omega⟩
 have bn:∀{a b:Int},a=b->(!(a==b))=false:=λh=>by simp[h]
 have ino:∀{q:Bool}{ds:List D},q=false->(if q=true then some ds else none)=none:=λh=>by rw[h];rfl
 have h1:tU n J e=none:=fn λa ha=>ino (by rw[bn (L.lj.ul a ha),bn (L.lj.ur a ha)];rfl);have h2:tA n J=none:=fn λa ha=>fn λb hb=>fn λc hc=>ino (bn (L.lj.as a b c ha hb hc));have h3:Ds.findSome? (tE n m J e)=none:=List.findSome?_eq_none_iff.mpr λp mp=>by
  have ld:=L.ld p mp;have g1:(if(!(jAt p.2 0 e==e))=true then some [D.str "empty",D.str p.1]else none)=none:=ino (bn ld.em);have g2:tD n m J p.2 p.1=none:=fn λa ha=>fn λi hi=>fn λb hb=>fn λk hk=>ino (bn (ld.dn a i b k ha hi hb hk));unfold tE;rw[g1,g2];rfl
 unfold tW;rw[h1,h2,h3];rfl
def zoj(A:Alg n m J e Ds)(L:LawA n m J e Ds):yP [(true,zA n m J e Ds S)]=sT .non:=by
 have w:=zgB (S:=S) A;rw[zdY A L]at w;have h:vY (wK 2 [(true,zA n m J e Ds S)])=some (.nx [sT (zA n m J e Ds S),sT .non]):=ym (xZ (p:=1) (vG (WD.e (za (i:=0) rfl)) w) (zp rfl)) (yh (yc (zG (za (i:=1) rfl) zb rfl rfl) rfl) rfl);unfold yP fnR;rw[if_pos (show[(true,zA n m J e Ds S)].length=1 from rfl),h];rfl
abbrev sL(x:Int):D:=.tup [.str "left",.int x]
abbrev sR(x:Int):D:=.tup [.str "right",.int x]
abbrev sD(s:Str)(c:Int):D:=.tup [.str "deed",.str s,.int c]
def Yc{α:Type}{f:EF}{as:AS}{g:α->D}{l:List α}(h:WE f as (.lst (l.map g))):yU f as=some (l.map λa=>(true,g a),as):=by
 have:=zey h;rw[zzZ]at this;exact this
def ww(h:x ∈ zY n):InR n x:=by
 obtain⟨i,hi,rfl⟩:=zxC.mp h;have:=List.mem_range.mp hi;exact⟨by omega,by omega⟩
def Wk(h:InR n x):x ∈ zY n:=zxC.mpr ⟨x.toNat,List.mem_range.mpr (by have:=h.1;have:=h.2;omega),by have:=h.1;omega⟩
def znr{as:AS}{fr:AF}{n:Nat}{u:Bool}(h:WA fr as [(u,.int n)])(hn:n<=1000):yp fr yq as=some ((zY n).map λx=>(true,D.int x),as):=by
 rw[xN h (by omega) (by omega),zyG,zzZ];unfold wg;simp only[Int.zero_add];rfl
abbrev stD(q:D×List Int):D:=.tup [q.1,zg q.2]
def zvi(ha:WE a as (.lst ds))(hb:WE b as (.lst es))(hl:ds.length+es.length<=sizeLine):f2 a b zF as=some (.ow (.nd .ls ((ds++es).map (O.lf true))),as):=by
 obtain⟨o,h1,h2,h3⟩:=ha;obtain⟨p,k1,k2,k3⟩:=hb;have e1:RV.view as (.ow o.frz)=some (.lst ds,some true):=by
  show some (o.toD,some o.str)=_;rw[h2,h3]
 have e2:RV.view as (.ow p.frz)=some (.lst es,some true):=by
  show some (p.toD,some p.str)=_;rw[k2,k3]
 unfold f2;simp only[h1,k1,zyJ,RV.frz,e1,e2];show((zaf .Add (.lst ds) (.lst es)).bind _)=_;rw[add_lists hl];show(if((ds++es).all zZ||true)=true then some (RV.ow (.nd .ls ((ds++es).map (lfs true))))else none:Option RV).bind _=_;rw[if_pos (by simp),WX];rfl
theorem zio:∀(a b:List O),O.toDs (a++b)=O.toDs a++O.toDs b
 | [],_=>rfl
 |x::a,b=>congrArg (x.toD :: ·) (zio a b)
theorem ziI:∀{a b:List O},O.strs a=true->O.strs b=true->O.strs (a++b)=true
 | [],_,_,h=>h
 |x::a,b,h,h'=>by
  have h:=(zyA _ _).mp (show(x.str&&O.strs a)=true from h);show(x.str&&O.strs (a++b))=true;rw[h.1,ziI h.2 h'];rfl
def zvr{α:Type}{toD:α->D}{Q:α->Prop}{as:AS}{fi:IF}{cap:List (Option Nat)}{g:GF}{fe:EF}{i:Nat}{os ps:List O}{l k:List α}{xs:List It1}(h:as[i]? = some (sN os))(ho:Ows toD Q os l)(hi:fi as=some (xs,as))(hx:xs.length<=1000)(hc:xj g zX fe (vI cap as) xs=some ps)(hs:O.strs ps=true)(hd:O.toDs ps=k.map toD)(hk:∀a ∈ k,Q a)(hl:l.length+k.length<=1000):
 yF (xJ i (dC (zB fi cap g zX fe) dN) zmb) as=some (.nx (as.set i (sN (os++ps))))/\Ows toD Q (os++ps) (l++k):=by
 have hlp:ps.length=k.length:=by have:=congrArg List.length hd;rw[Wc,zD]at this;exact this
 refine⟨?_,ziI ho.st hs,by rw[zio,ho.ds,hd,zyK],λa m=>(zzK.mp m).elim (ho.al a) (hk a),by rw[zzH,zzH,ho.ln,hlp]⟩;have e1:zB fi cap g zX fe as=some (.ow (.nd .ls ps),as):=Vb hi (szs (by omega)) hc;unfold yF xJ;rw[h];show(((dC (zB fi cap g zX fe) dN as).bind _).bind _)=_;unfold dC;rw[e1];show((match as[i]? with|some (some (.nd .ls os))=>(zmb os [.nd .ls ps]).bind λz=>some (RV.ow z.2,as.set i (sN z.1))|_=>none).bind _)=_;rw[h];show(((if os.length+ps.length<=sizeLine then some (os++ps,O.lf true .non)else none:Option (List O×O)).bind _).bind _)=_;rw[if_pos (szs (by rw[ho.ln,hlp];omega))];rfl
section
variable{n m:Nat}{J:TZ}{e:Int}{Ds:DZ}{S:SS}{v:Int}
abbrev Gd(n:Nat)(q:D×List Int):Prop:=Row n q.2
abbrev tR(T:TZ)(x:Int):List Int:=(T[x.toNat]?).getD []
abbrev col(J:TZ)(x:Int):List Int:=J.map λr=>rAt r x
def zvV(A:Alg n m J e Ds)(h:InR n x):Row n (col J x):=by
 refine⟨by rw[zD];exact A.j.1,λy my=>?_⟩;obtain⟨r,mr,rfl⟩:=zxC.mp my;exact(rowAt (A.j.2 r mr) h).2
abbrev alB:SF:=(yF (xJ 3 (dC (zB (zqc xG) [none,none,some 4] (gT 2 (gsC ye (gsC (gN 1) gsN))) zX (yw (dC (yw (dC (fC (.str "deed")) (dC zE (dC zm dN)))) (dC zq dN)))) dN) zmb))
theorem zkC:∀(T:TZ) (k:Nat),V1 true k (T.map zg)=((List.range' k T.length).zip T).map λq=>(true,D.tup [.int (q.1:Int),zg q.2])
 | [],_=>rfl
 |r::T,k=>by
  show(true,D.tup [.int (k:Int),zg r])::V1 true (k+1) (T.map zg)=_;rw[zkC T (k+1)];rfl
def zmP(A:Alg n m J e Ds){p:Str×TZ}(hp:p ∈ Ds){B C L:Option O}{os:List O}{l:List (D×List Int)}(ho:Ows stD (Gd n) os l)(hl:l.length+6<=1000):
 ∃ps k,alB [B,C,L,sN os,sT (.str p.1),sT (zx p.2)]=some (.nx [B,C,L,sN (os++ps),sT (.str p.1),sT (zx p.2)])/\Ows stD (Gd n) (os++ps) (l++k)/\k.length=m/\∀c,InR m c->(sD p.1 c,tR p.2 c) ∈ k:=by
 have hT:=A.ds p hp;have m6:=A.m6;have hz:∀q ∈ (List.range' 0 p.2.length).zip p.2,p.2[q.1]? = some q.2:=λq hq=>by
  obtain⟨i,hi⟩:=List.mem_iff_getElem?.mp hq;obtain⟨h1,h2⟩:=List.getElem?_zip_eq_some.mp hi;have:=(zzE.mp h1);obtain⟨h3,h4⟩:=this;rw[List.getElem_range']at h4;rw[<-h4];simpa using h2
 obtain⟨ps,c1,c2,c3⟩:=zbk (gg:=gT 2 (gsC ye (gsC (gN 1) gsN))) (fe:=yw (dC (yw (dC (fC (.str "deed")) (dC zE (dC zm dN)))) (dC zq dN))) (it:=λq:Nat×List Int=>(true,D.tup [.int (q.1:Int),zg q.2])) (h:=λq=>stD (sD p.1 (q.1:Int),q.2)) (as0:=[none,none,sT (.str p.1)]) ((List.range' 0 p.2.length).zip p.2) λq hq=>⟨[sI q.1,sT (zg q.2),sT (.str p.1)],rfl,Yk (zcT (os:=[.lf true (.str "deed"),.lf true (.str p.1),lfI q.1]) (zf zb (zf (za (i:=2) rfl) (zf (za (i:=0) rfl) zU))) (szl rfl) rfl rfl) (WD.e (za (i:=1) rfl))⟩;have hi:zqc xG [B,C,L,sN os,sT (.str p.1),sT (zx p.2)]=some (((List.range' 0 p.2.length).zip p.2).map λq=>(true,D.tup [.int (q.1:Int),zg q.2]),[B,C,L,sN os,sT (.str p.1),sT (zx p.2)]):=by
  rw[<-zkC];rfl
 have zl:((List.range' 0 p.2.length).zip p.2).length=m:=by rw[List.length_zip,List.length_range',Nat.min_self];exact hT.1
 obtain⟨x1,x2⟩:=zvr (i:=3) (cap:=[none,none,some 4]) (k:=((List.range' 0 p.2.length).zip p.2).map λq=>(sD p.1 (q.1:Int),q.2)) rfl ho hi (by rw[zD,zl];omega) c1 c2 (by rw[c3,zzZ];rfl) (λa ma=>by
  obtain⟨q,mq,rfl⟩:=zxC.mp ma;exact hT.2 _ (zzY (hz q mq))) (by rw[zD,zl];omega)
 refine⟨ps,_,x1,x2,by rw[zD,zl],λc hc=>?_⟩;have hk:c.toNat<p.2.length:=by have:=hc.1;have:=hc.2;have:=hT.1;omega
 rw[show tR p.2 c=p.2[c.toNat] by show(p.2[c.toNat]?).getD []=_;rw[zzC hk];rfl];refine zxC.mpr ⟨(c.toNat,p.2[c.toNat]), ?_,by rw[show((c.toNat:Nat):Int)=c by have:=hc.1;omega]⟩;refine List.mem_iff_getElem?.mpr ⟨c.toNat,List.getElem?_zip_eq_some.mpr ⟨?_,zzC hk⟩⟩;rw[List.getElem?_range' hk];simp
def zhV:(zY n).length=n:=by rw[zD,zyS]
def zhc(A:Alg n m J e Ds):∃sts:List (D×List Int),sts.length<=60/\(∀q ∈ sts,Gd n q)/\(∀x,InR n x->(sL x,tR J x) ∈ sts/\(sR x,col J x) ∈ sts)/\(∀p ∈ Ds,∀c,InR m c->(sD p.1 c,tR p.2 c) ∈ sts)/\RE (Z6 [(true,zA n m J e Ds S)]) (.lst (sts.map stD)):=by
 have n8:=A.n8;have m6:=A.m6;have dl:=A.dl;have s1:zL true 1 (f2 zm yD ixP) [sT (zA n m J e Ds S),none,none,none,none,none]=some (.nx [sT (zA n m J e Ds S),sT (zx J),none,none,none,none]):=yE (i:=1) (yG (za (i:=0) rfl) zb rfl) (zp rfl);have w2:WE (fP (aC (f2 zm yo ixP) aN) lrP) [sT (zA n m J e Ds S),sT (zx J),none,none,none,none] (zg (zY n)):=⟨_,zgZ (x:=.int n) (g:=lrP) (zs:=(zY n).map D.int) (WD.e (yG (za (i:=0) rfl) zb rfl)) (by
  show(if(0:Int)<=n/\(n:Int)<=100000 then _ else _)=_;rw[if_pos ⟨by omega,by omega⟩,zzZ];rfl),zfI _,congrArg D.lst (zfu _)⟩
 have s2:=xZ (p:=2) w2 (zp rfl);have ib:∀e3 e4 e5,yU zE [sT (zA n m J e Ds S),sT (zx J),sT (zg (zY n)),e3,e4,e5]=some ((zY n).map λx=>(true,D.int x),[sT (zA n m J e Ds S),sT (zx J),sT (zg (zY n)),e3,e4,e5]):=λ_ _ _=>Yc (g:=D.int) (WD.e (za (i:=2) rfl));have wl:=wY (as:=[sT (zA n m J e Ds S),sT (zx J),sT (zg (zY n)),none,none,none]) (h:=λx=>stD (sL x,tR J x)) (it:=λx:Int=>(true,D.int x)) (cap:=[none,some 1]) (gg:=gN 0) (fe:=yw (dC (yw (dC (fC (.str "left")) (dC zm dN))) (dC (f2 zq zm ixP) dN))) (zY n) (ib none none none) (by rw[zhV];omega) λx mx=>⟨[sI x,sT (zx J)],rfl,Yk (Yk (WD.e zb) (WD.e (za (i:=0) rfl))) (WD.e (yG (za (i:=1) rfl) (za (i:=0) rfl) (vR A.j (ww mx)).1))⟩;have wr:=wY (as:=[sT (zA n m J e Ds S),sT (zx J),sT (zg (zY n)),none,none,none]) (h:=λx=>stD (sR x,col J x)) (it:=λx:Int=>(true,D.int x)) (cap:=[none,some 1]) (gg:=gN 0) (fe:=yw (dC (yw (dC (fC (.str "right")) (dC zm dN))) (dC (zB (yU zq) [none,some 0] ye zX (f2 zm zq ixP)) dN))) (zY n) (ib none none none) (by rw[zhV];omega) λx mx=>⟨[sI x,sT (zx J)],rfl,by
  have wc:=wY (as:=[sI x,sT (zx J)]) (h:=λr=>D.int (rAt r x)) (it:=λr:List Int=>(true,zg r)) (cap:=[none,some 0]) (gg:=gN 0) (fe:=f2 zm zq ixP) (fi:=yU zq) J (Yc (g:=zg) (WD.e (za (i:=1) rfl))) (by rw[A.j.1];omega) λr mr=>⟨[sT (zg r),sI x],rfl,WD.e (zG (za (i:=0) rfl) (za (i:=1) rfl) (rowAt (A.j.2 r mr) (ww mx)).1 rfl)⟩;have ec:(J.map λr=>D.int (rAt r x))=(col J x).map D.int:=by rw[zzZ];rfl
  rw[ec]at wc;exact Yk (Yk (WD.e zb) (WD.e (za (i:=0) rfl))) wc⟩
 have s3:=xg (i:=3) (zvi wl wr (szs (by simp only[zD,zyS];omega))) (zp rfl);have l0:Ows stD (Gd n) ((((zY n).map λx=>stD (sL x,tR J x))++((zY n).map λx=>stD (sR x,col J x))).map (O.lf true)) (((zY n).map λx=>(sL x,tR J x))++((zY n).map λx=>(sR x,col J x))):=by
  refine⟨zfI _, ?_,λq mq=>?_, ?_⟩
  · rw[zfu];simp only[zyK,zzZ];rfl
  · rcases zzK.mp mq with h|h
    · obtain⟨x,mx,rfl⟩:=zxC.mp h;exact(vR A.j (ww mx)).2
    · obtain⟨x,mx,rfl⟩:=zxC.mp h;exact zvV A (ww mx)
  · simp only[zD,zzH]
 obtain⟨as',hf,os,l,e4,e5,rfl,ho,hl,hx,hd⟩:=xM (g:=gT 2 (gsC Wo (gsC (gN 5) gsN))) (f:=alB)
  (λi as=>∃(os:List O) (l:List (D×List Int)) (e4 e5:Option O),as=[sT (zA n m J e Ds S),sT (zx J),sT (zg (zY n)),sN os,e4,e5]/\Ows stD (Gd n) os l/\l.length<=16+6*i/\(∀x,InR n x->(sL x,tR J x) ∈ l/\(sR x,col J x) ∈ l)/\∀p ∈ Ds.take i,∀c,InR m c->(sD p.1 c,tR p.2 c) ∈ l)
  ((Ds.map yz).map λd=>(true,d)) 0 [sT (zA n m J e Ds S),sT (zx J),sT (zg (zY n)),sN ((((zY n).map λx=>stD (sL x,tR J x))++((zY n).map λx=>stD (sR x,col J x))).map (O.lf true)),none,none] (λi x as hx' hI=>by
    obtain⟨os,l,e4,e5,rfl,ho,hl,hx,hd⟩:=hI;rw[zzZ,zzG]at hx';obtain⟨p,hp,rfl⟩:=zzV.mp hx';have hi:i<Ds.length:=(zzE.mp hp).1;have mp:=zzY hp;rw[zyW]at hl hd ⊢;obtain⟨ps,k,x1,x2,x3,x4⟩:=zmP A mp (B:=sT (zA n m J e Ds S)) (C:=sT (zx J)) (L:=sT (zg (zY n))) ho (by omega);refine⟨[sT (zA n m J e Ds S),sT (zx J),sT (zg (zY n)),sN os,sT (.str p.1),sT (zx p.2)],rfl,_,x1,_,_,_,_,rfl,x2,by rw[zzH,x3];omega,λx hxx=>?_,λq mq c hc=>?_⟩
    · exact⟨zzN _ (hx x hxx).1,zzN _ (hx x hxx).2⟩
    · rw[List.take_succ,hp]at mq
      rcases zzK.mp mq with h|h
      · exact zzN _ (hd q h c hc)
      · have:q=p:=by simpa using h
        subst this;exact zzJ _ (x4 c hc))
  ⟨_,_,none,none,rfl,l0,by simp only[zD,zzH,zyS];omega,λx hx=>⟨zzN _ (zxC.mpr ⟨x,Wk hx,rfl⟩),zzJ _ (zxC.mpr ⟨x,Wk hx,rfl⟩)⟩,λp hp=>by simp at hp⟩
 rw[zD,zD,zyW]at hl hd;rw[List.take_length]at hd;exact⟨l,by omega,ho.al,hx,hd,yM rfl (zj s1 (zj s2 (zj s3 (zj (wz (znH (yG (za (i:=0) rfl) zb rfl)) hf) (Ows.retB (i:=3) rfl ho)))))⟩
end
section
variable{α:Type}[DecidableEq α]{toK:α->D}
def pos:List α->α->Nat
 | [],_=>0
 |x::K,a=>if x=a then 0 else pos K a+1
theorem zki:∀{K:List α},a ∈ K->b ∈ K->pos K a=pos K b->a=b
 | [],h,_,_=>nomatch h
 |x::K,ha,hb,e=>by
  unfold pos at e
  by_cases h1:x=a
  · rw[if_pos h1]at e
    by_cases h2:x=b
    · rw[<-h1,<-h2]
    · rw[if_neg h2]at e;omega
  · rw[if_neg h1]at e
    by_cases h2:x=b
    · rw[if_pos h2]at e;omega
    · rw[if_neg h2]at e;exact zki ((zzA.mp ha).resolve_left λz=>h1 z.symm) ((zzA.mp hb).resolve_left λz=>h2 z.symm) (by omega)
def zoh(hf:∀a,zZ (toK a)=false)(u:Bool)(l:List α):kids u (l.map toK)=l.map λa=>(u,toK a):=by
 unfold kids;rw[zzZ];refine List.map_congr_left λa _=>?_;show(zZ (toK a)||u,toK a)=_;rw[hf];rfl
def ded(K:List α):List α->List α
 | []=>K
 |a::l=>if a ∈ K then ded K l else ded (K++[a]) l
theorem zku:∀(l K:List α),a ∈ K->a ∈ ded K l
 | [],_,h=>h
 |b::l,K,h=>by
  unfold ded
  by_cases e:b ∈ K
  · rw[if_pos e];exact zku l K h
  · rw[if_neg e];exact zku l _ (zzN _ h)
theorem zdV:∀(l K:List α),a ∈ l->a ∈ ded K l
 | [],_,h=>nomatch h
 |b::l,K,h=>by
  unfold ded
  by_cases e:b ∈ K
  · rw[if_pos e]
    rcases zzA.mp h with rfl|h
    · exact zku l K e
    · exact zdV l K h
  · rw[if_neg e]
    rcases zzA.mp h with rfl|h
    · exact zku l _ (zzJ _ (zzP.mpr rfl))
    · exact zdV l _ h
theorem zhh:∀(l K:List α),(ded K l).length<=K.length+l.length
 | [],K=>zzL _
 |b::l,K=>by
  unfold ded;show _<=K.length+(l.length+1)
  by_cases e:b ∈ K
  · rw[if_pos e];have:=zhh l K;omega
  · rw[if_neg e];have:=zhh l (K++[b]);rw[zzH]at this;have:(ded (K++[b]) l).length<=K.length+1+l.length:=this;omega
variable{kk:α->List Key}
def ztg(hk:∀a b,kk a=kk b->a=b)(a:α)(K:List α):zeS (K.map kk) (kk a)=decide (a ∈ K):=by
 unfold zeS;rw[List.any_map]
 by_cases h:a ∈ K
 · rw[zyM h,List.any_eq_true];exact⟨a,h,by simp⟩
 · rw[zyE h,List.any_eq_false];intro b mb z;exact h (hk b a (by simpa using z) ▸ mb)
theorem zmt(hk:∀a b,kk a=kk b->a=b):∀(K:List α) (s:Nat),a ∈ K->zdZ (K.map kk) ((List.range' s K.length).map λi:Nat=>D.int (i:Int)) (kk a)=some (.int ((s+pos K a:Nat):Int))
 | [],_,h=>nomatch h
 |x::K,s,h=>by
  unfold zdZ pos;rw[zzR,List.range'_succ,zyQ,zyQ,List.zip_cons_cons]
  by_cases e:x=a
  · rw[if_pos e,List.find?_cons_of_pos (by simp[e])];rfl
  · rw[if_neg e,List.find?_cons_of_neg (by simpa using λz:kk x=kk a=>e (hk x a z))];have:=zmt hk K (s+1) ((zzA.mp h).resolve_left λz=>e z.symm);unfold zdZ at this;rw[this,show s+1+pos K a=s+(pos K a+1) by omega]
abbrev nD(kk:α->List Key)(K:List α):Option O:=some (.nd (.dt (K.map kk)) ((List.range' 0 K.length).map λi:Nat=>lfI (i:Int)))
theorem zgT:∀(k s:Nat),O.toDs ((List.range' s k).map λi:Nat=>lfI (i:Int))=(List.range' s k).map λi:Nat=>D.int (i:Int)
 |0,_=>rfl
 |k+1,s=>by
  rw[List.range'_succ,zyQ,zyQ];exact congrArg (D.int (s:Int) :: ·) (zgT k (s+1))
abbrev nuB:SF:=zlq 1 (dC zE (dC (fP xx ZP) dN))
def zqk(hk:∀a b,kk a=kk b->a=b)(ht:∀a,zbs (toK a)=some (kk a)){s0:Option O}{u:Bool}{K:List α}{a:α}(hl:K.length<=1000):nuB [s0,nD kk K,some (.lf u (toK a))]=some (.nx [s0,if a ∈ K then nD kk K else nD kk (K++[a]),some (.lf u (toK a))]):=by
 have ln:fP xx ZP [s0,nD kk K,some (.lf u (toK a))]=some (.ow (lfI (K.length:Nat)),[s0,nD kk K,some (.lf u (toK a))]):=by
  have h1:([s0,nD kk K,some (.lf u (toK a))]:AS)[1]? = some (some (.nd (.dt (K.map kk)) ((List.range' 0 K.length).map λi:Nat=>lfI (i:Int)))):=rfl;have e2:(O.nd (.dt (K.map kk)) ((List.range' 0 K.length).map λi:Nat=>lfI (i:Int))).toD = .dt (K.map kk) ((List.range' 0 K.length).map λi:Nat=>D.int (i:Int)):=congrArg (D.dt (K.map kk)) (zgT _ _);have e:views [s0,nD kk K,some (.lf u (toK a))] [.bo 1]=some ([.dt (K.map kk) ((List.range' 0 K.length).map λi:Nat=>D.int (i:Int))],meet (O.nd (.dt (K.map kk)) ((List.range' 0 K.length).map λi:Nat=>lfI (i:Int))).kl (some true)):=by
   show(RV.view _ (.bo 1)).bind _=_;rw[zdi h1,e2];rfl
  unfold fP xx aC;rw[zeE h1];simp only[zyJ,aN,RV.frz,e];show(some (R0.im (.int (((List.range' 0 K.length).map λi:Nat=>D.int (i:Int)).length:Nat)))).bind _=_;rw[zD,List.length_range'];rfl
 have fr:dC zE (dC (fP xx ZP) dN) [s0,nD kk K,some (.lf u (toK a))]=some ([.lf u (toK a),lfI (K.length:Nat)],[s0,nD kk K,some (.lf u (toK a))]):=yS (za (i:=2) rfl) (yS ln rfl);unfold nuB zlq;show((dC zE (dC (fP xx ZP) dN) [s0,nD kk K,some (.lf u (toK a))]).bind _)=_;rw[fr];show((zbs (toK a)).bind λk=>if(K.map kk).length<sizeLine then some (Out.nx (if zeS (K.map kk) k=true then[s0,nD kk K,some (.lf u (toK a))]else[s0,some (.nd (.dt (K.map kk++[k])) (((List.range' 0 K.length).map λi:Nat=>lfI (i:Int))++[lfI (K.length:Nat)])),some (.lf u (toK a))]))else none)=_;rw[ht];show(if(K.map kk).length<sizeLine then some (Out.nx (if zeS (K.map kk) (kk a)=true then[s0,nD kk K,some (.lf u (toK a))]else[s0,some (.nd (.dt (K.map kk++[kk a])) (((List.range' 0 K.length).map λi:Nat=>lfI (i:Int))++[lfI (K.length:Nat)])),some (.lf u (toK a))]))else none)=_;rw[if_pos (by rw[zD];exact Nat.lt_of_le_of_lt hl (by decide)),ztg hk]
 by_cases h:a ∈ K
 · rw[zyM h,if_pos rfl,if_pos h]
 · rw[zyE h,if_neg (by decide),if_neg h];unfold nD;rw[zyK,zzH];show _=some (Out.nx [s0,some (.nd (.dt (K.map kk++[kk a])) ((List.range' 0 (K.length+1)).map λi:Nat=>lfI (i:Int))),some (.lf u (toK a))]);rw[List.range'_concat,zyK];simp
theorem zgA(hk:∀a b,kk a=kk b->a=b)(ht:∀a,zbs (toK a)=some (kk a)){s0:Option O}{u:Bool}:∀(l K:List α) (e2:Option O),K.length+l.length<=1000->∃e2',forL (gN 2) nuB (l.map λa=>(u,toK a)) [s0,nD kk K,e2]=some (.nx [s0,nD kk (ded K l),e2'])
 | [],K,e2,_=>⟨e2,rfl⟩
 |a::l,K,e2,hl=>by
  have hl:K.length+(l.length+1)<=1000:=hl;have h1:=zqk (toK:=toK) hk ht (s0:=s0) (u:=u) (K:=K) (a:=a) (by omega);unfold ded
  by_cases e:a ∈ K
  · rw[if_pos e]at h1 ⊢;obtain⟨e2',hf⟩:=zgA hk ht (s0:=s0) (u:=u) l K (some (.lf u (toK a))) (by omega);exact⟨e2',YC (as1:=[s0,nD kk K,some (.lf u (toK a))]) rfl h1 hf⟩
  · rw[if_neg e]at h1 ⊢;obtain⟨e2',hf⟩:=zgA hk ht (s0:=s0) (u:=u) l (K++[a]) (some (.lf u (toK a))) (by rw[zzH];show K.length+1+_<=_;omega);exact⟨e2',YC (as1:=[s0,nD kk K,some (.lf u (toK a))]) rfl h1 hf⟩
end
section
variable{α:Type}[DecidableEq α]{toK:α->D}{kk:α->List Key}
def zcv(hf:∀a,zZ (toK a)=false)(hk:∀a b,kk a=kk b->a=b)(ht:∀a,zbs (toK a)=some (kk a))(u:Bool)(l:List α)(hl:l.length<=100):RE (v4 [(u,.lst (l.map toK))]) (zg (l.map λa=>((pos (ded [] l) a:Nat):Int))):=by
 obtain⟨e2,hfor⟩:=zgA (toK:=toK) hk ht (s0:=some (.lf u (.lst (l.map toK)))) (u:=u) l [] none (by show 0+_<=_;omega);have it1:zed zm [some (.lf u (.lst (l.map toK))),nD kk ([]:List α),none]=some (l.map λa=>(u,toK a),[some (.lf u (.lst (l.map toK))),nD kk ([]:List α),none]):=by
  show some (kids u (l.map toK),_)=_;rw[zoh hf]
 have it2:yU zm [some (.lf u (.lst (l.map toK))),nD kk (ded [] l),e2]=some (l.map λa=>(u,toK a),[some (.lf u (.lst (l.map toK))),nD kk (ded [] l),e2]):=by
  show some (kids u (l.map toK),_)=_;rw[zoh hf]
 have w:=wY (as:=[some (.lf u (.lst (l.map toK))),nD kk (ded [] l),e2]) (h:=λa=>D.int (pos (ded [] l) a:Nat)) (it:=λa=>(u,toK a)) (cap:=[none,some 1]) (gg:=gN 0) (fe:=f2 zq zm ixT) l it2 (by omega) λa ma=>by
  have ec:vI [none,some 1] [some (.lf u (.lst (l.map toK))),nD kk (ded [] l),e2]=[none,some (.lf false (.dt ((ded [] l).map kk) ((List.range' 0 (ded [] l).length).map λi:Nat=>D.int (i:Int))))]:=by
   show[none,some (O.lf false (.dt ((ded [] l).map kk) (O.toDs ((List.range' 0 (ded [] l).length).map λi:Nat=>lfI (i:Int)))))]=_;rw[zgT]
  rw[ec];refine⟨[some (.lf u (toK a)),some (.lf false (.dt ((ded [] l).map kk) ((List.range' 0 (ded [] l).length).map λi:Nat=>D.int (i:Int))))],rfl,WD.e (zG (za (i:=1) rfl) (za (i:=0) rfl) ?_ rfl)⟩;show(zbs (toK a)).bind _=_;rw[ht];show imR (zdZ ((ded [] l).map kk) ((List.range' 0 (ded [] l).length).map λi:Nat=>D.int (i:Int)) (kk a))=_;rw[zmt hk _ 0 (zdV l [] ma),zyW];rfl
 rw[show(l.map λa=>D.int (pos (ded [] l) a:Nat))=(l.map λa=>((pos (ded [] l) a:Nat):Int)).map D.int by rw[zzZ];rfl]at w;exact yM rfl (zj (as1:=[some (.lf u (.lst (l.map toK))),nD kk ([]:List α),none]) (xg (i:=1) rfl (zp rfl)) (zj (wz it1 hfor) (yK w)))
end
section
variable{ι α β:Type}[DecidableEq α][DecidableEq β]{g:ι->α}{h:ι->β}
def zgi(e:ι->ι->Bool)(R:List ι):List ι->List ι
 | []=>R
 |i::is=>if(R.any λr=>e r i)=true then zgi e R is else zgi e (R++[i]) is
def zlO(e:ι->ι->Bool):List ι->ι->Nat
 | [],_=>0
 |r::R,i=>if e r i=true then 0 else zlO e R i+1
def zqQ(R:List ι)(i:ι):(R.any λr=>decide (g r=g i))=true ↔ g i ∈ R.map g:=by
 rw[List.any_eq_true,zxC];exact⟨λ⟨r,mr,z⟩=>⟨r,mr,by simpa using z⟩,λ⟨r,mr,z⟩=>⟨r,mr,by simpa using z⟩⟩
theorem zdj:∀(is R:List ι),ded (R.map g) (is.map g)=(zgi (λr i=>decide (g r=g i)) R is).map g
 | [],_=>rfl
 |i::is,R=>by
  rw[zyQ];unfold ded zgi
  by_cases q:g i ∈ R.map g
  · rw[if_pos q,if_pos ((zqQ R i).mpr q)];exact zdj is R
  · rw[if_neg q,if_neg λz=>q ((zqQ R i).mp z)];have:=zdj is (R++[i]);rw[zyK]at this;exact this
theorem zgr(i:ι):∀R:List ι,pos (R.map g) (g i)=zlO (λr i=>decide (g r=g i)) R i
 | []=>rfl
 |r::R=>by
  rw[zyQ];unfold pos zlO
  by_cases q:g r=g i
  · rw[if_pos q,if_pos (by simpa using q)]
  · rw[if_neg q,if_neg (by simpa using q),zgr i R]
theorem zht:∀(is R:List ι),i ∈ zgi e R is->i ∈ R\/i ∈ is
 | [],_,m=>.inl m
 |j::is,R,m=>by
  unfold zgi at m
  split at m
  · exact(zht is R m).imp id λz=>zzB _ z
  · rcases zht is _ m with z|z
    · rcases zzK.mp z with z|z
      · exact .inl z
      · rw[zzP.mp z];exact .inr (zzD ..)
    · exact .inr (zzB _ z)
theorem zny{e e':ι->ι->Bool}{i:ι}:∀{R:List ι},(∀r ∈ R,e r i=e' r i)->(R.any λr=>e r i)=R.any λr=>e' r i
 | [],_=>rfl
 |r::R,H=>by rw[List.any_cons,List.any_cons,H r (zzD ..),zny λx mx=>H x (zzB _ mx)]
theorem zgC{e e':ι->ι->Bool}{P:ι->Prop}(H:∀r i,P r->P i->e r i=e' r i):∀(is R:List ι),(∀i ∈ is,P i)->(∀r ∈ R,P r)->zgi e R is=zgi e' R is
 | [],_,_,_=>rfl
 |i::is,R,hi,hR=>by
  have pi:=hi i (zzD ..);have hi':∀j ∈ is,P j:=λj mj=>hi j (zzB _ mj);unfold zgi;rw[zny λr mr=>H r i (hR r mr) pi,zgC H is R hi' hR,zgC H is (R++[i]) hi' λr mr=>(zzK.mp mr).elim (hR r) λz=>zzP.mp z ▸ pi]
theorem zkq:∀{R:List ι},(∀r ∈ R,e r i=e' r i)->zlO e R i=zlO e' R i
 | [],_=>rfl
 |r::R,H=>by
  unfold zlO;rw[H r (zzD ..),zkq λx mx=>H x (zzB _ mx)]
def zpe{is:List ι}(H:∀i ∈ is,∀j ∈ is,g i=g j ↔ h i=h j){i:ι}(hi:i ∈ is):pos (ded [] (is.map g)) (g i)=pos (ded [] (is.map h)) (h i):=by
 have e1:=zdj (g:=g) is [];have e2:=zdj (g:=h) is [];rw[List.map_nil]at e1 e2;have He:∀r i,r ∈ is->i ∈ is->decide (g r=g i)=decide (h r=h i):=λr i mr mi=>decide_eq_decide.mpr (H r mr i mi);rw[e1,e2,zgr,zgr,zgC (P:=λi=>i ∈ is) He is [] (λ_ m=>m) (λ_ m=>nomatch m)];exact zkq λr mr=>He r i ((zht is [] mr).elim (λz=>nomatch z) id) hi
end
def hld(S:SS)(v:Int):List Bool:=S.map λp=>decide (v ∈ p.2)
theorem znx(v:Int):∀xs:List Int,inP (.int v) (zg xs)=some (decide (v ∈ xs))
 | []=>rfl
 |x::xs=>by
  have ih:anyF (λy=>eqF 50 y (.int v)) (xs.map D.int)=some (decide (v ∈ xs)):=znx v xs;show(some (x==v)).bind (λb=>(anyF (λy=>eqF 50 y (.int v)) (xs.map D.int)).bind λc=>some (b||c))=_;rw[ih];show some ((x==v)||decide (v ∈ xs))=_
  by_cases h:x=v
  · subst h;simp
  · have h':¬v=x:=λz=>h z.symm;simp[h,h']
def zrl(ha:WD a as true (.int v))(hb:WD b as true (zg xs)):WD (f2 a b (zR .In)) as true (.bl (decide (v ∈ xs))):=
 zG ha hb (by show(inP (.int v) (zg xs)).bind _=_;rw[znx];rfl) rfl
def zdd(hv:InR n v):rAt ((zY n).map g) v=g v:=by
 unfold rAt;have h0:=hv.1;have h1:=hv.2;rw[zzG,zzG,List.getElem?_range (show v.toNat<n by omega)];show g ((v.toNat:Nat):Int)=g v;rw[show((v.toNat:Nat):Int)=v by omega]
section
variable{n m:Nat}{J:TZ}{e:Int}{Ds:DZ}{S:SS}{v:Int}{Rs:TZ}
def ziu(sl:S.length<=10):RE (Xk [(true,zA n m J e Ds S),(true,.int v)]) (.tup ((hld S v).map D.bl)):=by
 have w:=wY (as:=[sT (zA n m J e Ds S),sI v]) (h:=λp:Str×List Int=>D.bl (decide (v ∈ p.2))) (it:=λp=>(true,yO p)) (cap:=[none,none,some 1]) (gg:=gT 2 (gsC ye (gsC (gN 1) gsN))) (fe:=f2 zE zq (zR .In)) (fi:=yU (f2 zm zcO ixP)) S (Yc (g:=yO) (WD.e (yG (za (i:=0) rfl) zb rfl))) (by omega) λp mp=>⟨[sT (.str p.1),sT (zg p.2),sI v],rfl,WD.e (zrl (za (i:=2) rfl) (za (i:=1) rfl))⟩;refine yM rfl (yK (zlh w ?_));show some (R0.im (.tup (S.map λp=>D.bl (decide (v ∈ p.2)))))=some (R0.im (.tup ((S.map λp=>decide (v ∈ p.2)).map D.bl)));rw[zzZ];rfl
abbrev Ee(S:SS)(Rs:TZ)(k:Nat)(u v:Int):Prop:=PP.Ek (hld S) rAt (λr=>r ∈ Rs) k u v
structure Nb(n:Nat)(S:SS)(Rs:TZ)(k:Nat)(r:List Int):Prop where
 ln:r.length=n
 eq:∀u v,InR n u->InR n v->(rAt r u=rAt r v ↔ Ee S Rs k u v)
 cn:∀{β:Type}[DecidableEq β] (h:Int->β),(∀i ∈ zY n,∀j ∈ zY n,h i=h j ↔ Ee S Rs k i j)->r=(zY n).map λa=>((pos (ded [] ((zY n).map h)) (h a):Nat):Int)
def Nb.mk'{k:Nat}{α:Type}[DecidableEq α]{g:Int->α}(H:∀i ∈ zY n,∀j ∈ zY n,g i=g j ↔ Ee S Rs k i j):Nb n S Rs k ((zY n).map λa=>((pos (ded [] ((zY n).map g)) (g a):Nat):Int)):=by
 refine⟨by simp,λu v hu hv=>?_,λ{β} _ h hh=>?_⟩
 · rw[zdd hu,zdd hv];rw[<-H u (Wk hu) v (Wk hv)];exact⟨λz=>zki (zdV _ _ (List.mem_map_of_mem (Wk hu))) (zdV _ _ (List.mem_map_of_mem (Wk hv))) (Int.ofNat_inj.mp z),λz=>by rw[z]⟩
 · refine List.map_congr_left λa ma=>?_;rw[zpe (g:=g) (h:=h) (λi mi j mj=>(H i mi j mj).trans (hh i mi j mj).symm) ma]
def Nb.same(h:Nb n S Rs k r)(h':Nb n S Rs (k+1) r')(s:PP.St (hld S) rAt (λr=>r ∈ Rs) n k):r'=r:=by
 have hk:∀i ∈ zY n,∀j ∈ zY n,rAt r i=rAt r j ↔ Ee S Rs k i j:=λi mi j mj=>h.eq i j (ww mi) (ww mj);have hk':∀i ∈ zY n,∀j ∈ zY n,rAt r i=rAt r j ↔ Ee S Rs (k+1) i j:=λi mi j mj=>(hk i mi j mj).trans ⟨λz=>by
  have a:=ww mi;have b:=ww mj;have:=s i.toNat j.toNat (by have:=a.1;have:=a.2;omega) (by have:=b.1;have:=b.2;omega);rw[show((i.toNat:Nat):Int)=i by have:=a.1;omega,show((j.toNat:Nat):Int)=j by have:=b.1;omega]at this;exact this z,λz=>z.mono (zyV _)⟩
 exact(h'.cn _ hk').trans (h.cn _ hk).symm
def Nb.st(h:Nb n S Rs k r)(h':Nb n S Rs (k+1) r):PP.St (hld S) rAt (λr=>r ∈ Rs) n k:=λu v hu hv z=>(h'.eq u v ⟨by omega,by omega⟩ ⟨by omega,by omega⟩).mp ((h.eq u v ⟨by omega,by omega⟩ ⟨by omega,by omega⟩).mpr z)
abbrev key(Rs:TZ)(r:List Int)(v:Int):List Int:=Rs.map λq=>rAt r (rAt q v)
def zsa(hR:∀q ∈ Rs,Row n q)(h:Nb n S Rs k r):∀i ∈ zY n,∀j ∈ zY n,key (zY n::Rs) r i=key (zY n::Rs) r j ↔ Ee S Rs (k+1) i j:=λi mi j mj=>by
 have hi:=ww mi;have hj:=ww mj;have ei:∀{x:Int},InR n x->rAt (zY n) x=x:=λ{x} hx=>by
  have:=zdd (g:=λa=>a) hx
  rwa [List.map_id']at this
 unfold Ee;rw[PP.Ek.succ];constructor
 · intro z;obtain⟨z1,z2⟩:=List.cons.inj z;have z1:rAt r (rAt (zY n) i)=rAt r (rAt (zY n) j):=z1;rw[ei hi,ei hj]at z1;refine⟨(h.eq i j hi hj).mp z1,λq hq=>?_⟩;exact(h.eq _ _ (rowAt (hR q hq) hi).2 (rowAt (hR q hq) hj).2).mp (List.map_inj_left.mp z2 q hq)
 · intro⟨z1,z2⟩;show rAt r (rAt (zY n) i)::_=rAt r (rAt (zY n) j)::_;rw[ei hi,ei hj,(h.eq i j hi hj).mpr z1];exact congrArg _ (List.map_congr_left λq hq=>(h.eq _ _ (rowAt (hR q hq) hi).2 (rowAt (hR q hq) hj).2).mpr (z2 q hq))
end
abbrev bK(l:List Bool):D:=.tup (l.map D.bl)
abbrev iK(l:List Int):D:=.tup (l.map D.int)
abbrev kB(l:List Bool):List Key:=l.map λb=>.inl (if b=true then 1 else 0)
abbrev kI(l:List Int):List Key:=l.map Sum.inl
theorem zmO:∀a b:List Bool,kB a=kB b->a=b
 | [],[],_=>rfl
 | [],_::_,h=>by simp at h
 |_::_,[],h=>by simp at h
 |x::a,y::b,h=>by
  obtain⟨h1,h2⟩:=List.cons.inj (show Sum.inl _::kB a=Sum.inl _::kB b from h);have h1:=Sum.inl.inj h1;rw[zmO a b h2];cases x<;>cases y<;>first|rfl|simp at h1
theorem zoz:∀a b:List Int,kI a=kI b->a=b
 | [],[],_=>rfl
 | [],_::_,h=>by simp at h
 |_::_,[],h=>by simp at h
 |x::a,y::b,h=>by
  obtain⟨h1,h2⟩:=List.cons.inj (show Sum.inl x::kI a=Sum.inl y::kI b from h);rw[zoz a b h2,Sum.inl.inj h1]
theorem zoM:∀l:List Bool,zbs (bK l)=some (kB l)
 | []=>rfl
 |b::l=>by
  have ih:zco (l.map D.bl)=some (kB l):=zoM l;show(zco (l.map D.bl)).bind _=_;rw[ih];rfl
theorem zov:∀l:List Int,zbs (iK l)=some (kI l)
 | []=>rfl
 |b::l=>by
  have ih:zco (l.map D.int)=some (kI l):=zov l;show(zco (l.map D.int)).bind _=_;rw[ih];rfl
def zec(hr:r.length=n)(hv:InR n v):ixP (zg r) (.int v)=some (.im (.int (rAt r v))):=by
 have hk:v.toNat<r.length:=by rw[hr];have:=hv.1;have:=hv.2;omega
 have g:=zzC hk;have e:rAt r v=r[v.toNat]:=by unfold rAt;rw[g];rfl
 rw[e];have:=ZM (xs:=r.map D.int) (j:=v.toNat) (v:=D.int r[v.toNat]) (by rw[zzG,g];rfl);rw[show((v.toNat:Nat):Int)=v by have:=hv.1;omega]at this;show imR (atI _ _)=_;rw[this];rfl
section
variable{n m:Nat}{J:TZ}{e:Int}{Ds:DZ}{S:SS}{Rs:TZ}
abbrev C5(A:D)(n:Nat)(Rs:TZ)(e3 e4:Option O):AS:=[sT A,sT (zg (zY n)),sT (zx (zY n::Rs)),e3,e4]
abbrev fnF:EF:=zM (aC (zB (yU zq) [none,some 3,some 2] ye zX (fP (aC (zB (yU zE) [none,some 1,some 0] ye zX (f2 zq (f2 zm zE ixP) ixP)) aN) tupP)) aN) v4
def znv(n8:n<=8)(hl:Rs.length<=60)(hR:∀q ∈ Rs,Row n q)(h:Nb n S Rs k r):∃r',Nb n S Rs (k+1) r'/\WE fnF (C5 A n Rs (sT (zg r)) e4) (zg r'):=by
 refine⟨_,Nb.mk' (zsa hR h), ?_⟩;have w:=wY (as:=C5 A n Rs (sT (zg r)) e4) (h:=λa=>iK (key (zY n::Rs) r a)) (it:=λx:Int=>(true,D.int x)) (cap:=[none,some 3,some 2]) (gg:=gN 0) (fe:=fP (aC (zB (yU zE) [none,some 1,some 0] ye zX (f2 zq (f2 zm zE ixP) ixP)) aN) tupP) (zY n) (Yc (g:=D.int) (f:=fV 1) (WD.e (za (i:=1) rfl))) (by rw[zD,zyS];omega) λa ma=>by
  have ha:=ww ma;have wi:=wY (as:=[sI a,sT (zg r),sT (zx (zY n::Rs))]) (h:=λq=>D.int (rAt r (rAt q a))) (it:=λq:List Int=>(true,zg q)) (cap:=[none,some 1,some 0]) (gg:=gN 0) (fe:=f2 zq (f2 zm zE ixP) ixP) (zY n::Rs) (Yc (g:=zg) (f:=fV 2) (WD.e (za (i:=2) rfl))) (by rw[zzR];omega) λq mq=>by
   have hq:Row n q:=by
    rcases zzA.mp mq with rfl|mq
    · exact⟨by rw[zD,zyS],λx mx=>ww mx⟩
    · exact hR q mq
   exact⟨[sT (zg q),sT (zg r),sI a],rfl,WD.e (zG (za (i:=1) rfl) (zG (za (i:=0) rfl) (za (i:=2) rfl) (rowAt hq ha).1 rfl) (zec h.ln (rowAt hq ha).2) rfl)⟩
  refine⟨[sI a,sT (zg r),sT (zx (zY n::Rs))],rfl, ?_⟩;have:=zlh (g:=tupP) (z:=.tup ((zY n::Rs).map λq=>D.int (rAt r (rAt q a)))) wi rfl;rw[show iK (key (zY n::Rs) r a) = .tup ((zY n::Rs).map λq=>D.int (rAt r (rAt q a))) by show D.tup (((zY n::Rs).map λq=>rAt r (rAt q a)).map D.int)=_;rw[zzZ];rfl];exact this
 rw[show((zY n).map λa=>iK (key (zY n::Rs) r a))=((zY n).map (key (zY n::Rs) r)).map iK from(zzZ (f:=key (zY n::Rs) r) (g:=iK)).symm]at w;have nm:=zcv (toK:=iK) (kk:=kI) (λ_=>rfl) zoz zov true ((zY n).map (key (zY n::Rs) r)) (by simp only[zD,zyS];omega);rw[zzZ (f:=key (zY n::Rs) r) (g:=λa=>((pos (ded [] ((zY n).map (key (zY n::Rs) r))) a:Nat):Int))]at nm;exact vG w nm
end
theorem zgw:∀a b:List Int,eqF 60 (zg a) (zg b)=some (decide (a=b))
 | [],[]=>rfl
 | [],_::_=>rfl
 |_::_,[]=>rfl
 |x::a,y::b=>by
  have ih:eqL (eqF 59) (a.map D.int) (b.map D.int)=some (decide (a=b)):=zgw a b;show(some (x==y)).bind (λc=>(eqL (eqF 59) (a.map D.int) (b.map D.int)).bind λd=>some (c&&d))=_;rw[ih];show some ((x==y)&&decide (a=b))=_
  by_cases h1:x=y<;>by_cases h2:a=b<;>simp[h1,h2]
section
variable{n m:Nat}{J:TZ}{e:Int}{Ds:DZ}{S:SS}{Rs:TZ}
abbrev cnT:TF:=fT (f2 yj zP (zR .NotEq))
abbrev cnB:SF:=(zy (zL true 3 yj) (zL true 4 fnF))
def zur(n8:n<=8)(hl:Rs.length<=60)(hR:∀q ∈ Rs,Row n q)(s0:PP.St (hld S) rAt (λr=>r ∈ Rs) n k0):∀(d k f:Nat) (r r':List Int),k+d=k0->d<f->Nb n S Rs k r->Nb n S Rs (k+1) r'->∃k1 r1 e4,whL cnT cnB f (C5 A n Rs (sT (zg r)) (sT (zg r')))=some (.nx (C5 A n Rs (sT (zg r1)) e4))/\Nb n S Rs k1 r1/\PP.St (hld S) rAt (λr=>r ∈ Rs) n k1:=by
 intro d
 induction d with
 |zero=>
  intro k f r r' hk hf h h';have hk:k=k0:=hk;subst hk;have e:=h.same h' s0;subst e;obtain⟨f,rfl⟩:∃g,f=g+1:=⟨f-1,by omega⟩;have t:WT cnT (C5 A n Rs (sT (zg r')) (sT (zg r'))) false:=yc (zlc (c:=true) (za (i:=4) rfl) (za (i:=3) rfl) (by rw[zgw,zyM rfl])) rfl;exact⟨k,r',_,zjT t,h,s0⟩
 |succ d ih=>
  intro k f r r' hk hf h h';obtain⟨f,rfl⟩:∃g,f=g+1:=⟨f-1,by omega⟩;have tw:=zlc (as:=C5 A n Rs (sT (zg r)) (sT (zg r'))) (za (i:=4) rfl) (za (i:=3) rfl) (zgw r' r)
  by_cases q:r'=r
  · subst q;rw[zyM rfl]at tw;exact⟨k,r',_,zjT (yc tw rfl),h,h.st h'⟩
  · rw[zyE q]at tw;obtain⟨r2,h2,w2⟩:=znv (A:=A) (e4:=sT (zg r')) n8 hl hR h';obtain⟨k1,r1,e4,hw,n1,n2⟩:=ih (k+1) f r' r2 (by omega) (by omega) h' h2;exact⟨k1,r1,e4,zmy (yc tw rfl) (ym (yE (i:=3) (za (i:=4) rfl) (zp rfl)) (xZ (p:=4) w2 (zp rfl))) hw,n1,n2⟩
def zmw(A:Alg n m J e Ds)(hS:Sg S):∃(Rs:TZ) (k:Nat) (r:List Int),(∀q ∈ Rs,Row n q)/\(∀x,InR n x->tR J x ∈ Rs/\col J x ∈ Rs)/\(∀p ∈ Ds,∀c,InR m c->tR p.2 c ∈ Rs)/\Nb n S Rs k r/\PP.St (hld S) rAt (λr=>r ∈ Rs) n k/\RE (vA [(true,zA n m J e Ds S)]) (zg r):=by
 have n1:=A.n1;have n8:=A.n8;obtain⟨sts,sl,hg,hx,hd,hst⟩:=zhc (S:=S) A;have hR:∀q ∈ sts.map (·.2),Row n q:=λq mq=>by
  obtain⟨p,mp,rfl⟩:=zxC.mp mq;exact hg p mp
 obtain⟨k0,hk0,st0⟩:=PP.stable (H:=hld S) (f:=rAt) (P:=λr=>r ∈ sts.map (·.2)) n1;have w1:WE (fP (aC (f2 zm yo ixP) aN) lrP) [sT (zA n m J e Ds S),none,none,none,none] (zg (zY n)):=⟨_,zgZ (x:=.int n) (g:=lrP) (zs:=(zY n).map D.int) (WD.e (yG (za (i:=0) rfl) zb rfl)) (by
  show(if(0:Int)<=n/\(n:Int)<=100000 then _ else _)=_;rw[if_pos ⟨by omega,by omega⟩,zzZ];rfl),zfI _,congrArg D.lst (zfu _)⟩
 have s1:=xZ (p:=1) w1 (zp rfl);have wr:=wY (as:=[sT (zA n m J e Ds S),sT (zg (zY n)),none,none,none]) (h:=λq:D×List Int=>zg q.2) (it:=λq=>(true,stD q)) (cap:=[none,none]) (gg:=gT 2 (gsC ye (gsC (gN 1) gsN))) (fe:=fV 1) (fi:=yU (zM xR Z6)) sts (Yc (g:=stD) (vG (WD.e (za (i:=0) rfl)) hst)) (by omega) λq _=>⟨[sT q.1,sT (zg q.2)],by
  have k:kids true [q.1,zg q.2]=[(true,q.1),(true,zg q.2)]:=by
   show[(zZ q.1||true,q.1),(zZ (zg q.2)||true,zg q.2)]=_;rw[zyB,zyB]
  unfold gT;simp only[stD,k];rfl,WD.e (za (i:=1) rfl)⟩
 have s2:=xZ (p:=2) (zsW (wM (x:=.lst [zg (zY n)]) (os:=[.lf true (zg (zY n))]) (zf (za (as:=[sT (zA n m J e Ds S),sT (zg (zY n)),none,none,none]) (i:=1) rfl) zU) (szl rfl) rfl rfl) wr (add_lists (szs (by rw[zD];show 1+_<=_;omega)))) (zp rfl);rw[show[zg (zY n)]++sts.map (λq:D×List Int=>zg q.2)=(zY n::sts.map (·.2)).map zg by rw[zyQ,zzZ];rfl]at s2;have wk:=wY (as:=C5 (zA n m J e Ds S) n (sts.map (·.2)) none none) (h:=λv=>bK (hld S v)) (it:=λx:Int=>(true,D.int x)) (cap:=[none,some 0]) (gg:=gN 0) (fe:=zM (aC zq xR) Xk) (fi:=yU zq) (zY n) (Yc (g:=D.int) (f:=fV 1) (WD.e (za (i:=1) rfl))) (by rw[zD,zyS];omega) λv _=>⟨[sI v,sT (zA n m J e Ds S)],rfl,Wv (WD.e (za (i:=1) rfl)) (WD.e (za (i:=0) rfl)) (ziu hS.1)⟩;rw[show((zY n).map λv=>bK (hld S v))=((zY n).map (hld S)).map bK from(zzZ (f:=hld S) (g:=bK)).symm]at wk;have nm:=zcv (toK:=bK) (kk:=kB) (λ_=>rfl) zmO zoM true ((zY n).map (hld S)) (by simp only[zD,zyS];omega);rw[zzZ (f:=hld S) (g:=λa=>((pos (ded [] ((zY n).map (hld S))) a:Nat):Int))]at nm;have N0:Nb n S (sts.map (·.2)) 0 ((zY n).map λa=>((pos (ded [] ((zY n).map (hld S))) (hld S a):Nat):Int)):=Nb.mk' (g:=hld S) λi _ j _=>(PP.Ek.zero (H:=hld S) (f:=rAt) (P:=λr=>r ∈ sts.map (·.2))).symm;have s3:=xZ (p:=3) (vG wk nm) (zp rfl);obtain⟨r1,h1,w4⟩:=znv (A:=zA n m J e Ds S) (e4:=none) n8 (by rw[zD];exact sl) hR N0;have s4:=xZ (p:=4) w4 (zp rfl);obtain⟨k1,r,e4,hw,hb,hs⟩:=zur (A:=zA n m J e Ds S) n8 (by rw[zD];exact sl) hR st0 k0 0 10000 _ r1 (zyW _) (by omega) N0 h1;refine⟨sts.map (·.2),k1,r,hR,λx hxx=>⟨zxC.mpr ⟨_,(hx x hxx).1,rfl⟩,zxC.mpr ⟨_,(hx x hxx).2,rfl⟩⟩,λp mp c hc=>zxC.mpr ⟨_,hd p mp c hc,rfl⟩,hb,hs,yM rfl (zj s1 (zj s2 (zj s3 (zj s4 (zj hw (yK (WD.e (za (i:=3) rfl))))))))⟩
end
section
variable{α:Type}[DecidableEq α]
theorem zgP:∀(l K:List α),K.Nodup->(ded K l).Nodup
 | [],_,h=>h
 |a::l,K,h=>by
  unfold ded
  by_cases e:a ∈ K
  · rw[if_pos e];exact zgP l K h
  · rw[if_neg e];exact zgP l _ (zxD.mpr ⟨h,by simp,λx mx y my=>by rw[zzP.mp my];exact λz=>e (z ▸ mx)⟩)
theorem zhn:∀(l K:List α),b ∈ ded K l->b ∈ K\/b ∈ l
 | [],_,h=>.inl h
 |a::l,K,h=>by
  unfold ded at h
  split at h
  · exact(zhn l K h).imp id λz=>zzB _ z
  · rcases zhn l _ h with z|z
    · rcases zzK.mp z with z|z
      · exact .inl z
      · rw[zzP.mp z];exact .inr (zzD ..)
    · exact .inr (zzB _ z)
theorem zmD:∀{K:List α},a ∈ K->pos K a<K.length
 | [],h=>nomatch h
 |x::K,h=>by
  unfold pos
  by_cases e:x=a
  · rw[if_pos e];exact Nat.succ_pos _
  · rw[if_neg e];exact Nat.succ_lt_succ (zmD ((zzA.mp h).resolve_left λz=>e z.symm))
theorem znb:∀{K:List α}{k:Nat}{a:α},K.Nodup->K[k]? = some a->pos K a=k
 | [],_,_,_,h=>by simp at h
 |x::K,0,a,_,h=>by
  have:x=a:=zzX h;unfold pos;rw[if_pos this]
 |x::K,k+1,a,nd,h=>by
  have h1:K[k]? = some a:=h;have:x≠a:=λz=>(zzU.mp nd).1 (z ▸ zzY h1);unfold pos;rw[if_neg this,znb (zzU.mp nd).2 h1]
end
section
variable{n:Nat}{S:SS}{Rs:TZ}{k:Nat}{r:List Int}
def Nb.cnt(h:Nb n S Rs k r):∃c:Nat,c<=n/\(∀v,InR n v->InR c (rAt r v))/\∀x,InR c x->∃v,InR n v/\rAt r v=x:=by
 have e:=h.cn (rAt r) λi mi j mj=>h.eq i j (ww mi) (ww mj);have at_:∀v,InR n v->rAt r v=((pos (ded [] ((zY n).map (rAt r))) (rAt r v):Nat):Int):=λv hv=>by
  conv=>lhs;rw[e]
  rw[zdd hv]
 refine⟨(ded [] ((zY n).map (rAt r))).length, ?_,λv hv=>?_,λx hx=>?_⟩
 · have:=zhh ((zY n).map (rAt r)) [];rw[zD,zD,zyS]at this;simpa using this
 · have:=zmD (zdV ((zY n).map (rAt r)) [] (List.mem_map_of_mem (f:=rAt r) (Wk hv)));rw[at_ v hv];exact⟨by omega,by omega⟩
 · have h0:=hx.1;have h1:=hx.2;have g:=zzC (l:=ded [] ((zY n).map (rAt r))) (i:=x.toNat) (by omega);have p:=znb (zgP ((zY n).map (rAt r)) [] zyH) g
   rcases zhn _ _ (zzY g)with z|z
   · exact nomatch z
   · obtain⟨v,mv,ev⟩:=zxC.mp z;refine⟨v,ww mv, ?_⟩;rw[at_ v (ww mv),ev,p];omega
end
theorem zhX:∀(l K:List Int),l.foldl step_dedup K=ded K l
 | [],_=>rfl
 |a::l,K=>by
  show l.foldl step_dedup (step_dedup K a)=ded K (a::l);unfold ded;rw[zhX l];unfold step_dedup;have e:(K.any (· == a))=decide (a ∈ K):=by
   by_cases h:a ∈ K
   · rw[zyM h,List.any_eq_true];exact⟨a,h,by simp⟩
   · rw[zyE h,List.any_eq_false];exact λx mx z=>h (by rw[<-eq_of_beq z];exact mx)
  rw[e]
  by_cases h:a ∈ K
  · rw[zyM h,if_pos rfl,if_pos h]
  · rw[zyE h,if_neg (by decide),if_neg h]
def ztc(h1:∀x ∈ r,InR c x)(h2:∀x,InR c x->x ∈ r):zbP r=c:=by
 unfold zbP;rw[zhX];have nd:=zgP r [] zyH;have s1:ded [] r ⊆ zY c:=λx mx=>Wk (h1 x ((zhn r [] mx).elim (λz=>nomatch z) id));have s2:zY c ⊆ ded [] r:=λx mx=>zdV r [] (h2 x (ww mx));have nr:(zY c).Nodup:=List.Pairwise.map _ (λa b h z=>h (Int.ofNat_inj.mp z)) List.nodup_range;have l1:=nd.length_le_of_subset s1;have l2:=nr.length_le_of_subset s2;rw[zD,zyS]at l1 l2;omega
def ixF(r:List Int)(b:Int):Int:=(((zbn (λy=>eqF 50 y (.int b)) (r.map D.int)).getD 0:Nat):Int)
def zjE(hl:r.length=n)(hb:b ∈ r):InR n (ixF r b)/\rAt r (ixF r b)=b/\zbn (λy=>eqF 50 y (.int b)) (r.map D.int)=some (ixF r b).toNat:=by
 obtain⟨j,j1,j2,j3⟩:=zds hb;have e:ixF r b=(j:Int):=by unfold ixF;rw[j3];rfl
 rw[e,zyG];refine⟨⟨by omega,by omega⟩, ?_,j3⟩;unfold rAt;rw[zyG,j2];rfl
section
variable{n:Nat}{S:SS}{Rs:TZ}{k c:Nat}{r:List Int}
def zme(n8:n<=8)(hl:r.length=n)(h1:∀v,InR n v->InR c (rAt r v))(h2:∀x,InR c x->∃v,InR n v/\rAt r v=x)(cn:c<=n)(hs:as[1]? = some (sT (zg r)))(hc:vI [none,some 1] as=[none,sT (zg r)]):
 WE (zB (yp (aC (fP xx lsP) aN) yq) [none,some 1] ye zX (Z1 .lst zq xR ZR)) as (zg ((zY c).map (ixF r)))/\∀x,InR c x->InR n (ixF r x)/\rAt r (ixF r x)=x:=by
 have mem:∀x,InR c x->x ∈ r:=λx hx=>by
  obtain⟨v,hv,e⟩:=h2 x hx;have hk:v.toNat<r.length:=by have:=hv.1;have:=hv.2;omega
  have:rAt r v=r[v.toNat]:=by unfold rAt;rw[zzC hk];rfl
  rw[<-e,this];exact zyY hk
 have inn:∀x ∈ r,InR c x:=λx mx=>by
  obtain⟨i,hi⟩:=List.mem_iff_getElem?.mp mx;have hk:=(zzE.mp hi).1;have:=h1 (i:Int) ⟨by omega,by omega⟩;unfold rAt at this;rw[zyG,hi]at this;exact this
 have dc:=ztc inn mem;have ls:WD (fP xx lsP) as true (.int (c:Nat)):=by
  refine wD (zu (za (i:=1) hs) zJ) ?_ rfl;show((Zt (r.map D.int)).bind λss=>if ss.length<=1000 then some (R0.im (.int (zbP ss)))else none)=_;have:Zt (r.map D.int)=some r:=by
   clear dc inn mem h1 h2 hl hs hc
   induction r with
   |nil=>rfl
   |cons x r ih=>show(Zt (r.map D.int)).bind _=_;rw[ih];rfl
  rw[this];show(if r.length<=1000 then _ else _)=_;rw[if_pos (by omega),dc]
 have w:=wY (as:=as) (h:=λx=>D.int (ixF r x)) (it:=λx:Int=>(true,D.int x)) (cap:=[none,some 1]) (gg:=gN 0) (fe:=Z1 .lst zq xR ZR) (fi:=yp (aC (fP xx lsP) aN) yq) (zY c) (znr (zu ls zJ) (by omega)) (by rw[zD,zyS];omega) λx mx=>by
  rw[hc];obtain⟨a1,a2,a3⟩:=zjE hl (mem x (ww mx));refine⟨[sI x,sT (zg r)],rfl,WD.e (zde (za (i:=1) rfl) rfl (zu (za (i:=0) rfl) zJ) ?_ rfl)⟩;show(zbn _ (r.map D.int)).bind _=_;rw[a3];show(if(r.map D.int).length<=1000 then some (R0.im (.int ((ixF r x).toNat:Nat)))else none)=_;rw[if_pos (by rw[zD];omega),show(((ixF r x).toNat:Nat):Int)=ixF r x by have:=a1.1;omega]
 rw[show((zY c).map λx=>D.int (ixF r x))=((zY c).map (ixF r)).map D.int from(zzZ (f:=ixF r) (g:=D.int)).symm]at w;exact⟨w,λx hx=>⟨(zjE hl (mem x hx)).1,(zjE hl (mem x hx)).2.1⟩⟩
end
section
variable{n m c:Nat}{J:TZ}{e:Int}{Ds:DZ}{S:SS}{r:List Int}
abbrev cH(r:List Int)(c:Nat):List Int:=(zY c).map (ixF r)
abbrev lJ(J:TZ)(r:List Int)(c:Nat):TZ:=(cH r c).map λa=>(cH r c).map λb=>rAt r (jAt J a b)
abbrev lD(Ds:DZ)(r:List Int)(c:Nat):DZ:=Ds.map λp=>(p.1,p.2.map λq=>(cH r c).map λa=>rAt r (rAt q a))
abbrev lS(S:SS)(r:List Int)(c:Nat):SS:=S.map λp=>(p.1,((cH r c).filter λa=>decide (a ∈ p.2)).map (rAt r))
def zmd(A:Alg n m J e Ds)(L:LawA n m J e Ds)(hS:Sg S)(hn:RE (vA [(true,zA n m J e Ds S)]) (zg r))(hl:r.length=n)(h1:∀v,InR n v->InR c (rAt r v))(h2:∀x,InR c x->∃v,InR n v/\rAt r v=x)(cn:c<=n):RE (yH [(true,zA n m J e Ds S)]) (.tup [zA c m (lJ J r c) (rAt r e) (lD Ds r c) (lS S r c),zg r]):=by
 have n8:=A.n8;have m6:=A.m6;have dl:=A.dl;have s0:yF (zM xR yP) [sT (zA n m J e Ds S),none,none,none,none,none]=some (.nx [sT (zA n m J e Ds S),none,none,none,none,none]):=by
  have:zM xR yP [sT (zA n m J e Ds S),none,none,none,none,none]=some (.ow (.lf true .non),[sT (zA n m J e Ds S),none,none,none,none,none]):=Z3 (zu (za (i:=0) rfl) zJ) (zoj A L);unfold yF;rw[this];rfl
 have s1:=xZ (p:=1) (as:=[sT (zA n m J e Ds S),none,none,none,none,none]) (vG (WD.e (za (i:=0) rfl)) hn) (zp rfl);obtain⟨w2,hc⟩:=zme (as:=[sT (zA n m J e Ds S),sT (zg r),none,none,none,none]) n8 hl h1 h2 cn rfl rfl;have s2:=xZ (p:=2) w2 (zp rfl);have cl:(cH r c).length=c:=by rw[zD,zD,zyS]
 have ci:∀a ∈ cH r c,InR n a:=λa ma=>by
  obtain⟨x,mx,rfl⟩:=zxC.mp ma;exact(hc x (ww mx)).1
 have he:InR n e:=⟨A.e0,A.en⟩;have w3:WE (zB (yU zE) [none,some 1,some 2,some 0] ye zX (zB (yU zE) [none,some 1,some 0,some 3] ye zX (f2 zq (f2 (f2 (f2 zP yD ixP) zE ixP) zm ixP) ixP))) [sT (zA n m J e Ds S),sT (zg r),sT (zg (cH r c)),none,none,none] (zx (lJ J r c)):=by
  have w:=wY (as:=[sT (zA n m J e Ds S),sT (zg r),sT (zg (cH r c)),none,none,none]) (h:=λa=>zg ((cH r c).map λb=>rAt r (jAt J a b))) (it:=λx:Int=>(true,D.int x)) (cap:=[none,some 1,some 2,some 0]) (gg:=gN 0) (fe:=zB (yU zE) [none,some 1,some 0,some 3] ye zX (f2 zq (f2 (f2 (f2 zP yD ixP) zE ixP) zm ixP) ixP)) (cH r c) (Yc (g:=D.int) (f:=fV 2) (WD.e (za (i:=2) rfl))) (by rw[cl];omega) λa ma=>by
   have wi:=wY (as:=[sI a,sT (zg r),sT (zg (cH r c)),sT (zA n m J e Ds S)]) (h:=λb=>D.int (rAt r (jAt J a b))) (it:=λx:Int=>(true,D.int x)) (cap:=[none,some 1,some 0,some 3]) (gg:=gN 0) (fe:=f2 zq (f2 (f2 (f2 zP yD ixP) zE ixP) zm ixP) ixP) (cH r c) (Yc (g:=D.int) (f:=fV 2) (WD.e (za (i:=2) rfl))) (by rw[cl];omega) λb mb=>
    ⟨[sI b,sT (zg r),sI a,sT (zA n m J e Ds S)],rfl,WD.e (zG (za (i:=1) rfl) (ZQ A.j (ci a ma) (ci b mb) (yG (za (i:=3) rfl) zb rfl) (za (i:=2) rfl) (za (i:=0) rfl)) (zec hl (zdX A.j (ci a ma) (ci b mb))) rfl)⟩
   rw[show((cH r c).map λb=>D.int (rAt r (jAt J a b)))=((cH r c).map λb=>rAt r (jAt J a b)).map D.int from(zzZ (f:=λb=>rAt r (jAt J a b)) (g:=D.int)).symm]at wi;exact⟨[sI a,sT (zg r),sT (zg (cH r c)),sT (zA n m J e Ds S)],rfl,wi⟩
  rw[show((cH r c).map λa=>zg ((cH r c).map λb=>rAt r (jAt J a b)))=(lJ J r c).map zg from(zzZ (f:=λa=>(cH r c).map λb=>rAt r (jAt J a b)) (g:=zg)).symm]at w;exact w
 have s3:=xZ (p:=3) w3 (zp rfl);have w4:WE (zB (yU (f2 zm vJ ixP)) [none,none,some 1,some 2] (gT 2 (gsC ye (gsC (gN 1) gsN))) zX (yw (dC zm (dC (zB (yU zq) [none,some 2,some 3] ye zX (zB (yU zE) [none,some 1,some 0] ye zX (f2 zq (f2 zE zm ixP) ixP))) dN)))) [sT (zA n m J e Ds S),sT (zg r),sT (zg (cH r c)),sT (zx (lJ J r c)),none,none] (.lst ((lD Ds r c).map yz)):=by
  have w:=wY (as:=[sT (zA n m J e Ds S),sT (zg r),sT (zg (cH r c)),sT (zx (lJ J r c)),none,none]) (h:=λp=>yz (p.1,p.2.map λq=>(cH r c).map λa=>rAt r (rAt q a))) (it:=λp:Str×TZ=>(true,yz p)) (cap:=[none,none,some 1,some 2]) (gg:=gT 2 (gsC ye (gsC (gN 1) gsN))) (fe:=yw (dC zm (dC (zB (yU zq) [none,some 2,some 3] ye zX (zB (yU zE) [none,some 1,some 0] ye zX (f2 zq (f2 zE zm ixP) ixP))) dN))) (fi:=yU (f2 zm vJ ixP)) Ds (Yc (g:=yz) (WD.e (yG (za (i:=0) rfl) zb rfl))) (by omega) λp mp=>by
   have hT:=A.ds p mp;have wi:=wY (as:=[sT (.str p.1),sT (zx p.2),sT (zg r),sT (zg (cH r c))]) (h:=λq=>zg ((cH r c).map λa=>rAt r (rAt q a))) (it:=λq:List Int=>(true,zg q)) (cap:=[none,some 2,some 3]) (gg:=gN 0) (fe:=zB (yU zE) [none,some 1,some 0] ye zX (f2 zq (f2 zE zm ixP) ixP)) p.2 (Yc (g:=zg) (f:=fV 1) (WD.e (za (i:=1) rfl))) (by rw[hT.1];omega) λq mq=>by
    have wj:=wY (as:=[sT (zg q),sT (zg r),sT (zg (cH r c))]) (h:=λa=>D.int (rAt r (rAt q a))) (it:=λx:Int=>(true,D.int x)) (cap:=[none,some 1,some 0]) (gg:=gN 0) (fe:=f2 zq (f2 zE zm ixP) ixP) (cH r c) (Yc (g:=D.int) (f:=fV 2) (WD.e (za (i:=2) rfl))) (by rw[cl];omega) λa ma=>
     ⟨[sI a,sT (zg r),sT (zg q)],rfl,WD.e (zG (za (i:=1) rfl) (zG (za (i:=2) rfl) (za (i:=0) rfl) (rowAt (hT.2 q mq) (ci a ma)).1 rfl) (zec hl (rowAt (hT.2 q mq) (ci a ma)).2) rfl)⟩
    rw[show((cH r c).map λa=>D.int (rAt r (rAt q a)))=((cH r c).map λa=>rAt r (rAt q a)).map D.int from(zzZ (f:=λa=>rAt r (rAt q a)) (g:=D.int)).symm]at wj;exact⟨[sT (zg q),sT (zg r),sT (zg (cH r c))],rfl,wj⟩
   rw[show(p.2.map λq=>zg ((cH r c).map λa=>rAt r (rAt q a)))=(p.2.map λq=>(cH r c).map λa=>rAt r (rAt q a)).map zg from(zzZ (f:=λq=>(cH r c).map λa=>rAt r (rAt q a)) (g:=zg)).symm]at wi;exact⟨[sT (.str p.1),sT (zx p.2),sT (zg r),sT (zg (cH r c))],rfl,Yk (WD.e (za (i:=0) rfl)) wi⟩
  rw[show(Ds.map λp=>yz (p.1,p.2.map λq=>(cH r c).map λa=>rAt r (rAt q a)))=(lD Ds r c).map yz from(zzZ (f:=λp:Str×TZ=>(p.1,p.2.map λq=>(cH r c).map λa=>rAt r (rAt q a))) (g:=yz)).symm]at w;exact w
 have s4:=xZ (p:=4) w4 (zp rfl);have w5:WE (zB (yU (f2 zm zcO ixP)) [none,none,some 1,some 2] (gT 2 (gsC ye (gsC (gN 1) gsN))) zX (yw (dC zm (dC (zB (yU zP) [none,some 2,some 1] ye (fT (f2 zm zE (zR .In))) (f2 zq zm ixP)) dN)))) [sT (zA n m J e Ds S),sT (zg r),sT (zg (cH r c)),sT (zx (lJ J r c)),sT (.lst ((lD Ds r c).map yz)),none] (.lst ((lS S r c).map yO)):=by
  have w:=wY (as:=[sT (zA n m J e Ds S),sT (zg r),sT (zg (cH r c)),sT (zx (lJ J r c)),sT (.lst ((lD Ds r c).map yz)),none]) (h:=λp=>yO (p.1,((cH r c).filter λa=>decide (a ∈ p.2)).map (rAt r))) (it:=λp:Str×List Int=>(true,yO p)) (cap:=[none,none,some 1,some 2]) (gg:=gT 2 (gsC ye (gsC (gN 1) gsN))) (fe:=yw (dC zm (dC (zB (yU zP) [none,some 2,some 1] ye (fT (f2 zm zE (zR .In))) (f2 zq zm ixP)) dN))) (fi:=yU (f2 zm zcO ixP)) S (Yc (g:=yO) (WD.e (yG (za (i:=0) rfl) zb rfl))) (by have:=hS.1;omega) λp mp=>by
   have wj:=zrY (as:=[sT (.str p.1),sT (zg p.2),sT (zg r),sT (zg (cH r c))]) (h:=λa=>D.int (rAt r a)) (p:=λa=>decide (a ∈ p.2)) (it:=λx:Int=>(true,D.int x)) (cap:=[none,some 2,some 1]) (gg:=gN 0) (tt:=fT (f2 zm zE (zR .In))) (fe:=f2 zq zm ixP) (cH r c) (Yc (g:=D.int) (f:=fV 3) (WD.e (za (i:=3) rfl))) (by rw[cl];omega) λa ma=>
    ⟨[sI a,sT (zg r),sT (zg p.2)],rfl,yc (zrl (za (i:=0) rfl) (za (i:=2) rfl)) rfl,λ_=>WD.e (zG (za (i:=1) rfl) (za (i:=0) rfl) (zec hl (ci a ma)) rfl)⟩
   rw[show(((cH r c).filter λa=>decide (a ∈ p.2)).map λa=>D.int (rAt r a))=(((cH r c).filter λa=>decide (a ∈ p.2)).map (rAt r)).map D.int from(zzZ (f:=rAt r) (g:=D.int)).symm]at wj;exact⟨[sT (.str p.1),sT (zg p.2),sT (zg r),sT (zg (cH r c))],rfl,Yk (WD.e (za (i:=0) rfl)) wj⟩
  rw[show(S.map λp=>yO (p.1,((cH r c).filter λa=>decide (a ∈ p.2)).map (rAt r)))=(lS S r c).map yO from(zzZ (f:=λp:Str×List Int=>(p.1,((cH r c).filter λa=>decide (a ∈ p.2)).map (rAt r))) (g:=yO)).symm]at w;exact w
 have s5:=xZ (p:=5) w5 (zp rfl);have wl:WD (fP Xc ZP) [sT (zA n m J e Ds S),sT (zg r),sT (zg (cH r c)),sT (zx (lJ J r c)),sT (.lst ((lD Ds r c).map yz)),sT (.lst ((lS S r c).map yO))] true (.int (c:Nat)):=by
  have:=wD (g:=ZP) (x:=.int (((cH r c).map D.int).length:Nat)) (zu (za (as:=[sT (zA n m J e Ds S),sT (zg r),sT (zg (cH r c)),sT (zx (lJ J r c)),sT (.lst ((lD Ds r c).map yz)),sT (.lst ((lS S r c).map yO))]) (i:=2) rfl) zJ) rfl rfl;rw[zD,cl]at this;exact this
 exact yM rfl (zj s0 (zj s1 (zj s2 (zj s3 (zj s4 (zj s5 (yK (Yk (zcT (os:=[lfI c,lfI m,.lf true (zx (lJ J r c)),lfI (rAt r e),.lf true (.lst ((lD Ds r c).map yz)),.lf true (.lst ((lS S r c).map yO))]) (zf wl (zf (zG (za (i:=0) rfl) zb rfl rfl) (zf (za (i:=3) rfl) (zf (zG (za (i:=1) rfl) (zG (za (i:=0) rfl) zb rfl rfl) (zec hl he) rfl) (zf (za (i:=4) rfl) (zf (za (i:=5) rfl) zU)))))) (szl rfl) rfl rfl) (WD.e (za (i:=1) rfl))))))))))
end
def znN{n m:Nat}{J:TZ}{e:Int}{Ds:DZ}{S:SS}(A:Alg n m J e Ds)(L:LawA n m J e Ds)(hS:Sg S):∃(c:Nat) (r:List Int),1<=c/\c<=n/\RE (yH [(true,zA n m J e Ds S)]) (.tup [zA c m (lJ J r c) (rAt r e) (lD Ds r c) (lS S r c),zg r]):=by
 obtain⟨_,_,r,_,_,_,nb,_,hn⟩:=zmw A hS;obtain⟨c,cn,h1,h2⟩:=nb.cnt;have i0:=(h1 e ⟨A.e0,A.en⟩).1;have i1:=(h1 e ⟨A.e0,A.en⟩).2;exact⟨c,r,by omega,cn,zmd A L hS hn nb.ln h1 h2 cn⟩
section
variable{n m:Nat}{J:TZ}{e:Int}{Ds:DZ}{S:SS}{ds:List D}
def zhf(h:t.or t'=some ds):t=some ds\/t'=some ds:=by
 cases t with
 |none=>exact .inr h
 |some x=>exact .inl h
def zbK(h:fs n t=some ds):∃b,InR n b/\t b=some ds:=by
 obtain⟨i,mi,hi⟩:=List.exists_of_findSome?_eq_some h;have:=List.mem_range.mp mi;exact⟨i,⟨by omega,by omega⟩,hi⟩
def kZ(hk:k<=8)(h:InR k a):pOk (.int a)=true:=by
 refine zyM ?_;have h1:=Nat.log2_le_self a.natAbs;have h2:=h.1;have h3:=h.2;omega
def kN(h:ztm s):pOk (.str s)=true:=by
 show(s.cps.toList.all (λc=>decide (c<16 ^ 8))&&decide (s.length<=100))=true;rw[zyA];refine⟨List.all_eq_true.mpr λc mc=>zyM ?_,zyM h.1⟩;exact Nat.lt_trans (h.2 c mc).2 (by decide)
def kif{q:Bool}{xs ds:List D}(h:(if q=true then some xs else none)=some ds)(hl:xs.length<=10)(g:xs.all pOk=true):Z2 (.tup ds)=true:=by
 cases q with
 |true=>
  cases h;show(decide (xs.length<=10)&&xs.all pOk)=true;rw[g,zyM hl];rfl
 |false=>cases h
def zrc(A:Alg n m J e Ds)(nk:Nk Ds)(h:tW n m J e Ds=some ds):Z2 (.tup ds)=true:=by
 have n8:=A.n8;have m8:m<=8:=zzM A.m6 (by decide)
 rcases zhf h with h|h
 · rcases zhf h with h|h
   · obtain⟨a,ha,h⟩:=zbK h;refine kif h (Nat.le_of_ble_eq_true rfl) ?_;simp only[List.all_cons,List.all_nil,kZ n8 ha,Bool.and_true];decide +kernel
   · obtain⟨a,ha,h⟩:=zbK h;obtain⟨b,hb,h⟩:=zbK h;obtain⟨c,hc,h⟩:=zbK h;refine kif h (Nat.le_of_ble_eq_true rfl) ?_;simp only[List.all_cons,List.all_nil,kZ n8 ha,kZ n8 hb,kZ n8 hc,Bool.and_true];decide +kernel
 · obtain⟨p,hp,h⟩:=List.exists_of_findSome?_eq_some h
   rcases zhf h with h|h
   · refine kif h (Nat.le_of_ble_eq_true rfl) ?_;simp only[List.all_cons,List.all_nil,kN (nk p hp),Bool.and_true];decide +kernel
   · obtain⟨a,ha,h⟩:=zbK h;obtain⟨i,hi,h⟩:=zbK h;obtain⟨b,hb,h⟩:=zbK h;obtain⟨k,hk,h⟩:=zbK h;refine kif h (Nat.le_of_ble_eq_true rfl) ?_;simp only[List.all_cons,List.all_nil,kN (nk p hp),kZ n8 ha,kZ m8 hi,kZ n8 hb,kZ m8 hk,Bool.and_true];decide +kernel
abbrev erD(ds:List D):D:=.er "NotLetBy" "what" (.tup ds)
def zdn{fa:EF}{as:AS}{c an:Str}{d:D}{b:Bool}(h:WD fa as true (.er c an d)):WD (f1 fa (zfk c an b)) as true (.bl b):=by
 have e:zfk c an b (.er c an d)=some (.im (.bl b)):=if_pos ⟨rfl,rfl⟩;unfold WD f1;unfold WD at h;rw[h];show(zfk c an b (.er c an d)).bind _=_;rw[e];rfl
def zrU{fa:EF}{as:AS}{c an:Str}{d:D}(h:WD fa as true (.er c an d)):WD (f1 fa (erP c an)) as true d:=by
 have e:erP c an (.er c an d)=some (.im d):=if_pos ⟨rfl,rfl⟩;unfold WD f1;unfold WD at h;rw[h];show(erP c an (.er c an d)).bind _=_;rw[e];show(if(zZ d||true)=true then some (RV.ow (lfs true d))else none:Option RV).bind _=_;rw[if_pos (zyB _)];show some (RV.ow (O.lf (zZ d||true) d),as)=_;rw[zyB]
def znM(ha:WA fr as rs)(hg:g (rs.map λx=>(zZ x.2||x.1,x.2))=some d):gC fr g as=some (d,as):=by
 unfold gC;unfold WA at ha;rw[ha];show(Yn as _).bind _=_;rw[Yz];show(g _).bind _=_;rw[hg];rfl
def zoD(A:Alg n m J e Ds)(L:tW n m J e Ds=some ds):yP [(true,zA n m J e Ds S)]=none:=by
 have z:=zgB (S:=S) A;rw[L]at z;have h:vY (wK 2 [(true,zA n m J e Ds S)])=none:=ym (xZ (p:=1) (vG (WD.e (za (i:=0) rfl)) z) (zp rfl)) (vV (zom (i:=1) (t:=some ds) rfl) rfl);unfold yP fnR;rw[if_pos (by rfl),h];rfl
def zrV{k l i:Nat}{c1:SF}{tc:TF}{xs:List (Bool×D)}{as1 as2:AS}{d:D}(hl:xs.length=l)(h1:c1 (wK k xs)=some (.nx as1))(h2:tc as1=some (true,as2))(h3:slD as2 i=some d)(h4:Z2 d=true):gX k l i c1 tc xs=some d:=by
 unfold gX;rw[if_pos hl,h1];show((tc as1).bind _)=_;rw[h2];show((slD as2 i).bind _)=_;rw[h3];show(if Z2 d=true then some d else none)=_;rw[if_pos h4]
def zuo{j:Nat}{cn an:Str}{cb c:SF}{gb:GF2}{as as1 as2:AS}{d:D}(h0:(cb as).bind nxA=none)(h1:gb as=some (d,as1))(hj:j<as1.length)(h2:c (as1.set j (some (.lf true (.er cn an d))))=some (.nx as2)):zlu j cn an cb gb c as=some (.nx (as2.set j none)):=by
 unfold zlu;rw[h0];show(gb as).bind _=_;rw[h1];show(if j<as1.length then _ else none)=_;rw[if_pos hj];show((c _).bind _)=_;rw[h2];rfl
def zuR{j:Nat}{cn an:Str}{cb c:SF}{gb:GF2}{as as1:AS}(h0:cb as=some (.nx as1)):zlu j cn an cb gb c as=some (.nx as1):=by
 unfold zlu;rw[h0];rfl
def zpm(A:Alg n m J e Ds)(nk:Nk Ds)(L:tW n m J e Ds=some ds):vO [(true,zA n m J e Ds S)]=some (.tup ds):=by
 have z:=zgB (S:=S) A;rw[L]at z;have s1:=xZ (as:=wK 2 [(true,zA n m J e Ds S)]) (p:=1) (vG (WD.e (za (i:=0) rfl)) z) (zp rfl);have t1:(fT (f2 zq (fC .non) (zR .IsNot))) [sT (zA n m J e Ds S),sT (.tup ds)]=some (true,[sT (zA n m J e Ds S),sT (.tup ds)]):=zom (i:=1) (t:=some ds) rfl;exact zrV rfl s1 t1 rfl (zrc A nk L)
def zkI(ha:WA fr as rs)(hg:g (rs.map λx=>(zZ x.2||x.1,x.2))=none):zM fr g as=none:=by
 unfold zM;unfold WA at ha;rw[ha];show(Yn as _).bind _=_;rw[Yz];show(g _).bind _=_;rw[hg];rfl
def zmo(A:Alg n m J e Ds)(L:tW n m J e Ds=some ds):yH [(true,zA n m J e Ds S)]=none:=by
 have h:zM xR yP (wK 6 [(true,zA n m J e Ds S)])=none:=zkI (rs:=[(true,zA n m J e Ds S)]) (zu (za (i:=0) rfl) zJ) (zoD A L);unfold yH fnR;rw[if_pos (by rfl)];unfold Zq zy yF;rw[h];rfl
def zpX(A:Alg n m J e Ds)(nk:Nk Ds)(L:tW n m J e Ds=some ds):wA [(true,zA n m J e Ds S)]=some (.tup ds):=by
 have h:gC xR vO (wK 6 [(true,zA n m J e Ds S)])=some (.tup ds,_):=znM (rs:=[(true,zA n m J e Ds S)]) (zu (za (i:=0) rfl) zJ) (zpm A nk L);unfold wA gY;rw[if_pos (by rfl),h];rfl
def zks{as:AS}{i k:Nat}{f:EF}{os inner:List O}{d:D}(h1:as[i]? = some (sN os))(h2:os[k]? = some (.nd .ls inner))(hf:WD f (as.set i none) true d)(hl:inner.length<sizeLine):zmU i k (dC f dN) as=some (.nx (as.set i (sN (os.set k (.nd .ls (inner++[.lf true d])))))):=by
 have hi:i<as.length:=(zzE.mp h1).1;unfold zmU;rw[(Xd h1 rfl:slO Ze as i=some os)];show((atO Ze os k).bind _)=_;rw[(YK h2 rfl:atO Ze os k=some inner)];have w:=zf hf (zU (as:=as.set i none));show((dC f dN (as.set i none)).bind _)=_;unfold WO at w;rw[w];show(if inner.length<sizeLine/\i<(as.set i none).length then some (Out.nx ((as.set i none).set i (sN (os.set k (.nd .ls (inner++[.lf true d]))))))else none)=_;rw[if_pos ⟨hl,by rw[zzS];exact hi⟩,List.set_set]
def zhR{as:AS}{i:Nat}{c:Int}{f:EF}{os:List O}{o:O}(h1:as[i]? = some (sN os))(hf:f as=some (.ow o,as))(hc:0<=c)(hl:c.toNat<os.length):zdy i (xC c) f as=some (.nx (as.set i (sN (os.set c.toNat o)))):=by
 unfold zdy;rw[hf];show(if 0<=c then(slO Ze as i).bind _ else none)=_;rw[if_pos hc,(Xd h1 rfl:slO Ze as i=some os)];show(if c.toNat<os.length then _ else none)=_;rw[if_pos hl]
def tO(t:FT)(o:O):List O:=match t with
 |none=>[o,.nd .ls []]
 |some ds=>[.lf true .non,.nd .ls [.lf true (.bl true),.lf true (.bl true),.lf true (.bl false),.lf true (.tup ds)]]
def zkH(A:Alg n m J e Ds)(nk:Nk Ds)(hS:Sg S):∃o,wR [(true,zA n m J e Ds S)]=sN (tO (tW n m J e Ds) o)/\(tW n m J e Ds=none->∃c:Nat,1<=c/\c<=n/\o.str=true/\∃x y J' e' Ds' S',o.toD = .tup [zA c x J' e' Ds' S',y]):=by
 have s1:zL false 1 (yN (dC (fC .non) (dC (yN dN) dN))) [sT (zA n m J e Ds S),none,none]=some (.nx [sT (zA n m J e Ds S),sN [.lf true .non,.nd .ls []],none]):=xg (i:=1) (wy (zf zb (Y8 (wy zU (szl rfl)) zU)) (szl rfl)) (zp rfl);cases q:tW n m J e Ds with
 |none=>
  obtain⟨c,r,c1,cn,o,h1,h2,h3⟩:=znN A (zml A q) hS;have hc:zM xR yH [sT (zA n m J e Ds S),sN [.lf true .non,.nd .ls []],none]=some (.ow o,[sT (zA n m J e Ds S),sN [.lf true .non,.nd .ls []],none]):=Z3 (zu (za (i:=0) rfl) zJ) h1;have s2:=zhR (i:=1) (c:=0) rfl hc (Int.le_refl _) (by show(0:Int).toNat<2;decide);exact⟨o,zaY rfl (ym s1 (ym (zuR s2) (zdg (i:=1) rfl (by show(o.str&&(true&&true))=true;rw[h2];rfl)))),λ_=>⟨c,c1,cn,h2,_,_,_,_,_,_,h3⟩⟩
 |some ds=>
  have hb:((zdy 1 (xC 0) (zM xR yH)) [sT (zA n m J e Ds S),sN [.lf true .non,.nd .ls []],none]).bind nxA=none:=by
   have:=zkI (g:=yH) (as:=[sT (zA n m J e Ds S),sN [.lf true .non,.nd .ls []],none]) (rs:=[(true,zA n m J e Ds S)]) (zu (za (i:=0) rfl) zJ) (zmo A q);unfold zdy;rw[this];rfl
  have hg:gC xR wA [sT (zA n m J e Ds S),sN [.lf true .non,.nd .ls []],none]=some (.tup ds,[sT (zA n m J e Ds S),sN [.lf true .non,.nd .ls []],none]):=znM (rs:=[(true,zA n m J e Ds S)]) (zu (za (i:=0) rfl) zJ) (zpX A nk q);have v2:∀a b,WD zE [a,b,sT (erD ds)] true (erD ds):=λ_ _=>za (i:=2) rfl;have u1:=zhR (as:=[sT (zA n m J e Ds S),sN [.lf true .non,.nd .ls []],sT (erD ds)]) (i:=1) (c:=1) rfl (wy (zf (zdn (b:=true) (v2 _ _)) (zf (zdn (b:=true) (v2 _ _)) zU)) (szl rfl)) (by decide) (by show(1:Int).toNat<2;decide);have u2:=zks (as:=[sT (zA n m J e Ds S),sN [.lf true .non,.nd .ls [.lf true (.bl true),.lf true (.bl true)]],sT (erD ds)]) (i:=1) (k:=1) rfl rfl (zdn (b:=false) (v2 _ _)) (wJ (by decide));have u3:=zks (as:=[sT (zA n m J e Ds S),sN [.lf true .non,.nd .ls [.lf true (.bl true),.lf true (.bl true),.lf true (.bl false)]],sT (erD ds)]) (i:=1) (k:=1) rfl rfl (zrU (v2 _ _)) (wJ (by decide));have su:=ym u1 (ym u2 (vV (g:=sNx) (yc (zdn (b:=true) (v2 _ _)) rfl) u3));have s2:=zuo (j:=2) (cn:="NotLetBy") (an:="what") hb hg (zp rfl) su;exact⟨.lf true .non,zaY rfl (ym s1 (ym s2 (zdg (i:=1) rfl rfl))),(λz=>nomatch z)⟩
end
def eqI:eqF (k+1) (.int a) (.int a)=some true:=by show some (a==a)=_;simp
def eqS:eqF (k+1) (.str a) (.str a)=some true:=by show some (a==a)=_;simp
def eqR:eqF (k+2) (zg r) (zg r)=some true:=by
 show eqL (eqF (k+1)) (r.map D.int) (r.map D.int)=_;refine vh λx m=>?_;obtain⟨i,_,rfl⟩:=zxC.mp m;exact eqI
def eqT:eqF (k+3) (zx T) (zx T)=some true:=by
 show eqL (eqF (k+2)) (T.map zg) (T.map zg)=_;refine vh λx m=>?_;obtain⟨i,_,rfl⟩:=zxC.mp m;exact eqR
def zvK:eqF (k+4) (yz p) (yz p)=some true:=by
 show eqL (eqF (k+3)) [.str p.1,zx p.2] [.str p.1,zx p.2]=_;refine vh λx m=>?_
 rcases zzA.mp m with rfl|m
 · exact eqS
 rcases zzA.mp m with rfl|m
 · exact eqT
 · exact nomatch m
def zvh:eqF (k+3) (yO p) (yO p)=some true:=by
 show eqL (eqF (k+2)) [.str p.1,zg p.2] [.str p.1,zg p.2]=_;refine vh λx m=>?_
 rcases zzA.mp m with rfl|m
 · exact eqS
 rcases zzA.mp m with rfl|m
 · exact eqR
 · exact nomatch m
def zvO{k:Nat}{Ds:DZ}:eqF (k+5) (.lst (Ds.map yz)) (.lst (Ds.map yz))=some true:=by
 show eqL (eqF (k+4)) (Ds.map yz) (Ds.map yz)=_;refine vh λx m=>?_;obtain⟨i,_,rfl⟩:=zxC.mp m;exact zvK
def zva{k:Nat}{S:SS}:eqF (k+4) (.lst (S.map yO)) (.lst (S.map yO))=some true:=by
 show eqL (eqF (k+3)) (S.map yO) (S.map yO)=_;refine vh λx m=>?_;obtain⟨i,_,rfl⟩:=zxC.mp m;exact zvh
def eqA:eqF 60 (zA n m J e Ds S) (zA n m J e Ds S)=some true:=by
 show eqL (eqF 59) [.int n,.int m,zx J,.int e,.lst (Ds.map yz),.lst (S.map yO)] [.int n,.int m,zx J,.int e,.lst (Ds.map yz),.lst (S.map yO)]=_;refine vh λx m=>?_
 rcases zzA.mp m with rfl|m
 · exact eqI
 rcases zzA.mp m with rfl|m
 · exact eqI
 rcases zzA.mp m with rfl|m
 · exact eqT
 rcases zzA.mp m with rfl|m
 · exact eqI
 rcases zzA.mp m with rfl|m
 · exact zvO
 rcases zzA.mp m with rfl|m
 · exact zva
 · exact nomatch m
def zpN(ha:WD a as s (.int i))(hb:WD b as t (.int j))(hc:WD c as u (.int k))(h1:i<j)(h2:j<=k):WD (X8 a b c (zR .Lt) (zR .LtE)) as true (.bl true):=by
 unfold WD at *;unfold X8;rw[ha];simp only[zyJ];rw[hb];simp only[zyJ];simp only[RV.frz,O.frz,RV.view,O.toD,O.str,zyJ,zR,zly,onI,asI,blR,h1,h2,decide_true,hc];rfl
def zsz(h:Z2 (.tup ds)=true):eqF (k+2) (.tup ds) (.tup ds)=some true:=by
 have h:(decide (ds.length<=10)&&ds.all pOk)=true:=h;rw[zyA]at h;show eqL (eqF (k+1)) ds ds=_;refine vh λx mx=>?_;have:=List.all_eq_true.mp h.2 x mx;cases x with
 |str s=>exact eqS
 |int i=>exact eqI
 |_=>cases this
def zve(h:Z2 (.tup ds)=true):eqF 60 (.lst [.bl true,.bl true,.bl false,.tup ds]) (.lst [.bl true,.bl true,.bl false,.tup ds])=some true:=by
 show eqL (eqF 59) _ _=_;refine vh λx mx=>?_
 rcases zzA.mp mx with rfl|mx
 · rfl
 rcases zzA.mp mx with rfl|mx
 · rfl
 rcases zzA.mp mx with rfl|mx
 · rfl
 · rw[zzP.mp mx];exact zsz h
def zoQ:∀ns:List Int,ns.length<=63->zfW [(true,.lst (ns.map .int))]=sT (.bl true):=λns hns=>by
 obtain⟨n,m,J,e,Ds,S,A,⟨hS,nk⟩,hA⟩:=ztn (ns:=ns);obtain⟨c0,hc0⟩:=zaS (ns:=ns) (k:=0) (s:=true) (t:=true) (by omega);obtain⟨c1,hc1⟩:=zaS (ns:=ns) (k:=1) (s:=true) (t:=true) (by omega);obtain⟨n',m',J',e',Ds',S',⟨A',L'⟩,⟨hS',nk'⟩,hA'⟩:=zdv (c:=c0) (c':=c1);have hF:=zgN (S:=S) A;obtain⟨o,ho,hN⟩:=zkH A nk hS;obtain⟨o',ho',hN'⟩:=zkH A' nk' hS';rw[zdY A' L']at ho';obtain⟨_,_,_,os',_⟩:=hN' (zdY A' L');have s1:=xZ (p:=1) (as:=[sT (.lst (ns.map .int)),none,none,none,none,none,none]) (vG (WD.e (za (i:=0) rfl)) hA) (zp rfl);have s2:=xZ (p:=2) (as:=[sT (.lst (ns.map .int)),sT (zA n m J e Ds S),none,none,none,none,none]) (vG (WD.e (za (i:=0) rfl)) hA) (zp rfl);have s3:=xZ (p:=3) (as:=[sT (.lst (ns.map .int)),sT (zA n m J e Ds S),sT (zA n m J e Ds S),none,none,none,none]) (vG (WD.e (za (i:=2) rfl)) hF) (zp rfl);have fin:∀x y z w,(zy (zL true 6 (zM (aC (zM (aC zm (aC yo aN)) yt) (aC (zM (aC zm (aC yg aN)) yt) aN)) wH)) (yC (zoL (f2 (f2 (zM (aC vD aN) wR) yg ixP) (yN dN) (zR .Eq)) (f2 zq zE (zR .Eq))))) [sT (.lst (ns.map .int)),sT (zA n m J e Ds S),sT (zA n m J e Ds S),x,y,z,w]=some (.rt (.lf true (.bl true))):=λx y z w=>by
  have s6:=xZ (p:=6) (as:=[sT (.lst (ns.map .int)),sT (zA n m J e Ds S),sT (zA n m J e Ds S),x,y,z,w]) (Wv (WD.e (W5 (g:=yt) (zu (za (i:=0) rfl) (zu (zb (x:=.int 0)) zJ)) hc0)) (WD.e (W5 (g:=yt) (zu (za (i:=0) rfl) (zu (zb (x:=.int 1)) zJ)) hc1)) hA') (zp rfl);have wt:WE (zM (aC vD aN) wR) [sT (.lst (ns.map .int)),sT (zA n m J e Ds S),sT (zA n m J e Ds S),x,y,z,sT (zA n' m' J' e' Ds' S')] (.lst [o'.toD,.lst []]):=vG (WD.e (za (i:=6) rfl)) ⟨_,ho',by show(o'.str&&(true&&true))=true;rw[os'];rfl,rfl⟩;refine ym s6 (zho ?_);exact zsQ (k:=true) (ztb (q:=true) (zut (z:=.lst []) wt (WD.e zb) rfl) (wM (x:=.lst []) (os:=[]) zU (szl rfl) rfl rfl) rfl) (λ_=>yJ (c:=true) (za (i:=1) rfl) (za (i:=2) rfl) eqA) (λz=>nomatch z)
 cases q:tW n m J e Ds with
 |none=>
  rw[q]at ho s3;obtain⟨c,cp,cn,os,x,y,Jl,el,Dl,Sl,ot⟩:=hN q;have s4:Vh (zM xx wR) (gT 2 (gsC Wo (gsC (gN 5) gsN))) [sT (.lst (ns.map .int)),sT (zA n m J e Ds S),sT (zA n m J e Ds S),sT .non,none,none,none]=some (.nx [sT (.lst (ns.map .int)),sT (zA n m J e Ds S),sT (zA n m J e Ds S),sT .non,sT (.tup [zA c x Jl el Dl Sl,y]),sT (.lst []),none]):=ziB (x:=.lst [.tup [zA c x Jl el Dl Sl,y],.lst []]) (vG (WD.e (za (i:=1) rfl)) ⟨_,ho,by show(o.str&&(true&&true))=true;rw[os];rfl,by show D.lst [o.toD,.lst []]=_;rw[ot]⟩) rfl;have v3:=isT (as:=[sT (.lst (ns.map .int)),sT (zA n m J e Ds S),sT (zA n m J e Ds S),sT .non,sT (.tup [zA c x Jl el Dl Sl,y]),sT (.lst []),none]) (i:=3) (t:=none) rfl;have w3:=zom (as:=[sT (.lst (ns.map .int)),sT (zA n m J e Ds S),sT (zA n m J e Ds S),sT .non,sT (.tup [zA c x Jl el Dl Sl,y]),sT (.lst []),none]) (i:=3) (t:=none) rfl;have t5:=Yl (l:=false) (e:=fT (f2 xG (yN (dC (fC (.bl true)) (dC (fC (.bl true)) (dC (fC (.bl false)) (dC zP dN))))) (zR .NotEq))) w3 (λz=>nomatch z) (λ_=>rfl);have ch:=zpN (as:=[sT (.lst (ns.map .int)),sT (zA n m J e Ds S),sT (zA n m J e Ds S),sT .non,sT (.tup [zA c x Jl el Dl Sl,y]),sT (.lst []),none]) (a:=yo) (b:=f2 (f2 yj yo ixP) yo ixP) (c:=f2 zq yo ixP) zb (zG (z:=.int c) (yG (z:=zA c x Jl el Dl Sl) (za (i:=4) rfl) zb rfl) zb rfl rfl) (zG (z:=.int n) (za (i:=1) rfl) zb rfl rfl) (by omega) (by omega);have t6:=Yl (l:=false) v3 (λ_=>zkK (l:=false) (yc (zol (q:=true) (WD.e (za (i:=5) rfl)) (wM (x:=.lst []) (os:=[]) zU (szl rfl) rfl rfl) rfl) rfl) (λ_=>zkK (l:=false) (yc (zlc (c:=true) (wD (g:=ZP) (x:=.int 2) (zu (za (i:=4) rfl) zJ) rfl rfl) (zb (x:=.int 2)) rfl) rfl) (λ_=>ztp (k:=true) (yc ch rfl)) (λz=>nomatch z)) (λz=>nomatch z)) (λz=>nomatch z);exact zaY rfl (ym s1 (ym s2 (ym s3 (ym s4 (ym (yh t5 rfl) (ym (yh t6 rfl) (fin _ _ _ _)))))))
 |some ds=>
  rw[q]at ho s3;have hp:=zrc A nk q;have s4:Vh (zM xx wR) (gT 2 (gsC Wo (gsC (gN 5) gsN))) [sT (.lst (ns.map .int)),sT (zA n m J e Ds S),sT (zA n m J e Ds S),sT (.tup ds),none,none,none]=some (.nx [sT (.lst (ns.map .int)),sT (zA n m J e Ds S),sT (zA n m J e Ds S),sT (.tup ds),sT .non,sT (.lst [.bl true,.bl true,.bl false,.tup ds]),none]):=ziB (x:=.lst [.non,.lst [.bl true,.bl true,.bl false,.tup ds]]) (vG (WD.e (za (i:=1) rfl)) ⟨_,ho,rfl,rfl⟩) rfl;have v3:=isT (as:=[sT (.lst (ns.map .int)),sT (zA n m J e Ds S),sT (zA n m J e Ds S),sT (.tup ds),sT .non,sT (.lst [.bl true,.bl true,.bl false,.tup ds]),none]) (i:=3) (t:=some ds) rfl;have w3:=zom (as:=[sT (.lst (ns.map .int)),sT (zA n m J e Ds S),sT (zA n m J e Ds S),sT (.tup ds),sT .non,sT (.lst [.bl true,.bl true,.bl false,.tup ds]),none]) (i:=3) (t:=some ds) rfl;have t5:=Yl (l:=false) w3 (λ_=>yc (zol (q:=true) (WD.e (za (i:=5) rfl)) (wM (x:=.lst [.bl true,.bl true,.bl false,.tup ds]) (os:=[.lf true (.bl true),.lf true (.bl true),.lf true (.bl false),.lf true (.tup ds)]) (zf zb (zf zb (zf zb (zf (za (i:=3) rfl) zU)))) (szl rfl) rfl rfl) (zve hp)) rfl) (λz=>nomatch z);have t6:=Yl (l:=false) (e:=zbh (fT (f2 xG (yN dN) (zR .NotEq))) (zbh (fT (f2 (fP (aC yj aN) ZP) yD (zR .NotEq))) (zhN (fT (X8 yo (f2 (f2 yj yo ixP) yo ixP) (f2 zq yo ixP) (zR .Lt) (zR .LtE)))))) v3 (λz=>nomatch z) (λ_=>rfl);exact zaY rfl (ym s1 (ym s2 (ym s3 (ym s4 (ym (yh t5 rfl) (ym (yh t6 rfl) (fin _ _ _ _)))))))
end G54
end
end
open PySem PySem.W PyProof.Rows
set_option maxRecDepth 100000 in
set_option maxHeartbeats 0 in
theorem PySem.Challenge.cw_stretchdeeds_k54_no_least_algebra_holds : PySem.Challenge.rw_stretchdeeds_k54_no_least_algebra.Holds := by
 w_on;refine holds_law G54.ws λsaid=>?_
 refine holds_open (q:=G54.qv) (loose:=[]) (Xt:=G54.Xt) (XP:=XL G54.qv []) (Yf:=Hook.obs (kHook G54.K G54.kA G54.kAe)) (Ya:=Hook.val (kHook G54.K G54.kA G54.kAe)) (YP:=Hook.says (kHook G54.K G54.kA G54.kAe)) (N:=8000) G54.hl (Hook.of (kHook G54.K G54.kA G54.kAe)) (Hook.keeps (kHook G54.K G54.kA G54.kAe)) (λs e=>xl_of s (Bool.and_eq_true_iff.mp e).1) XL.keeps (by rfl) (by rfl) (by rfl) (λs e=>recFacts_of (Bool.and_eq_true_iff.mp e).2) (by rfl) (by first|assumption|decide +kernel) (by decide +kernel) ⟨rfl,rfl,rfl,rfl,rfl,by decide +kernel⟩ ?hw ?hc
 (case hw=>w_witness2)
 k_fill
 refine G54.walk (l:=PySem.Challenge.rw_stretchdeeds_k54_no_least_algebra) rfl rfl (λw h Y=>PySem.W.kIn_of Y) G54.zoQ ?F
 case F=>
  intro w mg fa h KX G hmg;refine' G54.zrL KX G hmg ?_ ?_ ?_ ?_ ?_ ?_ ?_ ?_ ?_ ?_ ?_ ?_ ?_ ?_ ?_ ?_ ?_ ?_ ?_ ?_ ?_ ?_ ?_ ?_ ?_ ?_ ?_ ?_ ?_ ?_ ?_ ?_ ?_ ?_ ?_ ?_ ?_ ?_ ?_ ?_ ?_ ?_ ?_ ?_ ?_ ?_ ?_ ?_ ?_ ?_ ?_ ?_ ?_ ?_ ?_ ?_ ?_ ?_ ?_ ?_ ?_ ?_ ?_ ?_ ?_ ?_ ?_ ?_ ?_ ?_
  all_goals try first|k_is|(change _=_;k_is)|exact⟨_,⟨_,_,_,_,_,_,_,_,_,rfl,by k_is,by k_is⟩,by k_is⟩|(refine⟨?_,?_⟩;(change _=_;k_is);exact⟨_,⟨_,_,_,_,_,_,_,_,_,rfl,by k_is,by k_is⟩,by k_is⟩)|exact⟨⟨_,_,_,_,_,_,_,_,_,_,_,_,_,_,rfl⟩,by first|k_is|kernel_rfl,by first|k_is|kernel_rfl,by first|k_is|kernel_rfl,by first|k_is|kernel_rfl,by first|k_is|kernel_rfl⟩|exact⟨by first|k_is|kernel_rfl,by first|k_is|kernel_rfl,by first|k_is|kernel_rfl⟩|exact⟨by first|k_is|kernel_rfl,by first|k_is|kernel_rfl,by first|k_is|kernel_rfl,by first|k_is|kernel_rfl,by first|k_is|kernel_rfl,by first|k_is|kernel_rfl,by first|k_is|kernel_rfl,by first|k_is|kernel_rfl,by first|k_is|kernel_rfl⟩|rfl
#print axioms PySem.Challenge.cw_stretchdeeds_k54_no_least_algebra_holds
