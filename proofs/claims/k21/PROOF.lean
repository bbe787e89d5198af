import PyProof.Rows.All
import KE.KDictOf
import KE.KFromBytes
import KE.KIntText
import KE.KItem
import KE.KRevIter
import KE.KTryMore
import KE.LcSums
import Lean
import PySem.Challenge.RW_stretchdeeds_k21_not_let_by
set_option Elab.async false
set_option linter.all false
set_option maxRecDepth 100000
abbrev zC:=PySem.W.Frag
abbrev zD:=@List.length_map
abbrev zS:=@List.mem_cons
abbrev zzA:=@List.mem_cons_of_mem
abbrev zzB:=@List.getElem?_eq_getElem
abbrev zzC:=@List.mem_cons_self
abbrev zzD:=@List.getElem?_eq_some_iff
abbrev zzE:=@List.size_toArray
abbrev zzF:=@List.getElem?_map
abbrev zzG:=@List.length_append
abbrev zzH:=@Nat.lt_of_lt_of_le
abbrev zzI:=@List.mem_append_right
abbrev zzJ:=@List.mem_append
abbrev zzK:=@Nat.le_refl
abbrev zzL:=@Nat.le_trans
abbrev zzM:=@List.mem_append_left
abbrev zzN:=@Nat.ne_of_lt
abbrev zzO:=@List.mem_singleton
abbrev zzP:=@List.length_take
abbrev zzQ:=@List.length_cons
abbrev zzR:=@List.length_set
abbrev zzS:=@Int.natCast_mul
abbrev zzT:=@List.nodup_cons
abbrev zzU:=@Option.map_eq_some_iff
abbrev zzV:=@List.getElem?_set_ne
abbrev zzW:=@Option.some.inj
abbrev zzX:=@List.mem_of_getElem?
abbrev zzY:=@List.map_map
abbrev zzZ:=@Bool.and_eq_true
abbrev zyA:=@Bool.or_true
abbrev zyB:=@List.append_nil
abbrev zyC:=@List.getD_eq_getElem?_getD
abbrev zyD:=@decide_eq_false
abbrev zyE:=@Int.emod_lt_of_pos
abbrev zyF:=@Int.toNat_natCast
abbrev zyG:=@List.nodup_nil
abbrev zyH:=@List.getElem?_set_self
abbrev zyI:=@Option.bind_some
abbrev zyJ:=@List.map_append
abbrev zyK:=@Int.emod_nonneg
abbrev zyL:=@decide_eq_true
abbrev zyM:=@List.getElem?_append_left
abbrev zyN:=@List.drop_eq_getElem_cons
abbrev zyO:=@List.getElem?_append_right
abbrev zyP:=@List.map_cons
abbrev zyQ:=@Array.length_toList
abbrev zyR:=@List.length_range
abbrev zyT:=@Bool.false_ne_true
abbrev zyU:=@Nat.le_succ
abbrev zyV:=@Nat.zero_add
abbrev zyW:=@Int.toNat_of_nonneg
abbrev zyX:=@List.getElem_mem
abbrev zyY:=@Nat.lt_succ_of_lt
abbrev zyZ:=@List.not_mem_nil
abbrev zxA:=@List.append_assoc
abbrev zxB:=@List.mem_map
abbrev zxC:=@List.nodup_append
abbrev zxD:=@PySem.wpAny_bind
abbrev zxE:=@PySem.wpAny_pure
abbrev zxF:=@PySem.Heap.get?_push_of_some
abbrev zxG:=@PySem.Heap.lt_size
abbrev zxH:=@PySem.Heap.get?_push_size
abbrev zxI:=@PySem.wpAny_newObj_type
abbrev zxK:=@PySem.wpAny_holding
abbrev zxL:=@PySem.Heap.get?_update_other
abbrev zxO:=@PySem.Heap.size_push
abbrev zxP:=@PySem.Heap.get?_update_self
abbrev zxQ:=@PySem.wpAny_mono
section
namespace L2
open PySem PySem.Spec PyProof.Rows
def inClass(s:Stmt)(j:Nat):Stmt:=match s with
 | .ClassDef _ _ _ body _ _ _ _ _ _ _=>body.getD j (.Pass ⟨0,0,0,0⟩)
 |_=>.Pass ⟨0,0,0,0⟩
def zfI(s:Stmt):Arguments:=match s with
 | .FunctionDef _ a _ _ _ _ _ _ _ _=>a
 |_=>{posonlyargs:=[],args:=[],vararg:=none,kwonlyargs:=[],kw_defaults:=[],kwarg:=none,defaults:=[]}
def YC(s:Stmt):List Stmt:=match s with
 | .FunctionDef _ _ b _ _ _ _ _ _ _=>b
 |_=>[]
def zu(s:Stmt):Scope:=match s with
 | .FunctionDef _ _ _ _ _ _ sc _ _ _=>sc
 |_=>{kind:=.function,names:=[],isGenerator:=false,isCoroutine:=false}
end L2
end
section
namespace G21
open PySem PySem.W PyProof.Rows L2
def top(i:Nat):Stmt:=PySem.Challenge.pw_stretchdeeds_k21_not_let_by.main.body.getD i (.Pass ⟨0,0,0,0⟩)
abbrev v9:Stmt:=top 13
abbrev Ze:Stmt:=top 14
abbrev Z8:Stmt:=top 15
abbrev YB:Stmt:=top 16
abbrev Yy:Stmt:=top 17
abbrev wI:Stmt:=inClass (top 4) 0
abbrev ZF:Stmt:=top 18
abbrev zdM:Stmt:=top 20
abbrev Z5:Stmt:=top 23
abbrev Xb:Stmt:=top 24
abbrev Xh:Stmt:=top 25
abbrev Z9:Stmt:=top 26
abbrev Yv:Stmt:=top 27
abbrev Zc:Stmt:=top 28
abbrev ZJ:Stmt:=top 29
abbrev wZ:Stmt:=top 30
abbrev Xi:Stmt:=top 31
abbrev Yz:Stmt:=top 32
abbrev wB:Stmt:=top 33
abbrev Zh:Stmt:=top 34
abbrev WR:Stmt:=top 35
abbrev wF:Stmt:=top 36
abbrev vh:Stmt:=top 37
abbrev zaj:Stmt:=top 38
abbrev Xa:Stmt:=top 39
abbrev wg:Stmt:=inClass (top 21) 0
abbrev WF:Stmt:=top 40
abbrev Yd:Stmt:=top 41
abbrev zju:Stmt:=top 42
abbrev hpg:=PySem.Challenge.pw_stretchdeeds_k21_not_let_by
abbrev hva:Value:=.str "__main__" 164
abbrev hvb:Value:=.str "stretchdeeds.errors" 194
abbrev hvc:Value:=.str "stretchdeeds.algebras" 376
abbrev hvd:Value:=.str "stretchdeeds.ways" 443
abbrev hve:Value:=.str "law_stretchdeeds_k21_not_let_by" 566
abbrev hem:List Value:=[(.type "ValueError"), (.type "Exception"), (.type "BaseException"), (.type "object")]
abbrev kF(n q:Str)(s:Stmt)(pm hcd:Value):Obj:=⟨.type "function",none,.func (fnOf n q (zfI s) (YC s) (zu s) .none .none .none pm none hcd .none),#[]⟩
abbrev kD(es:List DictEntry)(n:Nat):Obj:=⟨.type "dict",none,.dict es.toArray n,#[]⟩
abbrev kE(P:Params)(x:Str)(t:Nat)(v:Value):DictEntry:=⟨PyData.keyHash P x,.str x t,v⟩
abbrev kR(P:Params)(x:Str)(t:Nat)(a:Addr):DictEntry:=kE P x t (.ref a)
abbrev hfl(c:Value)(l:List Value):Obj:=⟨c,none,.fields l.toArray,#[]⟩
abbrev hco(n q:Str)(t u:Nat)(l k g:Int)(b:Bool)(a:Nat)(r s v:Value):Obj:=hfl (.type "code") [.str n t,.str q (t+1),.str "/claim/cut.py" (t+2),.int l 0,.int k 0,.int 0 0,.int 0 0,.int g 0,.ref a,.bool b,.int 181 0,.ref (a+1),.none,r,s,v,.int u 0,.int l 0,.str "/claim/cut.py" (u+1)]
abbrev hc7(n q:Str)(t u:Nat)(l k:Int)(a:Nat):=hco n q t u l k 3 true a (.ref (a+2)) (.ref (a+3)) (.ref (a+4))
abbrev hc5(n q:Str)(t:Nat)(l k:Int)(a:Nat):=hco n q t (t+3) l k 3 true a .none .none (.ref (a+2))
abbrev hen(P:Params):List DictEntry:=[kE P "__doc__" 166 .none,kE P "__package__" 167 .none,kE P "__loader__" 168 (.builtin "__main__.__loader__#opaque"),kE P "__spec__" 169 .none,kR P "__annotations__" 170 6,kR P "__builtins__" 171 4,kE P "__file__" 173 (.str "/claim/cut.py" 172),kE P "__cached__" 174 .none,kR P "_wall" 193 21,kR P "StretchError" 213 31,kR P "NoText" 238 51,kR P "NotLetBy" 263 70,kR P "NoMake" 279 82,kR P "NoStretch" 295 94,kR P "NoValue" 311 106,kR P "NoDeed" 327 118,kR P "NoSign" 343 130,kR P "TooGreat" 359 142,kR P "NoRow" 375 154,kR P "nothing_fails" 387 163,kR P "parting_fails" 399 170,kR P "doing_fails" 415 177,kR P "deeds_fail" 426 184,kR P "what_fails" 434 191,kR P "check_let_by" 442 198,kR P "firm" 450 203,kR P "Ways" 565 288,kR P "_law_cell_at" 575 299,kR P "_law_mixed" 584 306,kR P "_law_whole" 591 313,kR P "_law_words" 597 318,kR P "_law_common" 605 325,kR P "_law_joined_by" 616 332,kR P "_law_images" 622 337,kR P "_law_done_by" 628 342,kR P "_law_kinds" 638 349,kR P "_law_stream" 649 356,kR P "_law_algebra" 655 361,kR P "_law_copy" 661 366,kR P "_law_bent" 679 373,kR P "_law_first_parting" 690 380,kR P "_law_first_doing" 706 387,kR P "_law_due" 723 394,kR P "_law_alone" 730 401,kR P "_law_told" 739 408,kR P "_law_right" 745 413,kR P "law" 755 420]
def K(P:Params):Frag:=
 (nat_lit 2,⟨.none,none,.dict #[] 0,#[]⟩)::
 (nat_lit 3,kD (kE P "__name__" 165 hve::hen P) 48)::
 (nat_lit 30,kD [kE P "__module__" 203 hvb,kE P "__firstlineno__" 207 (.int (5) 206),kR P "__static_attributes__" 208 29,kR P "__weakref__" 210 32,kE P "__doc__" 211 .none] 3)::
 (nat_lit 31,⟨(.type "type"),none,.cls {name:="StretchError",bases:=[(.type "ValueError")],mro:=[(.ref 31),(.type "ValueError"),(.type "Exception"),(.type "BaseException"),(.type "object")],ns:=30,qualname:="StretchError",hasDict:=true,slotNames:=[],subclasses:=[(.ref 51),(.ref 70),(.ref 82),(.ref 94),(.ref 106),(.ref 118),(.ref 130),(.ref 142),(.ref 154)],abstract:=false,collection:=none,hasDel:=false},#[some (.ref 22),none,some (.str "StretchError" 196),some (.str "StretchError" 204),some (.builtin "ValueError.__new__"),some (.bool true)]⟩)::
 (nat_lit 50,kD [kE P "__module__" 221 hvb,kE P "__firstlineno__" 225 (.int (7) 224),kR P "__init__" 233 48,kR P "__static_attributes__" 235 49,kE P "__doc__" 236 .none] 2)::
 (nat_lit 51,⟨(.type "type"),none,.cls {name:="NoText",bases:=[(.ref 31)],mro:=[(.ref 51),(.ref 31),(.type "ValueError"),(.type "Exception"),(.type "BaseException"),(.type "object")],ns:=50,qualname:="NoText",hasDict:=true,slotNames:=[],subclasses:=[],abstract:=false,collection:=none,hasDel:=false},#[some (.ref 35),none,some (.str "NoText" 214),some (.str "NoText" 222),some (.builtin "ValueError.__new__"),some (.bool true)]⟩)::
 (nat_lit 66,hc7 "__init__" "NotLetBy.__init__" 251 256 14 2 61)::
 (nat_lit 67,kF "__init__" "NotLetBy.__init__" wI hvb (.ref 66))::
 (nat_lit 69,kD [kE P "__module__" 246 hvb,kE P "__firstlineno__" 250 (.int (12) 249),kR P "__init__" 258 67,kR P "__static_attributes__" 260 68,kE P "__doc__" 261 .none] 2)::
 (nat_lit 70,⟨(.type "type"),none,.cls {name:="NotLetBy",bases:=[(.ref 31)],mro:=[(.ref 70),(.ref 31),(.type "ValueError"),(.type "Exception"),(.type "BaseException"),(.type "object")],ns:=69,qualname:="NotLetBy",hasDict:=true,slotNames:=[],subclasses:=[],abstract:=false,collection:=none,hasDel:=false},#[some (.ref 54),none,some (.str "NotLetBy" 239),some (.str "NotLetBy" 247),some (.builtin "ValueError.__new__"),some (.bool true)]⟩)::
 (nat_lit 81,kD [kE P "__module__" 271 hvb,kE P "__firstlineno__" 275 (.int (17) 274),kR P "__static_attributes__" 276 80,kE P "__doc__" 277 .none] 2)::
 (nat_lit 82,⟨(.type "type"),none,.cls {name:="NoMake",bases:=[(.ref 31)],mro:=[(.ref 82),(.ref 31),(.type "ValueError"),(.type "Exception"),(.type "BaseException"),(.type "object")],ns:=81,qualname:="NoMake",hasDict:=true,slotNames:=[],subclasses:=[],abstract:=false,collection:=none,hasDel:=false},#[some (.ref 73),none,some (.str "NoMake" 264),some (.str "NoMake" 272),some (.builtin "ValueError.__new__"),some (.bool true)]⟩)::
 (nat_lit 93,kD [kE P "__module__" 287 hvb,kE P "__firstlineno__" 291 (.int (19) 290),kR P "__static_attributes__" 292 92,kE P "__doc__" 293 .none] 2)::
 (nat_lit 94,⟨(.type "type"),none,.cls {name:="NoStretch",bases:=[(.ref 31)],mro:=[(.ref 94),(.ref 31),(.type "ValueError"),(.type "Exception"),(.type "BaseException"),(.type "object")],ns:=93,qualname:="NoStretch",hasDict:=true,slotNames:=[],subclasses:=[],abstract:=false,collection:=none,hasDel:=false},#[some (.ref 85),none,some (.str "NoStretch" 280),some (.str "NoStretch" 288),some (.builtin "ValueError.__new__"),some (.bool true)]⟩)::
 (nat_lit 105,kD [kE P "__module__" 303 hvb,kE P "__firstlineno__" 307 (.int (21) 306),kR P "__static_attributes__" 308 104,kE P "__doc__" 309 .none] 2)::
 (nat_lit 106,⟨(.type "type"),none,.cls {name:="NoValue",bases:=[(.ref 31)],mro:=[(.ref 106),(.ref 31),(.type "ValueError"),(.type "Exception"),(.type "BaseException"),(.type "object")],ns:=105,qualname:="NoValue",hasDict:=true,slotNames:=[],subclasses:=[],abstract:=false,collection:=none,hasDel:=false},#[some (.ref 97),none,some (.str "NoValue" 296),some (.str "NoValue" 304),some (.builtin "ValueError.__new__"),some (.bool true)]⟩)::
 (nat_lit 117,kD [kE P "__module__" 319 hvb,kE P "__firstlineno__" 323 (.int (23) 322),kR P "__static_attributes__" 324 116,kE P "__doc__" 325 .none] 2)::
 (nat_lit 118,⟨(.type "type"),none,.cls {name:="NoDeed",bases:=[(.ref 31)],mro:=[(.ref 118),(.ref 31),(.type "ValueError"),(.type "Exception"),(.type "BaseException"),(.type "object")],ns:=117,qualname:="NoDeed",hasDict:=true,slotNames:=[],subclasses:=[],abstract:=false,collection:=none,hasDel:=false},#[some (.ref 109),none,some (.str "NoDeed" 312),some (.str "NoDeed" 320),some (.builtin "ValueError.__new__"),some (.bool true)]⟩)::
 (nat_lit 129,kD [kE P "__module__" 335 hvb,kE P "__firstlineno__" 339 (.int (25) 338),kR P "__static_attributes__" 340 128,kE P "__doc__" 341 .none] 2)::
 (nat_lit 130,⟨(.type "type"),none,.cls {name:="NoSign",bases:=[(.ref 31)],mro:=[(.ref 130),(.ref 31),(.type "ValueError"),(.type "Exception"),(.type "BaseException"),(.type "object")],ns:=129,qualname:="NoSign",hasDict:=true,slotNames:=[],subclasses:=[],abstract:=false,collection:=none,hasDel:=false},#[some (.ref 121),none,some (.str "NoSign" 328),some (.str "NoSign" 336),some (.builtin "ValueError.__new__"),some (.bool true)]⟩)::
 (nat_lit 141,kD [kE P "__module__" 351 hvb,kE P "__firstlineno__" 355 (.int (27) 354),kR P "__static_attributes__" 356 140,kE P "__doc__" 357 .none] 2)::
 (nat_lit 142,⟨(.type "type"),none,.cls {name:="TooGreat",bases:=[(.ref 31)],mro:=[(.ref 142),(.ref 31),(.type "ValueError"),(.type "Exception"),(.type "BaseException"),(.type "object")],ns:=141,qualname:="TooGreat",hasDict:=true,slotNames:=[],subclasses:=[],abstract:=false,collection:=none,hasDel:=false},#[some (.ref 133),none,some (.str "TooGreat" 344),some (.str "TooGreat" 352),some (.builtin "ValueError.__new__"),some (.bool true)]⟩)::
 (nat_lit 153,kD [kE P "__module__" 367 hvb,kE P "__firstlineno__" 371 (.int (29) 370),kR P "__static_attributes__" 372 152,kE P "__doc__" 373 .none] 2)::
 (nat_lit 154,⟨(.type "type"),none,.cls {name:="NoRow",bases:=[(.ref 31)],mro:=[(.ref 154),(.ref 31),(.type "ValueError"),(.type "Exception"),(.type "BaseException"),(.type "object")],ns:=153,qualname:="NoRow",hasDict:=true,slotNames:=[],subclasses:=[],abstract:=false,collection:=none,hasDel:=false},#[some (.ref 145),none,some (.str "NoRow" 360),some (.str "NoRow" 368),some (.builtin "ValueError.__new__"),some (.bool true)]⟩)::
 (nat_lit 162,hc7 "nothing_fails" "nothing_fails" 378 385 32 1 157)::
 (nat_lit 163,kF "nothing_fails" "nothing_fails" v9 hvc (.ref 162))::
 (nat_lit 169,hc7 "parting_fails" "parting_fails" 388 397 39 1 164)::
 (nat_lit 170,kF "parting_fails" "parting_fails" Ze hvc (.ref 169))::
 (nat_lit 176,hc7 "doing_fails" "doing_fails" 400 413 48 3 171)::
 (nat_lit 177,kF "doing_fails" "doing_fails" Z8 hvc (.ref 176))::
 (nat_lit 183,hc7 "deeds_fail" "deeds_fail" 416 424 59 1 178)::
 (nat_lit 184,kF "deeds_fail" "deeds_fail" YB hvc (.ref 183))::
 (nat_lit 190,hc7 "what_fails" "what_fails" 427 432 68 1 185)::
 (nat_lit 191,kF "what_fails" "what_fails" Yy hvc (.ref 190))::
 (nat_lit 197,hc7 "check_let_by" "check_let_by" 435 440 75 1 192)::
 (nat_lit 198,kF "check_let_by" "check_let_by" ZF hvc (.ref 197))::
 (nat_lit 202,hc5 "firm" "firm" 445 80 1 199)::
 (nat_lit 203,kF "firm" "firm" zdM hvd (.ref 202))::
 (nat_lit 214,hc5 "__init__" "Ways.__init__" 463 84 2 211)::
 (nat_lit 215,kF "__init__" "Ways.__init__" wg hvd (.ref 214))::
 (nat_lit 287,kD [kE P "__module__" 458 hvd,kE P "__firstlineno__" 462 (.int (82) 461),kR P "__init__" 468 215,kR P "is_value" 476 222,kR P "is_deed" 484 229,kR P "is_sign" 492 236,kR P "nothing" 499 243,kR P "join" 508 250,kR P "has_sign" 517 257,kR P "idle" 524 264,kR P "wait_of" 532 271,kR P "behind" 541 278,kR P "made" 551 285,kR P "__static_attributes__" 558 286,kR P "__dict__" 560 289,kR P "__weakref__" 562 290,kE P "__doc__" 563 .none] 4)::
 (nat_lit 288,⟨(.type "type"),none,.cls {name:="Ways",bases:=[(.type "object")],mro:=[(.ref 288),(.type "object")],ns:=287,qualname:="Ways",hasDict:=true,slotNames:=[],subclasses:=[],abstract:=false,collection:=none,hasDel:=false},#[none,none,some (.str "Ways" 451),some (.str "Ways" 459),some (.builtin "object.__new__"),some (.bool true)]⟩)::
 (nat_lit 298,hc7 "_law_cell_at" "_law_cell_at" 568 573 123 2 293)::
 (nat_lit 299,kF "_law_cell_at" "_law_cell_at" Z5 hve (.ref 298))::
 (nat_lit 305,hc7 "_law_mixed" "_law_mixed" 576 582 127 2 300)::
 (nat_lit 306,kF "_law_mixed" "_law_mixed" Xb hve (.ref 305))::
 (nat_lit 312,hc7 "_law_whole" "_law_whole" 585 589 130 1 307)::
 (nat_lit 313,kF "_law_whole" "_law_whole" Xh hve (.ref 312))::
 (nat_lit 317,hc5 "_law_words" "_law_words" 592 132 2 314)::
 (nat_lit 318,kF "_law_words" "_law_words" Z9 hve (.ref 317))::
 (nat_lit 324,hc7 "_law_common" "_law_common" 598 603 141 2 319)::
 (nat_lit 325,kF "_law_common" "_law_common" Yv hve (.ref 324))::
 (nat_lit 331,hc7 "_law_joined_by" "_law_joined_by" 606 614 145 4 326)::
 (nat_lit 332,kF "_law_joined_by" "_law_joined_by" Zc hve (.ref 331))::
 (nat_lit 336,hc5 "_law_images" "_law_images" 617 154 3 333)::
 (nat_lit 337,kF "_law_images" "_law_images" ZJ hve (.ref 336))::
 (nat_lit 341,hc5 "_law_done_by" "_law_done_by" 623 164 4 338)::
 (nat_lit 342,kF "_law_done_by" "_law_done_by" wZ hve (.ref 341))::
 (nat_lit 348,hc7 "_law_kinds" "_law_kinds" 629 636 170 1 343)::
 (nat_lit 349,kF "_law_kinds" "_law_kinds" Xi hve (.ref 348))::
 (nat_lit 355,hc7 "_law_stream" "_law_stream" 639 647 179 2 350)::
 (nat_lit 356,kF "_law_stream" "_law_stream" Yz hve (.ref 355))::
 (nat_lit 360,hc5 "_law_algebra" "_law_algebra" 650 189 3 357)::
 (nat_lit 361,kF "_law_algebra" "_law_algebra" wB hve (.ref 360))::
 (nat_lit 365,hc5 "_law_copy" "_law_copy" 656 224 1 362)::
 (nat_lit 366,kF "_law_copy" "_law_copy" Zh hve (.ref 365))::
 (nat_lit 372,hc7 "_law_bent" "_law_bent" 662 677 229 2 367)::
 (nat_lit 373,kF "_law_bent" "_law_bent" WR hve (.ref 372))::
 (nat_lit 379,hc7 "_law_first_parting" "_law_first_parting" 680 688 242 2 374)::
 (nat_lit 380,kF "_law_first_parting" "_law_first_parting" wF hve (.ref 379))::
 (nat_lit 386,hc7 "_law_first_doing" "_law_first_doing" 691 704 249 5 381)::
 (nat_lit 387,kF "_law_first_doing" "_law_first_doing" vh hve (.ref 386))::
 (nat_lit 393,hc7 "_law_due" "_law_due" 707 721 258 1 388)::
 (nat_lit 394,kF "_law_due" "_law_due" zaj hve (.ref 393))::
 (nat_lit 400,hc7 "_law_alone" "_law_alone" 724 728 270 1 395)::
 (nat_lit 401,kF "_law_alone" "_law_alone" Xa hve (.ref 400))::
 (nat_lit 407,hc7 "_law_told" "_law_told" 731 737 276 1 402)::
 (nat_lit 408,kF "_law_told" "_law_told" WF hve (.ref 407))::
 (nat_lit 412,hc5 "_law_right" "_law_right" 740 285 1 409)::
 (nat_lit 413,kF "_law_right" "_law_right" Yd hve (.ref 412))::
 (nat_lit 419,hc7 "law" "law" 746 753 296 1 414)::
 (nat_lit 420,kF "law" "law" zju hve (.ref 419))::
 []
def kA:List Addr:=[2,3,30,31,50,51,66,67,69,70,81,82,93,94,105,106,117,118,129,130,141,142,153,154,162,163,169,170,176,177,183,184,190,191,197,198,202,203,214,215,287,288,298,299,305,306,312,313,317,318,324,325,331,332,336,337,341,342,348,349,355,356,360,361,365,366,372,373,379,380,386,387,393,394,400,401,407,408,412,413,419,420]
def qv:Program:={hpg with main:={hpg.main with body:=[0,2,3,4,5,6,7,8,9,10,11,13,14,15,16,17,18,20,21,23,24,25,26,27,28,29,30,31,32,33,34,35,36,37,38,39,40,41,42].map top}}
theorem kAe(P:Params):kA=(K P).map (·.1):=by kernel_rfl
set_option maxRecDepth 100000
theorem ws:PySem.Challenge.rw_stretchdeeds_k21_not_let_by.wellSaid=true:=by kernel_rfl
abbrev Xt(s:Shared):Bool:=xlAt qv [] s&&recOk (RowW.records (OpenRow.toRowW PySem.Challenge.rw_stretchdeeds_k21_not_let_by.row)) s
abbrev hk:Hook:=kHook K kA kAe
def htp(l:List Value):Obj:=⟨.type "tuple",none,.seq l.toArray 0,#[]⟩
def htx:Nat->List Str->List Value
 |_,[]=>[]
 |t,x::l=>.str x t::htx (t+1) l
noncomputable def hfO(a t:Nat)(r:Str)(v:Value)(s:Stmt):List Obj:=match s with
 | .FunctionDef n p b _ _ _ c _ _ o=>
  let q:=r++n;let S:Obj:=⟨.none,none,.func {name:=n,qualname:=q,params:=p,body:=.stmts b,scope:=c,globals:=0,closure:=[],defaults:=.none,kwdefaults:=.none},#[]⟩
  match localNames p c (.stmts b) with
  |some (x,_)=>[htp [],hfl .none [],htp (htx (t+3) x),htp [],S,hc7 n q t (t+3+x.length) o.line p.args.length a,kF n q s v (.ref (a+5))]
  |none=>[htp [],hfl .none [],S,hc5 n q t o.line p.args.length a,kF n q s v (.ref (a+3))]
 |_=>[]
noncomputable def htk(s:Stmt):Nat:=match s with
 | .FunctionDef _ p b _ _ _ c _ _ _=>match localNames p c (.stmts b) with
  |some (x,_)=>6+x.length
  |none=>6
 |_=>0
noncomputable def hms(P:Params)(c:Str)(v:Value):Nat->Nat->List Stmt->List Obj×List DictEntry×List Value×Nat
 |_,t,[]=>([],[],[],t)
 |a,t,s::r=>match s with
  | .FunctionDef n _ _ _ _ _ _ _ _ o=>let f:=hfO a t (c++".") v s;let l:=a+f.length;let u:=t+htk s;let z:=hms P c v l u r;(f++z.1,kR P n (u-1) (l-1)::z.2.1,.int o.line 0:: .int 4 0:: .ref (l-2)::z.2.2.1,z.2.2.2)
  |_=>hms P c v a t r
def hfm(a b:Addr)(v:Value):Obj:=⟨.type "frame",none,.plain,#[some (.ref a),some (.ref 3),some (.ref b),none,some v,none,some (.ref 0)]⟩
def hbf(x:String)(v:Value):Obj:=hfl (.type "builtin_function_or_method") [.builtin x,v]
def hgd(x:Str)(t:Nat)(c:Addr)(g s:Value):Obj:=hfl (.type "getset_descriptor") [.str x t,.ref c,g,s]
noncomputable def hcO(P:Params)(a t:Nat)(v:Value)(bv mr sb:List Value)(nw:String)(d:Nat)(s:Stmt):List Obj:=match s with
 | .ClassDef n _ _ b _ _ _ _ _ sa o=>
  let m:=hms P n v (a+7) (t+12) b;let e:=a+7+m.1.length;let k:=m.2.2.2+sa.length;let z:=k+1;let C:=e+2
  let x:=kE P "__module__" (t+7) v;let f:=kE P "__firstlineno__" (t+11) (.int o.line (t+10));let y:=kR P "__static_attributes__" k e
  let W:=λt:Nat=>hgd "__weakref__" t C (.builtin "ExceptionGroup.__weakref__") .none
  let D:List DictEntry×List Obj:=match d with
   |0=>([],[])
   |1=>([kR P "__weakref__" (z+1) (C+1)],[W z])
   |_=>([kR P "__dict__" (z+1) (C+1),kR P "__weakref__" (z+3) (C+2)],[hgd "__dict__" z C (.builtin "function.__dict__") (.builtin "function.__dict__#set"),W (z+2)])
  [htp bv,hbf "type.__prepare__" (.type "type"),kD (x::kE P "__qualname__" (t+9) (.str n (t+8))::f::m.2.1++[y]) (4+m.2.1.length),htp [],hfl .none m.2.2.1,hco n n (t+2) (t+5) o.line 0 0 false (a+3) .none .none .none,hfm (a+5) (a+2) v]++m.1++[htp (htx m.2.2.2 sa),kD (x::f::m.2.1++y::D.1++[kE P "__doc__" (z+2*d) .none]) (2+d),⟨.type "type",none,.cls {name:=n,bases:=if bv.isEmpty then [.type "object"] else bv,mro:=.ref C::mr,ns:=e+1,qualname:=n,hasDict:=true,slotNames:=[],subclasses:=sb},#[if bv.isEmpty then none else some (.ref a),none,some (.str n t),some (.str n (t+8)),some (.builtin nw),some (.bool true)]⟩]++D.2++[hfl (.type "super") [.ref C,.ref C,.ref C],hbf "object.__init_subclass__" (.ref C)]
 |_=>[]
def hcs:List (Int×Addr):=[(1,20),(5,27),(7,40),(12,59),(17,78),(19,90),(21,102),(23,114),(25,126),(27,138),(29,150),(32,162),(39,169),(48,176),(59,183),(68,190),(75,197),(80,202),(82,209),(123,298),(127,305),(130,312),(132,317),(141,324),(145,331),(154,336),(164,341),(170,348),(179,355),(189,360),(224,365),(229,372),(242,379),(249,386),(258,393),(270,400),(276,407),(285,412),(296,419)]
noncomputable def hhp(P:Params)(v:Value)(g c:Nat)(l:List Obj):Heap:=⟨⟨boot_o_0 P::boot_o_1 P::boot_o_2 P::kD (kE P "__name__" 165 v::(hen P).take g) (g+1)::boot_o_4 P::boot_o_5 P::boot_o_6 P::boot_o_7 P::boot_o_8 P::boot_o_9 P::boot_o_10 P::htp []::hfl .none ((hcs.take c).flatMap λp=>[.int p.1 0,.int 0 0,.ref p.2])::hco "<module>" "<module>" 182 185 1 0 0 false 11 .none .none .none::hfm 13 3 (.str "__main__" 164)::l⟩,(boot_heap P).life⟩
abbrev hbd:=behindTheImports hpg
abbrev hev:Env:={scope:=hpg.main.scope,locals:=mainNs,globals:=mainNs,cells:=[],code:=.ref 13,frame:=some 14}
abbrev hcd:Code:=.body hbd hev
noncomputable abbrev hSh(t:Nat)(h:Heap)(o:OsState):Shared:=⟨h,⟨[]⟩,boot_drawn,t,o⟩
noncomputable def hl0(P:Params):List Obj:=hfO 15 187 "" hva (top 0)++hcO P 22 196 hvb [(.type "ValueError")] hem [(.ref 51),(.ref 70),(.ref 82),(.ref 94),(.ref 106),(.ref 118),(.ref 130),(.ref 142),(.ref 154)] "ValueError.__new__" 1 (top 2)++hcO P 35 214 hvb [(.ref 31)] ((.ref 31)::hem) [] "ValueError.__new__" 0 (top 3)++hcO P 54 239 hvb [(.ref 31)] ((.ref 31)::hem) [] "ValueError.__new__" 0 (top 4)++hcO P 73 264 hvb [(.ref 31)] ((.ref 31)::hem) [] "ValueError.__new__" 0 (top 5)++hcO P 85 280 hvb [(.ref 31)] ((.ref 31)::hem) [] "ValueError.__new__" 0 (top 6)++hcO P 97 296 hvb [(.ref 31)] ((.ref 31)::hem) [] "ValueError.__new__" 0 (top 7)++hcO P 109 312 hvb [(.ref 31)] ((.ref 31)::hem) [] "ValueError.__new__" 0 (top 8)++hcO P 121 328 hvb [(.ref 31)] ((.ref 31)::hem) [] "ValueError.__new__" 0 (top 9)++hcO P 133 344 hvb [(.ref 31)] ((.ref 31)::hem) [] "ValueError.__new__" 0 (top 10)++hcO P 145 360 hvb [(.ref 31)] ((.ref 31)::hem) [] "ValueError.__new__" 0 (top 11)
noncomputable def hl1(P:Params):List Obj:=hl0 P++hfO 157 378 "" hvc (top 13)++hfO 164 388 "" hvc (top 14)++hfO 171 400 "" hvc (top 15)++hfO 178 416 "" hvc (top 16)++hfO 185 427 "" hvc (top 17)++hfO 192 435 "" hvc (top 18)++hfO 199 445 "" hvd (top 20)++hcO P 204 451 hvd [] [(.type "object")] [] "object.__new__" 2 (top 21)++hfO 293 568 "" hve (top 23)++hfO 300 576 "" hve (top 24)++hfO 307 585 "" hve (top 25)++hfO 314 592 "" hve (top 26)++hfO 319 598 "" hve (top 27)++hfO 326 606 "" hve (top 28)
noncomputable def hl2(P:Params):List Obj:=hl1 P++hfO 333 617 "" hve (top 29)++hfO 338 623 "" hve (top 30)++hfO 343 629 "" hve (top 31)++hfO 350 639 "" hve (top 32)++hfO 357 650 "" hve (top 33)++hfO 362 656 "" hve (top 34)++hfO 367 662 "" hve (top 35)++hfO 374 680 "" hve (top 36)++hfO 381 691 "" hve (top 37)++hfO 388 707 "" hve (top 38)++hfO 395 724 "" hve (top 39)++hfO 402 731 "" hve (top 40)++hfO 409 740 "" hve (top 41)++hfO 414 746 "" hve (top 42)
theorem hr0(w:World)(o:OsState):topGo treeTable hpg w 11 (some (.ref 6)) 12 (hSh boot_toks (boot_heap w.params) o) (topStub hpg)=some (hSh 187 (hhp w.params (.str "__main__" 164) 8 0 []) o,⟨denote treeTable hcd,hcd,⟨0,0,0,0⟩,[topFrame ⟨0,0,0,0⟩]⟩):=by kernel_rfl
theorem hr1(w:World)(o:OsState):segRun treeTable hpg w 11 (some (.ref 6)) 1 1 (hSh 187 (hhp w.params (.str "__main__" 164) 8 0 []) o) (blockOf hbd hev hcd ⟨0,0,0,0⟩ [topFrame ⟨0,0,0,0⟩])=some (.next,hSh 187 (hhp w.params (.str "__main__" 164) 8 0 []) o,hcd,⟨0,0,0,0⟩):=by kernel_rfl
theorem hs0(w:World)(o:OsState):segRun treeTable hpg w 11 (some (.ref 6)) 1 2206 (hSh 187 (hhp w.params (.str "__main__" 164) 8 0 []) o) (piecesOf (hbd.take 12) hev hcd ⟨0,0,0,0⟩ [topFrame ⟨0,0,0,0⟩])=some (.next,hSh 376 (hhp w.params hvb 19 11 (hl0 w.params)) o,hcd,⟨29,0,30,8⟩):=by kernel_rfl
abbrev hb0:=hbd.drop 12
theorem hs1(w:World)(o:OsState):segRun treeTable hpg w 11 (some (.ref 6)) 1 976 (hSh 376 (hhp w.params hvb 19 11 (hl0 w.params)) o) (piecesOf (hb0.take 17) hev hcd ⟨29,0,30,8⟩ [topFrame ⟨0,0,0,0⟩])=some (.next,hSh 617 (hhp w.params hve 33 25 (hl1 w.params)) o,hcd,⟨145,0,153,75⟩):=by kernel_rfl
abbrev hb1:=hb0.drop 17
theorem hs2(w:World)(o:OsState):topRun treeTable hpg w 11 (some (.ref 6)) 440 (hSh 617 (hhp w.params hve 33 25 (hl1 w.params)) o) (restOf hb1 hev hcd ⟨145,0,153,75⟩ [topFrame ⟨0,0,0,0⟩])=some (hSh 756 (hhp w.params hve 47 39 (hl2 w.params)) o):=by kernel_rfl
theorem hpa{w:World}{n N t t':Nat}{h h':Heap}{o:OsState}{r:Shared}{b:List Stmt}(m:Nat){p p':Pos}(x:segRun treeTable hpg w 11 (some (.ref 6)) 1 n (hSh t h o) (piecesOf (b.take m) hev hcd p [topFrame ⟨0,0,0,0⟩])=some (.next,hSh t' h' o,hcd,p'))(y:topRun treeTable hpg w 11 (some (.ref 6)) N (hSh t' h' o) (restOf (b.drop m) hev hcd p' [topFrame ⟨0,0,0,0⟩])=some r):topRun treeTable hpg w 11 (some (.ref 6)) (n+N) (hSh t h o) (restOf b hev hcd p [topFrame ⟨0,0,0,0⟩])=some r:=by
 have z:=piece_app x y;rwa[List.take_append_drop] at z
theorem hhr(w:World)(o:OsState):topRun treeTable hpg w 11 (some (.ref 6)) (12+(1+(2206+(976+440)))) (hSh boot_toks (boot_heap w.params) o) (topStub hpg)=some (hSh 756 (hhp w.params hve 47 39 (hl2 w.params)) o):=go_top (hr0 w o) (piece_block (hr1 w o) (hpa _ (hs0 w o) (hpa _ (hs1 w o) (hs2 w o))))
noncomputable def hhf(P:Params):Heap:=hhp P hve 47 39 (hl2 P)
theorem hhq(w:World):(λo=>((staticsOk (importedModules hpg.main.body) (boot_heap w.params) (hhf w.params)&&namesBound hpg (hhf w.params)&&gensDone (hSh 756 (hhf w.params) o)&&laidKept (boot_heap w.params) (hhf w.params)),openSeen qv [] (importedModules hpg.main.body) Xt true (hSh 756 (hhf w.params) o),hk.obs (hSh 756 (hhf w.params) o)))=λ_=>(true,openGood qv [],hk.val w):=by kernel_rfl
theorem hl:LeftO PySem.Challenge.pw_stretchdeeds_k21_not_let_by qv [] Xt hk.obs hk.val 6000:=LeftO.of_pieces (H₀:=boot_heap) (H₁:=hhf) (boot_open (by kernel_rfl) rfl λ_=>by kernel_rfl) (λ_=>by kernel_rfl) hhr rfl hhq
end G21
end
section
namespace L2
open PySem PySem.Spec PyProof.Rows
abbrev Key:=Sum Int Str
def zfj:Key->Value->Bool
 | .inl k,v=>Value.isInt k v
 | .inr x,v=>Value.isStrOf x v
def ztb(w:World):Key->Int
 | .inl k=>hashInt k
 | .inr x=>hashStr w x
theorem ww:∀{k:Key}{v:Value},zfj k v=true->(∃i t,k=Sum.inl i/\v=Value.int i t)\/(∃x t,k=Sum.inr x/\v=Value.str x t)
 | .inl i,v,h=>by
  obtain⟨t,e⟩:=Value.isInt_shape (k:=i) (v:=v) h
  exact .inl ⟨i,t,rfl,e⟩
 | .inr x,v,h=>by
  obtain⟨t,e⟩:=Value.isStrOf_shape (x:=x) (v:=v) h
  exact .inr ⟨x,t,rfl,e⟩
theorem zjZ(i:Int)(t:Tok):zfj (.inl i) (.int i t)=true:=by simp[zfj,Value.isInt]
theorem zke(x:Str)(t:Tok):zfj (.inr x) (.str x t)=true:=by simp[zfj,Value.isStrOf]
theorem zqu(a b:Int):decide ((Sum.inl a:Key)=Sum.inl b)=(a==b):=by
 by_cases e:a=b
 · subst e;simp
 · have h:¬(Sum.inl a:Key)=Sum.inl b:=λq=>e (Sum.inl.inj q)
   rw[zyD h]
   exact(beq_eq_false_iff_ne.mpr e).symm
theorem zpH(a b:Str):decide ((Sum.inr a:Key)=Sum.inr b)=decide (a=b):=by
 by_cases e:a=b
 · subst e;simp
 · have h:¬(Sum.inr a:Key)=Sum.inr b:=λq=>e (Sum.inr.inj q)
   rw[zyD h,zyD e]
theorem zrb(a:Int)(b:Str):decide ((Sum.inl a:Key)=Sum.inr b)=false:=zyD (λq=>nomatch q)
theorem zri(a:Str)(b:Int):decide ((Sum.inr a:Key)=Sum.inl b)=false:=zyD (λq=>nomatch q)
def vo(prog:Program)(w:World):PySem.KeyKind prog w Key where
 is:=zfj
 hash:=ztb w
 inj:=λv a b ha hb=>by
  rcases ww ha with⟨i,t,rfl,rfl⟩|⟨x,t,rfl,rfl⟩
  · rcases ww hb with⟨j,u,rfl,e⟩|⟨y,u,rfl,e⟩
    · injection e with e1 _;rw[e1]
    · exact nomatch e
  · rcases ww hb with⟨j,u,rfl,e⟩|⟨y,u,rfl,e⟩
    · exact nomatch e
    · injection e with e1 _;rw[e1]
 byValue:=λk v h=>by
  rcases ww h with⟨i,t,rfl,rfl⟩|⟨x,t,rfl,rfl⟩<;>rfl
 pyHash:=λhv h=>by
  rcases ww hv with⟨i,t,rfl,rfl⟩|⟨x,t,rfl,rfl⟩
  · exact wpAny_pyHash_int h
  · exact wpAny_pyHash_str h
 eqBool:=λhu hv h=>by
  rcases ww hu with⟨i,t,rfl,rfl⟩|⟨x,t,rfl,rfl⟩
  · rcases ww hv with⟨j,u,rfl,rfl⟩|⟨y,u,rfl,rfl⟩
    · rw[zqu]at h;exact wpAny_eqBool_int h
    · rw[zrb]at h;exact SeqAt.EqAt.int_str i t y u _ _ _ _ h
  · rcases ww hv with⟨j,u,rfl,rfl⟩|⟨y,u,rfl,rfl⟩
    · rw[zri]at h;exact SeqAt.EqAt.str_int x t j u _ _ _ _ h
    · rw[zpH]at h;exact wpAny_eqBool_str h
 «strs» := λk x t v h=>by
  rcases ww h with⟨i,u,rfl,e⟩|⟨y,u,rfl,e⟩
  · exact nomatch e
  · injection e with e1 _
    subst e1
    cases v<;>rfl
theorem zhv(prog:Program)(w:World)(i:Int)(t:Tok):(vo prog w).is (.inl i) (.int i t)=true:=zjZ i t
theorem Vv(prog:Program)(w:World)(x:Str)(t:Tok):(vo prog w).is (.inr x) (.str x t)=true:=zke x t
end L2
namespace L2
open PySem PySem.Spec PyProof.Rows
inductive V where
 |non|bl (b:Bool)|int (i:Int)|str (x:Str)|byt (b:Array UInt8)|flt (b:UInt64)|ref (a:Addr)|ty (n:String)
 deriving DecidableEq
def RelV:V->Value->Prop
 | .non,u=>u=Value.none
 | .bl b,u=>u=Value.bool b
 | .int i,u=>∃t,u=Value.int i t
 | .str x,u=>∃t,u=Value.str x t
 | .byt b,u=>∃t,u=Value.bytes b t
 | .flt b,u=>∃t,u=Value.float b t
 | .ref a,u=>u=Value.ref a
 | .ty n,u=>u=Value.type n
abbrev Vals:List V->List Value->Prop:=Paired RelV
theorem Vals.length(r:Vals xs us):xs.length=us.length:=Paired.length r
theorem Vals.get:∀{xs:List V}{us:List Value}{i:Nat}{x:V},Vals xs us->xs[i]? = some x->∃u,us[i]? = some u/\RelV x u
 |_,_,_,_,.nil,e=>by simp at e
 |_,_,0,_,.cons r _,e=>by simp at e;subst e;exact⟨_,rfl,r⟩
 |_,_,i+1,x,.cons _ t,e=>by
  obtain⟨u,h1,h2⟩:=Vals.get (i:=i) (x:=x) t (by simpa using e)
  exact⟨u,by simpa using h1,h2⟩
theorem Vals.set(r:RelV x u):∀{xs:List V}{us:List Value}(i:Nat),Vals xs us->Vals (xs.set i x) (us.set i u)
 |_,_,_,.nil=>.nil
 |_,_,0,.cons _ t=>.cons r t
 |_,_,i+1,.cons q t=>.cons q (Vals.set r i t)
theorem Vals.append:∀{xs ys:List V}{us ws:List Value},Vals xs us->Vals ys ws->Vals (xs++ys) (us++ws)
 |_,_,_,_,.nil,s=>s
 |_,_,_,_,.cons r t,s=>.cons r (Vals.append t s)
theorem Vals.take:∀{xs:List V}{us:List Value}(n:Nat),Vals xs us->Vals (xs.take n) (us.take n)
 |_,_,0,_=>.nil
 |_,_,_+1,.nil=>.nil
 |_,_,n+1,.cons r t=>.cons r (Vals.take n t)
theorem Vals.drop:∀{xs:List V}{us:List Value}(n:Nat),Vals xs us->Vals (xs.drop n) (us.drop n)
 |_,_,0,r=>r
 |_,_,_+1,.nil=>.nil
 |_,_,n+1,.cons _ t=>Vals.drop n t
def zaw:Option V->Option Value->Prop
 |some v,some u=>RelV v u
 |none,none=>True
 |_,_=>False
def KV{κ:Type}:List (κ×V)->List (κ×Value)->Prop:=Paired λ(p:κ×V) (q:κ×Value)=>p.1=q.1/\RelV p.2 q.2
def kV:Key->V
 | .inl i=>.int i
 | .inr x=>.str x
inductive HO where
 |lst (xs:List V)
 |tup (xs:List V)
 |dK (kvs:List (Key×V))|dT (kvs:List (List Key×V))
 |set (S:Int->Bool) (n:Nat)
 |ins (C dx:Addr) (fs:List (Str×V))
 |own (x:Addr)
 |xd (fs:List (Str×V))
 |met (f x:Addr)
 |rng (lo hi:Int)
 |frz (o:Obj) (u:HO)
 |tbl (ps:Array Value)
 |ext (φ:Heap->Prop)
abbrev Hp:=Addr->Option HO
def upd(H:Hp)(a:Addr)(o:HO):Hp:=λb=>if b=a then some o else H b
theorem zU:upd H a o a=some o:=by unfold upd;rw[if_pos rfl]
theorem zM(h:b≠a):upd H a o b=H b:=by unfold upd;rw[if_neg h]
theorem yc{H:Hp}{a b:Addr}{o:HO}(h:H a=some o)(h':H b=none):a≠b:=by
 intro e;subst e;rw[h]at h';cases h'
section
variable(P:Program)(w:World)
def vR(H:Hp)(h:Heap)(a:Addr):HO->Prop
 | .lst xs=>xs.length<=sizeLine/\∃(its:List Value) (n:Nat),Vals xs its/\h.get? a=some {cls:=.type "list",data:=.seq its.toArray n}
 | .tup xs=>xs.length<=sizeLine/\∃its:List Value,Vals xs its/\IsTup h a its.toArray
 | .dK kvs=>kvs.length<=sizeLine/\(a==sysModules)=false/\∃vs,KV kvs vs/\h.DictOf (vo P w) a vs
 | .dT kvs=>kvs.length<=sizeLine/\(a==sysModules)=false/\∃xs:List (List Key×Addr×Value),
  Paired (λ(p:List Key×V) (q:List Key×Addr×Value)=>p.1=q.1/\H q.2.1=some (.tup (p.1.map kV))/\RelV p.2 q.2.2) kvs xs/\
  ∃o es ep,h.get? a=some o/\o.ExactDict/\o.data = .dict es ep/\es.toList=xs.map (entryOfKey (tupleKind (vo P w)))/\(xs.map (·.1)).Nodup
 | .set S n=>h.SetOf (intKind P w) a S n
 | .ins C dx fs=>H dx=some (.own a)/\fs.length<=1000/\dx≠a/\h.get? a=some (PySem.W.instObj C dx)/\
  ∃mA,h.Ns1 dx mA/\(∀f,zaw (fs.lookup f) (mA f))/\PySem.Within mA (fs.map (·.1))
 | .own _=>∃o,h.get? a=some o
 | .xd fs=>∃mA,h.Ns1 a mA/\∀f,zaw (fs.lookup f) (mA f)
 | .rng lo hi=>∃t u v,h.get? a=some {cls:=.type "range",data:=.fields #[.int lo t,.int hi u,.int 1 v]}
 | .frz o u=>h.get? a=some o/\vR H h a u
 | .tbl ps=>h.get? a=some {cls:=.none,data:=.fields ps}
 | .met f x=>h.get? a=some (PySem.W.methodObj (.ref f) (.ref x))
 | .ext φ=>φ h/\(∃o,h.get? a=some o)/\∀h1 h2:Heap,φ h1->(∀o,h1.get? a=some o->h2.get? a=some o)->φ h2
def HOk(H:Hp)(h:Heap):Prop:=∀a o,H a=some o->vR P w H h a o
end
section
variable{P:Program}{w:World}{H H':Hp}{h h':Heap}{a:Addr}{o:HO}
theorem vR.lt(x:vR P w H h a o):a<h.objs.size:=by
 cases o with
 |lst xs=>obtain⟨_,_,_,_,e⟩:=x;exact zxG e
 |tup xs=>obtain⟨_,_,_,p⟩:=x;exact p.lt
 |dK kvs=>obtain⟨_,_,_,_,o,_,_,e,_⟩:=x;exact zxG e
 |dT kvs=>obtain⟨_,_,_,_,o,_,_,e,_⟩:=x;exact zxG e
 |set S n=>obtain⟨o,_,_,_,e,_⟩:=x;exact zxG e
 |ins C dx fs=>obtain⟨_,_,_,e,_⟩:=x;exact zxG e
 |own y=>obtain⟨_,e⟩:=x;exact zxG e
 |xd fs=>obtain⟨_,⟨_,_,_,e,_⟩,_⟩:=x;exact zxG e
 |rng lo hi=>obtain⟨_,_,_,e⟩:=x;exact zxG e
 |frz ob u=>obtain⟨e,_⟩:=x;exact zxG e
 |tbl ps=>exact zxG (show h.get? a=some _ from x)
 |met f y=>exact zxG (show h.get? a=some _ from x)
 |ext φ=>obtain⟨_,⟨_,e⟩,_⟩:=x;exact zxG e
theorem Paired.mapP:∀{l₁:List α}{l₂:List β},Paired F l₁ l₂->(∀a b,F a b->G a b)->Paired G l₁ l₂
 |_,_,.nil,_=>.nil
 |_,_,.cons r t,f=>.cons (f _ _ r) (Paired.mapP t f)
theorem vR.stay(x:vR P w H h a o)(k:∀b u,(b=a\/H b=some (.own a))->h.get? b=some u->h'.get? b=some u)
 (ho:∀b,H b=some (.own a)->H' b=some (.own a)) (ht:∀b xs,H b=some (.tup xs)->H' b=some (.tup xs)):vR P w H' h' a o:=by
 induction o with
 |lst xs=>obtain⟨z,its,n,r,e⟩:=x;exact⟨z,its,n,r,k _ _ (.inl rfl) e⟩
 |tup xs=>obtain⟨z,its,r,ob,e,c⟩:=x;exact⟨z,its,r,ob,k _ _ (.inl rfl) e,c⟩
 |dK kvs=>obtain⟨z,y,vs,r,ob,es,ep,e,c⟩:=x;exact⟨z,y,vs,r,ob,es,ep,k _ _ (.inl rfl) e,c⟩
 |dT kvs=>
  obtain⟨z,y,xs,r,ob,es,ep,e,c⟩:=x
  exact⟨z,y,xs,Paired.mapP r λp q z=>⟨z.1,ht _ _ z.2.1,z.2.2⟩,ob,es,ep,k _ _ (.inl rfl) e,c⟩
 |set S n=>obtain⟨ob,es,ep,t,e,c⟩:=x;exact⟨ob,es,ep,t,k _ _ (.inl rfl) e,c⟩
 |ins C dx fs=>
  obtain⟨d,z,ne,e,mA,⟨od,es,ep,e2,c⟩,r⟩:=x
  exact⟨ho _ d,z,ne,k _ _ (.inl rfl) e,mA,⟨od,es,ep,k _ _ (.inr d) e2,c⟩,r⟩
 |own y=>obtain⟨ob,e⟩:=x;exact⟨ob,k _ _ (.inl rfl) e⟩
 |xd fs=>obtain⟨mA,⟨od,es,ep,e,c⟩,r⟩:=x;exact⟨mA,⟨od,es,ep,k _ _ (.inl rfl) e,c⟩,r⟩
 |rng lo hi=>obtain⟨t,u,v,e⟩:=x;exact⟨t,u,v,k _ _ (.inl rfl) e⟩
 |frz ob u ih=>obtain⟨e,q⟩:=x;exact⟨k _ _ (.inl rfl) e,ih q⟩
 |tbl ps=>
  have e:h.get? a=some {cls:=.none,data:=.fields ps}:=x
  show h'.get? a=some {cls:=.none,data:=.fields ps}
  exact k a _ (.inl rfl) e
 |met f y=>
  have e:h.get? a=some (PySem.W.methodObj (.ref f) (.ref y)):=x
  show h'.get? a=some (PySem.W.methodObj (.ref f) (.ref y))
  exact k a _ (.inl rfl) e
 |ext φ=>obtain⟨p,⟨o,e⟩,st⟩:=x;exact⟨st _ _ p λo q=>k _ _ (.inl rfl) q,⟨o,k _ _ (.inl rfl) e⟩,st⟩
theorem HOk.lt(x:HOk P w H h)(e:H a=some o):a<h.objs.size:=(x a o e).lt
theorem HOk.fresh(x:HOk P w H h)(e:h.objs.size<=a):H a=none:=by
 cases q:H a with
 |none=>rfl
 |some u=>exact absurd (zzH (x.lt q) e) (Nat.lt_irrefl _)
theorem HOk.kept(x:HOk P w H h)(k:∀b u,h.get? b=some u->h'.get? b=some u):HOk P w H h':=λa o e=>
 (x a o e).stay (λb u _ q=>k b u q) (λ_ q=>q) λ_ _ q=>q
theorem HOk.laid(x:HOk P w H h)(k:∀b u,h.get? b=some u->h'.get? b=some u)(hp:h.objs.size<=a)(new:vR P w (upd H a o) h' a o):HOk P w (upd H a o) h':=λb u e=>by
 have hn:=x.fresh hp
 by_cases hb:b=a
 · subst hb;rw[zU]at e;cases e;exact new
 · rw[zM hb]at e
   exact(x b u e).stay (λc v _ q=>k c v q) (λc q=>by rw[zM (yc q hn)];exact q) λc xs q=>by rw[zM (yc q hn)];exact q
end
def Rd(H:Hp)(a:Addr)(u:HO):Prop:=H a=some u\/∃o,H a=some (.frz o u)
theorem Rd.ok(r:Rd H a u)(x:HOk P w H h):vR P w H h a u:=by
 rcases r with r|⟨o,r⟩
 · exact x a u r
 · obtain⟨_,q⟩:=x a _ r
   exact q
def Mut:Option HO->Prop
 |some (.lst _)=>True
 |some (.dK _)=>True
 |some (.dT _)=>True
 |some (.set _ _)=>True
 |some (.ins _ _ _)=>True
 |some (.ext _)=>True
 |_=>False
section
variable{P:Program}{w:World}{H:Hp}{h h':Heap}{x e:Addr}{o':HO}
theorem HOk.write(ok:HOk P w H h)(mu:Mut (H x))(he:e=x\/H e=some (.own x))(k:∀b u,b≠e->h.get? b=some u->h'.get? b=some u)(heo:∃u,h'.get? e=some u)
 (new:vR P w (upd H x o') h' x o'):HOk P w (upd H x o') h':=λb u q=>by
 have nown:∀c y,H c=some (.own y)->c≠x:=λc y r z=>by subst z;rw[r]at mu;exact mu
 have ntup:∀c xs,H c=some (.tup xs)->c≠x:=λc xs r z=>by subst z;rw[r]at mu;exact mu
 by_cases hb:b=x
 · subst hb;rw[zU]at q;cases q;exact new
 · rw[zM hb]at q
   by_cases hbe:b=e
   · have q':H b=some (.own x):=by
      rcases he with z|z
      · exact absurd (hbe.trans z) hb
      · rw[hbe];exact z
     rw[q]at q';cases q'
     obtain⟨v,hv⟩:=heo
     exact⟨v,by rw[hbe];exact hv⟩
   · refine(ok b u q).stay (λc v hc r=>k c v ?_ r) (λc r=>by rw[zM (nown c b r)];exact r) λc xs r=>by rw[zM (ntup c xs r)];exact r
     rcases hc with rfl|hc
     · exact hbe
     · rintro rfl
       rcases he with z|z
       · exact nown c b hc z
       · rw[hc]at z;cases z;exact hb rfl
end
structure Un(fs ex:List Addr)(H H':Hp)(h h':Heap):Prop where
 keep:∀b o,h.get? b=some o->H b=none->b ∉ fs->b ∉ ex->h'.get? b=some o
 slot:∀b o,h.get? b=some o->H b=none->b ∈ fs->b ∉ ex->∃sl,h'.get? b=some {o with slots:=sl}
 free:∀b o,h.get? b=some o->H b=none->b ∉ ex->H' b=none
 there:∀b o,h.get? b=some o->b ∉ ex->∃o',h'.get? b=some o'
 tups:∀b xs,H b=some (.tup xs)->H' b=some (.tup xs)
 frzs:∀b o u,H b=some (.frz o u)->H' b=some (.frz o u)
 tbls:∀b ps,H b=some (.tbl ps)->∃more,H' b=some (.tbl (ps++more))
section
variable{fs fs' ex ex':List Addr}{H H1 H2:Hp}{h h1 h2 h':Heap}{a x e:Addr}{o:HO}
theorem Un.any(u:Un fs ex H H1 h h1)(q:h.get? b=some ob)(n:H b=none)(hx:b ∉ ex):∃sl,h1.get? b=some {ob with slots:=sl}:=by
 by_cases hb:b ∈ fs
 · exact u.slot b ob q n hb hx
 · exact⟨ob.slots,u.keep b ob q n hb hx⟩
theorem Un.kept(k:∀b u,h.get? b=some u->h'.get? b=some u):Un fs ex H H h h':=
 ⟨λb ob q _ _ _=>k b ob q,λb ob q _ _ _=>⟨ob.slots,k b ob q⟩,λ_ _ _ n _=>n,λb ob q _=>⟨ob,k b ob q⟩,λ_ _ q=>q,λ_ _ _ q=>q,λ_ ps q=>⟨#[],by rw[q];simp⟩⟩
theorem Un.refl:Un fs ex H H h h:=Un.kept λ_ _ q=>q
theorem Un.laid(k:∀b u,h.get? b=some u->h'.get? b=some u)(hp:h.objs.size<=a)(hn:H a=none):Un fs ex H (upd H a o) h h' where
 keep:=λb u q _ _ _=>k b u q
 slot:=λb u q _ _ _=>⟨u.slots,k b u q⟩
 free:=λb u q n _=>by rw[zM (zzN (zzH (zxG q) hp))];exact n
 there:=λb u q _=>⟨u,k b u q⟩
 tups:=λb xs q=>by rw[zM (yc q hn)];exact q
 frzs:=λb u xs q=>by rw[zM (yc q hn)];exact q
 tbls:=λb ps q=>⟨#[],by rw[zM (yc q hn),q];simp⟩
theorem Un.write(mu:Mut (H x))(he:e=x\/H e=some (.own x))(k:∀b u,b≠e->h.get? b=some u->h'.get? b=some u)(heo:∃u,h'.get? e=some u):Un fs ex H (upd H x o) h h':=by
 have hx:∀b,H b=none->b≠x:=λb n z=>by subst z;rw[n]at mu;exact mu
 have hb:∀b,H b=none->b≠e:=λb n z=>by
  subst z
  rcases he with r|r
  · exact hx b n r
  · rw[n]at r;cases r
 have hm:∀b u,H b=some u->¬Mut (some u)->b≠x:=λb u q nm z=>by subst z;rw[q]at mu;exact nm mu
 refine⟨λb u q n _ _=>k b u (hb b n) q,λb u q n _ _=>⟨u.slots,k b u (hb b n) q⟩,λb u q n _=>by rw[zM (hx b n)];exact n,λb u q _=>?_,
  λb xs q=>by rw[zM (hm b _ q λz=>z)];exact q,λb u xs q=>by rw[zM (hm b _ q λz=>z)];exact q,λb ps q=>⟨#[],by rw[zM (hm b _ q λz=>z),q];simp⟩⟩
 by_cases hbe:b=e
 · subst hbe;exact heo
 · exact⟨u,k b u hbe q⟩
theorem Un.mono(u:Un fs ex H H1 h h1)(hs:∀b ∈ fs,b ∈ fs')(hx:∀b ∈ ex,b ∈ ex'):Un fs' ex' H H1 h h1:=
 ⟨λb ob q n hb he=>u.keep b ob q n (λz=>hb (hs b z)) λz=>he (hx b z),λ_ _ q n _ he=>u.any q n λz=>he (hx _ z),λb ob q n he=>u.free b ob q n λz=>he (hx b z),λb ob q he=>u.there b ob q λz=>he (hx b z),u.tups,u.frzs,u.tbls⟩
end
def trk(h:Heap)(H:Hp):List Addr:=(List.range h.objs.size).filter λa=>(H a).isSome
def zfW(h:Heap)(H:Hp):Heap:=PySem.W.hideAll h (trk h H)
theorem zkj(h:Heap)(H:Hp):(zfW h H).objs.size=h.objs.size:=PySem.W.hideAll_size _ _
theorem zkF(e:h.get? b=some o)(n:H b=none):(zfW h H).get? b=some o:=
 PySem.W.hideAll_get _ e λhm=>by
  have q:(H b).isSome=true:=(List.mem_filter.mp hm).2
  rw[n]at q;simp at q
theorem zou(e:(zfW h H).get? b=some o):h.get? b=some o/\H b=none:=by
 have e':h.get? b=some o:=PySem.W.of_hideAll (trk h H) e
 refine⟨e', ?_⟩
 cases q:H b with
 |none=>rfl
 |some x=>
  have hm:b ∈ trk h H:=List.mem_filter.mpr ⟨List.mem_range.mpr (zxG e'),by simp[q]⟩
  have z:(zfW h H).get? b=none:=PySem.W.hideAll_none (trk h H) hm
  rw[z]at e;cases e
end L2
namespace L2
open PySem PySem.Spec PyProof.Rows
structure Mod(K:zC)(mg:Str->Option Value)(base:Heap):Prop where
 kin:K.In base
 glob:base.Ns mainGlobals mg
 blt:∃mb,base.Ns builtinsNs mb/\∀x:Str,x≠"__name__"->mb x=bootBuiltins x
 nolimit:base.NoLimit
structure Cx where
 prog:Program
 w:World
 K:zC
 mg:Str->Option Value
 base:Heap
 A:Around
 N:List Str
 s₀:Shared
 H₀:Hp
 env:Env
 outer:List Env
 stack:List Env
 ex:List Addr
 fn:Str->Bool
 calm:Bool
 pn:List (Addr×Obj)
 xe:Value->Shared->Prop
def frs(l:List Env):List Addr:=l.filterMap (·.frame)
abbrev Cx.fs(X:Cx):List Addr:=frs X.outer
def Vis(sc:Scope)(x:Str):Prop:=sc.names.lookup x=some .local\/sc.names.lookup x=some .cell\/sc.names.lookup x=some .free
def Loc(sc:Scope)(x:Str):Prop:=sc.names.lookup x=some .local\/sc.names.lookup x=some .cell
def Look(env:Env)(h:Heap)(m:Str->Option Value)(x:Str)(u:Value):Prop:=
 (env.kindOf x=some .local/\m x=some u)\/((env.kindOf x=some .cell\/env.kindOf x=some .free)/\∃c,env.cells.lookup x=some c/\h.IsCell c (some u))
structure Cx.Ok(X:Cx):Prop where
 mod:Mod X.K X.mg X.base
 kind:X.env.scope.kind = .function
 glob:X.env.globals=mainGlobals
 blt:X.env.builtins=builtinsNs
 above:X.s₀.heap.objs.size<=X.env.locals
 inj:∀x y c,X.env.cells.lookup x=some c->X.env.cells.lookup y=some c->x=y
 has:∀x,(X.env.kindOf x=some .cell\/X.env.kindOf x=some .free)->∃c,X.env.cells.lookup x=some c
 cab:∀x c,X.fn x=true->X.env.cells.lookup x=some c->X.s₀.heap.objs.size<=c
 hd:X.calm=true->X.A.handled=none
 frames:X.A.frames=some X.stack
 stk:X.stack=X.outer\/(X.stack=X.env::X.outer/\X.env.frame=some X.env.locals)
 exf:∀b ∈ X.ex,b≠X.env.locals/\∀x c,X.env.cells.lookup x=some c->c≠b
 bs:∀b o,X.base.get? b=some o->X.s₀.heap.get? b=some o/\X.H₀ b=none
 bsz:X.base.objs.size<=X.s₀.heap.objs.size
 noex:∀b o,X.base.get? b=some o->b ∉ X.ex
 exfs:∀b ∈ X.ex,b ∉ X.fs
 funs:X.s₀.heap.FunFrames X.base X.outer
 frf:∀b ∈ X.fs,X.H₀ b=none
structure Inv(X:Cx)(pins:List (Addr×Obj))(σ:List (Option V))(H:Hp)(s:Shared):Prop where
 ok:X.Ok
 os:s.os=X.s₀.os
 bare:AllBare s.gens
 base:Un X.fs X.ex X.H₀ H X.s₀.heap s.heap
 loc:∃m,s.heap.Ns X.env.locals m/\∀(i:Nat) (x:Str) (v:V),X.N[i]? = some x->σ[i]? = some (some v)->Vis X.env.scope x->∃u,RelV v u/\Look X.env s.heap m x u
 cell:∀x c,X.env.cells.lookup x=some c->∃v,s.heap.IsCell c v
 free:H X.env.locals=none
 freeC:∀x c,X.env.cells.lookup x=some c->H c=none
 pin:∀p ∈ X.pn++pins,s.heap.get? p.1=some p.2/\H p.1=none/\p.1≠X.env.locals/\p.1 ∉ X.fs/\∀v,p.2.data ≠ .cell v
 hok:HOk X.prog X.w H s.heap
 len:σ.length=X.N.length
section
variable{X:Cx}{pins:List (Addr×Obj)}{σ:List (Option V)}{H H':Hp}{s:Shared}{h':Heap}
theorem Cx.Ok.nofr(ok:X.Ok)(e:X.base.get? b=some o):b ∉ X.fs:=λhb=>by
 have:=(ok.funs.mem hb).1
 rw[e]at this;cases this
theorem Inv.bs(I:Inv X pins σ H s):∀b o,X.base.get? b=some o->s.heap.get? b=some o/\H b=none:=λb o e=>
 ⟨I.base.keep b o (I.ok.bs b o e).1 (I.ok.bs b o e).2 (I.ok.nofr e) (I.ok.noex b o e),I.base.free b o (I.ok.bs b o e).1 (I.ok.bs b o e).2 (I.ok.noex b o e)⟩
theorem Inv.bk(I:Inv X pins σ H s):∀b o,X.base.get? b=some o->s.heap.get? b=some o:=λb o e=>(I.bs b o e).1
theorem Inv.mod(I:Inv X pins σ H s):Mod X.K X.mg X.base:=I.ok.mod
theorem Inv.kIn(I:Inv X pins σ H s):X.K.In s.heap:=I.ok.mod.kin.keeps I.bk
theorem Inv.lt(I:Inv X pins σ H s):X.env.locals<s.heap.objs.size:=let⟨_,hn,_⟩:=I.loc;hn.lt
theorem Inv.sz(I:Inv X pins σ H s):X.s₀.heap.objs.size<=s.heap.objs.size:=zzL I.ok.above (Nat.le_of_lt I.lt)
theorem Inv.nofs(I:Inv X pins σ H s)(h:s.heap.objs.size<=a):a ∉ X.fs:=λhb=>by
 obtain⟨_,o,ho,_⟩:=I.ok.funs.mem hb
 exact absurd (zzH (zxG ho) (zzL I.sz h)) (Nat.lt_irrefl _)
theorem Inv.cne(I:Inv X pins σ H s):∀x c,X.env.cells.lookup x=some c->c≠X.env.locals:=λx c e z=>by
 obtain⟨v,o,ho,hd⟩:=I.cell x c e
 obtain⟨m,⟨o',es,ep,ho',hd',_⟩,_⟩:=I.loc
 rw[z,ho']at ho;cases ho;rw[hd']at hd;cases hd
theorem Inv.funs(I:Inv X pins σ H s):s.heap.FunFrames X.base X.outer:=by
 have all:∀(l:List Env),(∀b ∈ frs l,b ∈ X.fs)->X.s₀.heap.FunFrames X.base l->s.heap.FunFrames X.base l:=by
  intro l
  induction l with
  |nil=>intro _ _;trivial
  |cons env r ih=>
   intro hs hl
   obtain⟨hk,⟨L,o,hf,hn,ho,hd⟩,hr⟩:=hl
   have hL:L ∈ X.fs:=hs L (by unfold frs;rw[List.filterMap_cons,hf];exact zzC)
   obtain⟨sl,e⟩:=I.base.slot L o ho (I.ok.frf L hL) hL λz=>I.ok.exfs L z hL
   exact⟨hk,⟨L,_,hf,hn,e,hd⟩,ih (λb hb=>hs b (by unfold frs;rw[List.filterMap_cons,hf];exact zzA _ hb)) hr⟩
 exact all X.outer (λ_ hb=>hb) I.ok.funs
theorem Inv.stack(I:Inv X pins σ H s):s.heap.FunFrames X.base X.stack:=by
 rcases I.ok.stk with e|⟨e,hf⟩
 · rw[e];exact I.funs
 · rw[e]
   obtain⟨m,hn,_⟩:=I.loc
   refine .cons (by rw[I.ok.kind];decide) hf hn ?_ I.funs
   exact Heap.get?_none_of_le (zzL I.ok.bsz I.ok.above)
theorem Inv.stkSub(I:Inv X pins σ H s):∀b ∈ frs X.stack,b ∈ X.env.locals::X.fs:=λb hb=>by
 rcases I.ok.stk with e|⟨e,hf⟩
 · rw[e]at hb;exact zzA _ hb
 · rw[e]at hb
   unfold frs at hb
   rw[List.filterMap_cons,hf]at hb
   exact hb
theorem Inv.stkFree(I:Inv X pins σ H s):∀b ∈ frs X.stack,H b=none:=λb hb=>by
 rcases zS.mp (I.stkSub b hb)with e|hb
 · rw[e];exact I.free
 · obtain⟨_,o,ho,_⟩:=I.ok.funs.mem hb
   exact I.base.free b o ho (I.ok.frf b hb) λz=>I.ok.exfs b z hb
theorem Inv.step{g':Array GenState}{t':Nat}{d':Drawn}{ch:List Addr}(I:Inv X pins σ H s)
 (hch:∀b ∈ ch,(b ∈ X.ex\/X.s₀.heap.objs.size<=b)/\b≠X.env.locals/\(∀x c,X.env.cells.lookup x=some c->c≠b)/\∀p ∈ X.pn++pins,p.1≠b)
 (keep:∀b o,b≠X.env.locals->b ∉ X.fs->b ∉ ch->s.heap.get? b=some o->H b=none->h'.get? b=some o)
 (slot:∀b o,b≠X.env.locals->b ∈ X.fs->b ∉ ch->s.heap.get? b=some o->H b=none->∃sl,h'.get? b=some {o with slots:=sl}) (free:∀b o,b ∉ ch->s.heap.get? b=some o->H b=none->H' b=none)
 (there:∀b o,b ∉ ch->s.heap.get? b=some o->∃o',h'.get? b=some o')
 (tups:∀b xs,H b=some (.tup xs)->H' b=some (.tup xs)) (frzs:∀b o u,H b=some (.frz o u)->H' b=some (.frz o u)) (tbls:∀b ps,H b=some (.tbl ps)->∃more,H' b=some (.tbl (ps++more)))
 (ns:∀m,s.heap.Ns X.env.locals m->h'.Ns X.env.locals m) (hok:HOk X.prog X.w H' h') (hg:AllBare g'):
 Inv X pins σ H' {s with heap:=h',gens:=g',drawn:=d',toks:=t'}:=by
 have neL:∀b o,X.s₀.heap.get? b=some o->b≠X.env.locals:=λb o e=>zzN (zzH (zxG e) I.ok.above)
 have neC:∀b o,X.s₀.heap.get? b=some o->b ∉ X.ex->b ∉ ch:=λb o e hx hb=>by
  rcases(hch b hb).1 with z|z
  · exact hx z
  · exact absurd (zzH (zxG e) z) (Nat.lt_irrefl _)
 have cellK:∀x c,X.env.cells.lookup x=some c->∀v,s.heap.IsCell c v->h'.IsCell c v:=λx c e v ⟨o,ho,hd⟩=>by
  have nch:c ∉ ch:=λz=>(hch c z).2.2.1 x c e rfl
  by_cases hc:c ∈ X.fs
  · obtain⟨sl,q⟩:=slot c o (I.cne x c e) hc nch ho (I.freeC x c e)
    exact⟨_,q,hd⟩
  · exact⟨o,keep c o (I.cne x c e) hc nch ho (I.freeC x c e),hd⟩
 refine⟨I.ok,I.os,hg,⟨λb o e n hb hx=>?_,λb o e n hb hx=>?_,λb o e n hx=>?_,λb o e hx=>?_,λb xs e=>tups b xs (I.base.tups b xs e),λb o xs e=>frzs b o xs (I.base.frzs b o xs e),λb ps e=>?_⟩, ?_,λx c e=>?_, ?_,λx c e=>?_,λp hp=>?_,hok,I.len⟩
 · exact keep b o (neL b o e) hb (neC b o e hx) (I.base.keep b o e n hb hx) (I.base.free b o e n hx)
 · obtain⟨sl,e1⟩:=I.base.slot b o e n hb hx
   obtain⟨sl',e2⟩:=slot b _ (neL b o e) hb (neC b o e hx) e1 (I.base.free b o e n hx)
   exact⟨sl',e2⟩
 · obtain⟨o',e1⟩:=I.base.there b o e hx
   exact free b o' (neC b o e hx) e1 (I.base.free b o e n hx)
 · obtain⟨o',e1⟩:=I.base.there b o e hx
   exact there b o' (neC b o e hx) e1
 · obtain⟨m1,e1⟩:=I.base.tbls b ps e
   obtain⟨m2,e2⟩:=tbls b _ e1
   exact⟨m1++m2,by rw[e2,Array.append_assoc]⟩
 · obtain⟨m,hn,hl⟩:=I.loc
   refine⟨m,ns m hn,λi x v e1 e2 e3=>?_⟩
   obtain⟨u,r,l⟩:=hl i x v e1 e2 e3
   refine⟨u,r, ?_⟩
   rcases l with l|⟨k,c,e,z⟩
   · exact .inl l
   · exact .inr ⟨k,c,e,cellK x c e _ z⟩
 · obtain⟨v,z⟩:=I.cell x c e
   exact⟨v,cellK x c e v z⟩
 · obtain⟨m,⟨o,_,_,ho,_⟩,_⟩:=I.loc
   exact free _ o (λz=>(hch _ z).2.1 rfl) ho I.free
 · obtain⟨v,o,ho,hd⟩:=I.cell x c e
   exact free c o (λz=>(hch c z).2.2.1 x c e rfl) ho (I.freeC x c e)
 · obtain⟨e,n,ne,nf,d⟩:=I.pin p hp
   have nch:p.1 ∉ ch:=λz=>(hch p.1 z).2.2.2 p hp rfl
   exact⟨keep p.1 p.2 ne nf nch e n,free p.1 p.2 nch e n,ne,nf,d⟩
theorem Inv.un{t':Nat}(I:Inv X pins σ H s)(u:Un X.fs [] H H' s.heap h')(hok:HOk X.prog X.w H' h'):Inv X pins σ H' {s with heap:=h',toks:=t'}:=by
 obtain⟨m,⟨o,es,ep,ho,r⟩,_⟩:=id I.loc
 obtain⟨sl,hL⟩:=u.any ho I.free (by simp)
 exact I.step (g':=s.gens) (d':=s.drawn) (ch:=[]) (λ_ z=>nomatch z) (λb o _ hb _ e n=>u.keep b o e n hb (by simp)) (λb o _ hb _ e n=>u.slot b o e n hb (by simp)) (λb o _ e n=>u.free b o e n (by simp)) (λb o _ e=>u.there b o e (by simp)) u.tups u.frzs u.tbls (λm' hm=>by
  obtain⟨o',es',ep',ho',r'⟩:=hm
  rw[ho]at ho';cases ho'
  exact⟨_,es',ep',hL,r'⟩) hok I.bare
theorem Inv.call{g':Array GenState}{t':Nat}{d':Drawn}{ch:List Addr}(I:Inv X pins σ H s)(u:Un (frs X.stack) ch H H' s.heap h')(hok:HOk X.prog X.w H' h')(hg:AllBare g')
 (hch:∀b ∈ ch,(b ∈ X.ex\/X.s₀.heap.objs.size<=b)/\b≠X.env.locals/\(∀x c,X.env.cells.lookup x=some c->c≠b)/\∀p ∈ X.pn++pins,p.1≠b):
 Inv X pins σ H' {s with heap:=h',gens:=g',drawn:=d',toks:=t'}:=by
 obtain⟨m,⟨o,es,ep,ho,r⟩,_⟩:=id I.loc
 obtain⟨sl,hL⟩:=u.any ho I.free λz=>(hch _ z).2.1 rfl
 exact I.step (ch:=ch) hch (λb o hL hb hc e n=>u.keep b o e n (λz=>(zS.mp (I.stkSub b z)).elim hL hb) hc) (λb o _ _ hc e n=>u.any e n hc) (λb o hc e n=>u.free b o e n hc) (λb o hc e=>u.there b o e hc) u.tups u.frzs u.tbls (λm' hm=>by
  obtain⟨o',es',ep',ho',r'⟩:=hm
  rw[ho]at ho';cases ho'
  exact⟨_,es',ep',hL,r'⟩) hok hg
theorem Inv.turned{t':Nat}{it:Addr}(I:Inv X pins σ H s)(k:∀b o,b≠it->s.heap.get? b=some o->h'.get? b=some o)(hn:H it=none)(hL:it≠X.env.locals)
 (h1:it ∈ X.ex\/X.s₀.heap.objs.size<=it) (h2:∀x c,X.env.cells.lookup x=some c->c≠it) (h3:∀p ∈ X.pn++pins,p.1≠it):Inv X pins σ H {s with heap:=h',toks:=t'}:=by
 have nit:∀b u,H b=some u->b≠it:=λb u e z=>by rw[z,hn]at e;cases e
 refine I.step (g':=s.gens) (d':=s.drawn) (ch:=[it]) (λb hb=>?_) (λb o _ _ hc e _=>k b o (λz=>hc (by simp[z])) e) (λb o _ _ hc e _=>⟨o.slots,k b o (λz=>hc (by simp[z])) e⟩) (λ_ _ _ _ n=>n)
  (λb o hc e=>⟨o,k b o (λz=>hc (by simp[z])) e⟩) (λ_ _ e=>e) (λ_ _ _ e=>e) (λb ps e=>⟨#[],by rw[e];simp⟩) (λm hm=>?_) (λb u e=>?_) I.bare
 · have e:b=it:=by simpa using hb
   subst e
   exact⟨h1,hL,h2,h3⟩
 · obtain⟨o,es,ep,ho,r⟩:=hm
   exact⟨o,es,ep,k _ o (Ne.symm hL) ho,r⟩
 · refine(I.hok b u e).stay (λc v hc q=>k c v ?_ q) (λ_ q=>q) λ_ _ q=>q
   rcases hc with z|z
   · rw[z];exact nit b u e
   · exact nit c _ z
theorem Inv.tok(I:Inv X pins σ H s)(t:Nat):Inv X pins σ H {s with toks:=t}:=I.un (h':=s.heap) (t':=t) Un.refl I.hok
theorem Inv.kept(I:Inv X pins σ H s)(k:∀b u,s.heap.get? b=some u->h'.get? b=some u):Inv X pins σ H {s with heap:=h',toks:=t'}:=I.un (Un.kept k) (I.hok.kept k)
theorem Inv.laid(I:Inv X pins σ H s)(k:∀b u,s.heap.get? b=some u->h'.get? b=some u)(hp:s.heap.objs.size<=a)(new:vR X.prog X.w (upd H a o) h' a o):
 Inv X pins σ (upd H a o) {s with heap:=h',toks:=t'}:=I.un (Un.laid k hp (I.hok.fresh hp)) (I.hok.laid k hp new)
theorem Inv.write(I:Inv X pins σ H s)(mu:Mut (H x))(he:e=x\/H e=some (.own x))(k:∀b u,b≠e->s.heap.get? b=some u->h'.get? b=some u)(heo:∃u,h'.get? e=some u)
 (new:vR X.prog X.w (upd H x o) h' x o):Inv X pins σ (upd H x o) {s with heap:=h',toks:=t'}:=I.un (Un.write mu he k heo) (I.hok.write mu he k heo new)
theorem Inv.weak(I:Inv X pins σ H s)(hl:σ'.length=σ.length)(w:∀(i:Nat) v,σ'[i]? = some (some v)->σ[i]? = some (some v)):Inv X pins σ' H s:=
 ⟨I.ok,I.os,I.bare,I.base,let⟨m,hn,hl'⟩:=I.loc;⟨m,hn,λi x v e1 e2 e3=>hl' i x v e1 (w i v e2) e3⟩,I.cell,I.free,I.freeC,I.pin,I.hok,hl.trans I.len⟩
theorem Inv.pins_of(I:Inv X pins σ H s)(h:∀p ∈ pins',s.heap.get? p.1=some p.2/\H p.1=none/\p.1≠X.env.locals/\p.1 ∉ X.fs/\∀v,p.2.data ≠ .cell v):Inv X pins' σ H s:=
 ⟨I.ok,I.os,I.bare,I.base,I.loc,I.cell,I.free,I.freeC,λp hp=>(zzJ.mp hp).elim (λz=>I.pin p (zzM _ z)) (h p),I.hok,I.len⟩
theorem zea{N:List Str}(hN:N.Nodup){i j:Nat}{x:Str}(a:N[i]? = some x)(b:N[j]? = some x):i=j:=by
 obtain⟨h1,e1⟩:=zzD.mp a
 obtain⟨h2,e2⟩:=zzD.mp b
 exact(List.getElem_inj hN).mp (e1.trans e2.symm)
theorem zcg{M:Model}{A:Around}{E:Value->Shared->Prop}{i:Nat}{x:Str}{v:V}{u:Value}{Q:Unit->Shared->Prop}(I:Inv X pins σ H s)(hN:X.N.Nodup)(hi:X.N[i]? = some x)(hx:Loc X.env.scope x)(r:RelV v u)
 (h:∀s',Inv X pins (σ.set i (some v)) H s'->(∃a,Heap.SameBut a s.heap s'.heap/\(a=X.env.locals\/X.env.cells.lookup x=some a))->Q () s') (hf:X.fn x=true\/X.env.scope.names.lookup x=some .local:=by first|exact .inl rfl|exact .inr rfl|assumption):wpAny M A (storeName X.env x u) Q E s:=by
 obtain⟨m,hn,hl⟩:=id I.loc
 have hcls:(X.env.scope.kind == .class||(X.env.scope.kind == .module&&X.env.locals != X.env.globals))=false:=by rw[I.ok.kind];rfl
 have hiσ:i<σ.length:=by rw[I.len];exact(zzD.mp hi).1
 have cne:=I.cne
 have tracked:∀{a:Addr}{h':Heap},(∃o,s.heap.get? a=some o/\H a=none)->Heap.SameBut a s.heap h'->HOk X.prog X.w H h':=λ{a h'} ha hs b ob e=>by
  obtain⟨_,_,hfree⟩:=ha
  refine(I.hok b ob e).stay (λc w' hc q=>(hs.2 c ?_).trans q) (λ_ q=>q) λ_ _ q=>q
  rintro rfl
  rcases hc with rfl|hc
  · rw[hfree]at e;cases e
  · rw[hfree]at hc;cases hc
 rcases hx with hk|hk
 · refine wpAny_storeName_local hk hn (λh' hn' hs=>?_) hcls
   obtain⟨oL,_,_,hoL,_⟩:=id hn
   refine h _ ⟨I.ok,I.os,I.bare,⟨λb o e n hb hx=>?_,λb o e n hb hx=>?_,I.base.free,λb o e hx=>?_,I.base.tups,I.base.frzs,I.base.tbls⟩,⟨_,hn',λj y v' e1 e2 e3=>?_⟩,λy c e=>?_,I.free,I.freeC,λp hp=>?_,tracked ⟨oL,hoL,I.free⟩ hs,by simpa using I.len⟩ ⟨_,hs,.inl rfl⟩
   · exact(hs.2 b (zzN (zzH (zxG e) I.ok.above))).trans (I.base.keep b o e n hb hx)
   · obtain⟨sl,e1⟩:=I.base.slot b o e n hb hx
     exact⟨sl,(hs.2 b (zzN (zzH (zxG e) I.ok.above))).trans e1⟩
   · obtain⟨o',e1⟩:=I.base.there b o e hx
     exact⟨o',(hs.2 b (zzN (zzH (zxG e) I.ok.above))).trans e1⟩
   · by_cases hj:j=i
     · subst hj
       rw[hi]at e1;cases e1
       rw[zyH hiσ]at e2
       cases e2
       exact⟨u,r,.inl ⟨hk,by simp⟩⟩
     · rw[zzV (Ne.symm hj)]at e2
       obtain⟨u',r',q⟩:=hl j y v' e1 e2 e3
       refine⟨u',r', ?_⟩
       rcases q with⟨k,e⟩|⟨k,c,e,z⟩
       · refine .inl ⟨k, ?_⟩
         have:y≠x:=λe=>hj (zea hN e1 (e ▸ hi))
         simp[this,e]
       · exact .inr ⟨k,c,e,z.sameBut hs (cne y c e)⟩
   · obtain⟨w',z⟩:=I.cell y c e
     exact⟨w',z.sameBut hs (cne y c e)⟩
   · obtain⟨e,n,ne,nf,d⟩:=I.pin p hp
     exact⟨(hs.2 p.1 ne).trans e,n,ne,nf,d⟩
 · have hfn:X.fn x=true:=by
    rcases hf with z|z
    · exact z
    · rw[z]at hk;cases hk
   obtain⟨c,hc⟩:=I.ok.has x (.inl hk)
   obtain⟨w',z⟩:=I.cell x c hc
   refine wpAny_storeName_cell I.ok.kind hk hc z (λh' hc' hs=>?_)
   obtain⟨oc,hoc,hocd⟩:=id z
   refine h {s with heap:=h'} ⟨I.ok,I.os,I.bare,⟨λb o e n hb hx=>?_,λb o e n hb hx=>?_,I.base.free,λb o e hx=>?_,I.base.tups,I.base.frzs,I.base.tbls⟩,⟨m,hn.sameBut hs (Ne.symm (cne x c hc)),λj y v' e1 e2 e3=>?_⟩,λy c' e=>?_,I.free,I.freeC,λp hp=>?_,tracked ⟨oc,hoc,I.freeC x c hc⟩ hs,by simpa using I.len⟩ ⟨c,hs,.inr hc⟩
   · exact(hs.2 b (zzN (zzH (zxG e) (I.ok.cab x c hfn hc)))).trans (I.base.keep b o e n hb hx)
   · obtain⟨sl,e1⟩:=I.base.slot b o e n hb hx
     exact⟨sl,(hs.2 b (zzN (zzH (zxG e) (I.ok.cab x c hfn hc)))).trans e1⟩
   · obtain⟨o',e1⟩:=I.base.there b o e hx
     exact⟨o',(hs.2 b (zzN (zzH (zxG e) (I.ok.cab x c hfn hc)))).trans e1⟩
   · by_cases hj:j=i
     · subst hj
       rw[hi]at e1;cases e1
       rw[zyH hiσ]at e2
       cases e2
       exact⟨u,r,.inr ⟨.inl hk,c,hc,hc'⟩⟩
     · rw[zzV (Ne.symm hj)]at e2
       obtain⟨u',r',q⟩:=hl j y v' e1 e2 e3
       refine⟨u',r', ?_⟩
       rcases q with q|⟨k,c',e,z'⟩
       · exact .inl q
       · refine .inr ⟨k,c',e,z'.sameBut hs ?_⟩
         rintro rfl
         exact hj (zea hN e1 (I.ok.inj _ _ _ e hc ▸ hi))
   · by_cases hcc:c'=c
     · subst hcc;exact⟨_,hc'⟩
     · obtain⟨w2,z2⟩:=I.cell y c' e
       exact⟨w2,z2.sameBut hs hcc⟩
   · obtain⟨e,n,ne,nf,d⟩:=I.pin p hp
     refine⟨(hs.2 p.1 ?_).trans e,n,ne,nf,d⟩
     intro q
     rw[q,hoc]at e
     have q':oc=p.2:=zzW e
     exact d w' (by rw[<-q'];exact hocd)
theorem zbx(I:Inv X pins σ H s)(hN:X.N.Nodup)(hi:X.N[i]? = some x)(hx:Loc X.env.scope x)(r:RelV v u)
 (h:∀s',Inv X pins (σ.set i (some v)) H s'->Q () s') (hf:X.fn x=true\/X.env.scope.names.lookup x=some .local:=by first|exact .inl rfl|exact .inr rfl|assumption):wpAny M A (storeName X.env x u) Q E s:=
 zcg I hN hi hx r (λs' I' _=>h s' I') hf
theorem Inv.call'(I:Inv X pins σ H s)(ho:s'.os=s.os)(u:Un (frs X.stack) ch H H' s.heap s'.heap)(hok:HOk X.prog X.w H' s'.heap)(hg:AllBare s'.gens)
 (hch:∀b ∈ ch,(b ∈ X.ex\/X.s₀.heap.objs.size<=b)/\b≠X.env.locals/\(∀x c,X.env.cells.lookup x=some c->c≠b)/\∀p ∈ X.pn++pins,p.1≠b):Inv X pins σ H' s':=by
 obtain⟨h',g',d',t',o'⟩:=s'
 have e:o'=s.os:=ho
 subst e
 exact I.call (g':=g') (t':=t') (d':=d') u hok hg hch
end
abbrev XK:=Value->Option Addr->Hp->Prop
abbrev St:=List (Option V)
abbrev VK:=V->Hp->Prop
abbrev TE:=St->Hp->VK->Prop
abbrev TT:=St->Hp->(Bool->Hp->Prop)->Prop
abbrev TA:=St->Hp->(List V->Hp->Prop)->Prop
structure Ends where
 nx:St->Hp->Prop
 rt:VK
 bk:St->Hp->Prop:=λ_ _=>False
 ct:St->Hp->Prop:=λ_ _=>False
abbrev TS:=Ends->St->Hp->Prop
def EP(X:Cx)(pins:List (Addr×Obj))(σ:St)(Q:VK)(u:Value)(s':Shared):Prop:=∃v H',Inv X pins σ H' s'/\RelV v u/\Q v H'
def TP(X:Cx)(pins:List (Addr×Obj))(σ:St)(Q:Bool->Hp->Prop)(b:Bool)(s':Shared):Prop:=∃H',Inv X pins σ H' s'/\Q b H'
def AP(X:Cx)(pins:List (Addr×Obj))(σ:St)(Q:List V->Hp->Prop)(us:List Value)(s':Shared):Prop:=∃vs H',Inv X pins σ H' s'/\Vals vs us/\Q vs H'
def SP(X:Cx)(pins:List (Addr×Obj))(D:Ends)(f:Flow)(s':Shared):Prop:=
 match f with
 | .next=>∃σ' H',Inv X pins σ' H' s'/\D.nx σ' H'
 | .brk=>∃σ' H',Inv X pins σ' H' s'/\D.bk σ' H'
 | .cont=>∃σ' H',Inv X pins σ' H' s'/\D.ct σ' H'
 | .ret u=>∃v σ' H',Inv X pins σ' H' s'/\RelV v u/\D.rt v H'
def PE(X:Cx)(e:Expr)(t:TE):Prop:=
 ∀(pins:List (Addr×Obj)) (s:Shared) (σ:St) (H:Hp) (Q:VK),Inv X pins σ H s->t σ H Q->wpAny (model X.prog X.w) X.A (eval e X.env) (EP X pins σ Q) X.xe s
def PT(X:Cx)(e:Expr)(t:TT):Prop:=
 ∀(pins:List (Addr×Obj)) (s:Shared) (σ:St) (H:Hp) (Q:Bool->Hp->Prop),Inv X pins σ H s->t σ H Q->wpAny (model X.prog X.w) X.A (isTrue e X.env (eval e X.env)) (TP X pins σ Q) X.xe s
def PW(X:Cx)(e:Expr)(t:TT):Prop:=
 ∀(whole:Sem Value) (pins:List (Addr×Obj)) (s:Shared) (σ:St) (H:Hp) (Q:Bool->Hp->Prop),Inv X pins σ H s->t σ H Q->wpAny (model X.prog X.w) X.A (isTrue e X.env whole) (TP X pins σ Q) X.xe s
theorem PW.pt(h:PW X e t):PT X e t:=h _
def PA(X:Cx)(es:List Expr)(t:TA):Prop:=
 ∀(pos:Pos) (pins:List (Addr×Obj)) (s:Shared) (σ:St) (H:Hp) (Q:List V->Hp->Prop),Inv X pins σ H s->t σ H Q->wpAny (model X.prog X.w) X.A (spliced (backTo pos (starEach es X.env))) (AP X pins σ Q) X.xe s
def PS(X:Cx)(st:Stmt)(t:TS):Prop:=
 ∀(pins:List (Addr×Obj)) (s:Shared) (σ:St) (H:Hp) (D:Ends),Inv X pins σ H s->t D σ H->wpAny (model X.prog X.w) X.A (exec st X.env) (SP X pins D) X.xe s
def PSs(X:Cx)(st:List Stmt)(t:TS):Prop:=
 ∀(pins:List (Addr×Obj)) (s:Shared) (σ:St) (H:Hp) (D:Ends),Inv X pins σ H s->t D σ H->wpAny (model X.prog X.w) X.A (execs st X.env) (SP X pins D) X.xe s
theorem thn(h:wpAny M A t Q E s)(hQ:∀a s,Q a s->Q' a s):wpAny M A t Q' E s:=zxQ h hQ λ_ _ x=>x
end L2
namespace L2
open PySem PySem.Spec PyProof.Rows
section
variable{X:Cx}
def zcn(i:Nat):TE:=λσ H Q=>∃v,σ[i]? = some (some v)/\Q v H
def tC(v:V):TE:=λ_ H Q=>Q v H
theorem zlb(hN:X.N[i]? = some x)(hv:Vis X.env.scope x)(hd:(x==("__debug__":Str))=false:=by decide)(hcd:(x==("__classdict__":Str))=false:=by decide):PE X (.Name x pos) (zcn i):=by
 intro pins s σ H Q I h
 obtain⟨v,e,h⟩:=h
 obtain⟨m,hn,hl⟩:=I.loc
 obtain⟨u,r,l⟩:=hl i x v hN e hv
 have fin:EP X pins σ Q u s:=⟨v,H,I,r,h⟩
 rcases l with⟨hk,hm⟩|⟨hk,c,hc,hcell⟩
 · exact wpAny_Name (wpAny_loadName_local I.ok.kind hk hn hm fin) hd
 · rcases hk with hk|hk
   · exact wpAny_Name (wpAny_loadName_cell I.ok.kind hk hc hcell fin) hd
   · exact wpAny_Name (wpAny_loadName_free I.ok.kind hk hc hcell fin hcd) hd
theorem zir:PE X (.Constant (.int i) j pos) (tC (.int i)):=λ_ _ _ H _ I h=>wpAny_Constant_int ⟨.int i,H,I.tok _,⟨_,rfl⟩,h⟩
theorem zrJ:PE X (.Constant (.bool b) j pos) (tC (.bl b)):=λ_ _ _ H _ I h=>Constant_bool ⟨.bl b,H,I,rfl,h⟩
theorem zrg:PE X (.Constant .none j pos) (tC .non):=λ_ _ _ H _ I h=>Constant_none ⟨.non,H,I,rfl,h⟩
theorem zmp:PE X (.Constant (.str x) j pos) (tC (.str x)):=λ_ _ _ H _ I h=>Calls.Constant_str ⟨.str x,H,I.tok _,⟨_,rfl⟩,h⟩
def Gl(X:Cx)(x:Str):Prop:=X.env.kindOf x=some .globalImplicit
theorem YF(I:Inv X pins σ H s)(hg:Gl X x)(hm:X.mg x=some u)(h:Q u s)
 (hd:(x==("__debug__":Str))=false:=by decide):wpAny (model X.prog X.w) X.A (eval (.Name x pos) X.env) Q E s:=
 Calls.Name_function_global I.ok.kind hg (Calls.loadGlobal_global (by rw[I.ok.glob];exact I.mod.glob.keeps I.bk) hm h) hd
theorem zaY(I:Inv X pins σ H s)(hg:Gl X x)(hm:X.mg x=none)(hv:bootBuiltins x=some u)(h:Q u s)
 (hn:x≠"__name__":=by decide) (hd:(x==("__debug__":Str))=false:=by decide):wpAny (model X.prog X.w) X.A (eval (.Name x pos) X.env) Q E s:=by
 obtain⟨mb,h1,h2⟩:=I.mod.blt
 exact Calls.Name_function_global I.ok.kind hg (Calls.loadGlobal_builtin (by rw[I.ok.glob];exact I.mod.glob.keeps I.bk) hm (by rw[I.ok.blt];exact h1.keeps I.bk) ((h2 x hn).trans hv) h) hd
theorem zjK(hg:Gl X x)(hm:X.mg x=none)(hv:bootBuiltins x=some u)(r:RelV v u)(hn:x≠"__name__":=by decide)(hd:(x==("__debug__":Str))=false:=by decide):PE X (.Name x pos) (tC v):=
 λ_ _ _ H _ I h=>zaY I hg hm hv ⟨v,H,I,r,h⟩ hn hd
variable{a b:Expr}{ta tb:TE}{pos:Pos}
variable{tA tB':TT}{rest:List Expr}
def zsP(t u:TT):TT:=λσ H Q=>t σ H λc H1=>if c=true then u σ H1 Q else Q false H1
def tOr(t u:TT):TT:=λσ H Q=>t σ H λc H1=>if c=true then Q true H1 else u σ H1 Q
def zsR(t:TT):TT:=λσ H Q=>t σ H λc H1=>Q (!c) H1
theorem zoY(ha:PT X a tA):PW X (.BoolOp .And [a] pos) tA:=by
 intro wh pins s σ H Q I h
 refine isTrue_and (thn (ha pins s σ H Q I h) λc s1 e=>?_)
 cases c with
 |true=>exact isTrue_and_nil e
 |false=>exact e
theorem zqe(ha:PT X a tA):PW X (.BoolOp .Or [a] pos) tA:=by
 intro wh pins s σ H Q I h
 refine isTrue_or (thn (ha pins s σ H Q I h) λc s1 e=>?_)
 cases c with
 |false=>exact isTrue_or_nil e
 |true=>exact e
theorem zqX(ha:PT X a tA)(hb:PW X (.BoolOp .And (b::rest) pos) tB'):PW X (.BoolOp .And (a::b::rest) pos) (zsP tA tB'):=by
 intro wh pins s σ H Q I h
 refine isTrue_and (thn (ha pins s σ H _ I h) λc s1 ⟨H1,I1,q1⟩=>?_)
 cases c with
 |true=>exact hb wh pins s1 σ H1 Q I1 q1
 |false=>exact⟨H1,I1,q1⟩
theorem zry(ha:PT X a tA)(hb:PW X (.BoolOp .Or (b::rest) pos) tB'):PW X (.BoolOp .Or (a::b::rest) pos) (tOr tA tB'):=by
 intro wh pins s σ H Q I h
 refine isTrue_or (thn (ha pins s σ H _ I h) λc s1 ⟨H1,I1,q1⟩=>?_)
 cases c with
 |true=>exact⟨H1,I1,q1⟩
 |false=>exact hb wh pins s1 σ H1 Q I1 q1
theorem zpB(ha:PT X a tA):PT X (.UnaryOp .Not a pos) (zsR tA):=by
 intro pins s σ H Q I h
 exact isTrue_not (ha pins s σ H (λc H1=>Q (!c) H1) I h)
def zsg(ta tb:TE):TE:=λσ H Q=>ta σ H λx H1=>∃c,x = .bl c/\if c=true then tb σ H1 Q else Q (.bl false) H1
def zsl(ta:TE):TE:=λσ H Q=>ta σ H λx H1=>∃c,x = .bl c/\Q (.bl (!c)) H1
theorem zpL(h:PE X a t):PE X (.BoolOp op [a] pos) t:=λpins s σ H Q I hw=>BoolOp_one (h pins s σ H Q I hw)
theorem zpN(ha:PE X a ta)(hb:PE X (.BoolOp .And (b::rest) pos) tb):PE X (.BoolOp .And (a::b::rest) pos) (zsg ta tb):=by
 intro pins s σ H Q I h
 refine BoolOp_and (thn (ha pins s σ H _ I h) λv s1 ⟨x,H1,I1,r1,q1⟩=>?_)
 obtain⟨c,rfl,q1⟩:=q1
 cases r1
 refine wpAny_truthy_bool ?_
 cases c with
 |true=>exact hb pins s1 σ H1 Q I1 q1
 |false=>exact⟨.bl false,H1,I1,rfl,q1⟩
theorem zpV(ha:PE X a ta):PE X (.UnaryOp .Not a pos) (zsl ta):=by
 intro pins s σ H Q I h
 refine UnaryOp_ (thn (ha pins s σ H _ I h) λv s1 ⟨x,H1,I1,r1,q1⟩=>?_)
 obtain⟨c,rfl,q1⟩:=q1
 cases r1
 exact not_of (wpAny_truthy_bool ⟨.bl (!c),H1,I1,rfl,q1⟩)
end
end L2
namespace L2
open PySem PySem.Spec PyProof.Rows
def SqL(K:zC)(H:Hp)(a:Addr)(xs:List V):Prop:=
 Rd H a (.lst xs) \/
  ∃(o:Obj) (its:Array Value) (n:Nat),K.lookup a=some o/\o.cls = .type "list"/\o.dict=none/\o.data = .seq its n/\its.size<=sizeLine/\Vals xs its.toList
def RdL(K:zC)(H:Hp)(a:Addr)(xs:List V):Prop:=
 Rd H a (.lst xs)\/∃(its:Array Value) (n:Nat),K.lookup a=some {cls:=.type "list",data:=.seq its n}/\its.size<=sizeLine/\Vals xs its.toList
def SqT(K:zC)(H:Hp)(a:Addr)(xs:List V):Prop:=
 Rd H a (.tup xs) \/
  ∃(o:Obj) (its:Array Value) (n:Nat),K.lookup a=some o/\o.cls = .type "tuple"/\o.data = .seq its n/\its.size<=sizeLine/\Vals xs its.toList
def zsY:Value->Option V
 | .none=>some .non
 | .bool b=>some (.bl b)
 | .int i _=>some (.int i)
 | .str x _=>some (.str x)
 | .bytes b _=>some (.byt b)
 | .float b _=>some (.flt b)
 | .ref a=>some (.ref a)
 | .type n=>some (.ty n)
 |_=>none
theorem RelV.abs(r:RelV x u):zsY u=some x:=by
 cases x with
 |non=>cases r;rfl
 |bl _=>cases r;rfl
 |int _=>obtain⟨t,rfl⟩:=r;rfl
 |str _=>obtain⟨t,rfl⟩:=r;rfl
 |byt _=>obtain⟨t,rfl⟩:=r;rfl
 |flt _=>obtain⟨t,rfl⟩:=r;rfl
 |ref _=>cases r;rfl
 |ty _=>cases r;rfl
theorem RelV.inj(r:RelV x u)(q:RelV y u):x=y:=zzW (r.abs.symm.trans q.abs)
theorem Vals.inj:∀{xs ys:List V}{us:List Value},Vals xs us->Vals ys us->xs=ys
 |_,_,_,.nil,.nil=>rfl
 |_,_,_,.cons r t,.cons r' t'=>by rw[r.inj r',Vals.inj t t']
section
variable{X:Cx}{pins:List (Addr×Obj)}{σ:St}{H:Hp}{s:Shared}{a:Addr}{xs ys:List V}
theorem Inv.list(I:Inv X pins σ H s)(h:SqL X.K H a xs):∃its:List Value,Vals xs its/\PlainL s.heap a its.toArray/\xs.length<=sizeLine:=by
 rcases h with h|⟨o,its,n,hk,hc,hd,hs,hz,r⟩
 · obtain⟨z,its,n,r,e⟩:=h.ok I.hok
   exact⟨its,r,⟨_,n,e,rfl,rfl,rfl⟩,z⟩
 · refine⟨its.toList,r,⟨o,n,I.kIn a o hk,hc,hd,by simpa using hs⟩, ?_⟩
   have e:=r.length
   simp only[zyQ]at e
   omega
theorem Inv.tuple(I:Inv X pins σ H s)(h:SqT X.K H a xs):∃its:List Value,Vals xs its/\IsTup s.heap a its.toArray/\xs.length<=sizeLine:=by
 rcases h with h|⟨o,its,n,hk,hc,hs,hz,r⟩
 · obtain⟨z,its,r,p⟩:=h.ok I.hok
   exact⟨its,r,p,z⟩
 · refine⟨its.toList,r,⟨o,I.kIn a o hk,hc,n,by simpa using hs⟩, ?_⟩
   have e:=r.length
   simp only[zyQ]at e
   omega
theorem Inv.list_inj(I:Inv X pins σ H s)(h:SqL X.K H a xs)(h':SqL X.K H a ys):xs=ys:=by
 obtain⟨its,r,⟨o,n,e,_,_,d⟩,_⟩:=I.list h
 obtain⟨its',r',⟨o',n',e',_,_,d'⟩,_⟩:=I.list h'
 rw[e]at e';cases e'
 rw[d]at d'
 injection d' with d1 _
 have:its=its':=by simpa using congrArg Array.toList d1
 subst this
 exact r.inj r'
theorem Inv.tuple_inj(I:Inv X pins σ H s)(h:SqT X.K H a xs)(h':SqT X.K H a ys):xs=ys:=by
 obtain⟨its,r,⟨o,e,_,n,d⟩,_⟩:=I.tuple h
 obtain⟨its',r',⟨o',e',_,n',d'⟩,_⟩:=I.tuple h'
 rw[e]at e';cases e'
 rw[d]at d'
 injection d' with d1 _
 have:its=its':=by simpa using congrArg Array.toList d1
 subst this
 exact r.inj r'
end
abbrev Cx.wish(X:Cx)(E:Value->Shared->Prop):Cx:={X with xe:=E}
abbrev Cx.nox(X:Cx):Cx:=X.wish λ_ _=>False
theorem Cx.Ok.wish{X:Cx}(ok:X.Ok)(E:Value->Shared->Prop):(X.wish E).Ok:=
 ⟨ok.mod,ok.kind,ok.glob,ok.blt,ok.above,ok.inj,ok.has,ok.cab,ok.hd,ok.frames,ok.stk,ok.exf,ok.bs,ok.bsz,ok.noex,ok.exfs,ok.funs,ok.frf⟩
theorem Cx.Ok.unwish{X:Cx}{E:Value->Shared->Prop}(ok:(X.wish E).Ok):X.Ok:=
 ⟨ok.mod,ok.kind,ok.glob,ok.blt,ok.above,ok.inj,ok.has,ok.cab,ok.hd,ok.frames,ok.stk,ok.exf,ok.bs,ok.bsz,ok.noex,ok.exfs,ok.funs,ok.frf⟩
section
variable{X:Cx}{pins:List (Addr×Obj)}{σ:St}{H:Hp}{s:Shared}{E:Value->Shared->Prop}
theorem Inv.wish(I:Inv X pins σ H s)(E:Value->Shared->Prop):Inv (X.wish E) pins σ H s:=⟨I.ok.wish E,I.os,I.bare,I.base,I.loc,I.cell,I.free,I.freeC,I.pin,I.hok,I.len⟩
theorem Inv.unwish(I:Inv (X.wish E) pins σ H s):Inv X pins σ H s:=⟨I.ok.unwish,I.os,I.bare,I.base,I.loc,I.cell,I.free,I.freeC,I.pin,I.hok,I.len⟩
theorem SP.unwish(h:SP (X.wish E) pins D f s'):SP X pins D f s':=by
 cases f with
 |next=>obtain⟨σ',H',I,q⟩:=h;exact⟨σ',H',I.unwish,q⟩
 |brk=>obtain⟨σ',H',I,q⟩:=h;exact⟨σ',H',I.unwish,q⟩
 |cont=>obtain⟨σ',H',I,q⟩:=h;exact⟨σ',H',I.unwish,q⟩
 |ret u=>obtain⟨v,σ',H',I,r,q⟩:=h;exact⟨v,σ',H',I.unwish,r,q⟩
theorem PSs.nox{st:List Stmt}{t:TS}(h:PSs X.nox st t):PSs X st t:=λpins s σ H D I hw=>
 zxQ (h pins s σ H D (I.wish _) hw) (λ_ _ q=>q.unwish) λ_ _ z=>False.elim z
end
section
variable{X:Cx}{st:Stmt}{rest:List Stmt}{t u:TS}{e:Expr}{te:TE}{pos:Pos}
def zrS:TS:=λD σ H=>D.nx σ H
def ztk(t u:TS):TS:=λD σ H=>t {D with nx:=u D} σ H
theorem zgA:PSs X [] zrS:=λ_ _ σ H _ I h=>wpAny_execs_nil ⟨σ,H,I,h⟩
theorem Wc(h1:PS X st t)(h2:PSs X rest u):PSs X (st::rest) (ztk t u):=by
 intro pins s σ H D I h
 refine wpAny_execs_cons (thn (h1 pins s σ H {D with nx:=u D} I h) λf s1 q=>?_)
 cases f with
 |next=>
  obtain⟨σ',H',I',q⟩:=q
  exact h2 pins s1 σ' H' D I' q
 |ret v=>exact q
 |brk=>exact q
 |cont=>exact q
theorem zdg(h1:PS X st t):PSs X [st] t:=by
 intro pins s σ H D I h
 refine wpAny_execs_cons (thn (h1 pins s σ H D I h) λf s1 q=>?_)
 cases f with
 |next=>exact wpAny_execs_nil q
 |ret v=>exact q
 |brk=>exact q
 |cont=>exact q
theorem Inv.quiet(I:Inv X pins σ H s):interactive X.env=false:=by simp[interactive,I.ok.kind]
def zsh(te:TE):TS:=λD σ H=>te σ H λ_ H1=>D.nx σ H1
theorem zdi(he:PE X e te)(hs:swapsWith e none pos.line X.env=pure false:=by rfl):PS X (.Expr e pos) (zsh te):=by
 intro pins s σ H D I h
 exact wpAny_Expr_any (thn (he pins s σ H _ I h) λv s1 ⟨x,H1,I1,r1,q1⟩=>⟨σ,H1,I1,q1⟩) I.quiet hs
def zsS(te:TE):TS:=λD σ H=>te σ H D.rt
theorem zpw(he:PE X e te):PS X (.Return (some e) pos) (zsS te):=by
 intro pins s σ H D I h
 exact wpAny_Return_some (thn (he pins s σ H _ I h) λv s1 ⟨x,H1,I1,r1,q1⟩=>⟨x,σ,H1,I1,r1,q1⟩)
def zsI(c:TT)(t u:TS):TS:=λD σ H=>c σ H λb H1=>if b=true then t D σ H1 else u D σ H1
theorem zpf(hc:PT X c tc)(ha:PSs X a t)(hb:PSs X b u):PS X (.If c a b pos) (zsI tc t u):=by
 intro pins s σ H D I h
 refine wpAny_If (thn (hc pins s σ H _ I h) λd s1 ⟨H1,I1,q1⟩=>?_)
 cases d with
 |true=>exact ha pins s1 σ H1 D I1 q1
 |false=>exact hb pins s1 σ H1 D I1 q1
end
abbrev TG:=V->St->Hp->(St->Hp->Prop)->Prop
abbrev TGs:=List V->St->Hp->(St->Hp->Prop)->Prop
def PG(X:Cx)(target:Expr)(t:TG):Prop:=
 ∀(pins:List (Addr×Obj)) (s:Shared) (σ:St) (H:Hp) (v:V) (u:Value) (Q:St->Hp->Prop),Inv X pins σ H s->RelV v u->t v σ H Q->
  wpAny (model X.prog X.w) X.A (assign target X.env u) (λ_ s'=>∃σ' H',Inv X pins σ' H' s'/\Q σ' H') X.xe s
def PGs(X:Cx)(ts:List Expr)(t:TGs):Prop:=
 ∀(pins:List (Addr×Obj)) (s:Shared) (σ:St) (H:Hp) (vs:List V) (us:List Value) (Q:St->Hp->Prop),Inv X pins σ H s->Vals vs us->t vs σ H Q->
  wpAny (model X.prog X.w) X.A (assignInOrder ((assignEach ts X.env).map (·.2)) us) (λ_ s'=>∃σ' H',Inv X pins σ' H' s'/\Q σ' H') X.xe s
abbrev zsr:=V->V->V->Hp->(Hp->Prop)->Prop
def zss(X:Cx)(t:zsr):Prop:=
 ∀(pins:List (Addr×Obj)) (s:Shared) (σ:St) (H:Hp) (o i v:V) (ov iv u:Value) (Q:Hp->Prop),Inv X pins σ H s->RelV o ov->RelV i iv->RelV v u->t o i v H Q->
  wpAny (model X.prog X.w) X.A (setItem ov iv u) (λ_ s'=>∃H',Inv X pins σ H' s'/\Q H') X.xe s
section
variable{X:Cx}{pos:Pos}
def zdP(i:Nat):TG:=λv σ H Q=>Q (σ.set i (some v)) H
theorem Wv(hN:X.N.Nodup)(hi:X.N[i]? = some x)(hx:Loc X.env.scope x)(hf:X.fn x=true\/X.env.scope.names.lookup x=some .local:=by first|exact .inl rfl|exact .inr rfl|assumption):PG X (.Name x pos) (zdP i):=by
 intro pins s σ H v u Q I r h
 exact wpAny_assign_Name (zbx I hN hi hx r (λs' I'=>⟨_,H,I',h⟩) hf)
def zsb:TGs:=λvs σ H Q=>vs=[]/\Q σ H
def zpr(t:TG)(u:TGs):TGs:=λvs σ H Q=>∃v r,vs=v::r/\t v σ H λσ' H'=>u r σ' H' Q
theorem ziZ:PGs X [] zsb:=by
 intro pins s σ H vs us Q I r h
 obtain⟨e,h⟩:=h
 subst e
 cases r
 exact assignInOrder_nil ⟨σ,H,I,h⟩
theorem zhd(h1:PG X e t)(h2:PGs X es u)
 (hs:(assignEach (e::es) X.env).map (·.2)=assign e X.env::(assignEach es X.env).map (·.2):=by rfl):PGs X (e::es) (zpr t u):=by
 intro pins s σ H vs us Q I r h
 obtain⟨v,vr,e1,h⟩:=h
 subst e1
 cases r with
 |cons r rr=>
  rw[hs]
  refine assignInOrder_cons (thn (h1 pins s σ H _ _ _ I r h) λ_ s1 ⟨σ1,H1,I1,q1⟩=>?_)
  exact h2 pins s1 σ1 H1 _ _ Q I1 rr q1
def zta(K:zC)(n:Nat)(t:TGs):TG:=λv σ H Q=>∃a xs,v = .ref a/\SqT K H a xs/\xs.length=n/\t xs σ H Q
theorem zna(hc:X.calm=true)(h:PGs X es t)
 (hn:(assignEach es X.env).length=n:=by rfl) (hst:(assignEach es X.env).findIdx? (·.1)=none:=by rfl):PG X (.Tuple es k pos) (zta X.K n t):=by
 intro pins s σ H v u Q I r hw
 obtain⟨a,xs,e1,hq,hl,hw⟩:=hw
 subst e1
 cases r
 obtain⟨its,rv,ht,hz⟩:=I.tuple hq
 refine assign_Tuple_tuple (I.ok.hd hc) ht (by simp[hn,<-hl,rv.length]) hst λh' hx=>?_
 have I1:Inv X pins σ H {s with heap:=h'}:=I.kept (t':=s.toks) λb o e=>hx b o (zzN (zxG e)) e
 exact h pins _ σ H xs _ Q I1 (by simpa using rv) hw
def zti(to ti:TE)(t:zsr):TG:=λv σ H Q=>to σ H λo H1=>ti σ H1 λi H2=>t o i v H2 λH3=>Q σ H3
theorem zmO(ho:PE X o to)(hi:PE X i ti)(hs:zss X t)
 (ha:∀v,assign (.Subscript o i pos) X.env v=(do
  let ov <-holding [v] (eval o X.env)
  let iv <-holding [v,ov] (eval i X.env)
  standAt pos
  holding [v,ov,iv] (setItem ov iv v)
  release [v,ov,iv] []):=by intro _;rfl):PG X (.Subscript o i pos) (zti to ti t):=by
 intro pins s σ H v u Q I r h
 rw[ha]
 refine zxD (zxK (thn (ho pins s σ H _ I h) λov s1 ⟨x,H1,I1,r1,q1⟩=>?_))
 refine zxD (zxK (thn (hi pins s1 σ H1 _ I1 q1) λiv s2 ⟨y,H2,I2,r2,q2⟩=>?_))
 refine zxD (wpAny_standAt (zxD (zxK (thn (hs pins s2 σ H2 x y v ov iv u _ I2 r1 r2 r q2) λ_ s3 ⟨H3,I3,q3⟩=>?_))))
 exact wpAny_release ⟨σ,H3,I3,q3⟩
def zqM(te:TE)(g:TG):TS:=λD σ H=>te σ H λx H1=>g x σ H1 D.nx
theorem zfU(he:PE X e te)(hg:PG X tg g)(hs:swapsWithSole [tg] e pos.line X.env=pure false:=by rfl)(hw:swappedStores [tg] e X.env=pure none:=by rfl)
 (h1:(assignEach [tg] X.env).map (·.2)=[assign tg X.env]:=by rfl):PS X (.Assign [tg] e pos) (zqM te g):=by
 intro pins s σ H D I h
 refine wpAny_Assign_stores (thn (he pins s σ H _ I h) λv s1 ⟨x,H1,I1,r1,q1⟩=>?_) hs hw
 rw[h1]
 exact thn (hg pins s1 σ H1 x v _ I1 r1 q1) λ_ s2 q=>q
theorem zqi(hN:X.N.Nodup)(hi:X.N[i]? = some x)(hx:Loc X.env.scope x)(he:PE X e te)(hs:swapsWith e (some (.Name x pos')) pos.line X.env=pure false:=by rfl)(hf:X.fn x=true\/X.env.scope.names.lookup x=some .local:=by first|exact .inl rfl|exact .inr rfl|assumption):
 PS X (.Assign [.Name x pos'] e pos) (zqM te (zdP i)):=by
 intro pins s σ H D I h
 refine wpAny_Assign_Name (thn (he pins s σ H _ I h) λv s1 ⟨y,H1,I1,r1,q1⟩=>?_) hs
 exact zbx I1 hN hi hx r1 (λs2 I2=>⟨_,H1,I2,q1⟩) hf
def ztc(i j:Nat)(ta:TA):TS:=λD σ H=>ta σ H λvs H1=>∃v w,vs=[v,w]/\D.nx ((σ.set i (some v)).set j (some w)) H1
theorem zpQ(hc:X.calm=true)(hN:X.N.Nodup)(hi:X.N[i]? = some x)(hj:X.N[j]? = some y)(hij:i≠j)
 (hx:X.env.scope.names.lookup x=some .local) (hy:X.env.scope.names.lookup y=some .local) (ha:PA X [a,b] ta)
 (hw:swappedStores [.Tuple [.Name x px,.Name y py] kt pt] (.Tuple [a,b] k2 pt2) X.env=pure (some [x,y]))
 (hs:swapsWithSole [.Tuple [.Name x px,.Name y py] kt pt] (.Tuple [a,b] k2 pt2) pos.line X.env=pure false:=by rfl):
 PS X (.Assign [.Tuple [.Name x px,.Name y py] kt pt] (.Tuple [a,b] k2 pt2) pos) (ztc i j ta):=by
 intro pins s σ H D I h
 rw[exec_Assign_arm]
 refine zxD (wpAny_standAt ?_)
 rw[hs]
 refine zxD (zxE ?_)
 rw[if_neg (by decide)]
 refine zxD (Tuple_ (thn (ha _ pins s σ H _ I h) λus s1 ⟨vs,H1,I1,r1,q1⟩=>?_))
 obtain⟨v,w,e1,q1⟩:=q1
 subst e1
 obtain⟨u1,u2,rfl,rv,rw'⟩:∃u1 u2,us=[u1,u2]/\RelV v u1/\RelV w u2:=by
  cases r1 with
  |cons p q=>
   cases q with
   |cons p' q'=>
    cases q'
    exact⟨_,_,rfl,p,p'⟩
 refine zxI ?_ (by show 2<=sizeLine;decide)
 have I2:Inv X pins σ H1 {s1 with heap:=s1.heap.push {cls:=.type "tuple",data:=.seq [u1,u2].toArray}}:=I1.kept (t':=s1.toks) λb o e=>zxF _ e
 rw[hw]
 refine zxD (zxE ?_)
 show wpAny (model X.prog X.w) X.A (do rule "assign.swapped-stores";let items <-unpackItems (.ref s1.heap.objs.size) 2 none;assignInOrder [λv=>bindName X.env y v,λv=>bindName X.env x v] items.reverse;pure Flow.next) _ _ _
 refine zxD (wpAny_rule (zxD (unpackItems_tuple (items:=#[u1,u2]) (I.ok.hd hc) (IsTup.new s1.heap _) λh' hx'=>?_)))
 have I3:=I2.kept (h':=h') (t':=s1.toks) λb o e=>hx' b o (zzN (zxG e)) e
 show wpAny _ _ (assignInOrder [λv=>bindName X.env y v,λv=>bindName X.env x v] [u2,u1] >>= λ_=>pure Flow.next) _ _ _
 refine zxD (assignInOrder_cons (wpAny_bindName (zbx I3 hN hj (.inl hy) rw' (λs2 I4=>?_) (.inr hy))))
 refine assignInOrder_cons (wpAny_bindName (zbx I4 hN hi (.inl hx) rv (λs3 I5=>assignInOrder_nil (zxE ?_)) (.inr hx)))
 rw[List.set_comm _ _ (Ne.symm hij)]at I5
 exact⟨_,H1,I5,q1⟩
end
section
variable{X:Cx}{pos:Pos}
def zpT(c:TT)(tb:TS):TS:=λD σ H=>∃W:Nat->St->Hp->Prop,(∃m,W m σ H)/\∀m σ H,W m σ H->
 c σ H λb H1=>if b=true then ∃N:St->Hp->Prop,(∀σ' H',N σ' H'->∃m',m'<m/\W m' σ' H')/\tb {D with nx:=N,ct:=N,bk:=D.nx} σ H1 else D.nx σ H1
theorem zmg(hp:PassesOwn (model X.prog X.w) X.A X.env X.xe)(hc:PT X c tc)(hb:PSs X body tb):PS X (.While c body [] pos) (zpT tc tb):=by
 intro pins s σ H D I h
 obtain⟨W,⟨m0,w0⟩,turn⟩:=h
 refine wpAny_While (codeAny_whileLoop (λn s'=>∃σ' H',Inv X pins σ' H' s'/\W n σ' H') ?_ m0 ⟨σ,H,I,w0⟩)
 rintro n s1 ⟨σ1,H1,I1,w1⟩
 refine wpAny_passesOwn hp (thn (hc pins s1 σ1 H1 _ I1 (turn n σ1 H1 w1)) λb s2 ⟨H2,I2,q2⟩=>?_)
 cases b with
 |true=>
  obtain⟨N,hN,q2⟩:=q2
  rw[if_pos rfl]
  refine wpAny_passesOwn hp (thn (hb pins s2 σ1 H2 _ I2 q2) λf s3 q3=>?_)
  cases f with
  |next=>
   obtain⟨σ3,H3,I3,n3⟩:=q3
   obtain⟨m',hm,w3⟩:=hN σ3 H3 n3
   exact⟨m',hm,σ3,H3,I3,w3⟩
  |cont=>
   obtain⟨σ3,H3,I3,n3⟩:=q3
   obtain⟨m',hm,w3⟩:=hN σ3 H3 n3
   exact⟨m',hm,σ3,H3,I3,w3⟩
  |brk=>exact q3
  |ret v=>exact q3
 |false=>
  rw[if_neg zyT]
  exact wpAny_execs_nil ⟨σ1,H2,I2,q2⟩
end
structure It where
 go:Nat->Hp->Prop
 yld:Nat->Hp->V->Hp->Prop
 stop:Nat->Hp->Prop
def zeK(X:Cx)(pins:List (Addr×Obj))(H:Hp)(b:Addr):Prop:=
 H b=none/\b≠X.env.locals/\b ∉ X.fs/\(b ∈ X.ex\/X.s₀.heap.objs.size<=b)/\(∀x c,X.env.cells.lookup x=some c->c≠b)/\∀p ∈ X.pn++pins,p.1≠b
theorem Inv.fpOk(I:Inv X pins σ H s)(hb:s.heap.objs.size<=b)(hn:H' b=none):zeK X pins H' b:=by
 refine⟨hn,Nat.ne_of_gt (zzH I.lt hb),I.nofs hb,.inr (zzL I.sz hb),λx c e z=>?_,λp hp z=>?_⟩
 · obtain⟨v,q⟩:=I.cell x c e
   exact absurd (zzH q.lt (by rw[z];exact hb)) (Nat.lt_irrefl _)
 · exact absurd (zzH (zxG (I.pin p hp).1) (by rw[z];exact hb)) (Nat.lt_irrefl _)
structure Turn(P:Program)(w:World)(K:zC)(tg:Expr)(J:It)(fp:List Addr)(it:Addr)(tn:Nat->Heap->Prop):Prop where
 mem:it ∈ fp
 obj:∀i h,tn i h->∀b ∈ fp,∃o,h.get? b=some o/\∀v,o.data ≠ .cell v
 keep:∀i h h',tn i h->(∀b ∈ fp,∀o,h.get? b=some o->h'.get? b=some o)->tn i h'
 item:∀(X:Cx),X.prog=P->X.w=w->X.K=K->X.calm=true->∀(i:Nat) (pins:List (Addr×Obj)) (s:Shared) (σ:St) (H:Hp) (E:Value->Shared->Prop),Inv X pins σ H s->(∀b ∈ fp,zeK X pins H b)->tn i s.heap->J.go i H->
  wpAny (model P w) X.A (pyNext (.ref it)) (λr s1=>∃u,r=some u/\
   wpAny (model P w) X.A (letOwnedTupleGo tg (.ref it) u) (λ_ s2=>∃x H',Inv X pins σ H' s2/\RelV x u/\J.yld i H x H'/\tn (i+1) s2.heap/\∀b ∈ fp,H' b=none) E s1) E s
 done:∀(X:Cx),X.prog=P->X.w=w->X.K=K->X.calm=true->∀(i:Nat) (pins:List (Addr×Obj)) (s:Shared) (σ:St) (H:Hp) (E:Value->Shared->Prop),Inv X pins σ H s->(∀b ∈ fp,zeK X pins H b)->tn i s.heap->J.stop i H->
  wpAny (model P w) X.A (pyNext (.ref it)) (λr s1=>r=none/\Inv X pins σ H s1) E s
 self:∀(A:Around) (i:Nat) (s:Shared) (Q:Value->Shared->Prop) (E:Value->Shared->Prop),tn i s.heap->Q (.ref it) s->wpAny (model P w) A (pyIter (.ref it)) Q E s
abbrev TI:=St->Hp->(It->Hp->Prop)->Prop
def PIE(X:Cx)(pins:List (Addr×Obj))(σ:St)(tg:Expr)(R:It->Hp->Prop)(itv:Value)(s2:Shared):Prop:=
 ∃(it:Addr) (fp:List Addr) (tn:Nat->Heap->Prop) (J:It) (H':Hp),itv = .ref it/\Inv X pins σ H' s2/\Turn X.prog X.w X.K tg J fp it tn/\tn 0 s2.heap/\(∀b ∈ fp,zeK X pins H' b)/\R J H'
def PI(X:Cx)(tg iter:Expr)(wi:TI):Prop:=
 ∀(pins:List (Addr×Obj)) (s:Shared) (σ:St) (H:Hp) (R:It->Hp->Prop),Inv X pins σ H s->wi σ H R->
  wpAny (model X.prog X.w) X.A (eval iter X.env) (λv s1=>wpAny (model X.prog X.w) X.A (pyIter v) (PIE X pins σ tg R) X.xe s1) X.xe s
theorem zlp(ho:s.heap.get? it=some o)(hc:o.cls = .type n)(hd:o.data = .fields vs)
 (hn : ["enumerate","zip","dict_itemiterator","dict_reverseitemiterator","odict_iterator","itertools.zip_longest","itertools.pairwise"].contains n=false) (hQ:Q () s):wpAny M A (letOwnedTupleGo tg (.ref it) u) Q E s:=by
 unfold letOwnedTupleGo
 cases tg<;>first
  |exact zxE hQ
  |(cases u<;>first
   |exact zxE hQ
   | (refine zxD (wpAny_load ho ?_)
      rw[hc,hd]
      show wpAny M A (if(["enumerate","zip","dict_itemiterator","dict_reverseitemiterator","odict_iterator","itertools.zip_longest","itertools.pairwise"].contains n&&vs[0]? == some (rawInt _))=true then _ else _) Q E s
      rw[if_neg (by intro h;rw[hn,Bool.false_and]at h;cases h)]
      exact zxE hQ))
def Itl(K:zC)(a:Addr):It:=
 ⟨λi H=>∃xs x,SqL K H a xs/\xs[i]? = some x,λi H x H'=>H'=H/\∀xs,SqL K H a xs->xs[i]? = some x,λi H=>∃xs,SqL K H a xs/\xs.length<=i⟩
def Itt(K:zC)(a:Addr):It:=
 ⟨λi H=>∃xs x,SqT K H a xs/\xs[i]? = some x,λi H x H'=>H'=H/\∀xs,SqT K H a xs->xs[i]? = some x,λi H=>∃xs,SqT K H a xs/\xs.length<=i⟩
def Itr(lo:Int)(n:Nat):It:=⟨λi _=>i<n,λi H x H'=>H'=H/\x = .int (lo+i),λi _=>n<=i⟩
theorem zkh{P:Program}{w:World}{K:zC}{tg:Expr}(a it:Addr):Turn P w K tg (Itl K a) [it] it (λi h=>h.IsListIter it a i)where
 mem:=by simp
 obj:=λi h st b hb=>by
  have e:b=it:=by simpa using hb
  subst e
  obtain⟨o,e,c,d⟩:=st
  exact⟨o,e,λv z=>by rw[d]at z;cases z⟩
 keep:=λi h h' st k=>st.at λo e=>k it (by simp) o e
 item:=by
  intro X hP hw hK hc i pins s σ H E I hf st hg
  subst hP hw hK
  obtain⟨xs,x,hq,hx⟩:=hg
  obtain⟨its,rv,p,hz⟩:=I.list hq
  obtain⟨u,hu,ru⟩:=rv.get hx
  obtain⟨f0,f1,f2,f3,f4,f5⟩:=hf it (by simp)
  refine wpAny_pyNext_list_item st p.isList (x:=u) (by simpa using hu) λh' st' sb=>?_
  have I1:Inv X pins σ H {s with heap:=h'}:=I.turned (t':=s.toks) (λb o hb e=>(sb.2 b hb).trans e) f0 f1 f3 f4 f5
  obtain⟨o,e,c,d⟩:=id st'
  exact⟨u,rfl,zlp (s:={s with heap:=h'}) e c d (by decide) ⟨x,H,I1,ru,⟨rfl,λys hy=>by rw[I.list_inj hy hq];exact hx⟩,st',λb hb=>(hf b hb).1⟩⟩
 done:=by
  intro X hP hw hK hc i pins s σ H E I hf st hg
  subst hP hw hK
  obtain⟨xs,hq,hx⟩:=hg
  obtain⟨its,rv,p,hz⟩:=I.list hq
  obtain⟨f0,f1,f2,f3,f4,f5⟩:=hf it (by simp)
  have hl:=rv.length
  exact wpAny_pyNext_list_end (I.ok.hd hc) st p.isList (by simp;omega) λh' eb=>⟨rfl,I.turned (t':=s.toks) (λb o hb e=>eb b o hb e) f0 f1 f3 f4 f5⟩
 self:=λ_ _ _ _ _ st h=>wpAny_pyIter_listiter st h
theorem zhP{P:Program}{w:World}{K:zC}{tg:Expr}(a it:Addr):Turn P w K tg (Itt K a) [it] it (λi h=>h.IsTupleIter it a i)where
 mem:=by simp
 obj:=λi h st b hb=>by
  have e:b=it:=by simpa using hb
  subst e
  obtain⟨o,e,c,d⟩:=st
  exact⟨o,e,λv z=>by rw[d]at z;cases z⟩
 keep:=λi h h' st k=>st.at λo e=>k it (by simp) o e
 item:=by
  intro X hP hw hK hc i pins s σ H E I hf st hg
  subst hP hw hK
  obtain⟨xs,x,hq,hx⟩:=hg
  obtain⟨its,rv,p,hz⟩:=I.tuple hq
  obtain⟨u,hu,ru⟩:=rv.get hx
  obtain⟨f0,f1,f2,f3,f4,f5⟩:=hf it (by simp)
  refine wpAny_pyNext_tuple_item st (show s.heap.IsTuple a its.toArray from p) (x:=u) (by simpa using hu) λh' st' sb=>?_
  have I1:Inv X pins σ H {s with heap:=h'}:=I.turned (t':=s.toks) (λb o hb e=>(sb.2 b hb).trans e) f0 f1 f3 f4 f5
  obtain⟨o,e,c,d⟩:=id st'
  exact⟨u,rfl,zlp (s:={s with heap:=h'}) e c d (by decide) ⟨x,H,I1,ru,⟨rfl,λys hy=>by rw[I.tuple_inj hy hq];exact hx⟩,st',λb hb=>(hf b hb).1⟩⟩
 done:=by
  intro X hP hw hK hc i pins s σ H E I hf st hg
  subst hP hw hK
  obtain⟨xs,hq,hx⟩:=hg
  obtain⟨its,rv,p,hz⟩:=I.tuple hq
  obtain⟨f0,f1,f2,f3,f4,f5⟩:=hf it (by simp)
  have hl:=rv.length
  exact wpAny_pyNext_tuple_end (I.ok.hd hc) st (show s.heap.IsTuple a its.toArray from p) (by simp;omega) λh' eb=>⟨rfl,I.turned (t':=s.toks) (λb o hb e=>eb b o hb e) f0 f1 f3 f4 f5⟩
 self:=λ_ _ _ _ _ st h=>wpAny_pyIter_tupleiter st h
theorem zin{P:Program}{w:World}{K:zC}{tg:Expr}(it:Addr)(lo:Int)(n:Nat):Turn P w K tg (Itr lo n) [it] it (λi h=>IsRangeIter h it (lo+(i:Nat)*1) ((n:Int)-(i:Nat)) 1)where
 mem:=by simp
 obj:=λi h st b hb=>by
  have e:b=it:=by simpa using hb
  subst e
  exact⟨_,st,λv z=>by
   have z':Data.fields _=Data.cell v:=z
   cases z'⟩
 keep:=λi h h' st k=>k it (by simp) _ st
 item:=by
  intro X hP hw hK hc i pins s σ H E I hf st hg
  subst hP hw hK
  obtain⟨f0,f1,f2,f3,f4,f5⟩:=hf it (by simp)
  have W:=Walks.range (prog:=X.prog) (w:=X.w) (I.ok.hd hc) it lo 1 n
  refine W.item i s _ _ hg st λv h' tk hv st' kk=>?_
  obtain⟨t,rfl⟩:=hv
  have I1:Inv X pins σ H {s with heap:=h',toks:=tk}:=I.turned (λb o hb e=>kk b o (by simpa using hb) e) f0 f1 f3 f4 f5
  refine⟨_,rfl,zlp (s:={s with heap:=h',toks:=tk}) (n:="range_iterator") st' rfl rfl (by decide) ⟨.int (lo+i),H,I1,⟨t, ?_⟩,⟨rfl,rfl⟩,st',λb hb=>(hf b hb).1⟩⟩
  rw[Int.mul_one]
 done:=by
  intro X hP hw hK hc i pins s σ H E I hf st hg
  subst hP hw hK
  obtain⟨f0,f1,f2,f3,f4,f5⟩:=hf it (by simp)
  exact wpAny_pyNext_range_end (I.ok.hd hc) st (by have:n<=i:=hg;omega) λh' eb=>⟨rfl,I.turned (t':=s.toks) (λb o hb e=>eb b o hb e) f0 f1 f3 f4 f5⟩
 self:=λ_ _ _ _ _ st h=>wpAny_pyIter_rangeiter st h
end L2
namespace L2
open PySem PySem.Spec PyProof.Rows
section
variable{X:Cx}{tg:Expr}
def zrM(K:zC)(tl:TE):TI:=λσ H R=>tl σ H λx H1=>∃a,x = .ref a/\(∃xs,SqL K H1 a xs)/\R (Itl K a) H1
def ztl(K:zC)(tl:TE):TI:=λσ H R=>tl σ H λx H1=>∃a,x = .ref a/\(∃xs,SqT K H1 a xs)/\R (Itt K a) H1
theorem zfT{l:Expr}{tl:TE}(hl:PE X l tl):PI X tg l (zrM X.K tl):=by
 intro pins s σ H R I h
 refine thn (hl pins s σ H _ I h) λv s1 ⟨x,H1,I1,r1,q1⟩=>?_
 obtain⟨a,e,⟨xs,hq⟩,q⟩:=q1
 subst e
 cases r1
 obtain⟨its,rv,p,hz⟩:=I1.list hq
 refine wpAny_pyIter_list p.isList ?_
 refine⟨s1.heap.objs.size,[s1.heap.objs.size],_,_,H1,rfl,I1.kept (t':=s1.toks) λb o e=>zxF _ e,zkh a _,⟨_,zxH _ rfl,rfl,rfl⟩,λb hb=>?_,q⟩
 have e:b=s1.heap.objs.size:=by simpa using hb
 subst e
 exact I1.fpOk (zzK _) (I1.hok.fresh (zzK _))
theorem zix{l:Expr}{tl:TE}(hl:PE X l tl):PI X tg l (ztl X.K tl):=by
 intro pins s σ H R I h
 refine thn (hl pins s σ H _ I h) λv s1 ⟨x,H1,I1,r1,q1⟩=>?_
 obtain⟨a,e,⟨xs,hq⟩,q⟩:=q1
 subst e
 cases r1
 obtain⟨its,rv,p,hz⟩:=I1.tuple hq
 refine wpAny_pyIter_tuple (show s1.heap.IsTuple a its.toArray from p) ?_
 refine⟨s1.heap.objs.size,[s1.heap.objs.size],_,_,H1,rfl,I1.kept (t':=s1.toks) λb o e=>zxF _ e,zhP a _,⟨_,zxH _ rfl,rfl,rfl⟩,λb hb=>?_,q⟩
 have e:b=s1.heap.objs.size:=by simpa using hb
 subst e
 exact I1.fpOk (zzK _) (I1.hok.fresh (zzK _))
theorem zha{pins:List (Addr×Obj)}{σ:St}{H:Hp}{s:Shared}{R:It->Hp->Prop}{E:Value->Shared->Prop}{lo hi:Int}{t u v:Tok}{tk:Nat}(I:Inv X pins σ H s)(h1 : -(2 ^ 62)<=lo)(h2:lo<2 ^ 62)(h3 : -(2 ^ 62)<=hi)(h4:hi<2 ^ 62)
 (q:R (Itr lo (hi-lo).toNat) H):wpAny (model X.prog X.w) X.A (pyIter (.ref s.heap.objs.size)) (PIE X pins σ tg R) E {s with heap:=s.heap.push {cls:=.type "range",data:=.fields #[.int lo t,.int hi u,.int 1 v]},toks:=tk}:=by
 refine wpAny_pyIter_range (IsRange.new ..) (small_one h1 h2 h3 h4) ?_
 have I1:Inv X pins σ H {s with heap:=s.heap.push {cls:=.type "range",data:=.fields #[.int lo t,.int hi u,.int 1 v]},toks:=tk}:=I.kept λb o e=>zxF _ e
 refine⟨(s.heap.push {cls:=.type "range",data:=.fields #[.int lo t,.int hi u,.int 1 v]}).objs.size,[(s.heap.push {cls:=.type "range",data:=.fields #[.int lo t,.int hi u,.int 1 v]}).objs.size],_,_,H,rfl,
  I1.kept (t':=tk) λb o e=>zxF _ e,zin _ lo (hi-lo).toNat, ?_,λb hb=>?_,q⟩
 · have e1:lo+((0:Nat):Int)*1=lo:=by simp
   have e2:(((hi-lo).toNat:Nat):Int)-((0:Nat):Int)=Builtin.Range.rangeSize lo hi 1:=by rw[rangeSize_one];split<;>omega
   show IsRangeIter _ _ (lo+((0:Nat):Int)*1) ((((hi-lo).toNat:Nat):Int)-((0:Nat):Int)) 1
   rw[e1,e2]
   exact zxH _ rfl
 · have e:b=(s.heap.push {cls:=.type "range",data:=.fields #[.int lo t,.int hi u,.int 1 v]}).objs.size:=by simpa using hb
   subst e
   exact I1.fpOk (zzK _) (I1.hok.fresh (zzK _))
def zrH(ta:TA):TI:=λσ H R=>ta σ H λvs H1=>∃j:Int,vs=[.int j] /\ -(2 ^ 62)<=j/\j<2 ^ 62/\R (Itr 0 j.toNat) H1
def zsn(ta:TA):TI:=λσ H R=>ta σ H λvs H1=>∃i j:Int,vs=[.int i,.int j]/\(-(2 ^ 62)<=i/\i<2 ^ 62 /\ -(2 ^ 62)<=j/\j<2 ^ 62)/\R (Itr i (j-i).toNat) H1
theorem zfg{a:Expr}{ta:TA}{p pos:Pos}(hg:Gl X "range")(hm:X.mg "range"=none)(ha:PA X [a] ta)(hs:starEach [a] X.env=[(false,eval a X.env)]:=by rfl):PI X tg (.Call (.Name "range" p) [a] [] pos) (zrH ta):=by
 intro pins s σ H R I h
 refine Call_ (zaY I hg hm boot_range (PyProof.Rows.callWith_type1 (thn (ha pos pins s σ H _ I h) λus s1 ⟨vs,H1,I1,r1,q1⟩=>?_) hs rfl))
 obtain⟨j,e,q1,q2,q⟩:=q1
 subst e
 cases r1 with
 |cons r rr=>
  cases rr
  obtain⟨t,rfl⟩:=r
  exact call_range_1 (zha I1 (by omega) (by omega) q1 q2 (by simpa using q))
theorem zkw(hg:Gl X "range")(hm:X.mg "range"=none)(ha:PA X [a,b] ta)(hs:starEach [a,b] X.env=[(false,eval a X.env),(false,eval b X.env)]:=by rfl)(hs2:starEach [b] X.env=[(false,eval b X.env)]:=by rfl):
 PI X tg (.Call (.Name "range" p) [a,b] [] pos) (zsn ta):=by
 intro pins s σ H R I h
 refine Call_ (zaY I hg hm boot_range (PyProof.Rows.callWith_type1 (thn (ha pos pins s σ H _ I h) λus s1 ⟨vs,H1,I1,r1,q1⟩=>?_) (by rw[hs,hs2]) (by rw[hs2];rfl)))
 obtain⟨i,j,e,⟨q1,q2,q3,q4⟩,q⟩:=q1
 subst e
 cases r1 with
 |cons r rr=>
  cases rr with
  |cons r' rr=>
   cases rr
   obtain⟨t,rfl⟩:=r
   obtain⟨t',rfl⟩:=r'
   exact call_range_2 (zha I1 q1 q2 q3 q4 q)
def zth(wi:TI)(g:TG)(tb:TS):TS:=λD σ H=>wi σ H λJ H1=>∃W:Nat->Nat->St->Hp->Prop,(∃m,W 0 m σ H1)/\∀i m σ H,W i m σ H->
 (J.stop i H/\D.nx σ H)\/(J.go i H/\∃N:St->Hp->Prop,(∀σ' H',N σ' H'->∃m',m'<m/\W (i+1) m' σ' H')/\∀x H',J.yld i H x H'->g x σ H' λσ2 H2=>tb {D with nx:=N,ct:=N,bk:=D.nx} σ2 H2)
def zec(fp:List Addr)(h:Heap):List (Addr×Obj):=fp.filterMap λb=>(h.get? b).map λo=>(b,o)
theorem Wo(hb:b ∈ fp)(e:h.get? b=some o):(b,o) ∈ zec fp h:=List.mem_filterMap.mpr ⟨b,hb,by rw[e];rfl⟩
theorem zki(hp:p ∈ zec fp h):p.1 ∈ fp/\h.get? p.1=some p.2:=by
 obtain⟨b,hb,e⟩:=List.mem_filterMap.mp hp
 cases q:h.get? b with
 |none=>rw[q]at e;cases e
 |some o=>
  rw[q]at e
  have e':(b,o)=p:=zzW e
  subst e'
  exact⟨hb,q⟩
theorem Inv.pinned(I:Inv X pins σ H s)(hf:∀b ∈ fp,zeK X pins H b)(ho:∀b ∈ fp,∃o,s.heap.get? b=some o/\∀v,o.data ≠ .cell v):Inv X (pins++zec fp s.heap) σ H s:=
 I.pins_of λp hp=>(zzJ.mp hp).elim (λz=>I.pin p (zzI _ z)) λz=>by
  obtain⟨hb,e⟩:=zki z
  obtain⟨f0,f1,f2,_⟩:=hf p.1 hb
  obtain⟨o,e',d⟩:=ho p.1 hb
  rw[e]at e';cases e'
  exact⟨e,f0,f1,f2,d⟩
theorem Inv.unpinned(I:Inv X (pins++pl) σ H s):Inv X pins σ H s:=I.pins_of λp hp=>I.pin p (zzI _ (zzM _ hp))
theorem zpI(hp:PassesOwn (model X.prog X.w) X.A X.env X.xe)(hc:X.calm=true)(hi:PI X tg iter wi)(hg:PG X tg g)(hb:PSs X body tb)
 (hs:∀x,foldedSetIterable iter X.env x=pure x:=by intro _;rfl):PS X (.For tg iter body [] pos) (zth wi g tb):=by
 intro pins s σ H D I h
 refine wpAny_For (thn (hi pins s σ H _ I h) λv s1 h1=>thn h1 λitv s2 h2=>?_) hs
 obtain⟨it,fp,tn,J,H2,e,I2,T,st2,f2,W,⟨m0,w0⟩,turn⟩:=h2
 subst e
 have stat:∀{H':Hp},(∀b ∈ fp,H' b=none)->∀b ∈ fp,zeK X pins H' b:=λhn b hb=>⟨hn b hb,(f2 b hb).2⟩
 refine codeAny_forLoop_any (λn s'=>∃i σ' H',Inv X pins σ' H' s'/\tn i s'.heap/\(∀b ∈ fp,H' b=none)/\W i n σ' H') ?_ m0 ⟨0,σ,H2,I2,st2,λb hb=>(f2 b hb).1,w0⟩
 rintro n s3 ⟨i,σ3,H3,I3,st3,fr3,w3⟩
 rcases turn i n σ3 H3 w3 with⟨stop,qn⟩|⟨go,N,hN,step⟩
 · refine wpAny_passesOwn hp (thn (T.done X rfl rfl rfl hc i pins s3 σ3 H3 X.xe I3 (stat fr3) st3 stop) λr s4 ⟨hr,I4⟩=>?_)
   subst hr
   exact wpAny_execs_nil ⟨σ3,H3,I4,qn⟩
 · refine wpAny_passesOwn hp (thn (T.item X rfl rfl rfl hc i pins s3 σ3 H3 X.xe I3 (stat fr3) st3 go) λr s4 ⟨u,hr,h4⟩=>?_)
   subst hr
   refine wpAny_passesOwn hp (thn h4 λ_ s5 ⟨x,H5,I5,r5,y5,st5,fr5⟩=>?_)
   have I5':=I5.pinned (stat fr5) (T.obj _ _ st5)
   refine wpAny_passesOwn hp (thn (hg _ s5 σ3 H5 x u _ I5' r5 (step x H5 y5)) λ_ s6 ⟨σ6,H6,I6,q6⟩=>?_)
   refine wpAny_passesOwn hp (thn (hb _ s6 σ6 H6 _ I6 q6) λf s7 q7=>?_)
   have again:∀{σ7:St}{H7:Hp},Inv X (pins++zec fp s5.heap) σ7 H7 s7->N σ7 H7->∃m,m<n/\∃i σ' H',Inv X pins σ' H' s7/\tn i s7.heap/\(∀b ∈ fp,H' b=none)/\W i m σ' H':=λ{σ7 H7} I7 n7=>by
    obtain⟨m',hm,w7⟩:=hN σ7 H7 n7
    refine⟨m',hm,i+1,σ7,H7,I7.unpinned,T.keep _ _ _ st5 λb hb o e=>(I7.pin (b,o) (zzI _ (zzI _ (Wo hb e)))).1,λb hb=>?_,w7⟩
    obtain⟨o,e,d⟩:=T.obj _ _ st5 b hb
    exact(I7.pin (b,o) (zzI _ (zzI _ (Wo hb e)))).2.1
   cases f with
   |next=>obtain⟨σ7,H7,I7,n7⟩:=q7;exact again I7 n7
   |cont=>obtain⟨σ7,H7,I7,n7⟩:=q7;exact again I7 n7
   |brk=>obtain⟨σ7,H7,I7,q7⟩:=q7;exact⟨σ7,H7,I7.unpinned,q7⟩
   |ret v=>obtain⟨x7,σ7,H7,I7,r7,q7⟩:=q7;exact⟨x7,σ7,H7,I7.unpinned,r7,q7⟩
end
end L2
namespace L2
open PySem PySem.Spec PyProof.Rows
abbrev R2:=V->V->Hp->VK->Prop
def OpR(X:Cx)(f:Value->Value->Sem Value)(r:R2):Prop:=
 ∀(pins:List (Addr×Obj)) (s:Shared) (σ:St) (H:Hp) (x y:V) (v u:Value) (Q:VK),Inv X pins σ H s->RelV x v->RelV y u->r x y H Q->
  wpAny (model X.prog X.w) X.A (f v u) (EP X pins σ Q) X.xe s
def VN(X:Cx)(f:Value)(r:List V->Hp->VK->Prop):Prop:=
 ∀(pins:List (Addr×Obj)) (s:Shared) (σ:St) (H:Hp) (xs:List V) (us:List Value) (Q:VK),Inv X pins σ H s->Vals xs us->r xs H Q->
  wpAny (model X.prog X.w) X.A (call f us) (EP X pins σ Q) X.xe s
def ztm(X:Cx)(r:V->Hp->(Bool->Hp->Prop)->Prop):Prop:=
 ∀(pins:List (Addr×Obj)) (s:Shared) (σ:St) (H:Hp) (x:V) (v:Value) (Q:Bool->Hp->Prop),Inv X pins σ H s->RelV x v->r x H Q->
  wpAny (model X.prog X.w) X.A (truthy v) (TP X pins σ Q) X.xe s
def tOp(r:R2)(ta tb:TE):TE:=λσ H Q=>ta σ H λx H1=>tb σ H1 λy H2=>r x y H2 Q
def rI(C:Int->Int->Prop)(g:Int->Int->V):R2:=λx y H Q=>∃i j,x = .int i/\y = .int j/\C i j/\Q (g i j) H
def rI0(g:Int->Int->V):R2:=λx y H Q=>∃i j,x = .int i/\y = .int j/\Q (g i j) H
section
variable{X:Cx}{a b c:Expr}{ta tb tc:TE}{pos:Pos}
theorem zpO(ha:PE X a ta)(hb:PE X b tb){pins:List (Addr×Obj)}{s:Shared}{σ:St}{H:Hp}{R:V->V->Hp->Prop}(I:Inv X pins σ H s)
 (h:ta σ H λx H1=>tb σ H1 λy H2=>R x y H2) {Q:Value->Shared->Prop}{f:Value->Value->Sem Value}
 (hf:∀v u s2 x y H2,Inv X pins σ H2 s2->RelV x v->RelV y u->R x y H2->wpAny (model X.prog X.w) X.A (f v u) Q X.xe s2):
 wpAny (model X.prog X.w) X.A (eval a X.env) (λv s₁=>wpAny (model X.prog X.w) X.A (eval b X.env) (λu s₂=>wpAny (model X.prog X.w) X.A (f v u) Q X.xe s₂) X.xe s₁) X.xe s:=by
 refine thn (ha pins s σ H _ I h) λv s1 ⟨x,H1,I1,r1,q1⟩=>?_
 refine thn (hb pins s1 σ H1 _ I1 q1) λu s2 ⟨y,H2,I2,r2,q2⟩=>?_
 exact hf v u s2 x y H2 I2 r1 r2 q2
theorem zmG{op:Operator}{r:R2}(ho:OpR X (binaryOp op) r)(ha:PE X a ta)(hb:PE X b tb):PE X (.BinOp a op b pos) (tOp r ta tb):=by
 intro pins s σ H Q I h
 exact wpAny_BinOp (zpO ha hb I h λv u s2 x y H2 I2 rx ry q=>ho pins s2 σ H2 x y v u Q I2 rx ry q)
theorem opI{f:Value->Value->Sem Value}{C:Int->Int->Prop}{g:Int->Int->Int}
 (rule:∀(i j:Int) (t u:Tok) (s:Shared) (Q:Value->Shared->Prop) (E:Value->Shared->Prop),C i j->Q (.int (g i j) s.toks) {s with toks:=s.toks+1}->wpAny (model X.prog X.w) X.A (f (.int i t) (.int j u)) Q E s):
 OpR X f (rI C λi j=>.int (g i j)):=by
 intro pins s σ H x y v u Q I rx ry h
 obtain⟨i,j,rfl,rfl,hc,q⟩:=h
 obtain⟨t,rfl⟩:=rx
 obtain⟨t',rfl⟩:=ry
 exact rule i j t t' s _ _ hc ⟨.int (g i j),H,I.tok _,⟨_,rfl⟩,q⟩
theorem zrO{f:Value->Value->Sem Value}{g:Int->Int->Int}
 (rule:∀(i j:Int) (t u:Tok) (s:Shared) (Q:Value->Shared->Prop) (E:Value->Shared->Prop),Q (.int (g i j) s.toks) {s with toks:=s.toks+1}->wpAny (model X.prog X.w) X.A (f (.int i t) (.int j u)) Q E s):
 OpR X f (rI0 λi j=>.int (g i j)):=by
 intro pins s σ H x y v u Q I rx ry h
 obtain⟨i,j,rfl,rfl,q⟩:=h
 obtain⟨t,rfl⟩:=rx
 obtain⟨t',rfl⟩:=ry
 exact rule i j t t' s _ _ ⟨.int (g i j),H,I.tok _,⟨_,rfl⟩,q⟩
theorem znV{f:Value->Value->Sem Value}{g:Int->Int->Bool}
 (rule:∀(i j:Int) (t u:Tok) (s:Shared) (Q:Value->Shared->Prop) (E:Value->Shared->Prop),Q (.bool (g i j)) s->wpAny (model X.prog X.w) X.A (f (.int i t) (.int j u)) Q E s):
 OpR X f (rI0 λi j=>.bl (g i j)):=by
 intro pins s σ H x y v u Q I rx ry h
 obtain⟨i,j,rfl,rfl,q⟩:=h
 obtain⟨t,rfl⟩:=rx
 obtain⟨t',rfl⟩:=ry
 exact rule i j t t' s _ _ ⟨.bl (g i j),H,I,rfl,q⟩
def ztq(i j:Int):Prop:=0<j/\j<1073741824
def zrE(i j:Int):Prop:=0<=j/\j<=1000000/\i.natAbs<2 ^ 64
theorem zqx:OpR X (binaryOp .Add) (rI0 λi j=>.int (i+j)):=zrO λ_ _ _ _ _ _ _ q=>add_int q
theorem zpu:OpR X (binaryOp .Sub) (rI0 λi j=>.int (i-j)):=zrO λ_ _ _ _ _ _ _ q=>sub_int q
theorem znH:OpR X (binaryOp .FloorDiv) (rI ztq λi j=>.int (i/j)):=opI λi j _ _ _ _ _ hc q=>by
 have h1:(0:Int)<j:=hc.1
 have h2:j<1073741824:=hc.2
 exact floordiv_int (by omega) (by rw[Int.fdiv_eq_ediv_of_nonneg i (by omega)];exact q) (.inl (PyProof.noPylong_small (by omega)))
theorem zma:OpR X (binaryOp .Mod) (rI (λ_ j=>0<j) λi j=>.int (i%j)):=opI λi j _ _ _ _ _ hc q=>by
 have h1:(0:Int)<j:=hc
 exact mod_int' (by omega) (by rw[Int.fmod_eq_emod_of_nonneg i (by omega)];exact q)
theorem zqo:OpR X (binaryOp .Pow) (rI zrE λi j=>.int (i ^ j.toNat)):=opI λ_ _ _ _ _ _ _ hc q=>pow_int_small hc.1 hc.2.1 hc.2.2 q
theorem zqV:OpR X (binaryOp .LShift) (rI zrE λi j=>.int (i*2 ^ j.toNat)):=opI λ_ _ _ _ _ _ _ hc q=>lshift_int_small hc.1 hc.2.1 hc.2.2 q
end
section
variable{X:Cx}{a b c:Expr}{ta tb tc:TE}{pos:Pos}
theorem vQ(I:Inv X pins σ H s)(q:Q (.bl k) H)(e:k=k'):EP X pins σ Q (.bool k') s:=by
 subst e
 exact⟨.bl k,H,I,rfl,q⟩
theorem zsv:OpR X (compareOp .Lt) (rI0 λi j=>.bl (decide (i<j))):=znV λ_ _ _ _ _ _ _ q=>lt_int q
theorem zrR:OpR X (compareOp .LtE) (rI0 λi j=>.bl (decide (i<=j))):=znV λ_ _ _ _ _ _ _ q=>le_int q
theorem zsi:OpR X (compareOp .Gt) (rI0 λi j=>.bl (decide (j<i))):=znV λ_ _ _ _ _ _ _ q=>gt_int q
theorem zrN:OpR X (compareOp .GtE) (rI0 λi j=>.bl (decide (j<=i))):=znV λ_ _ _ _ _ _ _ q=>ge_int q
theorem zko:OpR X (compareOp .In) (λx y H Q=>∃i j,x = .str i/\y = .str j/\Q (.bl (!(Builtin.Str.occurrences j i 0 j.length 1).isEmpty)) H):=by
 intro pins s σ H x y v u Q I rx ry h
 obtain⟨i,j,rfl,rfl,q⟩:=h
 obtain⟨t,rfl⟩:=rx
 obtain⟨t',rfl⟩:=ry
 exact in_str (vQ I q rfl)
theorem zrl:OpR X (compareOp .Is) (λx y H Q=>y = .non/\Q (.bl (decide (x = .non))) H):=by
 intro pins s σ H x y v u Q I rx ry h
 obtain⟨rfl,q⟩:=h
 cases ry
 refine is_none_gen (vQ I q ?_)
 cases x<;>first
  |(cases rx;rfl)
  |(obtain⟨t,rfl⟩:=rx;rfl)
theorem zoy:OpR X (compareOp .IsNot) (λx y H Q=>y = .non/\Q (.bl (!decide (x = .non))) H):=by
 intro pins s σ H x y v u Q I rx ry h
 obtain⟨rfl,q⟩:=h
 cases ry
 refine isnot_none_gen (vQ I q ?_)
 cases x<;>first
  |(cases rx;rfl)
  |(obtain⟨t,rfl⟩:=rx;rfl)
theorem zgf:OpR X (compareOp .NotIn) (λx y H Q=>∃i j,x = .str i/\y = .str j/\Q (.bl (!(!(Builtin.Str.occurrences j i 0 j.length 1).isEmpty))) H):=by
 intro pins s σ H x y v u Q I rx ry h
 obtain⟨i,j,rfl,rfl,q⟩:=h
 obtain⟨t,rfl⟩:=rx
 obtain⟨t',rfl⟩:=ry
 exact notIn_str (vQ I q rfl)
theorem yo(b:Expr)(h:op ≠ .In:=by decide)(h2:op ≠ .NotIn:=by decide):behindInMarks op b=false:=by
 have e1:(op==CmpOp.In)=false:=by cases op<;>first|rfl|exact absurd rfl h
 have e2:(op==CmpOp.NotIn)=false:=by cases op<;>first|rfl|exact absurd rfl h2
 cases b<;>simp[behindInMarks,e1,e2]
theorem zoq{op:CmpOp}{r:R2}(ho:OpR X (compareOp op) r)(ha:PE X a ta)(hb:PE X b tb)(hm:behindInMarks op b=false):PE X (.Compare a [op] [b] pos) (tOp r ta tb):=by
 intro pins s σ H Q I h
 exact wpAny_Compare1 (zpO ha hb I h λv u s2 x y H2 I2 rx ry q=>ho pins s2 σ H2 x y v u Q I2 rx ry q) hm
def zse(t:TE):TT:=λσ H Q=>t σ H λx H'=>∃k,x = .bl k/\Q k H'
theorem znS(ho:OpR X (compareOp op) r)(ha:PE X a ta)(hb:PE X b tb)(hm:behindInMarks op b=false):PT X (.Compare a [op] [b] pos) (zse (tOp r ta tb)):=by
 intro pins s σ H Q I h
 refine wpAny_isTrue_Compare1 (thn (ha pins s σ H _ I h) λv s1 ⟨x,H1,I1,r1,q1⟩=>thn (hb pins s1 σ H1 _ I1 q1) λu s2 ⟨y,H2,I2,r2,q2⟩=>
  thn (ho pins s2 σ H2 x y v u _ I2 r1 r2 q2) λc s3 ⟨z,H3,I3,r3,k,e,q3⟩=>?_) hm
 subst e
 cases r3
 exact wpAny_truthy_bool ⟨H3,I3,q3⟩
def zpt(K:zC)(x:V)(H:Hp)(k:Bool):Prop:=
 match x with
 | .non=>k=false
 | .bl b=>k=b
 | .int i=>k=(i != 0)
 | .str y=>y.length<=sizeLine/\k=((y.length:Int) != 0)
 | .byt y=>y.size<=sizeLine/\k=((y.size:Int) != 0)
 | .ref p=>(∃xs,SqL K H p xs/\k = !xs.isEmpty)\/(∃xs,SqT K H p xs/\k = !xs.isEmpty)\/∃kvs,H p=some (.dK kvs)/\k = !kvs.isEmpty
 |_=>False
theorem zhX(r:KV kvs vs):(!vs.isEmpty) = !kvs.isEmpty:=by
 cases r<;>rfl
theorem zdK(r:Vals xs its):(!its.toArray.isEmpty) = !xs.isEmpty:=by
 cases r<;>simp
theorem zaQ:(sizeLine:Nat)<2 ^ 63:=by rw[sizeLine_eq];decide
theorem zrh:ztm X (λx H Q=>∃k,zpt X.K x H k/\Q k H):=by
 intro pins s σ H x v Q I rx h
 obtain⟨k,e,q⟩:=h
 have hl:=zaQ
 have hs:sizeLine=16777216:=sizeLine_eq
 cases x with
 |non=>
  cases rx
  have e':k=false:=e
  subst e'
  exact truthy_none ⟨H,I,q⟩
 |bl b=>
  cases rx
  have e':k=b:=e
  subst e'
  exact wpAny_truthy_bool ⟨H,I,q⟩
 |int i=>
  obtain⟨t,rfl⟩:=rx
  have e':k=(i != 0):=e
  subst e'
  exact PySem.P.truthy_int ⟨H,I,q⟩
 |str y=>
  obtain⟨t,rfl⟩:=rx
  obtain⟨hy,e'⟩:y.length<=sizeLine/\k=((y.length:Int) != 0):=e
  subst e'
  exact PySem.P.truthy_str (by omega) ⟨H,I.tok _,q⟩
 |byt y=>
  obtain⟨t,rfl⟩:=rx
  obtain⟨hy,e'⟩:y.size<=sizeLine/\k=((y.size:Int) != 0):=e
  subst e'
  exact PySem.W.truthy_bytes (by omega) ⟨H,I.tok _,q⟩
 |ref p=>
  cases rx
  have e':(∃xs,SqL X.K H p xs/\k = !xs.isEmpty)\/(∃xs,SqT X.K H p xs/\k = !xs.isEmpty)\/∃kvs,H p=some (.dK kvs)/\k = !kvs.isEmpty:=e
  rcases e' with⟨xs,hx,e'⟩|⟨xs,hx,e'⟩|⟨kvs,hx,e'⟩
  · subst e'
    obtain⟨its,r,pl,hz⟩:=I.list hx
    have hlen:=r.length
    exact wpAny_truthy_list pl.isList (by simp only[zzE];omega) ⟨H,I.tok _,by rw[zdK r];exact q⟩
  · subst e'
    obtain⟨its,r,pl,hz⟩:=I.tuple hx
    have hlen:=r.length
    exact truthy_tuple pl (by simp only[zzE];omega) ⟨H,I.tok _,by rw[zdK r];exact q⟩
  · subst e'
    obtain⟨hz,hS,vs,r,m⟩:kvs.length<=sizeLine/\(p==sysModules)=false/\∃vs,KV kvs vs/\s.heap.DictOf (vo X.prog X.w) p vs:=I.hok p _ hx
    have hlen:kvs.length=vs.length:=Paired.length r
    exact wpAny_truthy_dict hS m (by omega) ⟨H,I.tok _,by rw[zhX r];exact q⟩
 |_=>exact(show False from e).elim
theorem zlK(ha:PE X a ta)(he:∀whole,isTrue a X.env whole=(do let v <-whole;standAt a.pos;holding [v] (truthy v))):
 PT X a (λσ H Q=>ta σ H λx H'=>∃k,zpt X.K x H' k/\Q k H'):=by
 intro pins s σ H Q I h
 exact isTrue_plain (thn (ha pins s σ H _ I h) λv s1 ⟨x,H1,I1,r1,q1⟩=>zrh pins s1 σ H1 x v Q I1 r1 q1) (he _)
theorem zis:OpR X (binaryOp .Add) (λx y H Q=>∃i j,x = .str i/\y = .str j/\i.length+j.length<=sizeLine/\Q (.str (i++j)) H):=by
 intro pins s σ H x y v u Q I rx ry h
 obtain⟨i,j,rfl,rfl,hz,q⟩:=h
 obtain⟨t,rfl⟩:=rx
 obtain⟨t',rfl⟩:=ry
 exact add_str (λt' tk=>⟨.str (i++j),H,I.tok _,⟨_,rfl⟩,q⟩) hz
theorem vals1(r:Vals [x] us):∃u,us=[u]/\RelV x u:=by
 cases r with
 |cons r1 r2=>cases r2;exact⟨_,rfl,r1⟩
theorem vals2(r:Vals [x,y] us):∃u w',us=[u,w']/\RelV x u/\RelV y w':=by
 cases r with
 |cons r1 r2=>
  cases r2 with
  |cons r3 r4=>cases r4;exact⟨_,_,rfl,r1,r3⟩
theorem zks(hc:X.calm=true):VN X (.builtin "max") (λxs H Q=>∃i j,xs=[.int i,.int j]/\Q (.int (if j > i then j else i)) H):=by
 intro pins s σ H xs us Q I r h
 obtain⟨i,j,rfl,q⟩:=h
 obtain⟨u,w',rfl,⟨t,rfl⟩,⟨t',rfl⟩⟩:=vals2 r
 refine max_two_ints (I.ok.hd hc) λh' tk k=>⟨_,H,I.kept k, ?_,q⟩
 by_cases hj:j > i
 · rw[if_pos hj,if_pos hj];exact⟨_,rfl⟩
 · rw[if_neg hj,if_neg hj];exact⟨_,rfl⟩
theorem zeR:VN X (.type "int") (λxs H Q=>(∃i,xs=[.int i]/\Q (.int i) H)\/∃k,xs=[.bl k]/\Q (.int (if k then 1 else 0)) H):=by
 intro pins s σ H xs us Q I r h
 rcases h with⟨i,rfl,q⟩|⟨k,rfl,q⟩
 · obtain⟨u,rfl,t,rfl⟩:=vals1 r
   exact call_int_int ⟨.int i,H,I,⟨_,rfl⟩,q⟩
 · obtain⟨u,rfl,r1⟩:=vals1 r
   cases r1
   exact call_int_bool ⟨.int (if k then 1 else 0),H,I.tok _,⟨_,rfl⟩,q⟩
end
end L2
namespace L2
open PySem PySem.Spec PyProof.Rows
structure ObjM(h:Heap)(x dx C:Addr)(mA:Str->Option Value):Prop where
 obj:h.get? x=some (PySem.W.instObj C dx)
 ns:h.Ns1 dx mA
 ne:dx≠x
theorem zfp{h:Heap}{dx:Addr}{mA:Str->Option Value}(n:h.Ns1 dx mA):∃od,h.get? dx=some od/\∀name,PySem.W.lookIn name od=some (mA name):=by
 obtain⟨o,es,ep,ho,hd,hk,_,hm⟩:=n
 refine⟨o,ho,λname=>?_⟩
 have e:=hm name
 unfold nsFind findBy at e
 rw[<-Array.find?_toList]at e
 unfold PySem.W.lookIn
 rw[hd]
 dsimp only
 split
 · rename_i y q
   rw[q]at e
   exact congrArg some e
 · rename_i q
   rw[q]at e
   have a:es.toList.any (·.refKey)=false:=by
    rw[List.any_eq_false]
    intro y hy
    obtain⟨z,t,hkey⟩:=hk y (Array.mem_toList_iff.mp hy)
    simp[DictEntry.refKey,hkey]
   have a':¬es.toList.any (·.refKey)=true:=by rw[a];exact zyT
   rw[if_neg a']
   exact congrArg some e
theorem ObjM.look(I:ObjM h x dx C mA):∃od,PySem.W.InstAt h x (PySem.W.instObj C dx) C (some od)/\∀name,PySem.W.lookIn name od=some (mA name):=
 let⟨od,ho,hl⟩:=zfp I.ns
 ⟨od,⟨I.obj,rfl,rfl,ho⟩,hl⟩
section
variable{prog:Program}{w:World}{A:Around}{E:Value->Shared->Prop}{s:Shared}{K:zC}{x dx C f:Addr}{mA:Str->Option Value}{name:Str}{v:Value}
theorem znZ(X:K.In s.heap)(I:ObjM s.heap x dx C mA)
 (hs:PySem.W.findIn K (.ref C) "__setattr__"=some (some (.builtin "object.__setattr__"))) (hp:PySem.W.plainOver K C=true) (ht:PySem.W.takerIn K C name=some none) (hh:PySem.W.hasDictIn K C=true)
 (hw:PySem.Within mA ns) (hsz:ns.length<=sizeLine)
 (h:∀h',ObjM h' x dx C (λy=>if y=name then some v else mA y)->Heap.SameBut dx s.heap h'->Q () {s with heap:=h',toks:=s.toks+2}):
 wpAny (model prog w) A (setAttr (.ref x) name v) Q E s:=by
 obtain⟨od,J,hl⟩:=I.look
 refine PySem.W.set_plain X J hs (PySem.W.osa_open (s:={s with toks:=s.toks+1}) (r:=none) X J hp ht λb=>?_)
 obtain⟨cd,hc,hd'⟩:=PySem.W.any_some hh
 have hx:s.heap.get? x=some ⟨.ref C,some dx,.plain,#[]⟩:=I.obj
 refine zxD (zxE (zxD (zxD (wpAny_loadPart hx (zxD (PySem.W.Looks.here (s:={s with toks:=s.toks+1}) (PySem.W.looks_clsIn X hc) ?_))))))
 rw[hd']
 refine zxE (a:=some dx) (zxD (zxE (zxD ?_)))
 refine wpAny_nsSet1 (s:={s with toks:=s.toks+1}) I.ns λh' hn2 hs2=>?_
 obtain⟨oD,esD,epD,hoD,hdD,hcD⟩:=hn2.count (PySem.Within.cons name v hw)
 refine zxD (wpAny_lookBehind hoD (by rw[hdD];exact pastItsLine_dict (zzL hcD (by rw[zzQ];omega))) ?_)
 exact zxE (h _ ⟨(hs2.2 _ (Ne.symm I.ne)).trans I.obj,hn2,I.ne⟩ hs2)
theorem zhh(X:K.In s.heap)(hm:PySem.W.makesIn K C=true)
 (hi:PySem.W.findIn K (.ref C) "__init__"=some (some (.ref f))) (hf:PySem.W.typeIn K (.ref f)=some (.type "function"))
 (h:codeAny (model prog w) (A.under (.builtin "type.__call__" ⟨.ref C::vs,kw⟩)) (.call (.ref f) ⟨.ref (s.heap.objs.size+1)::vs,kw⟩) (PySem.W.InitBack (s.heap.objs.size+1) R)
  {s with heap:=(s.heap.push PySem.W.emptyDict).push (PySem.W.instObj C s.heap.objs.size)}):
 codeAny (model prog w) A (.call (.ref C) ⟨vs,kw⟩) R s:=by
 obtain⟨hh,g,d,t,os⟩:=s
 exact PySem.W.make_core (PySem.W.makes_of X hm) (PySem.W.looks_findIn X hi) (λself=>PySem.W.bind_fn X self hf) (.inl rfl) h
end
def Vi(f:Str)(v:V):List (Str×V)->List (Str×V)
 | []=>[(f,v)]
 |(g,x)::r=>if g=f then(g,v)::r else(g,x)::Vi f v r
theorem zcx(f g:Str)(v:V):∀fs:List (Str×V),(Vi f v fs).lookup g=if g=f then some v else fs.lookup g
 | []=>by
  show List.lookup g [(f,v)]=_
  by_cases h:g=f
  · have hb:(g==f)=true:=beq_iff_eq.mpr h
    simp only[List.lookup,hb,if_pos h]
  · have hb:(g==f)=false:=beq_eq_false_iff_ne.mpr h
    simp only[List.lookup,hb,if_neg h]
 |(k,x)::r=>by
  have ih:=zcx f g v r
  rw[show Vi f v ((k,x)::r)=(if k=f then(k,v)::r else(k,x)::Vi f v r)from rfl]
  by_cases hk:k=f
  · rw[if_pos hk]
    by_cases h:g=k
    · have hb:(g==k)=true:=beq_iff_eq.mpr h
      simp only[List.lookup,hb,if_pos (h.trans hk)]
    · have hb:(g==k)=false:=beq_eq_false_iff_ne.mpr h
      simp only[List.lookup,hb,if_neg (λe:g=f=>h (e.trans hk.symm))]
  · rw[if_neg hk]
    by_cases h:g=k
    · have hb:(g==k)=true:=beq_iff_eq.mpr h
      simp only[List.lookup,hb,if_neg (λe:g=f=>hk (h.symm.trans e))]
    · have hb:(g==k)=false:=beq_eq_false_iff_ne.mpr h
      simp only[List.lookup,hb]
      exact ih
theorem zbT(f:Str)(v:V):∀fs:List (Str×V),f ∈ (Vi f v fs).map (·.1)/\∀g,g ∈ fs.map (·.1)->g ∈ (Vi f v fs).map (·.1)
 | []=>⟨by simp[Vi],λg h=>by simp at h⟩
 |(k,x)::r=>by
  obtain⟨i1,i2⟩:=zbT f v r
  rw[show Vi f v ((k,x)::r)=(if k=f then(k,v)::r else(k,x)::Vi f v r)from rfl]
  by_cases hk:k=f
  · rw[if_pos hk]
    subst hk
    exact⟨by simp,λg h=>by simpa using h⟩
  · rw[if_neg hk]
    refine⟨?_,λg h=>?_⟩
    · rw[zyP]
      exact zzA _ i1
    · rw[zyP]at h ⊢
      rcases zS.mp h with e|e
      · exact zS.mpr (.inl e)
      · exact zzA _ (i2 g e)
theorem zcw(f:Str)(v:V):∀fs:List (Str×V),(Vi f v fs).length<=fs.length+1
 | []=>by simp[Vi]
 |(k,x)::r=>by
  have ih:=zcw f v r
  rw[show Vi f v ((k,x)::r)=(if k=f then(k,v)::r else(k,x)::Vi f v r)from rfl]
  by_cases hk:k=f
  · rw[if_pos hk,zzQ,zzQ];omega
  · rw[if_neg hk,zzQ,zzQ];omega
theorem zaw.some_of(r:zaw (some v) o):∃u,o=some u/\RelV v u:=by
 cases o with
 |none=>exact(show False from r).elim
 |some u=>exact⟨u,rfl,r⟩
theorem zkl(r:RelV v u):PySem.W.handedIn u=true:=by
 cases v with
 |non=>cases(show u=Value.none from r);rfl
 |bl b=>cases(show u=Value.bool b from r);rfl
 |int i=>obtain⟨t,e⟩:=(show ∃t,u=Value.int i t from r);cases e;rfl
 |str x=>obtain⟨t,e⟩:=(show ∃t,u=Value.str x t from r);cases e;rfl
 |byt b=>obtain⟨t,e⟩:=(show ∃t,u=Value.bytes b t from r);cases e;rfl
 |flt b=>obtain⟨t,e⟩:=(show ∃t,u=Value.float b t from r);cases e;rfl
 |ref a=>cases(show u=Value.ref a from r);rfl
 |ty n=>cases(show u=Value.type n from r);rfl
section
variable{P:Program}{w:World}{H H':Hp}{h h':Heap}{a C dx:Addr}{fs fs':List (Str×V)}
theorem zon(hok:HOk P w H h)(e:H a=some (.ins C dx fs)):∃mA,ObjM h a dx C mA/\(∀f,zaw (fs.lookup f) (mA f))/\PySem.Within mA (fs.map (·.1))/\fs.length<=1000/\H dx=some (.own a):=by
 obtain⟨d,z,ne,ob,mA,n,r,q⟩:=(show vR P w H h a (.ins C dx fs)from hok a _ e)
 exact⟨mA,⟨ob,n,ne⟩,r,q,z,d⟩
end
structure Cls(K:zC)(C:Addr):Prop where
 pg:PySem.W.plainGet K C Str.empty=true
 hd:PySem.W.hasDictIn K C=true
 po:PySem.W.plainOver K C=true
 sa:PySem.W.findIn K (.ref C) "__setattr__"=some (some (.builtin "object.__setattr__"))
def Yl(K:zC)(C:Addr)(f:Str):Prop:=PySem.W.findIn K (.ref C) f=some none
theorem Yl.taker{K:zC}{C:Addr}{f:Str}(n:Yl K C f):PySem.W.takerIn K C f=some none:=by
 unfold PySem.W.takerIn
 rw[show PySem.W.findIn K (.ref C) f=some none from n]
 rfl
structure Con(K:zC)(C:Addr)(f:Str)(v:V)(u:Value):Prop where
 at_:PySem.W.findIn K (.ref C) f=some (some u)
 rel:RelV v u
 get:PySem.W.specialIn K u "__get__"=some none
 cp:PySem.W.copiedNames.contains f=false
structure Meth(K:zC)(C:Addr)(m:Str)(f:Addr):Prop where
 at_:PySem.W.findIn K (.ref C) m=some (some (.ref f))
 fn:PySem.W.isFn K (.ref f)=true
 kp:PySem.W.keepIn K (.ref f)=true
section
variable{X:Cx}{pins:List (Addr×Obj)}{σ:St}{H:Hp}{s:Shared}{a C dx:Addr}{fs:List (Str×V)}{f:Str}{v:V}{A:Around}{E:Value->Shared->Prop}
theorem zij(I:Inv X pins σ H s)(e:H a=some (.ins C dx fs))(c:Cls X.K C)(n:Yl X.K C f)(hl:fs.length<1000)(ry:RelV y u)
 (h:∀s',Inv X pins σ (upd H a (.ins C dx (Vi f y fs))) s'->Q () s'):wpAny (model X.prog X.w) A (setAttr (.ref a) f u) Q E s:=by
 obtain⟨mA,O,r,wi,_,ho⟩:=zon I.hok e
 have hz:(fs.map (·.1)).length<=sizeLine:=by rw[zD,sizeLine_eq];omega
 refine znZ I.kIn O c.sa c.po n.taker c.hd wi hz λh' O' sb=>h _ ?_
 have hd:∃o,h'.get? dx=some o:=let⟨o,_,_,e',_⟩:=O'.ns;⟨o,e'⟩
 refine I.write (x:=a) (e:=dx) (by rw[e];exact True.intro) (.inr ho) (λb q hb z=>(sb.2 b hb).trans z) hd ?_
 refine⟨by rw[zM O.ne];exact ho, ?_,O.ne,O'.obj,_,O'.ns,λg=>?_,λg hg=>?_⟩
 · have:=zcw f y fs;omega
 · show zaw ((Vi f y fs).lookup g) (if g=f then some u else mA g)
   rw[zcx]
   by_cases q:g=f
   · rw[if_pos q,if_pos q];exact ry
   · rw[if_neg q,if_neg q];exact r g
 · by_cases q:g=f
   · rw[q];exact(zbT f y fs).1
   · refine(zbT f y fs).2 g (wi g λz=>hg ?_)
     show(if g=f then some u else mA g)=none
     rw[if_neg q];exact z
theorem Inv.made(I:Inv X pins σ H s):Inv X pins σ (upd (upd H s.heap.objs.size (.own (s.heap.objs.size+1))) (s.heap.objs.size+1) (.ins C s.heap.objs.size []))
 {s with heap:=(s.heap.push PySem.W.emptyDict).push (PySem.W.instObj C s.heap.objs.size)}:=by
 have e1:(s.heap.push PySem.W.emptyDict).get? s.heap.objs.size=some PySem.W.emptyDict:=zxH s.heap rfl
 have e2:((s.heap.push PySem.W.emptyDict).push (PySem.W.instObj C s.heap.objs.size)).get? (s.heap.objs.size+1)=some (PySem.W.instObj C s.heap.objs.size):=by
  have:=zxH (s.heap.push PySem.W.emptyDict) (o:=PySem.W.instObj C s.heap.objs.size) rfl
  rwa [zxO]at this
 have e3:(s.heap.push PySem.W.emptyDict).Ns s.heap.objs.size (λ_=>none):=⟨PySem.W.emptyDict,#[],_,e1,rfl,(λe he=>absurd he (by simp)),λ_=>rfl⟩
 have I1:=I.laid (a:=s.heap.objs.size) (o:=.own (s.heap.objs.size+1)) (h':=s.heap.push PySem.W.emptyDict) (t':=s.toks) (λb u q=>zxF _ q) (zzK _) ⟨_,e1⟩
 refine I1.laid (a:=s.heap.objs.size+1) (o:=.ins C s.heap.objs.size []) (t':=s.toks) (λb u q=>zxF _ q) (Nat.le_of_eq (zxO _ _)) ?_
 have ne:s.heap.objs.size≠s.heap.objs.size+1:=zzN (Nat.lt_succ_self _)
 refine⟨by rw[zM ne,zU],Nat.zero_le _,ne,e2,λ_=>none,(Heap.Ns1.of_empty e3).at λo q=>zxF _ q,λ_=>True.intro,λy hy=>absurd rfl hy⟩
theorem zoG(hb:attributeBase e f env (eval e env)=eval e env)
 (h:wpAny (model prog w) A (eval e env) (λo s₁=>wpAny (model prog w) A (getAttr o f true) Q E s₁) E s):wpAny (model prog w) A (eval (.Attribute e f pos) env) Q E s:=
 Attribute_any_ h (by rw[arm_eval_Attribute,hb])
end
def ztp(K:zC)(ta tv:TE)(f:Str):TS:=λD σ H=>tv σ H λy H1=>ta σ H1 λx H2=>∃a C dx fs,x = .ref a/\H2 a=some (.ins C dx fs)/\Cls K C/\Yl K C f/\fs.length<1000/\
 D.nx σ (upd H2 a (.ins C dx (Vi f y fs)))
section
variable{X:Cx}{o e value:Expr}{f:Str}{pos pos' tpos:Pos}{ta tv:TE}
theorem zru(ha:PE X o ta)(hv:PE X value tv)(hs:swapsWith value (some (.Attribute o f pos')) pos.line X.env=pure false):PS X (.Assign [.Attribute o f pos'] value pos) (ztp X.K ta tv f):=by
 intro pins s σ H D I h
 refine plainObj_wpAny_Assign_Attribute (thn (hv pins s σ H _ I h) λu s1 ⟨y,H1,I1,ry,q⟩=>thn (ha pins s1 σ H1 _ I1 q) λov s2 ⟨x,H2,I2,rx,a,C,dx,fs,ex,ea,c,n,l,q2⟩=>?_) hs
 subst ex
 obtain rfl:ov=Value.ref a:=rx
 exact zij I2 ea c n l ry λs3 I3=>⟨σ,_,I3,q2⟩
end
section
variable{X:Cx}{pins:List (Addr×Obj)}{σ:St}{H:Hp}{s:Shared}{A:Around}{E:Value->Shared->Prop}{Q:Value->Shared->Prop}{c:Value}{b:Bool}
inductive TyOf(K:zC)(H:Hp):V->Value->Prop where
 |non:TyOf K H .non (.type "NoneType")
 |bl (x:Bool):TyOf K H (.bl x) (.type "bool")
 |int (i:Int):TyOf K H (.int i) (.type "int")
 |str (x:Str):TyOf K H (.str x) (.type "str")
 |flt (x:UInt64):TyOf K H (.flt x) (.type "float")
 |lst {a:Addr}{xs:List V}(e:H a=some (.lst xs)):TyOf K H (.ref a) (.type "list")
 |frz {a:Addr}{o:Obj}{xs:List V}(e:H a=some (.frz o (.lst xs))):TyOf K H (.ref a) (.type "list")
 |tup {a:Addr}{xs:List V}(e:H a=some (.tup xs)):TyOf K H (.ref a) (.type "tuple")
 |dK {a:Addr}{kvs:List (Key×V)}(e:H a=some (.dK kvs)):TyOf K H (.ref a) (.type "dict")
 |dT {a:Addr}{kvs:List (List Key×V)}(e:H a=some (.dT kvs)):TyOf K H (.ref a) (.type "dict")
 |ins {a C dx:Addr}{fs:List (Str×V)}(e:H a=some (.ins C dx fs)) (cl:Cls K C) (ha:PySem.W.findIn K (.ref C) "__class__"=some (some (.builtin "object.__class__")))
  (hn:PySem.W.specialIn K (.builtin "object.__class__") "__get__"=some (some (.builtin "getset_descriptor.__get__"))) (htk:PySem.W.takesIn K (.builtin "object.__class__")=some true)
  (hm:PySem.W.mroIn K C (.type "object")=some true):TyOf K H (.ref a) (.ref C)
end
end L2
namespace L2
open PySem PySem.Spec PyProof.Rows
structure Room(k:Nat)(A:Around):Prop where
 hd:A.handled=none
 dp:A.depth+3*k+5<recursionLimit
 un:A.units+16*k+200<cLine
 gd:A.guards=some []
theorem Room.mono(r:Room k A)(h:j<=k):Room j A:=⟨r.hd,by have:=r.dp;omega,by have:=r.un;omega,r.gd⟩
theorem Room.deeper(r:Room (k+1) A)(env:Env):Room k (A.deeper env):=
 ⟨r.hd,by have:=r.dp;show A.depth+1+3*k+5<_;omega,by have:=r.un;show A.units+3+16*k+200<_;omega,r.gd⟩
theorem zhQ{A:Around}{C:Addr}{us:List Value}{kw:List (Str×Value)}:(A.under (.builtin "type.__call__" ⟨.ref C::us,kw⟩)).depth=A.depth+1:=by
 first|rfl|simp[Around.under,Code.weight,Code.isCreation,Code.isGuard,Code.isCaller,Code.frames,Code.isFrame,guardIds]
theorem zil{A:Around}{C:Addr}{us:List Value}{kw:List (Str×Value)}:(A.under (.builtin "type.__call__" ⟨.ref C::us,kw⟩)).units=A.units+1:=by
 first|rfl|simp[Around.under,Code.cUnits,Code.frames,Code.isFrame]
theorem zhs{A:Around}{C:Addr}{us:List Value}{kw:List (Str×Value)}:(A.under (.builtin "type.__call__" ⟨.ref C::us,kw⟩)).guards=A.guards:=by
 first|rfl|simp[Around.under,Code.guards,Code.isGuard,guardIds,PySem.pushGuards]
theorem Room.make{k:Nat}{A:Around}(r:Room (k+1) A)(C:Addr)(us:List Value)(kw:List (Str×Value)):Room k (A.under (.builtin "type.__call__" ⟨.ref C::us,kw⟩)):=
 ⟨r.hd,by have:=r.dp;rw[zhQ];omega,by have:=r.un;rw[zil];omega,by rw[zhs];exact r.gd⟩
theorem Room.depth(r:Room k A):A.depth<recursionLimit:=by have:=r.dp;omega
def zsm:TA:=λ_ H Q=>Q [] H
def zps(ta:TE)(tr:TA):TA:=λσ H Q=>ta σ H λx H1=>tr σ H1 λxs H2=>Q (x::xs) H2
section
variable{X:Cx}{e:Expr}{es:List Expr}{te:TE}{t:TA}{pos:Pos}
theorem Vl:PA X [] zsm:=λ_ _ _ _ H Q I h=>Calls.spliced_nil ⟨[],H,I,.nil,h⟩
theorem Zy(ha:PE X e te)(hr:PA X es t)(hs:starEach (e::es) X.env=(false,eval e X.env)::starEach es X.env:=by rfl):PA X (e::es) (zps te t):=by
 intro pos pins s σ H Q I h
 rw[hs]
 show wpAny _ _ (spliced ((false,eval e X.env)::backTo pos (starEach es X.env))) _ _ s
 refine Calls.spliced_cons (thn (ha pins s σ H _ I h) λu s1 ⟨x,H1,I1,r1,q1⟩=>?_)
 exact thn (hr pos pins s1 σ H1 _ I1 q1) λus s2 ⟨xs,H2,I2,r2,q2⟩=>⟨x::xs,H2,I2,.cons r1 r2,q2⟩
def zsW(t:TA):TE:=λσ H Q=>t σ H λxs H1=>xs.length<=sizeLine/\∀p,H1 p=none->Q (.ref p) (upd H1 p (.tup xs))
def zsN(t:TA):TE:=λσ H Q=>t σ H λxs H1=>xs.length<=sizeLine/\∀p,H1 p=none->Q (.ref p) (upd H1 p (.lst xs))
theorem zpP(h:PA X es t):PE X (.Tuple es x1 pos) (zsW t):=by
 intro pins s σ H Q I hq
 refine wpAny_Tuple_spliced (thn (h pos pins s σ H _ I hq) λus s1 ⟨xs,H1,I1,r,z,q⟩=>⟨by rw[<-r.length];exact z, ?_⟩)
 have hf:H1 s1.heap.objs.size=none:=I1.hok.fresh (zzK _)
 refine⟨.ref s1.heap.objs.size,upd H1 s1.heap.objs.size (.tup xs),I1.laid (t':=s1.toks) (λb u e=>zxF _ e) (zzK _) ?_,rfl,q _ hf⟩
 exact⟨z,us,r,⟨_,zxH _ rfl,rfl,_,rfl⟩⟩
theorem zqt(h:PA X es t):PE X (.List es pos) (zsN t):=by
 intro pins s σ H Q I hq
 refine wpAny_List_spliced (thn (h pos pins s σ H _ I hq) λus s1 ⟨xs,H1,I1,r,z,q⟩=>⟨by rw[<-r.length];exact z, ?_⟩)
 have hf:H1 s1.heap.objs.size=none:=I1.hok.fresh (zzK _)
 refine⟨.ref s1.heap.objs.size,upd H1 s1.heap.objs.size (.lst xs),I1.laid (t':=s1.toks) (λb u e=>zxF _ e) (zzK _) ?_,rfl,q _ hf⟩
 exact⟨z,us,0,r,zxH _ rfl⟩
end
abbrev Sp:=List V->Hp->VK->XK->Prop
abbrev CXT:=List Env->Hp->Shared->XK->Value->Shared->Prop
structure Env0(P:Program)(w:World)(K:zC)(mg:Str->Option Value)(base:Heap)(A:Around)(outer:List Env)(s:Shared)(H:Hp):Prop where
 frames:A.frames=some outer
 mod:Mod K mg base
 bs:∀b o,base.get? b=some o->s.heap.get? b=some o/\H b=none
 bsz:base.objs.size<=s.heap.objs.size
 funs:s.heap.FunFrames base outer
 frf:∀b ∈ frs outer,H b=none
 hok:HOk P w H s.heap
 bare:AllBare s.gens
def CE(outer:List Env)(P:Program)(w:World)(H:Hp)(s:Shared)(Q:VK)(u:Value)(s':Shared):Prop:=
 ∃v H',s'.os=s.os/\AllBare s'.gens/\Un (frs outer) [] H H' s.heap s'.heap/\HOk P w H' s'.heap/\RelV v u/\Q v H'
def CR(CX:CXT)(outer:List Env)(P:Program)(w:World)(H:Hp)(s:Shared)(Q:VK)(E:XK)(r:Result)(s':Shared):Prop:=
 match r with
 | .ok (.ret u)=>CE outer P w H s Q u s'
 | .ok _=>False
 | .error e=>CX outer H s E e s'
structure FnOk(P:Program)(w:World)(K:zC)(mg:Str->Option Value)(base:Heap)(CX:CXT)(k:Nat)(f:Addr)(fd:FuncData)(ps:List Str)(sp:Sp):Prop where
 len:∀vs H Q E,sp vs H Q E->vs.length=ps.length
 run:∀(A:Around) (outer:List Env) (s:Shared) (H:Hp) (args:Args) (us:List Value) (vs:List V) (Q:VK) (E:XK),Room k A->Env0 P w K mg base A outer s H->BindsTo s fd args (ps.zip us)->Vals vs us->sp vs H Q E->
  codeAny (model P w) A (.call (.ref f) args) (CR CX outer P w H s Q E) s
theorem FnOk.imp{P:Program}{w:World}{K:zC}{mg:Str->Option Value}{base:Heap}{CX:CXT}{k:Nat}{f:Addr}{fd:FuncData}{ps:List Str}{sp sp':Sp}(F:FnOk P w K mg base CX k f fd ps sp)
 (h:∀vs H Q E,sp' vs H Q E->sp vs H Q E):FnOk P w K mg base CX k f fd ps sp':=
 ⟨λvs H Q E q=>F.len vs H Q E (h _ _ _ _ q),λA outer s H args us vs Q E hr he hb hv hs=>F.run A outer s H args us vs Q E hr he hb hv (h _ _ _ _ hs)⟩
theorem Env0.make{P:Program}{w:World}{K:zC}{mg:Str->Option Value}{base:Heap}{A:Around}{outer:List Env}{s:Shared}{H:Hp}(e:Env0 P w K mg base A outer s H)(C:Addr)(us:List Value)(kw:List (Str×Value)):
 Env0 P w K mg base (A.under (.builtin "type.__call__" ⟨.ref C::us,kw⟩)) outer s H:=⟨by first|exact e.frames|(simpa[Around.under,Code.envs,Code.isFrame,pushEnvs]using e.frames),e.mod,e.bs,e.bsz,e.funs,e.frf,e.hok,e.bare⟩
section
variable{X:Cx}{pins:List (Addr×Obj)}{σ:St}{H:Hp}{s s':Shared}
theorem Inv.env0(I:Inv X pins σ H s):Env0 X.prog X.w X.K X.mg X.base X.A X.stack s H:=
 ⟨I.ok.frames,I.ok.mod,I.bs,zzL I.ok.bsz I.sz,I.stack,I.stkFree,I.hok,I.bare⟩
theorem Inv.after(I:Inv X pins σ H s)(h:CE X.stack X.prog X.w H s Q u s'):EP X pins σ Q u s':=by
 obtain⟨v,H',os,bare,un,hok,r,q⟩:=h
 obtain⟨hh,g,d,t,os'⟩:=s'
 obtain rfl:os'=s.os:=os
 exact⟨v,H',I.call (h':=hh) (g':=g) (d':=d) (t':=t) (ch:=[]) un hok bare (λb z=>absurd z (by simp)),r,q⟩
end
def zpo(sp:Sp)(dvs:List V)(E:XK)(t:TA):TE:=λσ H Q=>t σ H λvs H1=>sp (vs++dvs) H1 Q E
def zpg(C:Addr)(sp:Sp)(dvs:List V)(E:XK)(t:TA):TE:=λσ H Q=>t σ H λvs H1=>∀x dx,H1 x=none->H1 dx=none->dx≠x->
 sp (.ref x::(vs++dvs)) (upd (upd H1 dx (.own x)) x (.ins C dx [])) (λv H2=>v = .non/\Q (.ref x) H2) E
def Binds(K:zC)(fd:FuncData)(ps:List Str)(ds:List Value):Prop:=
 ∀(s:Shared) (us:List Value),K.In s.heap->(us++ds).length=ps.length->BindsTo s fd ⟨us,[]⟩ (ps.zip (us++ds))
theorem Binds.all{K:zC}{fd:FuncData}{ps:List Str}(h:∀us:List Value,us.length=ps.length->bindArgs fd ⟨us,[]⟩=pure (ps.zip us)):Binds K fd ps []:=λs us _ hl=>by
 rw[zyB]at hl ⊢
 exact .of_eq (h us hl)
def zaO(CX:CXT)(X:Cx)(E:XK):Prop:=∀(pins:List (Addr×Obj)) (σ:St) (H:Hp) (s:Shared) (e:Value) (s':Shared),Inv X pins σ H s->CX X.stack H s E e s'->X.xe e s'
section
variable{X:Cx}{CX:CXT}{k:Nat}{f C:Addr}{fd:FuncData}{ps:List Str}{sp:Sp}{dvs:List V}{ds:List Value}{E:XK}{x m:Str}{p pos apos:Pos}{e o:Expr}{es:List Expr}{ta:TE}{t:TA}
theorem zpD(F:FnOk X.prog X.w X.K X.mg X.base CX k f fd ps sp)(hr:Room k X.A)(hb:Binds X.K fd ps ds)(hd:Vals dvs ds)(hx:zaO CX X E)
 (I:Inv X pins σ H s) (r:Vals vs us) (h:sp (vs++dvs) H Q E):wpAny (model X.prog X.w) X.A (call (.ref f) us) (EP X pins σ Q) X.xe s:=by
 have r2:Vals (vs++dvs) (us++ds):=r.append hd
 have hl:(us++ds).length=ps.length:=by rw[<-r2.length];exact F.len _ _ _ _ h
 refine wpAny_call (codeAny_mono (F.run X.A X.stack s H ⟨us,[]⟩ (us++ds) (vs++dvs) Q E hr I.env0 (hb s us I.kIn hl) r2 h) λr s' hq=>?_)
 cases r with
 |error e=>exact hx pins σ H s e s' I hq
 |ok fl=>
  cases fl with
  |ret u=>exact I.after hq
  |next=>exact False.elim hq
  |brk=>exact False.elim hq
  |cont=>exact False.elim hq
theorem zoI(F:FnOk X.prog X.w X.K X.mg X.base CX k f fd ps sp)(hr:Room k X.A)(hg:Gl X x)(hm:X.mg x=some (.ref f))(hk:PySem.W.keepIn X.K (.ref f)=true)(hb:Binds X.K fd ps ds)(hd:Vals dvs ds)(hx:zaO CX X E)
 (ha:PA X (e::es) t) (hdb:(x==("__debug__":Str))=false:=by decide) (he:starEach (e::es) X.env=(false,eval e X.env)::starEach es X.env:=by rfl) (hpl:(backTo pos (starEach es X.env)).any (·.1)=false:=by rfl):
 PE X (.Call (.Name x p) (e::es) [] pos) (zpo sp dvs E t):=by
 intro pins s σ H Q I h
 refine wpAny_Call_Name_kw (YF I hg hm ?_ hdb)
 refine PySem.W.callWith_K (h₀:=X.base) I.ok.mod.kin hk (thn (ha pos pins s σ H _ I h) λus s1 ⟨vs,H1,I1,r,q⟩=>⟨I1.kIn, ?_⟩) he hpl
 exact zpD F hr hb hd hx I1 r q
structure Mk(K:zC)(C f:Addr):Prop where
 makes:PySem.W.makesIn K C=true
 init:PySem.W.findIn K (.ref C) "__init__"=some (some (.ref f))
 fn:PySem.W.isFn K (.ref f)=true
 kp:PySem.W.keepIn K (.ref C)=true
theorem zkJ(M:Mk X.K C f)(F:FnOk X.prog X.w X.K X.mg X.base CX k f fd ps sp)(hr:Room (k+1) X.A)(hb:Binds X.K fd ps ds)(hd:Vals dvs ds)
 (hx:zaO CX X E) (I:Inv X pins σ H s) (r:Vals vs us)
 (h:∀x dx,H x=none->H dx=none->dx≠x->sp (.ref x::(vs++dvs)) (upd (upd H dx (.own x)) x (.ins C dx [])) (λv H2=>v = .non/\Q (.ref x) H2) E):
 wpAny (model X.prog X.w) X.A (call (.ref C) us) (EP X pins σ Q) X.xe s:=by
 have hq:=h (s.heap.objs.size+1) s.heap.objs.size (I.hok.fresh (zyU _)) (I.hok.fresh (zzK _)) (zzN (Nat.lt_succ_self _))
 have I2:=Inv.made (C:=C) I
 have r2:Vals (V.ref (s.heap.objs.size+1)::(vs++dvs)) (Value.ref (s.heap.objs.size+1)::(us++ds)):=.cons rfl (r.append hd)
 have hl:(Value.ref (s.heap.objs.size+1)::us++ds).length=ps.length:=by
  have e:=r2.length
  rw[F.len _ _ _ _ hq]at e
  exact e.symm
 refine wpAny_call (zhh (f:=f) I.kIn M.makes M.init (beq_iff_eq.mp M.fn) (codeAny_mono (F.run _ X.stack _ _ ⟨Value.ref (s.heap.objs.size+1)::us,[]⟩ (Value.ref (s.heap.objs.size+1)::(us++ds)) _ _ E (hr.make C us [])
  (I2.env0.make C us []) (hb _ (Value.ref (s.heap.objs.size+1)::us) I2.kIn hl) r2 hq) λr s' hq'=>?_))
 cases r with
 |error e=>exact hx pins σ _ _ e s' I2 hq'
 |ok fl=>
  cases fl with
  |ret u=>
   obtain⟨v,H',I3,rv,ev,q3⟩:=I2.after hq'
   subst ev
   exact⟨rv,⟨V.ref (s.heap.objs.size+1),H',I3,rfl,q3⟩⟩
  |next=>exact False.elim hq'
  |brk=>exact False.elim hq'
  |cont=>exact False.elim hq'
theorem zoL(M:Mk X.K C f)(F:FnOk X.prog X.w X.K X.mg X.base CX k f fd ps sp)(hr:Room (k+1) X.A)(hg:Gl X x)(hm:X.mg x=some (.ref C))(hb:Binds X.K fd ps ds)(hd:Vals dvs ds)(hx:zaO CX X E)
 (ha:PA X (e::es) t) (hdb:(x==("__debug__":Str))=false:=by decide) (he:starEach (e::es) X.env=(false,eval e X.env)::starEach es X.env:=by rfl) (hpl:(backTo pos (starEach es X.env)).any (·.1)=false:=by rfl):
 PE X (.Call (.Name x p) (e::es) [] pos) (zpg C sp dvs E t):=by
 intro pins s σ H Q I h
 refine wpAny_Call_Name_kw (YF I hg hm ?_ hdb)
 refine PySem.W.callWith_K (h₀:=X.base) I.ok.mod.kin M.kp (thn (ha pos pins s σ H _ I h) λus s1 ⟨vs,H1,I1,r,q⟩=>⟨I1.kIn, ?_⟩) he hpl
 exact zkJ M F hr hb hd hx I1 r q
end
section
variable{X:Cx}{CX:CXT}{k:Nat}{f C:Addr}{fd:FuncData}{ps ks:List Str}{sp:Sp}{E:XK}{x m:Str}{p pos apos kpos:Pos}{e o:Expr}{es:List Expr}{kws:List Keyword}{te ta:TE}{t tk:TA}{nm:Option Str}
structure KBinds(K:zC)(fd:FuncData)(ps ks:List Str)(g:List Value->List Value->List Value)(gV:List V->List V->List V):Prop where
 to:∀(s:Shared) (us ws:List Value),K.In s.heap->(g us ws).length=ps.length->BindsTo s fd ⟨us,ks.zip ws⟩ (ps.zip (g us ws))
 rel:∀{vs:List V}{us:List Value}{zs:List V}{ws:List Value},Vals vs us->Vals zs ws->Vals (gV vs zs) (g us ws)
variable{g:List Value->List Value->List Value}{gV:List V->List V->List V}
end
structure FnScope(N P:List Str)(sc:Scope):Prop where
 kind:sc.kind = .function
 co:sc.isCoroutine=false
 gen:sc.isGenerator=false
 nd:N.Nodup
 pre:N.take P.length=P
 par:∀x ∈ P,sc.names.lookup x=some .local\/sc.names.lookup x=some .cell
 nofree:∀y ∈ sc.names,y.2 ≠ .free
theorem zeU{kindOf:Str->Option NameKind}{x:Str}:∀{binds:List (Str×Value)}{m:Str->Option Value},(∀v,(x,v) ∉ binds)->bindL kindOf binds m x=m x
 | [],_,_=>rfl
 |(n,v)::r,m,h=>by
  unfold bindL
  rw[zeU λw hw=>h w (zzA _ hw)]
  split
  · have:x≠n:=by rintro rfl;exact h v zzC
    simp[this]
  · rfl
theorem zfn{kindOf:Str->Option NameKind}{x:Str}:∀{binds:List (Str×Value)}{m:Str->Option Value},(∀v,(x,v) ∉ binds)->bindC kindOf binds m x=m x
 | [],_,_=>rfl
 |(n,v)::r,m,h=>by
  unfold bindC
  rw[zfn λw hw=>h w (zzA _ hw)]
  split
  · rfl
  · have:x≠n:=by rintro rfl;exact h v zzC
    simp[this]
theorem zeX{kindOf:Str->Option NameKind}{x:Str}{v:Value}:∀{P:List Str}{vs:List Value}{i:Nat}{m:Str->Option Value},P.Nodup->P[i]? = some x->vs[i]? = some v->kindOf x=some .local->
 bindL kindOf (P.zip vs) m x=some v
 | [],_,_,_,_,h,_,_=>by simp at h
 |_::_,[],_,_,_,_,h,_=>by simp at h
 |p::P,w::vs,0,m,nd,h1,h2,hk=>by
  simp at h1 h2;subst h1;subst h2
  show bindL kindOf ((p,w)::P.zip vs) m p=_
  unfold bindL
  rw[zeU λv hv=>(zzT.mp nd).1 (List.of_mem_zip hv).1,if_pos hk]
  simp
 |p::P,w::vs,i+1,m,nd,h1,h2,hk=>by
  show bindL kindOf ((p,w)::P.zip vs) m x=_
  unfold bindL
  exact zeX (i:=i) (zzT.mp nd).2 (by simpa using h1) (by simpa using h2) hk
theorem zfa{kindOf:Str->Option NameKind}{x:Str}{v:Value}:∀{P:List Str}{vs:List Value}{i:Nat}{m:Str->Option Value},P.Nodup->P[i]? = some x->vs[i]? = some v->kindOf x≠some .local->
 bindC kindOf (P.zip vs) m x=some v
 | [],_,_,_,_,h,_,_=>by simp at h
 |_::_,[],_,_,_,_,h,_=>by simp at h
 |p::P,w::vs,0,m,nd,h1,h2,hk=>by
  simp at h1 h2;subst h1;subst h2
  show bindC kindOf ((p,w)::P.zip vs) m p=_
  unfold bindC
  rw[zfn λv hv=>(zzT.mp nd).1 (List.of_mem_zip hv).1,if_neg hk]
  simp
 |p::P,w::vs,i+1,m,nd,h1,h2,hk=>by
  show bindC kindOf ((p,w)::P.zip vs) m x=_
  unfold bindC
  exact zfa (i:=i) (zzT.mp nd).2 (by simpa using h1) (by simpa using h2) hk
def start(N:List Str)(vs:List V):St:=vs.map some++List.replicate (N.length-vs.length) none
def Xz(CX:CXT)(P:Program)(w:World)(K:zC)(mg:Str->Option Value)(base:Heap)(N:List Str)(qual:Str)(scope:Scope)(f:Addr)(cd:Value)(A:Around)(outer:List Env)(s:Shared)(H:Hp)(E:XK):Cx where
 prog:=P
 w:=w
 K:=K
 mg:=mg
 base:=base
 A:=A.deeper (envOfC qual scope s.heap.objs.size f cd)
 N:=N
 s₀:=s
 H₀:=H
 env:=envOfC qual scope s.heap.objs.size f cd
 outer:=outer
 stack:=envOfC qual scope s.heap.objs.size f cd::outer
 ex:=[]
 calm:=true
 fn:=λ_=>true
 pn:=[]
 xe:=λe s'=>wpAny (model P w) (A.deeper (envOfC qual scope s.heap.objs.size f cd)) (leaving (envOfC qual scope s.heap.objs.size f cd) e) (λ_ s''=>CX outer H s E e s'') (λe' s''=>CX outer H s E e' s'') s'
theorem zhx{sc:Scope}{n:Nat}{x:Str}(h:sc.names.lookup x=some .cell):∃c,(cellsFrom n sc.names []).lookup x=some c:=by
 have q:=PySem.W.cellsFrom_some sc.names n [] (.inl h)
 exact Option.isSome_iff_exists.mp q
theorem zff{CX:CXT}{P:Program}{w:World}{K:zC}{mg:Str->Option Value}{base:Heap}{N ps:List Str}{qual:Str}{scope:Scope}{f:Addr}{cd:Value}{A:Around}{outer:List Env}{s s1:Shared}{H:Hp}{E:XK}{us:List Value}{vs:List V}
 (S:FnScope N ps scope) (hd:A.handled=none) (e0:Env0 P w K mg base A outer s H) (hl:vs.length=ps.length) (r:Vals vs us)
 (x:InCallC s s.heap.objs.size (bindL (envOfC qual scope s.heap.objs.size f cd).kindOf (ps.zip us) λ_=>none) (cellsFrom (s.heap.objs.size+1) scope.names []) (bindC (envOfC qual scope s.heap.objs.size f cd).kindOf (ps.zip us) λ_=>none) s1):
 Inv (Xz CX P w K mg base N qual scope f cd A outer s H E) [] (start N vs) H s1:=by
 have hpl:ps.length<=N.length:=by have:=congrArg List.length S.pre;rw[zzP]at this;omega
 obtain⟨h1,tk,rfl,hk⟩:=x.done
 have noA:∀b:Addr,b ∉ (Xz CX P w K mg base N qual scope f cd A outer s H E).ex:=λb z=>absurd (show b ∈ ([]:List Addr)from z) (by simp)
 refine⟨⟨e0.mod,S.kind,rfl,rfl,zzK _,λy z c h1 h2=>?_,λy hy=>?_,λy c _ h=>?_,λ_=>hd,Around.frames_deeper e0.frames,.inr ⟨rfl,rfl⟩,λb z=>absurd z (noA b),e0.bs,e0.bsz,λb _ _=>noA b,λb z=>absurd z (noA b),e0.funs,e0.frf⟩,
  rfl,e0.bare,Un.kept hk,⟨_,x.toInCall.ns,λi y v h1 h2 h3=>?_⟩,λy c h=>⟨_,x.cell y c h⟩,e0.hok.fresh (zzK _),λy c h=>?_,λp hp=>absurd (show p ∈ ([]:List (Addr×Obj))from hp) (by simp),e0.hok.kept hk, ?_⟩
 · exact name_of_addr x.apart (PySem.mem_of_lookup h1) (PySem.mem_of_lookup h2)
 · have hy:scope.names.lookup y=some .cell\/scope.names.lookup y=some .free:=hy
   rcases hy with hy|hy
   · exact zhx hy
   · exact absurd rfl (S.nofree _ (PySem.mem_of_lookup hy))
 · exact Nat.le_of_lt (x.above y c (PySem.mem_of_lookup h))
 · have hi:i<vs.length:=by
    unfold start at h2
    by_cases hi:i<vs.length
    · exact hi
    · rw[zyO (by simpa using hi)]at h2
      rw[List.getElem?_replicate]at h2
      split at h2<;>cases h2
   have ha:vs[i]? = some v:=by
    unfold start at h2
    rw[zyM (by simpa using hi),zzF]at h2
    cases e:vs[i]? with
    |none=>rw[e]at h2;cases h2
    |some a=>rw[e]at h2;cases h2;rfl
   obtain⟨u,hu,rv⟩:=r.get ha
   have hp:ps[i]? = some y:=by
    rw[<-S.pre,List.getElem?_take_of_lt (by omega)];exact h1
   have ndP:ps.Nodup:=by rw[<-S.pre];exact S.nd.sublist (List.take_sublist _ _)
   refine⟨u,rv, ?_⟩
   rcases S.par y (zzX hp)with k|k
   · exact .inl ⟨k,zeX ndP hp hu k⟩
   · obtain⟨c,e⟩:=zhx (n:=s.heap.objs.size+1) k
     refine .inr ⟨.inl k,c,e, ?_⟩
     have q:=x.cell y c e
     rw[zfa ndP hp hu (by show scope.names.lookup y≠_;rw[k];decide)]at q
     exact q
 · exact e0.hok.fresh (Nat.le_of_lt (x.above y c (PySem.mem_of_lookup h)))
 · unfold start
   show _=N.length
   rw[zzG,zD,List.length_replicate]
   omega
theorem zlO{CX:CXT}{P:Program}{w:World}{K:zC}{mg:Str->Option Value}{base:Heap}{k:Nat}{f:Addr}{name qual:Str}{params:Arguments}{body:List Stmt}{scope:Scope}{dV kV doc pm cdv ct oc:Value}{an od:Option Addr}
 {osl:Array (Option Value)}{N ps:List Str}{sp:Sp}(lk:K.lookup f=some ⟨oc,od,.func (PySem.W.fnOf name qual params body scope dV kV doc pm an cdv ct),osl⟩) (hcd:PySem.W.codeIn K cdv qual=true) (S:FnScope N ps scope)
 (len:∀vs H Q E,sp vs H Q E->vs.length=ps.length)
 (hbody:∀(A:Around) (outer:List Env) (s:Shared) (H:Hp) (vs:List V) (Q:VK) (E:XK),Room k (A.deeper (envOfC qual scope s.heap.objs.size f cdv))->sp vs H Q E->
  ∃t,PSs (Xz CX P w K mg base N qual scope f cdv A outer s H E) body t/\t {nx:=λ_ H'=>Q .non H',rt:=Q} (start N vs) H):
 FnOk P w K mg base CX (k+1) f (PySem.W.fnOf name qual params body scope dV kV doc pm an cdv ct) ps sp:=by
 refine⟨len,λA outer s H args us vs Q E hr e0 hb r hsp=>?_⟩
 have hl:=len _ _ _ _ hsp
 have KX:K.In s.heap:=e0.mod.kin.keeps λb o e=>(e0.bs b o e).1
 have lim:s.heap.NoLimit:=e0.mod.nolimit.keeps λb o e=>(e0.bs b o e).1
 have hkind:∀y ∈ ps.zip us,scope.names.lookup y.1=some .local\/(scope.names.lookup y.1=some .cell/\((cellsFrom (s.heap.objs.size+1) scope.names []).lookup y.1).isSome=true):=λ⟨n,v⟩ hy=>by
  rcases S.par n (List.of_mem_zip hy).1 with q|q
  · exact .inl q
  · exact .inr ⟨q,PySem.W.cellsFrom_some _ _ _ (.inl q)⟩
 refine codeAny_call_function hr.depth (KX _ _ lk) rfl S.co S.gen rfl (PySem.W.codeRec_of KX hcd) (hb _ _ _ _ ?_)
 refine wpAny_newFunctionEnv_cells S.kind hkind λenv he s1 x=>?_
 subst he
 refine⟨lim.keeps x.toInCall.keep,codeAny_func ?_⟩
 obtain⟨t,ht,hq⟩:=hbody A outer s H vs Q E (hr.deeper _) hsp
 have I:Inv (Xz CX P w K mg base N qual scope f cdv A outer s H E) [] (start N vs) H s1:=zff S hr.hd e0 hl r x
 refine zxQ (ht [] s1 (start N vs) H _ I hq) (λfl s' hs=>?_) λe s' hs=>hs
 have fin:∀{σ':St}{H':Hp}{v:V}{u:Value},Inv (Xz CX P w K mg base N qual scope f cdv A outer s H E) [] σ' H' s'->RelV v u->Q v H'->CE outer P w H s Q u s':=
  λ{σ' H' v u} J rv q=>⟨v,H',J.os,J.bare,J.base,J.hok,rv,q⟩
 cases fl with
 |ret u=>
  obtain⟨v,σ',H',J,rv,q⟩:=hs
  exact fin J rv q
 |next=>
  obtain⟨σ',H',J,q⟩:=hs
  exact fin (v:=V.non) (u:=Value.none) J rfl q
 |brk=>
  obtain⟨_,_,_,q⟩:=hs
  exact False.elim q
 |cont=>
  obtain⟨_,_,_,q⟩:=hs
  exact False.elim q
end L2
namespace L2
open PySem PySem.Spec PyProof.Rows
section
variable{X:Cx}{x:Str}{p pos:Pos}{e:Expr}{es:List Expr}{t:TA}{id T:String}{r:List V->Hp->VK->Prop}
def tCB(r:List V->Hp->VK->Prop)(t:TA):TE:=λσ H Q=>t σ H λvs H1=>r vs H1 Q
theorem zbI(hc:VN X (.builtin id) r)(hg:Gl X x)(hm:X.mg x=none)(hv:bootBuiltins x=some (.builtin id))(ha:PA X (e::es) t)(hn:x≠"__name__":=by decide)(hdb:(x==("__debug__":Str))=false:=by decide)
 (he:starEach (e::es) X.env=(false,eval e X.env)::starEach es X.env:=by rfl) (hpl:(backTo pos (starEach es X.env)).any (·.1)=false:=by rfl):PE X (.Call (.Name x p) (e::es) [] pos) (tCB r t):=by
 intro pins s σ H Q I h
 refine wpAny_Call_Name_kw (zaY I hg hm hv ?_ hn hdb)
 exact PyProof.Rows.callWith_builtin1 (thn (ha pos pins s σ H _ I h) λus s1 ⟨vs,H1,I1,r1,q1⟩=>hc pins s1 σ H1 vs us Q I1 r1 q1) he hpl
theorem zkx(hc:VN X (.type T) r)(hg:Gl X x)(hm:X.mg x=none)(hv:bootBuiltins x=some (.type T))(ha:PA X (e::es) t)(hn:x≠"__name__":=by decide)(hdb:(x==("__debug__":Str))=false:=by decide)
 (he:starEach (e::es) X.env=(false,eval e X.env)::starEach es X.env:=by rfl) (hpl:(backTo pos (starEach es X.env)).any (·.1)=false:=by rfl):PE X (.Call (.Name x p) (e::es) [] pos) (tCB r t):=by
 intro pins s σ H Q I h
 refine wpAny_Call_Name_kw (zaY I hg hm hv ?_ hn hdb)
 exact PyProof.Rows.callWith_type1 (thn (ha pos pins s σ H _ I h) λus s1 ⟨vs,H1,I1,r1,q1⟩=>hc pins s1 σ H1 vs us Q I1 r1 q1) he hpl
end
end L2
namespace L2
open PySem PySem.Spec PyProof.Rows
section
variable{κ:Type}[DecidableEq κ]
def zbO(kvs:List (κ×V))(k:κ):Option V:=(kvs.find? λkv=>decide (kv.1=k)).map (·.2)
theorem zmS{p:κ×V}{r:List (κ×V)}{k:κ}(e:p.1=k):zbO (p::r) k=some p.2:=by simp[zbO,List.find?_cons,e]
theorem zmV{p:κ×V}{r:List (κ×V)}{k:κ}(e:¬p.1=k):zbO (p::r) k=zbO r k:=by simp[zbO,List.find?_cons,e]
theorem zaw.isSome_eq(r:zaw o u):o.isSome=u.isSome:=by
 cases o with
 |none=>cases u with
  |none=>rfl
  |some _=>exact(show False from r).elim
 |some _=>cases u with
  |none=>exact(show False from r).elim
  |some _=>rfl
theorem KV.val{kvs:List (κ×V)}{vs:List (κ×Value)}(r:KV kvs vs)(k:κ):zaw (zbO kvs k) (valueAt vs k):=by
 unfold KV at r
 induction r with
 |nil=>exact True.intro
 | @cons p q ps qs h t ih=>
  obtain⟨h1,h2⟩:=h
  by_cases e:p.1=k
  · have e':q.1=k:=h1.symm.trans e
    have b:valueAt (q::qs) k=some q.2:=by simp[valueAt,List.find?_cons,e']
    rw[zmS e,b];exact h2
  · have e':¬q.1=k:=λz=>e (h1.trans z)
    have b:valueAt (q::qs) k=valueAt qs k:=by simp[valueAt,List.find?_cons,e']
    rw[zmV e,b];exact ih
theorem KV.length(r:KV kvs vs):kvs.length=vs.length:=Paired.length r
end
theorem ziS(r:RelV (kV k) u):(vo P w).is k u=true:=by
 cases k with
 |inl i=>obtain⟨t,e⟩:=(show ∃t,u=Value.int i t from r);subst e;exact zhv P w i t
 |inr x=>obtain⟨t,e⟩:=(show ∃t,u=Value.str x t from r);subst e;exact Vv P w x t
section
variable{P:Program}{w:World}{H:Hp}{h:Heap}{a:Addr}
theorem zrW(ok:HOk P w H h)(e:Rd H a u):vR P w H h a u:=e.ok ok
theorem zrQ(ok:HOk P w H h)(e:Rd H a (.dK kvs)):kvs.length<=sizeLine/\(a==sysModules)=false/\∃vs,KV kvs vs/\h.DictOf (vo P w) a vs:=
 show vR P w H h a (.dK kvs)from zrW ok e
end
section
variable{X:Cx}{pins:List (Addr×Obj)}{σ:St}{H:Hp}{s:Shared}{a:Addr}{y v:V}{u r:Value}{o:Option V}{A:Around}{E:Value->Shared->Prop}
theorem Inv.big(I:Inv X pins σ H s):sysModules<s.heap.objs.size:=by
 have h:mainGlobals<s.heap.objs.size:=(I.mod.glob.keeps I.bk).lt
 exact Nat.lt_trans (by decide) h
theorem zly(z:kvs.length<=sizeLine)(hd:(a==sysModules)=false)(rel:KV kvs vs)(dd:h'.DictOf (vo P w) a vs):
 vR P w H' h' a (.dK kvs):=⟨z,hd,vs,rel,dd⟩
end
structure M1(X:Cx)(o:Expr)(m:Str)(apos:Pos)(e:Expr)(cpos:Pos):Prop where
 base:attributeBase o m X.env (eval o X.env)=eval o X.env
 few:((backTo cpos (starEach [e] X.env)).all (λx=>!x.1)&&(backToKw cpos (keywordEach [] X.env)).all (λx=>x.1.isSome)
  && decide (([e]:List Expr).length+([]:List Keyword).length+(if([]:List Keyword).isEmpty then 0 else 1)<30))=true
 line:(apos.endLine==cpos.line)=true
 trees:backTo cpos (starEach [e] X.env)=[(false,eval e X.env)]
structure M2(X:Cx)(o:Expr)(m:Str)(apos:Pos)(e f:Expr)(cpos:Pos):Prop where
 base:attributeBase o m X.env (eval o X.env)=eval o X.env
 few:((backTo cpos (starEach [e,f] X.env)).all (λx=>!x.1)&&(backToKw cpos (keywordEach [] X.env)).all (λx=>x.1.isSome)
  && decide (([e,f]:List Expr).length+([]:List Keyword).length+(if([]:List Keyword).isEmpty then 0 else 1)<30))=true
 line:(apos.endLine==cpos.line)=true
 trees:backTo cpos (starEach [e,f] X.env)=[(false,eval e X.env),(false,eval f X.env)]
end L2
namespace HT
open PySem PyProof.Rows
section
variable{prog:Program}{w:World}{A:Around}{E:Value->Shared->Prop}{s:Shared}
theorem znB(ht:IsTup s.heap t vs.toArray)(hb:IsTup s.heap b ws.toArray)(hv:vs≠[])
 (h1:ws=[]->Q (.ref t) s) (h2:ws≠[]->Q (.ref s.heap.objs.size) {s with heap:=s.heap.push {cls:=.type "tuple",data:=.seq (vs++ws).toArray}})
 (hsz:vs.length+ws.length<=sizeLine):wpAny (model prog w) A (binaryOp .Add (.ref t) (.ref b)) Q E s:=by
 obtain⟨⟨cls,dd,data,sl⟩,ho,hc,n,hd⟩:=id ht
 obtain⟨⟨cls2,dd2,data2,sl2⟩,ho2,hc2,n2,hd2⟩:=id hb
 simp only at hc hd hc2 hd2
 subst hc hd hc2 hd2
 have e:vs.toArray++ws.toArray=(vs++ws).toArray:=by simp
 by_cases hw:ws=[]
 · exact concat_meets ⟨_,ho,rfl⟩ ⟨_,ho2,rfl⟩ noFill_tuple_add seq_tuple_add PySem.F.slot_tuple_add PySem.F.entry_tuple_add (PySem.F.args_tuple_add_2 _ _)
    (tuple_addW1 t b vs.toArray ws.toArray n n2 dd dd2 sl sl2 (by simpa using hv) (by simp[hw])) ⟨ho,ho2,h1 hw⟩
 · refine concat_meets ⟨_,ho,rfl⟩ ⟨_,ho2,rfl⟩ noFill_tuple_add seq_tuple_add PySem.F.slot_tuple_add PySem.F.entry_tuple_add (PySem.F.args_tuple_add_2 _ _)
    (tuple_addW2 t b vs.toArray ws.toArray n n2 dd dd2 sl sl2 (by simpa using hv) (by simpa using hw) (by rw[zzE,zzE];exact hsz)) ⟨ho,ho2, ?_⟩
   rw[e]
   exact h2 hw
def sIx(n d:Nat):Option Int->Nat
 |none=>d
 |some v=>if v<0 then(v+(n:Int)).toNat else min v.toNat n
theorem zmd(n d:Nat):sIx n d none=d:=rfl
theorem zoD(n d k:Nat):sIx n d (some (k:Int))=min k n:=by
 show(if(k:Int)<0 then((k:Int)+(n:Int)).toNat else min (k:Int).toNat n)=min k n
 rw[if_neg (by omega),zyF]
theorem zqn(n d:Nat)(hd:d<=n)(o:Option Int):sIx n d o<=n:=by
 cases o with
 |none=>exact hd
 |some v=>
  show(if v<0 then(v+(n:Int)).toNat else min v.toNat n)<=n
  by_cases hv:v<0
  · rw[if_pos hv];omega
  · rw[if_neg hv];exact Nat.min_le_right _ _
theorem zjF(v:Int)(n d:Nat):(if v<0 then max (v+(n:Int)) 0 else min v (n:Int))=((sIx n d (some v):Nat):Int):=by
 show(if v<0 then max (v+(n:Int)) 0 else min v (n:Int))=(((if v<0 then(v+(n:Int)).toNat else min v.toNat n):Nat):Int)
 by_cases hv:v<0
 · simp only[if_pos hv];omega
 · simp only[if_neg hv];omega
theorem zih(lo hi:Option Int)(n:Nat):Builtin.Slice.sliceAdjust lo hi 1 (n:Int)=(((sIx n 0 lo:Nat):Int),((sIx n n hi:Nat):Int)):=by
 have h1:¬((1:Int)<0):=by omega
 unfold Builtin.Slice.sliceAdjust
 simp only[h1,if_false]
 refine Prod.ext ?_ ?_
 · cases lo with
   |none=>rfl
   |some v=>exact zjF v n 0
 · cases hi with
   |none=>rfl
   |some v=>exact zjF v n n
theorem zhV(i j:Nat):Builtin.Slice.slicePlaces (i:Int) (j:Int) 1=j-i:=by
 unfold Builtin.Slice.slicePlaces
 have h1:(1:Int) > 0:=by omega
 simp only[h1,if_true,Int.ediv_one]
 split<;>omega
theorem zdE(p:IsPart v o)(h:Q o s):wpAny (model prog w) A (Builtin.Slice.slicePartIndex v) Q E s:=by
 cases p with
 |none=>exact slicePart_none h
 |int i t=>exact slicePart_int h
theorem zbY{sl:Addr}{vl vu:Value}{lo hi:Option Int}{n:Nat}{Q:Int×Int×Nat->Shared->Prop}(hs:s.heap.IsSliceOf sl vl vu .none)(pl:IsPart vl lo)(pu:IsPart vu hi)
 (h:Q (((sIx n 0 lo:Nat):Int),1,sIx n n hi-sIx n 0 lo) s):wpAny (model prog w) A (Builtin.Slice.sliceApplied (.ref sl) (pure (n:Int))) Q E s:=by
 obtain⟨os,hos,hcs,hds⟩:=id hs
 unfold Builtin.Slice.sliceApplied Builtin.Slice.sliceFields
 refine zxD (zxD (wpAny_field hos hds (x:=vl) rfl (zxD (wpAny_field hos hds (x:=vu) rfl (zxD (wpAny_field hos hds (x:=.none) rfl (zxE ?_)))))))
 refine zxD (slicePart_none ?_)
 show wpAny _ _ (if((1:Int)==0)=true then _ else _) _ _ s
 rw[if_neg (by decide)]
 refine zxD (zdE pl (zxD (zdE pu (zxD (zxE ?_)))))
 show wpAny _ _ (match Builtin.Slice.sliceAdjust lo hi 1 (n:Int)with|(lo,hi)=>pure (lo,(1:Int),Builtin.Slice.slicePlaces lo hi 1)) _ _ s
 rw[zih lo hi n]
 show wpAny _ _ (pure (((sIx n 0 lo:Nat):Int),(1:Int),Builtin.Slice.slicePlaces ((sIx n 0 lo:Nat):Int) ((sIx n n hi:Nat):Int) 1)) _ _ s
 rw[zhV]
 exact zxE h
theorem znr(xs:Array Value)(i k:Nat):((List.range k).filterMap λ(m:Nat)=>xs[((i:Int)+(m:Int)*1).toNat]?).toArray=((xs.toList.drop i).take k).toArray:=by
 have e:(λ(m:Nat)=>xs[((i:Int)+(m:Int)*1).toNat]?)=λm=>xs[i+m]? := by
  funext m
  have:((i:Int)+(m:Int)*1).toNat=i+m:=by omega
  rw[this]
 rw[e]
 have:=pick_run xs i k
 rw[List.filterMap_map]at this
 have e2:((λx=>xs[x]?)∘λx=>i+x)=λm=>xs[i+m]? := rfl
 rw[e2]at this
 rw[this]
theorem zbG{t sl:Addr}{items:Array Value}{vl vu:Value}{lo hi:Option Int}{Q:Value->Shared->Prop}(ht:IsTup s.heap t items)(hs:s.heap.IsSliceOf sl vl vu .none)(pl:IsPart vl lo)(pu:IsPart vu hi)
 (hw:¬(sIx items.size 0 lo=0/\sIx items.size items.size hi=items.size))
 (h:Q (.ref s.heap.objs.size) {s with heap:=s.heap.push {cls:=.type "tuple",data:=.seq ((items.toList.drop (sIx items.size 0 lo)).take (sIx items.size items.size hi-sIx items.size 0 lo)).toArray}})
 (hsz:items.size<=sizeLine):wpAny (model prog w) A (getItem (.ref t) (.ref sl)) Q E s:=by
 have htake:sizeOk (.seq ((items.toList.drop (sIx items.size 0 lo)).take (sIx items.size items.size hi-sIx items.size 0 lo)).toArray):=by
  show((items.toList.drop (sIx items.size 0 lo)).take (sIx items.size items.size hi-sIx items.size 0 lo)).toArray.size<=sizeLine
  rw[zzE,zzP,List.length_drop,zyQ]
  omega
 have hj:sIx items.size items.size hi<=items.size:=zqn _ _ (zzK _) hi
 obtain⟨os,hos,hcs,hds⟩:=id hs
 have hTs:s.TypeIs (.ref sl) "slice":=⟨os,hos,hcs⟩
 unfold getItem
 try with_reducible refine zxK ?_
 first|refine zxD (zxE ?_)|skip
 refine zxD (wpAny_sequenceKey ht.typeIs (by decide) ?_)
 refine zxD (wpAny_callSpecial?_slot (name:=Str.ofString "__getitem__") ht.typeIs PyProof.Rows.slot_tuple_getitem
  (wpAny_call_entry PyProof.Rows.slot_tuple_getitem ht.typeIs entry_tuple_getitem ?_ (args_tuple_getitem _ _)))
 show wpAny _ _ (Builtin.Tuple.tupleItemsOf (.ref t) >>= _) _ _ s
 refine zxD (tupleItemsOf_ ht ?_)
 refine zxD (wpAny_typeOf hTs ?_)
 rw[if_pos (by decide)]
 refine zxD (zbY hs pl pu ?_)
 have hno:¬((((sIx items.size 0 lo:Nat):Int)==0&&(1:Int)==1&&(sIx items.size items.size hi-sIx items.size 0 lo)==items.size)=true):=by
  intro q
  rw[zzZ,zzZ]at q
  have q1:((sIx items.size 0 lo:Nat):Int)=0:=eq_of_beq q.1.1
  have q2:sIx items.size items.size hi-sIx items.size 0 lo=items.size:=eq_of_beq q.2
  exact hw ⟨by omega,by omega⟩
 show wpAny _ _ (if(((sIx items.size 0 lo:Nat):Int)==0&&(1:Int)==1&&(sIx items.size items.size hi-sIx items.size 0 lo)==items.size)=true then _ else _) _ _ s
 rw[if_neg hno,znr]
 first
  |exact zxD (m:=Builtin.Tuple.tupleExact _) (zxI (zxE ⟨_,rfl,zxE h⟩) htake)
  |exact zxD (m:=Builtin.Tuple.tupleExact _) (zxI (zxD (zxE (zxE ⟨_,rfl,zxE h⟩))) htake)
  |exact zxD (zxD (m:=Builtin.Tuple.tupleExact _) (zxI (zxE (zxE ⟨_,rfl,zxE h⟩)) htake))
  |exact zxD (zxD (m:=Builtin.Tuple.tupleExact _) (zxI (zxE ⟨_,rfl,zxE h⟩) htake))
end
end HT
namespace L2
open PySem PySem.Spec PyProof.Rows
abbrev TO:=St->Hp->(Option Int->Hp->Prop)->Prop
def PO(X:Cx)(e:Option Expr)(t:TO):Prop:=
 ∀(pins:List (Addr×Obj)) (s:Shared) (σ:St) (H:Hp) (Q:Option Int->Hp->Prop),Inv X pins σ H s->t σ H Q->
  wpAny (model X.prog X.w) X.A (evalPart e X.env) (λu s'=>∃o H',Inv X pins σ H' s'/\IsPart u o/\Q o H') X.xe s
def zoe:TO:=λ_ H Q=>Q none H
def zrG(t:TE):TO:=λσ H Q=>t σ H λx H1=>∃i,x = .int i/\Q (some i) H1
theorem intsAre_of:∀{us:List Value},Vals (ns.map V.int) us->IntsAre us ns:=by
 induction ns with
 |nil=>intro us r;rw[List.map_nil]at r;cases r;exact .nil
 |cons n ns ih=>
  intro us r
  rw[zyP]at r
  cases r with
  |cons r1 r2=>
   obtain⟨t,e⟩:=r1
   subst e
   exact .cons n t (ih r2)
section
variable{X:Cx}{e:Expr}{te:TE}{lo hi:Option Expr}{tl th:TO}{pos p2:Pos}
theorem zoJ:PO X none zoe:=by
 intro pins s σ H Q I h
 rw[evalPart_none]
 exact zxE ⟨none,H,I,.none,h⟩
theorem znN(h:PE X e te):PO X (some e) (zrG te):=by
 intro pins s σ H Q I hw
 rw[evalPart_some]
 refine thn (h pins s σ H _ I hw) λu s1 ⟨x,H1,I1,r1,q1⟩=>?_
 obtain⟨i,rfl,q⟩:=q1
 obtain⟨t,rfl⟩:=r1
 exact⟨some i,H1,I1,.int i t,q⟩
def SlR(X:Cx)(r:V->Option Int->Option Int->Hp->VK->Prop):Prop:=
 ∀(pins:List (Addr×Obj)) (s:Shared) (σ:St) (H:Hp) (x:V) (v vl vu:Value) (lo hi:Option Int) (sl:Addr) (Q:VK),Inv X pins σ H s->RelV x v->s.heap.IsSliceOf sl vl vu .none->IsPart vl lo->IsPart vu hi->r x lo hi H Q->
  ∃T id,typeLookup (.type T) "__getitem__"=pure (some (.builtin id))/\s.TypeIs v T/\wpAny (model X.prog X.w) X.A (getItem v (.ref sl)) (EP X pins σ Q) X.xe s
def tSl(r:V->Option Int->Option Int->Hp->VK->Prop)(te:TE)(tl th:TO):TE:=λσ H Q=>te σ H λx H1=>tl σ H1 λl H2=>th σ H2 λu H3=>r x l u H3 Q
theorem zlG(hr:SlR X r)(he:PE X e te)(hl:PO X lo tl)(hu:PO X hi th):PE X (.Subscript e (.Slice lo hi none p2) pos) (tSl r te tl th):=by
 intro pins s σ H Q I h
 refine Subscript_ (thn (he pins s σ H _ I h) λv s1 ⟨x,H1,I1,r1,q1⟩=>?_)
 refine wpAny_Slice (thn (hl pins s1 σ H1 _ I1 q1) λvl s2 ⟨l,H2,I2,pl,q2⟩=>thn (hu pins s2 σ H2 _ I2 q2) λvu s3 ⟨u,H3,I3,pu,q3⟩=>?_)
 rw[evalPart_none]
 refine zxE ?_
 have I4:Inv X pins σ H3 {s3 with heap:=s3.heap.push {cls:=.type "slice",data:=.fields #[vl,vu,.none]}}:=I3.kept (t':=s3.toks) λb ob q=>zxF _ q
 obtain⟨T,id,hT,ht,hg⟩:=hr pins {s3 with heap:=s3.heap.push {cls:=.type "slice",data:=.fields #[vl,vu,.none]}} σ H3 x v vl vu l u s3.heap.objs.size Q I4 r1 (Heap.IsSliceOf.new ..) pl pu q3
 show wpAny (model X.prog X.w) X.A (subscriptTail e (.Slice lo hi none p2) v (.ref s3.heap.objs.size)) (EP X pins σ Q) X.xe {s3 with heap:=s3.heap.push {cls:=.type "slice",data:=.fields #[vl,vu,.none]}}
 exact tail_any (ops:=[.ref s3.heap.objs.size,v]) ht hT hg (by with_unfolding_all rfl)
def zgR(xs:List V)(lo hi:Option Int):List V:=(xs.drop (HT.sIx xs.length 0 lo)).take (HT.sIx xs.length xs.length hi-HT.sIx xs.length 0 lo)
theorem zcM(xs:List V)(lo hi:Option Int):(zgR xs lo hi).length<=xs.length:=by
 unfold zgR
 rw[zzP,List.length_drop]
 omega
def ztg(K:zC):V->Option Int->Option Int->Hp->VK->Prop:=λx lo hi H Q=>∃a xs,x = .ref a/\SqT K H a xs/\
 ¬(HT.sIx xs.length 0 lo=0/\HT.sIx xs.length xs.length hi=xs.length)/\∀p,H p=none->Q (.ref p) (upd H p (.tup (zgR xs lo hi)))
theorem zqZ:SlR X (ztg X.K):=by
 intro pins s σ H x v vl vu lo hi sl Q I rx hs pl pu h
 obtain⟨a,xs,rfl,hx,hw,q⟩:=h
 cases rx
 obtain⟨its,r,ht,hz⟩:=I.tuple hx
 have hlen:its.toArray.size=xs.length:=by rw[zzE];exact r.length.symm
 refine⟨"tuple",_,PyProof.Rows.slot_tuple_getitem.lookup,ht.typeIs, ?_⟩
 refine HT.zbG ht hs pl pu (by rw[hlen];exact hw) ?_ (by rw[hlen];exact hz)
 rw[hlen]
 refine⟨.ref s.heap.objs.size,_,I.laid (t':=s.toks) (o:=.tup (zgR xs lo hi)) (λb ob q=>zxF _ q) (zzK _) ?_,rfl,q _ (I.hok.fresh (zzK _))⟩
 exact⟨zzL (zcM xs lo hi) hz,_,(r.drop (HT.sIx xs.length 0 lo)).take (HT.sIx xs.length xs.length hi-HT.sIx xs.length 0 lo),IsTup.new _ _⟩
def zsc(K:zC):R2:=λx y H Q=>∃a b xs ys,x = .ref a/\y = .ref b/\SqT K H a xs/\SqT K H b ys/\xs≠[]/\xs.length+ys.length<=sizeLine/\
 (ys=[]->Q (.ref a) H)/\(ys≠[]->∀p,H p=none->Q (.ref p) (upd H p (.tup (xs++ys))))
theorem Vals.nil_iff(r:Vals xs us):us=[] ↔ xs=[]:=by
 cases r with
 |nil=>simp
 |cons _ _=>simp
theorem zoE:OpR X (binaryOp .Add) (zsc X.K):=by
 intro pins s σ H x y v u Q I rx ry h
 obtain⟨a,b,xs,ys,rfl,rfl,ha,hb,hx,hz,q1,q2⟩:=h
 cases rx
 cases ry
 obtain⟨its,r1,p1,_⟩:=I.tuple ha
 obtain⟨its2,r2,p2,_⟩:=I.tuple hb
 refine HT.znB p1 p2 (λz=>hx (r1.nil_iff.mp z)) (λz=>⟨.ref a,H,I,rfl,q1 (r2.nil_iff.mp z)⟩) (λz=>?_) (by rw[<-r1.length,<-r2.length];exact hz)
 refine⟨.ref s.heap.objs.size,_,I.laid (t':=s.toks) (o:=.tup (xs++ys)) (λb ob q=>zxF _ q) (zzK _) ?_,rfl,q2 (λw=>z (r2.nil_iff.mpr w)) _ (I.hok.fresh (zzK _))⟩
 exact⟨by rw[zzG];exact hz,_,r1.append r2,IsTup.new _ _⟩
end
end L2
namespace L2
open PySem PySem.Spec PyProof.Rows
def ixN(n:Nat)(i:Int):Option Nat:=if 0<=i then(if i<n then some i.toNat else none)else if -(n:Int)<=i then some (i+n).toNat else none
def atI{α:Type}(xs:List α)(i:Int):Option α:=(ixN xs.length i).bind λj=>xs[j]?
theorem zjL(h:ixN n i=some j):seqIndex? i n=some j/\j<n /\ -(n:Int)<=i/\i<n:=by
 unfold ixN at h
 by_cases h0:0<=i
 · rw[if_pos h0]at h
   by_cases h1:i<n
   · rw[if_pos h1]at h
     have e:i.toNat=j:=zzW h
     exact⟨by rw[seqIndex_of h0 h1,e],by omega,by omega,h1⟩
   · rw[if_neg h1]at h;cases h
 · rw[if_neg h0]at h
   by_cases h1 : -(n:Int)<=i
   · rw[if_pos h1]at h
     have e:(i+n).toNat=j:=zzW h
     exact⟨by rw[seqIndex_neg (by omega) h1,e],by omega,h1,by omega⟩
   · rw[if_neg h1]at h;cases h
theorem zfO(h:atI xs i=some v):∃j,seqIndex? i xs.length=some j/\xs[j]? = some v/\j<xs.length /\ -(xs.length:Int)<=i/\i<xs.length:=by
 unfold atI at h
 cases e:ixN xs.length i with
 |none=>rw[e]at h;cases h
 |some j=>
  rw[e]at h
  obtain⟨h1,h2,h3,h4⟩:=zjL e
  exact⟨j,h1,h,h2,h3,h4⟩
theorem Wy{α:Type}{xs:List α}{j:Nat}{v:α}(h:xs[j]? = some v):atI xs (j:Int)=some v:=by
 have hj:j<xs.length:=(zzD.mp h).1
 have e:ixN xs.length (j:Int)=some j:=by
  unfold ixN
  rw[if_pos (by omega),if_pos (by omega)];simp
 unfold atI;rw[e];exact h
def Y6(b:Expr):Prop:=∀o i,subscripted b false o i=operate [o,i] (getItem o i)
def IxR(X:Cx)(r:R2):Prop:=
 ∀(value slice:Expr) (pins:List (Addr×Obj)) (s:Shared) (σ:St) (H:Hp) (x y:V) (v u:Value) (Q:VK),Inv X pins σ H s->RelV x v->RelV y u->r x y H Q->
  subscripted slice false v u=operate [v,u] (getItem v u)->wpAny (model X.prog X.w) X.A (subscriptTail value slice v u) (EP X pins σ Q) X.xe s
def MtR(X:Cx)(id:String)(r:V->List V->Hp->VK->Prop):Prop:=
 ∀(pins:List (Addr×Obj)) (s:Shared) (σ:St) (H:Hp) (x:V) (xs:List V) (v:Value) (us:List Value) (Q:VK),Inv X pins σ H s->RelV x v->Vals xs us->r x xs H Q->
  wpAny (model X.prog X.w) X.A (call (.builtin id) (v::us)) (EP X pins σ Q) X.xe s
section
variable{X:Cx}{a b:Expr}{ta tb:TE}{pos:Pos}
theorem zfe(hr:IxR X r)(ha:PE X a ta)(hb:PE X b tb)(hs:Y6 b):PE X (.Subscript a b pos) (tOp r ta tb):=by
 intro pins s σ H Q I h
 exact Subscript_ (zpO ha hb I h λv u s2 x y H2 I2 rx ry q=>hr a b pins s2 σ H2 x y v u Q I2 rx ry q (hs _ _))
def zsF(K:zC):R2:=λx y H Q=>∃p xs i v,x = .ref p/\y = .int i/\SqL K H p xs/\atI xs i=some v/\Q v H
def zsG(K:zC):R2:=λx y H Q=>∃p xs i v,x = .ref p/\y = .int i/\SqT K H p xs/\atI xs i=some v/\Q v H
def ztr:R2:=λx y H Q=>∃z i c,x = .str z/\y = .int i/\z.length<=sizeLine/\atI z.cps.toList i=some c/\Q (.str ⟨#[c]⟩) H
theorem zby:IxR X (zsF X.K):=by
 intro value slice pins s σ H x y v u Q I rx ry h hs
 obtain⟨p,xs,i,z,rfl,rfl,hq,he,q⟩:=h
 cases rx
 obtain⟨t,rfl⟩:=ry
 obtain⟨its,r,pl,hz⟩:=I.list hq
 obtain⟨j,h1,h2,h3,h4,h5⟩:=zfO he
 obtain⟨w,ew,rw'⟩:=r.get h2
 have hl:=r.length
 have hn:=zaQ
 have fin:EP X pins σ Q w s:=⟨z,H,I,rw',q⟩
 by_cases h0:0<=i
 · have hj:i.toNat=j:=by
    rw[seqIndex_of h0 h5]at h1
    exact zzW h1
   exact item_listR pl.isList h0 (by omega) (by rw[hj];simpa using ew) fin hs
 · have hj:(i+(its.toArray.size:Int)).toNat=j:=by
    rw[seqIndex_neg (by omega) h4]at h1
    rw[zzE,<-hl]
    exact zzW h1
   exact subscriptTail_builtinR (x:=w) pl.isList.typeIs slot_list_getitem.lookup
    (wpAny_getItem_list_neg (Q:=λr s'=>r=w/\EP X pins σ Q r s') pl.isList (by omega) (by rw[zzE]<;>omega) (by omega) (by rw[hj];simpa using ew) ⟨rfl,fin⟩) hs
theorem zkL:IxR X (zsG X.K):=by
 intro value slice pins s σ H x y v u Q I rx ry h hs
 obtain⟨p,xs,i,z,rfl,rfl,hq,he,q⟩:=h
 cases rx
 obtain⟨t,rfl⟩:=ry
 obtain⟨its,r,pl,hz⟩:=I.tuple hq
 obtain⟨j,h1,h2,h3,h4,h5⟩:=zfO he
 obtain⟨w,ew,rw'⟩:=r.get h2
 have hl:=r.length
 have hn:=zaQ
 have fin:EP X pins σ Q w s:=⟨z,H,I,rw',q⟩
 exact subscriptTail_builtinR (x:=w) pl.typeIs slot_tuple_getitem.lookup
  (getItem_tuple (j:=j) (Q:=λr s'=>r=w/\EP X pins σ Q r s') pl (by omega) (by omega) (by rw[zzE,<-hl];exact h1) (by simpa using ew) ⟨rfl,fin⟩) hs
theorem zro:IxR X ztr:=by
 intro value slice pins s σ H x y v u Q I rx ry h hs
 obtain⟨z,i,c,rfl,rfl,hz,he,q⟩:=h
 obtain⟨t,rfl⟩:=rx
 obtain⟨t',rfl⟩:=ry
 obtain⟨j,h1,h2,h3,h4,h5⟩:=zfO he
 have hl:z.cps.toList.length=z.length:=by simp[Str.length]
 rw[hl]at h1 h4 h5
 have hn:=zaQ
 exact tail_any (typeIs_str s z t) slot_str_getitem.lookup (getItem_str (c:=c) (by
  have e1:decide (i < -(2 ^ 63:Int))=false:=zyD (by omega)
  have e2:decide (i ≥ 2 ^ 63)=false:=zyD (by omega)
  rw[e1,e2,Bool.or_false]) (by rw[h1];simpa using h2) ⟨.str ⟨#[c]⟩,H,I.tok _,⟨_,rfl⟩,q⟩) hs
theorem zhI(its:List Value)(n j:Nat)(u:Value):Obj.mapSeq (·.setIfInBounds j u) {cls:=.type "list",data:=.seq its.toArray n}={cls:=.type "list",data:=.seq (its.set j u).toArray n}:=by
 simp[Obj.mapSeq]
theorem Inv.lst(I:Inv X pins σ H s)(h:H p=some (.lst xs)):
 ∃(its:List Value) (n:Nat),Vals xs its/\s.heap.get? p=some {cls:=.type "list",data:=.seq its.toArray n}/\xs.length<=sizeLine:=by
 obtain⟨z,its,n,r,e⟩:=I.hok p _ h
 exact⟨its,n,r,e,z⟩
theorem Inv.lstUpd{pins:List (Addr×Obj)}{σ:St}{H:Hp}{s:Shared}{p:Addr}{xs ys:List V}{its its':List Value}{n n':Nat}{f:Obj->Obj}(I:Inv X pins σ H s)(h:H p=some (.lst xs))
 (ho:s.heap.get? p=some {cls:=.type "list",data:=.seq its.toArray n}) (hf:f {cls:=.type "list",data:=.seq its.toArray n}={cls:=.type "list",data:=.seq its'.toArray n'}) (r:Vals ys its') (hz:ys.length<=sizeLine) (t:Nat):
 Inv X pins σ (upd H p (.lst ys)) {s with heap:=s.heap.update p f,toks:=t}:=by
 have e:(s.heap.update p f).get? p=some {cls:=.type "list",data:=.seq its'.toArray n'}:=by
  rw[zxP f ho (by rw[hf]<;>rfl),hf]
 refine I.write (x:=p) (e:=p) (by rw[h];trivial) (.inl rfl) (λb u hb q=>(zxL _ _ (Ne.symm hb)).trans q) ⟨_,e⟩ ?_
 exact⟨hz,its',n',r,e⟩
def zrV:V->V->V->Hp->(Hp->Prop)->Prop:=λo i v H Q=>∃p xs k j,o = .ref p/\i = .int k/\H p=some (.lst xs)/\ixN xs.length k=some j/\Q (upd H p (.lst (xs.set j v)))
theorem set_list:zss X zrV:=by
 intro pins s σ H o i v ov iv u Q I ro ri rv h
 obtain⟨p,xs,k,j,rfl,rfl,hp,hj,q⟩:=h
 cases ro
 obtain⟨t,rfl⟩:=ri
 obtain⟨its,n,r,ho,hz⟩:=I.lst hp
 obtain⟨h1,h2,h3,h4⟩:=zjL hj
 have hl:=r.length
 have hn:=zaQ
 have I':Inv X pins σ (upd H p (.lst (xs.set j v))) {s with heap:=s.heap.update p (Obj.mapSeq (·.setIfInBounds j u))}:=
  I.lstUpd hp ho (zhI its n j u) (r.set rv j) (by rw[zzR];exact hz) s.toks
 by_cases h0:0<=k
 · have hk:k.toNat=j:=by
    rw[seqIndex_of h0 h4]at h1
    exact zzW h1
   exact PySem.W.ki_setAt ho h0 (by omega) (by rw[zzE,<-hl];exact h4) (by rw[hk];exact⟨_,I',q⟩)
 · have hk:(k+(its.toArray.size:Int)).toNat=j:=by
    rw[seqIndex_neg (by omega) h3]at h1
    rw[zzE,<-hl]
    exact zzW h1
   exact PySem.W.ki_setBack ho (by omega) (by rw[zzE,<-hl];exact h3) (by omega) (by rw[hk];exact⟨_,I',q⟩)
theorem zfH(lo hi:Option Int)(n:Nat):(sliceBounds lo hi none n).1=((HT.sIx n 0 lo:Nat):Int)/\(sliceBounds lo hi none n).2.1=((HT.sIx n n hi:Nat):Int)/\(sliceBounds lo hi none n).2.2=1:=by
 refine⟨?_, ?_,rfl⟩
 · cases lo with
   |none=>simp[sliceBounds,HT.sIx]
   |some i=>
    simp only[sliceBounds,HT.sIx,Option.getD_none,show(1:Int) > 0 by decide,if_true]
    by_cases h:i<0
    · simp only[h,if_true]<;>omega
    · simp only[h,if_false]<;>omega
 · cases hi with
   |none=>simp[sliceBounds,HT.sIx]
   |some i=>
    simp only[sliceBounds,HT.sIx,Option.getD_none,show(1:Int) > 0 by decide,if_true]
    by_cases h:i<0
    · simp only[h,if_true]<;>omega
    · simp only[h,if_false]<;>omega
theorem zeE(its:List Value)(lo hi:Option Int):slicePick its.toArray lo hi none=((its.drop (HT.sIx its.length 0 lo)).take (HT.sIx its.length its.length hi-HT.sIx its.length 0 lo)).toArray:=by
 obtain⟨h1,h2,h3⟩:=zfH lo hi its.toArray.size
 unfold slicePick
 rw[h1,h2,h3]
 simp only[sliceRange_one,pick_run,zzE]<;>rfl
def ztt(K:zC):V->Option Int->Option Int->Hp->VK->Prop:=λx lo hi H Q=>∃a xs,x = .ref a/\SqL K H a xs/\∀p,H p=none->Q (.ref p) (upd H p (.lst (zgR xs lo hi)))
theorem zoF:SlR X (ztt X.K):=by
 intro pins s σ H x v vl vu lo hi sl Q I rx hs pl pu h
 obtain⟨a,xs,rfl,hx,q⟩:=h
 cases rx
 obtain⟨its,r,ht,hz⟩:=I.list hx
 have hlen:=r.length
 refine⟨"list",_,slot_list_getitem.lookup,ht.isList.typeIs, ?_⟩
 refine wpAny_getItem_list_slice ht.isList hs pl pu .none (by simp) ?_ (by rw[zzE]<;>omega)
 rw[zeE,<-hlen]
 refine⟨.ref s.heap.objs.size,_,I.laid (t':=s.toks) (o:=.lst (zgR xs lo hi)) (λb ob q=>zxF _ q) (zzK _) ?_,rfl,q _ (I.hok.fresh (zzK _))⟩
 exact⟨zzL (zcM xs lo hi) hz,_,0,(r.drop (HT.sIx xs.length 0 lo)).take (HT.sIx xs.length xs.length hi-HT.sIx xs.length 0 lo),zxH _ rfl⟩
theorem Ww:VN X (.builtin "len") (λxs H Q=>∃p ys,xs=[.ref p]/\(SqL X.K H p ys\/SqT X.K H p ys)/\Q (.int ys.length) H):=by
 intro pins s σ H xs us Q I r h
 obtain⟨p,ys,rfl,hq,q⟩:=h
 obtain⟨u,rfl,rx⟩:=vals1 r
 cases rx
 have hn:=zaQ
 rcases hq with hq|hq
 · obtain⟨its,r',pl,hz⟩:=I.list hq
   have hlen:=r'.length
   exact Calls.call_len_list pl.isList (by simp only[zzE]<;>omega) ⟨.int ys.length,H,I.tok _,⟨s.toks+1,by rw[zzE,hlen]⟩,q⟩
 · obtain⟨its,r',pl,hz⟩:=I.tuple hq
   have hlen:=r'.length
   exact len_tuple pl (by simp only[zzE]<;>omega) ⟨.int ys.length,H,I.tok _,⟨s.toks+1,by rw[zzE,hlen]⟩,q⟩
theorem zgg:VN X (.builtin "len") (λxs H Q=>∃z,xs=[.str z]/\z.length<=sizeLine/\Q (.int z.length) H):=by
 intro pins s σ H xs us Q I r h
 obtain⟨z,rfl,hz,q⟩:=h
 obtain⟨u,rfl,t,rfl⟩:=vals1 r
 have hn:=zaQ
 exact len_str (by omega) ⟨.int z.length,H,I.tok _,⟨_,rfl⟩,q⟩
theorem zbj:VN X (.type "list") (λxs H Q=>∃p ys,xs=[.ref p]/\(SqL X.K H p ys\/SqT X.K H p ys)/\∀l,H l=none->Q (.ref l) (upd H l (.lst ys))):=by
 intro pins s σ H xs us Q I r h
 obtain⟨p,ys,rfl,hq,q⟩:=h
 obtain⟨u,rfl,rx⟩:=vals1 r
 cases rx
 have fin:∀(its:List Value),Vals ys its->ys.length<=sizeLine->∀(h':Heap) (c':Nat),(∀b o',s.heap.get? b=some o'->h'.get? b=some o')->
  h'.get? s.heap.objs.size=some {cls:=.type "list",dict:=none,data:=.seq its.toArray c',slots:=#[]}->EP X pins σ Q (.ref s.heap.objs.size) {s with heap:=h'}:=λits r' hz h' c' kp e=>
  ⟨.ref s.heap.objs.size,_,I.laid (t':=s.toks) kp (zzK _) (show vR X.prog X.w _ h' _ (.lst ys)from⟨hz,its,c',r',e⟩),rfl,q _ (I.hok.fresh (zzK _))⟩
 rcases hq with hq|hq
 · obtain⟨its,r',pl,hz⟩:=I.list hq
   have hlen:=r'.length
   obtain⟨o,ho,hc,n,hd⟩:=pl.isList
   exact call_list_seq p (.inl rfl) ho hc hd (λh' c' kp e=>fin its r' hz h' c' kp e) (by simp only[zzE]<;>omega)
 · obtain⟨its,r',pl,hz⟩:=I.tuple hq
   have hlen:=r'.length
   obtain⟨o,ho,hc,n,hd⟩:=pl
   exact call_list_seq p (.inr rfl) ho hc hd (λh' c' kp e=>fin its r' hz h' c' kp e) (by simp only[zzE]<;>omega)
theorem zaM:VN X (.type "tuple") (λxs H Q=>∃p ys,xs=[.ref p]/\((SqL X.K H p ys/\∀l,H l=none->Q (.ref l) (upd H l (.tup ys)))\/(SqT X.K H p ys/\Q (.ref p) H))):=by
 intro pins s σ H xs us Q I r h
 obtain⟨p,ys,rfl,h⟩:=h
 obtain⟨u,rfl,rx⟩:=vals1 r
 cases rx
 rcases h with⟨hq,q⟩|⟨hq,q⟩
 · obtain⟨its,r',pl,hz⟩:=I.list hq
   have hlen:=r'.length
   refine call_tuple_list pl.isList (λh' kp=>?_) (by simp only[zzE]<;>omega)
   have I1:Inv X pins σ H {s with heap:=h'}:=I.kept (t':=s.toks) kp
   have I2:Inv X pins σ (upd H h'.objs.size (.tup ys)) {s with heap:=h'.push {cls:=.type "tuple",data:=.seq its.toArray}}:=
    I1.laid (t':=s.toks) (λb o e=>zxF _ e) (zzK _) (show vR X.prog X.w _ _ _ (.tup ys)from⟨hz,its,r',IsTup.new _ _⟩)
   exact⟨.ref h'.objs.size,_,I2,rfl,q _ (I1.hok.fresh (zzK _))⟩
 · obtain⟨its,r',pl,hz⟩:=I.tuple hq
   exact call_tuple_same pl ⟨.ref p,H,I,rfl,q⟩
def tyV(K:zC)(T:String)(x:V)(H:Hp):Prop:=match x with
 | .str _=>T="str"
 | .int _=>T="int"
 | .ref p=>(T="list"/\∃xs,SqL K H p xs)\/(T="tuple"/\∃o,K.lookup p=some o/\o.cls = .type "tuple"/\o.dict=none) \/
  (T="dict"/\((∃kvs,H p=some (.dK kvs))\/∃kvs,H p=some (.dT kvs)))\/(T="set"/\∃S n,H p=some (.set S n))
 |_=>False
theorem zpR(I:Inv X pins σ H s)(r:RelV x v)(ty:tyV X.K T x H):
 s.TypeIs v T/\∀a,v = .ref a->∃ob,s.heap.get? a=some ob/\ob.dict=none:=by
 cases x with
 |str z=>
  obtain⟨t,rfl⟩:=r
  cases(show T="str" from ty)
  exact⟨typeIs_str s z t,λ_ e=>nomatch e⟩
 |int i=>
  obtain⟨t,rfl⟩:=r
  cases(show T="int" from ty)
  exact⟨typeIs_int s i t,λ_ e=>nomatch e⟩
 |ref p=>
  cases r
  rcases ty with⟨rfl,xs,hq⟩|⟨rfl,o,hk,hc,hd⟩|⟨rfl,hk⟩|⟨rfl,S,n,hk⟩
  · obtain⟨its,_,pl,_⟩:=I.list hq
    refine⟨pl.isList.typeIs,λa e=>?_⟩
    cases e
    obtain⟨o,n,e,c,hd,_⟩:=pl
    exact⟨o,e,hd⟩
  · refine⟨⟨o,I.kIn p o hk,hc⟩,λa e=>?_⟩
    cases e
    exact⟨o,I.kIn _ o hk,hd⟩
  · have z:∃o,s.heap.get? p=some o/\o.ExactDict:=by
     rcases hk with⟨kvs,hk⟩|⟨kvs,hk⟩
     · obtain⟨_,_,_,_,o,_,_,e,ex,_⟩:=I.hok p _ hk
       exact⟨o,e,ex⟩
     · obtain⟨_,_,_,_,o,_,_,e,ex,_⟩:=I.hok p _ hk
       exact⟨o,e,ex⟩
    obtain⟨o,e,ex⟩:=z
    refine⟨⟨o,e,ex.1⟩,λa e2=>?_⟩
    cases e2
    exact⟨o,e,ex.2.1⟩
  · obtain⟨o,_,_,_,e,ex,_⟩:=I.hok p _ hk
    refine⟨⟨o,e,ex.1⟩,λa e2=>?_⟩
    cases e2
    exact⟨o,e,ex.2.1⟩
 |_=>exact False.elim ty
def tBM(K:zC)(T:String)(r:V->List V->Hp->VK->Prop)(to:TE)(t:TA):TE:=λσ H Q=>to σ H λx H1=>tyV K T x H1/\t σ H1 λxs H2=>r x xs H2 Q
variable{o e:Expr}{es:List Expr}{to:TE}{t:TA}{name:Str}{apos cpos:Pos}{T id:String}{r:V->List V->Hp->VK->Prop}
theorem zrx(pa:PlainAttrs T)(slot:Slot T name id)(hty:typeOf (.builtin id)=pure (.type "method_descriptor"))(hm:MtR X id r)(ho:PE X o to)(ha:PA X (e::es) t)
 (hbase:attributeBase o name X.env (eval o X.env)=eval o X.env:=by rfl)
 (hfew:((backTo cpos (starEach (e::es) X.env)).all (λx=>!x.1)&&(backToKw cpos (keywordEach [] X.env)).all (λx=>x.1.isSome)
  && decide ((e::es).length+([]:List Keyword).length+(if([]:List Keyword).isEmpty then 0 else 1)<30))=true:=by rfl)
 (hline:(apos.endLine==cpos.line)=true:=by rfl) (hs:starEach (e::es) X.env=(false,eval e X.env)::starEach es X.env:=by rfl) (hplain:(backTo cpos (starEach es X.env)).any (·.1)=false:=by rfl):
 PE X (.Call (.Attribute o name apos) (e::es) [] cpos) (tBM X.K T r to t):=by
 intro pins s σ H Q I h
 refine wpAny_Call_method_late hbase hfew hline rfl (thn (ho pins s σ H _ I h) λv s1 ⟨x,H1,I1,r1,ty,q1⟩=>?_)
 obtain⟨h1,h2⟩:=zpR I1 r1 ty
 refine⟨T,id,pa,slot,hty,h1,h2, ?_⟩
 have hA:=ha cpos pins s1 σ H1 _ I1 q1
 rw[hs]at hA ⊢
 refine Calls.callWith_builtin (by show(false||(backTo cpos (starEach es X.env)).any (·.1))=false;rw[hplain]<;>rfl) (Calls.evalArgs_plain ?_)
 exact thn hA λus s2 ⟨vs,H2,I2,r2,q2⟩=>hm pins s2 σ H2 x vs v us Q I2 r1 r2 q2
end
end L2
namespace L2
open PySem PySem.Spec PyProof.Rows
def MtM(X:Cx)(id:String)(r:V->List V->Hp->VK->Prop):Prop:=
 ∀(pins:List (Addr×Obj)) (s:Shared) (σ:St) (H:Hp) (x:V) (xs:List V) (v:Value) (us:List Value) (Q:VK),Inv X pins σ H s->RelV x v->Vals xs us->r x xs H Q->
  wpAny (model X.prog X.w) X.A (call (.builtin id) (v::us)) (EP X pins σ Q) X.xe s
theorem Vals.one:∀{x:V}{us:List Value},Vals [x] us->∃u,us=[u]/\RelV x u
 |_,_,.cons r .nil=>⟨_,rfl,r⟩
theorem Vals.eraseIdx:∀{xs:List V}{us:List Value}(i:Nat),Vals xs us->Vals (xs.eraseIdx i) (us.eraseIdx i)
 |_,_,_,.nil=>.nil
 |_,_,0,.cons _ t=>t
 |_,_,i+1,.cons r t=>.cons r (Vals.eraseIdx i t)
theorem Vals.rep(h:Vals xs us):∀k:Nat,Vals (List.replicate k xs).flatten (List.replicate k us).flatten
 |0=>.nil
 |k+1=>by
  rw[List.replicate_succ,List.replicate_succ,List.flatten_cons,List.flatten_cons]
  exact Vals.append h (Vals.rep h k)
theorem zfq:∀(l:List α) (i:Nat),(l.eraseIdx i).length<=l.length
 | [],_=>zzK _
 |_::_,0=>zyU _
 |_::r,i+1=>Nat.succ_le_succ (zfq r i)
theorem foldl_rep(its:List Value):∀(k:Nat) (acc:List Value),
 List.foldl (λx1 x2=>x1++x2) acc.toArray (List.replicate k its.toArray)=(acc++(List.replicate k its).flatten).toArray
 |0,acc=>by simp
 |k+1,acc=>by
  have e:acc.toArray++its.toArray=(acc++its).toArray:=by simp
  have e2:(acc++its)++(List.replicate k its).flatten=acc++(List.replicate (k+1) its).flatten:=by
   rw[List.replicate_succ,List.flatten_cons,zxA]
  rw[<-e2,<-foldl_rep its k (acc++its),<-e,List.replicate_succ,List.foldl_cons]
section
variable{X:Cx}{pins:List (Addr×Obj)}{σ:St}{H:Hp}{s:Shared}{l b:Addr}{xs ys zs:List V}
theorem Inv.lset{its its':List Value}{n:Nat}{f:Array Value->Array Value}{t':Nat}(I:Inv X pins σ H s)(hH:H l=some (.lst xs))
 (e:s.heap.get? l=some {cls:=.type "list",data:=.seq its.toArray n}) (hf:f its.toArray=its'.toArray) (hv:Vals ys its') (hz:ys.length<=sizeLine):
 Inv X pins σ (upd H l (.lst ys)) {s with heap:=s.heap.update l (Obj.mapSeq f),toks:=t'}:=by
 have q:=PySem.IsL.update e f
 rw[hf]at q
 refine I.write (x:=l) (e:=l) (by rw[hH];exact trivial) (.inl rfl) (λb' u hb hu=>(zxL s.heap (Obj.mapSeq f) (Ne.symm hb)).trans hu) ⟨_,q⟩ ?_
 exact⟨hz,its',_,hv,q⟩
theorem Inv.lnew(I:Inv X pins σ H s)(hv:Vals ys its)(hz:ys.length<=sizeLine):
 Inv X pins σ (upd H s.heap.objs.size (.lst ys)) {s with heap:=s.heap.push {cls:=.type "list",data:=.seq its.toArray},toks:=t'}:=
 I.laid (λ_ _ q=>zxF _ q) (zzK _) ⟨hz,its,0,hv,zxH _ rfl⟩
theorem Inv.fresh(I:Inv X pins σ H s):H s.heap.objs.size=none:=I.hok.fresh (zzK _)
theorem Inv.lstM(I:Inv X pins σ H s)(hH:H l=some (.lst xs)):xs.length<=sizeLine/\∃(its:List Value) (n:Nat),Vals xs its/\xs.length=its.length/\s.heap.get? l=some {cls:=.type "list",data:=.seq its.toArray n}:=by
 obtain⟨z,its,n,r,e⟩:=I.hok l _ hH
 exact⟨z,its,n,r,r.length,e⟩
theorem zlo(h:n<=sizeLine):Builtin.List.listTooLong n=false:=by
 unfold Builtin.List.listTooLong
 exact zyD (by omega)
end
section
variable{X:Cx}
def zjM:V->List V->Hp->VK->Prop:=λx vs H Q=>∃l xs y,x = .ref l/\vs=[y]/\H l=some (.lst xs)/\xs.length<sizeLine/\Q .non (upd H l (.lst (xs++[y])))
theorem Z1:MtM X "list.append" zjM:=by
 intro pins s σ H x vs v us Q I rx rv h
 obtain⟨l,xs,y,rfl,rfl,hH,hz,q⟩:=h
 cases rx
 obtain⟨u,rfl,ru⟩:=rv.one
 obtain⟨z,its,n,r,hl,e⟩:=I.lstM hH
 refine call_meets F.slot_list_append ⟨_,e,rfl⟩ F.entry_list_append (F.args_list_append_2 _ _) (PySem.list_append l its.toArray n u (by rw[zzE];omega)) ⟨e, ?_⟩
 refine⟨.non,_,I.lset (its':=its++[u]) hH e (by simp) (r.append (.cons ru .nil)) ?_,rfl,q⟩
 rw[zzG,List.length_singleton]
 omega
def zlm:V->List V->Hp->VK->Prop:=λx vs H Q=>∃l xs i k y,x = .ref l/\vs=[.int i]/\H l=some (.lst xs) /\ -(2 ^ 63)<=i/\i<2 ^ 63/\seqIndex? i xs.length=some k/\xs[k]? = some y/\Q y (upd H l (.lst (xs.eraseIdx k)))
theorem zkD:MtM X "list.pop" zlm:=by
 intro pins s σ H x vs v us Q I rx rv h
 obtain⟨l,xs,i,k,y,rfl,rfl,hH,h1,h2,hk,hy,q⟩:=h
 cases rx
 obtain⟨u,rfl,ru⟩:=rv.one
 obtain⟨t,rfl⟩:=ru
 obtain⟨z,its,n,r,hl,e⟩:=I.lstM hH
 obtain⟨w,hw,rw'⟩:=r.get hy
 refine call_meets F.slot_list_pop ⟨_,e,rfl⟩ F.entry_list_pop (F.args_list_pop_2 _ _)
  (MeetsSeq.list_pop_at l its.toArray n i t k w (fitsIndex_both h1 h2) (by rw[zzE,<-hl];exact hk) (by rw[<-Array.getElem?_toList];exact hw) (by rw[zzE];omega)) ⟨e, ?_⟩
 refine⟨y,_,I.lset (its':=its.eraseIdx k) hH e ?_ (r.eraseIdx k) ?_,rw',q⟩
 · show its.toArray.eraseIdxIfInBounds k=(its.eraseIdx k).toArray
   rw[List.eraseIdxIfInBounds_toArray]
 · have:=zfq xs k
   omega
theorem len_rep(xs:List α)(k:Nat):(List.replicate k xs).flatten.length=k*xs.length:=by
 induction k with
 |zero=>simp
 |succ k ih=>rw[List.replicate_succ,List.flatten_cons,zzG,ih,Nat.succ_mul,Nat.add_comm]
end
end L2
namespace Att
open PySem PySem.W PySem.Calls PyProof.Rows
theorem zda:∀(ns:List Int) (vs:List Value),WellAll P h vs (ns.map WData.int)->IntsAre vs ns:=by
 intro ns
 induction ns with
 |nil=>
  intro vs w
  rw[List.map_nil]at w
  cases w
  exact .nil
 |cons n ns ih=>
  intro vs w
  rw[zyP]at w
  cases w with
  |cons a b=>
   cases a
   exact .cons _ _ (ih _ b)
theorem zjU{l:OpenLaw}{n:Nat}(hn:l.most=some n){P:Params}{h:Heap}{args:List WData}{vals:List Value}
 (hpre:l.row.toRowW.claim.pre args=true) (hwl:WellAll P h vals args):
 ∃a vs ns,vals=[Value.ref a]/\args=[WData.list (ns.map WData.int)]/\h.get? a=some {cls:=.type "list",data:=.seq vs.toArray}/\IntsAre vs ns/\ns.length<=n:=by
 have hsh:WShape.hasAll [] args [.list .int]=true:=(pre_splitW hpre).1
 have hc:l.pre.holds [] {args:=args}=true:=(pre_splitW hpre).2
 obtain⟨d,r,rfl,h1,h2⟩:=hasAllW_cons hsh
 obtain rfl:=hasAllW_nil h2
 obtain⟨xs,rfl,h3⟩:=hasW_list h1
 obtain⟨ns,rfl⟩:=items_int h3
 have hlen:ns.length<=n:=by
  unfold OpenLaw.pre at hc
  have h4:(WTm.not (.lt (.lit (.int (n:Int))) (.len (.arg 0)))).holds [] {args:=[.list (ns.map .int)]}=true:=by
   have h4:=(holds_andW hc).1
   rw[hn]at h4
   exact h4
  have h5:=condW_of h4 (w_not (w_lt w_lit (w_len_list (w_arg rfl))))
  rw[zD]at h5
  refine Nat.le_of_not_lt λq=>?_
  have q':(n:Int)<((ns.length:Nat):Int):=by omega
  first
   |(rw[zyL q']at h5;exact absurd h5 (by decide))
   |(simp at h5;omega)
 cases hwl with
 |cons w1 w2=>
  cases w2
  cases w1 with
  |list ho hall=>exact⟨_,_,ns,rfl,rfl,ho,zda ns _ hall,hlen⟩
theorem zky(l:OpenLaw)(args:List WData):l.row.toRowW.claim.post args (.bool true) args=true:=
 postW_of (r:=l.row.toRowW) (X:=(true==true))
  (show WShape.has [] (.bool true) .bool=true by first|rfl|decide|simp[WShape.has,WShape.arms,WShape.armsAll])
  (show(WTm.eq .res (.lit (.bool true))).value [] {args:=args,res:=some (.bool true),after:=args}=some (.bool (true==true))from w_eq_bool (w_res rfl) w_lit) rfl
theorem zhD{l:OpenLaw}{n:Nat}{q:Program}{loose:List Str}{XP:(Str->Option Value)->Heap->Prop}{YP:World->Heap->Prop}{d:DefRec}
 (hn:l.most=some n) (hdf:d.params.defaults=[])
 (call:∀(w:World) (s₀ s₁:Shared) (mg mb:Str->Option Value) (fa:Addr) (o:Obj) (pm cd doc:Value) (a:Addr) (vs:List Value) (ns:List Int),
  Ground q loose [] XP w s₀ mg mb s₁.heap->YP w s₁.heap->
  s₁.heap.get? fa=some o->o.data = .func (docDef d.name d.params d.body d.scope pm cd doc)->s₁.heap.CodeRec cd d.name->mg d.name=some (.ref fa)->
  s₁.heap.get? a=some {cls:=.type "list",data:=.seq vs.toArray}->IntsAre vs ns->ns.length<=n->s₁.gens = #[]->
  codeAny (model l.prog w) callerA (.call (.ref fa) ⟨[.ref a],[]⟩) (λr s'=>r = .ok (.ret (.bool true))/\OldK s₁.heap s'.heap/\s'.os=s₁.os/\AllBare s'.gens) s₁):
 WalkO q loose XP YP l.row.toRowW d [] (λf vs=>PySem.call f vs):=by
 intro w s₀ s₁ mg mb G Y fa o pm cd doc dV kV ho hd hcd hD hmg hg args vals as hpre hlay hrd hwl hlo
 obtain rfl:dV = .none:=Dflts.none hD hdf
 obtain rfl:kV = .none:=Dflts.noKw hD
 obtain⟨a,vs,ns,rfl,rfl,hobj,hints,hlen⟩:=zjU hn hpre hwl
 refine enter_call (codeAny_mono (call w s₀ s₁ mg mb fa o pm cd doc a vs ns G Y ho (fd_plain hd) hcd hmg hobj hints hlen hg) λr s' hq=>?_)
 obtain⟨rfl,h2,h3,h4⟩:=hq
 exact⟨.inl ⟨.bool true,.bool true,[],rfl,λ_=>rfl,.bool true,zky l _,λ_=>⟨List.Pairwise.nil,λ_ hm=>(nomatch hm)⟩⟩,h2,h3,h4⟩
end Att
namespace L2
open PySem PySem.Spec PyProof.Rows
theorem X7:∀{vs:List Value}{ns:List Int},IntsAre vs ns->Vals (ns.map V.int) vs
 |_,_,.nil=>.nil
 |_,_,.cons n t h=>.cons ⟨t,rfl⟩ (X7 h)
def Only(H:Hp):Prop:=∀b,H b=none\/∃o xs,H b=some (.frz o (.lst xs))
theorem zla{P:Program}{w:World}{K:zC}{mg mb:Str->Option Value}{CX:CXT}{k:Nat}{fa a:Addr}{fd:FuncData}{x:Str}{sp:Sp}{s₁:Shared}{vs:List Value}{ns:List Int}
 (KX:K.In s₁.heap) (hns:s₁.heap.Ns mainGlobals mg) (hb:s₁.heap.Ns builtinsNs mb) (hbb:∀x:Str,x≠"__name__"->mb x=bootBuiltins x) (hlim:s₁.heap.NoLimit) (hg:s₁.gens = #[])
 (ha:s₁.heap.get? a=some {cls:=.type "list",data:=.seq vs.toArray}) (hi:IntsAre vs ns) (hl:ns.length<=sizeLine) (hr:Room k callerA)
 (F:∀base:Heap,K.In base->base.Ns mainGlobals mg->FnOk P w K mg base CX k fa fd [x] sp) (hbind:∀(s:Shared) (u:Value),BindsTo s fd ⟨[u],[]⟩ [(x,u)])
 (hsp:∀H:Hp,Only H->RdL K H a (ns.map V.int)->sp [.ref a] H (λv _=>v = .bl true) λ_ _ _=>False)
 (hCX:∀H e s',CX [] H s₁ (λ_ _ _=>False) e s'->False):
 codeAny (model P w) callerA (.call (.ref fa) ⟨[.ref a],[]⟩) (λr s'=>r = .ok (.ret (.bool true))/\OldK s₁.heap s'.heap/\s'.os=s₁.os/\AllBare s'.gens) s₁:=by
 have rv:=X7 hi
 have lenV:=hi.length
 have core:∀H:Hp,Only H->RdL K H a (ns.map V.int)->HOk P w H s₁.heap->(∀b,H b≠none->b=a)->(H a≠none->K.lookup a=none)->
  codeAny (model P w) callerA (.call (.ref fa) ⟨[.ref a],[]⟩) (λr s'=>r = .ok (.ret (.bool true))/\OldK s₁.heap s'.heap/\s'.os=s₁.os/\AllBare s'.gens) s₁:=by
  intro H hO hS hok hA hK
  have base_of:∀{b:Addr}{o:Obj},s₁.heap.get? b=some o->H b=none->(zfW s₁.heap H).get? b=some o:=λe n=>zkF e n
  have noA:∀{b:Addr}{o:Obj}{es:Array DictEntry}{ep:Nat},s₁.heap.get? b=some o->o.data = .dict es ep->H b=none:=λ{b o es ep} e d=>by
   cases q:H b with
   |none=>rfl
   |some u=>
    have e':b=a:=hA b (by rw[q];simp)
    subst e'
    rw[ha]at e;cases e
    have d':Data.seq vs.toArray _=Data.dict es ep:=d
    cases d'
  have nsK:∀{b:Addr}{m:Str->Option Value},s₁.heap.Ns b m->(zfW s₁.heap H).Ns b m:=λ{b m} ⟨o,es,ep,e,d,r⟩=>⟨o,es,ep,base_of e (noA e d),d,r⟩
  have hKb:K.In (zfW s₁.heap H):=λb o e=>base_of (KX b o e) (by
   cases q:H b with
   |none=>rfl
   |some u=>
    have e':b=a:=hA b (by rw[q];simp)
    subst e'
    rw[hK (by rw[q];simp)]at e;cases e)
  have hM:Mod K mg (zfW s₁.heap H):=⟨hKb,nsK hns,⟨mb,nsK hb,hbb⟩,let⟨mc,h1,h2⟩:=hlim;⟨mc,nsK h1,h2⟩⟩
  have e0:Env0 P w K mg (zfW s₁.heap H) callerA [] s₁ H:=⟨rfl,hM,λb o e=>zou e,Nat.le_of_eq (zkj _ _),trivial,λb hb=>absurd (show b ∈ ([]:List Addr)from hb) (by simp),hok,.of_eq hg⟩
  refine codeAny_mono ((F _ hKb (nsK hns)).run callerA [] s₁ H ⟨[.ref a],[]⟩ [.ref a] [.ref a] _ _ hr e0 (hbind s₁ (.ref a)) (.cons rfl .nil) (hsp H hO hS)) λr s' h=>?_
  cases r with
  |error e=>exact(hCX H e s' h).elim
  |ok fl=>
   cases fl with
   |next=>exact False.elim h
   |brk=>exact False.elim h
   |cont=>exact False.elim h
   |ret u=>
    obtain⟨v,H',os,bare,un,hok',r',q⟩:=h
    have q':v = .bl true:=q
    subst q'
    obtain rfl:u=Value.bool true:=r'
    refine⟨rfl,OldK.of_keep λb o e=>?_,os,bare⟩
    cases q:H b with
    |none=>exact un.keep b o e q (by intro z;exact absurd (show b ∈ ([]:List Addr)from z) (by simp)) (by simp)
    |some u=>
     rcases hO b with z|⟨ob,xs,z⟩
     · rw[q]at z;cases z
     · have z2:=un.frzs b ob _ z
       obtain⟨e1,_⟩:=hok b _ z
       obtain⟨e2,_⟩:=hok' b _ z2
       rw[e]at e1;cases e1
       exact e2
 cases hk:K.lookup a with
 |some o=>
  have e:=KX a o hk
  rw[ha]at e
  cases e
  refine core (λ_=>none) (λ_=>.inl rfl) (.inr ⟨vs.toArray,_,hk,by rw[zzE,lenV];exact hl,by simpa using rv⟩) (λb u z=>by have z':(none:Option HO)=some u:=z;cases z') (λb z=>absurd rfl z) λz=>absurd rfl z
 |none=>
  refine core (λb=>if b=a then some (.frz {cls:=.type "list",data:=.seq vs.toArray} (.lst (ns.map V.int)))else none) (λb=>?_) (.inl (.inr ⟨{cls:=.type "list",data:=.seq vs.toArray},if_pos rfl⟩)) (λb u z=>?_) (λb z=>?_) λ_=>hk
  · by_cases hb:b=a
    · exact .inr ⟨_,_,if_pos hb⟩
    · exact .inl (if_neg hb)
  · by_cases hb:b=a
    · have z':=(if_pos hb).symm.trans z
      cases z'
      subst hb
      exact⟨ha,by rw[zD];exact hl,vs,_,rv,ha⟩
    · have z':=(if_neg hb).symm.trans z
      cases z'
  · by_cases hb:b=a
    · exact hb
    · exact absurd (if_neg hb) z
end L2
namespace L2
open PySem PySem.Spec PyProof.Rows
theorem walk_of{l:PySem.W.OpenLaw}{n k:Nat}{q:Program}{loose:List Str}{XP:(Str->Option Value)->Heap->Prop}{YP:World->Heap->Prop}{d:DefRec}{K:Params->zC}{CX:World->CXT}{sp:World->Sp}{x:Str}
 (hn:l.most=some n) (hn2:n<=sizeLine) (hdf:d.params.defaults=[]) (hr:Room k callerA)
 (hY:∀(w:World) (h:Heap),YP w h->(K w.params).In h)
 (F:∀(w:World) (mg:Str->Option Value) (fa:Addr) (h:Heap),(K w.params).In h->h.Ns mainGlobals mg->mg d.name=some (.ref fa)->
  ∃fd:FuncData,(∀(s:Shared) (u:Value),BindsTo s fd ⟨[u],[]⟩ [(x,u)])/\
   ∀base:Heap,(K w.params).In base->base.Ns mainGlobals mg->FnOk l.prog w (K w.params) mg base (CX w) k fa fd [x] (sp w))
 (hsp:∀(w:World) (H:Hp) (a:Addr) (ns:List Int),ns.length<=n->Only H->RdL (K w.params) H a (ns.map V.int)->sp w [.ref a] H (λv _=>v = .bl true) λ_ _ _=>False)
 (hCX:∀(w:World) (H:Hp) (s:Shared) (e:Value) (s':Shared),CX w [] H s (λ_ _ _=>False) e s'->False):
 PySem.W.WalkO q loose XP YP l.row.toRowW d [] (λf vs=>PySem.call f vs):=by
 refine Att.zhD hn hdf λw s₀ s₁ mg mb fa o pm cd doc a vs ns G Y ho hd hcd hmg hobj hints hlen hg=>?_
 have KX:=hY w _ Y
 obtain⟨fd,hb,hF⟩:=F w mg fa _ KX G.T.g hmg
 exact zla KX G.T.g G.T.b G.T.builtins G.T.nolimit hg hobj hints (zzL hlen hn2) hr hF hb (λH hO hS=>hsp w H a ns hlen hO hS) λH e s'=>hCX w H s₁ e s'
end L2
namespace L2
open PySem PySem.Spec PyProof.Rows
abbrev CX0:CXT:=λ_ _ _ _ _ _=>False
abbrev E0:XK:=λ_ _ _=>False
theorem yM:zaO CX0 X E0:=λ_ _ _ _ _ _ _ h=>h.elim
structure Fun(K:zC)(x qual:Str)(st:Stmt)(f:Addr)(fd:FuncData):Prop where
 ex:∃(oc:Value) (od:Option Addr) (kV doc pm:Value) (an:Option Addr) (cdv ct:Value) (osl:Array (Option Value)),
  fd=PySem.W.fnOf x qual (zfI st) (YC st) (zu st) .none kV doc pm an cdv ct/\K.lookup f=some ⟨oc,od,.func fd,osl⟩/\PySem.W.codeIn K cdv qual=true
 kp:PySem.W.keepIn K (.ref f)=true
section
variable{P:Program}{w:World}{K:zC}{mg:Str->Option Value}{base:Heap}
theorem Fun.ok{x qual:Str}{st:Stmt}{f:Addr}{fd:FuncData}{N ps:List Str}{k:Nat}{sp:Sp}(F:Fun K x qual st f fd)(S:FnScope N ps (zu st))(len:∀vs H Q E,sp vs H Q E->vs.length=ps.length)
 (hbody:∀(cdv:Value) (A:Around) (outer:List Env) (s:Shared) (H:Hp) (vs:List V) (Q:VK) (E:XK),Room k (A.deeper (envOfC qual (zu st) s.heap.objs.size f cdv))->sp vs H Q E->
  ∃t,PSs (Xz CX0 P w K mg base N qual (zu st) f cdv A outer s H E).nox (YC st) t/\t {nx:=λ_ H'=>Q .non H',rt:=Q} (start N vs) H):FnOk P w K mg base CX0 (k+1) f fd ps sp:=by
 obtain⟨oc,od,kV,doc,pm,an,cdv,ct,osl,rfl,lk,hcd⟩:=F.ex
 refine zlO lk hcd S len λA outer s H vs Q E hr hsp=>?_
 obtain⟨t,h,q⟩:=hbody cdv A outer s H vs Q E hr hsp
 exact⟨t,h.nox,q⟩
theorem Fun.binds{x qual:Str}{st:Stmt}{f:Addr}{fd:FuncData}{ps:List Str}(F:Fun K x qual st f fd)
 (h:∀(kV doc pm:Value) (an:Option Addr) (cdv ct:Value) (us:List Value),us.length=ps.length->bindArgs (PySem.W.fnOf x qual (zfI st) (YC st) (zu st) .none kV doc pm an cdv ct) ⟨us,[]⟩=pure (ps.zip us)):Binds K fd ps []:=by
 obtain⟨oc,od,kV,doc,pm,an,cdv,ct,osl,rfl,lk,hcd⟩:=F.ex
 exact .all (h kV doc pm an cdv ct)
end
theorem yN(h:n<=1000):n<sizeLine:=Nat.lt_of_le_of_lt h (by decide)
section
variable{X:Cx}
theorem pv(i:Nat)(hN:X.N[i]? = some x:=by rfl)(hv:Vis X.env.scope x:=by first|exact Or.inl rfl|exact Or.inr (Or.inl rfl)|exact Or.inr (Or.inr rfl))(hd:(x==("__debug__":Str))=false:=by decide)
 (hcd:(x==("__classdict__":Str))=false:=by decide):PE X (.Name x pos) (zcn i):=zlb hN hv hd hcd
end
end L2
end
section
namespace PF
open PySem PySem.Spec PyProof.Rows L2
abbrev St:=L2.St
structure KD where
 d:Addr->List (Key×V)->Prop
 c:Str->Addr
instance:CoeFun KD (λ_=>Addr->List (Key×V)->Prop):=⟨KD.d⟩
inductive D where
 |non|bl (b:Bool)|int (i:Int)|str (x:Str)|tup (ds:List D)|lst (ds:List D)|dct (kvs:List (Key×D))|cl (c:Str)|ob (c:Str) (ns:List Str) (ds:List D)|er (c an:Str) (d:D)
def XB(a C dx:Addr):Heap->Prop:=λh=>∃o,h.get? a=some o/\o.cls = .ref C/\o.dict=some dx/\∃vs,o.data = .fields vs
mutual
inductive Rp(K:zC)(kd:KD)(O:Addr->Prop)(H:Hp):V->D->Prop
 |non:Rp K kd O H .non .non
 |bl (b:Bool):Rp K kd O H (.bl b) (.bl b)
 |int (i:Int):Rp K kd O H (.int i) (.int i)
 |str (x:Str):Rp K kd O H (.str x) (.str x)
 |tup {a:Addr}{vs:List V}{ds:List D}:¬O a->Rd H a (.tup vs)->RpL K kd O H vs ds->Rp K kd O H (.ref a) (.tup ds)
 |tupK {a:Addr}{o:Obj}{its:Array Value}{n:Nat}{vs:List V}{ds:List D}:K.lookup a=some o->o.cls = .type "tuple"->o.data = .seq its n->its.size<=sizeLine->Vals vs its.toList->RpL K kd O H vs ds->Rp K kd O H (.ref a) (.tup ds)
 |lst {a:Addr}{vs:List V}{ds:List D}:¬O a->Rd H a (.lst vs)->RpL K kd O H vs ds->Rp K kd O H (.ref a) (.lst ds)
 |lstK {a:Addr}{its:Array Value}{n:Nat}{vs:List V}{ds:List D}:K.lookup a=some {cls:=.type "list",data:=.seq its n}->its.size<=sizeLine->Vals vs its.toList->RpL K kd O H vs ds->Rp K kd O H (.ref a) (.lst ds)
 |dct {a:Addr}{kvs:List (Key×V)}{ds:List (Key×D)}:¬O a->Rd H a (.dK kvs)->RpM K kd O H kvs ds->Rp K kd O H (.ref a) (.dct ds)
 |dctK {a:Addr}{kvs:List (Key×V)}{ds:List (Key×D)}:kd a kvs->RpM K kd O H kvs ds->Rp K kd O H (.ref a) (.dct ds)
 |cl (c:Str):Rp K kd O H (.ref (kd.c c)) (.cl c)
 |ob {a dx:Addr}{c:Str}{ns:List Str}{vs:List V}{ds:List D}:¬O a->H a=some (.ins (kd.c c) dx (ns.zip vs))->ns.length=vs.length->RpL K kd O H vs ds->Rp K kd O H (.ref a) (.ob c ns ds)
 |er {a dx:Addr}{c an:Str}{v:V}{d:D}:¬O a->¬O dx->H a=some (.ext (XB a (kd.c c) dx))->H dx=some (.xd [(an,v)])->Rp K kd O H v d->Rp K kd O H (.ref a) (.er c an d)
inductive RpL(K:zC)(kd:KD)(O:Addr->Prop)(H:Hp):List V->List D->Prop
 |nil:RpL K kd O H [] []
 |cons {v:V}{d:D}{vs:List V}{ds:List D}:Rp K kd O H v d->RpL K kd O H vs ds->RpL K kd O H (v::vs) (d::ds)
inductive RpM(K:zC)(kd:KD)(O:Addr->Prop)(H:Hp):List (Key×V)->List (Key×D)->Prop
 |nil:RpM K kd O H [] []
 |cons {k:Key}{v:V}{d:D}{vs:List (Key×V)}{ds:List (Key×D)}:Rp K kd O H v d->RpM K kd O H vs ds->RpM K kd O H ((k,v)::vs) ((k,d)::ds)
end
structure Grow(W:Addr->Prop)(H:Hp)(W':Addr->Prop)(H':Hp):Prop where
 keep:∀b o,H b=some o->¬W b->H' b=some o
 own:∀b,W' b->W b\/H b=none
theorem Grow.refl{W:Addr->Prop}{H:Hp}:Grow W H W H:=⟨λ_ _ h _=>h,λ_ h=>.inl h⟩
theorem Grow.trans{W W1 W2:Addr->Prop}{H H1 H2:Hp}(a:Grow W H W1 H1)(b:Grow W1 H1 W2 H2):Grow W H W2 H2 where
 keep:=λx o h n=>b.keep x o (a.keep x o h n) λq=>(a.own x q).elim n λz=>by rw[z]at h;cases h
 own:=λx q=>by
  rcases b.own x q with h|h
  · exact a.own x h
  · cases e:H x with
    |none=>exact .inr rfl
    |some o=>
     refine .inl (Classical.byContradiction λn=>?_)
     rw[a.keep x o e n]at h
     cases h
theorem Grow.less{W W':Addr->Prop}{H:Hp}(h:∀a,W' a->W a):Grow W H W' H:=⟨λ_ _ q _=>q,λb q=>.inl (h b q)⟩
abbrev Un2(F W:Addr->Prop):Addr->Prop:=λa=>F a\/W a
section
variable{K:zC}{kd:KD}{F W W':Addr->Prop}{H H':Hp}
theorem zaf{a:Addr}{u:HO}(g:Grow W H W' H')(n:¬W a)(h:Rd H a u):Rd H' a u:=by
 rcases h with h|⟨o,h⟩
 · exact .inl (g.keep _ _ h n)
 · exact .inr ⟨o,g.keep _ _ h n⟩
theorem zod{a:Addr}{u:HO}(h:Rd H a u):H a≠none:=by
 rcases h with h|⟨o,h⟩<;>(rw[h];simp)
theorem Wa{a:Addr}{u:HO}(g:Grow W H W' H')(n:¬Un2 F W a)(h:Rd H a u):¬Un2 F W' a:=λq=>
 q.elim (λz=>n (.inl z)) λz=>(g.own a z).elim (λy=>n (.inr y)) λy=>zod h y
theorem Rp.grow(g:Grow W H W' H'){v:V}{d:D}(h:Rp K kd (Un2 F W) H v d):Rp K kd (Un2 F W') H' v d:=
 Rp.rec (motive_1:=λv d _=>Rp K kd (Un2 F W') H' v d) (motive_2:=λvs ds _=>RpL K kd (Un2 F W') H' vs ds) (motive_3:=λvs ds _=>RpM K kd (Un2 F W') H' vs ds) .non .bl .int .str (λn h _ r=>.tup (Wa g n h) (zaf g (λz=>n (.inr z)) h) r) (λa b c e f _ r=>.tupK a b c e f r) (λn h _ r=>.lst (Wa g n h) (zaf g (λz=>n (.inr z)) h) r) (λa e f _ r=>.lstK a e f r) (λn h _ r=>.dct (Wa g n h) (zaf g (λz=>n (.inr z)) h) r) (λh _ r=>.dctK h r) .cl (λn h l _ r=>.ob (Wa g n (.inl h)) (g.keep _ _ h λz=>n (.inr z)) l r) (λn m h k _ r=>.er (Wa g n (.inl h)) (Wa g m (.inl k)) (g.keep _ _ h λz=>n (.inr z)) (g.keep _ _ k λz=>m (.inr z)) r) .nil (λ_ _ h r=>.cons h r) .nil (λ_ _ h r=>.cons h r) h
theorem RpL.ind{O:Addr->Prop}{P:List V->List D->Prop}(h0:P [] [])(h1:∀{v d vs ds},Rp K kd O H v d->RpL K kd O H vs ds->P vs ds->P (v::vs) (d::ds)){vs:List V}{ds:List D}(h:RpL K kd O H vs ds):P vs ds:=
 RpL.rec (motive_1:=λ_ _ _=>True) (motive_2:=λvs ds _=>P vs ds) (motive_3:=λ_ _ _=>True) ⟨⟩ (λ_=>⟨⟩) (λ_=>⟨⟩) (λ_=>⟨⟩) (λ_ _ _ _=>⟨⟩) (λ_ _ _ _ _ _ _=>⟨⟩) (λ_ _ _ _=>⟨⟩) (λ_ _ _ _ _=>⟨⟩) (λ_ _ _ _=>⟨⟩) (λ_ _ _=>⟨⟩) (λ_=>⟨⟩) (λ_ _ _ _ _=>⟨⟩) (λ_ _ _ _ _ _=>⟨⟩) h0 (λa r _ ih=>h1 a r ih) ⟨⟩ (λ_ _ _ _=>⟨⟩) h
theorem RpM.ind{O:Addr->Prop}{P:List (Key×V)->List (Key×D)->Prop}(h0:P [] [])(h1:∀{k v d vs ds},Rp K kd O H v d->RpM K kd O H vs ds->P vs ds->P ((k,v)::vs) ((k,d)::ds)){vs:List (Key×V)}{ds:List (Key×D)}(h:RpM K kd O H vs ds):P vs ds:=
 RpM.rec (motive_1:=λ_ _ _=>True) (motive_2:=λ_ _ _=>True) (motive_3:=λvs ds _=>P vs ds) ⟨⟩ (λ_=>⟨⟩) (λ_=>⟨⟩) (λ_=>⟨⟩) (λ_ _ _ _=>⟨⟩) (λ_ _ _ _ _ _ _=>⟨⟩) (λ_ _ _ _=>⟨⟩) (λ_ _ _ _ _=>⟨⟩) (λ_ _ _ _=>⟨⟩) (λ_ _ _=>⟨⟩) (λ_=>⟨⟩) (λ_ _ _ _ _=>⟨⟩) (λ_ _ _ _ _ _=>⟨⟩) ⟨⟩ (λ_ _ _ _=>⟨⟩) h0 (λa r _ ih=>h1 a r ih) h
theorem RpL.grow(g:Grow W H W' H'){vs:List V}{ds:List D}(h:RpL K kd (Un2 F W) H vs ds):RpL K kd (Un2 F W') H' vs ds:=RpL.ind .nil (λa _ r=>.cons (Rp.grow g a) r) h
theorem RpM.grow(g:Grow W H W' H'){vs:List (Key×V)}{ds:List (Key×D)}(h:RpM K kd (Un2 F W) H vs ds):RpM K kd (Un2 F W') H' vs ds:=RpM.ind .nil (λa _ r=>.cons (Rp.grow g a) r) h
theorem Rp.less{O O':Addr->Prop}(g:∀a,O' a->O a){v:V}{d:D}(h:Rp K kd O H v d):Rp K kd O' H v d:=
 Rp.rec (motive_1:=λv d _=>Rp K kd O' H v d) (motive_2:=λvs ds _=>RpL K kd O' H vs ds) (motive_3:=λvs ds _=>RpM K kd O' H vs ds) .non .bl .int .str (λn h _ r=>.tup (λz=>n (g _ z)) h r) (λa b c e f _ r=>.tupK a b c e f r) (λn h _ r=>.lst (λz=>n (g _ z)) h r) (λa e f _ r=>.lstK a e f r) (λn h _ r=>.dct (λz=>n (g _ z)) h r) (λh _ r=>.dctK h r) .cl (λn h l _ r=>.ob (λz=>n (g _ z)) h l r) (λn m h k _ r=>.er (λz=>n (g _ z)) (λz=>m (g _ z)) h k r) .nil (λ_ _ h r=>.cons h r) .nil (λ_ _ h r=>.cons h r) h
theorem RpL.less{O O':Addr->Prop}(g:∀a,O' a->O a){vs:List V}{ds:List D}(h:RpL K kd O H vs ds):RpL K kd O' H vs ds:=RpL.ind .nil (λa _ r=>.cons (Rp.less g a) r) h
theorem RpM.less{O O':Addr->Prop}(g:∀a,O' a->O a){vs:List (Key×V)}{ds:List (Key×D)}(h:RpM K kd O H vs ds):RpM K kd O' H vs ds:=RpM.ind .nil (λa _ r=>.cons (Rp.less g a) r) h
theorem RpL.length{O:Addr->Prop}{vs:List V}{ds:List D}(h:RpL K kd O H vs ds):vs.length=ds.length:=RpL.ind (P:=λvs ds=>vs.length=ds.length) rfl (λ_ _ r=>congrArg (· + 1) r) h
theorem RpM.length{O:Addr->Prop}{vs:List (Key×V)}{ds:List (Key×D)}(h:RpM K kd O H vs ds):vs.length=ds.length:=RpM.ind (P:=λvs ds=>vs.length=ds.length) rfl (λ_ _ r=>congrArg (· + 1) r) h
theorem RpL.get{O:Addr->Prop}{vs:List V}{ds:List D}{i:Nat}{d:D}(h:RpL K kd O H vs ds)(e:ds[i]? = some d):∃v,vs[i]? = some v/\Rp K kd O H v d:=
 RpL.ind (P:=λvs ds=>∀i,ds[i]? = some d->∃v,vs[i]? = some v/\Rp K kd O H v d) (λi e=>by rw[List.getElem?_nil]at e;cases e) (λa _ ih i e=>by
  cases i with
  |zero=>cases e;exact⟨_,rfl,a⟩
  |succ i=>exact ih i e) h i e
theorem RpL.append{O:Addr->Prop}{vs ws:List V}{ds es:List D}(h:RpL K kd O H vs ds)(r:RpL K kd O H ws es):RpL K kd O H (vs++ws) (ds++es):=RpL.ind (P:=λvs ds=>RpL K kd O H (vs++ws) (ds++es)) r (λa _ t=>.cons a t) h
theorem RpL.take{O:Addr->Prop}{vs:List V}{ds:List D}(n:Nat)(h:RpL K kd O H vs ds):RpL K kd O H (vs.take n) (ds.take n):=
 RpL.ind (P:=λvs ds=>∀n,RpL K kd O H (vs.take n) (ds.take n)) (λn=>by rw[List.take_nil,List.take_nil];exact .nil) (λa _ ih n=>by
  cases n with
  |zero=>exact .nil
  |succ n=>exact .cons a (ih n)) h n
theorem RpL.drop{O:Addr->Prop}{vs:List V}{ds:List D}(n:Nat)(h:RpL K kd O H vs ds):RpL K kd O H (vs.drop n) (ds.drop n):=
 RpL.ind (P:=λvs ds=>∀n,RpL K kd O H (vs.drop n) (ds.drop n)) (λn=>by rw[List.drop_nil,List.drop_nil];exact .nil) (λa b ih n=>by
  cases n with
  |zero=>exact .cons a b
  |succ n=>exact ih n) h n
theorem RpL.rep{O:Addr->Prop}{vs:List V}{ds:List D}(h:RpL K kd O H vs ds):∀k:Nat,RpL K kd O H (List.replicate k vs).flatten (List.replicate k ds).flatten
 |0=>.nil
 |k+1=>by
  rw[List.replicate_succ,List.replicate_succ,List.flatten_cons,List.flatten_cons]
  exact h.append (RpL.rep h k)
end
inductive Vw(K:zC)(kd:KD)(O:Addr->Prop)(H:Hp):V->D->Prop
 |non:Vw K kd O H .non .non
 |bl (b:Bool):Vw K kd O H (.bl b) (.bl b)
 |int (i:Int):Vw K kd O H (.int i) (.int i)
 |str (x:Str):Vw K kd O H (.str x) (.str x)
 |tup {a:Addr}{vs:List V}{ds:List D}:Rp K kd O H (.ref a) (.tup ds)->SqT K H a vs->RpL K kd O H vs ds->Vw K kd O H (.ref a) (.tup ds)
 |lst {a:Addr}{vs:List V}{ds:List D}:RdL K H a vs->RpL K kd O H vs ds->Vw K kd O H (.ref a) (.lst ds)
 |dct {a:Addr}{kvs:List (Key×V)}{ds:List (Key×D)}:(Rd H a (.dK kvs)\/kd a kvs)->RpM K kd O H kvs ds->Vw K kd O H (.ref a) (.dct ds)
 |cl (c:Str):Vw K kd O H (.ref (kd.c c)) (.cl c)
 |ob {a dx:Addr}{c:Str}{ns:List Str}{vs:List V}{ds:List D}:H a=some (.ins (kd.c c) dx (ns.zip vs))->ns.length=vs.length->RpL K kd O H vs ds->Vw K kd O H (.ref a) (.ob c ns ds)
 |er {a dx:Addr}{c an:Str}{v:V}{d:D}:H a=some (.ext (XB a (kd.c c) dx))->H dx=some (.xd [(an,v)])->Rp K kd O H v d->Vw K kd O H (.ref a) (.er c an d)
theorem Rp.vw{K:zC}{kd:KD}{O:Addr->Prop}{H:Hp}{v:V}{d:D}(h:Rp K kd O H v d):Vw K kd O H v d:=by
 cases h with
 |non=>exact .non
 |bl b=>exact .bl b
 |int i=>exact .int i
 |str x=>exact .str x
 |tup n h r=>exact .tup (.tup n h r) (.inl h) r
 |tupK a b c e f r=>exact .tup (.tupK a b c e f r) (.inr ⟨_,_,_,a,b,c,e,f⟩) r
 |lst n h r=>exact .lst (.inl h) r
 |lstK a e f r=>exact .lst (.inr ⟨_,_,a,e,f⟩) r
 |dct n h r=>exact .dct (.inl h) r
 |dctK h r=>exact .dct (.inr h) r
 |cl c=>exact .cl c
 |ob n h l r=>exact .ob h l r
 |er n m h k r=>exact .er h k r
theorem _root_.L2.RdL.sq{K:zC}{H:Hp}{a:Addr}{xs:List V}(h:RdL K H a xs):SqL K H a xs:=by
 rcases h with h|⟨its,n,k,z,r⟩
 · exact .inl h
 · exact .inr ⟨_,its,n,k,rfl,rfl,rfl,z,r⟩
theorem zhO{X:Cx}{pins:List (Addr×Obj)}{σ:St}{H:Hp}{s:Shared}{a:Addr}{xs:List V}(I:Inv X pins σ H s)(h:RdL X.K H a xs):
 xs.length<=sizeLine/\∃(its:List Value) (n:Nat),Vals xs its/\s.heap.get? a=some {cls:=.type "list",data:=.seq its.toArray n}:=by
 rcases h with h|⟨its,n,k,z,r⟩
 · exact h.ok I.hok
 · refine⟨by rw[r.length];simpa using z,its.toList,n,r,by simpa using I.kIn _ _ k⟩
theorem Rp.cl_eq{K:zC}{kd:KD}{O:Addr->Prop}{H:Hp}{C:Addr}{c:Str}(h:Rp K kd O H (.ref C) (.cl c)):C=kd.c c:=by
 cases h;rfl
def yd:D->Bool
 | .non=>true | .bl _=>true | .int _=>true | .str _=>true|_=>false
theorem Rp.flat{K:zC}{kd:KD}{O O':Addr->Prop}{H H':Hp}{v:V}{d:D}(h:Rp K kd O H v d)(e:yd d=true):Rp K kd O' H' v d:=by
 cases h with
 |non=>exact .non
 |bl b=>exact .bl b
 |int i=>exact .int i
 |str x=>exact .str x
 |_=>cases e
inductive Kind where
 |ls|tp|dc (ks:List Key)|ob (c:Str) (ns:List Str)
inductive O where
 |lf (st:Bool) (d:D)|nd (k:Kind) (os:List O)
abbrev lfs(st:Bool)(d:D):O:=.lf (yd d||st) d
mutual
inductive Ro(L:Bool->V->D->Prop)(N:Addr->Prop)(H:Hp):V->O->List Addr->Prop
 |lf {st:Bool}{v:V}{d:D}:L st v d->Ro L N H v (.lf st d) []
 |ls {a:Addr}{vs:List V}{os:List O}{fp:List Addr}:H a=some (.lst vs)->RoL L N H vs os fp->Ro L N H (.ref a) (.nd .ls os) (a::fp)
 |dc {a:Addr}{ks:List Key}{vs:List V}{os:List O}{fp:List Addr}:H a=some (.dK (ks.zip vs))->ks.length=vs.length->RoL L N H vs os fp->Ro L N H (.ref a) (.nd (.dc ks) os) (a::fp)
 |ob {a dx C:Addr}{c:Str}{ns:List Str}{vs:List V}{os:List O}{fp:List Addr}:L true (.ref C) (.cl c)->H a=some (.ins C dx (ns.zip vs))->ns.length=vs.length->RoL L N H vs os fp->Ro L N H (.ref a) (.nd (.ob c ns) os) (a::fp)
 |tp {a:Addr}{vs:List V}{os:List O}{fp:List Addr}:N a->H a=some (.tup vs)->RoL L N H vs os fp->Ro L N H (.ref a) (.nd .tp os) fp
inductive RoL(L:Bool->V->D->Prop)(N:Addr->Prop)(H:Hp):List V->List O->List Addr->Prop
 |nil:RoL L N H [] [] []
 |cons {v:V}{o:O}{vs:List V}{os:List O}{fp fq:List Addr}:Ro L N H v o fp->RoL L N H vs os fq->RoL L N H (v::vs) (o::os) (fp++fq)
end
mutual
def O.toD:O->D
 | .lf _ d=>d
 | .nd .ls os=>.lst (O.toDs os)
 | .nd .tp os=>.tup (O.toDs os)
 | .nd (.dc ks) os=>.dct (ks.zip (O.toDs os))
 | .nd (.ob c ns) os=>.ob c ns (O.toDs os)
def O.toDs:List O->List D
 | []=>[]
 |o::r=>o.toD::O.toDs r
end
mutual
def O.str:O->Bool
 | .lf st _=>st
 | .nd _ os=>O.strs os
def O.strs:List O->Bool
 | []=>true
 |o::r=>o.str&&O.strs r
end
section
variable{L L':Bool->V->D->Prop}{N N':Addr->Prop}{H H':Hp}{K:zC}{kd:KD}{Ob:Addr->Prop}
theorem Ro.mono(hL:∀st v d,L st v d->L' st v d)(hN:∀a vs,N a->H a=some (.tup vs)->N' a/\H' a=some (.tup vs)){v:V}{o:O}{fp:List Addr}(k:∀a ∈ fp,∀u,H a=some u->H' a=some u)(h:Ro L N H v o fp):Ro L' N' H' v o fp:=
 Ro.rec (motive_1:=λv o fp _=>(∀a ∈ fp,∀u,H a=some u->H' a=some u)->Ro L' N' H' v o fp) (motive_2:=λvs os fp _=>(∀a ∈ fp,∀u,H a=some u->H' a=some u)->RoL L' N' H' vs os fp)
  (λh _=>.lf (hL _ _ _ h)) (λh _ r k=>.ls (k _ zzC _ h) (r λa m=>k a (zzA _ m))) (λh l _ r k=>.dc (k _ zzC _ h) l (r λa m=>k a (zzA _ m))) (λc h l _ r k=>.ob (hL _ _ _ c) (k _ zzC _ h) l (r λa m=>k a (zzA _ m))) (λn h _ r k=>.tp (hN _ _ n h).1 (hN _ _ n h).2 (r k))
  (λ_=>.nil) (λ_ _ h r k=>.cons (h λa m=>k a (zzM _ m)) (r λa m=>k a (zzI _ m))) h k
theorem RoL.ind{P:List V->List O->List Addr->Prop}(h0:P [] [] [])(h1:∀{v o vs os fp fq},Ro L N H v o fp->RoL L N H vs os fq->P vs os fq->P (v::vs) (o::os) (fp++fq)){vs:List V}{os:List O}{fp:List Addr}(h:RoL L N H vs os fp):P vs os fp:=
 RoL.rec (motive_1:=λ_ _ _ _=>True) (motive_2:=λvs os fp _=>P vs os fp) (λ_=>⟨⟩) (λ_ _ _=>⟨⟩) (λ_ _ _ _=>⟨⟩) (λ_ _ _ _ _=>⟨⟩) (λ_ _ _ _=>⟨⟩) h0 (λa r _ ih=>h1 a r ih) h
theorem RoL.mono(hL:∀st v d,L st v d->L' st v d)(hN:∀a vs,N a->H a=some (.tup vs)->N' a/\H' a=some (.tup vs)){vs:List V}{os:List O}{fp:List Addr}(k:∀a ∈ fp,∀u,H a=some u->H' a=some u)(h:RoL L N H vs os fp):RoL L' N' H' vs os fp:=
 RoL.ind (P:=λvs os fp=>(∀a ∈ fp,∀u,H a=some u->H' a=some u)->RoL L' N' H' vs os fp) (λ_=>.nil) (λh _ r k=>.cons (Ro.mono hL hN (λa m=>k a (zzM _ m)) h) (r λa m=>k a (zzI _ m))) h k
theorem zdp:∀{ks:List Key}{vs:List V}{ds:List D},RpL K kd Ob H vs ds->ks.length=vs.length->RpM K kd Ob H (ks.zip vs) (ks.zip ds)
 | [],_,_,_,_=>.nil
 |_::_,_,_,.nil,e=>by simp at e
 |_::_,_,_,.cons h r,e=>.cons h (zdp r (by simpa using e))
theorem Ro.rp(b:Bool)(hL:∀st v d,(b=true->st=true)->L st v d->Rp K kd Ob H v d)(hN:∀a,N a->¬Ob a){v:V}{o:O}{fp:List Addr}(s:b=true->o.str=true)(k:∀a ∈ fp,¬Ob a)(h:Ro L N H v o fp):Rp K kd Ob H v o.toD:=
 Ro.rec (motive_1:=λv o fp _=>(b=true->o.str=true)->(∀a ∈ fp,¬Ob a)->Rp K kd Ob H v o.toD) (motive_2:=λvs os fp _=>(b=true->O.strs os=true)->(∀a ∈ fp,¬Ob a)->RpL K kd Ob H vs (O.toDs os))
  (λh s _=>hL _ _ _ s h) (λh _ r s k=>.lst (k _ zzC) (.inl h) (r s λa m=>k a (zzA _ m))) (λh l _ r s k=>.dct (k _ zzC) (.inl h) (zdp (r s λa m=>k a (zzA _ m)) l)) (λc h l _ r s k=>by
   have e:=(hL _ _ _ (λ_=>rfl) c).cl_eq
   subst e
   exact .ob (k _ zzC) h l (r s λa m=>k a (zzA _ m))) (λn h _ r s k=>.tup (hN _ n) (.inl h) (r s k))
  (λ_ _=>.nil) (λ_ _ h r s k=>.cons (h (λz=>((zzZ _ _).mp (s z)).1) λa m=>k a (zzM _ m)) (r (λz=>((zzZ _ _).mp (s z)).2) λa m=>k a (zzI _ m))) h s k
theorem RoL.rp(b:Bool)(hL:∀st v d,(b=true->st=true)->L st v d->Rp K kd Ob H v d)(hN:∀a,N a->¬Ob a){vs:List V}{os:List O}{fp:List Addr}(s:b=true->O.strs os=true)(k:∀a ∈ fp,¬Ob a)(h:RoL L N H vs os fp):RpL K kd Ob H vs (O.toDs os):=
 RoL.ind (P:=λvs os fp=>(b=true->O.strs os=true)->(∀a ∈ fp,¬Ob a)->RpL K kd Ob H vs (O.toDs os)) (λ_ _=>.nil) (λh _ r s k=>.cons (Ro.rp b hL hN (λz=>((zzZ _ _).mp (s z)).1) (λa m=>k a (zzM _ m)) h) (r (λz=>((zzZ _ _).mp (s z)).2) λa m=>k a (zzI _ m))) h s k
theorem RoL.length{vs:List V}{os:List O}{fp:List Addr}(h:RoL L N H vs os fp):vs.length=os.length:=RoL.ind (P:=λvs os _=>vs.length=os.length) rfl (λ_ _ r=>congrArg (· + 1) r) h
theorem zcS:∀os:List O,(O.toDs os).length=os.length
 | []=>rfl
 |_::r=>congrArg (· + 1) (zcS r)
theorem RoL.append{vs ws:List V}{os ps:List O}{f g:List Addr}(h:RoL L N H vs os f)(r:RoL L N H ws ps g):RoL L N H (vs++ws) (os++ps) (f++g):=RoL.ind (P:=λvs os f=>RoL L N H (vs++ws) (os++ps) (f++g)) r (λh _ t=>by rw[zxA];exact .cons h t) h
theorem RoL.one{v:V}{o:O}{f:List Addr}(h:Ro L N H v o f):RoL L N H [v] [o] f:=by
 have:=RoL.cons h (RoL.nil (L:=L) (N:=N) (H:=H))
 rw[zyB]at this
 exact this
theorem RoL.at_{k:Nat}{o:O}:∀{vs:List V}{os:List O}{fp:List Addr},RoL L N H vs os fp->os[k]? = some o->∃v f fo g,vs[k]? = some v/\fp=f++(fo++g)/\Ro L N H v o fo/\RoL L N H (vs.take k) (os.take k) f/\RoL L N H (vs.drop (k+1)) (os.drop (k+1)) g:=by
 induction k with
 |zero=>
  intro vs os fp h e
  cases h with
  |nil=>cases e
  |cons h r=>
   rw[List.getElem?_cons_zero]at e
   cases e
   exact⟨_,[],_,_,rfl,rfl,h,.nil,r⟩
 |succ k ih=>
  intro vs os fp h e
  cases h with
  |nil=>cases e
  |cons h r=>
   rw[List.getElem?_cons_succ]at e
   obtain⟨v,f,fo,g,e1,e2,h1,h2,h3⟩:=ih r e
   subst e2
   exact⟨v,_,fo,g,by rw[List.getElem?_cons_succ];exact e1,(zxA _ _ _).symm,h1,.cons h h2,h3⟩
theorem zcO{α:Type}(l:List α)(k:Nat):l.eraseIdx k=l.take k++l.drop (k+1):=List.eraseIdx_eq_take_drop_succ l k
end
abbrev AS:=List (Option O)
abbrev Ad:=Nat->List Addr
def Gw(T:List Addr)(ad:Ad):Addr->Prop:=λa=>a ∈ T\/∃i,a ∈ ad i
abbrev Lv(F B G:Addr->Prop)(st:Bool):Addr->Prop:=Un2 (λa=>(st=true/\F a)\/B a) G
abbrev Lf(K:zC)(kd:KD)(F B G:Addr->Prop)(H:Hp):Bool->V->D->Prop:=λst v d=>Rp K kd (Lv F B G st) H v d
abbrev Nf(F B G:Addr->Prop):Addr->Prop:=λa=>¬Lv F B G true a
abbrev RoS(K:zC)(kd:KD)(F B G:Addr->Prop)(H:Hp):V->O->List Addr->Prop:=Ro (Lf K kd F B G H) (Nf F B G) H
abbrev vA(K:zC)(kd:KD)(F B G:Addr->Prop)(H:Hp):List V->List O->List Addr->Prop:=RoL (Lf K kd F B G H) (Nf F B G) H
def zer(K:zC)(kd:KD)(F B G:Addr->Prop)(H:Hp):Option O->Option (Option V)->List Addr->Prop
 |none,_,fp=>fp=[]
 |some o,s,fp=>∃v,s=some (some v)/\RoS K kd F B G H v o fp
structure Rel(K:zC)(kd:KD)(F B:Addr->Prop)(T:List Addr)(ad:Ad)(as:AS)(σ:St)(H:Hp):Prop where
 len:as.length=σ.length
 out:∀i,as.length<=i->ad i=[]
 nd:∀i,(ad i).Nodup
 inj:∀i j a,a ∈ ad i->a ∈ ad j->i=j
 tnd:T.Nodup
 dis:∀i a,a ∈ ad i->a ∉ T
 ftr:∀a,F a->H a≠none
 btr:∀a,B a->H a≠none/\¬F a/\¬Gw T ad a
 gtr:∀a,Gw T ad a->H a≠none/\¬F a
 sl:∀i s,as[i]? = some s->zer K kd F B (Gw T ad) H s σ[i]? (ad i)
inductive RV where
 |ow (o:O)|bo (i:Nat)
def vP(K:zC)(kd:KD)(F B:Addr->Prop)(T:List Addr)(ad:Ad)(σ:St)(H:Hp)(v:V):RV->Prop
 | .ow o=>RoS K kd F B (Gw T ad) H v o T
 | .bo i=>T=[]/\σ[i]? = some (some v)
def O.frz(o:O):O:=.lf o.str o.toD
def RV.frz:RV->RV
 | .ow o=>.ow o.frz
 | .bo i=>.bo i
def O.isLf:O->Bool
 | .lf _ _=>true
 |_=>false
def O.kl:O->Option Bool
 | .lf st _=>some st
 | .nd _ os=>if os.all O.isLf=true then some (O.strs os)else none
def RV.view(as:AS):RV->Option (D×Option Bool)
 | .ow o=>some (o.toD,some o.str)
 | .bo i=>match as[i]? with
  |some (some o)=>some (o.toD,o.kl)
  |_=>none
def Obl(F B G:Addr->Prop):Option Bool->Addr->Prop
 |some st=>Lv F B G st
 |none=>λ_=>False
section
variable{K:zC}{kd:KD}{F B F' B':Addr->Prop}{G G':Addr->Prop}{T T':List Addr}{ad ad1:Ad}{as as1:AS}{σ:St}{H H1 H':Hp}{v:V}{r:RV}{o:O}{fp:List Addr}{vs:List V}{os:List O}
theorem RoS.grow(g:Grow G H G' H')(k:∀a ∈ fp,∀u,H a=some u->H' a=some u)(h:RoS K kd F B G H v o fp):RoS K kd F B G' H' v o fp:=
 Ro.mono (λst v d r=>Rp.grow g r) (λa vs n e=>⟨λz=>z.elim (λy=>n (.inl y)) λy=>(g.own a y).elim (λw=>n (.inr w)) λw=>(by rw[w]at e;cases e),g.keep a _ e (λw=>n (.inr w))⟩) k h
theorem vA.grow(g:Grow G H G' H')(k:∀a ∈ fp,∀u,H a=some u->H' a=some u)(h:vA K kd F B G H vs os fp):vA K kd F B G' H' vs os fp:=
 RoL.mono (λst v d r=>Rp.grow g r) (λa vs n e=>⟨λz=>z.elim (λy=>n (.inl y)) λy=>(g.own a y).elim (λw=>n (.inr w)) λw=>(by rw[w]at e;cases e),g.keep a _ e (λw=>n (.inr w))⟩) k h
theorem RoS.lv(g:∀st a,Lv F' B' G' st a->Lv F B G st a)(h:RoS K kd F B G H v o fp):RoS K kd F' B' G' H v o fp:=
 Ro.mono (λst v d r=>r.less (g st)) (λa vs n e=>⟨λz=>n (g true a z),e⟩) (λ_ _ _ e=>e) h
theorem vA.lv(g:∀st a,Lv F' B' G' st a->Lv F B G st a)(h:vA K kd F B G H vs os fp):vA K kd F' B' G' H vs os fp:=
 RoL.mono (λst v d r=>r.less (g st)) (λa vs n e=>⟨λz=>n (g true a z),e⟩) (λ_ _ _ e=>e) h
theorem RoS.less(g:∀a,G' a->G a)(h:RoS K kd F B G H v o fp):RoS K kd F B G' H v o fp:=RoS.lv (λ_ a z=>z.elim .inl λy=>.inr (g a y)) h
theorem vA.less(g:∀a,G' a->G a)(h:vA K kd F B G H vs os fp):vA K kd F B G' H vs os fp:=vA.lv (λ_ a z=>z.elim .inl λy=>.inr (g a y)) h
theorem Gw.drop:∀a,Gw [] ad a->Gw T ad a:=λ_ h=>h.elim (λz=>nomatch z) .inr
theorem Rel.trk(R:Rel K kd F B T ad as σ H)(st:Bool):∀a,Lv F B (Gw T ad) st a->H a≠none:=λa h=>by
 rcases h with(h|h)|h
 · exact R.ftr a h.2
 · exact(R.btr a h).1
 · exact(R.gtr a h).1
theorem Rel.tr(R:Rel K kd F B T ad as σ H)(lv:Option Bool):∀a,Obl F B (Gw T ad) lv a->H a≠none:=λa h=>by
 cases lv with
 |none=>exact h.elim
 |some st=>exact R.trk st a h
theorem zer.lv{s:Option O}{x:Option (Option V)}(g:∀st a,Lv F' B' G' st a->Lv F B G st a)(h:zer K kd F B G H s x fp):zer K kd F' B' G' H s x fp:=by
 cases s with
 |none=>exact h
 |some o=>obtain⟨v,e,r⟩:=h;exact⟨v,e,RoS.lv g r⟩
theorem zer.less{s:Option O}{x:Option (Option V)}(g:∀a,G' a->G a)(h:zer K kd F B G H s x fp):zer K kd F B G' H s x fp:=h.lv (λ_ a z=>z.elim .inl λy=>.inr (g a y))
theorem zer.grow{s:Option O}{x:Option (Option V)}(g:Grow G H G' H')(k:∀a ∈ fp,∀u,H a=some u->H' a=some u)(h:zer K kd F B G H s x fp):zer K kd F B G' H' s x fp:=by
 cases s with
 |none=>exact h
 |some o=>obtain⟨v,e,r⟩:=h;exact⟨v,e,RoS.grow g k r⟩
theorem Rel.drop(R:Rel K kd F B T ad as σ H):Rel K kd F B [] ad as σ H where
 len:=R.len
 out:=R.out
 nd:=R.nd
 inj:=R.inj
 tnd:=zyG
 dis:=λ_ _ _ z=>nomatch z
 ftr:=R.ftr
 btr:=λa h=>let⟨h1,h2,h3⟩:=R.btr a h;⟨h1,h2,λz=>h3 (Gw.drop a z)⟩
 gtr:=λa h=>R.gtr a (Gw.drop a h)
 sl:=λi s e=>(R.sl i s e).less Gw.drop
theorem zia(R:Rel K kd F B T ad as σ H)(h:RoS K kd F B (Gw T ad) H v o T):Rp K kd (Lv F B (Gw [] ad) o.str) H v o.toD:=
 Ro.rp o.str (λst v d hs r=>r.less λa z=>z.elim (λy=>.inl (y.elim (λx=>.inl ⟨hs x.1,x.2⟩) .inr)) λy=>.inr (Gw.drop a y))
  (λa n z=>n (z.elim (λy=>.inl (y.elim (λx=>.inl ⟨rfl,x.2⟩) .inr)) λy=>.inr (Gw.drop a y))) id
  (λa m z=>by
   rcases z with(z|z)|z|⟨i,z⟩
   · exact(R.gtr a (.inl m)).2 z.2
   · exact(R.btr a z).2.2 (.inl m)
   · cases z
   · exact R.dis i a z m) h
theorem vP.drop(R:Rel K kd F B T ad as σ H)(h:vP K kd F B T ad σ H v r):vP K kd F B [] ad σ H v r.frz:=by
 cases r with
 |ow o=>exact .lf (zia R h)
 |bo i=>exact⟨rfl,h.2⟩
theorem vP.grow(g:Grow (Gw [] ad) H (Gw [] ad1) H1)(h:vP K kd F B [] ad σ H v r):vP K kd F B [] ad1 σ H1 v r:=by
 cases r with
 |ow o=>exact RoS.grow g (λ_ m=>nomatch m) h
 |bo i=>exact h
theorem zlF{vs:List V}{os:List O}{fp:List Addr}(h:vA K kd F B G H vs os fp):os.all O.isLf=true->fp=[]:=
 RoL.ind (P:=λ_ os fp=>os.all O.isLf=true->fp=[]) (λ_=>rfl) (λh _ ih e=>by
  rw[List.all_cons,zzZ]at e
  rw[ih e.2,zyB]
  cases h with
  |lf=>rfl
  |ls=>cases e.1
  |dc=>cases e.1
  |ob=>cases e.1
  |tp=>cases e.1) h
theorem zdJ{st:Bool}{b:Bool}(hs:b=true->st=true):∀a,Lv F B G b a->Lv F B G st a:=λa z=>z.elim (λy=>.inl (y.elim (λx=>.inl ⟨hs x.1,x.2⟩) .inr)) .inr
theorem zdz(h:vA K kd F B G H vs os fp)(e:os.all O.isLf=true):RpL K kd (Lv F B G (O.strs os)) H vs (O.toDs os):=by
 have:=zlF h e
 subst this
 exact RoL.rp (O.strs os) (λst v d hs r=>r.less (zdJ hs)) (λa n z=>n (zdJ (λ_=>rfl) a z)) id (by intro a m;cases m) h
theorem zbe(h:vA K kd F B G H vs os fp):RpL K kd (λ_=>False) H vs (O.toDs os):=RoL.rp false (λst v d _ r=>r.less λ_ z=>z.elim) (λ_ _ z=>z) (λz=>Bool.noConfusion z) (λ_ _ z=>z) h
theorem zga(h:RoS K kd F B G H v o fp):Rp K kd (λ_=>False) H v o.toD:=Ro.rp false (λst v d _ r=>r.less λ_ z=>z.elim) (λ_ _ z=>z) (λz=>Bool.noConfusion z) (λ_ _ z=>z) h
theorem zgl(h:RoS K kd F B G H v o []):Rp K kd (Lv F B G o.str) H v o.toD:=
 Ro.rp o.str (λst v d hs r=>r.less (zdJ hs)) (λa n z=>n (zdJ (λ_=>rfl) a z)) id (by intro a m;cases m) h
theorem RoS.vw(h:RoS K kd F B G H v o fp):Vw K kd (Obl F B G o.kl) H v o.toD:=by
 cases h with
 |lf h=>exact h.vw
 |ls hH r=>
  rename_i a vs' os' fp'
  show Vw K kd (Obl F B G (if os'.all O.isLf=true then some (O.strs os')else none)) H _ (.lst (O.toDs os'))
  by_cases e:os'.all O.isLf=true
  · rw[if_pos e];exact .lst (.inl (.inl hH)) (zdz r e)
  · rw[if_neg e];exact .lst (.inl (.inl hH)) (zbe r)
 |dc hH l r=>
  rename_i a ks vs' os' fp'
  show Vw K kd (Obl F B G (if os'.all O.isLf=true then some (O.strs os')else none)) H _ (.dct (ks.zip (O.toDs os')))
  by_cases e:os'.all O.isLf=true
  · rw[if_pos e];exact .dct (.inl (.inl hH)) (zdp (zdz r e) l)
  · rw[if_neg e];exact .dct (.inl (.inl hH)) (zdp (zbe r) l)
 |ob hc hH l r=>
  rename_i a dx C c ns vs' os' fp'
  have ec:C=kd.c c:=hc.cl_eq
  subst ec
  show Vw K kd (Obl F B G (if os'.all O.isLf=true then some (O.strs os')else none)) H _ (.ob c ns (O.toDs os'))
  by_cases e:os'.all O.isLf=true
  · rw[if_pos e];exact .ob hH l (zdz r e)
  · rw[if_neg e];exact .ob hH l (zbe r)
 |tp n hH r=>
  rename_i a vs' os'
  show Vw K kd (Obl F B G (if os'.all O.isLf=true then some (O.strs os')else none)) H _ (.tup (O.toDs os'))
  by_cases e:os'.all O.isLf=true
  · rw[if_pos e]
    have rl:=zdz r e
    exact .tup (.tup (λz=>n (zdJ (λ_=>rfl) _ z)) (.inl hH) rl) (.inl (.inl hH)) rl
  · rw[if_neg e];exact .tup (.tup (λz=>z) (.inl hH) (zbe r)) (.inl (.inl hH)) (zbe r)
theorem vP.vw(R:Rel K kd F B [] ad as σ H)(h:vP K kd F B [] ad σ H v r){d:D}{lv:Option Bool}(e:r.view as=some (d,lv)):Vw K kd (Obl F B (Gw [] ad) lv) H v d:=by
 cases r with
 |ow o=>
  cases e
  exact(zgl h).vw
 |bo i=>
  have e:(match as[i]? with|some (some o)=>some (o.toD,o.kl)|_=>none)=some (d,lv):=e
  cases k:as[i]? with
  |none=>rw[k]at e;cases e
  |some s=>
   cases s with
   |none=>rw[k]at e;cases e
   |some o=>
    rw[k]at e
    cases e
    obtain⟨w,hw,ro⟩:=R.sl i _ k
    rw[h.2]at hw
    cases hw
    exact ro.vw
theorem Rel.add{N:List Addr}(R:Rel K kd F B T ad as σ H)(hn:N.Nodup)(hl:∀a ∈ N,H a=none)(k:∀b u,H b=some u->H' b=some u)(h1:∀a ∈ N,H' a≠none):Rel K kd F B (N++T) ad as σ H'/\Grow (Gw T ad) H (Gw (N++T) ad) H':=by
 have g:Grow (Gw T ad) H (Gw (N++T) ad) H':=⟨λb u h _=>k b u h,λb h=>by
  rcases h with h|h
  · rcases zzJ.mp h with h|h
    · exact .inr (hl b h)
    · exact .inl (.inl h)
  · exact .inl (.inr h)⟩
 have kn:∀a,H a≠none->H' a≠none:=λa z=>by
  cases e:H a with
  |none=>exact absurd e z
  |some u=>rw[k a u e];simp
 refine⟨⟨R.len,R.out,R.nd,R.inj, ?_,λi a m z=>?_,λa z=>kn a (R.ftr a z),λa z=>?_,λa z=>?_,λi s e=>(R.sl i s e).grow g λa _ u h=>k a u h⟩,g⟩
 · refine zxC.mpr ⟨hn,R.tnd,λa m b m' e=>?_⟩
   subst e
   exact(R.gtr a (.inl m')).1 (hl a m)
 · rcases zzJ.mp z with z|z
   · exact(R.gtr a (.inr ⟨i,m⟩)).1 (hl a z)
   · exact R.dis i a m z
 · obtain⟨b1,b2,b3⟩:=R.btr a z
   refine⟨kn a b1,b2,λy=>?_⟩
   rcases y with y|y
   · rcases zzJ.mp y with y|y
     · exact b1 (hl a y)
     · exact b3 (.inl y)
   · exact b3 (.inr y)
 · rcases z with z|z
   · rcases zzJ.mp z with z|z
     · exact⟨h1 a z,λf=>R.ftr a f (hl a z)⟩
     · exact⟨kn a (R.gtr a (.inl z)).1,(R.gtr a (.inl z)).2⟩
   · exact⟨kn a (R.gtr a (.inr z)).1,(R.gtr a (.inr z)).2⟩
theorem Rel.more(R:Rel K kd F B T ad as σ H)(k:∀b u,H b=some u->H' b=some u):Rel K kd F B T ad as σ H'/\Grow (Gw T ad) H (Gw T ad) H':=
 R.add (N:=[]) zyG (λ_ m=>nomatch m) k (λ_ m=>nomatch m)
theorem Rel.news(R:Rel K kd F B [] ad as σ H)(hn:T'.Nodup)(hl:∀a ∈ T',H a=none)(k:∀b u,H b=some u->H' b=some u)(h1:∀a ∈ T',H' a≠none):Rel K kd F B T' ad as σ H'/\Grow (Gw [] ad) H (Gw T' ad) H':=by
 have:=R.add hn hl k h1
 rw[zyB]at this
 exact this
end
inductive R0 where
 |im (d:D)|fl (ds:List D)|fd (kvs:List (Key×D))
def RQ(K:zC)(kd:KD)(O:Addr->Prop)(H:Hp)(Q:VK):R0->Prop
 | .im d=>∀v H',(∀b o,H b=some o->H' b=some o)->Rp K kd O H' v d->Q v H'
 | .fl ds=>∀l vs H',H l=none->(∀b o,H b=some o->H' b=some o)->H' l=some (.lst vs)->RpL K kd (Un2 O (· = l)) H' vs ds->Q (.ref l) H'
 | .fd ds=>∀l vs H',H l=none->(∀b o,H b=some o->H' b=some o)->H' l=some (.dK vs)->RpM K kd (Un2 O (· = l)) H' vs ds->Q (.ref l) H'
def wrap(lv:Option Bool):R0->Option RV
 | .im d=>if(yd d||lv.isSome)=true then some (.ow (lfs (lv.getD false) d))else none
 | .fl ds=>if(ds.all yd||lv.isSome)=true then some (.ow (.nd .ls (ds.map (lfs (lv.getD false)))))else none
 | .fd kvs=>if((kvs.map (·.2)).all yd||lv.isSome)=true then some (.ow (.nd (.dc (kvs.map (·.1))) ((kvs.map (·.2)).map (lfs (lv.getD false)))))else none
theorem bS_{α β:Type}{o:Option α}{f:α->Option β}{b:β}(h:o.bind f=some b):∃a,o=some a/\f a=some b:=by
 cases o with
 |none=>cases h
 |some a=>exact⟨a,rfl,h⟩
theorem ite_some'{α:Type}{c:Prop}[Decidable c]{a:Option α}{b:α}(h:(if c then a else none)=some b):c/\a=some b:=by
 by_cases hc:c
 · rw[if_pos hc]at h;exact⟨hc,h⟩
 · rw[if_neg hc]at h;cases h
theorem zO{α:Type}{c:Prop}[Decidable c]{a b:α}(h:(if c then some a else none)=some b):c/\a=b:=by
 by_cases hc:c
 · rw[if_pos hc]at h;cases h;exact⟨hc,rfl⟩
 · rw[if_neg hc]at h;cases h
section
variable{K:zC}{kd:KD}{F B:Addr->Prop}{G:Addr->Prop}{ad:Ad}{as:AS}{σ:St}{H H':Hp}{v:V}{r:R0}{rv:RV}{Q:VK}{lv:Option Bool}
theorem zpm{Ob:Addr->Prop}{d:D}(h:yd d=true\/lv.isSome=true)(hO:∀st,lv=some st->∀a,Lv F B G st a->Ob a)(rp:Rp K kd Ob H v d):Lf K kd F B G H (yd d||lv.getD false) v d:=by
 cases e:yd d with
 |true=>exact rp.flat e
 |false=>
  rw[e]at h
  cases lv with
  |none=>rcases h with h|h<;>cases h
  |some st=>exact rp.less (hO st rfl)
theorem zlh{Ob:Addr->Prop}{N:Addr->Prop}(hO:∀st,lv=some st->∀a,Lv F B G st a->Ob a){vs:List V}{ds:List D}(e:(ds.all yd||lv.isSome)=true)(h:RpL K kd Ob H vs ds):RoL (Lf K kd F B G H) N H vs (ds.map (lfs (lv.getD false))) []:=
 RpL.ind (P:=λvs ds=>(ds.all yd||lv.isSome)=true->RoL (Lf K kd F B G H) N H vs (ds.map (lfs (lv.getD false))) []) (λ_=>.nil) (λ{v d vs ds} h _ ih e=>by
  rw[List.all_cons]at e
  have e1:yd d=true\/lv.isSome=true:=by
   cases h1:lv.isSome<;>cases h2:yd d<;>simp[h1,h2]at e ⊢
  have e2:(ds.all yd||lv.isSome)=true:=by
   cases h1:lv.isSome with
   |true=>simp
   |false=>
    rw[h1,Bool.or_false,zzZ]at e
    rw[Bool.or_false];exact e.2
  exact RoL.cons (.lf (zpm e1 hO h)) (ih e2)) h e
theorem zjQ{O:Addr->Prop}{vs:List (Key×V)}{ds:List (Key×D)}(h:RpM K kd O H vs ds):vs=(ds.map (·.1)).zip (vs.map (·.2))/\RpL K kd O H (vs.map (·.2)) (ds.map (·.2)):=
 RpM.ind (P:=λvs ds=>vs=(ds.map (·.1)).zip (vs.map (·.2))/\RpL K kd O H (vs.map (·.2)) (ds.map (·.2))) ⟨rfl,.nil⟩ (λh _ ih=>by
  obtain⟨h1,h2⟩:=ih
  refine⟨?_,.cons h h2⟩
  conv=>lhs;rw[h1]
  rfl) h
theorem WL(R:Rel K kd F B [] ad as σ H)(e:wrap lv r=some rv)(q:∀v T' H',Rel K kd F B T' ad as σ H'->vP K kd F B T' ad σ H' v rv->Grow (Gw [] ad) H (Gw T' ad) H'->Q v H'):RQ K kd (Obl F B (Gw [] ad) lv) H Q r:=by
 have hO:∀(l:List Addr) st,lv=some st->∀a,Lv F B (Gw l ad) st a->Un2 (Obl F B (Gw [] ad) lv) (· ∈ l) a:=by
  intro l st e a z
  subst e
  rcases z with z|z|z
  · exact .inl (.inl z)
  · exact .inr z
  · exact .inl (.inr (.inr z))
 cases r with
 |im d=>
  obtain⟨c,rfl⟩:=zO e
  intro v H' k rp
  obtain⟨R',g⟩:=R.more k
  refine q v [] H' R' (.lf (zpm ((Bool.or_eq_true _ _).mp c) (λst e a z=>?_) rp)) g
  exact(hO [] st e a z).elim id λm=>nomatch m
 |fl ds=>
  obtain⟨c,rfl⟩:=zO e
  intro l vs H' hl k hl' rp
  obtain⟨R',g⟩:=R.news (T':=[l]) (by simp) (λa m=>by rw[zzO.mp m];exact hl) k (λa m=>by rw[zzO.mp m,hl'];simp)
  exact q _ [l] H' R' (.ls hl' (zlh (λst e a z=>(hO [l] st e a z).elim .inl λm=>.inr (zzO.mp m)) c rp)) g
 |fd ds=>
  obtain⟨c,rfl⟩:=zO e
  intro l vs H' hl k hl' rp
  obtain⟨R',g⟩:=R.news (T':=[l]) (by simp) (λa m=>by rw[zzO.mp m];exact hl) k (λa m=>by rw[zzO.mp m,hl'];simp)
  obtain⟨e1,r1⟩:=zjQ rp
  refine q _ [l] H' R' (.dc (vs:=vs.map (·.2)) (by rw[hl',<-e1]) (by rw[zD,zD,rp.length]) (zlh (λst e a z=>(hO [l] st e a z).elim .inl λm=>.inr (zzO.mp m)) c r1)) g
end
abbrev EF:=AS->Option (RV×AS)
def al(K:zC)(kd:KD)(f:EF):TE:=λσ H Q=>∃F B ad as r as',Rel K kd F B [] ad as σ H/\f as=some (r,as')/\
 ∀v T' ad' H',Rel K kd F B T' ad' as' σ H'->vP K kd F B T' ad' σ H' v r->Grow (Gw [] ad) H (Gw T' ad') H'->Q v H'
@[irreducible] def AE(X:Cx)(kd:KD)(e:Expr)(f:EF):Prop:=PE X e (al X.K kd f)
theorem yX{X:Cx}{e:Expr}{t t':TE}(h:PE X e t)(k:∀σ H Q,t' σ H Q->t σ H Q):PE X e t':=λpins s σ H Q I q=>h pins s σ H Q I (k σ H Q q)
section
variable{K:zC}{kd:KD}{F B:Addr->Prop}{ad:Ad}{as as1:AS}{σ:St}{H:Hp}{r:RV}{f:EF}{P:VK}
theorem Wx(R:Rel K kd F B [] ad as σ H)(e:f as=some (r,as1))(k:∀v ad1 H1,Rel K kd F B [] ad1 as1 σ H1->vP K kd F B [] ad1 σ H1 v r.frz->Grow (Gw [] ad) H (Gw [] ad1) H1->P v H1):al K kd f σ H P:=
 ⟨F,B,ad,as,r,as1,R,e,λv T' ad' H' R' rv g=>k v ad' H' R'.drop (vP.drop R' rv) (g.trans (Grow.less Gw.drop))⟩
end
def OpD(X:Cx)(kd:KD)(f:Value->Value->Sem Value)(g:D->D->Option R0):Prop:=
 OpR X f (λx y H Q=>∃O d e r,(∀a,O a->H a≠none)/\Vw X.K kd O H x d/\Vw X.K kd O H y e/\g d e=some r/\RQ X.K kd O H Q r)
inductive VwL(K:zC)(kd:KD)(O:Addr->Prop)(H:Hp):List V->List D->Prop
 |nil:VwL K kd O H [] []
 |cons {v:V}{d:D}{vs:List V}{ds:List D}:Vw K kd O H v d->VwL K kd O H vs ds->VwL K kd O H (v::vs) (d::ds)
def CallD(X:Cx)(kd:KD)(f:Value)(g:List D->Option R0):Prop:=
 VN X f (λxs H Q=>∃O ds r,(∀a,O a->H a≠none)/\VwL X.K kd O H xs ds/\g ds=some r/\RQ X.K kd O H Q r)
def IxD(X:Cx)(kd:KD)(g:D->D->Option R0):Prop:=
 IxR X (λx y H Q=>∃O d e r,(∀a,O a->H a≠none)/\Vw X.K kd O H x d/\Vw X.K kd O H y e/\g d e=some r/\RQ X.K kd O H Q r)
def meet:Option Bool->Option Bool->Option Bool
 |some a,some b=>some (a&&b)
 |_,_=>none
theorem Obl.meet1{F B G:Addr->Prop}{a b:Option Bool}:∀x,Obl F B G (meet a b) x->Obl F B G a x:=λx h=>by
 cases a with
 |none=>cases b<;>exact h.elim
 |some p=>
  cases b with
  |none=>exact h.elim
  |some q=>exact zdJ (λz=>((zzZ _ _).mp z).1) x h
theorem Obl.meet2{F B G:Addr->Prop}{a b:Option Bool}:∀x,Obl F B G (meet a b) x->Obl F B G b x:=λx h=>by
 cases a with
 |none=>cases b<;>exact h.elim
 |some p=>
  cases b with
  |none=>exact h.elim
  |some q=>exact zdJ (λz=>((zzZ _ _).mp z).2) x h
theorem Vw.less{K:zC}{kd:KD}{O O':Addr->Prop}{H:Hp}{v:V}{d:D}(g:∀a,O' a->O a)(h:Vw K kd O H v d):Vw K kd O' H v d:=by
 cases h with
 |non=>exact .non
 |bl b=>exact .bl b
 |int i=>exact .int i
 |str x=>exact .str x
 |tup r s l=>exact .tup (r.less g) s (l.less g)
 |lst h l=>exact .lst h (l.less g)
 |dct h l=>exact .dct h (l.less g)
 |cl c=>exact .cl c
 |ob h k l=>exact .ob h k (l.less g)
 |er h k l=>exact .er h k (l.less g)
def f2(fa fb:EF)(g:D->D->Option R0):EF:=λas=>(fa as).bind λp=>(fb p.2).bind λq=>(p.1.frz.view q.2).bind λx=>(q.1.frz.view q.2).bind λy=>(g x.1 y.1).bind λr=>(wrap (meet x.2 y.2) r).bind λz=>some (z,q.2)
theorem ziN{fa fb:EF}{g:D->D->Option R0}{as as':AS}{rv:RV}(h:f2 fa fb g as=some (rv,as')):
 ∃p as1 q x y lx ly r,fa as=some (p,as1)/\fb as1=some (q,as')/\p.frz.view as'=some (x,lx)/\q.frz.view as'=some (y,ly)/\g x y=some r/\wrap (meet lx ly) r=some rv:=by
 unfold f2 at h
 obtain⟨⟨p,as1⟩,h1,h⟩:=bS_ h
 obtain⟨⟨q,as2⟩,h2,h⟩:=bS_ h
 obtain⟨⟨x,lx⟩,h3,h⟩:=bS_ h
 obtain⟨⟨y,ly⟩,h4,h⟩:=bS_ h
 obtain⟨r,h5,h⟩:=bS_ h
 obtain⟨z,h6,h⟩:=bS_ h
 cases h
 exact⟨p,as1,q,x,y,lx,ly,r,h1,h2,h3,h4,h5,h6⟩
section
variable{X:Cx}{kd:KD}{a b c:Expr}{fa fb fc:EF}{pos:Pos}
theorem al2{g:D->D->Option R0}{R2':R2}(hr:∀x y H Q,(∃O d e r,(∀a,O a->H a≠none)/\Vw X.K kd O H x d/\Vw X.K kd O H y e/\g d e=some r/\RQ X.K kd O H Q r)->R2' x y H Q)
 {σ:St}{H:Hp}{Q:VK}(h:al X.K kd (f2 fa fb g) σ H Q):tOp R2' (al X.K kd fa) (al X.K kd fb) σ H Q:=by
 obtain⟨F,B,ad,as,r,as',R,e,q⟩:=h
 obtain⟨p,as1,z,x,y,lx,ly,r0,h1,h2,h3,h4,h5,h6⟩:=ziN e
 refine Wx R h1 λv ad1 H1 R1 rv1 g1=>Wx R1 h2 λu ad2 H2 R2 rv2 g2=>hr _ _ _ _ ?_
 exact⟨_,x,y,r0,R2.tr _,(vP.vw R2 (rv1.grow g2) h3).less Obl.meet1,(vP.vw R2 rv2 h4).less Obl.meet2,h5,WL R2 h6 λw T' H' R' rv' g'=>q w T' ad2 H' R' rv' ((g1.trans g2).trans g')⟩
theorem zp{op:Operator}{g:D->D->Option R0}(ho:OpD X kd (binaryOp op) g)(ha:AE X kd a fa)(hb':AE X kd b fb):AE X kd (.BinOp a op b pos) (f2 fa fb g):=by with_unfolding_all exact(yX (zmG ho ha hb') λσ H Q h=>al2 (λ_ _ _ _ z=>z) h)
theorem zaR{op:CmpOp}{g:D->D->Option R0}(ho:OpD X kd (compareOp op) g)(ha:AE X kd a fa)(hb':AE X kd b fb)(hm:behindInMarks op b=false):AE X kd (.Compare a [op] [b] pos) (f2 fa fb g):=by with_unfolding_all exact(yX (zoq ho ha hb' hm) λσ H Q h=>al2 (λ_ _ _ _ z=>z) h)
theorem zsa{g:D->D->Option R0}(ho:IxD X kd g)(ha:AE X kd a fa)(hb':AE X kd b fb)(hm:Y6 b):AE X kd (.Subscript a b pos) (f2 fa fb g):=by with_unfolding_all exact(yX (zfe ho ha hb' hm) λσ H Q h=>al2 (λ_ _ _ _ z=>z) h)
def fC(d:D):EF:=λas=>some (.ow (.lf true d),as)
def fV(i:Nat):EF:=λas=>match as[i]? with
 |some (some (.lf st d))=>some (.ow (.lf st d),as)
 |some (some (.nd _ _))=>some (.bo i,as)
 |_=>none
theorem zgz{v:V}{d:D}(h:PE X a (tC v))(hr:∀O H,Rp X.K kd O H v d):AE X kd a (fC d):=by with_unfolding_all exact(yX h λσ H Q h=>by
 obtain⟨F,B,ad,as,r,as',R,e,q⟩:=h
 cases e
 exact q v [] ad H R (.lf (hr _ _)) Grow.refl)
theorem zqc{i:Nat}(h:PE X a (zcn i)):AE X kd a (fV i):=by with_unfolding_all exact(yX h λσ H Q h=>by
 obtain⟨F,B,ad,as,r,as',R,e,q⟩:=h
 unfold fV at e
 cases k:as[i]? with
 |none=>rw[k]at e;cases e
 |some s=>
  rw[k]at e
  cases s with
  |none=>cases e
  |some o=>
   obtain⟨v,h1,h2⟩:=R.sl i _ k
   cases o with
   |lf st d=>
    cases e
    have e0:ad i=[]:=by
     generalize hfp:ad i=fp at h2
     cases h2
     rfl
    rw[e0]at h2
    exact⟨v,h1,q v [] ad H R h2 Grow.refl⟩
   |nd kk os=>
    cases e
    exact⟨_,h1,q _ [] ad H R ⟨rfl,h1⟩ Grow.refl⟩)
end
def vp(ad:Ad)(i:Nat)(x:List Addr):Ad:=λj=>if j=i then x else ad j
section
variable{K:zC}{kd:KD}{F B:Addr->Prop}{T T1 T2:List Addr}{ad ad1:Ad}{as as1:AS}{σ:St}{H H1:Hp}{v:V}{r:RV}{o:O}{i:Nat}
theorem zH{x:List Addr}:vp ad i x i=x:=if_pos rfl
theorem zL{j:Nat}{x:List Addr}(h:j≠i):vp ad i x j=ad j:=if_neg h
theorem xT:∀a,Gw T (vp ad i []) a->Gw T ad a:=λa h=>by
 rcases h with h|⟨j,h⟩
 · exact .inl h
 · by_cases e:j=i
   · subst e;rw[zH]at h;cases h
   · rw[zL e]at h;exact .inr ⟨j,h⟩
theorem Yx:∀a,Gw [] (vp ad i T) a->Gw T ad a:=λa h=>by
 rcases h with h|⟨j,h⟩
 · cases h
 · by_cases e:j=i
   · subst e;rw[zH]at h;exact .inl h
   · rw[zL e]at h;exact .inr ⟨j,h⟩
theorem zjm:∀st a,Lv F (λa=>B a\/a ∈ T) (Gw [] ad) st a->Lv F B (Gw T ad) st a:=λst a z=>by
 rcases z with(z|z|z)|z
 · exact .inl (.inl z)
 · exact .inl (.inr z)
 · exact .inr (.inl z)
 · exact .inr (Gw.drop a z)
theorem zbM:∀st a,Lv F B (Gw (T1++T2) ad) st a->Lv F (λa=>B a\/a ∈ T1) (Gw T2 ad) st a:=λst a z=>by
 rcases z with(z|z)|z|z
 · exact .inl (.inl z)
 · exact .inl (.inr (.inl z))
 · rcases zzJ.mp z with z|z
   · exact .inl (.inr (.inr z))
   · exact .inr (.inl z)
 · exact .inr (.inr z)
theorem Rel.hide(R:Rel K kd F B T ad as σ H):Rel K kd F (λa=>B a\/a ∈ T) [] ad as σ H where
 len:=R.len
 out:=R.out
 nd:=R.nd
 inj:=R.inj
 tnd:=zyG
 dis:=λ_ _ _ z=>nomatch z
 ftr:=R.ftr
 btr:=λa h=>by
  rcases h with h|h
  · obtain⟨h1,h2,h3⟩:=R.btr a h
    exact⟨h1,h2,λz=>h3 (Gw.drop a z)⟩
  · exact⟨(R.gtr a (.inl h)).1,(R.gtr a (.inl h)).2,λz=>z.elim (λm=>nomatch m) λ⟨j,y⟩=>R.dis j a y h⟩
 gtr:=λa h=>R.gtr a (Gw.drop a h)
 sl:=λi s e=>(R.sl i s e).lv zjm
theorem Rel.unhide(hn:T1.Nodup)(hb:∀a ∈ T1,¬B a)(R:Rel K kd F (λa=>B a\/a ∈ T1) T2 ad as σ H):Rel K kd F B (T1++T2) ad as σ H where
 len:=R.len
 out:=R.out
 nd:=R.nd
 inj:=R.inj
 tnd:=zxC.mpr ⟨hn,R.tnd,λa m b m' e=>by subst e;exact(R.btr a (.inr m)).2.2 (.inl m')⟩
 dis:=λi a m z=>by
  rcases zzJ.mp z with z|z
  · exact(R.btr a (.inr z)).2.2 (.inr ⟨i,m⟩)
  · exact R.dis i a m z
 ftr:=R.ftr
 btr:=λa h=>by
  obtain⟨h1,h2,h3⟩:=R.btr a (.inl h)
  refine⟨h1,h2,λz=>?_⟩
  rcases z with z|z
  · rcases zzJ.mp z with z|z
    · exact hb a z h
    · exact h3 (.inl z)
  · exact h3 (.inr z)
 gtr:=λa h=>by
  rcases h with h|h
  · rcases zzJ.mp h with h|h
    · exact⟨(R.btr a (.inr h)).1,(R.btr a (.inr h)).2.1⟩
    · exact R.gtr a (.inl h)
  · exact R.gtr a (.inr h)
 sl:=λi s e=>(R.sl i s e).lv zbM
theorem Rel.frz(R:Rel K kd F B T ad as σ H)(h:as[i]? = some (some o)):
 Rel K kd F B T (vp ad i []) (as.set i (some o.frz)) σ H/\∃v,σ[i]? = some (some v)/\Rp K kd (Lv F B (Gw T (vp ad i [])) o.str) H v o.toD:=by
 obtain⟨v,hv,ro⟩:=R.sl i _ h
 have rp:Rp K kd (Lv F B (Gw T (vp ad i [])) o.str) H v o.toD:=
  Ro.rp o.str (λst v d hs r=>r.less λa z=>z.elim (λy=>.inl (y.elim (λx=>.inl ⟨hs x.1,x.2⟩) .inr)) λy=>.inr (xT a y))
   (λa n z=>n (z.elim (λy=>.inl (y.elim (λx=>.inl ⟨rfl,x.2⟩) .inr)) λy=>.inr (xT a y))) id
   (λa m z=>by
    rcases z with(z|z)|z|⟨j,z⟩
    · exact(R.gtr a (.inr ⟨i,m⟩)).2 z.2
    · exact(R.btr a z).2.2 (.inr ⟨i,m⟩)
    · exact R.dis i a m z
    · by_cases e:j=i
      · subst e;rw[zH]at z;cases z
      · rw[zL e]at z;exact e (R.inj j i a z m)) ro
 have hi:i<as.length:=(zzD.mp h).1
 refine⟨⟨by rw[zzR];exact R.len,λj hj=>?_,λj=>?_,λj k a h1 h2=>?_,R.tnd,λj a h1=>?_,R.ftr,λa h1=>?_,λa h1=>R.gtr a (xT a h1),λj s e=>?_⟩,v,hv,rp⟩
 · rw[zzR]at hj
   rw[zL (by omega)];exact R.out j hj
 · by_cases e:j=i
   · subst e;rw[zH];exact zyG
   · rw[zL e];exact R.nd j
 · by_cases e:j=i
   · subst e;rw[zH]at h1;cases h1
   · by_cases e':k=i
     · subst e';rw[zH]at h2;cases h2
     · rw[zL e]at h1;rw[zL e']at h2;exact R.inj j k a h1 h2
 · by_cases e:j=i
   · subst e;rw[zH]at h1;cases h1
   · rw[zL e]at h1;exact R.dis j a h1
 · obtain⟨b1,b2,b3⟩:=R.btr a h1
   exact⟨b1,b2,λz=>b3 (xT a z)⟩
 · by_cases q:j=i
   · subst q
     rw[zyH hi]at e
     cases e
     rw[zH]
     exact⟨v,hv,.lf rp⟩
   · rw[zzV (Ne.symm q)]at e
     rw[zL q]
     exact(R.sl j s e).less xT
theorem Rel.put(R:Rel K kd F B T ad as σ H)(hi:i<as.length)(h:RoS K kd F B (Gw T ad) H v o T):Rel K kd F B [] (vp ad i T) (as.set i (some o)) (σ.set i (some v)) H:=by
 have hi':i<σ.length:=by rw[<-R.len];exact hi
 refine⟨by rw[zzR,zzR];exact R.len,λj hj=>?_,λj=>?_,λj k a h1 h2=>?_,zyG,(λ_ _ _ z=>nomatch z),R.ftr,λa h1=>?_,λa h1=>R.gtr a (Yx a h1),λj s e=>?_⟩
 · rw[zzR]at hj
   rw[zL (by omega)];exact R.out j hj
 · by_cases e:j=i
   · subst e;rw[zH];exact R.tnd
   · rw[zL e];exact R.nd j
 · by_cases e:j=i
   · subst e
     rw[zH]at h1
     by_cases e':k=j
     · exact e'.symm
     · rw[zL e']at h2
       exact(R.dis k a h2 h1).elim
   · rw[zL e]at h1
     by_cases e':k=i
     · subst e'
       rw[zH]at h2
       exact(R.dis j a h1 h2).elim
     · rw[zL e']at h2
       exact R.inj j k a h1 h2
 · obtain⟨b1,b2,b3⟩:=R.btr a h1
   exact⟨b1,b2,λz=>b3 (Yx a z)⟩
 · by_cases q:j=i
   · subst q
     rw[zyH hi]at e
     cases e
     rw[zH,zyH hi']
     exact⟨v,rfl,h.less Yx⟩
   · rw[zzV (Ne.symm q)]at e
     rw[zL q,zzV (Ne.symm q)]
     exact(R.sl j s e).less Yx
def toO(as:AS):RV->Option (O×AS)
 | .ow o=>some (o,as)
 | .bo i=>match as[i]? with
  |some (some o)=>some (o.frz,as.set i (some o.frz))
  |_=>none
theorem zef{as':AS}(R:Rel K kd F B T ad as σ H)(h:vP K kd F B T ad σ H v r)(e:toO as r=some (o,as')):∃ad',Rel K kd F B T ad' as' σ H/\RoS K kd F B (Gw T ad') H v o T/\∀a,Gw T ad' a->Gw T ad a:=by
 cases r with
 |ow o'=>cases e;exact⟨ad,R,h,λ_ z=>z⟩
 |bo i=>
  have e:(match as[i]? with|some (some o)=>some (o.frz,as.set i (some o.frz))|_=>none)=some (o,as'):=e
  cases k:as[i]? with
  |none=>rw[k]at e;cases e
  |some s=>
   cases s with
   |none=>rw[k]at e;cases e
   |some o1=>
    rw[k]at e
    cases e
    obtain⟨hT,hs⟩:=h
    subst hT
    obtain⟨R',w,hw,rp⟩:=R.frz k
    rw[hs]at hw
    cases hw
    exact⟨_,R',.lf rp,xT⟩
end
abbrev TF:=AS->Option (Bool×AS)
def alT(K:zC)(kd:KD)(f:TF):TT:=λσ H Q=>∃F B ad as b as',Rel K kd F B [] ad as σ H/\f as=some (b,as')/\
 ∀ad' H',Rel K kd F B [] ad' as' σ H'->Grow (Gw [] ad) H (Gw [] ad') H'->Q b H'
@[irreducible] def AT(X:Cx)(kd:KD)(e:Expr)(f:TF):Prop:=PT X e (alT X.K kd f)
@[irreducible] def AW(X:Cx)(kd:KD)(e:Expr)(f:TF):Prop:=PW X e (alT X.K kd f)
def truth:D->Option Bool
 | .non=>some false
 | .bl b=>some b
 | .int i=>some (i != 0)
 | .str x=>if x.length<=sizeLine then some ((x.length:Int) != 0)else none
 | .tup ds=>some (!ds.isEmpty)
 | .lst ds=>some (!ds.isEmpty)
 |_=>none
def fT(f:EF):TF:=λas=>(f as).bind λp=>(p.1.frz.view p.2).bind λx=>(truth x.1).bind λb=>some (b,p.2)
def zdw(f g:TF):TF:=λas=>(f as).bind λp=>if p.1=true then g p.2 else some (false,p.2)
def Vh(f g:TF):TF:=λas=>(f as).bind λp=>if p.1=true then some (true,p.2)else g p.2
def W5(f:TF):TF:=λas=>(f as).bind λp=>some (!p.1,p.2)
def asI:D->Option Int
 | .int i=>some i
 |_=>none
def asS:D->Option Str
 | .str i=>some i
 |_=>none
def asL:D->Option (List D)
 | .lst i=>some i
 |_=>none
def asT:D->Option (List D)
 | .tup i=>some i
 |_=>none
theorem zfX{d:D}{i:List D}(e:asL d=some i):d = .lst i:=by
 cases d with
 |lst j=>cases e;rfl
 |_=>cases e
theorem znp{d:D}{i:List D}(e:asT d=some i):d = .tup i:=by
 cases d with
 |tup j=>cases e;rfl
 |_=>cases e
theorem zgE{d:D}{c:Int}(h:asI d=some c):d = .int c:=by
 cases d with
 |int i=>cases h;rfl
 |_=>cases h
def asB:D->Option Bool
 | .bl i=>some i
 |_=>none
theorem zpz{d:D}{c:Bool}(h:asB d=some c):d = .bl c:=by
 cases d with
 |bl i=>cases h;rfl
 |_=>cases h
def rvD:RV->Option D
 | .ow (.lf _ d)=>some d
 |_=>none
theorem zmP{r:RV}{d:D}(h:rvD r=some d):∃st,r = .ow (.lf st d):=by
 cases r with
 |bo i=>cases h
 |ow o=>
  cases o with
  |nd k os=>cases h
  |lf st d=>cases h;exact⟨st,rfl⟩
def rvB(r:RV):Option Bool:=(rvD r).bind asB
theorem zmv{r:RV}{c:Bool}(h:rvB r=some c):∃st,r = .ow (.lf st (.bl c)):=by
 obtain⟨d,h1,h⟩:=bS_ h
 cases zpz h
 exact zmP h1
def rvI(r:RV):Option Int:=(rvD r).bind asI
theorem zre{r:RV}{c:Int}(h:rvI r=some c):∃st,r = .ow (.lf st (.int c)):=by
 obtain⟨d,h1,h⟩:=bS_ h
 cases zgE h
 exact zmP h1
def zpC{α:Type}:List α->Option (α×α)
 | [a,b]=>some (a,b)
 |_=>none
theorem zji{α:Type}{os:List α}{p:α×α}(h:zpC os=some p):os=[p.1,p.2]:=by
 cases os with
 |nil=>cases h
 |cons x r=>
  cases r with
  |nil=>cases h
  |cons y r=>
   cases r with
   |nil=>cases h;rfl
   |cons _ _=>cases h
def zgJ(f g:EF):EF:=λas=>(f as).bind λp=>(rvB p.1).bind λc=>if c=true then g p.2 else some (.ow (.lf true (.bl false)),p.2)
def zok(f:EF):EF:=λas=>(f as).bind λp=>(rvB p.1).bind λc=>some (.ow (.lf true (.bl (!c))),p.2)
def f1(fa:EF)(g:D->Option R0):EF:=λas=>(fa as).bind λp=>(p.1.frz.view p.2).bind λx=>(g x.1).bind λr=>(wrap x.2 r).bind λz=>some (z,p.2)
section
variable{X:Cx}{kd:KD}{a b c:Expr}{fa fb:EF}{ta tb:TF}{pos:Pos}{es rest:List Expr}
theorem ziD{e:Expr}{t t':TT}(h:PT X e t)(k:∀σ H Q,t' σ H Q->t σ H Q):PT X e t':=λpins s σ H Q I q=>h pins s σ H Q I (k σ H Q q)
theorem zmb{e:Expr}{t t':TT}(h:PW X e t)(k:∀σ H Q,t' σ H Q->t σ H Q):PW X e t':=λw pins s σ H Q I q=>h w pins s σ H Q I (k σ H Q q)
theorem zqr{O:Addr->Prop}{H:Hp}{v:V}{d:D}{k:Bool}(h:Vw X.K kd O H v d)(e:truth d=some k):zpt X.K v H k:=by
 cases h with
 |non=>cases e;rfl
 |bl b=>cases e;rfl
 |int i=>cases e;rfl
 |str x=>
  have e:(if x.length<=sizeLine then some ((x.length:Int) != 0)else none)=some k:=e
  by_cases hl:x.length<=sizeLine
  · rw[if_pos hl]at e;cases e;exact⟨hl,rfl⟩
  · rw[if_neg hl]at e;cases e
 |tup r hs hr=>
  cases e
  refine .inr (.inl ⟨_,hs, ?_⟩)
  cases hr<;>rfl
 |lst hs hr=>
  cases e
  refine .inl ⟨_,hs.sq, ?_⟩
  cases hr<;>rfl
 |dct=>cases e
 |cl=>cases e
 |ob=>cases e
 |er=>cases e
theorem ZQ(ha:AE X kd a fa)(he:∀whole,isTrue a X.env whole=(do let v <-whole;standAt a.pos;holding [v] (truthy v))):AT X kd a (fT fa):=by with_unfolding_all exact(ziD (zlK ha he) λσ H Q h=>by
 obtain⟨F,B,ad,as,bb,as',R,e,q⟩:=h
 obtain⟨⟨p,as1⟩,h1,e⟩:=bS_ (show(fa as).bind _=_ from e)
 obtain⟨⟨d,lv⟩,h2,e⟩:=bS_ e
 obtain⟨k,h3,e⟩:=bS_ e
 cases e
 exact Wx R h1 λv ad1 H1 R1 rv1 g1=>⟨_,zqr (vP.vw R1 rv1 h2) h3,q ad1 H1 R1 g1⟩)
theorem yC{op:CmpOp}{g:D->D->Option R0}(ho:OpD X kd (compareOp op) g)(hg:∀x y r,g x y=some r->∃k,r = .im (.bl k))(ha:AE X kd a fa)(hb:AE X kd b fb)(hm:behindInMarks op b=false):
 AT X kd (.Compare a [op] [b] pos) (fT (f2 fa fb g)):=by with_unfolding_all exact(ziD (znS ho ha hb hm) λσ H Q h=>by
 obtain⟨F,B,ad,as,bb,as',R,e,q⟩:=h
 obtain⟨⟨p,as1⟩,h1,e⟩:=bS_ (show(f2 fa fb g as).bind _=_ from e)
 obtain⟨⟨d,lv⟩,h2,e⟩:=bS_ e
 obtain⟨k,h3,e⟩:=bS_ e
 cases e
 obtain⟨_,_,_,x,y,_,_,r0,_,_,_,_,hp,hw⟩:=ziN h1
 obtain⟨k',rfl⟩:=hg _ _ _ hp
 cases hw
 cases h2
 cases h3
 refine al2 (λ_ _ _ _ z=>z) ⟨F,B,ad,as,_,_,R,h1,λv T' ad' H' R' rv g'=>?_⟩
 generalize hT:T'=T2 at rv R' g'
 cases rv with
 |lf rp=>
  cases rp
  exact⟨_,rfl,q ad' H' R' g'⟩)
theorem zdt(ha:AT X kd a ta):AT X kd (.UnaryOp .Not a pos) (W5 ta):=by with_unfolding_all exact(ziD (zpB ha) λσ H Q h=>by
 obtain⟨F,B,ad,as,bb,as',R,e,q⟩:=h
 obtain⟨⟨p,as1⟩,h1,e⟩:=bS_ (show(ta as).bind _=_ from e)
 cases e
 exact⟨F,B,ad,as,p,_,R,h1,λad' H' R' g=>q ad' H' R' g⟩)
theorem zew(ha:AT X kd a ta):AW X kd (.BoolOp .And [a] pos) ta:=by with_unfolding_all exact(zoY ha)
theorem YH(ha:AT X kd a ta):AW X kd (.BoolOp .Or [a] pos) ta:=by with_unfolding_all exact(zqe ha)
theorem zlZ(ha:AT X kd a ta)(hb:AW X kd (.BoolOp .And (b::rest) pos) tb):AW X kd (.BoolOp .And (a::b::rest) pos) (zdw ta tb):=by with_unfolding_all exact(zmb (zqX ha hb) λσ H Q h=>by
 obtain⟨F,B,ad,as,bb,as',R,e,q⟩:=h
 obtain⟨⟨p,as1⟩,h1,e⟩:=bS_ (show(ta as).bind _=_ from e)
 refine⟨F,B,ad,as,p,as1,R,h1,λad' H' R' g=>?_⟩
 cases p with
 |true=>exact⟨F,B,ad',as1,bb,as',R',e,λad2 H2 R2 g2=>q ad2 H2 R2 (g.trans g2)⟩
 |false=>cases e;exact q ad' H' R' g)
theorem zaG(ha:AT X kd a ta)(hb:AW X kd (.BoolOp .Or (b::rest) pos) tb):AW X kd (.BoolOp .Or (a::b::rest) pos) (Vh ta tb):=by with_unfolding_all exact(zmb (zry ha hb) λσ H Q h=>by
 obtain⟨F,B,ad,as,bb,as',R,e,q⟩:=h
 obtain⟨⟨p,as1⟩,h1,e⟩:=bS_ (show(ta as).bind _=_ from e)
 refine⟨F,B,ad,as,p,as1,R,h1,λad' H' R' g=>?_⟩
 cases p with
 |false=>exact⟨F,B,ad',as1,bb,as',R',e,λad2 H2 R2 g2=>q ad2 H2 R2 (g.trans g2)⟩
 |true=>cases e;exact q ad' H' R' g)
theorem AW.at_{e:Expr}(h:AW X kd e ta):AT X kd e ta:=by with_unfolding_all exact(PW.pt h)
theorem zpk{K:zC}{F B:Addr->Prop}{T:List Addr}{ad:Ad}{σ:St}{H:Hp}{v:V}{st c:Bool}(h:vP K kd F B T ad σ H v (.ow (.lf st (.bl c)))):T=[]/\v = .bl c:=by
 have h:RoS K kd F B (Gw T ad) H v (.lf st (.bl c)) T:=h
 generalize hT:Gw T ad=G at h
 cases h with
 |lf rp=>cases rp;exact⟨rfl,rfl⟩
theorem zkM{op}(ha:AE X kd a fa):AE X kd (.BoolOp op [a] pos) fa:=by with_unfolding_all exact(zpL ha)
theorem zmI(ha:AE X kd a fa)(hb:AE X kd (.BoolOp .And (b::rest) pos) fb):AE X kd (.BoolOp .And (a::b::rest) pos) (zgJ fa fb):=by with_unfolding_all exact(yX (zpN ha hb) λσ H Q h=>by
 obtain⟨F,B,ad,as,r,as',R,e,q⟩:=h
 obtain⟨⟨p,as1⟩,h1,e⟩:=bS_ (show(fa as).bind _=_ from e)
 refine⟨F,B,ad,as,p,as1,R,h1,λv T' ad' H' R' rv g=>?_⟩
 obtain⟨k,e1,e⟩:=bS_ e
 obtain⟨st,rfl⟩:=zmv e1
 obtain⟨rfl,rfl⟩:=zpk rv
 cases k with
 |true=>exact⟨true,rfl,⟨F,B,ad',as1,r,as',R',e,λv T2 ad2 H2 R2 rv g2=>q v T2 ad2 H2 R2 rv (g.trans g2)⟩⟩
 |false=>
  cases e
  exact⟨false,rfl,q _ [] ad' H' R' (.lf (.bl false)) g⟩)
theorem zqg(ha:AE X kd a fa):AE X kd (.UnaryOp .Not a pos) (zok fa):=by with_unfolding_all exact(yX (zpV ha) λσ H Q h=>by
 obtain⟨F,B,ad,as,r,as',R,e,q⟩:=h
 obtain⟨⟨p,as1⟩,h1,e⟩:=bS_ (show(fa as).bind _=_ from e)
 refine⟨F,B,ad,as,p,as1,R,h1,λv T' ad' H' R' rv g=>?_⟩
 obtain⟨k,e1,e⟩:=bS_ e
 obtain⟨st,rfl⟩:=zmv e1
 obtain⟨rfl,rfl⟩:=zpk rv
 cases e
 exact⟨k,rfl,q _ [] ad' H' R' (.lf (.bl _)) g⟩)
end
abbrev AF:=AS->Option (List RV×AS)
inductive RVs(K:zC)(kd:KD)(F B:Addr->Prop)(ad:Ad)(σ:St)(H:Hp):List V->List RV->Prop
 |nil:RVs K kd F B ad σ H [] []
 |cons {v:V}{r:RV}{vs:List V}{rs:List RV}:vP K kd F B [] ad σ H v r->RVs K kd F B ad σ H vs rs->RVs K kd F B ad σ H (v::vs) (r::rs)
def alA(K:zC)(kd:KD)(f:AF):TA:=λσ H Q=>∃F B ad as rs as',Rel K kd F B [] ad as σ H/\f as=some (rs,as')/\
 ∀vs ad' H',Rel K kd F B [] ad' as' σ H'->RVs K kd F B ad' σ H' vs rs->Grow (Gw [] ad) H (Gw [] ad') H'->Q vs H'
@[irreducible] def AA(X:Cx)(kd:KD)(es:List Expr)(f:AF):Prop:=PA X es (alA X.K kd f)
def aN:AF:=λas=>some ([],as)
def aC(fa:EF)(fr:AF):AF:=λas=>(fa as).bind λp=>(fr p.2).bind λq=>some (p.1.frz::q.1,q.2)
theorem zfY{X:Cx}{e:List Expr}{t t':TA}(h:PA X e t)(k:∀σ H Q,t' σ H Q->t σ H Q):PA X e t':=λpos pins s σ H Q I q=>h pos pins s σ H Q I (k σ H Q q)
abbrev DF:=AS->Option (List O×AS)
def alD(K:zC)(kd:KD)(f:DF):TA:=λσ H Q=>∃F B ad as os as',Rel K kd F B [] ad as σ H/\f as=some (os,as')/\
 ∀vs T' ad' H',Rel K kd F B T' ad' as' σ H'->vA K kd F B (Gw T' ad') H' vs os T'->Grow (Gw [] ad) H (Gw T' ad') H'->Q vs H'
@[irreducible] def AD(X:Cx)(kd:KD)(es:List Expr)(f:DF):Prop:=PA X es (alD X.K kd f)
def dN:DF:=λas=>some ([],as)
def dC(fa:EF)(fr:DF):DF:=λas=>(fa as).bind λp=>(toO p.2 p.1).bind λx=>(fr x.2).bind λq=>some (x.1::q.1,q.2)
def views(as:AS):List RV->Option (List D×Option Bool)
 | []=>some ([],some true)
 |r::rs=>(r.view as).bind λx=>(views as rs).bind λy=>some (x.1::y.1,meet x.2 y.2)
def fP(fr:AF)(g:List D->Option R0):EF:=λas=>(fr as).bind λp=>(views p.2 p.1).bind λx=>(g x.1).bind λr=>(wrap x.2 r).bind λz=>some (z,p.2)
def zmr(as:AS):RV->Option (Bool×D)
 | .ow o=>some (yd o.toD||o.str,o.toD)
 | .bo i=>match as[i]? with
  |some (some o)=>some (false,o.toD)
  |_=>none
def Xx(as:AS):List RV->Option (List (Bool×D))
 | []=>some []
 |r::rs=>(zmr as r).bind λx=>(Xx as rs).bind λy=>some (x::y)
def zJ(fr:AF)(g:List (Bool×D)->Option O):EF:=λas=>(fr as).bind λp=>(Xx p.2 p.1).bind λx=>(g x).bind λo=>some (.ow o,p.2)
def RQO(K:zC)(kd:KD)(F:Addr->Prop)(H:Hp)(Q:VK)(o:O):Prop:=
 ∀v T H',T.Nodup->(∀a ∈ T,H a=none)->(∀b u,H b=some u->H' b=some u)->(∀a ∈ T,H' a≠none)->Ro (λ_ v d=>Rp K kd (Un2 F (· ∈ T)) H' v d) (λa=>¬Un2 F (· ∈ T) a) H' v o T->Q v H'
inductive RpA(K:zC)(kd:KD)(F:Addr->Prop)(H:Hp):List V->List (Bool×D)->Prop
 |nil:RpA K kd F H [] []
 |cons {v:V}{st:Bool}{d:D}{vs:List V}{ds:List (Bool×D)}:Rp K kd (λa=>st=true/\F a) H v d->RpA K kd F H vs ds->RpA K kd F H (v::vs) ((st,d)::ds)
def spD(K:zC)(kd:KD)(g:List (Bool×D)->Option O):Sp:=λvs H Q _=>∃F ds o,(∀a,F a->H a≠none)/\RpA K kd F H vs ds/\g ds=some o/\RQO K kd F H Q o
def Y0(os:List O):O:=if os.all O.isLf=true then .lf (O.strs os) (.tup (O.toDs os))else .nd .tp os
def xR(fr:DF):EF:=λas=>(fr as).bind λp=>if p.1.length<=sizeLine then some (.ow (Y0 p.1),p.2)else none
def Yb(fr:DF):EF:=λas=>(fr as).bind λp=>if p.1.length<=sizeLine then some (.ow (.nd .ls p.1),p.2)else none
section
variable{X:Cx}{kd:KD}{a b c:Expr}{fa fb:EF}{ta tb:TF}{pos:Pos}{es rest:List Expr}{fr:AF}{fd:DF}
theorem RpA.length{K:zC}{F:Addr->Prop}{H:Hp}{vs:List V}{ds:List (Bool×D)}(h:RpA K kd F H vs ds):vs.length=ds.length:=by
 induction h with
 |nil=>rfl
 |cons _ _ ih=>exact congrArg (· + 1) ih
theorem zA:AA X kd [] aN:=by with_unfolding_all exact(zfY Vl λσ H Q h=>by
 obtain⟨F,B,ad,as,rs,as',R,e,q⟩:=h
 cases e
 exact q [] ad H R .nil Grow.refl)
theorem zf(ha:AE X kd a fa)(hr:AA X kd es fr)(hs:starEach (a::es) X.env=(false,eval a X.env)::starEach es X.env):AA X kd (a::es) (aC fa fr):=by with_unfolding_all exact(zfY (Zy ha hr hs) λσ H Q h=>by
 obtain⟨F,B,ad,as,rs,as',R,e,q⟩:=h
 obtain⟨⟨p,as1⟩,h1,e⟩:=bS_ (show(fa as).bind _=_ from e)
 obtain⟨⟨z,as2⟩,h2,e⟩:=bS_ e
 cases e
 refine Wx R h1 λv ad1 H1 R1 rv1 g1=>⟨F,B,ad1,as1,z,_,R1,h2,λvs ad2 H2 R2 rv2 g2=>?_⟩
 exact q _ ad2 H2 R2 (.cons (rv1.grow g2) rv2) (g1.trans g2))
theorem ye:AD X kd [] dN:=by with_unfolding_all exact(zfY Vl λσ H Q h=>by
 obtain⟨F,B,ad,as,rs,as',R,e,q⟩:=h
 cases e
 exact q [] [] ad H R .nil Grow.refl)
theorem zx(ha:AE X kd a fa)(hr:AD X kd es fd)(hs:starEach (a::es) X.env=(false,eval a X.env)::starEach es X.env):AD X kd (a::es) (dC fa fd):=by with_unfolding_all exact(zfY (Zy ha hr hs) λσ H Q h=>by
 obtain⟨F,B,ad,as,rs,as',R,e,q⟩:=h
 obtain⟨⟨p,as1⟩,h1,e⟩:=bS_ (show(fa as).bind _=_ from e)
 obtain⟨⟨o,as2⟩,h2,e⟩:=bS_ e
 obtain⟨⟨os,as3⟩,h3,e⟩:=bS_ e
 cases e
 refine⟨F,B,ad,as,p,as1,R,h1,λv T1 ad1 H1 R1 rv1 g1=>?_⟩
 obtain⟨ad2,R2,ro2,le2⟩:=zef R1 rv1 h2
 refine⟨F,_,ad2,as2,os,_,R2.hide,h3,λvs T3 ad3 H3 R3 ro3 g3=>?_⟩
 have kT:∀a ∈ T1,∀u,H1 a=some u->H3 a=some u:=λa m u e=>g3.keep a u e λz=>z.elim (λy=>nomatch y) λ⟨i,y⟩=>R2.dis i a y m
 have r1:RoS X.K kd F B (Gw (T1++T3) ad3) H3 v o T1:=RoS.lv zbM (RoS.grow g3 kT (RoS.lv zjm ro2))
 have r3:vA X.K kd F B (Gw (T1++T3) ad3) H3 vs os T3:=vA.lv zbM ro3
 refine q _ (T1++T3) ad3 H3 (R3.unhide R2.tnd λa m z=>(R2.btr a z).2.2 (.inl m)) (.cons r1 r3) ((g1.trans (Grow.less le2)).trans ⟨λb u e n=>g3.keep b u e λz=>n (Gw.drop b z),λb z=>?_⟩)
 rcases z with z|z
 · rcases zzJ.mp z with z|z
   · exact .inl (.inl z)
   · exact(g3.own b (.inl z)).elim (λy=>.inl (Gw.drop b y)) .inr
 · exact(g3.own b (.inr z)).elim (λy=>.inl (Gw.drop b y)) .inr)
theorem wA{x1}(h:AD X kd es fd):AE X kd (.Tuple es x1 pos) (xR fd):=by with_unfolding_all exact(yX (zpP h) λσ H Q h=>by
 obtain⟨F,B,ad,as,r,as',R,e,q⟩:=h
 obtain⟨⟨os,as1⟩,h1,e⟩:=bS_ (show(fd as).bind _=_ from e)
 obtain⟨hz,e⟩:=zO e
 cases e
 refine⟨F,B,ad,as,os,_,R,h1,λvs T1 ad1 H1 R1 ro1 g1=>⟨by rw[ro1.length];exact hz,λp hp=>?_⟩⟩
 have k:∀b o,H1 b=some o->upd H1 p (.tup vs) b=some o:=λb o hb=>by rw[zM (yc hb hp)];exact hb
 obtain⟨R2,g2⟩:=R1.more k
 have ro2:=vA.grow g2 (λa _ u h=>k a u h) ro1
 have np:∀st,¬Lv F B (Gw T1 ad1) st p:=λst z=>R1.trk st p z hp
 refine q _ T1 ad1 _ R2 ?_ (g1.trans g2)
 show RoS X.K kd F B (Gw T1 ad1) _ _ (Y0 os) T1
 unfold Y0
 by_cases hl:os.all O.isLf=true
 · rw[if_pos hl]
   have:=zlF ro2 hl
   subst this
   exact .lf (.tup (np _) (.inl zU) (zdz ro2 hl))
 · rw[if_neg hl]
   exact .tp (np _) zU ro2)
theorem Zw(h:AD X kd es fd):AE X kd (.List es pos) (Yb fd):=by with_unfolding_all exact(yX (zqt h) λσ H Q h=>by
 obtain⟨F,B,ad,as,r,as',R,e,q⟩:=h
 obtain⟨⟨os,as1⟩,h1,e⟩:=bS_ (show(fd as).bind _=_ from e)
 obtain⟨hz,e⟩:=zO e
 cases e
 refine⟨F,B,ad,as,os,_,R,h1,λvs T1 ad1 H1 R1 ro1 g1=>⟨by rw[ro1.length];exact hz,λp hp=>?_⟩⟩
 have k:∀b o,H1 b=some o->upd H1 p (.lst vs) b=some o:=λb o hb=>by rw[zM (yc hb hp)];exact hb
 obtain⟨R2,g2⟩:=R1.add (N:=[p]) (by simp) (λa m=>by rw[zzO.mp m];exact hp) k (λa m=>by rw[zzO.mp m,zU];simp)
 exact q _ _ ad1 _ R2 (.ls zU (vA.grow g2 (λa _ u h=>k a u h) ro1)) (g1.trans g2))
theorem VwL.less{K:zC}{O O':Addr->Prop}{H:Hp}(g:∀a,O' a->O a){vs:List V}{ds:List D}(h:VwL K kd O H vs ds):VwL K kd O' H vs ds:=by
 induction h with
 |nil=>exact .nil
 |cons h _ ih=>exact .cons (h.less g) ih
theorem zal{K:zC}{F B:Addr->Prop}{ad:Ad}{as:AS}{σ:St}{H:Hp}(R:Rel K kd F B [] ad as σ H){vs:List V}{rs:List RV}{ds:List D}{lv:Option Bool}(h:RVs K kd F B ad σ H vs rs)(e:views as rs=some (ds,lv)):VwL K kd (Obl F B (Gw [] ad) lv) H vs ds:=by
 induction h generalizing ds lv with
 |nil=>cases e;exact .nil
 |cons h t ih=>
  obtain⟨⟨d,l⟩,h1,e⟩:=bS_ (show(RV.view as _).bind _=_ from e)
  obtain⟨⟨ds,l2⟩,h2,e⟩:=bS_ e
  cases e
  exact .cons ((vP.vw R h h1).less Obl.meet1) ((ih h2).less Obl.meet2)
theorem alP{g:List D->Option R0}{σ:St}{H:Hp}{Q:VK}{R':List V->Hp->VK->Prop}(hr:∀vs H Q,(∃O ds r,(∀a,O a->H a≠none)/\VwL X.K kd O H vs ds/\g ds=some r/\RQ X.K kd O H Q r)->R' vs H Q)
 (h:al X.K kd (fP fr g) σ H Q):alA X.K kd fr σ H λvs H1=>R' vs H1 Q:=by
 obtain⟨F,B,ad,as,r,as',R,e,q⟩:=h
 obtain⟨⟨p,as1⟩,h1,e⟩:=bS_ (show(fr as).bind _=_ from e)
 obtain⟨⟨ds,lv⟩,h2,e⟩:=bS_ e
 obtain⟨z,h3,e⟩:=bS_ e
 obtain⟨y,h4,e⟩:=bS_ e
 cases e
 exact⟨F,B,ad,as,p,_,R,h1,λvs ad1 H1 R1 rv1 g1=>hr _ _ _ ⟨_,ds,z,R1.tr _,zal R1 rv1 h2,h3,WL R1 h4 λw T' H' R' rv' g'=>q w T' ad1 H' R' rv' (g1.trans g')⟩⟩
theorem zbv{K:zC}{F B:Addr->Prop}{ad:Ad}{as:AS}{σ:St}{H:Hp}(R:Rel K kd F B [] ad as σ H){vs:List V}{rs:List RV}{ds:List (Bool×D)}(h:RVs K kd F B ad σ H vs rs)(e:Xx as rs=some ds):RpA K kd (Lv F B (Gw [] ad) true) H vs ds:=by
 induction h generalizing ds with
 |nil=>cases e;exact .nil
 |cons h t ih=>
  rename_i v r vs rs
  obtain⟨⟨st,d⟩,h1,e⟩:=bS_ (show(zmr as r).bind _=_ from e)
  obtain⟨ds,h2,e⟩:=bS_ e
  cases e
  refine .cons ?_ (ih h2)
  cases r with
  |ow o=>
   cases h1
   cases hf:yd o.toD with
   |true=>exact(zga h).flat hf
   |false=>
    refine(zgl h).less λa z=>?_
    have zs:o.str=true:=z.1
    rw[zs]
    exact z.2
  |bo i=>
   have e:(match as[i]? with|some (some o)=>some (false,o.toD)|_=>none)=some (st,d):=h1
   cases k:as[i]? with
   |none=>rw[k]at e;cases e
   |some s=>
    cases s with
    |none=>rw[k]at e;cases e
    |some o=>
     rw[k]at e
     cases e
     obtain⟨w,hw,ro⟩:=R.sl i _ k
     rw[h.2]at hw
     cases hw
     exact(zga ro).less λa z=>nomatch z.1
theorem zio{K:zC}{F B:Addr->Prop}{ad:Ad}{as:AS}{σ:St}{H:Hp}{Q:VK}{o:O}(R:Rel K kd F B [] ad as σ H)(q:∀v T' H',Rel K kd F B T' ad as σ H'->vP K kd F B T' ad σ H' v (.ow o)->Grow (Gw [] ad) H (Gw T' ad) H'->Q v H'):
 RQO K kd (Lv F B (Gw [] ad) true) H Q o:=λv T H' hn hl k h1 ro=>by
 obtain⟨R',g⟩:=R.news hn hl k h1
 have le:∀st a,Lv F B (Gw T ad) st a->Un2 (Lv F B (Gw [] ad) true) (· ∈ T) a:=λst a z=>by
  rcases z with(z|z)|z|z
  · exact .inl (.inl (.inl ⟨rfl,z.2⟩))
  · exact .inl (.inl (.inr z))
  · exact .inr z
  · exact .inl (.inr (.inr z))
 exact q v T H' R' (Ro.mono (λst v d r=>r.less (le st)) (λa vs n e=>⟨λz=>n (le true a z),e⟩) (λ_ _ _ e=>e) ro) g
theorem zqa{g:List (Bool×D)->Option O}{σ:St}{H:Hp}{Q:VK}{E:XK}(h:al X.K kd (zJ fr g) σ H Q):zpo (spD X.K kd g) [] E (alA X.K kd fr) σ H Q:=by
 obtain⟨F,B,ad,as,r,as',R,e,q⟩:=h
 obtain⟨⟨p,as1⟩,h1,e⟩:=bS_ (show(fr as).bind _=_ from e)
 obtain⟨ds,h2,e⟩:=bS_ e
 obtain⟨o,h3,e⟩:=bS_ e
 cases e
 refine⟨F,B,ad,as,p,_,R,h1,λvs ad1 H1 R1 rv1 g1=>?_⟩
 show spD X.K kd g (vs++[]) H1 Q E
 rw[zyB]
 exact⟨_,ds,o,R1.trk true,zbv R1 rv1 h2,h3,zio R1 λw T' H' R' rv' g'=>q w T' ad1 H' R' rv' (g1.trans g')⟩
end
inductive Out where
 |nx (as:AS)|rt (o:O)|bk (as:AS)|ct (as:AS)
abbrev SF:=AS->Option Out
structure RetOk(K:zC)(kd:KD)(F:Addr->Prop)(T:List Addr)(H:Hp)(v:V)(o:O):Prop where
 nd:T.Nodup
 tr:∀a ∈ T,H a≠none
 ro:Ro (λ_ v d=>Rp K kd (Un2 F (· ∈ T)) H v d) (λa=>¬Un2 F (· ∈ T) a) H v o T
def zfv(K:zC)(kd:KD)(F B:Addr->Prop)(ad:Ad)(H:Hp)(D:Ends):Out->Prop
 | .nx as'=>∀σ' ad' H',Rel K kd F B [] ad' as' σ' H'->Grow (Gw [] ad) H (Gw [] ad') H'->D.nx σ' H'
 | .bk as'=>∀σ' ad' H',Rel K kd F B [] ad' as' σ' H'->Grow (Gw [] ad) H (Gw [] ad') H'->D.bk σ' H'
 | .ct as'=>∀σ' ad' H',Rel K kd F B [] ad' as' σ' H'->Grow (Gw [] ad) H (Gw [] ad') H'->D.ct σ' H'
 | .rt o=>∀v T H',RetOk K kd F T H' v o->Grow (Gw [] ad) H (· ∈ T) H'->D.rt v H'
def be(K:zC)(kd:KD)(f:SF):TS:=λD σ H=>∃F B ad as o,Rel K kd F B [] ad as σ H/\f as=some o/\zfv K kd F B ad H D o
@[irreducible] def ASt(X:Cx)(kd:KD)(st:Stmt)(f:SF):Prop:=PS X st (be X.K kd f)
@[irreducible] def ASs(X:Cx)(kd:KD)(st:List Stmt)(f:SF):Prop:=PSs X st (be X.K kd f)
theorem Zi{X:Cx}{e:Stmt}{t t':TS}(h:PS X e t)(k:∀D σ H,t' D σ H->t D σ H):PS X e t':=λpins s σ H D I q=>h pins s σ H D I (k D σ H q)
theorem zbi{X:Cx}{e:List Stmt}{t t':TS}(h:PSs X e t)(k:∀D σ H,t' D σ H->t D σ H):PSs X e t':=λpins s σ H D I q=>h pins s σ H D I (k D σ H q)
theorem zfv.pre{K:zC}{kd:KD}{F B:Addr->Prop}{ad ad1:Ad}{H H1:Hp}{D:Ends}{o:Out}(g:Grow (Gw [] ad) H (Gw [] ad1) H1)(h:zfv K kd F B ad H D o):zfv K kd F B ad1 H1 D o:=by
 cases o with
 |nx as=>exact λσ' ad' H' R g'=>h σ' ad' H' R (g.trans g')
 |bk as=>exact λσ' ad' H' R g'=>h σ' ad' H' R (g.trans g')
 |ct as=>exact λσ' ad' H' R g'=>h σ' ad' H' R (g.trans g')
 |rt r=>exact λv T H' R g'=>h v T H' R (g.trans g')
def sNx:SF:=λas=>some (.nx as)
def zB(f g:SF):SF:=λas=>(f as).bind λo=>match o with | .nx as'=>g as'|o=>some o
def sIf(c:TF)(f g:SF):SF:=λas=>(c as).bind λp=>if p.1=true then f p.2 else g p.2
def wJ(f:EF):SF:=λas=>(f as).bind λp=>some (.nx p.2)
def znc(as:AS):RV->Option O
 | .ow o=>if o.str=true then some o else none
 | .bo i=>match as[i]? with
  |some (some o)=>if o.str=true then some o else none
  |_=>none
def yF(f:EF):SF:=λas=>(f as).bind λp=>(znc p.2 p.1).bind λo=>some (.rt o)
def zK(z:Bool)(i:Nat)(f:EF):SF:=λas=>(f as).bind λp=>(toO p.2 (if z=true then p.1.frz else p.1)).bind λx=>if i<x.2.length then some (.nx (x.2.set i (some x.1)))else none
theorem Ro.strong{L:Bool->V->D->Prop}{N:Addr->Prop}{H:Hp}{v:V}{o:O}{fp:List Addr}(h:Ro L N H v o fp)(e:o.str=true):Ro (λst v d=>st=true/\L st v d) N H v o fp:=
 Ro.rec (motive_1:=λv o fp _=>o.str=true->Ro (λst v d=>st=true/\L st v d) N H v o fp) (motive_2:=λvs os fp _=>O.strs os=true->RoL (λst v d=>st=true/\L st v d) N H vs os fp)
  (λh e=>.lf ⟨e,h⟩) (λh _ r e=>.ls h (r e)) (λh l _ r e=>.dc h l (r e)) (λc h l _ r e=>.ob ⟨rfl,c⟩ h l (r e)) (λn h _ r e=>.tp n h (r e)) (λ_=>.nil) (λ_ _ h r e=>.cons (h ((zzZ _ _).mp e).1) (r ((zzZ _ _).mp e).2)) h e
section
variable{K:zC}{kd:KD}{F B:Addr->Prop}{T:List Addr}{ad ad1:Ad}{as as1:AS}{σ:St}{H H1:Hp}{v:V}{r:RV}{o:O}
theorem zfE{T':List Addr}(R:Rel K kd F B T ad as σ H)(hn:T'.Nodup)(hs:∀a ∈ T',Gw T ad a)(h:RoS K kd F B (Gw T ad) H v o T')(e:o.str=true):RetOk K kd F T' H v o:=by
 have le:∀a,Un2 F (· ∈ T') a->Lv F B (Gw T ad) true a:=λa z=>z.elim (λy=>.inl (.inl ⟨rfl,y⟩)) λy=>.inr (hs a y)
 exact⟨hn,λa m=>(R.gtr a (hs a m)).1,Ro.mono (λst v d r=>by obtain⟨rfl,r⟩:=r;exact r.less le) (λa vs n e=>⟨λz=>n (le a z),e⟩) (λ_ _ _ e=>e) (Ro.strong h e)⟩
theorem Rel.ret(R:Rel K kd F B T ad as σ H)(hr:vP K kd F B T ad σ H v r)(e:znc as r=some o):∃T',RetOk K kd F T' H v o/\∀b ∈ T',Gw T ad b:=by
 cases r with
 |ow o'=>
  obtain⟨hs,rfl⟩:=zO e
  exact⟨T,zfE R R.tnd (λa m=>.inl m) hr hs,λa m=>.inl m⟩
 |bo i=>
  have e:(match as[i]? with|some (some o)=>if o.str=true then some o else none|_=>none)=some o:=e
  cases k:as[i]? with
  |none=>rw[k]at e;cases e
  |some s=>
   cases s with
   |none=>rw[k]at e;cases e
   |some o1=>
    rw[k]at e
    obtain⟨hs,rfl⟩:=zO e
    obtain⟨w,hw,ro⟩:=R.sl i _ k
    rw[hr.2]at hw
    cases hw
    exact⟨ad i,zfE R (R.nd i) (λa m=>.inr ⟨i,m⟩) ro hs,λa m=>.inr ⟨i,m⟩⟩
end
section
variable{X:Cx}{kd:KD}{st:Stmt}{sts rest:List Stmt}{a b c e:Expr}{fa fb:EF}{ta:TF}{pos:Pos}{f g:SF}
theorem yu:ASs X kd [] sNx:=by with_unfolding_all exact(zbi zgA λD σ H h=>by
 obtain⟨F,B,ad,as,o,R,e,q⟩:=h
 cases e
 exact q σ ad H R Grow.refl)
theorem zg(h1:ASt X kd st f)(h2:ASs X kd rest g):ASs X kd (st::rest) (zB f g):=by with_unfolding_all exact(zbi (Wc h1 h2) λD σ H h=>by
 obtain⟨F,B,ad,as,o,R,e,q⟩:=h
 obtain⟨o1,e1,e⟩:=bS_ (show(f as).bind _=_ from e)
 refine⟨F,B,ad,as,o1,R,e1, ?_⟩
 cases o1 with
 |nx as1=>exact λσ' ad' H' R' g'=>⟨F,B,ad',as1,o,R',e,q.pre g'⟩
 |bk as1=>cases e;exact q
 |ct as1=>cases e;exact q
 |rt r=>cases e;exact q)
theorem zr(h1:ASt X kd st f):ASs X kd [st] f:=by with_unfolding_all exact(zdg h1)
def sNo:SF:=λ_=>none
theorem zsp:ASt X kd st sNo:=by with_unfolding_all exact(λpins s σ H D I h=>by obtain⟨F,B,ad,as,o,R,e,q⟩:=h;cases e)
theorem xJ(hc:AT X kd c ta)(ha:ASs X kd sts f)(hb:ASs X kd rest g):ASt X kd (.If c sts rest pos) (sIf ta f g):=by with_unfolding_all exact(Zi (zpf hc ha hb) λD σ H h=>by
 obtain⟨F,B,ad,as,o,R,e,q⟩:=h
 obtain⟨⟨p,as1⟩,h1,e⟩:=bS_ (show(ta as).bind _=_ from e)
 refine⟨F,B,ad,as,p,as1,R,h1,λad' H' R' g=>?_⟩
 cases p with
 |true=>exact⟨F,B,ad',as1,o,R',e,q.pre g⟩
 |false=>exact⟨F,B,ad',as1,o,R',e,q.pre g⟩)
theorem Xe(he:AE X kd e fa)(hs:swapsWith e none pos.line X.env=pure false):ASt X kd (.Expr e pos) (wJ fa):=by with_unfolding_all exact(Zi (zdi he hs) λD σ H h=>by
 obtain⟨F,B,ad,as,o,R,e,q⟩:=h
 obtain⟨⟨p,as1⟩,h1,e⟩:=bS_ (show(fa as).bind _=_ from e)
 cases e
 exact⟨F,B,ad,as,p,as1,R,h1,λv T' ad' H' R' rv g=>q σ ad' H' R'.drop (g.trans (Grow.less Gw.drop))⟩)
theorem zW(he:AE X kd e fa):ASt X kd (.Return (some e) pos) (yF fa):=by with_unfolding_all exact(Zi (zpw he) λD σ H h=>by
 obtain⟨F,B,ad,as,o,R,e,q⟩:=h
 obtain⟨⟨p,as1⟩,h1,e⟩:=bS_ (show(fa as).bind _=_ from e)
 obtain⟨r,h2,e⟩:=bS_ e
 cases e
 refine⟨F,B,ad,as,p,as1,R,h1,λv T' ad' H' R' rv g=>?_⟩
 obtain⟨T2,ro,le⟩:=R'.ret rv h2
 exact q v T2 H' ro (g.trans (Grow.less le)))
theorem zkT{K:zC}{F B:Addr->Prop}{T:List Addr}{ad:Ad}{as as2:AS}{σ:St}{H:Hp}{v:V}{r:RV}{z:Bool}{o:O}{i:Nat}(R:Rel K kd F B T ad as σ H)(rv:vP K kd F B T ad σ H v r)
 (h2:toO as (if z=true then r.frz else r)=some (o,as2)) (hl:i<as2.length):∃ad',Rel K kd F B [] ad' (as2.set i (some o)) (σ.set i (some v)) H/\∀a,Gw [] ad' a->Gw T ad a:=by
 cases z with
 |true=>
  obtain⟨ad1,R1,ro,le⟩:=zef R.drop (vP.drop R rv) h2
  exact⟨_,R1.put hl ro,λa y=>Gw.drop a (le a (Yx a y))⟩
 |false=>
  obtain⟨ad1,R1,ro,le⟩:=zef R rv h2
  exact⟨_,R1.put hl ro,λa y=>le a (Yx a y)⟩
theorem zqW{z:Bool}{i:Nat}{x:Str}{pos':Pos}(hN:X.N.Nodup)(hi:X.N[i]? = some x)(hx:Loc X.env.scope x)(he:AE X kd e fa)(hs:swapsWith e (some (.Name x pos')) pos.line X.env=pure false)(hf:X.fn x=true\/X.env.scope.names.lookup x=some .local):
 ASt X kd (.Assign [.Name x pos'] e pos) (zK z i fa):=by with_unfolding_all exact(Zi (zqi hN hi hx he hs hf) λD σ H h=>by
 obtain⟨F,B,ad,as,o,R,e,q⟩:=h
 obtain⟨⟨p,as1⟩,h1,e⟩:=bS_ (show(fa as).bind _=_ from e)
 obtain⟨⟨y,as2⟩,h2,e⟩:=bS_ e
 obtain⟨hl,e⟩:=zO e
 cases e
 refine⟨F,B,ad,as,p,as1,R,h1,λv T' ad' H' R' rv g=>?_⟩
 obtain⟨ad2,R2,le⟩:=zkT R' rv h2 hl
 exact q _ ad2 H' R2 (g.trans (Grow.less le)))
end
def xW(n:Nat)(ds:List (Bool×D)):AS:=ds.map (λx=>some (.lf x.1 x.2))++List.replicate (n-ds.length) none
def ztf:Out->Option O
 | .nx _=>some (.lf true .non)
 | .rt o=>some o
 |_=>none
def fnR(n m:Nat)(f:SF)(ds:List (Bool×D)):Option O:=if ds.length=m then(f (xW n ds)).bind ztf else none
theorem RpA.get{K:zC}{kd:KD}{F:Addr->Prop}{H:Hp}:∀{vs:List V}{ds:List (Bool×D)}{i:Nat}{x:Bool×D},RpA K kd F H vs ds->ds[i]? = some x->∃v,vs[i]? = some v/\Rp K kd (λa=>x.1=true/\F a) H v x.2
 |_,_,_,_,.nil,e=>by simp at e
 |_,_,0,_,.cons h _,e=>by simp at e;subst e;exact⟨_,rfl,h⟩
 |_,_,i+1,_,.cons _ r,e=>by
  obtain⟨v,h1,h2⟩:=RpA.get (i:=i) r (by simpa using e)
  exact⟨v,by simpa using h1,h2⟩
theorem zcl{K:zC}{kd:KD}{F:Addr->Prop}{H:Hp}{N:List Str}{vs:List V}{ds:List (Bool×D)}(ht:∀a,F a->H a≠none)(rp:RpA K kd F H vs ds):
 Rel K kd F (λ_=>False) [] (λ_=>[]) (xW N.length ds) (L2.start N vs) H:=by
 have hl:=rp.length
 have no:∀a,¬Gw [] (λ_=>[]) a:=λa z=>z.elim (λy=>nomatch y) λ⟨_,y⟩=>nomatch y
 refine⟨by unfold xW L2.start;simp[hl],λ_ _=>rfl,λ_=>zyG,(λ_ _ _ z=>nomatch z),zyG,(λ_ _ _ z=>nomatch z),ht,(λ_ z=>z.elim),λa z=>(no a z).elim,λi s e=>?_⟩
 unfold xW at e
 unfold L2.start
 by_cases hi:i<ds.length
 · rw[zyM (by rw[zD];exact hi),zzF]at e
   obtain⟨d,hd,ea⟩:=zzU.mp e
   subst ea
   obtain⟨v,hv,rv⟩:=rp.get hd
   rw[zyM (by rw[zD,hl];exact hi),zzF,hv]
   refine⟨v,rfl,.lf (rv.less λa z=>?_)⟩
   rcases z with(z|z)|z
   · exact z
   · exact z.elim
   · exact(no a z).elim
 · rw[zyO (by rw[zD];omega)]at e
   have:=zzX e
   have ea:s=none:=(List.mem_replicate.mp this).2
   subst ea
   rfl
section
variable{P:Program}{w:World}{K:zC}{mg:Str->Option Value}{base:Heap}
theorem zfR{kd:KD}{F:Addr->Prop}{H H':Hp}{Q:VK}{o:O}{v:V}{T:List Addr}(q:RQO K kd F H Q o)(ro:RetOk K kd F T H' v o)(g:Grow (Gw [] λ_=>[]) H (· ∈ T) H'):Q v H':=by
 have no:∀a,¬Gw [] (λ_=>[]) a:=λa z=>z.elim (λy=>nomatch y) λ⟨_,y⟩=>nomatch y
 exact q v T H' ro.nd (λa m=>(g.own a m).resolve_left (no a)) (λb u h=>g.keep b u h (no b)) ro.tr ro.ro
theorem wL{kd:KD}{x qual:Str}{st:Stmt}{f:Addr}{fd:FuncData}{N ps:List Str}{k:Nat}{c:SF}(Fn:Fun K x qual st f fd)(S:FnScope N ps (zu st))
 (hb:∀(cdv:Value) (A:Around) (outer:List Env) (s:Shared) (H:Hp) (E:XK),Room k (A.deeper (envOfC qual (zu st) s.heap.objs.size f cdv))->ASs (Xz CX0 P w K mg base N qual (zu st) f cdv A outer s H E).nox kd (YC st) c):
 FnOk P w K mg base CX0 (k+1) f fd ps (spD K kd (fnR N.length ps.length c)):=by
 with_unfolding_all (
 refine Fn.ok S (λvs H Q E h=>?_) (λcdv A outer s H vs Q E hr h=>⟨_,hb cdv A outer s H E hr, ?_⟩)
 · obtain⟨F,ds,r,_,rp,e,_⟩:=h
   unfold fnR at e
   by_cases hl:ds.length=ps.length
   · rw[rp.length,hl]
   · rw[if_neg hl]at e;cases e
 · obtain⟨F,ds,r,ht,rp,e,q⟩:=h
   unfold fnR at e
   by_cases hl:ds.length=ps.length
   · rw[if_pos hl]at e
     obtain⟨o,e1,e⟩:=bS_ e
     refine⟨F,λ_=>False,λ_=>[],xW N.length ds,o,zcl ht rp,e1, ?_⟩
     cases o with
     |nx as=>cases e;exact λσ' ad' H' R g=>zfR q (T:=[]) ⟨zyG,(λ_ m=>nomatch m),.lf .non⟩ (g.trans (Grow.less (λ_ z=>nomatch z)))
     |rt o=>cases e;exact λv T H' ro g=>zfR q ro g
     |bk=>cases e
     |ct=>cases e
   · rw[if_neg hl]at e;cases e)
end
abbrev It1:=Bool×D
abbrev GF:=It1->AS->Option AS
abbrev GFs:=List It1->AS->Option AS
def kids(st:Bool)(ds:List D):List It1:=ds.map λd=>(yd d||st,d)
inductive RpI(K:zC)(kd:KD)(F B G:Addr->Prop)(H:Hp):List V->List It1->Prop
 |nil:RpI K kd F B G H [] []
 |cons {v:V}{x:It1}{vs:List V}{ds:List It1}:Rp K kd (Lv F B G x.1) H v x.2->RpI K kd F B G H vs ds->RpI K kd F B G H (v::vs) (x::ds)
def alG(K:zC)(kd:KD)(S:List Nat)(g:GF):TG:=λv σ H Q=>∃F B ad as x as',Rel K kd F B [] ad as σ H/\Rp K kd (Lv F B (Gw [] ad) x.1) H v x.2/\g x as=some as'/\
 ∀σ' ad' H',Rel K kd F B [] ad' as' σ' H'->Grow (Gw [] ad) H (Gw [] ad') H'->(∀j,j ∉ S->σ'[j]? = σ[j]?)->Q σ' H'
def ztu(K:zC)(kd:KD)(S:List Nat)(g:GFs):TGs:=λvs σ H Q=>∃F B ad as ds as',Rel K kd F B [] ad as σ H/\RpI K kd F B (Gw [] ad) H vs ds/\g ds as=some as'/\
 ∀σ' ad' H',Rel K kd F B [] ad' as' σ' H'->Grow (Gw [] ad) H (Gw [] ad') H'->(∀j,j ∉ S->σ'[j]? = σ[j]?)->Q σ' H'
@[irreducible] def AG(X:Cx)(kd:KD)(tg:Expr)(S:List Nat)(g:GF):Prop:=PG X tg (alG X.K kd S g)
@[irreducible] def AGs(X:Cx)(kd:KD)(tg:List Expr)(S:List Nat)(g:GFs):Prop:=PGs X tg (ztu X.K kd S g)
theorem zpA{X:Cx}{e:Expr}{t t':TG}(h:PG X e t)(k:∀v σ H Q,t' v σ H Q->t v σ H Q):PG X e t':=λpins s σ H v u Q I r q=>h pins s σ H v u Q I r (k v σ H Q q)
theorem zja{X:Cx}{e:List Expr}{t t':TGs}(h:PGs X e t)(k:∀v σ H Q,t' v σ H Q->t v σ H Q):PGs X e t':=λpins s σ H v u Q I r q=>h pins s σ H v u Q I r (k v σ H Q q)
def gN(i:Nat):GF:=λx as=>if i<as.length then some (as.set i (some (.lf x.1 x.2)))else none
def gsN:GFs:=λds as=>match ds with | []=>some as|_::_=>none
def gsC(g:GF)(gs:GFs):GFs:=λds as=>match ds with | []=>none|d::r=>(g d as).bind λas1=>gs r as1
def gT(n:Nat)(gs:GFs):GF:=λx as=>match x.2 with
 | .tup ds=>if ds.length=n then gs (kids x.1 ds) as else none
 | .lst ds=>if ds.length=n then gs (kids x.1 ds) as else none
 |_=>none
section
variable{K:zC}{kd:KD}{F B G G':Addr->Prop}{H H':Hp}
theorem RpI.length{vs:List V}{ds:List It1}(h:RpI K kd F B G H vs ds):vs.length=ds.length:=by
 induction h with
 |nil=>rfl
 |cons _ _ ih=>exact congrArg (· + 1) ih
theorem RpI.grow(g:Grow G H G' H'){vs:List V}{ds:List It1}(h:RpI K kd F B G H vs ds):RpI K kd F B G' H' vs ds:=by
 induction h with
 |nil=>exact .nil
 |cons h _ ih=>exact .cons (Rp.grow g h) ih
theorem RpI.get{vs:List V}{ds:List It1}{i:Nat}{x:It1}(h:RpI K kd F B G H vs ds)(e:ds[i]? = some x):∃v,vs[i]? = some v/\Rp K kd (Lv F B G x.1) H v x.2:=by
 induction h generalizing i with
 |nil=>simp at e
 |cons h r ih=>
  cases i with
  |zero=>simp at e;subst e;exact⟨_,rfl,h⟩
  |succ i=>
   obtain⟨v,h1,h2⟩:=ih (i:=i) (by simpa using e)
   exact⟨v,by simpa using h1,h2⟩
theorem zae{st:Bool}{vs:List V}{ds:List D}(h:RpL K kd (Lv F B G st) H vs ds):RpI K kd F B G H vs (kids st ds):=
 RpL.ind (P:=λvs ds=>RpI K kd F B G H vs (kids st ds)) .nil (λ{v d vs ds} h _ ih=>by
  refine .cons (x:=(yd d||st,d)) ?_ ih
  cases e:yd d with
  |true=>exact h.flat e
  |false=>exact h) h
end
section
variable{prog:Program}{w:World}{A:Around}{E:Value->Shared->Prop}{s:Shared}
theorem zfm{it l:Addr}{items:Array Value}(hne:l≠it):∀(n i:Nat) (s:Shared) (Q:List Value->Shared->Prop),s.heap.IsListIter it l i->s.heap.IsList l items->i+n<=items.size->
 (∀h',h'.IsListIter it l (i+n)->Heap.SameBut it s.heap h'->Q ((items.toList.drop i).take n) {s with heap:=h'})->wpAny (model prog w) A (draw (.ref it) n) Q E s
 |0,i,s,Q,hit,_,_,hQ=>by
  show wpAny _ _ (pure []) Q E s
  exact zxE (by simpa using hQ s.heap hit (Heap.SameBut.refl ..))
 |n+1,i,s,Q,hit,ht,hle,hQ=>by
  have hlt:i<items.size:=by omega
  show wpAny _ _ (pyNext (.ref it) >>= _) Q E s
  refine zxD (wpAny_pyNext_list_item hit ht (x:=items[i]) (by simp[hlt]) λh₁ hit₁ hs₁=>?_)
  refine zxD (zxK (zfm hne n (i+1) _ _ hit₁ (ht.extBut hs₁.extBut hne) (by omega) λh₂ hit₂ hs₂=>zxE ?_))
  have hd:items.toList.drop i=items[i]::items.toList.drop (i+1):=by simp[zyN,hlt]
  have:=hQ h₂ (by rw[show i+(n+1)=i+1+n by omega];exact hit₂) (hs₁.trans hs₂)
  rw[hd,List.take_succ_cons]at this
  exact this
theorem zgV{l:Addr}{items:Array Value}{targets:List (Bool×(Value->Sem Unit))}{Q:Unit->Shared->Prop}(hh:A.handled=none)(ht:s.heap.IsList l items)
 (hn:targets.length=items.size) (hstar:targets.findIdx? (·.1)=none)
 (h:∀h',Heap.ExtBut s.heap.objs.size s.heap h'->wpAny (model prog w) A (assignInOrder (targets.map (·.2)) items.toList) Q E {s with heap:=h'}):
 wpAny (model prog w) A (unpack (.ref l) targets) Q E s:=by
 unfold unpack
 rw[hn,hstar]
 refine zxD (zxK ?_)
 have hlt:l≠s.heap.objs.size:=by obtain⟨o,ho,_⟩:=ht;exact zzN (zxG ho)
 unfold unpackItems
 refine zxD ?_
 unfold notIterableAtAll
 refine zxD (wpAny_specialOf ht.typeIs PySem.F.slot_list_iter.lookup ?_)
 refine zxE ?_
 simp only[Bool.false_eq_true,if_false]
 refine zxD (zxK (wpAny_pyIter_list ht ?_))
 refine zxD (zxK (zfm hlt items.size 0 _ _ ⟨_,zxH _ rfl,rfl,rfl⟩ (ht.push _) (by omega) λh₁ hit₁ hs₁=>?_))
 have hall:List.take items.size (List.drop 0 items.toList)=items.toList:=by
  rw[List.drop_zero];exact List.take_of_length_le (by simp)
 rw[hall]
 rw[if_neg (by simp)]
 have ht₁:h₁.IsList l items:=(ht.push _).extBut hs₁.extBut hlt
 refine zxD (zxK (wpAny_pyNext_list_end hh hit₁ ht₁ (by simp) λh₂ he₂=>?_))
 simp only[Option.isSome_none,Bool.false_eq_true,if_false]
 exact zxE (h h₂ λb o hb e=>he₂ b o hb (hs₁.extBut b o hb (zxF _ e)))
end
section
variable{X:Cx}{kd:KD}{a b c e tg iter:Expr}{es:List Expr}{body:List Stmt}{fa fb:EF}{pos:Pos}{g:GF}{gs:GFs}{f:SF}{ta:TF}{S S1 S2:List Nat}
def zto(K:zC)(n:Nat)(t:TGs):TG:=λv σ H Q=>∃a xs,v = .ref a/\SqL K H a xs/\xs.length=n/\t xs σ H Q
theorem zkH{es:List Expr}{k:Nat}{t:TGs}{n:Nat}(hc:X.calm=true)(h:PGs X es t)(hn:(assignEach es X.env).length=n)(hst:(assignEach es X.env).findIdx? (·.1)=none):PG X (.Tuple es k pos) (zto X.K n t):=by
 intro pins s σ H v u Q I r hw
 obtain⟨a,xs,e1,hq,hl,hw⟩:=hw
 subst e1
 cases r
 obtain⟨its,rv,ht,hz⟩:=I.list hq
 rw[assign_Tuple]
 refine zxD (wpAny_standAt (zgV (I.ok.hd hc) ht.isList (by simp[hn,<-hl,rv.length]) hst λh' hx=>?_))
 have I1:Inv X pins σ H {s with heap:=h'}:=I.kept (t':=s.toks) λb o e=>hx b o (zzN (zxG e)) e
 exact h pins _ σ H xs _ Q I1 (by simpa using rv) hw
theorem znD{i:Nat}{x:Str}(hN:X.N.Nodup)(hi:X.N[i]? = some x)(hx:Loc X.env.scope x)(hf:X.fn x=true\/X.env.scope.names.lookup x=some .local):AG X kd (.Name x pos) [i] (gN i):=by with_unfolding_all exact(zpA (Wv hN hi hx hf) λv σ H Q h=>by
 obtain⟨F,B,ad,as,y,as',R,rp,e,q⟩:=h
 obtain⟨hl,e⟩:=zO e
 cases e
 exact q _ _ H (R.put hl (o:=.lf y.1 y.2) (.lf rp)) (Grow.less Yx) λj hj=>zzV (λz=>hj (by rw[z];simp)))
theorem YD:AGs X kd [] [] gsN:=by with_unfolding_all exact(zja ziZ λvs σ H Q h=>by
 obtain⟨F,B,ad,as,ds,as',R,rp,e,q⟩:=h
 cases rp with
 |nil=>cases e;exact⟨rfl,q σ ad H R Grow.refl λ_ _=>rfl⟩
 |cons=>cases e)
theorem ym(h1:AG X kd a S1 g)(h2:AGs X kd es S2 gs)(hs:(assignEach (a::es) X.env).map (·.2)=assign a X.env::(assignEach es X.env).map (·.2)):AGs X kd (a::es) (S1++S2) (gsC g gs):=by with_unfolding_all exact(zja (zhd h1 h2 hs) λvs σ H Q h=>by
 obtain⟨F,B,ad,as,ds,as',R,rp,e,q⟩:=h
 cases rp with
 |nil=>cases e
 |cons r rr=>
  obtain⟨as1,e1,e⟩:=bS_ (show(g _ as).bind _=_ from e)
  refine⟨_,_,rfl,F,B,ad,as,_,as1,R,r,e1,λσ' ad' H' R' g' k'=>?_⟩
  exact⟨F,B,ad',as1,_,as',R',rr.grow g',e,λσ2 ad2 H2 R2 g2 k2=>q σ2 ad2 H2 R2 (g'.trans g2) λj hj=>(k2 j λz=>hj (zzI _ z)).trans (k' j λz=>hj (zzM _ z))⟩)
theorem WW{k n:Nat}(hc:X.calm=true)(h:AGs X kd es S gs)(hn:(assignEach es X.env).length=n)(hst:(assignEach es X.env).findIdx? (·.1)=none):AG X kd (.Tuple es k pos) S (gT n gs):=by
 with_unfolding_all (
 intro pins s σ H v u Q I r hw
 obtain⟨F,B,ad,as,⟨st,d⟩,as',R,rp,e,q⟩:=hw
 cases d with
 |tup ds=>
  have e:(if ds.length=n then gs (kids st ds) as else none)=some as':=e
  by_cases hl:ds.length=n
  · rw[if_pos hl]at e
    have go:∃a xs,v = .ref a/\SqT X.K H a xs/\RpL X.K kd (Lv F B (Gw [] ad) st) H xs ds:=by
     cases rp with
     |tup n h r=>exact⟨_,_,rfl,.inl h,r⟩
     |tupK a b c e f r=>exact⟨_,_,rfl,.inr ⟨_,_,_,a,b,c,e,f⟩,r⟩
    obtain⟨a,xs,rfl,hs,rl⟩:=go
    exact zna hc h hn hst pins s σ H _ u Q I r ⟨a,xs,rfl,hs,by rw[rl.length,hl],F,B,ad,as,_,as',R,zae rl,e,q⟩
  · rw[if_neg hl]at e;cases e
 |lst ds=>
  have e:(if ds.length=n then gs (kids st ds) as else none)=some as':=e
  by_cases hl:ds.length=n
  · rw[if_pos hl]at e
    cases rp with
    |lstK a b c r'=>exact zkH hc h hn hst pins s σ H _ u Q I r ⟨_,_,rfl,.inr ⟨_,_,_,a,rfl,rfl,rfl,b,c⟩,by rw[r'.length,hl],F,B,ad,as,_,as',R,zae r',e,q⟩
    |lst n h' r'=>exact zkH hc h hn hst pins s σ H _ u Q I r ⟨_,_,rfl,.inl h',by rw[r'.length,hl],F,B,ad,as,_,as',R,zae r',e,q⟩
  · rw[if_neg hl]at e;cases e
 |_=>cases e)
def zeg(as:AS)(r:RV):Option (It1×AS):=(toO as r.frz).bind λx=>match x.1 with | .lf st d=>some ((st,d),x.2)|_=>none
theorem zad{K:zC}{F B:Addr->Prop}{T:List Addr}{ad:Ad}{as as':AS}{σ:St}{H:Hp}{v:V}{r:RV}{x:It1}(R:Rel K kd F B T ad as σ H)(h:vP K kd F B T ad σ H v r)(e:zeg as r=some (x,as')):
 ∃ad',Rel K kd F B [] ad' as' σ H/\Rp K kd (Lv F B (Gw [] ad') x.1) H v x.2/\∀a,Gw [] ad' a->Gw T ad a:=by
 obtain⟨⟨o,as1⟩,h1,e⟩:=bS_ e
 obtain⟨ad1,R1,ro,le⟩:=zef R.drop (vP.drop R h) h1
 cases o with
 |lf st d=>
  cases e
  refine⟨ad1,R1, ?_,λa y=>Gw.drop a (le a y)⟩
  have:=zgl ro
  exact this
 |nd k os=>cases e
def zgY(f:EF)(g:GF):SF:=λas=>(f as).bind λp=>(zeg p.2 p.1).bind λq=>(g q.1 q.2).bind λas'=>some (.nx as')
theorem zhU(he:AE X kd e fa)(hg:AG X kd tg S g)(hs:swapsWithSole [tg] e pos.line X.env=pure false)(hw:swappedStores [tg] e X.env=pure none)(h1:(assignEach [tg] X.env).map (·.2)=[assign tg X.env]):
 ASt X kd (.Assign [tg] e pos) (zgY fa g):=by with_unfolding_all exact(Zi (zfU he hg hs hw h1) λD σ H h=>by
 obtain⟨F,B,ad,as,o,R,e,q⟩:=h
 obtain⟨⟨p,as1⟩,h1,e⟩:=bS_ (show(fa as).bind _=_ from e)
 obtain⟨⟨x,as2⟩,h2,e⟩:=bS_ e
 obtain⟨as3,h3,e⟩:=bS_ e
 cases e
 refine⟨F,B,ad,as,p,as1,R,h1,λv T' ad' H' R' rv g1=>?_⟩
 obtain⟨ad2,R2,rp,le⟩:=zad R' rv h2
 exact⟨F,B,ad2,as2,_,as3,R2,rp,h3,λσ' ad' H' R' g' _=>q σ' ad' H' R' ((g1.trans (Grow.less le)).trans g')⟩)
structure ItOk(K:zC)(kd:KD)(F B:Addr->Prop)(ad:Ad)(H:Hp)(J:It)(ds:List It1):Prop where
 all:∀(ad2:Ad) (H2:Hp),Grow (Gw [] ad) H (Gw [] ad2) H2->(∀st a,Lv F B (Gw [] ad2) st a->H2 a≠none)->∀i,(i<ds.length->J.go i H2)/\(ds.length<=i->J.stop i H2)/\
  ∀v H3,J.yld i H2 v H3->(∀b o,H2 b=some o->H3 b=some o)/\∀x,ds[i]? = some x->Rp K kd (Lv F B (Gw [] ad2) x.1) H3 v x.2
abbrev IF:=AS->Option (List It1×AS)
def alI(K:zC)(kd:KD)(f:IF):TI:=λσ H R=>∃F B ad as ds as',Rel K kd F B [] ad as σ H/\f as=some (ds,as')/\
 ∀J ad' H',Rel K kd F B [] ad' as' σ H'->Grow (Gw [] ad) H (Gw [] ad') H'->ItOk K kd F B ad' H' J ds->R J H'
@[irreducible] def AI(X:Cx)(kd:KD)(tg iter:Expr)(f:IF):Prop:=PI X tg iter (alI X.K kd f)
def forL(g:GF)(f:SF):List It1->AS->Option Out
 | [],as=>some (.nx as)
 |d::r,as=>(g d as).bind λas1=>(f as1).bind λo=>match o with
  | .nx as'=>forL g f r as'
  | .ct as'=>forL g f r as'
  | .bk as'=>some (.nx as')
  | .rt r=>some (.rt r)
def xN(fi:IF)(g:GF)(f:SF):SF:=λas=>(fi as).bind λp=>forL g f p.1 p.2
theorem yP{fi:IF}(hp:PassesOwn (model X.prog X.w) X.A X.env X.xe)(hc:X.calm=true)(hi:AI X kd tg iter fi)(hg:AG X kd tg S g)(hb:ASs X kd body f)(hs:∀x,foldedSetIterable iter X.env x=pure x):
 ASt X kd (.For tg iter body [] pos) (xN fi g f):=by with_unfolding_all exact(Zi (zpI hp hc hi hg hb hs) λD σ H h=>by
 obtain⟨F,B,ad,as,o,R,e,q⟩:=h
 obtain⟨⟨ds,as1⟩,h1,e⟩:=bS_ (show(fi as).bind _=_ from e)
 refine⟨F,B,ad,as,ds,as1,R,h1,λJ ad1 H1 R1 g1 it=>?_⟩
 refine⟨λi m σ2 H2=>m+i=ds.length/\∃ad2 as2,Rel X.K kd F B [] ad2 as2 σ2 H2/\Grow (Gw [] ad1) H1 (Gw [] ad2) H2/\forL g f (ds.drop i) as2=some o,⟨ds.length,rfl,ad1,as1,R1,Grow.refl,e⟩, ?_⟩
 rintro i m σ2 H2 ⟨hm,ad2,as2,R2,g2,e2⟩
 obtain⟨k1,k2,k3⟩:=it.all ad2 H2 g2 R2.trk i
 by_cases hi:i<ds.length
 · refine .inr ⟨k1 hi,λσ3 H3=>∃ad3 as3,Rel X.K kd F B [] ad3 as3 σ3 H3/\Grow (Gw [] ad1) H1 (Gw [] ad3) H3/\forL g f (ds.drop (i+1)) as3=some o,λσ3 H3 ⟨ad3,as3,R3,g3,e3⟩=>⟨m-1,by omega,by omega,ad3,as3,R3,g3,e3⟩,λv H3 hy=>?_⟩
   obtain⟨kp,rp⟩:=k3 v H3 hy
   rw[zyN hi]at e2
   obtain⟨as3,e3,e2⟩:=bS_ (show(g _ as2).bind _=_ from e2)
   obtain⟨o3,e4,e2⟩:=bS_ e2
   obtain⟨R3,g3⟩:=R2.more kp
   refine⟨F,B,ad2,as2,_,as3,R3,rp _ (zzB hi),e3,λσ4 ad4 H4 R4 g4 _=>?_⟩
   refine⟨F,B,ad4,as3,o3,R4,e4, ?_⟩
   have gg:=(g2.trans g3).trans g4
   cases o3 with
   |nx as5=>exact λσ5 ad5 H5 R5 g5=>⟨ad5,as5,R5,gg.trans g5,e2⟩
   |ct as5=>exact λσ5 ad5 H5 R5 g5=>⟨ad5,as5,R5,gg.trans g5,e2⟩
   |bk as5=>
    cases e2
    exact λσ5 ad5 H5 R5 g5=>q σ5 ad5 H5 R5 (g1.trans (gg.trans g5))
   |rt r=>
    cases e2
    exact λv T H5 ro g5=>q v T H5 ro (g1.trans (gg.trans g5))
 · refine .inl ⟨k2 (by omega), ?_⟩
   rw[List.drop_eq_nil_of_le (by omega)]at e2
   cases e2
   exact q σ2 ad2 H2 R2 (g1.trans g2))
def whL(c:TF)(f:SF):Nat->AS->Option Out
 |0,_=>none
 |n+1,as=>(c as).bind λp=>if p.1=true then(f p.2).bind λo=>match o with
  | .nx as'=>whL c f n as'
  | .ct as'=>whL c f n as'
  | .bk as'=>some (.nx as')
  | .rt r=>some (.rt r)else some (.nx p.2)
theorem zlf{n:Nat}(hp:PassesOwn (model X.prog X.w) X.A X.env X.xe)(hc:AT X kd c ta)(hb:ASs X kd body f):ASt X kd (.While c body [] pos) (whL ta f n):=by with_unfolding_all exact(Zi (zmg hp hc hb) λD σ H h=>by
 obtain⟨F,B,ad,as,o,R,e,q⟩:=h
 refine⟨λm σ2 H2=>∃ad2 as2,Rel X.K kd F B [] ad2 as2 σ2 H2/\Grow (Gw [] ad) H (Gw [] ad2) H2/\whL ta f m as2=some o,⟨n,ad,as,R,Grow.refl,e⟩, ?_⟩
 rintro m σ2 H2 ⟨ad2,as2,R2,g2,e2⟩
 cases m with
 |zero=>cases e2
 |succ m=>
  obtain⟨⟨p,as3⟩,e3,e2⟩:=bS_ (show(ta as2).bind _=_ from e2)
  refine⟨F,B,ad2,as2,p,as3,R2,e3,λad3 H3 R3 g3=>?_⟩
  cases p with
  |true=>
   rw[if_pos rfl]at e2 ⊢
   obtain⟨o3,e4,e2⟩:=bS_ e2
   refine⟨λσ3 H3=>∃ad3 as3,Rel X.K kd F B [] ad3 as3 σ3 H3/\Grow (Gw [] ad) H (Gw [] ad3) H3/\whL ta f m as3=some o,λσ3 H3 h=>⟨m,by omega,h⟩,F,B,ad3,as3,o3,R3,e4, ?_⟩
   have gg:=g2.trans g3
   cases o3 with
   |nx as5=>exact λσ5 ad5 H5 R5 g5=>⟨ad5,as5,R5,gg.trans g5,e2⟩
   |ct as5=>exact λσ5 ad5 H5 R5 g5=>⟨ad5,as5,R5,gg.trans g5,e2⟩
   |bk as5=>
    cases e2
    exact λσ5 ad5 H5 R5 g5=>q σ5 ad5 H5 R5 (gg.trans g5)
   |rt r=>
    cases e2
    exact λv T H5 ro g5=>q v T H5 ro (gg.trans g5)
  |false=>
   rw[if_neg zyT]at e2 ⊢
   cases e2
   exact q σ2 ad3 H3 R3 (g2.trans g3))
def ziM:It1->Option (List It1)
 |(st,.lst ds)=>some (kids st ds)
 |(st,.tup ds)=>some (kids st ds)
 |_=>none
def zlv(f:EF):IF:=λas=>(f as).bind λp=>(zeg p.2 p.1).bind λq=>(ziM q.1).bind λds=>some (ds,q.2)
theorem ziY{K:zC}{F B:Addr->Prop}{ad:Ad}{H:Hp}{a:Addr}{vs:List V}{ds:List It1}(hs:∀(ad3:Ad) (H3:Hp),Grow (Gw [] ad) H (Gw [] ad3) H3->SqL K H3 a vs)(r:RpI K kd F B (Gw [] ad) H vs ds):ItOk K kd F B ad H (Itl K a) ds:=⟨λad3 H3 g3 _ i=>by
 have hr3:=hs ad3 H3 g3
 have rl3:=r.grow g3
 refine⟨λhi=>?_,λhi=>⟨_,hr3,by rw[r.length];exact hi⟩,λv H4 hy=>?_⟩
 · obtain⟨u,hu,_⟩:=r.get (zzB hi)
   exact⟨_,u,hr3,hu⟩
 · obtain⟨rfl,hv⟩:=hy
   refine⟨λ_ _ z=>z,λd hd=>?_⟩
   obtain⟨u,hu,ru⟩:=rl3.get hd
   have:=hv _ hr3
   rw[hu]at this
   cases this
   exact ru⟩
theorem zrq{K:zC}{F B:Addr->Prop}{ad:Ad}{H:Hp}{a:Addr}{vs:List V}{ds:List It1}(hs:∀(ad3:Ad) (H3:Hp),Grow (Gw [] ad) H (Gw [] ad3) H3->SqT K H3 a vs)(r:RpI K kd F B (Gw [] ad) H vs ds):ItOk K kd F B ad H (Itt K a) ds:=⟨λad3 H3 g3 _ i=>by
 have hr3:=hs ad3 H3 g3
 have rl3:=r.grow g3
 refine⟨λhi=>?_,λhi=>⟨_,hr3,by rw[r.length];exact hi⟩,λv H4 hy=>?_⟩
 · obtain⟨u,hu,_⟩:=r.get (zzB hi)
   exact⟨_,u,hr3,hu⟩
 · obtain⟨rfl,hv⟩:=hy
   refine⟨λ_ _ z=>z,λd hd=>?_⟩
   obtain⟨u,hu,ru⟩:=rl3.get hd
   have:=hv _ hr3
   rw[hu]at this
   cases this
   exact ru⟩
theorem zkN(he:AE X kd e fa):AI X kd tg e (zlv fa):=by
 with_unfolding_all (
 intro pins s σ H R I h
 obtain⟨F,B,ad,as,ds,as',Rl,e,q⟩:=h
 obtain⟨⟨p,as1⟩,h1,e⟩:=bS_ (show(fa as).bind _=_ from e)
 obtain⟨⟨⟨st,x⟩,as2⟩,h2,e⟩:=bS_ e
 obtain⟨ys,h3,e⟩:=bS_ e
 cases e
 cases x with
 |lst xs=>
  cases h3
  refine zfT he pins s σ H R I ⟨F,B,ad,as,p,as1,Rl,h1,λv T1 ad1 H1 R1 rv1 g1=>?_⟩
  obtain⟨ad2,R2,rp,le⟩:=zad R1 rv1 h2
  cases rp with
  |lst hn hr rl=>exact⟨_,rfl,⟨_,.inl hr⟩,q _ ad2 H1 R2 (g1.trans (Grow.less le)) (ziY (λad3 H3 g3=>.inl (zaf g3 (λz=>hn (.inr z)) hr)) (zae rl))⟩
  |lstK a b c rl=>exact⟨_,rfl,⟨_,.inr ⟨_,_,_,a,rfl,rfl,rfl,b,c⟩⟩,q _ ad2 H1 R2 (g1.trans (Grow.less le)) (ziY (λad3 H3 g3=>.inr ⟨_,_,_,a,rfl,rfl,rfl,b,c⟩) (zae rl))⟩
 |tup xs=>
  cases h3
  refine zix he pins s σ H R I ⟨F,B,ad,as,p,as1,Rl,h1,λv T1 ad1 H1 R1 rv1 g1=>?_⟩
  obtain⟨ad2,R2,rp,le⟩:=zad R1 rv1 h2
  have go:∃a ys,v = .ref a/\(∀(ad3:Ad) (H3:Hp),Grow (Gw [] ad2) H1 (Gw [] ad3) H3->SqT X.K H3 a ys)/\RpL X.K kd (Lv F B (Gw [] ad2) st) H1 ys xs:=by
   cases rp with
   |tup n h r=>exact⟨_,_,rfl,λad3 H3 g3=>.inl (zaf g3 (λz=>n (.inr z)) h),r⟩
   |tupK a b c e f r=>exact⟨_,_,rfl,λad3 H3 g3=>.inr ⟨_,_,_,a,b,c,e,f⟩,r⟩
  obtain⟨a,ys,rfl,hs,rl⟩:=go
  exact⟨_,rfl,⟨_,hs ad2 H1 Grow.refl⟩,q _ ad2 H1 R2 (g1.trans (Grow.less le)) (zrq hs (zae rl))⟩
 |_=>cases h3)
def wz(lo:Int)(n:Nat):List It1:=(List.range n).map λ(i:Nat)=>(true,D.int (lo+(i:Int)))
theorem zmA{K:zC}{F B:Addr->Prop}{ad:Ad}{H:Hp}(lo:Int)(n:Nat):ItOk K kd F B ad H (Itr lo n) (wz lo n):=⟨λad2 H2 g _ i=>by
 have hl:(wz lo n).length=n:=by unfold wz;simp
 refine⟨λhi=>by rw[hl]at hi;exact hi,λhi=>by rw[hl]at hi;exact hi,λv H3 hy=>?_⟩
 obtain⟨rfl,rfl⟩:=hy
 refine⟨λ_ _ z=>z,λd hd=>?_⟩
 have hi:i<n:=by rw[<-hl];exact(zzD.mp hd).1
 unfold wz at hd
 rw[zzF,List.getElem?_range hi]at hd
 cases hd
 exact .int _⟩
def zsE:List D->Option D
 | [x]=>some x
 |_=>none
theorem zoW{ds:List D}{d:D}(h:zsE ds=some d):ds=[d]:=by
 cases ds with
 |nil=>cases h
 |cons x r=>
  cases r with
  |nil=>cases h;rfl
  |cons _ _=>cases h
def yI(ds:List D):Option (List It1):=((zsE ds).bind asI).bind λj=>if -(2 ^ 62)<=j/\j<2 ^ 62 then some (wz 0 j.toNat)else none
theorem zjj{ds:List D}{xs:List It1}(h:yI ds=some xs):∃j,ds=[.int j]/\(if -(2 ^ 62)<=j/\j<2 ^ 62 then some (wz 0 j.toNat)else none)=some xs:=by
 obtain⟨j,h1,h⟩:=bS_ h
 obtain⟨d,h2,h1⟩:=bS_ h1
 cases zgE h1
 exact⟨j,zoW h2,h⟩
def zrj:List D->Option (List It1)
 | [.int i,.int j]=>if -(2 ^ 62)<=i/\i<2 ^ 62 /\ -(2 ^ 62)<=j/\j<2 ^ 62 then some (wz i (j-i).toNat)else none
 |_=>none
def yE(fr:AF)(h:List D->Option (List It1)):IF:=λas=>(fr as).bind λp=>(views p.2 p.1).bind λds=>(h ds.1).bind λxs=>some (xs,p.2)
theorem zX{fr:AF}{p:Pos}(hg:Gl X "range")(hm:X.mg "range"=none)(ha:AA X kd [a] fr)(hs:starEach [a] X.env=[(false,eval a X.env)]):AI X kd tg (.Call (.Name "range" p) [a] [] pos) (yE fr yI):=by
 with_unfolding_all (
 intro pins s σ H R I h
 obtain⟨F,B,ad,as,ds,as',Rl,e,q⟩:=h
 obtain⟨⟨ps,as1⟩,h1,e⟩:=bS_ (show(fr as).bind _=_ from e)
 obtain⟨⟨xs,lv⟩,h2,e⟩:=bS_ e
 obtain⟨ys,h3,e⟩:=bS_ e
 cases e
 obtain⟨j,rfl,h3⟩:=zjj h3
 · obtain⟨hj,e3⟩:=zO h3
   cases e3
   refine zfg hg hm ha hs pins s σ H R I ⟨F,B,ad,as,ps,_,Rl,h1,λvs ad1 H1 R1 rv1 g1=>?_⟩
   have vl:=zal R1 rv1 h2
   cases vl with
   |cons v1 v2=>
    cases v2
    cases v1
    exact⟨j,rfl,hj.1,hj.2,q _ ad1 H1 R1 g1 (zmA 0 _)⟩)
theorem zkm{fr:AF}{p:Pos}(hg:Gl X "range")(hm:X.mg "range"=none)(ha:AA X kd [a,b] fr)(hs:starEach [a,b] X.env=[(false,eval a X.env),(false,eval b X.env)])(hs2:starEach [b] X.env=[(false,eval b X.env)]):AI X kd tg (.Call (.Name "range" p) [a,b] [] pos) (yE fr zrj):=by
 with_unfolding_all (
 intro pins s σ H R I h
 obtain⟨F,B,ad,as,ds,as',Rl,e,q⟩:=h
 obtain⟨⟨ps,as1⟩,h1,e⟩:=bS_ (show(fr as).bind _=_ from e)
 obtain⟨⟨xs,lv⟩,h2,e⟩:=bS_ e
 obtain⟨ys,h3,e⟩:=bS_ e
 cases e
 match xs,h3,h2 with
 | [.int i,.int j],h3,h2=>
  obtain⟨hj,e3⟩:=zO (show(if -(2 ^ 62)<=i/\i<2 ^ 62 /\ -(2 ^ 62)<=j/\j<2 ^ 62 then some (wz i (j-i).toNat)else none)=some ds from h3)
  cases e3
  refine zkw hg hm ha hs hs2 pins s σ H R I ⟨F,B,ad,as,ps,_,Rl,h1,λvs ad1 H1 R1 rv1 g1=>?_⟩
  have vl:=zal R1 rv1 h2
  cases vl with
  |cons v1 v2=>
   cases v2 with
   |cons v2 v3=>
    cases v3
    cases v1
    cases v2
    exact⟨i,j,rfl,hj,q _ ad1 H1 R1 g1 (zmA i _)⟩)
theorem Rel.mut{K:zC}{F B:Addr->Prop}{T fo:List Addr}{ad:Ad}{as:AS}{σ:St}{H:Hp}{i:Nat}{l:Addr}{fp fp':List Addr}{n:O}{u:HO}(R:Rel K kd F B T ad as σ H)(hi:i<as.length)(hl:ad i=l::fp)(hs:σ[i]? = some (some (.ref l)))
 (hsub:∀a ∈ fp'++fo,a ∈ fp++T) (hnd:(fp'++fo).Nodup) (hu:H l≠none)
 (ro:∀(H':Hp) (G':Addr->Prop),H' l=some u->Grow (Gw T ad) H G' H'->(∀a ∈ fp',∀w,H a=some w->H' a=some w)->RoS K kd F B G' H' (.ref l) n (l::fp')):
 Rel K kd F B fo (vp ad i (l::fp')) (as.set i (some n)) σ (upd H l u)/\Grow (Gw T ad) H (Gw fo (vp ad i (l::fp'))) (upd H l u):=by
 have hli:l ∈ ad i:=by rw[hl];exact zzC
 have lT:l ∉ T:=R.dis i l hli
 have lfp:l ∉ fp:=by have:=R.nd i;rw[hl]at this;exact(zzT.mp this).1
 have lsub:∀a ∈ fp'++fo,a≠l:=λa m e=>by
  subst e
  rcases zzJ.mp (hsub _ m)with z|z
  · exact lfp z
  · exact lT z
 have sub:∀a ∈ fp'++fo,Gw T ad a:=λa m=>by
  rcases zzJ.mp (hsub a m)with z|z
  · exact .inr ⟨i,by rw[hl];exact zzA _ z⟩
  · exact .inl z
 have gsub:∀a,Gw fo (vp ad i (l::fp')) a->Gw T ad a:=λa z=>by
  rcases z with z|⟨j,z⟩
  · exact sub a (zzI _ z)
  · by_cases e:j=i
    · subst e
      rw[zH]at z
      rcases zS.mp z with z|z
      · subst z;exact .inr ⟨j,hli⟩
      · exact sub a (zzM _ z)
    · rw[zL e]at z;exact .inr ⟨j,z⟩
 have g:Grow (Gw T ad) H (Gw fo (vp ad i (l::fp'))) (upd H l u):=⟨λb w h n=>by rw[zM (λe=>n (by subst e;exact .inr ⟨i,hli⟩))];exact h,λb z=>.inl (gsub b z)⟩
 have kn:∀a,H a≠none->upd H l u a≠none:=λa z=>by
  by_cases e:a=l
  · subst e;rw[zU];simp
  · rw[zM e];exact z
 obtain⟨hnd1,hnd2,hnd3⟩:=zxC.mp hnd
 have inT:∀j a,j≠i->a ∈ ad j->a ∈ fp'++fo->False:=λj a hj m m'=>by
  rcases zzJ.mp (hsub a m')with z|z
  · exact hj (R.inj j i a m (by rw[hl];exact zzA _ z))
  · exact R.dis j a m z
 refine⟨⟨by rw[zzR];exact R.len,λj hj=>?_,λj=>?_,λj k a h1 h2=>?_,hnd2,λj a h1 h2=>?_,λa z=>kn a (R.ftr a z),λa z=>?_,λa z=>⟨kn a (R.gtr a (gsub a z)).1,(R.gtr a (gsub a z)).2⟩,λj s e=>?_⟩,g⟩
 · rw[zzR]at hj
   rw[zL (by omega)];exact R.out j hj
 · by_cases e:j=i
   · subst e;rw[zH]
     exact zzT.mpr ⟨λm=>lsub l (zzM _ m) rfl,hnd1⟩
   · rw[zL e];exact R.nd j
 · by_cases e:j=i
   · subst e
     by_cases e':k=j
     · exact e'.symm
     · rw[zH]at h1
       rw[zL e']at h2
       rcases zS.mp h1 with z|z
       · subst z;exact R.inj j k a hli h2
       · exact(inT k a e' h2 (zzM _ z)).elim
   · rw[zL e]at h1
     by_cases e':k=i
     · subst e'
       rw[zH]at h2
       rcases zS.mp h2 with z|z
       · subst z;exact R.inj j k a h1 hli
       · exact(inT j a e h1 (zzM _ z)).elim
     · rw[zL e']at h2
       exact R.inj j k a h1 h2
 · by_cases e:j=i
   · subst e
     rw[zH]at h1
     rcases zS.mp h1 with z|z
     · subst z;exact lsub a (zzI _ h2) rfl
     · exact hnd3 a z a h2 rfl
   · rw[zL e]at h1
     exact inT j a e h1 (zzI _ h2)
 · obtain⟨b1,b2,b3⟩:=R.btr a z
   exact⟨kn a b1,b2,λy=>b3 (gsub a y)⟩
 · by_cases q:j=i
   · subst q
     rw[zyH hi]at e
     cases e
     rw[zH]
     refine⟨_,hs,ro _ _ zU g λa m w h=>?_⟩
     rw[zM (lsub a (zzM _ m))];exact h
   · rw[zzV (Ne.symm q)]at e
     rw[zL q]
     refine(R.sl j s e).grow g λa m w h=>?_
     rw[zM (λz=>q (R.inj j i l (by rw[<-z];exact m) hli))];exact h
abbrev MG:=List O->List O->Option (List O×O)
def ZX(i:Nat)(fr:DF)(g:MG):EF:=λas=>match as[i]? with
 |some (some (.nd .ls _))=>(fr as).bind λp=>match p.2[i]? with
  |some (some (.nd .ls os))=>(g os p.1).bind λz=>some (.ow z.2,p.2.set i (some (.nd .ls z.1)))
  |_=>none
 |_=>none
def MuD(X:Cx)(kd:KD)(r:V->List V->Hp->VK->Prop)(g:MG):Prop:=
 ∀(F B G:Addr->Prop) (l:Addr) (vs ws:List V) (os es os':List O) (o:O) (fp fq:List Addr) (H:Hp) (Q:VK),H l=some (.lst vs)->vA X.K kd F B G H vs os fp->vA X.K kd F B G H ws es fq->(fp++fq).Nodup->g os es=some (os',o)->
  (∀v vs' fp' fo,vA X.K kd F B G H vs' os' fp'->RoS X.K kd F B G H v o fo->(∀a ∈ fp'++fo,a ∈ fp++fq)->(fp'++fo).Nodup->Q v (upd H l (.lst vs')))->r (.ref l) ws H Q
theorem zsC{i:Nat}{fr:DF}{g:MG}{r:V->List V->Hp->VK->Prop}(hr:MuD X kd r g)
 {σ:St}{H:Hp}{Q:VK}(h:al X.K kd (ZX i fr g) σ H Q):tBM X.K "list" r (zcn i) (alD X.K kd fr) σ H Q:=by
 obtain⟨F,B,ad,as,z,as',R,e,q⟩:=h
 unfold ZX at e
 cases k:as[i]? with
 |none=>rw[k]at e;cases e
 |some a0=>
  rw[k]at e
  match a0,e,k with
  |some (.nd .ls os0),e,k=>
   obtain⟨⟨es,as1⟩,h1,e⟩:=bS_ (show(fr as).bind _=_ from e)
   obtain⟨v0,hs0,ro0⟩:=R.sl i _ k
   generalize hfp0:ad i=fp0 at ro0
   cases ro0 with
   |ls hH0 rl0=>
   rename_i l vs0 fp00
   refine⟨_,hs0,.inl ⟨rfl,_,.inl (.inl hH0)⟩,F,B,ad,as,es,as1,R,h1,λws T1 ad1 H1 R1 ro1 g1=>?_⟩
   cases k2:as1[i]? with
   |none=>rw[k2]at e;cases e
   |some a2=>
    rw[k2]at e
    match a2,e,k2 with
    |some (.nd .ls os),e,k2=>
     obtain⟨⟨os',o⟩,h3,e⟩:=bS_ (show(g os es).bind _=_ from e)
     cases e
     obtain⟨v1,hs1,ro2⟩:=R1.sl i _ k2
     rw[hs0]at hs1
     cases hs1
     generalize hfp:ad1 i=fp1 at ro2
     cases ro2 with
     |ls hH rl=>
     rename_i vs fp
     have hnd:(fp++T1).Nodup:=zxC.mpr ⟨by have:=R1.nd i;rw[hfp]at this;exact(zzT.mp this).2,R1.tnd,λa m b m' e=>by
          subst e;exact R1.dis i a (by rw[hfp];exact zzA _ m) m'⟩
     refine hr F B (Gw T1 ad1) _ vs ws os es os' o fp T1 H1 Q hH rl ro1 hnd h3 λv vs' fp' fo rl' ro' hsub hnd'=>?_
     obtain⟨R3,g3⟩:=R1.mut (n:=.nd .ls os') (u:=.lst vs') (zzD.mp k2).1 hfp hs0 hsub hnd' (by rw[hH];simp) λH' G' hl' gr kp=>.ls hl' (vA.grow gr kp rl')
     have lno:∀a ∈ fo,∀w,H1 a=some w->upd H1 l (.lst vs') a=some w:=λa m w h=>by
          rw[zM (λe=>?_)]
          · exact h
          · subst e
            rcases zzJ.mp (hsub _ (zzI _ m))with z|z
            · have:=R1.nd i;rw[hfp]at this;exact(zzT.mp this).1 z
            · exact R1.dis i _ (by rw[hfp];exact zzC) z
     exact q v fo _ _ R3 (RoS.grow g3 lno ro') (g1.trans g3)
end
end PF
end
section
set_option exponentiation.threshold 5000
namespace PF
open PySem PySem.Spec PyProof.Rows L2
section
variable{K:zC}{kd:KD}{O:Addr->Prop}{H:Hp}{Q:VK}
theorem yD{d:D}{v:V}(q:RQ K kd O H Q (.im d))(r:Rp K kd O H v d):Q v H:=q v H (λ_ _ z=>z) r
theorem zjf{vs:List V}{ds:List D}{p:Addr}{o:HO}(hp:H p=none)(r:RpL K kd O H vs ds):RpL K kd (Un2 O (· = p)) (upd H p o) vs ds:=
 RpL.grow (F:=O) (W:=λ_=>False) ⟨λb u q _=>by rw[zM (yc q hp)];exact q,λb z=>.inr (by rw[z];exact hp)⟩ (r.less λa z=>z.elim id False.elim)
theorem znw{vs:List (Key×V)}{ds:List (Key×D)}{p:Addr}{o:HO}(hp:H p=none)(r:RpM K kd O H vs ds):RpM K kd (Un2 O (· = p)) (upd H p o) vs ds:=
 RpM.grow (F:=O) (W:=λ_=>False) ⟨λb u q _=>by rw[zM (yc q hp)];exact q,λb z=>.inr (by rw[z];exact hp)⟩ (r.less λa z=>z.elim id False.elim)
theorem Vt{p:Addr}{o:HO}(hp:H p=none):∀b u,H b=some u->upd H p o b=some u:=λb u q=>by rw[zM (yc q hp)];exact q
theorem zck{vs:List V}{ds:List D}(q:RQ K kd O H Q (.fl ds))(r:RpL K kd O H vs ds):∀p,H p=none->Q (.ref p) (upd H p (.lst vs)):=λp hp=>
 q p vs _ hp (Vt hp) zU (zjf hp r)
theorem zmf{vs:List (Key×V)}{ds:List (Key×D)}(q:RQ K kd O H Q (.fd ds))(r:RpM K kd O H vs ds):∀p,H p=none->Q (.ref p) (upd H p (.dK vs)):=λp hp=>
 q p vs _ hp (Vt hp) zU (znw hp r)
theorem zgt{vs:List V}{ds:List D}(ht:∀a,O a->H a≠none)(q:RQ K kd O H Q (.im (.tup ds)))(r:RpL K kd O H vs ds):∀p,H p=none->Q (.ref p) (upd H p (.tup vs)):=λp hp=>
 q _ _ (Vt hp) (.tup (λz=>ht p z hp) (.inl zU) ((zjf hp r).less λa z=>.inl z))
end
def big:Nat:=2 ^ 4000
theorem zhz{i:Int}(h:i.natAbs<big):Builtin.Int.intBits i<=2 ^ 20:=by
 unfold Builtin.Int.intBits
 split
 · exact Nat.zero_le _
 · have:i.natAbs.log2<4000:=by
    rcases Nat.eq_zero_or_pos i.natAbs with h0|hp
    · rw[h0];decide
    · exact(Nat.log2_lt (Nat.ne_of_gt hp)).mpr h
   have e:(2:Nat) ^ 20=1048576:=by decide
   omega
def onI(f:Int->Int->Option R0)(x y:D):Option R0:=(asI x).bind λi=>(asI y).bind λj=>f i j
def zsT(x y:D):Option R0:=match x with
 | .int i=>(asI y).bind λj=>some (.im (.int (i+j)))
 | .str x=>(asS y).bind λy=>if x.length+y.length<=sizeLine then some (.im (.str (x++y)))else none
 | .lst xs=>(asL y).bind λys=>if xs.length+ys.length<=sizeLine then some (.fl (xs++ys))else none
 | .tup xs=>(asT y).bind λys=>if xs.length+ys.length<=sizeLine then some (.im (.tup (xs++ys)))else none
 |_=>none
def zsV(x y:D):Option R0:=match x with
 | .int i=>(asI y).bind λj=>if i.natAbs<big/\j.natAbs<big then some (.im (.int (i*j)))else none
 | .lst xs=>(asI y).bind λk=>if -(2 ^ 63)<=k/\k<2 ^ 63/\xs.length*k.toNat<=sizeLine then some (.fl (List.replicate k.toNat xs).flatten)else none
 | .tup xs=>(asI y).bind λk=>if 1<=k/\k<2 ^ 63/\xs.length≠0/\xs.length*k.toNat<=sizeLine then some (.im (.tup (List.replicate k.toNat xs).flatten))else none
 |_=>none
def zm(o:Operator)(x y:D):Option R0:=match o with
 | .Add=>zsT x y
 | .Sub=>onI (λi j=>some (.im (.int (i-j)))) x y
 | .Mult=>zsV x y
 | .FloorDiv=>onI (λi j=>if 0<j/\j.natAbs<big then some (.im (.int (i/j)))else none) x y
 | .Mod=>onI (λi j=>if 0<j then some (.im (.int (i%j)))else none) x y
 | .Pow=>onI (λi j=>if 0<=j/\j<=1000000/\i.natAbs<2 ^ 64 then some (.im (.int (i ^ j.toNat)))else none) x y
 |_=>none
theorem WN{K:zC}{kd:KD}{O:Addr->Prop}{H:Hp}{v:V}{d:D}{i:Int}(h:Vw K kd O H v d)(e:asI d=some i):d = .int i/\v = .int i:=by
 cases h with
 |int j=>cases e;exact⟨rfl,rfl⟩
 |_=>cases e
theorem zqL{K:zC}{kd:KD}{O:Addr->Prop}{H:Hp}{v:V}{d:D}{i:Str}(h:Vw K kd O H v d)(e:asS d=some i):d = .str i/\v = .str i:=by
 cases h with
 |str j=>cases e;exact⟨rfl,rfl⟩
 |_=>cases e
theorem Xp{K:zC}{kd:KD}{O:Addr->Prop}{H:Hp}{v w:V}{d e:D}{f:Int->Int->Option R0}{r:R0}(vx:Vw K kd O H v d)(vy:Vw K kd O H w e)(h:onI f d e=some r):∃i j,v = .int i/\w = .int j/\f i j=some r:=by
 obtain⟨i,h1,h⟩:=bS_ (show(asI d).bind _=_ from h)
 obtain⟨j,h2,h⟩:=bS_ h
 exact⟨i,j,(WN vx h1).2,(WN vy h2).2,h⟩
section
variable{X:Cx}{kd:KD}
theorem zoo:OpR X (binaryOp .Add) (λx y H Q=>∃l b xs zs,x = .ref l/\y = .ref b/\RdL X.K H l xs/\RdL X.K H b zs/\xs.length+zs.length<=sizeLine/\∀p,H p=none->Q (.ref p) (upd H p (.lst (xs++zs)))):=by
 intro pins s σ H x y v u Q I rx ry h
 obtain⟨l,b,xs,zs,rfl,rfl,hH,hB,hz,q⟩:=h
 cases rx
 cases ry
 obtain⟨z,its,n,r,e⟩:=zhO I hH
 obtain⟨z2,its2,n2,r2,e2⟩:=zhO I hB
 have hl:=r.length
 have hl2:=r2.length
 refine PySem.P.add_list e e2 ?_ (by rw[zzE,zzE];omega)
 have ea:its.toArray++its2.toArray=(its++its2).toArray:=by simp
 rw[ea]
 exact⟨.ref _,_,I.lnew (t':=s.toks) (r.append r2) (by rw[zzG];omega),rfl,q _ I.fresh⟩
theorem zot:OpR X (binaryOp .Mult) (λx y H Q=>∃l k xs,x = .ref l/\y = .int k/\RdL X.K H l xs /\ -(2 ^ 63)<=k/\k<2 ^ 63/\xs.length*k.toNat<=sizeLine/\
 ∀p,H p=none->Q (.ref p) (upd H p (.lst (List.replicate k.toNat xs).flatten))):=by
 intro pins s σ H x y v u Q I rx ry h
 obtain⟨l,k,xs,rfl,rfl,hH,h1,h2,hz,q⟩:=h
 cases rx
 obtain⟨t,rfl⟩:=ry
 obtain⟨z,its,n,r,e⟩:=zhO I hH
 have hl:=r.length
 have hlen:its.toArray.size*k.toNat<=sizeLine:=by rw[zzE,<-hl];exact hz
 have hcap:¬its.toArray.size*k.toNat > (2 ^ 63-1)/8:=by
  have:(sizeLine:Nat)<=(2 ^ 63-1)/8:=by decide
  omega
 have hfit:¬(!Builtin.List.listFitsIndex k)=true:=by
  rw[fitsIndex_both h1 h2]
  exact zyT
 have hlong:¬Builtin.List.listTooLong (its.toArray.size*k.toNat)=true:=by
  rw[zlo hlen]
  exact zyT
 have hnew:List.foldl (λx1 x2=>x1++x2) #[] (List.replicate (if its.toArray.isEmpty=true then 0 else k.toNat) its.toArray)=(List.replicate k.toNat its).flatten.toArray:=by
  have f0:∀m:Nat,List.foldl (λx1 x2=>x1++x2) #[] (List.replicate m its.toArray)=(List.replicate m its).flatten.toArray:=λm=>by
   have:=foldl_rep its m []
   rw[List.nil_append]at this
   exact this
  rw[f0]
  cases its with
  |nil=>simp
  |cons a r'=>rw[if_neg (by simp)]
 refine wpAny_binaryOp_repeat_ref (T:="list") (U:="int") (by decide) ⟨_,e,rfl⟩ (λs'=>typeIs_int s' k t) noFill_list_mul F.fills_int_mul F.slot_int_rmul repeat_list F.slot_int_index.lookup
  (call_meets F.slot_int_rmul (typeIs_int s k t) F.entry_int_rmul (F.args_int_rmul_2 _ _) (int___rmul___int_list k t l its.toArray n)
   ⟨e,rfl,⟨_,e,rfl⟩,call_meets F.slot_list_mul ⟨_,e,rfl⟩ F.entry_list_mul (F.args_list_mul_2 _ _) (AutoListH.list___mul___list_int_3 l its.toArray n k t hfit hcap hlong) ⟨e, ?_⟩⟩)
 rw[hnew]
 refine⟨.ref _,_,I.lnew (t':=s.toks) (r.rep k.toNat) ?_,rfl,q _ I.fresh⟩
 rw[len_rep,Nat.mul_comm]
 exact hz
theorem tuple_addW0(l b:Addr)(items items2:Array Value)(n n2:Nat)(dd dd2:Option Addr)(sl sl2:Array (Option Value))(h0:items.isEmpty=true):
 Meets (Builtin.«tuple.__add__» {pos:=[.ref l,.ref b]}) (λ_ R s=>s.heap.get? l=some {cls:=.type "tuple",dict:=dd,data:=.seq items n,slots:=sl}/\s.heap.get? b=some {cls:=.type "tuple",dict:=dd2,data:=.seq items2 n2,slots:=sl2}/\R (.ok (.ret (.ref b))) s):=
 .of_wp λprog w A R s h=>by
  obtain⟨hp,g,d,tk,os⟩:=s;obtain⟨hl,hb,h⟩:=h
  have f2:=AutoSeq1.sub_tuple_tuple
  wp_walk using wpAny_loadPart' hl,wpAny_loadPart' hb
  exact⟨_,rfl,h⟩
theorem zhl(l:Addr)(items:Array Value)(n:Nat)(dd:Option Addr)(sl:Array (Option Value))(u:Tok):
 Meets (Builtin.«tuple.__mul__» {pos:=[.ref l,.int 1 u]}) (λ_ R s=>s.heap.get? l=some {cls:=.type "tuple",dict:=dd,data:=.seq items n,slots:=sl}/\R (.ok (.ret (.ref l))) s):=
 .of_wp λprog w A R s h=>by
  obtain⟨hp,g,d,tk,os⟩:=s;obtain⟨hl,h⟩:=h
  have f2:=AutoSeq1.sub_tuple_tuple
  wp_walk using wpAny_loadPart' hl
  exact⟨_,rfl,h⟩
theorem zhu(l:Addr)(items its2:Array Value)(n:Nat)(dd:Option Addr)(sl:Array (Option Value))(x:Int)(u:Tok)(c1:¬(decide (x < -2 ^ 63)||decide (x ≥ 2 ^ 63))=true)(c2:¬(items.isEmpty||x==1)=true)(c3:¬(decide (x<=0)||items.isEmpty)=true)
 (hcap:¬(items.size:Int)*x > (2 ^ 63-1)/8) (ht:¬Builtin.Tuple.tupleTooMany (items.size*x)=true) (hz:¬(List.foldl (λx1 x2=>x1++x2) #[] (List.replicate x.toNat items)).size > sizeLine):
 Meets (Builtin.«tuple.__mul__» {pos:=[.ref l,.int x u]}) (λ_ R s=>s.heap.get? l=some {cls:=.type "tuple",dict:=dd,data:=.seq items n,slots:=sl}/\R (.ok (.ret (.ref s.heap.objs.size))) {s with heap:=s.heap.push {cls:=.type "tuple",data:=.seq (List.foldl (λx1 x2=>x1++x2) #[] (List.replicate x.toNat items))}}):=
 .of_wp λprog w A R s h=>by
  obtain⟨hp,g,d,tk,os⟩:=s;obtain⟨hl,h⟩:=h
  have f2:=AutoSeq1.sub_tuple_tuple
  wp_walk using wpAny_loadPart' hl
  rw[if_neg c1]
  wp_walk using wpAny_loadPart' hl
  rw[if_neg hcap]
  wp_walk
  exact⟨_,rfl,h⟩
theorem zcd:fillsNumberSlot (Value.type "tuple") "mul"=pure false:=PySem.fillsNumberSlot_seq rfl rfl rfl rfl
theorem zgD:seqRepeat? (Value.type "tuple")=pure (some (Value.builtin "tuple.__mul__")):=W.of_pureOf rfl
theorem zen(a:Int)(t:Tok)(l:Addr)(items:Array Value)(n:Nat)(dd:Option Addr)(sl:Array (Option Value)):
 Meets (Builtin.«int.__rmul__» {pos:=[.int a t,.ref l]}) (λ_ R s=>s.heap.get? l=some {cls:=.type "tuple",dict:=dd,data:=.seq items n,slots:=sl}/\R (.ok (.ret .notImplemented)) s):=
 .of_wp λprog w A R s h=>by
  obtain⟨hp,g,d,tk,os⟩:=s;obtain⟨hl,h⟩:=h
  wp_walk using wpAny_load' hl,wpAny_loadPart' hl
  exact⟨_,rfl,h⟩
theorem znC:OpR X (binaryOp .Add) (λx y H Q=>∃a b ys,x = .ref a/\y = .ref b/\SqT X.K H a []/\SqT X.K H b ys/\Q (.ref b) H):=by
 intro pins s σ H x y v u Q I rx ry h
 obtain⟨a,b,ys,rfl,rfl,ha,hb,q⟩:=h
 cases rx
 cases ry
 obtain⟨its,r1,p1,_⟩:=I.tuple ha
 obtain⟨its2,r2,p2,_⟩:=I.tuple hb
 cases r1
 obtain⟨⟨cls,dd,data,sl⟩,ho,hc,n,hd⟩:=id p1
 obtain⟨⟨cls2,dd2,data2,sl2⟩,ho2,hc2,n2,hd2⟩:=id p2
 simp only at hc hd hc2 hd2
 subst hc hd hc2 hd2
 exact concat_meets ⟨_,ho,rfl⟩ ⟨_,ho2,rfl⟩ noFill_tuple_add seq_tuple_add PySem.F.slot_tuple_add PySem.F.entry_tuple_add (PySem.F.args_tuple_add_2 _ _) (tuple_addW0 a b _ _ n n2 dd dd2 sl sl2 rfl) ⟨ho,ho2,⟨.ref b,H,I,rfl,q⟩⟩
theorem zop:OpR X (binaryOp .Mult) (λx y H Q=>∃l k xs,x = .ref l/\y = .int k/\SqT X.K H l xs/\xs≠[]/\1<=k/\k<2 ^ 63/\xs.length*k.toNat<=sizeLine/\(k=1->Q (.ref l) H)/\
 (2<=k->∀p,H p=none->Q (.ref p) (upd H p (.tup (List.replicate k.toNat xs).flatten)))):=by
 intro pins s σ H x y v u Q I rx ry h
 obtain⟨l,k,xs,rfl,rfl,hH,hne,h1,h2,hz,q1,q2⟩:=h
 cases rx
 obtain⟨t,rfl⟩:=ry
 obtain⟨its,r,p,_⟩:=I.tuple hH
 have hl:=r.length
 have hlen:its.toArray.size*k.toNat<=sizeLine:=by rw[zzE,<-hl];exact hz
 have hki:((its.toArray.size:Int)*k)=((its.toArray.size*k.toNat:Nat):Int):=by
  rw[zzS,zyW (by omega)]
 have he:its.toArray.isEmpty=false:=by
  cases its with
  |nil=>rw[List.length_nil]at hl;exact absurd (List.length_eq_zero_iff.mp hl) hne
  |cons a r'=>rfl
 have hnew:List.foldl (λx1 x2=>x1++x2) #[] (List.replicate k.toNat its.toArray)=(List.replicate k.toNat its).flatten.toArray:=by
  have:=foldl_rep its k.toNat []
  rw[List.nil_append]at this
  exact this
 obtain⟨⟨cls,dd,data,sl⟩,ho,hc,n,hd⟩:=id p
 simp only at hc hd
 subst hc hd
 refine wpAny_binaryOp_repeat_ref (T:="tuple") (U:="int") (by decide) ⟨_,ho,rfl⟩ (λs'=>typeIs_int s' k t) zcd F.fills_int_mul F.slot_int_rmul zgD F.slot_int_index.lookup
  (call_meets F.slot_int_rmul (typeIs_int s k t) F.entry_int_rmul (F.args_int_rmul_2 _ _) (zen k t l its.toArray n dd sl) ⟨ho,rfl,⟨_,ho,rfl⟩, ?_⟩)
 by_cases hk:k=1
 · subst hk
   exact call_meets F.slot_tuple_mul ⟨_,ho,rfl⟩ F.entry_tuple_mul (F.args_tuple_mul_2 _ _) (zhl l its.toArray n dd sl t) ⟨ho,⟨.ref l,H,I,rfl,q1 rfl⟩⟩
 · have hfl:(List.replicate k.toNat xs).flatten.length<=sizeLine:=by rw[len_rep,Nat.mul_comm];exact hz
   refine call_meets F.slot_tuple_mul ⟨_,ho,rfl⟩ F.entry_tuple_mul (F.args_tuple_mul_2 _ _) (zhu l its.toArray #[] n dd sl k t (by simp;omega) (by rw[he];simpa using hk) (by rw[he];simp;omega) ?_ ?_ ?_) ⟨ho, ?_⟩
   · rw[hki]
     have:((sizeLine:Nat):Int)<=(2 ^ 63-1)/8:=by decide
     omega
   · unfold Builtin.Tuple.tupleTooMany
     rw[hki]
     simp only[gt_iff_lt,decide_eq_true_eq]
     omega
   · rw[hnew,zzE,len_rep,Nat.mul_comm]
     rw[zzE]at hlen
     omega
   · rw[hnew]
     refine⟨.ref s.heap.objs.size,_,I.laid (t':=s.toks) (o:=.tup (List.replicate k.toNat xs).flatten) (λb ob q=>zxF _ q) (zzK _) ?_,rfl,q2 (by omega) _ (I.hok.fresh (zzK _))⟩
     exact⟨hfl,_,r.rep k.toNat,IsTup.new _ _⟩
theorem zq(op:Operator):OpD X kd (binaryOp op) (zm op):=by
 intro pins s σ H x y v u Q I rx ry h
 obtain⟨O,d,e,r,ht,vx,vy,he,q⟩:=h
 cases op with
 |Add=>
  cases vx with
  |int i=>
   obtain⟨j,h1,he⟩:=bS_ (show(asI e).bind _=_ from he)
   obtain⟨rfl,rfl⟩:=WN vy h1
   cases he
   exact zqx pins s σ H _ _ v u Q I rx ry ⟨_,_,rfl,rfl,yD q (.int _)⟩
  |str i=>
   obtain⟨j,h1,he⟩:=bS_ (show(asS e).bind _=_ from he)
   obtain⟨rfl,rfl⟩:=zqL vy h1
   obtain⟨c,rfl⟩:=zO he
   exact zis pins s σ H _ _ v u Q I rx ry ⟨_,_,rfl,rfl,c,yD q (.str _)⟩
  |lst hx rx'=>
   obtain⟨j,h1,he⟩:=bS_ (show(asL e).bind _=_ from he)
   cases zfX h1
   obtain⟨c,rfl⟩:=zO he
   cases vy with
   |lst hy ry'=>exact zoo pins s σ H _ _ v u Q I rx ry ⟨_,_,_,_,rfl,rfl,hx,hy,by rw[rx'.length,ry'.length];exact c,zck q (rx'.append ry')⟩
  | @tup a1 vs1 ds1 r1 hx rx'=>
   obtain⟨j,h1,he⟩:=bS_ (show(asT e).bind _=_ from he)
   cases znp h1
   obtain⟨c,rfl⟩:=zO he
   cases vy with
   |tup r2 hy ry'=>
    by_cases h0:vs1=([]:List V)
    · subst h0
      cases rx'
      exact znC pins s σ H _ _ v u Q I rx ry ⟨_,_,_,rfl,rfl,hx,hy,yD q r2⟩
    refine zoE pins s σ H _ _ v u Q I rx ry ⟨_,_,_,_,rfl,rfl,hx,hy,h0,by rw[rx'.length,ry'.length];exact c,λhn=>?_,λhn=>zgt ht q (rx'.append ry')⟩
    · subst hn
      cases ry'
      rw[zyB]at q
      exact yD q r1
  |_=>cases he
 |Sub=>
  obtain⟨i,j,rfl,rfl,he⟩:=Xp vx vy he
  cases he
  exact zpu pins s σ H _ _ v u Q I rx ry ⟨_,_,rfl,rfl,yD q (.int _)⟩
 |Mult=>
  cases vx with
  |int i=>
   obtain⟨j,h1,he⟩:=bS_ (show(asI e).bind _=_ from he)
   obtain⟨rfl,rfl⟩:=WN vy h1
   obtain⟨c,rfl⟩:=zO he
   obtain⟨t,rfl⟩:=rx
   obtain⟨t',rfl⟩:=ry
   exact mul_int ⟨.int _,H,I.tok _,⟨_,rfl⟩,yD q (.int _)⟩ (IntMulOk.of_bits (zhz c.1) (zhz c.2))
  |lst hx rx'=>
   obtain⟨j,h1,he⟩:=bS_ (show(asI e).bind _=_ from he)
   obtain⟨rfl,rfl⟩:=WN vy h1
   obtain⟨c,rfl⟩:=zO he
   exact zot pins s σ H _ _ v u Q I rx ry ⟨_,_,_,rfl,rfl,hx,c.1,c.2.1,by rw[rx'.length];exact c.2.2,zck q (rx'.rep _)⟩
  |tup r1 hx rx'=>
   obtain⟨j,h1,he⟩:=bS_ (show(asI e).bind _=_ from he)
   obtain⟨rfl,rfl⟩:=WN vy h1
   obtain⟨c,rfl⟩:=zO he
   refine zop pins s σ H _ _ v u Q I rx ry ⟨_,_,_,rfl,rfl,hx,λe=>?_,c.1,c.2.1,by rw[rx'.length];exact c.2.2.2,λe=>?_,λ_=>zgt ht q (rx'.rep _)⟩
   · have:=rx'.length
     rw[e]at this
     exact c.2.2.1 this.symm
   · subst e
     refine yD q ?_
     rw[show(1:Int).toNat=1 from rfl,List.replicate_one,List.flatten_cons,List.flatten_nil,zyB]
     exact r1
  |_=>cases he
 |FloorDiv=>
  obtain⟨i,j,rfl,rfl,he⟩:=Xp vx vy he
  obtain⟨c,rfl⟩:=zO he
  obtain⟨t,rfl⟩:=rx
  obtain⟨t',rfl⟩:=ry
  refine floordiv_int (by omega) ?_ (.inl (PyProof.noPylong_of_log2 ?_))
  · rw[Int.fdiv_eq_ediv_of_nonneg _ (by omega)]
    exact⟨.int _,H,I.tok _,⟨_,rfl⟩,yD q (.int _)⟩
  · exact zzH ((Nat.log2_lt (by have:=c.1;omega)).mpr (show _<2 ^ 4000 from c.2)) (by decide)
 |Mod=>
  obtain⟨i,j,rfl,rfl,he⟩:=Xp vx vy he
  obtain⟨c,rfl⟩:=zO he
  exact zma pins s σ H _ _ v u Q I rx ry ⟨_,_,rfl,rfl,c,yD q (.int _)⟩
 |Pow=>
  obtain⟨i,j,rfl,rfl,he⟩:=Xp vx vy he
  obtain⟨c,rfl⟩:=zO he
  exact zqo pins s σ H _ _ v u Q I rx ry ⟨_,_,rfl,rfl,c,yD q (.int _)⟩
 |_=>cases he
end
def eqL(f:D->D->Option Bool):List D->List D->Option Bool
 | [],[]=>some true
 |x::r,y::t=>(f x y).bind λb=>(eqL f r t).bind λc=>some (b&&c)
 |_,_=>some false
def eqF:Nat->D->D->Option Bool
 |0,_,_=>none
 |_+1,.non,.non=>some true
 |_+1,.bl a,.bl b=>some (a==b)
 |_+1,.int a,.int b=>some (a==b)
 |_+1,.str a,.str b=>some (a==b)
 |_+1,.bl a,.int b=>some ((if a then 1 else 0)==b)
 |_+1,.int a,.bl b=>some (a==(if b then 1 else 0))
 |n+1,.lst xs,.lst ys=>eqL (eqF n) xs ys
 |n+1,.tup xs,.tup ys=>eqL (eqF n) xs ys
 |_+1,.dct _,_=>none
 |_+1,.cl _,_=>none
 |_+1,.ob _ _ _,_=>none
 |_+1,.er _ _ _,_=>none
 |_+1,_,.dct _=>none
 |_+1,_,.cl _=>none
 |_+1,_,.ob _ _ _=>none
 |_+1,_,.er _ _ _=>none
 |_+1,_,_=>some false
def eqJ(f:D->D->Option Bool)(xs ys:List D)(j:Nat):Bool:=match xs[j]?,ys[j]? with
 |some d,some e=>(f d e).getD false
 |_,_=>false
theorem zey{f:D->D->Option Bool}:∀{xs ys:List D}{b:Bool},eqL f xs ys=some b->(∀(j:Nat) d e,xs[j]? = some d->ys[j]? = some e->∃c,f d e=some c)/\
 b=((List.range (min xs.length ys.length)).all (eqJ f xs ys)&&xs.length==ys.length)
 | [],[],b,h=>by cases h;exact⟨λj d e h=>by simp at h,by simp⟩
 | [],y::t,b,h=>by cases h;exact⟨λj d e h=>by simp at h,by simp⟩
 |x::r,[],b,h=>by cases h;exact⟨λj d e _ h=>by simp at h,by simp⟩
 |x::r,y::t,b,h=>by
  obtain⟨b1,h1,h⟩:=bS_ (show(f x y).bind _=_ from h)
  obtain⟨c1,h2,h⟩:=bS_ h
  cases h
  obtain⟨k1,k2⟩:=zey h2
  refine⟨λj d e hd he=>?_, ?_⟩
  · cases j with
    |zero=>simp at hd he;subst hd he;exact⟨b1,h1⟩
    |succ j=>exact k1 j d e (by simpa using hd) (by simpa using he)
  · have e0:min (x::r).length (y::t).length=min r.length t.length+1:=by simp only[zzQ];omega
    rw[e0,List.range_succ_eq_map,List.all_cons,List.all_map,k2]
    have e1:eqJ f (x::r) (y::t) 0=b1:=by show(f x y).getD false=b1;rw[h1];rfl
    have e2:(eqJ f (x::r) (y::t)∘Nat.succ)=eqJ f r t:=by
     funext j
     show eqJ f (x::r) (y::t) (j+1)=_
     unfold eqJ
     simp
    have e3:((x::r).length==(y::t).length)=(r.length==t.length):=by
     by_cases hh:r.length=t.length<;>simp[hh]
    rw[e1,e2,e3,Bool.and_assoc]
structure EqAll(A:Around)(s:Shared)(u v:Value)(b:Bool):Prop where
 rc:SeqAt.RcAt A s u v b
 ne:SeqAt.RcNeAt A s u v (!b)
 eq:SeqAt.EqAt A s u v b
section
variable{X:Cx}{kd:KD}{pins:List (Addr×Obj)}{σ:St}{H:Hp}{s:Shared}{O:Addr->Prop}
theorem zjt(I:Inv X pins σ H s){a:Addr}{xs ys:List V}(h:SqT X.K H a xs)(h':SqL X.K H a ys):False:=by
 obtain⟨_,_,⟨o,e,c,_⟩,_⟩:=I.tuple h
 obtain⟨_,_,⟨o',n,e',c',_⟩,_⟩:=I.list h'
 rw[e]at e'
 cases e'
 rw[c]at c'
 exact absurd c' (by decide)
theorem ziT(I:Inv X pins σ H s):∀(n:Nat) (v:V) (d e:D) (b:Bool),Vw X.K kd O H v d->Vw X.K kd O H v e->eqF n d e=some b->b=true
 |0,_,_,_,_,_,_,h=>by cases h
 |n+1,v,d,e,b,h1,h2,h=>by
  have lst:∀(vs:List V) (ds es:List D) (b:Bool),RpL X.K kd O H vs ds->RpL X.K kd O H vs es->eqL (eqF n) ds es=some b->b=true:=by
   intro vs
   induction vs with
   |nil=>intro ds es b r1 r2 h;cases r1;cases r2;cases h;rfl
   |cons v vs ih=>
    intro ds es b r1 r2 h
    cases r1 with
    |cons a1 r1=>
     cases r2 with
     |cons a2 r2=>
      obtain⟨b1,k1,h⟩:=bS_ (show(eqF n _ _).bind _=_ from h)
      obtain⟨c1,k2,h⟩:=bS_ h
      cases h
      rw[ziT I n _ _ _ _ a1.vw a2.vw k1,ih _ _ _ r1 r2 k2]
      rfl
  cases h1 with
  |non=>cases h2;cases h;rfl
  |bl x=>cases h2;cases h;simp
  |int x=>cases h2;cases h;simp
  |str x=>cases h2;cases h;simp
  |tup r1 s1 l1=>
   cases h2 with
   |tup r2 s2 l2=>
    have:=I.tuple_inj s1 s2
    subst this
    exact lst _ _ _ _ l1 l2 h
   |lst s2 l2=>exact(zjt I s1 s2.sq).elim
   |_=>cases h
  |lst s1 l1=>
   cases h2 with
   |tup r2 s2 l2=>exact(zjt I s2 s1.sq).elim
   |lst s2 l2=>
    have:=I.list_inj s1.sq s2.sq
    subst this
    exact lst _ _ _ _ l1 l2 h
   |_=>cases h
  |_=>cases h
theorem zfD(I:Inv X pins σ H s):∀(n:Nat) (A:Around) (x y:V) (d e:D) (u v:Value) (b:Bool),A.units+n<cLine->Vw X.K kd O H x d->Vw X.K kd O H y e->RelV x u->RelV y v->eqF n d e=some b->EqAll A s u v b
 |0,_,_,_,_,_,_,_,_,_,_,_,_,_,h=>by cases h
 |n+1,A,x,y,d,e,u,v,b,hu,h1,h2,r1,r2,h=>by
  have hu0:A.units<cLine:=by omega
  have itm:∀{vs ws:List V}{its its2:List Value}{ds es:List D},RpL X.K kd O H vs ds->RpL X.K kd O H ws es->Vals vs its->Vals ws its2->(∀(j:Nat) d e,ds[j]? = some d->es[j]? = some e->∃c,eqF n d e=some c)->
   ∀j (h1:j<its.toArray.size) (h2:j<its2.toArray.size),SeqAt.EqAt A.in1 s its.toArray[j] its2.toArray[j] (eqJ (eqF n) ds es j):=by
   intro vs ws its its2 ds es l1 l2 v1 v2 hd j j1 j2
   have q1:j<ds.length:=by rw[<-l1.length,v1.length];simpa using j1
   have q2:j<es.length:=by rw[<-l2.length,v2.length];simpa using j2
   obtain⟨a1,ha1,ra1⟩:=l1.get (zzB q1)
   obtain⟨a2,ha2,ra2⟩:=l2.get (zzB q2)
   obtain⟨u1,hu1,ru1⟩:=v1.get ha1
   obtain⟨u2,hu2,ru2⟩:=v2.get ha2
   obtain⟨c,hc⟩:=hd j _ _ (zzB q1) (zzB q2)
   have e1:its.toArray[j]=u1:=by
    have:=(zzD.mp hu1).2
    simpa using this
   have e2:its2.toArray[j]=u2:=by
    have:=(zzD.mp hu2).2
    simpa using this
   rw[e1,e2]
   have e3:eqJ (eqF n) ds es j=c:=by
    unfold eqJ
    rw[zzB q1,zzB q2]
    show(eqF n _ _).getD false=c
    rw[hc];rfl
   rw[e3]
   exact(zfD I n A.in1 a1 a2 _ _ u1 u2 c (by show A.units+1+n<cLine;omega) ra1.vw ra2.vw ru1 ru2 hc).eq
  have same:∀{a a':Addr},x = .ref a->y = .ref a'->a=a'->b=true:=by
   intro a a' e1 e2 e3
   subst e1 e2 e3
   exact ziT I (n+1) _ _ _ _ h1 h2 h
  cases h1 with
  |non=>
   cases r1
   cases h2 with
   |non=>cases r2;cases h;exact⟨SeqAt.RcAt.none_none,SeqAt.RcNeAt.none_none,SeqAt.EqAt.same _⟩
   |bl=>cases r2;cases h;exact⟨SeqAt.RcAt.none_bool _,SeqAt.RcNeAt.none_bool _,SeqAt.EqAt.none_bool _⟩
   |int=>obtain⟨t,rfl⟩:=r2;cases h;exact⟨SeqAt.RcAt.none_int _ _,SeqAt.RcNeAt.none_int _ _,SeqAt.EqAt.none_int _ _⟩
   |str=>obtain⟨t,rfl⟩:=r2;cases h;exact⟨SeqAt.RcAt.none_str _ _,SeqAt.RcNeAt.none_str _ _,SeqAt.EqAt.none_str _ _⟩
   |tup r s2 l2=>
    cases r2;cases h
    obtain⟨its,rv,p,_⟩:=I.tuple s2
    exact⟨SeqAt.RcAt.none_tuple p hu0,SeqAt.RcNeAt.none_tuple p hu0,SeqAt.EqAt.none_tuple p hu0⟩
   |lst s2 l2=>
    cases r2;cases h
    obtain⟨its,rv,p,_⟩:=I.list s2.sq
    exact⟨SeqAt.RcAt.none_list p.isList hu0,SeqAt.RcNeAt.none_list p.isList hu0,SeqAt.EqAt.none_list p.isList hu0⟩
   |_=>cases h
  |bl c=>
   cases r1
   cases h2 with
   |non=>cases r2;cases h;exact⟨SeqAt.RcAt.bool_none _,SeqAt.RcNeAt.bool_none _,SeqAt.EqAt.bool_none _⟩
   |bl=>cases r2;cases h;exact⟨SeqAt.RcAt.bool_bool _ _,SeqAt.RcNeAt.bool_bool _ _,SeqAt.EqAt.bool_bool _ _⟩
   |int=>obtain⟨t,rfl⟩:=r2;cases h;exact⟨SeqAt.RcAt.bool_int _ _ _,SeqAt.RcNeAt.bool_int _ _ _,SeqAt.EqAt.bool_int _ _ _⟩
   |str=>obtain⟨t,rfl⟩:=r2;cases h;exact⟨SeqAt.RcAt.bool_str _ _ _,SeqAt.RcNeAt.bool_str _ _ _,SeqAt.EqAt.bool_str _ _ _⟩
   |tup r s2 l2=>
    cases r2;cases h
    obtain⟨its,rv,p,_⟩:=I.tuple s2
    exact⟨SeqAt.RcAt.bool_tuple _ p hu0,SeqAt.RcNeAt.bool_tuple _ p hu0,SeqAt.EqAt.bool_tuple _ p hu0⟩
   |lst s2 l2=>
    cases r2;cases h
    obtain⟨its,rv,p,_⟩:=I.list s2.sq
    exact⟨SeqAt.RcAt.bool_list _ p.isList hu0,SeqAt.RcNeAt.bool_list _ p.isList hu0,SeqAt.EqAt.bool_list _ p.isList hu0⟩
   |_=>cases h
  |int c=>
   obtain⟨t0,rfl⟩:=r1
   cases h2 with
   |non=>cases r2;cases h;exact⟨SeqAt.RcAt.int_none _ _,SeqAt.RcNeAt.int_none _ _,SeqAt.EqAt.int_none _ _⟩
   |bl=>cases r2;cases h;exact⟨SeqAt.RcAt.int_bool _ _ _,SeqAt.RcNeAt.int_bool _ _ _,SeqAt.EqAt.int_bool _ _ _⟩
   |int=>obtain⟨t,rfl⟩:=r2;cases h;exact⟨SeqAt.RcAt.int_int _ _ _ _,SeqAt.RcNeAt.int_int _ _ _ _,SeqAt.EqAt.int_int _ _ _ _⟩
   |str=>obtain⟨t,rfl⟩:=r2;cases h;exact⟨SeqAt.RcAt.int_str _ _ _ _,SeqAt.RcNeAt.int_str _ _ _ _,SeqAt.EqAt.int_str _ _ _ _⟩
   |tup r s2 l2=>
    cases r2;cases h
    obtain⟨its,rv,p,_⟩:=I.tuple s2
    exact⟨SeqAt.RcAt.int_tuple _ _ p hu0,SeqAt.RcNeAt.int_tuple _ _ p hu0,SeqAt.EqAt.int_tuple _ _ p hu0⟩
   |lst s2 l2=>
    cases r2;cases h
    obtain⟨its,rv,p,_⟩:=I.list s2.sq
    exact⟨SeqAt.RcAt.int_list _ _ p.isList hu0,SeqAt.RcNeAt.int_list _ _ p.isList hu0,SeqAt.EqAt.int_list _ _ p.isList hu0⟩
   |_=>cases h
  |str c=>
   obtain⟨t0,rfl⟩:=r1
   cases h2 with
   |non=>cases r2;cases h;exact⟨SeqAt.RcAt.str_none _ _,SeqAt.RcNeAt.str_none _ _,SeqAt.EqAt.str_none _ _⟩
   |bl=>cases r2;cases h;exact⟨SeqAt.RcAt.str_bool _ _ _,SeqAt.RcNeAt.str_bool _ _ _,SeqAt.EqAt.str_bool _ _ _⟩
   |int=>obtain⟨t,rfl⟩:=r2;cases h;exact⟨SeqAt.RcAt.str_int _ _ _ _,SeqAt.RcNeAt.str_int _ _ _ _,SeqAt.EqAt.str_int _ _ _ _⟩
   |str=>obtain⟨t,rfl⟩:=r2;cases h;exact⟨SeqAt.RcAt.str_str _ _ _ _,SeqAt.RcNeAt.str_str _ _ _ _,SeqAt.EqAt.str_str _ _ _ _⟩
   |tup r s2 l2=>
    cases r2;cases h
    obtain⟨its,rv,p,_⟩:=I.tuple s2
    exact⟨SeqAt.RcAt.str_tuple _ _ p hu0,SeqAt.RcNeAt.str_tuple _ _ p hu0,SeqAt.EqAt.str_tuple _ _ p hu0⟩
   |lst s2 l2=>
    cases r2;cases h
    obtain⟨its,rv,p,_⟩:=I.list s2.sq
    exact⟨SeqAt.RcAt.str_list _ _ p.isList hu0,SeqAt.RcNeAt.str_list _ _ p.isList hu0,SeqAt.EqAt.str_list _ _ p.isList hu0⟩
   |_=>cases h
  | @tup a1 vs1 ds1 r s1 l1=>
   cases r1
   obtain⟨its1,rv1,p1,_⟩:=I.tuple s1
   cases h2 with
   |non=>cases r2;cases h;exact⟨SeqAt.RcAt.tuple_none p1 hu0,SeqAt.RcNeAt.tuple_none p1 hu0,SeqAt.EqAt.tuple_none p1 hu0⟩
   |bl=>cases r2;cases h;exact⟨SeqAt.RcAt.tuple_bool _ p1 hu0,SeqAt.RcNeAt.tuple_bool _ p1 hu0,SeqAt.EqAt.tuple_bool _ p1 hu0⟩
   |int=>obtain⟨t,rfl⟩:=r2;cases h;exact⟨SeqAt.RcAt.tuple_int _ _ p1 hu0,SeqAt.RcNeAt.tuple_int _ _ p1 hu0,SeqAt.EqAt.tuple_int _ _ p1 hu0⟩
   |str=>obtain⟨t,rfl⟩:=r2;cases h;exact⟨SeqAt.RcAt.tuple_str _ _ p1 hu0,SeqAt.RcNeAt.tuple_str _ _ p1 hu0,SeqAt.EqAt.tuple_str _ _ p1 hu0⟩
   | @tup a2 vs2 ds2 r' s2 l2=>
    cases r2
    obtain⟨its2,rv2,p2,_⟩:=I.tuple s2
    obtain⟨k1,k2⟩:=zey h
    have he:=itm l1 l2 rv1 rv2 k1
    have eb:((List.range (min its1.toArray.size its2.toArray.size)).all (eqJ (eqF n) ds1 ds2)&&its1.toArray.size==its2.toArray.size)=b:=by
     rw[k2,zzE,zzE,<-rv1.length,<-rv2.length,l1.length,l2.length]
    have b1:=SeqAt.RcAt.tuples p1 p2 hu0 he
    have b2:=SeqAt.RcNeAt.tuples p1 p2 hu0 he
    rw[eb]at b1 b2
    refine⟨b1,b2, ?_⟩
    by_cases ha:a1=a2
    · have hb:=same rfl rfl ha
      subst ha
      rw[hb]
      exact SeqAt.EqAt.same _
    · exact SeqAt.EqAt.of_refs ha b1
   |lst s2 l2=>
    cases r2;cases h
    obtain⟨its,rv,p,_⟩:=I.list s2.sq
    exact⟨SeqAt.RcAt.tuple_list p1 p.isList hu0,SeqAt.RcNeAt.tuple_list p1 p.isList hu0,SeqAt.EqAt.tuple_list p1 p.isList hu0⟩
   |_=>cases h
  | @lst a1 vs1 ds1 s1 l1=>
   cases r1
   obtain⟨its1,rv1,p1,_⟩:=I.list s1.sq
   cases h2 with
   |non=>cases r2;cases h;exact⟨SeqAt.RcAt.list_none p1.isList hu0,SeqAt.RcNeAt.list_none p1.isList hu0,SeqAt.EqAt.list_none p1.isList hu0⟩
   |bl=>cases r2;cases h;exact⟨SeqAt.RcAt.list_bool _ p1.isList hu0,SeqAt.RcNeAt.list_bool _ p1.isList hu0,SeqAt.EqAt.list_bool _ p1.isList hu0⟩
   |int=>obtain⟨t,rfl⟩:=r2;cases h;exact⟨SeqAt.RcAt.list_int _ _ p1.isList hu0,SeqAt.RcNeAt.list_int _ _ p1.isList hu0,SeqAt.EqAt.list_int _ _ p1.isList hu0⟩
   |str=>obtain⟨t,rfl⟩:=r2;cases h;exact⟨SeqAt.RcAt.list_str _ _ p1.isList hu0,SeqAt.RcNeAt.list_str _ _ p1.isList hu0,SeqAt.EqAt.list_str _ _ p1.isList hu0⟩
   |tup r' s2 l2=>
    cases r2;cases h
    obtain⟨its2,rv2,p2,_⟩:=I.tuple s2
    exact⟨SeqAt.RcAt.list_tuple p1.isList p2 hu0,SeqAt.RcNeAt.list_tuple p1.isList p2 hu0,SeqAt.EqAt.list_tuple p1.isList p2 hu0⟩
   | @lst a2 vs2 ds2 s2 l2=>
    cases r2
    obtain⟨its2,rv2,p2,_⟩:=I.list s2.sq
    obtain⟨k1,k2⟩:=zey h
    have he:=itm l1 l2 rv1 rv2 k1
    have ez1:its1.toArray.size=_:=zzE.trans (rv1.length.symm.trans l1.length)
    have ez2:its2.toArray.size=_:=zzE.trans (rv2.length.symm.trans l2.length)
    have both:SeqAt.RcAt A s (.ref a1) (.ref a2) b/\SeqAt.RcNeAt A s (.ref a1) (.ref a2) (!b):=by
     by_cases hz:its1.toArray.size=its2.toArray.size
     · have b1:=SeqAt.RcAt.lists p1.isList p2.isList hz hu0 he
       have b2:=SeqAt.RcNeAt.lists p1.isList p2.isList hz hu0 he
       have eb:(List.range its1.toArray.size).all (eqJ (eqF n) ds1 ds2)=b:=by
        rw[k2,<-ez1,<-ez2,<-hz,Nat.min_self]
        simp
       rw[eb]at b1 b2
       exact⟨b1,b2⟩
     · have hz':(its1.toArray.size != its2.toArray.size)=true:=by simpa using hz
       have eb:b=false:=by
        rw[k2,<-ez1,<-ez2]
        have:(its1.toArray.size==its2.toArray.size)=false:=by simpa using hz
        rw[this,Bool.and_false]
       rw[eb]
       exact⟨SeqAt.RcAt.lists_lengths p1.isList p2.isList hz' hu0,SeqAt.RcNeAt.lists_lengths p1.isList p2.isList hz' hu0⟩
    refine⟨both.1,both.2, ?_⟩
    by_cases ha:a1=a2
    · have hb:=same rfl rfl ha
      subst ha
      rw[hb]
      exact SeqAt.EqAt.same _
    · exact SeqAt.EqAt.of_refs ha both.1
   |_=>cases h
  |_=>cases h
end
structure DkAt(P:Program)(w:World)(h:Heap)(a:Addr)(kvs:List (Key×V)):Prop where
 le:kvs.length<=sizeLine
 ns:(a==sysModules)=false
 ex:∃vs,KV kvs vs/\h.DictOf (vo P w) a vs
structure KdOk(X:Cx)(kd:KD):Prop where
 inj:∀a k k',kd a k->kd a k'->k=k'
 inK:∀a k,kd a k->∃o,X.K.lookup a=some o
 at_:∀a k h,kd a k->X.K.In h->DkAt X.prog X.w h a k
section
variable{X:Cx}{kd:KD}{pins:List (Addr×Obj)}{σ:St}{H:Hp}{s:Shared}{O:Addr->Prop}
theorem zed(I:Inv X pins σ H s)(hk:KdOk X kd){a:Addr}{kvs:List (Key×V)}(h:Rd H a (.dK kvs)\/kd a kvs):DkAt X.prog X.w s.heap a kvs:=by
 rcases h with h|h
 · obtain⟨z,hd,vs,rel,dd⟩:=zrQ I.hok h
   exact⟨z,hd,vs,rel,dd⟩
 · exact hk.at_ _ _ _ h I.kIn
theorem zle(I:Inv X pins σ H s):∀(n:Nat) (v:V) (d e x:D) (b c:Bool),Vw X.K kd O H v d->Vw X.K kd O H v e->eqF n d x=some b->eqF n e x=some c->b=c
 |0,_,_,_,_,_,_,_,_,h,_=>by cases h
 |n+1,v,d,e,x,b,c,h1,h2,h,h'=>by
  have lst:∀(vs:List V) (ds es xs:List D) (b c:Bool),RpL X.K kd O H vs ds->RpL X.K kd O H vs es->eqL (eqF n) ds xs=some b->eqL (eqF n) es xs=some c->b=c:=by
   intro vs
   induction vs with
   |nil=>intro ds es xs b c r1 r2 h h';cases r1;cases r2;exact zzW (h.symm.trans h')
   |cons v vs ih=>
    intro ds es xs b c r1 r2 h h'
    cases r1 with
    |cons a1 r1=>
     cases r2 with
     |cons a2 r2=>
      cases xs with
      |nil=>cases h;cases h';rfl
      |cons x xs=>
       obtain⟨b1,k1,h⟩:=bS_ (show(eqF n _ _).bind _=_ from h)
       obtain⟨c1,k2,h⟩:=bS_ h
       obtain⟨b2,k3,h'⟩:=bS_ (show(eqF n _ _).bind _=_ from h')
       obtain⟨c2,k4,h'⟩:=bS_ h'
       cases h;cases h'
       rw[zle I n _ _ _ _ _ _ a1.vw a2.vw k1 k3,ih _ _ _ _ _ r1 r2 k2 k4]
  cases h1 with
  |tup r1 s1 l1=>
   cases h2 with
   |tup r2 s2 l2=>
    have:=I.tuple_inj s1 s2
    subst this
    cases x with
    |tup xs=>exact lst _ _ _ _ _ _ l1 l2 h h'
    |_=>exact zzW (h.symm.trans h')
   |lst s2 l2=>exact(zjt I s1 s2.sq).elim
   |_=>cases h'
  |lst s1 l1=>
   cases h2 with
   |tup r2 s2 l2=>exact(zjt I s2 s1.sq).elim
   |lst s2 l2=>
    have:=I.list_inj s1.sq s2.sq
    subst this
    cases x with
    |lst xs=>exact lst _ _ _ _ _ _ l1 l2 h h'
    |_=>exact zzW (h.symm.trans h')
   |_=>cases h'
  |dct s1 l1=>cases h
  |cl=>cases h
  |ob=>cases h
  |er=>cases h
  |_=>cases h2;exact zzW (h.symm.trans h')
end
def zmC:D->Option Key
 | .int i=>some (.inl i)
 | .str x=>some (.inr x)
 |_=>none
def zgy(kvs:List (Key×D))(k:Key):Option D:=(kvs.find? λkv=>decide (kv.1=k)).map (·.2)
theorem zfQ{K:zC}{kd:KD}{O:Addr->Prop}{H:Hp}(k:Key){vs:List (Key×V)}{ds:List (Key×D)}(h:RpM K kd O H vs ds):(∃v d,zbO vs k=some v/\zgy ds k=some d/\Rp K kd O H v d)\/(zbO vs k=none/\zgy ds k=none):=
 RpM.ind (P:=λvs ds=>(∃v d,zbO vs k=some v/\zgy ds k=some d/\Rp K kd O H v d)\/(zbO vs k=none/\zgy ds k=none)) (.inr ⟨rfl,rfl⟩) (λ{k' v d vs ds} a _ ih=>by
  by_cases e:k'=k
  · left
    refine⟨_,_, ?_, ?_,a⟩
    · unfold zbO;simp[e]
    · unfold zgy;simp[e]
  · rcases ih with⟨v,d,h1,h2,h3⟩|⟨h1,h2⟩
    · left
      refine⟨v,d, ?_, ?_,h3⟩
      · unfold zbO at h1 ⊢;simpa[e]using h1
      · unfold zgy at h2 ⊢;simpa[e]using h2
    · right
      refine⟨?_, ?_⟩
      · unfold zbO at h1 ⊢;simpa[e]using h1
      · unfold zgy at h2 ⊢;simpa[e]using h2) h
def anyF(f:D->Option Bool):List D->Option Bool
 | []=>some false
 |x::r=>(f x).bind λb=>(anyF f r).bind λc=>some (b||c)
def blR(b:Bool):R0:=.im (.bl b)
def inP(x:D):D->Option Bool
 | .lst ys=>anyF (λy=>eqF 50 y x) ys
 | .tup ys=>anyF (λy=>eqF 50 y x) ys
 | .str y=>match x with | .str i=>some (!(Builtin.Str.occurrences y i 0 y.length 1).isEmpty)|_=>none
 | .dct kvs=>(zmC x).bind λk=>some (zgy kvs k).isSome
 |_=>none
def isP:D->D->Option Bool
 |d,.non=>some (match d with | .non=>true|_=>false)
 |d,.bl b=>match d with | .bl c=>some (c==b)|_=>some false
 |_,_=>none
def znh(f:Int->Int->Bool):D->D->Option R0:=onI λi j=>some (blR (f i j))
def zZ(o:CmpOp)(d e:D):Option R0:=match o with
 | .Eq=>(eqF 60 d e).bind λb=>some (blR b)
 | .NotEq=>(eqF 60 d e).bind λb=>some (blR !b)
 | .Lt=>znh (λi j=>decide (i<j)) d e
 | .LtE=>znh (λi j=>decide (i<=j)) d e
 | .Gt=>znh (λi j=>decide (j<i)) d e
 | .GtE=>znh (λi j=>decide (j<=i)) d e
 | .In=>(inP d e).bind λb=>some (blR b)
 | .NotIn=>(inP d e).bind λb=>some (blR !b)
 | .Is=>(isP d e).bind λb=>some (blR b)
 | .IsNot=>(isP d e).bind λb=>some (blR !b)
theorem zao{o:Option Bool}{f:Bool->Bool}{r:R0}(h:(o.bind λb=>some (blR (f b)))=some r):∃k,r = .im (.bl k):=by
 obtain⟨b,_,h⟩:=bS_ h
 cases h
 exact⟨_,rfl⟩
theorem zdr{x y:D}{f:Int->Int->Bool}{r:R0}(h:znh f x y=some r):∃k,r = .im (.bl k):=by
 obtain⟨i,_,h⟩:=bS_ (show(asI x).bind _=_ from h)
 obtain⟨j,_,h⟩:=bS_ h
 cases h
 exact⟨_,rfl⟩
theorem yh(op:CmpOp)(x y:D)(r:R0)(h:zZ op x y=some r):∃k,r = .im (.bl k):=by
 cases op with
 |Eq=>exact zao (f:=id) h
 |NotEq=>exact zao (f:=not) h
 |Lt=>exact zdr h
 |LtE=>exact zdr h
 |Gt=>exact zdr h
 |GtE=>exact zdr h
 |In=>exact zao (f:=id) h
 |NotIn=>exact zao (f:=not) h
 |Is=>exact zao (f:=id) h
 |IsNot=>exact zao (f:=not) h
section
variable{X:Cx}{kd:KD}{pins:List (Addr×Obj)}{σ:St}{H:Hp}{s:Shared}{O:Addr->Prop}
noncomputable def eqW(K:zC)(kd:KD)(O:Addr->Prop)(H:Hp)(n:Nat)(x:D)(u:Value):Bool:=@decide (∃v d,RelV v u/\Rp K kd O H v d/\eqF n d x=some true) (Classical.propDecidable _)
theorem zlI(I:Inv X pins σ H s)(hk:KdOk X kd){n:Nat}{x d:D}{v:V}{u:Value}{b:Bool}(r:RelV v u)(p:Rp X.K kd O H v d)(e:eqF n d x=some b):eqW X.K kd O H n x u=b:=by
 unfold eqW
 cases b with
 |true=>exact @zyL _ (Classical.propDecidable _) ⟨v,d,r,p,e⟩
 |false=>
  refine @zyD _ (Classical.propDecidable _) λ⟨v',d',r',p',e'⟩=>?_
  have:=r.inj r'
  subst this
  exact Bool.noConfusion (zle I n _ _ _ _ _ _ p.vw p'.vw e e')
theorem zdn(I:Inv X pins σ H s)(hk:KdOk X kd){n:Nat}{x:D}{vs:List V}{us:List Value}{ds:List D}{b:Bool}(hv:Vals vs us)(h:RpL X.K kd O H vs ds)(e:anyF (λy=>eqF n y x) ds=some b):us.any (eqW X.K kd O H n x)=b:=
 RpL.ind (P:=λvs ds=>∀us b,Vals vs us->anyF (λy=>eqF n y x) ds=some b->us.any (eqW X.K kd O H n x)=b) (λus b hv e=>by cases e;cases hv;rfl) (λ{v d vs ds} a _ ih us b hv h=>by
  cases hv with
  |cons r t=>
   obtain⟨b1,h1,h⟩:=bS_ (show(eqF n _ x).bind _=_ from h)
   obtain⟨c1,h2,h⟩:=bS_ h
   cases h
   rw[List.any_cons,zlI I hk r a h1,ih _ _ t h2]) h us b hv e
theorem Vu{f:D->Option Bool}:∀{ds:List D}{b:Bool},anyF f ds=some b->∀d ∈ ds,∃c,f d=some c
 | [],_,_,d,hd=>by simp at hd
 |x::r,b,h,d,hd=>by
  obtain⟨b1,h1,h⟩:=bS_ (show(f x).bind _=_ from h)
  obtain⟨c1,h2,h⟩:=bS_ h
  rcases zS.mp hd with e|e
  · subst e;exact⟨b1,h1⟩
  · exact Vu h2 d e
theorem zdk(I:Inv X pins σ H s)(hk:KdOk X kd){n:Nat}{A:Around}(hu:A.units+n<cLine){x:V}{v:Value}{d:D}(vx:Vw X.K kd O H x d)(rx:RelV x v){vs:List V}{us:List Value}{ds:List D}(hv:Vals vs us)(h:RpL X.K kd O H vs ds)(k:∀e ∈ ds,∃c,eqF n e d=some c):∀u ∈ us,SeqAt.EqAt A s u v (eqW X.K kd O H n d u):=
 RpL.ind (P:=λvs ds=>∀us,Vals vs us->(∀e ∈ ds,∃c,eqF n e d=some c)->∀u ∈ us,SeqAt.EqAt A s u v (eqW X.K kd O H n d u)) (λus hv _ u hu=>by cases hv;simp at hu) (λa q ih us hv h u hm=>by
  cases hv with
  |cons r t=>
   rcases zS.mp hm with e|e
   · subst e
     obtain⟨c,hc⟩:=h _ zzC
     rw[zlI I hk r a hc]
     exact(zfD I n A _ _ _ _ _ _ _ hu a.vw vx r rx hc).eq
   · exact ih _ t (λe he=>h e (zzA _ he)) u e) h us hv k
theorem zei{A:Around}{E:Value->Shared->Prop}{x:V}{v:Value}{b c:Bool}{d:D}{Q:Bool->Shared->Prop}(vx:Vw X.K kd O H x d)(rx:RelV x v)(e:isP d (.bl b)=some c)(h:Q c s):wpAny (model X.prog X.w) A (isSame v (.bool b)) Q E s:=by
 cases vx with
 |non=>cases rx;cases e;exact zxE h
 |bl k=>
  cases rx
  have e:some (k==b)=some c:=e
  cases e
  refine zxE ?_
  cases k<;>cases b<;>exact h
 |int=>obtain⟨t,rfl⟩:=rx;cases e;exact zxE h
 |str=>obtain⟨t,rfl⟩:=rx;cases e;exact zxE h
 |tup=>cases rx;cases e;exact zxE h
 |lst=>cases rx;cases e;exact zxE h
 |dct=>cases rx;cases e;exact zxE h
 |cl=>cases rx;cases e;exact zxE h
 |ob=>cases rx;cases e;exact zxE h
 |er=>cases rx;cases e;exact zxE h
theorem yp(hk:KdOk X kd)(hu:X.A.units+100<cLine)(op:CmpOp):OpD X kd (compareOp op) (zZ op):=by
 intro pins s σ H x y v u Q I rx ry h
 obtain⟨O,d,e,r,ht,vx,vy,he,q⟩:=h
 cases op with
 |Eq=>
  obtain⟨b,h1,he⟩:=bS_ (show(eqF 60 d e).bind _=_ from he)
  cases he
  exact(zfD I 60 X.A x y d e v u b (by omega) vx vy rx ry h1).rc _ _ _ _ (vQ I (yD q (.bl _)) rfl)
 |NotEq=>
  obtain⟨b,h1,he⟩:=bS_ (show(eqF 60 d e).bind _=_ from he)
  cases he
  exact(zfD I 60 X.A x y d e v u b (by omega) vx vy rx ry h1).ne _ _ _ _ (vQ I (yD q (.bl _)) rfl)
 |Lt=>
  obtain⟨i,j,rfl,rfl,he⟩:=Xp vx vy he
  cases he
  exact zsv pins s σ H _ _ v u Q I rx ry ⟨_,_,rfl,rfl,yD q (.bl _)⟩
 |LtE=>
  obtain⟨i,j,rfl,rfl,he⟩:=Xp vx vy he
  cases he
  exact zrR pins s σ H _ _ v u Q I rx ry ⟨_,_,rfl,rfl,yD q (.bl _)⟩
 |Gt=>
  obtain⟨i,j,rfl,rfl,he⟩:=Xp vx vy he
  cases he
  exact zsi pins s σ H _ _ v u Q I rx ry ⟨_,_,rfl,rfl,yD q (.bl _)⟩
 |GtE=>
  obtain⟨i,j,rfl,rfl,he⟩:=Xp vx vy he
  cases he
  exact zrN pins s σ H _ _ v u Q I rx ry ⟨_,_,rfl,rfl,yD q (.bl _)⟩
 |In=>
  obtain⟨b,h1,he⟩:=bS_ (show(inP d e).bind _=_ from he)
  cases he
  cases vy with
  |lst hs rl=>
   cases ry
   obtain⟨its,rv,p,_⟩:=I.list hs.sq
   refine SeqAt.in_listAt (eqW X.K kd O H 50 d) p.isList (λw hw=>zdk I hk (by show X.A.units+1+50<cLine;omega) vx rx rv rl (Vu h1) w (by simpa using hw)) ?_
   have:=zdn I hk rv rl h1
   rw[show its.toArray.any (eqW X.K kd O H 50 d)=b by rw[<-this];simp]
   exact vQ (I) (yD q (.bl _)) rfl
  |tup rp hs rl=>
   cases ry
   obtain⟨its,rv,p,_⟩:=I.tuple hs
   refine SeqAt.in_tupleAt (eqW X.K kd O H 50 d) p (λw hw=>zdk I hk (by show X.A.units+1+50<cLine;omega) vx rx rv rl (Vu h1) w (by simpa using hw)) ?_
   have:=zdn I hk rv rl h1
   rw[show its.toArray.any (eqW X.K kd O H 50 d)=b by rw[<-this];simp]
   exact vQ (I) (yD q (.bl _)) rfl
  |str z=>
   cases vx with
   |str i=>cases h1;exact zko pins s σ H _ _ v u Q I rx ry ⟨_,_,rfl,rfl,yD q (.bl _)⟩
   |_=>cases h1
  |dct hs rm=>
   cases ry
   obtain⟨k,k1,h1⟩:=bS_ h1
   cases h1
   obtain⟨z,hd,vs,rel,dd⟩:=zed I hk hs
   have ek:x=kV k:=by
    cases vx with
    |int i=>cases k1;rfl
    |str i=>cases k1;rfl
    |_=>cases k1
   subst ek
   refine wpAny_in_of (ziS rx) hd dd.mapOf ?_
   rw[<-(rel.val k).isSome_eq]
   rcases zfQ k rm with⟨v1,d1,e1,e2,_⟩|⟨e1,e2⟩
   · rw[e1];rw[e2]at q;exact vQ (I.tok _) (yD q (.bl _)) rfl
   · rw[e1];rw[e2]at q;exact vQ (I.tok _) (yD q (.bl _)) rfl
  |_=>cases h1
 |NotIn=>
  obtain⟨b,h1,he⟩:=bS_ (show(inP d e).bind _=_ from he)
  cases he
  cases vy with
  |lst hs rl=>
   cases ry
   obtain⟨its,rv,p,_⟩:=I.list hs.sq
   refine SeqAt.notIn_listAt (eqW X.K kd O H 50 d) p.isList (λw hw=>zdk I hk (by show X.A.units+1+50<cLine;omega) vx rx rv rl (Vu h1) w (by simpa using hw)) ?_
   have:=zdn I hk rv rl h1
   rw[show its.toArray.any (eqW X.K kd O H 50 d)=b by rw[<-this];simp]
   exact vQ (I) (yD q (.bl _)) rfl
  |tup rp hs rl=>
   cases ry
   obtain⟨its,rv,p,_⟩:=I.tuple hs
   refine SeqAt.notIn_tupleAt (eqW X.K kd O H 50 d) p (λw hw=>zdk I hk (by show X.A.units+1+50<cLine;omega) vx rx rv rl (Vu h1) w (by simpa using hw)) ?_
   have:=zdn I hk rv rl h1
   rw[show its.toArray.any (eqW X.K kd O H 50 d)=b by rw[<-this];simp]
   exact vQ (I) (yD q (.bl _)) rfl
  |str z=>
   cases vx with
   |str i=>cases h1;exact zgf pins s σ H _ _ v u Q I rx ry ⟨_,_,rfl,rfl,yD q (.bl _)⟩
   |_=>cases h1
  |dct hs rm=>
   cases ry
   obtain⟨k,k1,h1⟩:=bS_ h1
   cases h1
   obtain⟨z,hd,vs,rel,dd⟩:=zed I hk hs
   have ek:x=kV k:=by
    cases vx with
    |int i=>cases k1;rfl
    |str i=>cases k1;rfl
    |_=>cases k1
   subst ek
   refine wpAny_notIn_of (ziS rx) hd dd.mapOf ?_
   rw[<-(rel.val k).isSome_eq]
   rcases zfQ k rm with⟨v1,d1,e1,e2,_⟩|⟨e1,e2⟩
   · rw[e1];rw[e2]at q;exact vQ (I.tok _) (yD q (.bl _)) rfl
   · rw[e1];rw[e2]at q;exact vQ (I.tok _) (yD q (.bl _)) rfl
  |_=>cases h1
 |Is=>
  obtain⟨b,h1,he⟩:=bS_ (show(isP d e).bind _=_ from he)
  cases he
  cases vy with
  |non=>
   refine zrl pins s σ H _ _ v u Q I rx ry ⟨rfl, ?_⟩
   have:decide (x=V.non)=b:=by cases vx<;>(cases h1;rfl)
   rw[this]
   exact yD q (.bl b)
  |bl c=>
   cases ry
   exact zxD (zei vx rx h1 (zxE (vQ I (yD q (.bl _)) rfl)))
  |_=>cases h1
 |IsNot=>
  obtain⟨b,h1,he⟩:=bS_ (show(isP d e).bind _=_ from he)
  cases he
  cases vy with
  |non=>
   refine zoy pins s σ H _ _ v u Q I rx ry ⟨rfl, ?_⟩
   have:decide (x=V.non)=b:=by cases vx<;>(cases h1;rfl)
   rw[this]
   exact yD q (.bl _)
  |bl c=>
   cases ry
   exact zxD (zei vx rx h1 (zxE (vQ I (yD q (.bl _)) rfl)))
  |_=>cases h1
end
theorem ziG{K:zC}{kd:KD}{O:Addr->Prop}{H:Hp}{vs:List V}{ds:List D}{i:Int}{d:D}(r:RpL K kd O H vs ds)(h:atI ds i=some d):∃v,atI vs i=some v/\Rp K kd O H v d:=by
 unfold atI at h ⊢
 obtain⟨j,h1,h2⟩:=bS_ h
 rw[r.length,h1]
 exact r.get h2
def imR(o:Option D):Option R0:=o.bind λd=>some (.im d)
def ixP(x y:D):Option R0:=match x with
 | .lst xs=>(asI y).bind λi=>imR (atI xs i)
 | .tup xs=>(asI y).bind λi=>imR (atI xs i)
 | .str x=>(asI y).bind λi=>if x.length<=sizeLine then(atI x.cps.toList i).bind λc=>some (.im (.str ⟨#[c]⟩))else none
 | .dct kvs=>(zmC y).bind λk=>imR (zgy kvs k)
 |_=>none
theorem zez{o:Option D}{r:R0}(h:imR o=some r):∃d,o=some d/\r = .im d:=by
 obtain⟨d,h1,h2⟩:=bS_ (show o.bind _=_ from h)
 cases h2
 exact⟨d,h1,rfl⟩
section
variable{X:Cx}{kd:KD}
theorem zlk{K:zC}{O:Addr->Prop}{H:Hp}{x:V}{d:D}{k:Key}(vx:Vw K kd O H x d)(e:zmC d=some k):x=kV k:=by
 cases vx with
 |int i=>cases e;rfl
 |str i=>cases e;rfl
 |_=>cases e
theorem zsU(hk:KdOk X kd):IxD X kd ixP:=by
 intro value slice pins s σ H x y v u Q I rx ry h hs
 obtain⟨O,d,e,r,ht,vx,vy,he,q⟩:=h
 cases vx with
 |lst hr rl=>
  obtain⟨i,h0,he⟩:=bS_ (show(asI e).bind _=_ from he)
  obtain⟨rfl,rfl⟩:=WN vy h0
  obtain⟨d,h1,rfl⟩:=zez he
  obtain⟨w,hw,rw'⟩:=ziG rl h1
  exact zby value slice pins s σ H _ _ v u Q I rx ry ⟨_,_,_,w,rfl,rfl,hr.sq,hw,yD q rw'⟩ hs
 |tup rp hr rl=>
  obtain⟨i,h0,he⟩:=bS_ (show(asI e).bind _=_ from he)
  obtain⟨rfl,rfl⟩:=WN vy h0
  obtain⟨d,h1,rfl⟩:=zez he
  obtain⟨w,hw,rw'⟩:=ziG rl h1
  exact zkL value slice pins s σ H _ _ v u Q I rx ry ⟨_,_,_,w,rfl,rfl,hr,hw,yD q rw'⟩ hs
 |str z=>
  obtain⟨i,h0,he⟩:=bS_ (show(asI e).bind _=_ from he)
  obtain⟨rfl,rfl⟩:=WN vy h0
  obtain⟨hz,he⟩:=ite_some' he
  obtain⟨c,h1,he⟩:=bS_ he
  cases he
  exact zro value slice pins s σ H _ _ v u Q I rx ry ⟨_,_,c,rfl,rfl,hz,h1,yD q (.str _)⟩ hs
 |dct hr rm=>
  obtain⟨k,h1,he⟩:=bS_ (show(zmC e).bind _=_ from he)
  obtain⟨d,h2,rfl⟩:=zez he
  cases rx
  obtain⟨z,hd,vs,rel,dd⟩:=zed I hk hr
  have:=zlk vy h1
  subst this
  rcases zfQ k rm with⟨v1,d1,e1,e2,rp⟩|⟨e1,e2⟩
  · rw[h2]at e2
    cases e2
    obtain⟨w',hw,rw'⟩:=zaw.some_of (v:=v1) (o:=valueAt vs k) (by rw[<-e1];exact rel.val k)
    exact tail_any dd.typeIs PySem.F.slot_dict_getitem.lookup (wpAny_getItem_of (ziS ry) dd.mapOf hw ⟨v1,H,I.tok _,rw',yD q rp⟩) hs
  · rw[h2]at e2;cases e2
 |_=>cases he
def cutD(xs:List D)(lo hi:Option Int):List D:=(xs.drop (HT.sIx xs.length 0 lo)).take (HT.sIx xs.length xs.length hi-HT.sIx xs.length 0 lo)
theorem zjz{K:zC}{O:Addr->Prop}{H:Hp}{vs:List V}{ds:List D}(r:RpL K kd O H vs ds)(lo hi:Option Int):RpL K kd O H (zgR vs lo hi) (cutD ds lo hi):=by
 unfold zgR cutD
 rw[r.length]
 exact(r.drop _).take _
def slP(x:D)(lo hi:Option Int):Option R0:=match x with
 | .lst xs=>some (.fl (cutD xs lo hi))
 | .tup xs=>if HT.sIx xs.length 0 lo=0/\HT.sIx xs.length xs.length hi=xs.length then none else some (.im (.tup (cutD xs lo hi)))
 |_=>none
abbrev OF:=AS->Option (Option Int×AS)
def oN:OF:=λas=>some (none,as)
def oS(f:EF):OF:=λas=>(f as).bind λp=>(rvI p.1).bind λi=>some (some i,p.2)
def fSl(fa:EF)(fl fh:OF)(g:D->Option Int->Option Int->Option R0):EF:=λas=>(fa as).bind λp=>(fl p.2).bind λl=>(fh l.2).bind λh=>(p.1.frz.view h.2).bind λx=>(g x.1 l.1 h.1).bind λr=>(wrap x.2 r).bind λz=>some (z,h.2)
def alO(K:zC)(kd:KD)(f:OF):TO:=λσ H Q=>∃F B ad as o as',Rel K kd F B [] ad as σ H/\f as=some (o,as')/\
 ∀ad' H',Rel K kd F B [] ad' as' σ H'->Grow (Gw [] ad) H (Gw [] ad') H'->Q o H'
@[irreducible] def AO(X:Cx)(kd:KD)(e:Option Expr)(f:OF):Prop:=PO X e (alO X.K kd f)
theorem zkY{e:Option Expr}{t t':TO}(h:PO X e t)(k:∀σ H Q,t' σ H Q->t σ H Q):PO X e t':=λpins s σ H Q I q=>h pins s σ H Q I (k σ H Q q)
theorem znz:AO X kd none oN:=by with_unfolding_all exact(zkY zoJ λσ H Q h=>by
 obtain⟨F,B,ad,as,o,as',R,e,q⟩:=h
 cases e
 exact q ad H R Grow.refl)
theorem zql{K:zC}{F B:Addr->Prop}{T:List Addr}{ad:Ad}{σ:St}{H:Hp}{v:V}{st:Bool}{c:Int}(h:vP K kd F B T ad σ H v (.ow (.lf st (.int c)))):T=[]/\v = .int c:=by
 have h:RoS K kd F B (Gw T ad) H v (.lf st (.int c)) T:=h
 generalize hT:Gw T ad=G at h
 cases h with
 |lf rp=>cases rp;exact⟨rfl,rfl⟩
theorem zoZ{a:Expr}{fa:EF}(ha:AE X kd a fa):AO X kd (some a) (oS fa):=by with_unfolding_all exact(zkY (znN ha) λσ H Q h=>by
 obtain⟨F,B,ad,as,o,as',R,e,q⟩:=h
 obtain⟨⟨p,as1⟩,h1,e⟩:=bS_ (show(fa as).bind _=_ from e)
 obtain⟨i,e1,e⟩:=bS_ e
 obtain⟨st,rfl⟩:=zre e1
 cases e
 refine⟨F,B,ad,as,_,_,R,h1,λv T' ad1 H1 R1 rv1 g1=>?_⟩
 obtain⟨rfl,rfl⟩:=zql rv1
 exact⟨i,rfl,q ad1 H1 R1 g1⟩)
theorem ztn:SlR X (λx lo hi H Q=>∃O d r,(∀a,O a->H a≠none)/\Vw X.K kd O H x d/\slP d lo hi=some r/\RQ X.K kd O H Q r):=by
 intro pins s σ H x v vl vu lo hi sl Q I rx hs pl pu h
 obtain⟨O,d,r,ht,vx,he,q⟩:=h
 cases vx with
 |lst hr rl=>cases he;exact zoF pins s σ H _ v vl vu lo hi sl Q I rx hs pl pu ⟨_,_,rfl,hr.sq,zck q (zjz rl lo hi)⟩
 |tup rp hr rl=>
  have he:(if _ then none else some _:Option R0)=_:=he
  split at he
  · cases he
  · rename_i hw
    cases he
    exact zqZ pins s σ H _ v vl vu lo hi sl Q I rx hs pl pu ⟨_,_,rfl,hr,by rw[rl.length];exact hw,zgt ht q (zjz rl lo hi)⟩
 |_=>cases he
theorem zln{a:Expr}{lo hi:Option Expr}{fa:EF}{fl fh:OF}{pos p2:Pos}(ha:AE X kd a fa)(hl:AO X kd lo fl)(hh:AO X kd hi fh):AE X kd (.Subscript a (.Slice lo hi none p2) pos) (fSl fa fl fh slP):=by with_unfolding_all exact(yX (zlG ztn ha hl hh) λσ H Q h=>by
 obtain⟨F,B,ad,as,r,as',R,e,q⟩:=h
 obtain⟨⟨p,as1⟩,h1,e⟩:=bS_ (show(fa as).bind _=_ from e)
 obtain⟨⟨l,as2⟩,h2,e⟩:=bS_ e
 obtain⟨⟨u,as3⟩,h3,e⟩:=bS_ e
 obtain⟨⟨d,lv⟩,h4,e⟩:=bS_ e
 obtain⟨r',h5,e⟩:=bS_ e
 obtain⟨z,h6,e⟩:=bS_ e
 cases e
 refine Wx R h1 λv ad1 H1 R1 rv1 g1=>⟨F,B,ad1,as1,l,as2,R1,h2,λad2 H2 R2 g2=>⟨F,B,ad2,as2,u,_,R2,h3,λad3 H3 R3 g3=>?_⟩⟩
 exact⟨_,d,r',R3.tr _,vP.vw R3 ((rv1.grow g2).grow g3) h4,h5,WL R3 h6 λw T' H' R' rv' g'=>q w T' ad3 H' R' rv' (((g1.trans g2).trans g3).trans g')⟩)
def tyD:D->String
 | .non=>"NoneType" | .bl _=>"bool" | .int _=>"int" | .str _=>"str" | .tup _=>"tuple" | .lst _=>"list" | .dct _=>"dict"|_=>""
def ziC:D->Bool
 | .cl _=>false | .ob _ _ _=>false | .er _ _ _=>false|_=>true
def zfh(t c:String):Bool:=t==c||(t=="bool"&&c=="int")
def zbq(c:String):Bool:=c=="int"||c=="bool"||c=="str"||c=="list"||c=="tuple"||c=="dict"
theorem zqK(K:zC)(d:D)(c:String)(h:zbq c=true)(ho:ziC d=true):PySem.W.kitOne K (.type (tyD d)) (.type c)=some (zfh (tyD d) c):=by
 have:c="int"\/c="bool"\/c="str"\/c="list"\/c="tuple"\/c="dict":=by
  unfold zbq at h
  simp only[Bool.or_eq_true,beq_iff_eq]at h
  rcases h with((((h|h)|h)|h)|h)|h<;>simp[h]
 rcases this with rfl|rfl|rfl|rfl|rfl|rfl<;>cases d<;>first|rfl|cases ho
theorem zqO(hk:KdOk X kd){pins:List (Addr×Obj)}{σ:St}{H:Hp}{s:Shared}{O:Addr->Prop}{A:Around}{E:Value->Shared->Prop}{Q:Value->Shared->Prop}{c:String}{x:V}{u:Value}{d:D}(I:Inv X pins σ H s)(rx:RelV x u)(vx:Vw X.K kd O H x d)(hc:zbq c=true)(ho:ziC d=true)
 (h:∀tk,Q (.bool (zfh (tyD d) c)) {s with toks:=tk}):wpAny (model X.prog X.w) A (call (.builtin "isinstance") [u,.type c]) Q E s:=by
 have e:=zqK X.K d c hc ho
 cases vx with
 |non=>cases rx;exact PySem.W.kia_one PySem.W.kitx_none I.kIn True.intro e (λz=>nomatch z) h
 |bl y=>cases rx;exact PySem.W.kia_one PySem.W.kitx_bool I.kIn True.intro e (λz=>nomatch z) h
 |int i=>obtain⟨t,rfl⟩:=rx;exact PySem.W.kia_one PySem.W.kitx_int I.kIn True.intro e (λz=>nomatch z) h
 |str y=>obtain⟨t,rfl⟩:=rx;exact PySem.W.kia_one PySem.W.kitx_str I.kIn True.intro e (λz=>nomatch z) h
 |lst hr rl=>
  cases rx
  obtain⟨its,rv,⟨o,n,h1,h2,_⟩,_⟩:=I.list hr.sq
  exact PySem.W.kia_one PySem.W.kitx_list I.kIn ⟨o,h1,h2⟩ e (λz=>nomatch z) h
 |tup rp hr rl=>
  cases rx
  obtain⟨its,rv,⟨o,h1,h2,_⟩,_⟩:=I.tuple hr
  exact PySem.W.kia_one PySem.W.kitx_tuple I.kIn ⟨o,h1,h2⟩ e (λz=>nomatch z) h
 |dct hr rm=>
  cases rx
  obtain⟨z,hd,vs,rel,⟨o,es,ep,h1,h2,_⟩⟩:=zed I hk hr
  exact PySem.W.kia_one PySem.W.kitx_dict I.kIn ⟨o,h1,h2.1⟩ e (λz=>nomatch z) h
 |cl=>cases ho
 |ob=>cases ho
 |er=>cases ho
end
def W0:List D->Option (List Int)
 | []=>some []
 | .int i::r=>(W0 r).bind λs=>some (i::s)
 |_::_=>none
def zpK:List Int->Int
 | []=>0
 |x::r=>r.foldl (λa b=>if a<b then b else a) x
theorem zfi:∀(r:List Int) (x:Int),r.foldl (λa b=>if a<b then b else a) x ∈ x::r/\∀a ∈ x::r,a<=r.foldl (λa b=>if a<b then b else a) x
 | [],x=>⟨by simp,by simp⟩
 |y::r,x=>by
  rw[List.foldl_cons]
  obtain⟨h1,h2⟩:=zfi r (if x<y then y else x)
  refine⟨?_,λa ha=>?_⟩
  · rcases zS.mp h1 with e|e
    · rw[e];split<;>simp
    · exact zzA _ (zzA _ e)
  · have h3:=h2 _ zzC
    rcases zS.mp ha with e|e
    · subst e;exact Int.le_trans (by split<;>omega) h3
    · rcases zS.mp e with e|e
      · subst e;exact Int.le_trans (by split<;>omega) h3
      · exact h2 a (zzA _ e)
theorem zoj{ns:List Int}{M:Int}(h1:M ∈ ns)(h2:∀a ∈ ns,a<=M):zpK ns=M:=by
 cases ns with
 |nil=>simp at h1
 |cons x r=>
  obtain⟨k1,k2⟩:=zfi r x
  have a1:=k2 M h1
  have a2:=h2 _ k1
  show r.foldl _ x=M
  omega
def on1(f:D->Option R0)(ds:List D):Option R0:=match ds with
 | [x]=>f x
 |_=>none
theorem zes{K:zC}{kd:KD}{O:Addr->Prop}{H:Hp}{f:D->Option R0}{xs:List V}{ds:List D}{r:R0}(vl:VwL K kd O H xs ds)(h:on1 f ds=some r):∃x d,xs=[x]/\Vw K kd O H x d/\f d=some r:=by
 cases vl with
 |nil=>cases h
 |cons a b=>
  cases b with
  |nil=>exact⟨_,_,rfl,a,h⟩
  |cons _ _=>cases h
def zsH:D->Option R0
 | .lst ds=>some (.im (.int ds.length))
 | .tup ds=>some (.im (.int ds.length))
 | .str x=>if x.length<=sizeLine then some (.im (.int x.length))else none
 | .dct kvs=>some (.im (.int kvs.length))
 |_=>none
def zit:List D->Option R0:=on1 zsH
def ztj:D->Option R0
 | .int i=>some (.im (.int i))
 | .bl b=>some (.im (.int (if b then 1 else 0)))
 |_=>none
def tupP:List D->Option R0
 | [.lst ds]=>some (.im (.tup ds))
 | [.tup ds]=>some (.im (.tup ds))
 |_=>none
def zsJ:D->Option R0
 | .lst ds=>some (.fl ds)
 | .tup ds=>some (.fl ds)
 |_=>none
def lstP:List D->Option R0:=on1 zsJ
def dctP:List D->Option R0
 | [.dct kvs]=>some (.fd kvs)
 |_=>none
def zsj(ds:List D):Option R0:=match ds with
 | [x,y]=>onI (λi j=>some (.im (.int (if j > i then j else i)))) x y
 | [x]=>(asL x).bind λds=>(W0 ds).bind λns=>if 0<ns.length then some (.im (.int (zpK ns)))else none
 |_=>none
theorem zdh{K:zC}{kd:KD}{O:Addr->Prop}{H:Hp}{xs:List V}{d:D}(h:VwL K kd O H xs [d]):∃x,xs=[x]/\Vw K kd O H x d:=by
 cases h with
 |cons a b=>cases b;exact⟨_,rfl,a⟩
theorem zmj{K:zC}{kd:KD}{O:Addr->Prop}{H:Hp}{vs:List V}{ds:List D}{ns:List Int}(h:RpL K kd O H vs ds)(e:W0 ds=some ns):vs=ns.map V.int:=
 RpL.ind (P:=λvs ds=>∀ns,W0 ds=some ns->vs=ns.map V.int) (λns e=>by cases e;rfl) (λ{v d vs ds} a _ ih ns e=>by
  cases d with
  |int i=>
   obtain⟨s,h1,h2⟩:=bS_ (show(W0 _).bind _=_ from e)
   cases h2
   cases a
   rw[ih _ h1]
   rfl
  |_=>cases e) h ns e
section
variable{X:Cx}{kd:KD}
theorem zeO(hk:KdOk X kd):CallD X kd (.builtin "len") zit:=by
 intro pins s σ H xs us Q I r h
 obtain⟨O,ds,z,ht,vl,he,q⟩:=h
 obtain⟨x,d,rfl,vx,he⟩:=zes vl he
 cases vx with
 |lst hr rl=>cases he;exact Ww pins s σ H _ us Q I r ⟨_,_,rfl,.inl hr.sq,by rw[rl.length];exact yD q (.int _)⟩
 |tup rp hr rl=>cases he;exact Ww pins s σ H _ us Q I r ⟨_,_,rfl,.inr hr,by rw[rl.length];exact yD q (.int _)⟩
 |str y=>
  obtain⟨c,rfl⟩:=zO he
  exact zgg pins s σ H _ us Q I r ⟨_,rfl,c,yD q (.int _)⟩
 |dct hr rm=>
  cases he
  obtain⟨u,rfl,ru⟩:=vals1 r
  cases ru
  obtain⟨z,hd,vs,rel,dd⟩:=zed I hk hr
  refine call_len_dict hd dd (by rw[<-rel.length];rw[sizeLine_eq]at z;omega) ?_
  rw[<-rel.length,rm.length]
  exact⟨.int _,H,I.tok _,⟨_,rfl⟩,yD q (.int _)⟩
 |_=>cases he
theorem zbW:CallD X kd (.type "tuple") tupP:=by
 intro pins s σ H xs us Q I r h
 obtain⟨O,ds,z,ht,vl,he,q⟩:=h
 unfold tupP at he
 split at he
 · cases he
   obtain⟨x,rfl,vx⟩:=zdh vl
   cases vx with
   |lst hr rl=>exact zaM pins s σ H _ us Q I r ⟨_,_,rfl,.inl ⟨hr.sq,zgt ht q rl⟩⟩
 · cases he
   obtain⟨x,rfl,vx⟩:=zdh vl
   cases vx with
   |tup rp hr rl=>exact zaM pins s σ H _ us Q I r ⟨_,_,rfl,.inr ⟨hr,yD q rp⟩⟩
 · cases he
theorem zam:CallD X kd (.type "list") lstP:=by
 intro pins s σ H xs us Q I r h
 obtain⟨O,ds,z,ht,vl,he,q⟩:=h
 obtain⟨x,d,rfl,vx,he⟩:=zes vl he
 cases vx with
 |lst hr rl=>cases he;exact zbj pins s σ H _ us Q I r ⟨_,_,rfl,.inl hr.sq,zck q rl⟩
 |tup rp hr rl=>cases he;exact zbj pins s σ H _ us Q I r ⟨_,_,rfl,.inr hr,zck q rl⟩
 |_=>cases he
theorem zjT(hk:KdOk X kd):CallD X kd (.type "dict") dctP:=by
 intro pins s σ H xs us Q I r h
 obtain⟨O,ds,z,ht,vl,he,q⟩:=h
 unfold dctP at he
 split at he
 · cases he
   obtain⟨x,rfl,vx⟩:=zdh vl
   cases vx with
   |dct hr rm=>
    obtain⟨u,rfl,ru⟩:=vals1 r
    cases ru
    obtain⟨z,hd,vs,rel,dd⟩:=zed I hk hr
    refine kt_call_dict hd dd (by rw[<-rel.length];exact z) λh' dd' hs=>?_
    refine⟨.ref _,_,(I.laid (a:=s.heap.objs.size) (o:=.dK _) (t':=s.toks) (λb q hq=>?_) (zzK _) (zly z (beq_eq_false_iff_ne.mpr (Ne.symm (zzN I.big))) rel dd')),rfl,zmf q rm _ (I.hok.fresh (zzK _))⟩
    exact(hs.2 b (zzN (zxG hq))).trans (zxF _ hq)
 · cases he
theorem zjX(hc:X.calm=true):CallD X kd (.builtin "max") zsj:=by
 intro pins s σ H xs us Q I r h
 obtain⟨O,ds,z,ht,vl,he,q⟩:=h
 cases vl with
 |nil=>cases he
 |cons vx vl=>
  cases vl with
  |nil=>
   obtain⟨ds,h0,he⟩:=bS_ (show(asL _).bind _=_ from he)
   cases zfX h0
   obtain⟨ns,h1,he⟩:=bS_ he
   obtain⟨c,rfl⟩:=zO he
   cases vx with
   |lst hr rl=>
    obtain⟨u,rfl,ru⟩:=vals1 r
    cases ru
    obtain⟨its,rv,p,_⟩:=I.list hr.sq
    rw[zmj rl h1]at rv
    have hi:=intsAre_of rv
    obtain⟨ys,e⟩:=hi.allInts.items
    have hns:ns=ys.toList.map (·.1):=by rw[<-hi.numsOf,<-nums_intItems,<-e]
    have hsz:0<ys.size:=by
     have h3:=c;rw[hns,zD,zyQ]at h3;exact h3
    have hl:=p.isList
    rw[e]at hl
    refine max_intList (I.ok.hd hc) hl hsz λv h' tk hv kp=>?_
    obtain⟨t,rfl⟩:=intItems_at hv
    obtain⟨k1,k2⟩:=argBest_gt (numAt ys) (ys.size-1)
    refine⟨.int (zpK ns),H,I.kept kp,⟨t, ?_⟩,yD q (.int _)⟩
    congr 1
    refine(zoj ?_ λa ha=>?_).symm
    · rw[hns,numAt_eq]
      have hlt:argBest (λi j=>decide (numAt ys i > numAt ys j)) (ys.size-1)<(ys.toList.map (·.1)).length:=by rw[zD,zyQ];omega
      rw[zyC,zzB hlt]
      exact zyX hlt
    · rw[hns]at ha
      obtain⟨j,hj,rfl⟩:=List.getElem_of_mem ha
      have hj':=hj
      rw[zD,zyQ]at hj
      have:=k2 j (by omega)
      rw[numAt_eq ys j,zyC,zzB hj']at this
      exact this
  |cons vy vl=>
   cases vl with
   |nil=>
    obtain⟨i,j,rfl,rfl,he⟩:=Xp vx vy he
    cases he
    exact zks hc pins s σ H _ us Q I r ⟨_,_,rfl,yD q (.int _)⟩
   |cons _ _=>cases he
end
def vL(env:Env):List (Str×NameKind)->List (Str×Addr)->List (Str×Addr)
 | [],cs=>cs
 |(n,k)::r,cs=>vL env r (if k == .free then((n,(env.cells.lookup n).getD 0)::cs)else cs)
theorem zax{scope:Scope}{env:Env}(h:∀x ∈ scope.names,x.2 = .free->∃c,env.cells.lookup x.1=some c):closureFor scope env=pure (vL env scope.names []):=by
 have go:∀(names:List (Str×NameKind)) (cs:List (Str×Addr)) (f:Str×NameKind->List (Str×Addr)->Sem (ForInStep (List (Str×Addr)))),
  (∀name kind cs,f (name,kind) cs=if kind == .free then(do let a <-cellOf env name;pure (.yield ((name,a)::cs)))else pure (.yield cs))->
  (∀x ∈ names,x.2 = .free->∃c,env.cells.lookup x.1=some c)->(forIn names cs f:Sem (List (Str×Addr)))=pure (vL env names cs):=by
  intro names
  induction names with
  |nil=>intro cs f _ _;rfl
  |cons x r ih=>
   intro cs f hf hx
   obtain⟨n,k⟩:=x
   rw[List.forIn_cons,hf]
   unfold vL
   by_cases hk:(k == .free)=true
   · obtain⟨c,hc⟩:=hx (n,k) zzC (by simpa using hk)
     rw[if_pos hk,if_pos hk]
     have e:cellOf env n=pure c:=by unfold cellOf;rw[hc]
     rw[e,hc]
     exact ih _ f hf λy hy=>hx y (zzA _ hy)
   · rw[if_neg hk,if_neg hk]
     exact ih _ f hf λy hy=>hx y (zzA _ hy)
 simp only[closureFor]
 rw[go scope.names [] _ (λname kind cs=>?_) h]
 · rfl
 · rfl
theorem zeQ{env:Env}:∀(names:List (Str×NameKind)) (cs:List (Str×Addr)) (p:Str×Addr),p ∈ vL env names cs->p ∈ cs\/((p.1,NameKind.free) ∈ names/\p.2=(env.cells.lookup p.1).getD 0)
 | [],_,_,h=>.inl h
 |(n,k)::r,cs,p,h=>by
  unfold vL at h
  rcases zeQ r _ p h with h|h
  · by_cases hk:(k == .free)=true
    · rw[if_pos hk]at h
      rcases zS.mp h with e|h
      · subst e
        have:k = .free:=by simpa using hk
        subst this
        exact .inr ⟨zzC,rfl⟩
      · exact .inl h
    · rw[if_neg hk]at h;exact .inl h
  · exact .inr ⟨zzA _ h.1,h.2⟩
theorem zeh{env:Env}:∀(names:List (Str×NameKind)) (cs:List (Str×Addr)) (p:Str×Addr),p ∈ cs->p ∈ vL env names cs
 | [],_,_,h=>h
 |(n,k)::r,cs,p,h=>by
  unfold vL
  refine zeh r _ p ?_
  split
  · exact zzA _ h
  · exact h
theorem zeV{env:Env}:∀(names:List (Str×NameKind)) (cs:List (Str×Addr)) (x:Str),(x,NameKind.free) ∈ names->(x,(env.cells.lookup x).getD 0) ∈ vL env names cs
 |(n,k)::r,cs,x,h=>by
  unfold vL
  rcases zS.mp h with e|h
  · cases e
    exact zeh r _ _ (by simp)
  · exact zeV r _ x h
theorem Xq{α:Type}{x:Str}{a:α}:∀{l:List (Str×α)},(∀p ∈ l,p.1=x->p.2=a)->(∃b,(x,b) ∈ l)->l.lookup x=some a
 | [],_,h=>by obtain⟨_,h⟩:=h;cases h
 |(k,v)::r,u,h=>by
  rw[List.lookup_cons]
  cases hb:x==k with
  |true=>
   have:=u (k,v) zzC (beq_iff_eq.mp hb).symm
   exact congrArg some this
  |false=>
   refine Xq (λp hp=>u p (zzA _ hp)) ?_
   obtain⟨b,h⟩:=h
   rcases zS.mp h with e|h
   · cases e;simp at hb
   · exact⟨b,h⟩
theorem zbK:∀(names:List (Str×NameKind)) (h:Heap) (acc:List (Str×Addr)) (p:Str×Addr),p ∈ cellsFrom h.objs.size names acc->
 p ∈ acc\/((p.1,NameKind.cell) ∈ names/\(pushCells h names).IsCell p.2 none/\h.objs.size<=p.2)
 | [],_,_,_,m=>.inl m
 |(n,k)::r,h,acc,p,m=>by
  unfold cellsFrom at m
  unfold pushCells
  split at m
  · rename_i hk
    rw[if_pos hk]
    have e:(h.push {cls:=.type "cell",data:=.cell none}).objs.size=h.objs.size+1:=zxO ..
    rw[<-e]at m
    rcases zbK r _ _ p m with m|⟨m1,m2,m3⟩
    · rcases zS.mp m with e2|m
      · subst e2
        have:k = .cell:=by simpa using hk
        subst this
        refine .inr ⟨zzC, ?_,zzK _⟩
        have z:(h.push {cls:=.type "cell",data:=.cell none}).IsCell h.objs.size none:=⟨_,zxH _ rfl,rfl⟩
        exact z.keeps (pushCells_keeps r _)
      · exact .inl m
    · exact .inr ⟨zzA _ m1,m2,by rw[e]at m3;omega⟩
  · rename_i hk
    rw[if_neg hk]
    rcases zbK r h acc p m with m|⟨m1,m2,m3⟩
    · exact .inl m
    · exact .inr ⟨zzA _ m1,m2,m3⟩
theorem Wu:∀(names:List (Str×NameKind)) (n:Nat) (acc:List (Str×Addr)) (p:Str×Addr),p ∈ acc->p ∈ cellsFrom n names acc
 | [],_,_,_,m=>m
 |(_,k)::r,n,acc,p,m=>by
  unfold cellsFrom
  split
  · exact Wu r _ _ p (zzA _ m)
  · exact Wu r _ _ p m
theorem zbZ:∀(names:List (Str×NameKind)) (n:Nat) (acc:List (Str×Addr)) (x:Str),(x,NameKind.cell) ∈ names->∃c,(x,c) ∈ cellsFrom n names acc
 |(y,k)::r,n,acc,x,m=>by
  unfold cellsFrom
  rcases zS.mp m with e|m
  · cases e
    rw[if_pos (by decide)]
    exact⟨n,Wu r _ _ _ zzC⟩
  · split
    · exact zbZ r _ _ x m
    · exact zbZ r _ _ x m
theorem zbN:∀(names:List (Str×NameKind)) (n:Nat) (acc:List (Str×Addr)),(∀p ∈ acc,p.2<n)->(∀p ∈ acc,∀q ∈ acc,p.2=q.2->p.1=q.1)->∀p ∈ cellsFrom n names acc,∀q ∈ cellsFrom n names acc,p.2=q.2->p.1=q.1
 | [],_,_,_,h=>h
 |(y,k)::r,n,acc,lt,h=>by
  unfold cellsFrom
  split
  · refine zbN r (n+1) _ (λp m=>?_) (λp m q m' e=>?_)
    · rcases zS.mp m with z|m
      · subst z;exact Nat.lt_succ_self _
      · exact zyY (lt p m)
    · rcases zS.mp m with z|m
      · rcases zS.mp m' with z'|m'
        · rw[z,z']
        · subst z;have:=lt q m';rw[<-e]at this;exact absurd this (Nat.lt_irrefl _)
      · rcases zS.mp m' with z'|m'
        · subst z';have:=lt p m;rw[e]at this;exact absurd this (Nat.lt_irrefl _)
        · exact h p m q m' e
  · exact zbN r n acc lt h
section
variable{M:Model}{A:Around}{E:Value->Shared->Prop}{s:Shared}
def V5(scope:Scope)(env:Env)(cl:List (Str×Addr))(L:Addr):Env:=
 {scope:=relabel scope env,locals:=L,globals:=env.globals,cells:=cellsFrom (L+1) scope.names cl,qual:=env.qual,func:=none,code:=env.code,frame:=env.frame,builtins:=env.builtins}
theorem zfP{scope:Scope}{env:Env}{cl:List (Str×Addr)}{Q:Env->Shared->Prop}
 (h:∀h' env',{env' with scope:=relabel scope env}=V5 scope env cl s.heap.objs.size->env'.locals=s.heap.objs.size->(∀b o,s.heap.get? b=some o->h'.get? b=some o)->h'.Ns s.heap.objs.size (λ_=>none)->
  (∀p ∈ cellsFrom (s.heap.objs.size+1) scope.names cl,p ∈ cl\/((p.1,NameKind.cell) ∈ scope.names/\h'.IsCell p.2 none/\s.heap.objs.size+1<=p.2))->Q env' {s with heap:=h'}):
 wpAny M A (newFunctionEnv scope env.globals cl [] env.qual none .none (some env)) Q E s:=by
 simp only[newFunctionEnv,Option.isSome_some,if_true]
 refine zxD (wpAny_alloc ?_)
 refine zxD (wpAny_layCells _ (λname kind cells=>by cases hkc:kind==NameKind.cell<;>simp[hkc]) _ _ _ _ ?_)
 have e:(s.heap.push {cls:=.type "dict",data:=.dict #[]}).objs.size=s.heap.objs.size+1:=zxO ..
 refine zxD (zxE (zxE (h _ _ ?_ rfl (λb o q=>pushCells_keeps _ _ b o (zxF _ q)) ((Heap.Ns.new s.heap (.type "dict")).keeps (pushCells_keeps _ _)) λp m=>?_)))
 · unfold V5
   rw[<-e]
 · rw[<-e]at m
   rcases zbK _ _ _ p m with m|⟨m1,m2,m3⟩
   · exact .inl m
   · exact .inr ⟨m1,m2,by rw[e]at m3;exact m3⟩
end
abbrev vz(X:Cx)(N:List Str)(scope:Scope)(cl:List (Str×Addr))(s:Shared)(H:Hp)(fp:List Addr):Cx:=
 {X with N:=N,s₀:=s,H₀:=H,env:=V5 scope X.env cl (s.heap.objs.size+1),outer:=X.stack,ex:=fp,fn:=λx=>scope.names.lookup x==some .cell,pn:=[],xe:=λ_ _=>False}
def zsw(σ:St):Option Nat->Option V
 |none=>none
 |some j=>(σ[j]?).getD none
def ZP(cap:List (Option Nat))(σ:St):St:=cap.map (zsw σ)
def Zn(N XN:List Str)(names:List (Str×NameKind))(envNames:List (Str×NameKind))(cap:List (Option Nat)):Bool:=
 N.length==cap.length&&(N.zip cap).all (λp=>match p.2 with|none=>true|some j=>XN[j]? == some p.1&&names.contains (p.1,NameKind.free)) &&
 names.all (λp=>p.2 != .free||envNames.lookup p.1==some .cell||envNames.lookup p.1==some .free)&&decide (names.map (·.1)).Nodup
def PTs(X:Cx)(ifs:List Expr)(t:TT):Prop:=
 ∀(pins:List (Addr×Obj)) (s:Shared) (σ:St) (H:Hp) (Q:Bool->Hp->Prop),Inv X pins σ H s->t σ H Q->
  wpAny (model X.prog X.w) X.A (forIn ifs true λc r=>if r=true then do let ok <-isTrue c X.env (eval c X.env);pure (ForInStep.yield ok)else pure (ForInStep.yield r)) (TP X pins σ Q) X.xe s
theorem zoN{X:Cx}:PTs X [] (λ_ H Q=>Q true H):=λpins s σ H Q I h=>wpAny_tests_nil ⟨H,I,h⟩
theorem zol{X:Cx}{c:Expr}{t:TT}(h:PT X c t):PTs X [c] t:=λpins s σ H Q I q=>wpAny_tests_one (h pins s σ H Q I q)
def zml(wi:TI)(cap:List (Option Nat))(g:TG)(tt:TT)(te:TE):TE:=λσ H Q=>wi σ H λJ H1=>∃W:Nat->Nat->List V->Hp->Prop,(∃m,W 0 m [] H1)/\∀i m ys H,W i m ys H->ys.length<=sizeLine/\
 ((J.stop i H/\∀p,H p=none->Q (.ref p) (upd H p (.lst ys)))\/(J.go i H/\∀x H',J.yld i H x H'->g x (ZP cap σ) H' λσ2 H2=>(∀(j:Nat) v,(ZP cap σ)[j]? = some (some v)->σ2[j]? = some (some v))/\
   tt σ2 H2 λb H3=>if b=true then ys.length<sizeLine/\te σ2 H3 λy H4=>∃m',m'<m/\W (i+1) m' (ys++[y]) H4 else ∃m',m'<m/\W (i+1) m' ys H3))
section
variable{prog:Program}{w:World}{A:Around}{E:Value->Shared->Prop}{R:Result->Shared->Prop}{s:Shared}
theorem zfL{elt target iter:Expr}{ifs:List Expr}{scope:Scope}{pos:Pos}{it acc:Value}{env:Env}(I:Nat->Shared->Prop)
 (turn:∀n s (E:Value->Shared->Prop),I n s->wpAny (model prog w) A (pyNext it) (λr s₁=>match r with
  |none=>R (.ok .next) s₁
  |some v=>wpAny (model prog w) A (letOwnedTupleGo target it v) (λ_ s₁=>wpAny (model prog w) A (assign target env v) (λ_ s₂=>
   wpAny (model prog w) A (forIn ifs true λc r=>if r=true then do let ok <-isTrue c env (eval c env);pure (ForInStep.yield ok)else pure (ForInStep.yield r)) (λok s₃=>
    if ok=true then wpAny (model prog w) A (eval elt env) (λx s₄=>
     wpAny (model prog w) A (call (.builtin "list.append") [acc,x]) (λ_ s₅=>∃m,m<n/\I m s₅) E s₄) E s₃
    else ∃m,m<n/\I m s₃) E s₂) E s₁) E s₁) E s)
 (n:Nat) (h:I n s):
 codeAny (model prog w) A (.compLoop (.ListComp elt [⟨target,iter,ifs,0⟩] scope pos) 0 it acc env) R s:=by
 refine codeAny_loop rfl I (λn s hI=>?_) n h
 show wpAny _ A ((compTurn (.ListComp elt [⟨target,iter,ifs,0⟩] scope pos) 0 it acc env).onRaise (λx=>do noteFrame x env;theTreesLotGoes x)) _ _ s
 refine wpAny_noted ?_
 rw[compTurn_list]
 refine zxD (wpAny_standAt (zxD (zxQ (turn n s _ hI) (λr s₁ h₁=>?_) λ_ _ h'=>h')))
 cases r with
 |none=>exact zxE h₁
 |some v=>
  refine zxD (zxQ h₁ (λ_ s₁ h₁=>?_) λ_ _ h'=>h')
  refine zxD (zxQ h₁ (λ_ s₂ h₂=>zxD (zxQ h₂ (λok s₃ h₃=>?_) λ_ _ h'=>h')) λ_ _ h'=>h')
  cases ok with
  |false=>exact zxE ⟨rfl,h₃⟩
  |true=>
   exact zxD (zxD (zxQ h₃ (λx s₄ h₄=>zxD (zxQ h₄ (λ_ s₅ h₅=>zxE (zxE ⟨rfl,h₅⟩)) λ_ _ h'=>h')) λ_ _ h'=>h'))
end
structure CapOk(N XN:List Str)(names:List (Str×NameKind))(envNames:List (Str×NameKind))(cap:List (Option Nat)):Prop where
 len:N.length=cap.length
 at_:∀(i:Nat) x (j:Nat),N[i]? = some x->cap[i]? = some (some j)->XN[j]? = some x/\(x,NameKind.free) ∈ names
 fr:∀p ∈ names,p.2 = .free->envNames.lookup p.1=some .cell\/envNames.lookup p.1=some .free
 nd:(names.map (·.1)).Nodup
theorem zhr{N XN:List Str}{names envNames:List (Str×NameKind)}{cap:List (Option Nat)}(h:Zn N XN names envNames cap=true):CapOk N XN names envNames cap:=by
 unfold Zn at h
 simp only[zzZ,beq_iff_eq,List.all_eq_true,decide_eq_true_eq]at h
 obtain⟨⟨⟨h1,h2⟩,h3⟩,h4⟩:=h
 refine⟨h1,λi x j e1 e2=>?_,λp hp e=>?_,h4⟩
 · have m:(x,some j) ∈ N.zip cap:=zzX (i:=i) (by rw[List.getElem?_zip_eq_some];exact⟨e1,e2⟩)
   have:=h2 _ m
   simp only[zzZ,beq_iff_eq]at this
   exact⟨this.1,by simpa using this.2⟩
 · have:=h3 p hp
   rw[e]at this
   simpa using this
theorem zgq{names:List (Str×NameKind)}(h:(names.map (·.1)).Nodup){x:Str}{k k':NameKind}(m:(x,k) ∈ names)(m':(x,k') ∈ names):k=k':=by
 induction names with
 |nil=>cases m
 |cons p r ih=>
  obtain⟨h1,h2⟩:=zzT.mp (show(p.1::r.map (·.1)).Nodup from h)
  rcases zS.mp m with e|m
  · rcases zS.mp m' with e'|m'
    · rw[<-e]at e';cases e';rfl
    · exact absurd (zxB.mpr ⟨_,m',by rw[<-e]⟩) h1
  · rcases zS.mp m' with e'|m'
    · exact absurd (zxB.mpr ⟨_,m,by rw[<-e']⟩) h1
    · exact ih h2 m m'
theorem zbS{names:List (Str×NameKind)}(h:(names.map (·.1)).Nodup){x:Str}{k:NameKind}(m:(x,k) ∈ names):names.lookup x=some k:=
 Xq (λp hp e=>by obtain⟨y,k'⟩:=p;cases(show y=x from e);exact zgq h hp m) ⟨k,m⟩
theorem Vk{env:Env}{scope:Scope}(x:Str):(relabel scope env).names.lookup x=(scope.names.lookup x).map λk=>if(k == .free&&env.scope.kind == .function&&env.kindOf x==some .cell)=true then NameKind.cell else k:=by
 unfold relabel
 show(scope.names.map _).lookup x=_
 generalize scope.names=names
 induction names with
 |nil=>rfl
 |cons p r ih=>
  obtain⟨n,k⟩:=p
  rw[zyP,List.lookup_cons (k:=n) (as:=r)]
  cases hb:x==n with
  |true=>
   have e:x=n:=beq_iff_eq.mp hb
   subst e
   show List.lookup x ((if(k==NameKind.free&&env.scope.kind == .function&&env.kindOf x==some .cell)=true then(x,NameKind.cell)else(x,k))::_)=_
   show _=some (if(k==NameKind.free&&env.scope.kind == .function&&env.kindOf x==some .cell)=true then NameKind.cell else k)
   split
   · rw[List.lookup_cons,hb]
   · rw[List.lookup_cons,hb]
  |false=>
   show List.lookup x ((if(k==NameKind.free&&env.scope.kind == .function&&env.kindOf n==some .cell)=true then(n,NameKind.cell)else(n,k))::_)=_
   split
   · rw[List.lookup_cons,hb];exact ih
   · rw[List.lookup_cons,hb];exact ih
theorem ziq{X:Cx}{pins:List (Addr×Obj)}{σ:St}{H:Hp}{s:Shared}{N:List Str}{scope:Scope}{cap:List (Option Nat)}{fp:List Addr}{h':Heap}(I:Inv X pins σ H s)(C:CapOk N X.N scope.names X.env.scope.names cap)(hk:scope.kind = .function)
 (hf:∀b ∈ fp,zeK X pins H b) (ho:∀b ∈ fp,∃o,s.heap.get? b=some o)
 (old:∀b o,s.heap.get? b=some o->h'.get? b=some o) (ns:h'.Ns (s.heap.objs.size+1) (λ_=>none))
 (hc:∀p ∈ cellsFrom (s.heap.objs.size+1+1) scope.names (vL X.env scope.names []),p ∈ vL X.env scope.names []\/((p.1,NameKind.cell) ∈ scope.names/\h'.IsCell p.2 none/\s.heap.objs.size+1+1<=p.2)):
 Inv (vz X N scope (vL X.env scope.names []) s H fp) [] (ZP cap σ) H {s with heap:=h'}:=by
 have has:∀x,(x,NameKind.free) ∈ scope.names->∃c,X.env.cells.lookup x=some c:=λx m=>I.ok.has x (C.fr _ m rfl)
 have clo:∀p ∈ vL X.env scope.names [],X.env.cells.lookup p.1=some p.2/\(p.1,NameKind.free) ∈ scope.names:=λp m=>by
  rcases zeQ _ _ p m with z|⟨z1,z2⟩
  · cases z
  · obtain⟨c,e⟩:=has _ z1
    rw[e]at z2
    exact⟨by rw[e];exact congrArg some z2.symm,z1⟩
 have look:∀x c,(cellsFrom (s.heap.objs.size+1+1) scope.names (vL X.env scope.names [])).lookup x=some c->(X.env.cells.lookup x=some c/\(x,NameKind.free) ∈ scope.names)\/((x,NameKind.cell) ∈ scope.names/\h'.IsCell c none/\s.heap.objs.size+1+1<=c):=λx c e=>by
  rcases hc _ (mem_of_lookup e)with m|m
  · exact .inl (clo _ m)
  · exact .inr m
 have lt:∀x c,X.env.cells.lookup x=some c->c<s.heap.objs.size:=λx c e=>by obtain⟨v,z⟩:=I.cell x c e;exact z.lt
 have lookF:∀x,(x,NameKind.free) ∈ scope.names->∃c,(cellsFrom (s.heap.objs.size+1+1) scope.names (vL X.env scope.names [])).lookup x=some c/\X.env.cells.lookup x=some c:=λx m=>by
  obtain⟨c,e⟩:=has x m
  have m1:=Wu scope.names (s.heap.objs.size+1+1) _ _ (zeV (env:=X.env) scope.names [] x m)
  refine⟨c,Xq (λp hp ep=>?_) ⟨_,m1⟩,e⟩
  rcases hc p hp with z|z
  · have:=(clo p z).1
    rw[ep,e]at this
    exact(zzW this).symm
  · rw[ep]at z
    exact absurd (zgq C.nd z.1 m) (by decide)
 have kinds:∀x,((relabel scope X.env).names.lookup x=some .cell\/(relabel scope X.env).names.lookup x=some .free)->(x,NameKind.free) ∈ scope.names\/(x,NameKind.cell) ∈ scope.names:=λx h=>by
  rw[Vk]at h
  cases e:scope.names.lookup x with
  |none=>rw[e]at h;rcases h with h|h<;>cases h
  |some k=>
   have m:=mem_of_lookup e
   cases k with
   |free=>exact .inl m
   |cell=>exact .inr m
   |_=>rw[e]at h;rcases h with h|h<;>(simp at h)
 have lsz:s.heap.objs.size+1<h'.objs.size:=ns.lt
 refine⟨⟨I.ok.mod,hk,I.ok.glob,I.ok.blt,zyU _, ?_, ?_, ?_,I.ok.hd,I.ok.frames,.inl rfl, ?_,I.bs,zzL I.ok.bsz I.sz, ?_, ?_,I.stack,I.stkFree⟩,rfl,I.bare,(Un.kept old),⟨_,ns, ?_⟩, ?_,I.hok.fresh (zyU _), ?_,(λ_ z=>nomatch z),I.hok.kept old, ?_⟩
 · intro x y c e1 e2
   refine zbN scope.names (s.heap.objs.size+1+1) _ (λp m=>?_) (λp m q m' e=>?_) (x,c) (mem_of_lookup e1) (y,c) (mem_of_lookup e2) rfl
   · exact zyY (zyY (lt _ _ (clo p m).1))
   · refine I.ok.inj _ _ _ (clo p m).1 ?_
     rw[e];exact(clo q m').1
 · intro x h
   rcases kinds x h with m|m
   · obtain⟨c,e,_⟩:=lookF x m;exact⟨c,e⟩
   · obtain⟨c,e⟩:=zbZ scope.names (s.heap.objs.size+1+1) (vL X.env scope.names []) x m
     cases q:(cellsFrom (s.heap.objs.size+1+1) scope.names (vL X.env scope.names [])).lookup x with
     |some c'=>exact⟨c',q⟩
     |none=>
      exfalso
      have:=List.lookup_eq_none_iff.mp q (x,c) e
      simp at this
 · intro x c hx e
   have hx:(scope.names.lookup x==some .cell)=true:=hx
   have m:=mem_of_lookup (beq_iff_eq.mp hx)
   rcases look x c e with z|z
   · exact absurd (zgq C.nd z.2 m) (by decide)
   · exact zzL (zzL (zyU _) (zyU _)) z.2.2
 · intro b hb
   obtain⟨o,e⟩:=ho b hb
   refine⟨zzN (zyY (zxG e)),λx c ec=>?_⟩
   rcases look x c ec with z|z
   · exact(hf b hb).2.2.2.2.1 x c z.1
   · have:=zxG e
     intro q;subst q
     exact absurd (zzH this (zzL (zzL (zyU _) (zyU _)) z.2.2)) (Nat.lt_irrefl _)
 · intro b o e hb
   rcases(hf b hb).2.2.2.1 with z|z
   · exact I.ok.noex b o e z
   · exact absurd (zzH (zxG e) (zzL I.ok.bsz z)) (Nat.lt_irrefl _)
 · intro b hb hm
   rcases zS.mp (I.stkSub b hm)with z|z
   · exact(hf b hb).2.1 z
   · exact(hf b hb).2.2.1 z
 · intro i x v e1 e2 e3
   have e2:(ZP cap σ)[i]? = some (some v):=e2
   unfold ZP at e2
   rw[zzF]at e2
   cases ec:cap[i]? with
   |none=>rw[ec]at e2;cases e2
   |some c=>
    cases c with
    |none=>rw[ec]at e2;cases e2
    |some j=>
     rw[ec]at e2
     have e2:(σ[j]?).getD none=some v:=zzW e2
     obtain⟨xn,m⟩:=C.at_ i x j e1 ec
     have es:σ[j]? = some (some v):=by
      cases q:σ[j]? with
      |none=>rw[q]at e2;cases e2
      |some y=>rw[q]at e2;exact congrArg some e2
     have kf:=C.fr _ m rfl
     obtain⟨mm,hn,hl⟩:=I.loc
     obtain⟨u,r,l⟩:=hl j x v xn es (by rcases kf with k|k;exact .inr (.inl k);exact .inr (.inr k))
     refine⟨u,r,.inr ⟨?_, ?_⟩⟩
     · show(relabel scope X.env).names.lookup x=some .cell\/(relabel scope X.env).names.lookup x=some .free
       rw[Vk,zbS C.nd m]
       show some (if _ then _ else _)=_\/some (if _ then _ else _)=_
       split
       · exact .inl rfl
       · exact .inr rfl
     · obtain⟨c,ec,eo⟩:=lookF x m
       refine⟨c,ec, ?_⟩
       rcases l with⟨k1,_⟩|⟨_,c2,e4,z⟩
       · have k1:X.env.scope.names.lookup x=some .local:=k1
         rcases kf with k|k<;>(rw[k1]at k;cases k)
       · rw[eo]at e4;cases e4
         exact z.keeps old
 · intro x c e
   rcases look x c e with z|z
   · obtain⟨v,q⟩:=I.cell x c z.1;exact⟨v,q.keeps old⟩
   · exact⟨none,z.2.1⟩
 · intro x c e
   rcases look x c e with z|z
   · exact I.freeC x c z.1
   · exact I.hok.fresh (zzL (zzL (zyU _) (zyU _)) z.2.2)
 · show(ZP cap σ).length=N.length
   unfold ZP
   rw[zD,C.len]
abbrev lobj(its:List Value):Obj:={cls:=.type "list",data:=.seq its.toArray its.length}
section
variable{X:Cx}{pins:List (Addr×Obj)}{σ:St}{H2:Hp}{s2:Shared}{elt tg iter:Expr}{ifs:List Expr}{scope:Scope}{pos:Pos}{N:List Str}{cap:List (Option Nat)}{g:TG}{tt:TT}{te:TE}{wi:TI}
set_option maxHeartbeats 1000000
theorem zdG{J:It}{it:Addr}{fp:List Addr}{tn:Nat->Heap->Prop}{Q:VK}{R:Value->Addr->Result->Shared->Prop}{E:Value->Shared->Prop}
 (hc:X.calm=true) (C:CapOk N X.N scope.names X.env.scope.names cap) (hk:scope.kind = .function)
 (hg:∀cl s H fp,PG (vz X N scope cl s H fp) tg g) (ht:∀cl s H fp,PTs (vz X N scope cl s H fp) ifs tt) (he:∀cl s H fp,PE (vz X N scope cl s H fp) elt te)
 (I2:Inv X pins σ H2 s2) (T:Turn X.prog X.w X.K tg J fp it tn) (st2:tn 0 s2.heap) (f2:∀b ∈ fp,zeK X pins H2 b)
 (W:Nat->Nat->List V->Hp->Prop) (m0:Nat) (w0:W 0 m0 [] H2)
 (turn:∀i m ys H,W i m ys H->ys.length<=sizeLine/\((J.stop i H/\∀p,H p=none->Q (.ref p) (upd H p (.lst ys)))\/(J.go i H/\∀x H',J.yld i H x H'->g x (ZP cap σ) H' λσ2 H2=>(∀(j:Nat) v,(ZP cap σ)[j]? = some (some v)->σ2[j]? = some (some v))/\
  tt σ2 H2 λb H3=>if b=true then ys.length<sizeLine/\te σ2 H3 λy H4=>∃m',m'<m/\W (i+1) m' (ys++[y]) H4 else ∃m',m'<m/\W (i+1) m' ys H3)))
 (fin:∀ys H3 s1 m,Inv X pins σ (upd H3 s2.heap.objs.size (.lst ys)) s1->s1.heap.Ns (s2.heap.objs.size+1) m->zeK X pins (upd H3 s2.heap.objs.size (.lst ys)) (s2.heap.objs.size+1)->
  Q (.ref s2.heap.objs.size) (upd H3 s2.heap.objs.size (.lst ys))->R (.ref s2.heap.objs.size) (s2.heap.objs.size+1) (.ok .next) s1):
 wpAny (model X.prog X.w) X.A (newList []) (λacc s₃=>wpAny (model X.prog X.w) X.A (newFunctionEnv scope X.env.globals (vL X.env scope.names []) [] X.env.qual none .none (some X.env)) (λcenv s₄=>
  codeAny (model X.prog X.w) X.A (.compStart (.ListComp elt [⟨tg,iter,ifs,0⟩] scope pos) 0 (.ref it) acc {cenv with scope:=relabel scope X.env}) (R acc cenv.locals) s₄) E s₃) E s2:=by
 refine zxI (zfP λh' env' eE eL old hns hcells=>?_)
 have e1:(s2.heap.push {cls:=.type "list",dict:=none,data:=.seq ([]:List Value).toArray}).objs.size=s2.heap.objs.size+1:=zxO ..
 dsimp only at eE eL old hns hcells
 rw[e1]at eE eL hns hcells
 have hD0:(s2.heap.push {cls:=.type "list",dict:=none,data:=.seq ([]:List Value).toArray}).get? s2.heap.objs.size=some (lobj []):=zxH _ rfl
 have hD:h'.get? s2.heap.objs.size=some (lobj []):=old _ _ hD0
 have old':∀b o,s2.heap.get? b=some o->h'.get? b=some o:=λb o q=>old b o (zxF _ q)
 have fex:∀b ∈ fp,∃o,s2.heap.get? b=some o:=λb hb=>by obtain⟨o,e,_⟩:=T.obj _ _ st2 b hb;exact⟨o,e⟩
 have flt:∀b ∈ fp,b<s2.heap.objs.size:=λb hb=>by obtain⟨o,e⟩:=fex b hb;exact zxG e
 have I':=ziq I2 C hk f2 fex old' hns hcells
 rw[eE,eL]
 generalize hX:vz X N scope (vL X.env scope.names []) s2 H2 fp=X' at I'
 have xP:X'.prog=X.prog:=by rw[<-hX]
 have xw:X'.w=X.w:=by rw[<-hX]
 have xK:X'.K=X.K:=by rw[<-hX]
 have xA:X'.A=X.A:=by rw[<-hX]
 have xe:X'.env=V5 scope X.env (vL X.env scope.names []) (s2.heap.objs.size+1):=by rw[<-hX]
 have xL:X'.env.locals=s2.heap.objs.size+1:=by rw[xe];rfl
 have xfs:X'.fs=frs X.stack:=by rw[<-hX]
 have xex:X'.ex=fp:=by rw[<-hX]
 have xs:X'.s₀=s2:=by rw[<-hX]
 have xH:X'.H₀=H2:=by rw[<-hX]
 have xpn:X'.pn=[]:=by rw[<-hX]
 have xc:X'.calm=true:=by rw[<-hX];exact hc
 have xE:X'.xe=λ_ _=>False:=by rw[<-hX]
 have hg':PG X' tg g:=by rw[<-hX];exact hg _ _ _ _
 have ht':PTs X' ifs tt:=by rw[<-hX];exact ht _ _ _ _
 have he':PE X' elt te:=by rw[<-hX];exact he _ _ _ _
 have H2D:H2 s2.heap.objs.size=none:=I2.hok.fresh (zzK _)
 have Dfs:s2.heap.objs.size ∉ X'.fs:=by
  rw[xfs]
  intro hm
  rcases zS.mp (I2.stkSub _ hm)with z|z
  · exact absurd I2.lt (by rw[<-z];exact Nat.lt_irrefl _)
  · exact I2.nofs (zzK _) z
 have DL:s2.heap.objs.size≠X'.env.locals:=by rw[xL];exact zzN (Nat.lt_succ_self _)
 have pinD:∀{σ':St}{H':Hp}{s':Shared}{its:List Value}{ps:List (Addr×Obj)},Inv X' ps σ' H' s'->s'.heap.get? s2.heap.objs.size=some (lobj its)->H' s2.heap.objs.size=none->Inv X' [(s2.heap.objs.size,lobj its)] σ' H' s':=λI e n=>
  I.pins_of λp hp=>by
   cases zzO.mp hp
   exact⟨e,n,DL,Dfs,λv z=>by cases z⟩
 have stat:∀{H':Hp}{its:List Value},(∀b ∈ fp,H' b=none)->∀b ∈ fp,zeK X' [(s2.heap.objs.size,lobj its)] H' b:=λhn b hb=>by
  refine⟨hn b hb, ?_, ?_,.inl (by rw[xex];exact hb),(I'.ok.exf b (by rw[xex];exact hb)).2,λp hp=>?_⟩
  · exact(I'.ok.exf b (by rw[xex];exact hb)).1
  · exact I'.ok.exfs b (by rw[xex];exact hb)
  · rw[xpn,List.nil_append]at hp
    cases zzO.mp hp
    exact Nat.ne_of_gt (flt b hb)
 have loop:∀(n:Nat) (s':Shared),(∃i ys its H3,Inv X' [(s2.heap.objs.size,lobj its)] (ZP cap σ) H3 s'/\tn i s'.heap/\(∀b ∈ fp,H3 b=none)/\Vals ys its/\W i n ys H3)->
  codeAny (model X.prog X.w) X.A (.compLoop (.ListComp elt [⟨tg,iter,ifs,0⟩] scope pos) 0 (.ref it) (.ref s2.heap.objs.size) (V5 scope X.env (vL X.env scope.names []) (s2.heap.objs.size+1)))
   (R (.ref s2.heap.objs.size) (s2.heap.objs.size+1)) s':=by
  intro n s' h0
  refine zfL (λn s'=>∃i ys its H3,Inv X' [(s2.heap.objs.size,lobj its)] (ZP cap σ) H3 s'/\tn i s'.heap/\(∀b ∈ fp,H3 b=none)/\Vals ys its/\W i n ys H3) ?_ n h0
  clear h0 n s'
  rintro n s3 E' ⟨i,ys,its,H3,I3,st3,fr3,rv3,w3⟩
  obtain⟨hz,hstep⟩:=turn i n ys H3 w3
  rcases hstep with⟨stop,qn⟩|⟨go,step⟩
  · have:=T.done X' xP xw xK xc i _ s3 _ H3 E' I3 (stat fr3) st3 stop
    rw[xA]at this
    refine zxQ this (λr s4 ⟨hr,I4⟩=>?_) λ_ _ z=>z
    subst hr
    obtain⟨gD,nD,_⟩:=I4.pin (s2.heap.objs.size,lobj its) (by rw[xpn];simp)
    obtain⟨m,hn,_⟩:=I4.loc
    rw[xL]at hn
    have b4:=I4.base
    rw[xfs,xex,xH,xs]at b4
    have nL:H3 (s2.heap.objs.size+1)=none:=by have:=I4.free;rw[xL]at this;exact this
    have neD:∀b o,s2.heap.get? b=some o->b≠s2.heap.objs.size:=λb o e=>zzN (zxG e)
    have neH:∀b u,H2 b=some u->b≠s2.heap.objs.size:=λb u e z=>by rw[z,H2D]at e;cases e
    have ne3:∀b u,H3 b=some u->b≠s2.heap.objs.size:=λb u e z=>by rw[z,nD]at e;cases e
    have hok4:=I4.hok
    rw[xP,xw]at hok4
    refine fin ys H3 s4 m (I2.call' (ch:=fp) ?_ ⟨b4.keep,b4.slot,λb o e n hx=>?_,b4.there,λb xs e=>?_,λb o u e=>?_,λb ps e=>?_⟩ ?_ I4.bare λb hb=>?_) hn (I2.fpOk (zyU _) (by rw[zM (Nat.ne_of_gt (Nat.lt_succ_self _))];exact nL)) (qn _ nD)
    · have:=I4.os;rw[xs]at this;exact this
    · rw[zM (neD b o e)];exact b4.free b o e n hx
    · rw[zM (neH b _ e)];exact b4.tups b xs e
    · rw[zM (neH b _ e)];exact b4.frzs b o u e
    · rw[zM (neH b _ e)];exact b4.tbls b ps e
    · intro b u e
      by_cases hb:b=s2.heap.objs.size
      · subst hb
        rw[zU]at e
        cases e
        exact⟨hz,its,its.length,rv3,gD⟩
      · rw[zM hb]at e
        exact(hok4 b u e).stay (λc v _ q=>q) (λc q=>by rw[zM (ne3 c _ q)];exact q) λc xs q=>by rw[zM (ne3 c _ q)];exact q
    · obtain⟨f0,f1,f3,f4,f5,f6⟩:=f2 b hb
      exact⟨f4,f1,f5,f6⟩
  · have:=T.item X' xP xw xK xc i _ s3 _ H3 E' I3 (stat fr3) st3 go
    rw[xA]at this
    refine zxQ this (λr s4 ⟨u,hr,h4⟩=>?_) λ_ _ z=>z
    subst hr
    refine zxQ h4 (λ_ s5 ⟨x,H5,I5,r5,y5,st5,fr5⟩=>?_) λ_ _ z=>z
    have I5':=I5.pinned (stat fr5) (T.obj _ _ st5)
    have h6:=hg' _ s5 _ H5 x u _ I5' r5 (step x H5 y5)
    rw[xP,xw,xA,xe,xE]at h6
    refine zxQ h6 (λ_ s6 ⟨σ6,H6,I6,cap6,q6⟩=>?_) λ_ _ z=>z.elim
    have h7:=ht' _ s6 σ6 H6 _ I6 q6
    rw[xP,xw,xA,xe,xE]at h7
    refine zxQ h7 (λb s7 ⟨H7,I7,q7⟩=>?_) λ_ _ z=>z.elim
    have keep:∀{H8:Hp}{s8:Shared},Inv X' ([(s2.heap.objs.size,lobj its)]++zec fp s5.heap) σ6 H8 s8->Inv X' [(s2.heap.objs.size,lobj its)] (ZP cap σ) H8 s8/\tn (i+1) s8.heap/\∀b ∈ fp,H8 b=none:=λ{H8 s8} I8=>by
     refine⟨I8.unpinned.weak ?_ cap6,T.keep _ _ _ st5 λb hb o e=>(I8.pin (b,o) (zzI _ (zzI _ (Wo hb e)))).1,λb hb=>?_⟩
     · rw[I3.len];exact I8.len.symm
     · obtain⟨o,e,d⟩:=T.obj _ _ st5 b hb
       exact(I8.pin (b,o) (zzI _ (zzI _ (Wo hb e)))).2.1
    cases b with
    |false=>
     obtain⟨m',hm,w7⟩:=q7
     obtain⟨k1,k2,k3⟩:=keep I7
     exact⟨m',hm,i+1,ys,its,H7,k1,k2,k3,rv3,w7⟩
    |true=>
     obtain⟨hz2,q7⟩:=q7
     have h8:=he' _ s7 σ6 H7 _ I7 q7
     rw[xP,xw,xA,xe,xE]at h8
     show wpAny _ _ _ _ _ _
     refine zxQ h8 (λyv s8 ⟨y,H8,I8,ry,m',hm,w8⟩=>?_) λ_ _ z=>z.elim
     obtain⟨k1,k2,k3⟩:=keep I8
     obtain⟨gD,nD,_⟩:=k1.pin (s2.heap.objs.size,lobj its) (by rw[xpn];simp)
     have hl:=rv3.length
     refine append_at gD (λh9 sb gD9=>?_) (by rw[zzE];omega)
     have I9:Inv X' [] (ZP cap σ) H8 {s8 with heap:=h9}:=(k1.pins_of (pins':=[]) (λ_ z=>nomatch z)).turned (t':=s8.toks) (it:=s2.heap.objs.size) (λb o hb e=>(sb.2 b hb).trans e) nD DL (.inr (by rw[xs];exact zzK _)) (λx c ec z=>by
      obtain⟨v,o,ho,hd⟩:=k1.cell x c ec
      rw[z,gD]at ho
      cases ho
      cases hd) (λp hp=>by rw[xpn]at hp;cases hp)
     have gD9':h9.get? s2.heap.objs.size=some (lobj (its++[yv])):=by
      rw[gD9]
      congr 1
      show({cls:=.type "list",data:=.seq (its.toArray.push yv) (its.length+1)}:Obj)={cls:=.type "list",data:=.seq (its++[yv]).toArray (its++[yv]).length}
      rw[zzG,List.length_singleton,List.push_toArray]
     refine⟨m',hm,i+1,ys++[y],its++[yv],H8,pinD I9 gD9' nD,T.keep _ _ _ k2 λb hb o e=>(sb.2 b (zzN (flt b hb))).trans e,k3,rv3.append (.cons ry .nil),w8⟩
 have start:∃i ys its H3,Inv X' [(s2.heap.objs.size,lobj its)] (ZP cap σ) H3 {s2 with heap:=h'}/\tn i h'/\(∀b ∈ fp,H3 b=none)/\Vals ys its/\W i m0 ys H3:=
  ⟨0,[],[],H2,pinD I' hD H2D,T.keep _ _ _ st2 λb hb o e=>old' b o e,λb hb=>(f2 b hb).1,.nil,w0⟩
 exact codeAny_compStart_list (loop m0 _ start) (T.self _ 0 _ _ _ (T.keep _ _ _ st2 λb hb o e=>old' b o e) (loop m0 _ start))
theorem znO(hc:X.calm=true)(hi:PI X tg iter wi)(hk:scope.kind = .function)(hcap:Zn N X.N scope.names X.env.scope.names cap=true)
 (hg:∀cl s H fp,PG (vz X N scope cl s H fp) tg g) (ht:∀cl s H fp,PTs (vz X N scope cl s H fp) ifs tt) (he:∀cl s H fp,PE (vz X N scope cl s H fp) elt te)
 (hs:∀x,foldedSetIterable iter X.env x=pure x):PE X (.ListComp elt [⟨tg,iter,ifs,0⟩] scope pos) (zml wi cap g tt te):=by
 intro pins s σ H Q I h
 have C:=zhr hcap
 rw[eval_ListComp]
 refine wpAny_comprehension_free (use:=none) rfl hs (zax λx m e=>I.ok.has x.1 (C.fr x m e)) hk (λy m e=>zbS C.nd (by rw[<-e];exact m)) ?_
 refine thn (hi pins s σ H _ I h) λv s1 h1=>thn h1 λitv s2 h2=>?_
 obtain⟨it,fp,tn,J,H2,e,I2,T,st2,f2,W,⟨m0,w0⟩,turn⟩:=h2
 subst e
 refine zdG (R:=λacc C r s'=>compPost (model X.prog X.w) X.A X.xe none (EP X pins σ Q) acc C r s') hc C hk hg ht he I2 T st2 f2 W m0 w0 turn λys H3 s3 m I3 hn fl q=>?_
 refine⟨m,hn,λh' sb=>?_⟩
 obtain⟨f0,f1,f3,f4,f5,f6⟩:=fl
 exact⟨.ref s2.heap.objs.size,_,I3.turned (t':=s3.toks) (λb o hb e=>(sb.2 b hb).trans e) f0 f1 f4 f5 f6,rfl,q⟩
theorem zoB{i:Nat}{y:Str}{py spos:Pos}(hN:X.N.Nodup)(hiy:X.N[i]? = some y)(hy:Loc X.env.scope y)(hf:X.fn y=true\/X.env.scope.names.lookup y=some .local)
 (hsw:swapsWith (.ListComp elt [⟨tg,iter,ifs,0⟩] scope pos) (some (.Name y py)) spos.line X.env=pure true)
 (hc:X.calm=true) (hi:PI X tg iter wi) (hk:scope.kind = .function) (hcap:Zn N X.N scope.names X.env.scope.names cap=true)
 (hg:∀cl s H fp,PG (vz X N scope cl s H fp) tg g) (ht:∀cl s H fp,PTs (vz X N scope cl s H fp) ifs tt) (he:∀cl s H fp,PE (vz X N scope cl s H fp) elt te)
 (hs:∀x,foldedSetIterable iter X.env x=pure x):PS X (.Assign [.Name y py] (.ListComp elt [⟨tg,iter,ifs,0⟩] scope pos) spos) (zqM (zml wi cap g tt te) (zdP i)):=by
 intro pins s σ H D I h
 have C:=zhr hcap
 rw[exec_Assign_Name_used _ _ _ _ hsw]
 refine zxD (wpAny_standAt (zxD ?_))
 show wpAny _ X.A (do let _ <-comprehension (.ListComp elt [⟨tg,iter,ifs,0⟩] scope pos) scope X.env _ (newList []) false (eval iter X.env) (some (assign (.Name y py) X.env))) _ _ s
 refine zxD (zxQ (wpAny_comprehension_free (use:=some (assign (.Name y py) X.env)) (Q:=λ_ s'=>SP X pins D .next s') rfl hs (zax λx m e=>I.ok.has x.1 (C.fr x m e)) hk (λy m e=>zbS C.nd (by rw[<-e];exact m)) ?_) (λ_ s' hq=>zxE (zxE hq)) λ_ _ e=>e)
 refine thn (hi pins s σ H _ I h) λv s1 h1=>thn h1 λitv s2 h2=>?_
 obtain⟨it,fp,tn,J,H2,e,I2,T,st2,f2,W,⟨m0,w0⟩,turn⟩:=h2
 subst e
 refine zdG (Q:=λx H1=>zdP i x σ H1 D.nx) (R:=λacc C r s'=>compPost (model X.prog X.w) X.A X.xe (some (assign (.Name y py) X.env)) (λ_ s'=>SP X pins D .next s') acc C r s') hc C hk hg ht he I2 T st2 f2 W m0 w0 turn λys H3 s3 m I3 hn fl q=>?_
 obtain⟨f0,f1,f3,f4,f5,f6⟩:=fl
 refine wpAny_assign_Name (zcg I3 hN hiy hy (v:=.ref s2.heap.objs.size) rfl (λs4 I4 ⟨a,sb,ha⟩=>?_) hf)
 refine⟨m,hn.sameBut sb (λz=>?_),λh' sb'=>?_⟩
 · rcases ha with ha|ha
   · exact f1 (z.trans ha)
   · exact f5 y a ha z.symm
 · exact⟨_,_,I4.turned (t':=s4.toks) (λb o hb e=>(sb'.2 b hb).trans e) f0 f1 f4 f5 f6,q⟩
end
structure ItC(K:zC)(kd:KD)(F:Addr->Prop)(H:Hp)(J:It)(ds:List It1):Prop where
 all:∀(H2:Hp) (T:Addr->Prop),(∀b u,H b=some u->H2 b=some u)->(∀a,T a->H a=none/\H2 a≠none)->∀i,(i<ds.length->J.go i H2)/\(ds.length<=i->J.stop i H2)/\
  ∀v H3,J.yld i H2 v H3->(∀b o,H2 b=some o->H3 b=some o)/\∀x,ds[i]? = some x->Rp K kd (λa=>x.1=true/\(F a\/T a)) H3 v x.2
def alC(K:zC)(kd:KD)(f:IF):TI:=λσ H R=>∃F B ad as ds as',Rel K kd F B [] ad as σ H/\f as=some (ds,as')/\
 ∀J ad' H',Rel K kd F B [] ad' as' σ H'->Grow (Gw [] ad) H (Gw [] ad') H'->ItC K kd (Lv F B (Gw [] ad') true) H' J ds->R J H'
@[irreducible] def AIc(X:Cx)(kd:KD)(tg iter:Expr)(f:IF):Prop:=PI X tg iter (alC X.K kd f)
def zco(os:List O):List It1:=os.map λo=>match o with | .lf st d=>(st,d)|o=>(false,o.toD)
def zsL(as:AS):RV->Option (List It1)
 | .ow o=>ziM (o.str,o.toD)
 | .bo i=>match as[i]? with
  |some (some (.nd .ls os))=>some (zco os)
  |some (some (.nd .tp os))=>some (zco os)
  |_=>none
def ZW(f:EF):IF:=λas=>(f as).bind λp=>(zsL p.2 p.1).bind λds=>some (ds,p.2)
section
variable{K:zC}{kd:KD}{F B:Addr->Prop}{G:Addr->Prop}{T:List Addr}{ad:Ad}{as:AS}{σ:St}{H H':Hp}
inductive RpC(K:zC)(kd:KD)(F:Addr->Prop)(H:Hp):List V->List It1->Prop
 |nil:RpC K kd F H [] []
 |cons {v:V}{x:It1}{vs:List V}{ds:List It1}:Rp K kd (λa=>x.1=true/\F a) H v x.2->RpC K kd F H vs ds->RpC K kd F H (v::vs) (x::ds)
theorem RpC.length{vs:List V}{ds:List It1}(h:RpC K kd F H vs ds):vs.length=ds.length:=by
 induction h with
 |nil=>rfl
 |cons _ _ ih=>exact congrArg (· + 1) ih
theorem RpC.get{vs:List V}{ds:List It1}{i:Nat}{x:It1}(h:RpC K kd F H vs ds)(e:ds[i]? = some x):∃v,vs[i]? = some v/\Rp K kd (λa=>x.1=true/\F a) H v x.2:=by
 induction h generalizing i with
 |nil=>simp at e
 |cons h r ih=>
  cases i with
  |zero=>simp at e;subst e;exact⟨_,rfl,h⟩
  |succ i=>
   obtain⟨v,h1,h2⟩:=ih (i:=i) (by simpa using e)
   exact⟨v,by simpa using h1,h2⟩
theorem Rp.since{Ob:Addr->Prop}{v:V}{d:D}{T:Addr->Prop}(k:∀b u,H b=some u->H' b=some u)(hT:∀a,T a->H a=none)(h:Rp K kd Ob H v d):Rp K kd (Un2 Ob T) H' v d:=
 Rp.grow (F:=Ob) (W:=λ_=>False) (W':=T) (H':=H') ⟨λb u q _=>k b u q,λb z=>.inr (hT b z)⟩ (h.less λa z=>z.elim id False.elim)
theorem zeb{st:Bool}{vs:List V}{ds:List D}(h:RpL K kd (Lv F B G st) H vs ds):RpC K kd (Lv F B G true) H vs (kids st ds):=
 RpL.ind (P:=λvs ds=>RpC K kd (Lv F B G true) H vs (kids st ds)) .nil (λ{v d vs ds} h _ ih=>by
  refine .cons (x:=(yd d||st,d)) ?_ ih
  cases e:yd d with
  |true=>exact h.flat e
  |false=>
   refine h.less λa z=>?_
   have zs:st=true:=z.1
   rw[zs];exact z.2) h
theorem zpi{vs:List V}{os:List O}{fp:List Addr}(h:vA K kd F B G H vs os fp):RpC K kd (Lv F B G true) H vs (zco os):=
 RoL.ind (P:=λvs os _=>RpC K kd (Lv F B G true) H vs (zco os)) .nil (λ{v o vs os fp fq} h _ ih=>by
  have ha:=zga h
  refine .cons ?_ ih
  cases h with
  |lf rp=>exact rp.less λa z=>(by have zs:=z.1;dsimp only at zs;rw[zs];exact z.2)
  |ls=>exact ha.less λa z=>nomatch z.1
  |dc=>exact ha.less λa z=>nomatch z.1
  |ob=>exact ha.less λa z=>nomatch z.1
  |tp=>exact ha.less λa z=>nomatch z.1) h
theorem zeo{a:Addr}{vs:List V}{ds:List It1}(h:SqL K H a vs)(r:RpC K kd F H vs ds):ItC K kd F H (Itl K a) ds:=⟨λH3 T k hT i=>by
 have hr3:SqL K H3 a vs:=by
  rcases h with(h|⟨o,h⟩)|h
  · exact .inl (.inl (k _ _ h))
  · exact .inl (.inr ⟨o,k _ _ h⟩)
  · exact .inr h
 refine⟨λhi=>?_,λhi=>⟨_,hr3,by rw[r.length];exact hi⟩,λv H4 hy=>?_⟩
 · obtain⟨u,hu,_⟩:=r.get (zzB hi)
   exact⟨_,u,hr3,hu⟩
 · obtain⟨rfl,hv⟩:=hy
   refine⟨λ_ _ z=>z,λd hd=>?_⟩
   obtain⟨u,hu,ru⟩:=r.get hd
   have:=hv _ hr3
   rw[hu]at this
   cases this
   exact(ru.since k λa z=>(hT a z).1).less λa z=>z.2.elim (λy=>.inl ⟨z.1,y⟩) .inr⟩
theorem ziO{a:Addr}{vs:List V}{ds:List It1}(h:SqT K H a vs)(r:RpC K kd F H vs ds):ItC K kd F H (Itt K a) ds:=⟨λH3 T k hT i=>by
 have hr3:SqT K H3 a vs:=by
  rcases h with(h|⟨o,h⟩)|h
  · exact .inl (.inl (k _ _ h))
  · exact .inl (.inr ⟨o,k _ _ h⟩)
  · exact .inr h
 refine⟨λhi=>?_,λhi=>⟨_,hr3,by rw[r.length];exact hi⟩,λv H4 hy=>?_⟩
 · obtain⟨u,hu,_⟩:=r.get (zzB hi)
   exact⟨_,u,hr3,hu⟩
 · obtain⟨rfl,hv⟩:=hy
   refine⟨λ_ _ z=>z,λd hd=>?_⟩
   obtain⟨u,hu,ru⟩:=r.get hd
   have:=hv _ hr3
   rw[hu]at this
   cases this
   exact(ru.since k λa z=>(hT a z).1).less λa z=>z.2.elim (λy=>.inl ⟨z.1,y⟩) .inr⟩
theorem zos(lo:Int)(n:Nat):ItC K kd F H (Itr lo n) (wz lo n):=⟨λH2 T k hT i=>by
 have hl:(wz lo n).length=n:=by unfold wz;simp
 refine⟨λhi=>by rw[hl]at hi;exact hi,λhi=>by rw[hl]at hi;exact hi,λv H3 hy=>?_⟩
 obtain⟨rfl,rfl⟩:=hy
 refine⟨λ_ _ z=>z,λd hd=>?_⟩
 have hi:i<n:=by rw[<-hl];exact(zzD.mp hd).1
 unfold wz at hd
 rw[zzF,List.getElem?_range hi]at hd
 cases hd
 exact .int _⟩
end
theorem YT{X:Cx}{kd:KD}{tg e:Expr}{fa:EF}(he:AE X kd e fa):AIc X kd tg e (ZW fa):=by
 with_unfolding_all (
 intro pins s σ H R I h
 obtain⟨F,B,ad,as,ds,as',Rl,e,q⟩:=h
 obtain⟨⟨p,as1⟩,h1,e⟩:=bS_ (show(fa as).bind _=_ from e)
 obtain⟨ys,h2,e⟩:=bS_ e
 cases e
 cases p with
 |ow o=>
  have h2:ziM (o.str,o.toD)=some ds:=h2
  generalize hd:o.toD=d at h2
  cases d with
  |lst xs=>
   cases h2
   refine zfT he pins s σ H R I ⟨F,B,ad,as,_,as1,Rl,h1,λv T1 ad1 H1 R1 rv1 g1=>?_⟩
   have rp:=zia R1 rv1
   rw[hd]at rp
   cases rp with
   |lst hn hr rl=>exact⟨_,rfl,⟨_,.inl hr⟩,q _ ad1 H1 R1.drop (g1.trans (Grow.less Gw.drop)) (zeo (.inl hr) (zeb rl))⟩
   |lstK a b c rl=>exact⟨_,rfl,⟨_,.inr ⟨_,_,_,a,rfl,rfl,rfl,b,c⟩⟩,q _ ad1 H1 R1.drop (g1.trans (Grow.less Gw.drop)) (zeo (.inr ⟨_,_,_,a,rfl,rfl,rfl,b,c⟩) (zeb rl))⟩
  |tup xs=>
   cases h2
   refine zix he pins s σ H R I ⟨F,B,ad,as,_,as1,Rl,h1,λv T1 ad1 H1 R1 rv1 g1=>?_⟩
   have rp:=zia R1 rv1
   rw[hd]at rp
   have go:∃a ys,v = .ref a/\SqT X.K H1 a ys/\RpL X.K kd (Lv F B (Gw [] ad1) o.str) H1 ys xs:=by
    cases rp with
    |tup n h r=>exact⟨_,_,rfl,.inl h,r⟩
    |tupK a b c e f r=>exact⟨_,_,rfl,.inr ⟨_,_,_,a,b,c,e,f⟩,r⟩
   obtain⟨a,ys,rfl,hs,rl⟩:=go
   exact⟨_,rfl,⟨_,hs⟩,q _ ad1 H1 R1.drop (g1.trans (Grow.less Gw.drop)) (ziO hs (zeb rl))⟩
  |_=>cases h2
 |bo i=>
  have h2:(match as1[i]? with|some (some (.nd .ls os))=>some (zco os)|some (some (.nd .tp os))=>some (zco os)|_=>none)=some ds:=h2
  cases k:as1[i]? with
  |none=>rw[k]at h2;cases h2
  |some s0=>
   rw[k]at h2
   match s0,h2,k with
   |some (.nd .ls os),h2,k=>
    cases h2
    refine zfT he pins s σ H R I ⟨F,B,ad,as,_,as1,Rl,h1,λv T1 ad1 H1 R1 rv1 g1=>?_⟩
    obtain⟨rfl,hs⟩:=rv1
    obtain⟨w,hw,ro⟩:=R1.sl i _ k
    rw[hs]at hw
    cases hw
    generalize hfp:ad1 i=fp at ro
    cases ro with
    |ls hH rl=>exact⟨_,rfl,⟨_,.inl (.inl hH)⟩,q _ ad1 H1 R1 g1 (zeo (.inl (.inl hH)) (zpi rl))⟩
   |some (.nd .tp os),h2,k=>
    cases h2
    refine zix he pins s σ H R I ⟨F,B,ad,as,_,as1,Rl,h1,λv T1 ad1 H1 R1 rv1 g1=>?_⟩
    obtain⟨rfl,hs⟩:=rv1
    obtain⟨w,hw,ro⟩:=R1.sl i _ k
    rw[hs]at hw
    cases hw
    generalize hfp:ad1 i=fp at ro
    cases ro with
    |tp n hH rl=>exact⟨_,rfl,⟨_,.inl (.inl hH)⟩,q _ ad1 H1 R1 g1 (ziO (.inl (.inl hH)) (zpi rl))⟩)
theorem Z4{X:Cx}{kd:KD}{tg a:Expr}{pos:Pos}{fr:AF}{p:Pos}(hg:Gl X "range")(hm:X.mg "range"=none)(ha:AA X kd [a] fr)(hs:starEach [a] X.env=[(false,eval a X.env)]):AIc X kd tg (.Call (.Name "range" p) [a] [] pos) (yE fr yI):=by
 with_unfolding_all (
 intro pins s σ H R I h
 obtain⟨F,B,ad,as,ds,as',Rl,e,q⟩:=h
 obtain⟨⟨ps,as1⟩,h1,e⟩:=bS_ (show(fr as).bind _=_ from e)
 obtain⟨⟨xs,lv⟩,h2,e⟩:=bS_ e
 obtain⟨ys,h3,e⟩:=bS_ e
 cases e
 obtain⟨j,rfl,h3⟩:=zjj h3
 · obtain⟨hj,e3⟩:=zO h3
   cases e3
   refine zfg hg hm ha hs pins s σ H R I ⟨F,B,ad,as,ps,_,Rl,h1,λvs ad1 H1 R1 rv1 g1=>?_⟩
   have vl:=zal R1 rv1 h2
   cases vl with
   |cons v1 v2=>
    cases v2
    cases v1
    exact⟨j,rfl,hj.1,hj.2,q _ ad1 H1 R1 g1 (zos 0 _)⟩)
def zsM(as:AS):Option Nat->Option O
 |none=>none
 |some j=>match as[j]? with
  |some (some (.lf st d))=>some (.lf st d)
  |some (some o)=>some (.lf false o.toD)
  |_=>none
def Y4(cap:List (Option Nat))(as:AS):AS:=cap.map (zsM as)
def xX(g:GF)(tt:TF)(fe:EF)(as0:AS):List It1->Option (List O)
 | []=>some []
 |x::r=>(g x as0).bind λas1=>(tt as1).bind λb=>if b.1=true then(fe b.2).bind λp=>(toO p.2 p.1).bind λq=>if q.1.str=true then(xX g tt fe as0 r).bind λos=>some (q.1::os)else none
  else xX g tt fe as0 r
def yw(fi:IF)(cap:List (Option Nat))(g:GF)(tt:TF)(fe:EF):EF:=λas=>(fi as).bind λp=>if p.1.length<=sizeLine then(xX g tt fe (Y4 cap p.2) p.1).bind λos=>some (.ow (.nd .ls os),p.2)else none
def xG:TF:=λas=>some (true,as)
section
variable{K:zC}{kd:KD}{F B:Addr->Prop}{T:List Addr}{ad:Ad}{as:AS}{σ:St}{H H':Hp}{cap:List (Option Nat)}
theorem znK(R:Rel K kd F B [] ad as σ H)(k:∀b u,H b=some u->H' b=some u)(hT:∀a ∈ T,H a=none)(hT':∀a ∈ T,H' a≠none):
 Rel K kd (Un2 (Lv F B (Gw [] ad) true) (· ∈ T)) (λ_=>False) [] (λ_=>[]) (Y4 cap as) (ZP cap σ) H':=by
 have no:∀a,¬Gw [] (λ_=>[]) a:=λa z=>z.elim (λy=>nomatch y) λ⟨_,y⟩=>nomatch y
 have kn:∀a,H a≠none->H' a≠none:=λa z=>by
  cases e:H a with
  |none=>exact absurd e z
  |some u=>rw[k a u e];simp
 have up:∀{st:Bool}{v:V}{d:D},Rp K kd (λa=>st=true/\Lv F B (Gw [] ad) true a) H v d->Rp K kd (Lv (Un2 (Lv F B (Gw [] ad) true) (· ∈ T)) (λ_=>False) (Gw [] λ_=>[]) st) H' v d:=λ{st v d} h=>by
  have:=Rp.grow (F:=λa=>st=true/\Lv F B (Gw [] ad) true a) (W:=λ_=>False) (W':=(· ∈ T)) (H':=H') ⟨λb u q _=>k b u q,λb z=>.inr (hT b z)⟩ (h.less λa z=>z.elim id False.elim)
  refine this.less λa z=>?_
  rcases z with(⟨z1,z2⟩|z)|z
  · rcases z2 with z2|z2
    · exact .inl ⟨z1,z2⟩
    · exact .inr z2
  · exact z.elim
  · exact(no a z).elim
 refine⟨by unfold Y4 ZP;rw[zD,zD],λ_ _=>rfl,λ_=>zyG,(λ_ _ _ z=>nomatch z),zyG,(λ_ _ _ z=>nomatch z),λa z=>z.elim (λy=>kn a (R.trk true a y)) (hT' a),(λ_ z=>z.elim),λa z=>(no a z).elim,λi s e=>?_⟩
 unfold Y4 at e
 rw[zzF]at e
 obtain⟨c,hc,rfl⟩:=zzU.mp e
 have es:(ZP cap σ)[i]? = some (zsw σ c):=by
  unfold ZP
  rw[zzF,hc]
  rfl
 rw[es]
 cases c with
 |none=>rfl
 |some j=>
  show zer _ _ _ _ _ _ (match as[j]? with|some (some (.lf st d))=>some (.lf st d)|some (some o)=>some (.lf false o.toD)|_=>none) _ _
  cases k2:as[j]? with
  |none=>rfl
  |some s0=>
   cases s0 with
   |none=>rfl
   |some o=>
    obtain⟨v,hv,ro⟩:=R.sl j _ k2
    cases o with
    |lf st d=>
     have e0:ad j=[]:=by
      generalize hfp:ad j=fp at ro
      cases ro
      rfl
     rw[e0]at ro
     refine⟨v,by show some ((σ[j]?).getD none)=_;rw[hv];rfl,.lf (up ?_)⟩
     exact(zgl ro).less λa z=>by have zs:st=true:=z.1;show Lv F B (Gw [] ad) st a;rw[zs];exact z.2
    |nd kk os=>exact⟨v,by show some ((σ[j]?).getD none)=_;rw[hv];rfl,.lf (up ((zga ro).less λa z=>nomatch z.1))⟩
theorem znk{S:List Nat}{fi:IF}{g:GF}{tt:TF}{fe:EF}{Q:VK}(hS:∀i ∈ S,cap[i]? = some none)(h:al K kd (yw fi cap g tt fe) σ H Q):
 zml (alC K kd fi) cap (alG K kd S g) (alT K kd tt) (al K kd fe) σ H Q:=by
 obtain⟨F,B,ad,as,r,as',R,e,q⟩:=h
 obtain⟨⟨ds,as1⟩,h1,e⟩:=bS_ (show(fi as).bind _=_ from e)
 by_cases hz:ds.length<=sizeLine
 · have e:(if ds.length<=sizeLine then(xX g tt fe (Y4 cap as1) ds).bind λos=>some (RV.ow (.nd .ls os),as1)else none)=some (r,as'):=e
   rw[if_pos hz]at e
   obtain⟨os,h2,e⟩:=bS_ e
   cases e
   refine⟨F,B,ad,as,ds,as',R,h1,λJ ad1 H1 R1 g1 it=>?_⟩
   refine⟨λi m ys H3=>m+i=ds.length/\∃T os1 os2,os=os1++os2/\xX g tt fe (Y4 cap as') (ds.drop i)=some os2/\os1.length<=i/\T.Nodup/\(∀a ∈ T,H1 a=none/\H3 a≠none)/\(∀b u,H1 b=some u->H3 b=some u)/\
    RoL (λ_ v d=>Rp K kd (Un2 (Lv F B (Gw [] ad1) true) (· ∈ T)) H3 v d) (λa=>¬Un2 (Lv F B (Gw [] ad1) true) (· ∈ T) a) H3 ys os1 T,⟨ds.length,rfl,[],[],os,rfl,h2,zzK _,zyG,(λ_ m=>nomatch m),(λ_ _ z=>z),.nil⟩, ?_⟩
   rintro i m ys H3 ⟨hm,T,os1,os2,eo,ec,hl,tnd,tf,k3,rl⟩
   obtain⟨i1,i2,i3⟩:=it.all H3 (· ∈ T) k3 tf i
   have yl:=rl.length
   refine⟨by omega, ?_⟩
   by_cases hi:i<ds.length
   · refine .inr ⟨i1 hi,λv H4 hy=>?_⟩
     obtain⟨k4,rp⟩:=i3 v H4 hy
     rw[zyN hi]at ec
     obtain⟨as2,e2,ec⟩:=bS_ (show(g _ _).bind _=_ from ec)
     obtain⟨⟨b,as3⟩,e3,ec⟩:=bS_ ec
     have k14:∀b u,H1 b=some u->H4 b=some u:=λb u h=>k4 b u (k3 b u h)
     have kn4:∀a,H3 a≠none->H4 a≠none:=λa z=>by
      cases e:H3 a with
      |none=>exact absurd e z
      |some u=>rw[k4 a u e];simp
     have R4:=znK (cap:=cap) (T:=T) R1 k14 (λa z=>(tf a z).1) (λa z=>kn4 a (tf a z).2)
     have no:∀a,¬Gw [] (λ_=>[]) a:=λa z=>z.elim (λy=>nomatch y) λ⟨_,y⟩=>nomatch y
     refine⟨_,_,_,_,ds[i],as2,R4,(rp _ (zzB hi)).less λa z=>?_,e2,λσ5 ad5 H5 R5 g5 keep5=>⟨λj w hw=>?_,_,_,ad5,as2,b,as3,R5,e3,λad6 H6 R6 g6=>?_⟩⟩
     · rcases z with(z|z)|z
       · exact z
       · exact z.elim
       · exact(no a z).elim
     · rw[keep5 j λz=>?_]
       · exact hw
       · have:=hS j z
         unfold ZP at hw
         rw[zzF,this]at hw
         cases hw
     · -- what stood is kept
       have g46:=g5.trans g6
       have k46:∀b u,H4 b=some u->H6 b=some u:=λb u h=>g46.keep b u h (no b)
       have k36:∀b u,H3 b=some u->H6 b=some u:=λb u h=>k46 b u (k4 b u h)
       have kn6:∀a,H3 a≠none->H6 a≠none:=λa z=>by
        cases e:H3 a with
        |none=>exact absurd e z
        |some u=>rw[k36 a u e];simp
       have up:∀{H7:Hp}{T2:List Addr},(∀b u,H3 b=some u->H7 b=some u)->(∀a ∈ T2,H3 a=none)->RoL (λ_ v d=>Rp K kd (Un2 (Lv F B (Gw [] ad1) true) (· ∈ T++T2)) H7 v d) (λa=>¬Un2 (Lv F B (Gw [] ad1) true) (· ∈ T++T2) a) H7 ys os1 T:=λ{H7 T2} k7 f7=>
        RoL.mono (λst v d r=>(r.since k7 f7).less λa z=>z.elim (λy=>.inl (.inl y)) λy=>(zzJ.mp y).elim (λx=>.inl (.inr x)) .inr)
         (λa vs n e=>⟨λz=>z.elim (λy=>n (.inl y)) λy=>(zzJ.mp y).elim (λx=>n (.inr x)) λx=>(by have:=f7 a x;rw[this]at e;cases e),k7 _ _ e⟩) (λa _ u h=>k7 a u h) rl
       cases b with
       |false=>
        have:=up (T2:=[]) k36 (λ_ m=>nomatch m)
        rw[zyB]at this
        exact⟨m-1,by omega,by omega,T,os1,os2,eo,ec,Nat.le_succ_of_le hl,tnd,λa z=>⟨(tf a z).1,kn6 a (tf a z).2⟩,λb u h=>k36 b u (k3 b u h),this⟩
       |true=>
        rw[if_pos rfl]at ec
        obtain⟨⟨p,as7⟩,e7,ec⟩:=bS_ ec
        obtain⟨⟨o,as8⟩,e8,ec⟩:=bS_ ec
        by_cases hs:o.str=true
        · have ec:(if o.str=true then(xX g tt fe (Y4 cap as') (ds.drop (i+1))).bind λos=>some (o::os)else none)=some os2:=ec
          rw[if_pos hs]at ec
          obtain⟨os3,e9,ec⟩:=bS_ ec
          cases ec
          refine⟨by omega,_,_,ad6,as3,p,as7,R6,e7,λy T2 ad7 H7 R7 rv7 g7=>?_⟩
          obtain⟨ad8,R8,ro8,le8⟩:=zef R7 rv7 e8
          have g47:=g46.trans g7
          have k47:∀b u,H4 b=some u->H7 b=some u:=λb u h=>g47.keep b u h (no b)
          have k37:∀b u,H3 b=some u->H7 b=some u:=λb u h=>k47 b u (k4 b u h)
          have f42:∀a ∈ T2,H4 a=none:=λa z=>(g47.own a (.inl z)).resolve_left (no a)
          have f32:∀a ∈ T2,H3 a=none:=λa z=>by
             cases e:H3 a with
             |none=>rfl
             |some u=>have:=k4 a u e;rw[f42 a z]at this;cases this
          have rt:=zfE R8 R8.tnd (λa z=>.inl z) ro8 hs
          have ro9:Ro (λ_ v d=>Rp K kd (Un2 (Lv F B (Gw [] ad1) true) (· ∈ T++T2)) H7 v d) (λa=>¬Un2 (Lv F B (Gw [] ad1) true) (· ∈ T++T2) a) H7 y o T2:=
             Ro.mono (λst v d r=>r.less λa z=>z.elim (λy=>.inl (.inl y)) λy=>(zzJ.mp y).elim (λx=>.inl (.inr x)) .inr)
              (λa vs n e=>⟨λz=>n (z.elim (λy=>.inl (.inl y)) λy=>(zzJ.mp y).elim (λx=>.inl (.inr x)) .inr),e⟩) (λ_ _ _ h=>h) rt.ro
          refine⟨m-1,by omega,by omega,T++T2,os1++[o],os3,by rw[eo,zxA];rfl,e9,by rw[zzG,List.length_singleton];omega,zxC.mpr ⟨tnd,rt.nd,λa z b z' e=>?_⟩,λa z=>?_,λb u h=>k37 b u (k3 b u h),(up k37 f32).append (RoL.one ro9)⟩
          · subst e
            exact(tf a z).2 (f32 a z')
          · rcases zzJ.mp z with z|z
            · refine⟨(tf a z).1, ?_⟩
              cases e:H3 a with
              |none=>exact absurd e (tf a z).2
              |some u=>rw[k37 a u e];simp
            · refine⟨?_,rt.tr a z⟩
              cases e:H1 a with
              |none=>rfl
              |some u=>have:=k3 a u e;rw[f32 a z]at this;cases this
        · have ec:(if o.str=true then(xX g tt fe (Y4 cap as') (ds.drop (i+1))).bind λos=>some (o::os)else none)=some os2:=ec
          rw[if_neg hs]at ec
          cases ec
   · refine .inl ⟨i2 (by omega),λp hp=>?_⟩
     rw[List.drop_eq_nil_of_le (by omega)]at ec
     cases ec
     rw[zyB]at eo
     subst eo
     have pT:p ∉ T:=λz=>(tf p z).2 hp
     have H1p:H1 p=none:=by
      cases e:H1 p with
      |none=>rfl
      |some u=>have:=k3 p u e;rw[hp]at this;cases this
     have kp:∀b u,H3 b=some u->upd H3 p (.lst ys) b=some u:=λb u h=>by rw[zM (yc h hp)];exact h
     obtain⟨R9,g9⟩:=R1.news (T':=p::T) (H':=upd H3 p (.lst ys)) (zzT.mpr ⟨pT,tnd⟩) (λa z=>(zS.mp z).elim (λe=>by rw[e];exact H1p) λz=>(tf a z).1) (λb u h=>kp b u (k3 b u h)) (λa z=>by
      rcases zS.mp z with e|z
      · rw[e,zU];simp
      · cases e:H3 a with
        |none=>exact absurd e (tf a z).2
        |some u=>rw[kp a u e];simp)
     refine q _ (p::T) ad1 _ R9 (.ls zU ?_) (g1.trans g9)
     have le:∀st a,Lv F B (Gw (p::T) ad1) st a->Un2 (Un2 (Lv F B (Gw [] ad1) true) (· ∈ T)) (· = p) a:=λst a z=>by
      rcases z with(z|z)|z|z
      · exact .inl (.inl (.inl (.inl ⟨rfl,z.2⟩)))
      · exact .inl (.inl (.inl (.inr z)))
      · exact(zS.mp z).elim .inr λy=>.inl (.inr y)
      · exact .inl (.inl (.inr (.inr z)))
     exact RoL.mono (λst v d r=>(r.since kp (T:=(· = p)) λa z=>by rw[z];exact hp).less (le st)) (λa vs n e=>⟨λz=>(le true a z).elim n λy=>(by rw[y,hp]at e;cases e),kp _ _ e⟩) (λa _ u h=>kp a u h) rl
 · have e:(if ds.length<=sizeLine then(xX g tt fe (Y4 cap as1) ds).bind λos=>some (RV.ow (.nd .ls os),as1)else none)=some (r,as'):=e
   rw[if_neg hz]at e
   cases e
end
section
variable{X:Cx}{kd:KD}{elt tg iter e a b c:Expr}{es ifs:List Expr}{scope:Scope}{pos:Pos}{N:List Str}{cap:List (Option Nat)}{g:GF}{tt:TF}{fe fa fb:EF}{fi:IF}{S:List Nat}{fr:AF}{fd:DF}
theorem wD:PTs X [] (alT X.K kd xG):=λpins s σ H Q I h=>by
 obtain⟨F,B,ad,as,b,as',R,e,q⟩:=h
 cases e
 exact zoN pins s σ H Q I (q ad H R Grow.refl)
theorem ziL(h:AT X kd c tt):PTs X [c] (alT X.K kd tt):=by with_unfolding_all exact(zol h)
theorem Zb(hc:X.calm=true)(hi:AIc X kd tg iter fi)(hk:scope.kind = .function)(hcap:Zn N X.N scope.names X.env.scope.names cap=true)(hS:S.all (λi=>cap[i]? == some none)=true)
 (hg:∀cl s H fp,AG (vz X N scope cl s H fp) kd tg S g) (ht:∀cl s H fp,PTs (vz X N scope cl s H fp) ifs (alT X.K kd tt)) (he:∀cl s H fp,AE (vz X N scope cl s H fp) kd elt fe)
 (hs:∀x,foldedSetIterable iter X.env x=pure x):AE X kd (.ListComp elt [⟨tg,iter,ifs,0⟩] scope pos) (yw fi cap g tt fe):=by with_unfolding_all exact(yX (znO (g:=alG X.K kd S g) (te:=al X.K kd fe) hc hi hk hcap hg ht he hs) λσ H Q h=>znk (λi m=>by simpa using List.all_eq_true.mp hS i m) h)
theorem V9{z:Bool}{i:Nat}{y:Str}{py spos:Pos}(hN:X.N.Nodup)(hiy:X.N[i]? = some y)(hy:Loc X.env.scope y)(hf:X.fn y=true\/X.env.scope.names.lookup y=some .local)
 (hsw:swapsWith (.ListComp elt [⟨tg,iter,ifs,0⟩] scope pos) (some (.Name y py)) spos.line X.env=pure true)
 (hc:X.calm=true) (hi:AIc X kd tg iter fi) (hk:scope.kind = .function) (hcap:Zn N X.N scope.names X.env.scope.names cap=true) (hS:S.all (λi=>cap[i]? == some none)=true)
 (hg:∀cl s H fp,AG (vz X N scope cl s H fp) kd tg S g) (ht:∀cl s H fp,PTs (vz X N scope cl s H fp) ifs (alT X.K kd tt)) (he:∀cl s H fp,AE (vz X N scope cl s H fp) kd elt fe)
 (hs:∀x,foldedSetIterable iter X.env x=pure x):ASt X kd (.Assign [.Name y py] (.ListComp elt [⟨tg,iter,ifs,0⟩] scope pos) spos) (zK z i (yw fi cap g tt fe)):=by with_unfolding_all exact(Zi (zoB (g:=alG X.K kd S g) (te:=al X.K kd fe) hN hiy hy hf hsw hc hi hk hcap hg ht he hs) λD σ H h=>by
 obtain⟨F,B,ad,as,o,R,e,q⟩:=h
 obtain⟨⟨p,as1⟩,h1,e⟩:=bS_ (show(yw fi cap g tt fe as).bind _=_ from e)
 obtain⟨⟨y,as2⟩,h2,e⟩:=bS_ e
 obtain⟨hl,e⟩:=zO e
 cases e
 refine znk (Q:=λx H1=>zdP i x σ H1 D.nx) (λi m=>by simpa using List.all_eq_true.mp hS i m) ⟨F,B,ad,as,p,as1,R,h1,λv T' ad' H' R' rv g=>?_⟩
 obtain⟨ad2,R2,le⟩:=zkT R' rv h2 hl
 exact q _ ad2 H' R2 (g.trans (Grow.less le)))
theorem zV{k:Nat}{f:Addr}{fdt:FuncData}{ps:List Str}{gg:List (Bool×D)->Option O}{x:Str}{p:Pos}(F:FnOk X.prog X.w X.K X.mg X.base CX0 k f fdt ps (spD X.K kd gg))(hr:Room k X.A)(hg:Gl X x)(hm:X.mg x=some (.ref f))(hk:PySem.W.keepIn X.K (.ref f)=true)
 (hb:Binds X.K fdt ps []) (hx:zaO CX0 X (λ_ _ _=>False)) (ha:AA X kd (e::es) fr) (hdb:(x==("__debug__":Str))=false) (he:starEach (e::es) X.env=(false,eval e X.env)::starEach es X.env) (hpl:(backTo pos (starEach es X.env)).any (·.1)=false):
 AE X kd (.Call (.Name x p) (e::es) [] pos) (zJ fr gg):=by with_unfolding_all exact(yX (zoI F hr hg hm hk hb .nil hx ha hdb he hpl) λσ H Q h=>zqa h)
theorem zfG{id:String}{gg:List D->Option R0}{x:Str}{p:Pos}(hc:CallD X kd (.builtin id) gg)(hg:Gl X x)(hm:X.mg x=none)(hv:bootBuiltins x=some (.builtin id))(ha:AA X kd (e::es) fr)(hn:x≠"__name__")(hdb:(x==("__debug__":Str))=false)
 (he:starEach (e::es) X.env=(false,eval e X.env)::starEach es X.env) (hpl:(backTo pos (starEach es X.env)).any (·.1)=false):AE X kd (.Call (.Name x p) (e::es) [] pos) (fP fr gg):=by with_unfolding_all exact(yX (zbI hc hg hm hv ha hn hdb he hpl) λσ H Q h=>alP (λ_ _ _ z=>z) h)
theorem ZK{T:String}{gg:List D->Option R0}{x:Str}{p:Pos}(hc:CallD X kd (.type T) gg)(hg:Gl X x)(hm:X.mg x=none)(hv:bootBuiltins x=some (.type T))(ha:AA X kd (e::es) fr)(hn:x≠"__name__")(hdb:(x==("__debug__":Str))=false)
 (he:starEach (e::es) X.env=(false,eval e X.env)::starEach es X.env) (hpl:(backTo pos (starEach es X.env)).any (·.1)=false):AE X kd (.Call (.Name x p) (e::es) [] pos) (fP fr gg):=by with_unfolding_all exact(yX (zkx hc hg hm hv ha hn hdb he hpl) λσ H Q h=>alP (λ_ _ _ z=>z) h)
def zeL(fa:EF)(c:String):EF:=λas=>(fa as).bind λp=>(p.1.frz.view p.2).bind λx=>if ziC x.1=true then some (.ow (.lf true (.bl (zfh (tyD x.1) c))),p.2)else none
theorem zlQ(hk:KdOk X kd):VN X (.builtin "isinstance") (λxs H Q=>∃x c O d,xs=[x,.ty c]/\zbq c=true/\Vw X.K kd O H x d/\ziC d=true/\Q (.bl (zfh (tyD d) c)) H):=by
 intro pins s σ H xs us Q I r h
 obtain⟨x,c,O,d,rfl,hc,vx,ho,q⟩:=h
 cases r with
 |cons r1 r2=>
  cases r2 with
  |cons r2 r3=>
   cases r3
   cases(show _=Value.type c from r2)
   exact zqO hk I r1 vx hc ho λtk=>⟨.bl _,H,I.tok tk,rfl,q⟩
theorem zfx{c:String}{x y:Str}{p p2:Pos}(hkd:KdOk X kd)(hc:zbq c=true)(hg:Gl X x)(hm:X.mg x=none)(hv:bootBuiltins x=some (.builtin "isinstance"))(hg2:Gl X y)(hm2:X.mg y=none)(hv2:bootBuiltins y=some (.type c))(ha:AE X kd a fa)
 (hn:x≠"__name__") (hdb:(x==("__debug__":Str))=false) (hn2:y≠"__name__") (hdb2:(y==("__debug__":Str))=false)
 (he:starEach [a,.Name y p2] X.env=(false,eval a X.env)::starEach [.Name y p2] X.env) (he2:starEach [.Name y p2] X.env=(false,eval (.Name y p2) X.env)::starEach [] X.env) (hpl:(backTo pos (starEach [.Name y p2] X.env)).any (·.1)=false):
 AE X kd (.Call (.Name x p) [a,.Name y p2] [] pos) (zeL fa c):=by with_unfolding_all exact(yX (zbI (zlQ hkd) hg hm hv (Zy ha (Zy (zjK (v:=.ty c) hg2 hm2 hv2 rfl hn2 hdb2) Vl he2) he) hn hdb he hpl) λσ H Q h=>by
 obtain⟨F,B,ad,as,r,as',R,e,q⟩:=h
 obtain⟨⟨p,as1⟩,h1,e⟩:=bS_ (show(fa as).bind _=_ from e)
 obtain⟨⟨d,lv⟩,h2,e⟩:=bS_ e
 obtain⟨ho,e⟩:=zO e
 cases e
 exact Wx R h1 λv ad1 H1 R1 rv1 g1=>⟨v,c,_,d,rfl,hc,vP.vw R1 rv1 h2,ho,q _ [] ad1 H1 R1 (.lf (.bl _)) g1⟩)
def Ye:MG:=λos es=>match es with | [o]=>if os.length<sizeLine then some (os++[o],.lf true .non)else none|_=>none
def Wq:MG:=λos es=>match es with | [.lf _ (.int i)]=>if -(2 ^ 63)<=i/\i<2 ^ 63 then(seqIndex? i os.length).bind λk=>(os[k]?).bind λo=>some (os.eraseIdx k,o)else none|_=>none
theorem zoU{l f fo g:List Addr}(h:l.Nodup)(e:l=f++(fo++g)):((f++g)++fo).Nodup/\∀a ∈ (f++g)++fo,a ∈ l:=by
 subst e
 have p:(f++(fo++g)).Perm ((f++g)++fo):=by
  rw[zxA]
  exact(List.perm_append_comm).append_left f
 exact⟨p.nodup_iff.mp h,λa m=>p.mem_iff.mpr m⟩
theorem zaP:MuD X kd zjM Ye:=by
 intro F B G l vs ws os es os' o fp fq H Q hH rl rw' hn e k
 unfold Ye at e
 split at e
 · obtain⟨hz,e⟩:=zO e
   cases e
   cases rw' with
   |cons h1 h2=>
    cases h2
    rw[zyB]at hn k
    exact⟨l,vs,_,rfl,rfl,hH,by rw[rl.length];exact hz,k _ _ _ [] (rl.append (RoL.one h1)) (.lf .non) (λa m=>by rwa [zyB]at m) (by rw[zyB];exact hn)⟩
 · cases e
theorem zlH:MuD X kd zlm Wq:=by
 intro F B G l vs ws os es os' o fp fq H Q hH rl rw' hn e k
 unfold Wq at e
 split at e
 · rename_i st i
   split at e
   · rename_i hi
     obtain⟨j,hj,e⟩:=bS_ e
     obtain⟨o1,ho,e⟩:=bS_ e
     cases e
     obtain⟨v,f,fo,gg,hv,hf,ro,r1,r2⟩:=rl.at_ ho
     cases rw' with
     |cons h1 h2=>
      cases h2
      cases h1 with
      |lf rp=>
       cases rp
       rw[zyB,zyB]at hn k
       obtain⟨n1,n2⟩:=zoU hn hf
       refine⟨l,vs,i,j,v,rfl,rfl,hH,hi.1,hi.2,by rw[rl.length];exact hj,hv,k v _ (f++gg) fo ?_ ro n2 n1⟩
       rw[zcO,zcO]
       exact r1.append r2
   · cases e
 · cases e
theorem V8{i:Nat}{x:Str}{gg:MG}{r:V->List V->Hp->VK->Prop}{name:Str}{id:String}{apos cpos p:Pos}(hm:MtM X id r)(hr:MuD X kd r gg)(slot:Slot "list" name id)(hty:typeOf (.builtin id)=pure (.type "method_descriptor"))(ho:PE X (.Name x p) (zcn i))(ha:AD X kd (e::es) fd)
 (hbase:attributeBase (.Name x p) name X.env (eval (.Name x p) X.env)=eval (.Name x p) X.env)
 (hfew:((backTo cpos (starEach (e::es) X.env)).all (λx=>!x.1)&&(backToKw cpos (keywordEach [] X.env)).all (λx=>x.1.isSome)
  && decide ((e::es).length+([]:List Keyword).length+(if([]:List Keyword).isEmpty then 0 else 1)<30))=true)
 (hline:(apos.endLine==cpos.line)=true) (hs:starEach (e::es) X.env=(false,eval e X.env)::starEach es X.env) (hplain:(backTo cpos (starEach es X.env)).any (·.1)=false):
 AE X kd (.Call (.Attribute (.Name x p) name apos) (e::es) [] cpos) (ZX i fd gg):=by with_unfolding_all exact(yX (zrx PySem.F.plainAttrs_list slot hty hm ho ha hbase hfew hline hs hplain) λσ H Q h=>zsC hr h)
end
inductive Ty where
 |str|lst|dct|int
def Ty.nm:Ty->String
 | .str=>"str" | .lst=>"list" | .dct=>"dict" | .int=>"int"
def zox:Ty->D->Bool
 | .str,.str _=>true
 | .lst,.lst _=>true
 | .dct,.dct _=>true
 | .int,.int _=>true
 |_,_=>false
def tyS(X:Cx)(T:String)(x:V)(H:Hp):Prop:=∀(pins:List (Addr×Obj)) (σ:St) (s:Shared) (v:Value),Inv X pins σ H s->RelV x v->s.TypeIs v T/\∀a,v = .ref a->∃ob,s.heap.get? a=some ob/\ob.dict=none
def tMD(X:Cx)(T:String)(r:V->List V->Hp->VK->Prop)(to:TE)(t:TA):TE:=λσ H Q=>to σ H λx H1=>tyS X T x H1/\t σ H1 λxs H2=>r x xs H2 Q
section
variable{X:Cx}{kd:KD}{o e:Expr}{es:List Expr}{to:TE}{t:TA}{name:Str}{apos cpos:Pos}{T id:String}{r:V->List V->Hp->VK->Prop}
theorem zrT(pa:PlainAttrs T)(slot:Slot T name id)(hty:typeOf (.builtin id)=pure (.type "method_descriptor"))(hm:MtR X id r)(ho:PE X o to)(ha:PA X (e::es) t)
 (hbase:attributeBase o name X.env (eval o X.env)=eval o X.env)
 (hfew:((backTo cpos (starEach (e::es) X.env)).all (λx=>!x.1)&&(backToKw cpos (keywordEach [] X.env)).all (λx=>x.1.isSome)
  && decide ((e::es).length+([]:List Keyword).length+(if([]:List Keyword).isEmpty then 0 else 1)<30))=true)
 (hline:(apos.endLine==cpos.line)=true) (hs:starEach (e::es) X.env=(false,eval e X.env)::starEach es X.env) (hplain:(backTo cpos (starEach es X.env)).any (·.1)=false):
 PE X (.Call (.Attribute o name apos) (e::es) [] cpos) (tMD X T r to t):=by
 intro pins s σ H Q I h
 refine wpAny_Call_method_late hbase hfew hline rfl (thn (ho pins s σ H _ I h) λv s1 ⟨x,H1,I1,r1,ty,q1⟩=>?_)
 obtain⟨h1,h2⟩:=ty _ _ _ _ I1 r1
 refine⟨T,id,pa,slot,hty,h1,h2, ?_⟩
 have hA:=ha cpos pins s1 σ H1 _ I1 q1
 rw[hs]at hA ⊢
 refine Calls.callWith_builtin (by show(false||(backTo cpos (starEach es X.env)).any (·.1))=false;rw[hplain]<;>rfl) (Calls.evalArgs_plain ?_)
 exact thn hA λus s2 ⟨vs,H2,I2,r2,q2⟩=>hm pins s2 σ H2 x vs v us Q I2 r1 r2 q2
def MtD(X:Cx)(kd:KD)(id:String)(g:D->List D->Option R0):Prop:=
 MtR X id (λx xs H Q=>∃O d ds r,(∀a,O a->H a≠none)/\Vw X.K kd O H x d/\VwL X.K kd O H xs ds/\g d ds=some r/\RQ X.K kd O H Q r)
theorem zso(hk:KdOk X kd){O:Addr->Prop}{H:Hp}{x:V}{d:D}{ty:Ty}(h:Vw X.K kd O H x d)(e:zox ty d=true):tyS X ty.nm x H:=by
 intro pins σ s v I rx
 cases h with
 |str z=>
  obtain⟨t,rfl⟩:=rx
  cases ty<;>first|(cases e;done)|exact⟨typeIs_str s z t,λ_ e=>nomatch e⟩
 |int z=>
  obtain⟨t,rfl⟩:=rx
  cases ty<;>first|(cases e;done)|exact⟨typeIs_int s z t,λ_ e=>nomatch e⟩
 |lst hr rl=>
  cases rx
  obtain⟨its,_,pl,_⟩:=I.list hr.sq
  cases ty<;>first|(cases e;done)|skip
  refine⟨pl.isList.typeIs,λa e=>?_⟩
  cases e
  obtain⟨o,n,e,c,hd,_⟩:=pl
  exact⟨o,e,hd⟩
 |dct hr rm=>
  cases rx
  obtain⟨z,hd,vs,rel,dd⟩:=zed I hk hr
  cases ty<;>first|(cases e;done)|skip
  refine⟨dd.typeIs,λb q=>?_⟩
  cases q
  obtain⟨ob,_,_,h1,h2,_⟩:=dd
  exact⟨ob,h1,h2.2.1⟩
 |non=>cases ty<;>cases e
 |bl=>cases ty<;>cases e
 |tup=>cases ty<;>cases e
 |cl=>cases ty<;>cases e
 |er=>cases ty<;>cases e
 |ob=>cases ty<;>cases e
def zdA(ty:Ty)(fa:EF)(fr:AF)(g:D->List D->Option R0):EF:=λas=>(fa as).bind λp=>(p.1.frz.view p.2).bind λw=>if zox ty w.1=true then(fr p.2).bind λq=>(p.1.frz.view q.2).bind λx=>(views q.2 q.1).bind λy=>(g x.1 y.1).bind λr=>(wrap (meet x.2 y.2) r).bind λz=>some (z,q.2)else none
theorem zqT(hk:KdOk X kd){ty:Ty}{fa:EF}{fr:AF}{g:D->List D->Option R0}{σ:St}{H:Hp}{Q:VK}(h:al X.K kd (zdA ty fa fr g) σ H Q):
 tMD X ty.nm (λx xs H Q=>∃O d ds r,(∀a,O a->H a≠none)/\Vw X.K kd O H x d/\VwL X.K kd O H xs ds/\g d ds=some r/\RQ X.K kd O H Q r) (al X.K kd fa) (alA X.K kd fr) σ H Q:=by
 obtain⟨F,B,ad,as,r,as',R,e,q⟩:=h
 obtain⟨⟨p,as1⟩,h1,e⟩:=bS_ (show(fa as).bind _=_ from e)
 obtain⟨⟨d0,l0⟩,h0,e⟩:=bS_ e
 obtain⟨hty,e⟩:=ite_some' e
 obtain⟨⟨ps,as2⟩,h2,e⟩:=bS_ e
 obtain⟨⟨d,lv⟩,h3,e⟩:=bS_ e
 obtain⟨⟨ds,lv2⟩,h4,e⟩:=bS_ e
 obtain⟨r0,h5,e⟩:=bS_ e
 obtain⟨z,h6,e⟩:=bS_ e
 cases e
 refine Wx R h1 λv ad1 H1 R1 rv1 g1=>⟨zso hk (vP.vw R1 rv1 h0) hty,F,B,ad1,as1,ps,_,R1,h2,λvs ad2 H2 R2 rv2 g2=>?_⟩
 exact⟨_,d,ds,r0,R2.tr _,(vP.vw R2 (rv1.grow g2) h3).less Obl.meet1,(zal R2 rv2 h4).less Obl.meet2,h5,WL R2 h6 λw T' H' R' rv' g'=>q w T' ad2 H' R' rv' ((g1.trans g2).trans g')⟩
theorem zor{ty:Ty}{a:Expr}{fa:EF}{fr:AF}{g:D->List D->Option R0}(hk:KdOk X kd)(hm:MtD X kd id g)(pa:PlainAttrs ty.nm)(slot:Slot ty.nm name id)(hty:typeOf (.builtin id)=pure (.type "method_descriptor"))(ho:AE X kd a fa)(ha:AA X kd (e::es) fr)
 (hbase:attributeBase a name X.env (eval a X.env)=eval a X.env)
 (hfew:((backTo cpos (starEach (e::es) X.env)).all (λx=>!x.1)&&(backToKw cpos (keywordEach [] X.env)).all (λx=>x.1.isSome)
  && decide ((e::es).length+([]:List Keyword).length+(if([]:List Keyword).isEmpty then 0 else 1)<30))=true)
 (hline:(apos.endLine==cpos.line)=true) (hs:starEach (e::es) X.env=(false,eval e X.env)::starEach es X.env) (hplain:(backTo cpos (starEach es X.env)).any (·.1)=false):
 AE X kd (.Call (.Attribute a name apos) (e::es) [] cpos) (zdA ty fa fr g):=by with_unfolding_all exact(yX (zrT pa slot hty hm ho ha hbase hfew hline hs hplain) λσ H Q h=>zqT hk h)
end
section
variable{K:zC}{kd:KD}{F B G:Addr->Prop}{T:List Addr}{ad:Ad}{as:AS}{σ:St}{H H':Hp}
inductive RPs(K:zC)(kd:KD)(F B G:Addr->Prop)(H:Hp):List (V×V)->List (Key×O)->Prop
 |nil:RPs K kd F B G H [] []
 |cons {k:Key}{v:V}{o:O}{ps:List (V×V)}{kos:List (Key×O)}:RoS K kd F B G H v o []->RPs K kd F B G H ps kos->RPs K kd F B G H ((kV k,v)::ps) ((k,o)::kos)
end
abbrev Fn:=List (Bool×D)->Option O
section
variable{P:Program}{w:World}{K:zC}{mg:Str->Option Value}{base:Heap}{kd:KD}
theorem yH{A:Around}{k:Nat}(hr:Room k A):A.units+100<cLine:=by have:=hr.un;omega
def KD1(P:Program)(w:World)(K:zC)(kd:KD):Prop:=∀X:Cx,X.prog=P->X.w=w->X.K=K->KdOk X kd
theorem V4{O:Addr->Prop}{H:Hp}:∀ns:List Int,RpL K kd O H (ns.map V.int) (ns.map D.int)
 | []=>.nil
 |_::r=>.cons (.int _) (V4 r)
theorem zpS{H:Hp}{a:Addr}{ns:List Int}{g:Fn}{E:XK}(hg:g [(true,.lst (ns.map D.int))]=some (.lf true (.bl true)))(hS:RdL K H a (ns.map V.int)):spD K kd g [.ref a] H (λv _=>v = .bl true) E:=by
 refine⟨λ_=>False,[(true,.lst (ns.map D.int))],.lf true (.bl true),(λ_ z=>z.elim),.cons ?_ .nil,hg,λv T H' _ _ _ _ ro=>?_⟩
 · rcases hS with h|⟨its,n,k,z,r⟩
   · exact .lst (λz=>z.2) h (V4 ns)
   · exact .lstK k z r (V4 ns)
 · cases ro with
   |lf rp=>cases rp;rfl
end
namespace Bt
theorem len:bootBuiltins "len"=some (.builtin "len"):=by decide +kernel
theorem max:bootBuiltins "max"=some (.builtin "max"):=by decide +kernel
theorem sorted:bootBuiltins "sorted"=some (.builtin "sorted"):=by decide +kernel
theorem isinstance:bootBuiltins "isinstance"=some (.builtin "isinstance"):=by decide +kernel
theorem int:bootBuiltins "int"=some (.type "int"):=by decide +kernel
theorem bool:bootBuiltins "bool"=some (.type "bool"):=by decide +kernel
theorem str:bootBuiltins "str"=some (.type "str"):=by decide +kernel
theorem list:bootBuiltins "list"=some (.type "list"):=by decide +kernel
theorem tuple:bootBuiltins "tuple"=some (.type "tuple"):=by decide +kernel
theorem dict:bootBuiltins "dict"=some (.type "dict"):=by decide +kernel
theorem n(x:Str)(h:(x==("__name__":Str))=false):x≠"__name__":=λe=>by subst e;simp at h
end Bt
def WD(f:EF)(as:AS)(st:Bool)(d:D):Prop:=f as=some (.ow (.lf st d),as)
def WT(f:TF)(as:AS)(b:Bool):Prop:=f as=some (b,as)
def WA(f:AF)(as:AS)(rs:List (Bool×D)):Prop:=f as=some (rs.map (λx=>.ow (.lf x.1 x.2)),as)
def WO(f:DF)(as:AS)(os:List O):Prop:=f as=some (os,as)
section
variable{as:AS}{f a b:EF}{s t:Bool}{x y z:D}{i j:Int}
theorem zj:WD (fC x) as true x:=rfl
theorem zb{i:Nat}(h:as[i]? = some (some (.lf s x))):WD (fV i) as s x:=by unfold WD fV;rw[h]
theorem zpp{g:D->D->Option R0}(ha:WD a as s x)(hb:WD b as t y)(hg:g x y=some (.im z)):WD (f2 a b g) as (yd z||(s&&t)) z:=by
 unfold WD f2 at *
 rw[ha];show((b as).bind _)=_
 rw[hb];show((g x y).bind _)=_
 rw[hg]
 show(if(yd z||(meet (some s) (some t)).isSome)=true then _ else _:Option RV).bind _=_
 rw[if_pos (by unfold meet;simp)]
 rfl
theorem zsu{g:D->D->Option R0}{oa ob:O}(ha:a as=some (.ow oa,as))(hb:b as=some (.ow ob,as))(hg:g oa.toD ob.toD=some (.im z)):WD (f2 a b g) as (yd z||(oa.str&&ob.str)) z:=by
 unfold WD f2 at *
 rw[ha];show((b as).bind _)=_
 rw[hb];show((g oa.toD ob.toD).bind _)=_
 rw[hg]
 show(if(yd z||(meet (some oa.str) (some ob.str)).isSome)=true then _ else _:Option RV).bind _=_
 rw[if_pos (by unfold meet;simp)]
 rfl
theorem xF{g:D->D->Option R0}(ha:WD a as s x)(hb:WD b as t y)(hg:g x y=some (.im z))(e:yd z=true):WD (f2 a b g) as true z:=by
 have:=zpp ha hb hg;rw[e]at this;exact this
theorem yO(ha:WD a as s (.int i))(hb:WD b as t (.int j)):WD (f2 a b (zm .Add)) as true (.int (i+j)):=xF ha hb rfl rfl
theorem zfw(ha:WD a as s (.int i))(hb:WD b as t (.int j)):WD (f2 a b (zm .Sub)) as true (.int (i-j)):=xF ha hb rfl rfl
theorem wO(ha:WD a as s (.int i))(hb:WD b as t (.int j))(h1:i.natAbs<big)(h2:j.natAbs<big):WD (f2 a b (zm .Mult)) as true (.int (i*j)):=xF ha hb (by show(if _ then _ else _)=_;rw[if_pos ⟨h1,h2⟩]) rfl
theorem xQ(ha:WD a as s (.int i))(hb:WD b as t (.int j))(h1:0<j)(h2:j.natAbs<big):WD (f2 a b (zm .FloorDiv)) as true (.int (i/j)):=xF ha hb (by show(if _ then _ else _)=_;rw[if_pos ⟨h1,h2⟩]) rfl
theorem yq(ha:WD a as s (.int i))(hb:WD b as t (.int j))(h1:0<j):WD (f2 a b (zm .Mod)) as true (.int (i%j)):=xF ha hb (by show(if _ then _ else _)=_;rw[if_pos h1]) rfl
theorem zdv{c:Bool}(ha:WD a as s x)(hb:WD b as t y)(h:eqF 60 x y=some c):WD (f2 a b (zZ .Eq)) as true (.bl c):=xF ha hb (by show(eqF 60 x y).bind _=_;rw[h];rfl) rfl
theorem zrB{c:Bool}(ha:WD a as s x)(hb:WD b as t y)(h:eqF 60 x y=some c):WD (f2 a b (zZ .NotEq)) as true (.bl (!c)):=xF ha hb (by show(eqF 60 x y).bind _=_;rw[h];rfl) rfl
theorem zjy(ha:WD a as s (.int i))(hb:WD b as t (.int j)):WD (f2 a b (zZ .Lt)) as true (.bl (decide (i<j))):=xF ha hb rfl rfl
theorem zhA(ha:WD a as s (.int i))(hb:WD b as t (.int j)):WD (f2 a b (zZ .Gt)) as true (.bl (decide (j<i))):=xF ha hb rfl rfl
theorem wC{c:Bool}(h:WD f as s x)(e:truth x=some c):WT (fT f) as c:=by
 unfold WT fT;unfold WD at h
 rw[h];show((truth x).bind _)=_
 rw[e];rfl
theorem zca{c:TF}{k:Bool}(h:WT c as k):WT (W5 c) as (!k):=by unfold WT W5 at *;rw[h];rfl
theorem zge{c e:TF}{k l:Bool}(h:WT c as k)(h2:k=true->WT e as l)(h3:k=false->l=false):WT (zdw c e) as l:=by
 unfold WT zdw at *;rw[h]
 cases k with
 |true=>exact h2 rfl
 |false=>rw[h3 rfl];rfl
theorem zeS{c e:TF}{k l:Bool}(h:WT c as k)(h2:k=false->WT e as l)(h3:k=true->l=true):WT (Vh c e) as l:=by
 unfold WT Vh at *;rw[h]
 cases k with
 |false=>exact h2 rfl
 |true=>rw[h3 rfl];rfl
theorem zrm{k l:Bool}(h:WD a as s (.bl k))(h2:k=true->WD b as true (.bl l))(h3:k=false->l=false):WD (zgJ a b) as true (.bl l):=by
 unfold WD zgJ at *;rw[h]
 cases k with
 |true=>exact h2 rfl
 |false=>rw[h3 rfl];rfl
theorem zQ:WA aN as []:=rfl
theorem zE{fr:AF}{rs:List (Bool×D)}(ha:WD a as s x)(hr:WA fr as rs):WA (aC a fr) as ((s,x)::rs):=by
 unfold WA aC at *;unfold WD at ha
 rw[ha];show((fr as).bind _)=_
 rw[hr];rfl
theorem X8:∀rs:List (Bool×D),Xx as (rs.map (λx=>.ow (.lf x.1 x.2)))=some (rs.map λx=>(yd x.2||x.1,x.2))
 | []=>rfl
 |r::rs=>by
  show(zmr as (.ow (.lf r.1 r.2))).bind _=_
  show(Xx as (rs.map _)).bind _=_
  rw[X8 rs];rfl
theorem YM:∀rs:List (Bool×D),views as (rs.map (λx=>.ow (.lf x.1 x.2)))=some (rs.map (·.2),some (rs.all (·.1)))
 | []=>rfl
 |r::rs=>by
  show(views as (rs.map _)).bind _=_
  rw[YM rs];rfl
theorem vg{fr:AF}{rs:List (Bool×D)}{g:List (Bool×D)->Option O}(ha:WA fr as rs)(hg:g (rs.map λx=>(yd x.2||x.1,x.2))=some (.lf s x)):WD (zJ fr g) as s x:=by
 unfold WD zJ;unfold WA at ha
 rw[ha];show(Xx as _).bind _=_
 rw[X8];show(g _).bind _=_
 rw[hg];rfl
theorem zan{fr:AF}{rs:List (Bool×D)}{o:O}{g:List (Bool×D)->Option O}(ha:WA fr as rs)(hg:g (rs.map λx=>(yd x.2||x.1,x.2))=some o):zJ fr g as=some (.ow o,as):=by
 unfold zJ;unfold WA at ha
 rw[ha];show(Xx as _).bind _=_
 rw[X8];show(g _).bind _=_
 rw[hg];rfl
theorem zjv{fr:AF}{rs:List (Bool×D)}{g:List D->Option R0}(ha:WA fr as rs)(hg:g (rs.map (·.2))=some (.im x)):WD (fP fr g) as (yd x||rs.all (·.1)) x:=by
 unfold WD fP;unfold WA at ha
 rw[ha];show(views as _).bind _=_
 rw[YM];show(g _).bind _=_
 rw[hg]
 show(if(yd x||(some (rs.all (·.1))).isSome)=true then _ else _:Option RV).bind _=_
 rw[if_pos (by simp)];rfl
theorem Yc{fr:AF}{rs:List (Bool×D)}{g:List D->Option R0}(ha:WA fr as rs)(hg:g (rs.map (·.2))=some (.im x))(e:yd x=true):WD (fP fr g) as true x:=by
 have:=zjv ha hg;rw[e]at this;exact this
theorem yK:WO dN as []:=rfl
theorem zN{fr:DF}{os:List O}(ha:WD a as s x)(hr:WO fr as os):WO (dC a fr) as (.lf s x::os):=by
 unfold WO dC at *;unfold WD at ha
 rw[ha];show((fr as).bind _)=_
 rw[hr];rfl
theorem Vy{fr:DF}{os:List O}(h:WO fr as os)(hl:os.length<=sizeLine):Yb fr as=some (.ow (.nd .ls os),as):=by
 unfold Yb;unfold WO at h
 rw[h];show(if os.length<=sizeLine then _ else _)=_
 rw[if_pos hl]
theorem yg{f g:SF}{as1:AS}{o:Option Out}(h1:f as=some (.nx as1))(h2:g as1=o):zB f g as=o:=by unfold zB;rw[h1];exact h2
theorem zai{f g:SF}{o:O}(h1:f as=some (.rt o)):zB f g as=some (.rt o):=by unfold zB;rw[h1];rfl
theorem vG{c:TF}{f g:SF}{o:Option Out}(h:WT c as true)(h1:f as=o):sIf c f g as=o:=by unfold sIf;unfold WT at h;rw[h];exact h1
theorem yQ{c:TF}{f g:SF}{o:Option Out}(h:WT c as false)(h1:g as=o):sIf c f g as=o:=by unfold sIf;unfold WT at h;rw[h];exact h1
theorem yx{i:Nat}{st:Bool}(h:WD f as s x)(hi:i<as.length):zK st i f as=some (.nx (as.set i (some (.lf s x)))):=by
 unfold zK;unfold WD at h
 rw[h]
 cases st<;>exact if_pos hi
theorem Zd{i:Nat}{o:O}(h:f as=some (.ow o,as))(hi:i<as.length):zK false i f as=some (.nx (as.set i (some o))):=by
 unfold zK
 rw[h]
 exact if_pos hi
theorem zpa{i:Nat}{o:O}(h:f as=some (.ow o,as))(hi:i<as.length):zK true i f as=some (.nx (as.set i (some o.frz))):=by
 unfold zK
 rw[h]
 exact if_pos hi
theorem VM(h:WD f as true x):yF f as=some (.rt (.lf true x)):=by unfold yF;unfold WD at h;rw[h];rfl
theorem X4{n m:Nat}{c:SF}{ds:List (Bool×D)}{o:O}(hl:ds.length=m)(h:c (xW n ds)=some (.rt o)):fnR n m c ds=some o:=by unfold fnR;rw[if_pos hl,h];rfl
theorem vB{g:GF}{f:SF}(I:Nat->AS->Prop):∀(xs:List It1) (k:Nat) (as:AS),(∀i x as,xs[i]? = some x->I (k+i) as->∃as1,g x as=some as1/\∃as2,f as1=some (.nx as2)/\I (k+i+1) as2)->I k as->∃as',forL g f xs as=some (.nx as')/\I (k+xs.length) as'
 | [],k,as,_,h=>⟨as,rfl,h⟩
 |x::r,k,as,st,h=>by
  obtain⟨as1,h1,as2,h2,h3⟩:=st 0 x as rfl h
  obtain⟨as',h4,h5⟩:=vB I r (k+1) as2 (λi y as e q=>by
   obtain⟨u,k1,v,k2,k3⟩:=st (i+1) y as e (by rw[show k+(i+1)=k+1+i by omega];exact q)
   exact⟨u,k1,v,k2,by rw[show k+1+i+1=k+(i+1)+1 by omega];exact k3⟩) h3
  refine⟨as', ?_,by rw[zzQ,show k+(r.length+1)=k+1+r.length by omega];exact h5⟩
  show(g x as).bind _=_
  rw[h1];show(f as1).bind _=_
  rw[h2];exact h4
theorem Z0{fi:IF}{g:GF}{f:SF}{xs:List It1}{as':AS}{o:Option Out}(h:fi as=some (xs,as'))(h2:forL g f xs as'=o):xN fi g f as=o:=by unfold xN;rw[h];exact h2
theorem wU{lo:Int}{n i:Nat}{x:It1}(h:(wz lo n)[i]? = some x):x=(true,.int (lo+i))/\i<n:=by
 unfold wz at h
 rw[zzF]at h
 cases e:(List.range n)[i]? with
 |none=>rw[e]at h;cases h
 |some k=>
  rw[e]at h
  obtain⟨h1,h2⟩:=zzD.mp e
  rw[zyR]at h1
  rw[List.getElem_range]at h2
  subst h2
  exact⟨(zzW h).symm,h1⟩
theorem vm{fr:AF}{j:Int}{u:Bool}(h:WA fr as [(u,.int j)])(h0:0<=j)(h1:j<1000000):yE fr yI as=some (wz 0 j.toNat,as):=by
 unfold yE;unfold WA at h
 rw[h]
 simp only[zyI,YM]
 show((if -(2 ^ 62)<=j/\j<2 ^ 62 then some (wz 0 j.toNat)else none).bind _)=_
 rw[if_pos ⟨by omega,by omega⟩];rfl
theorem zlM{fr:AF}{rs:List (Bool×D)}{o:O}(ha:a as=some (.ow o,as))(hr:WA fr as rs):WA (aC a fr) as ((o.str,o.toD)::rs):=by
 unfold WA aC at *
 rw[ha];show((fr as).bind _)=_
 rw[hr];rfl
theorem zdf{i:Nat}{o:O}(h:as[i]? = some (some o)):RV.view as (.bo i)=some (o.toD,o.kl):=by simp only[RV.view,h]
theorem zrr{i:Nat}{o:O}(h:as[i]? = some (some o)):toO as (.bo i)=some (o.frz,as.set i (some o.frz)):=by simp only[toO,h]
theorem zoA{i:Nat}{o:O}(h:as[i]? = some (some o))(hs:o.str=true):znc as (.bo i)=some o:=by simp only[znc,h,hs,if_true]
theorem zeM{i:Nat}{k:Kind}{os:List O}(h:as[i]? = some (some (.nd k os))):fV i as=some (.bo i,as):=by unfold fV;rw[h]
theorem zsO{i:Nat}{os:List O}(h:as[i]? = some (some (.nd .ls os))):WD (fP (aC (fV i) aN) zit) as true (.int os.length):=by
 have e:views as [.bo i]=some ([.lst (O.toDs os)],meet (O.nd .ls os).kl (some true)):=by
  show(RV.view as (.bo i)).bind _=_
  rw[zdf h];rfl
 unfold WD fP aC
 rw[zeM h]
 simp only[zyI,aN,RV.frz,e]
 rw[show zit [.lst (O.toDs os)]=some (.im (.int os.length)) by show some (R0.im (.int ((O.toDs os).length:Nat)))=_;rw[zcS]]
 rfl
theorem zft{g:GF}{f:SF}{d:It1}{r:List It1}{as1 as2:AS}{o:Option Out}(h1:g d as=some as1)(h2:f as1=some (.nx as2))(h3:forL g f r as2=o):forL g f (d::r) as=o:=by
 show(g d as).bind _=_
 rw[h1];show(f as1).bind _=_
 rw[h2];exact h3
theorem zmq{g:GF}{f:SF}{d:It1}{r:List It1}{as1:AS}{o:O}(h1:g d as=some as1)(h2:f as1=some (.rt o)):forL g f (d::r) as=some (.rt o):=by
 show(g d as).bind _=_
 rw[h1];show(f as1).bind _=_
 rw[h2];rfl
theorem zhS{i:Nat}{os:List O}(h:as[i]? = some (some (.nd .ls os)))(hl:os.length<sizeLine)(ha:WD a as s x):wJ (ZX i (dC a dN) Ye) as=some (.nx (as.set i (some (.nd .ls (os++[.lf s x]))))):=by
 unfold wJ ZX;rw[h]
 have e:dC a dN as=some ([.lf s x],as):=zN ha yK
 show((dC a dN as).bind _).bind _=_
 rw[e];show(Option.bind (match as[i]? with|some (some (.nd .ls os))=>_|_=>none) _)=_
 rw[h];show((Ye os [.lf s x]).bind _).bind _=_
 have e2:Ye os [.lf s x]=some (os++[.lf s x],.lf true .non):=by unfold Ye;exact if_pos hl
 rw[e2];rfl
theorem zmE{i:Nat}{os:List O}{k:Int}{o:O}(h:as[i]? = some (some (.nd .ls os)))(ha:WD a as s (.int k))(h0:0<=k)(h1:k<os.length)(hs:os.length<2 ^ 60)(ho:os[k.toNat]? = some o):ZX i (dC a dN) Wq as=some (.ow o,as.set i (some (.nd .ls (os.eraseIdx k.toNat)))):=by
 unfold ZX;rw[h]
 have e:dC a dN as=some ([.lf s (.int k)],as):=zN ha yK
 show((dC a dN as).bind _)=_
 rw[e];show(match as[i]? with|some (some (.nd .ls os))=>_|_=>none)=_
 rw[h];show((Wq os [.lf s (.int k)]).bind _)=_
 have e2:Wq os [.lf s (.int k)]=some (os.eraseIdx k.toNat,o):=by
  unfold Wq
  show(if -(2 ^ 63)<=k/\k<2 ^ 63 then _ else _)=_
  rw[if_pos ⟨by omega,by omega⟩]
  have e3:seqIndex? k os.length=some k.toNat:=by unfold seqIndex?;simp;omega
  rw[e3];show((os[k.toNat]?).bind _)=_
  rw[ho];rfl
 rw[e2];rfl
theorem zqS{g:GF}{o:O}{as':AS}(h:f as=some (.ow o,as))(hg:g (o.str,o.toD) as=some as'):zgY f g as=some (.nx as'):=by
 unfold zgY;rw[h]
 show(g (o.str,o.toD) as).bind _=_
 rw[hg];rfl
theorem zjD{i:Nat}{o:O}(h:as[i]? = some (some o))(hs:o.str=true):yF (fV i) as=some (.rt o):=by
 cases o with
 |lf st d=>unfold yF fV;rw[h];have:st=true:=hs;subst this;rfl
 |nd k os=>
  unfold yF;rw[zeM h];show(znc as (.bo i)).bind _=_
  rw[zoA h hs];rfl
theorem Zx{g:D->D->Option R0}(ha:WD a as true x)(hb:WD b as true y)(hg:g x y=some (.im z)):WD (f2 a b g) as true z:=by
 have:=zpp ha hb hg
 rw[show(yd z||(true&&true))=true by simp]at this
 exact this
theorem zak:∀zs:List D,zs.map (lfs true)=zs.map (O.lf true)
 | []=>rfl
 |z::r=>by
  show lfs true z::r.map (lfs true)=_
  rw[zak r];unfold lfs;rw[zyA];rfl
theorem xO{fr:DF}{o:O}{os:List O}{as1 as2:AS}(ha:a as=some (.ow o,as1))(hr:fr as1=some (os,as2)):dC a fr as=some (o::os,as2):=by
 unfold dC
 rw[ha];show((fr as1).bind _)=_
 rw[hr];rfl
theorem add_lists{xs ys:List D}(h:xs.length+ys.length<=sizeLine):zm .Add (.lst xs) (.lst ys)=some (.fl (xs++ys)):=if_pos h
theorem zeT(lo:Int)(n:Nat):wz lo (n+1)=(true,.int lo)::wz (lo+1) n:=by
 unfold wz
 rw[List.range_succ_eq_map,zyP,zzY]
 congr 1
 · simp
 · apply List.map_congr_left
   intro i _
   show(true,D.int _)=(true,D.int _)
   congr 2
   show lo+((i+1:Nat):Int)=_
   omega
theorem zlR{fr:AF}{rs:List (Bool×D)}{g:List D->Option R0}(ha:WA fr as rs)(hg:g (rs.map (·.2))=some (.im x))(e:rs.all (·.1)=true):WD (fP fr g) as true x:=by
 have:=zjv ha hg;rw[e,zyA]at this;exact this
theorem znv{ty:Ty}{fr:AF}{rs:List (Bool×D)}{g:D->List D->Option R0}(ha:WD a as s y)(ht:zox ty y=true)(hr:WA fr as rs)(hg:g y (rs.map (·.2))=some (.im x))(e:yd x=true):WD (zdA ty a fr g) as true x:=by
 unfold WD zdA;unfold WD at ha;unfold WA at hr
 rw[ha]
 show(if zox ty y=true then _ else _:Option (RV×AS))=_
 rw[if_pos ht,hr]
 simp only[zyI,YM]
 show((g y (rs.map (·.2))).bind _)=_
 rw[hg]
 show(if(yd x||_)=true then _ else _:Option RV).bind _=_
 rw[if_pos (by rw[e];rfl)]
 show some (RV.ow (.lf (yd x||_) x),as)=_
 rw[e];rfl
theorem zjN{g:GF}{fe:EF}{as0 as1:AS}{y:It1}{r:List It1}{os:List O}(h1:g y as0=some as1)(h2:WD fe as1 true x)(h3:xX g xG fe as0 r=some os):xX g xG fe as0 (y::r)=some (.lf true x::os):=by
 show(g y as0).bind _=_
 rw[h1];show(fe as1).bind _=_
 unfold WD at h2
 rw[h2];show(xX g xG fe as0 r).bind _=_
 rw[h3];rfl
theorem zbl{fi:IF}{cap:List (Option Nat)}{g:GF}{tt:TF}{fe:EF}{xs:List It1}{os:List O}(h1:fi as=some (xs,as))(hl:xs.length<=sizeLine)(h2:xX g tt fe (Y4 cap as) xs=some os):yw fi cap g tt fe as=some (.ow (.nd .ls os),as):=by
 unfold yw
 rw[h1];show(if xs.length<=sizeLine then _ else _)=_
 rw[if_pos hl];show(xX g tt fe (Y4 cap as) xs).bind _=_
 rw[h2];rfl
end
theorem szl{n:Nat}(h:Nat.ble n 1000=true):n<=sizeLine:=Nat.le_of_lt (yN (Nat.le_of_ble_eq_true h))
theorem zF{a b:Nat}(h:Nat.ble (a+1) b=true):a<b:=Nat.le_of_ble_eq_true h
theorem zP{i:Int}(h0 : -(10 ^ 200)<i)(h1:i<10 ^ 200):i.natAbs<big:=by
 have:(10:Nat) ^ 200<big:=by unfold big;decide +kernel
 have e:((10 ^ 200:Nat):Int)=(10:Int) ^ 200:=by norm_cast
 have:(i.natAbs:Int)<((10 ^ 200:Nat):Int):=by rw[e];omega
 omega
theorem zoT{ns:List Int}{k:Int}(h0:0<=k)(h1:k<ns.length):∃x,ixP (.lst (ns.map D.int)) (.int k)=some (.im (.int x)):=by
 have hk:k.toNat<ns.length:=by omega
 refine⟨ns[k.toNat], ?_⟩
 have h:=Wy (xs:=ns.map D.int) (j:=k.toNat) (v:=D.int ns[k.toNat]) (by rw[zzF,zzB hk];rfl)
 rw[show((k.toNat:Nat):Int)=k by omega]at h
 show imR (atI _ _)=_
 rw[h];rfl
section
variable{X:Cx}{kd:KD}{K:zC}{mg:Str->Option Value}
def spL(K:zC)(g:Fn):Sp:=λvs H Q E=>∀kd:KD,spD K kd g vs H Q E
end
def lfO:O->Option (Bool×D)
 | .lf s d=>some (s,d)
 |_=>none
theorem zmL{o:O}{p:Bool×D}(h:lfO o=some p):o = .lf p.1 p.2:=by
 cases o with
 |lf s d=>cases h;rfl
 |nd k os=>cases h
def zkX(i j:Nat)(fd:DF):SF:=λas=>(fd as).bind λp=>(zpC p.1).bind λo=>(lfO o.1).bind λa=>(lfO o.2).bind λb=>if i<p.2.length/\j<p.2.length then some (.nx ((p.2.set i (some (.lf a.1 a.2))).set j (some (.lf b.1 b.2))))else none
section
variable{X:Cx}{kd:KD}{a b:Expr}{fd:DF}{pos:Pos}
theorem zqB{i j:Nat}{x y:Str}{px py pt:Pos}{kt k2 pt2}(hc:X.calm=true)(hN:X.N.Nodup)(hi:X.N[i]? = some x)(hj:X.N[j]? = some y)(hij:i≠j)
 (hx:X.env.scope.names.lookup x=some .local) (hy:X.env.scope.names.lookup y=some .local) (ha:AD X kd [a,b] fd)
 (hw:swappedStores [.Tuple [.Name x px,.Name y py] kt pt] (.Tuple [a,b] k2 pt2) X.env=pure (some [x,y]))
 (hs:swapsWithSole [.Tuple [.Name x px,.Name y py] kt pt] (.Tuple [a,b] k2 pt2) pos.line X.env=pure false):
 ASt X kd (.Assign [.Tuple [.Name x px,.Name y py] kt pt] (.Tuple [a,b] k2 pt2) pos) (zkX i j fd):=by with_unfolding_all exact(Zi (zpQ hc hN hi hj hij hx hy ha hw hs) λD σ H h=>by
 obtain⟨F,B,ad,as,o,R,e,q⟩:=h
 obtain⟨⟨os,as1⟩,h1,e⟩:=bS_ (show(fd as).bind _=_ from e)
 obtain⟨⟨o1,o2⟩,e1,e⟩:=bS_ e
 obtain⟨⟨s1,d1⟩,e2,e⟩:=bS_ e
 obtain⟨⟨s2,d2⟩,e3,e⟩:=bS_ e
 cases zji e1
 cases zmL e2
 cases zmL e3
 · obtain⟨⟨l1,l2⟩,e⟩:=zO e
   cases e
   refine⟨F,B,ad,as,_,as1,R,h1,λvs T' ad' H' R' rl g=>?_⟩
   cases rl with
   |cons ra rb=>
    cases rb with
    |cons rb rn=>
     cases rn
     cases ra with
     |lf ra=>
      cases rb with
      |lf rb=>
       refine⟨_,_,rfl, ?_⟩
       have R2:=R'.put (T:=[]) (i:=i) (o:=.lf s1 d1) l1 (.lf ra)
       have R3:=R2.put (T:=[]) (i:=j) (o:=.lf s2 d2) (by rw[zzR];exact l2) (RoS.less xT (.lf rb))
       exact q _ _ _ R3 (g.trans (Grow.less λa z=>xT a (xT a z))))
end
inductive Ents(w:World):List DictEntry->List (Key×V)->Prop
 |nil:Ents w [] []
 |str {x:Str}{t:Tok}{v:V}{u:Value}{r:List DictEntry}{s:List (Key×V)}:RelV v u->Ents w r s->Ents w (⟨PyData.keyHash w.params x,.str x t,u⟩::r) ((.inr x,v)::s)
theorem Ents.keys{P:Program}{w:World}:∀{es:List DictEntry}{kvs:List (Key×V)},Ents w es kvs->∀e ∈ es,∃k,(vo P w).is k e.key=true/\e.hash=(vo P w).hash k
 |_,_,.nil,_,m=>nomatch m
 |_,_,.str (x:=x) (t:=t) _ r,e,m=>by
  rcases zS.mp m with rfl|m
  · exact⟨.inr x,Vv P w x t,rfl⟩
  · exact r.keys e m
theorem Ents.pairs{P:Program}{w:World}:∀{es:List DictEntry}{kvs:List (Key×V)},Ents w es kvs->∃vs,KV kvs vs/\Pairs (vo P w) es vs/\vs.map (·.1)=kvs.map (·.1)
 |_,_,.nil=>⟨[],.nil,.nil,rfl⟩
 |_,_,.str (x:=x) (t:=t) (u:=u) h r=>by
  obtain⟨vs,h1,h2,h3⟩:=r.pairs (P:=P)
  exact⟨(.inr x,u)::vs,.cons ⟨rfl,h⟩ h1,.cons (Vv P w x t) rfl h2,by rw[zyP,zyP,h3]⟩
structure DctAt(w:World)(K:zC)(a:Addr)(kvs:List (Key×V)):Prop where
 ex:∃es ep,K.lookup a=some {cls:=.type "dict",data:=.dict es ep}/\Ents w es.toList kvs
 nd:(kvs.map (·.1)).Nodup
 le:kvs.length<=sizeLine
 ns:(a==sysModules)=false
def kdL(l:List (Addr×List (Key×V)))(c:Str->Addr:=λ_=>0):KD:=⟨λa k=>l.lookup a=some k,c⟩
theorem lookup_mem{l:List (Addr×List (Key×V))}{a:Addr}{k:List (Key×V)}(h:l.lookup a=some k):(a,k) ∈ l:=by
 induction l with
 |nil=>cases h
 |cons p r ih=>
  rw[List.lookup_cons]at h
  by_cases e:a=p.1
  · subst e
    rw[beq_self_eq_true]at h
    cases h
    exact zzC
  · rw[show(a==p.1)=false from beq_eq_false_iff_ne.mpr e]at h
    exact zzA _ (ih h)
theorem zqj{P:Program}{w:World}{K:zC}{l:List (Addr×List (Key×V))}{c:Str->Addr}(h:∀p ∈ l,DctAt w K p.1 p.2):KD1 P w K (kdL l c):=λX e1 e2 e3=>by
 subst e1;subst e2;subst e3
 refine⟨λa k k' h1 h2=>zzW (h1.symm.trans h2),λa k h1=>?_,λa k hp h1 hin=>?_⟩
 · obtain⟨es,ep,e,_⟩:=(h _ (lookup_mem h1)).ex
   exact⟨_,e⟩
 · have q:=h _ (lookup_mem h1)
   obtain⟨es,ep,e,en⟩:=q.ex
   obtain⟨vs,h2,h3,h4⟩:=en.pairs (P:=X.prog)
   refine⟨q.le,q.ns,vs,h2,_,es,ep,hin _ _ e,⟨rfl,rfl,rfl⟩,rfl,λx m=>en.keys x (by simpa using m),h3,by rw[h4];exact q.nd⟩
def isStar:Expr->Bool
 | .Starred .. => true
 |_=>false
theorem za{a:Expr}{es:List Expr}{env:Env}(h:isStar a=false):starEach (a::es) env=(false,eval a env)::starEach es env:=by
 cases a<;>first|rfl|cases h
section
variable{as:AS}{f a b c:EF}{s t u:Bool}{x y z:D}{i j k:Int}
theorem zqm{cl:String}(h:WD f as s x)(ho:ziC x=true:=by rfl):WD (zeL f cl) as true (.bl (zfh (tyD x) cl)):=by
 unfold WD zeL at *;rw[h];show(if ziC x=true then _ else _)=_;rw[if_pos ho];rfl
theorem zet{cl:String}{q:Bool}(h:WD f as s x)(e:zfh (tyD x) cl=q)(ho:ziC x=true:=by rfl):WD (zeL f cl) as true (.bl q):=by subst e;exact zqm h ho
theorem zpM{q:Bool}(h:WD f as s (.bl q)):WD (zok f) as true (.bl (!q)):=by
 unfold WD zok at *;rw[h];rfl
theorem zqA{cc:TF}{g:SF}{n:Nat}{as1:AS}{o:Option Out}(h:WT cc as true)(h1:g as=some (.nx as1))(h2:whL cc g n as1=o):whL cc g (n+1) as=o:=by
 unfold WT at h
 show(cc as).bind _=_
 rw[h];show(g as).bind _=_
 rw[h1];exact h2
theorem zrc{cc:TF}{g:SF}{n:Nat}(h:WT cc as false):whL cc g (n+1) as=some (.nx as):=by
 unfold WT at h
 show(cc as).bind _=_
 rw[h];rfl
theorem zpW{p q:Nat}{fd:DF}(h:WO fd as [.lf s x,.lf t y])(hi:p<as.length)(hj:q<as.length):zkX p q fd as=some (.nx ((as.set p (some (.lf s x))).set q (some (.lf t y)))):=by
 unfold zkX;unfold WO at h
 rw[h];show(if _ then _ else _)=_
 rw[if_pos ⟨hi,hj⟩]
theorem zjP{g:GF}{tt:TF}{fe:EF}{as0 as1:AS}{w:It1}{r:List It1}{o:Option (List O)}(h1:g w as0=some as1)(h2:WT tt as1 false)(h3:xX g tt fe as0 r=o):xX g tt fe as0 (w::r)=o:=by
 unfold WT at h2
 show(g w as0).bind _=_
 rw[h1];show(tt as1).bind _=_
 rw[h2];exact h3
def WE(f:EF)(as:AS)(x:D):Prop:=∃o,f as=some (.ow o,as)/\o.str=true/\o.toD=x
def RE(r:Option O)(x:D):Prop:=∃o,r=some o/\o.str=true/\o.toD=x
theorem WD.e(h:WD f as true x):WE f as x:=⟨_,h,rfl,rfl⟩
theorem Y7{fr:DF}{os:List O}(h:WO fr as os)(hl:os.length<=sizeLine)(hs:O.strs os=true)(e:D.lst (O.toDs os)=x):WE (Yb fr) as x:=⟨_,Vy h hl,hs,e⟩
theorem Vj{fr:AF}{rs:List (Bool×D)}(h:WE a as x)(hr:WA fr as rs):WA (aC a fr) as ((true,x)::rs):=by
 obtain⟨o,h1,h2,rfl⟩:=h
 have:=zlM h1 hr
 rw[h2]at this
 exact this
theorem Zt{g:List (Bool×D)->Option O}(ha:WE a as x)(hg:RE (g [(true,x)]) z):WE (zJ (aC a aN) g) as z:=by
 obtain⟨o,h1,h2,h3⟩:=hg
 exact⟨o,zan (Vj ha zQ) (by show g [(yd x||true,x)]=_;rw[zyA];exact h1),h2,h3⟩
theorem zgk{g:List (Bool×D)->Option O}(ha:WE a as x)(hb:WE b as y)(hg:RE (g [(true,x),(true,y)]) z):WE (zJ (aC a (aC b aN)) g) as z:=by
 obtain⟨o,h1,h2,h3⟩:=hg
 exact⟨o,zan (Vj ha (Vj hb zQ)) (by show g [(yd x||true,x),(yd y||true,y)]=_;rw[zyA,zyA];exact h1),h2,h3⟩
theorem ziv{w:D}{g:List (Bool×D)->Option O}(ha:WE a as x)(hb:WE b as y)(hc:WE c as w)(hg:RE (g [(true,x),(true,y),(true,w)]) z):WE (zJ (aC a (aC b (aC c aN))) g) as z:=by
 obtain⟨o,h1,h2,h3⟩:=hg
 exact⟨o,zan (Vj ha (Vj hb (Vj hc zQ))) (by show g [(yd x||true,x),(yd y||true,y),(yd w||true,w)]=_;rw[zyA,zyA,zyA];exact h1),h2,h3⟩
theorem f2E{g:D->D->Option R0}(ha:WE a as x)(hb:WE b as y)(hg:g x y=some (.im z)):WD (f2 a b g) as true z:=by
 obtain⟨o,h1,h2,rfl⟩:=ha
 obtain⟨p,h3,h4,rfl⟩:=hb
 have:=zsu h1 h3 hg
 rw[h2,h4,Bool.and_true,zyA]at this
 exact this
theorem ziV:∀zs:List D,O.strs (zs.map (O.lf true))=true
 | []=>rfl
 |_::r=>ziV r
theorem zjA:∀zs:List D,O.toDs (zs.map (O.lf true))=zs
 | []=>rfl
 |z::r=>congrArg (z :: ·) (zjA r)
theorem Yp{p:Nat}(h:WE f as x)(hi:p<as.length):zK true p f as=some (.nx (as.set p (some (.lf true x)))):=by
 obtain⟨o,h1,h2,rfl⟩:=h
 have:=zpa h1 hi
 rw[show o.frz = .lf true o.toD by unfold O.frz;rw[h2]]at this
 exact this
theorem zmi{q:Bool}(ha:WE a as x)(hb:WE b as y)(h:eqF 60 x y=some q):WD (f2 a b (zZ .Eq)) as true (.bl q):=f2E ha hb (by show(eqF 60 x y).bind _=_;rw[h];rfl)
theorem zmU{q:Bool}(ha:WE a as x)(hb:WE b as y)(h:eqF 60 x y=some q):WD (f2 a b (zZ .NotEq)) as true (.bl (!q)):=f2E ha hb (by show(eqF 60 x y).bind _=_;rw[h];rfl)
theorem zqJ{g:List D->Option R0}(ha:WE a as x)(hg:g [x]=some (.im z)):WD (fP (aC a aN) g) as true z:=zlR (Vj ha zQ) hg rfl
theorem zne{fr:DF}{o:O}{os:List O}(ha:a as=some (.ow o,as))(hr:WO fr as os):WO (dC a fr) as (o::os):=xO ha hr
theorem zgF{fr:DF}{os:List O}(h:WO fr as os)(hl:os.length<=sizeLine):xR fr as=some (.ow (Y0 os),as):=by
 unfold xR;unfold WO at h
 rw[h];show(if os.length<=sizeLine then some (RV.ow (Y0 os),as)else _)=_
 rw[if_pos hl]
theorem zgi:∀ds:List D,kids true ds=ds.map λd=>(true,d)
 | []=>rfl
 |d::r=>by show(yd d||true,d)::kids true r=_;rw[zgi r,zyA];rfl
theorem zgX{ds:List D}(h:WE f as (.lst ds)):ZW f as=some (ds.map λd=>(true,d),as):=by
 obtain⟨o,h1,h2,h3⟩:=h
 unfold ZW
 rw[h1];show(ziM (o.str,o.toD)).bind _=_
 rw[h2,h3];show some (kids true ds,as)=_
 rw[zgi]
theorem zpq{ds:List D}(h:WD f as true (.lst ds)):zlv f as=some (ds.map λd=>(true,d),as):=by
 unfold zlv;unfold WD at h
 rw[h];show some (kids true ds,as)=_
 rw[zgi]
end
def zcH:List D->Option (List Str)
 | []=>some []
 | .str x::r=>(zcH r).bind λs=>some (x::s)
 |_::_=>none
theorem znx{K:zC}{kd:KD}{O:Addr->Prop}{H:Hp}{vs:List V}{us:List Value}{ds:List D}{ns:List Str}(h:RpL K kd O H vs ds)(hv:Vals vs us)(e:zcH ds=some ns):StrsAre us ns:=
 RpL.ind (P:=λvs ds=>∀us ns,Vals vs us->zcH ds=some ns->StrsAre us ns) (λus ns hv e=>by cases e;cases hv;exact .nil) (λ{v d vs ds} a _ ih us ns hv e=>by
  cases hv with
  |cons b t=>
   cases a with
   |str x=>
    obtain⟨ys,h1,h2⟩:=bS_ (show(zcH _).bind _=_ from e)
    cases h2
    obtain⟨tk,rfl⟩:=b
    exact .cons _ _ (ih _ _ t h1)
   |_=>cases e) h us ns hv e
def zgP:D->List D->Option R0
 | .str sep,[.lst ds]=>(zcH ds).bind λys=>if(ys.map (·.length)).sum+ys.length*sep.length<=16777216 then some (.im (.str (Txt.join sep ys)))else none
 |_,_=>none
section
variable{X:Cx}{kd:KD}
theorem zov:MtD X kd "str.join" zgP:=by
 intro pins s σ H x xs v us Q I rx r h
 obtain⟨O,d,ds,r0,ht,vx,vl,he,q⟩:=h
 unfold zgP at he
 split at he
 · rename_i sep es
   obtain⟨ys,h1,he⟩:=bS_ he
   obtain⟨hz,he⟩:=zO he
   cases he
   cases vx
   obtain⟨t,rfl⟩:=rx
   obtain⟨y,rfl,vy⟩:=zdh vl
   cases vy with
   |lst hr rl=>
    obtain⟨u,rfl,ru⟩:=vals1 r
    cases ru
    obtain⟨its,rv,pl,_⟩:=I.list hr.sq
    exact join_list pl.isList (znx rl (by simpa using rv) h1) hz λt' k=>⟨.str _,H,I.tok _,⟨t',rfl⟩,yD q (.str _)⟩
 · cases he
def zsZ:D->Option R0
 | .str x=>if x.length<=640 then(PySem.intText? x).bind λn=>some (.im (.int n))else none
 |d=>ztj d
def Wb:List D->Option R0:=on1 zsZ
theorem YJ:CallD X kd (.type "int") Wb:=by
 intro pins s σ H xs us Q I r h
 obtain⟨O,ds,z,ht,vl,he,q⟩:=h
 obtain⟨x,d,rfl,vx,he⟩:=zes vl he
 cases vx with
 |str y=>
  obtain⟨hl,he⟩:=ite_some' he
  obtain⟨n,hn,he⟩:=bS_ he
  cases he
  obtain⟨u,rfl,ru⟩:=vals1 r
  obtain⟨t,rfl⟩:=ru
  exact PySem.W.KIN.call_text hn hl ⟨.int _,H,I.tok _,⟨_,rfl⟩,yD q (.int _)⟩
 |int i=>cases he;exact zeR pins s σ H _ us Q I r (.inl ⟨_,rfl,yD q (.int _)⟩)
 |bl b=>cases he;exact zeR pins s σ H _ us Q I r (.inr ⟨_,rfl,yD q (.int _)⟩)
 |_=>cases he
end
mutual
def pyD:D->Option PyData
 | .non=>some .none
 | .bl b=>some (.bool b)
 | .int i=>some (.int i)
 | .str x=>some (.str x)
 | .tup ds=>(zfZ ds).bind λps=>some (.tuple ps)
 | .lst ds=>(zfZ ds).bind λps=>some (.list ps)
 | .dct _=>none
 | .cl _=>none
 | .ob _ _ _=>none
 | .er _ _ _=>none
def zfZ:List D->Option (List PyData)
 | []=>some []
 |d::r=>(pyD d).bind λp=>(zfZ r).bind λps=>some (p::ps)
end
section
variable{X:Cx}{kd:KD}{pins:List (Addr×Obj)}{σ:St}{H:Hp}{s:Shared}{O:Addr->Prop}
mutual
theorem zhF(I:Inv X pins σ H s):∀{v:V}{d:D}{u:Value}{p:PyData},Rp X.K kd O H v d->RelV v u->pyD d=some p->∃as,Reads s.heap u p as
 |_,_,u,p,.non,r,e=>by unfold pyD at e;cases e;cases r;exact⟨_,.none⟩
 |_,_,u,p,.bl b,r,e=>by unfold pyD at e;cases e;cases r;exact⟨_,.bool b⟩
 |_,_,u,p,.int i,r,e=>by unfold pyD at e;cases e;obtain⟨t,rfl⟩:=r;exact⟨_,.int i t⟩
 |_,_,u,p,.str x,r,e=>by unfold pyD at e;cases e;obtain⟨t,rfl⟩:=r;exact⟨_,.str x t⟩
 |_,_,u,p,.tup hn hr rl,r,e=>by
  unfold pyD at e
  obtain⟨ps,h1,h2⟩:=bS_ e
  cases h2
  cases r
  obtain⟨its,rv,⟨o,e1,c,n,dd⟩,_⟩:=I.tuple (.inl hr)
  obtain⟨as,ra⟩:=X5 I rl rv h1
  exact⟨_,.tuple e1 c dd (by simpa using ra)⟩
 |_,_,u,p,.tupK hk hc hd hz hv rl,r,e=>by
  unfold pyD at e
  obtain⟨ps,h1,h2⟩:=bS_ e
  cases h2
  cases r
  obtain⟨as,ra⟩:=X5 I rl hv h1
  exact⟨_,.tuple (I.kIn _ _ hk) hc hd ra⟩
 |_,_,u,p,.lst hn hr rl,r,e=>by
  unfold pyD at e
  obtain⟨ps,h1,h2⟩:=bS_ e
  cases h2
  cases r
  obtain⟨its,rv,⟨o,n,e1,c,_,dd⟩,_⟩:=I.list (.inl hr)
  obtain⟨as,ra⟩:=X5 I rl rv h1
  exact⟨_,.list e1 c dd (by simpa using ra)⟩
 |_,_,u,p,.lstK hk hz hv rl,r,e=>by
  unfold pyD at e
  obtain⟨ps,h1,h2⟩:=bS_ e
  cases h2
  cases r
  obtain⟨as,ra⟩:=X5 I rl hv h1
  exact⟨_,.list (I.kIn _ _ hk) rfl rfl ra⟩
 |_,_,u,p,.dct _ _ _,r,e=>by unfold pyD at e;cases e
 |_,_,u,p,.cl _,r,e=>by unfold pyD at e;cases e
 |_,_,u,p,.ob _ _ _ _,r,e=>by unfold pyD at e;cases e
 |_,_,u,p,.er _ _ _ _ _,r,e=>by unfold pyD at e;cases e
 |_,_,u,p,.dctK _ _,r,e=>by unfold pyD at e;cases e
theorem X5(I:Inv X pins σ H s):∀{vs:List V}{ds:List D}{us:List Value}{ps:List PyData},RpL X.K kd O H vs ds->Vals vs us->zfZ ds=some ps->∃as,ReadsAll s.heap us ps as
 |_,_,_,_,.nil,.nil,e=>by unfold zfZ at e;cases e;exact⟨_,.nil⟩
 |_,_,_,_,.cons a r,.cons b t,e=>by
  unfold zfZ at e
  obtain⟨p,h1,e⟩:=bS_ e
  obtain⟨ps,h2,e⟩:=bS_ e
  cases e
  obtain⟨as,x⟩:=zhF I a b h1
  obtain⟨bs,y⟩:=X5 I r t h2
  exact⟨_,.cons x y⟩
end
end
theorem zlq(sep:Str)(ys:List Str):Txt.join sep ys=Str.join sep ys:=StrLaws.glued_eq_join sep ys
section
variable{as:AS}{f a b:EF}{s t:Bool}{x y z:D}
theorem zqz{xs ys:List D}:slP (.lst (xs++ys)) none (some (xs.length:Int))=some (.fl xs):=by
 show some (R0.fl (cutD (xs++ys) none (some (xs.length:Int))))=_
 congr 2
 unfold cutD
 rw[HT.zoD,HT.zmd,zzG,Nat.min_eq_left (by omega),List.drop_zero,Nat.sub_zero,List.take_left]
end
section
variable{X:Cx}{kd:KD}{tg e:Expr}{fa:EF}
theorem znU{K:zC}{F B:Addr->Prop}{ad:Ad}{H:Hp}{v:V}{st q:Bool}{ds:List D}(rp:Rp K kd (Lv F B (Gw [] ad) st) H v (.lst ds))(hq:q=true->st=true):∃a vs,v = .ref a/\(∀(ad3:Ad) (H3:Hp),Grow (Gw [] ad) H (Gw [] ad3) H3->SqL K H3 a vs)/\RpL K kd (Lv F B (Gw [] ad) q) H vs ds:=by
 have le:∀a,Lv F B (Gw [] ad) q a->Lv F B (Gw [] ad) st a:=λa z=>z.imp (λy=>y.imp (λx=>⟨hq x.1,x.2⟩) id) id
 cases rp with
 |lst hn hr rl=>exact⟨_,_,rfl,λad3 H3 g3=>.inl (zaf g3 (λz=>hn (.inr z)) hr),rl.less le⟩
 |lstK a b c rl=>exact⟨_,_,rfl,λad3 H3 g3=>.inr ⟨_,_,_,a,rfl,rfl,rfl,b,c⟩,rl.less le⟩
end
def insI(x:Int):List Int->List Int
 | []=>[x]
 |y::r=>if x<=y then x::y::r else y::insI x r
def sortI:List Int->List Int
 | []=>[]
 |x::r=>insI x (sortI r)
theorem insI_perm(x:Int):∀l:List Int,(insI x l).Perm (x::l)
 | []=>List.Perm.refl _
 |y::r=>by
  unfold insI
  split
  · exact List.Perm.refl _
  · exact((insI_perm x r).cons y).trans (List.Perm.swap x y r)
theorem sortI_perm:∀l:List Int,(sortI l).Perm l
 | []=>List.Perm.refl _
 |x::r=>(insI_perm x (sortI r)).trans ((sortI_perm r).cons x)
theorem zcv(x:Int):∀l:List Int,l.Pairwise (· <= ·)->(insI x l).Pairwise (· <= ·)
 | [],_=>by simp[insI]
 |y::r,h=>by
  unfold insI
  rw[List.pairwise_cons]at h
  split
  · rename_i hxy
    rw[List.pairwise_cons,List.pairwise_cons]
    refine⟨λz hz=>?_,h⟩
    rcases zS.mp hz with rfl|hz
    · exact hxy
    · exact Int.le_trans hxy (h.1 z hz)
  · rename_i hxy
    rw[List.pairwise_cons]
    refine⟨λz hz=>?_,zcv x r h.2⟩
    rcases zS.mp ((insI_perm x r).mem_iff.mp hz)with rfl|hz
    · omega
    · exact h.1 z hz
theorem WM:∀l:List Int,(sortI l).Pairwise (· <= ·)
 | []=>List.Pairwise.nil
 |x::r=>zcv x _ (WM r)
theorem zeY:∀(a b:List Int),a.Perm b->a.Pairwise (· <= ·)->b.Pairwise (· <= ·)->a=b
 | [],b,p,_,_=>by rw[List.nil_perm]at p;exact p.symm
 |x::r,[],p,_,_=>by rw[List.perm_nil]at p;cases p
 |x::r,y::t,p,ha,hb=>by
  rw[List.pairwise_cons]at ha hb
  have hxy:x=y:=by
   have h1:x ∈ y::t:=p.mem_iff.mp (zzC ..)
   have h2:y ∈ x::r:=p.mem_iff.mpr (zzC ..)
   rcases zS.mp h1 with e|e
   · exact e
   · rcases zS.mp h2 with e'|e'
     · exact e'.symm
     · have:=hb.1 x e
       have:=ha.1 y e'
       omega
  subst hxy
  rw[zeY r t (List.Perm.cons_inv p) ha.2 hb.2]
theorem ints_of{K:zC}{kd:KD}{O:Addr->Prop}{H:Hp}{vs:List V}{us:List Value}{ds:List D}{ns:List Int}(h:RpL K kd O H vs ds)(hv:Vals vs us)(e:W0 ds=some ns):IntsAre us ns:=
 RpL.ind (P:=λvs ds=>∀us ns,Vals vs us->W0 ds=some ns->IntsAre us ns) (λus ns hv e=>by cases e;cases hv;exact .nil) (λ{v d vs ds} a _ ih us ns hv e=>by
  cases hv with
  |cons b t=>
   cases a with
   |int x=>
    obtain⟨ys,h1,h2⟩:=bS_ (show(W0 _).bind _=_ from e)
    cases h2
    obtain⟨tk,rfl⟩:=b
    exact .cons _ _ (ih _ _ t h1)
   |_=>cases e) h us ns hv e
theorem X7:∀{us:List Value}{ns:List Int},IntsAre us ns->Vals (ns.map V.int) us
 |_,_,.nil=>.nil
 |_,_,.cons n t r=>.cons ⟨t,rfl⟩ (X7 r)
theorem zhe{K:zC}{kd:KD}{O:Addr->Prop}{H:Hp}:∀ns:List Int,RpL K kd O H (ns.map V.int) (ns.map D.int)
 | []=>.nil
 |y::r=>.cons (.int y) (zhe r)
def zmK:List D->Option R0:=on1 λx=>(asL x).bind λds=>(W0 ds).bind λns=>if ns.length<64 then some (.fl ((sortI ns).map .int))else none
section
variable{X:Cx}{kd:KD}
theorem ziB:CallD X kd (.builtin "sorted") zmK:=by
 intro pins s σ H xs us Q I r h
 obtain⟨O,ds,z,ht,vl,he,q⟩:=h
 obtain⟨x,d,rfl,vx,he⟩:=zes vl he
 obtain⟨ds,h0,he2⟩:=bS_ (show(asL d).bind _=_ from he)
 cases zfX h0
 · obtain⟨ns,h1,he⟩:=bS_ he2
   obtain⟨hz,he⟩:=zO he
   cases he
   cases vx with
   |lst hr rl=>
    obtain⟨u,rfl,ru⟩:=vals1 r
    cases ru
    obtain⟨its,rv,pl,_⟩:=I.list hr.sq
    have hI:=ints_of rl rv h1
    have hl:=hI.length
    refine sorted_ints pl.isList hI (by omega) λout ns' a1 a2 a3=>?_
    have e:ns'=sortI ns:=zeY _ _ (a2.trans (sortI_perm ns).symm) a3 (WM ns)
    subst e
    obtain⟨ee,hob⟩:=sortedAll_at s.heap its out
    have hn:H (s.heap.objs.size+1)=none:=I.hok.fresh (zyU _)
    refine⟨.ref (s.heap.objs.size+1),_,I.laid (t':=s.toks) (λb o e=>sortedAll_old e) (zyU _) (show vR X.prog X.w _ _ _ (.lst ((sortI ns).map V.int))from⟨?_,out.toList,ee,X7 a1,by simpa[seqObj]using hob⟩),rfl,zck q (zhe _) _ hn⟩
    rw[zD,(sortI_perm ns).length_eq]
    exact Nat.le_of_lt (yN (by omega))
end
theorem zcK:∀{vs:List V}{us:List Value},vs.length=us.length->(∀(i:Nat) v u,vs[i]? = some v->us[i]? = some u->RelV v u)->Vals vs us
 | [],[],_,_=>.nil
 | [],_::_,h,_=>by simp at h
 |_::_,[],h,_=>by simp at h
 |v::vs,u::us,h,k=>.cons (k 0 v u rfl rfl) (zcK (by simpa using h) λi a b x y=>k (i+1) a b (by simpa using x) (by simpa using y))
section
variable{X:Cx}{tg:Expr}
def zrA(ta:TA):TE:=λσ H Q=>ta σ H λvs H1=>∃j:Int,vs=[.int j] /\ -(2 ^ 62)<=j/\j<2 ^ 62/\∀r,H1 r=none->Q (.ref r) (upd H1 r (.rng 0 j))
theorem znl{a:Expr}{ta:TA}{p pos:Pos}(hg:Gl X "range")(hm:X.mg "range"=none)(ha:PA X [a] ta)(hs:starEach [a] X.env=[(false,eval a X.env)]):PE X (.Call (.Name "range" p) [a] [] pos) (zrA ta):=by
 intro pins s σ H Q I h
 refine Call_ (zaY I hg hm boot_range (PyProof.Rows.callWith_type1 (thn (ha pos pins s σ H _ I h) λus s1 ⟨vs,H1,I1,r1,q1⟩=>?_) hs rfl))
 obtain⟨j,e,b1,b2,q⟩:=q1
 subst e
 cases r1 with
 |cons r rr=>
  cases rr
  obtain⟨t,rfl⟩:=r
  exact call_range_1 ⟨.ref s1.heap.objs.size,_,I1.laid (λb o e=>zxF _ e) (zzK _) (show vR X.prog X.w _ _ _ (.rng 0 j)from⟨_,_,_,zxH _ rfl⟩),rfl,q _ (I1.hok.fresh (zzK _))⟩
def tLR(ta:TA):TE:=λσ H Q=>zps (zrA ta) zsm σ H λvs H2=>∃r H1,∃j:Int,vs=[.ref r]/\H1 r=none/\H2=upd H1 r (.rng 0 j)/\0<=j/\j<=100000/\∀l,H2 l=none->Q (.ref l) (upd H2 l (.lst ((List.range j.toNat).map λ(i:Nat)=>V.int i)))
theorem zkp{a:Expr}{ta:TA}{p p' pos pos':Pos}(hc:X.calm=true)(hg:Gl X "range")(hm:X.mg "range"=none)(hgl:Gl X "list")(hml:X.mg "list"=none)(ha:PA X [a] ta)(hs:starEach [a] X.env=[(false,eval a X.env)])
 (hs':starEach [.Call (.Name "range" p) [a] [] pos] X.env=[(false,eval (.Call (.Name "range" p) [a] [] pos) X.env)]):PE X (.Call (.Name "list" p') [.Call (.Name "range" p) [a] [] pos] [] pos') (tLR ta):=by
 intro pins s σ H Q I h
 refine Call_ (zaY I hgl hml Bt.list (PyProof.Rows.callWith_type1 (thn ((Zy (znl hg hm ha hs) Vl hs') pos' pins s σ H (λvs H2=>∃r H1,∃j:Int,vs=[.ref r]/\H1 r=none/\H2=upd H1 r (.rng 0 j)/\0<=j/\j<=100000/\∀l,H2 l=none->Q (.ref l) (upd H2 l (.lst ((List.range j.toNat).map λ(i:Nat)=>V.int i)))) I ?_) λus s1 ⟨vs,H2,I2,r1,q1⟩=>?_) hs' rfl))
 · exact h
 obtain⟨r,H1,j,rfl,hn,rfl,h0,h1,q⟩:=q1
 cases r1 with
 |cons rr rs=>
  cases rs
  cases rr
  obtain⟨t,u,v,ho⟩:=I2.hok r _ (zU ..)
  have hsz:Builtin.Range.rangeSize 0 j 1=(j.toNat:Nat):=by rw[rangeSize_one];split<;>omega
  refine call_list_range (I2.ok.hd hc) ho (small_one (by omega) (by omega) (by omega) (by omega)) (n:=j.toNat) (by exact_mod_cast hsz) (by omega) λh' tk acc c' hk hob hit=>?_
  refine⟨.ref s1.heap.objs.size,_,I2.laid hk (zzK _) (show vR X.prog X.w _ _ _ (.lst ((List.range j.toNat).map λ(i:Nat)=>V.int i))from⟨?_,acc.toList,c', ?_,by simpa using hob⟩),rfl,q _ (I2.hok.fresh (zzK _))⟩
  · rw[zD,zyR];exact zzL (show j.toNat<=100000 by omega) (by decide)
  · refine zcK (by rw[zD,zyR];simpa using hit.1.symm) λi x y hx hy=>?_
    rw[zzF]at hx
    obtain⟨tk',e⟩:=hit.2 i y (by simpa using hy)
    cases hr:(List.range j.toNat)[i]? with
    |none=>rw[hr]at hx;cases hx
    |some k=>
     rw[hr]at hx
     obtain⟨_,hk'⟩:=zzD.mp hr
     rw[List.getElem_range]at hk'
     subst hk'
     cases hx
     exact⟨tk',by rw[e];simp⟩
end
section
variable{X:Cx}{kd:KD}
def lrP:List D->Option R0
 | [.int j]=>if 0<=j/\j<=100000 then some (.fl ((List.range j.toNat).map λ(i:Nat)=>.int i))else none
 |_=>none
theorem zjw{K:zC}{O:Addr->Prop}{H:Hp}:∀l:List Nat,RpL K kd O H (l.map λ(i:Nat)=>V.int i) (l.map λ(i:Nat)=>D.int i)
 | []=>.nil
 |y::r=>.cons (.int y) (zjw r)
theorem zkg{a:Expr}{fr:AF}{p p' pos pos':Pos}(hc:X.calm=true)(hg:Gl X "range")(hm:X.mg "range"=none)(hgl:Gl X "list")(hml:X.mg "list"=none)(ha:AA X kd [a] fr)(hs:starEach [a] X.env=[(false,eval a X.env)])
 (hs':starEach [.Call (.Name "range" p) [a] [] pos] X.env=[(false,eval (.Call (.Name "range" p) [a] [] pos) X.env)]):AE X kd (.Call (.Name "list" p') [.Call (.Name "range" p) [a] [] pos] [] pos') (fP fr lrP):=by
 with_unfolding_all exact(yX (zkp hc hg hm hgl hml ha hs hs') λσ H Q h=>by
  obtain⟨F,B,ad,as,r,as',R,e,q⟩:=h
  obtain⟨⟨rs,as1⟩,h1,e⟩:=bS_ (show(fr as).bind _=_ from e)
  obtain⟨⟨ds,lv⟩,h2,e⟩:=bS_ e
  obtain⟨r0,h3,e⟩:=bS_ e
  obtain⟨z,h4,e⟩:=bS_ e
  cases e
  match ds,h3,h2 with
  | [.int j],h3,h2=>
   obtain⟨⟨b1,b2⟩,e3⟩:=zO (show(if 0<=j/\j<=100000 then some (R0.fl ((List.range j.toNat).map λ(i:Nat)=>.int i))else none)=some r0 from h3)
   cases e3
   refine(show alA X.K kd fr σ H _ from⟨F,B,ad,as,rs,as1,R,h1,λvs ad1 H1 R1 rv1 g1=>?_⟩)
   have vl:=zal R1 rv1 h2
   have rq:=WL R1 h4 (Q:=Q) λw T' H' R' rv' g'=>q w T' ad1 H' R' rv' (g1.trans g')
   cases vl with
   |cons v1 v2=>
    cases v2
    cases v1
    refine⟨j,rfl,by omega,by omega,λr hr=>⟨r,H1,j,rfl,hr,rfl,b1,b2,λl hl=>?_⟩⟩
    have hlr:l≠r:=λe=>by rw[e,zU]at hl;cases hl
    have hl1:H1 l=none:=by rw[zM hlr]at hl;exact hl
    exact rq l _ _ hl1 (λb o q=>Vt hl b o (Vt hr b o q)) zU (zjw _))
end
def Ws(n:Nat)(os:List O):AS:=os.map some++List.replicate (n-os.length) none
theorem zjB{L:Bool->V->D->Prop}{N:Addr->Prop}{H:Hp}:∀(ls:List O) {vs:List V}{fp:List Addr},ls.all O.isLf=true->RoL L N H vs ls fp->fp=[]
 | [],_,_,_,r=>by cases r;rfl
 |o::ls,_,_,h,r=>by
  rw[List.all_cons,zzZ]at h
  cases r with
  |cons a r=>
   cases a with
   |lf _=>rw[zjB ls h.2 r];rfl
   |_=>exact absurd h.1 (by simp[O.isLf])
theorem zfA{L:Bool->V->D->Prop}{N:Addr->Prop}{H:Hp}{vs:List V}{ls:List O}{fp:List Addr}(h:RoL L N H vs ls fp):vs.length=ls.length:=RoL.length h
theorem zjo{L:Bool->V->D->Prop}{N:Addr->Prop}{H:Hp}:∀(ls:List O) {vs:List V}{fp:List Addr}{i:Nat}{o:O},ls.all O.isLf=true->RoL L N H vs ls fp->ls[i]? = some o->∃v,vs[i]? = some v/\Ro L N H v o []
 | [],_,_,_,_,_,_,e=>by simp at e
 |o'::ls,_,_,i,o,h,r,e=>by
  rw[List.all_cons,zzZ]at h
  cases r with
  |cons a r=>
   cases i with
   |zero=>
    simp at e
    subst e
    cases a with
    |lf z=>exact⟨_,rfl,.lf z⟩
    |_=>exact absurd h.1 (by simp[O.isLf])
   |succ i=>
    obtain⟨v,h1,h2⟩:=zjo ls (i:=i) h.2 r (by simpa using e)
    exact⟨v,by simpa using h1,h2⟩
theorem zdW{K:zC}{kd:KD}{F:Addr->Prop}{T:List Addr}{H:Hp}{N:List Str}{vs:List V}{o:O}{ls:List O}(ht:∀a,F a->H a≠none)(hn:T.Nodup)(hT:∀a ∈ T,H a≠none/\¬F a)(hl:ls.all O.isLf=true)(hN:(o::ls).length<=N.length)(ro:vA K kd F (λ_=>False) (· ∈ T) H vs (o::ls) T):
 Rel K kd F (λ_=>False) [] (λi=>if i=0 then T else[]) (Ws N.length (o::ls)) (L2.start N vs) H:=by
 have hlen:=zfA ro
 have gw:∀a,Gw [] (λi=>if i=0 then T else[]) a ↔ a ∈ T:=λa=>⟨λz=>z.elim (λy=>nomatch y) λ⟨i,y⟩=>by
  by_cases e:i=0
  · subst e;simpa using y
  · simp[e]at y,λz=>.inr ⟨0,by simpa using z⟩⟩
 have lv:∀st a,Lv F (λ_=>False) (Gw [] (λi=>if i=0 then T else[])) st a->Lv F (λ_=>False) (· ∈ T) st a:=λst a z=>z.imp id (gw a).mp
 refine⟨by unfold Ws L2.start;simp[hlen];omega,λi hi=>?_,λi=>?_,λi j a x y=>?_,zyG,(λ_ _ _ z=>nomatch z),ht,(λ_ z=>z.elim),λa z=>hT a ((gw a).mp z),λi s e=>?_⟩
 · have:i≠0:=λz=>by subst z;unfold Ws at hi;simp at hi
   simp[this]
 · by_cases e:i=0
   · subst e;simpa using hn
   · simp[e]
 · have h1:i=0:=by
    by_cases e:i=0
    · exact e
    · simp[e]at x
   have h2:j=0:=by
    by_cases e:j=0
    · exact e
    · simp[e]at y
   rw[h1,h2]
 · unfold Ws at e
   unfold L2.start
   by_cases hi:i<(o::ls).length
   · rw[zyM (by rw[zD];exact hi),zzF]at e
     obtain⟨d,hd,ea⟩:=zzU.mp e
     subst ea
     rw[zyM (by rw[zD,hlen];exact hi),zzF]
     cases ro with
     |cons a r=>
      rename_i v vs' fp fq
      have e0:fq=[]:=zjB ls hl r
      subst e0
      cases i with
      |zero=>
       simp at hd
       subst hd
       exact⟨v,rfl,by simpa using RoS.lv lv a⟩
      |succ i=>
       obtain⟨w,h1,h2⟩:=zjo ls hl r (show ls[i]? = some d by simpa using hd)
       exact⟨w,by simp[h1],by simpa using RoS.lv lv h2⟩
   · rw[zyO (by rw[zD];omega)]at e
     have:=zzX e
     have ea:s=none:=(List.mem_replicate.mp this).2
     subst ea
     have hi0:i≠0:=λz=>by subst z;exact hi (by simp)
     show(if i=0 then T else[])=[]
     rw[if_neg hi0]
def zjV(i:Nat)(f:SF):SF:=λas=>match as[i]? with
 |some (some o)=>f (as.set i (some o.frz))
 |_=>none
theorem zmh{K:zC}{kd:KD}{F B:Addr->Prop}{ad:Ad}{i:Nat}{H:Hp}{D:Ends}:∀{o:Out},zfv K kd F B ad H D o->zfv K kd F B (vp ad i []) H D o
 | .nx _,q=>λσ' ad' H' R g=>q σ' ad' H' R ((Grow.less xT).trans g)
 | .ct _,q=>λσ' ad' H' R g=>q σ' ad' H' R ((Grow.less xT).trans g)
 | .bk _,q=>λσ' ad' H' R g=>q σ' ad' H' R ((Grow.less xT).trans g)
 | .rt _,q=>λv T H' ro g=>q v T H' ro ((Grow.less xT).trans g)
theorem zoa{X:Cx}{kd:KD}{i:Nat}{body:List Stmt}{f:SF}(h:ASs X kd body f):ASs X kd body (zjV i f):=by
 with_unfolding_all exact(zbi h λD σ H h=>by
  obtain⟨F,B,ad,as,o,R,e,q⟩:=h
  unfold zjV at e
  cases k:as[i]? with
  |none=>rw[k]at e;cases e
  |some s=>
   rw[k]at e
   cases s with
   |none=>cases e
   |some oo=>
    exact⟨F,B,vp ad i [],_,o,(R.frz k).1,e,zmh q⟩)
theorem zoH{H:Hp}{l:Addr}{u w:HO}:upd (upd H l u) l w=upd H l w:=by
 funext a
 by_cases e:a=l
 · subst e;rw[zU,zU]
 · rw[zM e,zM e,zM e]
section
variable{K:zC}{kd:KD}{F B G:Addr->Prop}{H:Hp}
theorem zbz{p:Addr}{u:HO}(hp:G p):Grow G H G (upd H p u):=⟨λb w h n=>by rw[zM (λe=>n (by subst e;exact hp))];exact h,λb z=>.inl z⟩
theorem zfC:∀(os:List O) {vs:List V}{fp:List Addr}{n:Nat}{o:O},vA K kd F B G H vs os fp->fp.Nodup->(∀a ∈ fp,G a)->os[n]? = some o->
 ∃v f,vs[n]? = some v/\RoS K kd F B G H v o f/\f.Nodup/\(∀a ∈ f,a ∈ fp)/\∀(p:Addr) (u:HO) (o':O),p ∈ f->RoS K kd F B G (upd H p u) v o' f->vA K kd F B G (upd H p u) vs (os.set n o') fp
 | [],_,_,_,_,_,_,_,e=>by simp at e
 |o1::os,_,_,n,o,r,hn,hG,e=>by
  cases r with
  |cons a r=>
   rename_i v vs fp fq
   obtain⟨n1,n2,n3⟩:=zxC.mp hn
   cases n with
   |zero=>
    simp at e
    subst e
    exact⟨v,fp,rfl,a,n1,λx m=>zzM _ m,λp u o' hp ro=>.cons ro (vA.grow (zbz (hG p (zzM _ hp))) (λx m w h=>by rw[zM (λe=>n3 p hp x m e.symm)];exact h) r)⟩
   |succ n=>
    obtain⟨v',f,h1,h2,h3,h4,h5⟩:=zfC os (n:=n) (o:=o) r n2 (λx m=>hG x (zzI _ m)) (by simpa using e)
    exact⟨v',f,by simpa using h1,h2,h3,λx m=>zzI _ (h4 x m),λp u o' hp ro=>.cons (RoS.grow (zbz (hG p (zzI _ (h4 p hp)))) (λx m w h=>by rw[zM (λe=>n3 x m p (h4 p hp) e)];exact h) a) (h5 p u o' hp ro)⟩
theorem zfc{L:Bool->V->D->Prop}{N:Addr->Prop}{v:V}{st':Bool}{d':D}(h:L st' v d'):∀(os:List O) {vs:List V}{fp:List Addr}{n:Nat}{st:Bool}{d:D},RoL L N H vs os fp->os[n]? = some (.lf st d)->RoL L N H (vs.set n v) (os.set n (.lf st' d')) fp
 | [],_,_,_,_,_,_,e=>by simp at e
 |o1::os,_,_,n,st,d,r,e=>by
  cases r with
  |cons a r=>
   cases n with
   |zero=>
    simp at e
    subst e
    cases a with
    |lf _=>exact .cons (.lf h) r
   |succ n=>exact .cons a (zfc h os (n:=n) (st:=st) (d:=d) r (by simpa using e))
theorem ziW{v:V}{inner:List O}{fp:List Addr}{n:Nat}{st:Bool}{d:D}(c:Int)(r:RoS K kd F B G H v (.nd .ls inner) fp)(hn:fp.Nodup)(hG:∀a ∈ fp,G a)(e:inner[n]? = some (.lf st d)):
 ∃p ivs,v = .ref p/\p ∈ fp/\H p=some (.lst ivs)/\n<ivs.length/\RoS K kd F B G (upd H p (.lst (ivs.set n (.int c)))) v (.nd .ls (inner.set n (.lf true (.int c)))) fp:=by
 cases r with
 |ls hp ir=>
  rename_i p ivs ifp
  have hpfp:p ∉ ifp:=(zzT.mp hn).1
  refine⟨p,ivs,rfl,zzC ..,hp,by rw[zfA ir];exact(zzD.mp e).1,.ls zU (zfc (.int c) inner (vA.grow (zbz (hG p (zzC ..))) (λx m w h=>by rw[zM (λe=>hpfp (by subst e;exact m))];exact h) ir) e)⟩
theorem zhJ{v:V}{os:List O}{fp:List Addr}{n:Nat}{o:O}(r:RoS K kd F B G H v (.nd .ls os) fp)(hn:fp.Nodup)(hG:∀a ∈ fp,G a)(e:os[n]? = some o):
 ∃l vs w f,v = .ref l/\H l=some (.lst vs)/\vs[n]? = some w/\RoS K kd F B G H w o f/\f.Nodup/\(∀a ∈ f,a ∈ fp)/\∀(p:Addr) (u:HO) (o':O),p ∈ f->RoS K kd F B G (upd H p u) w o' f->RoS K kd F B G (upd H p u) v (.nd .ls (os.set n o')) fp:=by
 cases r with
 |ls hp ir=>
  rename_i l vs ifp
  obtain⟨w,f,h1,h2,h3,h4,h5⟩:=zfC os ir (zzT.mp hn).2 (λa m=>hG a (zzA _ m)) e
  exact⟨l,vs,w,f,rfl,hp,h1,h2,h3,λa m=>zzA _ (h4 a m),λp u o' hpf ro=>.ls (by rw[zM (λe=>(zzT.mp hn).1 (by rw[e];exact h4 p hpf))];exact hp) (h5 p u o' hpf ro)⟩
theorem zpx{v:V}{os:List O}{fp:List Addr}{n:Nat}{o:O}(r:RoS K kd F B G H v (.nd .tp os) fp)(hn:fp.Nodup)(hG:∀a ∈ fp,G a)(e:os[n]? = some o):
 ∃l vs w f,v = .ref l/\H l=some (.tup vs)/\vs[n]? = some w/\RoS K kd F B G H w o f/\f.Nodup/\(∀a ∈ f,a ∈ fp)/\∀(p:Addr) (u:HO) (o':O),p ∈ f->RoS K kd F B G (upd H p u) w o' f->RoS K kd F B G (upd H p u) v (.nd .tp (os.set n o')) fp:=by
 cases r with
 |tp hN hp ir=>
  rename_i l vs
  obtain⟨w,f,h1,h2,h3,h4,h5⟩:=zfC os ir hn hG e
  exact⟨l,vs,w,f,rfl,hp,h1,h2,h3,h4,λp u o' hpf ro=>.tp hN (by rw[zM (λe=>hN (.inr (by rw[e];exact hG p (h4 p hpf))))];exact hp) (h5 p u o' hpf ro)⟩
end
section
variable{K:zC}{kd:KD}{F B:Addr->Prop}{ad:Ad}{as:AS}{σ:St}{H:Hp}{i:Nat}{o:O}
theorem Rel.slotU(R:Rel K kd F B [] ad as σ H)(k:as[i]? = some (some o)):
 ∃v,σ[i]? = some (some v)/\RoS K kd F B (Gw [] ad) H v o (ad i)/\(ad i).Nodup/\(∀a ∈ ad i,Gw [] ad a)/\
  ∀(p:Addr) (u:HO) (o':O),p ∈ ad i->RoS K kd F B (Gw [] ad) (upd H p u) v o' (ad i)->Rel K kd F B [] ad (as.set i (some o')) σ (upd H p u)/\Grow (Gw [] ad) H (Gw [] ad) (upd H p u):=by
 obtain⟨v,hv,ro⟩:=R.sl i _ k
 have hi:i<as.length:=(zzD.mp k).1
 refine⟨v,hv,ro,R.nd i,λa m=>.inr ⟨i,m⟩,λp u o' hp ro'=>?_⟩
 have g:Grow (Gw [] ad) H (Gw [] ad) (upd H p u):=zbz (.inr ⟨i,hp⟩)
 have kn:∀a,H a≠none->upd H p u a≠none:=λa z=>by
  by_cases e:a=p
  · subst e;rw[zU];simp
  · rw[zM e];exact z
 refine⟨⟨by rw[zzR];exact R.len,λj hj=>R.out j (by rw[zzR]at hj;exact hj),R.nd,R.inj,R.tnd,R.dis,λa z=>kn a (R.ftr a z),λa z=>⟨kn a (R.btr a z).1,(R.btr a z).2⟩,λa z=>⟨kn a (R.gtr a z).1,(R.gtr a z).2⟩,λj s e=>?_⟩,g⟩
 by_cases q:j=i
 · subst q
   rw[zyH hi]at e
   cases e
   exact⟨v,hv,ro'⟩
 · rw[zzV (Ne.symm q)]at e
   exact(R.sl j s e).grow g λa m u h=>by rw[zM (λe=>q (R.inj j i a m (by rw[e];exact hp)))];exact h
end
abbrev IXF:=AS->Option Int
def tSt(K:zC)(kd:KD)(f:IXF):TE:=λσ H Q=>∃F B ad as k,Rel K kd F B [] ad as σ H/\f as=some k/\Q (.int k) H
@[irreducible] def AK(X:Cx)(kd:KD)(e:Expr)(f:IXF):Prop:=PE X e (tSt X.K kd f)
def xC(c:Int):IXF:=λ_=>some c
def zaq:O->Option (List O)
 | .nd .ls os=>some os
 |_=>none
def znM:O->Option (List O)
 | .nd .tp os=>some os
 |_=>none
def zcm:O->Option D
 | .lf _ d=>some d
 |_=>none
def atO{α:Type}(f:O->Option α)(os:List O)(k:Nat):Option α:=os[k]?.bind f
def slO{α:Type}(f:O->Option α)(as:AS)(i:Nat):Option α:=as[i]?.bind λs=>s.bind f
theorem zjG{o:O}{os:List O}(h:zaq o=some os):o = .nd .ls os:=by
 cases o with
 |lf s d=>cases h
 |nd k os=>cases k<;>cases h;rfl
theorem zoR{o:O}{os:List O}(h:znM o=some os):o = .nd .tp os:=by
 cases o with
 |lf s d=>cases h
 |nd k os=>cases k<;>cases h;rfl
theorem zjc{o:O}{d:D}(h:zcm o=some d):∃st,o = .lf st d:=by
 cases o with
 |lf s d=>cases h;exact⟨s,rfl⟩
 |nd k os=>cases h
theorem zhM{α:Type}{f:O->Option α}{os:List O}{k:Nat}{a:α}(h:atO f os k=some a):∃o,os[k]? = some o/\f o=some a:=bS_ h
theorem zni{α:Type}{f:O->Option α}{as:AS}{k:Nat}{a:α}(h:slO f as k=some a):∃o,as[k]? = some (some o)/\f o=some a:=by
 obtain⟨s,h1,h⟩:=bS_ h
 obtain⟨o,rfl,h⟩:=bS_ h
 exact⟨o,h1,h⟩
theorem zrv{os inner:List O}{k:Nat}(h:atO zaq os k=some inner):os[k]? = some (.nd .ls inner):=by
 obtain⟨o,h1,h⟩:=zhM h
 cases zjG h
 exact h1
theorem zsQ{os inner:List O}{k:Nat}(h:atO znM os k=some inner):os[k]? = some (.nd .tp inner):=by
 obtain⟨o,h1,h⟩:=zhM h
 cases zoR h
 exact h1
theorem zsD{os:List O}{d:D}{k:Nat}(h:atO zcm os k=some d):∃st,os[k]? = some (.lf st d):=by
 obtain⟨o,h1,h⟩:=zhM h
 obtain⟨st,rfl⟩:=zjc h
 exact⟨st,h1⟩
theorem zqH{as:AS}{inner:List O}{k:Nat}(h:slO zaq as k=some inner):as[k]? = some (some (.nd .ls inner)):=by
 obtain⟨o,h1,h⟩:=zni h
 cases zjG h
 exact h1
theorem zrX{as:AS}{d:D}{k:Nat}(h:slO zcm as k=some d):∃st,as[k]? = some (some (.lf st d)):=by
 obtain⟨o,h1,h⟩:=zni h
 obtain⟨st,rfl⟩:=zjc h
 exact⟨st,h1⟩
theorem zab{α:Type}{f:O->Option α}{os:List O}{k:Nat}{o:O}{a:α}(h:os[k]? = some o)(e:f o=some a):atO f os k=some a:=by unfold atO;rw[h];exact e
theorem zdj{α:Type}{f:O->Option α}{as:AS}{k:Nat}{o:O}{a:α}(h:as[k]? = some (some o))(e:f o=some a):slO f as k=some a:=by unfold slO;rw[h];exact e
def xV(i:Nat):IXF:=λas=>(slO zcm as i).bind asI
def xAt(i:Nat)(f:IXF):IXF:=λas=>(f as).bind λk=>if 0<=k then(slO zcm as i).bind λd=>(asL d).bind λds=>ds[k.toNat]?.bind asI else none
def zhG(f g:IXF):IXF:=λas=>(f as).bind λa=>(g as).bind λb=>if 0<b then some (a%b)else none
def zhZ(f g:IXF):IXF:=λas=>(f as).bind λa=>(g as).bind λb=>if 0<b/\b<1073741824 then some (a/b)else none
def zkt(i:Nat):IXF:=λas=>(slO zaq as i).bind λos=>some (os.length:Int)
section
variable{X:Cx}{kd:KD}{f g:IXF}{a b:Expr}
theorem zlJ{c:Int}{j pos}:AK X kd (.Constant (.int c) j pos) (xC c):=by
 with_unfolding_all exact(yX zir λσ H Q h=>by
  obtain⟨F,B,ad,as,k,R,e,q⟩:=h
  cases e
  exact q)
theorem ZS{i:Nat}{x:Str}{p:Pos}(hv:PE X (.Name x p) (zcn i)):AK X kd (.Name x p) (xV i):=by
 with_unfolding_all exact(yX hv λσ H Q h=>by
  obtain⟨F,B,ad,as,k,R,e,q⟩:=h
  obtain⟨d,e1,e⟩:=bS_ (show(slO zcm as i).bind _=_ from e)
  cases zgE e
  obtain⟨st,k1⟩:=zrX e1
  obtain⟨v,hv,ro⟩:=R.sl i _ k1
  generalize ad i=fp at ro
  cases ro with
  |lf rp=>cases rp;exact⟨_,hv,q⟩)
theorem zgM{i:Nat}{x:Str}{p pos:Pos}(hv:PE X (.Name x p) (zcn i))(hb:AK X kd b f)(hs:Y6 b):AK X kd (.Subscript (.Name x p) b pos) (xAt i f):=by
 with_unfolding_all exact(yX (zfe zby hv hb hs) λσ H Q h=>by
  obtain⟨F,B,ad,as,c,R,e,q⟩:=h
  obtain⟨k,h1,e⟩:=bS_ (show(f as).bind _=_ from e)
  obtain⟨hk,e⟩:=ite_some' e
  obtain⟨d0,e1,e3⟩:=bS_ e
  obtain⟨ds,e2,e4⟩:=bS_ e3
  obtain⟨d,k2,e5⟩:=bS_ e4
  cases zfX e2
  cases zgE e5
  obtain⟨st,k1⟩:=zrX e1
  obtain⟨v,hv,ro⟩:=R.sl i _ k1
  generalize ad i=fp at ro
  cases ro with
  |lf rp=>
   obtain⟨l,vs,rfl,hq,rl⟩:=znU (ad:=ad) (q:=st) rp (λz=>z)
   obtain⟨w,hw,rw'⟩:=rl.get k2
   cases rw'
   refine⟨_,hv,F,B,ad,as,k,R,h1,l,vs,k,_,rfl,rfl,hq ad H Grow.refl, ?_,q⟩
   have:=Wy hw
   rw[zyW hk]at this
   exact this)
theorem zlU{pos:Pos}(ha:AK X kd a f)(hb:AK X kd b g):AK X kd (.BinOp a .Mod b pos) (zhG f g):=by
 with_unfolding_all exact(yX (zmG zma ha hb) λσ H Q h=>by
  obtain⟨F,B,ad,as,c,R,e,q⟩:=h
  obtain⟨m,h1,e⟩:=bS_ (show(f as).bind _=_ from e)
  obtain⟨n,h2,e⟩:=bS_ e
  obtain⟨hn,e⟩:=zO e
  cases e
  exact⟨F,B,ad,as,m,R,h1,F,B,ad,as,n,R,h2,m,n,rfl,rfl,hn,q⟩)
theorem zmR{pos:Pos}(ha:AK X kd a f)(hb:AK X kd b g):AK X kd (.BinOp a .FloorDiv b pos) (zhZ f g):=by
 with_unfolding_all exact(yX (zmG znH ha hb) λσ H Q h=>by
  obtain⟨F,B,ad,as,c,R,e,q⟩:=h
  obtain⟨m,h1,e⟩:=bS_ (show(f as).bind _=_ from e)
  obtain⟨n,h2,e⟩:=bS_ e
  obtain⟨hn,e⟩:=zO e
  cases e
  exact⟨F,B,ad,as,m,R,h1,F,B,ad,as,n,R,h2,m,n,rfl,rfl,hn,q⟩)
theorem zpJ{i:Nat}{x:Str}{p p0 pos:Pos}(hg:Gl X "len")(hm:X.mg "len"=none)(hb:bootBuiltins "len"=some (.builtin "len"))(hv:PE X (.Name x p) (zcn i))(hst:starEach [.Name x p] X.env=(false,eval (.Name x p) X.env)::starEach [] X.env)(hpl:(backTo pos (starEach [] X.env)).any (·.1)=false):AK X kd (.Call (.Name "len" p0) [.Name x p] [] pos) (zkt i):=by
 with_unfolding_all exact(yX (zbI Ww hg hm hb (Zy hv Vl hst) (by decide) (by decide) hst hpl) λσ H Q h=>by
  obtain⟨F,B,ad,as,c,R,e,q⟩:=h
  obtain⟨os,e1,e⟩:=bS_ (show(slO zaq as i).bind _=_ from e)
  cases e
  obtain⟨v,hv,ro⟩:=R.sl i _ (zqH e1)
  generalize ad i=fp at ro
  cases ro with
  |ls hH rl=>
   rename_i l vs fp
   refine⟨_,hv,l,vs,rfl,.inl (.inl (.inl hH)), ?_⟩
   rw[zfA rl]
   exact q)
end
def Vd(i:Nat)(f1 f2 fv:IXF):SF:=λas=>(f1 as).bind λk1=>(f2 as).bind λk2=>(fv as).bind λc=>if 0<=k1/\0<=k2 then(slO zaq as i).bind λos=>(atO zaq os k1.toNat).bind λinner=>(atO zcm inner k2.toNat).bind λ_=>some (.nx (as.set i (some (.nd .ls (os.set k1.toNat (.nd .ls (inner.set k2.toNat (.lf true (.int c)))))))))else none
def noS(as:AS)(y:Nat):Bool:=match as[y]? with
 |some none=>true
 |_=>false
theorem zlx{as:AS}{y:Nat}(h:noS as y=true):as[y]? = some none:=by
 unfold noS at h
 cases k:as[y]? with
 |none=>rw[k]at h;cases h
 |some s=>
  cases s with
  |none=>rfl
  |some _=>rw[k]at h;cases h
theorem zob{n j:Nat}(h:j<n):ixN n (j:Int)=some j:=by
 unfold ixN
 rw[if_pos (by omega),if_pos (by omega)];simp
theorem zjn{n:Nat}{k:Int}(h0:0<=k)(h:k.toNat<n):ixN n k=some k.toNat:=by
 have:=zob h
 rw[show((k.toNat:Nat):Int)=k by omega]at this
 exact this
theorem zgm{α:Type}{xs:List α}{k:Int}{v:α}(h0:0<=k)(h:xs[k.toNat]? = some v):atI xs k=some v:=by
 have:=Wy h
 rw[show((k.toNat:Nat):Int)=k by omega]at this
 exact this
section
variable{X:Cx}{kd:KD}{f f1 f2 f3 fv:IXF}{e1 e2 e3 ev:Expr}{i y:Nat}
theorem zgc{x:Str}{p p1 tpos pos:Pos}(ho:PE X (.Name x p) (zcn i))(h1:AK X kd e1 f1)(hp1:Y6 e1)(h2:AK X kd e2 f2)(hv:AK X kd ev fv)
 (ha:∀v,assign (.Subscript (.Subscript (.Name x p) e1 p1) e2 tpos) X.env v=(do
  let ov <-holding [v] (eval (.Subscript (.Name x p) e1 p1) X.env)
  let iv <-holding [v,ov] (eval e2 X.env)
  standAt tpos
  holding [v,ov,iv] (setItem ov iv v)
  release [v,ov,iv] []))
 (hs:swapsWithSole [.Subscript (.Subscript (.Name x p) e1 p1) e2 tpos] ev pos.line X.env=pure false) (hw:swappedStores [.Subscript (.Subscript (.Name x p) e1 p1) e2 tpos] ev X.env=pure none)
 (hm:(assignEach [.Subscript (.Subscript (.Name x p) e1 p1) e2 tpos] X.env).map (·.2)=[assign (.Subscript (.Subscript (.Name x p) e1 p1) e2 tpos) X.env]):
 ASt X kd (.Assign [.Subscript (.Subscript (.Name x p) e1 p1) e2 tpos] ev pos) (Vd i f1 f2 fv):=by
 with_unfolding_all exact(Zi (zfU hv (zmO (zfe zby ho h1 hp1) h2 set_list ha) hs hw hm) λD σ H h=>by
  obtain⟨F,B,ad,as,o,R,e,q⟩:=h
  obtain⟨n1,j1,e⟩:=bS_ (show(f1 as).bind _=_ from e)
  obtain⟨n2,j2,e⟩:=bS_ e
  obtain⟨c,j3,e⟩:=bS_ e
  obtain⟨⟨hk1,hk2⟩,e⟩:=ite_some' e
  obtain⟨os,e1,e⟩:=bS_ e
  obtain⟨inner,e2,e⟩:=bS_ e
  obtain⟨d,e3,e⟩:=bS_ e
  have k1:=zqH e1
  have k2:=zrv e2
  obtain⟨st,k3⟩:=zsD e3
  cases e
  obtain⟨v,sv,ro,hn,hG,up⟩:=R.slotU k1
  obtain⟨l,vs,w,fw,rfl,hH,hvs,rw1,fn,fs,up1⟩:=zhJ ro hn hG k2
  obtain⟨p,ivs,rfl,hp,hHp,hl,ro'⟩:=ziW c rw1 fn (λa m=>hG a (fs a m)) k3
  obtain⟨R2,g2⟩:=up p _ _ (fs p hp) (up1 p _ _ hp ro')
  exact⟨F,B,ad,as,c,R,j3,_,sv,F,B,ad,as,n1,R,j1,l,vs,n1,_,rfl,rfl,.inl (.inl hH),zgm hk1 hvs,F,B,ad,as,n2,R,j2,p,ivs,n2,n2.toNat,rfl,rfl,hHp,zjn hk2 hl,q σ ad _ R2 g2⟩)
end
theorem zgo:typeLookup (.type "list") "keys"=pure none:=am_miss_of_fast (by decide +kernel)
theorem ziF{prog:Program}{w:World}{A:Around}{E:Value->Shared->Prop}{s:Shared}{a:Addr}{o:Obj}{xs:Array Value}{k:Nat}{Q:Option Value->Shared->Prop}
 (hx:s.heap.get? a=some o) (hc:o.cls = .type "list") (hdat:o.data = .seq xs k) (hd:o.dict=none) (hA:A.handled=none)
 (h:∀h' tk,(∀b o,s.heap.get? b=some o->h'.get? b=some o)->Q none {s with heap:=h',toks:=tk}):
 wpAny (model prog w) A (getAttr? (.ref a) "keys") Q E s:=by
 obtain⟨c,dct,dat,sl⟩:=o
 simp only at hc hdat hd
 subst hc hdat hd
 obtain⟨hp,g,d,tk,os⟩:=s
 have hT:∀tk',(⟨hp,g,d,tk',os⟩:Shared).TypeIs (.ref a) "list":=λ_=>⟨_,hx,rfl⟩
 have f1:=sub_AttributeError
 have f3:=F.slot_list_getattribute.lookup
 have f4:=F.slot_list_getattribute.bind (.ref a)
 have f5:=am_list_getattr_none
 unfold getAttr? getAttrBy? getAttrBy
 repeat (any_goals (first|assumption|exact hT _|((with_reducible show wpAny _ _ (call (Value.builtin "list.__getattribute__") _ _) _ _ _);refine call_meets F.slot_list_getattribute (hT _) am_entry_list_getattribute (F.args_list_getattribute_2 _ _) (meets_getattribute_miss_list a xs k sl "keys" _ zgo (by decide +kernel)) ⟨hx,hA,λh' tk' e hx'=>?_⟩)|wp_step))
 obtain⟨t',u',he⟩:=hx'.there
 show wpAny _ _ (getattributeRaised _ _ _ _ _ _ _) _ _ _
 unfold getattributeRaised
 repeat (any_goals (first|assumption|wp_step))
 exact h _ _ hx'.keeps
theorem ZM:plainId "dict.update.loop"=true:=by decide +kernel
theorem Vx:entryFor table "dict.update.loop"=some Builtin.«dict.update.loop» := entryFor_of_fast (by kernel_rfl)
section
variable{prog:Program}{w:World}{κ:Type}[DecidableEq κ]{knd:KeyKind prog w κ}{A:Around}{R:Result->Shared->Prop}{d I l:Addr}{items:Array Value}{N:Nat}
def putAll(kvs:List (κ×Value)):List (κ×Value)->List (κ×Value)
 | []=>kvs
 |p::r=>putAll (stored kvs p.1 p.2) r
theorem zik(kvs:List (κ×Value))(k:κ)(v:Value):(stored kvs k v).length<=kvs.length+1:=by
 unfold stored
 split
 · rw[zD];omega
 · rw[zzG];exact zzK _
theorem zmu(hh:A.handled=none)(hdN:N<=d)(hIN:N<=I)(hdI:d≠I)(hlN:l<N):∀(rest:List (κ×Value)) (i:Nat) (s:Shared) (kvs:List (κ×Value)),s.heap.IsListIter I l i->s.heap.IsList l items->s.heap.DictOf knd d kvs->kvs.length+rest.length<=sizeLine->
 (∀j p,rest[j]? = some p->∃q key,items[i+j]? = some (.ref q)/\q<N/\IsTup s.heap q #[key,p.2]/\knd.is p.1 key=true)->items[i+rest.length]? = none->
 (∀h' tk,h'.DictOf knd d (putAll kvs rest)->(∀b o,b<N->s.heap.get? b=some o->h'.get? b=some o)->R (.ok (.ret .none)) {s with heap:=h',toks:=tk})->
 codeAny (model prog w) A (.builtin "dict.update.loop" ⟨[.ref d,.ref I,rawInt i,.none],[]⟩) R s:=by
 intro rest
 induction rest with
 |nil=>
  intro i s kvs hit hl hm hz hp he hR
  refine codeAny_builtin Vx ?_
  rw[Around.under_plainId ZM _]
  show wpAny _ A.in1 (pyNext (.ref I) >>= _) _ _ s
  refine zxD (wpAny_pyNext_list_end hh hit hl he λh' hx=>?_)
  show wpAny _ _ (Builtin.Dict.addKeywords d [] >>= _) _ _ _
  refine zxD (zxE (zxE ?_))
  obtain⟨o,es,ep,ho,r⟩:=hm
  exact hR h' s.toks ⟨o,es,ep,hx d o hdI ho,r⟩ λb o hb e=>hx b o (zzN (zzH hb hIN)) e
 |cons p rest ih=>
  intro i s kvs hit hl hm hz hp he hR
  obtain⟨q,key,hq,hqN,ht,hkey⟩:=hp 0 p rfl
  refine codeAny_builtin Vx ?_
  rw[Around.under_plainId ZM _]
  show wpAny _ A.in1 (pyNext (.ref I) >>= _) _ _ s
  refine zxD (wpAny_pyNext_list_item hit hl hq λh' hit' hs=>?_)
  have sm:∀b o,b≠I->s.heap.get? b=some o->h'.get? b=some o:=λb o hb e=>(hs.2 b hb).trans e
  obtain⟨oq,hoq,hcq,nq,hdq⟩:=ht
  have hoq':=sm q oq (zzN (zzH hqN hIN)) hoq
  have hm':h'.DictOf knd d kvs:=let⟨o,es,ep,ho,r⟩:=hm;⟨o,es,ep,sm d o hdI ho,r⟩
  have hl':h'.IsList l items:=let⟨o,ho,r⟩:=hl;⟨o,sm l o (zzN (zzH hlN hIN)) ho,r⟩
  have hT:({s with heap:=h'}:Shared).TypeIs (.ref q) "tuple":=⟨oq,hoq',hcq⟩
  show wpAny _ _ (holding [.ref q] _ >>= _) _ _ _
  refine zxD (zxK (zxD (wpAny_tryCatch ?_)))
  unfold Builtin.Dict.pairItems
  refine zxD (wpAny_typeOf hT ?_)
  show wpAny _ _ (if(Value.type "tuple"==Value.type "list"||Value.type "tuple"==Value.type "tuple")=true then _ else _) _ _ _
  rw[if_pos (by decide)]
  refine zxD (wpAny_seqItems hoq' hdq (zxE ?_))
  show wpAny _ _ (holding [key,p.2] (dictSet d key p.2)) _ _ _
  refine zxK (wpAny_dictSet_pairs (hsz:=by simp only[zzQ]at hz;omega) hkey hm' λh'' hm'' hs''=>?_)
  have sm2:∀b o,b≠d->h'.get? b=some o->h''.get? b=some o:=λb o hb e=>(hs''.2 b hb).trans e
  refine zxE ⟨plainId_quiet ZM _, ?_⟩
  have hit'':h''.IsListIter I l (i+1):=let⟨o,ho,r⟩:=hit';⟨o,sm2 I o (Ne.symm hdI) ho,r⟩
  have hl'':h''.IsList l items:=let⟨o,ho,r⟩:=hl';⟨o,sm2 l o (zzN (zzH hlN hdN)) ho,r⟩
  have keep:∀b o,b<N->s.heap.get? b=some o->h''.get? b=some o:=λb o hb e=>sm2 b o (zzN (zzH hb hdN)) (sm b o (zzN (zzH hb hIN)) e)
  have:=ih (i+1) {s with heap:=h'',toks:=s.toks+1} (stored kvs p.1 p.2) hit'' hl'' hm'' (by have:=zik kvs p.1 p.2;simp only[zzQ]at hz;omega)
   (λj p' hj=>by
    obtain⟨q',key',a1,a2,⟨o',a3,a4⟩,a5⟩:=hp (j+1) p' (by simpa using hj)
    exact⟨q',key',by rw[show i+1+j=i+(j+1) by omega];exact a1,a2,⟨o',keep q' o' a2 a3,a4⟩,a5⟩)
   (by rw[show i+1+rest.length=i+(p::rest).length by simp only[zzQ];omega];exact he)
   (λh3 tk hm3 k3=>hR h3 tk hm3 λb o hb e=>k3 b o hb (keep b o hb e))
  exact this
end
theorem zdF{prog:Program}{w:World}{κ:Type}[DecidableEq κ]{knd:KeyKind prog w κ}{A:Around}{E:Value->Shared->Prop}{s:Shared}{l:Addr}{o:Obj}{items:Array Value}{n:Nat}{ps:List (κ×Value)}{Q:Value->Shared->Prop}(hh:A.handled=none)
 (ho:s.heap.get? l=some o) (hc:o.cls = .type "list") (hd:o.data = .seq items n) (hn:o.dict=none) (hsz:ps.length<=sizeLine)
 (hp:∀(j:Nat) (p:κ×Value),ps[j]? = some p->∃(q:Addr) (key:Value),items[j]? = some (Value.ref q)/\IsTup s.heap q #[key,p.2]/\knd.is p.1 key=true) (he:items[ps.length]? = none)
 (h:∀h' tk,h'.DictOf knd s.heap.objs.size (putAll [] ps)->(∀b o,s.heap.get? b=some o->h'.get? b=some o)->Q (.ref s.heap.objs.size) {s with heap:=h',toks:=tk}):wpAny (model prog w) A (call (.type "dict") [.ref l]) Q E s:=by
 refine callType_codes (Q₁:=λobj s₁=>obj = .ref s.heap.objs.size/\s₁={s with heap:=s.heap.push {cls:=.type "dict",data:=.dict #[]}}) F.kt_called_dict (F.kt_typeCall_dict_1 _) F.entry_dict_init (kt_code_dict_new _ ⟨rfl,rfl⟩) ?_
 rintro obj s₁ ⟨rfl,rfl⟩
 have hnew:(s.heap.push {cls:=.type "dict",data:=.dict #[]}).DictOf knd s.heap.objs.size []:=Heap.DictOf.new s.heap
 have k1:∀b o,s.heap.get? b=some o->(s.heap.push {cls:=.type "dict",data:=.dict #[]}).get? b=some o:=λb o e=>zxF _ e
 have hT:({s with heap:=s.heap.push {cls:=.type "dict",data:=.dict #[]}}:Shared).TypeIs (.ref l) "list":=⟨o,k1 l o ho,hc⟩
 refine⟨hnew.typeIs,F.args_dict_init_2 _ _, ?_⟩
 unfold Builtin.«dict.__init__»
 refine zxD ?_
 unfold Builtin.Dict.selfAndRest
 refine zxD (wpAny_notOrdered_dict hnew.typeIs ?_)
 show wpAny _ _ (pure (s.heap.objs.size,[Value.ref l])) _ _ _
 refine zxE ?_
 show wpAny _ _ (Builtin.Dict.updateFrom "dict.__init__" s.heap.objs.size (.ref l) [] .none) _ _ _
 unfold Builtin.Dict.updateFrom
 refine zxD (wpAny_typeOf hT ?_)
 rw[if_pos (by decide)]
 refine zxD (ziF (k1 l o ho) hc hd hn hh λh2 tk2 k2=>?_)
 rw[if_pos (by decide)]
 refine zxD (wpAny_rule ?_)
 have ho2:=k2 l o (k1 l o ho)
 have hl2:h2.IsList l items:=⟨o,ho2,hc,n,hd⟩
 refine zxD (wpAny_pyIter_list hl2 ?_)
 have k3:∀b o,h2.get? b=some o->(h2.push {cls:=.type "list_iterator",data:=.fields #[.ref l,.int 0 0]}).get? b=some o:=λb o e=>zxF _ e
 have hd2:s.heap.objs.size<h2.objs.size:=by
  obtain⟨o',_,_,ho',_⟩:=hnew
  exact zxG (k2 _ _ ho')
 refine zxE ⟨plainId_quiet ZM _, ?_⟩
 refine zmu (A:=A.in1) (N:=s.heap.objs.size) (knd:=knd) (items:=items) hh (zzK _) (Nat.le_of_lt hd2) (zzN hd2) (zxG ho) ps 0 {s with heap:=h2.push {cls:=.type "list_iterator",data:=.fields #[.ref l,.int 0 0]},toks:=tk2} [] ⟨_,zxH _ rfl,rfl,rfl⟩ ⟨o,k3 l o ho2,hc,n,hd⟩ ?_ (by rw[List.length_nil];omega) (λj p hj=>?_) (by rw[zyV];exact he) (λh' tk dd kk=>?_)
 · obtain⟨o',es,ep,ho',r⟩:=hnew
   exact⟨o',es,ep,k3 _ _ (k2 _ _ ho'),r⟩
 · obtain⟨q,key,a1,⟨o',a3,a4⟩,a5⟩:=hp j p hj
   exact⟨q,key,by rw[zyV];exact a1,zxG a3,⟨o',k3 _ _ (k2 _ _ (k1 _ _ a3)),a4⟩,a5⟩
 · exact⟨rfl,h h' tk dd λb o e=>kk b o (zxG e) (k3 _ _ (k2 _ _ (k1 _ _ e)))⟩
def zbb:List D->Option (List (Key×D))
 | []=>some []
 |d::r=>(asT d).bind λl=>(zpC l).bind λp=>(zmC p.1).bind λk=>(zbb r).bind λt=>some ((k,p.2)::t)
def zsK:D->Option R0
 | .dct kvs=>some (.fd kvs)
 | .lst ds=>(zbb ds).bind λkvs=>if(kvs.map (·.1)).Nodup then some (.fd kvs)else none
 |_=>none
def zcQ:List D->Option R0:=on1 zsK
theorem zdZ{κ:Type}[DecidableEq κ]:∀(ps acc:List (κ×Value)),((acc++ps).map (·.1)).Nodup->putAll acc ps=acc++ps
 | [],acc,_=>(zyB acc).symm
 |p::r,acc,h=>by
  have hs:stored acc p.1 p.2=acc++[p]:=by
   unfold stored
   rw[if_neg]
   rw[zyJ,zyP]at h
   obtain⟨_,_,n3⟩:=zxC.mp h
   intro z
   obtain⟨q,m,e⟩:=List.any_eq_true.mp z
   exact n3 q.1 (List.mem_map_of_mem m) p.1 (zzC ..) (of_decide_eq_true e)
  show putAll (stored acc p.1 p.2) r=_
  rw[hs,zdZ r (acc++[p]) (by rw[zxA];exact h),zxA];rfl
section
variable{X:Cx}{kd:KD}{O:Addr->Prop}{pins:List (Addr×Obj)}{σ:St}{H:Hp}{s:Shared}
theorem zdC(I:Inv X pins σ H s):∀{vs:List V}{us:List Value}{ds:List D}{dk:List (Key×D)},RpL X.K kd O H vs ds->Vals vs us->zbb ds=some dk->
 ∃(kvs:List (Key×V)) (ps:List (Key×Value)),KV kvs ps/\RpM X.K kd O H kvs dk/\ps.length=us.length/\ps.map (·.1)=dk.map (·.1)/\kvs.length=ps.length/\
  ∀(j:Nat) (p:Key×Value),ps[j]? = some p->∃(q:Addr) (key:Value),us[j]? = some (Value.ref q)/\IsTup s.heap q #[key,p.2]/\(vo X.prog X.w).is p.1 key=true
 |_,_,[],_,rl,r,e=>by
  cases rl
  cases r
  cases e
  exact⟨[],[],.nil,.nil,rfl,rfl,rfl,λj p h=>by simp at h⟩
 |_,_,d::ds,dk,rl,r,e=>by
  cases rl with
  |cons rp rl=>
   rename_i v vs
   cases r with
   |cons r0 r=>
    rename_i u us
    obtain⟨l0,e0,e2⟩:=bS_ (show(asT d).bind _=_ from e)
    obtain⟨⟨k,dv⟩,e1,e3⟩:=bS_ e2
    cases znp e0
    cases zji e1
    · obtain⟨kk,h1,e⟩:=bS_ e3
      obtain⟨t,h2,e⟩:=bS_ e
      cases e
      obtain⟨kvs,ps,a1,a2,a3,a4,a5,a6⟩:=zdC I (ds:=ds) (dk:=t) rl r h2
      cases rp.vw with
      |tup rp' hq rl'=>
       rename_i q ws
       cases rl' with
       |cons k1 rl'=>
        cases rl' with
        |cons k2 rl'=>
         cases rl'
         rename_i kv' vv'
         have ek:=zlk k1.vw h1
         subst ek
         obtain⟨its,rv,ht,_⟩:=I.tuple hq
         obtain⟨u1,u2,rfl,r1,r2⟩:=vals2 rv
         cases r0
         refine⟨(kk,vv')::kvs,(kk,u2)::ps,.cons ⟨rfl,r2⟩ a1,.cons k2 a2,congrArg (· + 1) a3,congrArg (kk :: ·) a4,congrArg (· + 1) a5,λj p h=>?_⟩
         cases j with
         |zero=>
          simp at h
          subst h
          exact⟨q,u1,rfl,ht,ziS r1⟩
         |succ j=>simpa using a6 j p (by simpa using h)
theorem zek(hc:X.calm=true)(hk:KdOk X kd):CallD X kd (.type "dict") zcQ:=by
 intro pins s σ H xs us Q I r h
 obtain⟨O,ds,z,ht,vl,he,q⟩:=h
 obtain⟨x,d,rfl,vx,he⟩:=zes vl he
 cases vx with
 |dct hr rm=>exact zjT hk pins s σ H _ us Q I r ⟨O,[.dct _],z,ht,.cons (.dct hr rm) .nil,he,q⟩
 |lst hr rl=>
  obtain⟨dk,h1,he⟩:=bS_ (show(zbb _).bind _=_ from he)
  obtain⟨hn,he⟩:=zO he
  cases he
  obtain⟨u,rfl,ru⟩:=vals1 r
  cases ru
  obtain⟨its,rv,⟨o,n,ho,hcl,hdi,hda⟩,hz⟩:=I.list hr.sq
  obtain⟨kvs,ps,a1,a2,a3,a4,a5,a6⟩:=zdC I rl rv h1
  have hlen:=rv.length
  refine zdF (knd:=vo X.prog X.w) (ps:=ps) (I.ok.hd hc) ho hcl hda hdi (by omega) (λj p hj=>?_) (by rw[a3];simp) λh' tk dd kp=>?_
  · obtain⟨q',key,b1,b2,b3⟩:=a6 j p hj
    exact⟨q',key,by simpa using b1,b2,b3⟩
  · rw[zdZ ps [] (by rw[List.nil_append,a4];exact hn),List.nil_append]at dd
    exact⟨.ref _,_,I.laid (a:=s.heap.objs.size) (o:=.dK kvs) (t':=tk) kp (zzK _) (zly (by omega) (beq_eq_false_iff_ne.mpr (Ne.symm (zzN I.big))) a1 dd),rfl,zmf q a2 _ (I.hok.fresh (zzK _))⟩
 |_=>cases he
end
theorem l1_{α:Type}{P:List α->Prop}(h:∀a,P [a]):∀us:List α,us.length=1->P us
 | [a],_=>h a
theorem l2_{α:Type}{P:List α->Prop}(h:∀a b,P [a,b]):∀us:List α,us.length=2->P us
 | [a,b],_=>h a b
theorem l3_{α:Type}{P:List α->Prop}(h:∀a b c,P [a,b,c]):∀us:List α,us.length=3->P us
 | [a,b,c],_=>h a b c
theorem l4_{α:Type}{P:List α->Prop}(h:∀a b c d,P [a,b,c,d]):∀us:List α,us.length=4->P us
 | [a,b,c,d],_=>h a b c d
theorem l5_{α:Type}{P:List α->Prop}(h:∀a b c d e,P [a,b,c,d,e]):∀us:List α,us.length=5->P us
 | [a,b,c,d,e],_=>h a b c d e
section
variable{X:Cx}{kd:KD}
theorem aI{c:Int}{j pos}:AE X kd (.Constant (.int c) j pos) (fC (.int c)):=zgz zir λ_ _=>.int _
theorem aS{c:Str}{j pos}:AE X kd (.Constant (.str c) j pos) (fC (.str c)):=zgz zmp λ_ _=>.str _
theorem aZ{j pos}:AE X kd (.Constant .none j pos) (fC .non):=zgz zrg λ_ _=>.non
theorem aB{c:Bool}{j pos}:AE X kd (.Constant (.bool c) j pos) (fC (.bl c)):=zgz zrJ λ_ _=>.bl _
theorem ax{P:Program}{w:World}{K:zC}{a b:Expr}{fa fb:EF}{pos:Pos}(hkd:KD1 P w K kd)(ha:AE X kd a fa)(hb:AE X kd b fb)(h1:X.prog=P:=by rfl)(h2:X.w=w:=by rfl)(h3:X.K=K:=by rfl)(hm:Y6 b:=by exact λ_ _=>rfl):AE X kd (.Subscript a b pos) (f2 fa fb ixP):=zsa (zsU (hkd _ h1 h2 h3)) ha hb hm
theorem sv(z:Bool)(i:Nat){x:Str}{pos pos':Pos}{e:Expr}{fa:EF}(hN:X.N.Nodup)(he:AE X kd e fa)(hi:X.N[i]? = some x:=by rfl)(hx:Loc X.env.scope x:=by first|exact Or.inl rfl|exact Or.inr rfl)(hs:swapsWith e (some (.Name x pos')) pos.line X.env=pure false:=by rfl)(hf:X.fn x=true\/X.env.scope.names.lookup x=some .local:=by first|exact Or.inl rfl|exact Or.inr rfl):
 ASt X kd (.Assign [.Name x pos'] e pos) (zK z i fa):=zqW hN hi hx he hs hf
theorem an(i:Nat){x:Str}{pos:Pos}(hN:X.N.Nodup)(hi:X.N[i]? = some x:=by rfl)(hx:Loc X.env.scope x:=by first|exact Or.inl rfl|exact Or.inr rfl)(hf:X.fn x=true\/X.env.scope.names.lookup x=some .local:=by first|exact Or.inl rfl|exact Or.inr rfl):AG X kd (.Name x pos) [i] (gN i):=znD hN hi hx hf
theorem av(i:Nat){x:Str}{pos:Pos}(hN:X.N[i]? = some x:=by rfl)(hv:Vis X.env.scope x:=by first|exact Or.inl rfl|exact Or.inr (Or.inl rfl)|exact Or.inr (Or.inr rfl))(hd:(x==("__debug__":Str))=false:=by decide)
 (hcd:(x==("__classdict__":Str))=false:=by decide):AE X kd (.Name x pos) (fV i):=zqc (zlb hN hv hd hcd)
end
theorem zhf{f:Str}{v:V}:∀{ns:List Str}{vs:List V},ns.length=vs.length->f ∉ ns->Vi f v (ns.zip vs)=(ns++[f]).zip (vs++[v])
 | [],[],_,_=>rfl
 | [],_::_,h,_=>by cases h
 |_::_,[],h,_=>by cases h
 |n::ns,w::vs,h,hf=>by
  show(if n=f then(n,v)::ns.zip vs else(n,w)::Vi f v (ns.zip vs))=(n,w)::(ns++[f]).zip (vs++[v])
  rw[if_neg λe=>hf (by rw[e];exact zzC),zhf (Nat.succ.inj h) λm=>hf (zzA _ m)]
def CF(K:zC)(kd:KD)(cs:List Str)(f:Str):Prop:=∀c ∈ cs,Cls K (kd.c c)/\Yl K (kd.c c) f
abbrev IFn:=AS->Option AS
def bf(K:zC)(kd:KD)(f:IFn):TS:=λD σ H=>∃F B ad as as',Rel K kd F B [] ad as σ H/\f as=some as'/\∀ad' H',Rel K kd F B [] ad' as' σ H'->Grow (Gw [] ad) H (Gw [] ad') H'->D.nx σ H'
@[irreducible] def AFs(X:Cx)(kd:KD)(st:List Stmt)(f:IFn):Prop:=PSs X st (bf X.K kd f)
@[irreducible] def AFt(X:Cx)(kd:KD)(st:Stmt)(f:IFn):Prop:=PS X st (bf X.K kd f)
def zgh(i:Nat)(cs:List Str)(f:Str)(fe:EF):IFn:=λas=>(fe as).bind λp=>(zeg p.2 p.1).bind λx=>match x.2[i]? with
 |some (some (.nd (.ob c ns) os))=>if c ∈ cs/\f ∉ ns/\ns.length<1000 then some (x.2.set i (some (.nd (.ob c (ns++[f])) (os++[.lf x.1.1 x.1.2]))))else none
 |_=>none
def zmz(fe:EF):IFn:=λas=>(fe as).bind λp=>some p.2
def zaK(f g:IFn):IFn:=λas=>(f as).bind g
section
variable{X:Cx}{kd:KD}{e o:Expr}{st:Stmt}{rest:List Stmt}{fe:EF}{f g:IFn}{pos pos':Pos}{cs:List Str}{n:Str}
theorem znA(he:AE X kd e fe)(hs:swapsWith e none pos.line X.env=pure false):AFt X kd (.Expr e pos) (zmz fe):=by
 with_unfolding_all exact(Zi (zdi he hs) λD σ H h=>by
  obtain⟨F,B,ad,as,o,R,e,q⟩:=h
  obtain⟨⟨p,as1⟩,h1,e⟩:=bS_ (show(fe as).bind _=_ from e)
  cases e
  exact⟨F,B,ad,as,p,as1,R,h1,λv T' ad' H' R' rv g=>q ad' H' R'.drop (g.trans (Grow.less Gw.drop))⟩)
theorem zah{j:Nat}(hc:CF X.K kd cs n)(ho:PE X o (zcn j))(he:AE X kd e fe)(hs:swapsWith e (some (.Attribute o n pos')) pos.line X.env=pure false):AFt X kd (.Assign [.Attribute o n pos'] e pos) (zgh j cs n fe):=by
 with_unfolding_all exact(Zi (zru ho he hs) λD σ H h=>by
  obtain⟨F,B,ad,as,o,R,e,q⟩:=h
  obtain⟨⟨p,as1⟩,h1,e⟩:=bS_ (show(fe as).bind _=_ from e)
  obtain⟨⟨⟨st,d⟩,as2⟩,h2,e⟩:=bS_ e
  cases k1:as2[j]? with
  |none=>rw[k1]at e;cases e
  |some a0=>
   rw[k1]at e
   match a0,e,k1 with
   |some (.nd (.ob c ns) os),e,k1=>
    obtain⟨⟨hm,hf,hz⟩,e⟩:=zO e
    cases e
    refine⟨F,B,ad,as,p,as1,R,h1,λv T1 ad1 H1 R1 rv1 g1=>?_⟩
    obtain⟨ad2,R2,rp,le⟩:=zad R1 rv1 h2
    obtain⟨v0,hs0,ro0⟩:=R2.sl j _ k1
    refine⟨v0,hs0, ?_⟩
    generalize hfp:ad2 j=fp1 at ro0
    cases ro0 with
    |ob hC hH hl rl=>
     rename_i l dx C vs fp
     have ec:C=kd.c c:=hC.cl_eq
     subst ec
     have hnd:=R2.nd j
     rw[hfp]at hnd
     have rl':vA X.K kd F B (Gw [] ad2) H1 (vs++[v]) (os++[.lf st d]) fp:=by
      have:=rl.append (RoL.one (Ro.lf (N:=Nf F B (Gw [] ad2)) (H:=H1) rp))
      rw[zyB]at this
      exact this
     refine⟨l,_,dx,_,rfl,hH,(hc _ hm).1,(hc _ hm).2,by rw[List.length_zip,hl,Nat.min_self,<-hl];exact hz, ?_⟩
     rw[zhf hl hf]
     obtain⟨R4,g4⟩:=R2.mut (fo:=[]) (n:=.nd (.ob c (ns++[n])) (os++[.lf st d])) (u:=.ins (kd.c c) dx ((ns++[n]).zip (vs++[v]))) (zzD.mp k1).1 hfp hs0 (fp':=fp) (λa m=>by
      rw[zyB]at m ⊢;exact m) (by rw[zyB];exact(zzT.mp hnd).2) (by rw[hH];simp) λH' G' hl' gr kp=>.ob (.cl c) hl' (by rw[zzG,zzG,hl];rfl) (vA.grow gr kp rl')
     exact q _ _ R4 ((g1.trans (Grow.less le)).trans g4))
theorem zoX(h:AFt X kd st f):AFs X kd [st] f:=by
 with_unfolding_all exact(zdg h)
theorem XR(h1:AFt X kd st f)(h2:AFs X kd rest g):AFs X kd (st::rest) (zaK f g):=by
 with_unfolding_all exact(zbi (Wc h1 h2) λD σ H h=>by
  obtain⟨F,B,ad,as,o,R,e,q⟩:=h
  obtain⟨o1,e1,e⟩:=bS_ (show(f as).bind _=_ from e)
  exact⟨F,B,ad,as,o1,R,e1,λad' H' R' g'=>⟨F,B,ad',o1,o,R',e,λad2 H2 R2 g2=>q ad2 H2 R2 (g'.trans g2)⟩⟩)
end
def ob0(c:Str):O:=.nd (.ob c []) []
def lfD(x:Bool×D):O:=.lf x.1 x.2
def slot0:AS->Option O
 |some o::_=>if o.str=true then some o else none
 |_=>none
def fnI(c:Str)(n m:Nat)(f:IFn)(ds:List (Bool×D)):Option O:=if ds.length+1=m then(f (Ws n (ob0 c::ds.map lfD))).bind slot0 else none
def spI(K:zC)(kd:KD)(c:Str)(g:Fn):Sp:=λvs H Q _=>∃F x dx vs' ds o,vs = .ref x::vs'/\H x=some (.ins (kd.c c) dx [])/\(∀a,F a->H a≠none)/\¬F x/\RpI K kd F (λ_=>False) (· = x) H vs' ds/\g ds=some o/\
 ∀T H',T.Nodup->(∀a ∈ T,a=x\/H a=none)->(∀b u,H b=some u->b≠x->H' b=some u)->(∀a ∈ T,H' a≠none)->Ro (λ_ v d=>Rp K kd (Un2 F (· ∈ T)) H' v d) (λa=>¬Un2 F (· ∈ T) a) H' (.ref x) o T->Q .non H'
theorem zme{K:zC}{kd:KD}{F B G:Addr->Prop}{H:Hp}{vs:List V}{ds:List (Bool×D)}(h:RpI K kd F B G H vs ds):vA K kd F B G H vs (ds.map lfD) []:=by
 induction h with
 |nil=>exact .nil
 |cons a _ ih=>exact RoL.cons (Ro.lf a) ih
theorem zjp(ds:List (Bool×D)):(ds.map lfD).all O.isLf=true:=by
 induction ds with
 |nil=>rfl
 |cons x r ih=>exact ih
section
variable{P:Program}{w:World}{K:zC}{mg:Str->Option Value}{base:Heap}
theorem zqQ{kd:KD}{x qual:Str}{st:Stmt}{f:Addr}{fd:FuncData}{N ps:List Str}{k:Nat}{c:Str}{b:IFn}(Fn:Fun K x qual st f fd)(S:FnScope N ps (zu st))(hps:ps.length<=N.length)
 (hb:∀(cdv:Value) (A:Around) (outer:List Env) (s:Shared) (H:Hp) (E:XK),Room k (A.deeper (envOfC qual (zu st) s.heap.objs.size f cdv))->AFs (Xz CX0 P w K mg base N qual (zu st) f cdv A outer s H E).nox kd (YC st) b):
 FnOk P w K mg base CX0 (k+1) f fd ps (spI K kd c (fnI c N.length ps.length b)):=by
 with_unfolding_all (
 refine Fn.ok S (λvs H Q E h=>?_) (λcdv A outer s H vs Q E hr h=>⟨_,hb cdv A outer s H E hr, ?_⟩)
 · obtain⟨F,x,dx,vs',ds,o,rfl,_,_,_,rp,e,_⟩:=h
   obtain⟨hl,_⟩:=ite_some' (show(if ds.length+1=ps.length then _ else none)=_ from e)
   rw[zzQ,rp.length,hl]
 · obtain⟨F,x,dx,vs',ds,o,rfl,hx,ht,hF,rp,e,q⟩:=h
   obtain⟨hl,e⟩:=ite_some' (show(if ds.length+1=ps.length then _ else none)=_ from e)
   obtain⟨as',e1,e2⟩:=bS_ e
   have ro:vA K kd F (λ_=>False) (· ∈ [x]) H (V.ref x::vs') (ob0 c::ds.map lfD) [x]:=by
    have e0:(λa=>a ∈ [x])=(λa=>a=x):=by funext a;exact propext zzO
    rw[e0]
    exact RoL.cons (fq:=[]) (Ro.ob (C:=kd.c c) (vs:=[]) (.cl c) hx rfl .nil) (zme rp)
   have R0:=zdW (N:=N) ht (T:=[x]) (by simp) (λa m=>by rw[zzO.mp m,hx];exact⟨by simp,hF⟩) (zjp ds) (by rw[zzQ,zD];omega) ro
   have gw:∀a,Gw [] (λi=>if i=0 then[x]else[]) a->a=x:=λa z=>z.elim (λy=>nomatch y) λ⟨i,y⟩=>by
    by_cases e:i=0
    · subst e;simpa using y
    · simp[e]at y
   refine⟨F,λ_=>False,_,_,as',R0,e1,λad' H' R' g'=>?_⟩
   match as',e2,R' with
   |some o'::r,e2,R'=>
    obtain⟨hs,e2⟩:=zO (show(if o'.str=true then some o' else none)=some o from e2)
    subst e2
    obtain⟨v,hv,ro'⟩:=R'.sl 0 (some o') rfl
    have hv0:(L2.start N (V.ref x::vs'))[0]? = some (some (V.ref x)):=rfl
    rw[hv0]at hv
    cases hv
    have rt:=zfE R' (R'.nd 0) (λa m=>.inr ⟨0,m⟩) ro' hs
    exact q (ad' 0) H' rt.nd (λa m=>(g'.own a (.inr ⟨0,m⟩)).imp (gw a) id) (λb u h hb=>g'.keep b u h λz=>hb (gw b z)) rt.tr rt.ro)
end
section
variable{X:Cx}{kd:KD}{e:Expr}{es:List Expr}{fr:AF}{pos p:Pos}{g:Fn}
theorem zrt{c:Str}{σ:St}{H:Hp}{Q:VK}{E:XK}(h:al X.K kd (zJ fr g) σ H Q):zpg (kd.c c) (spI X.K kd c g) [] E (alA X.K kd fr) σ H Q:=by
 obtain⟨F,B,ad,as,r,as',R,e,q⟩:=h
 obtain⟨⟨p,as1⟩,h1,e⟩:=bS_ (show(fr as).bind _=_ from e)
 obtain⟨ds,h2,e⟩:=bS_ e
 obtain⟨o,h3,e⟩:=bS_ e
 cases e
 refine⟨F,B,ad,as,p,_,R,h1,λvs ad1 H1 R1 rv1 g1 x dx hx hdx hne=>?_⟩
 rw[zyB]
 have k:∀b u,H1 b=some u->upd (upd H1 dx (.own x)) x (.ins (kd.c c) dx []) b=some u:=λb u h=>by rw[zM (yc h hx),zM (yc h hdx)];exact h
 have kn:∀b,upd (upd H1 dx (.own x)) x (.ins (kd.c c) dx []) b=none->H1 b=none:=λb h=>by
  cases e:H1 b with
  |none=>rfl
  |some u=>rw[k b u e]at h;cases h
 refine⟨Lv F B (Gw [] ad1) true,x,dx,vs,ds,o,rfl,zU,λa z y=>R1.trk true a z (kn a y),λz=>R1.trk true x z hx, ?_,h3,λT H' hn hl kp ht ro=>⟨rfl, ?_⟩⟩
 · have ra:=zbv R1 rv1 h2
   clear e h3 h2 rv1
   induction ra with
   |nil=>exact .nil
   |cons h _ ih=>
    refine .cons ?_ ih
    exact Rp.grow (W:=λ_=>False) (W':=(· = x)) ⟨λb u h _=>k b u h,λb e=>.inr (by rw[e];exact hx)⟩ (h.less λa z=>z.elim (λy=>y.elim id λy=>y.elim) λy=>y.elim)
 · exact zio R1 (λw T' H' R' rv' g'=>q w T' ad1 H' R' rv' (g1.trans g')) (.ref x) T H' hn (λa m=>(hl a m).elim (λe=>by rw[e];exact hx) (kn a)) (λb u h=>kp b u (k b u h) (yc h hx)) ht ro
theorem znL{c x:Str}{k:Nat}{f C:Addr}{fdt:FuncData}{ps:List Str}(hC:kd.c c=C)(M:Mk X.K C f)(F:FnOk X.prog X.w X.K X.mg X.base CX0 k f fdt ps (spI X.K kd c g))(hr:Room (k+1) X.A)(hg:Gl X x)(hm:X.mg x=some (.ref C))(hb:Binds X.K fdt ps [])(hx:zaO CX0 X λ_ _ _=>False)
 (ha:AA X kd (e::es) fr) (hdb:(x==("__debug__":Str))=false) (he:starEach (e::es) X.env=(false,eval e X.env)::starEach es X.env) (hpl:(backTo pos (starEach es X.env)).any (·.1)=false):
 AE X kd (.Call (.Name x p) (e::es) [] pos) (zJ fr g):=by
 subst hC
 with_unfolding_all exact(yX (zoL M F hr hg hm hb .nil hx ha hdb he hpl) λσ H Q h=>zrt h)
end
def znF(mg:Str->Option Value):Str->Addr:=λx=>match mg x with
 |some (.ref a)=>a
 |_=>0
theorem zjH{mg:Str->Option Value}{x:Str}{a:Addr}(h:mg x=some (.ref a)):znF mg x=a:=by
 unfold znF;rw[h]
structure CI(K:zC)(kd:KD)(mg:Str->Option Value)(c:Str)(C:Addr):Prop where
 eq:kd.c c=C
 cl:Cls K C
 mks:PySem.W.makesIn K C=true
 kp:PySem.W.keepIn K (.ref C)=true
 mg:mg c=some (.ref C)
section
variable{P:Program}{w:World}{K:zC}{mg:Str->Option Value}{base:Heap}{kd:KD}{m f:Str}{k:Nat}{tbl:List (Str×Fn)}{cs:List Str}{c:Str}{C:Addr}
theorem zbX:CF K kd [] f:=λc h=>nomatch h
theorem zbU(ci:CI K kd mg c C)(n:Yl K C f)(h:CF K kd cs f):CF K kd (c::cs) f:=λc' hm=>by
 have e:=ci.eq
 subst e
 rcases zS.mp hm with rfl|hm
 · exact⟨ci.cl,n⟩
 · exact h c' hm
theorem CI.mk'{f:Addr}(ci:CI K kd mg c C)(me:Meth K C "__init__" f):Mk K C f:=⟨ci.mks,me.at_,me.fn,ci.kp⟩
end
theorem szs{n:Nat}(h:n<=1000000):n<=sizeLine:=zzL h (by decide)
section
variable{as:AS}{f fo a b:EF}{fr:AF}{s t:Bool}{x y z d:D}{c m:Str}{ns cs:List Str}{ds:List D}{tbl:List (Str×Fn)}{g:Fn}{o:O}
inductive SqD:D->List D->Prop
 |l (ds:List D):SqD (.lst ds) ds
 |t (ds:List D):SqD (.tup ds) ds
theorem zeN{α:Type}{h:α->D}{it:α->It1}{gg:GF}{fe:EF}{as0:AS}:∀(l:List α),(∀q ∈ l,∃as1,gg (it q) as0=some as1/\WE fe as1 (h q))->∃os,xX gg xG fe as0 (l.map it)=some os/\O.strs os=true/\O.toDs os=l.map h
 | [],_=>⟨[],rfl,rfl,rfl⟩
 |q::l,H=>by
  obtain⟨os,e1,e2,e3⟩:=zeN l λp m=>H p (zzA _ m)
  obtain⟨as1,h1,o,h2,h3,h4⟩:=H q zzC
  refine⟨o::os, ?_,by show(o.str&&O.strs os)=true;rw[h3,e2];rfl,by show o.toD::O.toDs os=_;rw[h4,e3];rfl⟩
  show xX gg xG fe as0 (it q::l.map it)=_
  unfold xX
  rw[h1];show((fe as1).bind _)=_
  rw[h2];show(if o.str=true then _ else _)=_
  rw[if_pos h3,e1];rfl
theorem zcs{α:Type}{h:α->D}{p:α->Bool}{it:α->It1}{gg:GF}{tt:TF}{fe:EF}{as0:AS}:∀(l:List α),(∀q ∈ l,∃as1,gg (it q) as0=some as1/\WT tt as1 (p q)/\(p q=true->WE fe as1 (h q)))->∃os,xX gg tt fe as0 (l.map it)=some os/\O.strs os=true/\O.toDs os=(l.filter p).map h
 | [],_=>⟨[],rfl,rfl,rfl⟩
 |q::l,H=>by
  obtain⟨os,e1,e2,e3⟩:=zcs l λp m=>H p (zzA _ m)
  obtain⟨as1,h1,h2,h3⟩:=H q zzC
  cases hp:p q with
  |false=>
   rw[hp]at h2
   refine⟨os,zjP h1 h2 e1,e2, ?_⟩
   rw[List.filter_cons_of_neg (by simp[hp])];exact e3
  |true=>
   rw[hp]at h2
   obtain⟨o,k1,k2,k3⟩:=h3 hp
   refine⟨o::os, ?_,by show(o.str&&O.strs os)=true;rw[k2,e2];rfl, ?_⟩
   · unfold WT at h2
     show xX gg tt fe as0 (it q::l.map it)=_
     unfold xX
     rw[h1];show(tt as1).bind _=_
     rw[h2];show((fe as1).bind _)=_
     rw[k1];show(if o.str=true then _ else _)=_
     rw[if_pos k2,e1];rfl
   · rw[List.filter_cons_of_pos hp]
     show o.toD::O.toDs os=_
     rw[k3,e3];rfl
theorem zdY{fi:IF}{cap:List (Option Nat)}{gg:GF}{tt:TF}{fe:EF}{xs:List It1}{os:List O}{zs:List D}(h1:fi as=some (xs,as))(hl:xs.length<=1000000)(h2:xX gg tt fe (Y4 cap as) xs=some os)(hs:O.strs os=true)(e:O.toDs os=zs):WE (yw fi cap gg tt fe) as (.lst zs):=by
 refine⟨.nd .ls os, ?_,hs,congrArg D.lst e⟩
 unfold yw
 rw[h1];show(if xs.length<=sizeLine then _ else _)=_
 rw[if_pos (szs hl),h2];rfl
theorem zgB{α:Type}{h:α->D}{it:α->It1}{fi:IF}{cap:List (Option Nat)}{gg:GF}{fe:EF}(l:List α)(h1:fi as=some (l.map it,as))(hl:l.length<=1000000)(H:∀q ∈ l,∃as1,gg (it q) (Y4 cap as)=some as1/\WE fe as1 (h q)):WE (yw fi cap gg xG fe) as (.lst (l.map h)):=by
 obtain⟨os,e1,e2,e3⟩:=zeN l H
 exact zdY h1 (by rw[zD];exact hl) e1 e2 e3
theorem zqk{α:Type}{h:α->D}{p:α->Bool}{it:α->It1}{fi:IF}{cap:List (Option Nat)}{gg:GF}{tt:TF}{fe:EF}(l:List α)(h1:fi as=some (l.map it,as))(hl:l.length<=1000000)(H:∀q ∈ l,∃as1,gg (it q) (Y4 cap as)=some as1/\WT tt as1 (p q)/\(p q=true->WE fe as1 (h q))):WE (yw fi cap gg tt fe) as (.lst ((l.filter p).map h)):=by
 obtain⟨os,e1,e2,e3⟩:=zcs l H
 exact zdY h1 (by rw[zD];exact hl) e1 e2 e3
def Rt(r:Option Out)(x:D):Prop:=∃o,r=some (.rt o)/\o.str=true/\o.toD=x
theorem Zj{n m:Nat}{c:SF}{ds:List (Bool×D)}{x:D}(hl:ds.length=m)(h:Rt (c (xW n ds)) x):RE (fnR n m c ds) x:=by
 obtain⟨o,h1,h2,h3⟩:=h
 exact⟨o,X4 hl h1,h2,h3⟩
theorem zT{f g:SF}{as as1:AS}{x:D}(h1:f as=some (.nx as1))(h2:Rt (g as1) x):Rt (zB f g as) x:=by
 obtain⟨o,e,h⟩:=h2
 exact⟨o,yg h1 e,h⟩
theorem zde{f g:SF}{as:AS}{x:D}(h1:Rt (f as) x):Rt (zB f g as) x:=by
 obtain⟨o,e,h⟩:=h1
 exact⟨o,zai e,h⟩
theorem zfy{c:TF}{f g:SF}{as:AS}{x:D}(h:WT c as true)(h1:Rt (f as) x):Rt (sIf c f g as) x:=by
 obtain⟨o,e,h2⟩:=h1
 exact⟨o,vG h e,h2⟩
theorem vd{f:EF}{as:AS}{x:D}(h:WE f as x):Rt (yF f as) x:=by
 obtain⟨o,h1,h2,h3⟩:=h
 refine⟨o, ?_,h2,h3⟩
 unfold yF;rw[h1]
 show((if o.str=true then some o else none).bind _)=_
 rw[if_pos h2];rfl
theorem zgv{g:List D->Option R0}(ha:WE a as x)(hg:g [x]=some (.im z)):WE (fP (aC a aN) g) as z:=WD.e (zqJ ha hg)
theorem zqb{fd:DF}{os:List O}{zs:List D}(h:WO fd as os)(hl:os.length<=1000000)(hs:O.strs os=true)(e:O.toDs os=zs):WE (xR fd) as (.tup zs):=by
 refine⟨Y0 os,zgF h (szs hl), ?_, ?_⟩
 · unfold Y0;split
   · exact hs
   · exact hs
 · subst e
   unfold Y0;split
   · rfl
   · rfl
theorem zrY{fd:DF}{os:List O}(h:WE a as x)(hr:WO fd as os):∃o,o.str=true/\o.toD=x/\WO (dC a fd) as (o::os):=by
 obtain⟨o,h1,h2,h3⟩:=h
 exact⟨o,h2,h3,zne h1 hr⟩
theorem zfF(ha:WE a as x)(hb:WE b as y):WE (xR (dC a (dC b dN))) as (.tup [x,y]):=by
 obtain⟨p,k1,rfl,k3⟩:=zrY hb yK
 obtain⟨o,h1,rfl,h3⟩:=zrY ha k3
 exact zqb h3 (by show 2<=_;omega) (by show(o.str&&(p.str&&true))=true;rw[h1,k1];rfl) rfl
theorem zcG{g:D->D->Option R0}(ha:WE a as x)(hb:WE b as y)(hg:g x y=some (.im z)):WE (f2 a b g) as z:=WD.e (f2E ha hb hg)
end
open AutoSeq1 (wpAny_loadPart')
section
variable{X:Cx}{kd:KD}
def zkv(x y:D):Option R0:=onI (λi j=>if 0<=j/\j<=1000000/\i.natAbs<2 ^ 64 then some (.im (.int (i*2 ^ j.toNat)))else none) x y
theorem znJ:OpD X kd (binaryOp .LShift) zkv:=by
 intro pins s σ H x y v u Q I rx ry h
 obtain⟨O,d,e,r,ht,vx,vy,he,q⟩:=h
 obtain⟨i,j,rfl,rfl,he⟩:=Xp vx vy he
 obtain⟨c,rfl⟩:=zO he
 exact zqV pins s σ H _ _ v u Q I rx ry ⟨_,_,rfl,rfl,c,yD q (.int _)⟩
end
abbrev bmV:List Value:=[.type "ValueError",.type "Exception",.type "BaseException",.type "object"]
structure XC(K:zC)(C S f:Addr)(an:Str):Prop where
 cls:∃N nm q bs sn sub ab col dd k0 k1 k2 k3 k5,K.lookup C=some (excClassObj nm q C N bs (.ref S::bmV) true sn sub ab col dd k0 k1 k2 k3 k5 "ValueError.__new__")
 tl:PySem.W.tailIn K bmV (.ref S::bmV)=true
 ini:PySem.W.findIn K (.ref C) "__init__"=some (some (.ref f))
 ity:PySem.W.typeIn K (.ref f)=some (.type "function")
 sat:PySem.W.findIn K (.ref C) "__setattr__"=some (some (.builtin "object.__setattr__"))
 att:PySem.W.findIn K (.ref C) an=some none
section
variable{prog:Program}{w:World}{A:Around}{E:Value->Shared->Prop}{h:Heap}{g:Array GenState}{d:Drawn}{t:Nat}{os:OsState}{K:zC}{C S f:Addr}{an:Str}{rest:List Value}
def zhw(h:Heap)(C:Addr)(rest:List Value):Heap:=(h.push {cls:=.type "tuple",data:=.seq rest.toArray}).push {cls:=.ref C,data:=.fields #[.ref h.objs.size,.none,.none,.none,.bool false,.none]}
theorem zci:∀b o,h.get? b=some o->(zhw h C rest).get? b=some o:=λb o e=>zxF _ (zxF _ e)
theorem zgr:(zhw h C rest).get? (h.objs.size+1)=some {cls:=.ref C,data:=.fields #[.ref h.objs.size,.none,.none,.none,.bool false,.none]}:=by unfold zhw;heap_get
theorem zhK(X:XC K C S f an)(hK:K.In h){Q:Fin->Shared->Prop}(hrest:rest.length<=sizeLine)
 (hq:wpAny (model prog w) A (call (.ref f) (.ref (h.objs.size+1)::rest)) (λr s'=>r = .none/\Q (.done (.ret (.ref (h.objs.size+1)))) s') E ⟨zhw h C rest,g,d,t,os⟩):
 wpAny (model prog w) A (Builtin.«type.__call__» ⟨.ref C::rest,[]⟩) Q E ⟨h,g,d,t,os⟩:=by
 obtain⟨N,nm,q,bs,sn,sub,ab,col,dd,k0,k1,k2,k3,k5,lk⟩:=X.cls
 have hC:=hK _ _ lk
 have T:OwnTail h bmV (.ref S::bmV):=PySem.W.tail_of_in hK X.tl
 have F:=PySem.F.excBase_ValueError
 repeat (first|with_reducible refine wpAny_loadPart_at hC ?_|with_reducible refine wpAny_madeBy_exc hC ?_|wp_step)
 refine codeAny_call_builtin_code (Code.quiet_builtin _ F.quiet) (wpAny_check_new_subT F T hC ?_)
 refine codeAny_exc_new_subT F T hC ?_ hrest
 show wpAny _ _ _ _ _ _
 have hC₁:=zci (C:=C) (rest:=rest) _ _ hC
 have hget:=zgr (h:=h) (C:=C) (rest:=rest)
 have hK1:K.In (zhw h C rest):=hK.keeps λb o e=>zci b o e
 unfold zhw at hC₁ hget hK1
 have hcC:(Value.ref C :: .ref S::bmV).contains (.ref C)=true:=by simp
 unfold isInstance
 repeat (first|with_reducible refine wpAny_loadPart_at hget ?_|(with_reducible refine wpAny_isSubtype_exc hC₁ ?_;rw[hcC])|wp_step)
 show wpAny _ _ (typeLookup (.ref C) _) _ _ _
 refine(PySem.W.looks_findIn hK1 X.ini).here ?_
 refine zxK (zxD ?_)
 unfold bindSpecial
 refine zxD ((PySem.W.looks_typeIn hK1 X.ity).here ?_)
 rw[if_pos (by decide)]
 refine zxE (zxD (zxQ hq (λr s' hr=>?_) λ_ _ x=>x))
 obtain⟨rfl,hQ⟩:=hr
 wp_walk
 exact hQ
theorem zsf(X:XC K C S f an)(hK:K.In h){Q:Value->Shared->Prop}(hrest:rest.length<=sizeLine)
 (hq:wpAny (model prog w) (A.under (.builtin "type.__call__" ⟨.ref C::rest,[]⟩)) (call (.ref f) (.ref (h.objs.size+1)::rest)) (λr s'=>r = .none/\Q (.ref (h.objs.size+1)) s') E ⟨zhw h C rest,g,d,t,os⟩):
 wpAny (model prog w) A (call (.ref C) rest) Q E ⟨h,g,d,t,os⟩:=by
 obtain⟨N,nm,q,bs,sn,sub,ab,col,dd,k0,k1,k2,k3,k5,lk⟩:=X.cls
 have hC:=hK _ _ lk
 have f1:=tc_lookup
 have f2:=tc_bind (.ref C)
 have hT:(⟨h,g,d,t,os⟩:Shared).TypeIs (.ref C) "type":=⟨_,hC,rfl⟩
 refine wpAny_call (codeAny_of_tree ?_)
 show wpAny _ _ (callAny (.ref C) _) _ _ _
 repeat (any_goals (first|assumption|with_reducible refine wpAny_loadPart_at hC ?_|wp_step))
 refine⟨rfl, ?_⟩
 refine codeAny_call_builtin_at (Code.quiet_builtin _ (by decide +kernel)) entry_typeCall (wpAny_check_type_call_sub hC (zhK X hK hrest hq))
end
def XO(e C:Addr):Heap->Prop:=λh=>∃t,h.get? e=some {cls:=.ref C,data:=.fields #[.ref t,.none,.none,.none,.bool false,.none]}
theorem zls{H:Hp}{a:Addr}{o:HO}(h:H a=some o):upd H a o=H:=by
 funext b
 by_cases e:b=a
 · subst e;rw[zU,h]
 · rw[zM e]
theorem zpe{e C:Addr}:∀h1 h2:Heap,XO e C h1->(∀o,h1.get? e=some o->h2.get? e=some o)->XO e C h2:=λ_ _ ⟨t,q⟩ k=>⟨t,k _ q⟩
structure XS(K:zC)(S:Addr):Prop where
 ga:PySem.W.specialIn K (.ref S) "__getattribute__"=some (some (.builtin "type.__getattribute__"))
 rd:PySem.W.readsIn K S (.type "type")=true
 fi:PySem.W.findCls K (.ref S) (.type "type") "__init__"=some (.val (.builtin "ValueError.__init__"))
section
variable{X:Cx}{pins:List (Addr×Obj)}{σ:St}{H:Hp}{s:Shared}{e C S f:Addr}{an:Str}{A:Around}{E:Value->Shared->Prop}
theorem zkk(Y:XC X.K C S f an)(I:Inv X pins σ H s)(he:H e=some (.ext (XO e C))){u:Value}{Q:Value->Shared->Prop}(hq:∀s',Inv X pins σ H s'->Q .none s'):
 wpAny (model X.prog X.w) A (call (.builtin "ValueError.__init__") [.ref e,u]) Q E s:=by
 obtain⟨N,nm,q,bs,sn,sub,ab,col,dd,k0,k1,k2,k3,k5,lk⟩:=Y.cls
 have hC:=I.kIn _ _ lk
 have T:OwnTail s.heap bmV (.ref S::bmV):=PySem.W.tail_of_in I.kIn Y.tl
 have F:=PySem.F.excBase_ValueError
 obtain⟨⟨t,hget⟩,_,_⟩:=I.hok e _ he
 have hlt:=zxG hget
 obtain⟨h,g,d,tk,os⟩:=s
 refine wpAny_call (codeAny_call_builtin F.init.plain F.initEntry (wpAny_check_init_subT F T hC hget rfl ?_))
 wp_walk
 refine hq _ ?_
 have hg2:=zxF (h:=h) {cls:=.type "tuple",data:=.seq [u].toArray} hget
 have W:=I.write (x:=e) (e:=e) (o:=.ext (XO e C)) (t':=tk) (h':=(h.push {cls:=.type "tuple",data:=.seq [u].toArray}).update e (Obj.mapFields (·.setIfInBounds 0 (.ref h.objs.size))))
  (by rw[he];exact True.intro) (.inl rfl) (λb o hb z=>(zxL _ _ (Ne.symm hb)).trans (zxF _ z)) ⟨_,zxP _ hg2 rfl⟩
  ⟨⟨_,zxP _ hg2 rfl⟩,⟨_,zxP _ hg2 rfl⟩,zpe⟩
 rw[zls he]at W
 exact W
theorem zlS{x:Str}{p apos pos:Pos}{a:Expr}{es:List Expr}{t:TA}{pl:Sem Bool}(Y:XC X.K C S f an)(Z:XS X.K S)(hg:Gl X x)(hm:X.mg x=some (.ref S))(ha:PA X (a::es) t)
 (hst:starEach (a::es) X.env=(false,eval a X.env)::starEach es X.env) (hpl:(backTo pos (starEach es X.env)).any (·.1)=false) (hdb:(x==("__debug__":Str))=false)
 (ht:eval (.Call (.Attribute (.Name x p) "__init__" apos) (a::es) [] pos) X.env=(do
  let ov <-eval (.Name x p) X.env
  standAt apos.atName
  let(f,first) <-holding [ov] (getMethod ov "__init__" pl)
  callWith pos f first (backTo pos (starEach (a::es) X.env)) (backToKw pos (keywordEach [] X.env)))):
 PE X (.Call (.Attribute (.Name x p) "__init__" apos) (a::es) [] pos) (λσ H Q=>t σ H λvs H1=>∃e y,vs=[.ref e,.str y]/\H1 e=some (.ext (XO e C))/\Q .non H1):=by
 intro pins s σ H Q I h
 refine PySem.W.methodCall_KW (pl:=pl) (YF I hg hm ?_ hdb) ht
 refine PySem.W.method_cls I.kIn Z.ga (PySem.W.cls_value I.kIn Z.rd Z.fi rfl ?_)
 have I1:=I.tok (s.toks+1)
 refine PyProof.Rows.callWith_builtin1 (thn (ha pos pins _ σ H _ I1 h) λus s1 ⟨vs,H1,I2,r,e,y,ev,he,q⟩=>?_) hst hpl
 subst ev
 cases r with
 |cons r1 r2=>
  cases r2 with
  |cons r2 r3=>
   cases r3
   cases(show _=Value.ref e from r1)
   exact zkk Y I2 he λs' I'=>⟨.non,H1,I',rfl,q⟩
def pOk:D->Bool
 | .str x=>x.cps.toList.all (λc=>decide (c<16 ^ 8))&&decide (x.length<=100)
 | .int i=>decide (i.natAbs.log2<1920)
 |_=>false
def XX:D->Bool
 | .tup ds=>decide (ds.length<=10)&&ds.all pOk
 |_=>false
theorem zjd:∀ds:List D,ds.all pOk=true->∃ps,zfZ ds=some ps/\PyData.showableAll ps=true/\PyData.hasDictAll ps=false/\PyData.depthAll ps=0/\(PyData.shownAll ps).length=ds.length/\((PyData.shownAll ps).map (·.length)).sum<=2000*ds.length
 | [],_=>⟨[],by unfold zfZ;rfl,by simp[PyData.showableAll],by simp[PyData.hasDictAll],by simp[PyData.depthAll],by simp[PyData.shownAll],by simp[PyData.shownAll]⟩
 |d::r,h=>by
  rw[List.all_cons,zzZ]at h
  obtain⟨ps,h1,h2,h3,h4,h5,h6⟩:=zjd r h.2
  have one:∃p,pyD d=some p/\p.showable=true/\p.hasDict=false/\p.depth=0/\p.shown.length<=2000:=by
   cases d with
   |str x=>
    have h:(x.cps.toList.all (λc=>decide (c<16 ^ 8))&&decide (x.length<=100))=true:=h.1
    rw[zzZ,List.all_eq_true,decide_eq_true_eq]at h
    refine⟨.str x,by unfold pyD;rfl,by simp[PyData.showable],by simp[PyData.hasDict],by simp[PyData.depth], ?_⟩
    have:=PySem.StrLaws.reprText_len x λc m=>of_decide_eq_true (h.1 c m)
    have:=h.2
    simp only[PyData.shown]
    omega
   |int i=>
    have h:decide (i.natAbs.log2<1920)=true:=h.1
    refine⟨.int i,by unfold pyD;rfl,by simpa[PyData.showable]using h,by simp[PyData.hasDict],by simp[PyData.depth], ?_⟩
    have:=int_text_length_le (k:=1920) (by decide) (of_decide_eq_true h)
    simp only[PyData.shown]
    rw[PySem.ofString_length];omega
   |_=>exact absurd h.1 (by simp[pOk])
  obtain⟨p,q1,q2,q3,q4,q5⟩:=one
  refine⟨p::ps,by unfold zfZ;rw[q1,h1];rfl,by simp[PyData.showableAll,q2,h2],by simp[PyData.hasDictAll,q3,h3],by simp[PyData.depthAll,q4,h4],by simp[PyData.shownAll,h5], ?_⟩
  simp only[PyData.shownAll,zyP,List.sum_cons,zzQ]
  omega
theorem zli{d:D}(h:XX d=true):∃ds p,d = .tup ds/\pyD d=some p/\p.showable=true/\p.hasDict=false/\p.depth<=60/\p.shown.length<=100000:=by
 cases d with
 |tup ds=>
  have h:(decide (ds.length<=10)&&ds.all pOk)=true:=h
  rw[zzZ,decide_eq_true_eq]at h
  obtain⟨ps,h1,h2,h3,h4,h5,h6⟩:=zjd ds h.2
  refine⟨ds,.tuple ps,rfl,by unfold pyD;rw[h1];rfl,by simpa[PyData.showable]using h2,by simpa[PyData.hasDict]using h3,by simp[PyData.depth,h4], ?_⟩
  have:=tupleText_len_le (PyData.shownAll ps)
  have:=h.1
  simp only[PyData.shown]
  omega
 |_=>cases h
theorem zoc{x:Str}{e:Expr}{j:Nat}{p p1 p2:Pos}{te:TE}(he:PE X e te)(hx:x.length<=1000)(hg:X.A.guards=some [])(hu:X.A.units+100<cLine):
 PE X (.JoinedStr [.Constant (.str x) j p1,.FormattedValue e 114 none p2] p) (λσ H Q=>te σ H λv H1=>∃kd O d,Rp X.K kd O H1 v d/\XX d=true/\∀y,Q (.str y) H1):=by
 intro pins s σ H Q I h
 refine wpAny_JoinedStr ?_
 refine thn (zmp pins s σ H (λv H'=>v = .str x/\H'=H) I ⟨rfl,rfl⟩) λu s1 ⟨v,H1,I1,r1,ev,eH⟩=>?_
 subst ev;subst eH
 obtain⟨tk,rfl⟩:=(show ∃t,u=Value.str x t from r1)
 have hx0:(Str.empty++x).length<=1000:=by rw[strLen_append];show 0+x.length<=1000;omega
 refine⟨x,tk,rfl,zzL hx0 (by rw[sizeLine_eq];omega), ?_⟩
 refine wpAny_FormattedValue_repr (thn (he pins s1 σ H1 _ I1 h) λu s2 ⟨v,H2,I2,r2,kd,O,d,rp,hd,q⟩=>?_)
 obtain⟨ds,pd,rfl,e1,e2,e3,e4,e5⟩:=zli hd
 obtain⟨as,rd⟩:=zhF I2 rp r2 e1
 have hv:∃a,u=Value.ref a:=by
  cases rp with
  |tup _ _ _=>cases r2;exact⟨_,rfl⟩
  |tupK _ _ _ _ _ _=>cases r2;exact⟨_,rfl⟩
 obtain⟨a,rfl⟩:=hv
 refine pyReprObj_of_reads rd e2 (PyData.noDict_hsm e3) hg (by omega) (λ_ _ e=>e) (λh' u' tk' hk=>?_) (zzL e5 (by rw[sizeLine_eq];omega))
 have I3:Inv X pins σ H2 {s2 with heap:=h',toks:=tk'}:=I2.kept hk
 have hz:((Str.empty++x)++pd.shown).length<=sizeLine:=by rw[strLen_append,sizeLine_eq];omega
 exact PyProof.Rows.formatField_str (λt' tk3=>⟨_,t',rfl,hz,hz,.str _,H2,(I3.tok _).tok _,⟨_,rfl⟩,q _⟩) (zzL e5 (by rw[sizeLine_eq];omega))
def XA(e C dx:Addr):Heap->Prop:=λh=>∃t,h.get? e=some {cls:=.ref C,dict:=some dx,data:=.fields #[.ref t,.none,.none,.none,.bool false,.none]}
theorem zsB{e C dx:Addr}:∀h1 h2:Heap,XA e C dx h1->(∀o,h1.get? e=some o->h2.get? e=some o)->XA e C dx h2:=λ_ _ ⟨t,q⟩ k=>⟨t,k _ q⟩
theorem zlw(Y:XC X.K C S f an)(I:Inv X pins σ H s)(he:H e=some (.ext (XO e C))){v:V}{u:Value}(rv:RelV v u){Q:Unit->Shared->Prop}
 (hq:∀dx s',H dx=none->dx≠e->Inv X pins σ (upd (upd H e (.ext (XA e C dx))) dx (.xd [(an,v)])) s'->Q () s'):
 wpAny (model X.prog X.w) A (setAttr (.ref e) an u) Q E s:=by
 obtain⟨N,nm,q,bs,sn,sub,ab,col,dd,k0,k1,k2,k3,k5,lk⟩:=Y.cls
 obtain⟨⟨t,hget⟩,_,_⟩:=I.hok e _ he
 have SF:=PySem.F.store_ValueError
 obtain⟨h,g,d,tk,os⟩:=s
 have hK:=I.kIn
 dsimp only at hget hK
 have J:PySem.W.InstAt h e {cls:=.ref C,data:=.fields #[.ref t,.none,.none,.none,.bool false,.none]} C none:=⟨hget,rfl,rfl,True.intro⟩
 refine PySem.W.set_plain I.kIn J Y.sat ?_
 have hc:PySem.W.clsIn X.K C=some {name:=nm,bases:=bs,mro:=.ref C :: .ref S::bmV,ns:=N,qualname:=q,hasDict:=true,slotNames:=sn,subclasses:=sub,abstract:=ab,collection:=col,hasDel:=false}:=by
  unfold PySem.W.clsIn;rw[lk]
 have L0:=J.type (M:=model X.prog X.w)
 have sb:PySem.W.Looks (model X.prog X.w) h (isInstance (.ref e) (.type "object")) true:=L0.andThen (PySem.W.looks_mroIn hK (by unfold PySem.W.mroIn;rw[hc];rfl))
 refine codeAny_call_builtin SF.slot.plain SF.entry (@PySem.W.check_slot (model X.prog X.w) _ _ ⟨h,g,d,tk+1,os⟩ "object.__setattr__" "object" "__setattr__" (.ref e) [.str an tk,u] [] _ SF.kind SF.split sb (SF.args (.ref e) (.str an tk) u) ?_)
 have hm:PySem.W.Looks (model X.prog X.w) h (mroOf (.ref C)) (.ref C :: .ref S::bmV):=(PySem.W.looks_clsIn hK hc).andThen .now
 rw[PySem.W.osa_eq,refuse_eq]
 refine zxD (zxD (L0.at (zxD (hm.at ?_))))
 rw[refuseLoop_ref,refuseLoop_ref,SF.passes]
 refine zxE (zxD (L0.at (zxD ((PySem.W.looks_findIn hK Y.att).at (zxD (zxE ?_))))))
 have hxs:e≠h.objs.size:=zzN (zxG hget)
 have hx1:(h.push {cls:=.type "dict",data:=.dict #[]}).get? e=some _:=zxF _ hget
 refine zxD (zxE (zxD (zxD (wpAny_loadPart hget (zxD ((PySem.W.looks_clsIn hK hc).at ?_))))))
 refine zxD (wpAny_alloc' ?_)
 refine zxD (wpAny_update' hx1 ?_)
 refine zxE ?_
 have hgd:((h.push {cls:=.type "dict",data:=.dict #[]}).update e λo=>{cls:=o.cls,dict:=some h.objs.size,data:=o.data,slots:=o.slots}).get? h.objs.size=some {cls:=.type "dict",data:=.dict #[]}:=
  (Heap.get?_update_ne _ _ _ _ hxs.symm).trans (Heap.get?_push_at rfl rfl)
 have hnd:((h.push {cls:=.type "dict",data:=.dict #[]}).update e λo=>{cls:=o.cls,dict:=some h.objs.size,data:=o.data,slots:=o.slots}).Ns h.objs.size (λ_=>none):=
  ⟨_,#[],_,hgd,rfl,λe he=>absurd he (by simp),λ_=>rfl⟩
 show wpAny _ _ (Builtin.ObjectAttr.storeInDict h.objs.size (.str an tk) an u) _ _ _
 unfold Builtin.ObjectAttr.storeInDict Builtin.ObjectAttr.newKeyGuard
 refine zxD (zxE (zxD (wpAny_nsSet1 (Heap.Ns1.of_empty hnd) λh' hn' hs=>?_)))
 obtain⟨oD,esD,epD,hoD,hdD,hcD⟩:=hn'.count (Within.cons an u Within.nil)
 refine zxD (wpAny_lookBehind hoD (by rw[hdD];exact pastItsLine_dict (zzL hcD (by rw[zzQ,List.length_nil,sizeLine_eq];omega))) ?_)
 refine zxE ?_
 have Wr:=I.write (x:=e) (e:=e) (o:=.ext (XA e C h.objs.size)) (t':=tk) (h':=h.update e λo=>{cls:=o.cls,dict:=some h.objs.size,data:=o.data,slots:=o.slots})
  (by rw[he];exact True.intro) (.inl rfl) (λb o hb z=>(zxL _ _ (Ne.symm hb)).trans z) ⟨_,zxP _ hget rfl⟩
  ⟨⟨_,zxP _ hget rfl⟩,⟨_,zxP _ hget rfl⟩,zsB⟩
 have hsz:(h.update e λo=>{cls:=o.cls,dict:=some h.objs.size,data:=o.data,slots:=o.slots}).objs.size=h.objs.size:=Heap.size_update _ _ _
 have hfree:H h.objs.size=none:=I.hok.fresh (zzK _)
 refine hq h.objs.size _ hfree (Ne.symm hxs) ?_
 refine Wr.laid (a:=h.objs.size) (h':=h') (t':=_) (λb o z=>?_) (by dsimp only;rw[hsz];exact zzK _) ⟨_,hn',λy=>?_⟩
 · have hb:b≠h.objs.size:=by
    intro z'
    have:=zxG z
    dsimp only at this
    rw[hsz,z']at this
    exact absurd this (Nat.lt_irrefl _)
   refine(hs.2 b hb).trans ?_
   dsimp only at z
   by_cases hbe:b=e
   · subst hbe
     rw[zxP _ hget rfl]at z
     rw[zxP _ hx1 rfl]
     exact z
   · rw[zxL _ _ (Ne.symm hbe)]at z
     rw[zxL _ _ (Ne.symm hbe)]
     exact zxF _ z
 · by_cases hy:y=an
   · subst hy
     simpa[List.lookup,zaw]using rv
   · have:(y==(an:Str))=false:=by simpa using hy
     simp[List.lookup,this,hy,zaw]
theorem zqI{o value:Expr}{to tv:TE}{pos pos':Pos}(Y:XC X.K C S f an)(ho:PE X o to)(hv:PE X value tv)(hs:swapsWith value (some (.Attribute o an pos')) pos.line X.env=pure false):
 PS X (.Assign [.Attribute o an pos'] value pos) (λD σ H=>tv σ H λv H1=>to σ H1 λx H2=>∃e,x = .ref e/\H2 e=some (.ext (XO e C))/\∀dx,H2 dx=none->dx≠e->D.nx σ (upd (upd H2 e (.ext (XA e C dx))) dx (.xd [(an,v)]))):=by
 intro pins s σ H D I h
 refine plainObj_wpAny_Assign_Attribute (thn (hv pins s σ H _ I h) λu s1 ⟨v,H1,I1,rv,q⟩=>thn (ho pins s1 σ H1 _ I1 q) λov s2 ⟨x,H2,I2,rx,e,ex,he,q2⟩=>?_) hs
 subst ex
 cases(show ov=Value.ref e from rx)
 exact zlw Y I2 he rv λdx s' hd hn I'=>⟨σ,_,I',q2 dx hd hn⟩
end
def spN(K:zC)(C:Addr)(an:Str):Sp:=λvs H Q _=>∃e v,vs=[.ref e,v]/\H e=some (.ext (XO e C))/\(∃kd O d,Rp K kd O H v d/\XX d=true)/\∀dx,H dx=none->dx≠e->Q .non (upd (upd H e (.ext (XA e C dx))) dx (.xd [(an,v)]))
theorem zoQ{K:zC}{C:Addr}{an:Str}:∀vs H Q E,spN K C an vs H Q E->vs.length=([("self":Str),an]:List Str).length:=λvs H Q E ⟨e,k,h,_⟩=>by rw[h];rfl
abbrev HX(an:Str)(H:Hp)(e C dx:Addr)(v:V):Hp:=upd (upd H e (.ext (XA e C dx))) dx (.xd [(an,v)])
theorem zlj{K:zC}{kd:KD}{O:Addr->Prop}{H H':Hp}{v:V}{d:D}(k:∀b u,H b=some u->H' b=some u)(h:Rp K kd O H v d):Rp K kd O H' v d:=
 (Rp.grow (F:=O) (W:=λ_=>False) (W':=λ_=>False) ⟨λb u z _=>k b u z,λ_ z=>z.elim⟩ (h.less λa z=>z.elim id λy=>y.elim)).less λa z=>.inl z
section
variable{X:Cx}{pins:List (Addr×Obj)}{σ:St}{H:Hp}{s:Shared}{e C S f:Addr}{an:Str}{n:Nat}{fd:FuncData}
theorem zsz(Y:XC X.K C S f an)(F:FnOk X.prog X.w X.K X.mg X.base CX0 n f fd ["self",an] (spN X.K C an))(hr:Room (n+1) X.A)(hb:Binds X.K fd ["self",an] [])(I:Inv X pins σ H s){k:V}{u:Value}(ru:RelV k u)(hk:∃kd O d,Rp X.K kd O H k d/\XX d=true)
 {Q:Value->Shared->Prop}{E:Value->Shared->Prop}(hq:∀e dx s',H e=none->H dx=none->dx≠e->X.s₀.heap.objs.size<=e->s.heap.get? dx=none->Inv X pins σ (HX an H e C dx k) s'->Q (.ref e) s'):wpAny (model X.prog X.w) X.A (call (.ref C) [u]) Q E s:=by
 obtain⟨h,g,d,t,os⟩:=s
 have hsz:=I.sz
 refine zsf Y I.kIn (by rw[sizeLine_eq];show 1<=16777216;decide) ?_
 have I1:Inv X pins σ H ⟨h.push {cls:=.type "tuple",data:=.seq [u].toArray},g,d,t,os⟩:=I.kept (t':=t) λb o z=>zxF _ z
 have I2:Inv X pins σ (upd H (h.objs.size+1) (.ext (XO (h.objs.size+1) C))) ⟨zhw h C [u],g,d,t,os⟩:=
  I1.laid (t':=t) (λb o z=>zxF _ z) (by rw[zxO];exact zzK _) ⟨⟨_,zgr⟩,⟨_,zgr⟩,zpe⟩
 have hf:H (h.objs.size+1)=none:=I.hok.fresh (zyU _)
 have hk2:∃kd O d,Rp X.K kd O (upd H (h.objs.size+1) (.ext (XO (h.objs.size+1) C))) k d/\XX d=true:=by
  obtain⟨kd,O,d,z1,z2⟩:=hk
  exact⟨kd,O,d,zlj (λb u z=>by rw[zM (yc z hf)];exact z) z1,z2⟩
 have r2:Vals [V.ref (h.objs.size+1),k] [Value.ref (h.objs.size+1),u]:=.cons rfl (.cons ru .nil)
 have sp:spN X.K C an [V.ref (h.objs.size+1),k] (upd H (h.objs.size+1) (.ext (XO (h.objs.size+1) C))) (λv H2=>v = .non/\∃dx,H dx=none/\dx≠h.objs.size+1/\H2=HX an H (h.objs.size+1) C dx k) E0:=
  ⟨_,_,rfl,zU,hk2,λdx h1 h2=>⟨rfl,dx,by rw[zM h2]at h1;exact h1,h2,by unfold HX;rw[zoH]⟩⟩
 refine wpAny_call (codeAny_mono (F.run _ X.stack _ _ ⟨[Value.ref (h.objs.size+1),u],[]⟩ [Value.ref (h.objs.size+1),u] _ _ E0 (hr.make C [u] []) (I2.env0.make C [u] []) (hb _ [Value.ref (h.objs.size+1),u] I2.kIn rfl) r2 sp) λr s' hq'=>?_)
 cases r with
 |error e=>exact False.elim hq'
 |ok fl=>
  cases fl with
  |ret u'=>
   obtain⟨v,H',I3,rv,ev,dx,h1,h2,e3⟩:=I2.after (Q:=λv H2=>v = .non/\∃dx,H dx=none/\dx≠h.objs.size+1/\h.get? dx=none/\H2=HX an H (h.objs.size+1) C dx k) (by
    obtain⟨v,H2,a1,a2,un,a3,a4,a5,dx,a6,a7,a8⟩:=hq'
    refine⟨v,H2,a1,a2,un,a3,a4,a5,dx,a6,a7, ?_,a8⟩
    cases z:h.get? dx with
    |none=>rfl
    |some o=>
     have:=un.free dx o (zci dx o z) (by rw[zM a7];exact a6) (by simp)
     rw[a8]at this
     unfold HX at this
     rw[zU]at this
     cases this)
   obtain⟨h3,e3⟩:=e3
   subst ev;subst e3
   exact⟨rv,hq _ dx s' hf h1 h2 (zzL hsz (zyU _)) h3 I3⟩
  |next=>exact False.elim hq'
  |brk=>exact False.elim hq'
  |cont=>exact False.elim hq'
theorem zmJ{x:Str}{np cpos pos:Pos}{a:Expr}{te:TE}(Y:XC X.K C S f an)(kp:PySem.W.keepIn X.K (.ref C)=true)(F:FnOk X.prog X.w X.K X.mg X.base CX0 n f fd ["self",an] (spN X.K C an))(hr:Room (n+1) X.A)(hb:Binds X.K fd ["self",an] [])
 (hg:Gl X x) (hm:X.mg x=some (.ref C)) (ha:PE X a te) (hdb:(x==("__debug__":Str))=false) (he:starEach [a] X.env=(false,eval a X.env)::starEach [] X.env) (hex:X.ex=[]):
 PS X (.Raise (some (.Call (.Name x np) [a] [] cpos)) none pos) (λD σ H=>te σ H λk H1=>(∃kd O d,Rp X.K kd O H1 k d/\XX d=true)/\
  ∀pins s' e dx,H1 e=none->H1 dx=none->dx≠e->X.s₀.heap.objs.size<=e->X.s₀.heap.get? dx=none->Inv X pins σ (HX an H1 e C dx k) s'->X.xe (.ref e) s'):=by
 intro pins s σ H D I h
 rw[arm_exec_Raise]
 obtain⟨N,nm,q,bs,sn,sub,ab,col,dd,k0,k1,k2,k3,k5,lk⟩:=Y.cls
 have hcB:(Value.ref C :: .ref S::bmV).contains (.type "BaseException")=true:=by simp
 have fin:∀(x:Sem Value) (s:Shared),wpAny (model X.prog X.w) X.A x (λv s'=>∃e dx k H1,v = .ref e/\dx≠e/\Inv X pins σ (HX an H1 e C dx k) s'/\X.xe (.ref e) s') X.xe s->
  wpAny (model X.prog X.w) X.A (raiseStmt X.env (some x) none) (SP X pins D) X.xe s:=λx s hx=>by
  unfold raiseStmt
  refine zxD (zxQ hx (λv s' h1=>?_) λ_ _ z=>z)
  obtain⟨e,dx,k,H1,rfl,hne,I',hx⟩:=h1
  have he:HX an H1 e C dx k e=some (.ext (XA e C dx)):=by unfold HX;rw[zM (Ne.symm hne),zU]
  obtain⟨⟨t,hget⟩,_,_⟩:=I'.hok e _ he
  have hC:=I'.kIn _ _ lk
  have hh:=hr.hd
  obtain⟨hp,g,d,tk,os⟩:=s'
  repeat (first|with_reducible refine wpAny_loadPart_at hget ?_|with_reducible refine wpAny_loadPart_at hC ?_|(with_reducible refine wpAny_isSubtype_exc hC ?_;rw[hcB])|wp_step)
  exact wpAny_raiseNew_none hh hx
 have main:wpAny (model X.prog X.w) X.A (eval (.Call (.Name x np) [a] [] cpos) X.env) (λv s'=>∃e dx k H1,v = .ref e/\dx≠e/\Inv X pins σ (HX an H1 e C dx k) s'/\X.xe (.ref e) s') X.xe s:=by
  refine wpAny_Call_Name_kw (YF I hg hm ?_ hdb)
  refine PySem.W.callWith_K (h₀:=X.base) I.ok.mod.kin kp (thn ((Zy ha Vl he) cpos pins s σ H (λvs H1=>match vs with
   | [k]=>(∃kd O d,Rp X.K kd O H1 k d/\XX d=true)/\∀pins s' e dx,H1 e=none->H1 dx=none->dx≠e->X.s₀.heap.objs.size<=e->X.s₀.heap.get? dx=none->Inv X pins σ (HX an H1 e C dx k) s'->X.xe (.ref e) s'
   |_=>False) I h) λus s1 ⟨vs,H1,I1,r,z⟩=>⟨I1.kIn, ?_⟩) he rfl
  cases r with
  |nil=>exact z.elim
  |cons r1 r2=>
   cases r2 with
   |nil=>
    obtain⟨hk,q⟩:=z
    exact zsz Y F hr hb I1 r1 hk λe dx s' h1 h2 h3 h4 h5 I'=>⟨e,dx,_,H1,rfl,h3,I',q pins s' e dx h1 h2 h3 h4 (by
     cases z:X.s₀.heap.get? dx with
     |none=>rfl
     |some o=>
      obtain⟨o',z'⟩:=I1.base.there dx o z (by rw[hex];simp)
      rw[h5]at z'
      cases z') I'⟩
   |cons _ _=>exact z.elim
 first
  |exact zxD (wpAny_standAt (fin _ _ (zxD (thn main λv s₁ h₁=>zxD (wpAny_standAt (zxE h₁))))))
  |(simp only[evalOpt,Option.map];exact zxD (wpAny_standAt (fin _ _ (zxD (thn main λv s₁ h₁=>zxD (wpAny_standAt (zxE h₁)))))))
end
structure Mv(fs ch:List Addr)(h h':Heap):Prop where
 keep:∀b o,b ∉ fs->b ∉ ch->h.get? b=some o->h'.get? b=some o
 slot:∀b o,b ∈ fs->b ∉ ch->h.get? b=some o->∃sl,h'.get? b=some {o with slots:=sl}
structure Fly(h:Heap)(e C dx T:Addr):Prop where
 ob:∃oe vs,h.get? e=some oe/\oe.cls = .ref C/\oe.dict=some dx/\oe.data = .fields vs/\vs[1]? = some (.ref T)
 tb:∃oT ts,h.get? T=some oT/\oT.data = .fields ts/\ts[3]? = some .none
 ne:T≠e
section
variable{M:Model}{A:Around}{E:Value->Shared->Prop}{s:Shared}{base:Heap}{env:Env}{outer:List Env}{L e C dx T:Addr}
theorem zlB{oe:Obj}{vs:Array Value}{head:Value}{hn:Bool}{Q:Unit->Shared->Prop}(hfr:A.frames=some (env::outer))(hl:s.heap.FunFrames base (env::outer))(hf:env.frame=some L)
 (he:s.heap.get? e=some oe) (hd:oe.data = .fields vs) (hsz:1<vs.size) (hc:oe.cls = .ref C) (hdx:oe.dict=some dx)
 (h:∀h' T,s.heap.objs.size<=T->Mv (frs (env::outer)) [e] s.heap h'->Fly h' e C dx T->Q () {s with heap:=h'}):
 wpAny M A (do let a <-frameOf env;let pl <-entryPlaceOf L hn;let b <-EntryCells.newEntry head a .none (rawInt L) .none pl;setField (.ref e) 1 b) (λ_ s'=>wpAny M A (setFlight (.ref e) none) Q E s') E s:=by
 have hene:e ∉ (env::outer).filterMap (·.frame):=λhm=>by
  obtain⟨_,o,ho,hnf⟩:=hl.mem hm
  rw[he]at ho;injection ho with ho;subst ho;exact hnf vs hd
 refine zxD (wpAny_frameOf_fun hfr hl hf λh1 hs1=>?_)
 refine zxD (wpAny_entryPlaceOf λpl hpl=>?_)
 unfold EntryCells.newEntry newFields
 refine zxD (zxI ?_ (hpl.sizeOk5 _ _ _ _ _))
 generalize hob:({cls:=.type "traceback",dict:=none,data:=.fields ([head,.ref L,.none,rawInt L,.none]++(if pl.isEmpty then List.replicate 6 Value.none else pl)).toArray}:Obj)=ob
 have hobd:ob.data = .fields ([head,.ref L,.none,rawInt L,.none]++(if pl.isEmpty then List.replicate 6 Value.none else pl)).toArray:=by rw[<-hob]
 have he1:h1.get? e=some oe:=(hs1.2.1 e hene).trans he
 have he2:=zxF (h:=h1) ob he1
 refine wpAny_setField he2 hd hsz ?_
 have hTe:h1.objs.size≠e:=Nat.ne_of_gt (zxG he1)
 have hd3:=Obj.data_mapFields hd (·.setIfInBounds 1 (Value.ref h1.objs.size))
 have he3:=zxP (Obj.mapFields (·.setIfInBounds 1 (Value.ref h1.objs.size))) he2 (Obj.isFreed_of_fields hd3)
 have hT3:=(zxL (h1.push ob) (Obj.mapFields (·.setIfInBounds 1 (Value.ref h1.objs.size))) (Ne.symm hTe)).trans (zxH h1 (Obj.isFreed_of_fields hobd))
 unfold setFlight
 refine zxD (wpAny_field he3 hd3 (x:=.ref h1.objs.size) (by simp[hsz]) ?_)
 rw[if_pos (show(Value.ref h1.objs.size != Value.none)=true from by simp)]
 refine wpAny_setField hT3 hobd (by simp only[zzE,zzG,zzQ,List.length_nil]<;>omega) (h _ h1.objs.size (by rw[hs1.1];exact zzK _) ⟨λb o hb1 hb2 hb=>?_,λb o hb1 hb2 hb=>?_⟩ ?_)
 · have hbe:b≠e:=λz=>hb2 (by rw[z];exact zzO.mpr rfl)
   have hb':h1.get? b=some o:=(hs1.2.1 b hb1).trans hb
   rw[zxL _ _ (Nat.ne_of_gt (zxG hb')),zxL _ _ (Ne.symm hbe)]
   exact zxF _ hb'
 · have hbe:b≠e:=λz=>hb2 (by rw[z];exact zzO.mpr rfl)
   obtain⟨sl,hb'⟩:=hs1.2.2 b o hb
   refine⟨sl, ?_⟩
   rw[zxL _ _ (Nat.ne_of_gt (zxG hb')),zxL _ _ (Ne.symm hbe)]
   exact zxF _ hb'
 · refine⟨⟨_,_, ?_, ?_, ?_,hd3,by simp[hsz]⟩,⟨_,_,zxP _ hT3 (Obj.isFreed_of_fields (Obj.data_mapFields hobd _)),Obj.data_mapFields hobd _,by first|(simp;done)|(rcases hpl with rfl|⟨_,_,_,_,_,_,_,rfl⟩<;>simp)⟩,hTe⟩
   · rw[zxL _ _ hTe];exact he3
   · rw[Obj.cls_mapFields];exact hc
   · obtain⟨c0,d0,dt,sl⟩:=oe
     dsimp only at hd hdx
     subst hd
     exact hdx
theorem leave1{oe:Obj}{vs:Array Value}{Q:Unit->Shared->Prop}(hfr:A.frames=some (env::outer))(hl:s.heap.FunFrames base (env::outer))(hf:env.frame=some L)
 (he:s.heap.get? e=some oe) (hd:oe.data = .fields vs) (h1:vs[1]? = some .none) (hc:oe.cls = .ref C) (hdx:oe.dict=some dx)
 (h:∀h' T,s.heap.objs.size<=T->Mv (frs (env::outer)) [e] s.heap h'->Fly h' e C dx T->Q () {s with heap:=h'}):wpAny M A (leaving env (.ref e)) Q E s:=by
 unfold leaving noteFrame
 simp only[hf]
 refine zxD (zxD (wpAny_field he hd h1 ?_))
 rw[if_neg (by decide)]
 exact zlB hfr hl hf he hd (Array.getElem?_eq_some_iff.mp h1).1 hc hdx h
theorem znq{Q:Unit->Shared->Prop}(hfr:A.frames=some (env::outer))(hl:s.heap.FunFrames base (env::outer))(hf:env.frame=some L)(F:Fly s.heap e C dx T)
 (h:∀h' T',s.heap.objs.size<=T'->Mv (frs (env::outer)) [e,T] s.heap h'->Fly h' e C dx T'->Q () {s with heap:=h'}):
 wpAny M A (noteFrame (.ref e) env) (λ_ s'=>wpAny M A (setFlight (.ref e) none) Q E s') E s:=by
 obtain⟨⟨oe,vs,he,hc,hdx,hd,h1⟩,⟨oT,ts,hT,hdT,h3⟩,hTe⟩:=F
 unfold noteFrame
 simp only[hf]
 refine zxD (wpAny_field he hd h1 ?_)
 rw[if_pos (show(Value.ref T != Value.none)=true from by simp)]
 refine zxD (wpAny_field hT hdT h3 ?_)
 rw[if_neg (show ¬((Value.none==rawInt L)=true)from by simp[rawInt])]
 refine zxD (wpAny_setField hT hdT (Array.getElem?_eq_some_iff.mp h3).1 ?_)
 have other:∀b,b≠T->(s.heap.update T (Obj.mapFields (·.setIfInBounds 3 Value.none))).get? b=s.heap.get? b:=λb hb=>zxL _ _ (Ne.symm hb)
 have noRec:∀b o,s.heap.get? b=some o->(∀vs,o.data ≠ .fields vs)->b≠T:=λb o hb hnf q=>by
  rw[q,hT]at hb;injection hb with hb;subst hb;exact hnf ts hdT
 refine zlB hfr (hl.of_keeps λb o hb hnf=>⟨o,(other b (noRec b o hb hnf)).trans hb,rfl⟩) hf ((other e (Ne.symm hTe)).trans he) hd (Array.getElem?_eq_some_iff.mp h1).1 hc hdx λh' T' hz m F=>h h' T' ?_ ⟨λb o h1 h2 h3=>?_,λb o h1 h2 h3=>?_⟩ F
 · dsimp only at hz;rw[Heap.size_update]at hz;exact hz
 · exact m.keep b o h1 (λz=>h2 (by rw[zzO.mp z];exact zzC)) ((other b λz=>h2 (by rw[z];simp)).trans h3)
 · exact m.slot b o h1 (λz=>h2 (by rw[zzO.mp z];exact zzC)) ((other b λz=>h2 (by rw[z];simp)).trans h3)
theorem land{Q:Unit->Shared->Prop}(F:Fly s.heap e C dx T)(h:∀h',Mv [] [T] s.heap h'->Fly h' e C dx T->s.heap.objs.size=h'.objs.size->Q () {s with heap:=h'}):wpAny M A (setFlight (.ref e) none) Q E s:=by
 obtain⟨⟨oe,vs,he,hc,hdx,hd,h1⟩,⟨oT,ts,hT,hdT,h3⟩,hTe⟩:=F
 refine wpAny_setFlight_none he hd h1 hT hdT (Array.getElem?_eq_some_iff.mp h3).1 (h _ ⟨λb o _ hb z=>?_,λb o hb=>nomatch hb⟩ ⟨⟨oe,vs, ?_,hc,hdx,hd,h1⟩,⟨_,_,zxP _ hT (Obj.isFreed_of_fields (Obj.data_mapFields hdT _)),Obj.data_mapFields hdT _, ?_⟩,hTe⟩ (Heap.size_update _ _ _).symm)
 · rw[zxL _ _ λq=>hb (by rw[q];simp)];exact z
 · rw[zxL _ _ hTe];exact he
 · have:=(Array.getElem?_eq_some_iff.mp h3).1
   simp[this]
end
theorem zkQ{P:Program}{w:World}{fs ch:List Addr}{H:Hp}{h h':Heap}(m:Mv fs ch h h')(hok:HOk P w H h)(hfs:∀b ∈ fs,H b=none)(hch:∀b ∈ ch,H b=none):Un fs ch H H h h'/\HOk P w H h':=by
 refine⟨⟨λb o e _ h1 h2=>m.keep b o h1 h2 e,λb o e _ h1 h2=>m.slot b o h1 h2 e,λb o e n _=>n,λb o e h2=>?_,λ_ _ q=>q,λ_ _ _ q=>q,λb ps q=>⟨#[],by rw[q,Array.append_empty]⟩⟩,λa o e=>?_⟩
 · by_cases hb:b ∈ fs
   · obtain⟨sl,z⟩:=m.slot b o hb h2 e;exact⟨_,z⟩
   · exact⟨o,m.keep b o hb h2 e⟩
 · refine(hok a o e).stay (λb u hb z=>m.keep b u (λq=>?_) (λq=>?_) z) (λ_ q=>q) λ_ _ q=>q
   · have:=hfs b q
     rcases hb with rfl|hb
     · rw[e]at this;cases this
     · rw[hb]at this;cases this
   · have:=hch b q
     rcases hb with rfl|hb
     · rw[e]at this;cases this
     · rw[hb]at this;cases this
def cv:V->Value
 | .non=>.none
 | .bl b=>.bool b
 | .int i=>.int i 0
 | .str x=>.str x 0
 | .byt b=>.bytes b 0
 | .flt b=>.float b 0
 | .ref a=>.ref a
 | .ty n=>.type n
def CX1(P:Program)(w:World)(C:Addr)(an:Str):CXT:=λouter H s E v s'=>∃e dx T k H',v = .ref e/\s'.os=s.os/\AllBare s'.gens/\Un (frs outer) [] H H' s.heap s'.heap/\HOk P w H' s'.heap/\Fly s'.heap e C dx T/\
 s.heap.objs.size<=e/\s.heap.objs.size<=T/\s.heap.get? dx=none/\H' e=none/\H' T=none/\H' dx=none/\dx≠e/\dx≠T/\(∃mA,s'.heap.Ns1 dx mA/\∀f,zaw (([(an,k)]:List (Str×V)).lookup f) (mA f))/\E (cv k) none H'
section
variable{P:Program}{w:World}{K:zC}{mg:Str->Option Value}{base:Heap}{N:List Str}{qual:Str}{scope:Scope}{f:Addr}{cd:Value}{A:Around}{outer:List Env}{s:Shared}{H:Hp}{E:XK}{C:Addr}{an:Str}
theorem zmW{pins:List (Addr×Obj)}{σ:St}{H1:Hp}{s':Shared}{e dx:Addr}{k:V}(h1:H1 e=none)(h2:H1 dx=none)(hne:dx≠e)
 (hs:s.heap.objs.size<=e) (hsd:s.heap.get? dx=none) (I:Inv (Xz (CX1 P w C an) P w K mg base N qual scope f cd A outer s H E) pins σ (HX an H1 e C dx k) s') (hE:E (cv k) none H1):
 (Xz (CX1 P w C an) P w K mg base N qual scope f cd A outer s H E).xe (.ref e) s':=by
 have he:HX an H1 e C dx k e=some (.ext (XA e C dx)):=by unfold HX;rw[zM (Ne.symm hne),zU]
 have hd:HX an H1 e C dx k dx=some (.xd [(an,k)]):=by unfold HX;rw[zU]
 have ho:∀b,b≠e->b≠dx->HX an H1 e C dx k b=H1 b:=λb hb hb'=>by unfold HX;rw[zM hb',zM hb]
 have ho':∀b u,HX an H1 e C dx k b=some u->(∀φ,u ≠ .ext φ)->(∀fs,u ≠ .xd fs)->H1 b=some u:=λb u z n1 n2=>by
  rw[<-ho b (λq=>by rw[q,he]at z;cases z;exact n1 _ rfl) λq=>by rw[q,hd]at z;cases z;exact n2 _ rfl];exact z
 obtain⟨⟨t,hget⟩,_,_⟩:=I.hok e _ he
 obtain⟨mA,hNs,hrel⟩:=I.hok dx _ hd
 have frE:∀b ∈ frs (envOfC qual scope s.heap.objs.size f cd::outer),HX an H1 e C dx k b=none:=I.stkFree
 refine leave1 (base:=base) (L:=s.heap.objs.size) I.ok.frames I.stack rfl hget rfl rfl rfl rfl λh' T hT m F=>?_
 have hTn:HX an H1 e C dx k T=none:=I.hok.fresh hT
 have hTe:T≠e:=F.ne
 have hTd:dx≠T:=λq=>by rw[<-q,hd]at hTn;cases hTn
 have small:∀b o,s.heap.get? b=some o->b≠e:=λb o z q=>by have:=zxG z;rw[q]at this;exact absurd this (Nat.not_lt.mpr hs)
 have smalld:∀b o,s.heap.get? b=some o->b≠dx:=λb o z q=>by rw[q,hsd]at z;cases z
 have nloc:∀b o,s.heap.get? b=some o->b ∉ frs outer->b ∉ frs (envOfC qual scope s.heap.objs.size f cd::outer):=λb o z hb q=>by
  rcases zS.mp (show b ∈ s.heap.objs.size::frs outer from q)with q|q
  · have:=zxG z;rw[q]at this;exact absurd this (Nat.lt_irrefl _)
  · exact hb q
 have n1:∀b,b≠e->b ∉ [e]:=λb hb q=>hb (zzO.mp q)
 have ndx:dx ∉ frs (envOfC qual scope s.heap.objs.size f cd::outer):=λq=>by have:=frE dx q;rw[hd]at this;cases this
 have hNs':h'.Ns1 dx mA:=by
  obtain⟨o,es,ep,z,r⟩:=hNs
  exact⟨o,es,ep,m.keep dx o ndx (n1 dx hne) z,r⟩
 refine⟨e,dx,T,k,H1,rfl,I.os,I.bare,⟨λb o z n hb hx=>?_,λb o z n hb hx=>?_,λb o z n hx=>?_,λb o z hx=>?_,λb xs z=>?_,λb o u z=>?_,λb ps z=>?_⟩,λa o z=>?_,F,hs,zzL I.sz hT,hsd,h1,by rw[<-ho T hTe (Ne.symm hTd)];exact hTn,h2,hne,hTd,⟨mA,hNs',hrel⟩,hE⟩
 · exact m.keep b o (nloc b o z hb) (n1 b (small b o z)) (I.base.keep b o z n hb hx)
 · obtain⟨sl,q⟩:=I.base.slot b o z n hb hx
   obtain⟨sl',q'⟩:=m.slot b _ (zzA _ hb) (n1 b (small b o z)) q
   exact⟨sl',q'⟩
 · rw[<-ho b (small b o z) (smalld b o z)];exact I.base.free b o z n hx
 · obtain⟨o',q⟩:=I.base.there b o z hx
   by_cases hb:b ∈ frs (envOfC qual scope s.heap.objs.size f cd::outer)
   · obtain⟨sl,q'⟩:=m.slot b _ hb (n1 b (small b o z)) q;exact⟨_,q'⟩
   · exact⟨o',m.keep b o' hb (n1 b (small b o z)) q⟩
 · exact ho' b _ (I.base.tups b xs z) (λ_ q=>nomatch q) λ_ q=>nomatch q
 · exact ho' b _ (I.base.frzs b o u z) (λ_ q=>nomatch q) λ_ q=>nomatch q
 · obtain⟨more,q⟩:=I.base.tbls b ps z
   exact⟨more,ho' b _ q (λ_ q=>nomatch q) λ_ q=>nomatch q⟩
 · have hae:a≠e:=λr=>by rw[r,h1]at z;cases z
   have had:a≠dx:=λr=>by rw[r,h2]at z;cases z
   have q:=I.hok a o (by rw[ho a hae had];exact z)
   refine q.stay (λb u hb r=>m.keep b u (λy=>?_) (n1 b λy=>?_) r) (λb r=>ho' b _ r (λ_ q=>nomatch q) λ_ q=>nomatch q) λb xs r=>ho' b _ r (λ_ q=>nomatch q) λ_ q=>nomatch q
   · have:=frE b y
     rcases hb with rfl|hb
     · rw[ho b hae had,z]at this;cases this
     · rw[hb]at this;cases this
   · rcases hb with hb|hb
     · exact hae (hb ▸ y)
     · rw[y,he]at hb;cases hb
end
def nxA:Out->Option AS
 | .nx as=>some as
 |_=>none
theorem zii{o:Out}{as:AS}(h:nxA o=some as):o = .nx as:=by cases o<;>cases h;rfl
def slD(as:AS)(i:Nat):Option D:=match as[i]? with
 |some (some (.lf true d))=>some d
 |_=>none
theorem zrs{as:AS}{i:Nat}{d:D}(h:slD as i=some d):as[i]? = some (some (.lf true d)):=by
 unfold slD at h
 cases e:as[i]? with
 |none=>rw[e]at h;cases h
 |some x=>
  rw[e]at h
  cases x with
  |none=>cases h
  |some o=>
   cases o with
   |nd _ _=>cases h
   |lf st d=>
    cases st with
    |true=>cases h;rfl
    |false=>cases h
theorem Rel.slD{K:zC}{kd:KD}{F B:Addr->Prop}{T:List Addr}{ad:Ad}{as:AS}{σ:St}{H:Hp}{i:Nat}{d:D}(R:Rel K kd F B T ad as σ H)(h:PF.slD as i=some d):∃v,σ[i]? = some (some v)/\Rp K kd (Lv F B (Gw T ad) true) H v d:=by
 obtain⟨v,hv,ro⟩:=R.sl i _ (zrs h)
 generalize ad i=fp at ro
 cases ro with
 |lf r=>exact⟨v,hv,r⟩
def gX(n m i:Nat)(c1:SF)(tc:TF)(ds:List (Bool×D)):Option D:=
 if ds.length=m then(c1 (xW n ds)).bind λo1=>(nxA o1).bind λas1=>(tc as1).bind λp=>if p.1=true then(slD p.2 i).bind λd=>if XX d=true then some d else none else none else none
def spX(K:zC)(kd:KD)(g:List (Bool×D)->Option D):Sp:=λvs H _ E=>∃F ds d,(∀a,F a->H a≠none)/\RpA K kd F H vs ds/\g ds=some d/\∀v H',(∀b u,H b=some u->H' b=some u)->Rp K kd F H' v d->E (cv v) none H'
theorem zrP:∀a,¬Gw [] (λ_=>[]) a:=λa z=>z.elim (λy=>nomatch y) λ⟨_,y⟩=>nomatch y
section
variable{P:Program}{w:World}{K:zC}{mg:Str->Option Value}{base:Heap}
theorem zrZ{kd:KD}{x qual an:Str}{st:Stmt}{f C:Addr}{fd:FuncData}{N ps:List Str}{k i:Nat}{c1:SF}{tc:TF}{a1 rs:Stmt}{c:Expr}{rest:List Stmt}{pos:Pos}(Fn:Fun K x qual st f fd)(S:FnScope N ps (zu st))
 (hB:YC st=a1 :: .If c [rs] [] pos::rest)
 (hb:∀(cdv:Value) (A:Around) (outer:List Env) (s:Shared) (H:Hp) (E:XK),Room k (A.deeper (envOfC qual (zu st) s.heap.objs.size f cdv))->
  ASt (Xz (CX1 P w C an) P w K mg base N qual (zu st) f cdv A outer s H E) kd a1 c1/\AT (Xz (CX1 P w C an) P w K mg base N qual (zu st) f cdv A outer s H E) kd c tc/\
  PS (Xz (CX1 P w C an) P w K mg base N qual (zu st) f cdv A outer s H E) rs (λD σ H'=>zcn i σ H' λk H1=>(∃kd O d,Rp K kd O H1 k d/\XX d=true)/\
   ∀pins s' e dx,H1 e=none->H1 dx=none->dx≠e->s.heap.objs.size<=e->s.heap.get? dx=none->Inv (Xz (CX1 P w C an) P w K mg base N qual (zu st) f cdv A outer s H E) pins σ (HX an H1 e C dx k) s'->(Xz (CX1 P w C an) P w K mg base N qual (zu st) f cdv A outer s H E).xe (.ref e) s')):
 FnOk P w K mg base (CX1 P w C an) (k+1) f fd ps (spX K kd (gX N.length ps.length i c1 tc)):=by
 with_unfolding_all (
 obtain⟨oc,od,kV,doc,pm,an',cdv,ct,osl,rfl,lk,hcd⟩:=Fn.ex
 refine zlO lk hcd S (λvs H Q E h=>?_) λA outer s H vs Q E hr hsp=>?_
 · obtain⟨F,ds,r,_,rp,e,_⟩:=h
   unfold gX at e
   by_cases hl:ds.length=ps.length
   · rw[rp.length,hl]
   · rw[if_neg hl]at e;cases e
 · obtain⟨F,ds,r,ht,rp,e,q⟩:=hsp
   unfold gX at e
   by_cases hl:ds.length=ps.length
   · rw[if_pos hl]at e
     obtain⟨o1,e1,e⟩:=bS_ e
     obtain⟨as1,y1,e⟩:=bS_ e
     obtain⟨⟨p,as3⟩,e3,e⟩:=bS_ e
     obtain⟨hp,e⟩:=ite_some' e
     obtain⟨k',e4,e⟩:=bS_ e
     obtain⟨hk,e⟩:=zO e
     subst e
     cases zii y1
     dsimp only at hp e4
     subst hp
     obtain⟨h1,h3,h4⟩:=hb cdv A outer s H E hr
     have h5:PSs (Xz (CX1 P w C an) P w K mg base N qual (zu st) f cdv A outer s H E) rest (λ_ _ _=>False):=λ_ _ _ _ _ _ z=>z.elim
     rw[hB]
     refine⟨_,Wc h1 (Wc (zpf h3 (zdg h4) zgA) h5), ?_⟩
     refine⟨F,λ_=>False,λ_=>[],xW N.length ds,_,zcl ht rp,e1,λσ1 ad1 H1 R1 g1=>?_⟩
     refine⟨F,λ_=>False,ad1,as1,true,as3,R1,e3,λad3 H3 R3 g3=>?_⟩
     obtain⟨v,hv,rv⟩:=R3.slD e4
     refine⟨v,hv,⟨kd,_,k',rv,hk⟩,λpins s' e dx z1 z2 z3 z4 z5 I=>?_⟩
     refine zmW z1 z2 z3 z4 z5 I (q v _ (λb u hb=>?_) (rv.less λa z=>.inl (.inl ⟨rfl,z⟩)))
     exact(g1.trans g3).keep b u hb (zrP b)
   · rw[if_neg hl]at e;cases e)
end
section
variable{X:Cx}{pins:List (Addr×Obj)}{σ:St}{H:Hp}{s:Shared}{M:Model}{A:Around}{E:Value->Shared->Prop}
theorem zjR{j:Nat}{n:Str}{pos:Pos}{Q:Unit->Shared->Prop}(I:Inv X pins σ H s)(hN:X.N.Nodup)(hj:X.N[j]? = some n)(hk:X.env.kindOf n=some .local)(h:∀s',Inv X pins (σ.set j none) H s'->Q () s'):
 wpAny M A (do bindName X.env n .none;unbindBehindTheSuite X.env n pos) Q E s:=by
 obtain⟨m,hn,hl⟩:=id I.loc
 have hcls:(X.env.scope.kind == .class||(X.env.scope.kind == .module&&X.env.locals != X.env.globals))=false:=by rw[I.ok.kind];rfl
 have cne:=I.cne
 refine wpAny_nameGoes_keeps hk hn hcls λh' v hn' hs=>?_
 obtain⟨oL,_,_,hoL,_⟩:=id hn
 have tracked:HOk X.prog X.w H h':=λb ob e=>by
  refine(I.hok b ob e).stay (λc w' hc q=>(hs.2 c ?_).trans q) (λ_ q=>q) λ_ _ q=>q
  rintro rfl
  rcases hc with z|hc
  · rw[<-z,I.free]at e;cases e
  · rw[I.free]at hc;cases hc
 have nl:∀b o,X.s₀.heap.get? b=some o->b≠X.env.locals:=λb o e=>zzN (zzH (zxG e) I.ok.above)
 refine h _ ⟨I.ok,I.os,I.bare,⟨λb o e n hb hx=>(hs.2 b (nl b o e)).trans (I.base.keep b o e n hb hx),λb o e n hb hx=>?_,I.base.free,λb o e hx=>?_,I.base.tups,I.base.frzs,I.base.tbls⟩,⟨_,hn',λi y v' e1 e2 e3=>?_⟩,λy c e=>?_,I.free,I.freeC,λp hp=>?_,tracked,by simpa using I.len⟩
 · obtain⟨sl,e1⟩:=I.base.slot b o e n hb hx
   exact⟨sl,(hs.2 b (nl b o e)).trans e1⟩
 · obtain⟨o',e1⟩:=I.base.there b o e hx
   exact⟨o',(hs.2 b (nl b o e)).trans e1⟩
 · by_cases hij:i=j
   · subst hij
     rw[List.getElem?_set]at e2
     simp at e2
   · rw[zzV (Ne.symm hij)]at e2
     obtain⟨u',r',q⟩:=hl i y v' e1 e2 e3
     refine⟨u',r', ?_⟩
     rcases q with⟨k,e⟩|⟨k,c,e,z⟩
     · refine .inl ⟨k, ?_⟩
       have:y≠n:=λe=>hij (zea hN e1 (e ▸ hj))
       simp[this,e]
     · exact .inr ⟨k,c,e,z.sameBut hs (cne y c e)⟩
 · obtain⟨w',z⟩:=I.cell y c e
   exact⟨w',z.sameBut hs (cne y c e)⟩
 · obtain⟨e,n,ne,nf,d⟩:=I.pin p hp
   exact⟨(hs.2 p.1 ne).trans e,n,ne,nf,d⟩
abbrev inX(X:Cx)(e:Addr)(pl:List (Addr×Obj)):Cx:={X with A:=X.A.mark (some (.ref e)),calm:=false,pn:=pl++X.pn}
theorem zsk{e:Addr}{pl:List (Addr×Obj)}(o:X.Ok):(inX X e pl).Ok:=⟨o.mod,o.kind,o.glob,o.blt,o.above,o.inj,o.has,o.cab,(λz=>nomatch z),o.frames,o.stk,o.exf,o.bs,o.bsz,o.noex,o.exfs,o.funs,o.frf⟩
theorem zld{e:Addr}{pl:List (Addr×Obj)}(I:Inv X pins σ H s)(h:∀p ∈ pl,s.heap.get? p.1=some p.2/\H p.1=none/\p.1≠X.env.locals/\p.1 ∉ X.fs/\∀v,p.2.data ≠ .cell v):Inv (inX X e pl) pins σ H s:=
 ⟨zsk I.ok,I.os,I.bare,I.base,I.loc,I.cell,I.free,I.freeC,λp hp=>by
  rw[zxA]at hp
  rcases zzJ.mp hp with z|z
  · exact h p z
  · exact I.pin p z,I.hok,I.len⟩
theorem zoS{e:Addr}{pl:List (Addr×Obj)}(o:X.Ok)(I:Inv (inX X e pl) pins σ H s):Inv X pins σ H s:=
 ⟨o,I.os,I.bare,I.base,I.loc,I.cell,I.free,I.freeC,λp hp=>I.pin p (by rw[zxA];exact zzI _ hp),I.hok,I.len⟩
end
def Far(X:Cx)(pins:List (Addr×Obj))(b:Addr):Prop:=(b ∈ X.ex\/X.s₀.heap.objs.size<=b)/\b≠X.env.locals/\(∀x c,X.env.cells.lookup x=some c->c≠b)/\∀p ∈ X.pn++pins,p.1≠b
structure Thr(X:Cx)(C:Addr)(an:Str)(pins:List (Addr×Obj))(σ:St)(e dx T:Addr)(v:V)(H:Hp)(s:Shared):Prop where
 inv:Inv X pins σ H s
 fly:Fly s.heap e C dx T
 fe:Far X pins e
 fT:Far X pins T
 se:X.s₀.heap.objs.size<=e
 sT:X.s₀.heap.objs.size<=T
 l:dx≠X.env.locals
 cl:∀x c,X.env.cells.lookup x=some c->c≠dx
 fr:dx ∉ frs X.stack
 fre:e ∉ frs X.stack
 pd:∀p ∈ X.pn++pins,p.1≠dx
 s0:X.s₀.heap.get? dx=none
 ne:H e=none
 nT:H T=none
 nd:H dx=none
 d1:dx≠e
 d2:dx≠T
 ns:∃mA,s.heap.Ns1 dx mA/\∀f,zaw (([(an,v)]:List (Str×V)).lookup f) (mA f)
section
variable{X:Cx}{pins:List (Addr×Obj)}{σ:St}{H:Hp}{s s':Shared}{C:Addr}{an:Str}{E:XK}{v:Value}
theorem znb(hex:X.ex=[])(I:Inv X pins σ H s)(h:CX1 X.prog X.w C an X.stack H s E v s'):∃e dx T k H',v = .ref e/\Thr X C an pins σ e dx T k H' s'/\E (cv k) none H':=by
 obtain⟨e,dx,T,k,H',rfl,hos,hb,un,hok,fly,l1,l2,l3,n1,n2,n3,n4,n5,ns,hE⟩:=h
 have out1:∀b,s.heap.objs.size<=b->Far X pins b:=λb hb=>by
  refine⟨.inr (zzL I.sz hb),λz=>absurd (zzH I.lt hb) (by rw[z];exact Nat.lt_irrefl _),λy c z w=>?_,λp hp w=>?_⟩
  · obtain⟨v,o,z',_⟩:=I.cell y c z
    exact absurd (zzH (zxG z') hb) (by rw[w];exact Nat.lt_irrefl _)
  · exact absurd (zzH (zxG (I.pin p hp).1) hb) (by rw[w];exact Nat.lt_irrefl _)
 have frx:∀b ∈ frs X.stack,∃o,s.heap.get? b=some o:=λb hb=>by
  obtain⟨_,o,z,_⟩:=I.stack.mem hb
  exact⟨o,z⟩
 refine⟨e,dx,T,k,H',rfl,⟨I.call' (ch:=[]) hos un hok hb (λb z=>nomatch z),fly,out1 e l1,out1 T l2,zzL I.sz l1,zzL I.sz l2, ?_, ?_, ?_, ?_, ?_, ?_,n1,n2,n3,n4,n5,ns⟩,hE⟩
 · intro z
   obtain⟨m,⟨o,_,_,z',_⟩,_⟩:=I.loc
   rw[<-z,l3]at z';cases z'
 · intro y c z w
   obtain⟨v,o,z',_⟩:=I.cell y c z
   rw[w,l3]at z';cases z'
 · intro z
   obtain⟨o,z'⟩:=frx dx z
   rw[l3]at z';cases z'
 · intro z
   obtain⟨o,z'⟩:=frx e z
   exact absurd (zzH (zxG z') l1) (Nat.lt_irrefl _)
 · intro p hp z
   have z':=(I.pin p hp).1
   rw[z,l3]at z';cases z'
 · cases z:X.s₀.heap.get? dx with
   |none=>rfl
   |some o=>
    obtain⟨o',z'⟩:=I.base.there dx o z (by rw[hex];simp)
    rw[l3]at z';cases z'
end
section
variable{P:Program}{w:World}{K:zC}{mg:Str->Option Value}{base:Heap}{N:List Str}{qual:Str}{scope:Scope}{f:Addr}{cd:Value}{A:Around}{outer:List Env}{s:Shared}{H:Hp}{E:XK}{C:Addr}{an:Str}
theorem zkn{pins:List (Addr×Obj)}{σ:St}{H1:Hp}{s':Shared}{e dx T:Addr}{k:V}(t:Thr (Xz (CX1 P w C an) P w K mg base N qual scope f cd A outer s H E) C an pins σ e dx T k H1 s')(hE:E (cv k) none H1):
 (Xz (CX1 P w C an) P w K mg base N qual scope f cd A outer s H E).xe (.ref e) s':=by
 have I:=t.inv
 show wpAny _ _ (leaving _ _) _ _ _
 unfold leaving
 refine zxD (znq (base:=base) (L:=s.heap.objs.size) I.ok.frames I.stack rfl t.fly λh' T' hT m F=>?_)
 have frE:∀b ∈ frs (envOfC qual scope s.heap.objs.size f cd::outer),H1 b=none:=I.stkFree
 have hch:∀b ∈ [e,T],H1 b=none/\s.heap.objs.size<=b:=λb hb=>by
  rcases zS.mp hb with rfl|hb
  · exact⟨t.ne,t.se⟩
  · rw[zzO.mp hb];exact⟨t.nT,t.sT⟩
 obtain⟨un2,hok2⟩:=zkQ m I.hok frE λb hb=>(hch b hb).1
 have old:∀b o,s.heap.get? b=some o->b ∉ [e,T]:=λb o z q=>absurd (zzH (zxG z) (hch b q).2) (Nat.lt_irrefl _)
 have nloc:∀b o,s.heap.get? b=some o->b ∉ frs outer->b ∉ frs (envOfC qual scope s.heap.objs.size f cd::outer):=λb o z hb q=>by
  rcases zS.mp (show b ∈ s.heap.objs.size::frs outer from q)with q|q
  · have:=zxG z;rw[q]at this;exact absurd this (Nat.lt_irrefl _)
  · exact hb q
 have hT':H1 T'=none:=I.hok.fresh hT
 obtain⟨mA,hNs,hrel⟩:=t.ns
 have hNs':h'.Ns1 dx mA:=by
  obtain⟨o,es,ep,z,r⟩:=hNs
  exact⟨o,es,ep,m.keep dx o t.fr (λq=>by
   rcases zS.mp q with q|q
   · exact t.d1 q
   · exact t.d2 (zzO.mp q)) z,r⟩
 have hdT:dx≠T':=λq=>by
  obtain⟨o,es,ep,z,r⟩:=hNs
  exact absurd (zzH (zxG z) hT) (by rw[q];exact Nat.lt_irrefl _)
 have bs:Un (frs outer) [] H H1 s.heap s'.heap:=I.base
 refine⟨e,dx,T',k,H1,rfl,I.os,I.bare,⟨λb o z n hb hx=>?_,λb o z n hb hx=>?_,bs.free,λb o z hx=>?_,bs.tups,bs.frzs,bs.tbls⟩,hok2,F,t.se,zzL I.sz hT,t.s0,t.ne,hT',t.nd,t.d1,hdT,⟨mA,hNs',hrel⟩,hE⟩
 · exact m.keep b o (nloc b o z hb) (old b o z) (bs.keep b o z n hb hx)
 · obtain⟨sl,q⟩:=bs.slot b o z n hb hx
   obtain⟨sl',q'⟩:=m.slot b _ (zzA _ hb) (old b o z) q
   exact⟨sl',q'⟩
 · obtain⟨o',q⟩:=bs.there b o z hx
   by_cases hb:b ∈ frs (envOfC qual scope s.heap.objs.size f cd::outer)
   · obtain⟨sl,q'⟩:=m.slot b _ hb (old b o z) q;exact⟨_,q'⟩
   · exact⟨o',m.keep b o' hb (old b o z) q⟩
end
abbrev GF2:=AS->Option (D×AS)
def thP(X:Cx)(kd:KD)(C:Addr)(an:Str)(g:GF2):St->Hp->Prop:=λσ H=>∃F B ad as d as',Rel X.K kd F B [] ad as σ H/\g as=some (d,as')/\
 ∀pins σ' ad' e dx T v H' s',Thr X C an pins σ' e dx T v H' s'->Rel X.K kd F B [] ad' as' σ' H'->Grow (Gw [] ad) H (Gw [] ad') H'->Rp X.K kd (Lv F B (Gw [] ad') true) H' v d->X.xe (.ref e) s'
@[irreducible] def AXE(X:Cx)(kd:KD)(C:Addr)(an:Str)(e:Expr)(g:GF2):Prop:=PE X e λσ H _=>thP X kd C an g σ H
@[irreducible] def AX(X:Cx)(kd:KD)(C:Addr)(an:Str)(st:Stmt)(g:GF2):Prop:=PS X st λ_ σ H=>thP X kd C an g σ H
@[irreducible] def AXs(X:Cx)(kd:KD)(C:Addr)(an:Str)(st:List Stmt)(g:GF2):Prop:=PSs X st λ_ σ H=>thP X kd C an g σ H
theorem zlD{v w:V}(h:cv v=cv w):v=w:=by cases v<;>cases w<;>cases h<;>rfl
theorem znQ{K:zC}{kd:KD}{O:Addr->Prop}{H H2:Hp}{x:Addr}{vs:List V}{ds:List (Bool×D)}(k:∀b u,H b=some u->H2 b=some u)(hx:H x=none)(ra:RpA K kd O H vs ds):RpI K kd O (λ_=>False) (· = x) H2 vs ds:=by
 induction ra with
 |nil=>exact .nil
 |cons h _ ih=>
  refine .cons ?_ ih
  exact Rp.grow (W:=λ_=>False) (W':=(· = x)) ⟨λb u h _=>k b u h,λb e=>.inr (by rw[e];exact hx)⟩ (h.less λa z=>z.elim (λy=>y.elim id λy=>y.elim) λy=>y.elim)
def thE(K:zC)(kd:KD)(O:Addr->Prop)(H:Hp)(d:D):XK:=λu _ H'=>∃v,u=cv v/\(∀b u,H b=some u->H' b=some u)/\Rp K kd O H' v d
def gC(fr:AF)(g:List (Bool×D)->Option D):GF2:=λas=>(fr as).bind λp=>(Xx p.2 p.1).bind λx=>(g x).bind λd=>some (d,p.2)
def zog(K:zC)(kd:KD)(c:Str)(g:List (Bool×D)->Option D):Sp:=λvs H _ E=>∃F x dx vs' ds d,vs = .ref x::vs'/\H x=some (.ins (kd.c c) dx [])/\(∀a,F a->H a≠none)/\¬F x/\RpI K kd F (λ_=>False) (· = x) H vs' ds/\g ds=some d/\
 ∀v H',(∀b u,H b=some u->b≠x->H' b=some u)->Rp K kd F H' v d->E (cv v) none H'
section
variable{X:Cx}{kd:KD}{f C C0:Addr}{an c0:Str}{fd:FuncData}{ps:List Str}{g:List (Bool×D)->Option D}{n i:Nat}{x y:Str}{p cp pos pos':Pos}{a c e:Expr}{es:List Expr}{fr:AF}{st:Stmt}{sts rest:List Stmt}{ta:TF}{gf gg:GF2}
theorem zlA(F:FnOk X.prog X.w X.K X.mg X.base (CX1 X.prog X.w C an) n f fd ps (spX X.K kd g))(hr:Room n X.A)(hg:Gl X x)(hm:X.mg x=some (.ref f))(hk:PySem.W.keepIn X.K (.ref f)=true)(hb:Binds X.K fd ps [])(hex:X.ex=[])(ha:AA X kd (a::es) fr)
 (hdb:(x==("__debug__":Str))=false) (he:starEach (a::es) X.env=(false,eval a X.env)::starEach es X.env) (hpl:(backTo cp (starEach es X.env)).any (·.1)=false):
 AXE X kd C an (.Call (.Name x p) (a::es) [] cp) (gC fr g):=by
 with_unfolding_all (
 intro pins s σ H Q I h
 obtain⟨F0,B0,ad,as,d,as',R,e,q⟩:=h
 obtain⟨⟨rs,as1⟩,h1,e⟩:=bS_ (show(fr as).bind _=_ from e)
 obtain⟨ds,h2,e⟩:=bS_ e
 obtain⟨d',h3,e⟩:=bS_ e
 cases e
 refine wpAny_Call_Name_kw (YF I hg hm ?_ hdb)
 refine PySem.W.callWith_K (h₀:=X.base) I.ok.mod.kin hk (zxQ (ha cp pins s σ H (λvs H1=>∃ad1,Rel X.K kd F0 B0 [] ad1 as1 σ H1/\RVs X.K kd F0 B0 ad1 σ H1 vs rs/\Grow (Gw [] ad) H (Gw [] ad1) H1) I ⟨F0,B0,ad,as,rs,as1,R,h1,λvs ad1 H1 R1 rv1 g1=>⟨ad1,R1,rv1,g1⟩⟩) (λus s1 z=>?_) λ_ _ z=>z) he hpl
 obtain⟨vs,H1,I1,r,ad1,R1,rv1,g1⟩:=z
 refine⟨I1.kIn, ?_⟩
 have sp:spX X.K kd g vs H1 (λ_ _=>False) (thE X.K kd (Lv F0 B0 (Gw [] ad1) true) H1 d):=⟨_,ds,d,R1.trk true,zbv R1 rv1 h2,h3,λv H' k r=>⟨v,rfl,k,r⟩⟩
 have hl:us.length=ps.length:=by rw[<-r.length];exact F.len _ _ _ _ sp
 have r2:Vals vs us:=r
 refine wpAny_call (codeAny_mono (F.run X.A X.stack s1 H1 ⟨us,[]⟩ us vs _ _ hr I1.env0 (by have z:=hb s1 us I1.kIn (by rw[zyB];exact hl);rw[zyB]at z;exact z) r2 sp) λr s' hq'=>?_)
 cases r with
 |ok fl=>
  cases fl with
  |ret u=>obtain⟨_,_,_,_,_,_,_,z⟩:=hq';exact z.elim
  |next=>exact False.elim hq'
  |brk=>exact False.elim hq'
  |cont=>exact False.elim hq'
 |error v=>
  obtain⟨ea,dx,T,k,H2,rfl,t,w,ek,kp,rp⟩:=znb hex I1 (show CX1 X.prog X.w C an X.stack _ _ (thE X.K kd (Lv F0 B0 (Gw [] ad1) true) H1 d) v s' from hq')
  cases zlD ek
  obtain⟨R2,g2⟩:=R1.more kp
  exact q pins σ ad1 ea dx T k H2 s' t R2 (g1.trans g2) rp)
theorem zkW(hC:kd.c c0=C0)(M:Mk X.K C0 f)(F:FnOk X.prog X.w X.K X.mg X.base (CX1 X.prog X.w C an) n f fd ps (zog X.K kd c0 g))(hr:Room (n+1) X.A)(hg:Gl X x)(hm:X.mg x=some (.ref C0))(hb:Binds X.K fd ps [])(hex:X.ex=[])(ha:AA X kd (a::es) fr)
 (hdb:(x==("__debug__":Str))=false) (he:starEach (a::es) X.env=(false,eval a X.env)::starEach es X.env) (hpl:(backTo cp (starEach es X.env)).any (·.1)=false):
 AXE X kd C an (.Call (.Name x p) (a::es) [] cp) (gC fr g):=by
 subst hC
 with_unfolding_all (
 intro pins s σ H Q I h
 obtain⟨F0,B0,ad,as,d,as',R,e,q⟩:=h
 obtain⟨⟨rs,as1⟩,h1,e⟩:=bS_ (show(fr as).bind _=_ from e)
 obtain⟨ds,h2,e⟩:=bS_ e
 obtain⟨d',h3,e⟩:=bS_ e
 cases e
 refine wpAny_Call_Name_kw (YF I hg hm ?_ hdb)
 refine PySem.W.callWith_K (h₀:=X.base) I.ok.mod.kin M.kp (zxQ (ha cp pins s σ H (λvs H1=>∃ad1,Rel X.K kd F0 B0 [] ad1 as1 σ H1/\RVs X.K kd F0 B0 ad1 σ H1 vs rs/\Grow (Gw [] ad) H (Gw [] ad1) H1) I ⟨F0,B0,ad,as,rs,as1,R,h1,λvs ad1 H1 R1 rv1 g1=>⟨ad1,R1,rv1,g1⟩⟩) (λus s1 z=>?_) λ_ _ z=>z) he hpl
 obtain⟨vs,H1,I1,r,ad1,R1,rv1,g1⟩:=z
 refine⟨I1.kIn, ?_⟩
 have hx:H1 (s1.heap.objs.size+1)=none:=I1.hok.fresh (zyU _)
 have hdx:H1 s1.heap.objs.size=none:=I1.hok.fresh (zzK _)
 have I2:=Inv.made (C:=kd.c c0) I1
 have k:∀b u,H1 b=some u->upd (upd H1 s1.heap.objs.size (.own (s1.heap.objs.size+1))) (s1.heap.objs.size+1) (.ins (kd.c c0) s1.heap.objs.size []) b=some u:=λb u h=>by rw[zM (yc h hx),zM (yc h hdx)];exact h
 have kn:∀b,upd (upd H1 s1.heap.objs.size (.own (s1.heap.objs.size+1))) (s1.heap.objs.size+1) (.ins (kd.c c0) s1.heap.objs.size []) b=none->H1 b=none:=λb h=>by
  cases e:H1 b with
  |none=>rfl
  |some u=>rw[k b u e]at h;cases h
 have sp:zog X.K kd c0 g (V.ref (s1.heap.objs.size+1)::vs) (upd (upd H1 s1.heap.objs.size (.own (s1.heap.objs.size+1))) (s1.heap.objs.size+1) (.ins (kd.c c0) s1.heap.objs.size [])) (λ_ _=>False) (thE X.K kd (Lv F0 B0 (Gw [] ad1) true) H1 d):=by
  refine⟨Lv F0 B0 (Gw [] ad1) true,_,_,vs,ds,d,rfl,zU,λa z y=>R1.trk true a z (kn a y),λz=>R1.trk true _ z hx, ?_,h3,λv H' kp r=>⟨v,rfl,λb u h=>kp b u (k b u h) (yc h hx),r⟩⟩
  exact znQ k hx (zbv R1 rv1 h2)
 have r2:Vals (V.ref (s1.heap.objs.size+1)::vs) (Value.ref (s1.heap.objs.size+1)::us):=.cons rfl r
 have hl:(Value.ref (s1.heap.objs.size+1)::us).length=ps.length:=by rw[<-r2.length];exact F.len _ _ _ _ sp
 refine wpAny_call (zhh (f:=f) I1.kIn M.makes M.init (beq_iff_eq.mp M.fn) (codeAny_mono (F.run _ X.stack _ _ ⟨Value.ref (s1.heap.objs.size+1)::us,[]⟩ (Value.ref (s1.heap.objs.size+1)::us) _ _ _ (hr.make _ us [])
  (I2.env0.make _ us []) (by have z:=hb _ (Value.ref (s1.heap.objs.size+1)::us) I2.kIn (by rw[zyB];exact hl);rw[zyB]at z;exact z) r2 sp) λr s' hq'=>?_))
 cases r with
 |ok fl=>
  cases fl with
  |ret u=>obtain⟨_,_,_,_,_,_,_,z⟩:=hq';exact z.elim
  |next=>exact False.elim hq'
  |brk=>exact False.elim hq'
  |cont=>exact False.elim hq'
 |error v=>
  obtain⟨ea,dx,T,k,H2,rfl,t,w,ek,kp,rp⟩:=znb hex I2 (show CX1 X.prog X.w C an X.stack _ _ (thE X.K kd (Lv F0 B0 (Gw [] ad1) true) H1 d) v s' from hq')
  cases zlD ek
  obtain⟨R2,g2⟩:=R1.more kp
  exact q pins σ ad1 ea dx T k H2 s' t R2 (g1.trans g2) rp)
theorem zjh(he:AXE X kd C an e gf)(hs:swapsWith e none pos.line X.env=pure false):AX X kd C an (.Expr e pos) gf:=by
 with_unfolding_all exact(Zi (zdi he hs) λD σ H h=>h)
theorem zgG(h:AX X kd C an st gf):AXs X kd C an (st::rest) gf:=by
 with_unfolding_all exact(zbi (Wc h (show PSs X rest (λ_ _ _=>False)from λ_ _ _ _ _ _ z=>z.elim)) λD σ H h=>h)
end
def gYI(c:Str)(n m:Nat)(g:GF2)(ds:List (Bool×D)):Option D:=if ds.length+1=m then(g (Ws n (ob0 c::ds.map lfD))).bind λp=>some p.1 else none
section
variable{P:Program}{w:World}{K:zC}{mg:Str->Option Value}{base:Heap}{kd:KD}{x qual an:Str}{st:Stmt}{f C:Addr}{fd:FuncData}{N ps:List Str}{k:Nat}{g:GF2}
theorem zqY{c:Str}(Fn:Fun K x qual st f fd)(S:FnScope N ps (zu st))(hps:ps.length<=N.length)
 (hb:∀(cdv:Value) (A:Around) (outer:List Env) (s:Shared) (H:Hp) (E:XK),Room k (A.deeper (envOfC qual (zu st) s.heap.objs.size f cdv))->AXs (Xz (CX1 P w C an) P w K mg base N qual (zu st) f cdv A outer s H E) kd C an (YC st) g):
 FnOk P w K mg base (CX1 P w C an) (k+1) f fd ps (zog K kd c (gYI c N.length ps.length g)):=by
 with_unfolding_all (
 obtain⟨oc,od,kV,doc,pm,an',cdv,ct,osl,rfl,lk,hcd⟩:=Fn.ex
 refine zlO lk hcd S (λvs H Q E h=>?_) λA outer s H vs Q E hr hsp=>⟨_,hb cdv A outer s H E hr, ?_⟩
 · obtain⟨F,x,dx,vs',ds,o,rfl,_,_,_,rp,e,_⟩:=h
   obtain⟨hl,_⟩:=ite_some' (show(if ds.length+1=ps.length then _ else none)=_ from e)
   rw[zzQ,rp.length,hl]
 · obtain⟨F,x,dx,vs',ds,d0,rfl,hx,ht,hF,rp,e,q⟩:=hsp
   obtain⟨hl,e⟩:=ite_some' (show(if ds.length+1=ps.length then _ else none)=_ from e)
   obtain⟨⟨d,as'⟩,e1,e⟩:=bS_ e
   cases e
   have ro:vA K kd F (λ_=>False) (· ∈ [x]) H (V.ref x::vs') (ob0 c::ds.map lfD) [x]:=by
    have e0:(λa=>a ∈ [x])=(λa=>a=x):=by funext a;exact propext zzO
    rw[e0]
    exact RoL.cons (fq:=[]) (Ro.ob (C:=kd.c c) (vs:=[]) (.cl c) hx rfl .nil) (zme rp)
   have R0:=zdW (N:=N) ht (T:=[x]) (by simp) (λa m=>by rw[zzO.mp m,hx];exact⟨by simp,hF⟩) (zjp ds) (by rw[zzQ,zD];omega) ro
   have gw:∀a,Gw [] (λi=>if i=0 then[x]else[]) a->a=x:=λa z=>z.elim (λy=>nomatch y) λ⟨i,y⟩=>by
    by_cases e:i=0
    · subst e;simpa using y
    · simp[e]at y
   refine⟨F,λ_=>False,_,_,_,as',R0,e1,λpins σ' ad' ea dx' T v H' s' t R' g' rv=>zkn t (q v H' (λb u hb hn=>g'.keep b u hb λz=>hn (gw b z)) (rv.less λa z=>.inl (.inl ⟨rfl,z⟩)))⟩)
end
section
variable{K:zC}{kd:KD}{F B:Addr->Prop}{ad:Ad}{as:AS}{σ:St}{H:Hp}
theorem Rel.unset(j:Nat)(R:Rel K kd F B [] ad as σ H):Rel K kd F B [] (vp ad j []) (as.set j none) (σ.set j none) H/\∀a,Gw [] (vp ad j []) a->Gw [] ad a:=by
 have le:∀a,Gw [] (vp ad j []) a->Gw [] ad a:=λa z=>Yx a z
 refine⟨⟨by rw[zzR,zzR];exact R.len,λi hi=>?_,λi=>?_,λi k a h1 h2=>?_,zyG,(λ_ _ _ z=>nomatch z),R.ftr,λa h1=>?_,λa h1=>R.gtr a (le a h1),λi s e=>?_⟩,le⟩
 · by_cases e:i=j
   · subst e;exact zH
   · rw[zL e];exact R.out i (by rw[zzR]at hi;exact hi)
 · by_cases e:i=j
   · subst e;rw[zH];exact zyG
   · rw[zL e];exact R.nd i
 · by_cases e:i=j
   · subst e;rw[zH]at h1;cases h1
   · rw[zL e]at h1
     by_cases e':k=j
     · subst e';rw[zH]at h2;cases h2
     · rw[zL e']at h2;exact R.inj i k a h1 h2
 · obtain⟨b1,b2,b3⟩:=R.btr a h1
   exact⟨b1,b2,λz=>b3 (le a z)⟩
 · by_cases q:i=j
   · subst q
     rw[zH]
     have:s=none:=by
      rw[List.getElem?_set]at e
      rw[if_pos rfl]at e
      split at e
      · exact(zzW e).symm
      · cases e
     subst this
     exact(rfl:([]:List Addr)=[])
   · rw[zzV (Ne.symm q)]at e
     rw[zL q,zzV (Ne.symm q)]
     exact(R.sl i s e).less le
end
section
variable{X:Cx}{pins:List (Addr×Obj)}{σ:St}{H:Hp}{s:Shared}
theorem zsd{e C dx:Addr}:∀h1 h2:Heap,XB e C dx h1->(∀o,h1.get? e=some o->h2.get? e=some o)->XB e C dx h2:=λ_ _ ⟨o,q,r⟩ k=>⟨o,k _ q,r⟩
theorem zkc{e dx C:Addr}{an:Str}{v:V}(I:Inv X pins σ H s)(he:H e=none)(hd:H dx=none)(hne:dx≠e)(fe:Far X pins e)(se:X.s₀.heap.objs.size<=e)(l:dx≠X.env.locals)(cl:∀x c,X.env.cells.lookup x=some c->c≠dx)(pd:∀p ∈ X.pn++pins,p.1≠dx)(s0:X.s₀.heap.get? dx=none)
 (xb:XB e C dx s.heap) (ns:∃mA,s.heap.Ns1 dx mA/\∀f,zaw (([(an,v)]:List (Str×V)).lookup f) (mA f)):Inv X pins σ (upd (upd H e (.ext (XB e C dx))) dx (.xd [(an,v)])) s:=by
 have k:∀b,b≠e->b≠dx->upd (upd H e (.ext (XB e C dx))) dx (.xd [(an,v)]) b=H b:=λb h1 h2=>by rw[zM h2,zM h1]
 have kn:∀b u,H b=some u->upd (upd H e (.ext (XB e C dx))) dx (.xd [(an,v)]) b=some u:=λb u z=>by rw[k b (yc z he) (yc z hd)];exact z
 refine⟨I.ok,I.os,I.bare,⟨I.base.keep,I.base.slot,λb o z n hx=>?_,I.base.there,λb xs z=>kn b _ (I.base.tups b xs z),λb o u z=>kn b _ (I.base.frzs b o u z),λb ps z=>?_⟩,I.loc,I.cell, ?_,λx c z=>?_,λp hp=>?_,λa o z=>?_,I.len⟩
 · rw[k b (λq=>absurd (zzH (zxG z) se) (by rw[q];exact Nat.lt_irrefl _)) (λq=>by rw[q,s0]at z;cases z)]
   exact I.base.free b o z n hx
 · obtain⟨more,z'⟩:=I.base.tbls b ps z
   exact⟨more,kn b _ z'⟩
 · rw[k _ (Ne.symm fe.2.1) (Ne.symm l)];exact I.free
 · rw[k c (fe.2.2.1 x c z) (cl x c z)];exact I.freeC x c z
 · obtain⟨p1,p2,p3,p4,p5⟩:=I.pin p hp
   exact⟨p1,by rw[k _ (fe.2.2.2 p hp) (pd p hp)];exact p2,p3,p4,p5⟩
 · by_cases q1:a=dx
   · subst q1
     rw[zU]at z
     cases z
     exact ns
   · by_cases q2:a=e
     · subst q2
       rw[zM q1,zU]at z
       cases z
       obtain⟨o,z1,z2⟩:=xb
       exact⟨⟨o,z1,z2⟩,⟨o,z1⟩,zsd⟩
     · rw[k a q2 q1]at z
       exact(I.hok a o z).stay (λb u _ y=>y) (λb y=>kn b _ y) λb xs y=>kn b _ y
theorem zof(E:Value->Shared->Prop)(I:Inv X pins σ H s):Inv {X with xe:=E,pn:=X.pn++pins} [] σ H s:=
 ⟨⟨I.ok.mod,I.ok.kind,I.ok.glob,I.ok.blt,I.ok.above,I.ok.inj,I.ok.has,I.ok.cab,I.ok.hd,I.ok.frames,I.ok.stk,I.ok.exf,I.ok.bs,I.ok.bsz,I.ok.noex,I.ok.exfs,I.ok.funs,I.ok.frf⟩,I.os,I.bare,I.base,I.loc,I.cell,I.free,I.freeC,λp hp=>I.pin p (by rw[zyB]at hp;exact hp),I.hok,I.len⟩
theorem zkb{E:Value->Shared->Prop}{pins':List (Addr×Obj)}(I:Inv {X with xe:=E,pn:=X.pn++pins} pins' σ H s):Inv X pins σ H s:=
 ⟨⟨I.ok.mod,I.ok.kind,I.ok.glob,I.ok.blt,I.ok.above,I.ok.inj,I.ok.has,I.ok.cab,I.ok.hd,I.ok.frames,I.ok.stk,I.ok.exf,I.ok.bs,I.ok.bsz,I.ok.noex,I.ok.exfs,I.ok.funs,I.ok.frf⟩,I.os,I.bare,I.base,I.loc,I.cell,I.free,I.freeC,λp hp=>I.pin p (zzM _ hp),I.hok,I.len⟩
theorem zhE{E:Value->Shared->Prop}{pins':List (Addr×Obj)}{b:Addr}(z:Far {X with xe:=E,pn:=X.pn++pins} pins' b):Far X pins b:=⟨z.1,z.2.1,z.2.2.1,λp hp=>z.2.2.2 p (zzM _ hp)⟩
end
def zig(j:Nat)(cn an:Str)(cb:SF)(gb:GF2)(c:SF):SF:=λas=>match(cb as).bind nxA with
 |some as'=>some (.nx as')
 |none=>(gb as).bind λp=>if j<p.2.length then(c (p.2.set j (some (.lf true (.er cn an p.1))))).bind λo=>(nxA o).bind λas2=>some (.nx (as2.set j none))else none
section
variable{X:Cx}{kd:KD}{C S:Addr}{cn an sx en:Str}{j:Nat}{sp pos hp:Pos}{b0:Stmt}{body suite:List Stmt}{cb c:SF}{gb:GF2}
theorem zqP(hC:kd.c cn=C)(hb1:ASs X kd body cb)(hb2:∀E pn,AXs {X with xe:=E,pn:=pn} kd C an body gb)
 (hgS:Gl X sx) (hmS:X.mg sx=some (.ref S)) (hdS:(sx==("__debug__":Str))=false) (hex:PySem.W.exmOne X.K (.ref C) (.ref S)=some true)
 (hnx:∀v s,¬X.xe v s) (hst:X.stack=X.env::X.outer) (hfm:X.env.frame=some X.env.locals)
 (hN:X.N.Nodup) (hj:X.N[j]? = some en) (hjl:X.env.kindOf en=some .local) (hff:X.fn en=true\/X.env.scope.names.lookup en=some .local)
 (hs:∀e,ASs (inX X e []) kd (b0::suite) c):
 ASt X kd (.Try body [.ExceptHandler (some (.Name sx sp)) (some en) (b0::suite) hp] [] [] pos) (zig j cn an cb gb c):=by
 subst hC
 with_unfolding_all (
 intro pins s σ H D I h
 obtain⟨F0,B0,ad,as,o,R,e,q⟩:=h
 have e:(match(cb as).bind nxA with
  |some as'=>some (.nx as')
  |none=>(gb as).bind λp=>if j<p.2.length then(c (p.2.set j (some (.lf true (.er cn an p.1))))).bind λo=>(nxA o).bind λas2=>some (.nx (as2.set j none))else none)=some o:=e
 cases k:(cb as).bind nxA with
 |some as'=>
  rw[k]at e
  cases e
  obtain⟨o1,h1,h2⟩:=bS_ k
  cases zii h2
  refine wpAny_Try_except (zxQ (hb1 pins s σ H {nx:=λσ' H'=>∃ad',Rel X.K kd F0 B0 [] ad' as' σ' H'/\Grow (Gw [] ad) H (Gw [] ad') H',rt:=λ_ _=>False} I ⟨F0,B0,ad,as,_,R,h1,λσ' ad' H' R' g'=>⟨ad',R',g'⟩⟩) (λfl s1 z=>?_) λ_ _ z=>(hnx _ _ z).elim)
  cases fl with
  |ret u=>obtain⟨_,_,_,_,_,z⟩:=z;exact z.elim
  |brk=>obtain⟨_,_,_,z⟩:=z;exact z.elim
  |cont=>obtain⟨_,_,_,z⟩:=z;exact z.elim
  |next=>
   obtain⟨σ1,H1,I1,ad1,R1,g1⟩:=z
   exact zgA pins s1 σ1 H1 D I1 (q σ1 ad1 H1 R1 g1)
 |none=>
  rw[k]at e
  obtain⟨⟨d,as1⟩,h1,e⟩:=bS_ (show(gb as).bind _=_ from e)
  obtain⟨hlt,e⟩:=ite_some' e
  obtain⟨o1,h4,e⟩:=bS_ e
  obtain⟨as2,h5,e⟩:=bS_ e
  cases e
  cases zii h5
  dsimp only at hlt h4
  refine wpAny_Try_except (zxQ (hb2 _ (X.pn++pins) [] s σ H {nx:=λ_ _=>False,rt:=λ_ _=>False} (zof _ I) ⟨F0,B0,ad,as,d,as1,R,h1, ?_⟩) (λfl s1 z=>?_) λ_ _ z=>z)
  · intro pins' σ' ad' ea dx T v H' s' t R' g' rp
    have I2:Inv X pins σ' H' s':=zkb t.inv
    have fe:=zhE t.fe
    have fT:=zhE t.fT
    have hfs:∀b ∈ frs (X.env::X.outer),H' b=none:=by rw[<-hst];exact I2.stkFree
    refine znq (base:=X.base) (L:=X.env.locals) (by rw[<-hst];exact I2.ok.frames) (by rw[<-hst];exact I2.stack) hfm t.fly λh' T' hT' m fly'=>?_
    have hch:∀b ∈ [ea,T],H' b=none/\Far X pins b:=λb hb=>by
     rcases zS.mp hb with rfl|hb
     · exact⟨t.ne,fe⟩
     · rw[zzO.mp hb];exact⟨t.nT,fT⟩
    obtain⟨un2,hok2⟩:=zkQ m I2.hok hfs λb hb=>(hch b hb).1
    have I3:Inv X pins σ' H' {s' with heap:=h'}:=I2.call' (s':={s' with heap:=h'}) (ch:=[ea,T]) rfl (by rw[hst];exact un2) hok2 I2.bare λb hb=>(hch b hb).2
    have hT2:H' T'=none:=I2.hok.fresh hT'
    have fT':Far X pins T':=by
     refine⟨.inr (zzL I2.sz hT'),λz=>absurd (zzH I2.lt hT') (by rw[z];exact Nat.lt_irrefl _),λy c z w=>?_,λp hp w=>?_⟩
     · obtain⟨v,o,z',_⟩:=I2.cell y c z
       exact absurd (zzH (zxG z') hT') (by rw[w];exact Nat.lt_irrefl _)
     · exact absurd (zzH (zxG (I2.pin p hp).1) hT') (by rw[w];exact Nat.lt_irrefl _)
    refine wpAny_handleBy_cons (codeAny_handlers_test ?_) (by intro q;cases q)
    refine YF (X:=inX X ea []) (zld I3 (λp z=>nomatch z)) hgS hmS ?_ hdS
    have LT:PySem.W.Looks (model X.prog X.w) h' (typeOf (.ref ea)) (.ref (kd.c cn)):=by
     obtain⟨⟨oe,vs,z,zc,_⟩,_⟩:=fly'
     exact(PySem.W.Looks.ld z).andThen (by rw[zc];exact .now)
    refine(PySem.W.exm_one (K:=X.K) I3.kIn LT hex).here ?_
    refine codeAny_handlers_suite_as ?_
    refine land fly' λh2 m2 fly2 hsz=>?_
    obtain⟨un3,hok3⟩:=zkQ m2 I3.hok (λb z=>nomatch z) (λb z=>by rw[zzO.mp z];exact hT2)
    have I4:Inv X pins σ' H' {s' with heap:=h2}:=I3.call' (s':={s' with heap:=h2}) (ch:=[T']) rfl (un3.mono (λb z=>nomatch z) λb z=>z) hok3 I2.bare λb hb=>by rw[zzO.mp hb];exact fT'
    refine zcg I4 hN hj (.inl hjl) (v:=.ref ea) rfl (λs5 I5 hsame=>?_) hff
    obtain⟨a5,sb5,ha5⟩:=hsame
    have a5d:dx≠a5:=by
     rcases ha5 with z|z
     · rw[z];exact t.l
     · exact λw=>t.cl en a5 z w.symm
    have a5e:ea≠a5:=by
     rcases ha5 with z|z
     · rw[z];exact fe.2.1
     · exact λw=>fe.2.2.1 en a5 z w.symm
    obtain⟨⟨oe,vs,ge,ce,de,fv,_⟩,_,_⟩:=fly2
    have xb5:XB ea (kd.c cn) dx s5.heap:=⟨oe,(sb5.2 ea a5e).trans ge,ce,de,vs,fv⟩
    obtain⟨mA,⟨od,es',ep',gd,dd⟩,hrel⟩:=t.ns
    have gd1:h'.get? dx=some od:=m.keep dx od (by rw[<-hst];exact t.fr) (λz=>by
     rcases zS.mp z with z|z
     · exact t.d1 z
     · exact t.d2 (zzO.mp z)) gd
    have gd2:h2.get? dx=some od:=m2.keep dx od (λz=>nomatch z) (λz=>absurd (zzH (zxG gd) hT') (by rw[zzO.mp z];exact Nat.lt_irrefl _)) gd1
    have gd5:s5.heap.get? dx=some od:=(sb5.2 dx a5d).trans gd2
    have I6:=zkc (C:=kd.c cn) (an:=an) (v:=v) I5 t.ne t.nd t.d1 fe t.se t.l t.cl (λp hp=>t.pd p (zzM _ hp)) t.s0 xb5 ⟨mA,⟨od,es',ep',gd5,dd⟩,hrel⟩
    have kn:∀b u,H' b=some u->upd (upd H' ea (.ext (XB ea (kd.c cn) dx))) dx (.xd [(an,v)]) b=some u:=λb u z=>by rw[zM (yc z t.nd),zM (yc z t.ne)];exact z
    obtain⟨R7,g7⟩:=R'.more kn
    have R8:=R7.put (T:=[]) (v:=.ref ea) (o:=.lf true (.er cn an d)) hlt (.lf (Rp.er (dx:=dx) (v:=v) (λz=>R'.trk true _ z t.ne) (λz=>R'.trk true _ z t.nd) (by rw[zM (Ne.symm t.d1),zU]) zU (zlj kn rp)))
    refine zxQ (hs ea pins s5 _ _ {nx:=λσ6 H6=>∃ad6,Rel X.K kd F0 B0 [] ad6 as2 σ6 H6/\Grow (Gw [] (vp ad' j [])) _ (Gw [] ad6) H6,rt:=λ_ _=>False} (zld I6 (λp z=>nomatch z)) ⟨_,_,_,_,_,R8,h4,λσ6 ad6 H6 R6' g6=>⟨ad6,R6',g6⟩⟩) (λfl s6 z=>?_) λ_ _ z=>(hnx _ _ z).elim
    cases fl with
    |ret u=>obtain⟨_,_,_,_,_,z⟩:=z;exact z.elim
    |brk=>obtain⟨_,_,_,z⟩:=z;exact z.elim
    |cont=>obtain⟨_,_,_,z⟩:=z;exact z.elim
    |next=>
     obtain⟨σ6,H6,I6',ad6,R6',g6⟩:=z
     obtain⟨R9,le9⟩:=R6'.unset j
     refine zjR (zoS I.ok I6') hN hj hjl λs7 I7=>⟨σ6.set j none,H6,I7, ?_⟩
     refine q _ _ H6 R9 ?_
     exact(g'.trans (g7.trans ((Grow.less λa z=>Yx a z).trans g6))).trans (Grow.less le9)
  · cases fl with
    |ret u=>obtain⟨_,_,_,_,_,z⟩:=z;exact z.elim
    |brk=>obtain⟨_,_,_,z⟩:=z;exact z.elim
    |cont=>obtain⟨_,_,_,z⟩:=z;exact z.elim
    |next=>obtain⟨_,_,_,z⟩:=z;exact z.elim)
end
structure XI(K:zC)(C:Addr)(an:Str):Prop where
 ga:PySem.W.findIn K (.ref C) "__getattribute__"=some (some (.builtin "BaseException.__getattribute__"))
 gh:PySem.W.findIn K (.ref C) "__getattr__"=some none
 mb:PySem.W.mroIn K C (.type "BaseException")=some true
 hd:PySem.W.hasDictIn K C=true
 ha:PySem.W.findIn K (.ref C) "__class__"=some (some (.builtin "object.__class__"))
 hn:PySem.W.specialIn K (.builtin "object.__class__") "__get__"=some (some (.builtin "getset_descriptor.__get__"))
 ht:PySem.W.takesIn K (.builtin "object.__class__")=some true
 hm:PySem.W.mroIn K C (.type "object")=some true
 at_:PySem.W.findIn K (.ref C) an=some none
section
open PySem.W
variable{prog:Program}{w:World}{A:Around}{E:Value->Shared->Prop}{s:Shared}{K:Frag}{x C:Addr}{ox:Obj}{od:Obj}{name an:Str}{tk:Tok}
theorem zjC{fill expr:Bool}{Q:Value->Shared->Prop}(Z:XI K C an)(X:K.In s.heap)(I:InstAt s.heap x ox C (some od))
 (h:wpAny (model prog w) A.in1 (Builtin.«object.__getattribute__» ⟨[.ref x,.str name tk],[]⟩) (λfin s'=>match fin with | .done (.ret v)=>wpAny (model prog w) A (handedOut v) Q E s'|_=>False) (λ_ _=>False) s):
 wpAny (model prog w) A (getAttrBy (.ref x) (.str name tk) fill expr) Q E s:=by
 have FX:=PySem.F.excAttr_ValueError
 have L0:=I.type (M:=model prog w)
 have L1:=looks_findIn (M:=model prog w) X Z.ga
 have L2:Looks (model prog w) s.heap (hookBefore (.ref C)) none:=by
  unfold hookBefore
  rw[if_pos (show onTheHeap (Value.ref C)=true from rfl)]
  exact looks_findIn X Z.gh
 have sb:Looks (model prog w) s.heap (isInstance (.ref x) (.type "BaseException")) true:=L0.andThen (looks_mroIn X Z.mb)
 unfold getAttrBy
 refine zxK (zxD (L0.here (zxD (L1.here ?_))))
 dsimp only
 rw[show(onTheHeap (Value.ref C)&&Value.builtin "BaseException.__getattribute__"==Value.builtin "object.__getattribute__")=false from by rw[show(Value.builtin "BaseException.__getattribute__"==Value.builtin "object.__getattribute__")=false from by decide +kernel,Bool.and_false],if_neg (by decide)]
 unfold getAttrByItsOwn
 refine zxD (L2.here (zxD (wpAny_attempt (zxK ?_))))
 unfold callGetattribute
 rw[show(expr&&onTheHeap (Value.builtin "BaseException.__getattribute__"))=false from Bool.and_false _,if_neg (by decide)]
 unfold boundAndCalled
 rw[FX.ga.bind]
 refine zxD (zxE ?_)
 show wpAny _ _ (call (.builtin "BaseException.__getattribute__") [.ref x,.str name tk]) _ _ _
 refine wpAny_call (codeAny_call_builtin FX.ga.plain PySem.F.entry_bexc_ga ?_)
 refine @check_slot (model prog w) _ _ s "BaseException.__getattribute__" "BaseException" "__getattribute__" (.ref x) [.str name tk] [] _ (by decide +kernel) (by decide +kernel) sb (PySem.F.args_bexc_ga (.ref x) (.str name tk)) ?_
 refine zxQ h (λfin s' z=>?_) λ_ _ z=>z.elim
 rcases fin with(_|_|_|_)|_<;>first|exact z|exact z.elim
theorem zhL{v:Value}{expr:Bool}{Q:Value->Shared->Prop}(Z:XI K C an)(X:K.In s.heap)(I:InstAt s.heap x ox C (some od))(hf:findObj K C (some od) name=some (.value v))(hh:handedIn v=true)(h:Q v {s with toks:=s.toks+1}):
 wpAny (model prog w) A (getAttr (.ref x) name expr) Q E s:=by
 unfold getAttr
 refine zxD (wpAny_mkText (zjC (s:={s with toks:=s.toks+1}) Z X I ?_))
 obtain⟨h',g,d,t,os⟩:=s
 have L0:=I.type (M:=model prog w)
 have L1:=looks_find (M:=model prog w) X I hf
 refine zxD (zxE (zxD (zxE (zxD (L0.at (zxD (L1.at ?_)))))))
 refine zxE ?_
 show wpAny _ _ (handedOut v) _ _ _
 rw[handedOut_of hh];exact zxE h
theorem ziz{Q:Option Value->Shared->Prop}(Z:XI K C an)(X:K.In s.heap)(I:InstAt s.heap x ox C (some od))(h:Q (some (.ref C)) {s with toks:=s.toks+1}):wpAny (model prog w) A (getAttr? (.ref x) "__class__") Q E s:=by
 have hf:findObj K C (some od) "__class__"=some (.bind (.builtin "getset_descriptor.__get__") (.builtin "object.__class__")):=findObj_data (by obtain⟨cd,hc,_⟩:=any_some Z.hd;rw[hc];rfl) Z.ha Z.hn Z.ht
 unfold getAttr?
 refine zxD (wpAny_mkText ?_)
 unfold getAttrBy?
 refine zxD (wpAny_attempt (zjC (s:={s with toks:=s.toks+1}) Z X I ?_))
 obtain⟨h',g,d,t,os⟩:=s
 have L0:=I.type (M:=model prog w)
 have L1:=looks_find (M:=model prog w) X I hf
 refine zxD (zxE (zxD (zxE (zxD (L0.at (zxD (L1.at ?_)))))))
 show wpAny _ _ (Builtin.ObjectAttr.bindTo _ _ _ _) _ _ _
 show wpAny _ _ (holding [.builtin "object.__class__"] (call (.builtin "getset_descriptor.__get__") [.builtin "object.__class__",.ref x,.ref C]) >>= ret) _ _ _
 refine zxD (zxK (wpAny_call (class_get (s:=⟨h',g,d,t+1,os⟩) (ox:=ox) (od:=some od) X I Z.hm ?_)))
 refine zxE ?_
 show wpAny _ _ (handedOut (.ref C)) _ _ _
 rw[handedOut_of rfl]
 exact zxE (zxE h)
end
section
variable{X:Cx}{kd:KD}{pins:List (Addr×Obj)}{σ:St}{H:Hp}{s:Shared}{e C dx:Addr}{k:Int}{oe od:Obj}
theorem zmT{K:zC}{x C:Addr}{an:Str}{ox od:Obj}(Z:XI K C an):PySem.W.KitX K (.ref x) (.ref C) (λh=>PySem.W.InstAt h x ox C (some od))where
 ty:=λ_ _ _ I=>I.type
 it:=λ_ _ X _=>by
  obtain⟨cdD,hcD,_⟩:=PySem.W.any_some Z.hd
  unfold PySem.W.clsIn at hcD
  split at hcD
  · rename_i c' d' cd' sl' ho
    intro A' Q' E' s' k q
    unfold isType loadHead
    exact zxD (wpAny_loadPart (k _ _ (X _ _ ho)) (zxE q))
  · cases hcD
 ne:=λh tp dd its n sl X htp=>by
  obtain⟨cdD,hcD,_⟩:=PySem.W.any_some Z.hd
  refine Bool.eq_false_iff.mpr λq=>?_
  have e:C=tp:=Value.ref.inj (beq_iff_eq.mp q)
  subst e
  unfold PySem.W.clsIn at hcD
  split at hcD
  · rename_i c' d' cd' sl' ho
    have z:=(X _ _ ho).symm.trans htp
    cases z
  · cases hcD
 ca:=λX I k=>ziz Z X I k
theorem zjs{a:Addr}{c an:Str}{v:V}(I:Inv X pins σ H s)(h1:H a=some (.ext (XB a (kd.c c) dx)))(h2:H dx=some (.xd [(an,v)])):∃ox od,PySem.W.InstAt s.heap a ox (kd.c c) (some od)/\∃u,RelV v u/\PySem.W.lookIn an od=some (some u):=by
 obtain⟨⟨o,g1,g2,g3,vs,g4⟩,_,_⟩:=I.hok a _ h1
 obtain⟨mA,hNs,hrel⟩:=I.hok dx _ h2
 obtain⟨od,ho,hl⟩:=zfp hNs
 refine⟨o,od,⟨g1,g2, ?_, ?_⟩, ?_⟩
 · unfold PySem.W.notCls
   rw[g4]
 · rw[g3];exact ho
 · have z:=hrel an
   rw[show([(an,v)]:List (Str×V)).lookup an=some v from by rw[List.lookup_cons,beq_self_eq_true]]at z
   obtain⟨u,e,r⟩:=zaw.some_of z
   exact⟨u,r,by rw[hl,e]⟩
def Y5(c an:Str)(b:Bool):D->Option R0
 | .er c' an' _=>if c'=c/\an'=an then some (.im (.bl b))else none
 |_=>none
def erP(c an:Str):D->Option R0
 | .er c' an' d=>if c'=c/\an'=an then some (.im d)else none
 |_=>none
variable{x y en an c:Str}{p p1 p2 pos:Pos}{b:Bool}{a:Expr}{fa:EF}
theorem zmk{b:Bool}{cv:Value}{w:V}(Z:XI X.K (kd.c c) an)(hc:∀u,RelV w u->u=cv)(hk:PySem.W.kitOne X.K (.ref (kd.c c)) cv=some b):
 VN X (.builtin "isinstance") (λxs H Q=>∃e dx v,xs=[.ref e,w]/\H e=some (.ext (XB e (kd.c c) dx))/\H dx=some (.xd [(an,v)])/\Q (.bl b) H):=by
 intro pins s σ H xs us Q I r ⟨e,dx,v,ex,h1,h2,q⟩
 subst ex
 cases r with
 |cons r1 r2=>
  cases r2 with
  |cons r2 r3=>
   cases r3
   cases(show _=Value.ref e from r1)
   cases hc _ r2
   obtain⟨ox,od,hi,_⟩:=zjs I h1 h2
   exact PySem.W.kia_one (zmT Z) I.kIn hi hk (λz=>nomatch z) λtk=>⟨.bl b,H,I.tok tk,rfl,q⟩
theorem Wm{X:Cx}{x:Str}{p:Pos}{C:Addr}(hg:Gl X x)(hm:X.mg x=some (.ref C))(hd:(x==("__debug__":Str))=false:=by decide):PE X (.Name x p) (tC (.ref C)):=λ_ _ _ H _ I q=>YF I hg hm ⟨.ref C,H,I,rfl,q⟩ hd
theorem ziH{fa:EF}{g:D->Option R0}{as as':AS}{r:RV}(h:f1 fa g as=some (r,as')):∃p d lv r0,fa as=some (p,as')/\p.frz.view as'=some (d,lv)/\g d=some r0/\wrap lv r0=some r:=by
 obtain⟨⟨p,as1⟩,h1,h⟩:=bS_ (show(fa as).bind _=_ from h)
 obtain⟨⟨d,lv⟩,h2,h⟩:=bS_ h
 obtain⟨r0,h3,h⟩:=bS_ h
 obtain⟨z,h4,h⟩:=bS_ h
 cases h
 exact⟨p,d,lv,r0,h1,h2,h3,h4⟩
theorem znI{c an:Str}{b:Bool}{d:D}{r:R0}(h:Y5 c an b d=some r):∃d',d = .er c an d'/\r = .im (.bl b):=by
 cases d with
 |er c' an' d'=>
  obtain⟨⟨rfl,rfl⟩,e⟩:=zO (show(if c'=c/\an'=an then some (R0.im (.bl b))else none)=some r from h)
  exact⟨d',rfl,e.symm⟩
 |_=>cases h
theorem zqv{c an:Str}{d:D}{r:R0}(h:erP c an d=some r):∃d',d = .er c an d'/\r = .im d':=by
 cases d with
 |er c' an' d'=>
  obtain⟨⟨rfl,rfl⟩,e⟩:=zO (show(if c'=c/\an'=an then some (R0.im d')else none)=some r from h)
  exact⟨d',rfl,e.symm⟩
 |_=>cases h
theorem XD{C:Addr}{cv:Value}{w:V}{ec:Expr}(hC:kd.c c=C)(Z:XI X.K C an)(hc:∀u,RelV w u->u=cv)(hk:PySem.W.kitOne X.K (.ref C) cv=some b)
 (hg:Gl X x) (hm:X.mg x=none) (hv:bootBuiltins x=some (.builtin "isinstance")) (ha:AE X kd a fa) (hcl:PE X ec (tC w))
 (hn:x≠"__name__") (hdb:(x==("__debug__":Str))=false) (he:starEach [a,ec] X.env=(false,eval a X.env)::starEach [ec] X.env) (he2:starEach [ec] X.env=(false,eval ec X.env)::starEach [] X.env) (hpl:(backTo pos (starEach [ec] X.env)).any (·.1)=false):
 AE X kd (.Call (.Name x p) [a,ec] [] pos) (f1 fa (Y5 c an b)):=by
 subst hC
 with_unfolding_all exact(yX (zbI (zmk (b:=b) Z hc hk) hg hm hv (Zy ha (Zy hcl Vl he2) he) hn hdb he hpl) λσ H Q h=>by
  obtain⟨F,B,ad,as,r,as',R,e,q⟩:=h
  obtain⟨p,d,lv,r0,h1,h2,h3,h4⟩:=ziH e
  obtain⟨d',rfl,rfl⟩:=znI h3
  refine Wx R h1 λv ad1 H1 R1 rv1 g1=>?_
  have vw:=vP.vw R1 rv1 h2
  have rq:=WL R1 h4 λw T' H' R' rv' g'=>q w T' ad1 H' R' rv' (g1.trans g')
  cases vw with
  |er z1 z2 z3=>exact⟨_,_,_,rfl,z1,z2,rq (.bl b) H1 (λ_ _ z=>z) (.bl b)⟩)
theorem zqw{C:Addr}(hC:kd.c c=C)(Z:XI X.K C an)(ha:AE X kd a fa)(hb:attributeBase a an X.env (eval a X.env)=eval a X.env):
 AE X kd (.Attribute a an pos) (f1 fa (erP c an)):=by
 subst hC
 with_unfolding_all (
 intro pins s σ H Q I z
 obtain⟨F,B,ad,as,r,as',R,e,q⟩:=z
 obtain⟨p,d,lv,r0,h1,h2,h3,h4⟩:=ziH e
 obtain⟨d',rfl,rfl⟩:=zqv h3
 refine zoG hb (thn (ha pins s σ H (λv H'=>∃ad1,Rel X.K kd F B [] ad1 as' σ H'/\vP X.K kd F B [] ad1 σ H' v p.frz/\Grow (Gw [] ad) H (Gw [] ad1) H') I (Wx R h1 λv ad1 H1 R1 rv1 g1=>⟨ad1,R1,rv1,g1⟩)) λu s1 ⟨v,H1,I1,r1,ad1,R1,rv1,g1⟩=>?_)
 have vw:=vP.vw R1 rv1 h2
 have rq:=WL R1 h4 λw T' H' R' rv' g'=>q w T' ad1 H' R' rv' (g1.trans g')
 cases vw with
 |er z1 z2 z3=>
  rename_i ea dx v
  cases(show u=Value.ref ea from r1)
  obtain⟨ox,od,hi,u,ru,hl⟩:=zjs I1 z1 z2
  exact zhL Z I1.kIn hi (PySem.W.findObj_own Z.hd Z.at_ rfl hl) (zkl ru) ⟨v,H1,I1.tok _,ru,rq v H1 (λ_ _ z=>z) z3⟩)
end
section
variable{K:zC}{kd:KD}{F B:Addr->Prop}{T:List Addr}{ad:Ad}{as:AS}{σ:St}{H:Hp}{i:Nat}{o:O}{v:V}
theorem zhc{a:Addr}:Gw (ad i) (vp ad i []) a ↔ Gw [] ad a:=by
 constructor
 · rintro(z|⟨j,z⟩)
   · exact .inr ⟨i,z⟩
   · by_cases e:j=i
     · subst e;rw[zH]at z;cases z
     · rw[zL e]at z;exact .inr ⟨j,z⟩
 · rintro(z|⟨j,z⟩)
   · cases z
   · by_cases e:j=i
     · subst e;exact .inl z
     · exact .inr ⟨j,by rw[zL e];exact z⟩
theorem Rel.mv(R:Rel K kd F B [] ad as σ H)(h:as[i]? = some (some o)):
 Rel K kd F B (ad i) (vp ad i []) (as.set i none) σ H/\∃v,σ[i]? = some (some v)/\RoS K kd F B (Gw (ad i) (vp ad i [])) H v o (ad i):=by
 have hi:i<as.length:=(zzD.mp h).1
 obtain⟨v,hv,ro⟩:=R.sl i _ h
 refine⟨⟨by rw[zzR];exact R.len,λj hj=>?_,λj=>?_,λj k a h1 h2=>?_,R.nd i,λj a h1 h2=>?_,R.ftr,λa h1=>?_,λa h1=>R.gtr a (zhc.mp h1),λj s e=>?_⟩,v,hv,ro.less λa z=>zhc.mp z⟩
 · rw[zzR]at hj
   rw[zL (by omega)];exact R.out j hj
 · by_cases e:j=i
   · subst e;rw[zH];exact zyG
   · rw[zL e];exact R.nd j
 · by_cases e:j=i
   · subst e;rw[zH]at h1;cases h1
   · rw[zL e]at h1
     by_cases e':k=i
     · subst e';rw[zH]at h2;cases h2
     · rw[zL e']at h2;exact R.inj j k a h1 h2
 · by_cases e:j=i
   · subst e;rw[zH]at h1;cases h1
   · rw[zL e]at h1
     exact e (R.inj j i a h1 h2)
 · obtain⟨b1,b2,b3⟩:=R.btr a h1
   exact⟨b1,b2,λz=>b3 (zhc.mp z)⟩
 · by_cases q:j=i
   · subst q
     rw[zyH hi]at e
     cases e
     rw[zH];exact(rfl:([]:List Addr)=[])
   · rw[zzV (Ne.symm q)]at e
     rw[zL q]
     have:=R.sl j s e
     cases s with
     |none=>exact this
     |some o'=>
      obtain⟨w,hw,rw'⟩:=this
      exact⟨w,hw,rw'.less λa z=>zhc.mp z⟩
theorem Rel.put2{T1 T2:List Addr}(R:Rel K kd F B (T1++T2) ad as σ H)(hi:i<as.length)(h0:ad i=[])(h:RoS K kd F B (Gw (T1++T2) ad) H v o T1):
 Rel K kd F B T2 (vp ad i T1) (as.set i (some o)) (σ.set i (some v)) H:=by
 have hi':i<σ.length:=by rw[<-R.len];exact hi
 obtain⟨n1,n2,n3⟩:=zxC.mp R.tnd
 have le:∀a,Gw T2 (vp ad i T1) a->Gw (T1++T2) ad a:=by
  rintro a (z|⟨j,z⟩)
  · exact .inl (zzI _ z)
  · by_cases e:j=i
    · subst e;rw[zH]at z;exact .inl (zzM _ z)
    · rw[zL e]at z;exact .inr ⟨j,z⟩
 refine⟨by rw[zzR,zzR];exact R.len,λj hj=>?_,λj=>?_,λj k a h1 h2=>?_,n2,λj a h1 h2=>?_,R.ftr,λa h1=>?_,λa h1=>R.gtr a (le a h1),λj s e=>?_⟩
 · rw[zzR]at hj
   rw[zL (by omega)];exact R.out j hj
 · by_cases e:j=i
   · subst e;rw[zH];exact n1
   · rw[zL e];exact R.nd j
 · by_cases e:j=i
   · subst e
     rw[zH]at h1
     by_cases e':k=j
     · exact e'.symm
     · rw[zL e']at h2
       exact(R.dis k a h2 (zzM _ h1)).elim
   · rw[zL e]at h1
     by_cases e':k=i
     · subst e'
       rw[zH]at h2
       exact(R.dis j a h1 (zzM _ h2)).elim
     · rw[zL e']at h2
       exact R.inj j k a h1 h2
 · by_cases e:j=i
   · subst e;rw[zH]at h1;exact n3 a h1 a h2 rfl
   · rw[zL e]at h1
     exact R.dis j a h1 (zzI _ h2)
 · obtain⟨b1,b2,b3⟩:=R.btr a h1
   exact⟨b1,b2,λz=>b3 (le a z)⟩
 · by_cases q:j=i
   · subst q
     rw[zyH hi]at e
     cases e
     rw[zH,zyH hi']
     exact⟨v,rfl,h.less le⟩
   · rw[zzV (Ne.symm q)]at e
     rw[zL q,zzV (Ne.symm q)]
     have:=R.sl j s e
     cases s with
     |none=>exact this
     |some o'=>
      obtain⟨w,hw,rw'⟩:=this
      exact⟨w,hw,rw'.less le⟩
end
def fMv(i:Nat):EF:=λas=>match as[i]? with
 |some (some o)=>some (.ow o,as.set i none)
 |_=>none
theorem zlC{X:Cx}{kd:KD}{i:Nat}{x:Str}{p:Pos}(hv:PE X (.Name x p) (zcn i)):AE X kd (.Name x p) (fMv i):=by with_unfolding_all exact(yX hv λσ H Q h=>by
 obtain⟨F,B,ad,as,r,as',R,e,q⟩:=h
 unfold fMv at e
 cases k:as[i]? with
 |none=>rw[k]at e;cases e
 |some s=>
  cases s with
  |none=>rw[k]at e;cases e
  |some o=>
   rw[k]at e
   cases e
   obtain⟨R',v,hv,ro⟩:=R.mv k
   exact⟨v,hv,q v (ad i) _ H R' ro (Grow.less λa z=>zhc.mp z)⟩)
def gNs:List Nat->TGs
 | []=>zsb
 |i::is=>zpr (zdP i) (gNs is)
def zpl:RV->Option (List O)
 | .ow (.nd .tp os)=>some os
 |_=>none
theorem zlV{r:RV}{os:List O}(h:zpl r=some os):r = .ow (.nd .tp os):=by
 cases r with
 |ow o=>
  cases o with
  |lf _ _=>cases h
  |nd k os'=>cases k<;>cases h;rfl
 |bo i=>cases h
def unp:List Nat->List O->AS->Option AS
 | [],[],as=>some as
 |i::is,o::os,as=>if noS as i=true then unp is os (as.set i (some o))else none
 |_,_,_=>none
def zoz(is:List Nat)(f:EF):SF:=λas=>(f as).bind λp=>(zpl p.1).bind λos=>(unp is os p.2).bind λas'=>some (.nx as')
section
variable{K:zC}{kd:KD}{F B:Addr->Prop}{H:Hp}
theorem zoh{T:List Addr}{ad:Ad}{as:AS}{σ:St}{i:Nat}(R:Rel K kd F B T ad as σ H)(h:noS as i=true):ad i=[]:=R.sl i none (zlx h)
theorem zlc{Q:St->Hp->Prop}:∀(is:List Nat) {os:List O}{as as':AS}{vs:List V}{T:List Addr}{ad:Ad}{σ:St},Rel K kd F B T ad as σ H->vA K kd F B (Gw T ad) H vs os T->unp is os as=some as'->
 (∀σ' ad',Rel K kd F B [] ad' as' σ' H->(∀a,Gw [] ad' a->Gw T ad a)->Q σ' H)->gNs is vs σ H Q
 | [],os,as,as',vs,T,ad,σ,R,r,e,q=>by
  cases r with
  |nil=>cases e;exact⟨rfl,q σ ad R λa z=>z⟩
  |cons _ _=>cases e
 |i::is,os,as,as',vs,T,ad,σ,R,r,e,q=>by
  cases r with
  |nil=>cases e
  |cons r1 r2=>
   rename_i v o vs os T1 T2
   obtain⟨hn,e⟩:=ite_some' (show(if noS as i=true then _ else none)=_ from e)
   have hi:=(zzD.mp (zlx hn)).1
   have R2:=Rel.put2 R hi (zoh R hn) r1
   have le:∀a,Gw T2 (vp ad i T1) a->Gw (T1++T2) ad a:=by
    rintro a (z|⟨j,z⟩)
    · exact .inl (zzI _ z)
    · by_cases e:j=i
      · subst e;rw[zH]at z;exact .inl (zzM _ z)
      · rw[zL e]at z;exact .inr ⟨j,z⟩
   exact⟨v,vs,rfl,zlc is R2 (vA.less le r2) e λσ' ad' R' le'=>q σ' ad' R' λa z=>le a (le' a z)⟩
theorem zje:∀(is:List Nat) {os:List O}{as as':AS},unp is os as=some as'->os.length=is.length
 | [],[],_,_,_=>rfl
 | [],_::_,_,_,e=>by cases e
 |_::_,[],_,_,e=>by cases e
 |i::is,o::os,as,as',e=>by
  obtain⟨_,e⟩:=ite_some' (show(if noS as i=true then _ else none)=_ from e)
  rw[zzQ,zzQ,zje is e]
end
section
variable{X:Cx}{kd:KD}{e:Expr}{fe:EF}{ts:List Expr}{is:List Nat}{m:Nat}{pt pos:Pos}
theorem zqN:PGs X [] (gNs []):=ziZ
theorem zac{t:Expr}{i:Nat}(h1:PG X t (zdP i))(h2:PGs X ts (gNs is))(hs:(assignEach (t::ts) X.env).map (·.2)=assign t X.env::(assignEach ts X.env).map (·.2)):PGs X (t::ts) (gNs (i::is)):=zhd h1 h2 hs
theorem zqf(hc:X.calm=true)(he:AE X kd e fe)(hg:PGs X ts (gNs is))(hn:(assignEach ts X.env).length=is.length)(hst:(assignEach ts X.env).findIdx? (·.1)=none)
 (hs:swapsWithSole [.Tuple ts m pt] e pos.line X.env=pure false) (hw:swappedStores [.Tuple ts m pt] e X.env=pure none) (hm:(assignEach [.Tuple ts m pt] X.env).map (·.2)=[assign (.Tuple ts m pt) X.env]):
 ASt X kd (.Assign [.Tuple ts m pt] e pos) (zoz is fe):=by
 with_unfolding_all exact(Zi (zfU he (zna (n:=is.length) hc hg hn hst) hs hw hm) λD σ H h=>by
  obtain⟨F,B,ad,as,o,R,e,q⟩:=h
  obtain⟨⟨p,as1⟩,h1,e⟩:=bS_ (show(fe as).bind _=_ from e)
  obtain⟨os,h2,e⟩:=bS_ e
  obtain⟨as',h3,e⟩:=bS_ e
  cases e
  cases zlV h2
  refine⟨F,B,ad,as,_,as1,R,h1,λv T' ad' H' R' rv g=>?_⟩
  cases(show RoS X.K kd F B (Gw T' ad') H' v (.nd .tp os) T' from rv)with
  |tp hN hH rl=>
   rename_i a vs
   exact⟨a,vs,rfl,.inl (.inl hH),by rw[rl.length,zje is h3],zlc is R' rl h3 λσ2 ad2 R2 le=>q σ2 ad2 H' R2 (g.trans (Grow.less le))⟩)
end
def zmn(i:Nat)(f1:IXF)(n:Nat)(f2 f3 fv:IXF):SF:=λas=>(f1 as).bind λk1=>(f2 as).bind λk2=>(f3 as).bind λk3=>(fv as).bind λc=>if 0<=k1/\0<=k2/\0<=k3 then
 (slO zaq as i).bind λos=>(atO znM os k1.toNat).bind λps=>(atO zaq ps n).bind λrows=>(atO zaq rows k2.toNat).bind λinner=>(atO zcm inner k3.toNat).bind λ_=>some (.nx (as.set i (some (.nd .ls (os.set k1.toNat (.nd .tp (ps.set n (.nd .ls (rows.set k2.toNat (.nd .ls (inner.set k3.toNat (.lf true (.int c)))))))))))))else none
theorem zrn{X:Cx}{kd:KD}{f1 f2 f3 fv:IXF}{e1 e2 e3 ev ec:Expr}{i n:Nat}{x:Str}{p p1 p2 p3 tpos pos:Pos}
 (ho:PE X (.Name x p) (zcn i)) (h1:AK X kd e1 f1) (hp1:Y6 e1) (hc:PE X ec (tC (.int n))) (hpc:Y6 ec) (h2:AK X kd e2 f2) (hp2:Y6 e2) (h3:AK X kd e3 f3) (hv:AK X kd ev fv)
 (ha:∀v,assign (.Subscript (.Subscript (.Subscript (.Subscript (.Name x p) e1 p1) ec p2) e2 p3) e3 tpos) X.env v=(do
  let ov <-holding [v] (eval (.Subscript (.Subscript (.Subscript (.Name x p) e1 p1) ec p2) e2 p3) X.env)
  let iv <-holding [v,ov] (eval e3 X.env)
  standAt tpos
  holding [v,ov,iv] (setItem ov iv v)
  release [v,ov,iv] []))
 (hs:swapsWithSole [.Subscript (.Subscript (.Subscript (.Subscript (.Name x p) e1 p1) ec p2) e2 p3) e3 tpos] ev pos.line X.env=pure false) (hw:swappedStores [.Subscript (.Subscript (.Subscript (.Subscript (.Name x p) e1 p1) ec p2) e2 p3) e3 tpos] ev X.env=pure none)
 (hm:(assignEach [.Subscript (.Subscript (.Subscript (.Subscript (.Name x p) e1 p1) ec p2) e2 p3) e3 tpos] X.env).map (·.2)=[assign (.Subscript (.Subscript (.Subscript (.Subscript (.Name x p) e1 p1) ec p2) e2 p3) e3 tpos) X.env]):
 ASt X kd (.Assign [.Subscript (.Subscript (.Subscript (.Subscript (.Name x p) e1 p1) ec p2) e2 p3) e3 tpos] ev pos) (zmn i f1 n f2 f3 fv):=by
 with_unfolding_all exact(Zi (zfU hv (zmO (zfe zby (zfe zkL (zfe zby ho h1 hp1) hc hpc) h2 hp2) h3 set_list ha) hs hw hm) λD σ H h=>by
  obtain⟨F,B,ad,as,o,R,e,q⟩:=h
  obtain⟨n1,j1,e⟩:=bS_ (show(f1 as).bind _=_ from e)
  obtain⟨n2,j2,e⟩:=bS_ e
  obtain⟨n3,j3,e⟩:=bS_ e
  obtain⟨c,j4,e⟩:=bS_ e
  obtain⟨⟨hk1,hk2,hk3⟩,e⟩:=ite_some' e
  obtain⟨os,e1,e⟩:=bS_ e
  obtain⟨ps,e2,e⟩:=bS_ e
  obtain⟨rows,e3,e⟩:=bS_ e
  obtain⟨inner,e4,e⟩:=bS_ e
  obtain⟨d,e5,e⟩:=bS_ e
  have k1:=zqH e1
  have k2:=zsQ e2
  have k3:=zrv e3
  have k4:=zrv e4
  obtain⟨st,k5⟩:=zsD e5
  cases e
  obtain⟨v,sv,ro,hn,hG,up⟩:=R.slotU k1
  obtain⟨l,vs,w,fw,rfl,hH,hvs,rw1,fn,fs,up1⟩:=zhJ ro hn hG k2
  obtain⟨l2,vs2,w2,fw2,rfl,hH2,hvs2,rw2,fn2,fs2,up2⟩:=zpx rw1 fn (λa m=>hG a (fs a m)) k3
  obtain⟨l3,vs3,w3,fw3,rfl,hH3,hvs3,rw3,fn3,fs3,up3⟩:=zhJ rw2 fn2 (λa m=>hG a (fs a (fs2 a m))) k4
  obtain⟨p,ivs,rfl,hp,hHp,hl,ro'⟩:=ziW c rw3 fn3 (λa m=>hG a (fs a (fs2 a (fs3 a m)))) k5
  have m3:=fs3 p hp
  have m2:=fs2 p m3
  have m1:=fs p m2
  obtain⟨R2,g2⟩:=up p _ _ m1 (up1 p _ _ m2 (up2 p _ _ m3 (up3 p _ _ hp ro')))
  exact⟨F,B,ad,as,c,R,j4,_,sv,F,B,ad,as,n1,R,j1,l,vs,n1,_,rfl,rfl,.inl (.inl hH),zgm hk1 hvs,l2,vs2,(n:Int),_,rfl,rfl,.inl (.inl hH2),Wy hvs2,F,B,ad,as,n2,R,j2,l3,vs3,n2,_,rfl,rfl,.inl (.inl hH3),zgm hk2 hvs3,F,B,ad,as,n3,R,j3,p,ivs,n3,n3.toNat,rfl,rfl,hHp,zjn hk3 hl,q σ ad _ R2 g2⟩)
structure RoomQ(k:Nat)(A:Around):Prop where
 dp:A.depth+3*k+5<recursionLimit
 un:A.units+16*k+200<cLine
theorem roomQ{k j:Nat}{A:Around}(r:Room k A)(h:j<=k):RoomQ j A:=⟨by have:=r.dp;omega,by have:=r.un;omega⟩
theorem zqy{k:Nat}{A:Around}{v:Option Value}(r:RoomQ k A):RoomQ k (A.mark v):=⟨r.dp,r.un⟩
structure FnQ(P:Program)(w:World)(K:zC)(mg:Str->Option Value)(base:Heap)(k:Nat)(f:Addr)(fd:FuncData)(ps:List Str)(sp:Sp):Prop where
 len:∀vs H Q E,sp vs H Q E->vs.length=ps.length
 run:∀(A:Around) (outer:List Env) (s:Shared) (H:Hp) (args:Args) (us:List Value) (vs:List V) (Q:VK) (E:XK),RoomQ k A->Env0 P w K mg base A outer s H->BindsTo s fd args (ps.zip us)->Vals vs us->sp vs H Q E->
  codeAny (model P w) A (.call (.ref f) args) (CR CX0 outer P w H s Q E) s
abbrev cxQ(P:Program)(w:World)(K:zC)(mg:Str->Option Value)(base:Heap)(N:List Str)(qual:Str)(scope:Scope)(f:Addr)(cd:Value)(A:Around)(outer:List Env)(s:Shared)(H:Hp)(E:XK):Cx:=
 {Xz CX0 P w K mg base N qual scope f cd A outer s H E with calm:=false,xe:=λ_ _=>False}
section
variable{P:Program}{w:World}{K:zC}{mg:Str->Option Value}{base:Heap}
theorem zqG{kd:KD}{x qual:Str}{st:Stmt}{f:Addr}{fd:FuncData}{N ps:List Str}{k:Nat}{c:SF}(Fn:Fun K x qual st f fd)(S:FnScope N ps (zu st))
 (hb:∀(cdv:Value) (A:Around) (outer:List Env) (s:Shared) (H:Hp) (E:XK),RoomQ k (A.deeper (envOfC qual (zu st) s.heap.objs.size f cdv))->ASs (cxQ P w K mg base N qual (zu st) f cdv A outer s H E) kd (YC st) c):
 FnQ P w K mg base (k+1) f fd ps (spD K kd (fnR N.length ps.length c)):=by
 with_unfolding_all (
 obtain⟨oc,od,kV,doc,pm,an,cdv,ct,osl,rfl,lk,hcd⟩:=Fn.ex
 have len:∀vs H Q E,spD K kd (fnR N.length ps.length c) vs H Q E->vs.length=ps.length:=λvs H Q E h=>by
  obtain⟨F,ds,r,_,rp,e,_⟩:=h
  unfold fnR at e
  by_cases hl:ds.length=ps.length
  · rw[rp.length,hl]
  · rw[if_neg hl]at e;cases e
 refine⟨len,λA outer s H args us vs Q E hr e0 hbn r hsp=>?_⟩
 have hl:=len _ _ _ _ hsp
 have KX:K.In s.heap:=e0.mod.kin.keeps λb o e=>(e0.bs b o e).1
 have lim:s.heap.NoLimit:=e0.mod.nolimit.keeps λb o e=>(e0.bs b o e).1
 have hkind:∀y ∈ ps.zip us,(zu st).names.lookup y.1=some .local\/((zu st).names.lookup y.1=some .cell/\((cellsFrom (s.heap.objs.size+1) (zu st).names []).lookup y.1).isSome=true):=λ⟨n,v⟩ hy=>by
  rcases S.par n (List.of_mem_zip hy).1 with q|q
  · exact .inl q
  · exact .inr ⟨q,PySem.W.cellsFrom_some _ _ _ (.inl q)⟩
 refine codeAny_call_function (by have:=hr.dp;omega) (KX _ _ lk) rfl S.co S.gen rfl (PySem.W.codeRec_of KX hcd) (hbn _ _ _ _ ?_)
 refine wpAny_newFunctionEnv_cells S.kind hkind λenv he s1 x=>?_
 subst he
 refine⟨lim.keeps x.toInCall.keep,codeAny_func ?_⟩
 have e0':Env0 P w K mg base {A with handled:=none} outer s H:=⟨e0.frames,e0.mod,e0.bs,e0.bsz,e0.funs,e0.frf,e0.hok,e0.bare⟩
 have I0:Inv (Xz CX0 P w K mg base N qual (zu st) f cdv {A with handled:=none} outer s H E) [] (L2.start N vs) H s1:=zff S rfl e0' hl r x
 have I:Inv (cxQ P w K mg base N qual (zu st) f cdv A outer s H E) [] (L2.start N vs) H s1:=
  ⟨⟨I0.ok.mod,I0.ok.kind,I0.ok.glob,I0.ok.blt,I0.ok.above,I0.ok.inj,I0.ok.has,I0.ok.cab,(λz=>nomatch z),Around.frames_deeper e0.frames,I0.ok.stk,I0.ok.exf,I0.ok.bs,I0.ok.bsz,I0.ok.noex,I0.ok.exfs,I0.ok.funs,I0.ok.frf⟩,I0.os,I0.bare,I0.base,I0.loc,I0.cell,I0.free,I0.freeC,I0.pin,I0.hok,I0.len⟩
 obtain⟨F,ds,r',ht,rp,e,q⟩:=hsp
 unfold fnR at e
 by_cases hl':ds.length=ps.length
 · rw[if_pos hl']at e
   obtain⟨o,e1,e⟩:=bS_ e
   refine zxQ (hb cdv A outer s H E ⟨by have:=hr.dp;show A.depth+1+3*k+5<_;omega,by have:=hr.un;show A.units+3+16*k+200<_;omega⟩ [] s1 (L2.start N vs) H {nx:=λ_ H'=>Q .non H',rt:=Q} I ⟨F,λ_=>False,λ_=>[],xW N.length ds,o,zcl ht rp,e1, ?_⟩) (λfl s' hs=>?_) λe s' hs=>False.elim hs
   · cases o with
     |nx as=>cases e;exact λσ' ad' H' R g=>zfR q (T:=[]) ⟨zyG,(λ_ m=>nomatch m),.lf .non⟩ (g.trans (Grow.less (λ_ z=>nomatch z)))
     |rt o=>cases e;exact λv T H' ro g=>zfR q ro g
     |bk=>cases e
     |ct=>cases e
   · have fin:∀{σ':St}{H':Hp}{v:V}{u:Value},Inv (cxQ P w K mg base N qual (zu st) f cdv A outer s H E) [] σ' H' s'->RelV v u->Q v H'->CE outer P w H s Q u s':=
      λ{σ' H' v u} J rv q=>⟨v,H',J.os,J.bare,J.base,J.hok,rv,q⟩
     cases fl with
     |ret u=>
      obtain⟨v,σ',H',J,rv,q⟩:=hs
      exact fin J rv q
     |next=>
      obtain⟨σ',H',J,q⟩:=hs
      exact fin (v:=V.non) (u:=Value.none) J rfl q
     |brk=>
      obtain⟨_,_,_,q⟩:=hs
      exact False.elim q
     |cont=>
      obtain⟨_,_,_,q⟩:=hs
      exact False.elim q
 · rw[if_neg hl']at e;cases e)
end
section
variable{X:Cx}{kd:KD}{a:Expr}{es:List Expr}{fr:AF}{pos p:Pos}
theorem zmZ{k:Nat}{f:Addr}{fdt:FuncData}{ps:List Str}{gg:List (Bool×D)->Option O}{x:Str}(F:FnQ X.prog X.w X.K X.mg X.base k f fdt ps (spD X.K kd gg))(hr:RoomQ k X.A)(hg:Gl X x)(hm:X.mg x=some (.ref f))(hk:PySem.W.keepIn X.K (.ref f)=true)
 (hb:Binds X.K fdt ps []) (ha:AA X kd (a::es) fr) (hdb:(x==("__debug__":Str))=false) (he:starEach (a::es) X.env=(false,eval a X.env)::starEach es X.env) (hpl:(backTo pos (starEach es X.env)).any (·.1)=false):
 AE X kd (.Call (.Name x p) (a::es) [] pos) (zJ fr gg):=by
 with_unfolding_all (
 intro pins s σ H Q I h
 obtain⟨F0,B,ad,as,r,as',R,e,q⟩:=h
 obtain⟨⟨rs,as1⟩,h1,e⟩:=bS_ (show(fr as).bind _=_ from e)
 obtain⟨ds,h2,e⟩:=bS_ e
 obtain⟨o,h3,e⟩:=bS_ e
 cases e
 refine wpAny_Call_Name_kw (YF I hg hm ?_ hdb)
 refine PySem.W.callWith_K (h₀:=X.base) I.ok.mod.kin hk (zxQ (ha pos pins s σ H (λvs H1=>∃ad1,Rel X.K kd F0 B [] ad1 as1 σ H1/\RVs X.K kd F0 B ad1 σ H1 vs rs/\Grow (Gw [] ad) H (Gw [] ad1) H1) I ⟨F0,B,ad,as,rs,as1,R,h1,λvs ad1 H1 R1 rv1 g1=>⟨ad1,R1,rv1,g1⟩⟩) (λus s1 z=>?_) λ_ _ z=>z) he hpl
 obtain⟨vs,H1,I1,r,ad1,R1,rv1,g1⟩:=z
 refine⟨I1.kIn, ?_⟩
 have sp:spD X.K kd gg vs H1 Q (λ_ _ _=>False):=⟨_,ds,o,R1.trk true,zbv R1 rv1 h2,h3,zio R1 λw T' H' R' rv' g'=>q w T' ad1 H' R' rv' (g1.trans g')⟩
 have hl:us.length=ps.length:=by rw[<-r.length];exact F.len _ _ _ _ sp
 have r2:Vals vs us:=r
 refine wpAny_call (codeAny_mono (F.run X.A X.stack s1 H1 ⟨us,[]⟩ us vs _ _ hr I1.env0 (by have z:=hb s1 us I1.kIn (by rw[zyB];exact hl);rw[zyB]at z;exact z) r2 sp) λr s' hq'=>?_)
 cases r with
 |error v=>exact False.elim hq'
 |ok fl=>
  cases fl with
  |ret u=>exact I1.after hq'
  |next=>exact False.elim hq'
  |brk=>exact False.elim hq'
  |cont=>exact False.elim hq')
end
abbrev InR(n:Nat)(x:Int):Prop:=0<=x/\x<(n:Int)
structure LJ(n:Nat)(j:Int->Int->Int)(e:Int):Prop where
 cl:∀a b,InR n a->InR n b->InR n (j a b)
 ce:InR n e
 ul:∀a,InR n a->j e a=a
 ur:∀a,InR n a->j a e=a
 as:∀a b c,InR n a->InR n b->InR n c->j (j a b) c=j a (j b c)
structure LD(n m:Nat)(j:Int->Int->Int)(e:Int)(d:Int->Int->Int):Prop where
 cl:∀c a,InR m c->InR n a->InR n (d c a)
 em:d 0 e=e
 dn:∀a i b k,InR n a->InR m i->InR n b->InR m k->d ((i+k)%m) (j a b)=j (d i a) (d k b)
theorem zbR{x:Int}{n:Nat}(hn:0<n):InR n (x%n):=⟨zyK _ (by omega),zyE _ (by omega)⟩
theorem LD.congr{n m:Nat}{j j':Int->Int->Int}{e:Int}{d d':Int->Int->Int}(hm:0<m)(hj:LJ n j e)(h:LD n m j e d)(q:∀a b,InR n a->InR n b->j' a b=j a b)(p:∀c a,InR m c->InR n a->d' c a=d c a):LD n m j' e d':=by
 refine⟨λc a hc ha=>by rw[p c a hc ha];exact h.cl c a hc ha,by rw[p 0 e ⟨by omega,by omega⟩ hj.ce];exact h.em,λa i b k ha hi hb hk=>?_⟩
 rw[q a b ha hb,p _ _ (zbR hm) (hj.cl a b ha hb),p i a hi ha,p k b hk hb,q _ _ (h.cl i a hi ha) (h.cl k b hk hb)]
 exact h.dn a i b k ha hi hb hk
def jS(n:Nat)(a b:Int):Int:=(a+b)%n
def jM(a b:Int):Int:=if b > a then b else a
def jL(a b:Int):Int:=if b=0 then a else b
theorem ljS{n:Nat}(hn:0<n):LJ n (jS n) 0:=by
 refine⟨λa b _ _=>zbR hn,⟨by omega,by omega⟩,λa ha=>?_,λa ha=>?_,λa b c _ _ _=>?_⟩
 · unfold jS;rw[Int.zero_add,Int.emod_eq_of_lt ha.1 ha.2]
 · unfold jS;rw[Int.add_zero,Int.emod_eq_of_lt ha.1 ha.2]
 · unfold jS;rw[Int.emod_add_emod,Int.add_emod_emod,Int.add_assoc]
theorem ljM{n:Nat}(hn:0<n):LJ n jM 0:=by
 refine⟨λa b ha hb=>?_,⟨by omega,by omega⟩,λa ha=>?_,λa ha=>?_,λa b c _ _ _=>?_⟩<;>unfold jM<;>(try unfold jM)<;>grind
theorem ljL{n:Nat}(hn:0<n):LJ n jL 0:=by
 refine⟨λa b ha hb=>?_,⟨by omega,by omega⟩,λa ha=>?_,λa ha=>?_,λa b c _ _ _=>?_⟩<;>unfold jL<;>grind
theorem four{P:Int->Prop}(h0:P 0)(h1:P 1)(h2:P 2)(h3:P 3){a:Int}(h:InR 4 a):P a:=by
 rcases(show a=0\/a=1\/a=2\/a=3 by have:=h.1;have:=h.2;omega)with rfl|rfl|rfl|rfl<;>assumption
theorem f4{P:Int->Prop}(h:∀a ∈ ([0,1,2,3]:List Int),P a){a:Int}(ha:InR 4 a):P a:=four (h 0 (by decide)) (h 1 (by decide)) (h 2 (by decide)) (h 3 (by decide)) ha
theorem ldS{n m:Nat}{g x0 x1:Int}(hn:0<n)(hm:0<m)(g0:0<g)(gn:g ∣ n)(gm:g ∣ m):LD n m (jS n) 0 (λc a=>(a*x0+c*((n:Int)/g)*x1)%n):=by
 refine⟨λc a _ _=>zbR hn,by simp,λa i b k _ _ _ _=>?_⟩
 obtain⟨t,ht⟩:=gm
 have h:(m:Int)*((n:Int)/g)=n*t:=by
  obtain⟨s,hs⟩:=gn
  rw[hs,Int.mul_ediv_cancel_left _ (by omega),ht];grind
 show(_:Int)=jS n _ _
 unfold jS
 rw[<-Int.add_emod]
 generalize (n:Int)/g=st at h
 rw[Int.emod_def (i+k) m,Int.emod_def (a+b) n]
 generalize (i+k)/(m:Int)=q
 generalize (a+b)/(n:Int)=p
 rw[show((a+b)-(n:Int)*p)*x0+((i+k)-(m:Int)*q)*st*x1=(a*x0+i*st*x1+(b*x0+k*st*x1))+(n:Int)*(-(p*x0)-t*q*x1) by grind,Int.add_mul_emod_self_left]
theorem ldM{n m:Nat}{r:Int->Int}(hm:0<m)(h0:r 0=0)(hc:∀a,InR n a->InR n (r a))(hr:∀a b,InR n a->InR n b->a<=b->r a<=r b):LD n m jM 0 (λ_ a=>r a):=by
 refine⟨λc a _ ha=>hc a ha,h0,λa i b k ha _ hb _=>?_⟩
 show r (jM a b)=jM (r a) (r b)
 unfold jM
 have h1:=hr a b ha hb
 have h2:=hr b a hb ha
 split<;>split<;>grind
theorem ldL{n m:Nat}{r:Int->Int}(h0:r 0=0)(hc:∀a,InR n a->InR n (r a))(hr:∀a,InR n a->a≠0->r a≠0):LD n m jL 0 (λ_ a=>r a):=by
 refine⟨λc a _ ha=>hc a ha,h0,λa i b k ha _ hb _=>?_⟩
 show r (jL a b)=jL (r a) (r b)
 unfold jL
 have h2:=hr b hb
 split<;>split<;>grind
theorem zpy{n1 n2:Nat}{x y:Int}(hx:InR n1 x)(hy:InR n2 y):InR (n1*n2) (x*n2+y):=by
 have h1:0<=x*n2:=Int.mul_nonneg hx.1 (by omega)
 have h2:x*n2<=((n1:Int)-1)*n2:=Int.mul_le_mul_of_nonneg_right (by have:=hx.2;omega) (by omega)
 rw[Int.sub_mul,Int.one_mul]at h2
 refine⟨by have:=hy.1;omega, ?_⟩
 rw[zzS]
 have:=hy.2
 omega
theorem yt{n1 n2:Nat}{p:Int}(h2:0<n2)(h:InR (n1*n2) p):InR n1 (p/n2)/\InR n2 (p%n2):=
 ⟨⟨Int.ediv_nonneg h.1 (by omega),Int.ediv_lt_of_lt_mul (by omega) (by have:=h.2;rw[zzS]at this;exact this)⟩,zbR h2⟩
theorem zav{n2:Nat}{x y:Int}(hy:InR n2 y):(x*n2+y)/n2=x/\(x*n2+y)%n2=y:=by
 have h0:(n2:Int)≠0:=by have:=hy.1;have:=hy.2;omega
 constructor
 · rw[Int.add_comm,Int.add_mul_ediv_right _ _ h0,Int.ediv_eq_zero_of_lt hy.1 hy.2,Int.zero_add]
 · rw[Int.add_comm,Int.add_mul_emod_self_right,Int.emod_eq_of_lt hy.1 hy.2]
theorem zsq{n2:Nat}{p:Int}:(p/n2)*n2+p%n2=p:=by rw[Int.mul_comm];exact Int.mul_ediv_add_emod p n2
def jB(n2:Nat)(j1 j2:Int->Int->Int)(p q:Int):Int:=j1 (p/n2) (q/n2)*n2+j2 (p%n2) (q%n2)
def dB(n2:Nat)(d1 d2:Int->Int->Int)(c p:Int):Int:=d1 c (p/n2)*n2+d2 c (p%n2)
theorem leN{n k:Nat}(h:n<=8)(hk:8<=k:=by decide):n<=k:=zzL h hk
theorem np1{n:Nat}(h:1<=n):(0:Int)<n:=Int.natCast_pos.mpr h
theorem tS{a:Int}{n:Nat}(h0:0<=a)(h1:a<n):a.toNat<n:=Int.ofNat_lt.mp (by rw[zyW h0];exact h1)
theorem mU{n:Nat}{k:Int}(h:n<=8)(hk:8<k:=by decide):(n:Int)<k:=Int.lt_of_le_of_lt (Int.ofNat_le.mpr h) hk
theorem iT{n:Nat}{x:Int}(h:InR n x):x.toNat<n:=Int.ofNat_lt.mp (by rw[zyW h.1];exact h.2)
theorem iC{n:Nat}{x:Int}(h:InR n x):((x.toNat:Nat):Int)=x:=zyW h.1
theorem zI(i:Nat):(0:Int)<=0+i:=by rw[Int.zero_add];exact Int.natCast_nonneg i
def rAt(r:List Int)(v:Int):Int:=(r[v.toNat]?).getD 0
def jAt(J:List (List Int))(w v:Int):Int:=rAt ((J[w.toNat]?).getD []) v
local macro_rules | `(tactic| trivial)=>`(tactic| first|with_reducible first|assumption|exact Int.natCast_nonneg _|exact Nat.le_refl _|exact Int.le_refl _|exact rfl|exact leN (by assumption)|exact np1 (by assumption)|exact np2 (by assumption)|exact nq1 (by assumption)|exact nq2 (by assumption)|exact Int.natCast_pos.mpr (by assumption)|exact Nat.le_trans (by assumption) (by decide)|exact bgL _|exact bgU (by assumption)|exact mU (by assumption)|exact zI _|exact bL0 (by assumption)|exact bU0 (by assumption) (by assumption)|exact iL (by assumption)|exact iU (by assumption) (by assumption)|exact iC (by assumption)|exact iT (by assumption)|exact stL (by assumption)|exact stU (by assumption)|exact lnK (by assumption) (by assumption) (by assumption)|exact zi1 _|exact lnE (by assumption)|exact ltL (by assumption)|exact Int.toNat_of_nonneg (by assumption)|exact tS (by assumption) (by assumption)|exact b6 (by assumption)|exact Int.emod_nonneg _ (by decide)|exact Int.emod_lt_of_pos _ (by decide)|decide|omega)
abbrev lfI(x:Int):O:=.lf true (.int x)
abbrev sI(x:Int):Option O:=some (lfI x)
abbrev sT(d:D):Option O:=some (.lf true d)
abbrev sN(os:List O):Option O:=some (.nd .ls os)
abbrev TZ:Type:=List (List Int)
abbrev DD:Type:=List (Str×TZ)
abbrev SS:Type:=List (Str×List Int)
theorem Y9{f:EF}{as as1:AS}{o:O}(h:f as=some (.ow o,as1))(hs:o.str=true):yF f as=some (.rt o):=by
 unfold yF;rw[h]
 show((if o.str=true then some o else none).bind _)=_
 rw[if_pos hs];rfl
theorem vC:∀xs:List Int,(xs.map lfI).all O.isLf=true/\O.strs (xs.map lfI)=true/\O.toDs (xs.map lfI)=xs.map D.int
 | []=>⟨rfl,rfl,rfl⟩
 |x::r=>⟨(vC r).1,(vC r).2.1,congrArg (D.int x :: ·) (vC r).2.2⟩
theorem zjl(xs:List Int):(xs.map D.int).map (O.lf true)=xs.map lfI:=by rw[zzY];rfl
theorem zbr(ys:List Int)(w:Int):(ys++[w]).map lfI=ys.map lfI++[O.lf true (.int w)]:=by rw[zyJ];rfl
theorem zbB(xs:List Int):(O.nd .ls (xs.map lfI)).str=true/\(O.nd .ls (xs.map lfI)).toD = .lst (xs.map D.int):=⟨(vC xs).2.1,congrArg D.lst (vC xs).2.2⟩
abbrev Zg(r:List Int):O:=.nd .ls (r.map lfI)
abbrev yR(r:List Int):D:=.lst (r.map D.int)
theorem Xg:∀T:TZ,O.strs (T.map Zg)=true/\O.toDs (T.map Zg)=T.map yR
 | []=>⟨rfl,rfl⟩
 |r::T=>⟨by show(O.strs (r.map lfI)&&O.strs (T.map Zg))=true;rw[(vC r).2.1,(Xg T).1];rfl,by
  show D.lst (O.toDs (r.map lfI))::O.toDs (T.map Zg)=_
  rw[(vC r).2.2,(Xg T).2];rfl⟩
theorem zbn{g:GF}{fe:EF}{as0 as1:AS}{y:It1}{r:List It1}{o:O}{os:List O}(h1:g y as0=some as1)(h2:fe as1=some (.ow o,as1))(hs:o.str=true)(h3:xX g xG fe as0 r=some os):xX g xG fe as0 (y::r)=some (o::os):=by
 unfold xX
 rw[h1];show((fe as1).bind _)=_
 rw[h2];show(if o.str=true then _ else _)=_
 rw[if_pos hs,h3];rfl
theorem xr:∀(n:Nat) (k:Int),(wz k n).length=n
 |0,_=>rfl
 |n+1,k=>by rw[zeT];exact congrArg (· + 1) (xr n (k+1))
theorem zjJ:∀{n:Nat}{k:Int}{y:It1},y ∈ wz k n->∃b:Int,y=(true,.int b)/\k<=b/\b<k+n
 |0,_,_,h=>nomatch h
 |n+1,k,y,h=>by
  rw[zeT]at h
  rcases zS.mp h with rfl|h
  · exact⟨k,rfl,by trivial,by trivial⟩
  · obtain⟨b,e,h1,h2⟩:=zjJ h
    exact⟨b,e,by trivial,by trivial⟩
def Row(n:Nat)(r:List Int):Prop:=r.length=n/\∀x ∈ r,0<=x/\x<(n:Int)
def Tab(k n:Nat)(T:TZ):Prop:=T.length=k/\∀r ∈ T,Row n r
abbrev yr(T:TZ):D:=.lst (T.map yR)
theorem zpU{r:List Int}{P:Int->Prop}{k:Int}(h0:0<=k)(h1:k<r.length)(hp:∀x ∈ r,P x):∃x,ixP (yR r) (.int k)=some (.im (.int x))/\P x:=by
 have hk:k.toNat<r.length:=by trivial
 refine⟨r[k.toNat], ?_,hp _ (zyX hk)⟩
 have h:=Wy (xs:=r.map D.int) (j:=k.toNat) (v:=D.int r[k.toNat]) (by rw[zzF,zzB hk];rfl)
 rw[show((k.toNat:Nat):Int)=k by trivial]at h
 show imR (atI _ _)=_
 rw[h];rfl
theorem zfN{α:Type}{f:α->D}{l:List α}{i:Nat}{p:α}(h:l[i]? = some p):ixP (.lst (l.map f)) (.int (i:Int))=some (.im (f p)):=by
 have h:=Wy (xs:=l.map f) (j:=i) (v:=f p) (by rw[zzF,h];rfl)
 show imR (atI _ _)=_
 rw[h];rfl
theorem zqs{n k:Nat}{r:List Int}{v:Int}(hl:r.length=k)(hr:∀x ∈ r,InR n x)(hv:InR k v):ixP (yR r) (.int v)=some (.im (.int (rAt r v)))/\InR n (rAt r v):=by
 have hk:v.toNat<r.length:=by rw[hl];have:=hv.1;have:=hv.2;trivial
 have g:=zzB hk
 have e:rAt r v=r[v.toNat]:=by unfold rAt;rw[g];rfl
 rw[e]
 refine⟨?_,hr _ (zyX hk)⟩
 have:=zfN (f:=D.int) g
 rw[show((v.toNat:Nat):Int)=v by have:=hv.1;trivial]at this
 exact this
abbrev zhH(T:TZ)(w:Int):List Int:=(T[w.toNat]?).getD []
theorem Wk{k n:Nat}{T:TZ}{w:Int}(hT:Tab k n T)(hw:InR k w):ixP (yr T) (.int w)=some (.im (yR (zhH T w)))/\Row n (zhH T w):=by
 have hk:w.toNat<T.length:=by rw[hT.1];have:=hw.1;have:=hw.2;trivial
 have g:=zzB hk
 unfold zhH
 rw[g]
 refine⟨?_,hT.2 _ (zyX hk)⟩
 have:=zfN (f:=yR) g
 rw[show((w.toNat:Nat):Int)=w by have:=hw.1;trivial]at this
 exact this
theorem rowAt{n:Nat}{r:List Int}{v:Int}(hr:Row n r)(hv:InR n v):ixP (yR r) (.int v)=some (.im (.int (rAt r v)))/\InR n (rAt r v):=zqs hr.1 hr.2 hv
theorem zjx{α:Type}(toD:α->D){Q:Nat->α->Prop}{g:GF}{fe:EF}{as0:AS}:∀{xs:List It1}(k:Nat),(∀i y,xs[i]? = some y->∃as1 a,g y as0=some as1/\WE fe as1 (toD a)/\Q (k+i) a)->∃(os:List O) (l:List α),xX g xG fe as0 xs=some os/\O.strs os=true/\O.toDs os=l.map toD/\l.length=xs.length/\∀i a,l[i]? = some a->Q (k+i) a
 | [],k,_=>⟨[],[],rfl,rfl,rfl,rfl,λi a h=>by simp at h⟩
 |y::xs,k,H=>by
  obtain⟨as1,a,h1,⟨o,h2,h3,h4⟩,h5⟩:=H 0 y rfl
  obtain⟨os,l,a1,a2,a3,a4,a5⟩:=zjx toD (Q:=Q) (g:=g) (fe:=fe) (as0:=as0) (xs:=xs) (k+1) λi z m=>by
   have:=H (i+1) z (by simpa using m)
   rwa [show k+(i+1)=k+1+i by trivial]at this
  refine⟨o::os,a::l,zbn h1 h2 h3 a1,by show(o.str&&O.strs os)=true;rw[h3,a2];rfl,by show o.toD::O.toDs os=_;rw[h4,a3];rfl,congrArg (· + 1) a4,λi b m=>?_⟩
  cases i with
  |zero=>simp at m;subst m;exact h5
  |succ i=>
   have:=a5 i b (by simpa using m)
   rwa [show k+1+i=k+(i+1) by trivial]at this
theorem zmQ{α:Type}(toD:α->D){Q:Nat->α->Prop}{fi:IF}{cap:List (Option Nat)}{g:GF}{fe:EF}{as:AS}{xs:List It1}(h1:fi as=some (xs,as))(hl:xs.length<=1000)(H:∀i y,xs[i]? = some y->∃as1 a,g y (Y4 cap as)=some as1/\WE fe as1 (toD a)/\Q i a):
 ∃l:List α,l.length=xs.length/\(∀i a,l[i]? = some a->Q i a)/\WE (yw fi cap g xG fe) as (.lst (l.map toD)):=by
 obtain⟨os,l,a1,a2,a3,a4,a5⟩:=zjx toD (Q:=Q) (g:=g) (fe:=fe) (as0:=Y4 cap as) 0 (λi y h=>by rw[zyV];exact H i y h)
 exact⟨l,a4,(λi a h=>by have:=a5 i a h;rwa [zyV]at this),_,zbl h1 (szs (by trivial)) a1,a2,congrArg D.lst a3⟩
abbrev zlW(N n:Nat)(f:Int->Int)(r:List Int):Prop:=r.length=n/\(∀x ∈ r,InR N x)/\∀b,InR n b->rAt r b=f b
abbrev zpZ(k n:Nat)(f:Int->Int->Int)(T:TZ):Prop:=Tab k n T/\∀a b,InR k a->InR n b->jAt T a b=f a b
theorem znu{N n:Nat}{f:Int->Int}{l:List Int}(hl:l.length=n)(h:∀(i:Nat) a,l[i]? = some a->a=f i/\InR N a):zlW N n f l:=by
 refine⟨hl,λx m=>?_,λb hb=>?_⟩
 · obtain⟨i,hi⟩:=List.getElem?_of_mem m
   exact(h i x hi).2
 · have hk:b.toNat<l.length:=by rw[hl];have:=hb.1;have:=hb.2;trivial
   have g:=zzB hk
   unfold rAt
   rw[g]
   show l[b.toNat]=_
   rw[(h _ _ g).1,show((b.toNat:Nat):Int)=b by have:=hb.1;trivial]
theorem zom{k n:Nat}{f:Int->Int->Int}{l:TZ}(hl:l.length=k)(h:∀(i:Nat) r,l[i]? = some r->zlW n n (f i) r):zpZ k n f l:=by
 refine⟨⟨hl,λx m=>?_⟩,λa b ha hb=>?_⟩
 · obtain⟨i,hi⟩:=List.getElem?_of_mem m
   exact⟨(h i x hi).1,(h i x hi).2.1⟩
 · have hk:a.toNat<l.length:=by rw[hl];have:=ha.1;have:=ha.2;trivial
   have g:=zzB hk
   unfold jAt
   rw[g]
   show rAt l[a.toNat] b=_
   have:=(h _ _ g).2.2 b hb
   rw[show((a.toNat:Nat):Int)=a by have:=ha.1;trivial]at this
   exact this
theorem ziQ{f:Int->Int}{N:Nat}{fr:AF}{cap:List (Option Nat)}{fe:EF}{as:AS}{n:Nat}{u:Bool}(h1:WA fr as [(u,.int n)])(hl:n<=1000)(H:∀b:Int,InR n b->∃as1,gN 0 (true,.int b) (Y4 cap as)=some as1/\WE fe as1 (.int (f b))/\InR N (f b)):
 ∃r:List Int,zlW N n f r/\WE (yw (yE fr yI) cap (gN 0) xG fe) as (yR r):=by
 obtain⟨l,a1,a2,a3⟩:=zmQ D.int (Q:=λi a=>a=f i/\InR N a) (cap:=cap) (g:=gN 0) (fe:=fe) (vm h1 (by trivial) (by trivial)) (by rw[xr];trivial) (λi y m=>by
  obtain⟨rfl,hi⟩:=wU m
  obtain⟨as1,b1,b2,b3⟩:=H (0+i) ⟨by trivial,by trivial⟩
  exact⟨as1,f (0+i),b1,b2,by rw[Int.zero_add],b3⟩)
 rw[xr]at a1
 exact⟨l,znu (by trivial) a2,a3⟩
theorem ziP{f:Int->Int->Int}{n:Nat}{fr:AF}{cap:List (Option Nat)}{fe:EF}{as:AS}{k:Nat}{u:Bool}(h1:WA fr as [(u,.int k)])(hl:k<=1000)(H:∀b:Int,InR k b->∃as1 r,gN 0 (true,.int b) (Y4 cap as)=some as1/\WE fe as1 (yR r)/\zlW n n (f b) r):
 ∃T:TZ,zpZ k n f T/\WE (yw (yE fr yI) cap (gN 0) xG fe) as (yr T):=by
 obtain⟨l,a1,a2,a3⟩:=zmQ yR (Q:=λi r=>zlW n n (f i) r) (cap:=cap) (g:=gN 0) (fe:=fe) (vm h1 (by trivial) (by trivial)) (by rw[xr];trivial) (λi y m=>by
  obtain⟨rfl,hi⟩:=wU m
  obtain⟨as1,r,b1,b2,b3⟩:=H (0+i) ⟨by trivial,by trivial⟩
  rw[Int.zero_add]at b3
  exact⟨as1,r,b1,b2,b3⟩)
 rw[xr]at a1
 exact⟨l,zom (by trivial) a2,a3⟩
theorem zhT:∀(b:Nat) (a:Int) (f:Nat),b<f->0<a->a<1000->b<1000->∃g e,0<g/\g<1000/\g ∣ a/\g ∣ (b:Int)/\whL (fT (f2 (fV 1) (fC (.int 0)) (zZ .Gt))) (zkX 0 1 (dC (fV 1) (dC (f2 (fV 0) (fV 1) (zm .Mod)) dN))) f [sI a,sI b]=some (.nx [sI g,e]):=by
 intro b
 induction b using Nat.strongRecOn with
 |ind b ih=>
  intro a f hf ha ha2 hb2
  cases f with
  |zero=>trivial
  |succ f=>
   by_cases hb:b=0
   · subst hb
     exact⟨a,_,ha,ha2,Int.dvd_refl a,Int.dvd_zero a,zrc (wC (zhA (zb rfl) zj) rfl)⟩
   · have m0:=zyK a (show(b:Int)≠0 by trivial)
     have m1:=zyE a (show(0:Int)<b by trivial)
     obtain⟨g,e,g0,g1,d1,d2,hg⟩:=ih (a%b).toNat (by trivial) b f (by trivial) (by trivial) (by trivial) (by trivial)
     rw[show(((a%b).toNat:Nat):Int)=a%b by trivial]at hg d2
     refine⟨g,e,g0,g1, ?_,d1,zqA (wC (zhA (zb rfl) zj) (congrArg some (zyL (show(0:Int)<b by trivial)))) (zpW (zN (zb rfl) (zN (yq (zb rfl) (zb rfl) (by trivial)) yK)) (zF rfl) (zF rfl)) hg⟩
     rw[<-Int.mul_ediv_add_emod a b]
     exact Int.dvd_add (Int.dvd_trans d1 (Int.dvd_mul_right _ _)) d2
theorem strs_snoc:∀(os:List O) (o:O),O.strs os=true->o.str=true->O.strs (os++[o])=true
 | [],o,_,h=>by show(o.str&&true)=true;rw[h];rfl
 |p::r,o,h,h'=>by
  have h:=(zzZ _ _).mp (show(p.str&&O.strs r)=true from h)
  show(p.str&&O.strs (r++[o]))=true
  rw[h.1,strs_snoc r o h.2 h'];rfl
theorem zfk:∀(os:List O) (o:O),O.toDs (os++[o])=O.toDs os++[o.toD]
 | [],o=>rfl
 |p::r,o=>congrArg (p.toD :: ·) (zfk r o)
structure Ows{α:Type}(toD:α->D)(Q:α->Prop)(os:List O)(l:List α):Prop where
 st:O.strs os=true
 ds:O.toDs os=l.map toD
 al:∀a ∈ l,Q a
 ln:os.length=l.length
theorem Ows.nil{α:Type}{toD:α->D}{Q:α->Prop}:Ows toD Q [] []:=⟨rfl,rfl,(λ_ m=>nomatch m),rfl⟩
theorem Ows.snoc{α:Type}{toD:α->D}{Q:α->Prop}{os:List O}{l:List α}{o:O}{a:α}(h:Ows toD Q os l)(h1:o.str=true)(h2:o.toD=toD a)(h3:Q a):Ows toD Q (os++[o]) (l++[a]):=
 ⟨strs_snoc os o h.st h1,(by rw[zfk,h.ds,h2,zyJ];rfl),(λb m=>(zzJ.mp m).elim (h.al b) λm=>(by rw[zzO.mp m];exact h3)),(by rw[zzG,zzG,h.ln];rfl)⟩
theorem zdo{as as1:AS}{a:EF}{i:Nat}{os0 os:List O}{o:O}(h:as[i]? = some (sN os0))(ha:a as=some (.ow o,as1))(h1:as1[i]? = some (sN os))(hl:os.length<sizeLine):wJ (ZX i (dC a dN) Ye) as=some (.nx (as1.set i (sN (os++[o])))):=by
 unfold wJ ZX;rw[h]
 have e:dC a dN as=some ([o],as1):=xO ha rfl
 show((dC a dN as).bind _).bind _=_
 rw[e];show(Option.bind (match as1[i]? with|some (some (.nd .ls os))=>_|_=>none) _)=_
 rw[h1];show((Ye os [o]).bind _).bind _=_
 have e2:Ye os [o]=some (os++[o],.lf true .non):=by unfold Ye;exact if_pos hl
 rw[e2];rfl
theorem zte{α:Type}{toD:α->D}{Q:α->Prop}{as:AS}{a:EF}{i:Nat}{os:List O}{l:List α}{x:α}(h:as[i]? = some (sN os))(ho:Ows toD Q os l)(hl:l.length<1000)(ha:WE a as (toD x))(hx:Q x):
 ∃os',Ows toD Q os' (l++[x])/\wJ (ZX i (dC a dN) Ye) as=some (.nx (as.set i (sN os'))):=by
 obtain⟨o,h1,h2,h3⟩:=ha
 exact⟨os++[o],ho.snoc h2 h3 hx,zdo h h1 h (by rw[ho.ln];exact yN (by trivial))⟩
theorem Ows.retB{α:Type}{toD:α->D}{Q:α->Prop}{as:AS}{i:Nat}{os:List O}{l:List α}(h:as[i]? = some (sN os))(ho:Ows toD Q os l):Rt (yF (fV i) as) (.lst (l.map toD)):=
 ⟨_,zjD h ho.st,ho.st,congrArg D.lst ho.ds⟩
structure OwsX{α:Type}(toD:α->D)(Q:Nat->α->Prop)(os:List O)(l:List α):Prop where
 st:O.strs os=true
 ds:O.toDs os=l.map toD
 al:∀i a,l[i]? = some a->Q i a
 ln:os.length=l.length
theorem zpb{fr:AF}{as:AS}{rs:List (Bool×D)}{g:List D->Option R0}{zs:List D}(ha:WA fr as rs)(hg:g (rs.map (·.2))=some (.fl zs)):fP fr g as=some (.ow (.nd .ls (zs.map (lfs (rs.all (·.1))))),as):=by
 unfold fP;unfold WA at ha
 rw[ha];show(views as _).bind _=_
 rw[YM];show(g _).bind _=_
 rw[hg]
 show(if(zs.all yd||(some (rs.all (·.1))).isSome)=true then _ else _:Option RV).bind _=_
 rw[if_pos (by simp)];rfl
theorem zqF{a:EF}{as:AS}{x:D}{g:List D->Option R0}{zs:List D}(ha:WE a as x)(hg:g [x]=some (.fl zs)):fP (aC a aN) g as=some (.ow (.nd .ls (zs.map (O.lf true))),as):=by
 have:=zpb (g:=g) (Vj ha (zQ (as:=as))) hg
 rw[show([(true,x)].all (·.1))=true from rfl,zak]at this
 exact this
theorem zpc{a:EF}{as:AS}{s:Bool}{r:List Int}(h:WD a as s (yR r)):fP (aC a aN) lstP as=some (.ow (Zg r),as):=by
 have:=zpb (g:=lstP) (zE h (zQ (as:=as))) rfl
 rw[zzY]at this
 exact this
theorem zmM{a:EF}{as:AS}{s:Bool}{r:List Int}(h:WD a as s (yR r)):WE (fP (aC a aN) lstP) as (yR r):=⟨_,zpc h,(zbB r).1,(zbB r).2⟩
theorem zkR{a b c d:EF}{as:AS}{x y z u w:D}{g:List (Bool×D)->Option O}(ha:WE a as x)(hb:WE b as y)(hc:WE c as z)(hd:WE d as u)(hg:RE (g [(true,x),(true,y),(true,z),(true,u)]) w):WE (zJ (aC a (aC b (aC c (aC d aN)))) g) as w:=by
 obtain⟨o,h1,h2⟩:=hg
 exact⟨o,zan (Vj ha (Vj hb (Vj hc (Vj hd zQ)))) (by show g [(yd x||true,x),(yd y||true,y),(yd z||true,z),(yd u||true,u)]=_;rw[zyA,zyA,zyA,zyA];exact h1),h2⟩
theorem zeI{fr:DF}{as:AS}{os:List O}{x:D}(h:WO fr as os)(hl:os.length<=sizeLine)(hs:O.strs os=true)(e:D.tup (O.toDs os)=x):WE (xR fr) as x:=by
 refine⟨_,zgF h hl, ?_, ?_⟩
 · unfold Y0
   split
   · exact hs
   · exact hs
 · unfold Y0
   split
   · exact e
   · exact e
theorem copies{n m:Nat}{fr:AF}{cap:List (Option Nat)}{as:AS}{u s:Bool}{r:List Int}(hr:Row n r)(hm:m<=8)(h1:WA fr as [(u,.int m)])(h2:∀b:Int,∃as1,gN 0 (true,.int b) (Y4 cap as)=some as1/\WD (fV 1) as1 s (yR r)):
 ∃T,zpZ m n (λ_ a=>rAt r a) T/\WE (yw (yE fr yI) cap (gN 0) xG (fP (aC (fV 1) aN) lstP)) as (yr T):=
 ziP (f:=λ_ a=>rAt r a) (n:=n) (k:=m) (cap:=cap) (fe:=fP (aC (fV 1) aN) lstP) h1 (by trivial) λb _=>by
  obtain⟨as1,g1,g2⟩:=h2 b
  exact⟨as1,r,g1,zmM g2,hr.1,hr.2,λ_ _=>rfl⟩
theorem zkq{l:List Int}(h:l.Pairwise (· <= ·)){i j:Nat}(hij:i<j)(hj:j<l.length):l[i]<=l[j]:=List.pairwise_iff_getElem.mp h i j (by trivial) hj hij
theorem Wn{r:List Int}{a:Int}(h:a.toNat<r.length):rAt r a=r[a.toNat]:=by unfold rAt;rw[zzB h];rfl
theorem zhy:∀l:List Int,W0 (l.map D.int)=some l
 | []=>rfl
 |x::r=>by
  show(W0 (r.map D.int)).bind _=_
  rw[zhy r];rfl
theorem zpE{as:AS}{i:Nat}{os:List O}{fl fh:OF}{lo hi:Option Int}(h:as[i]? = some (sN os))(hl:os.all O.isLf=true)(hs:O.strs os=true)(h1:fl as=some (lo,as))(h2:fh as=some (hi,as)):
 fSl (fV i) fl fh slP as=some (.ow (.nd .ls ((cutD (O.toDs os) lo hi).map (O.lf true))),as):=by
 unfold fSl
 rw[zeM h];show((fl as).bind _)=_
 rw[h1];show((fh as).bind _)=_
 rw[h2];show((RV.view as (.bo i)).bind _)=_
 rw[zdf h]
 have e:(O.nd .ls os).kl=some true:=by simp only[O.kl,hl,if_true,hs]
 rw[e]
 show(wrap (some true) (.fl (cutD (O.toDs os) lo hi))).bind _=_
 show(if((cutD (O.toDs os) lo hi).all yd||true)=true then some (RV.ow (.nd .ls ((cutD (O.toDs os) lo hi).map (lfs true))))else none:Option RV).bind _=_
 rw[if_pos (by simp),zak];rfl
theorem Ows.frz{α:Type}{toD:α->D}{Q:α->Prop}{os:List O}{l:List α}(h:Ows toD Q os l):(O.nd .ls os).frz = .lf true (.lst (l.map toD)):=by
 show O.lf (O.strs os) (.lst (O.toDs os))=_
 rw[h.st,h.ds]
theorem zhN{as as2:AS}{j:Nat}{ps:List O}{fr:DF}{os:List O}(hj:as[j]? = some (sN ps))(hr:fr (as.set j (some (O.nd .ls ps).frz))=some (os,as2)):dC (fV j) fr as=some ((O.nd .ls ps).frz::os,as2):=by
 unfold dC
 rw[zeM hj]
 show((toO as (.bo j)).bind _)=_
 rw[zrr hj]
 show(fr (as.set j (some (O.nd .ls ps).frz))).bind _=_
 rw[hr];rfl
theorem zdc{as as1:AS}{fr:DF}{os:List O}(h:fr as=some (os,as1))(hl:os.length<=sizeLine):xR fr as=some (.ow (Y0 os),as1):=by
 unfold xR
 rw[h];show(if os.length<=sizeLine then _ else _)=_
 rw[if_pos hl]
theorem zdO:∀(l:List Int) (k:Nat) (h:k<l.length),(l[k]::l.eraseIdx k).Perm l
 |x::r,0,_=>List.Perm.refl _
 |x::r,k+1,h=>(List.Perm.swap _ _ _).trans ((zdO r k (by simpa using h)).cons x)
abbrev zbV(n:Nat):List Int:=(List.range n).map λ(i:Nat)=>(i:Int)
abbrev wQ(p:Str×List Int):D:=.tup [.str p.1,yR p.2]
theorem zmw{x y:Int}{c:Bool}:ixP (.lst [.int x,.int y]) (.int (if c=true then 1 else 0))=some (.im (.int (if c=true then y else x))):=by cases c<;>rfl
abbrev abc:Str:="abcdefghijklmnopqrstuvwxyz"
theorem zns:∀k,k<26->abc.cps.toList[k]? = some (97+k):=by decide +kernel
theorem zpF{i:Int}(h0:0<=i)(h1:i<26):ixP (.str abc) (.int i)=some (.im (.str ⟨#[97+i.toNat]⟩)):=by
 show(if abc.length<=sizeLine then(atI abc.cps.toList i).bind (λc=>some (R0.im (.str ⟨#[c]⟩)))else none)=_
 rw[if_pos (show abc.length<=sizeLine by decide +kernel)]
 have:=Wy (zns i.toNat (by trivial))
 rw[show((i.toNat:Nat):Int)=i by trivial]at this
 rw[this];rfl
theorem zgU:∀l:List Str,zcH (l.map D.str)=some l
 | []=>rfl
 |x::r=>by
  show(zcH (r.map D.str)).bind _=_
  rw[zgU r];rfl
theorem zrF:∀l:List Str,(∀s ∈ l,s.length=1)->(l.map (·.length)).sum=l.length
 | [],_=>rfl
 |x::r,h=>by
  show x.length+(r.map (·.length)).sum=r.length+1
  rw[h x (zzC ..),zrF r λs m=>h s (zzA _ m)];trivial
theorem zoi{α:Type}(toD:α->D){Q:Nat->α->Prop}{fr:AF}{cap:List (Option Nat)}{fe:EF}{as:AS}{n:Nat}{u:Bool}(h1:WA fr as [(u,.int n)])(hl:n<=1000)(H:∀i:Nat,i<n->∃as1 a,gN 0 (true,.int (i:Int)) (Y4 cap as)=some as1/\WE fe as1 (toD a)/\Q i a):
 ∃l:List α,l.length=n/\(∀i a,l[i]? = some a->Q i a)/\WE (yw (yE fr yI) cap (gN 0) xG fe) as (.lst (l.map toD)):=by
 obtain⟨l,a1,a2,a3⟩:=zmQ toD (Q:=Q) (cap:=cap) (g:=gN 0) (fe:=fe) (vm h1 (by trivial) (by trivial)) (by rw[xr];trivial) (λi y m=>by
  obtain⟨rfl,hi⟩:=wU m
  rw[Int.zero_add]
  exact H i (by trivial))
 rw[xr]at a1
 exact⟨l,by trivial,a2,a3⟩
theorem YL{F:List Int}{n:Nat}(h:F.Perm (zbV n)):Row n F/\∀b:Int,0<=b->b<n->b ∈ F:=by
 refine⟨⟨by rw[h.length_eq,zD,zyR],λx m=>?_⟩,λb b0 b1=>h.mem_iff.mpr ?_⟩
 · obtain⟨i,hi,rfl⟩:=zxB.mp (h.mem_iff.mp m)
   have:=List.mem_range.mp hi
   trivial
 · exact zxB.mpr ⟨b.toNat,List.mem_range.mpr (by trivial),by trivial⟩
theorem zgQ{F:List Int}{n:Nat}(h:F.Perm (zbV n)){v w:Int}(hv:InR n v)(hw:InR n w)(e:rAt F v=rAt F w):v=w:=by
 have hl:=(YL h).1.1
 have v0:=hv.1
 have v1:=hv.2
 have w0:=hw.1
 have w1:=hw.2
 have nd:F.Nodup:=by
  refine h.nodup_iff.mpr (List.pairwise_map.mpr (List.nodup_range.imp λz q=>z (by trivial)))
 rw[Wn (by trivial),Wn (by trivial)]at e
 have:=(List.getElem_inj nd).mp e
 trivial
theorem zrp{f:EF}{g:GF}{as as':AS}{x:D}(h:WE f as x)(hg:g (true,x) as=some as'):zgY f g as=some (.nx as'):=by
 obtain⟨o,h1,h2,h3⟩:=h
 exact zqS h1 (by rw[h2,h3];exact hg)
abbrev ZZ(p:Str×TZ):D:=.tup [.str p.1,yr p.2]
structure Alg(n m:Nat)(J:TZ)(e:Int)(Ds:DD):Prop where
 n1:1<=n
 n8:n<=8
 m1:1<=m
 m6:m<=6
 j:Tab n n J
 e0:0<=e
 en:e<n
 dl:Ds.length<=6
 ds:∀p ∈ Ds,Tab m n p.2
 nd:(Ds.map (·.1)).Nodup
structure LawA(n m:Nat)(J:TZ)(e:Int)(Ds:DD):Prop where
 lj:LJ n (jAt J) e
 ld:∀p ∈ Ds,LD n m (jAt J) e (jAt p.2)
abbrev zG(n m:Nat)(J:TZ)(e:Int)(Ds:DD)(S:SS):D:=.tup [.int n,.int m,yr J,.int e,.lst (Ds.map ZZ),.lst (S.map wQ)]
theorem zqh{f:EF}{as:AS}{k:Int}(h:WD f as true (.int k)):oS f as=some (some k,as):=by
 unfold oS
 unfold WD at h
 rw[h];rfl
abbrev v5(T:TZ):O:=.nd .ls (T.map Zg)
theorem ZD{as:AS}{i:Nat}{k:Int}{s:Bool}(h:as[i]? = some (some (.lf s (.int k)))):xV i as=some k:=by
 unfold xV;rw[zdj (f:=zcm) h rfl];rfl
theorem zlT{r:List Int}{k:Int}(h:k.toNat<r.length):(r.map lfI)[k.toNat]? = sT (.int r[k.toNat]):=by
 rw[zzF,zzB h];rfl
theorem zkd{as:AS}{i:Nat}{f1 f2 fv:IXF}{k1 k2 c:Int}{T:TZ}{r:List Int}(h1:f1 as=some k1)(h2:f2 as=some k2)(hv:fv as=some c)(p1:0<=k1)(p2:0<=k2)(hi:as[i]? = some (some (v5 T)))(hr:T[k1.toNat]? = some r)(hk:k2.toNat<r.length):
 Vd i f1 f2 fv as=some (.nx (as.set i (some (v5 (T.set k1.toNat (r.set k2.toNat c)))))):=by
 have e1:(T.map Zg)[k1.toNat]? = sN (r.map lfI):=by rw[zzF,hr];rfl
 have e2:=zlT hk
 have e3:(T.map Zg).set k1.toNat (.nd .ls ((r.map lfI).set k2.toNat (.lf true (.int c))))=(T.set k1.toNat (r.set k2.toNat c)).map Zg:=by
  rw[List.map_set]
  show _=(T.map Zg).set k1.toNat (.nd .ls ((r.set k2.toNat c).map lfI))
  rw[List.map_set]
 unfold Vd
 simp only[h1,h2,hv,zyI,if_pos (show 0<=k1/\0<=k2 from⟨p1,p2⟩),(zdj hi rfl:slO zaq as i=some (T.map Zg)),(zab e1 rfl:atO zaq _ _=some (r.map lfI)),(zab e2 rfl:atO zcm _ _=some (.int r[k2.toNat])),e3]
theorem zjg{n i:Nat}{r:List Int}{c:Int}(hr:Row n r)(hc:InR n c):Row n (r.set i c):=by
 refine⟨by rw[zzR];exact hr.1,λx m=>?_⟩
 rcases List.mem_or_eq_of_mem_set m with m|rfl
 · exact hr.2 x m
 · exact hc
theorem zjr{k n i:Nat}{T:TZ}{r:List Int}(hT:Tab k n T)(hr:Row n r):Tab k n (T.set i r):=by
 refine⟨by rw[zzR];exact hT.1,λx m=>?_⟩
 rcases List.mem_or_eq_of_mem_set m with m|rfl
 · exact hT.2 x m
 · exact hr
theorem set_same{α:Type}:∀{l:List α}{i:Nat}{a:α},l[i]? = some a->l.set i a=l
 | [],_,_,h=>by simp at h
 |x::l,0,a,h=>by
  simp at h
  rw[h];rfl
 |x::l,i+1,a,h=>congrArg (x :: ·) (set_same (l:=l) (i:=i) (by simpa using h))
theorem zjq(T:TZ):(v5 T).frz = .lf true (yr T):=by
 show O.lf (O.strs _) (.lst (O.toDs _))=_
 rw[(Xg T).1,(Xg T).2]
theorem zfB{n:Nat}{J:TZ}{w v:Int}(hJ:Tab n n J)(hw:InR n w)(hv:InR n v):InR n (jAt J w v):=(rowAt (Wk hJ hw).2 hv).2
theorem Xo{a b c:EF}{as:AS}{n:Nat}{J:TZ}{w v:Int}(hJ:Tab n n J)(hw:InR n w)(hv:InR n v)(ha:WD a as true (yr J))(hb:WD b as true (.int w))(hc:WD c as true (.int v)):WD (f2 (f2 a b ixP) c ixP) as true (.int (jAt J w v)):=
 xF (Zx ha hb (Wk hJ hw).1) hc (rowAt (Wk hJ hw).2 hv).1 rfl
theorem zst{fr:AF}{as:AS}{rs:List (Bool×D)}{g:List D->Option R0}{kvs:List (Key×D)}(ha:WA fr as rs)(hg:g (rs.map (·.2))=some (.fd kvs)):fP fr g as=some (.ow (.nd (.dc (kvs.map (·.1))) ((kvs.map (·.2)).map (lfs (rs.all (·.1))))),as):=by
 unfold fP;unfold WA at ha
 rw[ha];show(views as _).bind _=_
 rw[YM];show(g _).bind _=_
 rw[hg]
 show(if((kvs.map (·.2)).all yd||(some (rs.all (·.1))).isSome)=true then _ else _:Option RV).bind _=_
 rw[if_pos (by simp)];rfl
theorem wG{v n:Nat}{g:GF}{f:SF}{as:AS}{s:Bool}(h:as[v]? = some (some (.lf s (.int n))))(hn:n<=1000):xN (yE (aC (fV v) aN) yI) g f as=forL g f (wz 0 n) as:=
 Z0 (vm (zE (zb h) zQ) (by trivial) (by trivial)) (by rw[zyF])
theorem zib{a b:EF}{as:AS}{x y:Int}{s t:Bool}(ha:WD a as s (.int x))(hb:WD b as t (.int y)):WT (fT (f2 a b (zZ .NotEq))) as (!(x==y)):=wC (zrB (c:=x==y) ha hb rfl) rfl
abbrev UnA(n:Nat)(J:TZ)(e:Int):Prop:=∀a,InR n a->jAt J e a=a/\jAt J a e=a
abbrev As(n:Nat)(J:TZ):Prop:=∀a,InR n a->∀b,InR n b->∀c,InR n c->jAt J (jAt J a b) c=jAt J a (jAt J b c)
section
variable{n m:Nat}{J T:TZ}{e:Int}{Ds:DD}{S:SS}
abbrev Dn(n m:Nat)(J T:TZ):Prop:=∀a,InR n a->∀i,InR m i->∀b,InR n b->∀k,InR m k->jAt T ((i+k)%m) (jAt J a b)=jAt J (jAt T i a) (jAt T k b)
theorem XM{a b c:EF}{as:AS}{w v:Int}(hT:Tab m n T)(hw:InR m w)(hv:InR n v)(ha:WD a as true (yr T))(hb:WD b as true (.int w))(hc:WD c as true (.int v)):WD (f2 (f2 a b ixP) c ixP) as true (.int (jAt T w v))/\InR n (jAt T w v):=
 ⟨xF (Zx ha hb (Wk hT hw).1) hc (rowAt (Wk hT hw).2 hv).1 rfl,(rowAt (Wk hT hw).2 hv).2⟩
theorem LawA.un(L:LawA n m J e Ds):UnA n J e:=λa ha=>⟨L.lj.ul a ha,L.lj.ur a ha⟩
theorem LawA.as(L:LawA n m J e Ds):As n J:=λa ha b hb c hc=>L.lj.as a b c ha hb hc
theorem LawA.dn(L:LawA n m J e Ds){p:Str×TZ}(hp:p ∈ Ds):Dn n m J p.2:=λa ha i hi b hb k hk=>(L.ld p hp).dn a i b k ha hi hb hk
end
def iP(b k:Int):Int:=if k=0 then b/2 else b%2
def jP(a b:Int):Int:=2*iP b (a/2)+iP b (a%2)
def sP(a:Int):Int:=2*(1-a%2)+1-a/2
theorem ljP:LJ 4 jP 1:=by
 refine⟨λa b ha hb=>?_,⟨by decide,by decide⟩,λa ha=>?_,λa ha=>?_,λa b c ha hb hc=>?_⟩
 · revert b;refine f4 (P:=λa=>∀b,InR 4 b->InR 4 (jP a b)) ?_ ha
   have:∀a ∈ ([0,1,2,3]:List Int),∀b ∈ ([0,1,2,3]:List Int),InR 4 (jP a b):=by decide
   exact λa m b hb=>f4 (P:=λb=>InR 4 (jP a b)) (this a m) hb
 · exact f4 (P:=λa=>jP 1 a=a) (by decide) ha
 · exact f4 (P:=λa=>jP a 1=a) (by decide) ha
 · have:∀a ∈ ([0,1,2,3]:List Int),∀b ∈ ([0,1,2,3]:List Int),∀c ∈ ([0,1,2,3]:List Int),jP (jP a b) c=jP a (jP b c):=by decide
   refine f4 (P:=λa=>jP (jP a b) c=jP a (jP b c)) (λa m=>f4 (P:=λb=>jP (jP a b) c=jP a (jP b c)) (λb m'=>f4 (P:=λc=>jP (jP a b) c=jP a (jP b c)) (this a m b m') hc) hb) ha
theorem ldP{m:Nat}{r:Int->Int}(h:(∀a,InR 4 a->r a=a)\/(∀a,InR 4 a->r a=sP a)):LD 4 m jP 1 (λ_ a=>r a):=by
 rcases h with h|h
 · refine⟨λc a _ ha=>by show InR 4 (r a);rw[h a ha];exact ha,h 1 ⟨by decide,by decide⟩,λa i b k ha _ hb _=>?_⟩
   show r (jP a b)=jP (r a) (r b)
   rw[h a ha,h b hb,h _ (ljP.cl a b ha hb)]
 · refine⟨λc a _ ha=>by show InR 4 (r a);rw[h a ha];exact f4 (P:=λa=>InR 4 (sP a)) (by decide) ha,h 1 ⟨by decide,by decide⟩,λa i b k ha _ hb _=>?_⟩
   show r (jP a b)=jP (r a) (r b)
   rw[h a ha,h b hb,h _ (ljP.cl a b ha hb)]
   have:∀a ∈ ([0,1,2,3]:List Int),∀b ∈ ([0,1,2,3]:List Int),sP (jP a b)=jP (sP a) (sP b):=by decide
   exact f4 (P:=λa=>sP (jP a b)=jP (sP a) (sP b)) (λa m=>f4 (P:=λb=>sP (jP a b)=jP (sP a) (sP b)) (this a m) hb) ha
theorem ljB{n1 n2:Nat}{j1 j2:Int->Int->Int}{e1 e2:Int}(h1:LJ n1 j1 e1)(h2:LJ n2 j2 e2)(p2:0<n2):LJ (n1*n2) (jB n2 j1 j2) (e1*n2+e2):=by
 refine⟨λa b ha hb=>?_,zpy h1.ce h2.ce,λa ha=>?_,λa ha=>?_,λa b c ha hb hc=>?_⟩
 · exact zpy (h1.cl _ _ (yt p2 ha).1 (yt p2 hb).1) (h2.cl _ _ (yt p2 ha).2 (yt p2 hb).2)
 · unfold jB
   rw[(zav h2.ce).1,(zav h2.ce).2,h1.ul _ (yt p2 ha).1,h2.ul _ (yt p2 ha).2,zsq]
 · unfold jB
   rw[(zav h2.ce).1,(zav h2.ce).2,h1.ur _ (yt p2 ha).1,h2.ur _ (yt p2 ha).2,zsq]
 · unfold jB
   rw[(zav (h2.cl _ _ (yt p2 ha).2 (yt p2 hb).2)).1,(zav (h2.cl _ _ (yt p2 ha).2 (yt p2 hb).2)).2,(zav (h2.cl _ _ (yt p2 hb).2 (yt p2 hc).2)).1,(zav (h2.cl _ _ (yt p2 hb).2 (yt p2 hc).2)).2,h1.as _ _ _ (yt p2 ha).1 (yt p2 hb).1 (yt p2 hc).1,h2.as _ _ _ (yt p2 ha).2 (yt p2 hb).2 (yt p2 hc).2]
theorem ldB{n1 n2 m:Nat}{j1 j2 d1 d2:Int->Int->Int}{u1 u2:Int}(h1:LJ n1 j1 u1)(h2:LJ n2 j2 u2)(p2:0<n2)(e1:LD n1 m j1 u1 d1)(e2:LD n2 m j2 u2 d2):LD (n1*n2) m (jB n2 j1 j2) (u1*n2+u2) (dB n2 d1 d2):=by
 refine⟨λc a hc ha=>zpy (e1.cl _ _ hc (yt p2 ha).1) (e2.cl _ _ hc (yt p2 ha).2), ?_,λa i b k ha hi hb hk=>?_⟩
 · unfold dB
   rw[(zav h2.ce).1,(zav h2.ce).2,e1.em,e2.em]
 · unfold jB dB
   rw[(zav (h2.cl _ _ (yt p2 ha).2 (yt p2 hb).2)).1,(zav (h2.cl _ _ (yt p2 ha).2 (yt p2 hb).2)).2,(zav (e2.cl i _ hi (yt p2 ha).2)).1,(zav (e2.cl i _ hi (yt p2 ha).2)).2,(zav (e2.cl k _ hk (yt p2 hb).2)).1,(zav (e2.cl k _ hk (yt p2 hb).2)).2,e1.dn _ _ _ _ (yt p2 ha).1 hi (yt p2 hb).1 hk,e2.dn _ _ _ _ (yt p2 ha).2 hi (yt p2 hb).2 hk]
theorem ljT{n:Nat}{j j':Int->Int->Int}{e:Int}{F B:Int->Int}(h:LJ n j e)(hF:∀a,InR n a->InR n (F a))(hB:∀a,InR n a->InR n (B a))(hFB:∀a,InR n a->F (B a)=a)(q:∀a b,InR n a->InR n b->j' (F a) (F b)=F (j a b)):LJ n j' (F e):=by
 have q':∀a b,InR n a->InR n b->j' a b=F (j (B a) (B b)):=λa b ha hb=>by
  have:=q (B a) (B b) (hB a ha) (hB b hb)
  rw[hFB a ha,hFB b hb]at this
  exact this
 refine⟨λa b ha hb=>by rw[q' a b ha hb];exact hF _ (h.cl _ _ (hB a ha) (hB b hb)),hF e h.ce,λa ha=>?_,λa ha=>?_,λa b c ha hb hc=>?_⟩
 · have:=q e (B a) h.ce (hB a ha)
   rw[hFB a ha,h.ul _ (hB a ha),hFB a ha]at this
   exact this
 · have:=q (B a) e (hB a ha) h.ce
   rw[hFB a ha,h.ur _ (hB a ha),hFB a ha]at this
   exact this
 · have a':=hB a ha
   have b':=hB b hb
   have c':=hB c hc
   rw[q' a b ha hb,q' b c hb hc]
   have x:=q (j (B a) (B b)) (B c) (h.cl _ _ a' b') c'
   have y:=q (B a) (j (B b) (B c)) a' (h.cl _ _ b' c')
   rw[hFB c hc]at x
   rw[hFB a ha]at y
   rw[x,y,h.as _ _ _ a' b' c']
theorem ldT{n m:Nat}{j j' d d':Int->Int->Int}{e:Int}{F B:Int->Int}(hm:0<m)(h:LJ n j e)(k:LD n m j e d)(hF:∀a,InR n a->InR n (F a))(hB:∀a,InR n a->InR n (B a))(hFB:∀a,InR n a->F (B a)=a)
 (q:∀a b,InR n a->InR n b->j' (F a) (F b)=F (j a b)) (p:∀c a,InR m c->InR n a->d' c (F a)=F (d c a)):LD n m j' (F e) d':=by
 refine⟨λc a hc ha=>?_, ?_,λa i b l ha hi hb hl=>?_⟩
 · have:=p c (B a) hc (hB a ha)
   rw[hFB a ha]at this
   rw[this];exact hF _ (k.cl _ _ hc (hB a ha))
 · rw[p 0 e ⟨by omega,by omega⟩ h.ce,k.em]
 · have a':=hB a ha
   have b':=hB b hb
   have x:=q (B a) (B b) a' b'
   have y:=p i (B a) hi a'
   have z:=p l (B b) hl b'
   rw[hFB a ha]at x y
   rw[hFB b hb]at x z
   rw[x,y,z,p _ _ (zbR hm) (h.cl _ _ a' b'),q _ _ (k.cl _ _ hi a') (k.cl _ _ hl b'),k.dn _ _ _ _ a' hi b' hl]
def KN(k:Int)(n:Nat):Prop:=(k=0/\1<=n)\/(k=1/\1<=n)\/(k=2/\1<=n)\/(k=3/\n=4)
def jK(k:Int)(n:Nat):Int->Int->Int:=if k=0 then jS n else if k=1 then jM else if k=2 then jL else jP
def eK(k:Int):Int:=if k=3 then 1 else 0
theorem ljK{k:Int}{n:Nat}(h:KN k n):LJ n (jK k n) (eK k):=by
 rcases h with⟨rfl,h⟩|⟨rfl,h⟩|⟨rfl,h⟩|⟨rfl,rfl⟩
 · exact ljS h
 · exact ljM h
 · exact ljL h
 · exact ljP
theorem KN.n1{k:Int}{n:Nat}(h:KN k n):1<=n:=by rcases h with⟨_,h⟩|⟨_,h⟩|⟨_,h⟩|⟨_,h⟩<;>omega
theorem zrf{as:AS}{i:Nat}{xs:List Int}{g:List D->Option R0}{zs:List D}(h:as[i]? = some (sN (xs.map lfI)))(hg:g [yR xs]=some (.fl zs)):fP (aC (fV i) aN) g as=some (.ow (.nd .ls (zs.map (O.lf true))),as):=by
 obtain⟨i1,i2,i3⟩:=vC xs
 have e:views as [.bo i]=some ([yR xs],some true):=by
  show(RV.view as (.bo i)).bind _=_
  rw[zdf h]
  have k:(O.nd .ls (xs.map lfI)).kl=some true:=by simp only[O.kl,i1,if_true,i2]
  rw[k,(zbB xs).2];rfl
 unfold fP aC
 rw[zeM h]
 simp only[zyI,aN,RV.frz,e,hg]
 show(if(zs.all yd||true)=true then some (RV.ow (.nd .ls (zs.map (lfs true))))else none:Option RV).bind _=_
 rw[if_pos (by simp),zak];rfl
theorem zpd{a:EF}{as:AS}{i:Nat}{xs:List Int}{ds:List D}(ha:WE a as (.lst ds))(h:as[i]? = some (sN (xs.map lfI)))(hl:ds.length+xs.length<=1000):WE (f2 a (fV i) (zm .Add)) as (.lst (ds++xs.map D.int)):=by
 obtain⟨i1,i2,i3⟩:=vC xs
 obtain⟨o,h1,h2,h3⟩:=ha
 have k:(O.nd .ls (xs.map lfI)).kl=some true:=by simp only[O.kl,i1,if_true,i2]
 have e:f2 a (fV i) (zm .Add) as=some (.ow (.nd .ls ((ds++xs.map D.int).map (O.lf true))),as):=by
  have e1:RV.view as (.ow o.frz)=some (.lst ds,some true):=by
   show some (o.toD,some o.str)=_
   rw[h2,h3]
  have e2:RV.view as (.bo i)=some (.lst (xs.map D.int),some true):=by rw[zdf h,k,(zbB xs).2]
  unfold f2
  simp only[h1,zeM h,zyI,RV.frz,e1,e2]
  show((zm .Add (.lst ds) (.lst (xs.map D.int))).bind _)=_
  rw[add_lists (by rw[zD];exact szs (by omega))]
  show(if((ds++xs.map D.int).all yd||true)=true then some (RV.ow (.nd .ls ((ds++xs.map D.int).map (lfs true))))else none:Option RV).bind _=_
  rw[if_pos (by simp),zak];rfl
 exact⟨_,e,ziV _,congrArg D.lst (zjA _)⟩
theorem zgS{as:AS}{fr:AF}{i j:Int}{u v:Bool}(h:WA fr as [(u,.int i),(v,.int j)])(h0:0<=i)(h1:i<=1000)(h2:0<=j)(h3:j<=1000):yE fr zrj as=some (wz i (j-i).toNat,as):=by
 unfold yE;unfold WA at h
 rw[h]
 simp only[zyI,YM]
 show((if -(2 ^ 62)<=i/\i<2 ^ 62 /\ -(2 ^ 62)<=j/\j<2 ^ 62 then some (wz i (j-i).toNat)else none).bind _)=_
 rw[if_pos ⟨by omega,by omega,by omega,by omega⟩];rfl
theorem zjS{x p q:Int}:ixP (.lst [.int p,.int q]) (.int (x%2))=some (.im (.int (if x%2=0 then p else q))):=by
 rcases Int.emod_two_eq x with h|h<;>rw[h]<;>rfl
def put(T:TZ)(p q c:Int):TZ:=T.set p.toNat ((zhH T p).set q.toNat c)
theorem zjb{k n:Nat}{T:TZ}{p q c:Int}(hT:Tab k n T)(hp:InR k p)(hc:InR n c):Tab k n (put T p q c):=zjr hT (zjg (Wk hT hp).2 hc)
theorem zjI{k n:Nat}{T:TZ}{p q c a b:Int}(hT:Tab k n T)(hp:InR k p)(hq:InR n q)(ha:InR k a)(hb:InR n b):jAt (put T p q c) a b=if a=p/\b=q then c else jAt T a b:=by
 have hp':=iT hp
 have ha':=iT ha
 have hq':=iT hq
 have hb':=iT hb
 have hl:=(Wk hT hp).2.1
 unfold jAt put
 by_cases e:a=p
 · subst e
   rw[zyH (by rw[hT.1];exact hp')]
   show rAt ((zhH T a).set q.toNat c) b=_
   unfold rAt
   by_cases e2:b=q
   · subst e2
     rw[zyH (by rw[hl];exact hq'),if_pos ⟨rfl,rfl⟩];rfl
   · rw[zzV (λz=>e2 (by have:=hb.1;have:=hq.1;omega)),if_neg (λz=>e2 z.2)]
 · rw[zzV (λz=>e (by have:=ha.1;have:=hp.1;omega)),if_neg (λz=>e z.1)]
theorem zmm{v K n L:Nat}{f:SF}{S:TZ->Option O->Option O->AS}{p:Int}{g w:Int->Int}(hp:InR K p)(hg:∀b,InR L b->InR n (g b))(gi:∀b b',InR L b->InR L b'->g b=g b'->b=b')(hw:∀b,InR L b->InR n (w b))
 (h1:∀T d x y,gN v (true,d) (S T x y)=some (S T (sT d) y)) (h2:∀T b y,Tab K n T->InR L b->∃y',f (S T (sI b) y)=some (.nx (S (put T p (g b) (w b)) (sI b) y'))) {T0:TZ}{x0 y0:Option O}(hT:Tab K n T0):
 ∃T' x y,forL (gN v) f (wz 0 L) (S T0 x0 y0)=some (.nx (S T' x y))/\Tab K n T'/\(∀b,InR L b->jAt T' p (g b)=w b)/\(∀a b,InR K a->InR n b->a≠p->jAt T' a b=jAt T0 a b):=by
 obtain⟨as',hf,T',x,y,rfl,t1,t2,t3⟩:=vB (g:=gN v) (f:=f)
  (λi as=>∃(T:TZ) (x y:Option O),as=S T x y/\Tab K n T/\(∀b,InR L b->b<i->jAt T p (g b)=w b)/\(∀a b,InR K a->InR n b->a≠p->jAt T a b=jAt T0 a b))
  (wz 0 L) 0 (S T0 x0 y0) (λi y as hx hI=>by
   obtain⟨T,x,z,rfl,t1,t2,t3⟩:=hI
   obtain⟨rfl,hi⟩:=wU hx
   have hb:InR L (0+(i:Int)):=⟨by omega,by omega⟩
   obtain⟨y',h⟩:=h2 T (0+i) z t1 hb
   refine⟨_,h1 _ _ _ _,_,h,_,_,_,rfl,zjb t1 hp (hw _ hb),λb hb' hlt=>?_,λa b ha hb' hne=>?_⟩
   · rw[zjI t1 hp (hg _ hb) hp (hg _ hb')]
     by_cases e:g b=g (0+i)
     · have:=gi _ _ hb' hb e
       subst this
       rw[if_pos ⟨rfl,rfl⟩]
     · rw[if_neg (λz=>e z.2)]
       refine t2 b hb' ?_
       have:b≠0+i:=λz=>e (by rw[z])
       omega
   · rw[zjI t1 hp (hg _ hb) ha hb',if_neg (λz=>hne z.1)]
     exact t3 a b ha hb' hne)
  ⟨T0,x0,y0,rfl,hT,λb hb h=>absurd h (by have:=hb.1;omega),λ_ _ _ _ _=>rfl⟩
 rw[xr]at t2
 exact⟨T',x,y,hf,t1,λb hb=>t2 b hb (by have:=hb.2;omega),t3⟩
theorem zjE{v K n L M:Nat}{F:SF}{S:TZ->Option O->Option O->Option O->AS}{f g:Int->Int}{w:Int->Int->Int}(hf':∀a,InR M a->InR K (f a))(fi:∀a a',InR M a->InR M a'->f a=f a'->a=a')(hg:∀b,InR L b->InR n (g b))
 (h1:∀T d x y z,gN v (true,d) (S T x y z)=some (S T (sT d) y z)) (h2:∀T a y z,Tab K n T->InR M a->∃T' y' z',F (S T (sI a) y z)=some (.nx (S T' (sI a) y' z'))/\Tab K n T'/\(∀b,InR L b->jAt T' (f a) (g b)=w a b)/\(∀a' b,InR K a'->InR n b->a'≠f a->jAt T' a' b=jAt T a' b)) {T0:TZ}{x0 y0 z0:Option O}(hT:Tab K n T0):
 ∃T' x y z,forL (gN v) F (wz 0 M) (S T0 x0 y0 z0)=some (.nx (S T' x y z))/\Tab K n T'/\∀a b,InR M a->InR L b->jAt T' (f a) (g b)=w a b:=by
 obtain⟨as',hf,T',x,y,z,rfl,t1,t2⟩:=vB (g:=gN v) (f:=F)
  (λi as=>∃(T:TZ) (x y z:Option O),as=S T x y z/\Tab K n T/\∀a b,InR M a->a<i->InR L b->jAt T (f a) (g b)=w a b)
  (wz 0 M) 0 (S T0 x0 y0 z0) (λi y as hx hI=>by
   obtain⟨T,x,y,z,rfl,t1,t2⟩:=hI
   obtain⟨rfl,hi⟩:=wU hx
   have ha:InR M (0+(i:Int)):=⟨by omega,by omega⟩
   obtain⟨T',y',z',h,q1,q2,q3⟩:=h2 T (0+i) y z t1 ha
   refine⟨_,h1 _ _ _ _ _,_,h,_,_,_,_,rfl,q1,λa b ha' hlt hb=>?_⟩
   by_cases e:a=0+i
   · subst e;exact q2 b hb
   · rw[q3 (f a) (g b) (hf' a ha') (hg b hb) (λz=>e (fi _ _ ha' ha z))]
     exact t2 a b ha' (by omega) hb)
  ⟨T0,x0,y0,z0,rfl,hT,λa b ha h=>absurd h (by have:=ha.1;omega)⟩
 rw[xr]at t2
 exact⟨T',x,y,z,hf,t1,λa b ha hb=>t2 a b ha (by have:=ha.2;omega) hb⟩
theorem zkI{as:AS}{i:Nat}{f:IXF}{n:Nat}{r:List Int}{k:Int}{s:Bool}(h:as[i]? = some (some (.lf s (yR r))))(hf:f as=some k)(hr:Row n r)(hk:InR n k):xAt i f as=some (rAt r k):=by
 have e:=(rowAt hr hk).1
 unfold xAt
 rw[hf]
 show(if 0<=k then(slO zcm as i).bind λd=>(asL d).bind λds=>ds[k.toNat]?.bind asI else none)=_
 rw[if_pos hk.1]
 have e1:slO zcm as i=some (yR r):=by unfold slO;rw[h];rfl
 rw[e1]
 show((r.map D.int)[k.toNat]?).bind asI=_
 have hl:=iT hk
 rw[zzF,zzB (by rw[hr.1];exact hl),Wn (by rw[hr.1];exact hl)]
 rfl
theorem zfV{as:AS}{i k n:Nat}{f1 f2 fv:IXF}{p q c:Int}{T:TZ}(hT:Tab k n T)(hp:InR k p)(hq:InR n q)(h1:f1 as=some p)(h2:f2 as=some q)(hv:fv as=some c)(hi:as[i]? = some (some (v5 T))):Vd i f1 f2 fv as=some (.nx (as.set i (some (v5 (put T p q c))))):=by
 have hl:=iT hp
 have hq':=iT hq
 refine zkd h1 h2 hv hp.1 hq.1 hi (r:=zhH T p) ?_ (by rw[(Wk hT hp).2.1];exact hq')
 unfold zhH
 rw[zzB (by rw[hT.1];exact hl)];rfl
theorem zhb{as0:AS}:∀(ds:List D),(∀d,∃as1,gN 0 (true,d) as0=some as1)->xX (gN 0) xG (fC (.int 0)) as0 (ds.map λd=>(true,d))=some ((List.replicate ds.length (0:Int)).map lfI)
 | [],_=>rfl
 |d::r,H=>by
  obtain⟨as1,h1⟩:=H d
  show xX _ _ _ _ ((true,d)::r.map λd=>(true,d))=some (lfI 0::(List.replicate r.length (0:Int)).map lfI)
  exact zjN h1 zj (zhb r H)
theorem zhm{g:GF}{fe:EF}{as0:AS}{r:List Int}:∀(xs:List It1),(∀y ∈ xs,∃as1,g y as0=some as1/\fe as1=some (.ow (Zg r),as1))->xX g xG fe as0 xs=some ((List.replicate xs.length r).map Zg)
 | [],_=>rfl
 |y::xs,H=>by
  obtain⟨as1,h1,h2⟩:=H y (zzC ..)
  exact zbn h1 h2 (zbB r).1 (zhm xs λz m=>H z (zzA _ m))
theorem zhk{k n:Nat}(hn:1<=n):Tab k n (List.replicate k (List.replicate n (0:Int))):=
 ⟨List.length_replicate ..,λr m=>by rw[List.eq_of_mem_replicate m];exact⟨List.length_replicate ..,λx m=>by rw[List.eq_of_mem_replicate m];omega⟩⟩
abbrev zlL(r:List Int):D:=.tup (r.map D.int)
abbrev zie(T:TZ):D:=.tup (T.map zlL)
section
variable{α:Type}{kf:α->Str}{vf:α->D}
theorem zfu:∀l:List α,zbb (l.map λp=>.tup [.str (kf p),vf p])=some (l.map λp=>(.inr (kf p),vf p))
 | []=>rfl
 |p::l=>by
  show(zbb (l.map λp=>.tup [.str (kf p),vf p])).bind _=_
  rw[zfu l];rfl
theorem zkz:∀(kvs:List (Key×D)),(kvs.map (·.1)).zip (kvs.map (·.2))=kvs
 | []=>rfl
 |p::r=>congrArg (p :: ·) (zkz r)
theorem zsA{a:EF}{as:AS}{l:List α}(nd:(l.map kf).Nodup)(h:WE a as (.lst (l.map λp=>.tup [.str (kf p),vf p]))):WE (fP (aC a aN) zcQ) as (.dct (l.map λp=>(.inr (kf p),vf p))):=by
 have hg:zcQ [.lst (l.map λp=>.tup [.str (kf p),vf p])]=some (.fd (l.map λp=>(.inr (kf p),vf p))):=by
  show(zbb (l.map λp=>.tup [.str (kf p),vf p])).bind _=_
  rw[zfu]
  refine if_pos ?_
  rw[zzY]
  exact List.pairwise_map.mpr ((List.pairwise_map.mp nd).imp λh e=>h (Sum.inr.inj e))
 have k:=zst (g:=zcQ) (Vj h (zQ (as:=as))) hg
 rw[show([(true,D.lst (l.map λp=>.tup [.str (kf p),vf p]))].all (·.1))=true from rfl,zak]at k
 generalize (l.map λp=>((.inr (kf p),vf p):Key×D))=kvs at k
 refine⟨_,k,ziV _, ?_⟩
 show D.dct ((kvs.map (·.1)).zip (O.toDs ((kvs.map (·.2)).map (O.lf true))))=_
 rw[zjA,zkz]
end
theorem X6{as:AS}{i:Nat}{cs:List Str}{f c:Str}{fe:EF}{d:D}{ns:List Str}{os:List O}(h:WE fe as d)(hi:as[i]? = some (some (.nd (.ob c ns) os)))(hc:c ∈ cs)(hn:f ∉ ns)(hl:ns.length<1000):zgh i cs f fe as=some (as.set i (some (.nd (.ob c (ns++[f])) (os++[.lf true d])))):=by
 obtain⟨o,h1,h2,h3⟩:=h
 unfold zgh
 have e:zeg as (.ow o)=some ((o.str,o.toD),as):=rfl
 simp only[h1,zyI,e,hi,if_pos (⟨hc,hn,hl⟩:c ∈ cs/\f ∉ ns/\ns.length<1000),h2,h3]
theorem YG{f g:IFn}{as as1:AS}{o:Option AS}(h:f as=some as1)(h2:g as1=o):zaK f g as=o:=by
 unfold zaK
 rw[h];exact h2
theorem zmN{fe:EF}{as:AS}{d:D}(h:WE fe as d):zmz fe as=some as:=by
 obtain⟨o,h1,_,_⟩:=h
 unfold zmz
 rw[h1];rfl
end PF
end
section
namespace G21
open PySem PySem.Spec PyProof.Rows L2 PF
def ziJ:List Str:=["Ways"]
def zfs:List Str:=["Ways"]
def zgZ:List Str:=["Ways"]
def zdD:List Str:=["Ways"]
def zgI:List Str:=["Ways"]
def zem:List Str:=["Ways"]
abbrev W4:List Str:=["algebra","join","nothing","a"]
theorem vK:FnScope W4 ["algebra"] (zu v9):=⟨rfl,rfl,rfl,by decide +kernel,rfl,by decide +kernel,by decide +kernel⟩
def W6:SF:=
 (zB (zK true 1 (f2 (fV 0) (fC (.int 2)) ixP))
  (zB (zK true 2 (f2 (fV 0) (fC (.int 3)) ixP))
  (zB (xN (yE (aC (f2 (fV 0) (fC (.int 0)) ixP) aN) yI) (gN 3) (sIf (Vh (fT (f2 (f2 (f2 (fV 1) (fV 2) ixP) (fV 3) ixP) (fV 3) (zZ .NotEq))) (fT (f2 (f2 (f2 (fV 1) (fV 3) ixP) (fV 2) ixP) (fV 3) (zZ .NotEq)))) (yF (xR (dC (fC (.str "nothing")) (dC (fV 3) dN)))) sNx))
  (yF (fC .non)))))
def wV:Fn:=fnR 4 1 W6
abbrev Va:List Str:=["algebra","n","join","a","b","c"]
theorem xU:FnScope Va ["algebra"] (zu Ze):=⟨rfl,rfl,rfl,by decide +kernel,rfl,by decide +kernel,by decide +kernel⟩
def Vf:SF:=
 (zB (zK true 1 (f2 (fV 0) (fC (.int 0)) ixP))
  (zB (zK true 2 (f2 (fV 0) (fC (.int 2)) ixP))
  (zB (xN (yE (aC (fV 1) aN) yI) (gN 3) (xN (yE (aC (fV 1) aN) yI) (gN 4) (xN (yE (aC (fV 1) aN) yI) (gN 5) (sIf (fT (f2 (f2 (f2 (fV 2) (f2 (f2 (fV 2) (fV 3) ixP) (fV 4) ixP) ixP) (fV 5) ixP) (f2 (f2 (fV 2) (fV 3) ixP) (f2 (f2 (fV 2) (fV 4) ixP) (fV 5) ixP) ixP) (zZ .NotEq))) (yF (xR (dC (fC (.str "parting")) (dC (fV 3) (dC (fV 4) (dC (fV 5) dN)))))) sNx))))
  (yF (fC .non)))))
def wR:Fn:=fnR 6 1 Vf
abbrev zaH:List Str:=["algebra","name","rows","n","m","join","a","i","b","j"]
theorem xu:FnScope zaH ["algebra","name","rows"] (zu Z8):=⟨rfl,rfl,rfl,by decide +kernel,rfl,by decide +kernel,by decide +kernel⟩
def zaD:SF:=
 (zB (zK true 3 (f2 (fV 0) (fC (.int 0)) ixP))
  (zB (zK true 4 (f2 (fV 0) (fC (.int 1)) ixP))
  (zB (zK true 5 (f2 (fV 0) (fC (.int 2)) ixP))
  (zB (xN (yE (aC (fV 3) aN) yI) (gN 6) (xN (yE (aC (fV 4) aN) yI) (gN 7) (xN (yE (aC (fV 3) aN) yI) (gN 8) (xN (yE (aC (fV 4) aN) yI) (gN 9) (sIf (fT (f2 (f2 (f2 (fV 2) (f2 (f2 (fV 7) (fV 9) (zm .Add)) (fV 4) (zm .Mod)) ixP) (f2 (f2 (fV 5) (fV 6) ixP) (fV 8) ixP) ixP) (f2 (f2 (fV 5) (f2 (f2 (fV 2) (fV 7) ixP) (fV 6) ixP) ixP) (f2 (f2 (fV 2) (fV 9) ixP) (fV 8) ixP) ixP) (zZ .NotEq))) (yF (xR (dC (fC (.str "doing")) (dC (fV 1) (dC (fV 6) (dC (fV 7) (dC (fV 8) (dC (fV 9) dN)))))))) sNx)))))
  (yF (fC .non))))))
def wX:Fn:=fnR 10 3 zaD
abbrev zbA:List Str:=["algebra","nothing","name","rows","fault"]
theorem vX:FnScope zbA ["algebra"] (zu YB):=⟨rfl,rfl,rfl,by decide +kernel,rfl,by decide +kernel,by decide +kernel⟩
def zbt:SF:=
 (zB (zK true 1 (f2 (fV 0) (fC (.int 3)) ixP))
  (zB (xN (zlv (f2 (fV 0) (fC (.int 4)) ixP)) (gT 2 (gsC (gN 2) (gsC (gN 3) gsN))) (zB (sIf (fT (f2 (f2 (f2 (fV 3) (fC (.int 0)) ixP) (fV 1) ixP) (fV 1) (zZ .NotEq))) (yF (xR (dC (fC (.str "empty")) (dC (fV 2) dN)))) sNx)
  (zB (zK true 4 (zJ (aC (fV 0) (aC (fV 2) (aC (fV 3) aN))) wX))
  (sIf (fT (f2 (fV 4) (fC .non) (zZ .IsNot))) (yF (fV 4)) sNx))))
  (yF (fC .non))))
def Zr:Fn:=fnR 5 1 zbt
abbrev zbg:List Str:=["algebra","fault"]
theorem Z6:FnScope zbg ["algebra"] (zu Yy):=⟨rfl,rfl,rfl,by decide +kernel,rfl,by decide +kernel,by decide +kernel⟩
def zbE:SF:=
 (zB (zK true 1 (zJ (aC (fV 0) aN) wV))
  (zB (sIf (fT (f2 (fV 1) (fC .non) (zZ .Is))) (zK true 1 (zJ (aC (fV 0) aN) wR)) sNx)
  (zB (sIf (fT (f2 (fV 1) (fC .non) (zZ .Is))) (zK true 1 (zJ (aC (fV 0) aN) Zr)) sNx)
  (yF (fV 1)))))
def wN:Fn:=fnR 2 1 zbE
abbrev Yr:List Str:=["self","what"]
theorem VG:FnScope Yr ["self","what"] (zu wI):=⟨rfl,rfl,rfl,by decide +kernel,rfl,by decide +kernel,by decide +kernel⟩
abbrev YK:List Str:=["algebra","fault"]
theorem Za:FnScope YK ["algebra"] (zu ZF):=⟨rfl,rfl,rfl,by decide +kernel,rfl,by decide +kernel,by decide +kernel⟩
def Zv:SF:=
 (zB (zK true 1 (zJ (aC (fV 0) aN) wN))
  (sIf (fT (f2 (fV 1) (fC .non) (zZ .IsNot))) sNo sNx))
def yJ:Fn:=fnR 2 1 Zv
def ZL:List (Bool×D)->Option D:=gX 2 1 1 (zK true 1 (zJ (aC (fV 0) aN) wN)) (fT (f2 (fV 1) (fC .non) (zZ .IsNot)))
abbrev zif:List Str:=["rows"]
theorem znT:FnScope zif ["rows"] (zu zdM):=⟨rfl,rfl,rfl,by decide +kernel,rfl,by decide +kernel,by decide +kernel⟩
theorem zjW:(["row"]:List Str).Nodup:=by decide +kernel
def zmy:SF:=
 (yF (fP (aC (yw (ZW (fV 0)) [none] (gN 0) xG (fP (aC (fV 0) aN) tupP)) aN) tupP))
def VP:Fn:=fnR 1 1 zmy
abbrev zay:List Str:=["_law_script","_law_k"]
theorem zep:FnScope zay ["_law_script","_law_k"] (zu Z5):=⟨rfl,rfl,rfl,by decide +kernel,rfl,by decide +kernel,by decide +kernel⟩
def zaE:SF:=
 (zB (sIf (fT (f2 (fV 1) (fP (aC (fV 0) aN) zit) (zZ .Lt))) (yF (f2 (fV 0) (fV 1) ixP)) sNx)
  (yF (fC (.int 0))))
def zY:Fn:=fnR 2 2 zaE
abbrev zcy:List Str:=["_law_cell","_law_k","_law_number"]
theorem zbk:FnScope zcy ["_law_cell","_law_k"] (zu Xb):=⟨rfl,rfl,rfl,by decide +kernel,rfl,by decide +kernel,by decide +kernel⟩
def zcD:SF:=
 (zB (zK true 2 (f2 (f2 (f2 (f2 (f2 (fV 0) (fC (.int 2147483647)) (zm .Mod)) (fC (.int 48271)) (zm .Mult)) (f2 (f2 (fV 1) (fV 1) (zm .Mult)) (fC (.int 69621)) (zm .Mult)) (zm .Add)) (fC (.int 7919)) (zm .Add)) (fC (.int 2147483647)) (zm .Mod)))
  (yF (f2 (f2 (f2 (f2 (fV 2) (fV 2) (zm .Mult)) (f2 (fC (.int 16807)) (fV 2) (zm .Mult)) (zm .Add)) (fV 1) (zm .Add)) (fC (.int 2147483629)) (zm .Mod))))
def yL:Fn:=fnR 3 2 zcD
abbrev zcE:List Str:=["_law_found"]
theorem zfJ:FnScope zcE ["_law_found"] (zu Xh):=⟨rfl,rfl,rfl,by decide +kernel,rfl,by decide +kernel,by decide +kernel⟩
def zcT:SF:=
 (yF (zgJ (zeL (fV 0) "int") (zok (zeL (fV 0) "bool"))))
def vD:Fn:=fnR 1 1 zcT
abbrev V1:List Str:=["_law_cell","_law_many","_law_letters","_law_size","_law_at","_law_words_here","_law_k","_law_some"]
theorem wM:FnScope V1 ["_law_cell","_law_many"] (zu Z9):=⟨rfl,rfl,rfl,by decide +kernel,rfl,by decide +kernel,by decide +kernel⟩
theorem zdI:(["_law_j","_law_letters","_law_k","_law_cell","_law_at"]:List Str).Nodup:=by decide +kernel
def zcF:SF:=
 (zB (zK true 2 (fC (.str "abcdefghijklmnopqrstuvwxyz")))
  (zB (zK true 3 (f2 (fC (.int 1)) (f2 (fV 0) (fC (.int 8)) (zm .Mod)) (zm .Add)))
  (zB (zK true 4 (f2 (f2 (fV 0) (fC (.int 8)) (zm .FloorDiv)) (fV 3) (zm .Mod)))
  (zB (zK false 5 (Yb dN))
  (zB (xN (yE (aC (fV 1) aN) yI) (gN 6) (zB (zK true 7 (yw (yE (aC (fV 3) aN) yI) [none,some 2,some 6,some 0,some 4] (gN 0) xG (f2 (fV 1) (f2 (f2 (f2 (zJ (aC (fV 3) (aC (fV 0) aN)) yL) (fC (.int 64)) (zm .FloorDiv)) (f2 (fV 2) (fP (aC (f2 (fV 0) (fV 4) (zZ .Eq)) aN) Wb) (zm .Mult)) (zm .Add)) (fC (.int 26)) (zm .Mod)) ixP)))
  (wJ (ZX 5 (dC (zdA .str (fC (.str "")) (aC (fV 7) aN) zgP) dN) Ye))))
  (yF (fV 5)))))))
def Zk:Fn:=fnR 8 2 zcF
abbrev zbu:List Str:=["_law_n","_law_m"]
theorem zaL:FnScope zbu ["_law_n","_law_m"] (zu Yv):=⟨rfl,rfl,rfl,by decide +kernel,rfl,by decide +kernel,by decide +kernel⟩
def zbh:SF:=
 (zB (whL (fT (f2 (fV 1) (fC (.int 0)) (zZ .Gt))) (zkX 0 1 (dC (fV 1) (dC (f2 (fV 0) (fV 1) (zm .Mod)) dN))) 10000)
  (yF (fV 0)))
def vH:Fn:=fnR 2 2 zbh
abbrev W7:List Str:=["_law_kind","_law_n","_law_a","_law_b","_law_images_here"]
theorem XQ:FnScope W7 ["_law_kind","_law_n","_law_a","_law_b"] (zu Zc):=⟨rfl,rfl,rfl,by decide +kernel,rfl,by decide +kernel,by decide +kernel⟩
def Vg:SF:=
 (zB (sIf (fT (f2 (fV 0) (fC (.int 0)) (zZ .Eq))) (yF (f2 (f2 (fV 2) (fV 3) (zm .Add)) (fV 1) (zm .Mod))) sNx)
  (zB (sIf (fT (f2 (fV 0) (fC (.int 1)) (zZ .Eq))) (yF (fP (aC (fV 2) (aC (fV 3) aN)) zsj)) sNx)
  (zB (sIf (fT (f2 (fV 0) (fC (.int 2)) (zZ .Eq))) (yF (f2 (Yb (dC (fV 3) (dC (fV 2) dN))) (fP (aC (f2 (fV 3) (fC (.int 0)) (zZ .Eq)) aN) Wb) ixP)) sNx)
  (zB (zK true 4 (Yb (dC (f2 (fV 3) (fC (.int 2)) (zm .FloorDiv)) (dC (f2 (fV 3) (fC (.int 2)) (zm .Mod)) dN))))
  (yF (f2 (f2 (fC (.int 2)) (f2 (fV 4) (f2 (fV 2) (fC (.int 2)) (zm .FloorDiv)) ixP) (zm .Mult)) (f2 (fV 4) (f2 (fV 2) (fC (.int 2)) (zm .Mod)) ixP) (zm .Add)))))))
def zR:Fn:=fnR 5 4 Vg
abbrev WQ:List Str:=["_law_kind","_law_n","_law_x","_law_some","_law_k"]
theorem v6:FnScope WQ ["_law_kind","_law_n","_law_x"] (zu ZJ):=⟨rfl,rfl,rfl,by decide +kernel,rfl,by decide +kernel,by decide +kernel⟩
theorem zcV:(["_law_a","_law_x"]:List Str).Nodup:=by decide +kernel
def zbf:SF:=
 (zB (sIf (fT (f2 (fV 0) (fC (.int 3)) (zZ .Eq))) (yF (yw (yE (aC (fV 1) aN) yI) [none,some 2] (gN 0) xG (f2 (Yb (dC (fV 0) (dC (f2 (f2 (f2 (fC (.int 2)) (f2 (fC (.int 1)) (f2 (fV 0) (fC (.int 2)) (zm .Mod)) (zm .Sub)) (zm .Mult)) (fC (.int 1)) (zm .Add)) (f2 (fV 0) (fC (.int 2)) (zm .FloorDiv)) (zm .Sub)) dN))) (f2 (fV 1) (fC (.int 2)) (zm .Mod)) ixP))) sNx)
  (zB (zK false 3 (Yb dN))
  (zB (xN (yE (aC (fC (.int 1)) (aC (fV 1) aN)) zrj) (gN 4) (zB (zK true 2 (f2 (fV 2) (fV 1) (zm .FloorDiv)))
  (wJ (ZX 3 (dC (f2 (Yb (dC (f2 (fV 2) (fV 1) (zm .Mod)) (dC (f2 (fC (.int 1)) (f2 (fV 2) (f2 (fV 1) (fC (.int 1)) (zm .Sub)) (zm .Mod)) (zm .Add)) dN))) (f2 (fV 0) (fC (.int 1)) (zm .Sub)) ixP) dN) Ye))))
  (zB (sIf (fT (f2 (fV 0) (fC (.int 1)) (zZ .Eq))) (zK false 3 (fP (aC (fV 3) aN) zmK)) sNx)
  (yF (f2 (Yb (dC (fC (.int 0)) dN)) (fV 3) (zm .Add)))))))
def ZR:Fn:=fnR 5 3 zbf
abbrev Z7:List Str:=["_law_kind","_law_n","_law_m","_law_x","_law_images_here","_law_step"]
theorem YZ:FnScope Z7 ["_law_kind","_law_n","_law_m","_law_x"] (zu wZ):=⟨rfl,rfl,rfl,by decide +kernel,rfl,by decide +kernel,by decide +kernel⟩
theorem zcb:(["_law_c","_law_images_here"]:List Str).Nodup:=by decide +kernel
theorem zch:(["_law_c","_law_n","_law_step","_law_x"]:List Str).Nodup:=by decide +kernel
theorem zcr:(["_law_a","_law_n","_law_step","_law_c","_law_x"]:List Str).Nodup:=by decide +kernel
def zaz:SF:=
 (zB (sIf (fT (f2 (fV 0) (fC (.int 0)) (zZ .Gt))) (zB (zK true 4 (zJ (aC (fV 0) (aC (fV 1) (aC (fV 3) aN))) ZR))
  (yF (yw (yE (aC (fV 2) aN) yI) [none,some 4] (gN 0) xG (fP (aC (fV 1) aN) lstP)))) sNx)
  (zB (zK true 5 (f2 (f2 (fV 1) (zJ (aC (fV 1) (aC (fV 2) aN)) vH) (zm .FloorDiv)) (f2 (f2 (fV 3) (fC (.int 8)) (zm .FloorDiv)) (fC (.int 8)) (zm .Mod)) (zm .Mult)))
  (yF (yw (yE (aC (fV 2) aN) yI) [none,some 1,some 5,some 3] (gN 0) xG (yw (yE (aC (fV 1) aN) yI) [none,some 1,some 2,some 0,some 3] (gN 0) xG (f2 (f2 (f2 (f2 (fV 4) (fC (.int 8)) (zm .Mod)) (fV 0) (zm .Mult)) (f2 (fV 2) (fV 3) (zm .Mult)) (zm .Add)) (fV 1) (zm .Mod)))))))
def xj:Fn:=fnR 6 4 zaz
abbrev zcB:List Str:=["_law_x","_law_first","_law_size","_law_other"]
theorem vI:FnScope zcB ["_law_x"] (zu Xi):=⟨rfl,rfl,rfl,by decide +kernel,rfl,by decide +kernel,by decide +kernel⟩
def zcR:SF:=
 (zB (zK true 1 (f2 (fV 0) (fC (.int 4)) (zm .Mod)))
  (zB (zK true 2 (f2 (Yb (dC (f2 (fC (.int 1)) (f2 (f2 (fV 0) (fC (.int 4)) (zm .FloorDiv)) (fC (.int 5)) (zm .Mod)) (zm .Add)) (dC (f2 (fC (.int 1)) (f2 (f2 (fV 0) (fC (.int 4)) (zm .FloorDiv)) (fC (.int 8)) (zm .Mod)) (zm .Add)) dN))) (fP (aC (f2 (f2 (f2 (fV 0) (fC (.int 40)) (zm .FloorDiv)) (fC (.int 4)) (zm .Mod)) (fC (.int 1)) (zZ .Eq)) aN) Wb) ixP))
  (zB (sIf (fT (f2 (fV 1) (fC (.int 3)) (zZ .Eq))) (zK true 2 (fC (.int 4))) sNx)
  (zB (zK true 3 (f2 (fC (.int 1)) (f2 (f2 (fV 0) (fC (.int 160)) (zm .FloorDiv)) (fC (.int 3)) (zm .Mod)) (zm .Add)))
  (zB (sIf (fT (f2 (f2 (fV 2) (fV 3) (zm .Mult)) (fC (.int 8)) (zZ .Gt))) (zK true 3 (fC (.int 1))) sNx)
  (yF (xR (dC (fV 1) (dC (fV 2) (dC (f2 (f2 (fV 0) (fC (.int 480)) (zm .FloorDiv)) (fC (.int 3)) (zm .Mod)) (dC (fV 3) dN)))))))))))
def Zm:Fn:=fnR 4 1 zcR
abbrev zbC:List Str:=["_law_cell","_law_many","_law_found","_law_rest","_law_k"]
theorem vZ:FnScope zbC ["_law_cell","_law_many"] (zu Yz):=⟨rfl,rfl,rfl,by decide +kernel,rfl,by decide +kernel,by decide +kernel⟩
def zbo:SF:=
 (zB (zK false 2 (Yb dN))
  (zB (zK true 3 (f2 (fV 0) (fC (.int 2)) (zm .FloorDiv)))
  (zB (xN (yE (aC (fV 1) aN) yI) (gN 4) (sIf (fT (f2 (f2 (fV 0) (fC (.int 2)) (zm .Mod)) (fC (.int 0)) (zZ .Eq))) (zB (wJ (ZX 2 (dC (f2 (fV 3) (fC (.int 1000000007)) (zm .Mod)) dN) Ye))
  (zK true 3 (f2 (fV 3) (fC (.int 1000000007)) (zm .FloorDiv)))) (wJ (ZX 2 (dC (zJ (aC (fV 3) (aC (fV 4) aN)) yL) dN) Ye))))
  (yF (fV 2)))))
def xg:Fn:=fnR 5 2 zbo
abbrev vU:List Str:=["_law_cell","_law_head","_law_many","_law_xs","_law_ys","_law_kind","_law_n","_law_more","_law_times","_law_m","_law_size","_law_left","_law_order","_law_k","_law_join","_law_a","_law_b","_law_there","_law_names","_law_deeds","_law_rows","_law_beside","_law_made","_law_c","_law_signs","_law_bits","_law_held","_law_nothing"]
theorem zy:FnScope vU ["_law_cell","_law_head","_law_many"] (zu wB):=⟨rfl,rfl,rfl,by decide +kernel,rfl,by decide +kernel,by decide +kernel⟩
theorem zcq:(["_law_a","_law_order"]:List Str).Nodup:=by decide +kernel
theorem zce:(["_law_b"]:List Str).Nodup:=by decide +kernel
theorem zbP:(["_law_c","_law_order"]:List Str).Nodup:=by decide +kernel
theorem zcj:(["_law_a"]:List Str).Nodup:=by decide +kernel
theorem zcf:(["_law_a","_law_bits"]:List Str).Nodup:=by decide +kernel
def Xu:SF:=
 (zB (zK true 3 (zJ (aC (fV 0) (aC (f2 (fC (.int 1)) (f2 (fC (.int 2)) (fV 2) (zm .Mult)) (zm .Add)) aN)) xg))
  (zB (zK true 4 (zJ (aC (fV 1) (aC (fC (.int 13)) aN)) xg))
  (zB (zgY (zJ (aC (f2 (fV 3) (fC (.int 0)) ixP) aN) Zm) (gT 4 (gsC (gN 5) (gsC (gN 6) (gsC (gN 7) (gsC (gN 8) gsN))))))
  (zB (zK true 9 (f2 (f2 (fC (.int 1)) (f2 (f2 (fV 4) (fC (.int 0)) ixP) (fC (.int 4)) (zm .Mod)) (zm .Add)) (f2 (fC (.int 2)) (fP (aC (f2 (f2 (f2 (f2 (fV 4) (fC (.int 0)) ixP) (fC (.int 4)) (zm .FloorDiv)) (fC (.int 8)) (zm .Mod)) (fC (.int 5)) (zZ .Eq)) aN) Wb) (zm .Mult)) (zm .Add)))
  (zB (zK true 10 (f2 (fV 6) (fV 8) (zm .Mult)))
  (zB (zK false 11 (fP (aC (fV 10) aN) lrP))
  (zB (zK false 12 (Yb dN))
  (zB (xN (yE (aC (fV 10) aN) yI) (gN 13) (wJ (ZX 12 (dC (ZX 11 (dC (f2 (f2 (fV 4) (f2 (fC (.int 1)) (fV 13) (zm .Add)) ixP) (fP (aC (fV 11) aN) zit) (zm .Mod)) dN) Wq) dN) Ye)))
  (zjV 12 (zB (zK false 14 (yw (ZW (fV 12)) [none,some 12] (gN 0) xG (yw (ZW (fV 1)) [none] (gN 0) xG (fC (.int 0)))))
  (zB (xN (yE (aC (fV 10) aN) yI) (gN 15) (xN (yE (aC (fV 10) aN) yI) (gN 16) (zB (zK true 17 (f2 (zJ (aC (fV 5) (aC (fV 6) (aC (f2 (fV 15) (fV 8) (zm .FloorDiv)) (aC (f2 (fV 16) (fV 8) (zm .FloorDiv)) aN)))) zR) (fV 8) (zm .Mult)))
  (zB (zK true 17 (f2 (fV 17) (zJ (aC (fV 7) (aC (fV 8) (aC (f2 (fV 15) (fV 8) (zm .Mod)) (aC (f2 (fV 16) (fV 8) (zm .Mod)) aN)))) zR) (zm .Add)))
  (Vd 14 (xAt 12 (xV 15)) (xAt 12 (xV 16)) (xAt 12 (xV 17)))))))
  (zB (zK true 18 (zJ (aC (f2 (fV 1) (fC (.int 7)) (zm .FloorDiv)) (aC (fC (.int 10)) aN)) Zk))
  (zB (zK false 19 (Yb dN))
  (zB (xN (yE (aC (fV 2) aN) yI) (gN 13) (zB (zK true 20 (zJ (aC (fV 5) (aC (fV 6) (aC (fV 9) (aC (f2 (fV 3) (f2 (fC (.int 1)) (f2 (fC (.int 2)) (fV 13) (zm .Mult)) (zm .Add)) ixP) aN)))) xj))
  (zB (zK true 21 (zJ (aC (fV 7) (aC (fV 8) (aC (fV 9) (aC (f2 (fV 3) (f2 (fC (.int 2)) (f2 (fC (.int 2)) (fV 13) (zm .Mult)) (zm .Add)) ixP) aN)))) xj))
  (zB (zK false 22 (yw (yE (aC (fV 9) aN) yI) [none,some 12] (gN 0) xG (yw (ZW (fV 1)) [none] (gN 0) xG (fC (.int 0)))))
  (zB (xN (yE (aC (fV 9) aN) yI) (gN 23) (xN (yE (aC (fV 10) aN) yI) (gN 15) (zB (zK true 17 (f2 (f2 (fV 20) (fV 23) ixP) (f2 (fV 15) (fV 8) (zm .FloorDiv)) ixP))
  (zB (zK true 17 (f2 (f2 (fV 17) (fV 8) (zm .Mult)) (f2 (f2 (fV 21) (fV 23) ixP) (f2 (fV 15) (fV 8) (zm .Mod)) ixP) (zm .Add)))
  (Vd 22 (xV 23) (xAt 12 (xV 15)) (xAt 12 (xV 17)))))))
  (wJ (ZX 19 (dC (xR (dC (f2 (fV 18) (fV 13) ixP) (dC (fV 22) dN))) dN) Ye)))))))
  (zB (zK false 24 (Yb dN))
  (zB (xN (yE (aC (fC (.int 3)) aN) yI) (gN 13) (zB (zK true 25 (f2 (fV 4) (f2 (fC (.int 9)) (fV 13) (zm .Add)) ixP))
  (zB (zK true 26 (yw (yE (aC (fV 10) aN) yI) [none,some 25] (gN 0) (fT (f2 (f2 (f2 (fV 1) (f2 (fC (.int 1)) (fV 0) zkv) (zm .FloorDiv)) (fC (.int 2)) (zm .Mod)) (fC (.int 1)) (zZ .Eq))) (fV 0)))
  (wJ (ZX 24 (dC (xR (dC (f2 (fV 18) (f2 (fV 13) (f2 (fC (.int 4)) (f2 (f2 (fV 25) (fC (.int 512)) (zm .FloorDiv)) (fC (.int 2)) (zm .Mod)) (zm .Mult)) (zm .Add)) ixP) (dC (fV 26) dN))) dN) Ye)))))
  (zB (zK true 27 (f2 (fV 12) (f2 (Yb (dC (fC (.int 0)) (dC (fV 8) dN))) (fP (aC (f2 (fV 5) (fC (.int 3)) (zZ .Eq)) aN) Wb) ixP) ixP))
  (yF (xR (dC (fV 10) (dC (fV 9) (dC (fV 14) (dC (fV 27) (dC (fV 19) (dC (fSl (fV 24) oN (oS (f2 (f2 (fV 4) (fC (.int 12)) ixP) (fC (.int 4)) (zm .Mod))) slP) dN)))))))))))))))))))))))))
def vV:Fn:=fnR 28 3 Xu
abbrev YQ:List Str:=["_law_algebra_here","_law_n","_law_m","_law_join","_law_nothing","_law_deeds","_law_signs","_law_rows","_law_held"]
theorem wk:FnScope YQ ["_law_algebra_here"] (zu Zh):=⟨rfl,rfl,rfl,by decide +kernel,rfl,by decide +kernel,by decide +kernel⟩
theorem zaA:(["_law_name","_law_table"]:List Str).Nodup:=by decide +kernel
theorem zeG:(["_law_row"]:List Str).Nodup:=by decide +kernel
theorem zaN:(["_law_name","_law_values"]:List Str).Nodup:=by decide +kernel
theorem zeF:(["_law_row"]:List Str).Nodup:=by decide +kernel
def zaW:SF:=
 (zB (zgY (fV 0) (gT 6 (gsC (gN 1) (gsC (gN 2) (gsC (gN 3) (gsC (gN 4) (gsC (gN 5) (gsC (gN 6) gsN))))))))
  (zB (zK false 7 (yw (ZW (fV 5)) [none,none] (gT 2 (gsC (gN 0) (gsC (gN 1) gsN))) xG (xR (dC (fV 0) (dC (yw (ZW (fV 1)) [none] (gN 0) xG (fP (aC (fV 0) aN) lstP)) dN)))))
  (zB (zK true 8 (yw (ZW (fV 6)) [none,none] (gT 2 (gsC (gN 0) (gsC (gN 1) gsN))) xG (xR (dC (fV 0) (dC (fP (aC (fV 1) aN) lstP) dN)))))
  (yF (xR (dC (fV 1) (dC (fV 2) (dC (yw (ZW (fV 3)) [none] (gN 0) xG (fP (aC (fV 0) aN) lstP)) (dC (fV 4) (dC (fMv 7) (dC (fV 8) dN)))))))))))
def xY:Fn:=fnR 9 1 zaW
abbrev zeq:List Str:=["_law_algebra_here","_law_cell","_law_n","_law_m","_law_join","_law_nothing","_law_deeds","_law_signs","_law_x","_law_a","_law_b","_law_other"]
theorem yV:FnScope zeq ["_law_algebra_here","_law_cell"] (zu WR):=⟨rfl,rfl,rfl,by decide +kernel,rfl,by decide +kernel,by decide +kernel⟩
def zdR:SF:=
 (zB (zoz [2,3,4,5,6,7] (zJ (aC (fV 0) aN) xY))
  (zB (zK true 8 (zJ (aC (fV 1) (aC (fC (.int 70)) aN)) yL))
  (zB (zK true 9 (f2 (f2 (fV 8) (fC (.int 8)) (zm .FloorDiv)) (fV 2) (zm .Mod)))
  (zB (zK true 10 (f2 (f2 (fV 8) (fC (.int 64)) (zm .FloorDiv)) (fV 2) (zm .Mod)))
  (zB (zK true 11 (f2 (f2 (f2 (fV 8) (fC (.int 512)) (zm .FloorDiv)) (fC (.int 1)) (zm .Add)) (fV 2) (zm .Mod)))
  (zB (sIf (fT (f2 (f2 (fV 8) (fC (.int 8)) (zm .Mod)) (fC (.int 3)) (zZ .Lt))) (Vd 4 (xV 9) (xV 10) (xV 11)) (sIf (fT (f2 (f2 (fV 8) (fC (.int 8)) (zm .Mod)) (fC (.int 7)) (zZ .Lt))) (zmn 6 (zhG (zhZ (xV 8) (xC 4096)) (zkt 6)) 1 (zhG (zhZ (xV 8) (xC 32768)) (xV 3)) (xV 9) (xV 11)) (zK true 5 (fV 11))))
  (yF (xR (dC (fV 2) (dC (fV 3) (dC (fMv 4) (dC (fV 5) (dC (fMv 6) (dC (fV 7) dN))))))))))))))
def Z3:Fn:=fnR 12 2 zdR
abbrev Yu:List Str:=["_law_n","_law_join","_law_a","_law_b","_law_c"]
theorem wu:FnScope Yu ["_law_n","_law_join"] (zu wF):=⟨rfl,rfl,rfl,by decide +kernel,rfl,by decide +kernel,by decide +kernel⟩
def Ys:SF:=
 (zB (xN (yE (aC (fV 0) aN) yI) (gN 2) (xN (yE (aC (fV 0) aN) yI) (gN 3) (xN (yE (aC (fV 0) aN) yI) (gN 4) (sIf (fT (f2 (f2 (f2 (fV 1) (f2 (f2 (fV 1) (fV 2) ixP) (fV 3) ixP) ixP) (fV 4) ixP) (f2 (f2 (fV 1) (fV 2) ixP) (f2 (f2 (fV 1) (fV 3) ixP) (fV 4) ixP) ixP) (zZ .NotEq))) (yF (xR (dC (fC (.str "parting")) (dC (fV 2) (dC (fV 3) (dC (fV 4) dN)))))) sNx))))
  (yF (fC .non)))
def xM:Fn:=fnR 5 2 Ys
abbrev Xj:List Str:=["_law_n","_law_m","_law_join","_law_name","_law_rows","_law_a","_law_i","_law_b","_law_j","_law_there"]
theorem yZ:FnScope Xj ["_law_n","_law_m","_law_join","_law_name","_law_rows"] (zu vh):=⟨rfl,rfl,rfl,by decide +kernel,rfl,by decide +kernel,by decide +kernel⟩
def Xc:SF:=
 (zB (xN (yE (aC (fV 0) aN) yI) (gN 5) (xN (yE (aC (fV 1) aN) yI) (gN 6) (xN (yE (aC (fV 0) aN) yI) (gN 7) (xN (yE (aC (fV 1) aN) yI) (gN 8) (zB (zK true 9 (f2 (f2 (fV 4) (f2 (f2 (fV 6) (fV 8) (zm .Add)) (fV 1) (zm .Mod)) ixP) (f2 (f2 (fV 2) (fV 5) ixP) (fV 7) ixP) ixP))
  (sIf (fT (f2 (fV 9) (f2 (f2 (fV 2) (f2 (f2 (fV 4) (fV 6) ixP) (fV 5) ixP) ixP) (f2 (f2 (fV 4) (fV 8) ixP) (fV 7) ixP) ixP) (zZ .NotEq))) (yF (xR (dC (fC (.str "doing")) (dC (fV 3) (dC (fV 5) (dC (fV 6) (dC (fV 7) (dC (fV 8) dN)))))))) sNx))))))
  (yF (fC .non)))
def xx:Fn:=fnR 10 5 Xc
abbrev zfb:List Str:=["_law_algebra_here","_law_n","_law_m","_law_join","_law_nothing","_law_deeds","_law_signs","_law_a","_law_found","_law_name","_law_rows"]
theorem yW:FnScope zfb ["_law_algebra_here"] (zu zaj):=⟨rfl,rfl,rfl,by decide +kernel,rfl,by decide +kernel,by decide +kernel⟩
def zfd:SF:=
 (zB (zgY (fV 0) (gT 6 (gsC (gN 1) (gsC (gN 2) (gsC (gN 3) (gsC (gN 4) (gsC (gN 5) (gsC (gN 6) gsN))))))))
  (zB (xN (yE (aC (fV 1) aN) yI) (gN 7) (sIf (Vh (fT (f2 (f2 (f2 (fV 3) (fV 4) ixP) (fV 7) ixP) (fV 7) (zZ .NotEq))) (fT (f2 (f2 (f2 (fV 3) (fV 7) ixP) (fV 4) ixP) (fV 7) (zZ .NotEq)))) (yF (xR (dC (fC (.str "nothing")) (dC (fV 7) dN)))) sNx))
  (zB (zK true 8 (zJ (aC (fV 1) (aC (fV 3) aN)) xM))
  (zB (xN (zlv (fV 5)) (gT 2 (gsC (gN 9) (gsC (gN 10) gsN))) (zB (sIf (zdw (fT (f2 (fV 8) (fC .non) (zZ .Is))) (fT (f2 (f2 (f2 (fV 10) (fC (.int 0)) ixP) (fV 4) ixP) (fV 4) (zZ .NotEq)))) (zK true 8 (xR (dC (fC (.str "empty")) (dC (fV 9) dN)))) sNx)
  (sIf (fT (f2 (fV 8) (fC .non) (zZ .Is))) (zK true 8 (zJ (aC (fV 1) (aC (fV 2) (aC (fV 3) (aC (fV 9) (aC (fV 10) aN))))) xx)) sNx)))
  (yF (fV 8))))))
def vJ:Fn:=fnR 11 1 zfd
abbrev zcu:List Str:=["_law_e"]
theorem zgx:FnScope zcu ["_law_e"] (zu Xa):=⟨rfl,rfl,rfl,by decide +kernel,rfl,by decide +kernel,by decide +kernel⟩
def zcJ:SF:=
 (zB (sIf (Vh (fT (f1 (fV 0) (Y5 "NotLetBy" "what" false))) (Vh (fT (f1 (fV 0) (Y5 "NotLetBy" "what" false))) (Vh (fT (f1 (fV 0) (Y5 "NotLetBy" "what" false))) (fT (f1 (fV 0) (Y5 "NotLetBy" "what" false)))))) (yF (fC (.bl false))) sNx)
  (zB (sIf (Vh (fT (f1 (fV 0) (Y5 "NotLetBy" "what" false))) (Vh (fT (f1 (fV 0) (Y5 "NotLetBy" "what" false))) (Vh (fT (f1 (fV 0) (Y5 "NotLetBy" "what" false))) (fT (f1 (fV 0) (Y5 "NotLetBy" "what" false)))))) (yF (fC (.bl false))) sNx)
  (yF (zgJ (f1 (fV 0) (Y5 "NotLetBy" "what" true)) (f1 (fV 0) (Y5 "NotLetBy" "what" true))))))
def vq:Fn:=fnR 1 1 zcJ
abbrev wW:List Str:=["self","algebra"]
theorem X3:FnScope wW ["self","algebra"] (zu wg):=⟨rfl,rfl,rfl,by decide +kernel,rfl,by decide +kernel,by decide +kernel⟩
theorem YW:(["name","rows"]:List Str).Nodup:=by decide +kernel
theorem YX:(["name","values"]:List Str).Nodup:=by decide +kernel
def Zf:IFn:=
 (zaK (zmz (zJ (aC (fV 1) aN) yJ))
  (zaK (zgh 0 ziJ "size" (f2 (fV 1) (fC (.int 0)) ixP))
  (zaK (zgh 0 zfs "around" (f2 (fV 1) (fC (.int 1)) ixP))
  (zaK (zgh 0 zgZ "table" (zJ (aC (f2 (fV 1) (fC (.int 2)) ixP) aN) VP))
  (zaK (zgh 0 zdD "neutral" (f2 (fV 1) (fC (.int 3)) ixP))
  (zaK (zgh 0 zgI "waits" (fP (aC (yw (ZW (f2 (fV 1) (fC (.int 4)) ixP)) [none,none] (gT 2 (gsC (gN 0) (gsC (gN 1) gsN))) xG (xR (dC (fV 0) (dC (zJ (aC (fV 1) aN) VP) dN)))) aN) zcQ))
  (zgh 0 zem "holders" (fP (aC (yw (ZW (f2 (fV 1) (fC (.int 5)) ixP)) [none,none] (gT 2 (gsC (gN 0) (gsC (gN 1) gsN))) xG (xR (dC (fV 0) (dC (fP (aC (fV 1) aN) tupP) dN)))) aN) zcQ))))))))
def yU(c:Str):Fn:=fnI c 2 2 Zf
def xZ(c:Str):List (Bool×D)->Option D:=gYI c 2 2 (gC (aC (fV 1) aN) ZL)
abbrev zds:List Str:=["_law_algebra_here","_law_found","_law_e"]
theorem Yg:FnScope zds ["_law_algebra_here"] (zu WF):=⟨rfl,rfl,rfl,by decide +kernel,rfl,by decide +kernel,by decide +kernel⟩
def zdx:SF:=
 (zB (zK true 1 (xR (dC (fC (.str "none")) dN)))
  (zB (zig 2 "NotLetBy" "what" (wJ (zJ (aC (fV 0) aN) (yU "Ways"))) (gC (aC (fV 0) aN) (xZ "Ways"))
  (zB (zK true 1 (xR (dC (fC (.str "odd")) dN)))
  (sIf (fT (zJ (aC (fV 2) aN) vq)) (zK true 1 (f1 (fV 2) (erP "NotLetBy" "what"))) sNx)))
  (yF (fV 1))))
def YS:Fn:=fnR 3 1 zdx
abbrev Vs:List Str:=["_law_algebra_here","_law_due_here","_law_handed","_law_found"]
theorem Yw:FnScope Vs ["_law_algebra_here"] (zu Yd):=⟨rfl,rfl,rfl,by decide +kernel,rfl,by decide +kernel,by decide +kernel⟩
theorem zdu:(["_law_part"]:List Str).Nodup:=by decide +kernel
def zcI:SF:=
 (zB (zK true 1 (zJ (aC (fV 0) aN) vJ))
  (zB (zK true 2 (zJ (aC (fV 0) aN) xY))
  (zB (zK true 3 (zJ (aC (fV 2) aN) YS))
  (zB (sIf (fT (f2 (fV 2) (fV 0) (zZ .NotEq))) (yF (fC (.bl false))) sNx)
  (zB (sIf (fT (f2 (fV 1) (fC .non) (zZ .Is))) (yF (f2 (fV 3) (xR (dC (fC (.str "none")) dN)) (zZ .Eq))) sNx)
  (zB (sIf (Vh (W5 (fT (zeL (fV 3) "tuple"))) (fT (f2 (fV 3) (fV 1) (zZ .NotEq)))) (yF (fC (.bl false))) sNx)
  (yF (f2 (yw (ZW (fV 3)) [none] (gN 0) (zdw (W5 (fT (zJ (aC (fV 0) aN) vD))) (W5 (fT (zeL (fV 0) "str")))) (fV 0)) (Yb dN) (zZ .Eq)))))))))
def yG:Fn:=fnR 4 1 zcI
abbrev zph:List Str:=["_law_script","_law_algebra_here","_law_bent_here","_law_k"]
theorem zdQ:FnScope zph ["_law_script"] (zu zju):=⟨rfl,rfl,rfl,by decide +kernel,rfl,by decide +kernel,by decide +kernel⟩
def zpj:SF:=
 (zB (zK true 1 (zJ (aC (zJ (aC (fV 0) (aC (fC (.int 0)) aN)) zY) (aC (zJ (aC (fV 0) (aC (fC (.int 1)) aN)) zY) (aC (f2 (fC (.int 1)) (f2 (zJ (aC (fV 0) (aC (fC (.int 2)) aN)) zY) (fC (.int 3)) (zm .Mod)) (zm .Add)) aN))) vV))
  (zB (sIf (Vh (fT (f2 (zJ (aC (fV 1) aN) vJ) (fC .non) (zZ .IsNot))) (W5 (fT (zJ (aC (fV 1) aN) yG)))) (yF (fC (.bl false))) sNx)
  (zB (zK true 2 (fV 1))
  (zB (xN (yE (aC (f2 (fC (.int 1)) (f2 (f2 (zJ (aC (fV 0) (aC (fC (.int 2)) aN)) zY) (fC (.int 3)) (zm .FloorDiv)) (fC (.int 3)) (zm .Mod)) (zm .Add)) aN) yI) (gN 3) (zB (zK true 2 (zJ (aC (fV 2) (aC (zJ (aC (fV 0) (aC (f2 (fC (.int 3)) (fV 3) (zm .Add)) aN)) zY) aN)) Z3))
  (sIf (W5 (fT (zJ (aC (fV 2) aN) yG))) (yF (fC (.bl false))) sNx)))
  (yF (zJ (aC (fV 1) aN) yG))))))
def zdS:Fn:=fnR 4 1 zpj
set_option genInjectivity false in
set_option genSizeOf false in
structure Adr where
 Yi:Addr
 Yo:FuncData
 Ym:Addr
 Yj:FuncData
 Xv:Addr
 XJ:FuncData
 We:Addr
 Wf:FuncData
 Wd:Addr
 Wt:FuncData
 wH:Addr
 vN:FuncData
 ZC:Addr
 ZG:FuncData
 zhY:Addr
 zim:FuncData
 XF:Addr
 XH:FuncData
 VJ:Addr
 Vo:FuncData
 Vq:Addr
 V3:FuncData
 VH:Addr
 Vm:FuncData
 Wh:Addr
 WP:FuncData
 Yh:Addr
 Yq:FuncData
 Wg:Addr
 Wj:FuncData
 Xm:Addr
 Xy:FuncData
 VL:Addr
 Vz:FuncData
 Wz:Addr
 Wl:FuncData
 Xr:Addr
 Xn:FuncData
 zaU:Addr
 zaV:FuncData
 zaZ:Addr
 zaS:FuncData
 vM:Addr
 vO:FuncData
 Zo:Addr
 Zu:FuncData
 zct:Addr
 zbL:FuncData
 V6:Addr
 V2:FuncData
 v8:Addr
 v7:FuncData
 zba:Addr
 zaX:FuncData
 Vn:Addr
 Vp:FuncData
 zkP:Addr
 znf:FuncData
 V7:Addr
 yj:Addr
 zgL:Addr
 zhi:Addr
 zjk:Addr
 zgN:Addr
 zcP:Addr
 zhB:Addr
 zfo:Addr
 Zq:Addr
 zeu:Addr
structure Txt(K:zC)(kd:KD)(mg:Str->Option Value)(t:Adr):Prop where
 WY:Fun K "nothing_fails" "nothing_fails" v9 t.Yi t.Yo
 zcX:Binds K t.Yo ["algebra"] []
 wV:mg "nothing_fails"=some (.ref t.Yi)
 W8:Fun K "parting_fails" "parting_fails" Ze t.Ym t.Yj
 zcU:Binds K t.Yj ["algebra"] []
 wR:mg "parting_fails"=some (.ref t.Ym)
 zaI:Fun K "doing_fails" "doing_fails" Z8 t.Xv t.XJ
 zeC:Binds K t.XJ ["algebra","name","rows"] []
 wX:mg "doing_fails"=some (.ref t.Xv)
 zbJ:Fun K "deeds_fail" "deeds_fail" YB t.We t.Wf
 zgC:Binds K t.Wf ["algebra"] []
 Zr:mg "deeds_fail"=some (.ref t.We)
 WK:Fun K "what_fails" "what_fails" Yy t.Wd t.Wt
 zbm:Binds K t.Wt ["algebra"] []
 wN:mg "what_fails"=some (.ref t.Wd)
 zar:Fun K "__init__" "NotLetBy.__init__" wI t.wH t.vN
 zap:Binds K t.vN ["self","what"] []
 ZV:Fun K "check_let_by" "check_let_by" ZF t.ZC t.ZG
 VR:Binds K t.ZG ["algebra"] []
 yJ:mg "check_let_by"=some (.ref t.ZC)
 ziy:Fun K "firm" "firm" zdM t.zhY t.zim
 znn:Binds K t.zim ["rows"] []
 VP:mg "firm"=some (.ref t.zhY)
 wY:Fun K "_law_cell_at" "_law_cell_at" Z5 t.XF t.XH
 vW:Binds K t.XH ["_law_script","_law_k"] []
 zY:mg "_law_cell_at"=some (.ref t.XF)
 Y8:Fun K "_law_mixed" "_law_mixed" Xb t.VJ t.Vo
 V0:Binds K t.Vo ["_law_cell","_law_k"] []
 yL:mg "_law_mixed"=some (.ref t.VJ)
 zcN:Fun K "_law_whole" "_law_whole" Xh t.Vq t.V3
 zhC:Binds K t.V3 ["_law_found"] []
 vD:mg "_law_whole"=some (.ref t.Vq)
 zcL:Fun K "_law_words" "_law_words" Z9 t.VH t.Vm
 zhg:Binds K t.Vm ["_law_cell","_law_many"] []
 Zk:mg "_law_words"=some (.ref t.VH)
 zbp:Fun K "_law_common" "_law_common" Yv t.Wh t.WP
 zfM:Binds K t.WP ["_law_n","_law_m"] []
 vH:mg "_law_common"=some (.ref t.Wh)
 Yk:Fun K "_law_joined_by" "_law_joined_by" Zc t.Yh t.Yq
 Ve:Binds K t.Yq ["_law_kind","_law_n","_law_a","_law_b"] []
 zR:mg "_law_joined_by"=some (.ref t.Yh)
 zbs:Fun K "_law_images" "_law_images" ZJ t.Wg t.Wj
 zgn:Binds K t.Wj ["_law_kind","_law_n","_law_x"] []
 ZR:mg "_law_images"=some (.ref t.Wg)
 Xw:Fun K "_law_done_by" "_law_done_by" wZ t.Xm t.Xy
 zaF:Binds K t.Xy ["_law_kind","_law_n","_law_m","_law_x"] []
 xj:mg "_law_done_by"=some (.ref t.Xm)
 zcz:Fun K "_law_kinds" "_law_kinds" Xi t.VL t.Vz
 zhj:Binds K t.Vz ["_law_x"] []
 Zm:mg "_law_kinds"=some (.ref t.VL)
 Wi:Fun K "_law_stream" "_law_stream" Yz t.Wz t.Wl
 zbH:Binds K t.Wl ["_law_cell","_law_many"] []
 xg:mg "_law_stream"=some (.ref t.Wz)
 zaC:Fun K "_law_algebra" "_law_algebra" wB t.Xr t.Xn
 zeJ:Binds K t.Xn ["_law_cell","_law_head","_law_many"] []
 vV:mg "_law_algebra"=some (.ref t.Xr)
 zaT:Fun K "_law_copy" "_law_copy" Zh t.zaU t.zaV
 zdy:Binds K t.zaV ["_law_algebra_here"] []
 xY:mg "_law_copy"=some (.ref t.zaU)
 zdT:Fun K "_law_bent" "_law_bent" WR t.zaZ t.zaS
 zhR:Binds K t.zaS ["_law_algebra_here","_law_cell"] []
 Z3:mg "_law_bent"=some (.ref t.zaZ)
 Yt:Fun K "_law_first_parting" "_law_first_parting" wF t.vM t.vO
 zas:Binds K t.vO ["_law_n","_law_join"] []
 xM:mg "_law_first_parting"=some (.ref t.vM)
 Xk:Fun K "_law_first_doing" "_law_first_doing" vh t.Zo t.Zu
 zbF:Binds K t.Zu ["_law_n","_law_m","_law_join","_law_name","_law_rows"] []
 xx:mg "_law_first_doing"=some (.ref t.Zo)
 zcp:Fun K "_law_due" "_law_due" zaj t.zct t.zbL
 zfr:Binds K t.zbL ["_law_algebra_here"] []
 vJ:mg "_law_due"=some (.ref t.zct)
 zcC:Fun K "_law_alone" "_law_alone" Xa t.V6 t.V2
 zgK:Binds K t.V2 ["_law_e"] []
 vq:mg "_law_alone"=some (.ref t.V6)
 Vc:Fun K "__init__" "Ways.__init__" wg t.v8 t.v7
 W3:Binds K t.v7 ["self","algebra"] []
 zdN:Fun K "_law_told" "_law_told" WF t.zba t.zaX
 ziE:Binds K t.zaX ["_law_algebra_here"] []
 YS:mg "_law_told"=some (.ref t.zba)
 Xd:Fun K "_law_right" "_law_right" Yd t.Vn t.Vp
 Vr:Binds K t.Vp ["_law_algebra_here"] []
 yG:mg "_law_right"=some (.ref t.Vn)
 zrD:Fun K "law" "law" zju t.zkP t.znf
 ztv:Binds K t.znf ["_law_script"] []
 zdS:mg "law"=some (.ref t.zkP)
 Yn:CI K kd mg "Ways" t.V7
 Vb:Meth K t.V7 "__init__" t.v8
 zhn:Yl K t.V7 "size"
 zeB:Yl K t.V7 "around"
 zgd:Yl K t.V7 "table"
 zex:Yl K t.V7 "neutral"
 zfS:Yl K t.V7 "waits"
 zdV:Yl K t.V7 "holders"
 zgs:mg "ValueError"=none
 zpX:mg "bool"=none
 zkE:mg "dict"=none
 zfl:mg "int"=none
 yz:mg "isinstance"=none
 zkA:mg "len"=none
 zeA:mg "list"=none
 zsy:mg "max"=none
 yf:mg "range"=none
 zlE:mg "sorted"=none
 zsx:mg "str"=none
 zdd:mg "tuple"=none
 zdL:mg "NotLetBy"=some (.ref t.yj)
 zmx:mg "NoDeed"=some (.ref t.zgL)
 zlY:mg "NoMake"=some (.ref t.zhi)
 zow:mg "NoRow"=some (.ref t.zjk)
 znj:mg "NoSign"=some (.ref t.zgN)
 zgT:mg "NoStretch"=some (.ref t.zcP)
 zkG:mg "NoText"=some (.ref t.zhB)
 zkf:mg "NoValue"=some (.ref t.zfo)
 VV:mg "StretchError"=some (.ref t.Zq)
 zhW:mg "TooGreat"=some (.ref t.zeu)
 xq:kd.c "NotLetBy"=t.yj
 xf:PySem.W.findIn K (.ref t.yj) "__init__"=some (some (.ref t.wH))
 xc:XC K t.yj t.Zq t.wH "what"
 xs:XS K t.Zq
 xi:XI K t.yj "what"
 xk:PySem.W.keepIn K (.ref t.yj)=true
 xm:PySem.W.exmOne K (.ref t.yj) (.ref t.Zq)=some true
 k1_NoDeed:PySem.W.kitOne K (.ref t.yj) (.ref t.zgL)=some false
 k1_NoMake:PySem.W.kitOne K (.ref t.yj) (.ref t.zhi)=some false
 k1_NoRow:PySem.W.kitOne K (.ref t.yj) (.ref t.zjk)=some false
 k1_NoSign:PySem.W.kitOne K (.ref t.yj) (.ref t.zgN)=some false
 k1_NoStretch:PySem.W.kitOne K (.ref t.yj) (.ref t.zcP)=some false
 k1_NoText:PySem.W.kitOne K (.ref t.yj) (.ref t.zhB)=some false
 k1_NoValue:PySem.W.kitOne K (.ref t.yj) (.ref t.zfo)=some false
 k1_NotLetBy:PySem.W.kitOne K (.ref t.yj) (.ref t.yj)=some true
 k1_TooGreat:PySem.W.kitOne K (.ref t.yj) (.ref t.zeu)=some false
 k1_ValueError:PySem.W.kitOne K (.ref t.yj) (.type "ValueError")=some true
set_option maxHeartbeats 8000000
section
variable{P:Program}{w:World}{K:zC}{mg:Str->Option Value}{base:Heap}{kd:KD}{t:Adr}
theorem zqC(T:Txt K kd mg t):CF K kd ziJ "size":=(zbU T.Yn T.zhn zbX)
theorem zmD(T:Txt K kd mg t):CF K kd zfs "around":=(zbU T.Yn T.zeB zbX)
theorem znP(T:Txt K kd mg t):CF K kd zgZ "table":=(zbU T.Yn T.zgd zbX)
theorem zku(T:Txt K kd mg t):CF K kd zdD "neutral":=(zbU T.Yn T.zex zbX)
theorem znW(T:Txt K kd mg t):CF K kd zgI "waits":=(zbU T.Yn T.zfS zbX)
theorem zka(T:Txt K kd mg t):CF K kd zem "holders":=(zbU T.Yn T.zdV zbX)
theorem zcW(T:Txt K kd mg t)(hkd:KD1 P w K kd):FnOk P w K mg base CX0 1 t.Yi t.Yo ["algebra"] (spD K kd wV):=by
 refine wL (N:=W4) (ps:=["algebra"]) (k:=0) (c:=W6) T.WY vK λcdv A outer s H E hr=>?_
 exact(by
  refine zg ?_ ?_;exact(by refine sv true 1 vK.nd ?_;exact(ax hkd (av 0) aI))
  refine zg ?_ ?_;exact(by refine sv true 2 vK.nd ?_;exact(ax hkd (av 0) aI))
  refine zg ?_ ?_;exact(yP PassesOwn.never rfl (zX rfl T.yf (zf (ax hkd (av 0) aI) zA (za rfl)) rfl) (an 3 vK.nd) (zr (xJ (AW.at_ (zaG (yC (yp (hkd _ rfl rfl rfl) (yH hr) .NotEq) (yh .NotEq) (ax hkd (ax hkd (av 1) (av 2)) (av 3)) (av 3) (yo _)) (YH (yC (yp (hkd _ rfl rfl rfl) (yH hr) .NotEq) (yh .NotEq) (ax hkd (ax hkd (av 1) (av 3)) (av 2)) (av 3) (yo _))))) (zr (zW (wA (zx aS (zx (av 3) ye (za rfl)) (za rfl))))) yu)) (λ_=>rfl))
  exact zr (zW aZ))
theorem zdb(T:Txt K kd mg t)(hkd:KD1 P w K kd):FnOk P w K mg base CX0 1 t.Ym t.Yj ["algebra"] (spD K kd wR):=by
 refine wL (N:=Va) (ps:=["algebra"]) (k:=0) (c:=Vf) T.W8 xU λcdv A outer s H E hr=>?_
 exact(by
  refine zg ?_ ?_;exact(by refine sv true 1 xU.nd ?_;exact(ax hkd (av 0) aI))
  refine zg ?_ ?_;exact(by refine sv true 2 xU.nd ?_;exact(ax hkd (av 0) aI))
  refine zg ?_ ?_;exact(yP PassesOwn.never rfl (zX rfl T.yf (zf (av 1) zA (za rfl)) rfl) (an 3 xU.nd) (zr (yP PassesOwn.never rfl (zX rfl T.yf (zf (av 1) zA (za rfl)) rfl) (an 4 xU.nd) (zr (yP PassesOwn.never rfl (zX rfl T.yf (zf (av 1) zA (za rfl)) rfl) (an 5 xU.nd) (zr (xJ (yC (yp (hkd _ rfl rfl rfl) (yH hr) .NotEq) (yh .NotEq) (ax hkd (ax hkd (av 2) (ax hkd (ax hkd (av 2) (av 3)) (av 4))) (av 5)) (ax hkd (ax hkd (av 2) (av 3)) (ax hkd (ax hkd (av 2) (av 4)) (av 5))) (yo _)) (zr (zW (wA (by refine zx ?_ ?_ ?_;exact aS;refine zx ?_ ?_ ?_;exact(av 3);refine zx ?_ ?_ ?_;exact(av 4);refine zx ?_ ?_ ?_;exact(av 5);exact ye;exact za rfl;exact za rfl;exact za rfl;exact za rfl)))) yu)) (λ_=>rfl))) (λ_=>rfl))) (λ_=>rfl))
  exact zr (zW aZ))
theorem zeD(T:Txt K kd mg t)(hkd:KD1 P w K kd):FnOk P w K mg base CX0 1 t.Xv t.XJ ["algebra","name","rows"] (spD K kd wX):=by
 refine wL (N:=zaH) (ps:=["algebra","name","rows"]) (k:=0) (c:=zaD) T.zaI xu λcdv A outer s H E hr=>?_
 exact(by
  refine zg ?_ ?_;exact(by refine sv true 3 xu.nd ?_;exact(ax hkd (av 0) aI))
  refine zg ?_ ?_;exact(by refine sv true 4 xu.nd ?_;exact(ax hkd (av 0) aI))
  refine zg ?_ ?_;exact(by refine sv true 5 xu.nd ?_;exact(ax hkd (av 0) aI))
  refine zg ?_ ?_;exact(yP PassesOwn.never rfl (zX rfl T.yf (zf (av 3) zA (za rfl)) rfl) (an 6 xu.nd) (zr (yP PassesOwn.never rfl (zX rfl T.yf (zf (av 4) zA (za rfl)) rfl) (an 7 xu.nd) (zr (yP PassesOwn.never rfl (zX rfl T.yf (zf (av 3) zA (za rfl)) rfl) (an 8 xu.nd) (zr (yP PassesOwn.never rfl (zX rfl T.yf (zf (av 4) zA (za rfl)) rfl) (an 9 xu.nd) (zr (xJ (yC (yp (hkd _ rfl rfl rfl) (yH hr) .NotEq) (yh .NotEq) (ax hkd (ax hkd (av 2) (zp (zq .Mod) (zp (zq .Add) (av 7) (av 9)) (av 4))) (ax hkd (ax hkd (av 5) (av 6)) (av 8))) (ax hkd (ax hkd (av 5) (ax hkd (ax hkd (av 2) (av 7)) (av 6))) (ax hkd (ax hkd (av 2) (av 9)) (av 8))) (yo _)) (zr (zW (wA (by refine zx ?_ ?_ ?_;exact aS;refine zx ?_ ?_ ?_;exact(av 1);refine zx ?_ ?_ ?_;exact(av 6);refine zx ?_ ?_ ?_;exact(av 7);refine zx ?_ ?_ ?_;exact(av 8);refine zx ?_ ?_ ?_;exact(av 9);exact ye;exact za rfl;exact za rfl;exact za rfl;exact za rfl;exact za rfl;exact za rfl)))) yu)) (λ_=>rfl))) (λ_=>rfl))) (λ_=>rfl))) (λ_=>rfl))
  exact zr (zW aZ))
theorem zgw(T:Txt K kd mg t)(hkd:KD1 P w K kd):FnOk P w K mg base CX0 2 t.We t.Wf ["algebra"] (spD K kd Zr):=by
 refine wL (N:=zbA) (ps:=["algebra"]) (k:=1) (c:=zbt) T.zbJ vX λcdv A outer s H E hr=>?_
 exact(by
  refine zg ?_ ?_;exact(by refine sv true 1 vX.nd ?_;exact(ax hkd (av 0) aI))
  refine zg ?_ ?_;exact(yP PassesOwn.never rfl (zkN (ax hkd (av 0) aI)) (WW rfl (ym (an 2 vX.nd) (ym (an 3 vX.nd) YD rfl) rfl) rfl rfl) (by
  refine zg ?_ ?_;exact(xJ (yC (yp (hkd _ rfl rfl rfl) (yH hr) .NotEq) (yh .NotEq) (ax hkd (ax hkd (av 3) aI) (av 1)) (av 1) (yo _)) (zr (zW (wA (zx aS (zx (av 2) ye (za rfl)) (za rfl))))) yu)
  refine zg ?_ ?_;exact(by refine sv true 4 vX.nd ?_;exact(zV (zeD T hkd) (hr.mono (by omega)) rfl T.wX T.zaI.kp T.zeC yM (by refine zf ?_ ?_ ?_;exact(av 0);refine zf ?_ ?_ ?_;exact(av 2);refine zf ?_ ?_ ?_;exact(av 3);exact zA;exact za rfl;exact za rfl;exact za rfl) (by decide) rfl rfl))
  exact zr (xJ (yC (yp (hkd _ rfl rfl rfl) (yH hr) .IsNot) (yh .IsNot) (av 4) aZ (yo _)) (zr (zW (av 4))) yu)) (λ_=>rfl))
  exact zr (zW aZ))
theorem zbc(T:Txt K kd mg t)(hkd:KD1 P w K kd):FnOk P w K mg base CX0 3 t.Wd t.Wt ["algebra"] (spD K kd wN):=by
 refine wL (N:=zbg) (ps:=["algebra"]) (k:=2) (c:=zbE) T.WK Z6 λcdv A outer s H E hr=>?_
 exact(by
  refine zg ?_ ?_;exact(by refine sv true 1 Z6.nd ?_;exact(zV (zcW T hkd) (hr.mono (by omega)) rfl T.wV T.WY.kp T.zcX yM (zf (av 0) zA (za rfl)) (by decide) rfl rfl))
  refine zg ?_ ?_;exact(xJ (yC (yp (hkd _ rfl rfl rfl) (yH hr) .Is) (yh .Is) (av 1) aZ (yo _)) (zr (by refine sv true 1 Z6.nd ?_;exact(zV (zdb T hkd) (hr.mono (by omega)) rfl T.wR T.W8.kp T.zcU yM (zf (av 0) zA (za rfl)) (by decide) rfl rfl))) yu)
  refine zg ?_ ?_;exact(xJ (yC (yp (hkd _ rfl rfl rfl) (yH hr) .Is) (yh .Is) (av 1) aZ (yo _)) (zr (by refine sv true 1 Z6.nd ?_;exact(zV (zgw T hkd) (hr.mono (by omega)) rfl T.Zr T.zbJ.kp T.zgC yM (zf (av 0) zA (za rfl)) (by decide) rfl rfl))) yu)
  exact zr (zW (av 1)))
theorem zau(T:Txt K kd mg t):FnOk P w K mg base CX0 1 t.wH t.vN ["self","what"] (spN K t.yj "what"):=
 Fun.ok (N:=Yr) (ps:=["self","what"]) (k:=0) T.zar VG zoQ λcdv A outer s H vs Q E hr h=>by
  obtain⟨e,v,rfl,he,⟨kd',O,d,rp,hd⟩,q⟩:=h
  exact⟨_,Wc (zdi (zlS T.xc T.xs rfl T.VV (Zy (pv 0) (Zy (zoc (pv 1) (by decide) hr.gd (yH hr)) Vl)) rfl rfl (by decide) rfl) rfl) (zdg (zqI T.xc (pv 0) (pv 1) rfl)),.ref e,rfl,v,rfl,kd',O,d,rp,hd,λy=>⟨e,y,rfl,he,v,rfl,.ref e,rfl,e,rfl,he,λdx h1 h2=>q dx h1 h2⟩⟩
theorem zdU(T:Txt K kd mg t)(hkd:KD1 P w K kd):FnOk P w K mg base CX0 4 t.ZC t.ZG ["algebra"] (spD K kd yJ):=by
 refine wL (N:=YK) (ps:=["algebra"]) (k:=3) (c:=Zv) T.ZV Za λcdv A outer s H E hr=>?_
 exact(by
  refine zg ?_ ?_;exact(by refine sv true 1 Za.nd ?_;exact(zV (zbc T hkd) (hr.mono (by omega)) rfl T.wN T.WK.kp T.zbm yM (zf (av 0) zA (za rfl)) (by decide) rfl rfl))
  exact zr (xJ (yC (yp (hkd _ rfl rfl rfl) (yH hr) .IsNot) (yh .IsNot) (av 1) aZ (yo _)) (zr zsp) yu))
theorem zee(T:Txt K kd mg t)(hkd:KD1 P w K kd):FnOk P w K mg base (CX1 P w t.yj "what") 4 t.ZC t.ZG ["algebra"] (spX K kd ZL):=by
 refine zrZ (N:=YK) (ps:=["algebra"]) (k:=3) (i:=1) T.ZV Za rfl λcdv A outer s H E hr=>⟨?_, ?_, ?_⟩
 · exact(by refine sv true 1 Za.nd ?_;exact(zV (zbc T hkd) (hr.mono (by omega)) rfl T.wN T.WK.kp T.zbm yM (zf (av 0) zA (za rfl)) (by decide) rfl rfl))
 · exact(yC (yp (hkd _ rfl rfl rfl) (yH hr) .IsNot) (yh .IsNot) (av 1) aZ (yo _))
 · exact zmJ T.xc T.xk (zau T) (hr.mono (by omega)) T.zap rfl T.zdL (pv 1) (by decide) rfl rfl
theorem zlu(T:Txt K kd mg t)(hkd:KD1 P w K kd):FnOk P w K mg base CX0 1 t.zhY t.zim ["rows"] (spD K kd VP):=by
 refine wL (N:=zif) (ps:=["rows"]) (k:=0) (c:=zmy) T.ziy znT λcdv A outer s H E hr=>?_
 exact(zr (zW (ZK zbW rfl T.zdd Bt.tuple (zf (Zb (N:=["row"]) (cap:=[none]) (S:=[0]) rfl (YT (av 0)) rfl (by change Zn _ zif _ (zu zdM).names _=true;decide +kernel) (by decide) (λcl s H fp=>(an 0 zjW)) (λcl s H fp=>wD) (λcl s H fp=>(ZK zbW rfl T.zdd Bt.tuple (zf (av 0) zA (za rfl)) (Bt.n _ rfl) (by decide) rfl rfl)) (λ_=>rfl)) zA (za rfl)) (Bt.n _ rfl) (by decide) rfl rfl)))
theorem vY(T:Txt K kd mg t)(hkd:KD1 P w K kd):FnOk P w K mg base CX0 1 t.XF t.XH ["_law_script","_law_k"] (spD K kd zY):=by
 refine wL (N:=zay) (ps:=["_law_script","_law_k"]) (k:=0) (c:=zaE) T.wY zep λcdv A outer s H E hr=>?_
 exact(by
  refine zg ?_ ?_;exact(xJ (yC (yp (hkd _ rfl rfl rfl) (yH hr) .Lt) (yh .Lt) (av 1) (zfG (zeO (hkd _ rfl rfl rfl)) rfl T.zkA Bt.len (zf (av 0) zA (za rfl)) (Bt.n _ rfl) (by decide) rfl rfl) (yo _)) (zr (zW (ax hkd (av 0) (av 1)))) yu)
  exact zr (zW aI))
theorem VD(T:Txt K kd mg t)(hkd:KD1 P w K kd):FnOk P w K mg base CX0 1 t.VJ t.Vo ["_law_cell","_law_k"] (spD K kd yL):=by
 refine wL (N:=zcy) (ps:=["_law_cell","_law_k"]) (k:=0) (c:=zcD) T.Y8 zbk λcdv A outer s H E hr=>?_
 exact(by
  refine zg ?_ ?_;exact(by refine sv true 2 zbk.nd ?_;exact(zp (zq .Mod) (zp (zq .Add) (zp (zq .Add) (zp (zq .Mult) (zp (zq .Mod) (av 0) aI) aI) (zp (zq .Mult) (zp (zq .Mult) (av 1) (av 1)) aI)) aI) aI))
  exact zr (zW (zp (zq .Mod) (zp (zq .Add) (zp (zq .Add) (zp (zq .Mult) (av 2) (av 2)) (zp (zq .Mult) aI (av 2))) (av 1)) aI)))
theorem zgH(T:Txt K kd mg t)(hkd:KD1 P w K kd):FnOk P w K mg base CX0 1 t.Vq t.V3 ["_law_found"] (spD K kd vD):=by
 refine wL (N:=zcE) (ps:=["_law_found"]) (k:=0) (c:=zcT) T.zcN zfJ λcdv A outer s H E hr=>?_
 exact(zr (zW (zmI (zfx (hkd _ rfl rfl rfl) rfl rfl T.yz Bt.isinstance rfl T.zfl Bt.int (av 0) (Bt.n _ rfl) (by decide) (Bt.n _ rfl) (by decide) rfl rfl rfl) (zkM (zqg (zfx (hkd _ rfl rfl rfl) rfl rfl T.yz Bt.isinstance rfl T.zpX Bt.bool (av 0) (Bt.n _ rfl) (by decide) (Bt.n _ rfl) (by decide) rfl rfl rfl))))))
theorem zhp(T:Txt K kd mg t)(hkd:KD1 P w K kd):FnOk P w K mg base CX0 2 t.VH t.Vm ["_law_cell","_law_many"] (spD K kd Zk):=by
 refine wL (N:=V1) (ps:=["_law_cell","_law_many"]) (k:=1) (c:=zcF) T.zcL wM λcdv A outer s H E hr=>?_
 exact(by
  refine zg ?_ ?_;exact(by refine sv true 2 wM.nd ?_;exact aS)
  refine zg ?_ ?_;exact(by refine sv true 3 wM.nd ?_;exact(zp (zq .Add) aI (zp (zq .Mod) (av 0) aI)))
  refine zg ?_ ?_;exact(by refine sv true 4 wM.nd ?_;exact(zp (zq .Mod) (zp (zq .FloorDiv) (av 0) aI) (av 3)))
  refine zg ?_ ?_;exact(by refine sv false 5 wM.nd ?_;exact(Zw ye))
  refine zg ?_ ?_;exact(yP PassesOwn.never rfl (zX rfl T.yf (zf (av 1) zA (za rfl)) rfl) (an 6 wM.nd) (by
  refine zg ?_ ?_;exact(V9 (z:=true) (i:=7) (N:=["_law_j","_law_letters","_law_k","_law_cell","_law_at"]) (cap:=[none,some 2,some 6,some 0,some 4]) (S:=[0]) wM.nd rfl (by exact Or.inl rfl) (by exact Or.inr rfl) rfl rfl (Z4 rfl T.yf (zf (av 3) zA (za rfl)) rfl) rfl (by change Zn _ V1 _ (zu Z9).names _=true;decide +kernel) (by decide) (λcl s H fp=>(an 0 zdI)) (λcl s H fp=>wD) (λcl s H fp=>(ax hkd (av 1) (zp (zq .Mod) (zp (zq .Add) (zp (zq .FloorDiv) (zV (VD T hkd) (hr.mono (by omega)) rfl T.yL T.Y8.kp T.V0 yM (zf (av 3) (zf (av 0) zA (za rfl)) (za rfl)) (by decide) rfl rfl) aI) (zp (zq .Mult) (av 2) (ZK YJ rfl T.zfl Bt.int (zf (zaR (yp (hkd _ rfl rfl rfl) (yH hr) .Eq) (av 0) (av 4) (yo _)) zA (za rfl)) (Bt.n _ rfl) (by decide) rfl rfl))) aI))) (λ_=>rfl))
  exact zr (Xe (V8 Z1 zaP PySem.F.slot_list_append PySem.F.type_list_append (pv 5) (zx (zor (ty:=.str) (hkd _ rfl rfl rfl) zov PySem.F.plainAttrs_str PySem.F.slot_str_join PySem.F.type_str_join aS (zf (av 7) zA (za rfl)) rfl rfl rfl rfl rfl) ye (za rfl)) rfl rfl rfl rfl rfl) rfl)) (λ_=>rfl))
  exact zr (zW (av 5)))
theorem zgp(T:Txt K kd mg t)(hkd:KD1 P w K kd):FnOk P w K mg base CX0 1 t.Wh t.WP ["_law_n","_law_m"] (spD K kd vH):=by
 refine wL (N:=zbu) (ps:=["_law_n","_law_m"]) (k:=0) (c:=zbh) T.zbp zaL λcdv A outer s H E hr=>?_
 exact(by
  refine zg ?_ ?_;exact(zlf (n:=10000) PassesOwn.never (yC (yp (hkd _ rfl rfl rfl) (yH hr) .Gt) (yh .Gt) (av 1) aI (yo _)) (zr (zqB (i:=0) (j:=1) rfl zaL.nd rfl rfl (by decide) rfl rfl (zx (av 1) (zx (zp (zq .Mod) (av 0) (av 1)) ye (za rfl)) (za rfl)) rfl rfl)))
  exact zr (zW (av 0)))
theorem W9(T:Txt K kd mg t)(hkd:KD1 P w K kd):FnOk P w K mg base CX0 1 t.Yh t.Yq ["_law_kind","_law_n","_law_a","_law_b"] (spD K kd zR):=by
 refine wL (N:=W7) (ps:=["_law_kind","_law_n","_law_a","_law_b"]) (k:=0) (c:=Vg) T.Yk XQ λcdv A outer s H E hr=>?_
 exact(by
  refine zg ?_ ?_;exact(xJ (yC (yp (hkd _ rfl rfl rfl) (yH hr) .Eq) (yh .Eq) (av 0) aI (yo _)) (zr (zW (zp (zq .Mod) (zp (zq .Add) (av 2) (av 3)) (av 1)))) yu)
  refine zg ?_ ?_;exact(xJ (yC (yp (hkd _ rfl rfl rfl) (yH hr) .Eq) (yh .Eq) (av 0) aI (yo _)) (zr (zW (zfG (zjX rfl) rfl T.zsy Bt.max (zf (av 2) (zf (av 3) zA (za rfl)) (za rfl)) (Bt.n _ rfl) (by decide) rfl rfl))) yu)
  refine zg ?_ ?_;exact(xJ (yC (yp (hkd _ rfl rfl rfl) (yH hr) .Eq) (yh .Eq) (av 0) aI (yo _)) (zr (zW (ax hkd (Zw (zx (av 3) (zx (av 2) ye (za rfl)) (za rfl))) (ZK YJ rfl T.zfl Bt.int (zf (zaR (yp (hkd _ rfl rfl rfl) (yH hr) .Eq) (av 3) aI (yo _)) zA (za rfl)) (Bt.n _ rfl) (by decide) rfl rfl)))) yu)
  refine zg ?_ ?_;exact(by refine sv true 4 XQ.nd ?_;exact(Zw (zx (zp (zq .FloorDiv) (av 3) aI) (zx (zp (zq .Mod) (av 3) aI) ye (za rfl)) (za rfl))))
  exact zr (zW (zp (zq .Add) (zp (zq .Mult) aI (ax hkd (av 4) (zp (zq .FloorDiv) (av 2) aI))) (ax hkd (av 4) (zp (zq .Mod) (av 2) aI)))))
theorem zgj(T:Txt K kd mg t)(hkd:KD1 P w K kd):FnOk P w K mg base CX0 1 t.Wg t.Wj ["_law_kind","_law_n","_law_x"] (spD K kd ZR):=by
 refine wL (N:=WQ) (ps:=["_law_kind","_law_n","_law_x"]) (k:=0) (c:=zbf) T.zbs v6 λcdv A outer s H E hr=>?_
 exact(by
  refine zg ?_ ?_;exact(xJ (yC (yp (hkd _ rfl rfl rfl) (yH hr) .Eq) (yh .Eq) (av 0) aI (yo _)) (zr (zW (Zb (N:=["_law_a","_law_x"]) (cap:=[none,some 2]) (S:=[0]) rfl (Z4 rfl T.yf (zf (av 1) zA (za rfl)) rfl) rfl (by change Zn _ WQ _ (zu ZJ).names _=true;decide +kernel) (by decide) (λcl s H fp=>(an 0 zcV)) (λcl s H fp=>wD) (λcl s H fp=>(ax hkd (Zw (zx (av 0) (zx (zp (zq .Sub) (zp (zq .Add) (zp (zq .Mult) aI (zp (zq .Sub) aI (zp (zq .Mod) (av 0) aI))) aI) (zp (zq .FloorDiv) (av 0) aI)) ye (za rfl)) (za rfl))) (zp (zq .Mod) (av 1) aI))) (λ_=>rfl)))) yu)
  refine zg ?_ ?_;exact(by refine sv false 3 v6.nd ?_;exact(Zw ye))
  refine zg ?_ ?_;exact(yP PassesOwn.never rfl (zkm rfl T.yf (zf aI (zf (av 1) zA (za rfl)) (za rfl)) rfl rfl) (an 4 v6.nd) (by
  refine zg ?_ ?_;exact(by refine sv true 2 v6.nd ?_;exact(zp (zq .FloorDiv) (av 2) (av 1)))
  exact zr (Xe (V8 Z1 zaP PySem.F.slot_list_append PySem.F.type_list_append (pv 3) (zx (ax hkd (Zw (zx (zp (zq .Mod) (av 2) (av 1)) (zx (zp (zq .Add) aI (zp (zq .Mod) (av 2) (zp (zq .Sub) (av 1) aI))) ye (za rfl)) (za rfl))) (zp (zq .Sub) (av 0) aI)) ye (za rfl)) rfl rfl rfl rfl rfl) rfl)) (λ_=>rfl))
  refine zg ?_ ?_;exact(xJ (yC (yp (hkd _ rfl rfl rfl) (yH hr) .Eq) (yh .Eq) (av 0) aI (yo _)) (zr (by refine sv false 3 v6.nd ?_;exact(zfG ziB rfl T.zlE Bt.sorted (zf (av 3) zA (za rfl)) (Bt.n _ rfl) (by decide) rfl rfl))) yu)
  exact zr (zW (zp (zq .Add) (Zw (zx aI ye (za rfl))) (av 3))))
theorem zaJ(T:Txt K kd mg t)(hkd:KD1 P w K kd):FnOk P w K mg base CX0 2 t.Xm t.Xy ["_law_kind","_law_n","_law_m","_law_x"] (spD K kd xj):=by
 refine wL (N:=Z7) (ps:=["_law_kind","_law_n","_law_m","_law_x"]) (k:=1) (c:=zaz) T.Xw YZ λcdv A outer s H E hr=>?_
 exact(by
  refine zg ?_ ?_;exact(xJ (yC (yp (hkd _ rfl rfl rfl) (yH hr) .Gt) (yh .Gt) (av 0) aI (yo _)) (by
  refine zg ?_ ?_;exact(by refine sv true 4 YZ.nd ?_;exact(zV (zgj T hkd) (hr.mono (by omega)) rfl T.ZR T.zbs.kp T.zgn yM (by refine zf ?_ ?_ ?_;exact(av 0);refine zf ?_ ?_ ?_;exact(av 1);refine zf ?_ ?_ ?_;exact(av 3);exact zA;exact za rfl;exact za rfl;exact za rfl) (by decide) rfl rfl))
  exact zr (zW (Zb (N:=["_law_c","_law_images_here"]) (cap:=[none,some 4]) (S:=[0]) rfl (Z4 rfl T.yf (zf (av 2) zA (za rfl)) rfl) rfl (by change Zn _ Z7 _ (zu wZ).names _=true;decide +kernel) (by decide) (λcl s H fp=>(an 0 zcb)) (λcl s H fp=>wD) (λcl s H fp=>(ZK zam rfl T.zeA Bt.list (zf (av 1) zA (za rfl)) (Bt.n _ rfl) (by decide) rfl rfl)) (λ_=>rfl)))) yu)
  refine zg ?_ ?_;exact(by refine sv true 5 YZ.nd ?_;exact(zp (zq .Mult) (zp (zq .FloorDiv) (av 1) (zV (zgp T hkd) (hr.mono (by omega)) rfl T.vH T.zbp.kp T.zfM yM (zf (av 1) (zf (av 2) zA (za rfl)) (za rfl)) (by decide) rfl rfl)) (zp (zq .Mod) (zp (zq .FloorDiv) (av 3) aI) aI)))
  exact zr (zW (Zb (N:=["_law_c","_law_n","_law_step","_law_x"]) (cap:=[none,some 1,some 5,some 3]) (S:=[0]) rfl (Z4 rfl T.yf (zf (av 2) zA (za rfl)) rfl) rfl (by change Zn _ Z7 _ (zu wZ).names _=true;decide +kernel) (by decide) (λcl s H fp=>(an 0 zch)) (λcl s H fp=>wD) (λcl s H fp=>(Zb (N:=["_law_a","_law_n","_law_step","_law_c","_law_x"]) (cap:=[none,some 1,some 2,some 0,some 3]) (S:=[0]) rfl (Z4 rfl T.yf (zf (av 1) zA (za rfl)) rfl) rfl (by with_unfolding_all rfl) (by decide) (λcl s H fp=>(an 0 zcr)) (λcl s H fp=>wD) (λcl s H fp=>(zp (zq .Mod) (zp (zq .Add) (zp (zq .Mult) (zp (zq .Mod) (av 4) aI) (av 0)) (zp (zq .Mult) (av 2) (av 3))) (av 1))) (λ_=>rfl))) (λ_=>rfl))))
theorem zho(T:Txt K kd mg t)(hkd:KD1 P w K kd):FnOk P w K mg base CX0 1 t.VL t.Vz ["_law_x"] (spD K kd Zm):=by
 refine wL (N:=zcB) (ps:=["_law_x"]) (k:=0) (c:=zcR) T.zcz vI λcdv A outer s H E hr=>?_
 exact(by
  refine zg ?_ ?_;exact(by refine sv true 1 vI.nd ?_;exact(zp (zq .Mod) (av 0) aI))
  refine zg ?_ ?_;exact(by refine sv true 2 vI.nd ?_;exact(ax hkd (Zw (zx (zp (zq .Add) aI (zp (zq .Mod) (zp (zq .FloorDiv) (av 0) aI) aI)) (zx (zp (zq .Add) aI (zp (zq .Mod) (zp (zq .FloorDiv) (av 0) aI) aI)) ye (za rfl)) (za rfl))) (ZK YJ rfl T.zfl Bt.int (zf (zaR (yp (hkd _ rfl rfl rfl) (yH hr) .Eq) (zp (zq .Mod) (zp (zq .FloorDiv) (av 0) aI) aI) aI (yo _)) zA (za rfl)) (Bt.n _ rfl) (by decide) rfl rfl)))
  refine zg ?_ ?_;exact(xJ (yC (yp (hkd _ rfl rfl rfl) (yH hr) .Eq) (yh .Eq) (av 1) aI (yo _)) (zr (by refine sv true 2 vI.nd ?_;exact aI)) yu)
  refine zg ?_ ?_;exact(by refine sv true 3 vI.nd ?_;exact(zp (zq .Add) aI (zp (zq .Mod) (zp (zq .FloorDiv) (av 0) aI) aI)))
  refine zg ?_ ?_;exact(xJ (yC (yp (hkd _ rfl rfl rfl) (yH hr) .Gt) (yh .Gt) (zp (zq .Mult) (av 2) (av 3)) aI (yo _)) (zr (by refine sv true 3 vI.nd ?_;exact aI)) yu)
  exact zr (zW (wA (by refine zx ?_ ?_ ?_;exact(av 1);refine zx ?_ ?_ ?_;exact(av 2);refine zx ?_ ?_ ?_;exact(zp (zq .Mod) (zp (zq .FloorDiv) (av 0) aI) aI);refine zx ?_ ?_ ?_;exact(av 3);exact ye;exact za rfl;exact za rfl;exact za rfl;exact za rfl))))
theorem zbd(T:Txt K kd mg t)(hkd:KD1 P w K kd):FnOk P w K mg base CX0 2 t.Wz t.Wl ["_law_cell","_law_many"] (spD K kd xg):=by
 refine wL (N:=zbC) (ps:=["_law_cell","_law_many"]) (k:=1) (c:=zbo) T.Wi vZ λcdv A outer s H E hr=>?_
 exact(by
  refine zg ?_ ?_;exact(by refine sv false 2 vZ.nd ?_;exact(Zw ye))
  refine zg ?_ ?_;exact(by refine sv true 3 vZ.nd ?_;exact(zp (zq .FloorDiv) (av 0) aI))
  refine zg ?_ ?_;exact(yP PassesOwn.never rfl (zX rfl T.yf (zf (av 1) zA (za rfl)) rfl) (an 4 vZ.nd) (zr (xJ (yC (yp (hkd _ rfl rfl rfl) (yH hr) .Eq) (yh .Eq) (zp (zq .Mod) (av 0) aI) aI (yo _)) (by
  refine zg ?_ ?_;exact(Xe (V8 Z1 zaP PySem.F.slot_list_append PySem.F.type_list_append (pv 2) (zx (zp (zq .Mod) (av 3) aI) ye (za rfl)) rfl rfl rfl rfl rfl) rfl)
  exact zr (by refine sv true 3 vZ.nd ?_;exact(zp (zq .FloorDiv) (av 3) aI))) (zr (Xe (V8 Z1 zaP PySem.F.slot_list_append PySem.F.type_list_append (pv 2) (zx (zV (VD T hkd) (hr.mono (by omega)) rfl T.yL T.Y8.kp T.V0 yM (zf (av 3) (zf (av 4) zA (za rfl)) (za rfl)) (by decide) rfl rfl) ye (za rfl)) rfl rfl rfl rfl rfl) rfl)))) (λ_=>rfl))
  exact zr (zW (av 2)))
theorem zeH(T:Txt K kd mg t)(hkd:KD1 P w K kd):FnOk P w K mg base CX0 3 t.Xr t.Xn ["_law_cell","_law_head","_law_many"] (spD K kd vV):=by
 refine wL (N:=vU) (ps:=["_law_cell","_law_head","_law_many"]) (k:=2) (c:=Xu) T.zaC zy λcdv A outer s H E hr=>?_
 exact(by
  refine zg ?_ ?_;exact(by refine sv true 3 zy.nd ?_;exact(zV (zbd T hkd) (hr.mono (by omega)) rfl T.xg T.Wi.kp T.zbH yM (zf (av 0) (zf (zp (zq .Add) aI (zp (zq .Mult) aI (av 2))) zA (za rfl)) (za rfl)) (by decide) rfl rfl))
  refine zg ?_ ?_;exact(by refine sv true 4 zy.nd ?_;exact(zV (zbd T hkd) (hr.mono (by omega)) rfl T.xg T.Wi.kp T.zbH yM (zf (av 1) (zf aI zA (za rfl)) (za rfl)) (by decide) rfl rfl))
  refine zg ?_ ?_;exact(zhU (zV (zho T hkd) (hr.mono (by omega)) rfl T.Zm T.zcz.kp T.zhj yM (zf (ax hkd (av 3) aI) zA (za rfl)) (by decide) rfl rfl) (WW rfl (ym (an 5 zy.nd) (ym (an 6 zy.nd) (ym (an 7 zy.nd) (ym (an 8 zy.nd) YD rfl) rfl) rfl) rfl) rfl rfl) rfl rfl rfl)
  refine zg ?_ ?_;exact(by refine sv true 9 zy.nd ?_;exact(zp (zq .Add) (zp (zq .Add) aI (zp (zq .Mod) (ax hkd (av 4) aI) aI)) (zp (zq .Mult) aI (ZK YJ rfl T.zfl Bt.int (zf (zaR (yp (hkd _ rfl rfl rfl) (yH hr) .Eq) (zp (zq .Mod) (zp (zq .FloorDiv) (ax hkd (av 4) aI) aI) aI) aI (yo _)) zA (za rfl)) (Bt.n _ rfl) (by decide) rfl rfl))))
  refine zg ?_ ?_;exact(by refine sv true 10 zy.nd ?_;exact(zp (zq .Mult) (av 6) (av 8)))
  refine zg ?_ ?_;exact(by refine sv false 11 zy.nd ?_;exact(zkg rfl rfl T.yf rfl T.zeA (zf (av 10) zA (za rfl)) rfl rfl))
  refine zg ?_ ?_;exact(by refine sv false 12 zy.nd ?_;exact(Zw ye))
  refine zg ?_ ?_;exact(yP PassesOwn.never rfl (zX rfl T.yf (zf (av 10) zA (za rfl)) rfl) (an 13 zy.nd) (zr (Xe (V8 Z1 zaP PySem.F.slot_list_append PySem.F.type_list_append (pv 12) (zx (V8 zkD zlH PySem.F.slot_list_pop PySem.F.type_list_pop (pv 11) (zx (zp (zq .Mod) (ax hkd (av 4) (zp (zq .Add) aI (av 13))) (zfG (zeO (hkd _ rfl rfl rfl)) rfl T.zkA Bt.len (zf (av 11) zA (za rfl)) (Bt.n _ rfl) (by decide) rfl rfl)) ye (za rfl)) rfl rfl rfl rfl rfl) ye (za rfl)) rfl rfl rfl rfl rfl) rfl)) (λ_=>rfl))
  refine zoa ?_
  refine zg ?_ ?_;exact(V9 (z:=false) (i:=14) (N:=["_law_a","_law_order"]) (cap:=[none,some 12]) (S:=[0]) zy.nd rfl (by exact Or.inl rfl) (by exact Or.inr rfl) rfl rfl (YT (av 12)) rfl (by change Zn _ vU _ (zu wB).names _=true;decide +kernel) (by decide) (λcl s H fp=>(an 0 zcq)) (λcl s H fp=>wD) (λcl s H fp=>(Zb (N:=["_law_b"]) (cap:=[none]) (S:=[0]) rfl (YT (av 1)) rfl (by with_unfolding_all rfl) (by decide) (λcl s H fp=>(an 0 zce)) (λcl s H fp=>wD) (λcl s H fp=>aI) (λ_=>rfl))) (λ_=>rfl))
  refine zg ?_ ?_;exact(yP PassesOwn.never rfl (zX rfl T.yf (zf (av 10) zA (za rfl)) rfl) (an 15 zy.nd) (zr (yP PassesOwn.never rfl (zX rfl T.yf (zf (av 10) zA (za rfl)) rfl) (an 16 zy.nd) (by
  refine zg ?_ ?_;exact(by refine sv true 17 zy.nd ?_;exact(zp (zq .Mult) (zV (W9 T hkd) (hr.mono (by omega)) rfl T.zR T.Yk.kp T.Ve yM (by refine zf ?_ ?_ ?_;exact(av 5);refine zf ?_ ?_ ?_;exact(av 6);refine zf ?_ ?_ ?_;exact(zp (zq .FloorDiv) (av 15) (av 8));refine zf ?_ ?_ ?_;exact(zp (zq .FloorDiv) (av 16) (av 8));exact zA;exact za rfl;exact za rfl;exact za rfl;exact za rfl) (by decide) rfl rfl) (av 8)))
  refine zg ?_ ?_;exact(by refine sv true 17 zy.nd ?_;exact(zp (zq .Add) (av 17) (zV (W9 T hkd) (hr.mono (by omega)) rfl T.zR T.Yk.kp T.Ve yM (by refine zf ?_ ?_ ?_;exact(av 7);refine zf ?_ ?_ ?_;exact(av 8);refine zf ?_ ?_ ?_;exact(zp (zq .Mod) (av 15) (av 8));refine zf ?_ ?_ ?_;exact(zp (zq .Mod) (av 16) (av 8));exact zA;exact za rfl;exact za rfl;exact za rfl;exact za rfl) (by decide) rfl rfl)))
  exact zr (zgc (pv 14) (zgM (pv 12) (ZS (pv 15)) (λ_ _=>rfl)) (λ_ _=>rfl) (zgM (pv 12) (ZS (pv 16)) (λ_ _=>rfl)) (zgM (pv 12) (ZS (pv 17)) (λ_ _=>rfl)) (λ_=>rfl) rfl rfl rfl)) (λ_=>rfl))) (λ_=>rfl))
  refine zg ?_ ?_;exact(by refine sv true 18 zy.nd ?_;exact(zV (zhp T hkd) (hr.mono (by omega)) rfl T.Zk T.zcL.kp T.zhg yM (zf (zp (zq .FloorDiv) (av 1) aI) (zf aI zA (za rfl)) (za rfl)) (by decide) rfl rfl))
  refine zg ?_ ?_;exact(by refine sv false 19 zy.nd ?_;exact(Zw ye))
  refine zg ?_ ?_;exact(yP PassesOwn.never rfl (zX rfl T.yf (zf (av 2) zA (za rfl)) rfl) (an 13 zy.nd) (by
  refine zg ?_ ?_;exact(by refine sv true 20 zy.nd ?_;exact(zV (zaJ T hkd) (hr.mono (by omega)) rfl T.xj T.Xw.kp T.zaF yM (by refine zf ?_ ?_ ?_;exact(av 5);refine zf ?_ ?_ ?_;exact(av 6);refine zf ?_ ?_ ?_;exact(av 9);refine zf ?_ ?_ ?_;exact(ax hkd (av 3) (zp (zq .Add) aI (zp (zq .Mult) aI (av 13))));exact zA;exact za rfl;exact za rfl;exact za rfl;exact za rfl) (by decide) rfl rfl))
  refine zg ?_ ?_;exact(by refine sv true 21 zy.nd ?_;exact(zV (zaJ T hkd) (hr.mono (by omega)) rfl T.xj T.Xw.kp T.zaF yM (by refine zf ?_ ?_ ?_;exact(av 7);refine zf ?_ ?_ ?_;exact(av 8);refine zf ?_ ?_ ?_;exact(av 9);refine zf ?_ ?_ ?_;exact(ax hkd (av 3) (zp (zq .Add) aI (zp (zq .Mult) aI (av 13))));exact zA;exact za rfl;exact za rfl;exact za rfl;exact za rfl) (by decide) rfl rfl))
  refine zg ?_ ?_;exact(V9 (z:=false) (i:=22) (N:=["_law_c","_law_order"]) (cap:=[none,some 12]) (S:=[0]) zy.nd rfl (by exact Or.inl rfl) (by exact Or.inr rfl) rfl rfl (Z4 rfl T.yf (zf (av 9) zA (za rfl)) rfl) rfl (by change Zn _ vU _ (zu wB).names _=true;decide +kernel) (by decide) (λcl s H fp=>(an 0 zbP)) (λcl s H fp=>wD) (λcl s H fp=>(Zb (N:=["_law_a"]) (cap:=[none]) (S:=[0]) rfl (YT (av 1)) rfl (by with_unfolding_all rfl) (by decide) (λcl s H fp=>(an 0 zcj)) (λcl s H fp=>wD) (λcl s H fp=>aI) (λ_=>rfl))) (λ_=>rfl))
  refine zg ?_ ?_;exact(yP PassesOwn.never rfl (zX rfl T.yf (zf (av 9) zA (za rfl)) rfl) (an 23 zy.nd) (zr (yP PassesOwn.never rfl (zX rfl T.yf (zf (av 10) zA (za rfl)) rfl) (an 15 zy.nd) (by
  refine zg ?_ ?_;exact(by refine sv true 17 zy.nd ?_;exact(ax hkd (ax hkd (av 20) (av 23)) (zp (zq .FloorDiv) (av 15) (av 8))))
  refine zg ?_ ?_;exact(by refine sv true 17 zy.nd ?_;exact(zp (zq .Add) (zp (zq .Mult) (av 17) (av 8)) (ax hkd (ax hkd (av 21) (av 23)) (zp (zq .Mod) (av 15) (av 8)))))
  exact zr (zgc (pv 22) (ZS (pv 23)) (λ_ _=>rfl) (zgM (pv 12) (ZS (pv 15)) (λ_ _=>rfl)) (zgM (pv 12) (ZS (pv 17)) (λ_ _=>rfl)) (λ_=>rfl) rfl rfl rfl)) (λ_=>rfl))) (λ_=>rfl))
  exact zr (Xe (V8 Z1 zaP PySem.F.slot_list_append PySem.F.type_list_append (pv 19) (by refine zx ?_ ?_ ?_;exact(wA (zx (ax hkd (av 18) (av 13)) (zx (av 22) ye (za rfl)) (za rfl)));exact ye;exact za rfl) rfl rfl rfl rfl rfl) rfl)) (λ_=>rfl))
  refine zg ?_ ?_;exact(by refine sv false 24 zy.nd ?_;exact(Zw ye))
  refine zg ?_ ?_;exact(yP PassesOwn.never rfl (zX rfl T.yf (zf aI zA (za rfl)) rfl) (an 13 zy.nd) (by
  refine zg ?_ ?_;exact(by refine sv true 25 zy.nd ?_;exact(ax hkd (av 4) (zp (zq .Add) aI (av 13))))
  refine zg ?_ ?_;exact(V9 (z:=true) (i:=26) (N:=["_law_a","_law_bits"]) (cap:=[none,some 25]) (S:=[0]) zy.nd rfl (by exact Or.inl rfl) (by exact Or.inr rfl) rfl rfl (Z4 rfl T.yf (zf (av 10) zA (za rfl)) rfl) rfl (by change Zn _ vU _ (zu wB).names _=true;decide +kernel) (by decide) (λcl s H fp=>(an 0 zcf)) (λcl s H fp=>(ziL (yC (yp (hkd _ rfl rfl rfl) (yH hr) .Eq) (yh .Eq) (zp (zq .Mod) (zp (zq .FloorDiv) (av 1) (zp znJ aI (av 0))) aI) aI (yo _)))) (λcl s H fp=>(av 0)) (λ_=>rfl))
  exact zr (Xe (V8 Z1 zaP PySem.F.slot_list_append PySem.F.type_list_append (pv 24) (by refine zx ?_ ?_ ?_;exact(wA (zx (ax hkd (av 18) (zp (zq .Add) (av 13) (zp (zq .Mult) aI (zp (zq .Mod) (zp (zq .FloorDiv) (av 25) aI) aI)))) (zx (av 26) ye (za rfl)) (za rfl)));exact ye;exact za rfl) rfl rfl rfl rfl rfl) rfl)) (λ_=>rfl))
  refine zg ?_ ?_;exact(by refine sv true 27 zy.nd ?_;exact(ax hkd (av 12) (ax hkd (Zw (zx aI (zx (av 8) ye (za rfl)) (za rfl))) (ZK YJ rfl T.zfl Bt.int (zf (zaR (yp (hkd _ rfl rfl rfl) (yH hr) .Eq) (av 5) aI (yo _)) zA (za rfl)) (Bt.n _ rfl) (by decide) rfl rfl))))
  exact zr (zW (wA (by refine zx ?_ ?_ ?_;exact(av 10);refine zx ?_ ?_ ?_;exact(av 9);refine zx ?_ ?_ ?_;exact(av 14);refine zx ?_ ?_ ?_;exact(av 27);refine zx ?_ ?_ ?_;exact(av 19);refine zx ?_ ?_ ?_;exact(zln (av 24) znz (zoZ (zp (zq .Mod) (ax hkd (av 4) aI) aI)));exact ye;exact za rfl;exact za rfl;exact za rfl;exact za rfl;exact za rfl;exact za rfl))))
theorem zdH(T:Txt K kd mg t)(hkd:KD1 P w K kd):FnOk P w K mg base CX0 1 t.zaU t.zaV ["_law_algebra_here"] (spD K kd xY):=by
 refine wL (N:=YQ) (ps:=["_law_algebra_here"]) (k:=0) (c:=zaW) T.zaT wk λcdv A outer s H E hr=>?_
 exact(by
  refine zg ?_ ?_;exact(zhU (av 0) (WW rfl (ym (an 1 wk.nd) (ym (an 2 wk.nd) (ym (an 3 wk.nd) (ym (an 4 wk.nd) (ym (an 5 wk.nd) (ym (an 6 wk.nd) YD rfl) rfl) rfl) rfl) rfl) rfl) rfl rfl) rfl rfl rfl)
  refine zg ?_ ?_;exact(V9 (z:=false) (i:=7) (N:=["_law_name","_law_table"]) (cap:=[none,none]) (S:=[0,1]) wk.nd rfl (by exact Or.inl rfl) (by exact Or.inr rfl) rfl rfl (YT (av 5)) rfl (by change Zn _ YQ _ (zu Zh).names _=true;decide +kernel) (by decide) (λcl s H fp=>(WW rfl (ym (an 0 zaA) (ym (an 1 zaA) YD rfl) rfl) rfl rfl)) (λcl s H fp=>wD) (λcl s H fp=>(wA (zx (av 0) (zx (Zb (N:=["_law_row"]) (cap:=[none]) (S:=[0]) rfl (YT (av 1)) rfl (by with_unfolding_all rfl) (by decide) (λcl s H fp=>(an 0 zeG)) (λcl s H fp=>wD) (λcl s H fp=>(ZK zam rfl T.zeA Bt.list (zf (av 0) zA (za rfl)) (Bt.n _ rfl) (by decide) rfl rfl)) (λ_=>rfl)) ye (za rfl)) (za rfl)))) (λ_=>rfl))
  refine zg ?_ ?_;exact(V9 (z:=true) (i:=8) (N:=["_law_name","_law_values"]) (cap:=[none,none]) (S:=[0,1]) wk.nd rfl (by exact Or.inl rfl) (by exact Or.inr rfl) rfl rfl (YT (av 6)) rfl (by change Zn _ YQ _ (zu Zh).names _=true;decide +kernel) (by decide) (λcl s H fp=>(WW rfl (ym (an 0 zaN) (ym (an 1 zaN) YD rfl) rfl) rfl rfl)) (λcl s H fp=>wD) (λcl s H fp=>(wA (zx (av 0) (zx (ZK zam rfl T.zeA Bt.list (zf (av 1) zA (za rfl)) (Bt.n _ rfl) (by decide) rfl rfl) ye (za rfl)) (za rfl)))) (λ_=>rfl))
  exact zr (zW (wA (by refine zx ?_ ?_ ?_;exact(av 1);refine zx ?_ ?_ ?_;exact(av 2);refine zx ?_ ?_ ?_;exact(Zb (N:=["_law_row"]) (cap:=[none]) (S:=[0]) rfl (YT (av 3)) rfl (by change Zn _ YQ _ (zu Zh).names _=true;decide +kernel) (by decide) (λcl s H fp=>(an 0 zeF)) (λcl s H fp=>wD) (λcl s H fp=>(ZK zam rfl T.zeA Bt.list (zf (av 0) zA (za rfl)) (Bt.n _ rfl) (by decide) rfl rfl)) (λ_=>rfl));refine zx ?_ ?_ ?_;exact(av 4);refine zx ?_ ?_ ?_;exact(zlC (pv 7));refine zx ?_ ?_ ?_;exact(av 8);exact ye;exact za rfl;exact za rfl;exact za rfl;exact za rfl;exact za rfl;exact za rfl))))
theorem ziw(T:Txt K kd mg t)(hkd:KD1 P w K kd):FnOk P w K mg base CX0 2 t.zaZ t.zaS ["_law_algebra_here","_law_cell"] (spD K kd Z3):=by
 refine wL (N:=zeq) (ps:=["_law_algebra_here","_law_cell"]) (k:=1) (c:=zdR) T.zdT yV λcdv A outer s H E hr=>?_
 exact(by
  refine zg ?_ ?_;exact(zqf rfl (zV (zdH T hkd) (hr.mono (by omega)) rfl T.xY T.zaT.kp T.zdy yM (zf (av 0) zA (za rfl)) (by decide) rfl rfl) (zac (Wv (i:=2) yV.nd rfl (by exact Or.inl rfl) (by exact Or.inr rfl)) (zac (Wv (i:=3) yV.nd rfl (by exact Or.inl rfl) (by exact Or.inr rfl)) (zac (Wv (i:=4) yV.nd rfl (by exact Or.inl rfl) (by exact Or.inr rfl)) (zac (Wv (i:=5) yV.nd rfl (by exact Or.inl rfl) (by exact Or.inr rfl)) (zac (Wv (i:=6) yV.nd rfl (by exact Or.inl rfl) (by exact Or.inr rfl)) (zac (Wv (i:=7) yV.nd rfl (by exact Or.inl rfl) (by exact Or.inr rfl)) zqN rfl) rfl) rfl) rfl) rfl) rfl) rfl rfl rfl rfl rfl)
  refine zg ?_ ?_;exact(by refine sv true 8 yV.nd ?_;exact(zV (VD T hkd) (hr.mono (by omega)) rfl T.yL T.Y8.kp T.V0 yM (zf (av 1) (zf aI zA (za rfl)) (za rfl)) (by decide) rfl rfl))
  refine zg ?_ ?_;exact(by refine sv true 9 yV.nd ?_;exact(zp (zq .Mod) (zp (zq .FloorDiv) (av 8) aI) (av 2)))
  refine zg ?_ ?_;exact(by refine sv true 10 yV.nd ?_;exact(zp (zq .Mod) (zp (zq .FloorDiv) (av 8) aI) (av 2)))
  refine zg ?_ ?_;exact(by refine sv true 11 yV.nd ?_;exact(zp (zq .Mod) (zp (zq .Add) (zp (zq .FloorDiv) (av 8) aI) aI) (av 2)))
  refine zg ?_ ?_;exact(xJ (yC (yp (hkd _ rfl rfl rfl) (yH hr) .Lt) (yh .Lt) (zp (zq .Mod) (av 8) aI) aI (yo _)) (zr (zgc (pv 4) (ZS (pv 9)) (λ_ _=>rfl) (ZS (pv 10)) (ZS (pv 11)) (λ_=>rfl) rfl rfl rfl)) (zr (xJ (yC (yp (hkd _ rfl rfl rfl) (yH hr) .Lt) (yh .Lt) (zp (zq .Mod) (av 8) aI) aI (yo _)) (zr (zrn (n:=1) (pv 6) (zlU (zmR (ZS (pv 8)) zlJ) (zpJ rfl T.zkA Bt.len (pv 6) rfl rfl)) (λ_ _=>rfl) zir (λ_ _=>rfl) (zlU (zmR (ZS (pv 8)) zlJ) (ZS (pv 3))) (λ_ _=>rfl) (ZS (pv 9)) (ZS (pv 11)) (λ_=>rfl) rfl rfl rfl)) (zr (by refine sv true 5 yV.nd ?_;exact(av 11))))))
  exact zr (zW (wA (by refine zx ?_ ?_ ?_;exact(av 2);refine zx ?_ ?_ ?_;exact(av 3);refine zx ?_ ?_ ?_;exact(zlC (pv 4));refine zx ?_ ?_ ?_;exact(av 5);refine zx ?_ ?_ ?_;exact(zlC (pv 6));refine zx ?_ ?_ ?_;exact(av 7);exact ye;exact za rfl;exact za rfl;exact za rfl;exact za rfl;exact za rfl;exact za rfl))))
theorem zat(T:Txt K kd mg t)(hkd:KD1 P w K kd):FnOk P w K mg base CX0 1 t.vM t.vO ["_law_n","_law_join"] (spD K kd xM):=by
 refine wL (N:=Yu) (ps:=["_law_n","_law_join"]) (k:=0) (c:=Ys) T.Yt wu λcdv A outer s H E hr=>?_
 exact(by
  refine zg ?_ ?_;exact(yP PassesOwn.never rfl (zX rfl T.yf (zf (av 0) zA (za rfl)) rfl) (an 2 wu.nd) (zr (yP PassesOwn.never rfl (zX rfl T.yf (zf (av 0) zA (za rfl)) rfl) (an 3 wu.nd) (zr (yP PassesOwn.never rfl (zX rfl T.yf (zf (av 0) zA (za rfl)) rfl) (an 4 wu.nd) (zr (xJ (yC (yp (hkd _ rfl rfl rfl) (yH hr) .NotEq) (yh .NotEq) (ax hkd (ax hkd (av 1) (ax hkd (ax hkd (av 1) (av 2)) (av 3))) (av 4)) (ax hkd (ax hkd (av 1) (av 2)) (ax hkd (ax hkd (av 1) (av 3)) (av 4))) (yo _)) (zr (zW (wA (by refine zx ?_ ?_ ?_;exact aS;refine zx ?_ ?_ ?_;exact(av 2);refine zx ?_ ?_ ?_;exact(av 3);refine zx ?_ ?_ ?_;exact(av 4);exact ye;exact za rfl;exact za rfl;exact za rfl;exact za rfl)))) yu)) (λ_=>rfl))) (λ_=>rfl))) (λ_=>rfl))
  exact zr (zW aZ))
theorem zbD(T:Txt K kd mg t)(hkd:KD1 P w K kd):FnOk P w K mg base CX0 1 t.Zo t.Zu ["_law_n","_law_m","_law_join","_law_name","_law_rows"] (spD K kd xx):=by
 refine wL (N:=Xj) (ps:=["_law_n","_law_m","_law_join","_law_name","_law_rows"]) (k:=0) (c:=Xc) T.Xk yZ λcdv A outer s H E hr=>?_
 exact(by
  refine zg ?_ ?_;exact(yP PassesOwn.never rfl (zX rfl T.yf (zf (av 0) zA (za rfl)) rfl) (an 5 yZ.nd) (zr (yP PassesOwn.never rfl (zX rfl T.yf (zf (av 1) zA (za rfl)) rfl) (an 6 yZ.nd) (zr (yP PassesOwn.never rfl (zX rfl T.yf (zf (av 0) zA (za rfl)) rfl) (an 7 yZ.nd) (zr (yP PassesOwn.never rfl (zX rfl T.yf (zf (av 1) zA (za rfl)) rfl) (an 8 yZ.nd) (by
  refine zg ?_ ?_;exact(by refine sv true 9 yZ.nd ?_;exact(ax hkd (ax hkd (av 4) (zp (zq .Mod) (zp (zq .Add) (av 6) (av 8)) (av 1))) (ax hkd (ax hkd (av 2) (av 5)) (av 7))))
  exact zr (xJ (yC (yp (hkd _ rfl rfl rfl) (yH hr) .NotEq) (yh .NotEq) (av 9) (ax hkd (ax hkd (av 2) (ax hkd (ax hkd (av 4) (av 6)) (av 5))) (ax hkd (ax hkd (av 4) (av 8)) (av 7))) (yo _)) (zr (zW (wA (by refine zx ?_ ?_ ?_;exact aS;refine zx ?_ ?_ ?_;exact(av 3);refine zx ?_ ?_ ?_;exact(av 5);refine zx ?_ ?_ ?_;exact(av 6);refine zx ?_ ?_ ?_;exact(av 7);refine zx ?_ ?_ ?_;exact(av 8);exact ye;exact za rfl;exact za rfl;exact za rfl;exact za rfl;exact za rfl;exact za rfl)))) yu)) (λ_=>rfl))) (λ_=>rfl))) (λ_=>rfl))) (λ_=>rfl))
  exact zr (zW aZ))
theorem zeP(T:Txt K kd mg t)(hkd:KD1 P w K kd):FnOk P w K mg base CX0 2 t.zct t.zbL ["_law_algebra_here"] (spD K kd vJ):=by
 refine wL (N:=zfb) (ps:=["_law_algebra_here"]) (k:=1) (c:=zfd) T.zcp yW λcdv A outer s H E hr=>?_
 exact(by
  refine zg ?_ ?_;exact(zhU (av 0) (WW rfl (ym (an 1 yW.nd) (ym (an 2 yW.nd) (ym (an 3 yW.nd) (ym (an 4 yW.nd) (ym (an 5 yW.nd) (ym (an 6 yW.nd) YD rfl) rfl) rfl) rfl) rfl) rfl) rfl rfl) rfl rfl rfl)
  refine zg ?_ ?_;exact(yP PassesOwn.never rfl (zX rfl T.yf (zf (av 1) zA (za rfl)) rfl) (an 7 yW.nd) (zr (xJ (AW.at_ (zaG (yC (yp (hkd _ rfl rfl rfl) (yH hr) .NotEq) (yh .NotEq) (ax hkd (ax hkd (av 3) (av 4)) (av 7)) (av 7) (yo _)) (YH (yC (yp (hkd _ rfl rfl rfl) (yH hr) .NotEq) (yh .NotEq) (ax hkd (ax hkd (av 3) (av 7)) (av 4)) (av 7) (yo _))))) (zr (zW (wA (zx aS (zx (av 7) ye (za rfl)) (za rfl))))) yu)) (λ_=>rfl))
  refine zg ?_ ?_;exact(by refine sv true 8 yW.nd ?_;exact(zV (zat T hkd) (hr.mono (by omega)) rfl T.xM T.Yt.kp T.zas yM (zf (av 1) (zf (av 3) zA (za rfl)) (za rfl)) (by decide) rfl rfl))
  refine zg ?_ ?_;exact(yP PassesOwn.never rfl (zkN (av 5)) (WW rfl (ym (an 9 yW.nd) (ym (an 10 yW.nd) YD rfl) rfl) rfl rfl) (by
  refine zg ?_ ?_;exact(xJ (AW.at_ (zlZ (yC (yp (hkd _ rfl rfl rfl) (yH hr) .Is) (yh .Is) (av 8) aZ (yo _)) (zew (yC (yp (hkd _ rfl rfl rfl) (yH hr) .NotEq) (yh .NotEq) (ax hkd (ax hkd (av 10) aI) (av 4)) (av 4) (yo _))))) (zr (by refine sv true 8 yW.nd ?_;exact(wA (zx aS (zx (av 9) ye (za rfl)) (za rfl))))) yu)
  exact zr (xJ (yC (yp (hkd _ rfl rfl rfl) (yH hr) .Is) (yh .Is) (av 8) aZ (yo _)) (zr (by refine sv true 8 yW.nd ?_;exact(zV (zbD T hkd) (hr.mono (by omega)) rfl T.xx T.Xk.kp T.zbF yM (by refine zf ?_ ?_ ?_;exact(av 1);refine zf ?_ ?_ ?_;exact(av 2);refine zf ?_ ?_ ?_;exact(av 3);refine zf ?_ ?_ ?_;exact(av 9);refine zf ?_ ?_ ?_;exact(av 10);exact zA;exact za rfl;exact za rfl;exact za rfl;exact za rfl;exact za rfl) (by decide) rfl rfl))) yu)) (λ_=>rfl))
  exact zr (zW (av 8)))
theorem zht(T:Txt K kd mg t)(hkd:KD1 P w K kd):FnQ P w K mg base 1 t.V6 t.V2 ["_law_e"] (spD K kd vq):=by
 refine zqG (N:=zcu) (ps:=["_law_e"]) (k:=0) (c:=zcJ) T.zcC zgx λcdv A outer s H E hr=>?_
 exact(by
  refine zg ?_ ?_;exact(xJ (AW.at_ (zaG (ZQ (XD (w:=.ref _) (cv:=.ref _) T.xq T.xi (λ_ z=>z) T.k1_NoDeed rfl T.yz Bt.isinstance (av 0) (Wm rfl T.zmx) (Bt.n _ rfl) (by decide) rfl rfl rfl) (λ_=>rfl)) (zaG (ZQ (XD (w:=.ref _) (cv:=.ref _) T.xq T.xi (λ_ z=>z) T.k1_NoMake rfl T.yz Bt.isinstance (av 0) (Wm rfl T.zlY) (Bt.n _ rfl) (by decide) rfl rfl rfl) (λ_=>rfl)) (zaG (ZQ (XD (w:=.ref _) (cv:=.ref _) T.xq T.xi (λ_ z=>z) T.k1_NoRow rfl T.yz Bt.isinstance (av 0) (Wm rfl T.zow) (Bt.n _ rfl) (by decide) rfl rfl rfl) (λ_=>rfl)) (YH (ZQ (XD (w:=.ref _) (cv:=.ref _) T.xq T.xi (λ_ z=>z) T.k1_NoSign rfl T.yz Bt.isinstance (av 0) (Wm rfl T.znj) (Bt.n _ rfl) (by decide) rfl rfl rfl) (λ_=>rfl))))))) (zr (zW aB)) yu)
  refine zg ?_ ?_;exact(xJ (AW.at_ (zaG (ZQ (XD (w:=.ref _) (cv:=.ref _) T.xq T.xi (λ_ z=>z) T.k1_NoStretch rfl T.yz Bt.isinstance (av 0) (Wm rfl T.zgT) (Bt.n _ rfl) (by decide) rfl rfl rfl) (λ_=>rfl)) (zaG (ZQ (XD (w:=.ref _) (cv:=.ref _) T.xq T.xi (λ_ z=>z) T.k1_NoText rfl T.yz Bt.isinstance (av 0) (Wm rfl T.zkG) (Bt.n _ rfl) (by decide) rfl rfl rfl) (λ_=>rfl)) (zaG (ZQ (XD (w:=.ref _) (cv:=.ref _) T.xq T.xi (λ_ z=>z) T.k1_NoValue rfl T.yz Bt.isinstance (av 0) (Wm rfl T.zkf) (Bt.n _ rfl) (by decide) rfl rfl rfl) (λ_=>rfl)) (YH (ZQ (XD (w:=.ref _) (cv:=.ref _) T.xq T.xi (λ_ z=>z) T.k1_TooGreat rfl T.yz Bt.isinstance (av 0) (Wm rfl T.zhW) (Bt.n _ rfl) (by decide) rfl rfl rfl) (λ_=>rfl))))))) (zr (zW aB)) yu)
  exact zr (zW (zmI (XD (w:=.ref _) (cv:=.ref _) T.xq T.xi (λ_ z=>z) T.k1_NotLetBy rfl T.yz Bt.isinstance (av 0) (Wm rfl T.zdL) (Bt.n _ rfl) (by decide) rfl rfl rfl) (zkM (XD (w:=.ty "ValueError") (cv:=.type "ValueError") T.xq T.xi (λ_ z=>z) T.k1_ValueError rfl T.yz Bt.isinstance (av 0) (zjK (v:=.ty "ValueError") rfl T.zgs PyProof.Rows.Boot.«ValueError» rfl (Bt.n _ rfl) (by decide)) (Bt.n _ rfl) (by decide) rfl rfl rfl)))))
theorem zcZ(T:Txt K kd mg t)(hkd:KD1 P w K kd)(c:Str):FnOk P w K mg base CX0 5 t.v8 t.v7 ["self","algebra"] (spI K kd c (yU c)):=by
 refine zqQ (N:=wW) (ps:=["self","algebra"]) (k:=4) (b:=Zf) T.Vc X3 (by decide) λcdv A outer s H E hr=>?_
 exact(XR (znA (zV (zdU T hkd) (hr.mono (by omega)) rfl T.yJ T.ZV.kp T.VR yM (zf (av 1) zA (za rfl)) (by decide) rfl rfl) rfl) (XR (zah (zqC T) (pv 0) (ax hkd (av 1) aI) rfl) (XR (zah (zmD T) (pv 0) (ax hkd (av 1) aI) rfl) (XR (zah (znP T) (pv 0) (zV (zlu T hkd) (hr.mono (by omega)) rfl T.VP T.ziy.kp T.znn yM (zf (ax hkd (av 1) aI) zA (za rfl)) (by decide) rfl rfl) rfl) (XR (zah (zku T) (pv 0) (ax hkd (av 1) aI) rfl) (XR (zah (znW T) (pv 0) (ZK (zek rfl (hkd _ rfl rfl rfl)) rfl T.zkE Bt.dict (zf (Zb (N:=["name","rows"]) (cap:=[none,none]) (S:=[0,1]) rfl (YT (ax hkd (av 1) aI)) rfl (by change Zn _ wW _ (zu wg).names _=true;decide +kernel) (by decide) (λcl s H fp=>(WW rfl (ym (an 0 YW) (ym (an 1 YW) YD rfl) rfl) rfl rfl)) (λcl s H fp=>wD) (λcl s H fp=>(wA (zx (av 0) (zx (zV (zlu T hkd) (hr.mono (by omega)) rfl T.VP T.ziy.kp T.znn yM (zf (av 1) zA (za rfl)) (by decide) rfl rfl) ye (za rfl)) (za rfl)))) (λ_=>rfl)) zA (za rfl)) (Bt.n _ rfl) (by decide) rfl rfl) rfl) (zoX (zah (zka T) (pv 0) (ZK (zek rfl (hkd _ rfl rfl rfl)) rfl T.zkE Bt.dict (zf (Zb (N:=["name","values"]) (cap:=[none,none]) (S:=[0,1]) rfl (YT (ax hkd (av 1) aI)) rfl (by change Zn _ wW _ (zu wg).names _=true;decide +kernel) (by decide) (λcl s H fp=>(WW rfl (ym (an 0 YX) (ym (an 1 YX) YD rfl) rfl) rfl rfl)) (λcl s H fp=>wD) (λcl s H fp=>(wA (zx (av 0) (zx (ZK zbW rfl T.zdd Bt.tuple (zf (av 1) zA (za rfl)) (Bt.n _ rfl) (by decide) rfl rfl) ye (za rfl)) (za rfl)))) (λ_=>rfl)) zA (za rfl)) (Bt.n _ rfl) (by decide) rfl rfl) rfl))))))))
theorem zcY(T:Txt K kd mg t)(hkd:KD1 P w K kd)(c:Str):FnOk P w K mg base (CX1 P w t.yj "what") 5 t.v8 t.v7 ["self","algebra"] (zog K kd c (xZ c)):=by
 refine zqY (N:=wW) (ps:=["self","algebra"]) (k:=4) T.Vc X3 (by decide) λcdv A outer s H E hr=>?_
 exact(zgG (zjh (zlA (zee T hkd) (hr.mono (by omega)) rfl T.yJ T.ZV.kp T.VR rfl (zf (av 1) zA (za rfl)) (by decide) rfl rfl) rfl))
theorem ziu(T:Txt K kd mg t)(hkd:KD1 P w K kd):FnOk P w K mg base CX0 7 t.zba t.zaX ["_law_algebra_here"] (spD K kd YS):=by
 refine wL (N:=zds) (ps:=["_law_algebra_here"]) (k:=6) (c:=zdx) T.zdN Yg λcdv A outer s H E hr=>?_
 exact(by
  refine zg ?_ ?_;exact(by refine sv true 1 Yg.nd ?_;exact(wA (zx aS ye (za rfl))))
  refine zg ?_ ?_;exact(zqP (j:=2) T.xq (zr (Xe (znL T.Yn.eq (T.Yn.mk' T.Vb) (zcZ T hkd "Ways") (hr.mono (by omega)) rfl T.Yn.mg T.W3 yM (zf (av 0) zA (za rfl)) (by decide) rfl rfl) rfl)) (λ_ _=>(zgG (zjh (zkW T.Yn.eq (T.Yn.mk' T.Vb) (zcY T hkd "Ways") (hr.mono (by omega)) rfl T.Yn.mg T.W3 rfl (zf (av 0) zA (za rfl)) (by decide) rfl rfl) rfl))) rfl T.VV (by decide) T.xm (λ_ _ z=>z) rfl rfl Yg.nd rfl rfl (by first|exact Or.inl rfl|exact Or.inr rfl) λe=>(by
  refine zg ?_ ?_;exact(by refine sv true 1 Yg.nd ?_;exact(wA (zx aS ye (za rfl))))
  exact zr (xJ (ZQ (zmZ (zht T hkd) (zqy (roomQ hr (by omega))) rfl T.vq T.zcC.kp T.zgK (zf (av 2) zA (za rfl)) (by decide) rfl rfl) (λ_=>rfl)) (zr (by refine sv true 1 Yg.nd ?_;exact(zqw T.xq T.xi (av 2) rfl))) yu)))
  exact zr (zW (av 1)))
theorem VF(T:Txt K kd mg t)(hkd:KD1 P w K kd):FnOk P w K mg base CX0 8 t.Vn t.Vp ["_law_algebra_here"] (spD K kd yG):=by
 refine wL (N:=Vs) (ps:=["_law_algebra_here"]) (k:=7) (c:=zcI) T.Xd Yw λcdv A outer s H E hr=>?_
 exact(by
  refine zg ?_ ?_;exact(by refine sv true 1 Yw.nd ?_;exact(zV (zeP T hkd) (hr.mono (by omega)) rfl T.vJ T.zcp.kp T.zfr yM (zf (av 0) zA (za rfl)) (by decide) rfl rfl))
  refine zg ?_ ?_;exact(by refine sv true 2 Yw.nd ?_;exact(zV (zdH T hkd) (hr.mono (by omega)) rfl T.xY T.zaT.kp T.zdy yM (zf (av 0) zA (za rfl)) (by decide) rfl rfl))
  refine zg ?_ ?_;exact(by refine sv true 3 Yw.nd ?_;exact(zV (ziu T hkd) (hr.mono (by omega)) rfl T.YS T.zdN.kp T.ziE yM (zf (av 2) zA (za rfl)) (by decide) rfl rfl))
  refine zg ?_ ?_;exact(xJ (yC (yp (hkd _ rfl rfl rfl) (yH hr) .NotEq) (yh .NotEq) (av 2) (av 0) (yo _)) (zr (zW aB)) yu)
  refine zg ?_ ?_;exact(xJ (yC (yp (hkd _ rfl rfl rfl) (yH hr) .Is) (yh .Is) (av 1) aZ (yo _)) (zr (zW (zaR (yp (hkd _ rfl rfl rfl) (yH hr) .Eq) (av 3) (wA (zx aS ye (za rfl))) (yo _)))) yu)
  refine zg ?_ ?_;exact(xJ (AW.at_ (zaG (zdt (ZQ (zfx (hkd _ rfl rfl rfl) rfl rfl T.yz Bt.isinstance rfl T.zdd Bt.tuple (av 3) (Bt.n _ rfl) (by decide) (Bt.n _ rfl) (by decide) rfl rfl rfl) (λ_=>rfl))) (YH (yC (yp (hkd _ rfl rfl rfl) (yH hr) .NotEq) (yh .NotEq) (av 3) (av 1) (yo _))))) (zr (zW aB)) yu)
  exact zr (zW (zaR (yp (hkd _ rfl rfl rfl) (yH hr) .Eq) (Zb (N:=["_law_part"]) (cap:=[none]) (S:=[0]) rfl (YT (av 3)) rfl (by change Zn _ Vs _ (zu Yd).names _=true;decide +kernel) (by decide) (λcl s H fp=>(an 0 zdu)) (λcl s H fp=>(ziL (AW.at_ (zlZ (zdt (ZQ (zV (zgH T hkd) (hr.mono (by omega)) rfl T.vD T.zcN.kp T.zhC yM (zf (av 0) zA (za rfl)) (by decide) rfl rfl) (λ_=>rfl))) (zew (zdt (ZQ (zfx (hkd _ rfl rfl rfl) rfl rfl T.yz Bt.isinstance rfl T.zsx Bt.str (av 0) (Bt.n _ rfl) (by decide) (Bt.n _ rfl) (by decide) rfl rfl rfl) (λ_=>rfl)))))))) (λcl s H fp=>(av 0)) (λ_=>rfl)) (Zw ye) (yo _))))
theorem o_law(T:Txt K kd mg t)(hkd:KD1 P w K kd):FnOk P w K mg base CX0 9 t.zkP t.znf ["_law_script"] (spD K kd zdS):=by
 refine wL (N:=zph) (ps:=["_law_script"]) (k:=8) (c:=zpj) T.zrD zdQ λcdv A outer s H E hr=>?_
 exact(by
  refine zg ?_ ?_;exact(by refine sv true 1 zdQ.nd ?_;exact(zV (zeH T hkd) (hr.mono (by omega)) rfl T.vV T.zaC.kp T.zeJ yM (by refine zf ?_ ?_ ?_;exact(zV (vY T hkd) (hr.mono (by omega)) rfl T.zY T.wY.kp T.vW yM (zf (av 0) (zf aI zA (za rfl)) (za rfl)) (by decide) rfl rfl);refine zf ?_ ?_ ?_;exact(zV (vY T hkd) (hr.mono (by omega)) rfl T.zY T.wY.kp T.vW yM (zf (av 0) (zf aI zA (za rfl)) (za rfl)) (by decide) rfl rfl);refine zf ?_ ?_ ?_;exact(zp (zq .Add) aI (zp (zq .Mod) (zV (vY T hkd) (hr.mono (by omega)) rfl T.zY T.wY.kp T.vW yM (zf (av 0) (zf aI zA (za rfl)) (za rfl)) (by decide) rfl rfl) aI));exact zA;exact za rfl;exact za rfl;exact za rfl) (by decide) rfl rfl))
  refine zg ?_ ?_;exact(xJ (AW.at_ (zaG (yC (yp (hkd _ rfl rfl rfl) (yH hr) .IsNot) (yh .IsNot) (zV (zeP T hkd) (hr.mono (by omega)) rfl T.vJ T.zcp.kp T.zfr yM (zf (av 1) zA (za rfl)) (by decide) rfl rfl) aZ (yo _)) (YH (zdt (ZQ (zV (VF T hkd) (hr.mono (by omega)) rfl T.yG T.Xd.kp T.Vr yM (zf (av 1) zA (za rfl)) (by decide) rfl rfl) (λ_=>rfl)))))) (zr (zW aB)) yu)
  refine zg ?_ ?_;exact(by refine sv true 2 zdQ.nd ?_;exact(av 1))
  refine zg ?_ ?_;exact(yP PassesOwn.never rfl (zX rfl T.yf (zf (zp (zq .Add) aI (zp (zq .Mod) (zp (zq .FloorDiv) (zV (vY T hkd) (hr.mono (by omega)) rfl T.zY T.wY.kp T.vW yM (zf (av 0) (zf aI zA (za rfl)) (za rfl)) (by decide) rfl rfl) aI) aI)) zA (za rfl)) rfl) (an 3 zdQ.nd) (by
  refine zg ?_ ?_;exact(by refine sv true 2 zdQ.nd ?_;exact(zV (ziw T hkd) (hr.mono (by omega)) rfl T.Z3 T.zdT.kp T.zhR yM (zf (av 2) (zf (zV (vY T hkd) (hr.mono (by omega)) rfl T.zY T.wY.kp T.vW yM (zf (av 0) (zf (zp (zq .Add) aI (av 3)) zA (za rfl)) (za rfl)) (by decide) rfl rfl) zA (za rfl)) (za rfl)) (by decide) rfl rfl))
  exact zr (xJ (zdt (ZQ (zV (VF T hkd) (hr.mono (by omega)) rfl T.yG T.Xd.kp T.Vr yM (zf (av 2) zA (za rfl)) (by decide) rfl rfl) (λ_=>rfl))) (zr (zW aB)) yu)) (λ_=>rfl))
  exact zr (zW (zV (VF T hkd) (hr.mono (by omega)) rfl T.yG T.Xd.kp T.Vr yM (zf (av 1) zA (za rfl)) (by decide) rfl rfl)))
end
abbrev NsR(K:zC)(x:Str)(f:Addr):Prop:=PySem.W.nsIn K mainGlobals x=some (some (.ref f))
abbrev FnAt(K:zC)(x q:Str)(s:Stmt)(f:Addr):Prop:=∃d,Fun K x q s f d
theorem zqp{l:PySem.W.OpenLaw}{w:World}{K:zC}{h:Heap}{mg:Str->Option Value}{fa:Addr}(X:K.In h)(G:h.Ns mainGlobals mg)(hfa:mg "law"=some (.ref fa))
 {f0 f1 f2 f3 f4 f5 f6 f7 f8 f9 f10 f11 f12 f13 f14 f15 f16 f17 f18 f19 f20 f21 f22 f23 f24 f25 f26 f27 f28 C0 C1 C2 C3 C4 C5 C6 C7 C8 C9 C10:Addr}
 (aC0:PySem.W.nsIn K mainGlobals "Ways"=some (some (.ref C0)))
 (aC1:PySem.W.nsIn K mainGlobals "NotLetBy"=some (some (.ref C1)))
 (aC2:PySem.W.nsIn K mainGlobals "NoDeed"=some (some (.ref C2)))
 (aC3:PySem.W.nsIn K mainGlobals "NoMake"=some (some (.ref C3)))
 (aC4:PySem.W.nsIn K mainGlobals "NoRow"=some (some (.ref C4)))
 (aC5:PySem.W.nsIn K mainGlobals "NoSign"=some (some (.ref C5)))
 (aC6:PySem.W.nsIn K mainGlobals "NoStretch"=some (some (.ref C6)))
 (aC7:PySem.W.nsIn K mainGlobals "NoText"=some (some (.ref C7)))
 (aC8:PySem.W.nsIn K mainGlobals "NoValue"=some (some (.ref C8)))
 (aC9:PySem.W.nsIn K mainGlobals "StretchError"=some (some (.ref C9)))
 (aC10:PySem.W.nsIn K mainGlobals "TooGreat"=some (some (.ref C10)))
 (xf:PySem.W.findIn K (.ref C1) "__init__"=some (some (.ref f5)))
 (xc:XC K C1 C9 f5 "what")
 (xs:XS K C9)
 (xi:XI K C1 "what")
 (xk:PySem.W.keepIn K (.ref C1)=true)
 (xm:PySem.W.exmOne K (.ref C1) (.ref C9)=some true)
 (k1_NoDeed:PySem.W.kitOne K (.ref C1) (.ref C2)=some false)
 (k1_NoMake:PySem.W.kitOne K (.ref C1) (.ref C3)=some false)
 (k1_NoRow:PySem.W.kitOne K (.ref C1) (.ref C4)=some false)
 (k1_NoSign:PySem.W.kitOne K (.ref C1) (.ref C5)=some false)
 (k1_NoStretch:PySem.W.kitOne K (.ref C1) (.ref C6)=some false)
 (k1_NoText:PySem.W.kitOne K (.ref C1) (.ref C7)=some false)
 (k1_NoValue:PySem.W.kitOne K (.ref C1) (.ref C8)=some false)
 (k1_NotLetBy:PySem.W.kitOne K (.ref C1) (.ref C1)=some true)
 (k1_TooGreat:PySem.W.kitOne K (.ref C1) (.ref C10)=some false)
 (k1_ValueError:PySem.W.kitOne K (.ref C1) (.type "ValueError")=some true)
 (e0:PySem.W.findIn K (.ref C0) "__init__"=some (some (.ref f25))) (ei0:PySem.W.isFn K (.ref f25)=true) (ek0:PySem.W.keepIn K (.ref f25)=true)
 (pg0:PySem.W.plainGet K C0 Str.empty=true) (hd0:PySem.W.hasDictIn K C0=true) (po0:PySem.W.plainOver K C0=true) (sa0:PySem.W.findIn K (.ref C0) "__setattr__"=some (some (.builtin "object.__setattr__"))) (mk0:PySem.W.makesIn K C0=true) (kc0:PySem.W.keepIn K (.ref C0)=true)
 (na0:PySem.W.findIn K (.ref C0) "size"=some none)
 (na1:PySem.W.findIn K (.ref C0) "around"=some none)
 (na2:PySem.W.findIn K (.ref C0) "table"=some none)
 (na3:PySem.W.findIn K (.ref C0) "neutral"=some none)
 (na4:PySem.W.findIn K (.ref C0) "waits"=some none)
 (na5:PySem.W.findIn K (.ref C0) "holders"=some none)
 (a0:NsR K "nothing_fails" f0) (l0:FnAt K "nothing_fails" "nothing_fails" v9 f0)
 (a1:NsR K "parting_fails" f1) (l1:FnAt K "parting_fails" "parting_fails" Ze f1)
 (a2:NsR K "doing_fails" f2) (l2:FnAt K "doing_fails" "doing_fails" Z8 f2)
 (a3:NsR K "deeds_fail" f3) (l3:FnAt K "deeds_fail" "deeds_fail" YB f3)
 (a4:NsR K "what_fails" f4) (l4:FnAt K "what_fails" "what_fails" Yy f4)
 (l5:FnAt K "__init__" "NotLetBy.__init__" wI f5)
 (a6:NsR K "check_let_by" f6) (l6:FnAt K "check_let_by" "check_let_by" ZF f6)
 (a7:NsR K "firm" f7) (l7:FnAt K "firm" "firm" zdM f7)
 (a8:NsR K "_law_cell_at" f8) (l8:FnAt K "_law_cell_at" "_law_cell_at" Z5 f8)
 (a9:NsR K "_law_mixed" f9) (l9:FnAt K "_law_mixed" "_law_mixed" Xb f9)
 (a10:NsR K "_law_whole" f10) (l10:FnAt K "_law_whole" "_law_whole" Xh f10)
 (a11:NsR K "_law_words" f11) (l11:FnAt K "_law_words" "_law_words" Z9 f11)
 (a12:NsR K "_law_common" f12) (l12:FnAt K "_law_common" "_law_common" Yv f12)
 (a13:NsR K "_law_joined_by" f13) (l13:FnAt K "_law_joined_by" "_law_joined_by" Zc f13)
 (a14:NsR K "_law_images" f14) (l14:FnAt K "_law_images" "_law_images" ZJ f14)
 (a15:NsR K "_law_done_by" f15) (l15:FnAt K "_law_done_by" "_law_done_by" wZ f15)
 (a16:NsR K "_law_kinds" f16) (l16:FnAt K "_law_kinds" "_law_kinds" Xi f16)
 (a17:NsR K "_law_stream" f17) (l17:FnAt K "_law_stream" "_law_stream" Yz f17)
 (a18:NsR K "_law_algebra" f18) (l18:FnAt K "_law_algebra" "_law_algebra" wB f18)
 (a19:NsR K "_law_copy" f19) (l19:FnAt K "_law_copy" "_law_copy" Zh f19)
 (a20:NsR K "_law_bent" f20) (l20:FnAt K "_law_bent" "_law_bent" WR f20)
 (a21:NsR K "_law_first_parting" f21) (l21:FnAt K "_law_first_parting" "_law_first_parting" wF f21)
 (a22:NsR K "_law_first_doing" f22) (l22:FnAt K "_law_first_doing" "_law_first_doing" vh f22)
 (a23:NsR K "_law_due" f23) (l23:FnAt K "_law_due" "_law_due" zaj f23)
 (a24:NsR K "_law_alone" f24) (l24:FnAt K "_law_alone" "_law_alone" Xa f24)
 (l25:FnAt K "__init__" "Ways.__init__" wg f25)
 (a26:NsR K "_law_told" f26) (l26:FnAt K "_law_told" "_law_told" WF f26)
 (a27:NsR K "_law_right" f27) (l27:FnAt K "_law_right" "_law_right" Yd f27)
 (a28:NsR K "law" f28) (l28:FnAt K "law" "law" zju f28)
 (z0:PySem.W.nsIn K mainGlobals "ValueError"=some none) (z1:PySem.W.nsIn K mainGlobals "bool"=some none) (z2:PySem.W.nsIn K mainGlobals "dict"=some none) (z3:PySem.W.nsIn K mainGlobals "int"=some none) (z4:PySem.W.nsIn K mainGlobals "isinstance"=some none) (z5:PySem.W.nsIn K mainGlobals "len"=some none) (z6:PySem.W.nsIn K mainGlobals "list"=some none) (z7:PySem.W.nsIn K mainGlobals "max"=some none) (z8:PySem.W.nsIn K mainGlobals "range"=some none) (z9:PySem.W.nsIn K mainGlobals "sorted"=some none) (z10:PySem.W.nsIn K mainGlobals "str"=some none) (z11:PySem.W.nsIn K mainGlobals "tuple"=some none):
 ∃fd:FuncData,(∀(s:Shared) (v:Value),BindsTo s fd ⟨[v],[]⟩ [("_law_script",v)])/\∀base:Heap,K.In base->base.Ns mainGlobals mg->FnOk l.prog w K mg base CX0 9 fa fd ["_law_script"] (spL K zdS):=by
 have e:=hfa.symm.trans (PySem.W.mg_of X G a28)
 cases e
 obtain⟨_,F0⟩:=l0
 have b0:=F0.binds (ps:=["algebra"]) λ_ _ _ _ _ _=>l1_ λ_=>rfl
 obtain⟨_,F1⟩:=l1
 have b1:=F1.binds (ps:=["algebra"]) λ_ _ _ _ _ _=>l1_ λ_=>rfl
 obtain⟨_,F2⟩:=l2
 have b2:=F2.binds (ps:=["algebra","name","rows"]) λ_ _ _ _ _ _=>l3_ λ_ _ _=>rfl
 obtain⟨_,F3⟩:=l3
 have b3:=F3.binds (ps:=["algebra"]) λ_ _ _ _ _ _=>l1_ λ_=>rfl
 obtain⟨_,F4⟩:=l4
 have b4:=F4.binds (ps:=["algebra"]) λ_ _ _ _ _ _=>l1_ λ_=>rfl
 obtain⟨_,F5⟩:=l5
 have b5:=F5.binds (ps:=["self","what"]) λ_ _ _ _ _ _=>l2_ λ_ _=>rfl
 obtain⟨_,F6⟩:=l6
 have b6:=F6.binds (ps:=["algebra"]) λ_ _ _ _ _ _=>l1_ λ_=>rfl
 obtain⟨_,F7⟩:=l7
 have b7:=F7.binds (ps:=["rows"]) λ_ _ _ _ _ _=>l1_ λ_=>rfl
 obtain⟨_,F8⟩:=l8
 have b8:=F8.binds (ps:=["_law_script","_law_k"]) λ_ _ _ _ _ _=>l2_ λ_ _=>rfl
 obtain⟨_,F9⟩:=l9
 have b9:=F9.binds (ps:=["_law_cell","_law_k"]) λ_ _ _ _ _ _=>l2_ λ_ _=>rfl
 obtain⟨_,F10⟩:=l10
 have b10:=F10.binds (ps:=["_law_found"]) λ_ _ _ _ _ _=>l1_ λ_=>rfl
 obtain⟨_,F11⟩:=l11
 have b11:=F11.binds (ps:=["_law_cell","_law_many"]) λ_ _ _ _ _ _=>l2_ λ_ _=>rfl
 obtain⟨_,F12⟩:=l12
 have b12:=F12.binds (ps:=["_law_n","_law_m"]) λ_ _ _ _ _ _=>l2_ λ_ _=>rfl
 obtain⟨_,F13⟩:=l13
 have b13:=F13.binds (ps:=["_law_kind","_law_n","_law_a","_law_b"]) λ_ _ _ _ _ _=>l4_ λ_ _ _ _=>rfl
 obtain⟨_,F14⟩:=l14
 have b14:=F14.binds (ps:=["_law_kind","_law_n","_law_x"]) λ_ _ _ _ _ _=>l3_ λ_ _ _=>rfl
 obtain⟨_,F15⟩:=l15
 have b15:=F15.binds (ps:=["_law_kind","_law_n","_law_m","_law_x"]) λ_ _ _ _ _ _=>l4_ λ_ _ _ _=>rfl
 obtain⟨_,F16⟩:=l16
 have b16:=F16.binds (ps:=["_law_x"]) λ_ _ _ _ _ _=>l1_ λ_=>rfl
 obtain⟨_,F17⟩:=l17
 have b17:=F17.binds (ps:=["_law_cell","_law_many"]) λ_ _ _ _ _ _=>l2_ λ_ _=>rfl
 obtain⟨_,F18⟩:=l18
 have b18:=F18.binds (ps:=["_law_cell","_law_head","_law_many"]) λ_ _ _ _ _ _=>l3_ λ_ _ _=>rfl
 obtain⟨_,F19⟩:=l19
 have b19:=F19.binds (ps:=["_law_algebra_here"]) λ_ _ _ _ _ _=>l1_ λ_=>rfl
 obtain⟨_,F20⟩:=l20
 have b20:=F20.binds (ps:=["_law_algebra_here","_law_cell"]) λ_ _ _ _ _ _=>l2_ λ_ _=>rfl
 obtain⟨_,F21⟩:=l21
 have b21:=F21.binds (ps:=["_law_n","_law_join"]) λ_ _ _ _ _ _=>l2_ λ_ _=>rfl
 obtain⟨_,F22⟩:=l22
 have b22:=F22.binds (ps:=["_law_n","_law_m","_law_join","_law_name","_law_rows"]) λ_ _ _ _ _ _=>l5_ λ_ _ _ _ _=>rfl
 obtain⟨_,F23⟩:=l23
 have b23:=F23.binds (ps:=["_law_algebra_here"]) λ_ _ _ _ _ _=>l1_ λ_=>rfl
 obtain⟨_,F24⟩:=l24
 have b24:=F24.binds (ps:=["_law_e"]) λ_ _ _ _ _ _=>l1_ λ_=>rfl
 obtain⟨_,F25⟩:=l25
 have b25:=F25.binds (ps:=["self","algebra"]) λ_ _ _ _ _ _=>l2_ λ_ _=>rfl
 obtain⟨_,F26⟩:=l26
 have b26:=F26.binds (ps:=["_law_algebra_here"]) λ_ _ _ _ _ _=>l1_ λ_=>rfl
 obtain⟨_,F27⟩:=l27
 have b27:=F27.binds (ps:=["_law_algebra_here"]) λ_ _ _ _ _ _=>l1_ λ_=>rfl
 obtain⟨_,F28⟩:=l28
 obtain⟨_,_,_,_,_,_,_,_,_,rfl,_,_⟩:=F28.ex
 have b28:=F28.binds (ps:=["_law_script"]) λ_ _ _ _ _ _=>l1_ λ_=>rfl
 let KL:List (Addr×List (Key×V)):=[]
 have hkd:KD1 l.prog w K (kdL KL (znF mg)):=zqj λp m=>by
  exact absurd (show p ∈ ([]:List (Addr×List (Key×V)))from m) zyZ
 have T:Txt K (kdL KL (znF mg)) mg ⟨_,_,_,_,_,_,_,_,_,_,_,_,_,_,_,_,_,_,_,_,_,_,_,_,_,_,_,_,_,_,_,_,_,_,_,_,_,_,_,_,_,_,_,_,_,_,_,_,_,_,_,_,_,_,_,_,_,_,_,_,_,_,_,_,_,_,_,_,_⟩:=⟨F0,b0,PySem.W.mg_of X G a0,F1,b1,PySem.W.mg_of X G a1,F2,b2,PySem.W.mg_of X G a2,F3,b3,PySem.W.mg_of X G a3,F4,b4,PySem.W.mg_of X G a4,F5,b5,F6,b6,PySem.W.mg_of X G a6,F7,b7,PySem.W.mg_of X G a7,F8,b8,PySem.W.mg_of X G a8,F9,b9,PySem.W.mg_of X G a9,F10,b10,PySem.W.mg_of X G a10,F11,b11,PySem.W.mg_of X G a11,F12,b12,PySem.W.mg_of X G a12,F13,b13,PySem.W.mg_of X G a13,F14,b14,PySem.W.mg_of X G a14,F15,b15,PySem.W.mg_of X G a15,F16,b16,PySem.W.mg_of X G a16,F17,b17,PySem.W.mg_of X G a17,F18,b18,PySem.W.mg_of X G a18,F19,b19,PySem.W.mg_of X G a19,F20,b20,PySem.W.mg_of X G a20,F21,b21,PySem.W.mg_of X G a21,F22,b22,PySem.W.mg_of X G a22,F23,b23,PySem.W.mg_of X G a23,F24,b24,PySem.W.mg_of X G a24,F25,b25,F26,b26,PySem.W.mg_of X G a26,F27,b27,PySem.W.mg_of X G a27,F28,b28,PySem.W.mg_of X G a28,⟨zjH (PySem.W.mg_of X G aC0),⟨pg0,hd0,po0,sa0⟩,mk0,kc0,PySem.W.mg_of X G aC0⟩,⟨e0,ei0,ek0⟩,na0,na1,na2,na3,na4,na5,PySem.W.mg_none_of X G z0,PySem.W.mg_none_of X G z1,PySem.W.mg_none_of X G z2,PySem.W.mg_none_of X G z3,PySem.W.mg_none_of X G z4,PySem.W.mg_none_of X G z5,PySem.W.mg_none_of X G z6,PySem.W.mg_none_of X G z7,PySem.W.mg_none_of X G z8,PySem.W.mg_none_of X G z9,PySem.W.mg_none_of X G z10,PySem.W.mg_none_of X G z11,PySem.W.mg_of X G aC1,PySem.W.mg_of X G aC2,PySem.W.mg_of X G aC3,PySem.W.mg_of X G aC4,PySem.W.mg_of X G aC5,PySem.W.mg_of X G aC6,PySem.W.mg_of X G aC7,PySem.W.mg_of X G aC8,PySem.W.mg_of X G aC9,PySem.W.mg_of X G aC10,zjH (PySem.W.mg_of X G aC1),xf,xc,xs,xi,xk,xm,k1_NoDeed,k1_NoMake,k1_NoRow,k1_NoSign,k1_NoStretch,k1_NoText,k1_NoValue,k1_NotLetBy,k1_TooGreat,k1_ValueError⟩
 exact⟨_,λs v=>.of_eq rfl,λbase _ _=>(o_law T hkd).imp λvs H Q E h=>h _⟩
theorem walk{l:PySem.W.OpenLaw}{q:Program}{loose:List Str}{XP:(Str->Option Value)->Heap->Prop}{YP:World->Heap->Prop}{d:DefRec}{K:Params->zC}(hn:l.most=some 63)(hdf:d.params.defaults=[])
 (hY:∀(w:World) (h:Heap),YP w h->(K w.params).In h) (hm:∀ns:List Int,ns.length<=63->zdS [(true,.lst (ns.map D.int))]=some (.lf true (.bl true)))
 (F:∀(w:World) (mg:Str->Option Value) (fa:Addr) (h:Heap),(K w.params).In h->h.Ns mainGlobals mg->mg d.name=some (.ref fa)->
  ∃fd:FuncData,(∀(s:Shared) (u:Value),BindsTo s fd ⟨[u],[]⟩ [("_law_script",u)])/\∀base:Heap,(K w.params).In base->base.Ns mainGlobals mg->FnOk l.prog w (K w.params) mg base CX0 9 fa fd ["_law_script"] (spL (K w.params) zdS)):
 PySem.W.WalkO q loose XP YP l.row.toRowW d [] (λf vs=>PySem.call f vs):=
 L2.walk_of (n:=63) (k:=9) (x:="_law_script") (CX:=λ_=>CX0) (sp:=λw=>spL (K w.params) zdS) hn (by decide) hdf ⟨rfl,by decide,by decide,rfl⟩ hY F (λ_ _ a ns hl _ hS kd=>zpS (hm ns hl) hS) λ_ _ _ _ _ z=>z
local macro_rules | `(tactic| trivial)=>`(tactic| first|with_reducible first|assumption|exact Int.natCast_nonneg _|exact Nat.le_refl _|exact Int.le_refl _|exact rfl|exact leN (by assumption)|exact np1 (by assumption)|exact np2 (by assumption)|exact nq1 (by assumption)|exact nq2 (by assumption)|exact Int.natCast_pos.mpr (by assumption)|exact Nat.le_trans (by assumption) (by decide)|exact bgL _|exact bgU (by assumption)|exact mU (by assumption)|exact zI _|exact bL0 (by assumption)|exact bU0 (by assumption) (by assumption)|exact iL (by assumption)|exact iU (by assumption) (by assumption)|exact iC (by assumption)|exact iT (by assumption)|exact stL (by assumption)|exact stU (by assumption)|exact lnK (by assumption) (by assumption) (by assumption)|exact zi1 _|exact lnE (by assumption)|exact ltL (by assumption)|exact Int.toNat_of_nonneg (by assumption)|exact tS (by assumption) (by assumption)|exact b6 (by assumption)|exact Int.emod_nonneg _ (by decide)|exact Int.emod_lt_of_pos _ (by decide)|decide|omega)
abbrev FT:=Option (List D)
def oD:FT->D
 |none=>.non
 |some ds=>.tup ds
def fs(n:Nat)(t:Int->FT):FT:=(List.range n).findSome? λi:Nat=>t (i:Int)
abbrev R4(r:Option Out)(I:AS->Prop)(t:FT):Prop:=(t=none/\∃as',r=some (.nx as')/\I as')\/∃ds,t=some ds/\Rt r (.tup ds)
theorem znE{g:GF}{f:SF}{d:It1}{r:List It1}{as as1:AS}{x:D}(h1:g d as=some as1)(h2:Rt (f as1) x):Rt (forL g f (d::r) as) x:=by
 obtain⟨o,e1,e2⟩:=h2
 exact⟨o,zmq h1 e1,e2⟩
theorem l_F{α:Type}{g:GF}{f:SF}{it:α->It1}(I:AS->Prop)(t:α->FT):∀(l:List α),(∀x ∈ l,∀as,I as->∃as1,g (it x) as=some as1/\R4 (f as1) I (t x))->∀as,I as->R4 (forL g f (l.map it) as) I (l.findSome? t)
 | [],_,as,h=>.inl ⟨rfl,as,rfl,h⟩
 |x::l,H,as,h=>by
  obtain⟨as1,h1,h2⟩:=H x zzC as h
  rcases h2 with⟨e,as2,h2,h3⟩|⟨ds,e,h2⟩
  · have k:=l_F I t l (λy my=>H y (zzA _ my)) as2 h3
    rw[List.findSome?_cons,e]
    rcases k with⟨e',as3,k1,k2⟩|⟨ds,e',o,k1,k2⟩
    · exact .inl ⟨e',as3,zft h1 h2 k1,k2⟩
    · exact .inr ⟨ds,e',o,zft h1 h2 k1,k2⟩
  · rw[List.findSome?_cons,e]
    exact .inr ⟨ds,rfl,znE h1 h2⟩
theorem WX{v n:Nat}{f:SF}(I:AS->Prop)(t:Int->FT)(H:∀b,InR n b->∀as,I as->∃as1,gN v (true,.int b) as=some as1/\R4 (f as1) I (t b)){as:AS}(h:I as):R4 (forL (gN v) f (wz 0 n) as) I (fs n t):=by
 refine l_F (it:=λi:Nat=>(true,D.int (0+(i:Int)))) I (λi:Nat=>t (i:Int)) (List.range n) (λi mi as hI=>?_) as h
 have:=List.mem_range.mp mi
 rw[Int.zero_add]
 exact H i ⟨by omega,by omega⟩ as hI
theorem zll{c:TF}{f:EF}{as:AS}{q:Bool}{ds:List D}{I:AS->Prop}(ht:WT c as q)(hf:WE f as (.tup ds))(hI:I as):R4 (sIf c (yF f) sNx as) I (if q=true then some ds else none):=by
 cases q with
 |true=>exact .inr ⟨ds,rfl,zfy ht (vd hf)⟩
 |false=>exact .inl ⟨rfl,as,yQ ht rfl,hI⟩
theorem R4.seq{f g:SF}{as as1:AS}{I:AS->Prop}{t:FT}(h:f as=some (.nx as1))(k:R4 (g as1) I t):R4 (zB f g as) I t:=by
 rcases k with⟨e,a,b,c⟩|⟨ds,e,b⟩
 · exact .inl ⟨e,a,yg h b,c⟩
 · exact .inr ⟨ds,e,zT h b⟩
theorem R4.imp{r:Option Out}{I I':AS->Prop}{t:FT}(h:R4 r I t)(k:∀as,I as->I' as):R4 r I' t:=Or.imp (λ⟨e,a,b,c⟩=>⟨e,a,b,k a c⟩) id h
theorem R4.rt{f g:SF}{as:AS}{I:AS->Prop}{t t':FT}(h:R4 (f as) I t)(k:∀as',I as'->Rt (g as') (oD t')):Rt (zB f g as) (oD (t.or t')):=by
 rcases h with⟨rfl,as',h1,h2⟩|⟨ds,rfl,h1⟩
 · exact zT h1 (k as' h2)
 · exact zde h1
theorem or_none{t:FT}:t.or none=t:=by cases t<;>rfl
theorem Xf{n:Nat}{t:Int->FT}{ds:List D}(h:fs n t=some ds):∃b,t b=some ds:=by
 obtain⟨i,_,hi⟩:=List.exists_of_findSome?_eq_some h
 exact⟨i,hi⟩
section
variable{S:Option O->Option O->Option O->AS}{vj vn ve:Nat}{J T:TZ}{n m:Nat}{e:Int}{Ds:DD}{SS':SS}
def tU(n:Nat)(J:TZ)(e:Int):FT:=fs n λa=>if(!(jAt J e a==a) || !(jAt J a e==a))=true then some [.str "nothing",.int a]else none
def tA(n:Nat)(J:TZ):FT:=fs n λa=>fs n λb=>fs n λc=>if(!(jAt J (jAt J a b) c==jAt J a (jAt J b c)))=true then some [.str "parting",.int a,.int b,.int c]else none
def tD(n m:Nat)(J T:TZ)(s:Str):FT:=fs n λa=>fs m λi=>fs n λb=>fs m λk=>if(!(jAt T ((i+k)%m) (jAt J a b)==jAt J (jAt T i a) (jAt T k b)))=true then some [.str "doing",.str s,.int a,.int i,.int b,.int k]else none
theorem unF{va:Nat}{x y z:Option O}(hJ:Tab n n J)(he:InR n e)(hj:∀x y z,(S x y z)[vj]? = some (sT (yr J)))(hv:∀x y z,(S x y z)[ve]? = some (sI e))(h3:∀x y z,(S x y z)[va]? = some x)(g3:∀d x y z,gN va (true,d) (S x y z)=some (S (sT d) y z)):
 R4 (forL (gN va) (sIf (Vh (fT (f2 (f2 (f2 (fV vj) (fV ve) ixP) (fV va) ixP) (fV va) (zZ .NotEq))) (fT (f2 (f2 (f2 (fV vj) (fV va) ixP) (fV ve) ixP) (fV va) (zZ .NotEq)))) (yF (xR (dC (fC (.str "nothing")) (dC (fV va) dN)))) sNx) (wz 0 n) (S x y z)) (λas=>∃x,as=S x y z) (tU n J e):=by
 refine WX (λas=>∃x,as=S x y z) _ (λa ha as hI=>?_) ⟨x,rfl⟩
 obtain⟨x,rfl⟩:=hI
 have w3:WD (fV va) (S (sI a) y z) true (.int a):=zb (h3 _ _ _)
 have t1:=zib (Xo hJ he ha (zb (hj (sI a) y z)) (zb (hv (sI a) y z)) w3) w3
 have t2:=zib (Xo hJ ha he (zb (hj (sI a) y z)) w3 (zb (hv (sI a) y z))) w3
 exact⟨S (sI a) y z,g3 _ _ _ _,zll (q:=!(jAt J e a==a) || !(jAt J a e==a)) (zeS t1 (λh=>by rw[h,Bool.false_or];exact t2) (λh=>by rw[h];rfl)) (zeI (os:=[.lf true (.str "nothing"),lfI a]) (zN zj (zN w3 yK)) (szl rfl) rfl rfl) ⟨_,rfl⟩⟩
abbrev zts(vj va vb vc:Nat):SF:=sIf (fT (f2 (f2 (f2 (fV vj) (f2 (f2 (fV vj) (fV va) ixP) (fV vb) ixP) ixP) (fV vc) ixP) (f2 (f2 (fV vj) (fV va) ixP) (f2 (f2 (fV vj) (fV vb) ixP) (fV vc) ixP) ixP) (zZ .NotEq))) (yF (xR (dC (fC (.str "parting")) (dC (fV va) (dC (fV vb) (dC (fV vc) dN)))))) sNx
abbrev asB(vj vn va vb vc:Nat):SF:=xN (yE (aC (fV vn) aN) yI) (gN vb) (xN (yE (aC (fV vn) aN) yI) (gN vc) (zts vj va vb vc))
theorem asF{va vb vc:Nat}{x y z:Option O}(n8:n<=8)(hJ:Tab n n J)(hj:∀x y z,(S x y z)[vj]? = some (sT (yr J)))(hn:∀x y z,(S x y z)[vn]? = some (sI n))(h3:∀x y z,(S x y z)[va]? = some x)(h4:∀x y z,(S x y z)[vb]? = some y)(h5:∀x y z,(S x y z)[vc]? = some z)
 (g3:∀d x y z,gN va (true,d) (S x y z)=some (S (sT d) y z)) (g4:∀d x y z,gN vb (true,d) (S x y z)=some (S x (sT d) z)) (g5:∀d x y z,gN vc (true,d) (S x y z)=some (S x y (sT d))):
 R4 (forL (gN va) (asB vj vn va vb vc) (wz 0 n) (S x y z)) (λas=>∃x y z,as=S x y z) (tA n J):=by
 refine WX (λas=>∃x y z,as=S x y z) _ (λa ha as hI=>?_) ⟨x,y,z,rfl⟩
 obtain⟨x,y,z,rfl⟩:=hI
 refine⟨_,g3 _ _ _ _, ?_⟩
 unfold asB
 rw[wG (hn _ _ _) (by trivial)]
 refine(WX (v:=vb) (n:=n) (λas=>∃y z,as=S (sI a) y z) _ (λb hb as hI=>?_) ⟨y,z,rfl⟩).imp λas ⟨y,z,e⟩=>⟨_,y,z,e⟩
 obtain⟨y,z,rfl⟩:=hI
 refine⟨_,g4 _ _ _ _, ?_⟩
 rw[wG (hn _ _ _) (by trivial)]
 refine(WX (v:=vc) (n:=n) (λas=>∃z,as=S (sI a) (sI b) z) _ (λc hc as hI=>?_) ⟨z,rfl⟩).imp λas ⟨z,e⟩=>⟨_,z,e⟩
 obtain⟨z,rfl⟩:=hI
 have w3:WD (fV va) (S (sI a) (sI b) (sI c)) true (.int a):=zb (h3 _ _ _)
 have w4:WD (fV vb) (S (sI a) (sI b) (sI c)) true (.int b):=zb (h4 _ _ _)
 have w5:WD (fV vc) (S (sI a) (sI b) (sI c)) true (.int c):=zb (h5 _ _ _)
 have wj:WD (fV vj) (S (sI a) (sI b) (sI c)) true (yr J):=zb (hj _ _ _)
 have ab:=zfB hJ ha hb
 have bc:=zfB hJ hb hc
 exact⟨_,g5 _ _ _ _,zll (zib (Xo hJ ab hc wj (Xo hJ ha hb wj w3 w4) w5) (Xo hJ ha bc wj w3 (Xo hJ hb hc wj w4 w5))) (zeI (os:=[.lf true (.str "parting"),lfI a,lfI b,lfI c]) (zN zj (zN w3 (zN w4 (zN w5 yK)))) (szl rfl) rfl rfl) ⟨_,rfl⟩⟩
end
section
variable{n m:Nat}{J T:TZ}{e:Int}{Ds:DD}{S:SS}
theorem ziA(n8:n<=8)(hJ:Tab n n J)(he:InR n e):RE (wV [(true,zG n m J e Ds S)]) (oD (tU n J e)):=by
 have s1:zK true 1 (f2 (fV 0) (fC (.int 2)) ixP) [sT (zG n m J e Ds S),none,none,none]=some (.nx [sT (zG n m J e Ds S),sT (yr J),none,none]):=yx (i:=1) (Zx (zb (i:=0) rfl) zj rfl) (zF rfl)
 have s2:zK true 2 (f2 (fV 0) (fC (.int 3)) ixP) [sT (zG n m J e Ds S),sT (yr J),none,none]=some (.nx [sT (zG n m J e Ds S),sT (yr J),sI e,none]):=yx (i:=2) (Zx (zb (i:=0) rfl) zj rfl) (zF rfl)
 have k:=unF (S:=λx _ _=>[sT (zG n m J e Ds S),sT (yr J),sI e,x]) (x:=none) (y:=none) (z:=none) (va:=3) (vj:=1) (ve:=2) hJ he (λ_ _ _=>rfl) (λ_ _ _=>rfl) (λ_ _ _=>rfl) (λ_ _ _ _=>rfl)
 have hr:=vm (as:=[sT (zG n m J e Ds S),sT (yr J),sI e,none]) (zE (Zx (a:=fV 0) (b:=fC (.int 0)) (g:=ixP) (z:=.int n) (zb (i:=0) rfl) (zj (x:=.int 0)) rfl) zQ) (by trivial) (by trivial)
 rw[zyF]at hr
 refine Zj rfl (zT s1 (zT s2 ?_))
 rw[<-or_none (t:=tU n J e)]
 refine R4.rt (I:=λas=>∃x,as=[sT (zG n m J e Ds S),sT (yr J),sI e,x]) ?_ λ_ _=>vd (WD.e zj)
 rw[Z0 hr rfl];exact k
theorem zid(n8:n<=8)(hJ:Tab n n J):RE (wR [(true,zG n m J e Ds S)]) (oD (tA n J)):=by
 have s1:zK true 1 (f2 (fV 0) (fC (.int 0)) ixP) [sT (zG n m J e Ds S),none,none,none,none,none]=some (.nx [sT (zG n m J e Ds S),sI n,none,none,none,none]):=yx (i:=1) (Zx (zb (i:=0) rfl) zj rfl) (zF rfl)
 have s2:zK true 2 (f2 (fV 0) (fC (.int 2)) ixP) [sT (zG n m J e Ds S),sI n,none,none,none,none]=some (.nx [sT (zG n m J e Ds S),sI n,sT (yr J),none,none,none]):=yx (i:=2) (Zx (zb (i:=0) rfl) zj rfl) (zF rfl)
 have k:=asF (S:=λx y z=>[sT (zG n m J e Ds S),sI n,sT (yr J),x,y,z]) (x:=none) (y:=none) (z:=none) (va:=3) (vb:=4) (vc:=5) (vj:=2) (vn:=1) n8 hJ (λ_ _ _=>rfl) (λ_ _ _=>rfl) (λ_ _ _=>rfl) (λ_ _ _=>rfl) (λ_ _ _=>rfl) (λ_ _ _ _=>rfl) (λ_ _ _ _=>rfl) (λ_ _ _ _=>rfl)
 rw[<-wG (v:=1) (n:=n) (g:=gN 3) (f:=asB 2 1 3 4 5) (as:=[sT (zG n m J e Ds S),sI n,sT (yr J),none,none,none]) rfl (by trivial)]at k
 refine Zj rfl (zT s1 (zT s2 ?_))
 rw[<-or_none (t:=tA n J)]
 exact k.rt λ_ _=>vd (WD.e zj)
end
section
variable{n m:Nat}{J T:TZ}{e:Int}{Ds:DD}{S:SS}
abbrev dfJ:SF:=(sIf (fT (f2 (f2 (f2 (fV 2) (f2 (f2 (fV 7) (fV 9) (zm .Add)) (fV 4) (zm .Mod)) ixP) (f2 (f2 (fV 5) (fV 6) ixP) (fV 8) ixP) ixP) (f2 (f2 (fV 5) (f2 (f2 (fV 2) (fV 7) ixP) (fV 6) ixP) ixP) (f2 (f2 (fV 2) (fV 9) ixP) (fV 8) ixP) ixP) (zZ .NotEq))) (yF (xR (dC (fC (.str "doing")) (dC (fV 1) (dC (fV 6) (dC (fV 7) (dC (fV 8) (dC (fV 9) dN)))))))) sNx)
abbrev E10(n m:Nat)(J T:TZ)(e:Int)(Ds:DD)(S:SS)(s:Str)(x y z w:Option O):AS:=[sT (zG n m J e Ds S),sT (.str s),sT (yr T),sI n,sI m,sT (yr J),x,y,z,w]
theorem df5{s:Str}{a i b k:Int}(hJ:Tab n n J)(hT:Tab m n T)(m1:1<=m)(ha:InR n a)(hi:InR m i)(hb:InR n b)(hk:InR m k):R4 (dfJ (E10 n m J T e Ds S s (sI a) (sI i) (sI b) (sI k))) (λas=>∃w,as=E10 n m J T e Ds S s (sI a) (sI i) (sI b) w) (if(!(jAt T ((i+k)%m) (jAt J a b)==jAt J (jAt T i a) (jAt T k b)))=true then some [.str "doing",.str s,.int a,.int i,.int b,.int k]else none):=by
 have w2:WD (fV 2) (E10 n m J T e Ds S s (sI a) (sI i) (sI b) (sI k)) true (yr T):=zb rfl
 have w5:WD (fV 5) (E10 n m J T e Ds S s (sI a) (sI i) (sI b) (sI k)) true (yr J):=zb rfl
 have w6:WD (fV 6) (E10 n m J T e Ds S s (sI a) (sI i) (sI b) (sI k)) true (.int a):=zb rfl
 have w7:WD (fV 7) (E10 n m J T e Ds S s (sI a) (sI i) (sI b) (sI k)) true (.int i):=zb rfl
 have w8:WD (fV 8) (E10 n m J T e Ds S s (sI a) (sI i) (sI b) (sI k)) true (.int b):=zb rfl
 have w9:WD (fV 9) (E10 n m J T e Ds S s (sI a) (sI i) (sI b) (sI k)) true (.int k):=zb rfl
 obtain⟨q1,q2⟩:=XM hT hi ha w2 w7 w6
 obtain⟨q3,q4⟩:=XM hT hk hb w2 w9 w8
 obtain⟨q5,q6⟩:=XM hT (w:=(i+k)%m) (zbR m1) (zfB hJ ha hb) w2 (yq (yO w7 w9) (zb (i:=4) (x:=.int m) (s:=true) rfl) (by trivial)) (Xo hJ ha hb w5 w6 w8)
 exact zll (zib q5 (Xo hJ q2 q4 w5 q1 q3)) (zeI (os:=[.lf true (.str "doing"),.lf true (.str s),lfI a,lfI i,lfI b,lfI k]) (zN zj (zN (zb (i:=1) rfl) (zN w6 (zN w7 (zN w8 (zN w9 yK)))))) (szl rfl) rfl rfl) ⟨_,rfl⟩
theorem zmc{s:Str}(n8:n<=8)(m1:1<=m)(m6:m<=6)(hJ:Tab n n J)(hT:Tab m n T):RE (wX [(true,zG n m J e Ds S),(true,.str s),(true,yr T)]) (oD (tD n m J T s)):=by
 have k:R4 (forL (gN 6) (xN (yE (aC (fV 4) aN) yI) (gN 7) (xN (yE (aC (fV 3) aN) yI) (gN 8) (xN (yE (aC (fV 4) aN) yI) (gN 9) dfJ))) (wz 0 n) (E10 n m J T e Ds S s none none none none)) (λas=>∃x y z w,as=E10 n m J T e Ds S s x y z w) (tD n m J T s):=by
  refine WX (λas=>∃x y z w,as=E10 n m J T e Ds S s x y z w) _ (λa ha as hI=>?_) ⟨_,_,_,_,rfl⟩
  obtain⟨x,y,z,w,rfl⟩:=hI
  refine⟨E10 n m J T e Ds S s (sI a) y z w,rfl, ?_⟩
  rw[wG (v:=4) (n:=m) rfl (by trivial)]
  refine(WX (v:=7) (n:=m) (λas=>∃y z w,as=E10 n m J T e Ds S s (sI a) y z w) _ (λi hi as hI=>?_) ⟨_,_,_,rfl⟩).imp λas ⟨y,z,w,e⟩=>⟨_,y,z,w,e⟩
  obtain⟨y,z,w,rfl⟩:=hI
  refine⟨E10 n m J T e Ds S s (sI a) (sI i) z w,rfl, ?_⟩
  rw[wG (v:=3) (n:=n) rfl (by trivial)]
  refine(WX (v:=8) (n:=n) (λas=>∃z w,as=E10 n m J T e Ds S s (sI a) (sI i) z w) _ (λb hb as hI=>?_) ⟨_,_,rfl⟩).imp λas ⟨z,w,e⟩=>⟨_,z,w,e⟩
  obtain⟨z,w,rfl⟩:=hI
  refine⟨E10 n m J T e Ds S s (sI a) (sI i) (sI b) w,rfl, ?_⟩
  rw[wG (v:=4) (n:=m) rfl (by trivial)]
  refine(WX (v:=9) (n:=m) (λas=>∃w,as=E10 n m J T e Ds S s (sI a) (sI i) (sI b) w) _ (λk hk as hI=>?_) ⟨_,rfl⟩).imp λas ⟨w,e⟩=>⟨_,w,e⟩
  obtain⟨w,rfl⟩:=hI
  exact⟨_,rfl,df5 hJ hT m1 ha hi hb hk⟩
 rw[<-wG (v:=3) (n:=n) (as:=E10 n m J T e Ds S s none none none none) rfl (by trivial)]at k
 have s3:zK true 3 (f2 (fV 0) (fC (.int 0)) ixP) [sT (zG n m J e Ds S),sT (.str s),sT (yr T),none,none,none,none,none,none,none]=some (.nx [sT (zG n m J e Ds S),sT (.str s),sT (yr T),sI n,none,none,none,none,none,none]):=yx (i:=3) (Zx (zb (i:=0) rfl) zj rfl) (zF rfl)
 have s4:zK true 4 (f2 (fV 0) (fC (.int 1)) ixP) [sT (zG n m J e Ds S),sT (.str s),sT (yr T),sI n,none,none,none,none,none,none]=some (.nx [sT (zG n m J e Ds S),sT (.str s),sT (yr T),sI n,sI m,none,none,none,none,none]):=yx (i:=4) (Zx (zb (i:=0) rfl) zj rfl) (zF rfl)
 have s5:zK true 5 (f2 (fV 0) (fC (.int 2)) ixP) [sT (zG n m J e Ds S),sT (.str s),sT (yr T),sI n,sI m,none,none,none,none,none]=some (.nx (E10 n m J T e Ds S s none none none none)):=yx (i:=5) (Zx (zb (i:=0) rfl) zj rfl) (zF rfl)
 refine Zj rfl (zT s3 (zT s4 (zT s5 ?_)))
 rw[<-or_none (t:=tD n m J T s)]
 exact k.rt λ_ _=>vd (WD.e zj)
end
section
variable{n m:Nat}{J T:TZ}{e:Int}{Ds:DD}{S:SS}
theorem R4.thn{f g:SF}{as:AS}{I I':AS->Prop}{t t':FT}(h:R4 (f as) I t)(k:∀as',I as'->R4 (g as') I' t'):R4 (zB f g as) I' (t.or t'):=by
 rcases h with⟨rfl,as',h1,h2⟩|⟨ds,rfl,h1⟩
 · rcases k as' h2 with⟨e,a,b,c⟩|⟨ds,e,b⟩
   · exact .inl ⟨e,a,yg h1 b,c⟩
   · exact .inr ⟨ds,e,zT h1 b⟩
 · exact .inr ⟨ds,rfl,zde h1⟩
def tE(n m:Nat)(J:TZ)(e:Int)(p:Str×TZ):FT:=(if(!(jAt p.2 0 e==e))=true then some [.str "empty",.str p.1]else none).or (tD n m J p.2 p.1)
def tW(n m:Nat)(J:TZ)(e:Int)(Ds:DD):FT:=((tU n J e).or (tA n J)).or (Ds.findSome? (tE n m J e))
theorem zrk{t:FT}:zZ .Is (oD t) .non=some (.im (.bl t.isNone)):=by cases t<;>rfl
theorem zny{t:FT}:zZ .IsNot (oD t) .non=some (.im (.bl t.isSome)):=by cases t<;>rfl
theorem isT{as:AS}{i:Nat}{t:FT}(h:as[i]? = some (sT (oD t))):WT (fT (f2 (fV i) (fC .non) (zZ .Is))) as t.isNone:=wC (xF (zb h) (zj (x:=.non)) zrk rfl) rfl
theorem zqq{as:AS}{i:Nat}{t:FT}(h:as[i]? = some (sT (oD t))):WT (fT (f2 (fV i) (fC .non) (zZ .IsNot))) as t.isSome:=wC (xF (zb h) (zj (x:=.non)) zny rfl) rfl
theorem zmX(A:Alg n m J e Ds):RE (Zr [(true,zG n m J e Ds S)]) (oD (Ds.findSome? (tE n m J e))):=by
 have n8:=A.n8
 have m1:=A.m1
 have s1:zK true 1 (f2 (fV 0) (fC (.int 3)) ixP) [sT (zG n m J e Ds S),none,none,none,none]=some (.nx [sT (zG n m J e Ds S),sI e,none,none,none]):=yx (i:=1) (Zx (zb (i:=0) rfl) zj rfl) (zF rfl)
 have k:=l_F (g:=gT 2 (gsC (gN 2) (gsC (gN 3) gsN))) (f:=(zB (sIf (fT (f2 (f2 (f2 (fV 3) (fC (.int 0)) ixP) (fV 1) ixP) (fV 1) (zZ .NotEq))) (yF (xR (dC (fC (.str "empty")) (dC (fV 2) dN)))) sNx)
  (zB (zK true 4 (zJ (aC (fV 0) (aC (fV 2) (aC (fV 3) aN))) wX))
  (sIf (fT (f2 (fV 4) (fC .non) (zZ .IsNot))) (yF (fV 4)) sNx)))) (it:=λp:Str×TZ=>(true,ZZ p)) (λas=>∃(x y z:Option O),as=[sT (zG n m J e Ds S),sI e,x,y,z]) (tE n m J e) Ds (λp mp as hI=>by
   obtain⟨x,y,z,rfl⟩:=hI
   have hT:=A.ds p mp
   obtain⟨q1,_⟩:=XM (as:=[sT (zG n m J e Ds S),sI e,sT (.str p.1),sT (yr p.2),z]) hT (w:=0) (v:=e) ⟨by trivial,by trivial⟩ ⟨A.e0,A.en⟩ (zb (i:=3) rfl) (zj (x:=.int 0)) (zb (i:=1) rfl)
   have t1:=zib q1 (zb (i:=1) (x:=.int e) (s:=true) rfl)
   refine⟨[sT (zG n m J e Ds S),sI e,sT (.str p.1),sT (yr p.2),z],rfl, ?_⟩
   refine(zll (I:=λas=>as=[sT (zG n m J e Ds S),sI e,sT (.str p.1),sT (yr p.2),z]) t1 (zeI (os:=[.lf true (.str "empty"),.lf true (.str p.1)]) (zN zj (zN (zb (i:=2) rfl) yK)) (szl rfl) rfl rfl) rfl).thn λas' hI=>?_
   subst hI
   refine R4.seq (Yp (p:=4) (ziv (WD.e (zb (i:=0) rfl)) (WD.e (zb (i:=2) rfl)) (WD.e (zb (i:=3) rfl)) (zmc (s:=p.1) n8 m1 A.m6 A.j hT)) (zF rfl)) ?_
   have tt:=zqq (as:=[sT (zG n m J e Ds S),sI e,sT (.str p.1),sT (yr p.2),sT (oD (tD n m J p.2 p.1))]) (i:=4) (t:=tD n m J p.2 p.1) rfl
   generalize tD n m J p.2 p.1=t at tt
   cases t with
   |none=>exact .inl ⟨rfl,_,yQ tt rfl,_,_,_,rfl⟩
   |some ds=>exact .inr ⟨ds,rfl,zfy tt (vd (WD.e (zb (i:=4) rfl)))⟩) [sT (zG n m J e Ds S),sI e,none,none,none] ⟨_,_,_,rfl⟩
 refine Zj rfl (zT s1 ?_)
 rw[<-or_none (t:=Ds.findSome? (tE n m J e))]
 refine R4.rt (I:=λas=>∃(x y z:Option O),as=[sT (zG n m J e Ds S),sI e,x,y,z]) ?_ λ_ _=>vd (WD.e zj)
 have hi:=zpq (as:=[sT (zG n m J e Ds S),sI e,none,none,none]) (f:=f2 (fV 0) (fC (.int 4)) ixP) (ds:=Ds.map ZZ) (Zx (zb (i:=0) rfl) zj rfl)
 rw[zzY]at hi
 rw[Z0 hi rfl]
 exact k
theorem zfz(A:Alg n m J e Ds):RE (wN [(true,zG n m J e Ds S)]) (oD (tW n m J e Ds)):=by
 have r1:=ziA (m:=m) (Ds:=Ds) (S:=S) A.n8 A.j ⟨A.e0,A.en⟩
 have r2:=zid (m:=m) (e:=e) (Ds:=Ds) (S:=S) A.n8 A.j
 have r3:=zmX (S:=S) A
 have s1:=Yp (as:=xW 2 [(true,zG n m J e Ds S)]) (p:=1) (Zt (WD.e (zb (i:=0) rfl)) r1) (zF rfl)
 have st:∀(t t':FT) (g:Fn),RE (g [(true,zG n m J e Ds S)]) (oD t')->sIf (fT (f2 (fV 1) (fC .non) (zZ .Is))) (zK true 1 (zJ (aC (fV 0) aN) g)) sNx [sT (zG n m J e Ds S),sT (oD t)]=some (.nx [sT (zG n m J e Ds S),sT (oD (t.or t'))]):=λt t' g hg=>by
  have tt:=isT (as:=[sT (zG n m J e Ds S),sT (oD t)]) (i:=1) rfl
  cases t with
  |none=>exact vG tt (Yp (p:=1) (Zt (WD.e (zb (i:=0) rfl)) hg) (zF rfl))
  |some ds=>exact yQ tt rfl
 exact Zj rfl (zT s1 (zT (st _ _ _ r2) (zT (st _ _ _ r3) (vd (WD.e (zb (i:=1) rfl))))))
end
section
variable{n m:Nat}{J T:TZ}{e:Int}{Ds:DD}{S:SS}
abbrev Pt(d:D):Prop:=(∃s,d = .str s)\/∃i,d = .int i
def Gd(ds:List D):Prop:=(∃s r,ds = .str s::r)/\(∀d ∈ ds,Pt d)/\ds.length<=10
theorem ti{q:Bool}{xs ds:List D}(h:(if q=true then some xs else none)=some ds)(g:Gd xs):Gd ds:=by
 cases q with
 |true=>cases h;exact g
 |false=>cases h
theorem zdq{s:Str}{r:List D}(hl:r.length<=9)(h:∀d ∈ r,Pt d):Gd (.str s::r):=⟨⟨s,r,rfl⟩,λd md=>(zS.mp md).elim (λz=>.inl ⟨s,z⟩) (h d),Nat.succ_le_succ hl⟩
theorem zgb:∀d ∈ ([]:List D),Pt d:=λ_ z=>nomatch z
theorem VB{i:Int}{r:List D}(h:∀d ∈ r,Pt d):∀d ∈ D.int i::r,Pt d:=λd md=>(zS.mp md).elim (λz=>.inr ⟨i,z⟩) (h d)
theorem zmt{s:Str}{r:List D}(h:∀d ∈ r,Pt d):∀d ∈ D.str s::r,Pt d:=λd md=>(zS.mp md).elim (λz=>.inl ⟨s,z⟩) (h d)
theorem zaa{t t':FT}{ds:List D}(h:t.or t'=some ds):t=some ds\/t'=some ds:=by
 cases t with
 |none=>exact .inr h
 |some x=>exact .inl h
theorem ztd{ds:List D}(h:tW n m J e Ds=some ds):Gd ds:=by
 rcases zaa h with h|h
 · rcases zaa h with h|h
   · obtain⟨b,h⟩:=Xf h
     exact ti h (zdq (Nat.le_of_ble_eq_true rfl) (VB zgb))
   · obtain⟨a,h⟩:=Xf h
     obtain⟨b,h⟩:=Xf h
     obtain⟨c,h⟩:=Xf h
     exact ti h (zdq (Nat.le_of_ble_eq_true rfl) (VB (VB (VB zgb))))
 · obtain⟨p,_,h⟩:=List.exists_of_findSome?_eq_some h
   rcases zaa h with h|h
   · exact ti h (zdq (Nat.le_of_ble_eq_true rfl) (zmt zgb))
   · obtain⟨a,h⟩:=Xf h
     obtain⟨i,h⟩:=Xf h
     obtain⟨b,h⟩:=Xf h
     obtain⟨k,h⟩:=Xf h
     exact ti h (zdq (Nat.le_of_ble_eq_true rfl) (zmt (VB (VB (VB (VB zgb))))))
theorem zaB{f:D->D->Option Bool}:∀xs:List D,(∀x ∈ xs,f x x=some true)->eqL f xs xs=some true
 | [],_=>rfl
 |x::r,h=>by
  show((f x x).bind λb=>(eqL f r r).bind λc=>some (b&&c))=_
  rw[h x zzC,zaB r λy my=>h y (zzA _ my)];rfl
theorem zrL{ds:List D}(g:∀d ∈ ds,Pt d):eqF 60 (.tup ds) (.tup ds)=some true:=zaB _ λx mx=>by
 rcases g x mx with⟨s,rfl⟩|⟨i,rfl⟩
 · show some (s==s)=_
   rw[beq_self_eq_true]
 · show some (i==i)=_
   rw[beq_self_eq_true]
theorem zrU{f:EF}{as:AS}{ds:List D}(h:WD f as true (.tup ds)):ZW f as=some (ds.map λd=>(true,d),as):=by
 unfold ZW
 unfold WD at h
 rw[h];show some (kids true ds,as)=_
 rw[zgi]
end
theorem zra{a b c d k:EF}{as:AS}{x y z u v w:D}{g:List (Bool×D)->Option O}(ha:WE a as x)(hb:WE b as y)(hc:WE c as z)(hd:WE d as u)(hk:WE k as v)(hg:RE (g [(true,x),(true,y),(true,z),(true,u),(true,v)]) w):WE (zJ (aC a (aC b (aC c (aC d (aC k aN))))) g) as w:=by
 obtain⟨o,h1,h2⟩:=hg
 exact⟨o,zan (Vj ha (Vj hb (Vj hc (Vj hd (Vj hk zQ))))) (by show g [(yd x||true,x),(yd y||true,y),(yd z||true,z),(yd u||true,u),(yd v||true,v)]=_;rw[zyA,zyA,zyA,zyA,zyA];exact h1),h2⟩
section
variable{n m:Nat}{J T:TZ}{e:Int}{Ds:DD}{S:SS}
theorem zbQ(n8:n<=8)(hJ:Tab n n J):RE (xM [(true,.int n),(true,yr J)]) (oD (tA n J)):=by
 have k:=asF (S:=λx y z=>[sI n,sT (yr J),x,y,z]) (x:=none) (y:=none) (z:=none) (va:=2) (vb:=3) (vc:=4) (vj:=1) (vn:=0) n8 hJ (λ_ _ _=>rfl) (λ_ _ _=>rfl) (λ_ _ _=>rfl) (λ_ _ _=>rfl) (λ_ _ _=>rfl) (λ_ _ _ _=>rfl) (λ_ _ _ _=>rfl) (λ_ _ _ _=>rfl)
 rw[<-wG (v:=0) (n:=n) (g:=gN 2) (f:=asB 1 0 2 3 4) (as:=[sI n,sT (yr J),none,none,none]) rfl (by trivial)]at k
 refine Zj rfl ?_
 rw[<-or_none (t:=tA n J)]
 exact k.rt λ_ _=>vd (WD.e zj)
abbrev fdI:SF:=(zB (zK true 9 (f2 (f2 (fV 4) (f2 (f2 (fV 6) (fV 8) (zm .Add)) (fV 1) (zm .Mod)) ixP) (f2 (f2 (fV 2) (fV 5) ixP) (fV 7) ixP) ixP))
 (sIf (fT (f2 (fV 9) (f2 (f2 (fV 2) (f2 (f2 (fV 4) (fV 6) ixP) (fV 5) ixP) ixP) (f2 (f2 (fV 4) (fV 8) ixP) (fV 7) ixP) ixP) (zZ .NotEq))) (yF (xR (dC (fC (.str "doing")) (dC (fV 3) (dC (fV 5) (dC (fV 6) (dC (fV 7) (dC (fV 8) dN)))))))) sNx))
abbrev H10(n m:Nat)(J T:TZ)(s:Str)(x y z w v:Option O):AS:=[sI n,sI m,sT (yr J),sT (.str s),sT (yr T),x,y,z,w,v]
theorem fd5{s:Str}{a i b k:Int}{v:Option O}(hJ:Tab n n J)(hT:Tab m n T)(m1:1<=m)(ha:InR n a)(hi:InR m i)(hb:InR n b)(hk:InR m k):R4 (fdI (H10 n m J T s (sI a) (sI i) (sI b) (sI k) v)) (λas=>∃w v,as=H10 n m J T s (sI a) (sI i) (sI b) w v) (if(!(jAt T ((i+k)%m) (jAt J a b)==jAt J (jAt T i a) (jAt T k b)))=true then some [.str "doing",.str s,.int a,.int i,.int b,.int k]else none):=by
 obtain⟨q5,_⟩:=XM (as:=H10 n m J T s (sI a) (sI i) (sI b) (sI k) v) hT (w:=(i+k)%m) (zbR m1) (zfB hJ ha hb) (zb (i:=4) rfl) (yq (yO (zb (i:=6) rfl) (zb (i:=8) rfl)) (zb (i:=1) (x:=.int m) (s:=true) rfl) (by trivial)) (Xo hJ ha hb (zb (i:=2) rfl) (zb (i:=5) rfl) (zb (i:=7) rfl))
 refine R4.seq (as1:=H10 n m J T s (sI a) (sI i) (sI b) (sI k) (sI (jAt T ((i+k)%m) (jAt J a b)))) (yx (i:=9) q5 (zF rfl)) ?_
 obtain⟨q1,q2⟩:=XM (as:=H10 n m J T s (sI a) (sI i) (sI b) (sI k) (sI (jAt T ((i+k)%m) (jAt J a b)))) hT hi ha (zb (i:=4) rfl) (zb (i:=6) rfl) (zb (i:=5) rfl)
 obtain⟨q3,q4⟩:=XM (as:=H10 n m J T s (sI a) (sI i) (sI b) (sI k) (sI (jAt T ((i+k)%m) (jAt J a b)))) hT hk hb (zb (i:=4) rfl) (zb (i:=8) rfl) (zb (i:=7) rfl)
 exact zll (zib (zb (i:=9) (s:=true) rfl) (Xo hJ q2 q4 (zb (i:=2) rfl) q1 q3)) (zeI (os:=[.lf true (.str "doing"),.lf true (.str s),lfI a,lfI i,lfI b,lfI k]) (zN zj (zN (zb (i:=3) rfl) (zN (zb (i:=5) rfl) (zN (zb (i:=6) rfl) (zN (zb (i:=7) rfl) (zN (zb (i:=8) rfl) yK)))))) (szl rfl) rfl rfl) ⟨_,_,rfl⟩
theorem zdX{s:Str}(n8:n<=8)(m1:1<=m)(m6:m<=6)(hJ:Tab n n J)(hT:Tab m n T):RE (xx [(true,.int n),(true,.int m),(true,yr J),(true,.str s),(true,yr T)]) (oD (tD n m J T s)):=by
 have k:R4 (forL (gN 5) (xN (yE (aC (fV 1) aN) yI) (gN 6) (xN (yE (aC (fV 0) aN) yI) (gN 7) (xN (yE (aC (fV 1) aN) yI) (gN 8) fdI))) (wz 0 n) (H10 n m J T s none none none none none)) (λas=>∃x y z w v,as=H10 n m J T s x y z w v) (tD n m J T s):=by
  refine WX (λas=>∃x y z w v,as=H10 n m J T s x y z w v) _ (λa ha as hI=>?_) ⟨_,_,_,_,_,rfl⟩
  obtain⟨x,y,z,w,v,rfl⟩:=hI
  refine⟨H10 n m J T s (sI a) y z w v,rfl, ?_⟩
  rw[wG (v:=1) (n:=m) rfl (by trivial)]
  refine(WX (v:=6) (n:=m) (λas=>∃y z w v,as=H10 n m J T s (sI a) y z w v) _ (λi hi as hI=>?_) ⟨_,_,_,_,rfl⟩).imp λas ⟨y,z,w,v,e⟩=>⟨_,y,z,w,v,e⟩
  obtain⟨y,z,w,v,rfl⟩:=hI
  refine⟨H10 n m J T s (sI a) (sI i) z w v,rfl, ?_⟩
  rw[wG (v:=0) (n:=n) rfl (by trivial)]
  refine(WX (v:=7) (n:=n) (λas=>∃z w v,as=H10 n m J T s (sI a) (sI i) z w v) _ (λb hb as hI=>?_) ⟨_,_,_,rfl⟩).imp λas ⟨z,w,v,e⟩=>⟨_,z,w,v,e⟩
  obtain⟨z,w,v,rfl⟩:=hI
  refine⟨H10 n m J T s (sI a) (sI i) (sI b) w v,rfl, ?_⟩
  rw[wG (v:=1) (n:=m) rfl (by trivial)]
  refine(WX (v:=8) (n:=m) (λas=>∃w v,as=H10 n m J T s (sI a) (sI i) (sI b) w v) _ (λk hk as hI=>?_) ⟨_,_,rfl⟩).imp λas ⟨w,v,e⟩=>⟨_,w,v,e⟩
  obtain⟨w,v,rfl⟩:=hI
  exact⟨_,rfl,fd5 hJ hT m1 ha hi hb hk⟩
 rw[<-wG (v:=0) (n:=n) (as:=H10 n m J T s none none none none none) rfl (by trivial)]at k
 refine Zj rfl ?_
 rw[<-or_none (t:=tD n m J T s)]
 exact k.rt λ_ _=>vd (WD.e zj)
abbrev L11(n m:Nat)(J:TZ)(e:Int)(Ds:DD)(S:SS)(z:Option O)(d:Option O)(x y:Option O):AS:=[sT (zG n m J e Ds S),sI n,sI m,sT (yr J),sI e,sT (.lst (Ds.map ZZ)),sT (.lst (S.map wQ)),z,d,x,y]
abbrev duB:SF:=(zB (sIf (zdw (fT (f2 (fV 8) (fC .non) (zZ .Is))) (fT (f2 (f2 (f2 (fV 10) (fC (.int 0)) ixP) (fV 4) ixP) (fV 4) (zZ .NotEq)))) (zK true 8 (xR (dC (fC (.str "empty")) (dC (fV 9) dN)))) sNx)
 (sIf (fT (f2 (fV 8) (fC .non) (zZ .Is))) (zK true 8 (zJ (aC (fV 1) (aC (fV 2) (aC (fV 3) (aC (fV 9) (aC (fV 10) aN))))) xx)) sNx))
theorem zms(A:Alg n m J e Ds):RE (vJ [(true,zG n m J e Ds S)]) (oD (tW n m J e Ds)):=by
 have n8:=A.n8
 have m1:=A.m1
 have he:InR n e:=⟨A.e0,A.en⟩
 have k1:=unF (S:=λx _ _=>L11 n m J e Ds S x none none none) (x:=none) (y:=none) (z:=none) (va:=7) (vj:=3) (ve:=4) A.j he (λ_ _ _=>rfl) (λ_ _ _=>rfl) (λ_ _ _=>rfl) (λ_ _ _ _=>rfl)
 rw[<-wG (v:=1) (n:=n) (as:=L11 n m J e Ds S none none none none) rfl (by trivial)]at k1
 have ew:tW n m J e Ds=(tU n J e).or ((tA n J).or (Ds.findSome? (tE n m J e))):=Option.or_assoc
 rw[ew]
 refine Zj rfl (zT (as1:=L11 n m J e Ds S none none none none) (zrp (WD.e (zb (i:=0) rfl)) rfl) (k1.rt λas' hI=>?_))
 obtain⟨z,rfl⟩:=hI
 refine zT (as1:=L11 n m J e Ds S z (sT (oD (tA n J))) none none) (Yp (p:=8) (zgk (WD.e (zb (i:=1) rfl)) (WD.e (zb (i:=3) rfl)) (zbQ n8 A.j)) (zF rfl)) ?_
 obtain⟨as',hf,x,y,rfl⟩:=vB (g:=gT 2 (gsC (gN 9) (gsC (gN 10) gsN))) (f:=duB)
  (λi as=>∃(x y:Option O),as=L11 n m J e Ds S z (sT (oD ((tA n J).or ((Ds.take i).findSome? (tE n m J e))))) x y)
  ((Ds.map ZZ).map λd=>(true,d)) 0 (L11 n m J e Ds S z (sT (oD (tA n J))) none none) (λi x as hx' hI=>by
    obtain⟨x,y,rfl⟩:=hI
    rw[zzY,zzF]at hx'
    obtain⟨p,hp,rfl⟩:=zzU.mp hx'
    have hT:=A.ds p (zzX hp)
    have es:(tA n J).or ((Ds.take (0+i+1)).findSome? (tE n m J e))=((tA n J).or ((Ds.take (0+i)).findSome? (tE n m J e))).or (tE n m J e p):=by
     have e2:List.findSome? (tE n m J e) (Option.toList (some p))=tE n m J e p:=by
      rw[Option.toList_some,List.findSome?_cons,List.findSome?_nil]
      cases tE n m J e p<;>rfl
     generalize tA n J=X
     rw[zyV,List.take_succ,hp,List.findSome?_append,e2,Option.or_assoc]
    rw[es]
    generalize (tA n J).or ((Ds.take (0+i)).findSome? (tE n m J e))=t
    refine⟨L11 n m J e Ds S z (sT (oD t)) (sT (.str p.1)) (sT (yr p.2)),rfl, ?_⟩
    have tn:=isT (as:=L11 n m J e Ds S z (sT (oD t)) (sT (.str p.1)) (sT (yr p.2))) (i:=8) rfl
    cases t with
    |some ds=>exact⟨_,yg (yQ (zge tn (λh=>nomatch h) (λ_=>rfl)) rfl) (yQ tn rfl),_,_,rfl⟩
    |none=>
     obtain⟨q1,_⟩:=XM (as:=L11 n m J e Ds S z (sT (oD none)) (sT (.str p.1)) (sT (yr p.2))) hT (w:=0) (v:=e) ⟨by trivial,by trivial⟩ he (zb (i:=10) rfl) (zj (x:=.int 0)) (zb (i:=4) rfl)
     have t1:=zib q1 (zb (i:=4) (x:=.int e) (s:=true) rfl)
     have t2:=zge (l:=!(jAt p.2 0 e==e)) tn (λ_=>t1) (λh=>nomatch h)
     have ed:tE n m J e p=(if(!(jAt p.2 0 e==e))=true then some [.str "empty",.str p.1]else none).or (tD n m J p.2 p.1):=rfl
     rw[show(none:FT).or (tE n m J e p)=tE n m J e p from rfl,ed]
     generalize (!(jAt p.2 0 e==e))=q at t2
     cases q with
     |true=>exact⟨_,yg (as1:=L11 n m J e Ds S z (sT (.tup [.str "empty",.str p.1])) (sT (.str p.1)) (sT (yr p.2))) (vG t2 (Yp (p:=8) (zeI (os:=[.lf true (.str "empty"),.lf true (.str p.1)]) (zN zj (zN (zb (i:=9) rfl) yK)) (szl rfl) rfl rfl) (zF rfl))) (yQ (wC (xF (zb (i:=8) rfl) zj rfl rfl) rfl) rfl),_,_,rfl⟩
     |false=>exact⟨_,yg (yQ t2 rfl) (vG tn (Yp (p:=8) (zra (WD.e (zb (i:=1) rfl)) (WD.e (zb (i:=2) rfl)) (WD.e (zb (i:=3) rfl)) (WD.e (zb (i:=9) rfl)) (WD.e (zb (i:=10) rfl)) (zdX (s:=p.1) n8 m1 A.m6 A.j hT)) (zF rfl))),_,_,rfl⟩)
  ⟨none,none,by rw[List.take_zero,List.findSome?_nil,or_none]⟩
 rw[zD,zD,zyV,List.take_length]at hf
 exact zT (Z0 (zpq (zb (i:=5) rfl)) hf) (vd (WD.e (zb (i:=8) rfl)))
end
open L2 (yN)
def mx(c k:Int):Int:=((c%2147483647*48271+k*k*69621+7919)%2147483647*((c%2147483647*48271+k*k*69621+7919)%2147483647)+16807*((c%2147483647*48271+k*k*69621+7919)%2147483647)+k)%2147483629
abbrev St(x:Int):Prop:=0<=x/\x<2147483647
theorem zpn(c k:Int):St (mx c k):=⟨zyK _ (by decide),Int.lt_trans (zyE _ (by decide)) (by decide)⟩
theorem zel{c k:Int}{s t:Bool}(k0:0<=k)(k1:k<=1000):yL [(s,.int c),(t,.int k)]=sI (mx c k):=by
 have c0:=zyK c (show(2147483647:Int)≠0 by decide)
 have c1:=zyE c (show(0:Int)<2147483647 by decide)
 have kk0:0<=k*k:=Int.mul_nonneg k0 k0
 have kk1:k*k<=1000*1000:=Int.mul_le_mul k1 k1 k0 (by decide)
 have u0:=zyK (c%2147483647*48271+k*k*69621+7919) (show(2147483647:Int)≠0 by decide)
 have u1:=zyE (c%2147483647*48271+k*k*69621+7919) (show(0:Int)<2147483647 by decide)
 have bk:k.natAbs<big:=zP (by omega) (by omega)
 have bu:((c%2147483647*48271+k*k*69621+7919)%2147483647).natAbs<big:=zP (by omega) (by omega)
 exact X4 rfl (yg (yx (i:=2) (yq (yO (yO (wO (yq (zb (i:=0) rfl) zj (by decide)) zj (zP (by omega) (by omega)) (zP (by decide) (by decide))) (wO (wO (zb (i:=1) rfl) (zb (i:=1) rfl) bk bk) zj (zP (by omega) (by omega)) (zP (by decide) (by decide)))) zj) zj (by decide)) (zF rfl))
  (VM (yq (yO (yO (wO (zb (i:=2) rfl) (zb (i:=2) rfl) bu bu) (wO zj (zb (i:=2) rfl) (zP (by decide) (by decide)) bu)) (zb (i:=1) rfl)) zj (by decide))))
theorem zdm{ns:List Int}{k:Int}{s t:Bool}(hk:0<=k):∃x,zY [(s,.lst (ns.map .int)),(t,.int k)]=sT (.int x):=by
 by_cases h:k<((ns.map D.int).length:Int)
 · obtain⟨x,hx⟩:=zoT (ns:=ns) hk (by rw[zD]at h;exact h)
   exact⟨x,X4 rfl (zai (vG (wC (zjy (zb rfl) (Yc (zE (zb rfl) zQ) rfl rfl)) (congrArg some (zyL h))) (VM (xF (zb rfl) (zb rfl) hx rfl))))⟩
 · exact⟨0,X4 rfl (yg (yQ (wC (zjy (zb rfl) (Yc (zE (zb rfl) zQ) rfl rfl)) (congrArg some (zyD h))) rfl) (VM zj))⟩
theorem zlr{s:Bool}{x:Int}:vD [(s,.int x)]=sT (.bl true):=
 X4 rfl (VM (zrm (k:=true) (zet (zb rfl) rfl) (λ_=>zpM (q:=false) (zet (zb rfl) rfl)) (λh=>nomatch h)))
theorem zjY{c:Int}{m:Nat}(h1:m<=900):∃xs:List Int,xs.length=m/\(∀x ∈ xs,St x)/\RE (xg [(true,.int c),(true,.int m)]) (yR xs):=by
 obtain⟨as',hf,ys,r,e4,rfl,hl,hy⟩:=vB (g:=gN 4) (f:=sIf (fT (f2 (f2 (fV 0) (fC (.int 2)) (zm .Mod)) (fC (.int 0)) (zZ .Eq))) (zB (wJ (ZX 2 (dC (f2 (fV 3) (fC (.int 1000000007)) (zm .Mod)) dN) Ye)) (zK true 3 (f2 (fV 3) (fC (.int 1000000007)) (zm .FloorDiv)))) (wJ (ZX 2 (dC (zJ (aC (fV 3) (aC (fV 4) aN)) yL) dN) Ye)))
  (λi as=>∃(ys:List Int) (r:Int) (e4:Option O),as=[sI c,sI m,sN (ys.map lfI),sI r,e4]/\ys.length=i/\∀y ∈ ys,St y)
  (wz 0 m) 0 [sI c,sI m,sN [],sI (c/2),none] (λi x as hx hI=>by
   obtain⟨ys,r,e4,rfl,hl,hy⟩:=hI
   obtain⟨rfl,hi⟩:=wU hx
   have tt:WT (fT (f2 (f2 (fV 0) (fC (.int 2)) (zm .Mod)) (fC (.int 0)) (zZ .Eq))) [sI c,sI m,sN (ys.map lfI),sI r,sI (0+i)] (c%2==0):=wC (zdv (c:=c%2==0) (yq (zb (i:=0) rfl) zj (by decide)) zj rfl) rfl
   refine⟨[sI c,sI m,sN (ys.map lfI),sI r,sI (0+i)],rfl, ?_⟩
   have fin:∀w,St w->(ys++[w]).length=0+i+1/\∀y ∈ ys++[w],St y:=λw hw=>⟨by rw[zzG,hl];rfl,λy m=>(zzJ.mp m).elim (hy y) λm=>by rw[zzO.mp m];exact hw⟩
   cases hb:(c%2==0)with
   |true=>
    rw[hb]at tt
    have w0:=zyK r (show(1000000007:Int)≠0 by decide)
    have w1:=zyE r (show(0:Int)<1000000007 by decide)
    have ap:=zhS (i:=2) (as:=[sI c,sI m,sN (ys.map lfI),sI r,sI (0+i)]) rfl (by rw[zD];exact yN (by omega)) (yq (zb (i:=3) rfl) (zj (x:=.int 1000000007)) (by decide))
    rw[<-zbr]at ap
    exact⟨_,vG tt (yg ap (yx (i:=3) (xQ (zb (i:=3) rfl) zj (by decide) (zP (by decide) (by decide))) (zF rfl))),ys++[r%1000000007],_,_,rfl,fin _ ⟨w0,by omega⟩⟩
   |false=>
    rw[hb]at tt
    have ap:=zhS (i:=2) (as:=[sI c,sI m,sN (ys.map lfI),sI r,sI (0+i)]) rfl (by rw[zD];exact yN (by omega)) (vg (zE (zb (i:=3) rfl) (zE (zb (i:=4) rfl) zQ)) (zel (c:=r) (k:=0+i) (by omega) (by omega)))
    rw[<-zbr]at ap
    exact⟨_,yQ tt ap,ys++[mx r (0+i)],_,_,rfl,fin _ (zpn _ _)⟩)
  ⟨[],c/2,none,rfl,rfl,λ_ m=>nomatch m⟩
 rw[xr]at hl
 refine⟨ys,by omega,hy,Zj rfl (zT (Zd (i:=2) (Vy yK (szl rfl)) (zF rfl)) (zT (yx (i:=3) (xQ (zb (i:=0) rfl) zj (by decide) (zP (by decide) (by decide))) (zF rfl)) (zT (Z0 (vm (zE (zb (i:=1) rfl) zQ) (by omega) (by omega)) hf) ⟨_,zjD (i:=2) rfl (vC ys).2.1,(zbB ys).1,(zbB ys).2⟩)))⟩
theorem stE{a b:EF}{as:AS}{c:Int}{m:Nat}(hm:m<=900)(ha:WE a as (.int c))(hb:WE b as (.int m)):∃xs:List Int,xs.length=m/\(∀x ∈ xs,St x)/\WE (zJ (aC a (aC b aN)) xg) as (yR xs):=by
 obtain⟨xs,h1,h2,h3⟩:=zjY (c:=c) (m:=m) hm
 exact⟨xs,h1,h2,zgk ha hb h3⟩
theorem at2{xs:List Int}(h:∀x ∈ xs,St x){k:Int}(h0:0<=k)(h1:k<xs.length):∃x,ixP (yR xs) (.int k)=some (.im (.int x))/\St x:=zpU h0 h1 h
theorem zkr{n m:Nat}(hn:0<n)(hn2:n<=8)(hm:m<=8):∃g:Int,0<g/\g<1000/\g ∣ (n:Int)/\g ∣ (m:Int)/\vH [(true,.int n),(true,.int m)]=sI g:=by
 obtain⟨g,e,g0,g1,d1,d2,hg⟩:=zhT m n 10000 (by trivial) (by trivial) (by trivial) (by trivial)
 exact⟨g,g0,g1,d1,d2,X4 rfl (yg hg (VM (zb rfl)))⟩
theorem eqT{a b:EF}{as:AS}{x y:Int}{s t q:Bool}(ha:WD a as s (.int x))(hb:WD b as t (.int y))(e:(x==y)=q):WT (fT (f2 a b (zZ .Eq))) as q:=wC (zdv (c:=q) ha hb (congrArg some e)) rfl
theorem zbw{k:Int}{n:Nat}{a b:Int}(h:KN k n)(ha:InR n a)(hb:InR n b):zR [(true,.int k),(true,.int n),(true,.int a),(true,.int b)]=sI (jK k n a b):=by
 rcases h with⟨rfl,hn⟩|⟨rfl,hn⟩|⟨rfl,hn⟩|⟨rfl,rfl⟩
 · exact X4 rfl (zai (vG (eqT (zb (i:=0) rfl) zj rfl) (VM (yq (yO (zb (i:=2) rfl) (zb (i:=3) rfl)) (zb (i:=1) rfl) (by omega)))))
 · exact X4 rfl (yg (yQ (eqT (zb (i:=0) rfl) zj rfl) rfl) (zai (vG (eqT (zb (i:=0) rfl) zj rfl) (VM (Yc (zE (zb (i:=2) rfl) (zE (zb (i:=3) rfl) zQ)) rfl rfl)))))
 · exact X4 rfl (yg (yQ (eqT (zb (i:=0) rfl) zj rfl) rfl) (yg (yQ (eqT (zb (i:=0) rfl) zj rfl) rfl) (zai (vG (eqT (zb (i:=0) rfl) zj rfl) (VM (f2E (Y7 (os:=[lfI b,lfI a]) (zN (zb (i:=3) rfl) (zN (zb (i:=2) rfl) yK)) (szl rfl) rfl rfl) (WD.e (Yc (zE (zdv (zb (i:=3) rfl) zj rfl) zQ) rfl rfl)) (zmw.trans (by show _=some (R0.im (.int (jL a b)));unfold jL;by_cases h:b=0<;>simp[h]))))))))
 · have P:∀a ∈ ([0,1,2,3]:List Int),∀b ∈ ([0,1,2,3]:List Int),zR [(true,.int 3),(true,.int (4:Nat)),(true,.int a),(true,.int b)]=sI (jK 3 4 a b):=by
    intro a ma b mb
    simp only[zS,zyZ,or_false]at ma mb
    rcases ma with rfl|rfl|rfl|rfl<;>rcases mb with rfl|rfl|rfl|rfl<;>rfl
   exact f4 (P:=λa=>zR [(true,.int 3),(true,.int (4:Nat)),(true,.int a),(true,.int b)]=sI (jK 3 4 a b)) (λa m=>f4 (P:=λb=>zR [(true,.int 3),(true,.int (4:Nat)),(true,.int a),(true,.int b)]=sI (jK 3 4 a b)) (P a m) hb) ha
open L2 (yN)
abbrev imB:SF:=(zB (zK true 2 (f2 (fV 2) (fV 1) (zm .FloorDiv)))
 (wJ (ZX 3 (dC (f2 (Yb (dC (f2 (fV 2) (fV 1) (zm .Mod)) (dC (f2 (fC (.int 1)) (f2 (fV 2) (f2 (fV 1) (fC (.int 1)) (zm .Sub)) (zm .Mod)) (zm .Add)) dN))) (f2 (fV 0) (fC (.int 1)) (zm .Sub)) ixP) dN) Ye)))
theorem zng{k x:Int}{n:Nat}(hk:k=1\/k=2)(hn:1<=n)(hn2:n<=8):∃(ys:List Int) (z:Int) (e4:Option O),ys.length=n-1/\(∀y ∈ ys,InR n y/\(k=2->1<=y))/\forL (gN 4) imB (wz 1 (n-1)) [sI k,sI n,sI x,sN [],none]=some (.nx [sI k,sI n,sI z,sN (ys.map lfI),e4]):=by
 obtain⟨as',hf,ys,z,e4,rfl,hl,hy⟩:=vB (g:=gN 4) (f:=imB)
  (λi as=>∃(ys:List Int) (z:Int) (e4:Option O),as=[sI k,sI n,sI z,sN (ys.map lfI),e4]/\ys.length=i/\∀y ∈ ys,InR n y/\(k=2->1<=y))
  (wz 1 (n-1)) 0 [sI k,sI n,sI x,sN [],none] (λi y as hx hI=>by
   obtain⟨ys,z,e4,rfl,hl,hy⟩:=hI
   obtain⟨rfl,hi⟩:=wU hx
   have m0:=zyK (z/n) (show(n:Int)≠0 by omega)
   have m1:=zyE (z/n) (show(0:Int)<n by omega)
   have q0:=zyK (z/n) (show(n:Int)-1≠0 by omega)
   have q1:=zyE (z/n) (show(0:Int)<(n:Int)-1 by omega)
   have hp:ixP (.lst [.int (z/n%n),.int (1+z/n%(n-1))]) (.int (k-1))=some (.im (.int (if k=1 then z/n%n else 1+z/n%(n-1)))):=by rcases hk with rfl|rfl<;>rfl
   have ap:=zhS (i:=3) (as:=[sI k,sI n,sI (z/n),sN (ys.map lfI),sI (1+i)]) rfl (by rw[zD];exact yN (by omega)) (f2E (Y7 (os:=[lfI (z/n%n),lfI (1+z/n%(n-1))]) (zN (yq (zb (i:=2) rfl) (zb (i:=1) rfl) (by omega)) (zN (yO zj (yq (zb (i:=2) rfl) (zfw (zb (i:=1) rfl) zj) (by omega))) yK)) (szl rfl) rfl rfl) (WD.e (zfw (zb (i:=0) rfl) zj)) hp)
   rw[<-zbr]at ap
   refine⟨_,rfl,_,yg (yx (i:=2) (xQ (zb (i:=2) rfl) (zb (i:=1) rfl) (by omega) (zP (by omega) (by omega))) (zF rfl)) ap,_,_,_,rfl,by rw[zzG,hl];rfl,λy m=>(zzJ.mp m).elim (hy y) λm=>?_⟩
   rw[zzO.mp m]
   rcases hk with rfl|rfl
   · rw[if_pos rfl];exact⟨⟨m0,m1⟩,λh=>nomatch h⟩
   · rw[if_neg (by decide)];exact⟨⟨by omega,by omega⟩,λ_=>by omega⟩)
  ⟨[],x,none,rfl,rfl,λ_ m=>nomatch m⟩
 rw[xr]at hl
 exact⟨ys,z,e4,by omega,hy,hf⟩
theorem zjO{k x:Int}{n m:Nat}(h:KN k n)(h0:k≠0)(hn2:n<=8)(hm:0<m):∃r,Row n r/\LD n m (jK k n) (eK k) (λ_ a=>rAt r a)/\RE (ZR [(true,.int k),(true,.int n),(true,.int x)]) (yR r):=by
 have n1:=h.n1
 rcases h with⟨rfl,hn⟩|⟨rfl,hn⟩|⟨rfl,hn⟩|⟨rfl,rfl⟩
 · exact absurd rfl h0
 · obtain⟨ys,z,e4,l1,l2,hf⟩:=zng (k:=1) (x:=x) (n:=n) (.inl rfl) hn hn2
   have hp:=sortI_perm ys
   have hlen:(sortI ys).length=n-1:=by rw[hp.length_eq,l1]
   have hr:Row n (0::sortI ys):=⟨by rw[zzQ,hlen];omega,λy m=>by
    rcases zS.mp m with rfl|m
    · omega
    · exact(l2 y (hp.mem_iff.mp m)).1⟩
   have s3:=Zd (i:=3) (as:=[sI 1,sI n,sI z,sN (ys.map lfI),e4]) (zrf (i:=3) (g:=zmK) (zs:=(sortI ys).map D.int) rfl (by
    show(W0 (ys.map D.int)).bind _=_
    rw[zhy]
    show(if ys.length<64 then _ else _)=_
    rw[if_pos (by omega)])) (zF rfl)
   rw[zjl]at s3
   refine⟨_,hr,ldM hm rfl (λa ha=>(rowAt hr ha).2) λa b ha hb hab=>?_,Zj rfl (zT (yQ (eqT (zb (i:=0) rfl) zj rfl) rfl) (zT (Zd (i:=3) (Vy yK (szl rfl)) (zF rfl)) (zT (Z0 (zgS (i:=1) (j:=n) (zE zj (zE (zb (i:=1) rfl) zQ)) (by omega) (by omega) (by omega) (by omega)) (by rw[show((n:Int)-1).toNat=n-1 by omega];exact hf)) (zT (vG (eqT (zb (i:=0) rfl) zj rfl) s3) (vd (zpd (i:=3) (xs:=sortI ys) (ds:=[.int 0]) (Y7 (os:=[lfI 0]) (zN zj yK) (szl rfl) rfl rfl) rfl (by rw[hlen];show 1+_<=_;omega)))))))⟩
   by_cases he:a=b
   · rw[he];exact Int.le_refl _
   have a0:=ha.1
   have b1:=hb.2
   have hs:(0::sortI ys).Pairwise (· <= ·):=List.pairwise_cons.mpr ⟨λy m=>(l2 y (hp.mem_iff.mp m)).1.1,WM ys⟩
   rw[Wn (by rw[hr.1];omega),Wn (by rw[hr.1];omega)]
   exact zkq hs (by omega) (by rw[hr.1];omega)
 · obtain⟨ys,z,e4,l1,l2,hf⟩:=zng (k:=2) (x:=x) (n:=n) (.inr rfl) hn hn2
   have hr:Row n (0::ys):=⟨by rw[zzQ,l1];omega,λy m=>by
    rcases zS.mp m with rfl|m
    · omega
    · exact(l2 y m).1⟩
   refine⟨_,hr,ldL rfl (λa ha=>(rowAt hr ha).2) λa ha ha0=>?_,Zj rfl (zT (yQ (eqT (zb (i:=0) rfl) zj rfl) rfl) (zT (Zd (i:=3) (Vy yK (szl rfl)) (zF rfl)) (zT (Z0 (zgS (i:=1) (j:=n) (zE zj (zE (zb (i:=1) rfl) zQ)) (by omega) (by omega) (by omega) (by omega)) (by rw[show((n:Int)-1).toNat=n-1 by omega];exact hf)) (zT (yQ (eqT (zb (i:=0) rfl) zj rfl) rfl) (vd (zpd (i:=3) (xs:=ys) (ds:=[.int 0]) (Y7 (os:=[lfI 0]) (zN zj yK) (szl rfl) rfl rfl) rfl (by rw[l1];show 1+_<=_;omega)))))))⟩
   have a0:=ha.1
   have a1:=ha.2
   have hk:a.toNat<(0::ys).length:=by rw[hr.1];omega
   rw[Wn hk]
   obtain⟨j,ek⟩:∃j,a.toNat=j+1:=⟨a.toNat-1,by omega⟩
   have:(0::ys)[a.toNat]=ys[j]'(by rw[zzQ]at hk;omega):=by simp only[ek,List.getElem_cons_succ]
   rw[this]
   have:=(l2 _ (zyX (show j<ys.length by rw[zzQ]at hk;omega))).2 rfl
   omega
 · obtain⟨r,r1,r2⟩:=ziQ (f:=λa=>if x%2=0 then a else sP a) (N:=4) (n:=4) (u:=true) (as:=[sI 3,sI (4:Nat),sI x,none,none]) (cap:=[none,some 2]) (fr:=aC (fV 1) aN) (fe:=f2 (Yb (dC (fV 0) (dC (f2 (f2 (f2 (fC (.int 2)) (f2 (fC (.int 1)) (f2 (fV 0) (fC (.int 2)) (zm .Mod)) (zm .Sub)) (zm .Mult)) (fC (.int 1)) (zm .Add)) (f2 (fV 0) (fC (.int 2)) (zm .FloorDiv)) (zm .Sub)) dN))) (f2 (fV 1) (fC (.int 2)) (zm .Mod)) ixP) (zE (zb rfl) zQ) (by omega) λb hb=>by
    have b0:=hb.1
    have b1:=hb.2
    refine⟨[sI b,sI x],rfl,zcG (Y7 (os:=[lfI b,lfI (2*(1-b%2)+1-b/2)]) (zN (zb (i:=0) rfl) (zN (zfw (yO (wO zj (zfw zj (yq (zb (i:=0) rfl) zj (by decide))) (zP (by decide) (by decide)) (zP (by omega) (by omega))) zj) (xQ (zb (i:=0) rfl) zj (by decide) (zP (by decide) (by decide)))) yK)) (szl rfl) rfl rfl) (WD.e (yq (zb (i:=1) rfl) zj (by decide))) zjS, ?_⟩
    show InR 4 (if x%2=0 then b else sP b)
    split
    · exact hb
    · exact f4 (P:=λa=>InR 4 (sP a)) (by decide) hb
   refine⟨r,⟨r1.1,r1.2.1⟩,ldP ?_,Zj rfl (zde (zfy (eqT (zb (i:=0) rfl) zj rfl) (vd r2)))⟩
   by_cases hx:x%2=0
   · exact .inl λa ha=>(r1.2.2 a ha).trans (if_pos hx)
   · exact .inr λa ha=>(r1.2.2 a ha).trans (if_neg hx)
theorem zej{k x:Int}{n m:Nat}(h:KN k n)(hn2:n<=8)(hm0:0<m)(hm:m<=8)(hx:St x):∃T,Tab m n T/\LD n m (jK k n) (eK k) (jAt T)/\RE (xj [(true,.int k),(true,.int n),(true,.int m),(true,.int x)]) (yr T):=by
 have n1:=h.n1
 have hJ:=ljK h
 by_cases h0:k=0
 · subst h0
   obtain⟨g,g0,g1,gn,gm,hg⟩:=zkr (n:=n) (m:=m) n1 hn2 hm
   have q0:0<=(n:Int)/g:=Int.ediv_nonneg (by omega) (by omega)
   have q1:(n:Int)/g<=n:=Int.ediv_le_self _ (by omega)
   have hLD:=ldS (x0:=x%8) (x1:=x/8%8) n1 hm0 g0 gn gm
   have hd:WD (f2 (fV 1) (zJ (aC (fV 1) (aC (fV 2) aN)) vH) (zm .FloorDiv)) [sI 0,sI n,sI m,sI x,none,none] true (.int ((n:Int)/g)):=xQ (zb (i:=1) rfl) (vg (zE (zb (i:=1) rfl) (zE (zb (i:=2) rfl) zQ)) hg) g0 (zP (by omega) (by omega))
   generalize (n:Int)/g=q at q0 q1 hLD hd
   have y0:=zyK (x/8) (show(8:Int)≠0 by decide)
   have y1:=zyE (x/8) (show(0:Int)<8 by decide)
   have z0:=zyK x (show(8:Int)≠0 by decide)
   have z1:=zyE x (show(0:Int)<8 by decide)
   have s5:=yx (st:=true) (i:=5) (as:=[sI 0,sI n,sI m,sI x,none,none]) (wO hd (yq (xQ (zb (i:=3) rfl) (zj (x:=.int 8)) (by decide) (zP (by decide) (by decide))) (zj (x:=.int 8)) (by decide)) (zP (by omega) (by omega)) (zP (by omega) (by omega))) (zF rfl)
   have st0:0<=q*(x/8%8):=Int.mul_nonneg q0 y0
   have st1:q*(x/8%8)<=8*8:=Int.mul_le_mul (by omega) (by omega) y0 (by decide)
   obtain⟨T,t1,t2⟩:=ziP (f:=λc a=>(x%8*a+q*(x/8%8)*c)%n) (n:=n) (k:=m) (u:=true) (as:=[sI 0,sI n,sI m,sI x,none,sI (q*(x/8%8))]) (cap:=[none,some 1,some 5,some 3]) (fr:=aC (fV 2) aN)
    (fe:=yw (yE (aC (fV 1) aN) yI) [none,some 1,some 2,some 0,some 3] (gN 0) xG (f2 (f2 (f2 (f2 (fV 4) (fC (.int 8)) (zm .Mod)) (fV 0) (zm .Mult)) (f2 (fV 2) (fV 3) (zm .Mult)) (zm .Add)) (fV 1) (zm .Mod))) (zE (zb rfl) zQ) (by omega) λc hc=>by
     have c0:=hc.1
     have c1:=hc.2
     obtain⟨r,r1,r2⟩:=ziQ (f:=λa=>(x%8*a+q*(x/8%8)*c)%n) (N:=n) (n:=n) (u:=true) (as:=[sI c,sI n,sI (q*(x/8%8)),sI x]) (cap:=[none,some 1,some 2,some 0,some 3]) (fr:=aC (fV 1) aN) (fe:=f2 (f2 (f2 (f2 (fV 4) (fC (.int 8)) (zm .Mod)) (fV 0) (zm .Mult)) (f2 (fV 2) (fV 3) (zm .Mult)) (zm .Add)) (fV 1) (zm .Mod)) (zE (zb rfl) zQ) (by omega) λb hb=>by
      have b0:=hb.1
      have b1:=hb.2
      exact⟨[sI b,sI n,sI (q*(x/8%8)),sI c,sI x],rfl,WD.e (yq (yO (wO (yq (zb (i:=4) rfl) zj (by decide)) (zb (i:=0) rfl) (zP (by omega) (by omega)) (zP (by omega) (by omega))) (wO (zb (i:=2) rfl) (zb (i:=3) rfl) (zP (by omega) (by omega)) (zP (by omega) (by omega)))) (zb (i:=1) rfl) (by omega)),zbR n1⟩
     exact⟨[sI c,sI n,sI (q*(x/8%8)),sI x],r,rfl,r2,r1⟩
   refine⟨T,t1.1,hLD.congr hm0 (ljS n1) (λ_ _ _ _=>rfl) (λc a hc ha=>?_),Zj rfl (zT (yQ (wC (zhA (zb (i:=0) rfl) zj) rfl) rfl) (zT s5 (vd t2)))⟩
   rw[t1.2 c a hc ha]
   show(x%8*a+q*(x/8%8)*c)%(n:Int)=(a*(x%8)+c*q*(x/8%8))%(n:Int)
   rw[Int.mul_comm (x%8) a,Int.mul_comm (q*(x/8%8)) c,Int.mul_assoc c q]
 · have hk:0<k:=by rcases h with⟨rfl,_⟩|⟨rfl,_⟩|⟨rfl,_⟩|⟨rfl,_⟩<;>omega
   obtain⟨r,hr,hd,hi⟩:=zjO (x:=x) h h0 hn2 hm0
   obtain⟨T,t1,t2⟩:=copies (n:=n) (m:=m) (s:=true) (u:=true) (cap:=[none,some 4]) (as:=[sI k,sI n,sI m,sI x,sT (yR r),none]) (fr:=aC (fV 2) aN) hr hm (zE (zb rfl) zQ) (λb=>⟨[sI b,sT (yR r)],rfl,zb rfl⟩)
   exact⟨T,t1.1,hd.congr hm0 hJ (λ_ _ _ _=>rfl) t1.2,Zj rfl (zde (zfy (wC (zhA (zb (i:=0) rfl) zj) (congrArg some (zyL hk))) (zT (Yp (p:=4) (ziv (WD.e (zb (i:=0) rfl)) (WD.e (zb (i:=1) rfl)) (WD.e (zb (i:=3) rfl)) hi) (zF rfl)) (vd t2))))⟩
open L2 (yN)
theorem kinds_ok{x:Int}:∃(k:Int) (n:Nat) (k2:Int) (n2:Nat),KN k n/\KN k2 n2/\n*n2<=8/\eK k2=0/\RE (Zm [(true,.int x)]) (.tup [.int k,.int n,.int k2,.int n2]):=by
 have s1:zK true 1 (f2 (fV 0) (fC (.int 4)) (zm .Mod)) [sI x,none,none,none]=some (.nx [sI x,sI (x%4),none,none]):=yx (i:=1) (yq (zb (i:=0) rfl) zj (by decide)) (zF rfl)
 obtain⟨sz,z1,z8,s2⟩:∃sz:Int,1<=sz/\sz<=8/\zK true 2 (f2 (Yb (dC (f2 (fC (.int 1)) (f2 (f2 (fV 0) (fC (.int 4)) (zm .FloorDiv)) (fC (.int 5)) (zm .Mod)) (zm .Add)) (dC (f2 (fC (.int 1)) (f2 (f2 (fV 0) (fC (.int 4)) (zm .FloorDiv)) (fC (.int 8)) (zm .Mod)) (zm .Add)) dN))) (fP (aC (f2 (f2 (f2 (fV 0) (fC (.int 40)) (zm .FloorDiv)) (fC (.int 4)) (zm .Mod)) (fC (.int 1)) (zZ .Eq)) aN) Wb) ixP) [sI x,sI (x%4),none,none]=some (.nx [sI x,sI (x%4),sI sz,none]):=by
  have w5:=yO (as:=[sI x,sI (x%4),none,none]) (zj (x:=.int 1)) (yq (xQ (zb (i:=0) rfl) (zj (x:=.int 4)) (by decide) (zP (by decide) (by decide))) (zj (x:=.int 5)) (by decide))
  have w8:=yO (as:=[sI x,sI (x%4),none,none]) (zj (x:=.int 1)) (yq (xQ (zb (i:=0) rfl) (zj (x:=.int 4)) (by decide) (zP (by decide) (by decide))) (zj (x:=.int 8)) (by decide))
  refine⟨if(x/40%4==1)=true then 1+x/4%8 else 1+x/4%5,by split<;>omega,by split<;>omega,yx (i:=2) (f2E (Y7 (os:=[lfI (1+x/4%5),lfI (1+x/4%8)]) (zN w5 (zN w8 yK)) (szl rfl) rfl rfl) (WD.e (Yc (zE (zdv (c:=x/40%4==1) (yq (xQ (zb (i:=0) rfl) (zj (x:=.int 40)) (by decide) (zP (by decide) (by decide))) (zj (x:=.int 4)) (by decide)) (zj (x:=.int 1)) rfl) zQ) rfl rfl)) zmw) (zF rfl)⟩
 obtain⟨n,hk,n8,s3⟩:∃n:Nat,KN (x%4) n/\n<=8/\sIf (fT (f2 (fV 1) (fC (.int 3)) (zZ .Eq))) (zK true 2 (fC (.int 4))) sNx [sI x,sI (x%4),sI sz,none]=some (.nx [sI x,sI (x%4),sI n,none]):=by
  by_cases h3:x%4=3
  · exact⟨4,by rw[h3];exact .inr (.inr (.inr ⟨rfl,rfl⟩)),by decide,vG (eqT (zb (i:=1) rfl) zj (by simp[h3])) (yx (i:=2) zj (zF rfl))⟩
  · refine⟨sz.toNat, ?_,by omega,(yQ (eqT (zb (i:=1) rfl) zj (by simp[h3])) rfl).trans (by rw[show((sz.toNat:Nat):Int)=sz by omega];rfl)⟩
    rcases(show x%4=0\/x%4=1\/x%4=2 by omega)with h|h|h<;>rw[h]
    · exact .inl ⟨rfl,by omega⟩
    · exact .inr (.inl ⟨rfl,by omega⟩)
    · exact .inr (.inr (.inl ⟨rfl,by omega⟩))
 have s4:zK true 3 (f2 (fC (.int 1)) (f2 (f2 (fV 0) (fC (.int 160)) (zm .FloorDiv)) (fC (.int 3)) (zm .Mod)) (zm .Add)) [sI x,sI (x%4),sI n,none]=some (.nx [sI x,sI (x%4),sI n,sI (1+x/160%3)]):=yx (i:=3) (yO zj (yq (xQ (zb (i:=0) rfl) zj (by decide) (zP (by decide) (by decide))) zj (by decide))) (zF rfl)
 have n1:=hk.n1
 obtain⟨n2,p2,q2,s5⟩:∃n2:Nat,1<=n2/\n*n2<=8/\sIf (fT (f2 (f2 (fV 2) (fV 3) (zm .Mult)) (fC (.int 8)) (zZ .Gt))) (zK true 3 (fC (.int 1))) sNx [sI x,sI (x%4),sI n,sI (1+x/160%3)]=some (.nx [sI x,sI (x%4),sI n,sI n2]):=by
  have wm:=zhA (wO (as:=[sI x,sI (x%4),sI n,sI (1+x/160%3)]) (zb (i:=2) rfl) (zb (i:=3) rfl) (zP (i:=(n:Int)) (by omega) (by omega)) (zP (i:=1+x/160%3) (by omega) (by omega))) (zj (x:=.int 8))
  by_cases h:(8:Int)<(n:Int)*(1+x/160%3)
  · exact⟨1,by decide,by omega,vG (wC wm (congrArg some (zyL h))) (yx (i:=3) zj (zF rfl))⟩
  · have e:(((1+x/160%3).toNat:Nat):Int)=1+x/160%3:=by omega
    refine⟨(1+x/160%3).toNat,by omega, ?_,(yQ (wC wm (congrArg some (zyD h))) rfl).trans (by rw[e];rfl)⟩
    have:((n*(1+x/160%3).toNat:Nat):Int)<=8:=by rw[zzS,e];omega
    omega
 have w7:=yq (as:=[sI x,sI (x%4),sI n,sI n2]) (xQ (zb (i:=0) rfl) (zj (x:=.int 480)) (by decide) (zP (by decide) (by decide))) (zj (x:=.int 3)) (by decide)
 refine⟨x%4,n,x/480%3,n2,hk, ?_,q2, ?_,Zj rfl (zT s1 (zT s2 (zT s3 (zT s4 (zT s5 (vd (zeI (os:=[lfI (x%4),lfI n,lfI (x/480%3),lfI n2]) (zN (zb (i:=1) rfl) (zN (zb (i:=2) rfl) (zN w7 (zN (zb (i:=3) rfl) yK)))) (szl rfl) rfl rfl)))))))⟩
 · rcases(show x/480%3=0\/x/480%3=1\/x/480%3=2 by omega)with h|h|h<;>rw[h]
   · exact .inl ⟨rfl,by omega⟩
   · exact .inr (.inl ⟨rfl,by omega⟩)
   · exact .inr (.inr (.inl ⟨rfl,by omega⟩))
 · exact if_neg (by omega)
abbrev ch(c:Nat):Str:=⟨#[c]⟩
theorem zgu:∀cs:List Nat,(Str.join "" (cs.map ch)).cps.toList=cs
 | []=>rfl
 | [x]=>rfl
 |x::y::r=>by
  show(ch x++""++Str.join "" ((y::r).map ch)).cps.toList=_
  rw[Str.cps_append,Str.cps_append,Array.toList_append,Array.toList_append,zgu (y::r)]
  rfl
def lt(c:Int)(k:Nat)(at_:Int)(i:Nat):Nat:=97+((mx c i/64+(k:Int)*(if((i:Int)==at_)=true then 1 else 0))%26).toNat
def wd(c:Int)(n:Nat)(at_:Int)(k:Nat):Str:=Str.join "" (((List.range n).map (lt c k at_)).map ch)
theorem zrd{c at_:Int}{n k j:Nat}(h0:0<=at_)(h1:at_<n)(hk:k<10)(hj:j<10)(h:wd c n at_ k=wd c n at_ j):k=j:=by
 have h:=congrArg (λs:Str=>s.cps.toList[at_.toNat]?) h
 simp only[wd,zgu,zzF]at h
 rw[List.getElem?_range (by omega)]at h
 have h:some (lt c k at_ at_.toNat)=some (lt c j at_ at_.toNat):=h
 injection h with h
 unfold lt at h
 rw[show((at_.toNat:Nat):Int)=at_ by omega]at h
 simp only[beq_self_eq_true,if_true,Int.mul_one]at h
 omega
theorem zqd{c at_:Int}{n k:Nat}(hn:n<=8):pOk (.str (wd c n at_ k))=true:=by
 have e:=zgu ((List.range n).map (lt c k at_))
 show((wd c n at_ k).cps.toList.all (λc=>decide (c<16 ^ 8))&&decide ((wd c n at_ k).length<=100))=true
 have e2:(wd c n at_ k).length=n:=by
  show(wd c n at_ k).cps.size=n
  rw[<-zyQ]
  unfold wd
  rw[e,zD,zyR]
 rw[e2,zzZ]
 refine⟨?_,zyL (by omega)⟩
 unfold wd
 rw[e,List.all_eq_true]
 intro x hx
 obtain⟨i,_,rfl⟩:=zxB.mp hx
 refine zyL ?_
 unfold lt
 have:=zyE (mx c i/64+(k:Int)*(if((i:Int)==at_)=true then 1 else 0)) (show(0:Int)<26 by decide)
 omega
theorem zlN{c:Int}:∃ss:List Str,ss.length=10/\ss.Nodup/\(∀s ∈ ss,pOk (.str s)=true)/\RE (Zk [(true,.int c),(true,.int (10:Nat))]) (.lst (ss.map D.str)):=by
 have z0:=zyK c (show(8:Int)≠0 by decide)
 have z1:=zyE c (show(0:Int)<8 by decide)
 obtain⟨n,hn,hn1,hn8⟩:∃n:Nat,(n:Int)=1+c%8/\1<=n/\n<=8:=⟨(1+c%8).toNat,by omega,by omega,by omega⟩
 have t0:=zyK (c/8) (show(n:Int)≠0 by omega)
 have t1:=zyE (c/8) (show(0:Int)<n by omega)
 have s3:=yx (st:=true) (i:=3) (as:=[sI c,sI (10:Nat),sT (.str abc),none,none,none,none,none]) (yO (zj (x:=.int 1)) (yq (zb (i:=0) rfl) (zj (x:=.int 8)) (by decide))) (zF rfl)
 rw[<-hn]at s3
 have s4:=yx (st:=true) (i:=4) (as:=[sI c,sI (10:Nat),sT (.str abc),sI n,none,none,none,none]) (yq (xQ (zb (i:=0) rfl) (zj (x:=.int 8)) (by decide) (zP (by decide) (by decide))) (zb (i:=3) (x:=.int n) (s:=true) rfl) (by omega)) (zF rfl)
 generalize hat:c/8%(n:Int)=at_ at t0 t1 s4
 obtain⟨as',hf,os,e6,e7,rfl,ho⟩:=vB (g:=gN 6) (f:=(zB (zK true 7 (yw (yE (aC (fV 3) aN) yI) [none,some 2,some 6,some 0,some 4] (gN 0) xG (f2 (fV 1) (f2 (f2 (f2 (zJ (aC (fV 3) (aC (fV 0) aN)) yL) (fC (.int 64)) (zm .FloorDiv)) (f2 (fV 2) (fP (aC (f2 (fV 0) (fV 4) (zZ .Eq)) aN) Wb) (zm .Mult)) (zm .Add)) (fC (.int 26)) (zm .Mod)) ixP)))
  (wJ (ZX 5 (dC (zdA .str (fC (.str "")) (aC (fV 7) aN) zgP) dN) Ye))))
  (λi as=>∃(os:List O) (e6 e7:Option O),as=[sI c,sI (10:Nat),sT (.str abc),sI n,sI at_,sN os,e6,e7]/\Ows D.str (λ_=>True) os ((List.range i).map (wd c n at_)))
  (wz 0 10) 0 [sI c,sI (10:Nat),sT (.str abc),sI n,sI at_,sN [],none,none] (λi x as hx' hI=>by
   obtain⟨os,e6,e7,rfl,ho⟩:=hI
   obtain⟨rfl,hi⟩:=wU hx'
   rw[zyV]at ho
   rw[Int.zero_add]
   obtain⟨l,l1,l2,l3⟩:=zoi (λc=>D.str (ch c)) (Q:=λj a=>a=lt c i at_ j) (n:=n) (u:=true) (as:=[sI c,sI (10:Nat),sT (.str abc),sI n,sI at_,sN os,sI i,e7]) (cap:=[none,some 2,some 6,some 0,some 4]) (fr:=aC (fV 3) aN) (fe:=f2 (fV 1) (f2 (f2 (f2 (zJ (aC (fV 3) (aC (fV 0) aN)) yL) (fC (.int 64)) (zm .FloorDiv)) (f2 (fV 2) (fP (aC (f2 (fV 0) (fV 4) (zZ .Eq)) aN) Wb) (zm .Mult)) (zm .Add)) (fC (.int 26)) (zm .Mod)) ixP) (zE (zb rfl) zQ) (by omega) λj hj=>by
    have q0:=zyK (mx c j/64+(i:Int)*(if((j:Int)==at_)=true then 1 else 0)) (show(26:Int)≠0 by decide)
    have q1:=zyE (mx c j/64+(i:Int)*(if((j:Int)==at_)=true then 1 else 0)) (show(0:Int)<26 by decide)
    refine⟨[sI j,sT (.str abc),sI i,sI c,sI at_],_,rfl,WD.e (xF (zb (i:=1) rfl) (yq (yO (xQ (vg (zE (zb (i:=3) rfl) (zE (zb (i:=0) rfl) zQ)) (zel (by omega) (by omega))) zj (by decide) (zP (by decide) (by decide))) (wO (zb (i:=2) rfl) (Yc (x:=.int (if((j:Int)==at_)=true then 1 else 0)) (zE (zdv (c:=(j:Int)==at_) (zb (i:=0) rfl) (zb (i:=4) rfl) rfl) zQ) rfl rfl) (zP (by omega) (by omega)) (by split<;>exact zP (by decide) (by decide)))) zj (by decide)) (zpF q0 q1) rfl),rfl⟩
   have el:l=(List.range n).map (lt c i at_):=by
    refine List.ext_getElem? λj=>?_
    rw[zzF]
    by_cases hj:j<n
    · rw[List.getElem?_range hj,zzB (by omega),l2 j _ (zzB (by omega))];rfl
    · rw[List.getElem?_eq_none (by omega),List.getElem?_eq_none (by rw[zyR];omega)];rfl
   have hm:WE (zdA .str (fC (.str "")) (aC (fV 7) aN) zgP) [sI c,sI (10:Nat),sT (.str abc),sI n,sI at_,sN os,sI i,sT (.lst (l.map λc=>D.str (ch c)))] (.str (wd c n at_ i)):=by
    refine WD.e (znv zj rfl (zE (zb (i:=7) rfl) zQ) ?_ rfl)
    have e1:l.map (λc=>D.str (ch c))=(l.map ch).map D.str:=by rw[zzY];rfl
    rw[e1]
    show(zcH ((l.map ch).map D.str)).bind _=_
    rw[zgU]
    show(if((l.map ch).map (·.length)).sum+(l.map ch).length*0<=16777216 then some (R0.im (.str (Txt.join "" (l.map ch))))else none)=_
    have e2:=zrF (l.map ch) λs m=>by
     obtain⟨a,_,rfl⟩:=zxB.mp m
     rfl
    rw[if_pos (by rw[e2,zD];omega),zlq,el];rfl
   obtain⟨os',o1,o2⟩:=zte (i:=5) (toD:=D.str) (Q:=λ_=>True) rfl ho (by rw[zD,zyR];omega) hm trivial
   refine⟨[sI c,sI (10:Nat),sT (.str abc),sI n,sI at_,sN os,sI i,e7],rfl,_,yg (Yp (p:=7) l3 (zF rfl)) o2,os',_,_,rfl, ?_⟩
   rw[show 0+i+1=i+1 by omega,List.range_succ,zyJ]
   exact o1)
  ⟨[],none,none,rfl,Ows.nil⟩
 rw[xr,zyV]at ho
 refine⟨(List.range 10).map (wd c n at_),by rw[zD,zyR], ?_,λs ms=>?_,Zj rfl (zT (yx (i:=2) zj (zF rfl)) (zT s3 (zT s4 (zT (Zd (i:=5) (Vy yK (szl rfl)) (zF rfl)) (zT (Z0 (vm (zE (zb (i:=1) rfl) zQ) (by decide) (by decide)) hf) (Ows.retB (i:=5) rfl ho))))))⟩
 · exact List.pairwise_map.mpr ((List.nodup_range (n:=10)).imp_of_mem λha hb hne he=>hne (zrd t0 t1 (List.mem_range.mp ha) (List.mem_range.mp hb) he))
 · obtain⟨k,_,rfl⟩:=zxB.mp ms
   exact zqd hn8
open L2 (yN)
structure Par where
 c:Int
 h:Int
 w:Nat
 xs:List Int
 ys:List Int
 k:Int
 n:Nat
 k2:Int
 n2:Nat
 m:Nat
structure POk(P:Par):Prop where
 k1:KN P.k P.n
 k2:KN P.k2 P.n2
 n8:P.n*P.n2<=8
 e2:eK P.k2=0
 m1:1<=P.m
 m6:P.m<=6
 w4:P.w<=4
 xl:P.xs.length=1+2*P.w
 xS:∀x ∈ P.xs,St x
 yl:P.ys.length=13
 yS:∀x ∈ P.ys,St x
abbrev Par.N(P:Par):Nat:=P.n*P.n2
theorem POk.n1{P:Par}(h:POk P):1<=P.n:=h.k1.n1
theorem POk.p2{P:Par}(h:POk P):1<=P.n2:=h.k2.n1
theorem POk.a8{P:Par}(h:POk P):P.n<=8:=zzL (Nat.le_mul_of_pos_right _ h.p2) h.n8
theorem POk.b8{P:Par}(h:POk P):P.n2<=8:=zzL (Nat.le_mul_of_pos_left _ h.n1) h.n8
theorem POk.N1{P:Par}(h:POk P):1<=P.N:=Nat.mul_pos h.n1 h.p2
abbrev Z(P:Par)(e11 e12 e13 e14 e15 e16 e17 e18 e19 e20 e21 e22 e23 e24 e25 e26 e27:Option O):AS:=
 [sI P.c,sI P.h,sI P.w,sT (yR P.xs),sT (yR P.ys),sI P.k,sI P.n,sI P.k2,sI P.n2,sI P.m,sI P.N,e11,e12,e13,e14,e15,e16,e17,e18,e19,e20,e21,e22,e23,e24,e25,e26,e27]
def Rq(r:Option Out)(Q:D->Prop):Prop:=∃x,Rt r x/\Q x
theorem Z2{f g:SF}{as as1:AS}{Q:D->Prop}(h1:f as=some (.nx as1))(h2:Rq (g as1) Q):Rq (zB f g as) Q:=by
 obtain⟨x,h,q⟩:=h2
 exact⟨x,zT h1 h,q⟩
theorem zqD{f:SF}{as:AS}{i:Nat}{o:O}{Q:D->Prop}(h:as[i]? = some (some o))(k:Rq (f (as.set i (some o.frz))) Q):Rq (zjV i f as) Q:=by
 unfold zjV
 rw[h];exact k
theorem zoP{c h:Int}{w:Nat}(hw:w<=4){f:SF}{Q:D->Prop}(K:∀P:Par,POk P->P.w=w->P.h=h->Rq (f (Z P none none none none none none none none none none none none none none none none none)) Q):
 Rq ((zB (zK true 3 (zJ (aC (fV 0) (aC (f2 (fC (.int 1)) (f2 (fC (.int 2)) (fV 2) (zm .Mult)) (zm .Add)) aN)) xg))
 (zB (zK true 4 (zJ (aC (fV 1) (aC (fC (.int 13)) aN)) xg))
 (zB (zgY (zJ (aC (f2 (fV 3) (fC (.int 0)) ixP) aN) Zm) (gT 4 (gsC (gN 5) (gsC (gN 6) (gsC (gN 7) (gsC (gN 8) gsN))))))
 (zB (zK true 9 (f2 (f2 (fC (.int 1)) (f2 (f2 (fV 4) (fC (.int 0)) ixP) (fC (.int 4)) (zm .Mod)) (zm .Add)) (f2 (fC (.int 2)) (fP (aC (f2 (f2 (f2 (f2 (fV 4) (fC (.int 0)) ixP) (fC (.int 4)) (zm .FloorDiv)) (fC (.int 8)) (zm .Mod)) (fC (.int 5)) (zZ .Eq)) aN) Wb) (zm .Mult)) (zm .Add)))
 (zB (zK true 10 (f2 (fV 6) (fV 8) (zm .Mult))) f))))) (xW 28 [(true,.int c),(true,.int h),(true,.int w)])) Q:=by
 have w1:=yO (as:=xW 28 [(true,.int c),(true,.int h),(true,.int w)]) (zj (x:=.int 1)) (wO (zj (x:=.int 2)) (zb (i:=2) (s:=true) (x:=.int w) rfl) (zP (by decide) (by decide)) (zP (by omega) (by omega)))
 rw[show(1:Int)+2*(w:Int)=((1+2*w:Nat):Int) by omega]at w1
 obtain⟨xs,xl,xS,wx⟩:=stE (m:=1+2*w) (by omega) (WD.e (zb (i:=0) (as:=xW 28 [(true,.int c),(true,.int h),(true,.int w)]) rfl)) (WD.e w1)
 obtain⟨ys,yl,yS,wy⟩:=stE (m:=13) (as:=[sI c,sI h,sI w,sT (yR xs),none,none,none,none,none,none,none,none,none,none,none,none,none,none,none,none,none,none,none,none,none,none,none,none]) (b:=fC (.int 13)) (by omega) (WD.e (zb (i:=1) rfl)) (WD.e zj)
 obtain⟨x0,a0,b0⟩:=at2 xS (k:=0) (by omega) (by omega)
 obtain⟨y0,c0,d0⟩:=at2 yS (k:=0) (by omega) (by omega)
 obtain⟨k,n,k2,n2,h1,h2,h3,h4,h5⟩:=kinds_ok (x:=x0)
 have hm0:1<=1+y0%4+2*(if(y0/4%8==5)=true then 1 else 0)/\1+y0%4+2*(if(y0/4%8==5)=true then 1 else 0)<=6:=by split<;>omega
 obtain⟨m,hm⟩:∃m:Nat,(m:Int)=1+y0%4+2*(if(y0/4%8==5)=true then 1 else 0):=⟨(1+y0%4+2*(if(y0/4%8==5)=true then 1 else 0)).toNat,by omega⟩
 have P1:POk ⟨c,h,w,xs,ys,k,n,k2,n2,m⟩:=⟨h1,h2,h3,h4,by show 1<=m;omega,by show m<=6;omega,hw,xl,xS,yl,yS⟩
 have A8:n<=8:=P1.a8
 have B8:n2<=8:=P1.b8
 have y4:WD (f2 (fV 4) (fC (.int 0)) ixP) [sI c,sI h,sI w,sT (yR xs),sT (yR ys),sI k,sI n,sI k2,sI n2,none,none,none,none,none,none,none,none,none,none,none,none,none,none,none,none,none,none,none] true (.int y0):=xF (zb (i:=4) rfl) zj c0 rfl
 have s9:=yx (st:=true) (i:=9) (yO (yO (zj (x:=.int 1)) (yq y4 (zj (x:=.int 4)) (by decide))) (wO (zj (x:=.int 2)) (Yc (g:=Wb) (x:=.int (if(y0/4%8==5)=true then 1 else 0)) (zE (zdv (c:=y0/4%8==5) (yq (xQ y4 (zj (x:=.int 4)) (by decide) (zP (by decide) (by decide))) (zj (x:=.int 8)) (by decide)) (zj (x:=.int 5)) rfl) zQ) rfl rfl) (zP (by decide) (by decide)) (by split<;>exact zP (by decide) (by decide)))) (zF rfl)
 rw[<-hm]at s9
 have s10:=yx (st:=true) (i:=10) (as:=[sI c,sI h,sI w,sT (yR xs),sT (yR ys),sI k,sI n,sI k2,sI n2,sI m,none,none,none,none,none,none,none,none,none,none,none,none,none,none,none,none,none,none]) (wO (zb (i:=6) rfl) (zb (i:=8) rfl) (zP (i:=(n:Int)) (by omega) (by omega)) (zP (i:=(n2:Int)) (by omega) (by omega))) (zF rfl)
 rw[<-zzS]at s10
 exact Z2 (Yp (p:=3) wx (zF rfl)) (Z2 (Yp (p:=4) wy (zF rfl)) (Z2 (zrp (Zt (zcG (WD.e (zb (i:=3) rfl)) (WD.e zj) a0) h5) rfl) (Z2 s9 (Z2 s10 (K ⟨c,h,w,xs,ys,k,n,k2,n2,m⟩ P1 rfl rfl)))))
theorem zlt{P:Par}(h:POk P){f:SF}{Q:D->Prop}(K:∀(F:List Int) (e11 e13:Option O),F.Perm (zbV P.N)->Rq (f (Z P e11 (sT (yR F)) e13 none none none none none none none none none none none none none none)) Q):
 Rq ((zB (zK false 11 (fP (aC (fV 10) aN) lrP))
 (zB (zK false 12 (Yb dN))
 (zB (xN (yE (aC (fV 10) aN) yI) (gN 13) (wJ (ZX 12 (dC (ZX 11 (dC (f2 (f2 (fV 4) (f2 (fC (.int 1)) (fV 13) (zm .Add)) ixP) (fP (aC (fV 11) aN) zit) (zm .Mod)) dN) Wq) dN) Ye)))
 (zjV 12 f)))) (Z P none none none none none none none none none none none none none none none none none)) Q:=by
 have N8:=h.n8
 obtain⟨as',hf,L,F,e13,rfl,hp,hlen⟩:=vB (g:=gN 13) (f:=wJ (ZX 12 (dC (ZX 11 (dC (f2 (f2 (fV 4) (f2 (fC (.int 1)) (fV 13) (zm .Add)) ixP) (fP (aC (fV 11) aN) zit) (zm .Mod)) dN) Wq) dN) Ye))
  (λi as=>∃(L F:List Int) (e13:Option O),as=Z P (sN (L.map lfI)) (sN (F.map lfI)) e13 none none none none none none none none none none none none none none/\(L++F).Perm (zbV P.N)/\L.length+i=P.N)
  (wz 0 P.N) 0 (Z P (sN ((zbV P.N).map lfI)) (sN []) none none none none none none none none none none none none none none none) (λi x as hx' hI=>by
   obtain⟨L,F,e13,rfl,hp,hlen⟩:=hI
   obtain⟨rfl,hi⟩:=wU hx'
   obtain⟨y,a1,b1⟩:=at2 h.yS (k:=1+(0+i)) (by omega) (by rw[h.yl];have:i<P.n*P.n2:=hi;omega)
   have hL0:0<L.length:=by have:i<P.N:=hi;omega
   have hL8:L.length<=8:=zzL (show L.length<=P.N by omega) N8
   have l0:(0:Int)<((L.map lfI).length:Int):=by rw[zD];omega
   have z0:=zyK y (show((L.map lfI).length:Int)≠0 by omega)
   have z1:=zyE y l0
   have hk:(y%((L.map lfI).length:Int)).toNat<L.length:=by rw[zD]at z0 z1 ⊢;omega
   generalize hkk:(y%((L.map lfI).length:Int)).toNat=k at hk
   have pop:=zmE (as:=Z P (sN (L.map lfI)) (sN (F.map lfI)) (sI (0+i)) none none none none none none none none none none none none none none) (i:=11) (os:=L.map lfI) (o:=lfI L[k]) rfl (yq (xF (zb (i:=4) rfl) (yO zj (zb (i:=13) rfl)) a1 rfl) (zsO (i:=11) rfl) l0) z0 z1 (by rw[zD];exact Nat.lt_of_le_of_lt hL8 (by decide)) (by rw[hkk,zzF,zzB hk];rfl)
   rw[hkk,show(L.map lfI).eraseIdx k=(L.eraseIdx k).map lfI by rw[List.eraseIdx_eq_take_drop_succ,List.eraseIdx_eq_take_drop_succ,zyJ,List.map_take,List.map_drop]]at pop
   have hF:F.length<=8:=by
    have e:=hp.length_eq
    rw[zzG,zD,zyR]at e
    have:P.N<=8:=N8
    omega
   have ap:=zdo (i:=12) (os:=F.map lfI) (as:=Z P (sN (L.map lfI)) (sN (F.map lfI)) (sI (0+i)) none none none none none none none none none none none none none none) rfl pop rfl (by rw[zD];exact yN (by omega))
   rw[<-zbr]at ap
   refine⟨Z P (sN (L.map lfI)) (sN (F.map lfI)) (sI (0+i)) none none none none none none none none none none none none none none,rfl,_,ap,L.eraseIdx k,F++[L[k]],_,rfl, ?_,by rw[List.length_eraseIdx_of_lt hk];omega⟩
   rw[<-zxA]
   refine(List.perm_append_singleton _ _).trans ?_
   rw[<-List.cons_append]
   exact((zdO L k hk).append_right F).trans hp)
  ⟨zbV P.N,[],none,rfl,by rw[zyB],by rw[zD,zyR];rfl⟩
 rw[xr]at hlen
 have hL:L=[]:=List.eq_nil_of_length_eq_zero (by omega)
 subst hL
 have s2:=Zd (i:=11) (as:=Z P none none none none none none none none none none none none none none none none none) (zqF (a:=fV 10) (x:=.int P.N) (g:=lrP) (zs:=(zbV P.N).map D.int) (WD.e (zb (i:=10) rfl)) (by
  show(if(0:Int)<=P.N/\(P.N:Int)<=100000 then _ else _)=_
  rw[if_pos ⟨by omega,by have:P.N<=8:=N8;omega⟩,zzY];rfl)) (zF rfl)
 rw[zjl]at s2
 have hfz:(O.nd .ls (F.map lfI)).frz = .lf true (yR F):=by
  show O.lf (O.nd .ls (F.map lfI)).str (O.nd .ls (F.map lfI)).toD=_
  rw[(zbB F).1,(zbB F).2]
 refine Z2 s2 (Z2 (Zd (i:=12) (Vy yK (szl rfl)) (zF rfl)) (Z2 (Z0 (vm (zE (zb (i:=10) rfl) zQ) (by omega) (by have:P.N<=8:=N8;omega)) (by rw[zyF];exact hf)) (zqD (i:=12) rfl ?_)))
 rw[hfz]
 exact K F _ _ hp
open L2 (yN)
abbrev Par.j(P:Par):Int->Int->Int:=jB P.n2 (jK P.k P.n) (jK P.k2 P.n2)
abbrev Par.e(P:Par):Int:=eK P.k*P.n2+eK P.k2
theorem POk.lj{P:Par}(h:POk P):LJ P.N P.j P.e:=ljB (ljK h.k1) (ljK h.k2) h.p2
theorem zeW{as:AS}{F:List Int}{i:Nat}{fi:IF}{xs:List It1}(hF:F.length<=8)(hx:xs.length<=8)(h1:fi as=some (xs,as))(h2:∀y ∈ xs,∃d,y=(true,d))(hc:∀d:D,gN 0 (true,d) (Y4 [none,some i] as)=some [sT d,sT (yR F)]):
 yw fi [none,some i] (gN 0) xG (yw (ZW (fV 1)) [none] (gN 0) xG (fC (.int 0))) as=some (.ow (v5 (List.replicate xs.length (List.replicate F.length (0:Int)))),as):=by
 refine zbl h1 (szs (by omega)) (zhm xs λy m=>?_)
 obtain⟨d,rfl⟩:=h2 y m
 refine⟨_,hc d, ?_⟩
 have e:=zhb (as0:=[none]) (F.map D.int) (λd=>⟨[sT d],rfl⟩)
 rw[zD]at e
 exact zbl (zgX (WD.e (zb (i:=1) rfl))) (szs (by rw[zD,zD];omega)) e
theorem znt{P:Par}(h:POk P){F:List Int}(hF:F.Perm (zbV P.N)){e11 e13:Option O}{f:SF}{Q:D->Prop}(K:∀(J:TZ) (e15 e16 e17:Option O),Tab P.N P.N J->(∀a b,InR P.N a->InR P.N b->jAt J (rAt F a) (rAt F b)=rAt F (P.j a b))->Rq (f (Z P e11 (sT (yR F)) e13 (some (v5 J)) e15 e16 e17 none none none none none none none none none none)) Q):
 Rq ((zB (zK false 14 (yw (ZW (fV 12)) [none,some 12] (gN 0) xG (yw (ZW (fV 1)) [none] (gN 0) xG (fC (.int 0)))))
 (zB (xN (yE (aC (fV 10) aN) yI) (gN 15) (xN (yE (aC (fV 10) aN) yI) (gN 16) (zB (zK true 17 (f2 (zJ (aC (fV 5) (aC (fV 6) (aC (f2 (fV 15) (fV 8) (zm .FloorDiv)) (aC (f2 (fV 16) (fV 8) (zm .FloorDiv)) aN)))) zR) (fV 8) (zm .Mult)))
 (zB (zK true 17 (f2 (fV 17) (zJ (aC (fV 7) (aC (fV 8) (aC (f2 (fV 15) (fV 8) (zm .Mod)) (aC (f2 (fV 16) (fV 8) (zm .Mod)) aN)))) zR) (zm .Add)))
 (Vd 14 (xAt 12 (xV 15)) (xAt 12 (xV 16)) (xAt 12 (xV 17)))))))
 f)) (Z P e11 (sT (yR F)) e13 none none none none none none none none none none none none none none)) Q:=by
 have N8:P.N<=8:=h.n8
 have N1:=h.N1
 have p2:=h.p2
 have b8:=h.b8
 have a8:=h.a8
 obtain⟨hR,_⟩:=YL hF
 have hl:=hR.1
 have hz:=zeW (as:=Z P e11 (sT (yR F)) e13 none none none none none none none none none none none none none none) (F:=F) (i:=12) (xs:=(F.map D.int).map λd=>(true,d)) (by omega) (by rw[zD,zD];omega) (zgX (WD.e (zb (i:=12) rfl))) (λy m=>by
  obtain⟨d,_,rfl⟩:=zxB.mp m
  exact⟨d,rfl⟩) (λd=>rfl)
 rw[zD,zD,hl]at hz
 have lj:=h.lj
 have lk1:=ljK h.k1
 have lk2:=ljK h.k2
 have pN:∀a,InR P.N a->InR P.N (rAt F a):=λa ha=>(rowAt hR ha).2
 have pi:∀a a',InR P.N a->InR P.N a'->rAt F a=rAt F a'->a=a':=λa a' ha ha' e=>zgQ hF ha ha' e
 obtain⟨J,e15,e16,e17,hf,t1,t2⟩:=zjE (v:=15) (K:=P.N) (n:=P.N) (L:=P.N) (M:=P.N) (S:=λT x y z=>Z P e11 (sT (yR F)) e13 (some (v5 T)) x y z none none none none none none none none none none) (f:=rAt F) (g:=rAt F) (w:=λa b=>rAt F (P.j a b)) (F:=xN (yE (aC (fV 10) aN) yI) (gN 16) (zB (zK true 17 (f2 (zJ (aC (fV 5) (aC (fV 6) (aC (f2 (fV 15) (fV 8) (zm .FloorDiv)) (aC (f2 (fV 16) (fV 8) (zm .FloorDiv)) aN)))) zR) (fV 8) (zm .Mult)))
  (zB (zK true 17 (f2 (fV 17) (zJ (aC (fV 7) (aC (fV 8) (aC (f2 (fV 15) (fV 8) (zm .Mod)) (aC (f2 (fV 16) (fV 8) (zm .Mod)) aN)))) zR) (zm .Add)))
  (Vd 14 (xAt 12 (xV 15)) (xAt 12 (xV 16)) (xAt 12 (xV 17)))))) (x0:=none) (y0:=none) (z0:=none) pN pi pN (λ_ _ _ _ _=>rfl) (λT a y z hT ha=>by
   obtain⟨T',y',z',k1,k2,k3,k4⟩:=zmm (v:=16) (K:=P.N) (n:=P.N) (L:=P.N) (S:=λT y z=>Z P e11 (sT (yR F)) e13 (some (v5 T)) (sI a) y z none none none none none none none none none none) (p:=rAt F a) (g:=rAt F) (w:=λb=>rAt F (P.j a b)) (f:=(zB (zK true 17 (f2 (zJ (aC (fV 5) (aC (fV 6) (aC (f2 (fV 15) (fV 8) (zm .FloorDiv)) (aC (f2 (fV 16) (fV 8) (zm .FloorDiv)) aN)))) zR) (fV 8) (zm .Mult)))
  (zB (zK true 17 (f2 (fV 17) (zJ (aC (fV 7) (aC (fV 8) (aC (f2 (fV 15) (fV 8) (zm .Mod)) (aC (f2 (fV 16) (fV 8) (zm .Mod)) aN)))) zR) (zm .Add)))
  (Vd 14 (xAt 12 (xV 15)) (xAt 12 (xV 16)) (xAt 12 (xV 17)))))) (x0:=y) (y0:=z) (pN a ha) pN pi (λb hb=>pN _ (lj.cl a b ha hb)) (λ_ _ _ _=>rfl) (λT b z hT hb=>by
   have ua:=yt p2 ha
   have ub:=yt p2 hb
   have c1:=lk1.cl _ _ ua.1 ub.1
   have j1:=zbw h.k1 ua.1 ub.1
   have j2:=zbw h.k2 ua.2 ub.2
   have b2:(P.n2:Int).natAbs<big:=zP (by omega) (by omega)
   have s1:=yx (st:=true) (i:=17) (as:=Z P e11 (sT (yR F)) e13 (some (v5 T)) (sI a) (sI b) z none none none none none none none none none none) (wO (vg (zE (zb (i:=5) rfl) (zE (zb (i:=6) rfl) (zE (xQ (zb (i:=15) rfl) (zb (i:=8) rfl) (by omega) b2) (zE (xQ (zb (i:=16) rfl) (zb (i:=8) rfl) (by omega) b2) zQ)))) j1) (zb (i:=8) rfl) (zP (by have:=c1.1;omega) (by have:=c1.2;omega)) b2) (zF rfl)
   have s2:=yx (st:=true) (i:=17) (as:=Z P e11 (sT (yR F)) e13 (some (v5 T)) (sI a) (sI b) (sI (jK P.k P.n (a/P.n2) (b/P.n2)*P.n2)) none none none none none none none none none none) (yO (zb (i:=17) rfl) (vg (zE (zb (i:=7) rfl) (zE (zb (i:=8) rfl) (zE (yq (zb (i:=15) rfl) (zb (i:=8) rfl) (by omega)) (zE (yq (zb (i:=16) rfl) (zb (i:=8) rfl) (by omega)) zQ)))) j2)) (zF rfl)
   exact⟨_,yg s1 (yg s2 (zfV (i:=14) (T:=T) hT (pN a ha) (pN b hb) (zkI (i:=12) rfl (ZD (i:=15) rfl) hR ha) (zkI (i:=12) rfl (ZD (i:=16) rfl) hR hb) (zkI (i:=12) rfl (ZD (i:=17) rfl) hR (lj.cl a b ha hb)) rfl))⟩) hT
   refine⟨T',y',z', ?_,k2,k3,k4⟩
   rw[wG (v:=10) (n:=P.N) rfl (by omega)]
   exact k1) (zhk N1)
 refine Z2 (Zd (i:=14) hz (zF rfl)) (Z2 (Z0 (vm (zE (zb (i:=10) rfl) zQ) (by omega) (by omega)) (by rw[zyF];exact hf)) (K J e15 e16 e17 t1 t2))
open L2 (yN)
theorem perm_back{F:List Int}{n:Nat}(h:F.Perm (zbV n)):∃B:Int->Int,(∀a,InR n a->InR n (B a))/\∀a,InR n a->rAt F (B a)=a:=by
 obtain⟨hR,hm⟩:=YL h
 refine⟨λa=>(F.idxOf a:Nat),λa ha=>?_,λa ha=>?_⟩
 · have:=List.idxOf_lt_length_of_mem (hm a ha.1 ha.2)
   rw[hR.1]at this
   exact⟨Int.natCast_nonneg _,Int.ofNat_lt.mpr this⟩
 · have hl:=List.idxOf_lt_length_of_mem (hm a ha.1 ha.2)
   rw[Wn (by rw[zyF];exact hl)]
   simp only[zyF]
   exact List.getElem_idxOf hl
abbrev Good(P:Par)(F:List Int)(J:TZ)(p:Str×TZ):Prop:=Tab P.m P.N p.2/\LD P.N P.m (jAt J) (rAt F P.e) (jAt p.2)
abbrev Y(P:Par)(F:List Int)(J:TZ)(e11 e16:Option O)(ss:List Str)(os:List O)(e13 e15 e17 e20 e21 e22 e23:Option O):AS:=Z P e11 (sT (yR F)) e13 (some (v5 J)) e15 e16 e17 (sT (.lst (ss.map D.str))) (sN os) e20 e21 e22 e23 none none none none
abbrev mdI:SF:=(zB (zK true 17 (f2 (f2 (fV 20) (fV 23) ixP) (f2 (fV 15) (fV 8) (zm .FloorDiv)) ixP))
 (zB (zK true 17 (f2 (f2 (fV 17) (fV 8) (zm .Mult)) (f2 (f2 (fV 21) (fV 23) ixP) (f2 (fV 15) (fV 8) (zm .Mod)) ixP) (zm .Add)))
 (Vd 22 (xV 23) (xAt 12 (xV 15)) (xAt 12 (xV 17)))))
theorem zmB{P:Par}(h:POk P){F:List Int}(hF:F.Perm (zbV P.N)){J T1 T2:TZ}{e11 e16:Option O}{ss:List Str}{os:List O}{e13 e15 e17 e23:Option O}(t1:Tab P.m P.n T1)(t2:Tab P.m P.n2 T2)(l1:LD P.n P.m (jK P.k P.n) (eK P.k) (jAt T1))(l2:LD P.n2 P.m (jK P.k2 P.n2) (eK P.k2) (jAt T2)):
 ∃(T:TZ) (x y z:Option O),forL (gN 23) (xN (yE (aC (fV 10) aN) yI) (gN 15) mdI) (wz 0 P.m) (Y P F J e11 e16 ss os e13 e15 e17 (sT (yr T1)) (sT (yr T2)) (some (v5 (List.replicate P.m (List.replicate P.N 0)))) e23)=some (.nx (Y P F J e11 e16 ss os e13 y z (sT (yr T1)) (sT (yr T2)) (some (v5 T)) x))/\Tab P.m P.N T/\∀c a,InR P.m c->InR P.N a->jAt T c (rAt F a)=rAt F (dB P.n2 (jAt T1) (jAt T2) c a):=by
 have N8:P.N<=8:=h.n8
 have N1:=h.N1
 have p2:=h.p2
 have b8:=h.b8
 have a8:=h.a8
 obtain⟨hR,_⟩:=YL hF
 have ld:=ldB (ljK h.k1) (ljK h.k2) p2 l1 l2
 have pN:∀a,InR P.N a->InR P.N (rAt F a):=λa ha=>(rowAt hR ha).2
 have pi:∀a a',InR P.N a->InR P.N a'->rAt F a=rAt F a'->a=a':=λa a' ha ha' e=>zgQ hF ha ha' e
 exact zjE (v:=23) (K:=P.m) (n:=P.N) (L:=P.N) (M:=P.m) (S:=λT x y z=>Y P F J e11 e16 ss os e13 y z (sT (yr T1)) (sT (yr T2)) (some (v5 T)) x) (f:=λc=>c) (g:=rAt F) (w:=λc a=>rAt F (dB P.n2 (jAt T1) (jAt T2) c a)) (λ_ ha=>ha) (λ_ _ _ _ e=>e) pN (λ_ _ _ _ _=>rfl) (λT c y z hT hc=>by
  obtain⟨T',y',z',k1,k2,k3,k4⟩:=zmm (v:=15) (K:=P.m) (n:=P.N) (L:=P.N) (S:=λT y z=>Y P F J e11 e16 ss os e13 y z (sT (yr T1)) (sT (yr T2)) (some (v5 T)) (sI c)) (p:=c) (g:=rAt F) (w:=λa=>rAt F (dB P.n2 (jAt T1) (jAt T2) c a)) (f:=mdI) (x0:=y) (y0:=z) hc pN pi (λa ha=>pN _ (ld.cl c a hc ha)) (λ_ _ _ _=>rfl) (λT a z hT ha=>by
   have ua:=yt p2 ha
   have b2:(P.n2:Int).natAbs<big:=zP (by omega) (by omega)
   obtain⟨q1,r1⟩:=XM (as:=Y P F J e11 e16 ss os e13 (sI a) z (sT (yr T1)) (sT (yr T2)) (some (v5 T)) (sI c)) t1 hc ua.1 (zb (i:=20) rfl) (zb (i:=23) rfl) (xQ (zb (i:=15) rfl) (zb (i:=8) rfl) (by omega) b2)
   have s1:=yx (st:=true) (i:=17) q1 (zF rfl)
   obtain⟨q2,r2⟩:=XM (as:=Y P F J e11 e16 ss os e13 (sI a) (sI (jAt T1 c (a/P.n2))) (sT (yr T1)) (sT (yr T2)) (some (v5 T)) (sI c)) t2 hc ua.2 (zb (i:=21) rfl) (zb (i:=23) rfl) (yq (zb (i:=15) rfl) (zb (i:=8) rfl) (by omega))
   have s2:=yx (st:=true) (i:=17) (yO (wO (zb (i:=17) rfl) (zb (i:=8) rfl) (zP (i:=jAt T1 c (a/P.n2)) (by have:=r1.1;omega) (by have:=r1.2;omega)) b2) q2) (zF rfl)
   exact⟨_,yg s1 (yg s2 (zfV (i:=22) (T:=T) hT hc (pN a ha) (ZD (i:=23) rfl) (zkI (i:=12) rfl (ZD (i:=15) rfl) hR ha) (zkI (i:=12) rfl (ZD (i:=17) rfl) hR (ld.cl c a hc ha)) rfl))⟩) hT
  refine⟨T',y',z', ?_,k2,k3,k4⟩
  rw[wG (v:=10) (n:=P.N) rfl (by omega)]
  exact k1) (zhk N1)
abbrev ddB:SF:=(zB (zK true 20 (zJ (aC (fV 5) (aC (fV 6) (aC (fV 9) (aC (f2 (fV 3) (f2 (fC (.int 1)) (f2 (fC (.int 2)) (fV 13) (zm .Mult)) (zm .Add)) ixP) aN)))) xj))
 (zB (zK true 21 (zJ (aC (fV 7) (aC (fV 8) (aC (fV 9) (aC (f2 (fV 3) (f2 (fC (.int 2)) (f2 (fC (.int 2)) (fV 13) (zm .Mult)) (zm .Add)) ixP) aN)))) xj))
 (zB (zK false 22 (yw (yE (aC (fV 9) aN) yI) [none,some 12] (gN 0) xG (yw (ZW (fV 1)) [none] (gN 0) xG (fC (.int 0)))))
 (zB (xN (yE (aC (fV 9) aN) yI) (gN 23) (xN (yE (aC (fV 10) aN) yI) (gN 15) mdI))
 (wJ (ZX 19 (dC (xR (dC (f2 (fV 18) (fV 13) ixP) (dC (fV 22) dN))) dN) Ye))))))
theorem take_snoc{α:Type}{l:List α}{i:Nat}{a:α}(h:l[i]? = some a):l.take (i+1)=l.take i++[a]:=by rw[List.take_succ,h];rfl
theorem zkK{P:Par}(h:POk P){F:List Int}(hF:F.Perm (zbV P.N)){J:TZ}(hJ:∀a b,InR P.N a->InR P.N b->jAt J (rAt F a) (rAt F b)=rAt F (P.j a b)){e11 e16:Option O}{ss:List Str}(hs:ss.length=10){i:Nat}(hi:i<P.w){os:List O}{Ds:DD}(ho:Ows ZZ (Good P F J) os Ds)(hD:Ds.map (·.1)=ss.take i){e15 e17 e20 e21 e22 e23:Option O}:
 ∃(os':List O) (Ds':DD) (e15' e17' e20' e21' e22' e23':Option O),ddB (Y P F J e11 e16 ss os (sI i) e15 e17 e20 e21 e22 e23)=some (.nx (Y P F J e11 e16 ss os' (sI i) e15' e17' e20' e21' e22' e23'))/\Ows ZZ (Good P F J) os' Ds'/\Ds'.map (·.1)=ss.take (i+1):=by
 have N8:P.N<=8:=h.n8
 have w4:=h.w4
 have m1:=h.m1
 have m6:=h.m6
 obtain⟨hR,_⟩:=YL hF
 have hxl:=h.xl
 obtain⟨x1,a1,b1⟩:=at2 h.xS (k:=1+2*i) (by omega) (by omega)
 obtain⟨x2,a2,b2⟩:=at2 h.xS (k:=2+2*i) (by omega) (by omega)
 obtain⟨T1,t1,l1,r1⟩:=zej h.k1 h.a8 m1 (by omega) b1
 obtain⟨T2,t2,l2,r2⟩:=zej h.k2 h.b8 m1 (by omega) b2
 have bi:((i:Nat):Int).natAbs<big:=zP (by omega) (by omega)
 have s20:=Yp (p:=20) (as:=Y P F J e11 e16 ss os (sI i) e15 e17 e20 e21 e22 e23) (zkR (WD.e (zb (i:=5) rfl)) (WD.e (zb (i:=6) rfl)) (WD.e (zb (i:=9) rfl)) (WD.e (xF (zb (i:=3) rfl) (yO (zj (x:=.int 1)) (wO (zj (x:=.int 2)) (zb (i:=13) rfl) (zP (by decide) (by decide)) bi)) a1 rfl)) r1) (zF rfl)
 have s21:=Yp (p:=21) (as:=Y P F J e11 e16 ss os (sI i) e15 e17 (sT (yr T1)) e21 e22 e23) (zkR (WD.e (zb (i:=7) rfl)) (WD.e (zb (i:=8) rfl)) (WD.e (zb (i:=9) rfl)) (WD.e (xF (zb (i:=3) rfl) (yO (zj (x:=.int 2)) (wO (zj (x:=.int 2)) (zb (i:=13) rfl) (zP (by decide) (by decide)) bi)) a2 rfl)) r2) (zF rfl)
 have hz:=zeW (as:=Y P F J e11 e16 ss os (sI i) e15 e17 (sT (yr T1)) (sT (yr T2)) e22 e23) (F:=F) (i:=12) (xs:=wz 0 P.m) (by rw[hR.1];exact N8) (by rw[xr];omega) (by
  have:=vm (as:=Y P F J e11 e16 ss os (sI i) e15 e17 (sT (yr T1)) (sT (yr T2)) e22 e23) (zE (zb (i:=9) (x:=.int P.m) (s:=true) rfl) zQ) (by omega) (by omega)
  rw[zyF]at this
  exact this) (λy m=>by
  obtain⟨b,rfl,_,_⟩:=zjJ m
  exact⟨_,rfl⟩) (λd=>rfl)
 rw[xr,hR.1]at hz
 have s22:=Zd (i:=22) hz (zF rfl)
 obtain⟨T,x,y,z,hf,q1,q2⟩:=zmB h hF (J:=J) (e11:=e11) (e16:=e16) (ss:=ss) (os:=os) (e13:=sI i) (e15:=e15) (e17:=e17) (e23:=e23) t1 t2 l1 l2
 rw[<-wG (v:=9) (n:=P.m) rfl (by omega)]at hf
 obtain⟨s,hsi⟩:∃s,ss[i]? = some s:=⟨ss[i]'(by omega),zzB (by omega)⟩
 have wn:WD (f2 (fV 18) (fV 13) ixP) (Y P F J e11 e16 ss os (sI i) y z (sT (yr T1)) (sT (yr T2)) (some (v5 T)) x) true (.str s):=Zx (zb (i:=18) rfl) (zb (i:=13) rfl) (zfN hsi)
 have hb:=zhN (j:=22) (as:=Y P F J e11 e16 ss os (sI i) y z (sT (yr T1)) (sT (yr T2)) (some (v5 T)) x) (ps:=T.map Zg) (fr:=dN) (os:=[]) rfl rfl
 have ap:=zdo (i:=19) (os0:=os) (os:=os) (as:=Y P F J e11 e16 ss os (sI i) y z (sT (yr T1)) (sT (yr T2)) (some (v5 T)) x) rfl (zdc (xO wn hb) (szl rfl)) rfl (by
  rw[ho.ln]
  have:=congrArg List.length hD
  rw[zD,zzP]at this
  exact yN (by omega))
 rw[zjq]at ap
 obtain⟨B,b1',b2'⟩:=perm_back hF
 have ld:=ldB (ljK h.k1) (ljK h.k2) h.p2 l1 l2
 have hg:Good P F J (s,T):=⟨q1,ldT h.m1 h.lj ld (λa ha=>(rowAt hR ha).2) b1' b2' hJ q2⟩
 refine⟨_,Ds++[(s,T)],_,_,_,_,_,_,yg s20 (yg s21 (yg s22 (yg hf ap))),ho.snoc rfl rfl hg, ?_⟩
 rw[zyJ,hD,take_snoc hsi];rfl
theorem zlg{P:Par}(h:POk P){F:List Int}(hF:F.Perm (zbV P.N)){J:TZ}(hJ:∀a b,InR P.N a->InR P.N b->jAt J (rAt F a) (rAt F b)=rAt F (P.j a b)){e11 e13 e15 e16 e17:Option O}{f:SF}{Q:D->Prop}
 (K:∀(ss:List Str) (os:List O) (Ds:DD) (e13 e15 e17 e20 e21 e22 e23:Option O),ss.length=10->ss.Nodup->(∀s ∈ ss,pOk (.str s)=true)->Ows ZZ (Good P F J) os Ds->Ds.map (·.1)=ss.take P.w->Rq (f (Y P F J e11 e16 ss os e13 e15 e17 e20 e21 e22 e23)) Q):
 Rq ((zB (zK true 18 (zJ (aC (f2 (fV 1) (fC (.int 7)) (zm .FloorDiv)) (aC (fC (.int 10)) aN)) Zk))
 (zB (zK false 19 (Yb dN))
 (zB (xN (yE (aC (fV 2) aN) yI) (gN 13) ddB)
 f))) (Z P e11 (sT (yR F)) e13 (some (v5 J)) e15 e16 e17 none none none none none none none none none none)) Q:=by
 have w4:=h.w4
 obtain⟨ss,s1,s2,s2p,s3⟩:=zlN (c:=P.h/7)
 obtain⟨as',hf,os,Ds,e13',e15',e17',e20',e21',e22',e23',rfl,ho,hD⟩:=vB (g:=gN 13) (f:=ddB)
  (λi as=>∃(os:List O) (Ds:DD) (e13 e15 e17 e20 e21 e22 e23:Option O),as=Y P F J e11 e16 ss os e13 e15 e17 e20 e21 e22 e23/\Ows ZZ (Good P F J) os Ds/\Ds.map (·.1)=ss.take i)
  (wz 0 P.w) 0 (Y P F J e11 e16 ss [] e13 e15 e17 none none none none) (λi x as hx hI=>by
   obtain⟨os,Ds,e13,e15,e17,e20,e21,e22,e23,rfl,ho,hD⟩:=hI
   obtain⟨rfl,hi⟩:=wU hx
   rw[zyV]at hD
   rw[Int.zero_add,zyV]
   obtain⟨os',Ds',a15,a17,a20,a21,a22,a23,k1,k2,k3⟩:=zkK (e11:=e11) (e16:=e16) (e15:=e15) (e17:=e17) (e20:=e20) (e21:=e21) (e22:=e22) (e23:=e23) h hF hJ s1 hi ho hD
   exact⟨_,rfl,_,k1,os',Ds',_,_,_,_,_,_,_,rfl,k2,k3⟩)
  ⟨[],[],_,_,_,_,_,_,_,rfl,Ows.nil,rfl⟩
 rw[xr,zyV]at hD
 exact Z2 (Yp (p:=18) (zgk (WD.e (xQ (zb (i:=1) rfl) (zj (x:=.int 7)) (by decide) (zP (by decide) (by decide)))) (WD.e (zj (x:=.int 10))) s3) (zF rfl)) (Z2 (Zd (i:=19) (Vy yK (szl rfl)) (zF rfl)) (Z2 (Z0 (vm (zE (zb (i:=2) rfl) zQ) (by omega) (by omega)) (by rw[zyF];exact hf)) (K ss os Ds _ _ _ _ _ _ _ s1 s2 s2p ho hD)))
open L2 (yN)
def held(n:Nat)(b:Int):List Int:=((List.range n).filter λi=>b/2 ^ i%2==1).map λ(i:Nat)=>(i:Int)
abbrev sgO(p:Str×List Int):O:=.lf true (wQ p)
theorem zfK:∀S:SS,(S.map sgO).all O.isLf=true/\O.strs (S.map sgO)=true/\O.toDs (S.map sgO)=S.map wQ
 | []=>⟨rfl,rfl,rfl⟩
 |p::r=>⟨(zfK r).1,(zfK r).2.1,congrArg (wQ p :: ·) (zfK r).2.2⟩
theorem zkS{os:List O}(hs:O.strs os=true):(Y0 os).str=true/\(Y0 os).toD = .tup (O.toDs os):=by
 unfold Y0
 split
 · exact⟨hs,rfl⟩
 · exact⟨hs,rfl⟩
theorem zrC{P:Par}(h:POk P){b:Int}{as:AS}(h1:as[10]? = some (sI P.N))(h2:∀d:D,gN 0 (true,d) (Y4 [none,some 25] as)=some [sT d,sI b]):
 WE (yw (yE (aC (fV 10) aN) yI) [none,some 25] (gN 0) (fT (f2 (f2 (f2 (fV 1) (f2 (fC (.int 1)) (fV 0) zkv) (zm .FloorDiv)) (fC (.int 2)) (zm .Mod)) (fC (.int 1)) (zZ .Eq))) (fV 0)) as (yR (held P.N b)):=by
 have N8:P.N<=8:=h.n8
 have:=zqk (as:=as) (h:=λ(i:Nat)=>D.int i) (p:=λi=>b/2 ^ i%2==1) (it:=λ(i:Nat)=>(true,D.int (0+(i:Int)))) (fi:=yE (aC (fV 10) aN) yI) (cap:=[none,some 25]) (gg:=gN 0) (tt:=fT (f2 (f2 (f2 (fV 1) (f2 (fC (.int 1)) (fV 0) zkv) (zm .FloorDiv)) (fC (.int 2)) (zm .Mod)) (fC (.int 1)) (zZ .Eq))) (fe:=fV 0) (List.range P.N) (by
  have:=vm (zE (zb (i:=10) h1) zQ) (show(0:Int)<=P.N by omega) (by omega)
  rw[zyF]at this
  exact this) (by rw[zyR];omega) (λi hi=>by
   have hi:=List.mem_range.mp hi
   rw[Int.zero_add]
   have p0:(0:Int)<2 ^ i:=Int.pow_pos (by decide)
   have p1:(2:Int) ^ i<1000:=by
    rcases(show i=0\/i=1\/i=2\/i=3\/i=4\/i=5\/i=6\/i=7 by omega)with rfl|rfl|rfl|rfl|rfl|rfl|rfl|rfl<;>decide
   have ws:WD (f2 (fC (.int 1)) (fV 0) zkv) [sI i,sI b] true (.int (2 ^ i)):=xF zj (zb (i:=0) rfl) (by
    show(if(0:Int)<=i/\(i:Int)<=1000000/\(1:Int).natAbs<2 ^ 64 then some (R0.im (.int (1*2 ^ (i:Int).toNat)))else none)=_
    rw[if_pos ⟨by omega,by omega,by decide⟩,zyF,Int.one_mul]) rfl
   exact⟨[sI i,sI b],h2 _,eqT (yq (xQ (zb (i:=1) rfl) ws p0 (zP (by omega) (by omega))) zj (by decide)) zj rfl,λ_=>WD.e (zb (i:=0) rfl)⟩)
 unfold held
 rw[show D.lst (((List.range P.N).filter λi=>b/2 ^ i%2==1).map λ(i:Nat)=>D.int i)=yR (((List.range P.N).filter λi=>b/2 ^ i%2==1).map λ(i:Nat)=>(i:Int)) by show _=D.lst _;rw[zzY];rfl]at this
 exact this
abbrev V(P:Par)(F:List Int)(J:TZ)(ss:List Str)(os:List O)(e11 e15 e16 e17 e20 e21 e22 e23:Option O)(S:SS)(e13 e25 e26 e27:Option O):AS:=Z P e11 (sT (yR F)) e13 (some (v5 J)) e15 e16 e17 (sT (.lst (ss.map D.str))) (sN os) e20 e21 e22 e23 (sN (S.map sgO)) e25 e26 e27
abbrev sgB:SF:=(zB (zK true 25 (f2 (fV 4) (f2 (fC (.int 9)) (fV 13) (zm .Add)) ixP))
 (zB (zK true 26 (yw (yE (aC (fV 10) aN) yI) [none,some 25] (gN 0) (fT (f2 (f2 (f2 (fV 1) (f2 (fC (.int 1)) (fV 0) zkv) (zm .FloorDiv)) (fC (.int 2)) (zm .Mod)) (fC (.int 1)) (zZ .Eq))) (fV 0)))
 (wJ (ZX 24 (dC (xR (dC (f2 (fV 18) (f2 (fV 13) (f2 (fC (.int 4)) (f2 (f2 (fV 25) (fC (.int 512)) (zm .FloorDiv)) (fC (.int 2)) (zm .Mod)) (zm .Mult)) (zm .Add)) ixP) (dC (fV 26) dN))) dN) Ye))))
abbrev SgI(P:Par)(ss:List Str)(i:Nat)(S:SS):Prop:=S.length=i/\(S.map (·.1)).Nodup/\∀p ∈ S,(∃b,p.2=held P.N b)/\∃j,j%4<i/\j<7/\ss[j]? = some p.1
theorem zlX{P:Par}(h:POk P){F:List Int}{J:TZ}{ss:List Str}(hs:ss.length=10)(hn:ss.Nodup){os:List O}{e11 e15 e16 e17 e20 e21 e22 e23 e25 e26 e27:Option O}{S:SS}{i:Nat}(hi:i<3)(hI:SgI P ss i S):
 ∃(S':SS) (e25' e26':Option O),sgB (V P F J ss os e11 e15 e16 e17 e20 e21 e22 e23 S (sI i) e25 e26 e27)=some (.nx (V P F J ss os e11 e15 e16 e17 e20 e21 e22 e23 S' (sI i) e25' e26' e27))/\SgI P ss (i+1) S':=by
 obtain⟨i1,i2,i3⟩:=hI
 obtain⟨b,a1,b1⟩:=at2 h.yS (k:=9+i) (by omega) (by rw[h.yl];omega)
 have q0:=zyK (b/512) (show(2:Int)≠0 by decide)
 have q1:=zyE (b/512) (show(0:Int)<2 by decide)
 have hw:=zrC h (b:=b) (as:=V P F J ss os e11 e15 e16 e17 e20 e21 e22 e23 S (sI i) (sI b) e26 e27) rfl (λd=>rfl)
 obtain⟨j,ej⟩:∃j:Nat,(j:Int)=(i:Int)+4*(b/512%2):=⟨((i:Int)+4*(b/512%2)).toNat,by omega⟩
 have hj:ss[j]? = some (ss[j]'(by omega)):=zzB (by omega)
 have wi:=yO (as:=V P F J ss os e11 e15 e16 e17 e20 e21 e22 e23 S (sI i) (sI b) (sT (yR (held P.N b))) e27) (zb (i:=13) (x:=.int i) (s:=true) rfl) (wO (zj (x:=.int 4)) (yq (xQ (zb (i:=25) rfl) (zj (x:=.int 512)) (by decide) (zP (by decide) (by decide))) (zj (x:=.int 2)) (by decide)) (zP (by decide) (by decide)) (zP (by omega) (by omega)))
 rw[<-ej]at wi
 have ap:=zdo (i:=24) (os0:=S.map sgO) (os:=S.map sgO) (as:=V P F J ss os e11 e15 e16 e17 e20 e21 e22 e23 S (sI i) (sI b) (sT (yR (held P.N b))) e27) rfl (zgF (zN (Zx (zb (i:=18) rfl) wi (zfN hj)) (zN (zb (i:=26) rfl) yK)) (szl rfl)) rfl (by rw[zD,i1];exact yN (by omega))
 rw[show S.map sgO++[Y0 [O.lf true (.str (ss[j]'(by omega))),O.lf true (yR (held P.N b))]]=(S++[((ss[j]'(by omega)),held P.N b)]).map sgO by rw[zyJ];rfl]at ap
 refine⟨_,_,_,yg (yx (i:=25) (xF (zb (i:=4) rfl) (yO zj (zb (i:=13) rfl)) a1 rfl) (zF rfl)) (yg (Yp (p:=26) hw (zF rfl)) ap),by rw[zzG,i1];rfl, ?_,λp m=>?_⟩
 · rw[zyJ]
   refine zxC.mpr ⟨i2,zzT.mpr ⟨zyZ,zyG⟩,λx mx y my e=>?_⟩
   obtain⟨p,mp,rfl⟩:=zxB.mp mx
   obtain⟨_,j',j1,j2,j3⟩:=i3 p mp
   have my:=zzO.mp my
   subst my
   have hj':=zzD.mp j3
   obtain⟨l',e'⟩:=hj'
   have:ss[j']=ss[j]'(by omega):=e'.trans e
   have:=(List.getElem_inj hn).mp this
   omega
 · rcases zzJ.mp m with m|m
   · obtain⟨z1,j',j1,j2,j3⟩:=i3 p m
     exact⟨z1,j',by omega,j2,j3⟩
   · rw[zzO.mp m]
     exact⟨⟨b,rfl⟩,j,by omega,by omega,hj⟩
theorem zmF{P:Par}(h:POk P){F:List Int}(hF:F.Perm (zbV P.N)){J:TZ}{ss:List Str}(hs:ss.length=10)(hn:ss.Nodup){os:List O}{Ds:DD}(ho:Ows ZZ (Good P F J) os Ds){e11 e13 e15 e16 e17 e20 e21 e22 e23:Option O}:
 ∃S:SS,S.length<=3/\(S.map (·.1)).Nodup/\(∀p ∈ S,∃b,p.2=held P.N b)/\Rt ((zB (zK false 24 (Yb dN))
 (zB (xN (yE (aC (fC (.int 3)) aN) yI) (gN 13) sgB)
 (zB (zK true 27 (f2 (fV 12) (f2 (Yb (dC (fC (.int 0)) (dC (fV 8) dN))) (fP (aC (f2 (fV 5) (fC (.int 3)) (zZ .Eq)) aN) Wb) ixP) ixP))
 (yF (xR (dC (fV 10) (dC (fV 9) (dC (fV 14) (dC (fV 27) (dC (fV 19) (dC (fSl (fV 24) oN (oS (f2 (f2 (fV 4) (fC (.int 12)) ixP) (fC (.int 4)) (zm .Mod))) slP) dN)))))))))))
 (Y P F J e11 e16 ss os e13 e15 e17 e20 e21 e22 e23)) (zG P.N P.m J (rAt F P.e) Ds S):=by
 obtain⟨hR,_⟩:=YL hF
 obtain⟨as',hf,S,a13,a25,a26,rfl,i1,i2,i3⟩:=vB (g:=gN 13) (f:=sgB)
  (λi as=>∃(S:SS) (e13 e25 e26:Option O),as=V P F J ss os e11 e15 e16 e17 e20 e21 e22 e23 S e13 e25 e26 none/\SgI P ss i S)
  (wz 0 3) 0 (V P F J ss os e11 e15 e16 e17 e20 e21 e22 e23 [] e13 none none none) (λi x as hx hI=>by
   obtain⟨S,e13,e25,e26,rfl,hI⟩:=hI
   obtain⟨rfl,hi⟩:=wU hx
   rw[zyV]at hI
   rw[Int.zero_add,zyV]
   obtain⟨S',a,b,k1,k2⟩:=zlX (F:=F) (J:=J) (os:=os) (e11:=e11) (e15:=e15) (e16:=e16) (e17:=e17) (e20:=e20) (e21:=e21) (e22:=e22) (e23:=e23) (e25:=e25) (e26:=e26) (e27:=none) h hs hn hi hI
   exact⟨_,rfl,_,k1,S',_,_,_,rfl,k2⟩)
  ⟨[],_,_,_,rfl,rfl,zyG,λ_ m=>nomatch m⟩
 rw[xr]at i1
 obtain⟨y,y1,y2⟩:=at2 h.yS (k:=12) (by omega) (by rw[h.yl];omega)
 have q0:=zyK y (show(4:Int)≠0 by decide)
 have q1:=zyE y (show(0:Int)<4 by decide)
 obtain⟨g1,g2,g3⟩:=zfK S
 have ce:=h.lj.ce
 have ee:(if(P.k==3)=true then(P.n2:Int)else 0)=P.e:=by
  show _=eK P.k*P.n2+eK P.k2
  rw[h.e2]
  unfold eK
  by_cases hk:P.k=3<;>simp[hk]
 have wE:WD (f2 (Yb (dC (fC (.int 0)) (dC (fV 8) dN))) (fP (aC (f2 (fV 5) (fC (.int 3)) (zZ .Eq)) aN) Wb) ixP) (V P F J ss os e11 e15 e16 e17 e20 e21 e22 e23 S a13 a25 a26 none) true (.int P.e):=by
  rw[<-ee]
  exact f2E (Y7 (os:=[lfI 0,lfI P.n2]) (zN zj (zN (zb (i:=8) rfl) yK)) (szl rfl) rfl rfl) (WD.e (Yc (x:=.int (if(P.k==3)=true then 1 else 0)) (zE (zdv (c:=P.k==3) (zb (i:=5) rfl) zj rfl) zQ) rfl rfl)) zmw
 have s27:=yx (st:=true) (i:=27) (xF (zb (i:=12) rfl) wE (rowAt hR ce).1 rfl) (zF rfl)
 have hfJ:=zjq J
 have hfD:=ho.frz
 have wy:oS (f2 (f2 (fV 4) (fC (.int 12)) ixP) (fC (.int 4)) (zm .Mod)) ((V P F (J) ss os e11 e15 e16 e17 e20 e21 e22 e23 S a13 a25 a26 (sI (rAt F P.e))).set 14 (some (v5 J).frz) |>.set 19 (some (O.nd .ls os).frz))=some (some (y%4),_):=zqh (yq (xF (zb (i:=4) rfl) zj y1 rfl) zj (by decide))
 have sl:=zpE (as:=(V P F (J) ss os e11 e15 e16 e17 e20 e21 e22 e23 S a13 a25 a26 (sI (rAt F P.e))).set 14 (some (v5 J).frz) |>.set 19 (some (O.nd .ls os).frz)) (i:=24) (os:=S.map sgO) (fl:=oN) (lo:=none) rfl g1 g2 rfl wy
 have ct:=zqz (xs:=(S.take (y%4).toNat).map wQ) (ys:=(S.drop (y%4).toNat).map wQ)
 rw[<-zyJ,List.take_append_drop,zD,zzP,Nat.min_eq_left (by omega),show(((y%4).toNat:Nat):Int)=y%4 by omega]at ct
 have ct:cutD (S.map wQ) none (some (y%4))=(S.take (y%4).toNat).map wQ:=by
  injection ct with ct
  injection ct
 rw[g3,ct]at sl
 have w0:(dC (fV 10) (dC (fV 9) (dC (fV 14) (dC (fV 27) (dC (fV 19) (dC (fSl (fV 24) oN (oS (f2 (f2 (fV 4) (fC (.int 12)) ixP) (fC (.int 4)) (zm .Mod))) slP) dN)))))) (V P F J ss os e11 e15 e16 e17 e20 e21 e22 e23 S a13 a25 a26 (sI (rAt F P.e)))=some (_,_):=
  xO (zb (i:=10) rfl) (xO (zb (i:=9) rfl) (zhN (j:=14) (ps:=J.map Zg) rfl (xO (zb (i:=27) rfl) (zhN (j:=19) (ps:=os) rfl (xO sl rfl)))))
 have hfin:=zdc w0 (szl rfl)
 rw[hfJ,hfD]at hfin
 have ms:=zkS (os:=[lfI P.N,lfI P.m,.lf true (yr J),lfI (rAt F P.e),.lf true (.lst (Ds.map ZZ)),.nd .ls (((S.take (y%4).toNat).map wQ).map (O.lf true))]) (by
  show(O.strs (((S.take (y%4).toNat).map wQ).map (O.lf true))&&true)=true
  rw[ziV];rfl)
 have rt:=Y9 hfin ms.1
 refine⟨S.take (y%4).toNat,by rw[zzP];omega, ?_,λp m=>(i3 p (List.mem_of_mem_take m)).1,zT (Zd (i:=24) (Vy yK (szl rfl)) (zF rfl)) (zT (Z0 (vm (j:=3) (zE zj zQ) (by decide) (by decide)) hf) (zT s27 ⟨_,rt,ms.1,ms.2.trans ?_⟩))⟩
 · rw[List.map_take];exact i2.sublist (List.take_sublist _ _)
 · show D.tup [.int P.N,.int P.m,yr J,.int (rAt F P.e),.lst (Ds.map ZZ),.lst (O.toDs (((S.take (y%4).toNat).map wQ).map (O.lf true)))]=_
   rw[zjA]
structure Made(n m:Nat)(J:TZ)(e:Int)(Ds:DD)(S:SS):Prop where
 al:Alg n m J e Ds
 la:LawA n m J e Ds
 s3:S.length<=3
 sn:(S.map (·.1)).Nodup
 sh:∀p ∈ S,∃b,p.2=held n b
 nk:∀p ∈ Ds,pOk (.str p.1)=true
theorem zic{c h:Int}{w:Nat}(hw:w<=4):∃n m J e Ds S,Made n m J e Ds S/\Ds.length=w/\RE (vV [(true,.int c),(true,.int h),(true,.int w)]) (zG n m J e Ds S):=by
 obtain⟨x,hr,n,m,J,e,Ds,S,h1,h2,rfl⟩:Rq (Xu (xW 28 [(true,.int c),(true,.int h),(true,.int w)])) (λx=>∃n m J e Ds S,Made n m J e Ds S/\Ds.length=w/\x=zG n m J e Ds S):=by
  refine zoP hw λP hP hw' hh=>zlt hP λF e11 e13 hF=>znt hP hF λJ e15 e16 e17 hJ hJ2=>zlg hP hF hJ2 λss os Ds e13 e15 e17 e20 e21 e22 e23 s1 s2 s2p ho hD=>?_
  obtain⟨S,q1,q2,q3,q4⟩:=zmF hP hF (J:=J) s1 s2 ho (e11:=e11) (e13:=e13) (e15:=e15) (e16:=e16) (e17:=e17) (e20:=e20) (e21:=e21) (e22:=e22) (e23:=e23)
  obtain⟨hR,_⟩:=YL hF
  obtain⟨B,b1,b2⟩:=perm_back hF
  have hl:Ds.length=P.w:=by
   have:=congrArg List.length hD
   rw[zD,zzP,s1]at this
   have:=hP.w4
   omega
  have ce:=(rowAt hR hP.lj.ce).2
  exact⟨_,q4,P.N,P.m,J,rAt F P.e,Ds,S,⟨⟨hP.N1,hP.n8,hP.m1,hP.m6,hJ,ce.1,ce.2,by have:=hP.w4;omega,λp m=>(ho.al p m).1,by rw[hD];exact s2.sublist (List.take_sublist _ _)⟩,⟨ljT hP.lj (λa ha=>(rowAt hR ha).2) b1 b2 hJ2,λp m=>(ho.al p m).2⟩,q1,q2,q3,λp m=>s2p _ (List.mem_of_mem_take (by rw[<-hD];exact List.mem_map_of_mem m))⟩,by omega,rfl⟩
 exact⟨n,m,J,e,Ds,S,h1,h2,Zj rfl hr⟩
open L2 (yN)
abbrev kvW(p:Str×TZ):L2.Key×D:=(Sum.inr p.1,zie p.2)
abbrev kvS(p:Str×List Int):L2.Key×D:=(Sum.inr p.1,zlL p.2)
abbrev zqE:List Str:=["size","around","table","neutral","waits","holders"]
abbrev zsX(n m:Nat)(J:TZ)(e:Int)(Ds:DD)(S:SS):D:=.ob "Ways" zqE [.int n,.int m,zie J,.int e,.dct (Ds.map kvW),.dct (S.map kvS)]
theorem ziR{α:Type}{f:EF}{as:AS}{g:α->D}{l:List α}(h:WE f as (.lst (l.map g))):ZW f as=some (l.map λa=>(true,g a),as):=by
 have:=zgX h
 rw[zzY]at this
 exact this
theorem ziK{T:TZ}(hl:T.length<=1000):RE (VP [(true,yr T)]) (zie T):=
 Zj rfl (vd (zgv (zgB (h:=zlL) (it:=λr=>(true,yR r)) T (ziR (WD.e (zb (i:=0) rfl))) (by omega) λr _=>⟨[sT (yR r)],rfl,zgv (WD.e (zb (i:=0) rfl)) rfl⟩) rfl))
abbrev wK(p:Str×TZ):O:=.nd .tp [.lf true (.str p.1),v5 p.2]
abbrev zoC:EF:=fP (aC (fV 0) aN) lstP
theorem zeZ:∀T:TZ,xX (gN 0) xG zoC [none] ((T.map yR).map λd=>(true,d))=some (T.map Zg)
 | []=>rfl
 |r::T=>zbn (as1:=[sT (yR r)]) rfl (zpc (zb rfl)) (vC r).2.1 (zeZ T)
theorem zlP{f:EF}{as:AS}{T:TZ}(hl:T.length<=1000)(h:WE f as (yr T)):yw (ZW f) [none] (gN 0) xG zoC as=some (.ow (v5 T),as):=
 zbl (zgX h) (by rw[zD,zD];exact szs (by trivial)) (zeZ T)
theorem zcc(p:Str×TZ):(wK p).str=true/\(wK p).toD=ZZ p:=by
 constructor
 · show(true&&(O.strs (p.2.map Zg)&&true))=true
   rw[(Xg p.2).1];rfl
 · show D.tup [.str p.1,.lst (O.toDs (p.2.map Zg))]=_
   rw[(Xg p.2).2]
theorem zag:∀Ds:DD,O.strs (Ds.map wK)=true/\O.toDs (Ds.map wK)=Ds.map ZZ
 | []=>⟨rfl,rfl⟩
 |p::Ds=>⟨by show((wK p).str&&O.strs (Ds.map wK))=true;rw[(zcc p).1,(zag Ds).1];rfl,by
  show(wK p).toD::O.toDs (Ds.map wK)=_
  rw[(zcc p).2,(zag Ds).2];rfl⟩
abbrev zqU:EF:=xR (dC (fV 0) (dC (yw (ZW (fV 1)) [none] (gN 0) xG zoC) dN))
theorem zlz{p:Str×TZ}(hl:p.2.length<=1000):zqU [sT (.str p.1),sT (yr p.2)]=some (.ow (wK p),[sT (.str p.1),sT (yr p.2)]):=
 zgF (os:=[.lf true (.str p.1),v5 p.2]) (zN (zb (i:=0) rfl) (zne (zlP hl (WD.e (zb (i:=1) rfl))) yK)) (szl rfl)
theorem zdB:∀Ds:DD,(∀p ∈ Ds,p.2.length<=1000)->xX (gT 2 (gsC (gN 0) (gsC (gN 1) gsN))) xG zqU [none,none] ((Ds.map ZZ).map λd=>(true,d))=some (Ds.map wK)
 | [],_=>rfl
 |p::Ds,h=>zbn (as1:=[sT (.str p.1),sT (yr p.2)]) rfl (zlz (h p (zzC ..))) (zcc p).1 (zdB Ds λq m=>h q (zzA _ m))
theorem zmH{as:AS}{i:Nat}{os:List O}(h:as[i]? = some (sN os)):zkt i as=some (os.length:Int):=by
 unfold zkt;rw[zdj (f:=zaq) h rfl];rfl
theorem zgO{as:AS}{f g:IXF}{a b:Int}(h1:f as=some a)(h2:g as=some b)(hb:0<b):zhG f g as=some (a%b):=by
 unfold zhG;simp only[h1,h2,zyI,if_pos hb]
theorem zkZ{as:AS}{i:Nat}{f1 f2 f3 fv:IXF}{k1 k2 k3 c:Int}{Ds:DD}{p:Str×TZ}{r:List Int}(h1:f1 as=some k1)(h2:f2 as=some k2)(h3:f3 as=some k3)(hv:fv as=some c)(p1:0<=k1)(p2:0<=k2)(p3:0<=k3)(hi:as[i]? = some (sN (Ds.map wK)))(hp:Ds[k1.toNat]? = some p)(hr:p.2[k2.toNat]? = some r)(hk:k3.toNat<r.length):
 zmn i f1 1 f2 f3 fv as=some (.nx (as.set i (sN ((Ds.set k1.toNat (p.1,p.2.set k2.toNat (r.set k3.toNat c))).map wK)))):=by
 have e1:(Ds.map wK)[k1.toNat]? = some (.nd .tp [.lf true (.str p.1),.nd .ls (p.2.map Zg)]):=by rw[zzF,hp];rfl
 have e2:([.lf true (.str p.1),.nd .ls (p.2.map Zg)]:List O)[1]? = sN (p.2.map Zg):=rfl
 have e3:(p.2.map Zg)[k2.toNat]? = sN (r.map lfI):=by rw[zzF,hr];rfl
 have e4:=zlT hk
 have e6:(p.2.map Zg).set k2.toNat (.nd .ls ((r.map lfI).set k3.toNat (.lf true (.int c))))=(p.2.set k2.toNat (r.set k3.toNat c)).map Zg:=by
  rw[List.map_set]
  show _=(p.2.map Zg).set k2.toNat (.nd .ls ((r.set k3.toNat c).map lfI))
  rw[List.map_set]
 have e5:(Ds.map wK).set k1.toNat (.nd .tp ([.lf true (.str p.1),.nd .ls (p.2.map Zg)].set 1 (.nd .ls ((p.2.set k2.toNat (r.set k3.toNat c)).map Zg))))=(Ds.set k1.toNat (p.1,p.2.set k2.toNat (r.set k3.toNat c))).map wK:=by
  symm;rw[List.map_set];rfl
 unfold zmn
 simp only[h1,h2,h3,hv,zyI,if_pos (show 0<=k1/\0<=k2/\0<=k3 from⟨p1,p2,p3⟩),(zdj hi rfl:slO zaq as i=some (Ds.map wK)),(zab e1 rfl:atO znM _ _=some [.lf true (.str p.1),.nd .ls (p.2.map Zg)]),(zab e2 rfl:atO zaq _ _=some (p.2.map Zg)),(zab e3 rfl:atO zaq _ _=some (r.map lfI)),(zab e4 rfl:atO zcm _ _=some (.int r[k3.toNat])),e6,e5]
theorem zkV{as as':AS}{j:Nat}{o:O}{fr:DF}{os:List O}(h:as[j]? = some (some o))(hr:fr (as.set j none)=some (os,as')):dC (fMv j) fr as=some (o::os,as'):=by
 have e:fMv j as=some (.ow o,as.set j none):=by unfold fMv;rw[h]
 unfold dC
 rw[e];show(fr (as.set j none)).bind _=_
 rw[hr];rfl
theorem zhq{as:AS}{f g:IXF}{a b:Int}(h1:f as=some a)(h2:g as=some b)(hb:0<b/\b<1073741824):zhZ f g as=some (a/b):=by
 unfold zhZ;simp only[h1,h2,zyI,if_pos hb]
abbrev znd(n m:Nat)(J:TZ)(e:Int)(Ds:DD)(S:SS):O:=.nd .tp [lfI n,lfI m,v5 J,lfI e,.nd .ls (Ds.map wK),.lf true (.lst (S.map wQ))]
theorem zdl(n m:Nat)(J:TZ)(e:Int)(Ds:DD)(S:SS):(znd n m J e Ds S).str=true/\(znd n m J e Ds S).toD=zG n m J e Ds S:=by
 constructor
 · show(true&&(true&&(O.strs (J.map Zg)&&(true&&(O.strs (Ds.map wK)&&(true&&true))))))=true
   rw[(Xg J).1,(zag Ds).1];rfl
 · show D.tup [.int n,.int m,.lst (O.toDs (J.map Zg)),.int e,.lst (O.toDs (Ds.map wK)),.lst (S.map wQ)]=_
   rw[(Xg J).2,(zag Ds).2]
section
variable{n m:Nat}{J:TZ}{e:Int}{Ds:DD}{S:SS}
abbrev C9(n m:Nat)(J:TZ)(e:Int)(Ds:DD)(S:SS)(x y:Option O):AS:=[sT (zG n m J e Ds S),sI n,sI m,sT (yr J),sI e,sT (.lst (Ds.map ZZ)),sT (.lst (S.map wQ)),x,y]
theorem ziU(A:Alg n m J e Ds)(sl:S.length<=3):xY [(true,zG n m J e Ds S)]=some (znd n m J e Ds S):=by
 have n8:=A.n8
 have m6:=A.m6
 have dl:=A.dl
 have s7:zK false 7 (yw (ZW (fV 5)) [none,none] (gT 2 (gsC (gN 0) (gsC (gN 1) gsN))) xG zqU) (C9 n m J e Ds S none none)=some (.nx (C9 n m J e Ds S (sN (Ds.map wK)) none)):=
  Zd (i:=7) (zbl (zgX (WD.e (zb (i:=5) rfl))) (by rw[zD,zD];exact szs (by omega)) (zdB Ds λp mp=>by rw[(A.ds p mp).1];omega)) (zF rfl)
 have s8:zK true 8 (yw (ZW (fV 6)) [none,none] (gT 2 (gsC (gN 0) (gsC (gN 1) gsN))) xG (xR (dC (fV 0) (dC (fP (aC (fV 1) aN) lstP) dN)))) (C9 n m J e Ds S (sN (Ds.map wK)) none)=some (.nx (C9 n m J e Ds S (sN (Ds.map wK)) (sT (.lst (S.map wQ))))):=
  Yp (p:=8) (zgB (h:=wQ) (it:=λp=>(true,wQ p)) S (ziR (g:=wQ) (WD.e (zb (i:=6) rfl))) (by omega) λp _=>⟨[sT (.str p.1),sT (yR p.2)],rfl,zfF (WD.e (zb (i:=0) rfl)) (zmM (zb (i:=1) (s:=true) rfl))⟩) (zF rfl)
 have w0:(dC (fV 1) (dC (fV 2) (dC (yw (ZW (fV 3)) [none] (gN 0) xG zoC) (dC (fV 4) (dC (fMv 7) (dC (fV 8) dN)))))) (C9 n m J e Ds S (sN (Ds.map wK)) (sT (.lst (S.map wQ))))=some ([lfI n,lfI m,v5 J,lfI e,.nd .ls (Ds.map wK),.lf true (.lst (S.map wQ))],_):=
  xO (zb (i:=1) rfl) (xO (zb (i:=2) rfl) (xO (zlP (by rw[A.j.1];omega) (WD.e (zb (i:=3) rfl))) (xO (zb (i:=4) rfl) (zkV (j:=7) rfl (xO (zb (i:=8) rfl) rfl)))))
 have hr:=Y9 (zdc w0 (szl rfl)) (zdl n m J e Ds S).1
 have h:zaW (xW 9 [(true,zG n m J e Ds S)])=some (.rt (znd n m J e Ds S)):=yg (as1:=C9 n m J e Ds S none none) (zrp (WD.e (zb (i:=0) rfl)) rfl) (yg s7 (yg s8 hr))
 unfold xY fnR
 rw[if_pos (by rfl),h];rfl
theorem znY(A:Alg n m J e Ds)(sl:S.length<=3):RE (xY [(true,zG n m J e Ds S)]) (zG n m J e Ds S):=⟨_,ziU A sl,zdl n m J e Ds S⟩
abbrev B12(n m:Nat)(J:TZ)(e:Int)(Ds:DD)(S:SS)(a0 a1 x a b o:Option O):AS:=[a0,a1,sI n,sI m,some (v5 J),sI e,sN (Ds.map wK),sT (.lst (S.map wQ)),x,a,b,o]
structure Bnt(n m:Nat)(J:TZ)(e:Int)(Ds:DD)(J':TZ)(e':Int)(Ds':DD):Prop where
 al:Alg n m J' e' Ds'
 nm:Ds'.map (·.1)=Ds.map (·.1)
theorem znG{c:Int}(A:Alg n m J e Ds)(d1:1<=Ds.length)(sl:S.length<=3):∃J' e' Ds',Bnt n m J e Ds J' e' Ds'/\RE (Z3 [(true,zG n m J e Ds S),(true,.int c)]) (zG n m J' e' Ds' S):=by
 have n1:=A.n1
 have n8:=A.n8
 have m1:=A.m1
 have m6:=A.m6
 have dl:=A.dl
 have hx:=zpn c 70
 have s1:zoz [2,3,4,5,6,7] (zJ (aC (fV 0) aN) xY) [sT (zG n m J e Ds S),sI c,none,none,none,none,none,none,none,none,none,none]=some (.nx (B12 n m J e Ds S (sT (zG n m J e Ds S)) (sI c) none none none none)):=by
  have hc:zJ (aC (fV 0) aN) xY [sT (zG n m J e Ds S),sI c,none,none,none,none,none,none,none,none,none,none]=some (.ow (znd n m J e Ds S),[sT (zG n m J e Ds S),sI c,none,none,none,none,none,none,none,none,none,none]):=zan (zE (zb (i:=0) rfl) zQ) (ziU A sl)
  unfold zoz
  rw[hc];rfl
 have s8:zK true 8 (zJ (aC (fV 1) (aC (fC (.int 70)) aN)) yL) (B12 n m J e Ds S (sT (zG n m J e Ds S)) (sI c) none none none none)=some (.nx (B12 n m J e Ds S (sT (zG n m J e Ds S)) (sI c) (sI (mx c 70)) none none none)):=yx (i:=8) (vg (zE (zb (i:=1) rfl) (zE zj zQ)) (zel (by decide) (by decide))) (zF rfl)
 generalize mx c 70=x at hx s8
 have hn:(0:Int)<n:=by omega
 have hm:(0:Int)<m:=by omega
 have s9:zK true 9 (f2 (f2 (fV 8) (fC (.int 8)) (zm .FloorDiv)) (fV 2) (zm .Mod)) (B12 n m J e Ds S (sT (zG n m J e Ds S)) (sI c) (sI x) none none none)=some (.nx (B12 n m J e Ds S (sT (zG n m J e Ds S)) (sI c) (sI x) (sI (x/8%n)) none none)):=yx (i:=9) (yq (xQ (zb (i:=8) rfl) (zj (x:=.int 8)) (by decide) (zP (by decide) (by decide))) (zb (i:=2) (x:=.int n) (s:=true) rfl) hn) (zF rfl)
 have s10:zK true 10 (f2 (f2 (fV 8) (fC (.int 64)) (zm .FloorDiv)) (fV 2) (zm .Mod)) (B12 n m J e Ds S (sT (zG n m J e Ds S)) (sI c) (sI x) (sI (x/8%n)) none none)=some (.nx (B12 n m J e Ds S (sT (zG n m J e Ds S)) (sI c) (sI x) (sI (x/8%n)) (sI (x/64%n)) none)):=yx (i:=10) (yq (xQ (zb (i:=8) rfl) (zj (x:=.int 64)) (by decide) (zP (by decide) (by decide))) (zb (i:=2) (x:=.int n) (s:=true) rfl) hn) (zF rfl)
 have s11:zK true 11 (f2 (f2 (f2 (fV 8) (fC (.int 512)) (zm .FloorDiv)) (fC (.int 1)) (zm .Add)) (fV 2) (zm .Mod)) (B12 n m J e Ds S (sT (zG n m J e Ds S)) (sI c) (sI x) (sI (x/8%n)) (sI (x/64%n)) none)=some (.nx (B12 n m J e Ds S (sT (zG n m J e Ds S)) (sI c) (sI x) (sI (x/8%n)) (sI (x/64%n)) (sI ((x/512+1)%n)))):=yx (i:=11) (yq (yO (xQ (zb (i:=8) rfl) (zj (x:=.int 512)) (by decide) (zP (by decide) (by decide))) zj) (zb (i:=2) (x:=.int n) (s:=true) rfl) hn) (zF rfl)
 have ha:InR n (x/8%n):=zbR n1
 have hb:InR n (x/64%n):=zbR n1
 have ho:InR n ((x/512+1)%n):=zbR n1
 generalize x/8%(n:Int)=a at s9 s10 s11 ha
 generalize x/64%(n:Int)=b at s10 s11 hb
 generalize (x/512+1)%(n:Int)=o at s11 ho
 have fin:∀(J':TZ) (e':Int) (Ds':DD),Rt ((yF (xR (dC (fV 2) (dC (fV 3) (dC (fMv 4) (dC (fV 5) (dC (fMv 6) (dC (fV 7) dN)))))))) (B12 n m J' e' Ds' S (sT (zG n m J e Ds S)) (sI c) (sI x) (sI a) (sI b) (sI o))) (zG n m J' e' Ds' S):=λJ' e' Ds'=>by
  have w0:(dC (fV 2) (dC (fV 3) (dC (fMv 4) (dC (fV 5) (dC (fMv 6) (dC (fV 7) dN)))))) (B12 n m J' e' Ds' S (sT (zG n m J e Ds S)) (sI c) (sI x) (sI a) (sI b) (sI o))=some ([lfI n,lfI m,v5 J',lfI e',.nd .ls (Ds'.map wK),.lf true (.lst (S.map wQ))],_):=
   xO (zb (i:=2) rfl) (xO (zb (i:=3) rfl) (zkV (j:=4) rfl (xO (zb (i:=5) rfl) (zkV (j:=6) rfl (xO (zb (i:=7) rfl) rfl)))))
  exact⟨_,Y9 (zdc w0 (szl rfl)) (zdl n m J' e' Ds' S).1,zdl n m J' e' Ds' S⟩
 have main:∃J' e' Ds',Bnt n m J e Ds J' e' Ds'/\(sIf (fT (f2 (f2 (fV 8) (fC (.int 8)) (zm .Mod)) (fC (.int 3)) (zZ .Lt))) (Vd 4 (xV 9) (xV 10) (xV 11)) (sIf (fT (f2 (f2 (fV 8) (fC (.int 8)) (zm .Mod)) (fC (.int 7)) (zZ .Lt))) (zmn 6 (zhG (zhZ (xV 8) (xC 4096)) (zkt 6)) 1 (zhG (zhZ (xV 8) (xC 32768)) (xV 3)) (xV 9) (xV 11)) (zK true 5 (fV 11)))) (B12 n m J e Ds S (sT (zG n m J e Ds S)) (sI c) (sI x) (sI a) (sI b) (sI o))=some (.nx (B12 n m J' e' Ds' S (sT (zG n m J e Ds S)) (sI c) (sI x) (sI a) (sI b) (sI o))):=by
  have t1:WT (fT (f2 (f2 (fV 8) (fC (.int 8)) (zm .Mod)) (fC (.int 3)) (zZ .Lt))) (B12 n m J e Ds S (sT (zG n m J e Ds S)) (sI c) (sI x) (sI a) (sI b) (sI o)) (decide (x%8<3)):=wC (zjy (yq (zb (i:=8) rfl) zj (by decide)) zj) rfl
  have t2:WT (fT (f2 (f2 (fV 8) (fC (.int 8)) (zm .Mod)) (fC (.int 7)) (zZ .Lt))) (B12 n m J e Ds S (sT (zG n m J e Ds S)) (sI c) (sI x) (sI a) (sI b) (sI o)) (decide (x%8<7)):=wC (zjy (yq (zb (i:=8) rfl) zj (by decide)) zj) rfl
  cases q1:decide (x%8<3)with
  |true=>
   rw[q1]at t1
   exact⟨put J a b o,e,Ds,⟨⟨n1,n8,m1,m6,zjb A.j ha ho,A.e0,A.en,dl,A.ds,A.nd⟩,rfl⟩,vG t1 (zfV A.j ha hb (ZD (i:=9) rfl) (ZD (i:=10) rfl) (ZD (i:=11) rfl) rfl)⟩
  |false=>
   rw[q1]at t1
   cases q2:decide (x%8<7)with
   |true=>
    rw[q2]at t2
    have hl:(0:Int)<Ds.length:=by omega
    have k1:InR Ds.length (x/4096%(Ds.length:Int)):=zbR (by omega)
    have k2:InR m (x/32768%(m:Int)):=zbR m1
    have hk1:=iT k1
    have hp:=zzB hk1
    have hT:=A.ds _ (zyX hk1)
    generalize Ds[(x/4096%(Ds.length:Int)).toNat]=p at hp hT
    have hk2:(x/32768%(m:Int)).toNat<p.2.length:=by rw[hT.1];exact iT k2
    have hr:=zzB hk2
    have hR:=hT.2 _ (zyX hk2)
    generalize p.2[(x/32768%(m:Int)).toNat]=r at hr hR
    have xl:zkt 6 (B12 n m J e Ds S (sT (zG n m J e Ds S)) (sI c) (sI x) (sI a) (sI b) (sI o))=some ((Ds.length:Nat):Int):=by
     rw[zmH (i:=6) (os:=Ds.map wK) rfl,zD]
    refine⟨J,e,Ds.set (x/4096%(Ds.length:Int)).toNat (p.1,p.2.set (x/32768%(m:Int)).toNat (r.set a.toNat o)),⟨⟨n1,n8,m1,m6,A.j,A.e0,A.en,by rw[zzR];exact dl,λq mq=>?_, ?_⟩, ?_⟩,yQ t1 (vG t2 (zkZ (zgO (zhq (ZD (i:=8) rfl) rfl ⟨by decide,by decide⟩) xl hl) (zgO (zhq (ZD (i:=8) rfl) rfl ⟨by decide,by decide⟩) (ZD (i:=3) rfl) hm) (ZD (i:=9) rfl) (ZD (i:=11) rfl) k1.1 k2.1 ha.1 rfl hp hr (by rw[hR.1];exact iT ha)))⟩
    · rcases List.mem_or_eq_of_mem_set mq with mq|rfl
      · exact A.ds q mq
      · exact zjr hT (zjg hR ho)
    · have e0:(Ds.set (x/4096%(Ds.length:Int)).toNat (p.1,p.2.set (x/32768%(m:Int)).toNat (r.set a.toNat o))).map (·.1)=Ds.map (·.1):=by
       rw[List.map_set];exact set_same (by rw[zzF,hp];rfl)
      rw[e0];exact A.nd
    · rw[List.map_set];exact set_same (by rw[zzF,hp];rfl)
   |false=>
    rw[q2]at t2
    exact⟨J,o,Ds,⟨⟨n1,n8,m1,m6,A.j,ho.1,ho.2,dl,A.ds,A.nd⟩,rfl⟩,yQ t1 (yQ t2 (yx (i:=5) (zb (i:=11) rfl) (zF rfl)))⟩
 obtain⟨J',e',Ds',hB,hm'⟩:=main
 exact⟨J',e',Ds',hB,Zj rfl (zT s1 (zT s8 (zT s9 (zT s10 (zT s11 (zT hm' (fin J' e' Ds')))))))⟩
end
section
variable{n m:Nat}{J:TZ}{e:Int}{Ds:DD}{S:SS}
theorem zkU(A:Alg n m J e Ds)(L:tW n m J e Ds=none):RE (yJ [(true,zG n m J e Ds S)]) .non:=by
 have h:Zv (xW 2 [(true,zG n m J e Ds S)])=some (.nx [sT (zG n m J e Ds S),sT .non]):=yg (Yp (p:=1) (Zt (WD.e (zb (i:=0) rfl)) (by have z:=zfz (S:=S) A;rw[L]at z;exact z)) (zF rfl)) (yQ (wC (xF (zb (i:=1) rfl) zj rfl rfl) rfl) rfl)
 refine⟨.lf true .non, ?_,rfl,rfl⟩
 unfold yJ fnR
 rw[if_pos (by rfl),h];rfl
theorem zoK(A:Alg n m J e Ds)(L:tW n m J e Ds=none)(sl:S.length<=3)(sn:(S.map (·.1)).Nodup):RE (yU "Ways" [(true,zG n m J e Ds S)]) (zsX n m J e Ds S):=by
 have dl:=A.dl
 have n8:=A.n8
 have m6:=A.m6
 have w1:∀o,WD (fV 1) [o,sT (zG n m J e Ds S)] true (zG n m J e Ds S):=λo=>zb (i:=1) rfl
 have h4:∀o,WE (fP (aC (yw (ZW (f2 (fV 1) (fC (.int 4)) ixP)) [none,none] (gT 2 (gsC (gN 0) (gsC (gN 1) gsN))) xG (xR (dC (fV 0) (dC (zJ (aC (fV 1) aN) VP) dN)))) aN) zcQ) [o,sT (zG n m J e Ds S)] (.dct (Ds.map kvW)):=λo=>
  zsA (kf:=λp:Str×TZ=>p.1) (vf:=λp=>zie p.2) A.nd (zgB (h:=λp:Str×TZ=>.tup [.str p.1,zie p.2]) (it:=λp=>(true,ZZ p)) Ds (ziR (g:=ZZ) (zcG (WD.e (w1 o)) (WD.e zj) rfl)) (by omega) λp mp=>⟨[sT (.str p.1),sT (yr p.2)],rfl,zfF (WD.e (zb (i:=0) rfl)) (Zt (WD.e (zb (i:=1) rfl)) (ziK (by rw[(A.ds p mp).1];omega)))⟩)
 have h5:∀o,WE (fP (aC (yw (ZW (f2 (fV 1) (fC (.int 5)) ixP)) [none,none] (gT 2 (gsC (gN 0) (gsC (gN 1) gsN))) xG (xR (dC (fV 0) (dC (fP (aC (fV 1) aN) tupP) dN)))) aN) zcQ) [o,sT (zG n m J e Ds S)] (.dct (S.map kvS)):=λo=>
  zsA (kf:=λp:Str×List Int=>p.1) (vf:=λp=>zlL p.2) sn (zgB (h:=λp:Str×List Int=>.tup [.str p.1,zlL p.2]) (it:=λp=>(true,wQ p)) S (ziR (g:=wQ) (zcG (WD.e (w1 o)) (WD.e zj) rfl)) (by omega) λp mp=>⟨[sT (.str p.1),sT (yR p.2)],rfl,zfF (WD.e (zb (i:=0) rfl)) (zgv (WD.e (zb (i:=1) rfl)) rfl)⟩)
 have h:Zf (Ws 2 (ob0 "Ways"::[(true,zG n m J e Ds S)].map lfD))=some [some (.nd (.ob "Ways" zqE) [.lf true (.int n),.lf true (.int m),.lf true (zie J),.lf true (.int e),.lf true (.dct (Ds.map kvW)),.lf true (.dct (S.map kvS))]),sT (zG n m J e Ds S)]:=
  YG (zmN (Zt (WD.e (w1 _)) (zkU A L))) (YG (X6 (c:="Ways") (i:=0) (ns:=[]) (os:=[]) (zcG (WD.e (w1 _)) (WD.e zj) rfl) rfl (by decide +kernel) (by decide +kernel) (by decide)) (YG (X6 (c:="Ways") (i:=0) (zcG (WD.e (w1 _)) (WD.e zj) rfl) rfl (by decide +kernel) (by decide +kernel) (by decide)) (YG (X6 (c:="Ways") (i:=0) (Zt (zcG (WD.e (w1 _)) (WD.e zj) rfl) (ziK (by rw[A.j.1];omega))) rfl (by decide +kernel) (by decide +kernel) (by decide)) (YG (X6 (c:="Ways") (i:=0) (zcG (WD.e (w1 _)) (WD.e zj) rfl) rfl (by decide +kernel) (by decide +kernel) (by decide)) (YG (X6 (c:="Ways") (i:=0) (h4 _) rfl (by decide +kernel) (by decide +kernel) (by decide)) (X6 (c:="Ways") (i:=0) (h5 _) rfl (by decide +kernel) (by decide +kernel) (by decide)))))))
 refine⟨.nd (.ob "Ways" zqE) [.lf true (.int n),.lf true (.int m),.lf true (zie J),.lf true (.int e),.lf true (.dct (Ds.map kvW)),.lf true (.dct (S.map kvS))], ?_,rfl,rfl⟩
 unfold yU fnI
 rw[if_pos (by rfl),h];rfl
end
theorem zrI{k:Nat}(r:List Int):eqF (k+2) (yR r) (yR r)=some true:=zaB _ λx mx=>by
 obtain⟨v,_,rfl⟩:=zxB.mp mx
 show some (v==v)=_
 rw[beq_self_eq_true]
theorem znm{k:Nat}(T:TZ):eqF (k+3) (yr T) (yr T)=some true:=zaB _ λx mx=>by
 obtain⟨v,_,rfl⟩:=zxB.mp mx
 exact zrI v
theorem eq_str{k:Nat}(x:Str):eqF (k+1) (.str x) (.str x)=some true:=by
 show some (x==x)=_
 rw[beq_self_eq_true]
theorem eq_int{k:Nat}(x:Int):eqF (k+1) (.int x) (.int x)=some true:=by
 show some (x==x)=_
 rw[beq_self_eq_true]
theorem all2{f:D->D->Option Bool}{a b:D}(ha:f a a=some true)(hb:f b b=some true):∀x ∈ [a,b],f x x=some true:=λx mx=>by
 rcases zS.mp mx with rfl|mx
 · exact ha
 · rw[zzO.mp mx];exact hb
section
variable{n m:Nat}{J T:TZ}{e:Int}{Ds:DD}{S:SS}
theorem zqR:eqF 60 (zG n m J e Ds S) (zG n m J e Ds S)=some true:=zaB _ λx mx=>by
 rcases zS.mp mx with rfl|mx
 · exact eq_int _
 rcases zS.mp mx with rfl|mx
 · exact eq_int _
 rcases zS.mp mx with rfl|mx
 · exact znm (k:=56) J
 rcases zS.mp mx with rfl|mx
 · exact eq_int _
 rcases zS.mp mx with rfl|mx
 · refine zaB _ λx mx=>?_
   obtain⟨p,_,rfl⟩:=zxB.mp mx
   exact zaB _ (all2 (eq_str _) (znm (k:=54) p.2))
 · rw[zzO.mp mx]
   refine zaB _ λx mx=>?_
   obtain⟨p,_,rfl⟩:=zxB.mp mx
   exact zaB _ (all2 (eq_str _) (zrI (k:=55) p.2))
theorem Xl{t:Int->FT}(h:∀b,InR n b->t b=none):fs n t=none:=by
 unfold fs
 exact List.findSome?_eq_none_iff.mpr λi mi=>h i ⟨by omega,by have:=List.mem_range.mp mi;omega⟩
theorem zcA{t:Int->FT}{ds:List D}(h:fs n t=some ds):∃b,InR n b/\t b=some ds:=by
 obtain⟨i,mi,hi⟩:=List.exists_of_findSome?_eq_some h
 have:=List.mem_range.mp mi
 exact⟨i,⟨by omega,by omega⟩,hi⟩
theorem ifn{q:Bool}{xs:List D}(h:q=false):(if q=true then some xs else none:FT)=none:=by rw[h];rfl
theorem eqn{x y:Int}(h:x=y):(!(x==y))=false:=by rw[h,beq_self_eq_true];rfl
theorem zkO(L:LawA n m J e Ds):tW n m J e Ds=none:=by
 have u:tU n J e=none:=Xl λa ha=>ifn (by rw[eqn (L.un a ha).1,eqn (L.un a ha).2];rfl)
 have a:tA n J=none:=Xl λa ha=>Xl λb hb=>Xl λc hc=>ifn (eqn (L.as a ha b hb c hc))
 have d:Ds.findSome? (tE n m J e)=none:=List.findSome?_eq_none_iff.mpr λp hp=>by
  have d1:tD n m J p.2 p.1=none:=Xl λa ha=>Xl λi hi=>Xl λb hb=>Xl λk hk=>ifn (eqn (L.dn hp a ha i hi b hb k hk))
  unfold tE
  rw[d1,ifn (eqn (L.ld p hp).em)];rfl
 unfold tW
 rw[u,a,d];rfl
theorem kI{k:Nat}{a:Int}(hk:k<=8)(h:InR k a):pOk (.int a)=true:=by
 refine zyL ?_
 have h1:=Nat.log2_le_self a.natAbs
 have h2:=h.1
 have h3:=h.2
 omega
theorem kif{q:Bool}{xs ds:List D}(h:(if q=true then some xs else none)=some ds)(hl:xs.length<=10)(g:xs.all pOk=true):XX (.tup ds)=true:=by
 cases q with
 |true=>
  cases h
  show(decide (xs.length<=10)&&xs.all pOk)=true
  rw[g,zyL hl];rfl
 |false=>cases h
theorem zrw{ds:List D}(A:Alg n m J e Ds)(nk:∀p ∈ Ds,pOk (.str p.1)=true)(h:tW n m J e Ds=some ds):XX (.tup ds)=true:=by
 have n8:=A.n8
 have m8:m<=8:=zzL A.m6 (by decide)
 rcases zaa h with h|h
 · rcases zaa h with h|h
   · obtain⟨a,ha,h⟩:=zcA h
     refine kif h (Nat.le_of_ble_eq_true rfl) ?_
     simp only[List.all_cons,List.all_nil,kI n8 ha,Bool.and_true]
     decide +kernel
   · obtain⟨a,ha,h⟩:=zcA h
     obtain⟨b,hb,h⟩:=zcA h
     obtain⟨c,hc,h⟩:=zcA h
     refine kif h (Nat.le_of_ble_eq_true rfl) ?_
     simp only[List.all_cons,List.all_nil,kI n8 ha,kI n8 hb,kI n8 hc,Bool.and_true]
     decide +kernel
 · obtain⟨p,hp,h⟩:=List.exists_of_findSome?_eq_some h
   rcases zaa h with h|h
   · refine kif h (Nat.le_of_ble_eq_true rfl) ?_
     simp only[List.all_cons,List.all_nil,nk p hp,Bool.and_true]
     decide +kernel
   · obtain⟨a,ha,h⟩:=zcA h
     obtain⟨i,hi,h⟩:=zcA h
     obtain⟨b,hb,h⟩:=zcA h
     obtain⟨k,hk,h⟩:=zcA h
     refine kif h (Nat.le_of_ble_eq_true rfl) ?_
     simp only[List.all_cons,List.all_nil,nk p hp,kI n8 ha,kI m8 hi,kI n8 hb,kI m8 hk,Bool.and_true]
     decide +kernel
abbrev erD(ds:List D):D:=.er "NotLetBy" "what" (.tup ds)
theorem ziX{fa:EF}{as:AS}{c an:Str}{d:D}{b:Bool}(h:WD fa as true (.er c an d)):WD (f1 fa (Y5 c an b)) as true (.bl b):=by
 have e:Y5 c an b (.er c an d)=some (.im (.bl b)):=if_pos ⟨rfl,rfl⟩
 unfold WD f1
 unfold WD at h
 rw[h]
 show(Y5 c an b (.er c an d)).bind _=_
 rw[e];rfl
theorem zpG{fa:EF}{as:AS}{c an:Str}{d:D}(h:WD fa as true (.er c an d)):WD (f1 fa (erP c an)) as true d:=by
 have e:erP c an (.er c an d)=some (.im d):=if_pos ⟨rfl,rfl⟩
 unfold WD f1
 unfold WD at h
 rw[h]
 show(erP c an (.er c an d)).bind _=_
 rw[e]
 show(if(yd d||true)=true then some (RV.ow (lfs true d))else none:Option RV).bind _=_
 rw[if_pos (zyA _)]
 show some (RV.ow (O.lf (yd d||true) d),as)=_
 rw[zyA]
theorem zno{fr:AF}{g:List (Bool×D)->Option D}{as:AS}{rs:List (Bool×D)}{d:D}(ha:WA fr as rs)(hg:g (rs.map λx=>(yd x.2||x.1,x.2))=some d):gC fr g as=some (d,as):=by
 unfold gC;unfold WA at ha
 rw[ha];show(Xx as _).bind _=_
 rw[X8];show(g _).bind _=_
 rw[hg];rfl
theorem zmo{ds:List D}:vq [(true,erD ds)]=some (.lf true (.bl true)):=by
 have v:WD (fV 0) [sT (erD ds)] true (erD ds):=zb rfl
 have tF:WT (fT (f1 (fV 0) (Y5 "NotLetBy" "what" false))) [sT (erD ds)] false:=wC (ziX v) rfl
 have o4:WT (Vh (fT (f1 (fV 0) (Y5 "NotLetBy" "what" false))) (Vh (fT (f1 (fV 0) (Y5 "NotLetBy" "what" false))) (Vh (fT (f1 (fV 0) (Y5 "NotLetBy" "what" false))) (fT (f1 (fV 0) (Y5 "NotLetBy" "what" false)))))) [sT (erD ds)] false:=
  zeS tF (λ_=>zeS tF (λ_=>zeS tF (λ_=>tF) λz=>nomatch z) λz=>nomatch z) λz=>nomatch z
 have la:WD (zgJ (f1 (fV 0) (Y5 "NotLetBy" "what" true)) (f1 (fV 0) (Y5 "NotLetBy" "what" true))) [sT (erD ds)] true (.bl true):=by
  have k:=ziX (b:=true) v
  unfold WD at k ⊢
  unfold zgJ
  rw[k];exact k
 exact X4 rfl (yg (yQ o4 rfl) (yg (yQ o4 rfl) (Y9 la rfl)))
theorem zkC{ds:List D}(A:Alg n m J e Ds)(L:tW n m J e Ds=some ds):yJ [(true,zG n m J e Ds S)]=none:=by
 have z:=zfz (S:=S) A
 rw[L]at z
 have h:Zv (xW 2 [(true,zG n m J e Ds S)])=none:=yg (Yp (p:=1) (Zt (WD.e (zb (i:=0) rfl)) z) (zF rfl)) (vG (zqq (i:=1) (t:=some ds) rfl) rfl)
 unfold yJ fnR
 rw[if_pos (by rfl),h];rfl
theorem zpv{k l i:Nat}{c1:SF}{tc:TF}{xs:List (Bool×D)}{as1 as2:AS}{d:D}(hl:xs.length=l)(h1:c1 (xW k xs)=some (.nx as1))(h2:tc as1=some (true,as2))(h3:slD as2 i=some d)(h4:XX d=true):gX k l i c1 tc xs=some d:=by
 unfold gX
 rw[if_pos hl,h1]
 show((tc as1).bind _)=_
 rw[h2]
 show((slD as2 i).bind _)=_
 rw[h3]
 show(if XX d=true then some d else none)=_
 rw[if_pos h4]
theorem zrK{j:Nat}{cn an:Str}{cb c:SF}{gb:GF2}{as as1 as2:AS}{d:D}(h0:(cb as).bind nxA=none)(h1:gb as=some (d,as1))(hj:j<as1.length)(h2:c (as1.set j (some (.lf true (.er cn an d))))=some (.nx as2)):zig j cn an cb gb c as=some (.nx (as2.set j none)):=by
 unfold zig
 rw[h0]
 show(gb as).bind _=_
 rw[h1]
 show(if j<as1.length then _ else none)=_
 rw[if_pos hj]
 show((c _).bind _)=_
 rw[h2];rfl
theorem zrz{j:Nat}{cn an:Str}{cb c:SF}{gb:GF2}{as as1:AS}(h0:cb as=some (.nx as1)):zig j cn an cb gb c as=some (.nx as1):=by
 unfold zig
 rw[h0];rfl
theorem zmY{f:EF}{as as1:AS}{r:RV}(h:f as=some (r,as1)):wJ f as=some (.nx as1):=by unfold wJ;rw[h];rfl
theorem zoO{f:EF}{as:AS}(h:f as=none):(wJ f as).bind nxA=none:=by unfold wJ;rw[h];rfl
theorem zoM{ds:List D}(A:Alg n m J e Ds)(nk:∀p ∈ Ds,pOk (.str p.1)=true)(L:tW n m J e Ds=some ds):ZL [(true,zG n m J e Ds S)]=some (.tup ds):=by
 have z:=zfz (S:=S) A
 rw[L]at z
 have s1:=Yp (as:=xW 2 [(true,zG n m J e Ds S)]) (p:=1) (Zt (WD.e (zb (i:=0) rfl)) z) (zF rfl)
 have t1:(fT (f2 (fV 1) (fC .non) (zZ .IsNot))) [sT (zG n m J e Ds S),sT (.tup ds)]=some (true,[sT (zG n m J e Ds S),sT (.tup ds)]):=zqq (i:=1) (t:=some ds) rfl
 exact zpv rfl s1 t1 rfl (zrw A nk L)
theorem ziI{fr:AF}{rs:List (Bool×D)}{as:AS}{g:Fn}(ha:WA fr as rs)(hg:g (rs.map λx=>(yd x.2||x.1,x.2))=none):zJ fr g as=none:=by
 unfold zJ;unfold WA at ha
 rw[ha];show(Xx as _).bind _=_
 rw[X8];show(g _).bind _=_
 rw[hg];rfl
theorem znR{ds:List D}(A:Alg n m J e Ds)(L:tW n m J e Ds=some ds):yU "Ways" [(true,zG n m J e Ds S)]=none:=by
 have h:zJ (aC (fV 1) aN) yJ (Ws 2 (ob0 "Ways"::[(true,zG n m J e Ds S)].map lfD))=none:=ziI (rs:=[(true,zG n m J e Ds S)]) (zE (zb (i:=1) rfl) zQ) (zkC A L)
 unfold yU fnI
 rw[if_pos (by rfl)]
 unfold Zf zaK zmz
 rw[h];rfl
theorem zpY{ds:List D}(A:Alg n m J e Ds)(nk:∀p ∈ Ds,pOk (.str p.1)=true)(L:tW n m J e Ds=some ds):xZ "Ways" [(true,zG n m J e Ds S)]=some (.tup ds):=by
 have h:gC (aC (fV 1) aN) ZL (Ws 2 (ob0 "Ways"::[(true,zG n m J e Ds S)].map lfD))=some (.tup ds,_):=zno (rs:=[(true,zG n m J e Ds S)]) (zE (zb (i:=1) rfl) zQ) (zoM A nk L)
 unfold xZ gYI
 rw[if_pos (by rfl),h];rfl
def oT:FT->D
 |none=>.tup [.str "none"]
 |some ds=>.tup ds
theorem zoV(A:Alg n m J e Ds)(nk:∀p ∈ Ds,pOk (.str p.1)=true)(sl:S.length<=3)(sn:(S.map (·.1)).Nodup):RE (YS [(true,zG n m J e Ds S)]) (oT (tW n m J e Ds)):=by
 have s1:zK true 1 (xR (dC (fC (.str "none")) dN)) [sT (zG n m J e Ds S),none,none]=some (.nx [sT (zG n m J e Ds S),sT (.tup [.str "none"]),none]):=Yp (p:=1) (zeI (os:=[.lf true (.str "none")]) (zN zj yK) (szl rfl) rfl rfl) (zF rfl)
 have main:zig 2 "NotLetBy" "what" (wJ (zJ (aC (fV 0) aN) (yU "Ways"))) (gC (aC (fV 0) aN) (xZ "Ways"))
  (zB (zK true 1 (xR (dC (fC (.str "odd")) dN)))
  (sIf (fT (zJ (aC (fV 2) aN) vq)) (zK true 1 (f1 (fV 2) (erP "NotLetBy" "what"))) sNx)) [sT (zG n m J e Ds S),sT (.tup [.str "none"]),none]=some (.nx [sT (zG n m J e Ds S),sT (oT (tW n m J e Ds)),none]):=by
  cases q:tW n m J e Ds with
  |none=>
   obtain⟨o,h1,_,_⟩:=Zt (as:=[sT (zG n m J e Ds S),sT (.tup [.str "none"]),none]) (WD.e (zb (i:=0) rfl)) (zoK (S:=S) A q sl sn)
   exact zrz (zmY h1)
  |some ds=>
   have hb:=zoO (ziI (g:=yU "Ways") (as:=[sT (zG n m J e Ds S),sT (.tup [.str "none"]),none]) (rs:=[(true,zG n m J e Ds S)]) (zE (zb (i:=0) rfl) zQ) (znR A q))
   have hg:gC (aC (fV 0) aN) (xZ "Ways") [sT (zG n m J e Ds S),sT (.tup [.str "none"]),none]=some (.tup ds,[sT (zG n m J e Ds S),sT (.tup [.str "none"]),none]):=zno (rs:=[(true,zG n m J e Ds S)]) (zE (zb (i:=0) rfl) zQ) (zpY A nk q)
   have su:(zB (zK true 1 (xR (dC (fC (.str "odd")) dN))) (sIf (fT (zJ (aC (fV 2) aN) vq)) (zK true 1 (f1 (fV 2) (erP "NotLetBy" "what"))) sNx)) [sT (zG n m J e Ds S),sT (.tup [.str "none"]),sT (erD ds)]=some (.nx [sT (zG n m J e Ds S),sT (.tup ds),sT (erD ds)]):=by
    refine yg (as1:=[sT (zG n m J e Ds S),sT (.tup [.str "odd"]),sT (erD ds)]) (Yp (p:=1) (zeI (os:=[.lf true (.str "odd")]) (zN zj yK) (szl rfl) rfl rfl) (zF rfl)) ?_
    refine vG (wC (vg (zE (zb (i:=2) rfl) zQ) zmo) rfl) ?_
    exact yx (i:=1) (zpG (zb (i:=2) rfl)) (zF rfl)
   exact zrK (j:=2) (cn:="NotLetBy") (an:="what") (as2:=[sT (zG n m J e Ds S),sT (.tup ds),sT (erD ds)]) hb hg (zF rfl) su
 exact Zj rfl (zT s1 (zT main (vd (WD.e (zb (i:=1) rfl)))))
end
section
variable{n m:Nat}{J T:TZ}{e:Int}{Ds:DD}{S:SS}
theorem znX{s:Str}:vD [(true,.str s)]=sT (.bl false):=
 X4 rfl (Y9 (o:=.lf true (.bl false)) (by
  have k:zeL (fV 0) "int" (xW 1 [(true,.str s)])=some (.ow (.lf true (.bl false)),xW 1 [(true,.str s)]):=zet (cl:="int") (zb rfl) rfl
  unfold zgJ
  rw[k];rfl) rfl)
theorem zgW(A:Alg n m J e Ds)(nk:∀p ∈ Ds,pOk (.str p.1)=true)(sl:S.length<=3)(sn:(S.map (·.1)).Nodup):yG [(true,zG n m J e Ds S)]=some (.lf true (.bl true)):=by
 have g:∀ds,tW n m J e Ds=some ds->Gd ds:=λds h=>ztd h
 have s1:=Yp (as:=xW 4 [(true,zG n m J e Ds S)]) (p:=1) (Zt (WD.e (zb (i:=0) rfl)) (zms (S:=S) A)) (zF rfl)
 have s2:=Yp (as:=[sT (zG n m J e Ds S),sT (oD (tW n m J e Ds)),none,none]) (p:=2) (Zt (WD.e (zb (i:=0) rfl)) (znY (S:=S) A sl)) (zF rfl)
 have s3:=Yp (as:=[sT (zG n m J e Ds S),sT (oD (tW n m J e Ds)),sT (zG n m J e Ds S),none]) (p:=3) (Zt (WD.e (zb (i:=2) rfl)) (zoV (S:=S) A nk sl sn)) (zF rfl)
 generalize tW n m J e Ds=t at g s1 s2 s3
 have t1:WT (fT (f2 (fV 2) (fV 0) (zZ .NotEq))) [sT (zG n m J e Ds S),sT (oD t),sT (zG n m J e Ds S),sT (oT t)] false:=wC (zmU (WD.e (zb (i:=2) rfl)) (WD.e (zb (i:=0) rfl)) zqR) rfl
 have t2:=isT (as:=[sT (zG n m J e Ds S),sT (oD t),sT (zG n m J e Ds S),sT (oT t)]) (i:=1) rfl
 refine X4 rfl (yg s1 (yg s2 (yg s3 (yg (yQ t1 rfl) ?_))))
 cases t with
 |none=>
  have w:WD (f2 (fV 3) (xR (dC (fC (.str "none")) dN)) (zZ .Eq)) [sT (zG n m J e Ds S),sT .non,sT (zG n m J e Ds S),sT (.tup [.str "none"])] true (.bl true):=
   zmi (WD.e (zb (i:=3) rfl)) (zeI (os:=[.lf true (.str "none")]) (zN zj yK) (szl rfl) rfl rfl) (zaB _ λx mx=>by rw[zzO.mp mx];exact eq_str _)
  have z:sIf (fT (f2 (fV 1) (fC .non) (zZ .Is))) (yF (f2 (fV 3) (xR (dC (fC (.str "none")) dN)) (zZ .Eq))) sNx [sT (zG n m J e Ds S),sT .non,sT (zG n m J e Ds S),sT (.tup [.str "none"])]=some (.rt (.lf true (.bl true))):=vG t2 (Y9 w rfl)
  exact zai z
 |some ds=>
  obtain⟨_,hp,hl⟩:=g ds rfl
  have v3:WD (fV 3) [sT (zG n m J e Ds S),sT (.tup ds),sT (zG n m J e Ds S),sT (.tup ds)] true (.tup ds):=zb rfl
  have v1:WD (fV 1) [sT (zG n m J e Ds S),sT (.tup ds),sT (zG n m J e Ds S),sT (.tup ds)] true (.tup ds):=zb rfl
  have t5:=zeS (l:=false) (zca (wC (c:=true) (zet (cl:="tuple") v3 rfl) rfl)) (λ_=>wC (zmU (WD.e v3) (WD.e v1) (zrL hp)) rfl) λz=>nomatch z
  obtain⟨os,c1,c2,c3⟩:=zcs (h:=λd=>d) (p:=λ_=>false) (it:=λd:D=>(true,d)) (gg:=gN 0) (tt:=zdw (W5 (fT (zJ (aC (fV 0) aN) vD))) (W5 (fT (zeL (fV 0) "str")))) (fe:=fV 0) (as0:=[none]) ds λd md=>⟨[sT d],rfl,by
   rcases hp d md with⟨s,rfl⟩|⟨i,rfl⟩
   · have v0:WD (fV 0) [sT (.str s)] true (.str s):=zb rfl
     exact⟨zge (k:=true) (zca (wC (c:=false) (vg (zE v0 zQ) znX) rfl)) (λ_=>zca (wC (c:=true) (zet (cl:="str") v0 rfl) rfl)) (λz=>nomatch z),λz=>nomatch z⟩
   · have v0:WD (fV 0) [sI i] true (.int i):=zb rfl
     exact⟨zge (k:=false) (zca (wC (c:=true) (vg (zE v0 zQ) zlr) rfl)) (λz=>nomatch z) (λ_=>rfl),λz=>nomatch z⟩⟩
  rw[show ds.filter (λ_=>false)=[]from List.filter_eq_nil_iff.mpr λ_ _ z=>nomatch z]at c3
  have wc:=zdY (cap:=[none]) (zrU v3) (by rw[zD];omega) c1 c2 c3
  have w6:=zmi wc (Y7 yK (szl rfl) rfl rfl) (q:=true) rfl
  exact yg (yQ t2 rfl) (yg (yQ t5 rfl) (Y9 w6 rfl))
theorem zkB(ns:List Int)(hns:ns.length<=63):zdS [(true,.lst (ns.map .int))]=some (.lf true (.bl true)):=by
 obtain⟨c0,h0⟩:=zdm (ns:=ns) (k:=0) (s:=true) (t:=true) (by omega)
 obtain⟨c1,h1⟩:=zdm (ns:=ns) (k:=1) (s:=true) (t:=true) (by omega)
 obtain⟨c2,h2⟩:=zdm (ns:=ns) (k:=2) (s:=true) (t:=true) (by omega)
 have z0:=zyK c2 (show(3:Int)≠0 by decide)
 have z1:=zyE c2 (show(0:Int)<3 by decide)
 obtain⟨w,ew⟩:∃w:Nat,(w:Int)=1+c2%3:=⟨(1+c2%3).toNat,by omega⟩
 obtain⟨n,m,J,e,Ds,S,M,hw,ha⟩:=zic (c:=c0) (h:=c1) (w:=w) (by omega)
 rw[ew]at ha
 have y0:=zyK (c2/3) (show(3:Int)≠0 by decide)
 have y1:=zyE (c2/3) (show(0:Int)<3 by decide)
 obtain⟨k,ek⟩:∃k:Nat,(k:Int)=1+c2/3%3:=⟨(1+c2/3%3).toNat,by omega⟩
 have cl:∀(as:AS) (k:Int) (x:Int),as[0]? = some (sT (.lst (ns.map .int)))->zY [(true,.lst (ns.map .int)),(true,.int k)]=sT (.int x)->WD (zJ (aC (fV 0) (aC (fC (.int k)) aN)) zY) as true (.int x):=λas k x h hh=>vg (zE (zb h) (zE zj zQ)) hh
 have r0:=zgW (S:=S) M.al M.nk M.s3 M.sn
 have du:=zms (S:=S) M.al
 rw[zkO M.la]at du
 have s1:=Yp (as:=[sT (.lst (ns.map .int)),none,none,none]) (p:=1) (ziv (WD.e (cl _ 0 c0 rfl h0)) (WD.e (cl _ 1 c1 rfl h1)) (WD.e (yO zj (yq (cl _ 2 c2 rfl h2) zj (by decide)))) ha) (zF rfl)
 have v1:WD (fV 1) [sT (.lst (ns.map .int)),sT (zG n m J e Ds S),none,none] true (zG n m J e Ds S):=zb rfl
 have u1:WD (f2 (zJ (aC (fV 1) aN) vJ) (fC .non) (zZ .IsNot)) [sT (.lst (ns.map .int)),sT (zG n m J e Ds S),none,none] true (.bl false):=f2E (x:=.non) (y:=.non) (Zt (WD.e v1) du) (WD.e zj) rfl
 have u2:WD (zJ (aC (fV 1) aN) yG) [sT (.lst (ns.map .int)),sT (zG n m J e Ds S),none,none] true (.bl true):=vg (zE v1 zQ) r0
 have t1:WT (Vh (fT (f2 (zJ (aC (fV 1) aN) vJ) (fC .non) (zZ .IsNot))) (W5 (fT (zJ (aC (fV 1) aN) yG)))) [sT (.lst (ns.map .int)),sT (zG n m J e Ds S),none,none] false:=
  zeS (k:=false) (wC u1 rfl) (λ_=>zca (wC (c:=true) u2 rfl)) λz=>nomatch z
 obtain⟨as',hf,J',e',Ds',a3,rfl,_⟩:=vB (g:=gN 3) (f:=(zB (zK true 2 (zJ (aC (fV 2) (aC (zJ (aC (fV 0) (aC (f2 (fC (.int 3)) (fV 3) (zm .Add)) aN)) zY) aN)) Z3))
  (sIf (W5 (fT (zJ (aC (fV 2) aN) yG))) (yF (fC (.bl false))) sNx)))
  (λ_ as=>∃J' e' Ds' a3,as=[sT (.lst (ns.map .int)),sT (zG n m J e Ds S),sT (zG n m J' e' Ds' S),a3]/\Bnt n m J e Ds J' e' Ds')
  (wz 0 k) 0 [sT (.lst (ns.map .int)),sT (zG n m J e Ds S),sT (zG n m J e Ds S),none] (λi x as hx hI=>by
   obtain⟨J',e',Ds',a3,rfl,hB⟩:=hI
   obtain⟨rfl,hi⟩:=wU hx
   have dl:Ds'.length=Ds.length:=by have:=congrArg List.length hB.nm;rw[zD,zD]at this;exact this
   obtain⟨cc,hc⟩:=zdm (ns:=ns) (k:=3+(0+(i:Int))) (s:=true) (t:=true) (by omega)
   obtain⟨J2,e2,Ds2,hB2,hb⟩:=znG (S:=S) (c:=cc) hB.al (by omega) M.s3
   have nk2:∀p ∈ Ds2,pOk (.str p.1)=true:=λp hp=>by
    have:p.1 ∈ Ds.map (·.1):=by rw[<-hB.nm,<-hB2.nm];exact List.mem_map_of_mem hp
    obtain⟨q,hq,e⟩:=zxB.mp this
    rw[<-e];exact M.nk q hq
   refine⟨[sT (.lst (ns.map .int)),sT (zG n m J e Ds S),sT (zG n m J' e' Ds' S),sI (0+i)],rfl,[sT (.lst (ns.map .int)),sT (zG n m J e Ds S),sT (zG n m J2 e2 Ds2 S),sI (0+i)], ?_,J2,e2,Ds2,_,rfl,⟨hB2.al,hB2.nm.trans hB.nm⟩⟩
   refine yg (Yp (p:=2) (zgk (WD.e (zb (i:=2) rfl)) (WD.e (vg (zE (zb (i:=0) rfl) (zE (yO zj (zb (i:=3) rfl)) zQ)) hc)) hb) (zF rfl)) ?_
   have v2:WD (fV 2) [sT (.lst (ns.map .int)),sT (zG n m J e Ds S),sT (zG n m J2 e2 Ds2 S),sI (0+i)] true (zG n m J2 e2 Ds2 S):=zb rfl
   have u3:WD (zJ (aC (fV 2) aN) yG) [sT (.lst (ns.map .int)),sT (zG n m J e Ds S),sT (zG n m J2 e2 Ds2 S),sI (0+i)] true (.bl true):=vg (zE v2 zQ) (zgW (S:=S) hB2.al nk2 M.s3 M.sn)
   exact yQ (zca (wC (c:=true) u3 rfl)) rfl)
  ⟨J,e,Ds,none,rfl,M.al,rfl⟩
 have v4:WD (fV 1) [sT (.lst (ns.map .int)),sT (zG n m J e Ds S),sT (zG n m J' e' Ds' S),a3] true (zG n m J e Ds S):=zb rfl
 have u4:WD (zJ (aC (fV 1) aN) yG) [sT (.lst (ns.map .int)),sT (zG n m J e Ds S),sT (zG n m J' e' Ds' S),a3] true (.bl true):=vg (zE v4 zQ) r0
 have wr:=vm (as:=[sT (.lst (ns.map .int)),sT (zG n m J e Ds S),sT (zG n m J e Ds S),none]) (zE (yO (zj (x:=.int 1)) (yq (xQ (cl _ 2 c2 rfl h2) (zj (x:=.int 3)) (by decide) (zP (by decide) (by decide))) (zj (x:=.int 3)) (by decide))) zQ) (by omega) (by omega)
 rw[<-ek,zyF]at wr
 exact X4 rfl (yg s1 (yg (yQ t1 rfl) (yg (yx (i:=2) (zb (i:=1) rfl) (zF rfl)) (yg (Z0 wr hf) (Y9 u4 rfl)))))
end
end G21
end
open PySem PySem.W PyProof.Rows
set_option maxRecDepth 100000 in
set_option maxHeartbeats 0 in
theorem PySem.Challenge.cw_stretchdeeds_k21_not_let_by_holds : PySem.Challenge.rw_stretchdeeds_k21_not_let_by.Holds := by
 w_on;refine holds_law G21.ws λsaid=>?_
 refine holds_open (q:=G21.qv) (loose:=[]) (Xt:=G21.Xt) (XP:=XL G21.qv []) (Yf:=Hook.obs (kHook G21.K G21.kA G21.kAe)) (Ya:=Hook.val (kHook G21.K G21.kA G21.kAe)) (YP:=Hook.says (kHook G21.K G21.kA G21.kAe)) (N:=6000) G21.hl (Hook.of (kHook G21.K G21.kA G21.kAe)) (Hook.keeps (kHook G21.K G21.kA G21.kAe)) (λs e=>xl_of s (Bool.and_eq_true_iff.mp e).1) XL.keeps (by rfl) (by rfl) (by rfl) (λs e=>recFacts_of (Bool.and_eq_true_iff.mp e).2) (by rfl) (by first|assumption|decide +kernel) (by decide +kernel) ⟨rfl,rfl,rfl,rfl,rfl,by decide +kernel⟩ ?hw ?hc
 (case hw=>w_witness2)
 k_fill
 refine G21.walk (l:=PySem.Challenge.rw_stretchdeeds_k21_not_let_by) rfl rfl (λw h Y=>PySem.W.kIn_of Y) G21.zkB ?F
 case F=>
  intro w mg fa h KX G hmg
  refine' G21.zqp KX G hmg ?_ ?_ ?_ ?_ ?_ ?_ ?_ ?_ ?_ ?_ ?_ ?_ ?_ ?_ ?_ ?_ ?_ ?_ ?_ ?_ ?_ ?_ ?_ ?_ ?_ ?_ ?_ ?_ ?_ ?_ ?_ ?_ ?_ ?_ ?_ ?_ ?_ ?_ ?_ ?_ ?_ ?_ ?_ ?_ ?_ ?_ ?_ ?_ ?_ ?_ ?_ ?_ ?_ ?_ ?_ ?_ ?_ ?_ ?_ ?_ ?_ ?_ ?_ ?_ ?_ ?_ ?_ ?_ ?_ ?_ ?_ ?_ ?_ ?_ ?_ ?_ ?_ ?_ ?_ ?_ ?_ ?_ ?_ ?_ ?_ ?_ ?_ ?_ ?_ ?_ ?_ ?_ ?_ ?_ ?_ ?_ ?_ ?_ ?_ ?_ ?_ ?_ ?_ ?_ ?_ ?_ ?_ ?_ ?_ ?_
  all_goals try first|k_is|(change _=_;k_is)|exact⟨_,⟨_,_,_,_,_,_,_,_,_,rfl,by k_is,by k_is⟩,by k_is⟩|exact⟨⟨_,_,_,_,_,_,_,_,_,_,_,_,_,_,rfl⟩,by first|k_is|kernel_rfl,by first|k_is|kernel_rfl,by first|k_is|kernel_rfl,by first|k_is|kernel_rfl,by first|k_is|kernel_rfl⟩|exact⟨by first|k_is|kernel_rfl,by first|k_is|kernel_rfl,by first|k_is|kernel_rfl⟩|exact⟨by first|k_is|kernel_rfl,by first|k_is|kernel_rfl,by first|k_is|kernel_rfl,by first|k_is|kernel_rfl,by first|k_is|kernel_rfl,by first|k_is|kernel_rfl,by first|k_is|kernel_rfl,by first|k_is|kernel_rfl,by first|k_is|kernel_rfl⟩|rfl
#print axioms PySem.Challenge.cw_stretchdeeds_k21_not_let_by_holds
