import PyProof.Rows.All
import KE.KDictOf
import KE.KFromBytes
import KE.KIntText
import KE.KIsAll
import KE.KItem
import KE.KRevIter
import KE.LcSums
import Lean
import PySem.Challenge.RW_stretchdeeds_k40_makes_of_rows
set_option Elab.async false
set_option linter.all false
set_option maxRecDepth 100000
set_option genSizeOf false
set_option bootstrap.genMatcherCode false
noncomputable section
abbrev zzA:=PySem.W.Frag
abbrev zzB:=@List.length_map
abbrev zzC:=@List.mem_cons
abbrev zzD:=@List.mem_cons_of_mem
abbrev zzE:=@List.getElem?_eq_getElem
abbrev zzF:=@List.mem_cons_self
abbrev zzG:=@List.getElem?_eq_some_iff
abbrev zzH:=@List.size_toArray
abbrev zzI:=@List.getElem?_map
abbrev zzJ:=@List.length_append
abbrev zzK:=@Nat.lt_of_lt_of_le
abbrev zzL:=@List.mem_append_right
abbrev zzM:=@List.mem_append
abbrev zzN:=@Nat.le_refl
abbrev zzO:=@Nat.le_trans
abbrev zzP:=@List.mem_append_left
abbrev zzQ:=@Nat.ne_of_lt
abbrev zzR:=@List.mem_singleton
abbrev zzS:=@List.length_take
abbrev zzT:=@List.length_cons
abbrev zzU:=@List.length_set
abbrev zzV:=@Int.natCast_mul
abbrev zzW:=@List.nodup_cons
abbrev zzX:=@Option.map_eq_some_iff
abbrev zzY:=@List.getElem?_set_ne
abbrev zzZ:=@Option.some.inj
abbrev zyA:=@List.mem_of_getElem?
abbrev zyB:=@List.map_map
abbrev zyC:=@Bool.and_eq_true
abbrev zyD:=@Bool.or_true
abbrev zyE:=@List.append_nil
abbrev zyF:=@List.getD_eq_getElem?_getD
abbrev zyG:=@decide_eq_false
abbrev zyH:=@Int.emod_lt_of_pos
abbrev zyI:=@Int.toNat_natCast
abbrev zyJ:=@List.nodup_nil
abbrev zyK:=@List.getElem?_set_self
abbrev zyL:=@Option.bind_some
abbrev zyM:=@List.map_append
abbrev zyN:=@Int.emod_nonneg
abbrev zyO:=@decide_eq_true
abbrev zyP:=@List.getElem?_append_left
abbrev zyQ:=@List.drop_eq_getElem_cons
abbrev zyR:=@List.getElem?_append_right
abbrev zyS:=@List.map_cons
abbrev zyT:=@Array.length_toList
abbrev zyU:=@List.length_range
abbrev zyV:=@Bool.false_ne_true
abbrev zyW:=@Nat.le_succ
abbrev zyX:=@Nat.zero_add
abbrev zyY:=@Int.toNat_of_nonneg
abbrev zyZ:=@List.getElem_mem
abbrev zxA:=@Nat.lt_succ_of_lt
abbrev zxB:=@List.not_mem_nil
abbrev zxC:=@List.append_assoc
abbrev zxD:=@List.mem_map
abbrev zxE:=@List.nodup_append
abbrev zxF:=@PySem.wpAny_bind
abbrev zxG:=@PySem.wpAny_pure
abbrev zxH:=@PySem.Heap.get?_push_of_some
abbrev zxI:=@PySem.Heap.lt_size
abbrev zxJ:=@PySem.Heap.get?_push_size
abbrev zxK:=@PySem.wpAny_newObj_type
abbrev zxL:=@PySem.wpAny_holding
abbrev zxM:=@PySem.Heap.size_push
abbrev zxN:=@PySem.wpAny_mono
abbrev zxO:=@PySem.wpAny_call_entry
section
namespace L2
open PySem PySem.Spec PyProof.Rows
def inClass(s:Stmt)(j:Nat):Stmt:=match s with
 | .ClassDef _ _ _ body _ _ _ _ _ _ _=>body.getD j (.Pass ⟨0,0,0,0⟩)
 |_=>.Pass ⟨0,0,0,0⟩
def Ga(s:Stmt):Arguments:=match s with
 | .FunctionDef _ a _ _ _ _ _ _ _ _=>a
 |_=>{posonlyargs:=[],args:=[],vararg:=none,kwonlyargs:=[],kw_defaults:=[],kwarg:=none,defaults:=[]}
def Yy(s:Stmt):List Stmt:=match s with
 | .FunctionDef _ _ b _ _ _ _ _ _ _=>b
 |_=>[]
def zd(s:Stmt):Scope:=match s with
 | .FunctionDef _ _ _ _ _ _ sc _ _ _=>sc
 |_=>{kind:=.function,names:=[],isGenerator:=false,isCoroutine:=false}
end L2
end
section
namespace G40
open PySem PySem.W PyProof.Rows L2
def top(i:Nat):Stmt:=PySem.Challenge.pw_stretchdeeds_k40_makes_of_rows.main.body.getD i (.Pass ⟨0,0,0,0⟩)
abbrev X7:Stmt:=top 8
abbrev Y7:Stmt:=top 10
abbrev vg:Stmt:=top 11
abbrev vo:Stmt:=top 12
abbrev Zt:Stmt:=top 13
abbrev Yl:Stmt:=top 14
abbrev Yr:Stmt:=top 15
abbrev v3:Stmt:=top 16
abbrev vp:Stmt:=inClass (top 18) 0
abbrev V_:Stmt:=top 19
abbrev Y9:Stmt:=inClass (top 32) 5
abbrev V8:Stmt:=top 20
abbrev Qg:Stmt:=top 21
abbrev Qe:Stmt:=top 22
abbrev w_:Stmt:=inClass (top 32) 9
abbrev Yv:Stmt:=top 23
abbrev Y3:Stmt:=inClass (top 32) 10
abbrev UC:Stmt:=top 24
abbrev UN:Stmt:=top 25
abbrev Yn:Stmt:=top 28
abbrev Gq:Stmt:=top 31
abbrev Wi:Stmt:=top 34
abbrev Yp:Stmt:=top 35
abbrev YY:Stmt:=top 36
abbrev vq:Stmt:=top 37
abbrev x_:Stmt:=top 38
abbrev Xb:Stmt:=top 39
abbrev Y6:Stmt:=top 40
abbrev Wl:Stmt:=top 41
abbrev Xa:Stmt:=top 42
abbrev ym:Stmt:=top 43
abbrev yE:Stmt:=top 44
abbrev X9:Stmt:=top 46
abbrev we:Stmt:=top 45
abbrev Qi:Stmt:=top 47
abbrev vC:Stmt:=top 48
abbrev Qb:Stmt:=top 49
abbrev va:Stmt:=top 50
abbrev vd:Stmt:=top 51
abbrev wG:Stmt:=inClass (top 29) 0
abbrev xh:Stmt:=inClass (top 32) 0
abbrev vh:Stmt:=inClass (top 29) 2
abbrev vW:Stmt:=inClass (top 29) 13
abbrev Ym:Stmt:=inClass (top 29) 1
abbrev vk:Stmt:=inClass (top 32) 1
abbrev xD:Stmt:=inClass (top 29) 3
abbrev YB:Stmt:=inClass (top 29) 6
abbrev Yu:Stmt:=inClass (top 29) 12
abbrev B_:Stmt:=top 52
abbrev hpg:=PySem.Challenge.pw_stretchdeeds_k40_makes_of_rows
abbrev hva:Value:=.str "__main__" 164
abbrev hvb:Value:=.str "stretchdeeds.errors" 194
abbrev hvc:Value:=.str "stretchdeeds.terms" 287
abbrev hvd:Value:=.str "stretchdeeds.algebras" 296
abbrev hve:Value:=.str "stretchdeeds.trees" 372
abbrev hvf:Value:=.str "stretchdeeds.makes" 480
abbrev hvg:Value:=.str "stretchdeeds.ways" 669
abbrev hvh:Value:=.str "law_stretchdeeds_k40_makes_of_rows" 789
abbrev hem:List Value:=[(.type "ValueError"), (.type "Exception"), (.type "BaseException"), (.type "object")]
abbrev kF(n q:Str)(s:Stmt)(pm hcd:Value):Obj:=⟨.type "function",none,.func (fnOf n q (Ga s) (Yy s) (zd s) .none .none .none pm none hcd .none),#[]⟩
abbrev kD(es:List DictEntry)(n:Nat):Obj:=⟨.type "dict",none,.dict es.toArray n,#[]⟩
abbrev kE(P:Params)(x:Str)(t:Nat)(v:Value):DictEntry:=⟨PyData.keyHash P x,.str x t,v⟩
abbrev kR(P:Params)(x:Str)(t:Nat)(a:Addr):DictEntry:=kE P x t (.ref a)
abbrev hfl(c:Value)(l:List Value):Obj:=⟨c,none,.fields l.toArray,#[]⟩
abbrev hco(n q:Str)(t u:Nat)(l k g:Int)(b:Bool)(a:Nat)(r s v:Value):Obj:=hfl (.type "code") [.str n t,.str q (t+1),.str "/claim/cut.py" (t+2),.int l 0,.int k 0,.int 0 0,.int 0 0,.int g 0,.ref a,.bool b,.int 181 0,.ref (a+1),.none,r,s,v,.int u 0,.int l 0,.str "/claim/cut.py" (u+1)]
abbrev hc7(n q:Str)(t u:Nat)(l k:Int)(a:Nat):=hco n q t u l k 3 true a (.ref (a+2)) (.ref (a+3)) (.ref (a+4))
abbrev hc5(n q:Str)(t:Nat)(l k:Int)(a:Nat):=hco n q t (t+3) l k 3 true a .none .none (.ref (a+2))
noncomputable abbrev hen(P:Params):List DictEntry:=[kE P "__doc__" 166 .none,kE P "__package__" 167 .none,kE P "__loader__" 168 (.builtin "__main__.__loader__#opaque"),kE P "__spec__" 169 .none,kR P "__annotations__" 170 6,kR P "__builtins__" 171 4,kE P "__file__" 173 (.str "/claim/cut.py" 172),kE P "__cached__" 174 .none,kR P "_wall" 193 21,kR P "StretchError" 213 31,kR P "NotLetBy" 238 51,kR P "NoMake" 254 63,kR P "NoValue" 270 75,kR P "TooGreat" 286 87,kR P "is_whole" 295 96,kR P "is_within" 306 103,kR P "nothing_fails" 316 110,kR P "parting_fails" 328 117,kR P "doing_fails" 344 124,kR P "deeds_fail" 355 131,kR P "what_fails" 363 138,kR P "check_let_by" 371 145,kR P "Knot" 414 162,kR P "leaf_of" 421 173,kR P "knot_of" 430 180,kR P "tree_of" 439 187,kR P "size_of" 446 194,kR P "both_waits" 455 201,kR P "gather" 470 208,kR P "row_of" 479 215,kE P "MOST_IN_ROW" 483 (.int (300) 482),kR P "check_size" 490 222,kR P "Makes" 668 351,kR P "firm" 676 360,kR P "Ways" 788 443,kR P "_law_draw" 802 454,kR P "_law_digits" 812 461,kR P "_law_names" 829 468,kR P "_law_part_join" 840 475,kR P "_law_part_done" 846 480,kR P "_law_parts" 854 487,kR P "_law_split" 865 494,kR P "_law_laid" 876 501,kR P "_law_order" 886 508,kR P "_law_algebra" 892 513,kR P "_law_by_digits" 898 518,kR P "_law_is_good" 904 523,kR P "_law_does" 919 530,kR P "_law_any" 927 537,kR P "_law_copy" 933 542,kR P "_law_row" 943 549,kR P "_law_is_list" 949 554,kR P "_law_is_number" 957 561,kR P "law" 972 568]
noncomputable def K(P:Params):Frag:=
 (nat_lit 3,kD (kE P "__name__" 165 hvh::hen P) 55)::
 (nat_lit 95,hc7 "is_whole" "is_whole" 289 293 19 1 90)::
 (nat_lit 96,kF "is_whole" "is_whole" X7 hvc (.ref 95))::
 (nat_lit 102,hc7 "is_within" "is_within" 298 304 22 3 97)::
 (nat_lit 103,kF "is_within" "is_within" Y7 hvd (.ref 102))::
 (nat_lit 109,hc7 "nothing_fails" "nothing_fails" 307 314 24 1 104)::
 (nat_lit 110,kF "nothing_fails" "nothing_fails" vg hvd (.ref 109))::
 (nat_lit 116,hc7 "parting_fails" "parting_fails" 317 326 31 1 111)::
 (nat_lit 117,kF "parting_fails" "parting_fails" vo hvd (.ref 116))::
 (nat_lit 123,hc7 "doing_fails" "doing_fails" 329 342 40 3 118)::
 (nat_lit 124,kF "doing_fails" "doing_fails" Zt hvd (.ref 123))::
 (nat_lit 130,hc7 "deeds_fail" "deeds_fail" 345 353 51 1 125)::
 (nat_lit 131,kF "deeds_fail" "deeds_fail" Yl hvd (.ref 130))::
 (nat_lit 137,hc7 "what_fails" "what_fails" 356 361 60 1 132)::
 (nat_lit 138,kF "what_fails" "what_fails" Yr hvd (.ref 137))::
 (nat_lit 144,hc7 "check_let_by" "check_let_by" 364 369 67 1 139)::
 (nat_lit 145,kF "check_let_by" "check_let_by" v3 hvd (.ref 144))::
 (nat_lit 158,hc7 "__init__" "Knot.__init__" 386 396 74 7 153)::
 (nat_lit 159,kF "__init__" "Knot.__init__" vp hve (.ref 158))::
 (nat_lit 161,kD [kE P "__module__" 381 hve,kE P "__firstlineno__" 385 (.int (72) 384),kR P "__init__" 398 159,kR P "__static_attributes__" 407 160,kR P "__dict__" 409 163,kR P "__weakref__" 411 164,kE P "__doc__" 412 .none] 4)::
 (nat_lit 162,⟨(.type "type"),none,.cls {name:="Knot",bases:=[(.type "object")],mro:=[(.ref 162),(.type "object")],ns:=161,qualname:="Knot",hasDict:=true,slotNames:=[],subclasses:=[],abstract:=false,collection:=none,hasDel:=false},#[none,none,some (.str "Knot" 374),some (.str "Knot" 382),some (.builtin "object.__new__"),some (.bool true)]⟩)::
 (nat_lit 172,hc7 "leaf_of" "leaf_of" 415 419 83 1 167)::
 (nat_lit 173,kF "leaf_of" "leaf_of" V_ hve (.ref 172))::
 (nat_lit 179,hc7 "knot_of" "knot_of" 422 428 85 3 174)::
 (nat_lit 180,kF "knot_of" "knot_of" V8 hve (.ref 179))::
 (nat_lit 186,hc7 "tree_of" "tree_of" 431 437 87 2 181)::
 (nat_lit 187,kF "tree_of" "tree_of" Qg hve (.ref 186))::
 (nat_lit 193,hc7 "size_of" "size_of" 440 444 94 1 188)::
 (nat_lit 194,kF "size_of" "size_of" Qe hve (.ref 193))::
 (nat_lit 200,hc7 "both_waits" "both_waits" 447 453 96 3 195)::
 (nat_lit 201,kF "both_waits" "both_waits" Yv hve (.ref 200))::
 (nat_lit 207,hc7 "gather" "gather" 456 468 102 5 202)::
 (nat_lit 208,kF "gather" "gather" UC hve (.ref 207))::
 (nat_lit 214,hc7 "row_of" "row_of" 471 477 111 2 209)::
 (nat_lit 215,kF "row_of" "row_of" UN hve (.ref 214))::
 (nat_lit 221,hc7 "check_size" "check_size" 484 488 118 1 216)::
 (nat_lit 222,kF "check_size" "check_size" Yn hvf (.ref 221))::
 (nat_lit 235,hc7 "__init__" "Makes.__init__" 503 508 123 2 230)::
 (nat_lit 236,kF "__init__" "Makes.__init__" wG hvf (.ref 235))::
 (nat_lit 242,hc7 "keep" "Makes.keep" 511 516 127 2 237)::
 (nat_lit 243,kF "keep" "Makes.keep" Ym hvf (.ref 242))::
 (nat_lit 249,hc7 "tree_at" "Makes.tree_at" 519 524 131 2 244)::
 (nat_lit 250,kF "tree_at" "Makes.tree_at" vh hvf (.ref 249))::
 (nat_lit 256,hc7 "check_value" "Makes.check_value" 527 532 136 2 251)::
 (nat_lit 257,kF "check_value" "Makes.check_value" xD hvf (.ref 256))::
 (nat_lit 277,hc7 "made" "Makes.made" 555 561 146 2 272)::
 (nat_lit 278,kF "made" "Makes.made" YB hvf (.ref 277))::
 (nat_lit 319,hc7 "many" "Makes.many" 615 620 169 2 314)::
 (nat_lit 320,kF "many" "Makes.many" Yu hvf (.ref 319))::
 (nat_lit 326,hc7 "listed" "Makes.listed" 623 628 172 2 321)::
 (nat_lit 327,kF "listed" "Makes.listed" vW hvf (.ref 326))::
 (nat_lit 350,kD [kE P "__module__" 498 hvf,kE P "__firstlineno__" 502 (.int (121) 501),kR P "__init__" 510 236,kR P "keep" 518 243,kR P "tree_at" 526 250,kR P "check_value" 534 257,kR P "three_parts" 544 264,kR P "three_together" 554 271,kR P "made" 563 278,kR P "done" 574 285,kR P "turned" 584 292,kR P "changed" 594 299,kR P "put_in" 604 306,kR P "cut" 614 313,kR P "many" 622 320,kR P "listed" 630 327,kR P "asked" 640 334,kR P "walk" 648 341,kR P "first" 658 348,kR P "__static_attributes__" 661 349,kR P "__dict__" 663 352,kR P "__weakref__" 665 353,kE P "__doc__" 666 .none] 4)::
 (nat_lit 351,⟨(.type "type"),none,.cls {name:="Makes",bases:=[(.type "object")],mro:=[(.ref 351),(.type "object")],ns:=350,qualname:="Makes",hasDict:=true,slotNames:=[],subclasses:=[],abstract:=false,collection:=none,hasDel:=false},#[none,none,some (.str "Makes" 491),some (.str "Makes" 499),some (.builtin "object.__new__"),some (.bool true)]⟩)::
 (nat_lit 359,hc5 "firm" "firm" 671 184 1 356)::
 (nat_lit 360,kF "firm" "firm" Gq hvg (.ref 359))::
 (nat_lit 371,hc5 "__init__" "Ways.__init__" 689 188 2 368)::
 (nat_lit 372,kF "__init__" "Ways.__init__" xh hvg (.ref 371))::
 (nat_lit 378,hc7 "is_value" "Ways.is_value" 695 700 197 2 373)::
 (nat_lit 379,kF "is_value" "Ways.is_value" vk hvg (.ref 378))::
 (nat_lit 406,hc7 "join" "Ways.join" 726 732 209 3 401)::
 (nat_lit 407,kF "join" "Ways.join" Y9 hvg (.ref 406))::
 (nat_lit 432,hc5 "behind" "Ways.behind" 759 221 3 429)::
 (nat_lit 433,kF "behind" "Ways.behind" w_ hvg (.ref 432))::
 (nat_lit 439,hc7 "made" "Ways.made" 765 772 224 4 434)::
 (nat_lit 440,kF "made" "Ways.made" Y3 hvg (.ref 439))::
 (nat_lit 442,kD [kE P "__module__" 684 hvg,kE P "__firstlineno__" 688 (.int (186) 687),kR P "__init__" 694 372,kR P "is_value" 702 379,kR P "is_deed" 710 386,kR P "is_sign" 718 393,kR P "nothing" 725 400,kR P "join" 734 407,kR P "has_sign" 743 414,kR P "idle" 750 421,kR P "wait_of" 758 428,kR P "behind" 764 433,kR P "made" 774 440,kR P "__static_attributes__" 781 441,kR P "__dict__" 783 444,kR P "__weakref__" 785 445,kE P "__doc__" 786 .none] 4)::
 (nat_lit 443,⟨(.type "type"),none,.cls {name:="Ways",bases:=[(.type "object")],mro:=[(.ref 443),(.type "object")],ns:=442,qualname:="Ways",hasDict:=true,slotNames:=[],subclasses:=[],abstract:=false,collection:=none,hasDel:=false},#[none,none,some (.str "Ways" 677),some (.str "Ways" 685),some (.builtin "object.__new__"),some (.bool true)]⟩)::
 (nat_lit 453,hc7 "_law_draw" "_law_draw" 791 800 227 2 448)::
 (nat_lit 454,kF "_law_draw" "_law_draw" Wi hvh (.ref 453))::
 (nat_lit 460,hc7 "_law_digits" "_law_digits" 803 810 239 2 455)::
 (nat_lit 461,kF "_law_digits" "_law_digits" Yp hvh (.ref 460))::
 (nat_lit 467,hc7 "_law_names" "_law_names" 813 827 245 2 462)::
 (nat_lit 468,kF "_law_names" "_law_names" YY hvh (.ref 467))::
 (nat_lit 474,hc7 "_law_part_join" "_law_part_join" 830 838 260 3 469)::
 (nat_lit 475,kF "_law_part_join" "_law_part_join" vq hvh (.ref 474))::
 (nat_lit 479,hc5 "_law_part_done" "_law_part_done" 841 269 4 476)::
 (nat_lit 480,kF "_law_part_done" "_law_part_done" x_ hvh (.ref 479))::
 (nat_lit 486,hc7 "_law_parts" "_law_parts" 847 852 280 1 481)::
 (nat_lit 487,kF "_law_parts" "_law_parts" Xb hvh (.ref 486))::
 (nat_lit 493,hc7 "_law_split" "_law_split" 855 863 285 2 488)::
 (nat_lit 494,kF "_law_split" "_law_split" Y6 hvh (.ref 493))::
 (nat_lit 500,hc7 "_law_laid" "_law_laid" 866 874 291 2 495)::
 (nat_lit 501,kF "_law_laid" "_law_laid" Wl hvh (.ref 500))::
 (nat_lit 507,hc7 "_law_order" "_law_order" 877 884 296 2 502)::
 (nat_lit 508,kF "_law_order" "_law_order" Xa hvh (.ref 507))::
 (nat_lit 512,hc5 "_law_algebra" "_law_algebra" 887 302 2 509)::
 (nat_lit 513,kF "_law_algebra" "_law_algebra" ym hvh (.ref 512))::
 (nat_lit 517,hc5 "_law_by_digits" "_law_by_digits" 893 328 1 514)::
 (nat_lit 518,kF "_law_by_digits" "_law_by_digits" yE hvh (.ref 517))::
 (nat_lit 522,hc5 "_law_is_good" "_law_is_good" 899 345 1 519)::
 (nat_lit 523,kF "_law_is_good" "_law_is_good" we hvh (.ref 522))::
 (nat_lit 529,hc7 "_law_does" "_law_does" 905 917 358 5 524)::
 (nat_lit 530,kF "_law_does" "_law_does" X9 hvh (.ref 529))::
 (nat_lit 536,hc7 "_law_any" "_law_any" 920 925 366 1 531)::
 (nat_lit 537,kF "_law_any" "_law_any" Qi hvh (.ref 536))::
 (nat_lit 541,hc5 "_law_copy" "_law_copy" 928 372 1 538)::
 (nat_lit 542,kF "_law_copy" "_law_copy" vC hvh (.ref 541))::
 (nat_lit 548,hc7 "_law_row" "_law_row" 934 941 376 3 543)::
 (nat_lit 549,kF "_law_row" "_law_row" Qb hvh (.ref 548))::
 (nat_lit 553,hc5 "_law_is_list" "_law_is_list" 944 381 2 550)::
 (nat_lit 554,kF "_law_is_list" "_law_is_list" va hvh (.ref 553))::
 (nat_lit 560,hc7 "_law_is_number" "_law_is_number" 950 955 385 2 555)::
 (nat_lit 561,kF "_law_is_number" "_law_is_number" vd hvh (.ref 560))::
 (nat_lit 567,hc7 "law" "law" 958 970 387 1 562)::
 (nat_lit 568,kF "law" "law" B_ hvh (.ref 567))::
 []
def kA:List Addr:=[3,95,96,102,103,109,110,116,117,123,124,130,131,137,138,144,145,158,159,161,162,172,173,179,180,186,187,193,194,200,201,207,208,214,215,221,222,235,236,242,243,249,250,256,257,277,278,319,320,326,327,350,351,359,360,371,372,378,379,406,407,432,433,439,440,442,443,453,454,460,461,467,468,474,475,479,480,486,487,493,494,500,501,507,508,512,513,517,518,522,523,529,530,536,537,541,542,548,549,553,554,560,561,567,568]
def qv:Program:={hpg with main:={hpg.main with body:=[0,2,3,4,5,6,8,10,11,12,13,14,15,16,18,19,20,21,22,23,24,25,27,28,29,31,32,34,35,36,37,38,39,40,41,42,43,44,45,46,47,48,49,50,51,52].map top}}
theorem kAe(P:Params):kA=(K P).map (·.1):=by kernel_rfl
set_option maxRecDepth 100000
theorem ws:PySem.Challenge.rw_stretchdeeds_k40_makes_of_rows.wellSaid=true:=by kernel_rfl
abbrev Xt(s:Shared):Bool:=xlAt qv [] s&&recOk (RowW.records (OpenRow.toRowW PySem.Challenge.rw_stretchdeeds_k40_makes_of_rows.row)) s
abbrev hk:Hook:=kHook K kA kAe
def htp(l:List Value):Obj:=⟨.type "tuple",none,.seq l.toArray 0,#[]⟩
def htx:Nat->List Str->List Value
 |_,[]=>[]
 |t,x::l=>.str x t::htx (t+1) l
noncomputable def hfO(a t:Nat)(r:Str)(v:Value)(s:Stmt):List Obj:=match s with
 | .FunctionDef n p b _ _ _ c _ _ o=>
  let q:=r++n;let S:Obj:=⟨.none,none,.func {name:=n,qualname:=q,params:=p,body:=.stmts b,scope:=c,globals:=0,closure:=[],defaults:=.none,kwdefaults:=.none},#[]⟩
  match localNames p c (.stmts b) with
  |some (x,_)=>[htp [],hfl .none [],htp (htx (t+3) x),htp [],S,hc7 n q t (t+3+x.length) o.line p.args.length a,kF n q s v (.ref (a+5))]
  |none=>[htp [],hfl .none [],S,hc5 n q t o.line p.args.length a,kF n q s v (.ref (a+3))]
 |_=>[]
noncomputable def htk(s:Stmt):Nat:=match s with
 | .FunctionDef _ p b _ _ _ c _ _ _=>match localNames p c (.stmts b) with
  |some (x,_)=>6+x.length
  |none=>6
 |_=>0
noncomputable def hms(P:Params)(c:Str)(v:Value):Nat->Nat->List Stmt->List Obj×List DictEntry×List Value×Nat
 |_,t,[]=>([],[],[],t)
 |a,t,s::r=>match s with
  | .FunctionDef n _ _ _ _ _ _ _ _ o=>let f:=hfO a t (c++".") v s;let l:=a+f.length;let u:=t+htk s;let z:=hms P c v l u r;(f++z.1,kR P n (u-1) (l-1)::z.2.1,.int o.line 0:: .int 4 0:: .ref (l-2)::z.2.2.1,z.2.2.2)
  |_=>hms P c v a t r
def hfm(a b:Addr)(v:Value):Obj:=⟨.type "frame",none,.plain,#[some (.ref a),some (.ref 3),some (.ref b),none,some v,none,some (.ref 0)]⟩
def hbf(x:String)(v:Value):Obj:=hfl (.type "builtin_function_or_method") [.builtin x,v]
def hgd(x:Str)(t:Nat)(c:Addr)(g s:Value):Obj:=hfl (.type "getset_descriptor") [.str x t,.ref c,g,s]
noncomputable def hcO(P:Params)(a t:Nat)(v:Value)(bv mr sb:List Value)(nw:String)(d:Nat)(s:Stmt):List Obj:=match s with
 | .ClassDef n _ _ b _ _ _ _ _ sa o=>
  let m:=hms P n v (a+7) (t+12) b;let e:=a+7+m.1.length;let k:=m.2.2.2+sa.length;let z:=k+1;let C:=e+2
  let x:=kE P "__module__" (t+7) v;let f:=kE P "__firstlineno__" (t+11) (.int o.line (t+10));let y:=kR P "__static_attributes__" k e
  let W:=λt:Nat=>hgd "__weakref__" t C (.builtin "ExceptionGroup.__weakref__") .none
  let D:List DictEntry×List Obj:=match d with
   |0=>([],[])
   |1=>([kR P "__weakref__" (z+1) (C+1)],[W z])
   |_=>([kR P "__dict__" (z+1) (C+1),kR P "__weakref__" (z+3) (C+2)],[hgd "__dict__" z C (.builtin "function.__dict__") (.builtin "function.__dict__#set"),W (z+2)])
  [htp bv,hbf "type.__prepare__" (.type "type"),kD (x::kE P "__qualname__" (t+9) (.str n (t+8))::f::m.2.1++[y]) (4+m.2.1.length),htp [],hfl .none m.2.2.1,hco n n (t+2) (t+5) o.line 0 0 false (a+3) .none .none .none,hfm (a+5) (a+2) v]++m.1++[htp (htx m.2.2.2 sa),kD (x::f::m.2.1++y::D.1++[kE P "__doc__" (z+2*d) .none]) (2+d),⟨.type "type",none,.cls {name:=n,bases:=if bv.isEmpty then [.type "object"] else bv,mro:=.ref C::mr,ns:=e+1,qualname:=n,hasDict:=true,slotNames:=[],subclasses:=sb},#[if bv.isEmpty then none else some (.ref a),none,some (.str n t),some (.str n (t+8)),some (.builtin nw),some (.bool true)]⟩]++D.2++[hfl (.type "super") [.ref C,.ref C,.ref C],hbf "object.__init_subclass__" (.ref C)]
 |_=>[]
def hcs:List (Int×Addr):=[(1,20),(5,27),(7,40),(12,59),(14,71),(16,83),(19,95),(22,102),(24,109),(31,116),(40,123),(51,130),(60,137),(67,144),(72,151),(83,172),(85,179),(87,186),(94,193),(96,200),(102,207),(111,214),(118,221),(121,228),(184,359),(186,366),(227,453),(239,460),(245,467),(260,474),(269,479),(280,486),(285,493),(291,500),(296,507),(302,512),(328,517),(345,522),(358,529),(366,536),(372,541),(376,548),(381,553),(385,560),(387,567)]
noncomputable def hhp(P:Params)(v:Value)(g c:Nat)(l:List Obj):Heap:=⟨⟨boot_o_0 P::boot_o_1 P::boot_o_2 P::kD (kE P "__name__" 165 v::(hen P).take g) (g+1)::boot_o_4 P::boot_o_5 P::boot_o_6 P::boot_o_7 P::boot_o_8 P::boot_o_9 P::boot_o_10 P::htp []::hfl .none ((hcs.take c).flatMap λp=>[.int p.1 0,.int 0 0,.ref p.2])::hco "<module>" "<module>" 182 185 1 0 0 false 11 .none .none .none::hfm 13 3 (.str "__main__" 164)::l⟩,(boot_heap P).life⟩
abbrev hbd:=behindTheImports hpg
abbrev hev:Env:={scope:=hpg.main.scope,locals:=mainNs,globals:=mainNs,cells:=[],code:=.ref 13,frame:=some 14}
abbrev hcd:Code:=.body hbd hev
noncomputable abbrev hSh(t:Nat)(h:Heap)(o:OsState):Shared:=⟨h,⟨[]⟩,boot_drawn,t,o⟩
def hl0(P:Params):List Obj:=hfO 15 187 "" hva (top 0)++hcO P 22 196 hvb [(.type "ValueError")] hem [(.ref 51),(.ref 63),(.ref 75),(.ref 87)] "ValueError.__new__" 1 (top 2)++hcO P 35 214 hvb [(.ref 31)] ((.ref 31)::hem) [] "ValueError.__new__" 0 (top 3)++hcO P 54 239 hvb [(.ref 31)] ((.ref 31)::hem) [] "ValueError.__new__" 0 (top 4)++hcO P 66 255 hvb [(.ref 31)] ((.ref 31)::hem) [] "ValueError.__new__" 0 (top 5)++hcO P 78 271 hvb [(.ref 31)] ((.ref 31)::hem) [] "ValueError.__new__" 0 (top 6)
def hl1(P:Params):List Obj:=hl0 P++hfO 90 289 "" hvc (top 8)++hfO 97 298 "" hvd (top 10)++hfO 104 307 "" hvd (top 11)++hfO 111 317 "" hvd (top 12)++hfO 118 329 "" hvd (top 13)++hfO 125 345 "" hvd (top 14)++hfO 132 356 "" hvd (top 15)++hfO 139 364 "" hvd (top 16)++hcO P 146 374 hve [] [(.type "object")] [] "object.__new__" 2 (top 18)++hfO 167 415 "" hve (top 19)++hfO 174 422 "" hve (top 20)++hfO 181 431 "" hve (top 21)++hfO 188 440 "" hve (top 22)++hfO 195 447 "" hve (top 23)++hfO 202 456 "" hve (top 24)++hfO 209 471 "" hve (top 25)++hfO 216 484 "" hvf (top 28)
def hl2(P:Params):List Obj:=hl1 P++hcO P 223 491 hvf [] [(.type "object")] [] "object.__new__" 2 (top 29)++hfO 356 671 "" hvg (top 31)
def hl3(P:Params):List Obj:=hl2 P++hcO P 361 677 hvg [] [(.type "object")] [] "object.__new__" 2 (top 32)++hfO 448 791 "" hvh (top 34)++hfO 455 803 "" hvh (top 35)++hfO 462 813 "" hvh (top 36)++hfO 469 830 "" hvh (top 37)++hfO 476 841 "" hvh (top 38)++hfO 481 847 "" hvh (top 39)++hfO 488 855 "" hvh (top 40)++hfO 495 866 "" hvh (top 41)++hfO 502 877 "" hvh (top 42)++hfO 509 887 "" hvh (top 43)++hfO 514 893 "" hvh (top 44)++hfO 519 899 "" hvh (top 45)++hfO 524 905 "" hvh (top 46)++hfO 531 920 "" hvh (top 47)
def hl4(P:Params):List Obj:=hl3 P++hfO 538 928 "" hvh (top 48)++hfO 543 934 "" hvh (top 49)++hfO 550 944 "" hvh (top 50)++hfO 555 950 "" hvh (top 51)++hfO 562 958 "" hvh (top 52)
theorem hr0(w:World)(o:OsState):topGo treeTable hpg w 11 (some (.ref 6)) 12 (hSh boot_toks (boot_heap w.params) o) (topStub hpg)=some (hSh 187 (hhp w.params (.str "__main__" 164) 8 0 []) o,⟨denote treeTable hcd,hcd,⟨0,0,0,0⟩,[topFrame ⟨0,0,0,0⟩]⟩):=by kernel_rfl
theorem hr1(w:World)(o:OsState):segRun treeTable hpg w 11 (some (.ref 6)) 1 1 (hSh 187 (hhp w.params (.str "__main__" 164) 8 0 []) o) (blockOf hbd hev hcd ⟨0,0,0,0⟩ [topFrame ⟨0,0,0,0⟩])=some (.next,hSh 187 (hhp w.params (.str "__main__" 164) 8 0 []) o,hcd,⟨0,0,0,0⟩):=by kernel_rfl
theorem hs0(w:World)(o:OsState):segRun treeTable hpg w 11 (some (.ref 6)) 1 1109 (hSh 187 (hhp w.params (.str "__main__" 164) 8 0 []) o) (piecesOf (hbd.take 7) hev hcd ⟨0,0,0,0⟩ [topFrame ⟨0,0,0,0⟩])=some (.next,hSh 287 (hhp w.params hvb 14 6 (hl0 w.params)) o,hcd,⟨16,0,17,8⟩):=by kernel_rfl
abbrev hb0:=hbd.drop 7
theorem hs1(w:World)(o:OsState):segRun treeTable hpg w 11 (some (.ref 6)) 1 785 (hSh 287 (hhp w.params hvb 14 6 (hl0 w.params)) o) (piecesOf (hb0.take 22) hev hcd ⟨16,0,17,8⟩ [topFrame ⟨0,0,0,0⟩])=some (.next,hSh 491 (hhp w.params hvf 32 23 (hl1 w.params)) o,hcd,⟨118,0,120,56⟩):=by kernel_rfl
abbrev hb1:=hb0.drop 22
theorem hs2(w:World)(o:OsState):segRun treeTable hpg w 11 (some (.ref 6)) 1 791 (hSh 491 (hhp w.params hvf 32 23 (hl1 w.params)) o) (piecesOf (hb1.take 3) hev hcd ⟨118,0,120,56⟩ [topFrame ⟨0,0,0,0⟩])=some (.next,hSh 677 (hhp w.params hvg 34 25 (hl2 w.params)) o,hcd,⟨184,0,185,46⟩):=by kernel_rfl
abbrev hb2:=hb1.drop 3
theorem hs3(w:World)(o:OsState):segRun treeTable hpg w 11 (some (.ref 6)) 1 988 (hSh 677 (hhp w.params hvg 34 25 (hl2 w.params)) o) (piecesOf (hb2.take 16) hev hcd ⟨184,0,185,46⟩ [topFrame ⟨0,0,0,0⟩])=some (.next,hSh 928 (hhp w.params hvh 49 40 (hl3 w.params)) o,hcd,⟨366,0,371,39⟩):=by kernel_rfl
abbrev hb3:=hb2.drop 16
theorem hs4(w:World)(o:OsState):topRun treeTable hpg w 11 (some (.ref 6)) 154 (hSh 928 (hhp w.params hvh 49 40 (hl3 w.params)) o) (restOf hb3 hev hcd ⟨366,0,371,39⟩ [topFrame ⟨0,0,0,0⟩])=some (hSh 973 (hhp w.params hvh 54 45 (hl4 w.params)) o):=by kernel_rfl
theorem hpa{w:World}{n N t t':Nat}{h h':Heap}{o:OsState}{r:Shared}{b:List Stmt}(m:Nat){p p':Pos}(x:segRun treeTable hpg w 11 (some (.ref 6)) 1 n (hSh t h o) (piecesOf (b.take m) hev hcd p [topFrame ⟨0,0,0,0⟩])=some (.next,hSh t' h' o,hcd,p'))(y:topRun treeTable hpg w 11 (some (.ref 6)) N (hSh t' h' o) (restOf (b.drop m) hev hcd p' [topFrame ⟨0,0,0,0⟩])=some r):topRun treeTable hpg w 11 (some (.ref 6)) (n+N) (hSh t h o) (restOf b hev hcd p [topFrame ⟨0,0,0,0⟩])=some r:=by
 have z:=piece_app x y;rwa[List.take_append_drop] at z
theorem hhr(w:World)(o:OsState):topRun treeTable hpg w 11 (some (.ref 6)) (12+(1+(1109+(785+(791+(988+154)))))) (hSh boot_toks (boot_heap w.params) o) (topStub hpg)=some (hSh 973 (hhp w.params hvh 54 45 (hl4 w.params)) o):=go_top (hr0 w o) (piece_block (hr1 w o) (hpa _ (hs0 w o) (hpa _ (hs1 w o) (hpa _ (hs2 w o) (hpa _ (hs3 w o) (hs4 w o))))))
def hhf(P:Params):Heap:=hhp P hvh 54 45 (hl4 P)
theorem hhq(w:World):(λo=>((staticsOk (importedModules hpg.main.body) (boot_heap w.params) (hhf w.params)&&namesBound hpg (hhf w.params)&&gensDone (hSh 973 (hhf w.params) o)&&laidKept (boot_heap w.params) (hhf w.params)),openSeen qv [] (importedModules hpg.main.body) Xt true (hSh 973 (hhf w.params) o),hk.obs (hSh 973 (hhf w.params) o)))=λ_=>(true,openGood qv [],hk.val w):=by kernel_rfl
theorem hl:LeftO PySem.Challenge.pw_stretchdeeds_k40_makes_of_rows qv [] Xt hk.obs hk.val 6000:=LeftO.of_pieces (H₀:=boot_heap) (H₁:=hhf) (boot_open (by kernel_rfl) rfl λ_=>by kernel_rfl) (λ_=>by kernel_rfl) hhr rfl hhq
end G40
end
section
namespace L2
open PySem PySem.Spec PyProof.Rows
abbrev Key:=Sum Int Str
def LY:Key->Value->Bool
 | .inl k,v=>Value.isInt k v
 | .inr x,v=>Value.isStrOf x v
def mI(w:World):Key->Int
 | .inl k=>hashInt k
 | .inr x=>hashStr w x
def xo:∀{k:Key}{v:Value},LY k v=true->(∃i t,k=Sum.inl i/\v=Value.int i t)\/(∃x t,k=Sum.inr x/\v=Value.str x t)
 | .inl i,v,h=>by
  obtain⟨t,e⟩:=Value.isInt_shape (k:=i) (v:=v) h;exact .inl ⟨i,t,rfl,e⟩
 | .inr x,v,h=>by
  obtain⟨t,e⟩:=Value.isStrOf_shape (x:=x) (v:=v) h;exact .inr ⟨x,t,rfl,e⟩
def HA(i:Int)(t:Tok):LY (.inl i) (.int i t)=true:=by simp[LY,Value.isInt]
def Ht(x:Str)(t:Tok):LY (.inr x) (.str x t)=true:=by simp[LY,Value.isStrOf]
def ua(a b:Int):decide ((Sum.inl a:Key)=Sum.inl b)=(a==b):=by
 by_cases e:a=b
 . subst e;simp
 . have h:¬(Sum.inl a:Key)=Sum.inl b:=λq=>e (Sum.inl.inj q);rw[zyG h];exact(beq_eq_false_iff_ne.mpr e).symm
def tH(a b:Str):decide ((Sum.inr a:Key)=Sum.inr b)=decide (a=b):=by
 by_cases e:a=b
 . subst e;simp
 . have h:¬(Sum.inr a:Key)=Sum.inr b:=λq=>e (Sum.inr.inj q);rw[zyG h,zyG e]
def sZ(a:Int)(b:Str):decide ((Sum.inl a:Key)=Sum.inr b)=false:=zyG (λq=>nomatch q)
def tN(a:Str)(b:Int):decide ((Sum.inr a:Key)=Sum.inl b)=false:=zyG (λq=>nomatch q)
def wo(prog:Program)(w:World):PySem.KeyKind prog w Key where
 is:=LY
 hash:=mI w
 inj:=λv a b ha hb=>by
  rcases xo ha with⟨i,t,rfl,rfl⟩|⟨x,t,rfl,rfl⟩
  . rcases xo hb with⟨j,u,rfl,e⟩|⟨y,u,rfl,e⟩
    . injection e with e1 _;rw[e1]
    . exact nomatch e
  . rcases xo hb with⟨j,u,rfl,e⟩|⟨y,u,rfl,e⟩
    . exact nomatch e
    . injection e with e1 _;rw[e1]
 byValue:=λk v h=>by
  rcases xo h with⟨i,t,rfl,rfl⟩|⟨x,t,rfl,rfl⟩<;>rfl
 pyHash:=λhv h=>by
  rcases xo hv with⟨i,t,rfl,rfl⟩|⟨x,t,rfl,rfl⟩
  . exact wpAny_pyHash_int h
  . exact wpAny_pyHash_str h
 eqBool:=λhu hv h=>by
  rcases xo hu with⟨i,t,rfl,rfl⟩|⟨x,t,rfl,rfl⟩
  . rcases xo hv with⟨j,u,rfl,rfl⟩|⟨y,u,rfl,rfl⟩
    . rw[ua]at h;exact wpAny_eqBool_int h
    . rw[sZ]at h;exact SeqAt.EqAt.int_str i t y u _ _ _ _ h
  . rcases xo hv with⟨j,u,rfl,rfl⟩|⟨y,u,rfl,rfl⟩
    . rw[tN]at h;exact SeqAt.EqAt.str_int x t j u _ _ _ _ h
    . rw[tH]at h;exact wpAny_eqBool_str h
 «strs» := λk x t v h=>by
  rcases xo h with⟨i,u,rfl,e⟩|⟨y,u,rfl,e⟩
  . exact nomatch e
  . injection e with e1 _
    subst e1;cases v<;>rfl
def Ej(prog:Program)(w:World)(i:Int)(t:Tok):(wo prog w).is (.inl i) (.int i t)=true:=HA i t
def VT(prog:Program)(w:World)(x:Str)(t:Tok):(wo prog w).is (.inr x) (.str x t)=true:=Ht x t
end L2
namespace L2
open PySem PySem.Spec PyProof.Rows
inductive V where
 |non|bl (b:Bool)|int (i:Int)|str (x:Str)|byt (b:Array UInt8)|flt (b:UInt64)|ref (a:Addr)|ty (n:String)
 deriving DecidableEq
def RelV:V->Value->Prop
 | .non,u=>u=Value.none
 | .bl b,u=>u=Value.bool b
 | .int i,u=>∃t,u=Value.int i t
 | .str x,u=>∃t,u=Value.str x t
 | .byt b,u=>∃t,u=Value.bytes b t
 | .flt b,u=>∃t,u=Value.float b t
 | .ref a,u=>u=Value.ref a
 | .ty n,u=>u=Value.type n
abbrev zO:List V->List Value->Prop:=Paired RelV
theorem zO.length(r:zO xs us):xs.length=us.length:=Paired.length r
theorem zO.get:∀{xs:List V}{us:List Value}{i:Nat}{x:V},zO xs us->xs[i]? = some x->∃u,us[i]? = some u/\RelV x u
 |_,_,_,_,.nil,e=>by simp at e
 |_,_,0,_,.cons r _,e=>by simp at e;subst e;exact⟨_,rfl,r⟩
 |_,_,i+1,x,.cons _ t,e=>by
  obtain⟨u,h1,h2⟩:=zO.get (i:=i) (x:=x) t (by simpa using e);exact⟨u,by simpa using h1,h2⟩
theorem zO.append:∀{xs ys:List V}{us ws:List Value},zO xs us->zO ys ws->zO (xs++ys) (us++ws)
 |_,_,_,_,.nil,s=>s
 |_,_,_,_,.cons r t,s=>.cons r (zO.append t s)
theorem zO.take:∀{xs:List V}{us:List Value}(n:Nat),zO xs us->zO (xs.take n) (us.take n)
 |_,_,0,_=>.nil
 |_,_,_+1,.nil=>.nil
 |_,_,n+1,.cons r t=>.cons r (zO.take n t)
theorem zO.drop:∀{xs:List V}{us:List Value}(n:Nat),zO xs us->zO (xs.drop n) (us.drop n)
 |_,_,0,r=>r
 |_,_,_+1,.nil=>.nil
 |_,_,n+1,.cons _ t=>zO.drop n t
def UD:Option V->Option Value->Prop
 |some v,some u=>RelV v u
 |none,none=>True
 |_,_=>False
def KV{κ:Type}:List (κ×V)->List (κ×Value)->Prop:=Paired λ(p:κ×V) (q:κ×Value)=>p.1=q.1/\RelV p.2 q.2
def kV:Key->V
 | .inl i=>.int i
 | .inr x=>.str x
inductive HO where
 |lst (xs:List V)
 |tup (xs:List V)
 |dK (kvs:List (Key×V))|dT (kvs:List (List Key×V))
 |set (S:Int->Bool) (n:Nat)
 |ins (C dx:Addr) (fs:List (Str×V))
 |own (x:Addr)
 |xd (fs:List (Str×V))
 |met (f x:Addr)
 |rng (lo hi:Int)
 |frz (o:Obj) (u:HO)
 |tbl (ps:Array Value)
 |ext (φ:Heap->Prop)
abbrev Hp:=Addr->Option HO
def upd(H:Hp)(a:Addr)(o:HO):Hp:=λb=>if b=a then some o else H b
def ya:upd H a o a=some o:=by unfold upd;rw[if_pos rfl]
def zF(h:b≠a):upd H a o b=H b:=by unfold upd;rw[if_neg h]
def zY{H:Hp}{a b:Addr}{o:HO}(h:H a=some o)(h':H b=none):a≠b:=by
 intro e;subst e;rw[h]at h';cases h'
section
variable(P:Program)(w:World)
def w9(H:Hp)(h:Heap)(a:Addr):HO->Prop
 | .lst xs=>xs.length<=sizeLine/\∃(its:List Value) (n:Nat),zO xs its/\h.get? a=some {cls:=.type "list",data:=.seq its.toArray n}
 | .tup xs=>xs.length<=sizeLine/\∃its:List Value,zO xs its/\IsTup h a its.toArray
 | .dK kvs=>kvs.length<=sizeLine/\(a==sysModules)=false/\∃vs,KV kvs vs/\h.DictOf (wo P w) a vs
 | .dT kvs=>kvs.length<=sizeLine/\(a==sysModules)=false/\∃xs:List (List Key×Addr×Value),
  Paired (λ(p:List Key×V) (q:List Key×Addr×Value)=>p.1=q.1/\H q.2.1=some (.tup (p.1.map kV))/\RelV p.2 q.2.2) kvs xs/\
  ∃o es ep,h.get? a=some o/\o.ExactDict/\o.data = .dict es ep/\es.toList=xs.map (entryOfKey (tupleKind (wo P w)))/\(xs.map (·.1)).Nodup
 | .set S n=>h.SetOf (intKind P w) a S n
 | .ins C dx fs=>H dx=some (.own a)/\fs.length<=1000/\dx≠a/\h.get? a=some (PySem.W.instObj C dx)/\
  ∃mA,h.Ns1 dx mA/\(∀f,UD (fs.lookup f) (mA f))/\PySem.Within mA (fs.map (·.1))
 | .own _=>∃o,h.get? a=some o
 | .xd fs=>∃mA,h.Ns1 a mA/\∀f,UD (fs.lookup f) (mA f)
 | .rng lo hi=>∃t u v,h.get? a=some {cls:=.type "range",data:=.fields #[.int lo t,.int hi u,.int 1 v]}
 | .frz o u=>h.get? a=some o/\w9 H h a u
 | .tbl ps=>h.get? a=some {cls:=.none,data:=.fields ps}
 | .met f x=>h.get? a=some (PySem.W.methodObj (.ref f) (.ref x))
 | .ext φ=>φ h/\(∃o,h.get? a=some o)/\∀h1 h2:Heap,φ h1->(∀o,h1.get? a=some o->h2.get? a=some o)->φ h2
def PL(H:Hp)(h:Heap):Prop:=∀a o,H a=some o->w9 P w H h a o
end
section
variable{P:Program}{w:World}{H H':Hp}{h h':Heap}{a:Addr}{o:HO}
theorem w9.lt(x:w9 P w H h a o):a<h.objs.size:=by
 cases o with
 |lst xs=>obtain⟨_,_,_,_,e⟩:=x;exact zxI e
 |tup xs=>obtain⟨_,_,_,p⟩:=x;exact p.lt
 |dK kvs=>obtain⟨_,_,_,_,o,_,_,e,_⟩:=x;exact zxI e
 |dT kvs=>obtain⟨_,_,_,_,o,_,_,e,_⟩:=x;exact zxI e
 |set S n=>obtain⟨o,_,_,_,e,_⟩:=x;exact zxI e
 |ins C dx fs=>obtain⟨_,_,_,e,_⟩:=x;exact zxI e
 |own y=>obtain⟨_,e⟩:=x;exact zxI e
 |xd fs=>obtain⟨_,⟨_,_,_,e,_⟩,_⟩:=x;exact zxI e
 |rng lo hi=>obtain⟨_,_,_,e⟩:=x;exact zxI e
 |frz ob u=>obtain⟨e,_⟩:=x;exact zxI e
 |tbl ps=>exact zxI (show h.get? a=some _ from x)
 |met f y=>exact zxI (show h.get? a=some _ from x)
 |ext φ=>obtain⟨_,⟨_,e⟩,_⟩:=x;exact zxI e
theorem Paired.mapP:∀{l₁:List α}{l₂:List β},Paired F l₁ l₂->(∀a b,F a b->G a b)->Paired G l₁ l₂
 |_,_,.nil,_=>.nil
 |_,_,.cons r t,f=>.cons (f _ _ r) (Paired.mapP t f)
def w9.stay(x:w9 P w H h a o)(k:∀b u,(b=a\/H b=some (.own a))->h.get? b=some u->h'.get? b=some u)
 (ho:∀b,H b=some (.own a)->H' b=some (.own a)) (ht:∀b xs,H b=some (.tup xs)->H' b=some (.tup xs)):w9 P w H' h' a o:=by
 induction o with
 |lst xs=>obtain⟨z,its,n,r,e⟩:=x;exact⟨z,its,n,r,k _ _ (.inl rfl) e⟩
 |tup xs=>obtain⟨z,its,r,ob,e,c⟩:=x;exact⟨z,its,r,ob,k _ _ (.inl rfl) e,c⟩
 |dK kvs=>obtain⟨z,y,vs,r,ob,es,ep,e,c⟩:=x;exact⟨z,y,vs,r,ob,es,ep,k _ _ (.inl rfl) e,c⟩
 |dT kvs=>
  obtain⟨z,y,xs,r,ob,es,ep,e,c⟩:=x;exact⟨z,y,xs,Paired.mapP r λp q z=>⟨z.1,ht _ _ z.2.1,z.2.2⟩,ob,es,ep,k _ _ (.inl rfl) e,c⟩
 |set S n=>obtain⟨ob,es,ep,t,e,c⟩:=x;exact⟨ob,es,ep,t,k _ _ (.inl rfl) e,c⟩
 |ins C dx fs=>
  obtain⟨d,z,ne,e,mA,⟨od,es,ep,e2,c⟩,r⟩:=x;exact⟨ho _ d,z,ne,k _ _ (.inl rfl) e,mA,⟨od,es,ep,k _ _ (.inr d) e2,c⟩,r⟩
 |own y=>obtain⟨ob,e⟩:=x;exact⟨ob,k _ _ (.inl rfl) e⟩
 |xd fs=>obtain⟨mA,⟨od,es,ep,e,c⟩,r⟩:=x;exact⟨mA,⟨od,es,ep,k _ _ (.inl rfl) e,c⟩,r⟩
 |rng lo hi=>obtain⟨t,u,v,e⟩:=x;exact⟨t,u,v,k _ _ (.inl rfl) e⟩
 |frz ob u ih=>obtain⟨e,q⟩:=x;exact⟨k _ _ (.inl rfl) e,ih q⟩
 |tbl ps=>
  have e:h.get? a=some {cls:=.none,data:=.fields ps}:=x;show h'.get? a=some {cls:=.none,data:=.fields ps};exact k a _ (.inl rfl) e
 |met f y=>
  have e:h.get? a=some (PySem.W.methodObj (.ref f) (.ref y)):=x;show h'.get? a=some (PySem.W.methodObj (.ref f) (.ref y));exact k a _ (.inl rfl) e
 |ext φ=>obtain⟨p,⟨o,e⟩,st⟩:=x;exact⟨st _ _ p λo q=>k _ _ (.inl rfl) q,⟨o,k _ _ (.inl rfl) e⟩,st⟩
theorem PL.lt(x:PL P w H h)(e:H a=some o):a<h.objs.size:=(x a o e).lt
def PL.fresh(x:PL P w H h)(e:h.objs.size<=a):H a=none:=by
 cases q:H a with
 |none=>rfl
 |some u=>exact absurd (zzK (x.lt q) e) (Nat.lt_irrefl _)
def PL.kept(x:PL P w H h)(k:∀b u,h.get? b=some u->h'.get? b=some u):PL P w H h':=λa o e=>
 (x a o e).stay (λb u _ q=>k b u q) (λ_ q=>q) λ_ _ q=>q
def PL.laid(x:PL P w H h)(k:∀b u,h.get? b=some u->h'.get? b=some u)(hp:h.objs.size<=a)(new:w9 P w (upd H a o) h' a o):PL P w (upd H a o) h':=λb u e=>by
 have hn:=x.fresh hp
 by_cases hb:b=a
 . subst hb;rw[ya]at e;cases e;exact new
 . rw[zF hb]at e;exact(x b u e).stay (λc v _ q=>k c v q) (λc q=>by rw[zF (zY q hn)];exact q) λc xs q=>by rw[zF (zY q hn)];exact q
end
def Rd(H:Hp)(a:Addr)(u:HO):Prop:=H a=some u\/∃o,H a=some (.frz o u)
def Rd.ok(r:Rd H a u)(x:PL P w H h):w9 P w H h a u:=by
 rcases r with r|⟨o,r⟩
 . exact x a u r
 . obtain⟨_,q⟩:=x a _ r;exact q
def nr:Option HO->Prop
 |some (.lst _)=>True
 |some (.dK _)=>True
 |some (.dT _)=>True
 |some (.set _ _)=>True
 |some (.ins _ _ _)=>True
 |some (.ext _)=>True
 |_=>False
section
variable{P:Program}{w:World}{H:Hp}{h h':Heap}{x e:Addr}{o':HO}
def PL.write(ok:PL P w H h)(mu:nr (H x))(he:e=x\/H e=some (.own x))(k:∀b u,b≠e->h.get? b=some u->h'.get? b=some u)(heo:∃u,h'.get? e=some u)
 (new:w9 P w (upd H x o') h' x o'):PL P w (upd H x o') h':=λb u q=>by
 have nown:∀c y,H c=some (.own y)->c≠x:=λc y r z=>by subst z;rw[r]at mu;exact mu
 have ntup:∀c xs,H c=some (.tup xs)->c≠x:=λc xs r z=>by subst z;rw[r]at mu;exact mu
 by_cases hb:b=x
 . subst hb;rw[ya]at q;cases q;exact new
 . rw[zF hb]at q
   by_cases hbe:b=e
   . have q':H b=some (.own x):=by
      rcases he with z|z
      . exact absurd (hbe.trans z) hb
      . rw[hbe];exact z
     rw[q]at q';cases q';obtain⟨v,hv⟩:=heo;exact⟨v,by rw[hbe];exact hv⟩
   . refine(ok b u q).stay (λc v hc r=>k c v ?_ r) (λc r=>by rw[zF (nown c b r)];exact r) λc xs r=>by rw[zF (ntup c xs r)];exact r
     rcases hc with rfl|hc
     . exact hbe
     . rintro rfl
       rcases he with z|z
       . exact nown c b hc z
       . rw[hc]at z;cases z;exact hb rfl
end
structure Un(fs ex:List Addr)(H H':Hp)(h h':Heap):Prop where
 keep:∀b o,h.get? b=some o->H b=none->b ∉ fs->b ∉ ex->h'.get? b=some o
 slot:∀b o,h.get? b=some o->H b=none->b ∈ fs->b ∉ ex->∃sl,h'.get? b=some {o with slots:=sl}
 free:∀b o,h.get? b=some o->H b=none->b ∉ ex->H' b=none
 there:∀b o,h.get? b=some o->b ∉ ex->∃o',h'.get? b=some o'
 tups:∀b xs,H b=some (.tup xs)->H' b=some (.tup xs)
 frzs:∀b o u,H b=some (.frz o u)->H' b=some (.frz o u)
 tbls:∀b ps,H b=some (.tbl ps)->∃more,H' b=some (.tbl (ps++more))
section
variable{fs fs' ex ex':List Addr}{H H1 H2:Hp}{h h1 h2 h':Heap}{a x e:Addr}{o:HO}
def Un.any(u:Un fs ex H H1 h h1)(q:h.get? b=some ob)(n:H b=none)(hx:b ∉ ex):∃sl,h1.get? b=some {ob with slots:=sl}:=by
 by_cases hb:b ∈ fs
 . exact u.slot b ob q n hb hx
 . exact⟨ob.slots,u.keep b ob q n hb hx⟩
def Un.kept(k:∀b u,h.get? b=some u->h'.get? b=some u):Un fs ex H H h h':=
 ⟨λb ob q _ _ _=>k b ob q,λb ob q _ _ _=>⟨ob.slots,k b ob q⟩,λ_ _ _ n _=>n,λb ob q _=>⟨ob,k b ob q⟩,λ_ _ q=>q,λ_ _ _ q=>q,λ_ ps q=>⟨#[],by rw[q];simp⟩⟩
def Un.refl:Un fs ex H H h h:=Un.kept λ_ _ q=>q
def Un.laid(k:∀b u,h.get? b=some u->h'.get? b=some u)(hp:h.objs.size<=a)(hn:H a=none):Un fs ex H (upd H a o) h h' where
 keep:=λb u q _ _ _=>k b u q
 slot:=λb u q _ _ _=>⟨u.slots,k b u q⟩
 free:=λb u q n _=>by rw[zF (zzQ (zzK (zxI q) hp))];exact n
 there:=λb u q _=>⟨u,k b u q⟩
 tups:=λb xs q=>by rw[zF (zY q hn)];exact q
 frzs:=λb u xs q=>by rw[zF (zY q hn)];exact q
 tbls:=λb ps q=>⟨#[],by rw[zF (zY q hn),q];simp⟩
def Un.write(mu:nr (H x))(he:e=x\/H e=some (.own x))(k:∀b u,b≠e->h.get? b=some u->h'.get? b=some u)(heo:∃u,h'.get? e=some u):Un fs ex H (upd H x o) h h':=by
 have hx:∀b,H b=none->b≠x:=λb n z=>by subst z;rw[n]at mu;exact mu
 have hb:∀b,H b=none->b≠e:=λb n z=>by
  subst z
  rcases he with r|r
  . exact hx b n r
  . rw[n]at r;cases r
 have hm:∀b u,H b=some u->¬nr (some u)->b≠x:=λb u q nm z=>by subst z;rw[q]at mu;exact nm mu
 refine⟨λb u q n _ _=>k b u (hb b n) q,λb u q n _ _=>⟨u.slots,k b u (hb b n) q⟩,λb u q n _=>by rw[zF (hx b n)];exact n,λb u q _=>?_,
  λb xs q=>by rw[zF (hm b _ q λz=>z)];exact q,λb u xs q=>by rw[zF (hm b _ q λz=>z)];exact q,λb ps q=>⟨#[],by rw[zF (hm b _ q λz=>z),q];simp⟩⟩
 by_cases hbe:b=e
 . subst hbe;exact heo
 . exact⟨u,k b u hbe q⟩
end
def trk(h:Heap)(H:Hp):List Addr:=(List.range h.objs.size).filter λa=>(H a).isSome
def MJ(h:Heap)(H:Hp):Heap:=PySem.W.hideAll h (trk h H)
def Hq(h:Heap)(H:Hp):(MJ h H).objs.size=h.objs.size:=PySem.W.hideAll_size _ _
def CB(e:h.get? b=some o)(n:H b=none):(MJ h H).get? b=some o:=
 PySem.W.hideAll_get _ e λhm=>by
  have q:(H b).isSome=true:=(List.mem_filter.mp hm).2;rw[n]at q;simp at q
def JT(e:(MJ h H).get? b=some o):h.get? b=some o/\H b=none:=by
 have e':h.get? b=some o:=PySem.W.of_hideAll (trk h H) e;refine⟨e', ?_⟩;cases q:H b with
 |none=>rfl
 |some x=>
  have hm:b ∈ trk h H:=List.mem_filter.mpr ⟨List.mem_range.mpr (zxI e'),by simp[q]⟩;have z:(MJ h H).get? b=none:=PySem.W.hideAll_none (trk h H) hm;rw[z]at e;cases e
end L2
namespace L2
open PySem PySem.Spec PyProof.Rows
structure Mod(K:zzA)(mg:Str->Option Value)(base:Heap):Prop where
 kin:K.In base
 glob:base.Ns mainGlobals mg
 blt:∃mb,base.Ns builtinsNs mb/\∀x:Str,x≠"__name__"->mb x=bootBuiltins x
 nolimit:base.NoLimit
structure Cx where
 prog:Program
 w:World
 K:zzA
 mg:Str->Option Value
 base:Heap
 A:Around
 N:List Str
 s₀:Shared
 H₀:Hp
 env:Env
 outer:List Env
 stack:List Env
 ex:List Addr
 fn:Str->Bool
 calm:Bool
 pn:List (Addr×Obj)
 xe:Value->Shared->Prop
def HH(l:List Env):List Addr:=l.filterMap (·.frame)
abbrev Cx.fs(X:Cx):List Addr:=HH X.outer
def nH(sc:Scope)(x:Str):Prop:=sc.names.lookup x=some .local\/sc.names.lookup x=some .cell\/sc.names.lookup x=some .free
def Loc(sc:Scope)(x:Str):Prop:=sc.names.lookup x=some .local\/sc.names.lookup x=some .cell
def Look(env:Env)(h:Heap)(m:Str->Option Value)(x:Str)(u:Value):Prop:=
 (env.kindOf x=some .local/\m x=some u)\/((env.kindOf x=some .cell\/env.kindOf x=some .free)/\∃c,env.cells.lookup x=some c/\h.IsCell c (some u))
structure Cx.Ok(X:Cx):Prop where
 mod:Mod X.K X.mg X.base
 kind:X.env.scope.kind = .function
 glob:X.env.globals=mainGlobals
 blt:X.env.builtins=builtinsNs
 above:X.s₀.heap.objs.size<=X.env.locals
 inj:∀x y c,X.env.cells.lookup x=some c->X.env.cells.lookup y=some c->x=y
 has:∀x,(X.env.kindOf x=some .cell\/X.env.kindOf x=some .free)->∃c,X.env.cells.lookup x=some c
 cab:∀x c,X.fn x=true->X.env.cells.lookup x=some c->X.s₀.heap.objs.size<=c
 hd:X.calm=true->X.A.handled=none
 frames:X.A.frames=some X.stack
 stk:X.stack=X.outer\/(X.stack=X.env::X.outer/\X.env.frame=some X.env.locals)
 exf:∀b ∈ X.ex,b≠X.env.locals/\∀x c,X.env.cells.lookup x=some c->c≠b
 bs:∀b o,X.base.get? b=some o->X.s₀.heap.get? b=some o/\X.H₀ b=none
 bsz:X.base.objs.size<=X.s₀.heap.objs.size
 noex:∀b o,X.base.get? b=some o->b ∉ X.ex
 exfs:∀b ∈ X.ex,b ∉ X.fs
 funs:X.s₀.heap.FunFrames X.base X.outer
 frf:∀b ∈ X.fs,X.H₀ b=none
structure Inv(X:Cx)(pins:List (Addr×Obj))(σ:List (Option V))(H:Hp)(s:Shared):Prop where
 ok:X.Ok
 os:s.os=X.s₀.os
 bare:AllBare s.gens
 base:Un X.fs X.ex X.H₀ H X.s₀.heap s.heap
 loc:∃m,s.heap.Ns X.env.locals m/\∀(i:Nat) (x:Str) (v:V),X.N[i]? = some x->σ[i]? = some (some v)->nH X.env.scope x->∃u,RelV v u/\Look X.env s.heap m x u
 cell:∀x c,X.env.cells.lookup x=some c->∃v,s.heap.IsCell c v
 free:H X.env.locals=none
 freeC:∀x c,X.env.cells.lookup x=some c->H c=none
 pin:∀p ∈ X.pn++pins,s.heap.get? p.1=some p.2/\H p.1=none/\p.1≠X.env.locals/\p.1 ∉ X.fs/\∀v,p.2.data ≠ .cell v
 hok:PL X.prog X.w H s.heap
 len:σ.length=X.N.length
section
variable{X:Cx}{pins:List (Addr×Obj)}{σ:List (Option V)}{H H':Hp}{s:Shared}{h':Heap}
def Cx.Ok.nofr(ok:X.Ok)(e:X.base.get? b=some o):b ∉ X.fs:=λhb=>by
 have:=(ok.funs.mem hb).1;rw[e]at this;cases this
theorem Inv.bs(I:Inv X pins σ H s):∀b o,X.base.get? b=some o->s.heap.get? b=some o/\H b=none:=λb o e=>
 ⟨I.base.keep b o (I.ok.bs b o e).1 (I.ok.bs b o e).2 (I.ok.nofr e) (I.ok.noex b o e),I.base.free b o (I.ok.bs b o e).1 (I.ok.bs b o e).2 (I.ok.noex b o e)⟩
def Inv.bk(I:Inv X pins σ H s):∀b o,X.base.get? b=some o->s.heap.get? b=some o:=λb o e=>(I.bs b o e).1
theorem Inv.mod(I:Inv X pins σ H s):Mod X.K X.mg X.base:=I.ok.mod
def Inv.kIn(I:Inv X pins σ H s):X.K.In s.heap:=I.ok.mod.kin.keeps I.bk
theorem Inv.lt(I:Inv X pins σ H s):X.env.locals<s.heap.objs.size:=let⟨_,hn,_⟩:=I.loc;hn.lt
def Inv.sz(I:Inv X pins σ H s):X.s₀.heap.objs.size<=s.heap.objs.size:=zzO I.ok.above (Nat.le_of_lt I.lt)
def Inv.nofs(I:Inv X pins σ H s)(h:s.heap.objs.size<=a):a ∉ X.fs:=λhb=>by
 obtain⟨_,o,ho,_⟩:=I.ok.funs.mem hb;exact absurd (zzK (zxI ho) (zzO I.sz h)) (Nat.lt_irrefl _)
def Inv.cne(I:Inv X pins σ H s):∀x c,X.env.cells.lookup x=some c->c≠X.env.locals:=λx c e z=>by
 obtain⟨v,o,ho,hd⟩:=I.cell x c e;obtain⟨m,⟨o',es,ep,ho',hd',_⟩,_⟩:=I.loc;rw[z,ho']at ho;cases ho;rw[hd']at hd;cases hd
theorem Inv.funs(I:Inv X pins σ H s):s.heap.FunFrames X.base X.outer:=by
 have all:∀(l:List Env),(∀b ∈ HH l,b ∈ X.fs)->X.s₀.heap.FunFrames X.base l->s.heap.FunFrames X.base l:=by
  intro l
  induction l with
  |nil=>intro _ _;trivial
  |cons env r ih=>
   intro hs hl;obtain⟨hk,⟨L,o,hf,hn,ho,hd⟩,hr⟩:=hl;have hL:L ∈ X.fs:=hs L (by unfold HH;rw[List.filterMap_cons,hf];exact zzF);obtain⟨sl,e⟩:=I.base.slot L o ho (I.ok.frf L hL) hL λz=>I.ok.exfs L z hL;exact⟨hk,⟨L,_,hf,hn,e,hd⟩,ih (λb hb=>hs b (by unfold HH;rw[List.filterMap_cons,hf];exact zzD _ hb)) hr⟩
 exact all X.outer (λ_ hb=>hb) I.ok.funs
theorem Inv.stack(I:Inv X pins σ H s):s.heap.FunFrames X.base X.stack:=by
 rcases I.ok.stk with e|⟨e,hf⟩
 . rw[e];exact I.funs
 . rw[e];obtain⟨m,hn,_⟩:=I.loc;refine .cons (by rw[I.ok.kind];decide) hf hn ?_ I.funs;exact Heap.get?_none_of_le (zzO I.ok.bsz I.ok.above)
def Inv.stkSub(I:Inv X pins σ H s):∀b ∈ HH X.stack,b ∈ X.env.locals::X.fs:=λb hb=>by
 rcases I.ok.stk with e|⟨e,hf⟩
 . rw[e]at hb;exact zzD _ hb
 . rw[e]at hb;unfold HH at hb;rw[List.filterMap_cons,hf]at hb;exact hb
def Inv.stkFree(I:Inv X pins σ H s):∀b ∈ HH X.stack,H b=none:=λb hb=>by
 rcases zzC.mp (I.stkSub b hb)with e|hb
 . rw[e];exact I.free
 . obtain⟨_,o,ho,_⟩:=I.ok.funs.mem hb;exact I.base.free b o ho (I.ok.frf b hb) λz=>I.ok.exfs b z hb
def Inv.step{g':Array GenState}{t':Nat}{d':Drawn}{ch:List Addr}(I:Inv X pins σ H s)
 (hch:∀b ∈ ch,(b ∈ X.ex\/X.s₀.heap.objs.size<=b)/\b≠X.env.locals/\(∀x c,X.env.cells.lookup x=some c->c≠b)/\∀p ∈ X.pn++pins,p.1≠b)
 (keep:∀b o,b≠X.env.locals->b ∉ X.fs->b ∉ ch->s.heap.get? b=some o->H b=none->h'.get? b=some o)
 (slot:∀b o,b≠X.env.locals->b ∈ X.fs->b ∉ ch->s.heap.get? b=some o->H b=none->∃sl,h'.get? b=some {o with slots:=sl}) (free:∀b o,b ∉ ch->s.heap.get? b=some o->H b=none->H' b=none)
 (there:∀b o,b ∉ ch->s.heap.get? b=some o->∃o',h'.get? b=some o')
 (tups:∀b xs,H b=some (.tup xs)->H' b=some (.tup xs)) (frzs:∀b o u,H b=some (.frz o u)->H' b=some (.frz o u)) (tbls:∀b ps,H b=some (.tbl ps)->∃more,H' b=some (.tbl (ps++more)))
 (ns:∀m,s.heap.Ns X.env.locals m->h'.Ns X.env.locals m) (hok:PL X.prog X.w H' h') (hg:AllBare g'):
 Inv X pins σ H' {s with heap:=h',gens:=g',drawn:=d',toks:=t'}:=by
 have neL:∀b o,X.s₀.heap.get? b=some o->b≠X.env.locals:=λb o e=>zzQ (zzK (zxI e) I.ok.above);have neC:∀b o,X.s₀.heap.get? b=some o->b ∉ X.ex->b ∉ ch:=λb o e hx hb=>by
  rcases(hch b hb).1 with z|z
  . exact hx z
  . exact absurd (zzK (zxI e) z) (Nat.lt_irrefl _)
 have cellK:∀x c,X.env.cells.lookup x=some c->∀v,s.heap.IsCell c v->h'.IsCell c v:=λx c e v ⟨o,ho,hd⟩=>by
  have nch:c ∉ ch:=λz=>(hch c z).2.2.1 x c e rfl
  by_cases hc:c ∈ X.fs
  . obtain⟨sl,q⟩:=slot c o (I.cne x c e) hc nch ho (I.freeC x c e);exact⟨_,q,hd⟩
  . exact⟨o,keep c o (I.cne x c e) hc nch ho (I.freeC x c e),hd⟩
 refine⟨I.ok,I.os,hg,⟨λb o e n hb hx=>?_,λb o e n hb hx=>?_,λb o e n hx=>?_,λb o e hx=>?_,λb xs e=>tups b xs (I.base.tups b xs e),λb o xs e=>frzs b o xs (I.base.frzs b o xs e),λb ps e=>?_⟩, ?_,λx c e=>?_, ?_,λx c e=>?_,λp hp=>?_,hok,I.len⟩
 . exact keep b o (neL b o e) hb (neC b o e hx) (I.base.keep b o e n hb hx) (I.base.free b o e n hx)
 . obtain⟨sl,e1⟩:=I.base.slot b o e n hb hx;obtain⟨sl',e2⟩:=slot b _ (neL b o e) hb (neC b o e hx) e1 (I.base.free b o e n hx);exact⟨sl',e2⟩
 . obtain⟨o',e1⟩:=I.base.there b o e hx;exact free b o' (neC b o e hx) e1 (I.base.free b o e n hx)
 . obtain⟨o',e1⟩:=I.base.there b o e hx;exact there b o' (neC b o e hx) e1
 . obtain⟨m1,e1⟩:=I.base.tbls b ps e;obtain⟨m2,e2⟩:=tbls b _ e1;exact⟨m1++m2,by rw[e2,Array.append_assoc]⟩
 . obtain⟨m,hn,hl⟩:=I.loc;refine⟨m,ns m hn,λi x v e1 e2 e3=>?_⟩;obtain⟨u,r,l⟩:=hl i x v e1 e2 e3;refine⟨u,r, ?_⟩
   rcases l with l|⟨k,c,e,z⟩
   . exact .inl l
   . exact .inr ⟨k,c,e,cellK x c e _ z⟩
 . obtain⟨v,z⟩:=I.cell x c e;exact⟨v,cellK x c e v z⟩
 . obtain⟨m,⟨o,_,_,ho,_⟩,_⟩:=I.loc;exact free _ o (λz=>(hch _ z).2.1 rfl) ho I.free
 . obtain⟨v,o,ho,hd⟩:=I.cell x c e;exact free c o (λz=>(hch c z).2.2.1 x c e rfl) ho (I.freeC x c e)
 . obtain⟨e,n,ne,nf,d⟩:=I.pin p hp;have nch:p.1 ∉ ch:=λz=>(hch p.1 z).2.2.2 p hp rfl;exact⟨keep p.1 p.2 ne nf nch e n,free p.1 p.2 nch e n,ne,nf,d⟩
def Inv.un{t':Nat}(I:Inv X pins σ H s)(u:Un X.fs [] H H' s.heap h')(hok:PL X.prog X.w H' h'):Inv X pins σ H' {s with heap:=h',toks:=t'}:=by
 obtain⟨m,⟨o,es,ep,ho,r⟩,_⟩:=id I.loc;obtain⟨sl,hL⟩:=u.any ho I.free (by simp);exact I.step (g':=s.gens) (d':=s.drawn) (ch:=[]) (λ_ z=>nomatch z) (λb o _ hb _ e n=>u.keep b o e n hb (by simp)) (λb o _ hb _ e n=>u.slot b o e n hb (by simp)) (λb o _ e n=>u.free b o e n (by simp)) (λb o _ e=>u.there b o e (by simp)) u.tups u.frzs u.tbls (λm' hm=>by
  obtain⟨o',es',ep',ho',r'⟩:=hm;rw[ho]at ho';cases ho';exact⟨_,es',ep',hL,r'⟩) hok I.bare
def Inv.call{g':Array GenState}{t':Nat}{d':Drawn}{ch:List Addr}(I:Inv X pins σ H s)(u:Un (HH X.stack) ch H H' s.heap h')(hok:PL X.prog X.w H' h')(hg:AllBare g')
 (hch:∀b ∈ ch,(b ∈ X.ex\/X.s₀.heap.objs.size<=b)/\b≠X.env.locals/\(∀x c,X.env.cells.lookup x=some c->c≠b)/\∀p ∈ X.pn++pins,p.1≠b):
 Inv X pins σ H' {s with heap:=h',gens:=g',drawn:=d',toks:=t'}:=by
 obtain⟨m,⟨o,es,ep,ho,r⟩,_⟩:=id I.loc;obtain⟨sl,hL⟩:=u.any ho I.free λz=>(hch _ z).2.1 rfl;exact I.step (ch:=ch) hch (λb o hL hb hc e n=>u.keep b o e n (λz=>(zzC.mp (I.stkSub b z)).elim hL hb) hc) (λb o _ _ hc e n=>u.any e n hc) (λb o hc e n=>u.free b o e n hc) (λb o hc e=>u.there b o e hc) u.tups u.frzs u.tbls (λm' hm=>by
  obtain⟨o',es',ep',ho',r'⟩:=hm;rw[ho]at ho';cases ho';exact⟨_,es',ep',hL,r'⟩) hok hg
def Inv.turned{t':Nat}{it:Addr}(I:Inv X pins σ H s)(k:∀b o,b≠it->s.heap.get? b=some o->h'.get? b=some o)(hn:H it=none)(hL:it≠X.env.locals)
 (h1:it ∈ X.ex\/X.s₀.heap.objs.size<=it) (h2:∀x c,X.env.cells.lookup x=some c->c≠it) (h3:∀p ∈ X.pn++pins,p.1≠it):Inv X pins σ H {s with heap:=h',toks:=t'}:=by
 have nit:∀b u,H b=some u->b≠it:=λb u e z=>by rw[z,hn]at e;cases e
 refine I.step (g':=s.gens) (d':=s.drawn) (ch:=[it]) (λb hb=>?_) (λb o _ _ hc e _=>k b o (λz=>hc (by simp[z])) e) (λb o _ _ hc e _=>⟨o.slots,k b o (λz=>hc (by simp[z])) e⟩) (λ_ _ _ _ n=>n)
  (λb o hc e=>⟨o,k b o (λz=>hc (by simp[z])) e⟩) (λ_ _ e=>e) (λ_ _ _ e=>e) (λb ps e=>⟨#[],by rw[e];simp⟩) (λm hm=>?_) (λb u e=>?_) I.bare
 . have e:b=it:=by simpa using hb
   subst e;exact⟨h1,hL,h2,h3⟩
 . obtain⟨o,es,ep,ho,r⟩:=hm;exact⟨o,es,ep,k _ o (Ne.symm hL) ho,r⟩
 . refine(I.hok b u e).stay (λc v hc q=>k c v ?_ q) (λ_ q=>q) λ_ _ q=>q
   rcases hc with z|z
   . rw[z];exact nit b u e
   . exact nit c _ z
def Inv.tok(I:Inv X pins σ H s)(t:Nat):Inv X pins σ H {s with toks:=t}:=I.un (h':=s.heap) (t':=t) Un.refl I.hok
theorem Inv.kept(I:Inv X pins σ H s)(k:∀b u,s.heap.get? b=some u->h'.get? b=some u):Inv X pins σ H {s with heap:=h',toks:=t'}:=I.un (Un.kept k) (I.hok.kept k)
theorem Inv.laid(I:Inv X pins σ H s)(k:∀b u,s.heap.get? b=some u->h'.get? b=some u)(hp:s.heap.objs.size<=a)(new:w9 X.prog X.w (upd H a o) h' a o):
 Inv X pins σ (upd H a o) {s with heap:=h',toks:=t'}:=I.un (Un.laid k hp (I.hok.fresh hp)) (I.hok.laid k hp new)
theorem Inv.write(I:Inv X pins σ H s)(mu:nr (H x))(he:e=x\/H e=some (.own x))(k:∀b u,b≠e->s.heap.get? b=some u->h'.get? b=some u)(heo:∃u,h'.get? e=some u)
 (new:w9 X.prog X.w (upd H x o) h' x o):Inv X pins σ (upd H x o) {s with heap:=h',toks:=t'}:=I.un (Un.write mu he k heo) (I.hok.write mu he k heo new)
def Inv.weak(I:Inv X pins σ H s)(hl:σ'.length=σ.length)(w:∀(i:Nat) v,σ'[i]? = some (some v)->σ[i]? = some (some v)):Inv X pins σ' H s:=
 ⟨I.ok,I.os,I.bare,I.base,let⟨m,hn,hl'⟩:=I.loc;⟨m,hn,λi x v e1 e2 e3=>hl' i x v e1 (w i v e2) e3⟩,I.cell,I.free,I.freeC,I.pin,I.hok,hl.trans I.len⟩
def Inv.pins_of(I:Inv X pins σ H s)(h:∀p ∈ pins',s.heap.get? p.1=some p.2/\H p.1=none/\p.1≠X.env.locals/\p.1 ∉ X.fs/\∀v,p.2.data ≠ .cell v):Inv X pins' σ H s:=
 ⟨I.ok,I.os,I.bare,I.base,I.loc,I.cell,I.free,I.freeC,λp hp=>(zzM.mp hp).elim (λz=>I.pin p (zzP _ z)) (h p),I.hok,I.len⟩
def EJ{N:List Str}(hN:N.Nodup){i j:Nat}{x:Str}(a:N[i]? = some x)(b:N[j]? = some x):i=j:=by
 obtain⟨h1,e1⟩:=zzG.mp a;obtain⟨h2,e2⟩:=zzG.mp b;exact(List.getElem_inj hN).mp (e1.trans e2.symm)
def LK{M:Model}{A:Around}{E:Value->Shared->Prop}{i:Nat}{x:Str}{v:V}{u:Value}{Q:Unit->Shared->Prop}(I:Inv X pins σ H s)(hN:X.N.Nodup)(hi:X.N[i]? = some x)(hx:Loc X.env.scope x)(r:RelV v u)
 (h:∀s',Inv X pins (σ.set i (some v)) H s'->(∃a,Heap.SameBut a s.heap s'.heap/\(a=X.env.locals\/X.env.cells.lookup x=some a))->Q () s') (hf:X.fn x=true\/X.env.scope.names.lookup x=some .local:=by first|exact .inl rfl|exact .inr rfl|assumption):wpAny M A (storeName X.env x u) Q E s:=by
 obtain⟨m,hn,hl⟩:=id I.loc;have hcls:(X.env.scope.kind == .class||(X.env.scope.kind == .module&&X.env.locals != X.env.globals))=false:=by rw[I.ok.kind];rfl
 have hiσ:i<σ.length:=by rw[I.len];exact(zzG.mp hi).1
 have cne:=I.cne;have tracked:∀{a:Addr}{h':Heap},(∃o,s.heap.get? a=some o/\H a=none)->Heap.SameBut a s.heap h'->PL X.prog X.w H h':=λ{a h'} ha hs b ob e=>by
  obtain⟨_,_,hfree⟩:=ha;refine(I.hok b ob e).stay (λc w' hc q=>(hs.2 c ?_).trans q) (λ_ q=>q) λ_ _ q=>q
  rintro rfl
  rcases hc with rfl|hc
  . rw[hfree]at e;cases e
  . rw[hfree]at hc;cases hc
 rcases hx with hk|hk
 . refine wpAny_storeName_local hk hn (λh' hn' hs=>?_) hcls;obtain⟨oL,_,_,hoL,_⟩:=id hn;refine h _ ⟨I.ok,I.os,I.bare,⟨λb o e n hb hx=>?_,λb o e n hb hx=>?_,I.base.free,λb o e hx=>?_,I.base.tups,I.base.frzs,I.base.tbls⟩,⟨_,hn',λj y v' e1 e2 e3=>?_⟩,λy c e=>?_,I.free,I.freeC,λp hp=>?_,tracked ⟨oL,hoL,I.free⟩ hs,by simpa using I.len⟩ ⟨_,hs,.inl rfl⟩
   . exact(hs.2 b (zzQ (zzK (zxI e) I.ok.above))).trans (I.base.keep b o e n hb hx)
   . obtain⟨sl,e1⟩:=I.base.slot b o e n hb hx;exact⟨sl,(hs.2 b (zzQ (zzK (zxI e) I.ok.above))).trans e1⟩
   . obtain⟨o',e1⟩:=I.base.there b o e hx;exact⟨o',(hs.2 b (zzQ (zzK (zxI e) I.ok.above))).trans e1⟩
   . by_cases hj:j=i
     . subst hj;rw[hi]at e1;cases e1;rw[zyK hiσ]at e2;cases e2;exact⟨u,r,.inl ⟨hk,by simp⟩⟩
     . rw[zzY (Ne.symm hj)]at e2;obtain⟨u',r',q⟩:=hl j y v' e1 e2 e3;refine⟨u',r', ?_⟩
       rcases q with⟨k,e⟩|⟨k,c,e,z⟩
       . refine .inl ⟨k, ?_⟩;have:y≠x:=λe=>hj (EJ hN e1 (e ▸ hi));simp[this,e]
       . exact .inr ⟨k,c,e,z.sameBut hs (cne y c e)⟩
   . obtain⟨w',z⟩:=I.cell y c e;exact⟨w',z.sameBut hs (cne y c e)⟩
   . obtain⟨e,n,ne,nf,d⟩:=I.pin p hp;exact⟨(hs.2 p.1 ne).trans e,n,ne,nf,d⟩
 . have hfn:X.fn x=true:=by
    rcases hf with z|z
    . exact z
    . rw[z]at hk;cases hk
   obtain⟨c,hc⟩:=I.ok.has x (.inl hk);obtain⟨w',z⟩:=I.cell x c hc;refine wpAny_storeName_cell I.ok.kind hk hc z (λh' hc' hs=>?_);obtain⟨oc,hoc,hocd⟩:=id z;refine h {s with heap:=h'} ⟨I.ok,I.os,I.bare,⟨λb o e n hb hx=>?_,λb o e n hb hx=>?_,I.base.free,λb o e hx=>?_,I.base.tups,I.base.frzs,I.base.tbls⟩,⟨m,hn.sameBut hs (Ne.symm (cne x c hc)),λj y v' e1 e2 e3=>?_⟩,λy c' e=>?_,I.free,I.freeC,λp hp=>?_,tracked ⟨oc,hoc,I.freeC x c hc⟩ hs,by simpa using I.len⟩ ⟨c,hs,.inr hc⟩
   . exact(hs.2 b (zzQ (zzK (zxI e) (I.ok.cab x c hfn hc)))).trans (I.base.keep b o e n hb hx)
   . obtain⟨sl,e1⟩:=I.base.slot b o e n hb hx;exact⟨sl,(hs.2 b (zzQ (zzK (zxI e) (I.ok.cab x c hfn hc)))).trans e1⟩
   . obtain⟨o',e1⟩:=I.base.there b o e hx;exact⟨o',(hs.2 b (zzQ (zzK (zxI e) (I.ok.cab x c hfn hc)))).trans e1⟩
   . by_cases hj:j=i
     . subst hj;rw[hi]at e1;cases e1;rw[zyK hiσ]at e2;cases e2;exact⟨u,r,.inr ⟨.inl hk,c,hc,hc'⟩⟩
     . rw[zzY (Ne.symm hj)]at e2;obtain⟨u',r',q⟩:=hl j y v' e1 e2 e3;refine⟨u',r', ?_⟩
       rcases q with q|⟨k,c',e,z'⟩
       . exact .inl q
       . refine .inr ⟨k,c',e,z'.sameBut hs ?_⟩
         rintro rfl
         exact hj (EJ hN e1 (I.ok.inj _ _ _ e hc ▸ hi))
   . by_cases hcc:c'=c
     . subst hcc;exact⟨_,hc'⟩
     . obtain⟨w2,z2⟩:=I.cell y c' e;exact⟨w2,z2.sameBut hs hcc⟩
   . obtain⟨e,n,ne,nf,d⟩:=I.pin p hp;refine⟨(hs.2 p.1 ?_).trans e,n,ne,nf,d⟩;intro q;rw[q,hoc]at e;have q':oc=p.2:=zzZ e;exact d w' (by rw[<-q'];exact hocd)
def Ek(I:Inv X pins σ H s)(hN:X.N.Nodup)(hi:X.N[i]? = some x)(hx:Loc X.env.scope x)(r:RelV v u)
 (h:∀s',Inv X pins (σ.set i (some v)) H s'->Q () s') (hf:X.fn x=true\/X.env.scope.names.lookup x=some .local:=by first|exact .inl rfl|exact .inr rfl|assumption):wpAny M A (storeName X.env x u) Q E s:=
 LK I hN hi hx r (λs' I' _=>h s' I') hf
def Inv.call'(I:Inv X pins σ H s)(ho:s'.os=s.os)(u:Un (HH X.stack) ch H H' s.heap s'.heap)(hok:PL X.prog X.w H' s'.heap)(hg:AllBare s'.gens)
 (hch:∀b ∈ ch,(b ∈ X.ex\/X.s₀.heap.objs.size<=b)/\b≠X.env.locals/\(∀x c,X.env.cells.lookup x=some c->c≠b)/\∀p ∈ X.pn++pins,p.1≠b):Inv X pins σ H' s':=by
 obtain⟨h',g',d',t',o'⟩:=s';have e:o'=s.os:=ho;subst e;exact I.call (g':=g') (t':=t') (d':=d') u hok hg hch
end
abbrev XK:=Value->Option Addr->Hp->Prop
abbrev St:=List (Option V)
abbrev VK:=V->Hp->Prop
abbrev TE:=St->Hp->VK->Prop
abbrev TT:=St->Hp->(Bool->Hp->Prop)->Prop
abbrev TA:=St->Hp->(List V->Hp->Prop)->Prop
structure Ends where
 nx:St->Hp->Prop
 rt:VK
 bk:St->Hp->Prop:=λ_ _=>False
 ct:St->Hp->Prop:=λ_ _=>False
abbrev TS:=Ends->St->Hp->Prop
def EP(X:Cx)(pins:List (Addr×Obj))(σ:St)(Q:VK)(u:Value)(s':Shared):Prop:=∃v H',Inv X pins σ H' s'/\RelV v u/\Q v H'
def TP(X:Cx)(pins:List (Addr×Obj))(σ:St)(Q:Bool->Hp->Prop)(b:Bool)(s':Shared):Prop:=∃H',Inv X pins σ H' s'/\Q b H'
def AP(X:Cx)(pins:List (Addr×Obj))(σ:St)(Q:List V->Hp->Prop)(us:List Value)(s':Shared):Prop:=∃vs H',Inv X pins σ H' s'/\zO vs us/\Q vs H'
def SP(X:Cx)(pins:List (Addr×Obj))(D:Ends)(f:Flow)(s':Shared):Prop:=
 match f with
 | .next=>∃σ' H',Inv X pins σ' H' s'/\D.nx σ' H'
 | .brk=>∃σ' H',Inv X pins σ' H' s'/\D.bk σ' H'
 | .cont=>∃σ' H',Inv X pins σ' H' s'/\D.ct σ' H'
 | .ret u=>∃v σ' H',Inv X pins σ' H' s'/\RelV v u/\D.rt v H'
def PE(X:Cx)(e:Expr)(t:TE):Prop:=
 ∀(pins:List (Addr×Obj)) (s:Shared) (σ:St) (H:Hp) (Q:VK),Inv X pins σ H s->t σ H Q->wpAny (model X.prog X.w) X.A (eval e X.env) (EP X pins σ Q) X.xe s
def PT(X:Cx)(e:Expr)(t:TT):Prop:=
 ∀(pins:List (Addr×Obj)) (s:Shared) (σ:St) (H:Hp) (Q:Bool->Hp->Prop),Inv X pins σ H s->t σ H Q->wpAny (model X.prog X.w) X.A (isTrue e X.env (eval e X.env)) (TP X pins σ Q) X.xe s
def PW(X:Cx)(e:Expr)(t:TT):Prop:=
 ∀(whole:Sem Value) (pins:List (Addr×Obj)) (s:Shared) (σ:St) (H:Hp) (Q:Bool->Hp->Prop),Inv X pins σ H s->t σ H Q->wpAny (model X.prog X.w) X.A (isTrue e X.env whole) (TP X pins σ Q) X.xe s
def PW.pt(h:PW X e t):PT X e t:=h _
def PA(X:Cx)(es:List Expr)(t:TA):Prop:=
 ∀(pos:Pos) (pins:List (Addr×Obj)) (s:Shared) (σ:St) (H:Hp) (Q:List V->Hp->Prop),Inv X pins σ H s->t σ H Q->wpAny (model X.prog X.w) X.A (spliced (backTo pos (starEach es X.env))) (AP X pins σ Q) X.xe s
def PS(X:Cx)(st:Stmt)(t:TS):Prop:=
 ∀(pins:List (Addr×Obj)) (s:Shared) (σ:St) (H:Hp) (D:Ends),Inv X pins σ H s->t D σ H->wpAny (model X.prog X.w) X.A (exec st X.env) (SP X pins D) X.xe s
def Mg(X:Cx)(st:List Stmt)(t:TS):Prop:=
 ∀(pins:List (Addr×Obj)) (s:Shared) (σ:St) (H:Hp) (D:Ends),Inv X pins σ H s->t D σ H->wpAny (model X.prog X.w) X.A (execs st X.env) (SP X pins D) X.xe s
def wF(h:wpAny M A t Q E s)(hQ:∀a s,Q a s->Q' a s):wpAny M A t Q' E s:=zxN h hQ λ_ _ x=>x
end L2
namespace L2
open PySem PySem.Spec PyProof.Rows
section
variable{X:Cx}
def Qo(i:Nat):TE:=λσ H Q=>∃v,σ[i]? = some (some v)/\Q v H
def tC(v:V):TE:=λ_ H Q=>Q v H
def OB(hN:X.N[i]? = some x)(hv:nH X.env.scope x)(hd:(x==("__debug__":Str))=false:=by decide)(hcd:(x==("__classdict__":Str))=false:=by decide):PE X (.Name x pos) (Qo i):=by
 intro pins s σ H Q I h;obtain⟨v,e,h⟩:=h;obtain⟨m,hn,hl⟩:=I.loc;obtain⟨u,r,l⟩:=hl i x v hN e hv;have fin:EP X pins σ Q u s:=⟨v,H,I,r,h⟩
 rcases l with⟨hk,hm⟩|⟨hk,c,hc,hcell⟩
 . exact wpAny_Name (wpAny_loadName_local I.ok.kind hk hn hm fin) hd
 . rcases hk with hk|hk
   . exact wpAny_Name (wpAny_loadName_cell I.ok.kind hk hc hcell fin) hd
   . exact wpAny_Name (wpAny_loadName_free I.ok.kind hk hc hcell fin hcd) hd
def D5:PE X (.Constant (.int i) j pos) (tC (.int i)):=λ_ _ _ H _ I h=>wpAny_Constant_int ⟨.int i,H,I.tok _,⟨_,rfl⟩,h⟩
def qL:PE X (.Constant (.bool b) j pos) (tC (.bl b)):=λ_ _ _ H _ I h=>Constant_bool ⟨.bl b,H,I,rfl,h⟩
def DY:PE X (.Constant .none j pos) (tC .non):=λ_ _ _ H _ I h=>Constant_none ⟨.non,H,I,rfl,h⟩
def uX:PE X (.Constant (.str x) j pos) (tC (.str x)):=λ_ _ _ H _ I h=>Calls.Constant_str ⟨.str x,H,I.tok _,⟨_,rfl⟩,h⟩
def Gl(X:Cx)(x:Str):Prop:=X.env.kindOf x=some .globalImplicit
def NC(I:Inv X pins σ H s)(hg:Gl X x)(hm:X.mg x=some u)(h:Q u s)
 (hd:(x==("__debug__":Str))=false:=by decide):wpAny (model X.prog X.w) X.A (eval (.Name x pos) X.env) Q E s:=
 Calls.Name_function_global I.ok.kind hg (Calls.loadGlobal_global (by rw[I.ok.glob];exact I.mod.glob.keeps I.bk) hm h) hd
def Wm(I:Inv X pins σ H s)(hg:Gl X x)(hm:X.mg x=none)(hv:bootBuiltins x=some u)(h:Q u s)
 (hn:x≠"__name__":=by decide) (hd:(x==("__debug__":Str))=false:=by decide):wpAny (model X.prog X.w) X.A (eval (.Name x pos) X.env) Q E s:=by
 obtain⟨mb,h1,h2⟩:=I.mod.blt;exact Calls.Name_function_global I.ok.kind hg (Calls.loadGlobal_builtin (by rw[I.ok.glob];exact I.mod.glob.keeps I.bk) hm (by rw[I.ok.blt];exact h1.keeps I.bk) ((h2 x hn).trans hv) h) hd
def Jo(hg:Gl X x)(hm:X.mg x=some u)(r:RelV v u)(hd:(x==("__debug__":Str))=false:=by decide):PE X (.Name x pos) (tC v):=
 λ_ _ _ H _ I h=>NC I hg hm ⟨v,H,I,r,h⟩ hd
def Dd(hg:Gl X x)(hm:X.mg x=none)(hv:bootBuiltins x=some u)(r:RelV v u)(hn:x≠"__name__":=by decide)(hd:(x==("__debug__":Str))=false:=by decide):PE X (.Name x pos) (tC v):=
 λ_ _ _ H _ I h=>Wm I hg hm hv ⟨v,H,I,r,h⟩ hn hd
variable{a b:Expr}{ta tb:TE}{pos:Pos}
variable{tA tB':TT}{rest:List Expr}
def mZ(t u:TT):TT:=λσ H Q=>t σ H λc H1=>if c=true then u σ H1 Q else Q false H1
def jc(t u:TT):TT:=λσ H Q=>t σ H λc H1=>if c=true then Q true H1 else u σ H1 Q
def mM(t:TT):TT:=λσ H Q=>t σ H λc H1=>Q (!c) H1
def Ag(ha:PT X a tA):PW X (.BoolOp .And [a] pos) tA:=by
 intro wh pins s σ H Q I h;refine isTrue_and (wF (ha pins s σ H Q I h) λc s1 e=>?_);cases c with
 |true=>exact isTrue_and_nil e
 |false=>exact e
def D3(ha:PT X a tA):PW X (.BoolOp .Or [a] pos) tA:=by
 intro wh pins s σ H Q I h;refine isTrue_or (wF (ha pins s σ H Q I h) λc s1 e=>?_);cases c with
 |false=>exact isTrue_or_nil e
 |true=>exact e
def tq(ha:PT X a tA)(hb:PW X (.BoolOp .And (b::rest) pos) tB'):PW X (.BoolOp .And (a::b::rest) pos) (mZ tA tB'):=by
 intro wh pins s σ H Q I h;refine isTrue_and (wF (ha pins s σ H _ I h) λc s1 ⟨H1,I1,q1⟩=>?_);cases c with
 |true=>exact hb wh pins s1 σ H1 Q I1 q1
 |false=>exact⟨H1,I1,q1⟩
def o6(ha:PT X a tA)(hb:PW X (.BoolOp .Or (b::rest) pos) tB'):PW X (.BoolOp .Or (a::b::rest) pos) (jc tA tB'):=by
 intro wh pins s σ H Q I h;refine isTrue_or (wF (ha pins s σ H _ I h) λc s1 ⟨H1,I1,q1⟩=>?_);cases c with
 |true=>exact⟨H1,I1,q1⟩
 |false=>exact hb wh pins s1 σ H1 Q I1 q1
def uF(ha:PT X a tA):PT X (.UnaryOp .Not a pos) (mM tA):=by
 intro pins s σ H Q I h;exact isTrue_not (ha pins s σ H (λc H1=>Q (!c) H1) I h)
def oz(ta tb:TE):TE:=λσ H Q=>ta σ H λx H1=>∃c,x = .bl c/\if c=true then tb σ H1 Q else Q (.bl false) H1
def rP(ta:TE):TE:=λσ H Q=>ta σ H λx H1=>∃c,x = .bl c/\Q (.bl (!c)) H1
def sL(h:PE X a t):PE X (.BoolOp op [a] pos) t:=λpins s σ H Q I hw=>BoolOp_one (h pins s σ H Q I hw)
def tV(ha:PE X a ta)(hb:PE X (.BoolOp .And (b::rest) pos) tb):PE X (.BoolOp .And (a::b::rest) pos) (oz ta tb):=by
 intro pins s σ H Q I h;refine BoolOp_and (wF (ha pins s σ H _ I h) λv s1 ⟨x,H1,I1,r1,q1⟩=>?_);obtain⟨c,rfl,q1⟩:=q1;cases r1;refine wpAny_truthy_bool ?_;cases c with
 |true=>exact hb pins s1 σ H1 Q I1 q1
 |false=>exact⟨.bl false,H1,I1,rfl,q1⟩
def t_(ha:PE X a ta):PE X (.UnaryOp .Not a pos) (rP ta):=by
 intro pins s σ H Q I h;refine UnaryOp_ (wF (ha pins s σ H _ I h) λv s1 ⟨x,H1,I1,r1,q1⟩=>?_);obtain⟨c,rfl,q1⟩:=q1;cases r1;exact not_of (wpAny_truthy_bool ⟨.bl (!c),H1,I1,rfl,q1⟩)
def jy(t:TT)(ta tb:TE):TE:=λσ H Q=>t σ H λc H1=>if c=true then ta σ H1 Q else tb σ H1 Q
def Oz(hc:PT X c tA)(ha:PE X a ta)(hb:PE X b tb):PE X (.IfExp c a b pos) (jy tA ta tb):=by
 intro pins s σ H Q I h;refine wpAny_IfExp (wF (hc pins s σ H _ I h) λd s1 ⟨H1,I1,q1⟩=>?_);cases d with
 |true=>exact ha pins s1 σ H1 Q I1 q1
 |false=>exact hb pins s1 σ H1 Q I1 q1
end
end L2
namespace L2
open PySem PySem.Spec PyProof.Rows
def W0(K:zzA)(H:Hp)(a:Addr)(xs:List V):Prop:=
 Rd H a (.lst xs) \/
  ∃(o:Obj) (its:Array Value) (n:Nat),K.lookup a=some o/\o.cls = .type "list"/\o.dict=none/\o.data = .seq its n/\its.size<=sizeLine/\zO xs its.toList
def Ot(K:zzA)(H:Hp)(a:Addr)(xs:List V):Prop:=
 Rd H a (.lst xs)\/∃(its:Array Value) (n:Nat),K.lookup a=some {cls:=.type "list",data:=.seq its n}/\its.size<=sizeLine/\zO xs its.toList
def Q3(K:zzA)(H:Hp)(a:Addr)(xs:List V):Prop:=
 Rd H a (.tup xs) \/
  ∃(o:Obj) (its:Array Value) (n:Nat),K.lookup a=some o/\o.cls = .type "tuple"/\o.data = .seq its n/\its.size<=sizeLine/\zO xs its.toList
noncomputable def mO:Value->Option V
 | .none=>some .non
 | .bool b=>some (.bl b)
 | .int i _=>some (.int i)
 | .str x _=>some (.str x)
 | .bytes b _=>some (.byt b)
 | .float b _=>some (.flt b)
 | .ref a=>some (.ref a)
 | .type n=>some (.ty n)
 |_=>none
def RelV.abs(r:RelV x u):mO u=some x:=by
 cases x with
 |non=>cases r;rfl
 |bl _=>cases r;rfl
 |int _=>obtain⟨t,rfl⟩:=r;rfl
 |str _=>obtain⟨t,rfl⟩:=r;rfl
 |byt _=>obtain⟨t,rfl⟩:=r;rfl
 |flt _=>obtain⟨t,rfl⟩:=r;rfl
 |ref _=>cases r;rfl
 |ty _=>cases r;rfl
def RelV.inj(r:RelV x u)(q:RelV y u):x=y:=zzZ (r.abs.symm.trans q.abs)
theorem zO.inj:∀{xs ys:List V}{us:List Value},zO xs us->zO ys us->xs=ys
 |_,_,_,.nil,.nil=>rfl
 |_,_,_,.cons r t,.cons r' t'=>by rw[r.inj r',zO.inj t t']
section
variable{X:Cx}{pins:List (Addr×Obj)}{σ:St}{H:Hp}{s:Shared}{a:Addr}{xs ys:List V}
def Inv.list(I:Inv X pins σ H s)(h:W0 X.K H a xs):∃its:List Value,zO xs its/\PlainL s.heap a its.toArray/\xs.length<=sizeLine:=by
 rcases h with h|⟨o,its,n,hk,hc,hd,hs,hz,r⟩
 . obtain⟨z,its,n,r,e⟩:=h.ok I.hok;exact⟨its,r,⟨_,n,e,rfl,rfl,rfl⟩,z⟩
 . refine⟨its.toList,r,⟨o,n,I.kIn a o hk,hc,hd,by simpa using hs⟩, ?_⟩;have e:=r.length;simp only[zyT]at e;omega
def Inv.tuple(I:Inv X pins σ H s)(h:Q3 X.K H a xs):∃its:List Value,zO xs its/\IsTup s.heap a its.toArray/\xs.length<=sizeLine:=by
 rcases h with h|⟨o,its,n,hk,hc,hs,hz,r⟩
 . obtain⟨z,its,r,p⟩:=h.ok I.hok;exact⟨its,r,p,z⟩
 . refine⟨its.toList,r,⟨o,I.kIn a o hk,hc,n,by simpa using hs⟩, ?_⟩;have e:=r.length;simp only[zyT]at e;omega
def Inv.list_inj(I:Inv X pins σ H s)(h:W0 X.K H a xs)(h':W0 X.K H a ys):xs=ys:=by
 obtain⟨its,r,⟨o,n,e,_,_,d⟩,_⟩:=I.list h;obtain⟨its',r',⟨o',n',e',_,_,d'⟩,_⟩:=I.list h';rw[e]at e';cases e';rw[d]at d';injection d' with d1 _
 have:its=its':=by simpa using congrArg Array.toList d1
 subst this;exact r.inj r'
def Inv.tuple_inj(I:Inv X pins σ H s)(h:Q3 X.K H a xs)(h':Q3 X.K H a ys):xs=ys:=by
 obtain⟨its,r,⟨o,e,_,n,d⟩,_⟩:=I.tuple h;obtain⟨its',r',⟨o',e',_,n',d'⟩,_⟩:=I.tuple h';rw[e]at e';cases e';rw[d]at d';injection d' with d1 _
 have:its=its':=by simpa using congrArg Array.toList d1
 subst this;exact r.inj r'
end
abbrev Cx.wish(X:Cx)(E:Value->Shared->Prop):Cx:={X with xe:=E}
abbrev Cx.nox(X:Cx):Cx:=X.wish λ_ _=>False
theorem Cx.Ok.wish{X:Cx}(ok:X.Ok)(E:Value->Shared->Prop):(X.wish E).Ok:=
 ⟨ok.mod,ok.kind,ok.glob,ok.blt,ok.above,ok.inj,ok.has,ok.cab,ok.hd,ok.frames,ok.stk,ok.exf,ok.bs,ok.bsz,ok.noex,ok.exfs,ok.funs,ok.frf⟩
def Cx.Ok.unwish{X:Cx}{E:Value->Shared->Prop}(ok:(X.wish E).Ok):X.Ok:=
 ⟨ok.mod,ok.kind,ok.glob,ok.blt,ok.above,ok.inj,ok.has,ok.cab,ok.hd,ok.frames,ok.stk,ok.exf,ok.bs,ok.bsz,ok.noex,ok.exfs,ok.funs,ok.frf⟩
section
variable{X:Cx}{pins:List (Addr×Obj)}{σ:St}{H:Hp}{s:Shared}{E:Value->Shared->Prop}
theorem Inv.wish(I:Inv X pins σ H s)(E:Value->Shared->Prop):Inv (X.wish E) pins σ H s:=⟨I.ok.wish E,I.os,I.bare,I.base,I.loc,I.cell,I.free,I.freeC,I.pin,I.hok,I.len⟩
theorem Inv.unwish(I:Inv (X.wish E) pins σ H s):Inv X pins σ H s:=⟨I.ok.unwish,I.os,I.bare,I.base,I.loc,I.cell,I.free,I.freeC,I.pin,I.hok,I.len⟩
theorem SP.unwish(h:SP (X.wish E) pins D f s'):SP X pins D f s':=by
 cases f with
 |next=>obtain⟨σ',H',I,q⟩:=h;exact⟨σ',H',I.unwish,q⟩
 |brk=>obtain⟨σ',H',I,q⟩:=h;exact⟨σ',H',I.unwish,q⟩
 |cont=>obtain⟨σ',H',I,q⟩:=h;exact⟨σ',H',I.unwish,q⟩
 |ret u=>obtain⟨v,σ',H',I,r,q⟩:=h;exact⟨v,σ',H',I.unwish,r,q⟩
theorem Mg.nox{st:List Stmt}{t:TS}(h:Mg X.nox st t):Mg X st t:=λpins s σ H D I hw=>
 zxN (h pins s σ H D (I.wish _) hw) (λ_ _ q=>q.unwish) λ_ _ z=>False.elim z
end
section
variable{X:Cx}{st:Stmt}{rest:List Stmt}{t u:TS}{e:Expr}{te:TE}{pos:Pos}
def qC:TS:=λD σ H=>D.nx σ H
def mj(t u:TS):TS:=λD σ H=>t {D with nx:=u D} σ H
def N8:Mg X [] qC:=λ_ _ σ H _ I h=>wpAny_execs_nil ⟨σ,H,I,h⟩
def XW(h1:PS X st t)(h2:Mg X rest u):Mg X (st::rest) (mj t u):=by
 intro pins s σ H D I h;refine wpAny_execs_cons (wF (h1 pins s σ H {D with nx:=u D} I h) λf s1 q=>?_);cases f with
 |next=>
  obtain⟨σ',H',I',q⟩:=q;exact h2 pins s1 σ' H' D I' q
 |ret v=>exact q
 |brk=>exact q
 |cont=>exact q
def Ug(h1:PS X st t):Mg X [st] t:=by
 intro pins s σ H D I h;refine wpAny_execs_cons (wF (h1 pins s σ H D I h) λf s1 q=>?_);cases f with
 |next=>exact wpAny_execs_nil q
 |ret v=>exact q
 |brk=>exact q
 |cont=>exact q
def Inv.quiet(I:Inv X pins σ H s):interactive X.env=false:=by simp[interactive,I.ok.kind]
def rS(te:TE):TS:=λD σ H=>te σ H λ_ H1=>D.nx σ H1
def UP(he:PE X e te)(hs:swapsWith e none pos.line X.env=pure false:=by rfl):PS X (.Expr e pos) (rS te):=by
 intro pins s σ H D I h;exact wpAny_Expr_any (wF (he pins s σ H _ I h) λv s1 ⟨x,H1,I1,r1,q1⟩=>⟨σ,H1,I1,q1⟩) I.quiet hs
def mG(te:TE):TS:=λD σ H=>te σ H D.rt
def ID(he:PE X e te):PS X (.Return (some e) pos) (mG te):=by
 intro pins s σ H D I h;exact wpAny_Return_some (wF (he pins s σ H _ I h) λv s1 ⟨x,H1,I1,r1,q1⟩=>⟨x,σ,H1,I1,r1,q1⟩)
def pB:TS:=λD _ H=>D.rt .non H
def Ar:PS X (.Return none pos) pB:=λ_ _ σ H _ I h=>wpAny_Return_none ⟨.non,σ,H,I,rfl,h⟩
def lB(c:TT)(t u:TS):TS:=λD σ H=>c σ H λb H1=>if b=true then t D σ H1 else u D σ H1
def Cc(hc:PT X c tc)(ha:Mg X a t)(hb:Mg X b u):PS X (.If c a b pos) (lB tc t u):=by
 intro pins s σ H D I h;refine wpAny_If (wF (hc pins s σ H _ I h) λd s1 ⟨H1,I1,q1⟩=>?_);cases d with
 |true=>exact ha pins s1 σ H1 D I1 q1
 |false=>exact hb pins s1 σ H1 D I1 q1
end
abbrev TG:=V->St->Hp->(St->Hp->Prop)->Prop
abbrev uG:=List V->St->Hp->(St->Hp->Prop)->Prop
def PG(X:Cx)(target:Expr)(t:TG):Prop:=
 ∀(pins:List (Addr×Obj)) (s:Shared) (σ:St) (H:Hp) (v:V) (u:Value) (Q:St->Hp->Prop),Inv X pins σ H s->RelV v u->t v σ H Q->
  wpAny (model X.prog X.w) X.A (assign target X.env u) (λ_ s'=>∃σ' H',Inv X pins σ' H' s'/\Q σ' H') X.xe s
def Du(X:Cx)(ts:List Expr)(t:uG):Prop:=
 ∀(pins:List (Addr×Obj)) (s:Shared) (σ:St) (H:Hp) (vs:List V) (us:List Value) (Q:St->Hp->Prop),Inv X pins σ H s->zO vs us->t vs σ H Q->
  wpAny (model X.prog X.w) X.A (assignInOrder ((assignEach ts X.env).map (·.2)) us) (λ_ s'=>∃σ' H',Inv X pins σ' H' s'/\Q σ' H') X.xe s
section
variable{X:Cx}{pos:Pos}
def Ef(i:Nat):TG:=λv σ H Q=>Q (σ.set i (some v)) H
def IK(hN:X.N.Nodup)(hi:X.N[i]? = some x)(hx:Loc X.env.scope x)(hf:X.fn x=true\/X.env.scope.names.lookup x=some .local:=by first|exact .inl rfl|exact .inr rfl|assumption):PG X (.Name x pos) (Ef i):=by
 intro pins s σ H v u Q I r h;exact wpAny_assign_Name (Ek I hN hi hx r (λs' I'=>⟨_,H,I',h⟩) hf)
def ml:uG:=λvs σ H Q=>vs=[]/\Q σ H
def pj(t:TG)(u:uG):uG:=λvs σ H Q=>∃v r,vs=v::r/\t v σ H λσ' H'=>u r σ' H' Q
def Da:Du X [] ml:=by
 intro pins s σ H vs us Q I r h;obtain⟨e,h⟩:=h;subst e;cases r;exact assignInOrder_nil ⟨σ,H,I,h⟩
def Ia(h1:PG X e t)(h2:Du X es u)
 (hs:(assignEach (e::es) X.env).map (·.2)=assign e X.env::(assignEach es X.env).map (·.2):=by rfl):Du X (e::es) (pj t u):=by
 intro pins s σ H vs us Q I r h;obtain⟨v,vr,e1,h⟩:=h;subst e1;cases r with
 |cons r rr=>
  rw[hs];refine assignInOrder_cons (wF (h1 pins s σ H _ _ _ I r h) λ_ s1 ⟨σ1,H1,I1,q1⟩=>?_);exact h2 pins s1 σ1 H1 _ _ Q I1 rr q1
def n4(K:zzA)(n:Nat)(t:uG):TG:=λv σ H Q=>∃a xs,v = .ref a/\Q3 K H a xs/\xs.length=n/\t xs σ H Q
def rh(hc:X.calm=true)(h:Du X es t)
 (hn:(assignEach es X.env).length=n:=by rfl) (hst:(assignEach es X.env).findIdx? (·.1)=none:=by rfl):PG X (.Tuple es k pos) (n4 X.K n t):=by
 intro pins s σ H v u Q I r hw;obtain⟨a,xs,e1,hq,hl,hw⟩:=hw;subst e1;cases r;obtain⟨its,rv,ht,hz⟩:=I.tuple hq;refine assign_Tuple_tuple (I.ok.hd hc) ht (by simp[hn,<-hl,rv.length]) hst λh' hx=>?_;have I1:Inv X pins σ H {s with heap:=h'}:=I.kept (t':=s.toks) λb o e=>hx b o (zzQ (zxI e)) e;exact h pins _ σ H xs _ Q I1 (by simpa using rv) hw
def rA(te:TE)(g:TG):TS:=λD σ H=>te σ H λx H1=>g x σ H1 D.nx
def u6(he:PE X e te)(hg:PG X tg g)(hs:swapsWithSole [tg] e pos.line X.env=pure false:=by rfl)(hw:swappedStores [tg] e X.env=pure none:=by rfl)
 (h1:(assignEach [tg] X.env).map (·.2)=[assign tg X.env]:=by rfl):PS X (.Assign [tg] e pos) (rA te g):=by
 intro pins s σ H D I h;refine wpAny_Assign_stores (wF (he pins s σ H _ I h) λv s1 ⟨x,H1,I1,r1,q1⟩=>?_) hs hw;rw[h1];exact wF (hg pins s1 σ H1 x v _ I1 r1 q1) λ_ s2 q=>q
def CY(hN:X.N.Nodup)(hi:X.N[i]? = some x)(hx:Loc X.env.scope x)(he:PE X e te)(hs:swapsWith e (some (.Name x pos')) pos.line X.env=pure false:=by rfl)(hf:X.fn x=true\/X.env.scope.names.lookup x=some .local:=by first|exact .inl rfl|exact .inr rfl|assumption):
 PS X (.Assign [.Name x pos'] e pos) (rA te (Ef i)):=by
 intro pins s σ H D I h;refine wpAny_Assign_Name (wF (he pins s σ H _ I h) λv s1 ⟨y,H1,I1,r1,q1⟩=>?_) hs;exact Ek I1 hN hi hx r1 (λs2 I2=>⟨_,H1,I2,q1⟩) hf
end
structure It where
 go:Nat->Hp->Prop
 yld:Nat->Hp->V->Hp->Prop
 stop:Nat->Hp->Prop
def Tf(X:Cx)(pins:List (Addr×Obj))(H:Hp)(b:Addr):Prop:=
 H b=none/\b≠X.env.locals/\b ∉ X.fs/\(b ∈ X.ex\/X.s₀.heap.objs.size<=b)/\(∀x c,X.env.cells.lookup x=some c->c≠b)/\∀p ∈ X.pn++pins,p.1≠b
def Inv.fpOk(I:Inv X pins σ H s)(hb:s.heap.objs.size<=b)(hn:H' b=none):Tf X pins H' b:=by
 refine⟨hn,Nat.ne_of_gt (zzK I.lt hb),I.nofs hb,.inr (zzO I.sz hb),λx c e z=>?_,λp hp z=>?_⟩
 . obtain⟨v,q⟩:=I.cell x c e;exact absurd (zzK q.lt (by rw[z];exact hb)) (Nat.lt_irrefl _)
 . exact absurd (zzK (zxI (I.pin p hp).1) (by rw[z];exact hb)) (Nat.lt_irrefl _)
structure Turn(P:Program)(w:World)(K:zzA)(tg:Expr)(J:It)(fp:List Addr)(it:Addr)(tn:Nat->Heap->Prop):Prop where
 mem:it ∈ fp
 obj:∀i h,tn i h->∀b ∈ fp,∃o,h.get? b=some o/\∀v,o.data ≠ .cell v
 keep:∀i h h',tn i h->(∀b ∈ fp,∀o,h.get? b=some o->h'.get? b=some o)->tn i h'
 item:∀(X:Cx),X.prog=P->X.w=w->X.K=K->X.calm=true->∀(i:Nat) (pins:List (Addr×Obj)) (s:Shared) (σ:St) (H:Hp) (E:Value->Shared->Prop),Inv X pins σ H s->(∀b ∈ fp,Tf X pins H b)->tn i s.heap->J.go i H->
  wpAny (model P w) X.A (pyNext (.ref it)) (λr s1=>∃u,r=some u/\
   wpAny (model P w) X.A (letOwnedTupleGo tg (.ref it) u) (λ_ s2=>∃x H',Inv X pins σ H' s2/\RelV x u/\J.yld i H x H'/\tn (i+1) s2.heap/\∀b ∈ fp,H' b=none) E s1) E s
 done:∀(X:Cx),X.prog=P->X.w=w->X.K=K->X.calm=true->∀(i:Nat) (pins:List (Addr×Obj)) (s:Shared) (σ:St) (H:Hp) (E:Value->Shared->Prop),Inv X pins σ H s->(∀b ∈ fp,Tf X pins H b)->tn i s.heap->J.stop i H->
  wpAny (model P w) X.A (pyNext (.ref it)) (λr s1=>r=none/\Inv X pins σ H s1) E s
 self:∀(A:Around) (i:Nat) (s:Shared) (Q:Value->Shared->Prop) (E:Value->Shared->Prop),tn i s.heap->Q (.ref it) s->wpAny (model P w) A (pyIter (.ref it)) Q E s
abbrev TI:=St->Hp->(It->Hp->Prop)->Prop
def kr(X:Cx)(pins:List (Addr×Obj))(σ:St)(tg:Expr)(R:It->Hp->Prop)(itv:Value)(s2:Shared):Prop:=
 ∃(it:Addr) (fp:List Addr) (tn:Nat->Heap->Prop) (J:It) (H':Hp),itv = .ref it/\Inv X pins σ H' s2/\Turn X.prog X.w X.K tg J fp it tn/\tn 0 s2.heap/\(∀b ∈ fp,Tf X pins H' b)/\R J H'
def PI(X:Cx)(tg iter:Expr)(wi:TI):Prop:=
 ∀(pins:List (Addr×Obj)) (s:Shared) (σ:St) (H:Hp) (R:It->Hp->Prop),Inv X pins σ H s->wi σ H R->
  wpAny (model X.prog X.w) X.A (eval iter X.env) (λv s1=>wpAny (model X.prog X.w) X.A (pyIter v) (kr X pins σ tg R) X.xe s1) X.xe s
def C8(ho:s.heap.get? it=some o)(hc:o.cls = .type n)(hd:o.data = .fields vs)
 (hn : ["enumerate","zip","dict_itemiterator","dict_reverseitemiterator","odict_iterator","itertools.zip_longest","itertools.pairwise"].contains n=false) (hQ:Q () s):wpAny M A (letOwnedTupleGo tg (.ref it) u) Q E s:=by
 unfold letOwnedTupleGo;cases tg<;>first
  |exact zxG hQ
  |(cases u<;>first
   |exact zxG hQ
   | (refine zxF (wpAny_load ho ?_)
      rw[hc,hd];show wpAny M A (if(["enumerate","zip","dict_itemiterator","dict_reverseitemiterator","odict_iterator","itertools.zip_longest","itertools.pairwise"].contains n&&vs[0]? == some (rawInt _))=true then _ else _) Q E s;rw[if_neg (by intro h;rw[hn,Bool.false_and]at h;cases h)];exact zxG hQ))
def nj(K:zzA)(a:Addr):It:=
 ⟨λi H=>∃xs x,W0 K H a xs/\xs[i]? = some x,λi H x H'=>H'=H/\∀xs,W0 K H a xs->xs[i]? = some x,λi H=>∃xs,W0 K H a xs/\xs.length<=i⟩
def nN(K:zzA)(a:Addr):It:=
 ⟨λi H=>∃xs x,Q3 K H a xs/\xs[i]? = some x,λi H x H'=>H'=H/\∀xs,Q3 K H a xs->xs[i]? = some x,λi H=>∃xs,Q3 K H a xs/\xs.length<=i⟩
def rG(lo:Int)(n:Nat):It:=⟨λi _=>i<n,λi H x H'=>H'=H/\x = .int (lo+i),λi _=>n<=i⟩
def Hs{P:Program}{w:World}{K:zzA}{tg:Expr}(a it:Addr):Turn P w K tg (nj K a) [it] it (λi h=>h.IsListIter it a i)where
 mem:=by simp
 obj:=λi h st b hb=>by
  have e:b=it:=by simpa using hb
  subst e;obtain⟨o,e,c,d⟩:=st;exact⟨o,e,λv z=>by rw[d]at z;cases z⟩
 keep:=λi h h' st k=>st.at λo e=>k it (by simp) o e
 item:=by
  intro X hP hw hK hc i pins s σ H E I hf st hg;subst hP hw hK;obtain⟨xs,x,hq,hx⟩:=hg;obtain⟨its,rv,p,hz⟩:=I.list hq;obtain⟨u,hu,ru⟩:=rv.get hx;obtain⟨f0,f1,f2,f3,f4,f5⟩:=hf it (by simp);refine wpAny_pyNext_list_item st p.isList (x:=u) (by simpa using hu) λh' st' sb=>?_;have I1:Inv X pins σ H {s with heap:=h'}:=I.turned (t':=s.toks) (λb o hb e=>(sb.2 b hb).trans e) f0 f1 f3 f4 f5;obtain⟨o,e,c,d⟩:=id st';exact⟨u,rfl,C8 (s:={s with heap:=h'}) e c d (by decide) ⟨x,H,I1,ru,⟨rfl,λys hy=>by rw[I.list_inj hy hq];exact hx⟩,st',λb hb=>(hf b hb).1⟩⟩
 done:=by
  intro X hP hw hK hc i pins s σ H E I hf st hg;subst hP hw hK;obtain⟨xs,hq,hx⟩:=hg;obtain⟨its,rv,p,hz⟩:=I.list hq;obtain⟨f0,f1,f2,f3,f4,f5⟩:=hf it (by simp);have hl:=rv.length;exact wpAny_pyNext_list_end (I.ok.hd hc) st p.isList (by simp;omega) λh' eb=>⟨rfl,I.turned (t':=s.toks) (λb o hb e=>eb b o hb e) f0 f1 f3 f4 f5⟩
 self:=λ_ _ _ _ _ st h=>wpAny_pyIter_listiter st h
def Fo{P:Program}{w:World}{K:zzA}{tg:Expr}(a it:Addr):Turn P w K tg (nN K a) [it] it (λi h=>h.IsTupleIter it a i)where
 mem:=by simp
 obj:=λi h st b hb=>by
  have e:b=it:=by simpa using hb
  subst e;obtain⟨o,e,c,d⟩:=st;exact⟨o,e,λv z=>by rw[d]at z;cases z⟩
 keep:=λi h h' st k=>st.at λo e=>k it (by simp) o e
 item:=by
  intro X hP hw hK hc i pins s σ H E I hf st hg;subst hP hw hK;obtain⟨xs,x,hq,hx⟩:=hg;obtain⟨its,rv,p,hz⟩:=I.tuple hq;obtain⟨u,hu,ru⟩:=rv.get hx;obtain⟨f0,f1,f2,f3,f4,f5⟩:=hf it (by simp);refine wpAny_pyNext_tuple_item st (show s.heap.IsTuple a its.toArray from p) (x:=u) (by simpa using hu) λh' st' sb=>?_;have I1:Inv X pins σ H {s with heap:=h'}:=I.turned (t':=s.toks) (λb o hb e=>(sb.2 b hb).trans e) f0 f1 f3 f4 f5;obtain⟨o,e,c,d⟩:=id st';exact⟨u,rfl,C8 (s:={s with heap:=h'}) e c d (by decide) ⟨x,H,I1,ru,⟨rfl,λys hy=>by rw[I.tuple_inj hy hq];exact hx⟩,st',λb hb=>(hf b hb).1⟩⟩
 done:=by
  intro X hP hw hK hc i pins s σ H E I hf st hg;subst hP hw hK;obtain⟨xs,hq,hx⟩:=hg;obtain⟨its,rv,p,hz⟩:=I.tuple hq;obtain⟨f0,f1,f2,f3,f4,f5⟩:=hf it (by simp);have hl:=rv.length;exact wpAny_pyNext_tuple_end (I.ok.hd hc) st (show s.heap.IsTuple a its.toArray from p) (by simp;omega) λh' eb=>⟨rfl,I.turned (t':=s.toks) (λb o hb e=>eb b o hb e) f0 f1 f3 f4 f5⟩
 self:=λ_ _ _ _ _ st h=>wpAny_pyIter_tupleiter st h
def FM{P:Program}{w:World}{K:zzA}{tg:Expr}(it:Addr)(lo:Int)(n:Nat):Turn P w K tg (rG lo n) [it] it (λi h=>IsRangeIter h it (lo+(i:Nat)*1) ((n:Int)-(i:Nat)) 1)where
 mem:=by simp
 obj:=λi h st b hb=>by
  have e:b=it:=by simpa using hb
  subst e;exact⟨_,st,λv z=>by
   have z':Data.fields _=Data.cell v:=z;cases z'⟩
 keep:=λi h h' st k=>k it (by simp) _ st
 item:=by
  intro X hP hw hK hc i pins s σ H E I hf st hg;subst hP hw hK;obtain⟨f0,f1,f2,f3,f4,f5⟩:=hf it (by simp);have W:=Walks.range (prog:=X.prog) (w:=X.w) (I.ok.hd hc) it lo 1 n;refine W.item i s _ _ hg st λv h' tk hv st' kk=>?_;obtain⟨t,rfl⟩:=hv;have I1:Inv X pins σ H {s with heap:=h',toks:=tk}:=I.turned (λb o hb e=>kk b o (by simpa using hb) e) f0 f1 f3 f4 f5;refine⟨_,rfl,C8 (s:={s with heap:=h',toks:=tk}) (n:="range_iterator") st' rfl rfl (by decide) ⟨.int (lo+i),H,I1,⟨t, ?_⟩,⟨rfl,rfl⟩,st',λb hb=>(hf b hb).1⟩⟩;rw[Int.mul_one]
 done:=by
  intro X hP hw hK hc i pins s σ H E I hf st hg;subst hP hw hK;obtain⟨f0,f1,f2,f3,f4,f5⟩:=hf it (by simp);exact wpAny_pyNext_range_end (I.ok.hd hc) st (by have:n<=i:=hg;omega) λh' eb=>⟨rfl,I.turned (t':=s.toks) (λb o hb e=>eb b o hb e) f0 f1 f3 f4 f5⟩
 self:=λ_ _ _ _ _ st h=>wpAny_pyIter_rangeiter st h
end L2
namespace L2
open PySem PySem.Spec PyProof.Rows
section
variable{X:Cx}{tg:Expr}
def qT(K:zzA)(tl:TE):TI:=λσ H R=>tl σ H λx H1=>∃a,x = .ref a/\(∃xs,W0 K H1 a xs)/\R (nj K a) H1
def n9(K:zzA)(tl:TE):TI:=λσ H R=>tl σ H λx H1=>∃a,x = .ref a/\(∃xs,Q3 K H1 a xs)/\R (nN K a) H1
def ME{l:Expr}{tl:TE}(hl:PE X l tl):PI X tg l (qT X.K tl):=by
 intro pins s σ H R I h;refine wF (hl pins s σ H _ I h) λv s1 ⟨x,H1,I1,r1,q1⟩=>?_;obtain⟨a,e,⟨xs,hq⟩,q⟩:=q1;subst e;cases r1;obtain⟨its,rv,p,hz⟩:=I1.list hq;refine wpAny_pyIter_list p.isList ?_;refine⟨s1.heap.objs.size,[s1.heap.objs.size],_,_,H1,rfl,I1.kept (t':=s1.toks) λb o e=>zxH _ e,Hs a _,⟨_,zxJ _ rfl,rfl,rfl⟩,λb hb=>?_,q⟩;have e:b=s1.heap.objs.size:=by simpa using hb
 subst e;exact I1.fpOk (zzN _) (I1.hok.fresh (zzN _))
def FG{l:Expr}{tl:TE}(hl:PE X l tl):PI X tg l (n9 X.K tl):=by
 intro pins s σ H R I h;refine wF (hl pins s σ H _ I h) λv s1 ⟨x,H1,I1,r1,q1⟩=>?_;obtain⟨a,e,⟨xs,hq⟩,q⟩:=q1;subst e;cases r1;obtain⟨its,rv,p,hz⟩:=I1.tuple hq;refine wpAny_pyIter_tuple (show s1.heap.IsTuple a its.toArray from p) ?_;refine⟨s1.heap.objs.size,[s1.heap.objs.size],_,_,H1,rfl,I1.kept (t':=s1.toks) λb o e=>zxH _ e,Fo a _,⟨_,zxJ _ rfl,rfl,rfl⟩,λb hb=>?_,q⟩;have e:b=s1.heap.objs.size:=by simpa using hb
 subst e;exact I1.fpOk (zzN _) (I1.hok.fresh (zzN _))
def ER{pins:List (Addr×Obj)}{σ:St}{H:Hp}{s:Shared}{R:It->Hp->Prop}{E:Value->Shared->Prop}{lo hi:Int}{t u v:Tok}{tk:Nat}(I:Inv X pins σ H s)(h1 : -(2 ^ 62)<=lo)(h2:lo<2 ^ 62)(h3 : -(2 ^ 62)<=hi)(h4:hi<2 ^ 62)
 (q:R (rG lo (hi-lo).toNat) H):wpAny (model X.prog X.w) X.A (pyIter (.ref s.heap.objs.size)) (kr X pins σ tg R) E {s with heap:=s.heap.push {cls:=.type "range",data:=.fields #[.int lo t,.int hi u,.int 1 v]},toks:=tk}:=by
 refine wpAny_pyIter_range (IsRange.new ..) (small_one h1 h2 h3 h4) ?_;have I1:Inv X pins σ H {s with heap:=s.heap.push {cls:=.type "range",data:=.fields #[.int lo t,.int hi u,.int 1 v]},toks:=tk}:=I.kept λb o e=>zxH _ e;refine⟨(s.heap.push {cls:=.type "range",data:=.fields #[.int lo t,.int hi u,.int 1 v]}).objs.size,[(s.heap.push {cls:=.type "range",data:=.fields #[.int lo t,.int hi u,.int 1 v]}).objs.size],_,_,H,rfl,
  I1.kept (t':=tk) λb o e=>zxH _ e,FM _ lo (hi-lo).toNat, ?_,λb hb=>?_,q⟩
 . have e1:lo+((0:Nat):Int)*1=lo:=by simp
   have e2:(((hi-lo).toNat:Nat):Int)-((0:Nat):Int)=Builtin.Range.rangeSize lo hi 1:=by rw[rangeSize_one];split<;>omega
   show IsRangeIter _ _ (lo+((0:Nat):Int)*1) ((((hi-lo).toNat:Nat):Int)-((0:Nat):Int)) 1;rw[e1,e2];exact zxJ _ rfl
 . have e:b=(s.heap.push {cls:=.type "range",data:=.fields #[.int lo t,.int hi u,.int 1 v]}).objs.size:=by simpa using hb
   subst e;exact I1.fpOk (zzN _) (I1.hok.fresh (zzN _))
def p5(ta:TA):TI:=λσ H R=>ta σ H λvs H1=>∃j:Int,vs=[.int j] /\ -(2 ^ 62)<=j/\j<2 ^ 62/\R (rG 0 j.toNat) H1
def p9(ta:TA):TI:=λσ H R=>ta σ H λvs H1=>∃i j:Int,vs=[.int i,.int j]/\(-(2 ^ 62)<=i/\i<2 ^ 62 /\ -(2 ^ 62)<=j/\j<2 ^ 62)/\R (rG i (j-i).toNat) H1
def Ly{a:Expr}{ta:TA}{p pos:Pos}(hg:Gl X "range")(hm:X.mg "range"=none)(ha:PA X [a] ta)(hs:starEach [a] X.env=[(false,eval a X.env)]:=by rfl):PI X tg (.Call (.Name "range" p) [a] [] pos) (p5 ta):=by
 intro pins s σ H R I h;refine Call_ (Wm I hg hm boot_range (PyProof.Rows.callWith_type1 (wF (ha pos pins s σ H _ I h) λus s1 ⟨vs,H1,I1,r1,q1⟩=>?_) hs rfl));obtain⟨j,e,q1,q2,q⟩:=q1;subst e;cases r1 with
 |cons r rr=>
  cases rr;obtain⟨t,rfl⟩:=r;exact call_range_1 (ER I1 (by omega) (by omega) q1 q2 (by simpa using q))
def S8(hg:Gl X "range")(hm:X.mg "range"=none)(ha:PA X [a,b] ta)(hs:starEach [a,b] X.env=[(false,eval a X.env),(false,eval b X.env)]:=by rfl)(hs2:starEach [b] X.env=[(false,eval b X.env)]:=by rfl):
 PI X tg (.Call (.Name "range" p) [a,b] [] pos) (p9 ta):=by
 intro pins s σ H R I h;refine Call_ (Wm I hg hm boot_range (PyProof.Rows.callWith_type1 (wF (ha pos pins s σ H _ I h) λus s1 ⟨vs,H1,I1,r1,q1⟩=>?_) (by rw[hs,hs2]) (by rw[hs2];rfl)));obtain⟨i,j,e,⟨q1,q2,q3,q4⟩,q⟩:=q1;subst e;cases r1 with
 |cons r rr=>
  cases rr with
  |cons r' rr=>
   cases rr;obtain⟨t,rfl⟩:=r;obtain⟨t',rfl⟩:=r';exact call_range_2 (ER I1 q1 q2 q3 q4 q)
def mD(wi:TI)(g:TG)(tb:TS):TS:=λD σ H=>wi σ H λJ H1=>∃W:Nat->Nat->St->Hp->Prop,(∃m,W 0 m σ H1)/\∀i m σ H,W i m σ H->
 (J.stop i H/\D.nx σ H)\/(J.go i H/\∃N:St->Hp->Prop,(∀σ' H',N σ' H'->∃m',m'<m/\W (i+1) m' σ' H')/\∀x H',J.yld i H x H'->g x σ H' λσ2 H2=>tb {D with nx:=N,ct:=N,bk:=D.nx} σ2 H2)
def Kr(fp:List Addr)(h:Heap):List (Addr×Obj):=fp.filterMap λb=>(h.get? b).map λo=>(b,o)
def Wu(hb:b ∈ fp)(e:h.get? b=some o):(b,o) ∈ Kr fp h:=List.mem_filterMap.mpr ⟨b,hb,by rw[e];rfl⟩
def SY(hp:p ∈ Kr fp h):p.1 ∈ fp/\h.get? p.1=some p.2:=by
 obtain⟨b,hb,e⟩:=List.mem_filterMap.mp hp;cases q:h.get? b with
 |none=>rw[q]at e;cases e
 |some o=>
  rw[q]at e;have e':(b,o)=p:=zzZ e;subst e';exact⟨hb,q⟩
def Inv.pinned(I:Inv X pins σ H s)(hf:∀b ∈ fp,Tf X pins H b)(ho:∀b ∈ fp,∃o,s.heap.get? b=some o/\∀v,o.data ≠ .cell v):Inv X (pins++Kr fp s.heap) σ H s:=
 I.pins_of λp hp=>(zzM.mp hp).elim (λz=>I.pin p (zzL _ z)) λz=>by
  obtain⟨hb,e⟩:=SY z;obtain⟨f0,f1,f2,_⟩:=hf p.1 hb;obtain⟨o,e',d⟩:=ho p.1 hb;rw[e]at e';cases e';exact⟨e,f0,f1,f2,d⟩
def Inv.unpinned(I:Inv X (pins++pl) σ H s):Inv X pins σ H s:=I.pins_of λp hp=>I.pin p (zzL _ (zzP _ hp))
def HP(hp:PassesOwn (model X.prog X.w) X.A X.env X.xe)(hc:X.calm=true)(hi:PI X tg iter wi)(hg:PG X tg g)(hb:Mg X body tb)
 (hs:∀x,foldedSetIterable iter X.env x=pure x:=by intro _;rfl):PS X (.For tg iter body [] pos) (mD wi g tb):=by
 intro pins s σ H D I h;refine wpAny_For (wF (hi pins s σ H _ I h) λv s1 h1=>wF h1 λitv s2 h2=>?_) hs;obtain⟨it,fp,tn,J,H2,e,I2,T,st2,f2,W,⟨m0,w0⟩,turn⟩:=h2;subst e;have stat:∀{H':Hp},(∀b ∈ fp,H' b=none)->∀b ∈ fp,Tf X pins H' b:=λhn b hb=>⟨hn b hb,(f2 b hb).2⟩;refine codeAny_forLoop_any (λn s'=>∃i σ' H',Inv X pins σ' H' s'/\tn i s'.heap/\(∀b ∈ fp,H' b=none)/\W i n σ' H') ?_ m0 ⟨0,σ,H2,I2,st2,λb hb=>(f2 b hb).1,w0⟩
 rintro n s3 ⟨i,σ3,H3,I3,st3,fr3,w3⟩
 rcases turn i n σ3 H3 w3 with⟨stop,qn⟩|⟨go,N,hN,step⟩
 . refine wpAny_passesOwn hp (wF (T.done X rfl rfl rfl hc i pins s3 σ3 H3 X.xe I3 (stat fr3) st3 stop) λr s4 ⟨hr,I4⟩=>?_);subst hr;exact wpAny_execs_nil ⟨σ3,H3,I4,qn⟩
 . refine wpAny_passesOwn hp (wF (T.item X rfl rfl rfl hc i pins s3 σ3 H3 X.xe I3 (stat fr3) st3 go) λr s4 ⟨u,hr,h4⟩=>?_);subst hr;refine wpAny_passesOwn hp (wF h4 λ_ s5 ⟨x,H5,I5,r5,y5,st5,fr5⟩=>?_);have I5':=I5.pinned (stat fr5) (T.obj _ _ st5);refine wpAny_passesOwn hp (wF (hg _ s5 σ3 H5 x u _ I5' r5 (step x H5 y5)) λ_ s6 ⟨σ6,H6,I6,q6⟩=>?_);refine wpAny_passesOwn hp (wF (hb _ s6 σ6 H6 _ I6 q6) λf s7 q7=>?_);have again:∀{σ7:St}{H7:Hp},Inv X (pins++Kr fp s5.heap) σ7 H7 s7->N σ7 H7->∃m,m<n/\∃i σ' H',Inv X pins σ' H' s7/\tn i s7.heap/\(∀b ∈ fp,H' b=none)/\W i m σ' H':=λ{σ7 H7} I7 n7=>by
    obtain⟨m',hm,w7⟩:=hN σ7 H7 n7;refine⟨m',hm,i+1,σ7,H7,I7.unpinned,T.keep _ _ _ st5 λb hb o e=>(I7.pin (b,o) (zzL _ (zzL _ (Wu hb e)))).1,λb hb=>?_,w7⟩;obtain⟨o,e,d⟩:=T.obj _ _ st5 b hb;exact(I7.pin (b,o) (zzL _ (zzL _ (Wu hb e)))).2.1
   cases f with
   |next=>obtain⟨σ7,H7,I7,n7⟩:=q7;exact again I7 n7
   |cont=>obtain⟨σ7,H7,I7,n7⟩:=q7;exact again I7 n7
   |brk=>obtain⟨σ7,H7,I7,q7⟩:=q7;exact⟨σ7,H7,I7.unpinned,q7⟩
   |ret v=>obtain⟨x7,σ7,H7,I7,r7,q7⟩:=q7;exact⟨x7,σ7,H7,I7.unpinned,r7,q7⟩
end
end L2
namespace L2
open PySem PySem.Spec PyProof.Rows
abbrev R2:=V->V->Hp->VK->Prop
def Ry(X:Cx)(f:Value->Value->Sem Value)(r:R2):Prop:=
 ∀(pins:List (Addr×Obj)) (s:Shared) (σ:St) (H:Hp) (x y:V) (v u:Value) (Q:VK),Inv X pins σ H s->RelV x v->RelV y u->r x y H Q->
  wpAny (model X.prog X.w) X.A (f v u) (EP X pins σ Q) X.xe s
def nO(X:Cx)(f:Value->Sem Value)(r:V->Hp->VK->Prop):Prop:=
 ∀(pins:List (Addr×Obj)) (s:Shared) (σ:St) (H:Hp) (x:V) (v:Value) (Q:VK),Inv X pins σ H s->RelV x v->r x H Q->
  wpAny (model X.prog X.w) X.A (f v) (EP X pins σ Q) X.xe s
def XO(X:Cx)(f:Value)(r:List V->Hp->VK->Prop):Prop:=
 ∀(pins:List (Addr×Obj)) (s:Shared) (σ:St) (H:Hp) (xs:List V) (us:List Value) (Q:VK),Inv X pins σ H s->zO xs us->r xs H Q->
  wpAny (model X.prog X.w) X.A (call f us) (EP X pins σ Q) X.xe s
def md(X:Cx)(r:V->Hp->(Bool->Hp->Prop)->Prop):Prop:=
 ∀(pins:List (Addr×Obj)) (s:Shared) (σ:St) (H:Hp) (x:V) (v:Value) (Q:Bool->Hp->Prop),Inv X pins σ H s->RelV x v->r x H Q->
  wpAny (model X.prog X.w) X.A (truthy v) (TP X pins σ Q) X.xe s
def p3(r:R2)(ta tb:TE):TE:=λσ H Q=>ta σ H λx H1=>tb σ H1 λy H2=>r x y H2 Q
def jq(r:V->Hp->VK->Prop)(ta:TE):TE:=λσ H Q=>ta σ H λx H1=>r x H1 Q
def rI(C:Int->Int->Prop)(g:Int->Int->V):R2:=λx y H Q=>∃i j,x = .int i/\y = .int j/\C i j/\Q (g i j) H
def DU(g:Int->Int->V):R2:=λx y H Q=>∃i j,x = .int i/\y = .int j/\Q (g i j) H
def rU(g:Int->V):V->Hp->VK->Prop:=λx H Q=>∃i,x = .int i/\Q (g i) H
section
variable{X:Cx}{a b c:Expr}{ta tb tc:TE}{pos:Pos}
def sQ(ha:PE X a ta)(hb:PE X b tb){pins:List (Addr×Obj)}{s:Shared}{σ:St}{H:Hp}{R:V->V->Hp->Prop}(I:Inv X pins σ H s)
 (h:ta σ H λx H1=>tb σ H1 λy H2=>R x y H2) {Q:Value->Shared->Prop}{f:Value->Value->Sem Value}
 (hf:∀v u s2 x y H2,Inv X pins σ H2 s2->RelV x v->RelV y u->R x y H2->wpAny (model X.prog X.w) X.A (f v u) Q X.xe s2):
 wpAny (model X.prog X.w) X.A (eval a X.env) (λv s₁=>wpAny (model X.prog X.w) X.A (eval b X.env) (λu s₂=>wpAny (model X.prog X.w) X.A (f v u) Q X.xe s₂) X.xe s₁) X.xe s:=by
 refine wF (ha pins s σ H _ I h) λv s1 ⟨x,H1,I1,r1,q1⟩=>?_;refine wF (hb pins s1 σ H1 _ I1 q1) λu s2 ⟨y,H2,I2,r2,q2⟩=>?_;exact hf v u s2 x y H2 I2 r1 r2 q2
def q_{op:Operator}{r:R2}(ho:Ry X (binaryOp op) r)(ha:PE X a ta)(hb:PE X b tb):PE X (.BinOp a op b pos) (p3 r ta tb):=by
 intro pins s σ H Q I h;exact wpAny_BinOp (sQ ha hb I h λv u s2 x y H2 I2 rx ry q=>ho pins s2 σ H2 x y v u Q I2 rx ry q)
def qx(ho:nO X (unaryOp op) r)(ha:PE X a ta):PE X (.UnaryOp op a pos) (jq r ta):=by
 intro pins s σ H Q I h;exact UnaryOp_ (wF (ha pins s σ H _ I h) λv s1 ⟨x,H1,I1,r1,q1⟩=>ho pins s1 σ H1 x v Q I1 r1 q1)
def ke{f:Value->Value->Sem Value}{C:Int->Int->Prop}{g:Int->Int->Int}
 (rule:∀(i j:Int) (t u:Tok) (s:Shared) (Q:Value->Shared->Prop) (E:Value->Shared->Prop),C i j->Q (.int (g i j) s.toks) {s with toks:=s.toks+1}->wpAny (model X.prog X.w) X.A (f (.int i t) (.int j u)) Q E s):
 Ry X f (rI C λi j=>.int (g i j)):=by
 intro pins s σ H x y v u Q I rx ry h;obtain⟨i,j,rfl,rfl,hc,q⟩:=h;obtain⟨t,rfl⟩:=rx;obtain⟨t',rfl⟩:=ry;exact rule i j t t' s _ _ hc ⟨.int (g i j),H,I.tok _,⟨_,rfl⟩,q⟩
def pH{f:Value->Value->Sem Value}{g:Int->Int->Int}
 (rule:∀(i j:Int) (t u:Tok) (s:Shared) (Q:Value->Shared->Prop) (E:Value->Shared->Prop),Q (.int (g i j) s.toks) {s with toks:=s.toks+1}->wpAny (model X.prog X.w) X.A (f (.int i t) (.int j u)) Q E s):
 Ry X f (DU λi j=>.int (g i j)):=by
 intro pins s σ H x y v u Q I rx ry h;obtain⟨i,j,rfl,rfl,q⟩:=h;obtain⟨t,rfl⟩:=rx;obtain⟨t',rfl⟩:=ry;exact rule i j t t' s _ _ ⟨.int (g i j),H,I.tok _,⟨_,rfl⟩,q⟩
def Jt{f:Value->Value->Sem Value}{g:Int->Int->Bool}
 (rule:∀(i j:Int) (t u:Tok) (s:Shared) (Q:Value->Shared->Prop) (E:Value->Shared->Prop),Q (.bool (g i j)) s->wpAny (model X.prog X.w) X.A (f (.int i t) (.int j u)) Q E s):
 Ry X f (DU λi j=>.bl (g i j)):=by
 intro pins s σ H x y v u Q I rx ry h;obtain⟨i,j,rfl,rfl,q⟩:=h;obtain⟨t,rfl⟩:=rx;obtain⟨t',rfl⟩:=ry;exact rule i j t t' s _ _ ⟨.bl (g i j),H,I,rfl,q⟩
def mw(i j:Int):Prop:=0<j/\j<1073741824
def n5(i j:Int):Prop:=0<=j/\j<=1000000/\i.natAbs<2 ^ 64
def uH:Ry X (binaryOp .Add) (DU λi j=>.int (i+j)):=pH λ_ _ _ _ _ _ _ q=>add_int q
def uq:Ry X (binaryOp .Sub) (DU λi j=>.int (i-j)):=pH λ_ _ _ _ _ _ _ q=>sub_int q
def tL:Ry X (binaryOp .Mod) (rI (λ_ j=>0<j) λi j=>.int (i%j)):=ke λi j _ _ _ _ _ hc q=>by
 have h1:(0:Int)<j:=hc;exact mod_int' (by omega) (by rw[Int.fmod_eq_emod_of_nonneg i (by omega)];exact q)
def uW:Ry X (binaryOp .Pow) (rI n5 λi j=>.int (i ^ j.toNat)):=ke λ_ _ _ _ _ _ _ hc q=>pow_int_small hc.1 hc.2.1 hc.2.2 q
def jA{f:Value->Sem Value}{g:Int->Int}
 (rule:∀(i:Int) (t:Tok) (s:Shared) (Q:Value->Shared->Prop) (E:Value->Shared->Prop),Q (.int (g i) s.toks) {s with toks:=s.toks+1}->wpAny (model X.prog X.w) X.A (f (.int i t)) Q E s):
 nO X f (rU λi=>.int (g i)):=by
 intro pins s σ H x v Q I rx h;obtain⟨i,rfl,q⟩:=h;obtain⟨t,rfl⟩:=rx;exact rule i t s _ _ ⟨.int (g i),H,I.tok _,⟨_,rfl⟩,q⟩
def sk:nO X (unaryOp .USub) (rU λi=>.int (-i)):=jA λ_ _ _ _ _ q=>neg_int q
end
section
variable{X:Cx}{a b c:Expr}{ta tb tc:TE}{pos:Pos}
def wN(I:Inv X pins σ H s)(q:Q (.bl k) H)(e:k=k'):EP X pins σ Q (.bool k') s:=by
 subst e;exact⟨.bl k,H,I,rfl,q⟩
def oQ:Ry X (compareOp .Lt) (DU λi j=>.bl (decide (i<j))):=Jt λ_ _ _ _ _ _ _ q=>lt_int q
def p7:Ry X (compareOp .LtE) (DU λi j=>.bl (decide (i<=j))):=Jt λ_ _ _ _ _ _ _ q=>le_int q
def qt:Ry X (compareOp .Gt) (DU λi j=>.bl (decide (j<i))):=Jt λ_ _ _ _ _ _ _ q=>gt_int q
def oJ:Ry X (compareOp .GtE) (DU λi j=>.bl (decide (j<=i))):=Jt λ_ _ _ _ _ _ _ q=>ge_int q
def SQ:Ry X (compareOp .In) (λx y H Q=>∃i j,x = .str i/\y = .str j/\Q (.bl (!(Builtin.Str.occurrences j i 0 j.length 1).isEmpty)) H):=by
 intro pins s σ H x y v u Q I rx ry h;obtain⟨i,j,rfl,rfl,q⟩:=h;obtain⟨t,rfl⟩:=rx;obtain⟨t',rfl⟩:=ry;exact in_str (wN I q rfl)
def uc:Ry X (compareOp .Is) (λx y H Q=>y = .non/\Q (.bl (decide (x = .non))) H):=by
 intro pins s σ H x y v u Q I rx ry h;obtain⟨rfl,q⟩:=h;cases ry;refine is_none_gen (wN I q ?_);cases x<;>first
  |(cases rx;rfl)
  |(obtain⟨t,rfl⟩:=rx;rfl)
def A5:Ry X (compareOp .IsNot) (λx y H Q=>y = .non/\Q (.bl (!decide (x = .non))) H):=by
 intro pins s σ H x y v u Q I rx ry h;obtain⟨rfl,q⟩:=h;cases ry;refine isnot_none_gen (wN I q ?_);cases x<;>first
  |(cases rx;rfl)
  |(obtain⟨t,rfl⟩:=rx;rfl)
def ML:Ry X (compareOp .NotIn) (λx y H Q=>∃i j,x = .str i/\y = .str j/\Q (.bl (!(!(Builtin.Str.occurrences j i 0 j.length 1).isEmpty))) H):=by
 intro pins s σ H x y v u Q I rx ry h;obtain⟨i,j,rfl,rfl,q⟩:=h;obtain⟨t,rfl⟩:=rx;obtain⟨t',rfl⟩:=ry;exact notIn_str (wN I q rfl)
def Iv(b:Expr)(h:op ≠ .In:=by decide)(h2:op ≠ .NotIn:=by decide):behindInMarks op b=false:=by
 have e1:(op==CmpOp.In)=false:=by cases op<;>first|rfl|exact absurd rfl h
 have e2:(op==CmpOp.NotIn)=false:=by cases op<;>first|rfl|exact absurd rfl h2
 cases b<;>simp[behindInMarks,e1,e2]
def Jb{op:CmpOp}{r:R2}(ho:Ry X (compareOp op) r)(ha:PE X a ta)(hb:PE X b tb)(hm:behindInMarks op b=false):PE X (.Compare a [op] [b] pos) (p3 r ta tb):=by
 intro pins s σ H Q I h;exact wpAny_Compare1 (sQ ha hb I h λv u s2 x y H2 I2 rx ry q=>ho pins s2 σ H2 x y v u Q I2 rx ry q) hm
def oE(t:TE):TT:=λσ H Q=>t σ H λx H'=>∃k,x = .bl k/\Q k H'
def Jr(ho:Ry X (compareOp op) r)(ha:PE X a ta)(hb:PE X b tb)(hm:behindInMarks op b=false):PT X (.Compare a [op] [b] pos) (oE (p3 r ta tb)):=by
 intro pins s σ H Q I h;refine wpAny_isTrue_Compare1 (wF (ha pins s σ H _ I h) λv s1 ⟨x,H1,I1,r1,q1⟩=>wF (hb pins s1 σ H1 _ I1 q1) λu s2 ⟨y,H2,I2,r2,q2⟩=>
  wF (ho pins s2 σ H2 x y v u _ I2 r1 r2 q2) λc s3 ⟨z,H3,I3,r3,k,e,q3⟩=>?_) hm
 subst e;cases r3;exact wpAny_truthy_bool ⟨H3,I3,q3⟩
def si(r r':R2)(ta tb tc:TE):TE:=λσ H Q=>ta σ H λx H1=>tb σ H1 λy H2=>r x y H2 λz H3=>∃k,z = .bl k/\
 (if k=true then tc σ H3 λw' H4=>r' y w' H4 Q else Q (.bl false) H3)
def OS(ho:Ry X (compareOp op) r)(ho':Ry X (compareOp op') r')(ha:PE X a ta)(hb:PE X b tb)(hc:PE X c tc)
 (hm:lastMarks [op,op'] [b,c]=false:=by with_unfolding_all rfl):PE X (.Compare a [op,op'] [b,c] pos) (si r r' ta tb tc):=by
 intro pins s σ H Q I h;refine Compare_chain (wF (ha pins s σ H _ I h) λv s1 ⟨x,H1,I1,r1,q1⟩=>chain_link (wF (hb pins s1 σ H1 _ I1 q1) λu s2 ⟨y,H2,I2,r2,q2⟩=>
  wF (ho pins s2 σ H2 x y v u _ I2 r1 r2 q2) λd s3 ⟨z,H3,I3,r3,k,e,q3⟩=>?_)) hm
 subst e;cases r3;refine wpAny_truthy_bool ?_;cases k with
 |false=>exact ite_ff ⟨.bl false,H3,I3,rfl,q3⟩
 |true=>exact ite_tt (chain_last (wF (hc pins s3 σ H3 _ I3 q3) λw' s4 ⟨z',H4,I4,r4,q4⟩=>ho' pins s4 σ H4 y z' u w' Q I4 r2 r4 q4))
def sH(K:zzA)(x:V)(H:Hp)(k:Bool):Prop:=
 match x with
 | .non=>k=false
 | .bl b=>k=b
 | .int i=>k=(i != 0)
 | .str y=>y.length<=sizeLine/\k=((y.length:Int) != 0)
 | .byt y=>y.size<=sizeLine/\k=((y.size:Int) != 0)
 | .ref p=>(∃xs,W0 K H p xs/\k = !xs.isEmpty)\/(∃xs,Q3 K H p xs/\k = !xs.isEmpty)\/∃kvs,H p=some (.dK kvs)/\k = !kvs.isEmpty
 |_=>False
def Br(r:KV kvs vs):(!vs.isEmpty) = !kvs.isEmpty:=by
 cases r<;>rfl
def Gp(r:zO xs its):(!its.toArray.isEmpty) = !xs.isEmpty:=by
 cases r<;>simp
def Q6:(sizeLine:Nat)<2 ^ 63:=by rw[sizeLine_eq];decide
def sE:md X (λx H Q=>∃k,sH X.K x H k/\Q k H):=by
 intro pins s σ H x v Q I rx h;obtain⟨k,e,q⟩:=h;have hl:=Q6;have hs:sizeLine=16777216:=sizeLine_eq;cases x with
 |non=>
  cases rx;have e':k=false:=e;subst e';exact truthy_none ⟨H,I,q⟩
 |bl b=>
  cases rx;have e':k=b:=e;subst e';exact wpAny_truthy_bool ⟨H,I,q⟩
 |int i=>
  obtain⟨t,rfl⟩:=rx;have e':k=(i != 0):=e;subst e';exact PySem.P.truthy_int ⟨H,I,q⟩
 |str y=>
  obtain⟨t,rfl⟩:=rx;obtain⟨hy,e'⟩:y.length<=sizeLine/\k=((y.length:Int) != 0):=e;subst e';exact PySem.P.truthy_str (by omega) ⟨H,I.tok _,q⟩
 |byt y=>
  obtain⟨t,rfl⟩:=rx;obtain⟨hy,e'⟩:y.size<=sizeLine/\k=((y.size:Int) != 0):=e;subst e';exact PySem.W.truthy_bytes (by omega) ⟨H,I.tok _,q⟩
 |ref p=>
  cases rx;have e':(∃xs,W0 X.K H p xs/\k = !xs.isEmpty)\/(∃xs,Q3 X.K H p xs/\k = !xs.isEmpty)\/∃kvs,H p=some (.dK kvs)/\k = !kvs.isEmpty:=e
  rcases e' with⟨xs,hx,e'⟩|⟨xs,hx,e'⟩|⟨kvs,hx,e'⟩
  . subst e';obtain⟨its,r,pl,hz⟩:=I.list hx;have hlen:=r.length;exact wpAny_truthy_list pl.isList (by simp only[zzH];omega) ⟨H,I.tok _,by rw[Gp r];exact q⟩
  . subst e';obtain⟨its,r,pl,hz⟩:=I.tuple hx;have hlen:=r.length;exact truthy_tuple pl (by simp only[zzH];omega) ⟨H,I.tok _,by rw[Gp r];exact q⟩
  . subst e';obtain⟨hz,hS,vs,r,m⟩:kvs.length<=sizeLine/\(p==sysModules)=false/\∃vs,KV kvs vs/\s.heap.DictOf (wo X.prog X.w) p vs:=I.hok p _ hx;have hlen:kvs.length=vs.length:=Paired.length r;exact wpAny_truthy_dict hS m (by omega) ⟨H,I.tok _,by rw[Br r];exact q⟩
 |_=>exact(show False from e).elim
def Ii(ha:PE X a ta)(he:∀whole,isTrue a X.env whole=(do let v <-whole;standAt a.pos;holding [v] (truthy v))):
 PT X a (λσ H Q=>ta σ H λx H'=>∃k,sH X.K x H' k/\Q k H'):=by
 intro pins s σ H Q I h;exact isTrue_plain (wF (ha pins s σ H _ I h) λv s1 ⟨x,H1,I1,r1,q1⟩=>sE pins s1 σ H1 x v Q I1 r1 q1) (he _)
def Bi:Ry X (binaryOp .Add) (λx y H Q=>∃i j,x = .str i/\y = .str j/\i.length+j.length<=sizeLine/\Q (.str (i++j)) H):=by
 intro pins s σ H x y v u Q I rx ry h;obtain⟨i,j,rfl,rfl,hz,q⟩:=h;obtain⟨t,rfl⟩:=rx;obtain⟨t',rfl⟩:=ry;exact add_str (λt' tk=>⟨.str (i++j),H,I.tok _,⟨_,rfl⟩,q⟩) hz
def vals1(r:zO [x] us):∃u,us=[u]/\RelV x u:=by
 cases r with
 |cons r1 r2=>cases r2;exact⟨_,rfl,r1⟩
def vals2(r:zO [x,y] us):∃u w',us=[u,w']/\RelV x u/\RelV y w':=by
 cases r with
 |cons r1 r2=>
  cases r2 with
  |cons r3 r4=>cases r4;exact⟨_,_,rfl,r1,r3⟩
def SN(hc:X.calm=true):XO X (.builtin "max") (λxs H Q=>∃i j,xs=[.int i,.int j]/\Q (.int (if j > i then j else i)) H):=by
 intro pins s σ H xs us Q I r h;obtain⟨i,j,rfl,q⟩:=h;obtain⟨u,w',rfl,⟨t,rfl⟩,⟨t',rfl⟩⟩:=vals2 r;refine max_two_ints (I.ok.hd hc) λh' tk k=>⟨_,H,I.kept k, ?_,q⟩
 by_cases hj:j > i
 . rw[if_pos hj,if_pos hj];exact⟨_,rfl⟩
 . rw[if_neg hj,if_neg hj];exact⟨_,rfl⟩
def S9(hc:X.calm=true):XO X (.builtin "min") (λxs H Q=>∃i j,xs=[.int i,.int j]/\Q (.int (if j<i then j else i)) H):=by
 intro pins s σ H xs us Q I r h;obtain⟨i,j,rfl,q⟩:=h;obtain⟨u,w',rfl,⟨t,rfl⟩,⟨t',rfl⟩⟩:=vals2 r;refine min_two_ints (I.ok.hd hc) λh' tk k=>⟨_,H,I.kept k, ?_,q⟩
 by_cases hj:j<i
 . rw[if_pos hj,if_pos hj];exact⟨_,rfl⟩
 . rw[if_neg hj,if_neg hj];exact⟨_,rfl⟩
def Nn:XO X (.type "int") (λxs H Q=>(∃i,xs=[.int i]/\Q (.int i) H)\/∃k,xs=[.bl k]/\Q (.int (if k then 1 else 0)) H):=by
 intro pins s σ H xs us Q I r h
 rcases h with⟨i,rfl,q⟩|⟨k,rfl,q⟩
 . obtain⟨u,rfl,t,rfl⟩:=vals1 r;exact call_int_int ⟨.int i,H,I,⟨_,rfl⟩,q⟩
 . obtain⟨u,rfl,r1⟩:=vals1 r;cases r1;exact call_int_bool ⟨.int (if k then 1 else 0),H,I.tok _,⟨_,rfl⟩,q⟩
def n3(K:zzA)(x:V)(H:Hp)(n:Nat):Prop:=
 match x with
 | .str y=>y.length<=sizeLine/\n=y.length
 | .byt y=>y.size<=sizeLine/\n=y.size
 | .ref p=>(∃xs,W0 K H p xs/\n=xs.length)\/∃xs,Q3 K H p xs/\n=xs.length
 |_=>False
def OX:XO X (.builtin "len") (λxs H Q=>∃x n,xs=[x]/\n3 X.K x H n/\Q (.int n) H):=by
 intro pins s σ H xs us Q I r h;obtain⟨x,n,rfl,e,q⟩:=h;obtain⟨u,rfl,rx⟩:=vals1 r;have hl:=Q6;have hs:sizeLine=16777216:=sizeLine_eq;cases x with
 |str y=>
  obtain⟨t,rfl⟩:=rx;obtain⟨hy,e'⟩:y.length<=sizeLine/\n=y.length:=e;subst e';exact len_str (by omega) ⟨.int _,H,I.tok _,⟨_,rfl⟩,q⟩
 |byt y=>
  obtain⟨t,rfl⟩:=rx;obtain⟨hy,e'⟩:y.size<=sizeLine/\n=y.size:=e;subst e';exact PySem.W.len_bytes (by omega) ⟨.int _,H,I.tok _,⟨_,rfl⟩,q⟩
 |ref p=>
  cases rx;have e':(∃xs,W0 X.K H p xs/\n=xs.length)\/∃xs,Q3 X.K H p xs/\n=xs.length:=e
  rcases e' with⟨xs,hx,e'⟩|⟨xs,hx,e'⟩
  . subst e';obtain⟨its,r',pl,hz⟩:=I.list hx;have hlen:=r'.length;exact Calls.call_len_list pl.isList (by simp only[zzH];omega) ⟨.int xs.length,H,I.tok _,⟨_,by simp only[zzH];rw[hlen]⟩,q⟩
  . subst e';obtain⟨its,r',pl,hz⟩:=I.tuple hx;have hlen:=r'.length;exact len_tuple pl (by simp only[zzH];omega) ⟨.int xs.length,H,I.tok _,⟨_,by simp only[zzH];rw[hlen]⟩,q⟩
 |_=>exact(show False from e).elim
def E5:XO X (.builtin "divmod") (λxs H Q=>∃i j,xs=[.int i,.int j]/\mw i j/\∀p,H p=none->Q (.ref p) (upd H p (.tup [.int (i/j),.int (i%j)]))):=by
 intro pins s σ H xs us Q I r h;obtain⟨i,j,rfl,⟨h1,h2⟩,q⟩:=h;obtain⟨u,w',rfl,⟨t,rfl⟩,⟨t',rfl⟩⟩:=vals2 r;refine divmod_int (by omega) ?_ (.inl (PyProof.noPylong_small (by omega)));rw[Int.fdiv_eq_ediv_of_nonneg i (by omega),Int.fmod_eq_emod_of_nonneg i (by omega)];have hn:H s.heap.objs.size=none:=I.hok.fresh (zzN _);refine⟨.ref s.heap.objs.size,_, ?_,rfl,q _ hn⟩;refine I.laid (λb o e=>zxH _ e) (zzN _) ⟨by simp only[zzT,List.length_nil];rw[sizeLine_eq];decide,[.int (i/j) s.toks,.int (i%j) (s.toks+1)],.cons ⟨_,rfl⟩ (.cons ⟨_,rfl⟩ .nil), ?_⟩;exact⟨_,zxJ s.heap rfl,rfl,0,rfl⟩
end
end L2
namespace L2
open PySem PySem.Spec PyProof.Rows
structure ObjM(h:Heap)(x dx C:Addr)(mA:Str->Option Value):Prop where
 obj:h.get? x=some (PySem.W.instObj C dx)
 ns:h.Ns1 dx mA
 ne:dx≠x
def Sy{h:Heap}{dx:Addr}{mA:Str->Option Value}(n:h.Ns1 dx mA):∃od,h.get? dx=some od/\∀name,PySem.W.lookIn name od=some (mA name):=by
 obtain⟨o,es,ep,ho,hd,hk,_,hm⟩:=n;refine⟨o,ho,λname=>?_⟩;have e:=hm name;unfold nsFind findBy at e;rw[<-Array.find?_toList]at e;unfold PySem.W.lookIn;rw[hd];dsimp only
 split
 . rename_i y q;rw[q]at e;exact congrArg some e
 . rename_i q;rw[q]at e;have a:es.toList.any (·.refKey)=false:=by
    rw[List.any_eq_false];intro y hy;obtain⟨z,t,hkey⟩:=hk y (Array.mem_toList_iff.mp hy);simp[DictEntry.refKey,hkey]
   have a':¬es.toList.any (·.refKey)=true:=by rw[a];exact zyV
   rw[if_neg a'];exact congrArg some e
def ObjM.look(I:ObjM h x dx C mA):∃od,PySem.W.InstAt h x (PySem.W.instObj C dx) C (some od)/\∀name,PySem.W.lookIn name od=some (mA name):=
 let⟨od,ho,hl⟩:=Sy I.ns
 ⟨od,⟨I.obj,rfl,rfl,ho⟩,hl⟩
section
variable{prog:Program}{w:World}{A:Around}{E:Value->Shared->Prop}{s:Shared}{K:zzA}{x dx C f:Addr}{mA:Str->Option Value}{name:Str}{v:Value}
def Ju(X:K.In s.heap)(I:ObjM s.heap x dx C mA)(hg:PySem.W.plainGet K C name=true)(hh:PySem.W.hasDictIn K C=true)
 (ha:PySem.W.findIn K (.ref C) name=some none) (hv:mA name=some v) (hv':PySem.W.handedIn v=true) (h:Q v {s with toks:=s.toks+1}):
 wpAny (model prog w) A (getAttr (.ref x) name expr) Q E s:=by
 obtain⟨od,J,hl⟩:=I.look;exact PySem.W.get_value X J (PySem.W.plainGet_of hg).1 (PySem.W.findObj_own hh ha rfl (by rw[hl,hv])) hv' h
def Cq(X:K.In s.heap)(I:ObjM s.heap x dx C mA)(hg:PySem.W.plainGet K C name=true)
 (hf:PySem.W.findIn K (.ref C) name=some (some (.ref f))) (ht:PySem.W.isFn K (.ref f)=true) (hv:mA name=none) (h:Q (.ref f,[.ref x]) s):
 wpAny (model prog w) A (getMethod (.ref x) name pl) Q E s:=by
 obtain⟨od,J,hl⟩:=I.look;exact PySem.W.method_fn X J (PySem.W.plainGet_of hg).1 (PySem.W.plainGet_of hg).2 hf (beq_iff_eq.mp ht) (by show(PySem.W.lookIn name od).map (·.isSome)=some false;rw[hl,hv];rfl) h
def JK(X:K.In s.heap)(I:ObjM s.heap x dx C mA)
 (hs:PySem.W.findIn K (.ref C) "__setattr__"=some (some (.builtin "object.__setattr__"))) (hp:PySem.W.plainOver K C=true) (ht:PySem.W.takerIn K C name=some none) (hh:PySem.W.hasDictIn K C=true)
 (hw:PySem.Within mA ns) (hsz:ns.length<=sizeLine)
 (h:∀h',ObjM h' x dx C (λy=>if y=name then some v else mA y)->Heap.SameBut dx s.heap h'->Q () {s with heap:=h',toks:=s.toks+2}):
 wpAny (model prog w) A (setAttr (.ref x) name v) Q E s:=by
 obtain⟨od,J,hl⟩:=I.look;refine PySem.W.set_plain X J hs (PySem.W.osa_open (s:={s with toks:=s.toks+1}) (r:=none) X J hp ht λb=>?_);obtain⟨cd,hc,hd'⟩:=PySem.W.any_some hh;have hx:s.heap.get? x=some ⟨.ref C,some dx,.plain,#[]⟩:=I.obj;refine zxF (zxG (zxF (zxF (wpAny_loadPart hx (zxF (PySem.W.Looks.here (s:={s with toks:=s.toks+1}) (PySem.W.looks_clsIn X hc) ?_))))));rw[hd'];refine zxG (a:=some dx) (zxF (zxG (zxF ?_)));refine wpAny_nsSet1 (s:={s with toks:=s.toks+1}) I.ns λh' hn2 hs2=>?_;obtain⟨oD,esD,epD,hoD,hdD,hcD⟩:=hn2.count (PySem.Within.cons name v hw);refine zxF (wpAny_lookBehind hoD (by rw[hdD];exact pastItsLine_dict (zzO hcD (by rw[zzT];omega))) ?_);exact zxG (h _ ⟨(hs2.2 _ (Ne.symm I.ne)).trans I.obj,hn2,I.ne⟩ hs2)
def OZ(X:K.In s.heap)(hm:PySem.W.makesIn K C=true)
 (hi:PySem.W.findIn K (.ref C) "__init__"=some (some (.ref f))) (hf:PySem.W.typeIn K (.ref f)=some (.type "function"))
 (h:codeAny (model prog w) (A.under (.builtin "type.__call__" ⟨.ref C::vs,kw⟩)) (.call (.ref f) ⟨.ref (s.heap.objs.size+1)::vs,kw⟩) (PySem.W.InitBack (s.heap.objs.size+1) R)
  {s with heap:=(s.heap.push PySem.W.emptyDict).push (PySem.W.instObj C s.heap.objs.size)}):
 codeAny (model prog w) A (.call (.ref C) ⟨vs,kw⟩) R s:=by
 obtain⟨hh,g,d,t,os⟩:=s;exact PySem.W.make_core (PySem.W.makes_of X hm) (PySem.W.looks_findIn X hi) (λself=>PySem.W.bind_fn X self hf) (.inl rfl) h
end
noncomputable def Vm(f:Str)(v:V):List (Str×V)->List (Str×V)
 | []=>[(f,v)]
 |(g,x)::r=>if g=f then(g,v)::r else(g,x)::Vm f v r
theorem PY(f g:Str)(v:V):∀fs:List (Str×V),(Vm f v fs).lookup g=if g=f then some v else fs.lookup g
 | []=>by
  show List.lookup g [(f,v)]=_
  by_cases h:g=f
  . have hb:(g==f)=true:=beq_iff_eq.mpr h;simp only[List.lookup,hb,if_pos h]
  . have hb:(g==f)=false:=beq_eq_false_iff_ne.mpr h;simp only[List.lookup,hb,if_neg h]
 |(k,x)::r=>by
  have ih:=PY f g v r;rw[show Vm f v ((k,x)::r)=(if k=f then(k,v)::r else(k,x)::Vm f v r)from rfl]
  by_cases hk:k=f
  . rw[if_pos hk]
    by_cases h:g=k
    . have hb:(g==k)=true:=beq_iff_eq.mpr h;simp only[List.lookup,hb,if_pos (h.trans hk)]
    . have hb:(g==k)=false:=beq_eq_false_iff_ne.mpr h;simp only[List.lookup,hb,if_neg (λe:g=f=>h (e.trans hk.symm))]
  . rw[if_neg hk]
    by_cases h:g=k
    . have hb:(g==k)=true:=beq_iff_eq.mpr h;simp only[List.lookup,hb,if_neg (λe:g=f=>hk (h.symm.trans e))]
    . have hb:(g==k)=false:=beq_eq_false_iff_ne.mpr h;simp only[List.lookup,hb];exact ih
theorem Pc(f:Str)(v:V):∀fs:List (Str×V),f ∈ (Vm f v fs).map (·.1)/\∀g,g ∈ fs.map (·.1)->g ∈ (Vm f v fs).map (·.1)
 | []=>⟨by simp[Vm],λg h=>by simp at h⟩
 |(k,x)::r=>by
  obtain⟨i1,i2⟩:=Pc f v r;rw[show Vm f v ((k,x)::r)=(if k=f then(k,v)::r else(k,x)::Vm f v r)from rfl]
  by_cases hk:k=f
  . rw[if_pos hk];subst hk;exact⟨by simp,λg h=>by simpa using h⟩
  . rw[if_neg hk];refine⟨?_,λg h=>?_⟩
    . rw[zyS];exact zzD _ i1
    . rw[zyS]at h ⊢
      rcases zzC.mp h with e|e
      . exact zzC.mpr (.inl e)
      . exact zzD _ (i2 g e)
theorem Ta(f:Str)(v:V):∀fs:List (Str×V),(Vm f v fs).length<=fs.length+1
 | []=>by simp[Vm]
 |(k,x)::r=>by
  have ih:=Ta f v r;rw[show Vm f v ((k,x)::r)=(if k=f then(k,v)::r else(k,x)::Vm f v r)from rfl]
  by_cases hk:k=f
  . rw[if_pos hk,zzT,zzT];omega
  . rw[if_neg hk,zzT,zzT];omega
def UD.some_of(r:UD (some v) o):∃u,o=some u/\RelV v u:=by
 cases o with
 |none=>exact(show False from r).elim
 |some u=>exact⟨u,rfl,r⟩
def UD.none_of(r:UD none o):o=none:=by
 cases o with
 |none=>rfl
 |some u=>exact(show False from r).elim
def SK(r:RelV v u):PySem.W.handedIn u=true:=by
 cases v with
 |non=>cases(show u=Value.none from r);rfl
 |bl b=>cases(show u=Value.bool b from r);rfl
 |int i=>obtain⟨t,e⟩:=(show ∃t,u=Value.int i t from r);cases e;rfl
 |str x=>obtain⟨t,e⟩:=(show ∃t,u=Value.str x t from r);cases e;rfl
 |byt b=>obtain⟨t,e⟩:=(show ∃t,u=Value.bytes b t from r);cases e;rfl
 |flt b=>obtain⟨t,e⟩:=(show ∃t,u=Value.float b t from r);cases e;rfl
 |ref a=>cases(show u=Value.ref a from r);rfl
 |ty n=>cases(show u=Value.type n from r);rfl
section
variable{P:Program}{w:World}{H H':Hp}{h h':Heap}{a C dx:Addr}{fs fs':List (Str×V)}
def MU(hok:PL P w H h)(e:H a=some (.ins C dx fs)):∃mA,ObjM h a dx C mA/\(∀f,UD (fs.lookup f) (mA f))/\PySem.Within mA (fs.map (·.1))/\fs.length<=1000/\H dx=some (.own a):=by
 obtain⟨d,z,ne,ob,mA,n,r,q⟩:=(show w9 P w H h a (.ins C dx fs)from hok a _ e);exact⟨mA,⟨ob,n,ne⟩,r,q,z,d⟩
end
structure Cls(K:zzA)(C:Addr):Prop where
 pg:PySem.W.plainGet K C Str.empty=true
 hd:PySem.W.hasDictIn K C=true
 po:PySem.W.plainOver K C=true
 sa:PySem.W.findIn K (.ref C) "__setattr__"=some (some (.builtin "object.__setattr__"))
def Cls.get{K:zzA}{C:Addr}(c:Cls K C)(f:Str):PySem.W.plainGet K C f=true:=c.pg
def yT(K:zzA)(C:Addr)(f:Str):Prop:=PySem.W.findIn K (.ref C) f=some none
def yT.taker{K:zzA}{C:Addr}{f:Str}(n:yT K C f):PySem.W.takerIn K C f=some none:=by
 unfold PySem.W.takerIn;rw[show PySem.W.findIn K (.ref C) f=some none from n];rfl
structure Con(K:zzA)(C:Addr)(f:Str)(v:V)(u:Value):Prop where
 at_:PySem.W.findIn K (.ref C) f=some (some u)
 rel:RelV v u
 get:PySem.W.specialIn K u "__get__"=some none
 cp:PySem.W.copiedNames.contains f=false
structure Meth(K:zzA)(C:Addr)(m:Str)(f:Addr):Prop where
 at_:PySem.W.findIn K (.ref C) m=some (some (.ref f))
 fn:PySem.W.isFn K (.ref f)=true
 kp:PySem.W.keepIn K (.ref f)=true
section
variable{X:Cx}{pins:List (Addr×Obj)}{σ:St}{H:Hp}{s:Shared}{a C dx:Addr}{fs:List (Str×V)}{f:Str}{v:V}{A:Around}{E:Value->Shared->Prop}
def FO(I:Inv X pins σ H s)(e:H a=some (.ins C dx fs))(c:Cls X.K C)(n:yT X.K C f)(l:fs.lookup f=some v)
 (h:∀u s',Inv X pins σ H s'->RelV v u->Q u s'):wpAny (model X.prog X.w) A (getAttr (.ref a) f b) Q E s:=by
 obtain⟨mA,O,r,_,_,_⟩:=MU I.hok e;obtain⟨u,hu,ru⟩:=UD.some_of (v:=v) (o:=mA f) (by rw[<-l];exact r f);exact Ju I.kIn O (c.get f) c.hd n hu (SK ru) (h u _ (I.tok _) ru)
def Fk(I:Inv X pins σ H s)(e:H a=some (.ins C dx fs))(c:Cls X.K C)(k:Meth X.K C m g)(l:fs.lookup m=none)
 (h:Q (.ref g,[.ref a]) s):wpAny (model X.prog X.w) A (getMethod (.ref a) m pl) Q E s:=by
 obtain⟨mA,O,r,_,_,_⟩:=MU I.hok e;have hn:mA m=none:=UD.none_of (by rw[<-l];exact r m);exact Cq I.kIn O (c.get m) k.at_ k.fn hn h
def Fm(I:Inv X pins σ H s)(e:H a=some (.ins C dx fs))(c:Cls X.K C)(n:yT X.K C f)(hl:fs.length<1000)(ry:RelV y u)
 (h:∀s',Inv X pins σ (upd H a (.ins C dx (Vm f y fs))) s'->Q () s'):wpAny (model X.prog X.w) A (setAttr (.ref a) f u) Q E s:=by
 obtain⟨mA,O,r,wi,_,ho⟩:=MU I.hok e;have hz:(fs.map (·.1)).length<=sizeLine:=by rw[zzB,sizeLine_eq];omega
 refine JK I.kIn O c.sa c.po n.taker c.hd wi hz λh' O' sb=>h _ ?_;have hd:∃o,h'.get? dx=some o:=let⟨o,_,_,e',_⟩:=O'.ns;⟨o,e'⟩;refine I.write (x:=a) (e:=dx) (by rw[e];exact True.intro) (.inr ho) (λb q hb z=>(sb.2 b hb).trans z) hd ?_;refine⟨by rw[zF O.ne];exact ho, ?_,O.ne,O'.obj,_,O'.ns,λg=>?_,λg hg=>?_⟩
 . have:=Ta f y fs;omega
 . show UD ((Vm f y fs).lookup g) (if g=f then some u else mA g);rw[PY]
   by_cases q:g=f
   . rw[if_pos q,if_pos q];exact ry
   . rw[if_neg q,if_neg q];exact r g
 . by_cases q:g=f
   . rw[q];exact(Pc f y fs).1
   . refine(Pc f y fs).2 g (wi g λz=>hg ?_);show(if g=f then some u else mA g)=none;rw[if_neg q];exact z
def Inv.made(I:Inv X pins σ H s):Inv X pins σ (upd (upd H s.heap.objs.size (.own (s.heap.objs.size+1))) (s.heap.objs.size+1) (.ins C s.heap.objs.size []))
 {s with heap:=(s.heap.push PySem.W.emptyDict).push (PySem.W.instObj C s.heap.objs.size)}:=by
 have e1:(s.heap.push PySem.W.emptyDict).get? s.heap.objs.size=some PySem.W.emptyDict:=zxJ s.heap rfl;have e2:((s.heap.push PySem.W.emptyDict).push (PySem.W.instObj C s.heap.objs.size)).get? (s.heap.objs.size+1)=some (PySem.W.instObj C s.heap.objs.size):=by
  have:=zxJ (s.heap.push PySem.W.emptyDict) (o:=PySem.W.instObj C s.heap.objs.size) rfl
  rwa [zxM]at this
 have e3:(s.heap.push PySem.W.emptyDict).Ns s.heap.objs.size (λ_=>none):=⟨PySem.W.emptyDict,#[],_,e1,rfl,(λe he=>absurd he (by simp)),λ_=>rfl⟩;have I1:=I.laid (a:=s.heap.objs.size) (o:=.own (s.heap.objs.size+1)) (h':=s.heap.push PySem.W.emptyDict) (t':=s.toks) (λb u q=>zxH _ q) (zzN _) ⟨_,e1⟩;refine I1.laid (a:=s.heap.objs.size+1) (o:=.ins C s.heap.objs.size []) (t':=s.toks) (λb u q=>zxH _ q) (Nat.le_of_eq (zxM _ _)) ?_;have ne:s.heap.objs.size≠s.heap.objs.size+1:=zzQ (Nat.lt_succ_self _);refine⟨by rw[zF ne,ya],Nat.zero_le _,ne,e2,λ_=>none,(Heap.Ns1.of_empty e3).at λo q=>zxH _ q,λ_=>True.intro,λy hy=>absurd rfl hy⟩
def Jx(hb:attributeBase e f env (eval e env)=eval e env)
 (h:wpAny (model prog w) A (eval e env) (λo s₁=>wpAny (model prog w) A (getAttr o f true) Q E s₁) E s):wpAny (model prog w) A (eval (.Attribute e f pos) env) Q E s:=
 Attribute_any_ h (by rw[arm_eval_Attribute,hb])
end
def nY(K:zzA)(ta:TE)(f:Str):TE:=λσ H Q=>ta σ H λx H1=>∃a C dx fs v,x = .ref a/\H1 a=some (.ins C dx fs)/\Cls K C/\yT K C f/\fs.lookup f=some v/\Q v H1
def mv(K:zzA)(ta tv:TE)(f:Str):TS:=λD σ H=>tv σ H λy H1=>ta σ H1 λx H2=>∃a C dx fs,x = .ref a/\H2 a=some (.ins C dx fs)/\Cls K C/\yT K C f/\fs.length<1000/\
 D.nx σ (upd H2 a (.ins C dx (Vm f y fs)))
section
variable{X:Cx}{o e value:Expr}{f:Str}{pos pos' tpos:Pos}{ta tv:TE}
def NL(he:PE X e ta)(hb:attributeBase e f X.env (eval e X.env)=eval e X.env):PE X (.Attribute e f pos) (nY X.K ta f):=by
 intro pins s σ H Q I h;refine Jx hb (wF (he pins s σ H _ I h) λu s1 ⟨x,H1,I1,rx,a,C,dx,fs,v,ex,ea,c,n,l,q⟩=>?_);subst ex;obtain rfl:u=Value.ref a:=rx;exact FO I1 ea c n l λu' s2 I2 ru=>⟨v,H1,I2,ru,q⟩
def Ou(ha:PE X o ta)(hv:PE X value tv)(hs:swapsWith value (some (.Attribute o f pos')) pos.line X.env=pure false):PS X (.Assign [.Attribute o f pos'] value pos) (mv X.K ta tv f):=by
 intro pins s σ H D I h;refine plainObj_wpAny_Assign_Attribute (wF (hv pins s σ H _ I h) λu s1 ⟨y,H1,I1,ry,q⟩=>wF (ha pins s1 σ H1 _ I1 q) λov s2 ⟨x,H2,I2,rx,a,C,dx,fs,ex,ea,c,n,l,q2⟩=>?_) hs;subst ex;obtain rfl:ov=Value.ref a:=rx;exact Fm I2 ea c n l ry λs3 I3=>⟨σ,_,I3,q2⟩
end
section
variable{X:Cx}{pins:List (Addr×Obj)}{σ:St}{H:Hp}{s:Shared}{A:Around}{E:Value->Shared->Prop}{Q:Value->Shared->Prop}{c:Value}{b:Bool}
inductive TyOf(K:zzA)(H:Hp):V->Value->Prop where
 |non:TyOf K H .non (.type "NoneType")
 |bl (x:Bool):TyOf K H (.bl x) (.type "bool")
 |int (i:Int):TyOf K H (.int i) (.type "int")
 |str (x:Str):TyOf K H (.str x) (.type "str")
 |flt (x:UInt64):TyOf K H (.flt x) (.type "float")
 |lst {a:Addr}{xs:List V}(e:H a=some (.lst xs)):TyOf K H (.ref a) (.type "list")
 |frz {a:Addr}{o:Obj}{xs:List V}(e:H a=some (.frz o (.lst xs))):TyOf K H (.ref a) (.type "list")
 |tup {a:Addr}{xs:List V}(e:H a=some (.tup xs)):TyOf K H (.ref a) (.type "tuple")
 |dK {a:Addr}{kvs:List (Key×V)}(e:H a=some (.dK kvs)):TyOf K H (.ref a) (.type "dict")
 |dT {a:Addr}{kvs:List (List Key×V)}(e:H a=some (.dT kvs)):TyOf K H (.ref a) (.type "dict")
 |ins {a C dx:Addr}{fs:List (Str×V)}(e:H a=some (.ins C dx fs)) (cl:Cls K C) (ha:PySem.W.findIn K (.ref C) "__class__"=some (some (.builtin "object.__class__")))
  (hn:PySem.W.specialIn K (.builtin "object.__class__") "__get__"=some (some (.builtin "getset_descriptor.__get__"))) (htk:PySem.W.takesIn K (.builtin "object.__class__")=some true)
  (hm:PySem.W.mroIn K C (.type "object")=some true):TyOf K H (.ref a) (.ref C)
end
end L2
namespace L2
open PySem PySem.Spec PyProof.Rows
structure Room(k:Nat)(A:Around):Prop where
 hd:A.handled=none
 dp:A.depth+3*k+5<recursionLimit
 un:A.units+16*k+200<cLine
 gd:A.guards=some []
def Room.mono(r:Room k A)(h:j<=k):Room j A:=⟨r.hd,by have:=r.dp;omega,by have:=r.un;omega,r.gd⟩
theorem Room.deeper(r:Room (k+1) A)(env:Env):Room k (A.deeper env):=
 ⟨r.hd,by have:=r.dp;show A.depth+1+3*k+5<_;omega,by have:=r.un;show A.units+3+16*k+200<_;omega,r.gd⟩
def FT{A:Around}{C:Addr}{us:List Value}{kw:List (Str×Value)}:(A.under (.builtin "type.__call__" ⟨.ref C::us,kw⟩)).depth=A.depth+1:=by
 first|rfl|simp[Around.under,Code.weight,Code.isCreation,Code.isGuard,Code.isCaller,Code.frames,Code.isFrame,guardIds]
def Fv{A:Around}{C:Addr}{us:List Value}{kw:List (Str×Value)}:(A.under (.builtin "type.__call__" ⟨.ref C::us,kw⟩)).units=A.units+1:=by
 first|rfl|simp[Around.under,Code.cUnits,Code.frames,Code.isFrame]
def M4{A:Around}{C:Addr}{us:List Value}{kw:List (Str×Value)}:(A.under (.builtin "type.__call__" ⟨.ref C::us,kw⟩)).guards=A.guards:=by
 first|rfl|simp[Around.under,Code.guards,Code.isGuard,guardIds,PySem.pushGuards]
def Room.make{k:Nat}{A:Around}(r:Room (k+1) A)(C:Addr)(us:List Value)(kw:List (Str×Value)):Room k (A.under (.builtin "type.__call__" ⟨.ref C::us,kw⟩)):=
 ⟨r.hd,by have:=r.dp;rw[FT];omega,by have:=r.un;rw[Fv];omega,by rw[M4];exact r.gd⟩
theorem Room.depth(r:Room k A):A.depth<recursionLimit:=by have:=r.dp;omega
def pU:TA:=λ_ H Q=>Q [] H
def DQ(ta:TE)(tr:TA):TA:=λσ H Q=>ta σ H λx H1=>tr σ H1 λxs H2=>Q (x::xs) H2
section
variable{X:Cx}{e:Expr}{es:List Expr}{te:TE}{t:TA}{pos:Pos}
def Rq:PA X [] pU:=λ_ _ _ _ H Q I h=>Calls.spliced_nil ⟨[],H,I,.nil,h⟩
def WH(ha:PE X e te)(hr:PA X es t)(hs:starEach (e::es) X.env=(false,eval e X.env)::starEach es X.env:=by rfl):PA X (e::es) (DQ te t):=by
 intro pos pins s σ H Q I h;rw[hs];show wpAny _ _ (spliced ((false,eval e X.env)::backTo pos (starEach es X.env))) _ _ s;refine Calls.spliced_cons (wF (ha pins s σ H _ I h) λu s1 ⟨x,H1,I1,r1,q1⟩=>?_);exact wF (hr pos pins s1 σ H1 _ I1 q1) λus s2 ⟨xs,H2,I2,r2,q2⟩=>⟨x::xs,H2,I2,.cons r1 r2,q2⟩
def lM(t:TA):TE:=λσ H Q=>t σ H λxs H1=>xs.length<=sizeLine/\∀p,H1 p=none->Q (.ref p) (upd H1 p (.tup xs))
def lC(t:TA):TE:=λσ H Q=>t σ H λxs H1=>xs.length<=sizeLine/\∀p,H1 p=none->Q (.ref p) (upd H1 p (.lst xs))
def uy(h:PA X es t):PE X (.Tuple es x1 pos) (lM t):=by
 intro pins s σ H Q I hq;refine wpAny_Tuple_spliced (wF (h pos pins s σ H _ I hq) λus s1 ⟨xs,H1,I1,r,z,q⟩=>⟨by rw[<-r.length];exact z, ?_⟩);have hf:H1 s1.heap.objs.size=none:=I1.hok.fresh (zzN _);refine⟨.ref s1.heap.objs.size,upd H1 s1.heap.objs.size (.tup xs),I1.laid (t':=s1.toks) (λb u e=>zxH _ e) (zzN _) ?_,rfl,q _ hf⟩;exact⟨z,us,r,⟨_,zxJ _ rfl,rfl,_,rfl⟩⟩
def rd(h:PA X es t):PE X (.List es pos) (lC t):=by
 intro pins s σ H Q I hq;refine wpAny_List_spliced (wF (h pos pins s σ H _ I hq) λus s1 ⟨xs,H1,I1,r,z,q⟩=>⟨by rw[<-r.length];exact z, ?_⟩);have hf:H1 s1.heap.objs.size=none:=I1.hok.fresh (zzN _);refine⟨.ref s1.heap.objs.size,upd H1 s1.heap.objs.size (.lst xs),I1.laid (t':=s1.toks) (λb u e=>zxH _ e) (zzN _) ?_,rfl,q _ hf⟩;exact⟨z,us,0,r,zxJ _ rfl⟩
end
abbrev Sp:=List V->Hp->VK->XK->Prop
abbrev HG:=List Env->Hp->Shared->XK->Value->Shared->Prop
structure Env0(P:Program)(w:World)(K:zzA)(mg:Str->Option Value)(base:Heap)(A:Around)(outer:List Env)(s:Shared)(H:Hp):Prop where
 frames:A.frames=some outer
 mod:Mod K mg base
 bs:∀b o,base.get? b=some o->s.heap.get? b=some o/\H b=none
 bsz:base.objs.size<=s.heap.objs.size
 funs:s.heap.FunFrames base outer
 frf:∀b ∈ HH outer,H b=none
 hok:PL P w H s.heap
 bare:AllBare s.gens
def CE(outer:List Env)(P:Program)(w:World)(H:Hp)(s:Shared)(Q:VK)(u:Value)(s':Shared):Prop:=
 ∃v H',s'.os=s.os/\AllBare s'.gens/\Un (HH outer) [] H H' s.heap s'.heap/\PL P w H' s'.heap/\RelV v u/\Q v H'
def CR(CX:HG)(outer:List Env)(P:Program)(w:World)(H:Hp)(s:Shared)(Q:VK)(E:XK)(r:Result)(s':Shared):Prop:=
 match r with
 | .ok (.ret u)=>CE outer P w H s Q u s'
 | .ok _=>False
 | .error e=>CX outer H s E e s'
structure FnOk(P:Program)(w:World)(K:zzA)(mg:Str->Option Value)(base:Heap)(CX:HG)(k:Nat)(f:Addr)(fd:FuncData)(ps:List Str)(sp:Sp):Prop where
 len:∀vs H Q E,sp vs H Q E->vs.length=ps.length
 run:∀(A:Around) (outer:List Env) (s:Shared) (H:Hp) (args:Args) (us:List Value) (vs:List V) (Q:VK) (E:XK),Room k A->Env0 P w K mg base A outer s H->BindsTo s fd args (ps.zip us)->zO vs us->sp vs H Q E->
  codeAny (model P w) A (.call (.ref f) args) (CR CX outer P w H s Q E) s
def FnOk.imp{P:Program}{w:World}{K:zzA}{mg:Str->Option Value}{base:Heap}{CX:HG}{k:Nat}{f:Addr}{fd:FuncData}{ps:List Str}{sp sp':Sp}(F:FnOk P w K mg base CX k f fd ps sp)
 (h:∀vs H Q E,sp' vs H Q E->sp vs H Q E):FnOk P w K mg base CX k f fd ps sp':=
 ⟨λvs H Q E q=>F.len vs H Q E (h _ _ _ _ q),λA outer s H args us vs Q E hr he hb hv hs=>F.run A outer s H args us vs Q E hr he hb hv (h _ _ _ _ hs)⟩
def Env0.make{P:Program}{w:World}{K:zzA}{mg:Str->Option Value}{base:Heap}{A:Around}{outer:List Env}{s:Shared}{H:Hp}(e:Env0 P w K mg base A outer s H)(C:Addr)(us:List Value)(kw:List (Str×Value)):
 Env0 P w K mg base (A.under (.builtin "type.__call__" ⟨.ref C::us,kw⟩)) outer s H:=⟨by first|exact e.frames|(simpa[Around.under,Code.envs,Code.isFrame,pushEnvs]using e.frames),e.mod,e.bs,e.bsz,e.funs,e.frf,e.hok,e.bare⟩
section
variable{X:Cx}{pins:List (Addr×Obj)}{σ:St}{H:Hp}{s s':Shared}
def Inv.env0(I:Inv X pins σ H s):Env0 X.prog X.w X.K X.mg X.base X.A X.stack s H:=
 ⟨I.ok.frames,I.ok.mod,I.bs,zzO I.ok.bsz I.sz,I.stack,I.stkFree,I.hok,I.bare⟩
def Inv.after(I:Inv X pins σ H s)(h:CE X.stack X.prog X.w H s Q u s'):EP X pins σ Q u s':=by
 obtain⟨v,H',os,bare,un,hok,r,q⟩:=h;obtain⟨hh,g,d,t,os'⟩:=s';obtain rfl:os'=s.os:=os;exact⟨v,H',I.call (h':=hh) (g':=g) (d':=d) (t':=t) (ch:=[]) un hok bare (λb z=>absurd z (by simp)),r,q⟩
end
def Dt(sp:Sp)(dvs:List V)(E:XK)(t:TA):TE:=λσ H Q=>t σ H λvs H1=>sp (vs++dvs) H1 Q E
def DB(C:Addr)(sp:Sp)(dvs:List V)(E:XK)(t:TA):TE:=λσ H Q=>t σ H λvs H1=>∀x dx,H1 x=none->H1 dx=none->dx≠x->
 sp (.ref x::(vs++dvs)) (upd (upd H1 dx (.own x)) x (.ins C dx [])) (λv H2=>v = .non/\Q (.ref x) H2) E
def Binds(K:zzA)(fd:FuncData)(ps:List Str)(ds:List Value):Prop:=
 ∀(s:Shared) (us:List Value),K.In s.heap->(us++ds).length=ps.length->BindsTo s fd ⟨us,[]⟩ (ps.zip (us++ds))
def Binds.all{K:zzA}{fd:FuncData}{ps:List Str}(h:∀us:List Value,us.length=ps.length->bindArgs fd ⟨us,[]⟩=pure (ps.zip us)):Binds K fd ps []:=λs us _ hl=>by
 rw[zyE]at hl ⊢;exact .of_eq (h us hl)
def Zd(CX:HG)(X:Cx)(E:XK):Prop:=∀(pins:List (Addr×Obj)) (σ:St) (H:Hp) (s:Shared) (e:Value) (s':Shared),Inv X pins σ H s->CX X.stack H s E e s'->X.xe e s'
section
variable{X:Cx}{CX:HG}{k:Nat}{f C:Addr}{fd:FuncData}{ps:List Str}{sp:Sp}{dvs:List V}{ds:List Value}{E:XK}{x m:Str}{p pos apos:Pos}{e o:Expr}{es:List Expr}{ta:TE}{t:TA}
def HR(F:FnOk X.prog X.w X.K X.mg X.base CX k f fd ps sp)(hr:Room k X.A)(hb:Binds X.K fd ps ds)(hd:zO dvs ds)(hx:Zd CX X E)
 (I:Inv X pins σ H s) (r:zO vs us) (h:sp (vs++dvs) H Q E):wpAny (model X.prog X.w) X.A (call (.ref f) us) (EP X pins σ Q) X.xe s:=by
 have r2:zO (vs++dvs) (us++ds):=r.append hd;have hl:(us++ds).length=ps.length:=by rw[<-r2.length];exact F.len _ _ _ _ h
 refine wpAny_call (codeAny_mono (F.run X.A X.stack s H ⟨us,[]⟩ (us++ds) (vs++dvs) Q E hr I.env0 (hb s us I.kIn hl) r2 h) λr s' hq=>?_);cases r with
 |error e=>exact hx pins σ H s e s' I hq
 |ok fl=>
  cases fl with
  |ret u=>exact I.after hq
  |next=>exact False.elim hq
  |brk=>exact False.elim hq
  |cont=>exact False.elim hq
def BZ(F:FnOk X.prog X.w X.K X.mg X.base CX k f fd ps sp)(hr:Room k X.A)(hg:Gl X x)(hm:X.mg x=some (.ref f))(hk:PySem.W.keepIn X.K (.ref f)=true)(hb:Binds X.K fd ps ds)(hd:zO dvs ds)(hx:Zd CX X E)
 (ha:PA X (e::es) t) (hdb:(x==("__debug__":Str))=false:=by decide) (he:starEach (e::es) X.env=(false,eval e X.env)::starEach es X.env:=by rfl) (hpl:(backTo pos (starEach es X.env)).any (·.1)=false:=by rfl):
 PE X (.Call (.Name x p) (e::es) [] pos) (Dt sp dvs E t):=by
 intro pins s σ H Q I h;refine wpAny_Call_Name_kw (NC I hg hm ?_ hdb);refine PySem.W.callWith_K (h₀:=X.base) I.ok.mod.kin hk (wF (ha pos pins s σ H _ I h) λus s1 ⟨vs,H1,I1,r,q⟩=>⟨I1.kIn, ?_⟩) he hpl;exact HR F hr hb hd hx I1 r q
structure Mk(K:zzA)(C f:Addr):Prop where
 makes:PySem.W.makesIn K C=true
 init:PySem.W.findIn K (.ref C) "__init__"=some (some (.ref f))
 fn:PySem.W.isFn K (.ref f)=true
 kp:PySem.W.keepIn K (.ref C)=true
def CG(M:Mk X.K C f)(F:FnOk X.prog X.w X.K X.mg X.base CX k f fd ps sp)(hr:Room (k+1) X.A)(hb:Binds X.K fd ps ds)(hd:zO dvs ds)
 (hx:Zd CX X E) (I:Inv X pins σ H s) (r:zO vs us)
 (h:∀x dx,H x=none->H dx=none->dx≠x->sp (.ref x::(vs++dvs)) (upd (upd H dx (.own x)) x (.ins C dx [])) (λv H2=>v = .non/\Q (.ref x) H2) E):
 wpAny (model X.prog X.w) X.A (call (.ref C) us) (EP X pins σ Q) X.xe s:=by
 have hq:=h (s.heap.objs.size+1) s.heap.objs.size (I.hok.fresh (zyW _)) (I.hok.fresh (zzN _)) (zzQ (Nat.lt_succ_self _));have I2:=Inv.made (C:=C) I;have r2:zO (V.ref (s.heap.objs.size+1)::(vs++dvs)) (Value.ref (s.heap.objs.size+1)::(us++ds)):=.cons rfl (r.append hd);have hl:(Value.ref (s.heap.objs.size+1)::us++ds).length=ps.length:=by
  have e:=r2.length;rw[F.len _ _ _ _ hq]at e;exact e.symm
 refine wpAny_call (OZ (f:=f) I.kIn M.makes M.init (beq_iff_eq.mp M.fn) (codeAny_mono (F.run _ X.stack _ _ ⟨Value.ref (s.heap.objs.size+1)::us,[]⟩ (Value.ref (s.heap.objs.size+1)::(us++ds)) _ _ E (hr.make C us [])
  (I2.env0.make C us []) (hb _ (Value.ref (s.heap.objs.size+1)::us) I2.kIn hl) r2 hq) λr s' hq'=>?_))
 cases r with
 |error e=>exact hx pins σ _ _ e s' I2 hq'
 |ok fl=>
  cases fl with
  |ret u=>
   obtain⟨v,H',I3,rv,ev,q3⟩:=I2.after hq';subst ev;exact⟨rv,⟨V.ref (s.heap.objs.size+1),H',I3,rfl,q3⟩⟩
  |next=>exact False.elim hq'
  |brk=>exact False.elim hq'
  |cont=>exact False.elim hq'
def A0(M:Mk X.K C f)(F:FnOk X.prog X.w X.K X.mg X.base CX k f fd ps sp)(hr:Room (k+1) X.A)(hg:Gl X x)(hm:X.mg x=some (.ref C))(hb:Binds X.K fd ps ds)(hd:zO dvs ds)(hx:Zd CX X E)
 (ha:PA X (e::es) t) (hdb:(x==("__debug__":Str))=false:=by decide) (he:starEach (e::es) X.env=(false,eval e X.env)::starEach es X.env:=by rfl) (hpl:(backTo pos (starEach es X.env)).any (·.1)=false:=by rfl):
 PE X (.Call (.Name x p) (e::es) [] pos) (DB C sp dvs E t):=by
 intro pins s σ H Q I h;refine wpAny_Call_Name_kw (NC I hg hm ?_ hdb);refine PySem.W.callWith_K (h₀:=X.base) I.ok.mod.kin M.kp (wF (ha pos pins s σ H _ I h) λus s1 ⟨vs,H1,I1,r,q⟩=>⟨I1.kIn, ?_⟩) he hpl;exact CG M F hr hb hd hx I1 r q
end
section
variable{X:Cx}{CX:HG}{k:Nat}{f C:Addr}{fd:FuncData}{ps ks:List Str}{sp:Sp}{E:XK}{x m:Str}{p pos apos kpos:Pos}{e o:Expr}{es:List Expr}{kws:List Keyword}{te ta:TE}{t tk:TA}{nm:Option Str}
structure KBinds(K:zzA)(fd:FuncData)(ps ks:List Str)(g:List Value->List Value->List Value)(gV:List V->List V->List V):Prop where
 to:∀(s:Shared) (us ws:List Value),K.In s.heap->(g us ws).length=ps.length->BindsTo s fd ⟨us,ks.zip ws⟩ (ps.zip (g us ws))
 rel:∀{vs:List V}{us:List Value}{zs:List V}{ws:List Value},zO vs us->zO zs ws->zO (gV vs zs) (g us ws)
variable{g:List Value->List Value->List Value}{gV:List V->List V->List V}
end
structure FnScope(N P:List Str)(sc:Scope):Prop where
 kind:sc.kind = .function
 co:sc.isCoroutine=false
 gen:sc.isGenerator=false
 nd:N.Nodup
 pre:N.take P.length=P
 par:∀x ∈ P,sc.names.lookup x=some .local\/sc.names.lookup x=some .cell
 nofree:∀y ∈ sc.names,y.2 ≠ .free
theorem Nb{kindOf:Str->Option NameKind}{x:Str}:∀{binds:List (Str×Value)}{m:Str->Option Value},(∀v,(x,v) ∉ binds)->bindL kindOf binds m x=m x
 | [],_,_=>rfl
 |(n,v)::r,m,h=>by
  unfold bindL;rw[Nb λw hw=>h w (zzD _ hw)]
  split
  . have:x≠n:=by rintro rfl;exact h v zzF
    simp[this]
  . rfl
theorem LP{kindOf:Str->Option NameKind}{x:Str}:∀{binds:List (Str×Value)}{m:Str->Option Value},(∀v,(x,v) ∉ binds)->bindC kindOf binds m x=m x
 | [],_,_=>rfl
 |(n,v)::r,m,h=>by
  unfold bindC;rw[LP λw hw=>h w (zzD _ hw)]
  split
  . rfl
  . have:x≠n:=by rintro rfl;exact h v zzF
    simp[this]
theorem LA{kindOf:Str->Option NameKind}{x:Str}{v:Value}:∀{P:List Str}{vs:List Value}{i:Nat}{m:Str->Option Value},P.Nodup->P[i]? = some x->vs[i]? = some v->kindOf x=some .local->
 bindL kindOf (P.zip vs) m x=some v
 | [],_,_,_,_,h,_,_=>by simp at h
 |_::_,[],_,_,_,_,h,_=>by simp at h
 |p::P,w::vs,0,m,nd,h1,h2,hk=>by
  simp at h1 h2;subst h1;subst h2;show bindL kindOf ((p,w)::P.zip vs) m p=_;unfold bindL;rw[Nb λv hv=>(zzW.mp nd).1 (List.of_mem_zip hv).1,if_pos hk];simp
 |p::P,w::vs,i+1,m,nd,h1,h2,hk=>by
  show bindL kindOf ((p,w)::P.zip vs) m x=_;unfold bindL;exact LA (i:=i) (zzW.mp nd).2 (by simpa using h1) (by simpa using h2) hk
theorem Nc{kindOf:Str->Option NameKind}{x:Str}{v:Value}:∀{P:List Str}{vs:List Value}{i:Nat}{m:Str->Option Value},P.Nodup->P[i]? = some x->vs[i]? = some v->kindOf x≠some .local->
 bindC kindOf (P.zip vs) m x=some v
 | [],_,_,_,_,h,_,_=>by simp at h
 |_::_,[],_,_,_,_,h,_=>by simp at h
 |p::P,w::vs,0,m,nd,h1,h2,hk=>by
  simp at h1 h2;subst h1;subst h2;show bindC kindOf ((p,w)::P.zip vs) m p=_;unfold bindC;rw[LP λv hv=>(zzW.mp nd).1 (List.of_mem_zip hv).1,if_neg hk];simp
 |p::P,w::vs,i+1,m,nd,h1,h2,hk=>by
  show bindC kindOf ((p,w)::P.zip vs) m x=_;unfold bindC;exact Nc (i:=i) (zzW.mp nd).2 (by simpa using h1) (by simpa using h2) hk
def start(N:List Str)(vs:List V):St:=vs.map some++List.replicate (N.length-vs.length) none
def Ld(CX:HG)(P:Program)(w:World)(K:zzA)(mg:Str->Option Value)(base:Heap)(N:List Str)(qual:Str)(scope:Scope)(f:Addr)(cd:Value)(A:Around)(outer:List Env)(s:Shared)(H:Hp)(E:XK):Cx where
 prog:=P
 w:=w
 K:=K
 mg:=mg
 base:=base
 A:=A.deeper (envOfC qual scope s.heap.objs.size f cd)
 N:=N
 s₀:=s
 H₀:=H
 env:=envOfC qual scope s.heap.objs.size f cd
 outer:=outer
 stack:=envOfC qual scope s.heap.objs.size f cd::outer
 ex:=[]
 calm:=true
 fn:=λ_=>true
 pn:=[]
 xe:=λe s'=>wpAny (model P w) (A.deeper (envOfC qual scope s.heap.objs.size f cd)) (leaving (envOfC qual scope s.heap.objs.size f cd) e) (λ_ s''=>CX outer H s E e s'') (λe' s''=>CX outer H s E e' s'') s'
def ED{sc:Scope}{n:Nat}{x:Str}(h:sc.names.lookup x=some .cell):∃c,(cellsFrom n sc.names []).lookup x=some c:=by
 have q:=PySem.W.cellsFrom_some sc.names n [] (.inl h);exact Option.isSome_iff_exists.mp q
def Hh{CX:HG}{P:Program}{w:World}{K:zzA}{mg:Str->Option Value}{base:Heap}{N ps:List Str}{qual:Str}{scope:Scope}{f:Addr}{cd:Value}{A:Around}{outer:List Env}{s s1:Shared}{H:Hp}{E:XK}{us:List Value}{vs:List V}
 (S:FnScope N ps scope) (hd:A.handled=none) (e0:Env0 P w K mg base A outer s H) (hl:vs.length=ps.length) (r:zO vs us)
 (x:InCallC s s.heap.objs.size (bindL (envOfC qual scope s.heap.objs.size f cd).kindOf (ps.zip us) λ_=>none) (cellsFrom (s.heap.objs.size+1) scope.names []) (bindC (envOfC qual scope s.heap.objs.size f cd).kindOf (ps.zip us) λ_=>none) s1):
 Inv (Ld CX P w K mg base N qual scope f cd A outer s H E) [] (start N vs) H s1:=by
 have hpl:ps.length<=N.length:=by have:=congrArg List.length S.pre;rw[zzS]at this;omega
 obtain⟨h1,tk,rfl,hk⟩:=x.done;have noA:∀b:Addr,b ∉ (Ld CX P w K mg base N qual scope f cd A outer s H E).ex:=λb z=>absurd (show b ∈ ([]:List Addr)from z) (by simp);refine⟨⟨e0.mod,S.kind,rfl,rfl,zzN _,λy z c h1 h2=>?_,λy hy=>?_,λy c _ h=>?_,λ_=>hd,Around.frames_deeper e0.frames,.inr ⟨rfl,rfl⟩,λb z=>absurd z (noA b),e0.bs,e0.bsz,λb _ _=>noA b,λb z=>absurd z (noA b),e0.funs,e0.frf⟩,
  rfl,e0.bare,Un.kept hk,⟨_,x.toInCall.ns,λi y v h1 h2 h3=>?_⟩,λy c h=>⟨_,x.cell y c h⟩,e0.hok.fresh (zzN _),λy c h=>?_,λp hp=>absurd (show p ∈ ([]:List (Addr×Obj))from hp) (by simp),e0.hok.kept hk, ?_⟩
 . exact name_of_addr x.apart (PySem.mem_of_lookup h1) (PySem.mem_of_lookup h2)
 . have hy:scope.names.lookup y=some .cell\/scope.names.lookup y=some .free:=hy
   rcases hy with hy|hy
   . exact ED hy
   . exact absurd rfl (S.nofree _ (PySem.mem_of_lookup hy))
 . exact Nat.le_of_lt (x.above y c (PySem.mem_of_lookup h))
 . have hi:i<vs.length:=by
    unfold start at h2
    by_cases hi:i<vs.length
    . exact hi
    . rw[zyR (by simpa using hi)]at h2;rw[List.getElem?_replicate]at h2
      split at h2<;>cases h2
   have ha:vs[i]? = some v:=by
    unfold start at h2;rw[zyP (by simpa using hi),zzI]at h2;cases e:vs[i]? with
    |none=>rw[e]at h2;cases h2
    |some a=>rw[e]at h2;cases h2;rfl
   obtain⟨u,hu,rv⟩:=r.get ha;have hp:ps[i]? = some y:=by
    rw[<-S.pre,List.getElem?_take_of_lt (by omega)];exact h1
   have ndP:ps.Nodup:=by rw[<-S.pre];exact S.nd.sublist (List.take_sublist _ _)
   refine⟨u,rv, ?_⟩
   rcases S.par y (zyA hp)with k|k
   . exact .inl ⟨k,LA ndP hp hu k⟩
   . obtain⟨c,e⟩:=ED (n:=s.heap.objs.size+1) k;refine .inr ⟨.inl k,c,e, ?_⟩;have q:=x.cell y c e;rw[Nc ndP hp hu (by show scope.names.lookup y≠_;rw[k];decide)]at q;exact q
 . exact e0.hok.fresh (Nat.le_of_lt (x.above y c (PySem.mem_of_lookup h)))
 . unfold start;show _=N.length;rw[zzJ,zzB,List.length_replicate];omega
def oi{CX:HG}{P:Program}{w:World}{K:zzA}{mg:Str->Option Value}{base:Heap}{k:Nat}{f:Addr}{name qual:Str}{params:Arguments}{body:List Stmt}{scope:Scope}{dV kV doc pm cdv ct oc:Value}{an od:Option Addr}
 {osl:Array (Option Value)}{N ps:List Str}{sp:Sp}(lk:K.lookup f=some ⟨oc,od,.func (PySem.W.fnOf name qual params body scope dV kV doc pm an cdv ct),osl⟩) (hcd:PySem.W.codeIn K cdv qual=true) (S:FnScope N ps scope)
 (len:∀vs H Q E,sp vs H Q E->vs.length=ps.length)
 (hbody:∀(A:Around) (outer:List Env) (s:Shared) (H:Hp) (vs:List V) (Q:VK) (E:XK),Room k (A.deeper (envOfC qual scope s.heap.objs.size f cdv))->sp vs H Q E->
  ∃t,Mg (Ld CX P w K mg base N qual scope f cdv A outer s H E) body t/\t {nx:=λ_ H'=>Q .non H',rt:=Q} (start N vs) H):
 FnOk P w K mg base CX (k+1) f (PySem.W.fnOf name qual params body scope dV kV doc pm an cdv ct) ps sp:=by
 refine⟨len,λA outer s H args us vs Q E hr e0 hb r hsp=>?_⟩;have hl:=len _ _ _ _ hsp;have KX:K.In s.heap:=e0.mod.kin.keeps λb o e=>(e0.bs b o e).1;have lim:s.heap.NoLimit:=e0.mod.nolimit.keeps λb o e=>(e0.bs b o e).1;have hkind:∀y ∈ ps.zip us,scope.names.lookup y.1=some .local\/(scope.names.lookup y.1=some .cell/\((cellsFrom (s.heap.objs.size+1) scope.names []).lookup y.1).isSome=true):=λ⟨n,v⟩ hy=>by
  rcases S.par n (List.of_mem_zip hy).1 with q|q
  . exact .inl q
  . exact .inr ⟨q,PySem.W.cellsFrom_some _ _ _ (.inl q)⟩
 refine codeAny_call_function hr.depth (KX _ _ lk) rfl S.co S.gen rfl (PySem.W.codeRec_of KX hcd) (hb _ _ _ _ ?_);refine wpAny_newFunctionEnv_cells S.kind hkind λenv he s1 x=>?_;subst he;refine⟨lim.keeps x.toInCall.keep,codeAny_func ?_⟩;obtain⟨t,ht,hq⟩:=hbody A outer s H vs Q E (hr.deeper _) hsp;have I:Inv (Ld CX P w K mg base N qual scope f cdv A outer s H E) [] (start N vs) H s1:=Hh S hr.hd e0 hl r x;refine zxN (ht [] s1 (start N vs) H _ I hq) (λfl s' hs=>?_) λe s' hs=>hs;have fin:∀{σ':St}{H':Hp}{v:V}{u:Value},Inv (Ld CX P w K mg base N qual scope f cdv A outer s H E) [] σ' H' s'->RelV v u->Q v H'->CE outer P w H s Q u s':=
  λ{σ' H' v u} J rv q=>⟨v,H',J.os,J.bare,J.base,J.hok,rv,q⟩
 cases fl with
 |ret u=>
  obtain⟨v,σ',H',J,rv,q⟩:=hs;exact fin J rv q
 |next=>
  obtain⟨σ',H',J,q⟩:=hs;exact fin (v:=V.non) (u:=Value.none) J rfl q
 |brk=>
  obtain⟨_,_,_,q⟩:=hs;exact False.elim q
 |cont=>
  obtain⟨_,_,_,q⟩:=hs;exact False.elim q
end L2
namespace L2
open PySem PySem.Spec PyProof.Rows
section
variable{X:Cx}{x:Str}{p pos:Pos}{e:Expr}{es:List Expr}{t:TA}{id T:String}{r:List V->Hp->VK->Prop}
def lR(r:List V->Hp->VK->Prop)(t:TA):TE:=λσ H Q=>t σ H λvs H1=>r vs H1 Q
def Kt(hc:XO X (.builtin id) r)(hg:Gl X x)(hm:X.mg x=none)(hv:bootBuiltins x=some (.builtin id))(ha:PA X (e::es) t)(hn:x≠"__name__":=by decide)(hdb:(x==("__debug__":Str))=false:=by decide)
 (he:starEach (e::es) X.env=(false,eval e X.env)::starEach es X.env:=by rfl) (hpl:(backTo pos (starEach es X.env)).any (·.1)=false:=by rfl):PE X (.Call (.Name x p) (e::es) [] pos) (lR r t):=by
 intro pins s σ H Q I h;refine wpAny_Call_Name_kw (Wm I hg hm hv ?_ hn hdb);exact PyProof.Rows.callWith_builtin1 (wF (ha pos pins s σ H _ I h) λus s1 ⟨vs,H1,I1,r1,q1⟩=>hc pins s1 σ H1 vs us Q I1 r1 q1) he hpl
def SV(hc:XO X (.type T) r)(hg:Gl X x)(hm:X.mg x=none)(hv:bootBuiltins x=some (.type T))(ha:PA X (e::es) t)(hn:x≠"__name__":=by decide)(hdb:(x==("__debug__":Str))=false:=by decide)
 (he:starEach (e::es) X.env=(false,eval e X.env)::starEach es X.env:=by rfl) (hpl:(backTo pos (starEach es X.env)).any (·.1)=false:=by rfl):PE X (.Call (.Name x p) (e::es) [] pos) (lR r t):=by
 intro pins s σ H Q I h;refine wpAny_Call_Name_kw (Wm I hg hm hv ?_ hn hdb);exact PyProof.Rows.callWith_type1 (wF (ha pos pins s σ H _ I h) λus s1 ⟨vs,H1,I1,r1,q1⟩=>hc pins s1 σ H1 vs us Q I1 r1 q1) he hpl
end
end L2
namespace L2
open PySem PySem.Spec PyProof.Rows
section
variable{κ:Type}[DecidableEq κ]
def RG(kvs:List (κ×V))(k:κ):Option V:=(kvs.find? λkv=>decide (kv.1=k)).map (·.2)
def O7{p:κ×V}{r:List (κ×V)}{k:κ}(e:p.1=k):RG (p::r) k=some p.2:=by simp[RG,List.find?_cons,e]
def Oc{p:κ×V}{r:List (κ×V)}{k:κ}(e:¬p.1=k):RG (p::r) k=RG r k:=by simp[RG,List.find?_cons,e]
def UD.isSome_eq(r:UD o u):o.isSome=u.isSome:=by
 cases o with
 |none=>cases u with
  |none=>rfl
  |some _=>exact(show False from r).elim
 |some _=>cases u with
  |none=>exact(show False from r).elim
  |some _=>rfl
def KV.val{kvs:List (κ×V)}{vs:List (κ×Value)}(r:KV kvs vs)(k:κ):UD (RG kvs k) (valueAt vs k):=by
 unfold KV at r
 induction r with
 |nil=>exact True.intro
 | @cons p q ps qs h t ih=>
  obtain⟨h1,h2⟩:=h
  by_cases e:p.1=k
  . have e':q.1=k:=h1.symm.trans e;have b:valueAt (q::qs) k=some q.2:=by simp[valueAt,List.find?_cons,e']
    rw[O7 e,b];exact h2
  . have e':¬q.1=k:=λz=>e (h1.trans z);have b:valueAt (q::qs) k=valueAt qs k:=by simp[valueAt,List.find?_cons,e']
    rw[Oc e,b];exact ih
theorem KV.length(r:KV kvs vs):kvs.length=vs.length:=Paired.length r
end
def Si(r:RelV (kV k) u):(wo P w).is k u=true:=by
 cases k with
 |inl i=>obtain⟨t,e⟩:=(show ∃t,u=Value.int i t from r);subst e;exact Ej P w i t
 |inr x=>obtain⟨t,e⟩:=(show ∃t,u=Value.str x t from r);subst e;exact VT P w x t
section
variable{P:Program}{w:World}{H:Hp}{h:Heap}{a:Addr}
def om(ok:PL P w H h)(e:Rd H a u):w9 P w H h a u:=e.ok ok
def qV(ok:PL P w H h)(e:Rd H a (.dK kvs)):kvs.length<=sizeLine/\(a==sysModules)=false/\∃vs,KV kvs vs/\h.DictOf (wo P w) a vs:=
 show w9 P w H h a (.dK kvs)from om ok e
end
section
variable{X:Cx}{pins:List (Addr×Obj)}{σ:St}{H:Hp}{s:Shared}{a:Addr}{y v:V}{u r:Value}{o:Option V}{A:Around}{E:Value->Shared->Prop}
def Inv.big(I:Inv X pins σ H s):sysModules<s.heap.objs.size:=by
 have h:mainGlobals<s.heap.objs.size:=(I.mod.glob.keeps I.bk).lt;exact Nat.lt_trans (by decide) h
def C3(z:kvs.length<=sizeLine)(hd:(a==sysModules)=false)(rel:KV kvs vs)(dd:h'.DictOf (wo P w) a vs):
 w9 P w H' h' a (.dK kvs):=⟨z,hd,vs,rel,dd⟩
end
structure M1(X:Cx)(o:Expr)(m:Str)(apos:Pos)(e:Expr)(cpos:Pos):Prop where
 base:attributeBase o m X.env (eval o X.env)=eval o X.env
 few:((backTo cpos (starEach [e] X.env)).all (λx=>!x.1)&&(backToKw cpos (keywordEach [] X.env)).all (λx=>x.1.isSome)
  && decide (([e]:List Expr).length+([]:List Keyword).length+(if([]:List Keyword).isEmpty then 0 else 1)<30))=true
 line:(apos.endLine==cpos.line)=true
 trees:backTo cpos (starEach [e] X.env)=[(false,eval e X.env)]
structure M2(X:Cx)(o:Expr)(m:Str)(apos:Pos)(e f:Expr)(cpos:Pos):Prop where
 base:attributeBase o m X.env (eval o X.env)=eval o X.env
 few:((backTo cpos (starEach [e,f] X.env)).all (λx=>!x.1)&&(backToKw cpos (keywordEach [] X.env)).all (λx=>x.1.isSome)
  && decide (([e,f]:List Expr).length+([]:List Keyword).length+(if([]:List Keyword).isEmpty then 0 else 1)<30))=true
 line:(apos.endLine==cpos.line)=true
 trees:backTo cpos (starEach [e,f] X.env)=[(false,eval e X.env),(false,eval f X.env)]
end L2
namespace HT
open PySem PyProof.Rows
section
variable{prog:Program}{w:World}{A:Around}{E:Value->Shared->Prop}{s:Shared}
def JX(ht:IsTup s.heap t vs.toArray)(hb:IsTup s.heap b ws.toArray)(hv:vs≠[])
 (h1:ws=[]->Q (.ref t) s) (h2:ws≠[]->Q (.ref s.heap.objs.size) {s with heap:=s.heap.push {cls:=.type "tuple",data:=.seq (vs++ws).toArray}})
 (hsz:vs.length+ws.length<=sizeLine):wpAny (model prog w) A (binaryOp .Add (.ref t) (.ref b)) Q E s:=by
 obtain⟨⟨cls,dd,data,sl⟩,ho,hc,n,hd⟩:=id ht;obtain⟨⟨cls2,dd2,data2,sl2⟩,ho2,hc2,n2,hd2⟩:=id hb;simp only at hc hd hc2 hd2;subst hc hd hc2 hd2;have e:vs.toArray++ws.toArray=(vs++ws).toArray:=by simp
 by_cases hw:ws=[]
 . exact concat_meets ⟨_,ho,rfl⟩ ⟨_,ho2,rfl⟩ noFill_tuple_add seq_tuple_add PySem.F.slot_tuple_add PySem.F.entry_tuple_add (PySem.F.args_tuple_add_2 _ _)
    (tuple_addW1 t b vs.toArray ws.toArray n n2 dd dd2 sl sl2 (by simpa using hv) (by simp[hw])) ⟨ho,ho2,h1 hw⟩
 . refine concat_meets ⟨_,ho,rfl⟩ ⟨_,ho2,rfl⟩ noFill_tuple_add seq_tuple_add PySem.F.slot_tuple_add PySem.F.entry_tuple_add (PySem.F.args_tuple_add_2 _ _)
    (tuple_addW2 t b vs.toArray ws.toArray n n2 dd dd2 sl sl2 (by simpa using hv) (by simpa using hw) (by rw[zzH,zzH];exact hsz)) ⟨ho,ho2, ?_⟩
   rw[e];exact h2 hw
def sIx(n d:Nat):Option Int->Nat
 |none=>d
 |some v=>if v<0 then(v+(n:Int)).toNat else min v.toNat n
def KC(n d:Nat):sIx n d none=d:=rfl
def UF(n d k:Nat):sIx n d (some (k:Int))=min k n:=by
 show(if(k:Int)<0 then((k:Int)+(n:Int)).toNat else min (k:Int).toNat n)=min k n;rw[if_neg (by omega),zyI]
def uo(n d:Nat)(hd:d<=n)(o:Option Int):sIx n d o<=n:=by
 cases o with
 |none=>exact hd
 |some v=>
  show(if v<0 then(v+(n:Int)).toNat else min v.toNat n)<=n
  by_cases hv:v<0
  . rw[if_pos hv];omega
  . rw[if_neg hv];exact Nat.min_le_right _ _
def Sa(v:Int)(n d:Nat):(if v<0 then max (v+(n:Int)) 0 else min v (n:Int))=((sIx n d (some v):Nat):Int):=by
 show(if v<0 then max (v+(n:Int)) 0 else min v (n:Int))=(((if v<0 then(v+(n:Int)).toNat else min v.toNat n):Nat):Int)
 by_cases hv:v<0
 . simp only[if_pos hv];omega
 . simp only[if_neg hv];omega
def F_(lo hi:Option Int)(n:Nat):Builtin.Slice.sliceAdjust lo hi 1 (n:Int)=(((sIx n 0 lo:Nat):Int),((sIx n n hi:Nat):Int)):=by
 have h1:¬((1:Int)<0):=by omega
 unfold Builtin.Slice.sliceAdjust;simp only[h1,if_false];refine Prod.ext ?_ ?_
 . cases lo with
   |none=>rfl
   |some v=>exact Sa v n 0
 . cases hi with
   |none=>rfl
   |some v=>exact Sa v n n
def FK(i j:Nat):Builtin.Slice.slicePlaces (i:Int) (j:Int) 1=j-i:=by
 unfold Builtin.Slice.slicePlaces;have h1:(1:Int) > 0:=by omega
 simp only[h1,if_true,Int.ediv_one]
 split<;>omega
def Ko(p:IsPart v o)(h:Q o s):wpAny (model prog w) A (Builtin.Slice.slicePartIndex v) Q E s:=by
 cases p with
 |none=>exact slicePart_none h
 |int i t=>exact slicePart_int h
def RA{sl:Addr}{vl vu:Value}{lo hi:Option Int}{n:Nat}{Q:Int×Int×Nat->Shared->Prop}(hs:s.heap.IsSliceOf sl vl vu .none)(pl:IsPart vl lo)(pu:IsPart vu hi)
 (h:Q (((sIx n 0 lo:Nat):Int),1,sIx n n hi-sIx n 0 lo) s):wpAny (model prog w) A (Builtin.Slice.sliceApplied (.ref sl) (pure (n:Int))) Q E s:=by
 obtain⟨os,hos,hcs,hds⟩:=id hs;unfold Builtin.Slice.sliceApplied Builtin.Slice.sliceFields;refine zxF (zxF (wpAny_field hos hds (x:=vl) rfl (zxF (wpAny_field hos hds (x:=vu) rfl (zxF (wpAny_field hos hds (x:=.none) rfl (zxG ?_)))))));refine zxF (slicePart_none ?_);show wpAny _ _ (if((1:Int)==0)=true then _ else _) _ _ s;rw[if_neg (by decide)];refine zxF (Ko pl (zxF (Ko pu (zxF (zxG ?_)))));show wpAny _ _ (match Builtin.Slice.sliceAdjust lo hi 1 (n:Int)with|(lo,hi)=>pure (lo,(1:Int),Builtin.Slice.slicePlaces lo hi 1)) _ _ s;rw[F_ lo hi n];show wpAny _ _ (pure (((sIx n 0 lo:Nat):Int),(1:Int),Builtin.Slice.slicePlaces ((sIx n 0 lo:Nat):Int) ((sIx n n hi:Nat):Int) 1)) _ _ s;rw[FK];exact zxG h
def HV(xs:Array Value)(i k:Nat):((List.range k).filterMap λ(m:Nat)=>xs[((i:Int)+(m:Int)*1).toNat]?).toArray=((xs.toList.drop i).take k).toArray:=by
 have e:(λ(m:Nat)=>xs[((i:Int)+(m:Int)*1).toNat]?)=λm=>xs[i+m]? := by
  funext m;have:((i:Int)+(m:Int)*1).toNat=i+m:=by omega
  rw[this]
 rw[e];have:=pick_run xs i k;rw[List.filterMap_map]at this;have e2:((λx=>xs[x]?)∘λx=>i+x)=λm=>xs[i+m]? := rfl;rw[e2]at this;rw[this]
def U9{t sl:Addr}{items:Array Value}{vl vu:Value}{lo hi:Option Int}{Q:Value->Shared->Prop}(ht:IsTup s.heap t items)(hs:s.heap.IsSliceOf sl vl vu .none)(pl:IsPart vl lo)(pu:IsPart vu hi)
 (hw:¬(sIx items.size 0 lo=0/\sIx items.size items.size hi=items.size))
 (h:Q (.ref s.heap.objs.size) {s with heap:=s.heap.push {cls:=.type "tuple",data:=.seq ((items.toList.drop (sIx items.size 0 lo)).take (sIx items.size items.size hi-sIx items.size 0 lo)).toArray}})
 (hsz:items.size<=sizeLine):wpAny (model prog w) A (getItem (.ref t) (.ref sl)) Q E s:=by
 have htake:sizeOk (.seq ((items.toList.drop (sIx items.size 0 lo)).take (sIx items.size items.size hi-sIx items.size 0 lo)).toArray):=by
  show((items.toList.drop (sIx items.size 0 lo)).take (sIx items.size items.size hi-sIx items.size 0 lo)).toArray.size<=sizeLine;rw[zzH,zzS,List.length_drop,zyT];omega
 have hj:sIx items.size items.size hi<=items.size:=uo _ _ (zzN _) hi;obtain⟨os,hos,hcs,hds⟩:=id hs;have hTs:s.TypeIs (.ref sl) "slice":=⟨os,hos,hcs⟩;unfold getItem
 try with_reducible refine zxL ?_
 first|refine zxF (zxG ?_)|skip
 refine zxF (wpAny_sequenceKey ht.typeIs (by decide) ?_);refine zxF (wpAny_callSpecial?_slot (name:=Str.ofString "__getitem__") ht.typeIs PyProof.Rows.slot_tuple_getitem
  (zxO PyProof.Rows.slot_tuple_getitem ht.typeIs entry_tuple_getitem ?_ (args_tuple_getitem _ _)))
 show wpAny _ _ (Builtin.Tuple.tupleItemsOf (.ref t) >>= _) _ _ s;refine zxF (tupleItemsOf_ ht ?_);refine zxF (wpAny_typeOf hTs ?_);rw[if_pos (by decide)];refine zxF (RA hs pl pu ?_);have hno:¬((((sIx items.size 0 lo:Nat):Int)==0&&(1:Int)==1&&(sIx items.size items.size hi-sIx items.size 0 lo)==items.size)=true):=by
  intro q;rw[zyC,zyC]at q;have q1:((sIx items.size 0 lo:Nat):Int)=0:=eq_of_beq q.1.1;have q2:sIx items.size items.size hi-sIx items.size 0 lo=items.size:=eq_of_beq q.2;exact hw ⟨by omega,by omega⟩
 show wpAny _ _ (if(((sIx items.size 0 lo:Nat):Int)==0&&(1:Int)==1&&(sIx items.size items.size hi-sIx items.size 0 lo)==items.size)=true then _ else _) _ _ s;rw[if_neg hno,HV]
 first
  |exact zxF (m:=Builtin.Tuple.tupleExact _) (zxK (zxG ⟨_,rfl,zxG h⟩) htake)
  |exact zxF (m:=Builtin.Tuple.tupleExact _) (zxK (zxF (zxG (zxG ⟨_,rfl,zxG h⟩))) htake)
  |exact zxF (zxF (m:=Builtin.Tuple.tupleExact _) (zxK (zxG (zxG ⟨_,rfl,zxG h⟩)) htake))
  |exact zxF (zxF (m:=Builtin.Tuple.tupleExact _) (zxK (zxG ⟨_,rfl,zxG h⟩) htake))
end
end HT
namespace L2
open PySem PySem.Spec PyProof.Rows
abbrev TO:=St->Hp->(Option Int->Hp->Prop)->Prop
def PO(X:Cx)(e:Option Expr)(t:TO):Prop:=
 ∀(pins:List (Addr×Obj)) (s:Shared) (σ:St) (H:Hp) (Q:Option Int->Hp->Prop),Inv X pins σ H s->t σ H Q->
  wpAny (model X.prog X.w) X.A (evalPart e X.env) (λu s'=>∃o H',Inv X pins σ H' s'/\IsPart u o/\Q o H') X.xe s
def BC:TO:=λ_ H Q=>Q none H
def oh(t:TE):TO:=λσ H Q=>t σ H λx H1=>∃i,x = .int i/\Q (some i) H1
def intsAre_of:∀{us:List Value},zO (ns.map V.int) us->IntsAre us ns:=by
 induction ns with
 |nil=>intro us r;rw[List.map_nil]at r;cases r;exact .nil
 |cons n ns ih=>
  intro us r;rw[zyS]at r;cases r with
  |cons r1 r2=>
   obtain⟨t,e⟩:=r1;subst e;exact .cons n t (ih r2)
section
variable{X:Cx}{e:Expr}{te:TE}{lo hi:Option Expr}{tl th:TO}{pos p2:Pos}
def AK:PO X none BC:=by
 intro pins s σ H Q I h;rw[evalPart_none];exact zxG ⟨none,H,I,.none,h⟩
def JU(h:PE X e te):PO X (some e) (oh te):=by
 intro pins s σ H Q I hw;rw[evalPart_some];refine wF (h pins s σ H _ I hw) λu s1 ⟨x,H1,I1,r1,q1⟩=>?_;obtain⟨i,rfl,q⟩:=q1;obtain⟨t,rfl⟩:=r1;exact⟨some i,H1,I1,.int i t,q⟩
def nu(X:Cx)(r:V->Option Int->Option Int->Hp->VK->Prop):Prop:=
 ∀(pins:List (Addr×Obj)) (s:Shared) (σ:St) (H:Hp) (x:V) (v vl vu:Value) (lo hi:Option Int) (sl:Addr) (Q:VK),Inv X pins σ H s->RelV x v->s.heap.IsSliceOf sl vl vu .none->IsPart vl lo->IsPart vu hi->r x lo hi H Q->
  ∃T id,typeLookup (.type T) "__getitem__"=pure (some (.builtin id))/\s.TypeIs v T/\wpAny (model X.prog X.w) X.A (getItem v (.ref sl)) (EP X pins σ Q) X.xe s
def kO(r:V->Option Int->Option Int->Hp->VK->Prop)(te:TE)(tl th:TO):TE:=λσ H Q=>te σ H λx H1=>tl σ H1 λl H2=>th σ H2 λu H3=>r x l u H3 Q
def OL(hr:nu X r)(he:PE X e te)(hl:PO X lo tl)(hu:PO X hi th):PE X (.Subscript e (.Slice lo hi none p2) pos) (kO r te tl th):=by
 intro pins s σ H Q I h;refine Subscript_ (wF (he pins s σ H _ I h) λv s1 ⟨x,H1,I1,r1,q1⟩=>?_);refine wpAny_Slice (wF (hl pins s1 σ H1 _ I1 q1) λvl s2 ⟨l,H2,I2,pl,q2⟩=>wF (hu pins s2 σ H2 _ I2 q2) λvu s3 ⟨u,H3,I3,pu,q3⟩=>?_);rw[evalPart_none];refine zxG ?_;have I4:Inv X pins σ H3 {s3 with heap:=s3.heap.push {cls:=.type "slice",data:=.fields #[vl,vu,.none]}}:=I3.kept (t':=s3.toks) λb ob q=>zxH _ q;obtain⟨T,id,hT,ht,hg⟩:=hr pins {s3 with heap:=s3.heap.push {cls:=.type "slice",data:=.fields #[vl,vu,.none]}} σ H3 x v vl vu l u s3.heap.objs.size Q I4 r1 (Heap.IsSliceOf.new ..) pl pu q3;show wpAny (model X.prog X.w) X.A (subscriptTail e (.Slice lo hi none p2) v (.ref s3.heap.objs.size)) (EP X pins σ Q) X.xe {s3 with heap:=s3.heap.push {cls:=.type "slice",data:=.fields #[vl,vu,.none]}};exact tail_any (ops:=[.ref s3.heap.objs.size,v]) ht hT hg (by with_unfolding_all rfl)
def E4(xs:List V)(lo hi:Option Int):List V:=(xs.drop (HT.sIx xs.length 0 lo)).take (HT.sIx xs.length xs.length hi-HT.sIx xs.length 0 lo)
def PD(xs:List V)(lo hi:Option Int):(E4 xs lo hi).length<=xs.length:=by
 unfold E4;rw[zzS,List.length_drop];omega
def mX(K:zzA):V->Option Int->Option Int->Hp->VK->Prop:=λx lo hi H Q=>∃a xs,x = .ref a/\Q3 K H a xs/\
 ¬(HT.sIx xs.length 0 lo=0/\HT.sIx xs.length xs.length hi=xs.length)/\∀p,H p=none->Q (.ref p) (upd H p (.tup (E4 xs lo hi)))
def rz:nu X (mX X.K):=by
 intro pins s σ H x v vl vu lo hi sl Q I rx hs pl pu h;obtain⟨a,xs,rfl,hx,hw,q⟩:=h;cases rx;obtain⟨its,r,ht,hz⟩:=I.tuple hx;have hlen:its.toArray.size=xs.length:=by rw[zzH];exact r.length.symm
 refine⟨"tuple",_,PyProof.Rows.slot_tuple_getitem.lookup,ht.typeIs, ?_⟩;refine HT.U9 ht hs pl pu (by rw[hlen];exact hw) ?_ (by rw[hlen];exact hz);rw[hlen];refine⟨.ref s.heap.objs.size,_,I.laid (t':=s.toks) (o:=.tup (E4 xs lo hi)) (λb ob q=>zxH _ q) (zzN _) ?_,rfl,q _ (I.hok.fresh (zzN _))⟩;exact⟨zzO (PD xs lo hi) hz,_,(r.drop (HT.sIx xs.length 0 lo)).take (HT.sIx xs.length xs.length hi-HT.sIx xs.length 0 lo),IsTup.new _ _⟩
def pI(K:zzA):R2:=λx y H Q=>∃a b xs ys,x = .ref a/\y = .ref b/\Q3 K H a xs/\Q3 K H b ys/\xs≠[]/\xs.length+ys.length<=sizeLine/\
 (ys=[]->Q (.ref a) H)/\(ys≠[]->∀p,H p=none->Q (.ref p) (upd H p (.tup (xs++ys))))
def zO.nil_iff(r:zO xs us):us=[] ↔ xs=[]:=by
 cases r with
 |nil=>simp
 |cons _ _=>simp
def AV:Ry X (binaryOp .Add) (pI X.K):=by
 intro pins s σ H x y v u Q I rx ry h;obtain⟨a,b,xs,ys,rfl,rfl,ha,hb,hx,hz,q1,q2⟩:=h;cases rx;cases ry;obtain⟨its,r1,p1,_⟩:=I.tuple ha;obtain⟨its2,r2,p2,_⟩:=I.tuple hb;refine HT.JX p1 p2 (λz=>hx (r1.nil_iff.mp z)) (λz=>⟨.ref a,H,I,rfl,q1 (r2.nil_iff.mp z)⟩) (λz=>?_) (by rw[<-r1.length,<-r2.length];exact hz);refine⟨.ref s.heap.objs.size,_,I.laid (t':=s.toks) (o:=.tup (xs++ys)) (λb ob q=>zxH _ q) (zzN _) ?_,rfl,q2 (λw=>z (r2.nil_iff.mpr w)) _ (I.hok.fresh (zzN _))⟩;exact⟨by rw[zzJ];exact hz,_,r1.append r2,IsTup.new _ _⟩
end
end L2
namespace L2
open PySem PySem.Spec PyProof.Rows
def ixN(n:Nat)(i:Int):Option Nat:=if 0<=i then(if i<n then some i.toNat else none)else if -(n:Int)<=i then some (i+n).toNat else none
def atI{α:Type}(xs:List α)(i:Int):Option α:=(ixN xs.length i).bind λj=>xs[j]?
def IY(h:ixN n i=some j):seqIndex? i n=some j/\j<n /\ -(n:Int)<=i/\i<n:=by
 unfold ixN at h
 by_cases h0:0<=i
 . rw[if_pos h0]at h
   by_cases h1:i<n
   . rw[if_pos h1]at h;have e:i.toNat=j:=zzZ h;exact⟨by rw[seqIndex_of h0 h1,e],by omega,by omega,h1⟩
   . rw[if_neg h1]at h;cases h
 . rw[if_neg h0]at h
   by_cases h1 : -(n:Int)<=i
   . rw[if_pos h1]at h;have e:(i+n).toNat=j:=zzZ h;exact⟨by rw[seqIndex_neg (by omega) h1,e],by omega,h1,by omega⟩
   . rw[if_neg h1]at h;cases h
def MK(h:atI xs i=some v):∃j,seqIndex? i xs.length=some j/\xs[j]? = some v/\j<xs.length /\ -(xs.length:Int)<=i/\i<xs.length:=by
 unfold atI at h;cases e:ixN xs.length i with
 |none=>rw[e]at h;cases h
 |some j=>
  rw[e]at h;obtain⟨h1,h2,h3,h4⟩:=IY e;exact⟨j,h1,h,h2,h3,h4⟩
def UA{α:Type}{xs:List α}{j:Nat}{v:α}(h:xs[j]? = some v):atI xs (j:Int)=some v:=by
 have hj:j<xs.length:=(zzG.mp h).1;have e:ixN xs.length (j:Int)=some j:=by
  unfold ixN;rw[if_pos (by omega),if_pos (by omega)];simp
 unfold atI;rw[e];exact h
def N3(b:Expr):Prop:=∀o i,subscripted b false o i=operate [o,i] (getItem o i)
def qX(X:Cx)(r:R2):Prop:=
 ∀(value slice:Expr) (pins:List (Addr×Obj)) (s:Shared) (σ:St) (H:Hp) (x y:V) (v u:Value) (Q:VK),Inv X pins σ H s->RelV x v->RelV y u->r x y H Q->
  subscripted slice false v u=operate [v,u] (getItem v u)->wpAny (model X.prog X.w) X.A (subscriptTail value slice v u) (EP X pins σ Q) X.xe s
def nA(X:Cx)(id:String)(r:V->List V->Hp->VK->Prop):Prop:=
 ∀(pins:List (Addr×Obj)) (s:Shared) (σ:St) (H:Hp) (x:V) (xs:List V) (v:Value) (us:List Value) (Q:VK),Inv X pins σ H s->RelV x v->zO xs us->r x xs H Q->
  wpAny (model X.prog X.w) X.A (call (.builtin id) (v::us)) (EP X pins σ Q) X.xe s
section
variable{X:Cx}{a b:Expr}{ta tb:TE}{pos:Pos}
def pE(hr:qX X r)(ha:PE X a ta)(hb:PE X b tb)(hs:N3 b):PE X (.Subscript a b pos) (p3 r ta tb):=by
 intro pins s σ H Q I h;exact Subscript_ (sQ ha hb I h λv u s2 x y H2 I2 rx ry q=>hr a b pins s2 σ H2 x y v u Q I2 rx ry q (hs _ _))
def nU(K:zzA):R2:=λx y H Q=>∃p xs i v,x = .ref p/\y = .int i/\W0 K H p xs/\atI xs i=some v/\Q v H
def mR(K:zzA):R2:=λx y H Q=>∃p xs i v,x = .ref p/\y = .int i/\Q3 K H p xs/\atI xs i=some v/\Q v H
def n_:R2:=λx y H Q=>∃z i c,x = .str z/\y = .int i/\z.length<=sizeLine/\atI z.cps.toList i=some c/\Q (.str ⟨#[c]⟩) H
def IU:qX X (nU X.K):=by
 intro value slice pins s σ H x y v u Q I rx ry h hs;obtain⟨p,xs,i,z,rfl,rfl,hq,he,q⟩:=h;cases rx;obtain⟨t,rfl⟩:=ry;obtain⟨its,r,pl,hz⟩:=I.list hq;obtain⟨j,h1,h2,h3,h4,h5⟩:=MK he;obtain⟨w,ew,rw'⟩:=r.get h2;have hl:=r.length;have hn:=Q6;have fin:EP X pins σ Q w s:=⟨z,H,I,rw',q⟩
 by_cases h0:0<=i
 . have hj:i.toNat=j:=by
    rw[seqIndex_of h0 h5]at h1;exact zzZ h1
   exact item_listR pl.isList h0 (by omega) (by rw[hj];simpa using ew) fin hs
 . have hj:(i+(its.toArray.size:Int)).toNat=j:=by
    rw[seqIndex_neg (by omega) h4]at h1;rw[zzH,<-hl];exact zzZ h1
   exact subscriptTail_builtinR (x:=w) pl.isList.typeIs slot_list_getitem.lookup
    (wpAny_getItem_list_neg (Q:=λr s'=>r=w/\EP X pins σ Q r s') pl.isList (by omega) (by rw[zzH]<;>omega) (by omega) (by rw[hj];simpa using ew) ⟨rfl,fin⟩) hs
def ug:qX X (mR X.K):=by
 intro value slice pins s σ H x y v u Q I rx ry h hs;obtain⟨p,xs,i,z,rfl,rfl,hq,he,q⟩:=h;cases rx;obtain⟨t,rfl⟩:=ry;obtain⟨its,r,pl,hz⟩:=I.tuple hq;obtain⟨j,h1,h2,h3,h4,h5⟩:=MK he;obtain⟨w,ew,rw'⟩:=r.get h2;have hl:=r.length;have hn:=Q6;have fin:EP X pins σ Q w s:=⟨z,H,I,rw',q⟩;exact subscriptTail_builtinR (x:=w) pl.typeIs slot_tuple_getitem.lookup
  (getItem_tuple (j:=j) (Q:=λr s'=>r=w/\EP X pins σ Q r s') pl (by omega) (by omega) (by rw[zzH,<-hl];exact h1) (by simpa using ew) ⟨rfl,fin⟩) hs
def D1:qX X n_:=by
 intro value slice pins s σ H x y v u Q I rx ry h hs;obtain⟨z,i,c,rfl,rfl,hz,he,q⟩:=h;obtain⟨t,rfl⟩:=rx;obtain⟨t',rfl⟩:=ry;obtain⟨j,h1,h2,h3,h4,h5⟩:=MK he;have hl:z.cps.toList.length=z.length:=by simp[Str.length]
 rw[hl]at h1 h4 h5;have hn:=Q6;exact tail_any (typeIs_str s z t) slot_str_getitem.lookup (getItem_str (c:=c) (by
  have e1:decide (i < -(2 ^ 63:Int))=false:=zyG (by omega);have e2:decide (i ≥ 2 ^ 63)=false:=zyG (by omega);rw[e1,e2,Bool.or_false]) (by rw[h1];simpa using h2) ⟨.str ⟨#[c]⟩,H,I.tok _,⟨_,rfl⟩,q⟩) hs
def N9(lo hi:Option Int)(n:Nat):(sliceBounds lo hi none n).1=((HT.sIx n 0 lo:Nat):Int)/\(sliceBounds lo hi none n).2.1=((HT.sIx n n hi:Nat):Int)/\(sliceBounds lo hi none n).2.2=1:=by
 refine⟨?_, ?_,rfl⟩
 . cases lo with
   |none=>simp[sliceBounds,HT.sIx]
   |some i=>
    simp only[sliceBounds,HT.sIx,Option.getD_none,show(1:Int) > 0 by decide,if_true]
    by_cases h:i<0
    . simp only[h,if_true]<;>omega
    . simp only[h,if_false]<;>omega
 . cases hi with
   |none=>simp[sliceBounds,HT.sIx]
   |some i=>
    simp only[sliceBounds,HT.sIx,Option.getD_none,show(1:Int) > 0 by decide,if_true]
    by_cases h:i<0
    . simp only[h,if_true]<;>omega
    . simp only[h,if_false]<;>omega
def KY(its:List Value)(lo hi:Option Int):slicePick its.toArray lo hi none=((its.drop (HT.sIx its.length 0 lo)).take (HT.sIx its.length its.length hi-HT.sIx its.length 0 lo)).toArray:=by
 obtain⟨h1,h2,h3⟩:=N9 lo hi its.toArray.size;unfold slicePick;rw[h1,h2,h3];simp only[sliceRange_one,pick_run,zzH]<;>rfl
def mi(K:zzA):V->Option Int->Option Int->Hp->VK->Prop:=λx lo hi H Q=>∃a xs,x = .ref a/\W0 K H a xs/\∀p,H p=none->Q (.ref p) (upd H p (.lst (E4 xs lo hi)))
def IX:nu X (mi X.K):=by
 intro pins s σ H x v vl vu lo hi sl Q I rx hs pl pu h;obtain⟨a,xs,rfl,hx,q⟩:=h;cases rx;obtain⟨its,r,ht,hz⟩:=I.list hx;have hlen:=r.length;refine⟨"list",_,slot_list_getitem.lookup,ht.isList.typeIs, ?_⟩;refine wpAny_getItem_list_slice ht.isList hs pl pu .none (by simp) ?_ (by rw[zzH]<;>omega);rw[KY,<-hlen];refine⟨.ref s.heap.objs.size,_,I.laid (t':=s.toks) (o:=.lst (E4 xs lo hi)) (λb ob q=>zxH _ q) (zzN _) ?_,rfl,q _ (I.hok.fresh (zzN _))⟩;exact⟨zzO (PD xs lo hi) hz,_,0,(r.drop (HT.sIx xs.length 0 lo)).take (HT.sIx xs.length xs.length hi-HT.sIx xs.length 0 lo),zxJ _ rfl⟩
def UY:XO X (.builtin "len") (λxs H Q=>∃p ys,xs=[.ref p]/\(W0 X.K H p ys\/Q3 X.K H p ys)/\Q (.int ys.length) H):=by
 intro pins s σ H xs us Q I r h;obtain⟨p,ys,rfl,hq,q⟩:=h;obtain⟨u,rfl,rx⟩:=vals1 r;cases rx;have hn:=Q6
 rcases hq with hq|hq
 . obtain⟨its,r',pl,hz⟩:=I.list hq;have hlen:=r'.length;exact Calls.call_len_list pl.isList (by simp only[zzH]<;>omega) ⟨.int ys.length,H,I.tok _,⟨s.toks+1,by rw[zzH,hlen]⟩,q⟩
 . obtain⟨its,r',pl,hz⟩:=I.tuple hq;have hlen:=r'.length;exact len_tuple pl (by simp only[zzH]<;>omega) ⟨.int ys.length,H,I.tok _,⟨s.toks+1,by rw[zzH,hlen]⟩,q⟩
def N2:XO X (.builtin "len") (λxs H Q=>∃z,xs=[.str z]/\z.length<=sizeLine/\Q (.int z.length) H):=by
 intro pins s σ H xs us Q I r h;obtain⟨z,rfl,hz,q⟩:=h;obtain⟨u,rfl,t,rfl⟩:=vals1 r;have hn:=Q6;exact len_str (by omega) ⟨.int z.length,H,I.tok _,⟨_,rfl⟩,q⟩
def Uo:XO X (.type "list") (λxs H Q=>∃p ys,xs=[.ref p]/\(W0 X.K H p ys\/Q3 X.K H p ys)/\∀l,H l=none->Q (.ref l) (upd H l (.lst ys))):=by
 intro pins s σ H xs us Q I r h;obtain⟨p,ys,rfl,hq,q⟩:=h;obtain⟨u,rfl,rx⟩:=vals1 r;cases rx;have fin:∀(its:List Value),zO ys its->ys.length<=sizeLine->∀(h':Heap) (c':Nat),(∀b o',s.heap.get? b=some o'->h'.get? b=some o')->
  h'.get? s.heap.objs.size=some {cls:=.type "list",dict:=none,data:=.seq its.toArray c',slots:=#[]}->EP X pins σ Q (.ref s.heap.objs.size) {s with heap:=h'}:=λits r' hz h' c' kp e=>
  ⟨.ref s.heap.objs.size,_,I.laid (t':=s.toks) kp (zzN _) (show w9 X.prog X.w _ h' _ (.lst ys)from⟨hz,its,c',r',e⟩),rfl,q _ (I.hok.fresh (zzN _))⟩
 rcases hq with hq|hq
 . obtain⟨its,r',pl,hz⟩:=I.list hq;have hlen:=r'.length;obtain⟨o,ho,hc,n,hd⟩:=pl.isList;exact call_list_seq p (.inl rfl) ho hc hd (λh' c' kp e=>fin its r' hz h' c' kp e) (by simp only[zzH]<;>omega)
 . obtain⟨its,r',pl,hz⟩:=I.tuple hq;have hlen:=r'.length;obtain⟨o,ho,hc,n,hd⟩:=pl;exact call_list_seq p (.inr rfl) ho hc hd (λh' c' kp e=>fin its r' hz h' c' kp e) (by simp only[zzH]<;>omega)
def Qv:XO X (.type "tuple") (λxs H Q=>∃p ys,xs=[.ref p]/\((W0 X.K H p ys/\∀l,H l=none->Q (.ref l) (upd H l (.tup ys)))\/(Q3 X.K H p ys/\Q (.ref p) H))):=by
 intro pins s σ H xs us Q I r h;obtain⟨p,ys,rfl,h⟩:=h;obtain⟨u,rfl,rx⟩:=vals1 r;cases rx
 rcases h with⟨hq,q⟩|⟨hq,q⟩
 . obtain⟨its,r',pl,hz⟩:=I.list hq;have hlen:=r'.length;refine call_tuple_list pl.isList (λh' kp=>?_) (by simp only[zzH]<;>omega);have I1:Inv X pins σ H {s with heap:=h'}:=I.kept (t':=s.toks) kp;have I2:Inv X pins σ (upd H h'.objs.size (.tup ys)) {s with heap:=h'.push {cls:=.type "tuple",data:=.seq its.toArray}}:=
    I1.laid (t':=s.toks) (λb o e=>zxH _ e) (zzN _) (show w9 X.prog X.w _ _ _ (.tup ys)from⟨hz,its,r',IsTup.new _ _⟩)
   exact⟨.ref h'.objs.size,_,I2,rfl,q _ (I1.hok.fresh (zzN _))⟩
 . obtain⟨its,r',pl,hz⟩:=I.tuple hq;exact call_tuple_same pl ⟨.ref p,H,I,rfl,q⟩
def mK(K:zzA)(T:String)(x:V)(H:Hp):Prop:=match x with
 | .str _=>T="str"
 | .int _=>T="int"
 | .ref p=>(T="list"/\∃xs,W0 K H p xs)\/(T="tuple"/\∃o,K.lookup p=some o/\o.cls = .type "tuple"/\o.dict=none) \/
  (T="dict"/\((∃kvs,H p=some (.dK kvs))\/∃kvs,H p=some (.dT kvs)))\/(T="set"/\∃S n,H p=some (.set S n))
 |_=>False
def O_(I:Inv X pins σ H s)(r:RelV x v)(ty:mK X.K T x H):
 s.TypeIs v T/\∀a,v = .ref a->∃ob,s.heap.get? a=some ob/\ob.dict=none:=by
 cases x with
 |str z=>
  obtain⟨t,rfl⟩:=r;cases(show T="str" from ty);exact⟨typeIs_str s z t,λ_ e=>nomatch e⟩
 |int i=>
  obtain⟨t,rfl⟩:=r;cases(show T="int" from ty);exact⟨typeIs_int s i t,λ_ e=>nomatch e⟩
 |ref p=>
  cases r
  rcases ty with⟨rfl,xs,hq⟩|⟨rfl,o,hk,hc,hd⟩|⟨rfl,hk⟩|⟨rfl,S,n,hk⟩
  . obtain⟨its,_,pl,_⟩:=I.list hq;refine⟨pl.isList.typeIs,λa e=>?_⟩;cases e;obtain⟨o,n,e,c,hd,_⟩:=pl;exact⟨o,e,hd⟩
  . refine⟨⟨o,I.kIn p o hk,hc⟩,λa e=>?_⟩;cases e;exact⟨o,I.kIn _ o hk,hd⟩
  . have z:∃o,s.heap.get? p=some o/\o.ExactDict:=by
     rcases hk with⟨kvs,hk⟩|⟨kvs,hk⟩
     . obtain⟨_,_,_,_,o,_,_,e,ex,_⟩:=I.hok p _ hk;exact⟨o,e,ex⟩
     . obtain⟨_,_,_,_,o,_,_,e,ex,_⟩:=I.hok p _ hk;exact⟨o,e,ex⟩
    obtain⟨o,e,ex⟩:=z;refine⟨⟨o,e,ex.1⟩,λa e2=>?_⟩;cases e2;exact⟨o,e,ex.2.1⟩
  . obtain⟨o,_,_,_,e,ex,_⟩:=I.hok p _ hk;refine⟨⟨o,e,ex.1⟩,λa e2=>?_⟩;cases e2;exact⟨o,e,ex.2.1⟩
 |_=>exact False.elim ty
def lG(K:zzA)(T:String)(r:V->List V->Hp->VK->Prop)(to:TE):TE:=λσ H Q=>to σ H λx H1=>mK K T x H1/\r x [] H1 Q
def kq(K:zzA)(T:String)(r:V->List V->Hp->VK->Prop)(to:TE)(t:TA):TE:=λσ H Q=>to σ H λx H1=>mK K T x H1/\t σ H1 λxs H2=>r x xs H2 Q
variable{o e:Expr}{es:List Expr}{to:TE}{t:TA}{name:Str}{apos cpos:Pos}{T id:String}{r:V->List V->Hp->VK->Prop}
def tM(pa:PlainAttrs T)(slot:Slot T name id)(hty:typeOf (.builtin id)=pure (.type "method_descriptor"))(hm:nA X id r)(ho:PE X o to)
 (hbase:attributeBase o name X.env (eval o X.env)=eval o X.env:=by rfl) (hline:(apos.endLine==cpos.line)=true:=by rfl):PE X (.Call (.Attribute o name apos) [] [] cpos) (lG X.K T r to):=by
 intro pins s σ H Q I h;refine wpAny_Call_method0_late hbase hline (wF (ho pins s σ H _ I h) λv s1 ⟨x,H1,I1,r1,ty,q1⟩=>?_);obtain⟨h1,h2⟩:=O_ I1 r1 ty;exact⟨T,id,pa,slot,hty,h1,h2,Calls.callWith_builtin rfl (PySem.evalArgs_none (hm pins s1 σ H1 x [] v [] Q I1 r1 .nil q1))⟩
def DE(pa:PlainAttrs T)(slot:Slot T name id)(hty:typeOf (.builtin id)=pure (.type "method_descriptor"))(hm:nA X id r)(ho:PE X o to)(ha:PA X (e::es) t)
 (hbase:attributeBase o name X.env (eval o X.env)=eval o X.env:=by rfl)
 (hfew:((backTo cpos (starEach (e::es) X.env)).all (λx=>!x.1)&&(backToKw cpos (keywordEach [] X.env)).all (λx=>x.1.isSome)
  && decide ((e::es).length+([]:List Keyword).length+(if([]:List Keyword).isEmpty then 0 else 1)<30))=true:=by rfl)
 (hline:(apos.endLine==cpos.line)=true:=by rfl) (hs:starEach (e::es) X.env=(false,eval e X.env)::starEach es X.env:=by rfl) (hplain:(backTo cpos (starEach es X.env)).any (·.1)=false:=by rfl):
 PE X (.Call (.Attribute o name apos) (e::es) [] cpos) (kq X.K T r to t):=by
 intro pins s σ H Q I h;refine wpAny_Call_method_late hbase hfew hline rfl (wF (ho pins s σ H _ I h) λv s1 ⟨x,H1,I1,r1,ty,q1⟩=>?_);obtain⟨h1,h2⟩:=O_ I1 r1 ty;refine⟨T,id,pa,slot,hty,h1,h2, ?_⟩;have hA:=ha cpos pins s1 σ H1 _ I1 q1;rw[hs]at hA ⊢;refine Calls.callWith_builtin (by show(false||(backTo cpos (starEach es X.env)).any (·.1))=false;rw[hplain]<;>rfl) (Calls.evalArgs_plain ?_);exact wF hA λus s2 ⟨vs,H2,I2,r2,q2⟩=>hm pins s2 σ H2 x vs v us Q I2 r1 r2 q2
end
end L2
namespace L2
open PySem PySem.Spec PyProof.Rows
def pX(X:Cx)(id:String)(r:V->List V->Hp->VK->Prop):Prop:=
 ∀(pins:List (Addr×Obj)) (s:Shared) (σ:St) (H:Hp) (x:V) (xs:List V) (v:Value) (us:List Value) (Q:VK),Inv X pins σ H s->RelV x v->zO xs us->r x xs H Q->
  wpAny (model X.prog X.w) X.A (call (.builtin id) (v::us)) (EP X pins σ Q) X.xe s
def zO.one:∀{x:V}{us:List Value},zO [x] us->∃u,us=[u]/\RelV x u
 |_,_,.cons r .nil=>⟨_,rfl,r⟩
def zO.two:∀{x y:V}{us:List Value},zO [x,y] us->∃u v,us=[u,v]/\RelV x u/\RelV y v
 |_,_,_,.cons r (.cons q .nil)=>⟨_,_,rfl,r,q⟩
def zO.zero:∀{us:List Value},zO [] us->us=[]
 |_,.nil=>rfl
theorem zO.reverse(h:zO xs us):zO xs.reverse us.reverse:=by
 induction h with
 |nil=>exact .nil
 |cons r t ih=>rw[List.reverse_cons,List.reverse_cons];exact zO.append ih (.cons r .nil)
theorem zO.rep(h:zO xs us):∀k:Nat,zO (List.replicate k xs).flatten (List.replicate k us).flatten
 |0=>.nil
 |k+1=>by
  rw[List.replicate_succ,List.replicate_succ,List.flatten_cons,List.flatten_cons];exact zO.append h (zO.rep h k)
theorem foldl_rep(its:List Value):∀(k:Nat) (acc:List Value),
 List.foldl (λx1 x2=>x1++x2) acc.toArray (List.replicate k its.toArray)=(acc++(List.replicate k its).flatten).toArray
 |0,acc=>by simp
 |k+1,acc=>by
  have e:acc.toArray++its.toArray=(acc++its).toArray:=by simp
  have e2:(acc++its)++(List.replicate k its).flatten=acc++(List.replicate (k+1) its).flatten:=by
   rw[List.replicate_succ,List.flatten_cons,zxC]
  rw[<-e2,<-foldl_rep its k (acc++its),<-e,List.replicate_succ,List.foldl_cons]
section
variable{X:Cx}{pins:List (Addr×Obj)}{σ:St}{H:Hp}{s:Shared}{l b:Addr}{xs ys zs:List V}
def Inv.lset{its its':List Value}{n:Nat}{f:Array Value->Array Value}{t':Nat}(I:Inv X pins σ H s)(hH:H l=some (.lst xs))
 (e:s.heap.get? l=some {cls:=.type "list",data:=.seq its.toArray n}) (hf:f its.toArray=its'.toArray) (hv:zO ys its') (hz:ys.length<=sizeLine):
 Inv X pins σ (upd H l (.lst ys)) {s with heap:=s.heap.update l (Obj.mapSeq f),toks:=t'}:=by
 have q:=PySem.IsL.update e f;rw[hf]at q;refine I.write (x:=l) (e:=l) (by rw[hH];exact trivial) (.inl rfl) (λb' u hb hu=>(Heap.get?_update_other s.heap (Obj.mapSeq f) (Ne.symm hb)).trans hu) ⟨_,q⟩ ?_;exact⟨hz,its',_,hv,q⟩
def Inv.lnew(I:Inv X pins σ H s)(hv:zO ys its)(hz:ys.length<=sizeLine):
 Inv X pins σ (upd H s.heap.objs.size (.lst ys)) {s with heap:=s.heap.push {cls:=.type "list",data:=.seq its.toArray},toks:=t'}:=
 I.laid (λ_ _ q=>zxH _ q) (zzN _) ⟨hz,its,0,hv,zxJ _ rfl⟩
theorem Inv.fresh(I:Inv X pins σ H s):H s.heap.objs.size=none:=I.hok.fresh (zzN _)
def Inv.lstM(I:Inv X pins σ H s)(hH:H l=some (.lst xs)):xs.length<=sizeLine/\∃(its:List Value) (n:Nat),zO xs its/\xs.length=its.length/\s.heap.get? l=some {cls:=.type "list",data:=.seq its.toArray n}:=by
 obtain⟨z,its,n,r,e⟩:=I.hok l _ hH;exact⟨z,its,n,r,r.length,e⟩
def OJ(h:n<=sizeLine):Builtin.List.listTooLong n=false:=by
 unfold Builtin.List.listTooLong;exact zyG (by omega)
end
section
variable{X:Cx}
def Su:V->List V->Hp->VK->Prop:=λx vs H Q=>∃l xs y,x = .ref l/\vs=[y]/\H l=some (.lst xs)/\xs.length<sizeLine/\Q .non (upd H l (.lst (xs++[y])))
def yY:pX X "list.append" Su:=by
 intro pins s σ H x vs v us Q I rx rv h;obtain⟨l,xs,y,rfl,rfl,hH,hz,q⟩:=h;cases rx;obtain⟨u,rfl,ru⟩:=rv.one;obtain⟨z,its,n,r,hl,e⟩:=I.lstM hH;refine call_meets F.slot_list_append ⟨_,e,rfl⟩ F.entry_list_append (F.args_list_append_2 _ _) (PySem.list_append l its.toArray n u (by rw[zzH];omega)) ⟨e, ?_⟩;refine⟨.non,_,I.lset (its':=its++[u]) hH e (by simp) (r.append (.cons ru .nil)) ?_,rfl,q⟩;rw[zzJ,List.length_singleton];omega
def OD:V->List V->Hp->VK->Prop:=λx vs H Q=>∃l xs,x = .ref l/\vs=[]/\H l=some (.lst xs)/\Q .non (upd H l (.lst []))
def Od:pX X "list.clear" OD:=by
 intro pins s σ H x vs v us Q I rx rv h;obtain⟨l,xs,rfl,rfl,hH,q⟩:=h;cases rx;have hus:=rv.zero;subst hus;obtain⟨z,its,n,r,hl,e⟩:=I.lstM hH;refine call_meets F.slot_list_clear ⟨_,e,rfl⟩ F.entry_list_clear (F.args_list_clear_1 _) (AutoSeq1.list_clear_list_0 l its.toArray n (by rw[zzH];omega)) ⟨e, ?_⟩;exact⟨.non,_,I.lset (its':=[]) (ys:=[]) hH e rfl .nil (Nat.zero_le _),rfl,q⟩
def len_rep(xs:List α)(k:Nat):(List.replicate k xs).flatten.length=k*xs.length:=by
 induction k with
 |zero=>simp
 |succ k ih=>rw[List.replicate_succ,List.flatten_cons,zzJ,ih,Nat.succ_mul,Nat.add_comm]
end
end L2
namespace Att
open PySem PySem.W PySem.Calls PyProof.Rows
def Th:∀(ns:List Int) (vs:List Value),WellAll P h vs (ns.map WData.int)->IntsAre vs ns:=by
 intro ns
 induction ns with
 |nil=>
  intro vs w;rw[List.map_nil]at w;cases w;exact .nil
 |cons n ns ih=>
  intro vs w;rw[zyS]at w;cases w with
  |cons a b=>
   cases a;exact .cons _ _ (ih _ b)
def Hl{l:OpenLaw}{n:Nat}(hn:l.most=some n){P:Params}{h:Heap}{args:List WData}{vals:List Value}
 (hpre:l.row.toRowW.claim.pre args=true) (hwl:WellAll P h vals args):
 ∃a vs ns,vals=[Value.ref a]/\args=[WData.list (ns.map WData.int)]/\h.get? a=some {cls:=.type "list",data:=.seq vs.toArray}/\IntsAre vs ns/\ns.length<=n:=by
 have hsh:WShape.hasAll [] args [.list .int]=true:=(pre_splitW hpre).1;have hc:l.pre.holds [] {args:=args}=true:=(pre_splitW hpre).2;obtain⟨d,r,rfl,h1,h2⟩:=hasAllW_cons hsh;obtain rfl:=hasAllW_nil h2;obtain⟨xs,rfl,h3⟩:=hasW_list h1;obtain⟨ns,rfl⟩:=items_int h3;have hlen:ns.length<=n:=by
  unfold OpenLaw.pre at hc;have h4:(WTm.not (.lt (.lit (.int (n:Int))) (.len (.arg 0)))).holds [] {args:=[.list (ns.map .int)]}=true:=by
   have h4:=(holds_andW hc).1;rw[hn]at h4;exact h4
  have h5:=condW_of h4 (w_not (w_lt w_lit (w_len_list (w_arg rfl))));rw[zzB]at h5;refine Nat.le_of_not_lt λq=>?_;have q':(n:Int)<((ns.length:Nat):Int):=by omega
  first
   |(rw[zyO q']at h5;exact absurd h5 (by decide))
   |(simp at h5;omega)
 cases hwl with
 |cons w1 w2=>
  cases w2;cases w1 with
  |list ho hall=>exact⟨_,_,ns,rfl,rfl,ho,Th ns _ hall,hlen⟩
def SI(l:OpenLaw)(args:List WData):l.row.toRowW.claim.post args (.bool true) args=true:=
 postW_of (r:=l.row.toRowW) (X:=(true==true))
  (show WShape.has [] (.bool true) .bool=true by first|rfl|decide|simp[WShape.has,WShape.arms,WShape.armsAll])
  (show(WTm.eq .res (.lit (.bool true))).value [] {args:=args,res:=some (.bool true),after:=args}=some (.bool (true==true))from w_eq_bool (w_res rfl) w_lit) rfl
def Eg{l:OpenLaw}{n:Nat}{q:Program}{loose:List Str}{XP:(Str->Option Value)->Heap->Prop}{YP:World->Heap->Prop}{d:DefRec}
 (hn:l.most=some n) (hdf:d.params.defaults=[])
 (call:∀(w:World) (s₀ s₁:Shared) (mg mb:Str->Option Value) (fa:Addr) (o:Obj) (pm cd doc:Value) (a:Addr) (vs:List Value) (ns:List Int),
  Ground q loose [] XP w s₀ mg mb s₁.heap->YP w s₁.heap->
  s₁.heap.get? fa=some o->o.data = .func (docDef d.name d.params d.body d.scope pm cd doc)->s₁.heap.CodeRec cd d.name->mg d.name=some (.ref fa)->
  s₁.heap.get? a=some {cls:=.type "list",data:=.seq vs.toArray}->IntsAre vs ns->ns.length<=n->s₁.gens = #[]->
  codeAny (model l.prog w) callerA (.call (.ref fa) ⟨[.ref a],[]⟩) (λr s'=>r = .ok (.ret (.bool true))/\OldK s₁.heap s'.heap/\s'.os=s₁.os/\AllBare s'.gens) s₁):
 WalkO q loose XP YP l.row.toRowW d [] (λf vs=>PySem.call f vs):=by
 intro w s₀ s₁ mg mb G Y fa o pm cd doc dV kV ho hd hcd hD hmg hg args vals as hpre hlay hrd hwl hlo;obtain rfl:dV = .none:=Dflts.none hD hdf;obtain rfl:kV = .none:=Dflts.noKw hD;obtain⟨a,vs,ns,rfl,rfl,hobj,hints,hlen⟩:=Hl hn hpre hwl;refine enter_call (codeAny_mono (call w s₀ s₁ mg mb fa o pm cd doc a vs ns G Y ho (fd_plain hd) hcd hmg hobj hints hlen hg) λr s' hq=>?_);obtain⟨rfl,h2,h3,h4⟩:=hq;exact⟨.inl ⟨.bool true,.bool true,[],rfl,λ_=>rfl,.bool true,SI l _,λ_=>⟨List.Pairwise.nil,λ_ hm=>(nomatch hm)⟩⟩,h2,h3,h4⟩
end Att
namespace L2
open PySem PySem.Spec PyProof.Rows
theorem Lr:∀{vs:List Value}{ns:List Int},IntsAre vs ns->zO (ns.map V.int) vs
 |_,_,.nil=>.nil
 |_,_,.cons n t h=>.cons ⟨t,rfl⟩ (Lr h)
def sD(H:Hp):Prop:=∀b,H b=none\/∃o xs,H b=some (.frz o (.lst xs))
def Cy{P:Program}{w:World}{K:zzA}{mg mb:Str->Option Value}{CX:HG}{k:Nat}{fa a:Addr}{fd:FuncData}{x:Str}{sp:Sp}{s₁:Shared}{vs:List Value}{ns:List Int}
 (KX:K.In s₁.heap) (hns:s₁.heap.Ns mainGlobals mg) (hb:s₁.heap.Ns builtinsNs mb) (hbb:∀x:Str,x≠"__name__"->mb x=bootBuiltins x) (hlim:s₁.heap.NoLimit) (hg:s₁.gens = #[])
 (ha:s₁.heap.get? a=some {cls:=.type "list",data:=.seq vs.toArray}) (hi:IntsAre vs ns) (hl:ns.length<=sizeLine) (hr:Room k callerA)
 (F:∀base:Heap,K.In base->base.Ns mainGlobals mg->FnOk P w K mg base CX k fa fd [x] sp) (hbind:∀(s:Shared) (u:Value),BindsTo s fd ⟨[u],[]⟩ [(x,u)])
 (hsp:∀H:Hp,sD H->Ot K H a (ns.map V.int)->sp [.ref a] H (λv _=>v = .bl true) λ_ _ _=>False)
 (hCX:∀H e s',CX [] H s₁ (λ_ _ _=>False) e s'->False):
 codeAny (model P w) callerA (.call (.ref fa) ⟨[.ref a],[]⟩) (λr s'=>r = .ok (.ret (.bool true))/\OldK s₁.heap s'.heap/\s'.os=s₁.os/\AllBare s'.gens) s₁:=by
 have rv:=Lr hi;have lenV:=hi.length;have core:∀H:Hp,sD H->Ot K H a (ns.map V.int)->PL P w H s₁.heap->(∀b,H b≠none->b=a)->(H a≠none->K.lookup a=none)->
  codeAny (model P w) callerA (.call (.ref fa) ⟨[.ref a],[]⟩) (λr s'=>r = .ok (.ret (.bool true))/\OldK s₁.heap s'.heap/\s'.os=s₁.os/\AllBare s'.gens) s₁:=by
  intro H hO hS hok hA hK;have base_of:∀{b:Addr}{o:Obj},s₁.heap.get? b=some o->H b=none->(MJ s₁.heap H).get? b=some o:=λe n=>CB e n;have noA:∀{b:Addr}{o:Obj}{es:Array DictEntry}{ep:Nat},s₁.heap.get? b=some o->o.data = .dict es ep->H b=none:=λ{b o es ep} e d=>by
   cases q:H b with
   |none=>rfl
   |some u=>
    have e':b=a:=hA b (by rw[q];simp);subst e';rw[ha]at e;cases e;have d':Data.seq vs.toArray _=Data.dict es ep:=d;cases d'
  have nsK:∀{b:Addr}{m:Str->Option Value},s₁.heap.Ns b m->(MJ s₁.heap H).Ns b m:=λ{b m} ⟨o,es,ep,e,d,r⟩=>⟨o,es,ep,base_of e (noA e d),d,r⟩;have hKb:K.In (MJ s₁.heap H):=λb o e=>base_of (KX b o e) (by
   cases q:H b with
   |none=>rfl
   |some u=>
    have e':b=a:=hA b (by rw[q];simp);subst e';rw[hK (by rw[q];simp)]at e;cases e)
  have hM:Mod K mg (MJ s₁.heap H):=⟨hKb,nsK hns,⟨mb,nsK hb,hbb⟩,let⟨mc,h1,h2⟩:=hlim;⟨mc,nsK h1,h2⟩⟩;have e0:Env0 P w K mg (MJ s₁.heap H) callerA [] s₁ H:=⟨rfl,hM,λb o e=>JT e,Nat.le_of_eq (Hq _ _),trivial,λb hb=>absurd (show b ∈ ([]:List Addr)from hb) (by simp),hok,.of_eq hg⟩;refine codeAny_mono ((F _ hKb (nsK hns)).run callerA [] s₁ H ⟨[.ref a],[]⟩ [.ref a] [.ref a] _ _ hr e0 (hbind s₁ (.ref a)) (.cons rfl .nil) (hsp H hO hS)) λr s' h=>?_;cases r with
  |error e=>exact(hCX H e s' h).elim
  |ok fl=>
   cases fl with
   |next=>exact False.elim h
   |brk=>exact False.elim h
   |cont=>exact False.elim h
   |ret u=>
    obtain⟨v,H',os,bare,un,hok',r',q⟩:=h;have q':v = .bl true:=q;subst q';obtain rfl:u=Value.bool true:=r';refine⟨rfl,OldK.of_keep λb o e=>?_,os,bare⟩;cases q:H b with
    |none=>exact un.keep b o e q (by intro z;exact absurd (show b ∈ ([]:List Addr)from z) (by simp)) (by simp)
    |some u=>
     rcases hO b with z|⟨ob,xs,z⟩
     . rw[q]at z;cases z
     . have z2:=un.frzs b ob _ z;obtain⟨e1,_⟩:=hok b _ z;obtain⟨e2,_⟩:=hok' b _ z2;rw[e]at e1;cases e1;exact e2
 cases hk:K.lookup a with
 |some o=>
  have e:=KX a o hk;rw[ha]at e;cases e;refine core (λ_=>none) (λ_=>.inl rfl) (.inr ⟨vs.toArray,_,hk,by rw[zzH,lenV];exact hl,by simpa using rv⟩) (λb u z=>by have z':(none:Option HO)=some u:=z;cases z') (λb z=>absurd rfl z) λz=>absurd rfl z
 |none=>
  refine core (λb=>if b=a then some (.frz {cls:=.type "list",data:=.seq vs.toArray} (.lst (ns.map V.int)))else none) (λb=>?_) (.inl (.inr ⟨{cls:=.type "list",data:=.seq vs.toArray},if_pos rfl⟩)) (λb u z=>?_) (λb z=>?_) λ_=>hk
  . by_cases hb:b=a
    . exact .inr ⟨_,_,if_pos hb⟩
    . exact .inl (if_neg hb)
  . by_cases hb:b=a
    . have z':=(if_pos hb).symm.trans z;cases z';subst hb;exact⟨ha,by rw[zzB];exact hl,vs,_,rv,ha⟩
    . have z':=(if_neg hb).symm.trans z;cases z'
  . by_cases hb:b=a
    . exact hb
    . exact absurd (if_neg hb) z
end L2
namespace L2
open PySem PySem.Spec PyProof.Rows
def walk_of{l:PySem.W.OpenLaw}{n k:Nat}{q:Program}{loose:List Str}{XP:(Str->Option Value)->Heap->Prop}{YP:World->Heap->Prop}{d:DefRec}{K:Params->zzA}{CX:World->HG}{sp:World->Sp}{x:Str}
 (hn:l.most=some n) (hn2:n<=sizeLine) (hdf:d.params.defaults=[]) (hr:Room k callerA)
 (hY:∀(w:World) (h:Heap),YP w h->(K w.params).In h)
 (F:∀(w:World) (mg:Str->Option Value) (fa:Addr) (h:Heap),(K w.params).In h->h.Ns mainGlobals mg->mg d.name=some (.ref fa)->
  ∃fd:FuncData,(∀(s:Shared) (u:Value),BindsTo s fd ⟨[u],[]⟩ [(x,u)])/\
   ∀base:Heap,(K w.params).In base->base.Ns mainGlobals mg->FnOk l.prog w (K w.params) mg base (CX w) k fa fd [x] (sp w))
 (hsp:∀(w:World) (H:Hp) (a:Addr) (ns:List Int),ns.length<=n->sD H->Ot (K w.params) H a (ns.map V.int)->sp w [.ref a] H (λv _=>v = .bl true) λ_ _ _=>False)
 (hCX:∀(w:World) (H:Hp) (s:Shared) (e:Value) (s':Shared),CX w [] H s (λ_ _ _=>False) e s'->False):
 PySem.W.WalkO q loose XP YP l.row.toRowW d [] (λf vs=>PySem.call f vs):=by
 refine Att.Eg hn hdf λw s₀ s₁ mg mb fa o pm cd doc a vs ns G Y ho hd hcd hmg hobj hints hlen hg=>?_;have KX:=hY w _ Y;obtain⟨fd,hb,hF⟩:=F w mg fa _ KX G.T.g hmg;exact Cy KX G.T.g G.T.b G.T.builtins G.T.nolimit hg hobj hints (zzO hlen hn2) hr hF hb (λH hO hS=>hsp w H a ns hlen hO hS) λH e s'=>hCX w H s₁ e s'
end L2
namespace L2
open PySem PySem.Spec PyProof.Rows
abbrev xC:HG:=λ_ _ _ _ _ _=>False
abbrev E0:XK:=λ_ _ _=>False
def XI:Zd xC X E0:=λ_ _ _ _ _ _ _ h=>h.elim
structure Fun(K:zzA)(x qual:Str)(st:Stmt)(f:Addr)(fd:FuncData):Prop where
 ex:∃(oc:Value) (od:Option Addr) (kV doc pm:Value) (an:Option Addr) (cdv ct:Value) (osl:Array (Option Value)),
  fd=PySem.W.fnOf x qual (Ga st) (Yy st) (zd st) .none kV doc pm an cdv ct/\K.lookup f=some ⟨oc,od,.func fd,osl⟩/\PySem.W.codeIn K cdv qual=true
 kp:PySem.W.keepIn K (.ref f)=true
section
variable{P:Program}{w:World}{K:zzA}{mg:Str->Option Value}{base:Heap}
def Fun.ok{x qual:Str}{st:Stmt}{f:Addr}{fd:FuncData}{N ps:List Str}{k:Nat}{sp:Sp}(F:Fun K x qual st f fd)(S:FnScope N ps (zd st))(len:∀vs H Q E,sp vs H Q E->vs.length=ps.length)
 (hbody:∀(cdv:Value) (A:Around) (outer:List Env) (s:Shared) (H:Hp) (vs:List V) (Q:VK) (E:XK),Room k (A.deeper (envOfC qual (zd st) s.heap.objs.size f cdv))->sp vs H Q E->
  ∃t,Mg (Ld xC P w K mg base N qual (zd st) f cdv A outer s H E).nox (Yy st) t/\t {nx:=λ_ H'=>Q .non H',rt:=Q} (start N vs) H):FnOk P w K mg base xC (k+1) f fd ps sp:=by
 obtain⟨oc,od,kV,doc,pm,an,cdv,ct,osl,rfl,lk,hcd⟩:=F.ex;refine oi lk hcd S len λA outer s H vs Q E hr hsp=>?_;obtain⟨t,h,q⟩:=hbody cdv A outer s H vs Q E hr hsp;exact⟨t,h.nox,q⟩
def Fun.binds{x qual:Str}{st:Stmt}{f:Addr}{fd:FuncData}{ps:List Str}(F:Fun K x qual st f fd)
 (h:∀(kV doc pm:Value) (an:Option Addr) (cdv ct:Value) (us:List Value),us.length=ps.length->bindArgs (PySem.W.fnOf x qual (Ga st) (Yy st) (zd st) .none kV doc pm an cdv ct) ⟨us,[]⟩=pure (ps.zip us)):Binds K fd ps []:=by
 obtain⟨oc,od,kV,doc,pm,an,cdv,ct,osl,rfl,lk,hcd⟩:=F.ex;exact .all (h kV doc pm an cdv ct)
end
def Pb(h:n<=1000):n<sizeLine:=Nat.lt_of_le_of_lt h (by decide)
section
variable{X:Cx}
def pv(i:Nat)(hN:X.N[i]? = some x:=by rfl)(hv:nH X.env.scope x:=by first|exact Or.inl rfl|exact Or.inr (Or.inl rfl)|exact Or.inr (Or.inr rfl))(hd:(x==("__debug__":Str))=false:=by decide)
 (hcd:(x==("__classdict__":Str))=false:=by decide):PE X (.Name x pos) (Qo i):=OB hN hv hd hcd
end
end L2
end
section
namespace PF
open PySem PySem.Spec PyProof.Rows L2
abbrev St:=L2.St
structure KD where
 d:Addr->List (Key×V)->Prop
 c:Str->Addr
instance:CoeFun KD (λ_=>Addr->List (Key×V)->Prop):=⟨KD.d⟩
inductive D where
 |non|bl (b:Bool)|int (i:Int)|str (x:Str)|tup (ds:List D)|lst (ds:List D)|dct (kvs:List (Key×D))|cl (c:Str)|ob (c:Str) (ns:List Str) (ds:List D)
mutual
inductive Rp(K:zzA)(kd:KD)(O:Addr->Prop)(H:Hp):V->D->Prop
 |non:Rp K kd O H .non .non
 |bl (b:Bool):Rp K kd O H (.bl b) (.bl b)
 |int (i:Int):Rp K kd O H (.int i) (.int i)
 |str (x:Str):Rp K kd O H (.str x) (.str x)
 |tup {a:Addr}{vs:List V}{ds:List D}:¬O a->Rd H a (.tup vs)->RpL K kd O H vs ds->Rp K kd O H (.ref a) (.tup ds)
 |tupK {a:Addr}{o:Obj}{its:Array Value}{n:Nat}{vs:List V}{ds:List D}:K.lookup a=some o->o.cls = .type "tuple"->o.data = .seq its n->its.size<=sizeLine->zO vs its.toList->RpL K kd O H vs ds->Rp K kd O H (.ref a) (.tup ds)
 |lst {a:Addr}{vs:List V}{ds:List D}:¬O a->Rd H a (.lst vs)->RpL K kd O H vs ds->Rp K kd O H (.ref a) (.lst ds)
 |lstK {a:Addr}{its:Array Value}{n:Nat}{vs:List V}{ds:List D}:K.lookup a=some {cls:=.type "list",data:=.seq its n}->its.size<=sizeLine->zO vs its.toList->RpL K kd O H vs ds->Rp K kd O H (.ref a) (.lst ds)
 |dct {a:Addr}{kvs:List (Key×V)}{ds:List (Key×D)}:¬O a->Rd H a (.dK kvs)->RpM K kd O H kvs ds->Rp K kd O H (.ref a) (.dct ds)
 |dctK {a:Addr}{kvs:List (Key×V)}{ds:List (Key×D)}:kd a kvs->RpM K kd O H kvs ds->Rp K kd O H (.ref a) (.dct ds)
 |cl (c:Str):Rp K kd O H (.ref (kd.c c)) (.cl c)
 |ob {a dx:Addr}{c:Str}{ns:List Str}{vs:List V}{ds:List D}:¬O a->H a=some (.ins (kd.c c) dx (ns.zip vs))->ns.length=vs.length->RpL K kd O H vs ds->Rp K kd O H (.ref a) (.ob c ns ds)
inductive RpL(K:zzA)(kd:KD)(O:Addr->Prop)(H:Hp):List V->List D->Prop
 |nil:RpL K kd O H [] []
 |cons {v:V}{d:D}{vs:List V}{ds:List D}:Rp K kd O H v d->RpL K kd O H vs ds->RpL K kd O H (v::vs) (d::ds)
inductive RpM(K:zzA)(kd:KD)(O:Addr->Prop)(H:Hp):List (Key×V)->List (Key×D)->Prop
 |nil:RpM K kd O H [] []
 |cons {k:Key}{v:V}{d:D}{vs:List (Key×V)}{ds:List (Key×D)}:Rp K kd O H v d->RpM K kd O H vs ds->RpM K kd O H ((k,v)::vs) ((k,d)::ds)
end
structure Grow(W:Addr->Prop)(H:Hp)(W':Addr->Prop)(H':Hp):Prop where
 keep:∀b o,H b=some o->¬W b->H' b=some o
 own:∀b,W' b->W b\/H b=none
def Grow.refl:Grow W H W H:=⟨λ_ _ h _=>h,λ_ h=>.inl h⟩
def Grow.trans(a:Grow W H W1 H1)(b:Grow W1 H1 W2 H2):Grow W H W2 H2 where
 keep:=λx o h n=>b.keep x o (a.keep x o h n) λq=>(a.own x q).elim n λz=>by rw[z]at h;cases h
 own:=λx q=>by
  rcases b.own x q with h|h
  . exact a.own x h
  . cases e:H x with
    |none=>exact .inr rfl
    |some o=>
     refine .inl (Classical.byContradiction λn=>?_);rw[a.keep x o e n]at h;cases h
def Grow.less(h:∀a,W' a->W a):Grow W H W' H:=⟨λ_ _ q _=>q,λb q=>.inl (h b q)⟩
abbrev W_(F W:Addr->Prop):Addr->Prop:=λa=>F a\/W a
section
variable{K:zzA}{kd:KD}{F W W':Addr->Prop}{H H':Hp}
def Uk(g:Grow W H W' H')(n:¬W a)(h:Rd H a u):Rd H' a u:=by
 rcases h with h|⟨o,h⟩
 . exact .inl (g.keep _ _ h n)
 . exact .inr ⟨o,g.keep _ _ h n⟩
def JG(h:Rd H a u):H a≠none:=by
 rcases h with h|⟨o,h⟩<;>(rw[h];simp)
def UJ(g:Grow W H W' H')(n:¬W_ F W a)(h:Rd H a u):¬W_ F W' a:=λq=>
 q.elim (λz=>n (.inl z)) λz=>(g.own a z).elim (λy=>n (.inr y)) λy=>JG h y
def Rp.grow(g:Grow W H W' H'){v:V}{d:D}(h:Rp K kd (W_ F W) H v d):Rp K kd (W_ F W') H' v d:=
 Rp.rec (motive_1:=λv d _=>Rp K kd (W_ F W') H' v d) (motive_2:=λvs ds _=>RpL K kd (W_ F W') H' vs ds) (motive_3:=λvs ds _=>RpM K kd (W_ F W') H' vs ds) .non .bl .int .str (λn h _ r=>.tup (UJ g n h) (Uk g (λz=>n (.inr z)) h) r) (λa b c e f _ r=>.tupK a b c e f r) (λn h _ r=>.lst (UJ g n h) (Uk g (λz=>n (.inr z)) h) r) (λa e f _ r=>.lstK a e f r) (λn h _ r=>.dct (UJ g n h) (Uk g (λz=>n (.inr z)) h) r) (λh _ r=>.dctK h r) .cl (λn h l _ r=>.ob (UJ g n (.inl h)) (g.keep _ _ h λz=>n (.inr z)) l r) .nil (λ_ _ h r=>.cons h r) .nil (λ_ _ h r=>.cons h r) h
def RpL.ind{O:Addr->Prop}{P:List V->List D->Prop}(h0:P [] [])(h1:∀{v d vs ds},Rp K kd O H v d->RpL K kd O H vs ds->P vs ds->P (v::vs) (d::ds)){vs:List V}{ds:List D}(h:RpL K kd O H vs ds):P vs ds:=
 RpL.rec (motive_1:=λ_ _ _=>True) (motive_2:=λvs ds _=>P vs ds) (motive_3:=λ_ _ _=>True) ⟨⟩ (λ_=>⟨⟩) (λ_=>⟨⟩) (λ_=>⟨⟩) (λ_ _ _ _=>⟨⟩) (λ_ _ _ _ _ _ _=>⟨⟩) (λ_ _ _ _=>⟨⟩) (λ_ _ _ _ _=>⟨⟩) (λ_ _ _ _=>⟨⟩) (λ_ _ _=>⟨⟩) (λ_=>⟨⟩) (λ_ _ _ _ _=>⟨⟩) h0 (λa r _ ih=>h1 a r ih) ⟨⟩ (λ_ _ _ _=>⟨⟩) h
def RpM.ind{O:Addr->Prop}{P:List (Key×V)->List (Key×D)->Prop}(h0:P [] [])(h1:∀{k v d vs ds},Rp K kd O H v d->RpM K kd O H vs ds->P vs ds->P ((k,v)::vs) ((k,d)::ds)){vs:List (Key×V)}{ds:List (Key×D)}(h:RpM K kd O H vs ds):P vs ds:=
 RpM.rec (motive_1:=λ_ _ _=>True) (motive_2:=λ_ _ _=>True) (motive_3:=λvs ds _=>P vs ds) ⟨⟩ (λ_=>⟨⟩) (λ_=>⟨⟩) (λ_=>⟨⟩) (λ_ _ _ _=>⟨⟩) (λ_ _ _ _ _ _ _=>⟨⟩) (λ_ _ _ _=>⟨⟩) (λ_ _ _ _ _=>⟨⟩) (λ_ _ _ _=>⟨⟩) (λ_ _ _=>⟨⟩) (λ_=>⟨⟩) (λ_ _ _ _ _=>⟨⟩) ⟨⟩ (λ_ _ _ _=>⟨⟩) h0 (λa r _ ih=>h1 a r ih) h
theorem RpL.grow(g:Grow W H W' H'){vs:List V}{ds:List D}(h:RpL K kd (W_ F W) H vs ds):RpL K kd (W_ F W') H' vs ds:=RpL.ind .nil (λa _ r=>.cons (Rp.grow g a) r) h
theorem RpM.grow(g:Grow W H W' H'){vs:List (Key×V)}{ds:List (Key×D)}(h:RpM K kd (W_ F W) H vs ds):RpM K kd (W_ F W') H' vs ds:=RpM.ind .nil (λa _ r=>.cons (Rp.grow g a) r) h
def Rp.less{O O':Addr->Prop}(g:∀a,O' a->O a){v:V}{d:D}(h:Rp K kd O H v d):Rp K kd O' H v d:=
 Rp.rec (motive_1:=λv d _=>Rp K kd O' H v d) (motive_2:=λvs ds _=>RpL K kd O' H vs ds) (motive_3:=λvs ds _=>RpM K kd O' H vs ds) .non .bl .int .str (λn h _ r=>.tup (λz=>n (g _ z)) h r) (λa b c e f _ r=>.tupK a b c e f r) (λn h _ r=>.lst (λz=>n (g _ z)) h r) (λa e f _ r=>.lstK a e f r) (λn h _ r=>.dct (λz=>n (g _ z)) h r) (λh _ r=>.dctK h r) .cl (λn h l _ r=>.ob (λz=>n (g _ z)) h l r) .nil (λ_ _ h r=>.cons h r) .nil (λ_ _ h r=>.cons h r) h
theorem RpL.less{O O':Addr->Prop}(g:∀a,O' a->O a){vs:List V}{ds:List D}(h:RpL K kd O H vs ds):RpL K kd O' H vs ds:=RpL.ind .nil (λa _ r=>.cons (Rp.less g a) r) h
theorem RpM.less{O O':Addr->Prop}(g:∀a,O' a->O a){vs:List (Key×V)}{ds:List (Key×D)}(h:RpM K kd O H vs ds):RpM K kd O' H vs ds:=RpM.ind .nil (λa _ r=>.cons (Rp.less g a) r) h
theorem RpL.length{O:Addr->Prop}{vs:List V}{ds:List D}(h:RpL K kd O H vs ds):vs.length=ds.length:=RpL.ind (P:=λa b=>a.length=b.length) rfl (λ_ _ r=>congrArg (· + 1) r) h
theorem RpM.length{O:Addr->Prop}{vs:List (Key×V)}{ds:List (Key×D)}(h:RpM K kd O H vs ds):vs.length=ds.length:=RpM.ind (P:=λa b=>a.length=b.length) rfl (λ_ _ r=>congrArg (· + 1) r) h
def RpL.get{O:Addr->Prop}{vs:List V}{ds:List D}{i:Nat}{d:D}(h:RpL K kd O H vs ds)(e:ds[i]? = some d):∃v,vs[i]? = some v/\Rp K kd O H v d:=
 RpL.ind (P:=λb c=>∀i,c[i]? = some d->∃v,b[i]? = some v/\Rp K kd O H v d) (λi e=>by rw[List.getElem?_nil]at e;cases e) (λa _ f i e=>by
  cases i with
  |zero=>cases e;exact⟨_,rfl,a⟩
  |succ i=>exact f i e) h i e
def RpL.append{O:Addr->Prop}{vs ws:List V}{ds es:List D}(h:RpL K kd O H vs ds)(r:RpL K kd O H ws es):RpL K kd O H (vs++ws) (ds++es):=RpL.ind (P:=λb c=>RpL K kd O H (b++ws) (c++es)) r (λa _ t=>.cons a t) h
theorem RpL.take{O:Addr->Prop}{vs:List V}{ds:List D}(n:Nat)(h:RpL K kd O H vs ds):RpL K kd O H (vs.take n) (ds.take n):=
 RpL.ind (P:=λb c=>∀n,RpL K kd O H (b.take n) (c.take n)) (λn=>by rw[List.take_nil,List.take_nil];exact .nil) (λa _ d n=>by
  cases n with
  |zero=>exact .nil
  |succ n=>exact .cons a (d n)) h n
theorem RpL.drop{O:Addr->Prop}{vs:List V}{ds:List D}(n:Nat)(h:RpL K kd O H vs ds):RpL K kd O H (vs.drop n) (ds.drop n):=
 RpL.ind (P:=λc d=>∀n,RpL K kd O H (c.drop n) (d.drop n)) (λn=>by rw[List.drop_nil,List.drop_nil];exact .nil) (λa b e n=>by
  cases n with
  |zero=>exact .cons a b
  |succ n=>exact e n) h n
theorem RpL.rep(h:RpL K kd O H vs ds):∀k:Nat,RpL K kd O H (List.replicate k vs).flatten (List.replicate k ds).flatten
 |0=>.nil
 |k+1=>by
  rw[List.replicate_succ,List.replicate_succ,List.flatten_cons,List.flatten_cons];exact h.append (RpL.rep h k)
end
inductive Vw(K:zzA)(kd:KD)(O:Addr->Prop)(H:Hp):V->D->Prop
 |non:Vw K kd O H .non .non
 |bl (b:Bool):Vw K kd O H (.bl b) (.bl b)
 |int (i:Int):Vw K kd O H (.int i) (.int i)
 |str (x:Str):Vw K kd O H (.str x) (.str x)
 |tup {a:Addr}{vs:List V}{ds:List D}:Rp K kd O H (.ref a) (.tup ds)->Q3 K H a vs->RpL K kd O H vs ds->Vw K kd O H (.ref a) (.tup ds)
 |lst {a:Addr}{vs:List V}{ds:List D}:Ot K H a vs->RpL K kd O H vs ds->Vw K kd O H (.ref a) (.lst ds)
 |dct {a:Addr}{kvs:List (Key×V)}{ds:List (Key×D)}:(Rd H a (.dK kvs)\/kd a kvs)->RpM K kd O H kvs ds->Vw K kd O H (.ref a) (.dct ds)
 |cl (c:Str):Vw K kd O H (.ref (kd.c c)) (.cl c)
 |ob {a dx:Addr}{c:Str}{ns:List Str}{vs:List V}{ds:List D}:H a=some (.ins (kd.c c) dx (ns.zip vs))->ns.length=vs.length->RpL K kd O H vs ds->Vw K kd O H (.ref a) (.ob c ns ds)
def Rp.vw{K:zzA}{kd:KD}{O:Addr->Prop}{H:Hp}{v:V}{d:D}(h:Rp K kd O H v d):Vw K kd O H v d:=by
 cases h with
 |non=>exact .non
 |bl b=>exact .bl b
 |int i=>exact .int i
 |str x=>exact .str x
 |tup n h r=>exact .tup (.tup n h r) (.inl h) r
 |tupK a b c e f r=>exact .tup (.tupK a b c e f r) (.inr ⟨_,_,_,a,b,c,e,f⟩) r
 |lst n h r=>exact .lst (.inl h) r
 |lstK a e f r=>exact .lst (.inr ⟨_,_,a,e,f⟩) r
 |dct n h r=>exact .dct (.inl h) r
 |dctK h r=>exact .dct (.inr h) r
 |cl c=>exact .cl c
 |ob n h l r=>exact .ob h l r
def _root_.L2.Ot.sq{K:zzA}{H:Hp}{a:Addr}{xs:List V}(h:Ot K H a xs):W0 K H a xs:=by
 rcases h with h|⟨b,n,k,z,r⟩
 . exact .inl h
 . exact .inr ⟨_,b,n,k,rfl,rfl,rfl,z,r⟩
def FS(I:Inv X pins σ H s)(h:Ot X.K H a xs):
 xs.length<=sizeLine/\∃(its:List Value) (n:Nat),zO xs its/\s.heap.get? a=some {cls:=.type "list",data:=.seq its.toArray n}:=by
 rcases h with h|⟨b,n,k,z,r⟩
 . exact h.ok I.hok
 . refine⟨by rw[r.length];simpa using z,b.toList,n,r,by simpa using I.kIn _ _ k⟩
def Rp.cl_eq{K:zzA}{kd:KD}{O:Addr->Prop}{H:Hp}{C:Addr}{c:Str}(h:Rp K kd O H (.ref C) (.cl c)):C=kd.c c:=by
 cases h;rfl
def zv:D->Bool
 | .non=>true | .bl _=>true | .int _=>true | .str _=>true|_=>false
def Rp.flat{K:zzA}{kd:KD}{O O':Addr->Prop}{H H':Hp}{v:V}{d:D}(h:Rp K kd O H v d)(e:zv d=true):Rp K kd O' H' v d:=by
 cases h with
 |non=>exact .non
 |bl b=>exact .bl b
 |int i=>exact .int i
 |str x=>exact .str x
 |_=>cases e
inductive Kind where
 |ls|tp|dc (ks:List Key)|ob (c:Str) (ns:List Str)
inductive O where
 |lf (st:Bool) (d:D)|nd (k:Kind) (os:List O)
abbrev MZ(st:Bool)(d:D):O:=.lf (zv d||st) d
mutual
inductive Ro(L:Bool->V->D->Prop)(N:Addr->Prop)(H:Hp):V->O->List Addr->Prop
 |lf {st:Bool}{v:V}{d:D}:L st v d->Ro L N H v (.lf st d) []
 |ls {a:Addr}{vs:List V}{os:List O}{fp:List Addr}:H a=some (.lst vs)->RoL L N H vs os fp->Ro L N H (.ref a) (.nd .ls os) (a::fp)
 |dc {a:Addr}{ks:List Key}{vs:List V}{os:List O}{fp:List Addr}:H a=some (.dK (ks.zip vs))->ks.length=vs.length->RoL L N H vs os fp->Ro L N H (.ref a) (.nd (.dc ks) os) (a::fp)
 |ob {a dx C:Addr}{c:Str}{ns:List Str}{vs:List V}{os:List O}{fp:List Addr}:L true (.ref C) (.cl c)->H a=some (.ins C dx (ns.zip vs))->ns.length=vs.length->RoL L N H vs os fp->Ro L N H (.ref a) (.nd (.ob c ns) os) (a::fp)
 |tp {a:Addr}{vs:List V}{os:List O}{fp:List Addr}:N a->H a=some (.tup vs)->RoL L N H vs os fp->Ro L N H (.ref a) (.nd .tp os) fp
inductive RoL(L:Bool->V->D->Prop)(N:Addr->Prop)(H:Hp):List V->List O->List Addr->Prop
 |nil:RoL L N H [] [] []
 |cons {v:V}{o:O}{vs:List V}{os:List O}{fp fq:List Addr}:Ro L N H v o fp->RoL L N H vs os fq->RoL L N H (v::vs) (o::os) (fp++fq)
end
mutual
def O.toD:O->D
 | .lf _ d=>d
 | .nd .ls os=>.lst (O.toDs os)
 | .nd .tp os=>.tup (O.toDs os)
 | .nd (.dc ks) os=>.dct (ks.zip (O.toDs os))
 | .nd (.ob c ns) os=>.ob c ns (O.toDs os)
def O.toDs:List O->List D
 | []=>[]
 |o::r=>o.toD::O.toDs r
end
mutual
def O.str:O->Bool
 | .lf st _=>st
 | .nd _ os=>O.strs os
def O.strs:List O->Bool
 | []=>true
 |o::r=>o.str&&O.strs r
end
section
variable{L L':Bool->V->D->Prop}{N N':Addr->Prop}{H H':Hp}{K:zzA}{kd:KD}{Ob:Addr->Prop}
def Ro.mono(hL:∀st v d,L st v d->L' st v d)(hN:∀a vs,N a->H a=some (.tup vs)->N' a/\H' a=some (.tup vs)){v:V}{o:O}{fp:List Addr}(k:∀a ∈ fp,∀u,H a=some u->H' a=some u)(h:Ro L N H v o fp):Ro L' N' H' v o fp:=
 Ro.rec (motive_1:=λv o fp _=>(∀a ∈ fp,∀u,H a=some u->H' a=some u)->Ro L' N' H' v o fp) (motive_2:=λvs os fp _=>(∀a ∈ fp,∀u,H a=some u->H' a=some u)->RoL L' N' H' vs os fp)
  (λh _=>.lf (hL _ _ _ h)) (λh _ r k=>.ls (k _ zzF _ h) (r λa m=>k a (zzD _ m))) (λh l _ r k=>.dc (k _ zzF _ h) l (r λa m=>k a (zzD _ m))) (λc h l _ r k=>.ob (hL _ _ _ c) (k _ zzF _ h) l (r λa m=>k a (zzD _ m))) (λn h _ r k=>.tp (hN _ _ n h).1 (hN _ _ n h).2 (r k))
  (λ_=>.nil) (λ_ _ h r k=>.cons (h λa m=>k a (zzP _ m)) (r λa m=>k a (zzL _ m))) h k
def RoL.ind{P:List V->List O->List Addr->Prop}(h0:P [] [] [])(h1:∀{v o vs os fp fq},Ro L N H v o fp->RoL L N H vs os fq->P vs os fq->P (v::vs) (o::os) (fp++fq)){vs:List V}{os:List O}{fp:List Addr}(h:RoL L N H vs os fp):P vs os fp:=
 RoL.rec (motive_1:=λ_ _ _ _=>True) (motive_2:=λvs os fp _=>P vs os fp) (λ_=>⟨⟩) (λ_ _ _=>⟨⟩) (λ_ _ _ _=>⟨⟩) (λ_ _ _ _ _=>⟨⟩) (λ_ _ _ _=>⟨⟩) h0 (λa r _ ih=>h1 a r ih) h
theorem RoL.mono(hL:∀st v d,L st v d->L' st v d)(hN:∀a vs,N a->H a=some (.tup vs)->N' a/\H' a=some (.tup vs)){vs:List V}{os:List O}{fp:List Addr}(k:∀a ∈ fp,∀u,H a=some u->H' a=some u)(h:RoL L N H vs os fp):RoL L' N' H' vs os fp:=
 RoL.ind (P:=λc e b=>(∀a ∈ b,∀u,H a=some u->H' a=some u)->RoL L' N' H' c e b) (λ_=>.nil) (λh _ r k=>.cons (Ro.mono hL hN (λa m=>k a (zzP _ m)) h) (r λa m=>k a (zzL _ m))) h k
theorem T_:∀{ks:List Key}{vs:List V}{ds:List D},RpL K kd Ob H vs ds->ks.length=vs.length->RpM K kd Ob H (ks.zip vs) (ks.zip ds)
 | [],_,_,_,_=>.nil
 |_::_,_,_,.nil,e=>by simp at e
 |_::_,_,_,.cons h r,e=>.cons h (T_ r (by simpa using e))
def Ro.rp(b:Bool)(hL:∀st v d,(b=true->st=true)->L st v d->Rp K kd Ob H v d)(hN:∀a,N a->¬Ob a){v:V}{o:O}{fp:List Addr}(s:b=true->o.str=true)(k:∀a ∈ fp,¬Ob a)(h:Ro L N H v o fp):Rp K kd Ob H v o.toD:=
 Ro.rec (motive_1:=λv o f _=>(b=true->o.str=true)->(∀a ∈ f,¬Ob a)->Rp K kd Ob H v o.toD) (motive_2:=λi g f _=>(b=true->O.strs g=true)->(∀a ∈ f,¬Ob a)->RpL K kd Ob H i (O.toDs g))
  (λh s _=>hL _ _ _ s h) (λh _ r s k=>.lst (k _ zzF) (.inl h) (r s λa m=>k a (zzD _ m))) (λh l _ r s k=>.dct (k _ zzF) (.inl h) (T_ (r s λa m=>k a (zzD _ m)) l)) (λc h l _ r s k=>by
   have e:=(hL _ _ _ (λ_=>rfl) c).cl_eq;subst e;exact .ob (k _ zzF) h l (r s λa m=>k a (zzD _ m))) (λn h _ r s k=>.tup (hN _ n) (.inl h) (r s k))
  (λ_ _=>.nil) (λ_ _ h r s k=>.cons (h (λz=>((zyC _ _).mp (s z)).1) λa m=>k a (zzP _ m)) (r (λz=>((zyC _ _).mp (s z)).2) λa m=>k a (zzL _ m))) h s k
theorem RoL.rp(b:Bool)(hL:∀st v d,(b=true->st=true)->L st v d->Rp K kd Ob H v d)(hN:∀a,N a->¬Ob a){vs:List V}{os:List O}{fp:List Addr}(s:b=true->O.strs os=true)(k:∀a ∈ fp,¬Ob a)(h:RoL L N H vs os fp):RpL K kd Ob H vs (O.toDs os):=
 RoL.ind (P:=λe c f=>(b=true->O.strs c=true)->(∀a ∈ f,¬Ob a)->RpL K kd Ob H e (O.toDs c)) (λ_ _=>.nil) (λh _ r s k=>.cons (Ro.rp b hL hN (λz=>((zyC _ _).mp (s z)).1) (λa m=>k a (zzP _ m)) h) (r (λz=>((zyC _ _).mp (s z)).2) λa m=>k a (zzL _ m))) h s k
theorem RoL.length{vs:List V}{os:List O}{fp:List Addr}(h:RoL L N H vs os fp):vs.length=os.length:=RoL.ind (P:=λa b _=>a.length=b.length) rfl (λ_ _ r=>congrArg (· + 1) r) h
theorem Y4:∀os:List O,(O.toDs os).length=os.length
 | []=>rfl
 |_::r=>congrArg (· + 1) (Y4 r)
def RoL.append{vs ws:List V}{os ps:List O}{f g:List Addr}(h:RoL L N H vs os f)(r:RoL L N H ws ps g):RoL L N H (vs++ws) (os++ps) (f++g):=RoL.ind (P:=λa b f=>RoL L N H (a++ws) (b++ps) (f++g)) r (λh _ t=>by rw[zxC];exact .cons h t) h
def RoL.one(h:Ro L N H v o f):RoL L N H [v] [o] f:=by
 have:=RoL.cons h (RoL.nil (L:=L) (N:=N) (H:=H));rw[zyE]at this;exact this
def RoL.part(k:Nat):∀{vs:List V}{os:List O}{fp:List Addr},RoL L N H vs os fp->∃f g,fp=f++g/\RoL L N H (vs.take k) (os.take k) f/\RoL L N H (vs.drop k) (os.drop k) g:=by
 induction k with
 |zero=>intro b c a h;exact⟨[],a,rfl,.nil,h⟩
 |succ k d=>
  intro b c a h;cases h with
  |nil=>exact⟨[],[],rfl,.nil,.nil⟩
  |cons h r=>
   obtain⟨f,g,rfl,e,i⟩:=d r;exact⟨_,g,(zxC _ _ _).symm,.cons h e,i⟩
end
abbrev AS:=List (Option O)
abbrev Ad:=Nat->List Addr
def Gw(T:List Addr)(ad:Ad):Addr->Prop:=λa=>a ∈ T\/∃i,a ∈ ad i
abbrev Lv(F B G:Addr->Prop)(st:Bool):Addr->Prop:=W_ (λa=>(st=true/\F a)\/B a) G
abbrev Lf(K:zzA)(kd:KD)(F B G:Addr->Prop)(H:Hp):Bool->V->D->Prop:=λst v d=>Rp K kd (Lv F B G st) H v d
abbrev Nf(F B G:Addr->Prop):Addr->Prop:=λa=>¬Lv F B G true a
abbrev ZN(K:zzA)(kd:KD)(F B G:Addr->Prop)(H:Hp):V->O->List Addr->Prop:=Ro (Lf K kd F B G H) (Nf F B G) H
abbrev vB(K:zzA)(kd:KD)(F B G:Addr->Prop)(H:Hp):List V->List O->List Addr->Prop:=RoL (Lf K kd F B G H) (Nf F B G) H
def Kk(K:zzA)(kd:KD)(F B G:Addr->Prop)(H:Hp):Option O->Option (Option V)->List Addr->Prop
 |none,_,fp=>fp=[]
 |some o,s,fp=>∃v,s=some (some v)/\ZN K kd F B G H v o fp
structure Rel(K:zzA)(kd:KD)(F B:Addr->Prop)(T:List Addr)(ad:Ad)(as:AS)(σ:St)(H:Hp):Prop where
 len:as.length=σ.length
 out:∀i,as.length<=i->ad i=[]
 nd:∀i,(ad i).Nodup
 inj:∀i j a,a ∈ ad i->a ∈ ad j->i=j
 tnd:T.Nodup
 dis:∀i a,a ∈ ad i->a ∉ T
 ftr:∀a,F a->H a≠none
 btr:∀a,B a->H a≠none/\¬F a/\¬Gw T ad a
 gtr:∀a,Gw T ad a->H a≠none/\¬F a
 sl:∀i s,as[i]? = some s->Kk K kd F B (Gw T ad) H s σ[i]? (ad i)
inductive RV where
 |ow (o:O)|bo (i:Nat)
def xW(K:zzA)(kd:KD)(F B:Addr->Prop)(T:List Addr)(ad:Ad)(σ:St)(H:Hp)(v:V):RV->Prop
 | .ow o=>ZN K kd F B (Gw T ad) H v o T
 | .bo i=>T=[]/\σ[i]? = some (some v)
def O.frz(o:O):O:=.lf o.str o.toD
def RV.frz:RV->RV
 | .ow o=>.ow o.frz
 | .bo i=>.bo i
def O.isLf:O->Bool
 | .lf _ _=>true
 |_=>false
def O.kl:O->Option Bool
 | .lf st _=>some st
 | .nd _ os=>if os.all O.isLf=true then some (O.strs os)else none
noncomputable def RV.view(as:AS):RV->Option (D×Option Bool)
 | .ow o=>some (o.toD,some o.str)
 | .bo i=>match as[i]? with
  |some (some o)=>some (o.toD,o.kl)
  |_=>none
def P5(F B G:Addr->Prop):Option Bool->Addr->Prop
 |some st=>Lv F B G st
 |none=>λ_=>False
section
variable{K:zzA}{kd:KD}{F B F' B':Addr->Prop}{G G':Addr->Prop}{T T':List Addr}{ad ad1:Ad}{as as1:AS}{σ:St}{H H1 H':Hp}{v:V}{r:RV}{o:O}{fp:List Addr}{vs:List V}{os:List O}
theorem ZN.grow(g:Grow G H G' H')(k:∀a ∈ fp,∀u,H a=some u->H' a=some u)(h:ZN K kd F B G H v o fp):ZN K kd F B G' H' v o fp:=
 Ro.mono (λst v d r=>Rp.grow g r) (λa vs n e=>⟨λz=>z.elim (λy=>n (.inl y)) λy=>(g.own a y).elim (λw=>n (.inr w)) λw=>(by rw[w]at e;cases e),g.keep a _ e (λw=>n (.inr w))⟩) k h
theorem vB.grow(g:Grow G H G' H')(k:∀a ∈ fp,∀u,H a=some u->H' a=some u)(h:vB K kd F B G H vs os fp):vB K kd F B G' H' vs os fp:=
 RoL.mono (λst v d r=>Rp.grow g r) (λa vs n e=>⟨λz=>z.elim (λy=>n (.inl y)) λy=>(g.own a y).elim (λw=>n (.inr w)) λw=>(by rw[w]at e;cases e),g.keep a _ e (λw=>n (.inr w))⟩) k h
def ZN.lv(g:∀st a,Lv F' B' G' st a->Lv F B G st a)(h:ZN K kd F B G H v o fp):ZN K kd F' B' G' H v o fp:=
 Ro.mono (λst v d r=>r.less (g st)) (λa vs n e=>⟨λz=>n (g true a z),e⟩) (λ_ _ _ e=>e) h
def vB.lv(g:∀st a,Lv F' B' G' st a->Lv F B G st a)(h:vB K kd F B G H vs os fp):vB K kd F' B' G' H vs os fp:=
 RoL.mono (λst v d r=>r.less (g st)) (λa vs n e=>⟨λz=>n (g true a z),e⟩) (λ_ _ _ e=>e) h
def ZN.less(g:∀a,G' a->G a)(h:ZN K kd F B G H v o fp):ZN K kd F B G' H v o fp:=ZN.lv (λ_ a z=>z.elim .inl λy=>.inr (g a y)) h
def Gw.drop:∀a,Gw [] ad a->Gw T ad a:=λ_ h=>h.elim (λz=>nomatch z) .inr
def Rel.trk(R:Rel K kd F B T ad as σ H)(st:Bool):∀a,Lv F B (Gw T ad) st a->H a≠none:=λa h=>by
 rcases h with(h|h)|h
 . exact R.ftr a h.2
 . exact(R.btr a h).1
 . exact(R.gtr a h).1
def Rel.tr(R:Rel K kd F B T ad as σ H)(lv:Option Bool):∀a,P5 F B (Gw T ad) lv a->H a≠none:=λa h=>by
 cases lv with
 |none=>exact h.elim
 |some st=>exact R.trk st a h
theorem Kk.lv{s:Option O}{x:Option (Option V)}(g:∀st a,Lv F' B' G' st a->Lv F B G st a)(h:Kk K kd F B G H s x fp):Kk K kd F' B' G' H s x fp:=by
 cases s with
 |none=>exact h
 |some o=>obtain⟨v,e,r⟩:=h;exact⟨v,e,ZN.lv g r⟩
def Kk.less{s:Option O}{x:Option (Option V)}(g:∀a,G' a->G a)(h:Kk K kd F B G H s x fp):Kk K kd F B G' H s x fp:=h.lv (λ_ a z=>z.elim .inl λy=>.inr (g a y))
theorem Kk.grow{s:Option O}{x:Option (Option V)}(g:Grow G H G' H')(k:∀a ∈ fp,∀u,H a=some u->H' a=some u)(h:Kk K kd F B G H s x fp):Kk K kd F B G' H' s x fp:=by
 cases s with
 |none=>exact h
 |some o=>obtain⟨v,e,r⟩:=h;exact⟨v,e,ZN.grow g k r⟩
theorem Rel.drop(R:Rel K kd F B T ad as σ H):Rel K kd F B [] ad as σ H where
 len:=R.len
 out:=R.out
 nd:=R.nd
 inj:=R.inj
 tnd:=zyJ
 dis:=λ_ _ _ z=>nomatch z
 ftr:=R.ftr
 btr:=λa h=>let⟨h1,h2,h3⟩:=R.btr a h;⟨h1,h2,λz=>h3 (Gw.drop a z)⟩
 gtr:=λa h=>R.gtr a (Gw.drop a h)
 sl:=λi s e=>(R.sl i s e).less Gw.drop
def Fy(R:Rel K kd F B T ad as σ H)(h:ZN K kd F B (Gw T ad) H v o T):Rp K kd (Lv F B (Gw [] ad) o.str) H v o.toD:=
 Ro.rp o.str (λst v d hs r=>r.less λa z=>z.elim (λy=>.inl (y.elim (λx=>.inl ⟨hs x.1,x.2⟩) .inr)) λy=>.inr (Gw.drop a y))
  (λa n z=>n (z.elim (λy=>.inl (y.elim (λx=>.inl ⟨rfl,x.2⟩) .inr)) λy=>.inr (Gw.drop a y))) id
  (λa m z=>by
   rcases z with(z|z)|z|⟨i,z⟩
   . exact(R.gtr a (.inl m)).2 z.2
   . exact(R.btr a z).2.2 (.inl m)
   . cases z
   . exact R.dis i a z m) h
def xW.drop(R:Rel K kd F B T ad as σ H)(h:xW K kd F B T ad σ H v r):xW K kd F B [] ad σ H v r.frz:=by
 cases r with
 |ow o=>exact .lf (Fy R h)
 |bo i=>exact⟨rfl,h.2⟩
theorem xW.grow(g:Grow (Gw [] ad) H (Gw [] ad1) H1)(h:xW K kd F B [] ad σ H v r):xW K kd F B [] ad1 σ H1 v r:=by
 cases r with
 |ow o=>exact ZN.grow g (λ_ m=>nomatch m) h
 |bo i=>exact h
def Oa{vs:List V}{os:List O}{fp:List Addr}(h:vB K kd F B G H vs os fp):os.all O.isLf=true->fp=[]:=
 RoL.ind (P:=λ_ os fp=>os.all O.isLf=true->fp=[]) (λ_=>rfl) (λh _ ih e=>by
  rw[List.all_cons,zyC]at e;rw[ih e.2,zyE];cases h with
  |lf=>rfl
  |ls=>cases e.1
  |dc=>cases e.1
  |ob=>cases e.1
  |tp=>cases e.1) h
def US{st:Bool}{b:Bool}(hs:b=true->st=true):∀a,Lv F B G b a->Lv F B G st a:=λa z=>z.elim (λy=>.inl (y.elim (λx=>.inl ⟨hs x.1,x.2⟩) .inr)) .inr
def Pl(h:vB K kd F B G H vs os fp)(e:os.all O.isLf=true):RpL K kd (Lv F B G (O.strs os)) H vs (O.toDs os):=by
 have:=Oa h e;subst this;exact RoL.rp (O.strs os) (λst v d hs r=>r.less (US hs)) (λa n z=>n (US (λ_=>rfl) a z)) id (by intro a m;cases m) h
def U2(h:vB K kd F B G H vs os fp):RpL K kd (λ_=>False) H vs (O.toDs os):=RoL.rp false (λst v d _ r=>r.less λ_ z=>z.elim) (λ_ _ z=>z) (λz=>Bool.noConfusion z) (λ_ _ z=>z) h
def G3(h:ZN K kd F B G H v o fp):Rp K kd (λ_=>False) H v o.toD:=Ro.rp false (λst v d _ r=>r.less λ_ z=>z.elim) (λ_ _ z=>z) (λz=>Bool.noConfusion z) (λ_ _ z=>z) h
def KQ(h:ZN K kd F B G H v o []):Rp K kd (Lv F B G o.str) H v o.toD:=
 Ro.rp o.str (λst v d hs r=>r.less (US hs)) (λa n z=>n (US (λ_=>rfl) a z)) id (by intro a m;cases m) h
theorem ZN.vw(h:ZN K kd F B G H v o fp):Vw K kd (P5 F B G o.kl) H v o.toD:=by
 cases h with
 |lf h=>exact h.vw
 |ls hH r=>
  rename_i a vs' os' fp';show Vw K kd (P5 F B G (if os'.all O.isLf=true then some (O.strs os')else none)) H _ (.lst (O.toDs os'))
  by_cases e:os'.all O.isLf=true
  . rw[if_pos e];exact .lst (.inl (.inl hH)) (Pl r e)
  . rw[if_neg e];exact .lst (.inl (.inl hH)) (U2 r)
 |dc hH l r=>
  rename_i a ks vs' os' fp';show Vw K kd (P5 F B G (if os'.all O.isLf=true then some (O.strs os')else none)) H _ (.dct (ks.zip (O.toDs os')))
  by_cases e:os'.all O.isLf=true
  . rw[if_pos e];exact .dct (.inl (.inl hH)) (T_ (Pl r e) l)
  . rw[if_neg e];exact .dct (.inl (.inl hH)) (T_ (U2 r) l)
 |ob hc hH l r=>
  rename_i a dx C c ns vs' os' fp';have ec:C=kd.c c:=hc.cl_eq;subst ec;show Vw K kd (P5 F B G (if os'.all O.isLf=true then some (O.strs os')else none)) H _ (.ob c ns (O.toDs os'))
  by_cases e:os'.all O.isLf=true
  . rw[if_pos e];exact .ob hH l (Pl r e)
  . rw[if_neg e];exact .ob hH l (U2 r)
 |tp n hH r=>
  rename_i a vs' os';show Vw K kd (P5 F B G (if os'.all O.isLf=true then some (O.strs os')else none)) H _ (.tup (O.toDs os'))
  by_cases e:os'.all O.isLf=true
  . rw[if_pos e];have rl:=Pl r e;exact .tup (.tup (λz=>n (US (λ_=>rfl) _ z)) (.inl hH) rl) (.inl (.inl hH)) rl
  . rw[if_neg e];exact .tup (.tup (λz=>z) (.inl hH) (U2 r)) (.inl (.inl hH)) (U2 r)
theorem xW.vw(R:Rel K kd F B [] ad as σ H)(h:xW K kd F B [] ad σ H v r){d:D}{lv:Option Bool}(e:r.view as=some (d,lv)):Vw K kd (P5 F B (Gw [] ad) lv) H v d:=by
 cases r with
 |ow o=>
  cases e;exact(KQ h).vw
 |bo i=>
  have e:(match as[i]? with|some (some o)=>some (o.toD,o.kl)|_=>none)=some (d,lv):=e;cases k:as[i]? with
  |none=>rw[k]at e;cases e
  |some s=>
   cases s with
   |none=>rw[k]at e;cases e
   |some o=>
    rw[k]at e;cases e;obtain⟨w,hw,ro⟩:=R.sl i _ k;rw[h.2]at hw;cases hw;exact ro.vw
def Rel.add{N:List Addr}(R:Rel K kd F B T ad as σ H)(hn:N.Nodup)(hl:∀a ∈ N,H a=none)(k:∀b u,H b=some u->H' b=some u)(h1:∀a ∈ N,H' a≠none):Rel K kd F B (N++T) ad as σ H'/\Grow (Gw T ad) H (Gw (N++T) ad) H':=by
 have g:Grow (Gw T ad) H (Gw (N++T) ad) H':=⟨λb u h _=>k b u h,λb h=>by
  rcases h with h|h
  . rcases zzM.mp h with h|h
    . exact .inr (hl b h)
    . exact .inl (.inl h)
  . exact .inl (.inr h)⟩
 have kn:∀a,H a≠none->H' a≠none:=λa z=>by
  cases e:H a with
  |none=>exact absurd e z
  |some u=>rw[k a u e];simp
 refine⟨⟨R.len,R.out,R.nd,R.inj, ?_,λi a m z=>?_,λa z=>kn a (R.ftr a z),λa z=>?_,λa z=>?_,λi s e=>(R.sl i s e).grow g λa _ u h=>k a u h⟩,g⟩
 . refine zxE.mpr ⟨hn,R.tnd,λa m b m' e=>?_⟩;subst e;exact(R.gtr a (.inl m')).1 (hl a m)
 . rcases zzM.mp z with z|z
   . exact(R.gtr a (.inr ⟨i,m⟩)).1 (hl a z)
   . exact R.dis i a m z
 . obtain⟨b1,b2,b3⟩:=R.btr a z;refine⟨kn a b1,b2,λy=>?_⟩
   rcases y with y|y
   . rcases zzM.mp y with y|y
     . exact b1 (hl a y)
     . exact b3 (.inl y)
   . exact b3 (.inr y)
 . rcases z with z|z
   . rcases zzM.mp z with z|z
     . exact⟨h1 a z,λf=>R.ftr a f (hl a z)⟩
     . exact⟨kn a (R.gtr a (.inl z)).1,(R.gtr a (.inl z)).2⟩
   . exact⟨kn a (R.gtr a (.inr z)).1,(R.gtr a (.inr z)).2⟩
def Rel.more(R:Rel K kd F B T ad as σ H)(k:∀b u,H b=some u->H' b=some u):Rel K kd F B T ad as σ H'/\Grow (Gw T ad) H (Gw T ad) H':=
 R.add (N:=[]) zyJ (λ_ m=>nomatch m) k (λ_ m=>nomatch m)
def Rel.news(R:Rel K kd F B [] ad as σ H)(hn:T'.Nodup)(hl:∀a ∈ T',H a=none)(k:∀b u,H b=some u->H' b=some u)(h1:∀a ∈ T',H' a≠none):Rel K kd F B T' ad as σ H'/\Grow (Gw [] ad) H (Gw T' ad) H':=by
 have:=R.add hn hl k h1;rw[zyE]at this;exact this
end
inductive R0 where
 |im (d:D)|fl (ds:List D)|fd (kvs:List (Key×D))
def RQ(K:zzA)(kd:KD)(O:Addr->Prop)(H:Hp)(Q:VK):R0->Prop
 | .im d=>∀v H',(∀b o,H b=some o->H' b=some o)->Rp K kd O H' v d->Q v H'
 | .fl ds=>∀l vs H',H l=none->(∀b o,H b=some o->H' b=some o)->H' l=some (.lst vs)->RpL K kd (W_ O (· = l)) H' vs ds->Q (.ref l) H'
 | .fd ds=>∀l vs H',H l=none->(∀b o,H b=some o->H' b=some o)->H' l=some (.dK vs)->RpM K kd (W_ O (· = l)) H' vs ds->Q (.ref l) H'
noncomputable def wrap(lv:Option Bool):R0->Option RV
 | .im d=>if(zv d||lv.isSome)=true then some (.ow (MZ (lv.getD false) d))else none
 | .fl ds=>if(ds.all zv||lv.isSome)=true then some (.ow (.nd .ls (ds.map (MZ (lv.getD false)))))else none
 | .fd kvs=>if((kvs.map (·.2)).all zv||lv.isSome)=true then some (.ow (.nd (.dc (kvs.map (·.1))) ((kvs.map (·.2)).map (MZ (lv.getD false)))))else none
def bS_{α β:Type}{o:Option α}{f:α->Option β}{b:β}(h:o.bind f=some b):∃a,o=some a/\f a=some b:=by
 cases o with
 |none=>cases h
 |some a=>exact⟨a,rfl,h⟩
def ite_some'{α:Type}{c:Prop}[Decidable c]{a:Option α}{b:α}(h:(if c then a else none)=some b):c/\a=some b:=by
 by_cases hc:c
 . rw[if_pos hc]at h;exact⟨hc,h⟩
 . rw[if_neg hc]at h;cases h
def zt{α:Type}{c:Prop}[Decidable c]{a b:α}(h:(if c then some a else none)=some b):c/\a=b:=by
 by_cases hc:c
 . rw[if_pos hc]at h;cases h;exact⟨hc,rfl⟩
 . rw[if_neg hc]at h;cases h
section
variable{K:zzA}{kd:KD}{F B:Addr->Prop}{G:Addr->Prop}{ad:Ad}{as:AS}{σ:St}{H H':Hp}{v:V}{r:R0}{rv:RV}{Q:VK}{lv:Option Bool}
def DI{Ob:Addr->Prop}{d:D}(h:zv d=true\/lv.isSome=true)(hO:∀st,lv=some st->∀a,Lv F B G st a->Ob a)(rp:Rp K kd Ob H v d):Lf K kd F B G H (zv d||lv.getD false) v d:=by
 cases e:zv d with
 |true=>exact rp.flat e
 |false=>
  rw[e]at h;cases lv with
  |none=>rcases h with h|h<;>cases h
  |some st=>exact rp.less (hO st rfl)
def Io{Ob:Addr->Prop}{N:Addr->Prop}(hO:∀st,lv=some st->∀a,Lv F B G st a->Ob a){vs:List V}{ds:List D}(e:(ds.all zv||lv.isSome)=true)(h:RpL K kd Ob H vs ds):RoL (Lf K kd F B G H) N H vs (ds.map (MZ (lv.getD false))) []:=
 RpL.ind (P:=λvs ds=>(ds.all zv||lv.isSome)=true->RoL (Lf K kd F B G H) N H vs (ds.map (MZ (lv.getD false))) []) (λ_=>.nil) (λ{v d vs ds} h _ ih e=>by
  rw[List.all_cons]at e;have e1:zv d=true\/lv.isSome=true:=by
   cases h1:lv.isSome<;>cases h2:zv d<;>simp[h1,h2]at e ⊢
  have e2:(ds.all zv||lv.isSome)=true:=by
   cases h1:lv.isSome with
   |true=>simp
   |false=>
    rw[h1,Bool.or_false,zyC]at e;rw[Bool.or_false];exact e.2
  exact RoL.cons (.lf (DI e1 hO h)) (ih e2)) h e
def SE{O:Addr->Prop}{vs:List (Key×V)}{ds:List (Key×D)}(h:RpM K kd O H vs ds):vs=(ds.map (·.1)).zip (vs.map (·.2))/\RpL K kd O H (vs.map (·.2)) (ds.map (·.2)):=
 RpM.ind (P:=λvs ds=>vs=(ds.map (·.1)).zip (vs.map (·.2))/\RpL K kd O H (vs.map (·.2)) (ds.map (·.2))) ⟨rfl,.nil⟩ (λh _ ih=>by
  obtain⟨h1,h2⟩:=ih;refine⟨?_,.cons h h2⟩
  conv=>lhs;rw[h1]
  rfl) h
def Yo(R:Rel K kd F B [] ad as σ H)(e:wrap lv r=some rv)(q:∀v T' H',Rel K kd F B T' ad as σ H'->xW K kd F B T' ad σ H' v rv->Grow (Gw [] ad) H (Gw T' ad) H'->Q v H'):RQ K kd (P5 F B (Gw [] ad) lv) H Q r:=by
 have hO:∀(l:List Addr) st,lv=some st->∀a,Lv F B (Gw l ad) st a->W_ (P5 F B (Gw [] ad) lv) (· ∈ l) a:=by
  intro l st e a z;subst e
  rcases z with z|z|z
  . exact .inl (.inl z)
  . exact .inr z
  . exact .inl (.inr (.inr z))
 cases r with
 |im d=>
  obtain⟨c,rfl⟩:=zt e;intro v H' k rp;obtain⟨R',g⟩:=R.more k;refine q v [] H' R' (.lf (DI ((Bool.or_eq_true _ _).mp c) (λst e a z=>?_) rp)) g;exact(hO [] st e a z).elim id λm=>nomatch m
 |fl ds=>
  obtain⟨c,rfl⟩:=zt e;intro l vs H' hl k hl' rp;obtain⟨R',g⟩:=R.news (T':=[l]) (by simp) (λa m=>by rw[zzR.mp m];exact hl) k (λa m=>by rw[zzR.mp m,hl'];simp);exact q _ [l] H' R' (.ls hl' (Io (λst e a z=>(hO [l] st e a z).elim .inl λm=>.inr (zzR.mp m)) c rp)) g
 |fd ds=>
  obtain⟨c,rfl⟩:=zt e;intro l vs H' hl k hl' rp;obtain⟨R',g⟩:=R.news (T':=[l]) (by simp) (λa m=>by rw[zzR.mp m];exact hl) k (λa m=>by rw[zzR.mp m,hl'];simp);obtain⟨e1,r1⟩:=SE rp;refine q _ [l] H' R' (.dc (vs:=vs.map (·.2)) (by rw[hl',<-e1]) (by rw[zzB,zzB,rp.length]) (Io (λst e a z=>(hO [l] st e a z).elim .inl λm=>.inr (zzR.mp m)) c r1)) g
end
abbrev EF:=AS->Option (RV×AS)
def al(K:zzA)(kd:KD)(f:EF):TE:=λσ H Q=>∃F B ad as r as',Rel K kd F B [] ad as σ H/\f as=some (r,as')/\
 ∀v T' ad' H',Rel K kd F B T' ad' as' σ H'->xW K kd F B T' ad' σ H' v r->Grow (Gw [] ad) H (Gw T' ad') H'->Q v H'
@[irreducible] def AE(X:Cx)(kd:KD)(e:Expr)(f:EF):Prop:=PE X e (al X.K kd f)
def yu{X:Cx}{e:Expr}{t t':TE}(h:PE X e t)(k:∀σ H Q,t' σ H Q->t σ H Q):PE X e t':=λpins s σ H Q I q=>h pins s σ H Q I (k σ H Q q)
section
variable{K:zzA}{kd:KD}{F B:Addr->Prop}{ad:Ad}{as as1:AS}{σ:St}{H:Hp}{r:RV}{f:EF}{P:VK}
def vQ(R:Rel K kd F B [] ad as σ H)(e:f as=some (r,as1))(k:∀v ad1 H1,Rel K kd F B [] ad1 as1 σ H1->xW K kd F B [] ad1 σ H1 v r.frz->Grow (Gw [] ad) H (Gw [] ad1) H1->P v H1):al K kd f σ H P:=
 ⟨F,B,ad,as,r,as1,R,e,λv T' ad' H' R' rv g=>k v ad' H' R'.drop (xW.drop R' rv) (g.trans (Grow.less Gw.drop))⟩
end
def sO(X:Cx)(kd:KD)(f:Value->Value->Sem Value)(g:D->D->Option R0):Prop:=
 Ry X f (λx y H Q=>∃O d e r,(∀a,O a->H a≠none)/\Vw X.K kd O H x d/\Vw X.K kd O H y e/\g d e=some r/\RQ X.K kd O H Q r)
def kK(X:Cx)(kd:KD)(f:Value->Sem Value)(g:D->Option R0):Prop:=
 nO X f (λx H Q=>∃O d r,(∀a,O a->H a≠none)/\Vw X.K kd O H x d/\g d=some r/\RQ X.K kd O H Q r)
inductive VwL(K:zzA)(kd:KD)(O:Addr->Prop)(H:Hp):List V->List D->Prop
 |nil:VwL K kd O H [] []
 |cons {v:V}{d:D}{vs:List V}{ds:List D}:Vw K kd O H v d->VwL K kd O H vs ds->VwL K kd O H (v::vs) (d::ds)
def Y0(X:Cx)(kd:KD)(f:Value)(g:List D->Option R0):Prop:=
 XO X f (λxs H Q=>∃O ds r,(∀a,O a->H a≠none)/\VwL X.K kd O H xs ds/\g ds=some r/\RQ X.K kd O H Q r)
def ki(X:Cx)(kd:KD)(g:D->D->Option R0):Prop:=
 qX X (λx y H Q=>∃O d e r,(∀a,O a->H a≠none)/\Vw X.K kd O H x d/\Vw X.K kd O H y e/\g d e=some r/\RQ X.K kd O H Q r)
def meet:Option Bool->Option Bool->Option Bool
 |some a,some b=>some (a&&b)
 |_,_=>none
def P5.meet1{F B G:Addr->Prop}{a b:Option Bool}:∀x,P5 F B G (meet a b) x->P5 F B G a x:=λx h=>by
 cases a with
 |none=>cases b<;>exact h.elim
 |some p=>
  cases b with
  |none=>exact h.elim
  |some q=>exact US (λz=>((zyC _ _).mp z).1) x h
def P5.meet2{F B G:Addr->Prop}{a b:Option Bool}:∀x,P5 F B G (meet a b) x->P5 F B G b x:=λx h=>by
 cases a with
 |none=>cases b<;>exact h.elim
 |some p=>
  cases b with
  |none=>exact h.elim
  |some q=>exact US (λz=>((zyC _ _).mp z).2) x h
theorem Vw.less{K:zzA}{kd:KD}{O O':Addr->Prop}{H:Hp}{v:V}{d:D}(g:∀a,O' a->O a)(h:Vw K kd O H v d):Vw K kd O' H v d:=by
 cases h with
 |non=>exact .non
 |bl b=>exact .bl b
 |int i=>exact .int i
 |str x=>exact .str x
 |tup r s l=>exact .tup (r.less g) s (l.less g)
 |lst h l=>exact .lst h (l.less g)
 |dct h l=>exact .dct h (l.less g)
 |cl c=>exact .cl c
 |ob h k l=>exact .ob h k (l.less g)
noncomputable def f2(fa fb:EF)(g:D->D->Option R0):EF:=λas=>(fa as).bind λp=>(fb p.2).bind λq=>(p.1.frz.view q.2).bind λx=>(q.1.frz.view q.2).bind λy=>(g x.1 y.1).bind λr=>(wrap (meet x.2 y.2) r).bind λz=>some (z,q.2)
def B1{fa fb:EF}{g:D->D->Option R0}{as as':AS}{rv:RV}(h:f2 fa fb g as=some (rv,as')):
 ∃p as1 q x y lx ly r,fa as=some (p,as1)/\fb as1=some (q,as')/\p.frz.view as'=some (x,lx)/\q.frz.view as'=some (y,ly)/\g x y=some r/\wrap (meet lx ly) r=some rv:=by
 unfold f2 at h;obtain⟨⟨p,as1⟩,h1,h⟩:=bS_ h;obtain⟨⟨q,as2⟩,h2,h⟩:=bS_ h;obtain⟨⟨x,lx⟩,h3,h⟩:=bS_ h;obtain⟨⟨y,ly⟩,h4,h⟩:=bS_ h;obtain⟨r,h5,h⟩:=bS_ h;obtain⟨z,h6,h⟩:=bS_ h;cases h;exact⟨p,as1,q,x,y,lx,ly,r,h1,h2,h3,h4,h5,h6⟩
section
variable{X:Cx}{kd:KD}{a b c:Expr}{fa fb fc:EF}{pos:Pos}
def nF{g:D->D->Option R0}{R2':R2}(hr:∀x y H Q,(∃O d e r,(∀a,O a->H a≠none)/\Vw X.K kd O H x d/\Vw X.K kd O H y e/\g d e=some r/\RQ X.K kd O H Q r)->R2' x y H Q)
 {σ:St}{H:Hp}{Q:VK}(h:al X.K kd (f2 fa fb g) σ H Q):p3 R2' (al X.K kd fa) (al X.K kd fb) σ H Q:=by
 obtain⟨F,B,ad,as,r,as',R,e,q⟩:=h;obtain⟨p,as1,z,x,y,lx,ly,r0,h1,h2,h3,h4,h5,h6⟩:=B1 e;refine vQ R h1 λv ad1 H1 R1 rv1 g1=>vQ R1 h2 λu ad2 H2 R2 rv2 g2=>hr _ _ _ _ ?_;exact⟨_,x,y,r0,R2.tr _,(xW.vw R2 (rv1.grow g2) h3).less P5.meet1,(xW.vw R2 rv2 h4).less P5.meet2,h5,Yo R2 h6 λw T' H' R' rv' g'=>q w T' ad2 H' R' rv' ((g1.trans g2).trans g')⟩
def uh{op:Operator}{g:D->D->Option R0}(ho:sO X kd (binaryOp op) g)(ha:AE X kd a fa)(hb':AE X kd b fb):AE X kd (.BinOp a op b pos) (f2 fa fb g):=by with_unfolding_all exact(yu (q_ ho ha hb') λσ H Q h=>nF (λ_ _ _ _ z=>z) h)
def rD{op:CmpOp}{g:D->D->Option R0}(ho:sO X kd (compareOp op) g)(ha:AE X kd a fa)(hb':AE X kd b fb)(hm:behindInMarks op b=false):AE X kd (.Compare a [op] [b] pos) (f2 fa fb g):=by with_unfolding_all exact(yu (Jb ho ha hb' hm) λσ H Q h=>nF (λ_ _ _ _ z=>z) h)
def ox{g:D->D->Option R0}(ho:ki X kd g)(ha:AE X kd a fa)(hb':AE X kd b fb)(hm:N3 b):AE X kd (.Subscript a b pos) (f2 fa fb g):=by with_unfolding_all exact(yu (pE ho ha hb' hm) λσ H Q h=>nF (λ_ _ _ _ z=>z) h)
def fC(d:D):EF:=λas=>some (.ow (.lf true d),as)
noncomputable def fV(i:Nat):EF:=λas=>match as[i]? with
 |some (some (.lf st d))=>some (.ow (.lf st d),as)
 |some (some (.nd _ _))=>some (.bo i,as)
 |_=>none
def G9{v:V}{d:D}(h:PE X a (tC v))(hr:∀O H,Rp X.K kd O H v d):AE X kd a (fC d):=by with_unfolding_all exact(yu h λσ H Q h=>by
 obtain⟨F,B,ad,as,r,as',R,e,q⟩:=h;cases e;exact q v [] ad H R (.lf (hr _ _)) Grow.refl)
def D0{i:Nat}(h:PE X a (Qo i)):AE X kd a (fV i):=by with_unfolding_all exact(yu h λσ H Q h=>by
 obtain⟨F,B,ad,as,r,as',R,e,q⟩:=h;unfold fV at e;cases k:as[i]? with
 |none=>rw[k]at e;cases e
 |some s=>
  rw[k]at e;cases s with
  |none=>cases e
  |some o=>
   obtain⟨v,h1,h2⟩:=R.sl i _ k;cases o with
   |lf st d=>
    cases e;have e0:ad i=[]:=by
     generalize hfp:ad i=fp at h2;cases h2;rfl
    rw[e0]at h2;exact⟨v,h1,q v [] ad H R h2 Grow.refl⟩
   |nd kk os=>
    cases e;exact⟨_,h1,q _ [] ad H R ⟨rfl,h1⟩ Grow.refl⟩)
end
def v7(ad:Ad)(i:Nat)(x:List Addr):Ad:=λj=>if j=i then x else ad j
section
variable{K:zzA}{kd:KD}{F B:Addr->Prop}{T T1 T2:List Addr}{ad ad1:Ad}{as as1:AS}{σ:St}{H H1:Hp}{v:V}{r:RV}{o:O}{i:Nat}
def zZ{x:List Addr}:v7 ad i x i=x:=if_pos rfl
def ye{j:Nat}{x:List Addr}(h:j≠i):v7 ad i x j=ad j:=if_neg h
def YE:∀a,Gw T (v7 ad i []) a->Gw T ad a:=λa h=>by
 rcases h with h|⟨j,h⟩
 . exact .inl h
 . by_cases e:j=i
   . subst e;rw[zZ]at h;cases h
   . rw[ye e]at h;exact .inr ⟨j,h⟩
def WG:∀a,Gw [] (v7 ad i T) a->Gw T ad a:=λa h=>by
 rcases h with h|⟨j,h⟩
 . cases h
 . by_cases e:j=i
   . subst e;rw[zZ]at h;exact .inl h
   . rw[ye e]at h;exact .inr ⟨j,h⟩
def BJ:∀st a,Lv F (λa=>B a\/a ∈ T) (Gw [] ad) st a->Lv F B (Gw T ad) st a:=λst a z=>by
 rcases z with(z|z|z)|z
 . exact .inl (.inl z)
 . exact .inl (.inr z)
 . exact .inr (.inl z)
 . exact .inr (Gw.drop a z)
def RW:∀st a,Lv F B (Gw (T1++T2) ad) st a->Lv F (λa=>B a\/a ∈ T1) (Gw T2 ad) st a:=λst a z=>by
 rcases z with(z|z)|z|z
 . exact .inl (.inl z)
 . exact .inl (.inr (.inl z))
 . rcases zzM.mp z with z|z
   . exact .inl (.inr (.inr z))
   . exact .inr (.inl z)
 . exact .inr (.inr z)
def Rel.hide(R:Rel K kd F B T ad as σ H):Rel K kd F (λa=>B a\/a ∈ T) [] ad as σ H where
 len:=R.len
 out:=R.out
 nd:=R.nd
 inj:=R.inj
 tnd:=zyJ
 dis:=λ_ _ _ z=>nomatch z
 ftr:=R.ftr
 btr:=λa h=>by
  rcases h with h|h
  . obtain⟨h1,h2,h3⟩:=R.btr a h;exact⟨h1,h2,λz=>h3 (Gw.drop a z)⟩
  . exact⟨(R.gtr a (.inl h)).1,(R.gtr a (.inl h)).2,λz=>z.elim (λm=>nomatch m) λ⟨j,y⟩=>R.dis j a y h⟩
 gtr:=λa h=>R.gtr a (Gw.drop a h)
 sl:=λi s e=>(R.sl i s e).lv BJ
def Rel.unhide(hn:T1.Nodup)(hb:∀a ∈ T1,¬B a)(R:Rel K kd F (λa=>B a\/a ∈ T1) T2 ad as σ H):Rel K kd F B (T1++T2) ad as σ H where
 len:=R.len
 out:=R.out
 nd:=R.nd
 inj:=R.inj
 tnd:=zxE.mpr ⟨hn,R.tnd,λa m b m' e=>by subst e;exact(R.btr a (.inr m)).2.2 (.inl m')⟩
 dis:=λi a m z=>by
  rcases zzM.mp z with z|z
  . exact(R.btr a (.inr z)).2.2 (.inr ⟨i,m⟩)
  . exact R.dis i a m z
 ftr:=R.ftr
 btr:=λa h=>by
  obtain⟨h1,h2,h3⟩:=R.btr a (.inl h);refine⟨h1,h2,λz=>?_⟩
  rcases z with z|z
  . rcases zzM.mp z with z|z
    . exact hb a z h
    . exact h3 (.inl z)
  . exact h3 (.inr z)
 gtr:=λa h=>by
  rcases h with h|h
  . rcases zzM.mp h with h|h
    . exact⟨(R.btr a (.inr h)).1,(R.btr a (.inr h)).2.1⟩
    . exact R.gtr a (.inl h)
  . exact R.gtr a (.inr h)
 sl:=λi s e=>(R.sl i s e).lv RW
theorem Rel.frz(R:Rel K kd F B T ad as σ H)(h:as[i]? = some (some o)):
 Rel K kd F B T (v7 ad i []) (as.set i (some o.frz)) σ H/\∃v,σ[i]? = some (some v)/\Rp K kd (Lv F B (Gw T (v7 ad i [])) o.str) H v o.toD:=by
 obtain⟨v,hv,ro⟩:=R.sl i _ h;have rp:Rp K kd (Lv F B (Gw T (v7 ad i [])) o.str) H v o.toD:=
  Ro.rp o.str (λst v d hs r=>r.less λa z=>z.elim (λy=>.inl (y.elim (λx=>.inl ⟨hs x.1,x.2⟩) .inr)) λy=>.inr (YE a y))
   (λa n z=>n (z.elim (λy=>.inl (y.elim (λx=>.inl ⟨rfl,x.2⟩) .inr)) λy=>.inr (YE a y))) id
   (λa m z=>by
    rcases z with(z|z)|z|⟨j,z⟩
    . exact(R.gtr a (.inr ⟨i,m⟩)).2 z.2
    . exact(R.btr a z).2.2 (.inr ⟨i,m⟩)
    . exact R.dis i a m z
    . by_cases e:j=i
      . subst e;rw[zZ]at z;cases z
      . rw[ye e]at z;exact e (R.inj j i a z m)) ro
 have hi:i<as.length:=(zzG.mp h).1;refine⟨⟨by rw[zzU];exact R.len,λj hj=>?_,λj=>?_,λj k a h1 h2=>?_,R.tnd,λj a h1=>?_,R.ftr,λa h1=>?_,λa h1=>R.gtr a (YE a h1),λj s e=>?_⟩,v,hv,rp⟩
 . rw[zzU]at hj;rw[ye (by omega)];exact R.out j hj
 . by_cases e:j=i
   . subst e;rw[zZ];exact zyJ
   . rw[ye e];exact R.nd j
 . by_cases e:j=i
   . subst e;rw[zZ]at h1;cases h1
   . by_cases e':k=i
     . subst e';rw[zZ]at h2;cases h2
     . rw[ye e]at h1;rw[ye e']at h2;exact R.inj j k a h1 h2
 . by_cases e:j=i
   . subst e;rw[zZ]at h1;cases h1
   . rw[ye e]at h1;exact R.dis j a h1
 . obtain⟨b1,b2,b3⟩:=R.btr a h1;exact⟨b1,b2,λz=>b3 (YE a z)⟩
 . by_cases q:j=i
   . subst q;rw[zyK hi]at e;cases e;rw[zZ];exact⟨v,hv,.lf rp⟩
   . rw[zzY (Ne.symm q)]at e;rw[ye q];exact(R.sl j s e).less YE
def Rel.put(R:Rel K kd F B T ad as σ H)(hi:i<as.length)(h:ZN K kd F B (Gw T ad) H v o T):Rel K kd F B [] (v7 ad i T) (as.set i (some o)) (σ.set i (some v)) H:=by
 have hi':i<σ.length:=by rw[<-R.len];exact hi
 refine⟨by rw[zzU,zzU];exact R.len,λj hj=>?_,λj=>?_,λj k a h1 h2=>?_,zyJ,(λ_ _ _ z=>nomatch z),R.ftr,λa h1=>?_,λa h1=>R.gtr a (WG a h1),λj s e=>?_⟩
 . rw[zzU]at hj;rw[ye (by omega)];exact R.out j hj
 . by_cases e:j=i
   . subst e;rw[zZ];exact R.tnd
   . rw[ye e];exact R.nd j
 . by_cases e:j=i
   . subst e;rw[zZ]at h1
     by_cases e':k=j
     . exact e'.symm
     . rw[ye e']at h2;exact(R.dis k a h2 h1).elim
   . rw[ye e]at h1
     by_cases e':k=i
     . subst e';rw[zZ]at h2;exact(R.dis j a h1 h2).elim
     . rw[ye e']at h2;exact R.inj j k a h1 h2
 . obtain⟨b1,b2,b3⟩:=R.btr a h1;exact⟨b1,b2,λz=>b3 (WG a z)⟩
 . by_cases q:j=i
   . subst q;rw[zyK hi]at e;cases e;rw[zZ,zyK hi'];exact⟨v,rfl,h.less WG⟩
   . rw[zzY (Ne.symm q)]at e;rw[ye q,zzY (Ne.symm q)];exact(R.sl j s e).less WG
noncomputable def AB(as:AS):RV->Option (O×AS)
 | .ow o=>some (o,as)
 | .bo i=>match as[i]? with
  |some (some o)=>some (o.frz,as.set i (some o.frz))
  |_=>none
def Gu{as':AS}(R:Rel K kd F B T ad as σ H)(h:xW K kd F B T ad σ H v r)(e:AB as r=some (o,as')):∃ad',Rel K kd F B T ad' as' σ H/\ZN K kd F B (Gw T ad') H v o T/\∀a,Gw T ad' a->Gw T ad a:=by
 cases r with
 |ow o'=>cases e;exact⟨ad,R,h,λ_ z=>z⟩
 |bo i=>
  have e:(match as[i]? with|some (some o)=>some (o.frz,as.set i (some o.frz))|_=>none)=some (o,as'):=e;cases k:as[i]? with
  |none=>rw[k]at e;cases e
  |some s=>
   cases s with
   |none=>rw[k]at e;cases e
   |some o1=>
    rw[k]at e;cases e;obtain⟨hT,hs⟩:=h;subst hT;obtain⟨R',w,hw,rp⟩:=R.frz k;rw[hs]at hw;cases hw;exact⟨_,R',.lf rp,YE⟩
end
abbrev TF:=AS->Option (Bool×AS)
def tm(K:zzA)(kd:KD)(f:TF):TT:=λσ H Q=>∃F B ad as b as',Rel K kd F B [] ad as σ H/\f as=some (b,as')/\
 ∀ad' H',Rel K kd F B [] ad' as' σ H'->Grow (Gw [] ad) H (Gw [] ad') H'->Q b H'
@[irreducible] def AT(X:Cx)(kd:KD)(e:Expr)(f:TF):Prop:=PT X e (tm X.K kd f)
@[irreducible] def AW(X:Cx)(kd:KD)(e:Expr)(f:TF):Prop:=PW X e (tm X.K kd f)
noncomputable def truth:D->Option Bool
 | .non=>some false
 | .bl b=>some b
 | .int i=>some (i != 0)
 | .str x=>if x.length<=sizeLine then some ((x.length:Int) != 0)else none
 | .tup ds=>some (!ds.isEmpty)
 | .lst ds=>some (!ds.isEmpty)
 |_=>none
noncomputable def fT(f:EF):TF:=λas=>(f as).bind λp=>(p.1.frz.view p.2).bind λx=>(truth x.1).bind λb=>some (b,p.2)
noncomputable def Sq(f g:TF):TF:=λas=>(f as).bind λp=>if p.1=true then g p.2 else some (false,p.2)
noncomputable def Pv(f g:TF):TF:=λas=>(f as).bind λp=>if p.1=true then some (true,p.2)else g p.2
noncomputable def ZH(f:TF):TF:=λas=>(f as).bind λp=>some (!p.1,p.2)
def Sl(c:TF)(f g:EF):EF:=λas=>(c as).bind λp=>if p.1=true then f p.2 else g p.2
def Ke:D->Option Int
 | .int i=>some i
 |_=>none
def mN:D->Option Str
 | .str i=>some i
 |_=>none
def SD:D->Option (List D)
 | .lst i=>some i
 |_=>none
def rV:D->Option (List D)
 | .tup i=>some i
 |_=>none
def Rr{d:D}{i:List D}(e:SD d=some i):d = .lst i:=by
 cases d with
 |lst j=>cases e;rfl
 |_=>cases e
def Ow{d:D}{i:List D}(e:rV d=some i):d = .tup i:=by
 cases d with
 |tup j=>cases e;rfl
 |_=>cases e
def Oh{d:D}{c:Int}(h:Ke d=some c):d = .int c:=by
 cases d with
 |int i=>cases h;rfl
 |_=>cases h
def kh:D->Option Bool
 | .bl i=>some i
 |_=>none
def u3{d:D}{c:Bool}(h:kh d=some c):d = .bl c:=by
 cases d with
 |bl i=>cases h;rfl
 |_=>cases h
def mF:RV->Option D
 | .ow (.lf _ d)=>some d
 |_=>none
def C5{r:RV}{d:D}(h:mF r=some d):∃st,r = .ow (.lf st d):=by
 cases r with
 |bo i=>cases h
 |ow o=>
  cases o with
  |nd k os=>cases h
  |lf st d=>cases h;exact⟨st,rfl⟩
def lL(r:RV):Option Bool:=(mF r).bind kh
def Cn{r:RV}{c:Bool}(h:lL r=some c):∃st,r = .ow (.lf st (.bl c)):=by
 obtain⟨d,h1,h⟩:=bS_ h;cases u3 h;exact C5 h1
def kG(r:RV):Option Int:=(mF r).bind Ke
def tG{r:RV}{c:Int}(h:kG r=some c):∃st,r = .ow (.lf st (.int c)):=by
 obtain⟨d,h1,h⟩:=bS_ h;cases Oh h;exact C5 h1
def t7{α:Type}:List α->Option (α×α)
 | [a,b]=>some (a,b)
 |_=>none
def MY{α:Type}{os:List α}{p:α×α}(h:t7 os=some p):os=[p.1,p.2]:=by
 cases os with
 |nil=>cases h
 |cons x r=>
  cases r with
  |nil=>cases h
  |cons y r=>
   cases r with
   |nil=>cases h;rfl
   |cons _ _=>cases h
noncomputable def nP(r:RV):Option (Bool×List D):=match r with
 | .ow (.lf s d)=>(SD d).bind λl=>some (s,l)
 |_=>none
def FJ{r:RV}{p:Bool×List D}(h:nP r=some p):r = .ow (.lf p.1 (.lst p.2)):=by
 cases r with
 |bo i=>cases h
 |ow o=>
  cases o with
  |nd k os=>cases h
  |lf st d=>
   obtain⟨l,h1,h⟩:=bS_ (show(SD d).bind _=_ from h);cases h;cases Rr h1;rfl
noncomputable def K0(f g:EF):EF:=λas=>(f as).bind λp=>(lL p.1).bind λc=>if c=true then g p.2 else some (.ow (.lf true (.bl false)),p.2)
noncomputable def se(f:EF):EF:=λas=>(f as).bind λp=>(lL p.1).bind λc=>some (.ow (.lf true (.bl (!c))),p.2)
noncomputable def f1(fa:EF)(g:D->Option R0):EF:=λas=>(fa as).bind λp=>(p.1.frz.view p.2).bind λx=>(g x.1).bind λr=>(wrap x.2 r).bind λz=>some (z,p.2)
section
variable{X:Cx}{kd:KD}{a b c:Expr}{fa fb:EF}{ta tb:TF}{pos:Pos}{es rest:List Expr}
def FN{e:Expr}{t t':TT}(h:PT X e t)(k:∀σ H Q,t' σ H Q->t σ H Q):PT X e t':=λpins s σ H Q I q=>h pins s σ H Q I (k σ H Q q)
def OO{e:Expr}{t t':TT}(h:PW X e t)(k:∀σ H Q,t' σ H Q->t σ H Q):PW X e t':=λw pins s σ H Q I q=>h w pins s σ H Q I (k σ H Q q)
def ue{O:Addr->Prop}{H:Hp}{v:V}{d:D}{k:Bool}(h:Vw X.K kd O H v d)(e:truth d=some k):sH X.K v H k:=by
 cases h with
 |non=>cases e;rfl
 |bl b=>cases e;rfl
 |int i=>cases e;rfl
 |str x=>
  have e:(if x.length<=sizeLine then some ((x.length:Int) != 0)else none)=some k:=e
  by_cases hl:x.length<=sizeLine
  . rw[if_pos hl]at e;cases e;exact⟨hl,rfl⟩
  . rw[if_neg hl]at e;cases e
 |tup r hs hr=>
  cases e;refine .inr (.inl ⟨_,hs, ?_⟩);cases hr<;>rfl
 |lst hs hr=>
  cases e;refine .inl ⟨_,hs.sq, ?_⟩;cases hr<;>rfl
 |dct=>cases e
 |cl=>cases e
 |ob=>cases e
def Zc(ha:AE X kd a fa)(he:∀whole,isTrue a X.env whole=(do let v <-whole;standAt a.pos;holding [v] (truthy v))):AT X kd a (fT fa):=by with_unfolding_all exact(FN (Ii ha he) λσ H Q h=>by
 obtain⟨F,B,ad,as,bb,as',R,e,q⟩:=h;obtain⟨⟨p,as1⟩,h1,e⟩:=bS_ (show(fa as).bind _=_ from e);obtain⟨⟨d,lv⟩,h2,e⟩:=bS_ e;obtain⟨k,h3,e⟩:=bS_ e;cases e;exact vQ R h1 λv ad1 H1 R1 rv1 g1=>⟨_,ue (xW.vw R1 rv1 h2) h3,q ad1 H1 R1 g1⟩)
def s_{op:CmpOp}{g:D->D->Option R0}(ho:sO X kd (compareOp op) g)(hg:∀x y r,g x y=some r->∃k,r = .im (.bl k))(ha:AE X kd a fa)(hb:AE X kd b fb)(hm:behindInMarks op b=false):
 AT X kd (.Compare a [op] [b] pos) (fT (f2 fa fb g)):=by with_unfolding_all exact(FN (Jr ho ha hb hm) λσ H Q h=>by
 obtain⟨F,B,ad,as,bb,as',R,e,q⟩:=h;obtain⟨⟨p,as1⟩,h1,e⟩:=bS_ (show(f2 fa fb g as).bind _=_ from e);obtain⟨⟨d,lv⟩,h2,e⟩:=bS_ e;obtain⟨k,h3,e⟩:=bS_ e;cases e;obtain⟨_,_,_,x,y,_,_,r0,_,_,_,_,hp,hw⟩:=B1 h1;obtain⟨k',rfl⟩:=hg _ _ _ hp;cases hw;cases h2;cases h3;refine nF (λ_ _ _ _ z=>z) ⟨F,B,ad,as,_,_,R,h1,λv T' ad' H' R' rv g'=>?_⟩;generalize hT:T'=T2 at rv R' g';cases rv with
 |lf rp=>
  cases rp;exact⟨_,rfl,q ad' H' R' g'⟩)
def Xv(ha:AT X kd a ta):AT X kd (.UnaryOp .Not a pos) (ZH ta):=by with_unfolding_all exact(FN (uF ha) λσ H Q h=>by
 obtain⟨F,B,ad,as,bb,as',R,e,q⟩:=h;obtain⟨⟨p,as1⟩,h1,e⟩:=bS_ (show(ta as).bind _=_ from e);cases e;exact⟨F,B,ad,as,p,_,R,h1,λad' H' R' g=>q ad' H' R' g⟩)
def FE(ha:AT X kd a ta):AW X kd (.BoolOp .And [a] pos) ta:=by with_unfolding_all exact(Ag ha)
def YF(ha:AT X kd a ta):AW X kd (.BoolOp .Or [a] pos) ta:=by with_unfolding_all exact(D3 ha)
def rg(ha:AT X kd a ta)(hb:AW X kd (.BoolOp .And (b::rest) pos) tb):AW X kd (.BoolOp .And (a::b::rest) pos) (Sq ta tb):=by with_unfolding_all exact(OO (tq ha hb) λσ H Q h=>by
 obtain⟨F,B,ad,as,bb,as',R,e,q⟩:=h;obtain⟨⟨p,as1⟩,h1,e⟩:=bS_ (show(ta as).bind _=_ from e);refine⟨F,B,ad,as,p,as1,R,h1,λad' H' R' g=>?_⟩;cases p with
 |true=>exact⟨F,B,ad',as1,bb,as',R',e,λad2 H2 R2 g2=>q ad2 H2 R2 (g.trans g2)⟩
 |false=>cases e;exact q ad' H' R' g)
def LL(ha:AT X kd a ta)(hb:AW X kd (.BoolOp .Or (b::rest) pos) tb):AW X kd (.BoolOp .Or (a::b::rest) pos) (Pv ta tb):=by with_unfolding_all exact(OO (o6 ha hb) λσ H Q h=>by
 obtain⟨F,B,ad,as,bb,as',R,e,q⟩:=h;obtain⟨⟨p,as1⟩,h1,e⟩:=bS_ (show(ta as).bind _=_ from e);refine⟨F,B,ad,as,p,as1,R,h1,λad' H' R' g=>?_⟩;cases p with
 |false=>exact⟨F,B,ad',as1,bb,as',R',e,λad2 H2 R2 g2=>q ad2 H2 R2 (g.trans g2)⟩
 |true=>cases e;exact q ad' H' R' g)
def AW.at_{e:Expr}(h:AW X kd e ta):AT X kd e ta:=by with_unfolding_all exact(PW.pt h)
def Es(hc:AT X kd c ta)(ha:AE X kd a fa)(hb:AE X kd b fb):AE X kd (.IfExp c a b pos) (Sl ta fa fb):=by with_unfolding_all exact(yu (Oz hc ha hb) λσ H Q h=>by
 obtain⟨F,B,ad,as,r,as',R,e,q⟩:=h;obtain⟨⟨p,as1⟩,h1,e⟩:=bS_ (show(ta as).bind _=_ from e);refine⟨F,B,ad,as,p,as1,R,h1,λad' H' R' g=>?_⟩;cases p with
 |true=>exact⟨F,B,ad',as1,r,as',R',e,λv T2 ad2 H2 R2 rv g2=>q v T2 ad2 H2 R2 rv (g.trans g2)⟩
 |false=>exact⟨F,B,ad',as1,r,as',R',e,λv T2 ad2 H2 R2 rv g2=>q v T2 ad2 H2 R2 rv (g.trans g2)⟩)
def DA{K:zzA}{F B:Addr->Prop}{T:List Addr}{ad:Ad}{σ:St}{H:Hp}{v:V}{st c:Bool}(h:xW K kd F B T ad σ H v (.ow (.lf st (.bl c)))):T=[]/\v = .bl c:=by
 have h:ZN K kd F B (Gw T ad) H v (.lf st (.bl c)) T:=h;generalize hT:Gw T ad=G at h;cases h with
 |lf rp=>cases rp;exact⟨rfl,rfl⟩
def Gi{op}(ha:AE X kd a fa):AE X kd (.BoolOp op [a] pos) fa:=by with_unfolding_all exact(sL ha)
def QM(ha:AE X kd a fa)(hb:AE X kd (.BoolOp .And (b::rest) pos) fb):AE X kd (.BoolOp .And (a::b::rest) pos) (K0 fa fb):=by with_unfolding_all exact(yu (tV ha hb) λσ H Q h=>by
 obtain⟨F,B,ad,as,r,as',R,e,q⟩:=h;obtain⟨⟨p,as1⟩,h1,e⟩:=bS_ (show(fa as).bind _=_ from e);refine⟨F,B,ad,as,p,as1,R,h1,λv T' ad' H' R' rv g=>?_⟩;obtain⟨k,e1,e⟩:=bS_ e;obtain⟨st,rfl⟩:=Cn e1;obtain⟨rfl,rfl⟩:=DA rv;cases k with
 |true=>exact⟨true,rfl,⟨F,B,ad',as1,r,as',R',e,λv T2 ad2 H2 R2 rv g2=>q v T2 ad2 H2 R2 rv (g.trans g2)⟩⟩
 |false=>
  cases e;exact⟨false,rfl,q _ [] ad' H' R' (.lf (.bl false)) g⟩)
def OK(ha:AE X kd a fa):AE X kd (.UnaryOp .Not a pos) (se fa):=by with_unfolding_all exact(yu (t_ ha) λσ H Q h=>by
 obtain⟨F,B,ad,as,r,as',R,e,q⟩:=h;obtain⟨⟨p,as1⟩,h1,e⟩:=bS_ (show(fa as).bind _=_ from e);refine⟨F,B,ad,as,p,as1,R,h1,λv T' ad' H' R' rv g=>?_⟩;obtain⟨k,e1,e⟩:=bS_ e;obtain⟨st,rfl⟩:=Cn e1;obtain⟨rfl,rfl⟩:=DA rv;cases e;exact⟨k,rfl,q _ [] ad' H' R' (.lf (.bl _)) g⟩)
def Nj{op:UnaryOp}{g:D->Option R0}(ho:kK X kd (unaryOp op) g)(ha:AE X kd a fa):AE X kd (.UnaryOp op a pos) (f1 fa g):=by with_unfolding_all exact(yu (qx ho ha) λσ H Q h=>by
 obtain⟨F,B,ad,as,r,as',R,e,q⟩:=h;obtain⟨⟨p,as1⟩,h1,e⟩:=bS_ (show(fa as).bind _=_ from e);obtain⟨⟨x,lv⟩,h2,e⟩:=bS_ e;obtain⟨z,h3,e⟩:=bS_ e;obtain⟨y,h4,e⟩:=bS_ e;cases e;refine vQ R h1 λv ad1 H1 R1 rv1 g1=>⟨_,x,z,R1.tr _,xW.vw R1 rv1 h2,h3,Yo R1 h4 λw T' H' R' rv' g'=>q w T' ad1 H' R' rv' (g1.trans g')⟩)
end
abbrev AF:=AS->Option (List RV×AS)
inductive RVs(K:zzA)(kd:KD)(F B:Addr->Prop)(ad:Ad)(σ:St)(H:Hp):List V->List RV->Prop
 |nil:RVs K kd F B ad σ H [] []
 |cons {v:V}{r:RV}{vs:List V}{rs:List RV}:xW K kd F B [] ad σ H v r->RVs K kd F B ad σ H vs rs->RVs K kd F B ad σ H (v::vs) (r::rs)
def IH(K:zzA)(kd:KD)(f:AF):TA:=λσ H Q=>∃F B ad as rs as',Rel K kd F B [] ad as σ H/\f as=some (rs,as')/\
 ∀vs ad' H',Rel K kd F B [] ad' as' σ H'->RVs K kd F B ad' σ H' vs rs->Grow (Gw [] ad) H (Gw [] ad') H'->Q vs H'
@[irreducible] def AA(X:Cx)(kd:KD)(es:List Expr)(f:AF):Prop:=PA X es (IH X.K kd f)
def aN:AF:=λas=>some ([],as)
noncomputable def aC(fa:EF)(fr:AF):AF:=λas=>(fa as).bind λp=>(fr p.2).bind λq=>some (p.1.frz::q.1,q.2)
def Nw{X:Cx}{e:List Expr}{t t':TA}(h:PA X e t)(k:∀σ H Q,t' σ H Q->t σ H Q):PA X e t':=λpos pins s σ H Q I q=>h pos pins s σ H Q I (k σ H Q q)
abbrev DF:=AS->Option (List O×AS)
def l_(K:zzA)(kd:KD)(f:DF):TA:=λσ H Q=>∃F B ad as os as',Rel K kd F B [] ad as σ H/\f as=some (os,as')/\
 ∀vs T' ad' H',Rel K kd F B T' ad' as' σ H'->vB K kd F B (Gw T' ad') H' vs os T'->Grow (Gw [] ad) H (Gw T' ad') H'->Q vs H'
@[irreducible] def AD(X:Cx)(kd:KD)(es:List Expr)(f:DF):Prop:=PA X es (l_ X.K kd f)
def dN:DF:=λas=>some ([],as)
noncomputable def dC(fa:EF)(fr:DF):DF:=λas=>(fa as).bind λp=>(AB p.2 p.1).bind λx=>(fr x.2).bind λq=>some (x.1::q.1,q.2)
noncomputable def views(as:AS):List RV->Option (List D×Option Bool)
 | []=>some ([],some true)
 |r::rs=>(r.view as).bind λx=>(views as rs).bind λy=>some (x.1::y.1,meet x.2 y.2)
noncomputable def fP(fr:AF)(g:List D->Option R0):EF:=λas=>(fr as).bind λp=>(views p.2 p.1).bind λx=>(g x.1).bind λr=>(wrap x.2 r).bind λz=>some (z,p.2)
noncomputable def Ig(as:AS):RV->Option (Bool×D)
 | .ow o=>some (zv o.toD||o.str,o.toD)
 | .bo i=>match as[i]? with
  |some (some o)=>some (false,o.toD)
  |_=>none
noncomputable def vZ(as:AS):List RV->Option (List (Bool×D))
 | []=>some []
 |r::rs=>(Ig as r).bind λx=>(vZ as rs).bind λy=>some (x::y)
noncomputable def zq(fr:AF)(g:List (Bool×D)->Option O):EF:=λas=>(fr as).bind λp=>(vZ p.2 p.1).bind λx=>(g x).bind λo=>some (.ow o,p.2)
def mH(K:zzA)(kd:KD)(F:Addr->Prop)(H:Hp)(Q:VK)(o:O):Prop:=
 ∀v T H',T.Nodup->(∀a ∈ T,H a=none)->(∀b u,H b=some u->H' b=some u)->(∀a ∈ T,H' a≠none)->Ro (λ_ v d=>Rp K kd (W_ F (· ∈ T)) H' v d) (λa=>¬W_ F (· ∈ T) a) H' v o T->Q v H'
inductive RpA(K:zzA)(kd:KD)(F:Addr->Prop)(H:Hp):List V->List (Bool×D)->Prop
 |nil:RpA K kd F H [] []
 |cons {v:V}{st:Bool}{d:D}{vs:List V}{ds:List (Bool×D)}:Rp K kd (λa=>st=true/\F a) H v d->RpA K kd F H vs ds->RpA K kd F H (v::vs) ((st,d)::ds)
def Zm(K:zzA)(kd:KD)(g:List (Bool×D)->Option O):Sp:=λvs H Q _=>∃F ds o,(∀a,F a->H a≠none)/\RpA K kd F H vs ds/\g ds=some o/\mH K kd F H Q o
def VR(os:List O):O:=if os.all O.isLf=true then .lf (O.strs os) (.tup (O.toDs os))else .nd .tp os
noncomputable def yR(fr:DF):EF:=λas=>(fr as).bind λp=>if p.1.length<=sizeLine then some (.ow (VR p.1),p.2)else none
noncomputable def yk(fr:DF):EF:=λas=>(fr as).bind λp=>if p.1.length<=sizeLine then some (.ow (.nd .ls p.1),p.2)else none
section
variable{X:Cx}{kd:KD}{a b c:Expr}{fa fb:EF}{ta tb:TF}{pos:Pos}{es rest:List Expr}{fr:AF}{fd:DF}
theorem RpA.length{K:zzA}{F:Addr->Prop}{H:Hp}{vs:List V}{ds:List (Bool×D)}(h:RpA K kd F H vs ds):vs.length=ds.length:=by
 induction h with
 |nil=>rfl
 |cons _ _ ih=>exact congrArg (· + 1) ih
def zc:AA X kd [] aN:=by with_unfolding_all exact(Nw Rq λσ H Q h=>by
 obtain⟨F,B,ad,as,rs,as',R,e,q⟩:=h;cases e;exact q [] ad H R .nil Grow.refl)
def AC(ha:AE X kd a fa)(hr:AA X kd es fr)(hs:starEach (a::es) X.env=(false,eval a X.env)::starEach es X.env):AA X kd (a::es) (aC fa fr):=by with_unfolding_all exact(Nw (WH ha hr hs) λσ H Q h=>by
 obtain⟨F,B,ad,as,rs,as',R,e,q⟩:=h;obtain⟨⟨p,as1⟩,h1,e⟩:=bS_ (show(fa as).bind _=_ from e);obtain⟨⟨z,as2⟩,h2,e⟩:=bS_ e;cases e;refine vQ R h1 λv ad1 H1 R1 rv1 g1=>⟨F,B,ad1,as1,z,_,R1,h2,λvs ad2 H2 R2 rv2 g2=>?_⟩;exact q _ ad2 H2 R2 (.cons (rv1.grow g2) rv2) (g1.trans g2))
def zg:AD X kd [] dN:=by with_unfolding_all exact(Nw Rq λσ H Q h=>by
 obtain⟨F,B,ad,as,rs,as',R,e,q⟩:=h;cases e;exact q [] [] ad H R .nil Grow.refl)
def Ai(ha:AE X kd a fa)(hr:AD X kd es fd)(hs:starEach (a::es) X.env=(false,eval a X.env)::starEach es X.env):AD X kd (a::es) (dC fa fd):=by with_unfolding_all exact(Nw (WH ha hr hs) λσ H Q h=>by
 obtain⟨F,B,ad,as,rs,as',R,e,q⟩:=h;obtain⟨⟨p,as1⟩,h1,e⟩:=bS_ (show(fa as).bind _=_ from e);obtain⟨⟨o,as2⟩,h2,e⟩:=bS_ e;obtain⟨⟨os,as3⟩,h3,e⟩:=bS_ e;cases e;refine⟨F,B,ad,as,p,as1,R,h1,λv T1 ad1 H1 R1 rv1 g1=>?_⟩;obtain⟨ad2,R2,ro2,le2⟩:=Gu R1 rv1 h2;refine⟨F,_,ad2,as2,os,_,R2.hide,h3,λvs T3 ad3 H3 R3 ro3 g3=>?_⟩;have kT:∀a ∈ T1,∀u,H1 a=some u->H3 a=some u:=λa m u e=>g3.keep a u e λz=>z.elim (λy=>nomatch y) λ⟨i,y⟩=>R2.dis i a y m;have r1:ZN X.K kd F B (Gw (T1++T3) ad3) H3 v o T1:=ZN.lv RW (ZN.grow g3 kT (ZN.lv BJ ro2));have r3:vB X.K kd F B (Gw (T1++T3) ad3) H3 vs os T3:=vB.lv RW ro3;refine q _ (T1++T3) ad3 H3 (R3.unhide R2.tnd λa m z=>(R2.btr a z).2.2 (.inl m)) (.cons r1 r3) ((g1.trans (Grow.less le2)).trans ⟨λb u e n=>g3.keep b u e λz=>n (Gw.drop b z),λb z=>?_⟩)
 rcases z with z|z
 . rcases zzM.mp z with z|z
   . exact .inl (.inl z)
   . exact(g3.own b (.inl z)).elim (λy=>.inl (Gw.drop b y)) .inr
 . exact(g3.own b (.inr z)).elim (λy=>.inl (Gw.drop b y)) .inr)
def z_{x1}(h:AD X kd es fd):AE X kd (.Tuple es x1 pos) (yR fd):=by with_unfolding_all exact(yu (uy h) λσ H Q h=>by
 obtain⟨F,B,ad,as,r,as',R,e,q⟩:=h;obtain⟨⟨os,as1⟩,h1,e⟩:=bS_ (show(fd as).bind _=_ from e);obtain⟨hz,e⟩:=zt e;cases e;refine⟨F,B,ad,as,os,_,R,h1,λvs T1 ad1 H1 R1 ro1 g1=>⟨by rw[ro1.length];exact hz,λp hp=>?_⟩⟩;have k:∀b o,H1 b=some o->upd H1 p (.tup vs) b=some o:=λb o hb=>by rw[zF (zY hb hp)];exact hb
 obtain⟨R2,g2⟩:=R1.more k;have ro2:=vB.grow g2 (λa _ u h=>k a u h) ro1;have np:∀st,¬Lv F B (Gw T1 ad1) st p:=λst z=>R1.trk st p z hp;refine q _ T1 ad1 _ R2 ?_ (g1.trans g2);show ZN X.K kd F B (Gw T1 ad1) _ _ (VR os) T1;unfold VR
 by_cases hl:os.all O.isLf=true
 . rw[if_pos hl];have:=Oa ro2 hl;subst this;exact .lf (.tup (np _) (.inl ya) (Pl ro2 hl))
 . rw[if_neg hl];exact .tp (np _) ya ro2)
def zG(h:AD X kd es fd):AE X kd (.List es pos) (yk fd):=by with_unfolding_all exact(yu (rd h) λσ H Q h=>by
 obtain⟨F,B,ad,as,r,as',R,e,q⟩:=h;obtain⟨⟨os,as1⟩,h1,e⟩:=bS_ (show(fd as).bind _=_ from e);obtain⟨hz,e⟩:=zt e;cases e;refine⟨F,B,ad,as,os,_,R,h1,λvs T1 ad1 H1 R1 ro1 g1=>⟨by rw[ro1.length];exact hz,λp hp=>?_⟩⟩;have k:∀b o,H1 b=some o->upd H1 p (.lst vs) b=some o:=λb o hb=>by rw[zF (zY hb hp)];exact hb
 obtain⟨R2,g2⟩:=R1.add (N:=[p]) (by simp) (λa m=>by rw[zzR.mp m];exact hp) k (λa m=>by rw[zzR.mp m,ya];simp);exact q _ _ ad1 _ R2 (.ls ya (vB.grow g2 (λa _ u h=>k a u h) ro1)) (g1.trans g2))
theorem VwL.less{K:zzA}{O O':Addr->Prop}{H:Hp}(g:∀a,O' a->O a){vs:List V}{ds:List D}(h:VwL K kd O H vs ds):VwL K kd O' H vs ds:=by
 induction h with
 |nil=>exact .nil
 |cons h _ ih=>exact .cons (h.less g) ih
def Qa{K:zzA}{F B:Addr->Prop}{ad:Ad}{as:AS}{σ:St}{H:Hp}(R:Rel K kd F B [] ad as σ H){vs:List V}{rs:List RV}{ds:List D}{lv:Option Bool}(h:RVs K kd F B ad σ H vs rs)(e:views as rs=some (ds,lv)):VwL K kd (P5 F B (Gw [] ad) lv) H vs ds:=by
 induction h generalizing ds lv with
 |nil=>cases e;exact .nil
 |cons h t ih=>
  obtain⟨⟨d,l⟩,h1,e⟩:=bS_ (show(RV.view as _).bind _=_ from e);obtain⟨⟨ds,l2⟩,h2,e⟩:=bS_ e;cases e;exact .cons ((xW.vw R h h1).less P5.meet1) ((ih h2).less P5.meet2)
def km{g:List D->Option R0}{σ:St}{H:Hp}{Q:VK}{R':List V->Hp->VK->Prop}(hr:∀vs H Q,(∃O ds r,(∀a,O a->H a≠none)/\VwL X.K kd O H vs ds/\g ds=some r/\RQ X.K kd O H Q r)->R' vs H Q)
 (h:al X.K kd (fP fr g) σ H Q):IH X.K kd fr σ H λvs H1=>R' vs H1 Q:=by
 obtain⟨F,B,ad,as,r,as',R,e,q⟩:=h;obtain⟨⟨p,as1⟩,h1,e⟩:=bS_ (show(fr as).bind _=_ from e);obtain⟨⟨ds,lv⟩,h2,e⟩:=bS_ e;obtain⟨z,h3,e⟩:=bS_ e;obtain⟨y,h4,e⟩:=bS_ e;cases e;exact⟨F,B,ad,as,p,_,R,h1,λvs ad1 H1 R1 rv1 g1=>hr _ _ _ ⟨_,ds,z,R1.tr _,Qa R1 rv1 h2,h3,Yo R1 h4 λw T' H' R' rv' g'=>q w T' ad1 H' R' rv' (g1.trans g')⟩⟩
def T7{K:zzA}{F B:Addr->Prop}{ad:Ad}{as:AS}{σ:St}{H:Hp}(R:Rel K kd F B [] ad as σ H){vs:List V}{rs:List RV}{ds:List (Bool×D)}(h:RVs K kd F B ad σ H vs rs)(e:vZ as rs=some ds):RpA K kd (Lv F B (Gw [] ad) true) H vs ds:=by
 induction h generalizing ds with
 |nil=>cases e;exact .nil
 |cons h t ih=>
  rename_i v r vs rs;obtain⟨⟨st,d⟩,h1,e⟩:=bS_ (show(Ig as r).bind _=_ from e);obtain⟨ds,h2,e⟩:=bS_ e;cases e;refine .cons ?_ (ih h2);cases r with
  |ow o=>
   cases h1;cases hf:zv o.toD with
   |true=>exact(G3 h).flat hf
   |false=>
    refine(KQ h).less λa z=>?_;have zs:o.str=true:=z.1;rw[zs];exact z.2
  |bo i=>
   have e:(match as[i]? with|some (some o)=>some (false,o.toD)|_=>none)=some (st,d):=h1;cases k:as[i]? with
   |none=>rw[k]at e;cases e
   |some s=>
    cases s with
    |none=>rw[k]at e;cases e
    |some o=>
     rw[k]at e;cases e;obtain⟨w,hw,ro⟩:=R.sl i _ k;rw[h.2]at hw;cases hw;exact(G3 ro).less λa z=>nomatch z.1
def Bf{K:zzA}{F B:Addr->Prop}{ad:Ad}{as:AS}{σ:St}{H:Hp}{Q:VK}{o:O}(R:Rel K kd F B [] ad as σ H)(q:∀v T' H',Rel K kd F B T' ad as σ H'->xW K kd F B T' ad σ H' v (.ow o)->Grow (Gw [] ad) H (Gw T' ad) H'->Q v H'):
 mH K kd (Lv F B (Gw [] ad) true) H Q o:=λv T H' hn hl k h1 ro=>by
 obtain⟨R',g⟩:=R.news hn hl k h1;have le:∀st a,Lv F B (Gw T ad) st a->W_ (Lv F B (Gw [] ad) true) (· ∈ T) a:=λst a z=>by
  rcases z with(z|z)|z|z
  . exact .inl (.inl (.inl ⟨rfl,z.2⟩))
  . exact .inl (.inl (.inr z))
  . exact .inr z
  . exact .inl (.inr (.inr z))
 exact q v T H' R' (Ro.mono (λst v d r=>r.less (le st)) (λa vs n e=>⟨λz=>n (le true a z),e⟩) (λ_ _ _ e=>e) ro) g
def tF{g:List (Bool×D)->Option O}{σ:St}{H:Hp}{Q:VK}{E:XK}(h:al X.K kd (zq fr g) σ H Q):Dt (Zm X.K kd g) [] E (IH X.K kd fr) σ H Q:=by
 obtain⟨F,B,ad,as,r,as',R,e,q⟩:=h;obtain⟨⟨p,as1⟩,h1,e⟩:=bS_ (show(fr as).bind _=_ from e);obtain⟨ds,h2,e⟩:=bS_ e;obtain⟨o,h3,e⟩:=bS_ e;cases e;refine⟨F,B,ad,as,p,_,R,h1,λvs ad1 H1 R1 rv1 g1=>?_⟩;show Zm X.K kd g (vs++[]) H1 Q E;rw[zyE];exact⟨_,ds,o,R1.trk true,T7 R1 rv1 h2,h3,Bf R1 λw T' H' R' rv' g'=>q w T' ad1 H' R' rv' (g1.trans g')⟩
end
inductive Out where
 |nx (as:AS)|rt (o:O)|bk (as:AS)|ct (as:AS)
abbrev SF:=AS->Option Out
structure RetOk(K:zzA)(kd:KD)(F:Addr->Prop)(T:List Addr)(H:Hp)(v:V)(o:O):Prop where
 nd:T.Nodup
 tr:∀a ∈ T,H a≠none
 ro:Ro (λ_ v d=>Rp K kd (W_ F (· ∈ T)) H v d) (λa=>¬W_ F (· ∈ T) a) H v o T
def Sj(K:zzA)(kd:KD)(F B:Addr->Prop)(ad:Ad)(H:Hp)(D:Ends):Out->Prop
 | .nx as'=>∀σ' ad' H',Rel K kd F B [] ad' as' σ' H'->Grow (Gw [] ad) H (Gw [] ad') H'->D.nx σ' H'
 | .bk as'=>∀σ' ad' H',Rel K kd F B [] ad' as' σ' H'->Grow (Gw [] ad) H (Gw [] ad') H'->D.bk σ' H'
 | .ct as'=>∀σ' ad' H',Rel K kd F B [] ad' as' σ' H'->Grow (Gw [] ad) H (Gw [] ad') H'->D.ct σ' H'
 | .rt o=>∀v T H',RetOk K kd F T H' v o->Grow (Gw [] ad) H (· ∈ T) H'->D.rt v H'
def be(K:zzA)(kd:KD)(f:SF):TS:=λD σ H=>∃F B ad as o,Rel K kd F B [] ad as σ H/\f as=some o/\Sj K kd F B ad H D o
@[irreducible] def HC(X:Cx)(kd:KD)(st:Stmt)(f:SF):Prop:=PS X st (be X.K kd f)
@[irreducible] def IG(X:Cx)(kd:KD)(st:List Stmt)(f:SF):Prop:=Mg X st (be X.K kd f)
def wq(h:PS X e t)(k:∀D σ H,t' D σ H->t D σ H):PS X e t':=λa s σ H D I q=>h a s σ H D I (k D σ H q)
def YZ(h:Mg X e t)(k:∀D σ H,t' D σ H->t D σ H):Mg X e t':=λa s σ H D I q=>h a s σ H D I (k D σ H q)
def Sj.pre{K:zzA}{kd:KD}{F B:Addr->Prop}{ad ad1:Ad}{H H1:Hp}{D:Ends}{o:Out}(g:Grow (Gw [] ad) H (Gw [] ad1) H1)(h:Sj K kd F B ad H D o):Sj K kd F B ad1 H1 D o:=by
 cases o with
 |nx as=>exact λσ' ad' H' R g'=>h σ' ad' H' R (g.trans g')
 |bk as=>exact λσ' ad' H' R g'=>h σ' ad' H' R (g.trans g')
 |ct as=>exact λσ' ad' H' R g'=>h σ' ad' H' R (g.trans g')
 |rt r=>exact λv T H' R g'=>h v T H' R (g.trans g')
noncomputable def w4:SF:=λas=>some (.nx as)
def zj(f g:SF):SF:=λas=>(f as).bind λo=>match o with | .nx as'=>g as'|o=>some o
def vG(c:TF)(f g:SF):SF:=λas=>(c as).bind λp=>if p.1=true then f p.2 else g p.2
def yN(f:EF):SF:=λas=>(f as).bind λp=>some (.nx p.2)
def Cw(as:AS):RV->Option O
 | .ow o=>if o.str=true then some o else none
 | .bo i=>match as[i]? with
  |some (some o)=>if o.str=true then some o else none
  |_=>none
noncomputable def zL(f:EF):SF:=λas=>(f as).bind λp=>(Cw p.2 p.1).bind λo=>some (.rt o)
noncomputable def zy(z:Bool)(i:Nat)(f:EF):SF:=λas=>(f as).bind λp=>(AB p.2 (if z=true then p.1.frz else p.1)).bind λx=>if i<x.2.length then some (.nx (x.2.set i (some x.1)))else none
def Ro.strong{L:Bool->V->D->Prop}{N:Addr->Prop}{H:Hp}{v:V}{o:O}{fp:List Addr}(h:Ro L N H v o fp)(e:o.str=true):Ro (λst v d=>st=true/\L st v d) N H v o fp:=
 Ro.rec (motive_1:=λv o fp _=>o.str=true->Ro (λst v d=>st=true/\L st v d) N H v o fp) (motive_2:=λvs os fp _=>O.strs os=true->RoL (λst v d=>st=true/\L st v d) N H vs os fp)
  (λh e=>.lf ⟨e,h⟩) (λh _ r e=>.ls h (r e)) (λh l _ r e=>.dc h l (r e)) (λc h l _ r e=>.ob ⟨rfl,c⟩ h l (r e)) (λn h _ r e=>.tp n h (r e)) (λ_=>.nil) (λ_ _ h r e=>.cons (h ((zyC _ _).mp e).1) (r ((zyC _ _).mp e).2)) h e
section
variable{K:zzA}{kd:KD}{F B:Addr->Prop}{T:List Addr}{ad ad1:Ad}{as as1:AS}{σ:St}{H H1:Hp}{v:V}{r:RV}{o:O}
def N5(R:Rel K kd F B T ad as σ H)(hn:T'.Nodup)(hs:∀a ∈ T',Gw T ad a)(h:ZN K kd F B (Gw T ad) H v o T')(e:o.str=true):RetOk K kd F T' H v o:=by
 have b:∀a,W_ F (· ∈ T') a->Lv F B (Gw T ad) true a:=λa z=>z.elim (λy=>.inl (.inl ⟨rfl,y⟩)) λy=>.inr (hs a y);exact⟨hn,λa m=>(R.gtr a (hs a m)).1,Ro.mono (λc v d r=>by obtain⟨rfl,r⟩:=r;exact r.less b) (λa f n e=>⟨λz=>n (b a z),e⟩) (λ_ _ _ e=>e) (Ro.strong h e)⟩
def Rel.ret(R:Rel K kd F B T ad as σ H)(hr:xW K kd F B T ad σ H v r)(e:Cw as r=some o):∃T',RetOk K kd F T' H v o/\∀b ∈ T',Gw T ad b:=by
 cases r with
 |ow g=>
  obtain⟨c,rfl⟩:=zt e;exact⟨T,N5 R R.tnd (λa m=>.inl m) hr c,λa m=>.inl m⟩
 |bo i=>
  have e:(match as[i]? with|some (some o)=>if o.str=true then some o else none|_=>none)=some o:=e;cases k:as[i]? with
  |none=>rw[k]at e;cases e
  |some s=>
   cases s with
   |none=>rw[k]at e;cases e
   |some h=>
    rw[k]at e;obtain⟨c,rfl⟩:=zt e;obtain⟨w,d,f⟩:=R.sl i _ k;rw[hr.2]at d;cases d;exact⟨ad i,N5 R (R.nd i) (λa m=>.inr ⟨i,m⟩) f c,λa m=>.inr ⟨i,m⟩⟩
end
section
variable{X:Cx}{kd:KD}{st:Stmt}{sts rest:List Stmt}{a b c e:Expr}{fa fb:EF}{ta:TF}{pos:Pos}{f g:SF}
def zK:IG X kd [] w4:=by with_unfolding_all exact(YZ N8 λD σ H h=>by
 obtain⟨F,B,a,as,o,R,e,q⟩:=h;cases e;exact q σ a H R Grow.refl)
def zi(h1:HC X kd st f)(h2:IG X kd rest g):IG X kd (st::rest) (zj f g):=by with_unfolding_all exact(YZ (XW h1 h2) λD σ H h=>by
 obtain⟨F,B,ad,as,o,R,e,q⟩:=h;obtain⟨o1,e1,e⟩:=bS_ (show(f as).bind _=_ from e);refine⟨F,B,ad,as,o1,R,e1, ?_⟩;cases o1 with
 |nx as1=>exact λσ' ad' H' R' g'=>⟨F,B,ad',as1,o,R',e,q.pre g'⟩
 |bk as1=>cases e;exact q
 |ct as1=>cases e;exact q
 |rt r=>cases e;exact q)
def ze(h1:HC X kd st f):IG X kd [st] f:=by with_unfolding_all exact(Ug h1)
def DP:SF:=λ_=>none
def BM:HC X kd st DP:=by with_unfolding_all exact(λa s σ H D I h=>by obtain⟨F,B,b,as,o,R,e,q⟩:=h;cases e)
def yD(hc:AT X kd c ta)(ha:IG X kd sts f)(hb:IG X kd rest g):HC X kd (.If c sts rest pos) (vG ta f g):=by with_unfolding_all exact(wq (Cc hc ha hb) λD σ H h=>by
 obtain⟨F,B,i,as,o,R,e,q⟩:=h;obtain⟨⟨p,a⟩,j,e⟩:=bS_ (show(ta as).bind _=_ from e);refine⟨F,B,i,as,p,a,R,j,λb k d g=>?_⟩;cases p with
 |true=>exact⟨F,B,b,a,o,d,e,q.pre g⟩
 |false=>exact⟨F,B,b,a,o,d,e,q.pre g⟩)
def wI(he:AE X kd e fa)(hs:swapsWith e none pos.line X.env=pure false):HC X kd (.Expr e pos) (yN fa):=by with_unfolding_all exact(wq (UP he hs) λD σ H h=>by
 obtain⟨F,B,c,as,o,R,e,q⟩:=h;obtain⟨⟨p,a⟩,d,e⟩:=bS_ (show(fa as).bind _=_ from e);cases e;exact⟨F,B,c,as,p,a,R,d,λv j b f i k g=>q σ b f i.drop (g.trans (Grow.less Gw.drop))⟩)
def zx(he:AE X kd e fa):HC X kd (.Return (some e) pos) (zL fa):=by with_unfolding_all exact(wq (ID he) λD σ H h=>by
 obtain⟨F,B,b,as,o,R,e,q⟩:=h;obtain⟨⟨p,a⟩,c,e⟩:=bS_ (show(fa as).bind _=_ from e);obtain⟨r,d,e⟩:=bS_ e;cases e;refine⟨F,B,b,as,p,a,R,c,λv s f i j k g=>?_⟩;obtain⟨l,m,n⟩:=j.ret k d;exact q v l i m (g.trans (Grow.less n)))
def Fw{K:zzA}{F B:Addr->Prop}{T:List Addr}{ad:Ad}{as as2:AS}{σ:St}{H:Hp}{v:V}{r:RV}{z:Bool}{o:O}{i:Nat}(R:Rel K kd F B T ad as σ H)(rv:xW K kd F B T ad σ H v r)
 (h2:AB as (if z=true then r.frz else r)=some (o,as2)) (hl:i<as2.length):∃ad',Rel K kd F B [] ad' (as2.set i (some o)) (σ.set i (some v)) H/\∀a,Gw [] ad' a->Gw T ad a:=by
 cases z with
 |true=>
  obtain⟨b,c,d,e⟩:=Gu R.drop (xW.drop R rv) h2;exact⟨_,c.put hl d,λa y=>Gw.drop a (e a (WG a y))⟩
 |false=>
  obtain⟨b,c,d,e⟩:=Gu R rv h2;exact⟨_,c.put hl d,λa y=>e a (WG a y)⟩
def HW(hN:X.N.Nodup)(hi:X.N[i]? = some x)(hx:Loc X.env.scope x)(he:AE X kd e fa)(hs:swapsWith e (some (.Name x pos')) pos.line X.env=pure false)(hf:X.fn x=true\/X.env.scope.names.lookup x=some .local):
 HC X kd (.Assign [.Name x pos'] e pos) (zy z i fa):=by with_unfolding_all exact(wq (CY hN hi hx he hs hf) λD σ H h=>by
 obtain⟨F,B,c,as,o,R,e,q⟩:=h;obtain⟨⟨p,a⟩,d,e⟩:=bS_ (show(fa as).bind _=_ from e);obtain⟨⟨y,f⟩,j,e⟩:=bS_ e;obtain⟨k,e⟩:=zt e;cases e;refine⟨F,B,c,as,p,a,R,d,λv t l m n r g=>?_⟩;obtain⟨b,R2,s⟩:=Fw n r j k;exact q _ b m R2 (g.trans (Grow.less s)))
end
def v9(n:Nat)(ds:List (Bool×D)):AS:=ds.map (λx=>some (.lf x.1 x.2))++List.replicate (n-ds.length) none
def mC:Out->Option O
 | .nx _=>some (.lf true .non)
 | .rt o=>some o
 |_=>none
def ZD(n m:Nat)(f:SF)(ds:List (Bool×D)):Option O:=if ds.length=m then(f (v9 n ds)).bind mC else none
theorem RpA.get{K:zzA}{kd:KD}{F:Addr->Prop}{H:Hp}:∀{vs:List V}{ds:List (Bool×D)}{i:Nat}{x:Bool×D},RpA K kd F H vs ds->ds[i]? = some x->∃v,vs[i]? = some v/\Rp K kd (λa=>x.1=true/\F a) H v x.2
 |_,_,_,_,.nil,e=>by simp at e
 |_,_,0,_,.cons h _,e=>by simp at e;subst e;exact⟨_,rfl,h⟩
 |_,_,i+1,_,.cons _ r,e=>by
  obtain⟨v,b,c⟩:=RpA.get (i:=i) r (by simpa using e);exact⟨v,by simpa using b,c⟩
def SU{K:zzA}{kd:KD}{F:Addr->Prop}{H:Hp}{N:List Str}{vs:List V}{ds:List (Bool×D)}(ht:∀a,F a->H a≠none)(rp:RpA K kd F H vs ds):
 Rel K kd F (λ_=>False) [] (λ_=>[]) (v9 N.length ds) (L2.start N vs) H:=by
 have c:=rp.length;have f:∀a,¬Gw [] (λ_=>[]) a:=λa z=>z.elim (λy=>nomatch y) λ⟨_,y⟩=>nomatch y;refine⟨by unfold v9 L2.start;simp[c],λ_ _=>rfl,λ_=>zyJ,(λ_ _ _ z=>nomatch z),zyJ,(λ_ _ _ z=>nomatch z),ht,(λ_ z=>z.elim),λa z=>(f a z).elim,λi s e=>?_⟩;unfold v9 at e;unfold L2.start
 by_cases g:i<ds.length
 . rw[zyP (by rw[zzB];exact g),zzI]at e;obtain⟨d,h,b⟩:=zzX.mp e;subst b;obtain⟨v,j,k⟩:=rp.get h;rw[zyP (by rw[zzB,c];exact g),zzI,j];refine⟨v,rfl,.lf (k.less λa z=>?_)⟩
   rcases z with(z|z)|z
   . exact z
   . exact z.elim
   . exact(f a z).elim
 . rw[zyR (by rw[zzB];omega)]at e;have:=zyA e;have b:s=none:=(List.mem_replicate.mp this).2;subst b;rfl
section
variable{P:Program}{w:World}{K:zzA}{mg:Str->Option Value}{base:Heap}
def CJ(q:mH K kd F H Q o)(ro:RetOk K kd F T H' v o)(g:Grow (Gw [] λ_=>[]) H (· ∈ T) H'):Q v H':=by
 have c:∀a,¬Gw [] (λ_=>[]) a:=λa z=>z.elim (λy=>nomatch y) λ⟨_,y⟩=>nomatch y;exact q v T H' ro.nd (λa m=>(g.own a m).resolve_left (c a)) (λb u h=>g.keep b u h (c b)) ro.tr ro.ro
def yq{kd:KD}{x qual:Str}{st:Stmt}{f:Addr}{fd:FuncData}{N ps:List Str}{k:Nat}{c:SF}(Fn:Fun K x qual st f fd)(S:FnScope N ps (zd st))
 (hb:∀(cdv:Value) (A:Around) (outer:List Env) (s:Shared) (H:Hp) (E:XK),Room k (A.deeper (envOfC qual (zd st) s.heap.objs.size f cdv))->IG (Ld xC P w K mg base N qual (zd st) f cdv A outer s H E).nox kd (Yy st) c):
 FnOk P w K mg base xC (k+1) f fd ps (Zm K kd (ZD N.length ps.length c)):=by
 with_unfolding_all (
 refine Fn.ok S (λvs H Q E h=>?_) (λcdv A outer s H vs Q E hr h=>⟨_,hb cdv A outer s H E hr, ?_⟩)
 . obtain⟨F,ds,r,_,rp,e,_⟩:=h;unfold ZD at e
   by_cases hl:ds.length=ps.length
   . rw[rp.length,hl]
   . rw[if_neg hl]at e;cases e
 . obtain⟨F,ds,r,ht,rp,e,q⟩:=h;unfold ZD at e
   by_cases hl:ds.length=ps.length
   . rw[if_pos hl]at e;obtain⟨o,e1,e⟩:=bS_ e;refine⟨F,λ_=>False,λ_=>[],v9 N.length ds,o,SU ht rp,e1, ?_⟩;cases o with
     |nx as=>cases e;exact λσ' ad' H' R g=>CJ q (T:=[]) ⟨zyJ,(λ_ m=>nomatch m),.lf .non⟩ (g.trans (Grow.less (λ_ z=>nomatch z)))
     |rt o=>cases e;exact λv T H' ro g=>CJ q ro g
     |bk=>cases e
     |ct=>cases e
   . rw[if_neg hl]at e;cases e)
end
abbrev xb:=Bool×D
abbrev GF:=xb->AS->Option AS
abbrev uS:=List xb->AS->Option AS
def kids(st:Bool)(ds:List D):List xb:=ds.map λd=>(zv d||st,d)
inductive RpI(K:zzA)(kd:KD)(F B G:Addr->Prop)(H:Hp):List V->List xb->Prop
 |nil:RpI K kd F B G H [] []
 |cons {v:V}{x:xb}{vs:List V}{ds:List xb}:Rp K kd (Lv F B G x.1) H v x.2->RpI K kd F B G H vs ds->RpI K kd F B G H (v::vs) (x::ds)
def nC(K:zzA)(kd:KD)(S:List Nat)(g:GF):TG:=λv σ H Q=>∃F B ad as x as',Rel K kd F B [] ad as σ H/\Rp K kd (Lv F B (Gw [] ad) x.1) H v x.2/\g x as=some as'/\
 ∀σ' ad' H',Rel K kd F B [] ad' as' σ' H'->Grow (Gw [] ad) H (Gw [] ad') H'->(∀j,j ∉ S->σ'[j]? = σ[j]?)->Q σ' H'
def m3(K:zzA)(kd:KD)(S:List Nat)(g:uS):uG:=λvs σ H Q=>∃F B ad as ds as',Rel K kd F B [] ad as σ H/\RpI K kd F B (Gw [] ad) H vs ds/\g ds as=some as'/\
 ∀σ' ad' H',Rel K kd F B [] ad' as' σ' H'->Grow (Gw [] ad) H (Gw [] ad') H'->(∀j,j ∉ S->σ'[j]? = σ[j]?)->Q σ' H'
@[irreducible] def AG(X:Cx)(kd:KD)(tg:Expr)(S:List Nat)(g:GF):Prop:=PG X tg (nC X.K kd S g)
@[irreducible] def nE(X:Cx)(kd:KD)(tg:List Expr)(S:List Nat)(g:uS):Prop:=Du X tg (m3 X.K kd S g)
def sC(h:PG X e t)(k:∀v σ H Q,t' v σ H Q->t v σ H Q):PG X e t':=λa s σ H v u Q I r q=>h a s σ H v u Q I r (k v σ H Q q)
def BR(h:Du X e t)(k:∀v σ H Q,t' v σ H Q->t v σ H Q):Du X e t':=λa s σ H v u Q I r q=>h a s σ H v u Q I r (k v σ H Q q)
def gN(i:Nat):GF:=λx as=>if i<as.length then some (as.set i (some (.lf x.1 x.2)))else none
def Qm:uS:=λds as=>match ds with | []=>some as|_::_=>none
def wj(g:GF)(gs:uS):uS:=λds as=>match ds with | []=>none|d::r=>(g d as).bind λas1=>gs r as1
def gT(n:Nat)(gs:uS):GF:=λx as=>match x.2 with
 | .tup ds=>if ds.length=n then gs (kids x.1 ds) as else none
 | .lst ds=>if ds.length=n then gs (kids x.1 ds) as else none
 |_=>none
section
variable{K:zzA}{kd:KD}{F B G G':Addr->Prop}{H H':Hp}
theorem RpI.length(h:RpI K kd F B G H vs ds):vs.length=ds.length:=by
 induction h with
 |nil=>rfl
 |cons _ _ a=>exact congrArg (· + 1) a
theorem RpI.grow(g:Grow G H G' H')(h:RpI K kd F B G H vs ds):RpI K kd F B G' H' vs ds:=by
 induction h with
 |nil=>exact .nil
 |cons h _ a=>exact .cons (Rp.grow g h) a
def RpI.get{vs:List V}{ds:List xb}{i:Nat}{x:xb}(h:RpI K kd F B G H vs ds)(e:ds[i]? = some x):∃v,vs[i]? = some v/\Rp K kd (Lv F B G x.1) H v x.2:=by
 induction h generalizing i with
 |nil=>simp at e
 |cons h r a=>
  cases i with
  |zero=>simp at e;subst e;exact⟨_,rfl,h⟩
  |succ i=>
   obtain⟨v,b,c⟩:=a (i:=i) (by simpa using e);exact⟨v,by simpa using b,c⟩
def V7{st:Bool}{vs:List V}{ds:List D}(h:RpL K kd (Lv F B G st) H vs ds):RpI K kd F B G H vs (kids st ds):=
 RpL.ind (P:=λa b=>RpI K kd F B G H a (kids st b)) .nil (λ{v d a b} h _ c=>by
  refine .cons (x:=(zv d||st,d)) ?_ c;cases e:zv d with
  |true=>exact h.flat e
  |false=>exact h) h
end
section
variable{prog:Program}{w:World}{A:Around}{E:Value->Shared->Prop}{s:Shared}
theorem Nv(hne:l≠it):∀(n i:Nat) (s:Shared) (Q:List Value->Shared->Prop),s.heap.IsListIter it l i->s.heap.IsList l items->i+n<=items.size->
 (∀h',h'.IsListIter it l (i+n)->Heap.SameBut it s.heap h'->Q ((items.toList.drop i).take n) {s with heap:=h'})->wpAny (model prog w) A (draw (.ref it) n) Q E s
 |0,i,s,Q,a,_,_,f=>by
  show wpAny _ _ (pure []) Q E s;exact zxG (by simpa using f s.heap a (Heap.SameBut.refl ..))
 |n+1,i,s,Q,a,h,j,f=>by
  have b:i<items.size:=by omega
  show wpAny _ _ (pyNext (.ref it) >>= _) Q E s;refine zxF (wpAny_pyNext_list_item a h (x:=items[i]) (by simp[b]) λo c d=>?_);refine zxF (zxL (Nv hne n (i+1) _ _ c (h.extBut d.extBut hne) (by omega) λk e g=>zxG ?_));have m:items.toList.drop i=items[i]::items.toList.drop (i+1):=by simp[zyQ,b]
  have:=f k (by rw[show i+(n+1)=i+1+n by omega];exact e) (d.trans g);rw[m,List.take_succ_cons]at this;exact this
def EK(hh:A.handled=none)(ht:s.heap.IsList l items)
 (hn:targets.length=items.size) (hstar:targets.findIdx? (·.1)=none)
 (h:∀h',Heap.ExtBut s.heap.objs.size s.heap h'->wpAny (model prog w) A (assignInOrder (targets.map (·.2)) items.toList) Q E {s with heap:=h'}):
 wpAny (model prog w) A (unpack (.ref l) targets) Q E s:=by
 unfold unpack;rw[hn,hstar];refine zxF (zxL ?_);have a:l≠s.heap.objs.size:=by obtain⟨o,k,_⟩:=ht;exact zzQ (zxI k)
 unfold unpackItems;refine zxF ?_;unfold notIterableAtAll;refine zxF (wpAny_specialOf ht.typeIs PySem.F.slot_list_iter.lookup ?_);refine zxG ?_;simp only[Bool.false_eq_true,if_false];refine zxF (zxL (wpAny_pyIter_list ht ?_));refine zxF (zxL (Nv a items.size 0 _ _ ⟨_,zxJ _ rfl,rfl,rfl⟩ (ht.push _) (by omega) λm c d=>?_));have f:List.take items.size (List.drop 0 items.toList)=items.toList:=by
  rw[List.drop_zero];exact List.take_of_length_le (by simp)
 rw[f];rw[if_neg (by simp)];have g:m.IsList l items:=(ht.push _).extBut d.extBut a;refine zxF (zxL (wpAny_pyNext_list_end hh c g (by simp) λn i=>?_));simp only[Option.isSome_none,Bool.false_eq_true,if_false];exact zxG (h n λb o j e=>i b o j (d.extBut b o j (zxH _ e)))
end
section
variable{X:Cx}{kd:KD}{a b c e tg iter:Expr}{es:List Expr}{body:List Stmt}{fa fb:EF}{pos:Pos}{g:GF}{gs:uS}{f:SF}{ta:TF}{S S1 S2:List Nat}
def m9(K:zzA)(n:Nat)(t:uG):TG:=λv σ H Q=>∃a xs,v = .ref a/\W0 K H a xs/\xs.length=n/\t xs σ H Q
def Ij(hc:X.calm=true)(h:Du X es t)(hn:(assignEach es X.env).length=n)(hst:(assignEach es X.env).findIdx? (·.1)=none):PG X (.Tuple es k pos) (m9 X.K n t):=by
 intro c s σ H v u Q I r d;obtain⟨a,g,i,j,l,d⟩:=d;subst i;cases r;obtain⟨m,f,p,y⟩:=I.list j;rw[assign_Tuple];refine zxF (wpAny_standAt (EK (I.ok.hd hc) p.isList (by simp[hn,<-l,f.length]) hst λq w=>?_));have x:Inv X c σ H {s with heap:=q}:=I.kept (t':=s.toks) λb o e=>w b o (zzQ (zxI e)) e;exact h c _ σ H g _ Q x (by simpa using f) d
def AZ(hN:X.N.Nodup)(hi:X.N[i]? = some x)(hx:Loc X.env.scope x)(hf:X.fn x=true\/X.env.scope.names.lookup x=some .local):AG X kd (.Name x pos) [i] (gN i):=by with_unfolding_all exact(sC (IK hN hi hx hf) λv σ H Q h=>by
 obtain⟨F,B,f,as,y,a,R,b,e,q⟩:=h;obtain⟨c,e⟩:=zt e;cases e;exact q _ _ H (R.put c (o:=.lf y.1 y.2) (.lf b)) (Grow.less WG) λj d=>zzY (λz=>d (by rw[z];simp)))
def yK:nE X kd [] [] Qm:=by with_unfolding_all exact(BR Da λd σ H Q h=>by
 obtain⟨F,B,a,as,f,b,R,c,e,q⟩:=h;cases c with
 |nil=>cases e;exact⟨rfl,q σ a H R Grow.refl λ_ _=>rfl⟩
 |cons=>cases e)
def zk(h1:AG X kd a S1 g)(h2:nE X kd es S2 gs)(hs:(assignEach (a::es) X.env).map (·.2)=assign a X.env::(assignEach es X.env).map (·.2)):nE X kd (a::es) (S1++S2) (wj g gs):=by with_unfolding_all exact(BR (Ia h1 h2 hs) λx σ H Q h=>by
 obtain⟨F,B,l,as,y,c,R,m,e,q⟩:=h;cases m with
 |nil=>cases e
 |cons r n=>
  obtain⟨b,o,e⟩:=bS_ (show(g _ as).bind _=_ from e);refine⟨_,_,rfl,F,B,l,as,_,b,R,r,o,λA d C p i s=>?_⟩;exact⟨F,B,d,b,_,c,p,n.grow i,e,λt f u R2 v w=>q t f u R2 (i.trans v) λj k=>(w j λz=>k (zzL _ z)).trans (s j λz=>k (zzP _ z))⟩)
def xu{k n:Nat}(hc:X.calm=true)(h:nE X kd es S gs)(hn:(assignEach es X.env).length=n)(hst:(assignEach es X.env).findIdx? (·.1)=none):AG X kd (.Tuple es k pos) S (gT n gs):=by
 with_unfolding_all (
 intro pins s σ H v u Q I r hw;obtain⟨F,B,ad,as,⟨st,d⟩,as',R,rp,e,q⟩:=hw;cases d with
 |tup ds=>
  have e:(if ds.length=n then gs (kids st ds) as else none)=some as':=e
  by_cases hl:ds.length=n
  . rw[if_pos hl]at e;have go:∃a xs,v = .ref a/\Q3 X.K H a xs/\RpL X.K kd (Lv F B (Gw [] ad) st) H xs ds:=by
     cases rp with
     |tup n h r=>exact⟨_,_,rfl,.inl h,r⟩
     |tupK a b c e f r=>exact⟨_,_,rfl,.inr ⟨_,_,_,a,b,c,e,f⟩,r⟩
    obtain⟨a,xs,rfl,hs,rl⟩:=go;exact rh hc h hn hst pins s σ H _ u Q I r ⟨a,xs,rfl,hs,by rw[rl.length,hl],F,B,ad,as,_,as',R,V7 rl,e,q⟩
  . rw[if_neg hl]at e;cases e
 |lst ds=>
  have e:(if ds.length=n then gs (kids st ds) as else none)=some as':=e
  by_cases hl:ds.length=n
  . rw[if_pos hl]at e;cases rp with
    |lstK a b c r'=>exact Ij hc h hn hst pins s σ H _ u Q I r ⟨_,_,rfl,.inr ⟨_,_,_,a,rfl,rfl,rfl,b,c⟩,by rw[r'.length,hl],F,B,ad,as,_,as',R,V7 r',e,q⟩
    |lst n h' r'=>exact Ij hc h hn hst pins s σ H _ u Q I r ⟨_,_,rfl,.inl h',by rw[r'.length,hl],F,B,ad,as,_,as',R,V7 r',e,q⟩
  . rw[if_neg hl]at e;cases e
 |_=>cases e)
noncomputable def Ua(as:AS)(r:RV):Option (xb×AS):=(AB as r.frz).bind λx=>match x.1 with | .lf st d=>some ((st,d),x.2)|_=>none
def V9{K:zzA}{F B:Addr->Prop}{T:List Addr}{ad:Ad}{as as':AS}{σ:St}{H:Hp}{v:V}{r:RV}{x:xb}(R:Rel K kd F B T ad as σ H)(h:xW K kd F B T ad σ H v r)(e:Ua as r=some (x,as')):
 ∃ad',Rel K kd F B [] ad' as' σ H/\Rp K kd (Lv F B (Gw [] ad') x.1) H v x.2/\∀a,Gw [] ad' a->Gw T ad a:=by
 obtain⟨⟨o,c⟩,f,e⟩:=bS_ e;obtain⟨b,g,i,j⟩:=Gu R.drop (xW.drop R h) f;cases o with
 |lf l d=>
  cases e;refine⟨b,g, ?_,λa y=>Gw.drop a (j a y)⟩;have:=KQ i;exact this
 |nd k m=>cases e
noncomputable def Rg(f:EF)(g:GF):SF:=λas=>(f as).bind λp=>(Ua p.2 p.1).bind λq=>(g q.1 q.2).bind λas'=>some (.nx as')
def Q2(he:AE X kd e fa)(hg:AG X kd tg S g)(hs:swapsWithSole [tg] e pos.line X.env=pure false)(hw:swappedStores [tg] e X.env=pure none)(h1:(assignEach [tg] X.env).map (·.2)=[assign tg X.env]):
 HC X kd (.Assign [tg] e pos) (Rg fa g):=by with_unfolding_all exact(wq (u6 he hg hs hw h1) λD σ H h=>by
 obtain⟨F,B,ad,as,o,R,e,q⟩:=h;obtain⟨⟨p,as1⟩,h1,e⟩:=bS_ (show(fa as).bind _=_ from e);obtain⟨⟨x,as2⟩,h2,e⟩:=bS_ e;obtain⟨as3,h3,e⟩:=bS_ e;cases e;refine⟨F,B,ad,as,p,as1,R,h1,λv T' ad' H' R' rv g1=>?_⟩;obtain⟨ad2,R2,rp,le⟩:=V9 R' rv h2;exact⟨F,B,ad2,as2,_,as3,R2,rp,h3,λσ' ad' H' R' g' _=>q σ' ad' H' R' ((g1.trans (Grow.less le)).trans g')⟩)
structure ItOk(K:zzA)(kd:KD)(F B:Addr->Prop)(ad:Ad)(H:Hp)(J:It)(ds:List xb):Prop where
 all:∀(ad2:Ad) (H2:Hp),Grow (Gw [] ad) H (Gw [] ad2) H2->(∀st a,Lv F B (Gw [] ad2) st a->H2 a≠none)->∀i,(i<ds.length->J.go i H2)/\(ds.length<=i->J.stop i H2)/\
  ∀v H3,J.yld i H2 v H3->(∀b o,H2 b=some o->H3 b=some o)/\∀x,ds[i]? = some x->Rp K kd (Lv F B (Gw [] ad2) x.1) H3 v x.2
abbrev IF:=AS->Option (List xb×AS)
def jT(K:zzA)(kd:KD)(f:IF):TI:=λσ H R=>∃F B ad as ds as',Rel K kd F B [] ad as σ H/\f as=some (ds,as')/\
 ∀J ad' H',Rel K kd F B [] ad' as' σ H'->Grow (Gw [] ad) H (Gw [] ad') H'->ItOk K kd F B ad' H' J ds->R J H'
@[irreducible] def AI(X:Cx)(kd:KD)(tg iter:Expr)(f:IF):Prop:=PI X tg iter (jT X.K kd f)
noncomputable def forL(g:GF)(f:SF):List xb->AS->Option Out
 | [],as=>some (.nx as)
 |d::r,as=>(g d as).bind λas1=>(f as1).bind λo=>match o with
  | .nx as'=>forL g f r as'
  | .ct as'=>forL g f r as'
  | .bk as'=>some (.nx as')
  | .rt r=>some (.rt r)
def yU(fi:IF)(g:GF)(f:SF):SF:=λas=>(fi as).bind λp=>forL g f p.1 p.2
def yH(hp:PassesOwn (model X.prog X.w) X.A X.env X.xe)(hc:X.calm=true)(hi:AI X kd tg iter fi)(hg:AG X kd tg S g)(hb:IG X kd body f)(hs:∀x,foldedSetIterable iter X.env x=pure x):
 HC X kd (.For tg iter body [] pos) (yU fi g f):=by with_unfolding_all exact(wq (HP hp hc hi hg hb hs) λD σ H h=>by
 obtain⟨F,B,ad,as,o,R,e,q⟩:=h;obtain⟨⟨ds,as1⟩,h1,e⟩:=bS_ (show(fi as).bind _=_ from e);refine⟨F,B,ad,as,ds,as1,R,h1,λJ ad1 H1 R1 g1 it=>?_⟩;refine⟨λi m σ2 H2=>m+i=ds.length/\∃ad2 as2,Rel X.K kd F B [] ad2 as2 σ2 H2/\Grow (Gw [] ad1) H1 (Gw [] ad2) H2/\forL g f (ds.drop i) as2=some o,⟨ds.length,rfl,ad1,as1,R1,Grow.refl,e⟩, ?_⟩
 rintro i m σ2 H2 ⟨hm,ad2,as2,R2,g2,e2⟩
 obtain⟨k1,k2,k3⟩:=it.all ad2 H2 g2 R2.trk i
 by_cases hi:i<ds.length
 . refine .inr ⟨k1 hi,λσ3 H3=>∃ad3 as3,Rel X.K kd F B [] ad3 as3 σ3 H3/\Grow (Gw [] ad1) H1 (Gw [] ad3) H3/\forL g f (ds.drop (i+1)) as3=some o,λσ3 H3 ⟨ad3,as3,R3,g3,e3⟩=>⟨m-1,by omega,by omega,ad3,as3,R3,g3,e3⟩,λv H3 hy=>?_⟩;obtain⟨kp,rp⟩:=k3 v H3 hy;rw[zyQ hi]at e2;obtain⟨as3,e3,e2⟩:=bS_ (show(g _ as2).bind _=_ from e2);obtain⟨o3,e4,e2⟩:=bS_ e2;obtain⟨R3,g3⟩:=R2.more kp;refine⟨F,B,ad2,as2,_,as3,R3,rp _ (zzE hi),e3,λσ4 ad4 H4 R4 g4 _=>?_⟩;refine⟨F,B,ad4,as3,o3,R4,e4, ?_⟩;have gg:=(g2.trans g3).trans g4;cases o3 with
   |nx as5=>exact λσ5 ad5 H5 R5 g5=>⟨ad5,as5,R5,gg.trans g5,e2⟩
   |ct as5=>exact λσ5 ad5 H5 R5 g5=>⟨ad5,as5,R5,gg.trans g5,e2⟩
   |bk as5=>
    cases e2;exact λσ5 ad5 H5 R5 g5=>q σ5 ad5 H5 R5 (g1.trans (gg.trans g5))
   |rt r=>
    cases e2;exact λv T H5 ro g5=>q v T H5 ro (g1.trans (gg.trans g5))
 . refine .inl ⟨k2 (by omega), ?_⟩;rw[List.drop_eq_nil_of_le (by omega)]at e2;cases e2;exact q σ2 ad2 H2 R2 (g1.trans g2))
def P8:xb->Option (List xb)
 |(st,.lst ds)=>some (kids st ds)
 |(st,.tup ds)=>some (kids st ds)
 |_=>none
noncomputable def Xe(f:EF):IF:=λas=>(f as).bind λp=>(Ua p.2 p.1).bind λq=>(P8 q.1).bind λds=>some (ds,q.2)
def Sd{K:zzA}{F B:Addr->Prop}{ad:Ad}{H:Hp}{a:Addr}{vs:List V}{ds:List xb}(hs:∀(ad3:Ad) (H3:Hp),Grow (Gw [] ad) H (Gw [] ad3) H3->W0 K H3 a vs)(r:RpI K kd F B (Gw [] ad) H vs ds):ItOk K kd F B ad H (nj K a) ds:=⟨λc j h _ i=>by
 have b:=hs c j h;have e:=r.grow h;refine⟨λf=>?_,λf=>⟨_,b,by rw[r.length];exact f⟩,λv o k=>?_⟩
 . obtain⟨u,g,_⟩:=r.get (zzE f);exact⟨_,u,b,g⟩
 . obtain⟨rfl,l⟩:=k;refine⟨λ_ _ z=>z,λd m=>?_⟩;obtain⟨u,g,n⟩:=e.get m;have:=l _ b;rw[g]at this;cases this;exact n⟩
def uO{K:zzA}{F B:Addr->Prop}{ad:Ad}{H:Hp}{a:Addr}{vs:List V}{ds:List xb}(hs:∀(ad3:Ad) (H3:Hp),Grow (Gw [] ad) H (Gw [] ad3) H3->Q3 K H3 a vs)(r:RpI K kd F B (Gw [] ad) H vs ds):ItOk K kd F B ad H (nN K a) ds:=⟨λc j h _ i=>by
 have b:=hs c j h;have e:=r.grow h;refine⟨λf=>?_,λf=>⟨_,b,by rw[r.length];exact f⟩,λv o k=>?_⟩
 . obtain⟨u,g,_⟩:=r.get (zzE f);exact⟨_,u,b,g⟩
 . obtain⟨rfl,l⟩:=k;refine⟨λ_ _ z=>z,λd m=>?_⟩;obtain⟨u,g,n⟩:=e.get m;have:=l _ b;rw[g]at this;cases this;exact n⟩
def VZ(he:AE X kd e fa):AI X kd tg e (Xe fa):=by
 with_unfolding_all (
 intro pins s σ H R I h;obtain⟨F,B,ad,as,ds,as',Rl,e,q⟩:=h;obtain⟨⟨p,as1⟩,h1,e⟩:=bS_ (show(fa as).bind _=_ from e);obtain⟨⟨⟨st,x⟩,as2⟩,h2,e⟩:=bS_ e;obtain⟨ys,h3,e⟩:=bS_ e;cases e;cases x with
 |lst xs=>
  cases h3;refine ME he pins s σ H R I ⟨F,B,ad,as,p,as1,Rl,h1,λv T1 ad1 H1 R1 rv1 g1=>?_⟩;obtain⟨ad2,R2,rp,le⟩:=V9 R1 rv1 h2;cases rp with
  |lst hn hr rl=>exact⟨_,rfl,⟨_,.inl hr⟩,q _ ad2 H1 R2 (g1.trans (Grow.less le)) (Sd (λad3 H3 g3=>.inl (Uk g3 (λz=>hn (.inr z)) hr)) (V7 rl))⟩
  |lstK a b c rl=>exact⟨_,rfl,⟨_,.inr ⟨_,_,_,a,rfl,rfl,rfl,b,c⟩⟩,q _ ad2 H1 R2 (g1.trans (Grow.less le)) (Sd (λad3 H3 g3=>.inr ⟨_,_,_,a,rfl,rfl,rfl,b,c⟩) (V7 rl))⟩
 |tup xs=>
  cases h3;refine FG he pins s σ H R I ⟨F,B,ad,as,p,as1,Rl,h1,λv T1 ad1 H1 R1 rv1 g1=>?_⟩;obtain⟨ad2,R2,rp,le⟩:=V9 R1 rv1 h2;have go:∃a ys,v = .ref a/\(∀(ad3:Ad) (H3:Hp),Grow (Gw [] ad2) H1 (Gw [] ad3) H3->Q3 X.K H3 a ys)/\RpL X.K kd (Lv F B (Gw [] ad2) st) H1 ys xs:=by
   cases rp with
   |tup n h r=>exact⟨_,_,rfl,λad3 H3 g3=>.inl (Uk g3 (λz=>n (.inr z)) h),r⟩
   |tupK a b c e f r=>exact⟨_,_,rfl,λad3 H3 g3=>.inr ⟨_,_,_,a,b,c,e,f⟩,r⟩
  obtain⟨a,ys,rfl,hs,rl⟩:=go;exact⟨_,rfl,⟨_,hs ad2 H1 Grow.refl⟩,q _ ad2 H1 R2 (g1.trans (Grow.less le)) (uO hs (V7 rl))⟩
 |_=>cases h3)
def y2(lo:Int)(n:Nat):List xb:=(List.range n).map λ(i:Nat)=>(true,D.int (lo+(i:Int)))
def O2{K:zzA}{F B:Addr->Prop}{ad:Ad}{H:Hp}(lo:Int)(n:Nat):ItOk K kd F B ad H (rG lo n) (y2 lo n):=⟨λe h g _ i=>by
 have c:(y2 lo n).length=n:=by unfold y2;simp
 refine⟨λa=>by rw[c]at a;exact a,λa=>by rw[c]at a;exact a,λv j f=>?_⟩;obtain⟨rfl,rfl⟩:=f;refine⟨λ_ _ z=>z,λd b=>?_⟩;have a:i<n:=by rw[<-c];exact(zzG.mp b).1
 unfold y2 at b;rw[zzI,List.getElem?_range a]at b;cases b;exact .int _⟩
def ni:List D->Option D
 | [x]=>some x
 |_=>none
def IR(h:ni ds=some d):ds=[d]:=by
 cases ds with
 |nil=>cases h
 |cons x r=>
  cases r with
  |nil=>cases h;rfl
  |cons _ _=>cases h
noncomputable def y_(ds:List D):Option (List xb):=((ni ds).bind Ke).bind λj=>if -(2 ^ 62)<=j/\j<2 ^ 62 then some (y2 0 j.toNat)else none
def By(h:y_ ds=some xs):∃j,ds=[.int j]/\(if -(2 ^ 62)<=j/\j<2 ^ 62 then some (y2 0 j.toNat)else none)=some xs:=by
 obtain⟨j,a,h⟩:=bS_ h;obtain⟨d,b,a⟩:=bS_ a;cases Oh a;exact⟨j,IR b,h⟩
noncomputable def J8:List D->Option (List xb)
 | [.int i,.int j]=>if -(2 ^ 62)<=i/\i<2 ^ 62 /\ -(2 ^ 62)<=j/\j<2 ^ 62 then some (y2 i (j-i).toNat)else none
 |_=>none
noncomputable def yM(fr:AF)(h:List D->Option (List xb)):IF:=λas=>(fr as).bind λp=>(views p.2 p.1).bind λds=>(h ds.1).bind λxs=>some (xs,p.2)
def yh(hg:Gl X "range")(hm:X.mg "range"=none)(ha:AA X kd [a] fr)(hs:starEach [a] X.env=[(false,eval a X.env)]):AI X kd tg (.Call (.Name "range" p) [a] [] pos) (yM fr y_):=by
 with_unfolding_all (
 intro b s σ H R I h;obtain⟨F,B,k,as,A,l,m,e,q⟩:=h;obtain⟨⟨n,o⟩,r,e⟩:=bS_ (show(fr as).bind _=_ from e);obtain⟨⟨C,D⟩,t,e⟩:=bS_ e;obtain⟨E,c,e⟩:=bS_ e;cases e;obtain⟨j,rfl,c⟩:=By c
 . obtain⟨g,u⟩:=zt c;cases u;refine Ly hg hm ha hs b s σ H R I ⟨F,B,k,as,n,_,m,r,λG d v i f w=>?_⟩;have x:=Qa i f t;cases x with
   |cons y z=>
    cases z;cases y;exact⟨j,rfl,g.1,g.2,q _ d v i w (O2 0 _)⟩)
def Hc(hg:Gl X "range")(hm:X.mg "range"=none)(ha:AA X kd [a,b] fr)(hs:starEach [a,b] X.env=[(false,eval a X.env),(false,eval b X.env)])(hs2:starEach [b] X.env=[(false,eval b X.env)]):AI X kd tg (.Call (.Name "range" p) [a,b] [] pos) (yM fr J8):=by
 with_unfolding_all (
 intro c s σ H R I h;obtain⟨F,B,n,as,o,r,t,e,q⟩:=h;obtain⟨⟨u,v⟩,w,e⟩:=bS_ (show(fr as).bind _=_ from e);obtain⟨⟨x,J⟩,d,e⟩:=bS_ e;obtain⟨K,f,e⟩:=bS_ e;cases e
 match x,f,d with
 | [.int i,.int j],f,d=>
  obtain⟨y,z⟩:=zt (show(if -(2 ^ 62)<=i/\i<2 ^ 62 /\ -(2 ^ 62)<=j/\j<2 ^ 62 then some (y2 i (j-i).toNat)else none)=some o from f);cases z;refine S8 hg hm ha hs hs2 c s σ H R I ⟨F,B,n,as,u,_,t,w,λL g A m k C=>?_⟩;have D:=Qa m k d;cases D with
  |cons E l=>
   cases l with
   |cons l G=>
    cases G;cases E;cases l;exact⟨i,j,rfl,y,q _ g A m C (O2 i _)⟩)
def Rel.mut{K:zzA}{F B:Addr->Prop}{T fo:List Addr}{ad:Ad}{as:AS}{σ:St}{H:Hp}{i:Nat}{l:Addr}{fp fp':List Addr}{n:O}{u:HO}(R:Rel K kd F B T ad as σ H)(hi:i<as.length)(hl:ad i=l::fp)(hs:σ[i]? = some (some (.ref l)))
 (hsub:∀a ∈ fp'++fo,a ∈ fp++T) (hnd:(fp'++fo).Nodup) (hu:H l≠none)
 (ro:∀(H':Hp) (G':Addr->Prop),H' l=some u->Grow (Gw T ad) H G' H'->(∀a ∈ fp',∀w,H a=some w->H' a=some w)->ZN K kd F B G' H' (.ref l) n (l::fp')):
 Rel K kd F B fo (v7 ad i (l::fp')) (as.set i (some n)) σ (upd H l u)/\Grow (Gw T ad) H (Gw fo (v7 ad i (l::fp'))) (upd H l u):=by
 have hli:l ∈ ad i:=by rw[hl];exact zzF
 have lT:l ∉ T:=R.dis i l hli;have lfp:l ∉ fp:=by have:=R.nd i;rw[hl]at this;exact(zzW.mp this).1
 have lsub:∀a ∈ fp'++fo,a≠l:=λa m e=>by
  subst e
  rcases zzM.mp (hsub _ m)with z|z
  . exact lfp z
  . exact lT z
 have sub:∀a ∈ fp'++fo,Gw T ad a:=λa m=>by
  rcases zzM.mp (hsub a m)with z|z
  . exact .inr ⟨i,by rw[hl];exact zzD _ z⟩
  . exact .inl z
 have gsub:∀a,Gw fo (v7 ad i (l::fp')) a->Gw T ad a:=λa z=>by
  rcases z with z|⟨j,z⟩
  . exact sub a (zzL _ z)
  . by_cases e:j=i
    . subst e;rw[zZ]at z
      rcases zzC.mp z with z|z
      . subst z;exact .inr ⟨j,hli⟩
      . exact sub a (zzP _ z)
    . rw[ye e]at z;exact .inr ⟨j,z⟩
 have g:Grow (Gw T ad) H (Gw fo (v7 ad i (l::fp'))) (upd H l u):=⟨λb w h n=>by rw[zF (λe=>n (by subst e;exact .inr ⟨i,hli⟩))];exact h,λb z=>.inl (gsub b z)⟩;have kn:∀a,H a≠none->upd H l u a≠none:=λa z=>by
  by_cases e:a=l
  . subst e;rw[ya];simp
  . rw[zF e];exact z
 obtain⟨hnd1,hnd2,hnd3⟩:=zxE.mp hnd;have inT:∀j a,j≠i->a ∈ ad j->a ∈ fp'++fo->False:=λj a hj m m'=>by
  rcases zzM.mp (hsub a m')with z|z
  . exact hj (R.inj j i a m (by rw[hl];exact zzD _ z))
  . exact R.dis j a m z
 refine⟨⟨by rw[zzU];exact R.len,λj hj=>?_,λj=>?_,λj k a h1 h2=>?_,hnd2,λj a h1 h2=>?_,λa z=>kn a (R.ftr a z),λa z=>?_,λa z=>⟨kn a (R.gtr a (gsub a z)).1,(R.gtr a (gsub a z)).2⟩,λj s e=>?_⟩,g⟩
 . rw[zzU]at hj;rw[ye (by omega)];exact R.out j hj
 . by_cases e:j=i
   . subst e;rw[zZ];exact zzW.mpr ⟨λm=>lsub l (zzP _ m) rfl,hnd1⟩
   . rw[ye e];exact R.nd j
 . by_cases e:j=i
   . subst e
     by_cases e':k=j
     . exact e'.symm
     . rw[zZ]at h1;rw[ye e']at h2
       rcases zzC.mp h1 with z|z
       . subst z;exact R.inj j k a hli h2
       . exact(inT k a e' h2 (zzP _ z)).elim
   . rw[ye e]at h1
     by_cases e':k=i
     . subst e';rw[zZ]at h2
       rcases zzC.mp h2 with z|z
       . subst z;exact R.inj j k a h1 hli
       . exact(inT j a e h1 (zzP _ z)).elim
     . rw[ye e']at h2;exact R.inj j k a h1 h2
 . by_cases e:j=i
   . subst e;rw[zZ]at h1
     rcases zzC.mp h1 with z|z
     . subst z;exact lsub a (zzL _ h2) rfl
     . exact hnd3 a z a h2 rfl
   . rw[ye e]at h1;exact inT j a e h1 (zzL _ h2)
 . obtain⟨b1,b2,b3⟩:=R.btr a z;exact⟨kn a b1,b2,λy=>b3 (gsub a y)⟩
 . by_cases q:j=i
   . subst q;rw[zyK hi]at e;cases e;rw[zZ];refine⟨_,hs,ro _ _ ya g λa m w h=>?_⟩;rw[zF (lsub a (zzP _ m))];exact h
   . rw[zzY (Ne.symm q)]at e;rw[ye q];refine(R.sl j s e).grow g λa m w h=>?_;rw[zF (λz=>q (R.inj j i l (by rw[<-z];exact m) hli))];exact h
abbrev MG:=List O->List O->Option (List O×O)
noncomputable def vH(i:Nat)(fr:DF)(g:MG):EF:=λas=>match as[i]? with
 |some (some (.nd .ls _))=>(fr as).bind λp=>match p.2[i]? with
  |some (some (.nd .ls os))=>(g os p.1).bind λz=>some (.ow z.2,p.2.set i (some (.nd .ls z.1)))
  |_=>none
 |_=>none
def rE(X:Cx)(kd:KD)(r:V->List V->Hp->VK->Prop)(g:MG):Prop:=
 ∀(F B G:Addr->Prop) (l:Addr) (vs ws:List V) (os es os':List O) (o:O) (fp fq:List Addr) (H:Hp) (Q:VK),H l=some (.lst vs)->vB X.K kd F B G H vs os fp->vB X.K kd F B G H ws es fq->(fp++fq).Nodup->g os es=some (os',o)->
  (∀v vs' fp' fo,vB X.K kd F B G H vs' os' fp'->ZN X.K kd F B G H v o fo->(∀a ∈ fp'++fo,a ∈ fp++fq)->(fp'++fo).Nodup->Q v (upd H l (.lst vs')))->r (.ref l) ws H Q
def DX{i:Nat}{fr:DF}{g:MG}{r:V->List V->Hp->VK->Prop}(hr:rE X kd r g)
 {σ:St}{H:Hp}{Q:VK}(h:al X.K kd (vH i fr g) σ H Q):kq X.K "list" r (Qo i) (l_ X.K kd fr) σ H Q:=by
 obtain⟨F,B,U,as,z,as',R,e,q⟩:=h;unfold vH at e;cases k:as[i]? with
 |none=>rw[k]at e;cases e
 |some a0=>
  rw[k]at e
  match a0,e,k with
  |some (.nd .ls os0),e,k=>
   obtain⟨⟨G,s⟩,h1,e⟩:=bS_ (show(fr as).bind _=_ from e);obtain⟨v0,f,t⟩:=R.sl i _ k;generalize W:U i=fp0 at t;cases t with
   |ls I rl0=>
   rename_i l vs0 Y;refine⟨_,f,.inl ⟨rfl,_,.inl (.inl I)⟩,F,B,U,as,G,s,R,h1,λws J x L j M g1=>?_⟩;cases p:s[i]? with
   |none=>rw[p]at e;cases e
   |some a2=>
    rw[p]at e
    match a2,e,p with
    |some (.nd .ls Z),e,p=>
     obtain⟨⟨y,o⟩,h3,e⟩:=bS_ (show(g Z G).bind _=_ from e);cases e;obtain⟨v1,A,C⟩:=j.sl i _ p;rw[f]at A;cases A;generalize c:x i=fp1 at C;cases C with
     |ls hH rl=>
     rename_i vs fp;have N:(fp++J).Nodup:=zxE.mpr ⟨by have:=j.nd i;rw[c]at this;exact(zzW.mp this).2,j.tnd,λa m b m' e=>by
          subst e;exact j.dis i a (by rw[c];exact zzD _ m) m'⟩
     refine hr F B (Gw J x) _ vs ws Z G y o fp J L Q hH rl M N h3 λv D fp' fo O P d E=>?_;obtain⟨R3,g3⟩:=j.mut (n:=.nd .ls y) (u:=.lst D) (zzG.mp p).1 c f d E (by rw[hH];simp) λH' G' S gr kp=>.ls S (vB.grow gr kp O);have T:∀a ∈ fo,∀w,L a=some w->upd L l (.lst D) a=some w:=λa m w h=>by
          rw[zF (λe=>?_)]
          . exact h
          . subst e
            rcases zzM.mp (d _ (zzL _ m))with z|z
            . have:=j.nd i;rw[c]at this;exact(zzW.mp this).1 z
            . exact j.dis i _ (by rw[c];exact zzF) z
     exact q v fo _ _ R3 (ZN.grow g3 T P) (g1.trans g3)
end
end PF
end
section
set_option exponentiation.threshold 5000
namespace PF
open PySem PySem.Spec PyProof.Rows L2
section
variable{K:zzA}{kd:KD}{O:Addr->Prop}{H:Hp}{Q:VK}
def yc(q:RQ K kd O H Q (.im d))(r:Rp K kd O H v d):Q v H:=q v H (λ_ _ z=>z) r
def B4(hp:H p=none)(r:RpL K kd O H vs ds):RpL K kd (W_ O (· = p)) (upd H p o) vs ds:=
 RpL.grow (F:=O) (W:=λ_=>False) ⟨λb u q _=>by rw[zF (zY q hp)];exact q,λb z=>.inr (by rw[z];exact hp)⟩ (r.less λa z=>z.elim id False.elim)
def Jp(hp:H p=none)(r:RpM K kd O H vs ds):RpM K kd (W_ O (· = p)) (upd H p o) vs ds:=
 RpM.grow (F:=O) (W:=λ_=>False) ⟨λb u q _=>by rw[zF (zY q hp)];exact q,λb z=>.inr (by rw[z];exact hp)⟩ (r.less λa z=>z.elim id False.elim)
def wa{p:Addr}{o:HO}(hp:H p=none):∀b u,H b=some u->upd H p o b=some u:=λb u q=>by rw[zF (zY q hp)];exact q
def RP{vs:List V}{ds:List D}(q:RQ K kd O H Q (.fl ds))(r:RpL K kd O H vs ds):∀p,H p=none->Q (.ref p) (upd H p (.lst vs)):=λp hp=>
 q p vs _ hp (wa hp) ya (B4 hp r)
def CA{vs:List (Key×V)}{ds:List (Key×D)}(q:RQ K kd O H Q (.fd ds))(r:RpM K kd O H vs ds):∀p,H p=none->Q (.ref p) (upd H p (.dK vs)):=λp hp=>
 q p vs _ hp (wa hp) ya (Jp hp r)
def Gz{vs:List V}{ds:List D}(ht:∀a,O a->H a≠none)(q:RQ K kd O H Q (.im (.tup ds)))(r:RpL K kd O H vs ds):∀p,H p=none->Q (.ref p) (upd H p (.tup vs)):=λp hp=>
 q _ _ (wa hp) (.tup (λz=>ht p z hp) (.inl ya) ((B4 hp r).less λa z=>.inl z))
end
def big:Nat:=2 ^ 4000
def EV(h:i.natAbs<big):Builtin.Int.intBits i<=2 ^ 20:=by
 unfold Builtin.Int.intBits
 split
 . exact Nat.zero_le _
 . have:i.natAbs.log2<4000:=by
    rcases Nat.eq_zero_or_pos i.natAbs with a|b
    . rw[a];decide
    . exact(Nat.log2_lt (Nat.ne_of_gt b)).mpr h
   have e:(2:Nat) ^ 20=1048576:=by decide
   omega
def A4{i:Int}(h:i.natAbs<2 ^ 64):Builtin.Int.intBits i<=64:=by
 unfold Builtin.Int.intBits
 split
 . exact Nat.zero_le _
 . rcases Nat.eq_zero_or_pos i.natAbs with h0|hp
   . rw[h0];decide
   . exact(Nat.log2_lt (Nat.ne_of_gt hp)).mpr h
def DS(f:Int->Int->Option R0)(x y:D):Option R0:=(Ke x).bind λi=>(Ke y).bind λj=>f i j
noncomputable def lA(x y:D):Option R0:=match x with
 | .int i=>(Ke y).bind λj=>some (.im (.int (i+j)))
 | .str x=>(mN y).bind λy=>if x.length+y.length<=sizeLine then some (.im (.str (x++y)))else none
 | .lst xs=>(SD y).bind λys=>if xs.length+ys.length<=sizeLine then some (.fl (xs++ys))else none
 | .tup xs=>(rV y).bind λys=>if xs.length+ys.length<=sizeLine then some (.im (.tup (xs++ys)))else none
 |_=>none
noncomputable def lr(x y:D):Option R0:=match x with
 | .int i=>(Ke y).bind λj=>if(i.natAbs<big/\j.natAbs<big)\/j.natAbs<2 ^ 64 then some (.im (.int (i*j)))else none
 | .lst xs=>(Ke y).bind λk=>if -(2 ^ 63)<=k/\k<2 ^ 63/\xs.length*k.toNat<=sizeLine then some (.fl (List.replicate k.toNat xs).flatten)else none
 | .tup xs=>(Ke y).bind λk=>if 1<=k/\k<2 ^ 63/\xs.length≠0/\xs.length*k.toNat<=sizeLine then some (.im (.tup (List.replicate k.toNat xs).flatten))else none
 |_=>none
def YX(o:Operator)(x y:D):Option R0:=match o with
 | .Add=>lA x y
 | .Sub=>DS (λi j=>some (.im (.int (i-j)))) x y
 | .Mult=>lr x y
 | .FloorDiv=>DS (λi j=>if 0<j/\j.natAbs<big then some (.im (.int (i/j)))else none) x y
 | .Mod=>DS (λi j=>if 0<j then some (.im (.int (i%j)))else none) x y
 | .Pow=>DS (λi j=>if 0<=j/\j<=1000000/\i.natAbs<2 ^ 64 then some (.im (.int (i ^ j.toNat)))else none) x y
 |_=>none
def Wh{K:zzA}{kd:KD}{O:Addr->Prop}{H:Hp}{v:V}{d:D}{i:Int}(h:Vw K kd O H v d)(e:Ke d=some i):d = .int i/\v = .int i:=by
 cases h with
 |int j=>cases e;exact⟨rfl,rfl⟩
 |_=>cases e
def sd{K:zzA}{kd:KD}{O:Addr->Prop}{H:Hp}{v:V}{d:D}{i:Str}(h:Vw K kd O H v d)(e:mN d=some i):d = .str i/\v = .str i:=by
 cases h with
 |str j=>cases e;exact⟨rfl,rfl⟩
 |_=>cases e
def Wa{K:zzA}{kd:KD}{O:Addr->Prop}{H:Hp}{v w:V}{d e:D}{f:Int->Int->Option R0}{r:R0}(vx:Vw K kd O H v d)(vy:Vw K kd O H w e)(h:DS f d e=some r):∃i j,v = .int i/\w = .int j/\f i j=some r:=by
 obtain⟨i,a,h⟩:=bS_ (show(Ke d).bind _=_ from h);obtain⟨j,b,h⟩:=bS_ h;exact⟨i,j,(Wh vx a).2,(Wh vy b).2,h⟩
section
variable{X:Cx}{kd:KD}
def IM:Ry X (binaryOp .Add) (λx y H Q=>∃l b xs zs,x = .ref l/\y = .ref b/\Ot X.K H l xs/\Ot X.K H b zs/\xs.length+zs.length<=sizeLine/\∀p,H p=none->Q (.ref p) (upd H p (.lst (xs++zs)))):=by
 intro d s σ H x y v u Q I g i h;obtain⟨l,b,w,A,rfl,rfl,j,k,B,q⟩:=h;cases g;cases i;obtain⟨z,c,n,r,e⟩:=FS I j;obtain⟨C,a,D,f,m⟩:=FS I k;have E:=r.length;have o:=f.length;refine PySem.P.add_list e m ?_ (by rw[zzH,zzH];omega);have t:c.toArray++a.toArray=(c++a).toArray:=by simp
 rw[t];exact⟨.ref _,_,I.lnew (t':=s.toks) (r.append f) (by rw[zzJ];omega),rfl,q _ I.fresh⟩
def Dh:Ry X (binaryOp .Mult) (λx y H Q=>∃l k xs,x = .ref l/\y = .int k/\Ot X.K H l xs /\ -(2 ^ 63)<=k/\k<2 ^ 63/\xs.length*k.toNat<=sizeLine/\
 ∀p,H p=none->Q (.ref p) (upd H p (.lst (List.replicate k.toNat xs).flatten))):=by
 intro w s σ H x y v u Q I B C h;obtain⟨l,k,N,rfl,rfl,D,E,G,A,q⟩:=h;cases B;obtain⟨t,rfl⟩:=C;obtain⟨z,b,n,r,e⟩:=FS I D;have J:=r.length;have d:b.toArray.size*k.toNat<=sizeLine:=by rw[zzH,<-J];exact A
 have f:¬b.toArray.size*k.toNat > (2 ^ 63-1)/8:=by
  have:(sizeLine:Nat)<=(2 ^ 63-1)/8:=by decide
  omega
 have g:¬(!Builtin.List.listFitsIndex k)=true:=by
  rw[fitsIndex_both E G];exact zyV
 have c:¬Builtin.List.listTooLong (b.toArray.size*k.toNat)=true:=by
  rw[OJ d];exact zyV
 have i:List.foldl (λj o=>j++o) #[] (List.replicate (if b.toArray.isEmpty=true then 0 else k.toNat) b.toArray)=(List.replicate k.toNat b).flatten.toArray:=by
  have L:∀m:Nat,List.foldl (λj o=>j++o) #[] (List.replicate m b.toArray)=(List.replicate m b).flatten.toArray:=λm=>by
   have:=foldl_rep b m [];rw[List.nil_append]at this;exact this
  rw[L];cases b with
  |nil=>simp
  |cons a O=>rw[if_neg (by simp)]
 refine wpAny_binaryOp_repeat_ref (T:="list") (U:="int") (by decide) ⟨_,e,rfl⟩ (λM=>typeIs_int M k t) noFill_list_mul F.fills_int_mul F.slot_int_rmul repeat_list F.slot_int_index.lookup
  (call_meets F.slot_int_rmul (typeIs_int s k t) F.entry_int_rmul (F.args_int_rmul_2 _ _) (int___rmul___int_list k t l b.toArray n)
   ⟨e,rfl,⟨_,e,rfl⟩,call_meets F.slot_list_mul ⟨_,e,rfl⟩ F.entry_list_mul (F.args_list_mul_2 _ _) (AutoListH.list___mul___list_int_3 l b.toArray n k t g f c) ⟨e, ?_⟩⟩)
 rw[i];refine⟨.ref _,_,I.lnew (t':=s.toks) (r.rep k.toNat) ?_,rfl,q _ I.fresh⟩;rw[len_rep,Nat.mul_comm];exact A
def tuple_addW0(l b:Addr)(items items2:Array Value)(n n2:Nat)(dd dd2:Option Addr)(sl sl2:Array (Option Value))(h0:items.isEmpty=true):
 Meets (Builtin.«tuple.__add__» {pos:=[.ref l,.ref b]}) (λ_ R s=>s.heap.get? l=some {cls:=.type "tuple",dict:=dd,data:=.seq items n,slots:=sl}/\s.heap.get? b=some {cls:=.type "tuple",dict:=dd2,data:=.seq items2 n2,slots:=sl2}/\R (.ok (.ret (.ref b))) s):=
 .of_wp λa w A R s h=>by
  obtain⟨f,g,d,i,j⟩:=s;obtain⟨c,e,h⟩:=h;have f2:=AutoSeq1.sub_tuple_tuple
  wp_walk using wpAny_loadPart' c,wpAny_loadPart' e
  exact⟨_,rfl,h⟩
def EL(l:Addr)(items:Array Value)(n:Nat)(dd:Option Addr)(sl:Array (Option Value))(u:Tok):
 Meets (Builtin.«tuple.__mul__» {pos:=[.ref l,.int 1 u]}) (λ_ R s=>s.heap.get? l=some {cls:=.type "tuple",dict:=dd,data:=.seq items n,slots:=sl}/\R (.ok (.ret (.ref l))) s):=
 .of_wp λa w A R s h=>by
  obtain⟨c,g,d,e,f⟩:=s;obtain⟨b,h⟩:=h;have f2:=AutoSeq1.sub_tuple_tuple
  wp_walk using wpAny_loadPart' b
  exact⟨_,rfl,h⟩
def Ez(l:Addr)(items its2:Array Value)(n:Nat)(dd:Option Addr)(sl:Array (Option Value))(x:Int)(u:Tok)(c1:¬(decide (x < -2 ^ 63)||decide (x ≥ 2 ^ 63))=true)(c2:¬(items.isEmpty||x==1)=true)(c3:¬(decide (x<=0)||items.isEmpty)=true)
 (hcap:¬(items.size:Int)*x > (2 ^ 63-1)/8) (ht:¬Builtin.Tuple.tupleTooMany (items.size*x)=true) (hz:¬(List.foldl (λx1 x2=>x1++x2) #[] (List.replicate x.toNat items)).size > sizeLine):
 Meets (Builtin.«tuple.__mul__» {pos:=[.ref l,.int x u]}) (λ_ R s=>s.heap.get? l=some {cls:=.type "tuple",dict:=dd,data:=.seq items n,slots:=sl}/\R (.ok (.ret (.ref s.heap.objs.size))) {s with heap:=s.heap.push {cls:=.type "tuple",data:=.seq (List.foldl (λx1 x2=>x1++x2) #[] (List.replicate x.toNat items))}}):=
 .of_wp λa w A R s h=>by
  obtain⟨c,g,d,e,f⟩:=s;obtain⟨b,h⟩:=h;have f2:=AutoSeq1.sub_tuple_tuple
  wp_walk using wpAny_loadPart' b
  rw[if_neg c1]
  wp_walk using wpAny_loadPart' b
  rw[if_neg hcap]
  wp_walk
  exact⟨_,rfl,h⟩
def Pr:fillsNumberSlot (Value.type "tuple") "mul"=pure false:=PySem.fillsNumberSlot_seq rfl rfl rfl rfl
def NN:seqRepeat? (Value.type "tuple")=pure (some (Value.builtin "tuple.__mul__")):=W.of_pureOf rfl
def GS(a:Int)(t:Tok)(l:Addr)(items:Array Value)(n:Nat)(dd:Option Addr)(sl:Array (Option Value)):
 Meets (Builtin.«int.__rmul__» {pos:=[.int a t,.ref l]}) (λ_ R s=>s.heap.get? l=some {cls:=.type "tuple",dict:=dd,data:=.seq items n,slots:=sl}/\R (.ok (.ret .notImplemented)) s):=
 .of_wp λb w A R s h=>by
  obtain⟨e,g,d,f,i⟩:=s;obtain⟨c,h⟩:=h
  wp_walk using wpAny_load' c,wpAny_loadPart' c
  exact⟨_,rfl,h⟩
def AN:Ry X (binaryOp .Add) (λx y H Q=>∃a b ys,x = .ref a/\y = .ref b/\Q3 X.K H a []/\Q3 X.K H b ys/\Q (.ref b) H):=by
 intro j s σ H x y v u Q I t w h;obtain⟨a,b,M,rfl,rfl,z,A,q⟩:=h;cases t;cases w;obtain⟨B,C,D,_⟩:=I.tuple z;obtain⟨k,N,E,_⟩:=I.tuple A;cases C;obtain⟨⟨cls,G,l,J⟩,m,o,n,p⟩:=id D;obtain⟨⟨r,f,g,i⟩,c,d,L,e⟩:=id E;simp only at o p d e;subst o p d e;exact concat_meets ⟨_,m,rfl⟩ ⟨_,c,rfl⟩ noFill_tuple_add seq_tuple_add PySem.F.slot_tuple_add PySem.F.entry_tuple_add (PySem.F.args_tuple_add_2 _ _) (tuple_addW0 a b _ _ n L G f J i rfl) ⟨m,c,⟨.ref b,H,I,rfl,q⟩⟩
def A2:Ry X (binaryOp .Mult) (λx y H Q=>∃l k xs,x = .ref l/\y = .int k/\Q3 X.K H l xs/\xs≠[]/\1<=k/\k<2 ^ 63/\xs.length*k.toNat<=sizeLine/\(k=1->Q (.ref l) H)/\
 (2<=k->∀p,H p=none->Q (.ref p) (upd H p (.tup (List.replicate k.toNat xs).flatten)))):=by
 intro A s σ H x y v u Q I M N h;obtain⟨l,k,B,rfl,rfl,O,i,Y,Z,C,P,R⟩:=h;cases M;obtain⟨t,rfl⟩:=N;obtain⟨c,r,p,_⟩:=I.tuple O;have j:=r.length;have f:c.toArray.size*k.toNat<=sizeLine:=by rw[zzH,<-j];exact C
 have g:((c.toArray.size:Int)*k)=((c.toArray.size*k.toNat:Nat):Int):=by
  rw[zzV,zyY (by omega)]
 have D:c.toArray.isEmpty=false:=by
  cases c with
  |nil=>rw[List.length_nil]at j;exact absurd (List.length_eq_zero_iff.mp j) i
  |cons a r'=>rfl
 have d:List.foldl (λS V=>S++V) #[] (List.replicate k.toNat c.toArray)=(List.replicate k.toNat c).flatten.toArray:=by
  have:=foldl_rep c k.toNat [];rw[List.nil_append]at this;exact this
 obtain⟨⟨cls,m,E,w⟩,e,G,n,J⟩:=id p;simp only at G J;subst G J;refine wpAny_binaryOp_repeat_ref (T:="tuple") (U:="int") (by decide) ⟨_,e,rfl⟩ (λW=>typeIs_int W k t) Pr F.fills_int_mul F.slot_int_rmul NN F.slot_int_index.lookup
  (call_meets F.slot_int_rmul (typeIs_int s k t) F.entry_int_rmul (F.args_int_rmul_2 _ _) (GS k t l c.toArray n m w) ⟨e,rfl,⟨_,e,rfl⟩, ?_⟩)
 by_cases L:k=1
 . subst L;exact call_meets F.slot_tuple_mul ⟨_,e,rfl⟩ F.entry_tuple_mul (F.args_tuple_mul_2 _ _) (EL l c.toArray n m w t) ⟨e,⟨.ref l,H,I,rfl,P rfl⟩⟩
 . have z:(List.replicate k.toNat B).flatten.length<=sizeLine:=by rw[len_rep,Nat.mul_comm];exact C
   refine call_meets F.slot_tuple_mul ⟨_,e,rfl⟩ F.entry_tuple_mul (F.args_tuple_mul_2 _ _) (Ez l c.toArray #[] n m w k t (by simp;omega) (by rw[D];simpa using L) (by rw[D];simp;omega) ?_ ?_ ?_) ⟨e, ?_⟩
   . rw[g];have:((sizeLine:Nat):Int)<=(2 ^ 63-1)/8:=by decide
     omega
   . unfold Builtin.Tuple.tupleTooMany;rw[g];simp only[gt_iff_lt,decide_eq_true_eq];omega
   . rw[d,zzH,len_rep,Nat.mul_comm];rw[zzH]at f;omega
   . rw[d];refine⟨.ref s.heap.objs.size,_,I.laid (t':=s.toks) (o:=.tup (List.replicate k.toNat B).flatten) (λb ob q=>zxH _ q) (zzN _) ?_,rfl,R (by omega) _ (I.hok.fresh (zzN _))⟩;exact⟨z,_,r.rep k.toNat,IsTup.new _ _⟩
def tX(op:Operator):sO X kd (binaryOp op) (YX op):=by
 intro pins s σ H x y v u Q I rx ry h;obtain⟨O,d,e,r,ht,vx,vy,he,q⟩:=h;cases op with
 |Add=>
  cases vx with
  |int i=>
   obtain⟨j,h1,he⟩:=bS_ (show(Ke e).bind _=_ from he);obtain⟨rfl,rfl⟩:=Wh vy h1;cases he;exact uH pins s σ H _ _ v u Q I rx ry ⟨_,_,rfl,rfl,yc q (.int _)⟩
  |str i=>
   obtain⟨j,h1,he⟩:=bS_ (show(mN e).bind _=_ from he);obtain⟨rfl,rfl⟩:=sd vy h1;obtain⟨c,rfl⟩:=zt he;exact Bi pins s σ H _ _ v u Q I rx ry ⟨_,_,rfl,rfl,c,yc q (.str _)⟩
  |lst hx rx'=>
   obtain⟨j,h1,he⟩:=bS_ (show(SD e).bind _=_ from he);cases Rr h1;obtain⟨c,rfl⟩:=zt he;cases vy with
   |lst hy ry'=>exact IM pins s σ H _ _ v u Q I rx ry ⟨_,_,_,_,rfl,rfl,hx,hy,by rw[rx'.length,ry'.length];exact c,RP q (rx'.append ry')⟩
  | @tup a1 vs1 ds1 r1 hx rx'=>
   obtain⟨j,h1,he⟩:=bS_ (show(rV e).bind _=_ from he);cases Ow h1;obtain⟨c,rfl⟩:=zt he;cases vy with
   |tup r2 hy ry'=>
    by_cases h0:vs1=([]:List V)
    . subst h0;cases rx';exact AN pins s σ H _ _ v u Q I rx ry ⟨_,_,_,rfl,rfl,hx,hy,yc q r2⟩
    refine AV pins s σ H _ _ v u Q I rx ry ⟨_,_,_,_,rfl,rfl,hx,hy,h0,by rw[rx'.length,ry'.length];exact c,λhn=>?_,λhn=>Gz ht q (rx'.append ry')⟩
    . subst hn;cases ry';rw[zyE]at q;exact yc q r1
  |_=>cases he
 |Sub=>
  obtain⟨i,j,rfl,rfl,he⟩:=Wa vx vy he;cases he;exact uq pins s σ H _ _ v u Q I rx ry ⟨_,_,rfl,rfl,yc q (.int _)⟩
 |Mult=>
  cases vx with
  |int i=>
   obtain⟨j,h1,he⟩:=bS_ (show(Ke e).bind _=_ from he);obtain⟨rfl,rfl⟩:=Wh vy h1;obtain⟨c,rfl⟩:=zt he;obtain⟨t,rfl⟩:=rx;obtain⟨t',rfl⟩:=ry;exact mul_int ⟨.int _,H,I.tok _,⟨_,rfl⟩,yc q (.int _)⟩ (c.elim (λc=>IntMulOk.of_bits (EV c.1) (EV c.2)) λc=>IntMulOk.of_right (A4 c))
  |lst hx rx'=>
   obtain⟨j,h1,he⟩:=bS_ (show(Ke e).bind _=_ from he);obtain⟨rfl,rfl⟩:=Wh vy h1;obtain⟨c,rfl⟩:=zt he;exact Dh pins s σ H _ _ v u Q I rx ry ⟨_,_,_,rfl,rfl,hx,c.1,c.2.1,by rw[rx'.length];exact c.2.2,RP q (rx'.rep _)⟩
  |tup r1 hx rx'=>
   obtain⟨j,h1,he⟩:=bS_ (show(Ke e).bind _=_ from he);obtain⟨rfl,rfl⟩:=Wh vy h1;obtain⟨c,rfl⟩:=zt he;refine A2 pins s σ H _ _ v u Q I rx ry ⟨_,_,_,rfl,rfl,hx,λe=>?_,c.1,c.2.1,by rw[rx'.length];exact c.2.2.2,λe=>?_,λ_=>Gz ht q (rx'.rep _)⟩
   . have:=rx'.length;rw[e]at this;exact c.2.2.1 this.symm
   . subst e;refine yc q ?_;rw[show(1:Int).toNat=1 from rfl,List.replicate_one,List.flatten_cons,List.flatten_nil,zyE];exact r1
  |_=>cases he
 |FloorDiv=>
  obtain⟨i,j,rfl,rfl,he⟩:=Wa vx vy he;obtain⟨c,rfl⟩:=zt he;obtain⟨t,rfl⟩:=rx;obtain⟨t',rfl⟩:=ry;refine floordiv_int (by omega) ?_ (.inl (PyProof.noPylong_of_log2 ?_))
  . rw[Int.fdiv_eq_ediv_of_nonneg _ (by omega)];exact⟨.int _,H,I.tok _,⟨_,rfl⟩,yc q (.int _)⟩
  . exact zzK ((Nat.log2_lt (by have:=c.1;omega)).mpr (show _<2 ^ 4000 from c.2)) (by decide)
 |Mod=>
  obtain⟨i,j,rfl,rfl,he⟩:=Wa vx vy he;obtain⟨c,rfl⟩:=zt he;exact tL pins s σ H _ _ v u Q I rx ry ⟨_,_,rfl,rfl,c,yc q (.int _)⟩
 |Pow=>
  obtain⟨i,j,rfl,rfl,he⟩:=Wa vx vy he;obtain⟨c,rfl⟩:=zt he;exact uW pins s σ H _ _ v u Q I rx ry ⟨_,_,rfl,rfl,c,yc q (.int _)⟩
 |_=>cases he
end
noncomputable def Ab(f:D->D->Option Bool):List D->List D->Option Bool
 | [],[]=>some true
 |x::r,y::t=>(f x y).bind λb=>(Ab f r t).bind λc=>some (b&&c)
 |_,_=>some false
noncomputable def ZK:Nat->D->D->Option Bool
 |0,_,_=>none
 |_+1,.non,.non=>some true
 |_+1,.bl a,.bl b=>some (a==b)
 |_+1,.int a,.int b=>some (a==b)
 |_+1,.str a,.str b=>some (a==b)
 |_+1,.bl a,.int b=>some ((if a then 1 else 0)==b)
 |_+1,.int a,.bl b=>some (a==(if b then 1 else 0))
 |n+1,.lst xs,.lst ys=>Ab (ZK n) xs ys
 |n+1,.tup xs,.tup ys=>Ab (ZK n) xs ys
 |_+1,.dct _,_=>none
 |_+1,.cl _,_=>none
 |_+1,.ob _ _ _,_=>none
 |_+1,_,.dct _=>none
 |_+1,_,.cl _=>none
 |_+1,_,.ob _ _ _=>none
 |_+1,_,_=>some false
def Ci(f:D->D->Option Bool)(xs ys:List D)(j:Nat):Bool:=match xs[j]?,ys[j]? with
 |some d,some e=>(f d e).getD false
 |_,_=>false
theorem G8:∀{xs ys:List D}{b:Bool},Ab f xs ys=some b->(∀(j:Nat) d e,xs[j]? = some d->ys[j]? = some e->∃c,f d e=some c)/\
 b=((List.range (min xs.length ys.length)).all (Ci f xs ys)&&xs.length==ys.length)
 | [],[],b,h=>by cases h;exact⟨λj d e h=>by simp at h,by simp⟩
 | [],y::t,b,h=>by cases h;exact⟨λj d e h=>by simp at h,by simp⟩
 |x::r,[],b,h=>by cases h;exact⟨λj d e _ h=>by simp at h,by simp⟩
 |x::r,y::t,b,h=>by
  obtain⟨b1,h1,h⟩:=bS_ (show(f x y).bind _=_ from h);obtain⟨c1,h2,h⟩:=bS_ h;cases h;obtain⟨k1,k2⟩:=G8 h2;refine⟨λj d e hd he=>?_, ?_⟩
  . cases j with
    |zero=>simp at hd he;subst hd he;exact⟨b1,h1⟩
    |succ j=>exact k1 j d e (by simpa using hd) (by simpa using he)
  . have e0:min (x::r).length (y::t).length=min r.length t.length+1:=by simp only[zzT];omega
    rw[e0,List.range_succ_eq_map,List.all_cons,List.all_map,k2];have e1:Ci f (x::r) (y::t) 0=b1:=by show(f x y).getD false=b1;rw[h1];rfl
    have e2:(Ci f (x::r) (y::t)∘Nat.succ)=Ci f r t:=by
     funext j;show Ci f (x::r) (y::t) (j+1)=_;unfold Ci;simp
    have e3:((x::r).length==(y::t).length)=(r.length==t.length):=by
     by_cases hh:r.length=t.length<;>simp[hh]
    rw[e1,e2,e3,Bool.and_assoc]
structure EqAll(A:Around)(s:Shared)(u v:Value)(b:Bool):Prop where
 rc:SeqAt.RcAt A s u v b
 ne:SeqAt.RcNeAt A s u v (!b)
 eq:SeqAt.EqAt A s u v b
section
variable{X:Cx}{kd:KD}{pins:List (Addr×Obj)}{σ:St}{H:Hp}{s:Shared}{O:Addr->Prop}
def BN(I:Inv X pins σ H s)(h:Q3 X.K H a xs)(h':W0 X.K H a ys):False:=by
 obtain⟨_,_,⟨o,e,c,_⟩,_⟩:=I.tuple h;obtain⟨_,_,⟨f,n,b,d,_⟩,_⟩:=I.list h';rw[e]at b;cases b;rw[c]at d;exact absurd d (by decide)
theorem Sb(I:Inv X pins σ H s):∀(n:Nat) (v:V) (d e:D) (b:Bool),Vw X.K kd O H v d->Vw X.K kd O H v e->ZK n d e=some b->b=true
 |0,_,_,_,_,_,_,h=>by cases h
 |n+1,v,d,e,b,p,f,h=>by
  have lst:∀(i:List V) (l m:List D) (b:Bool),RpL X.K kd O H i l->RpL X.K kd O H i m->Ab (ZK n) l m=some b->b=true:=by
   intro i
   induction i with
   |nil=>intro l m b g a h;cases g;cases a;cases h;rfl
   |cons v i q=>
    intro l m b g a h;cases g with
    |cons r g=>
     cases a with
     | cons t a=>
            obtain⟨y,u,h⟩:=bS_ (show(ZK n _ _).bind _=_ from h);obtain⟨z,w,h⟩:=bS_ h;cases h;rw[Sb I n _ _ _ _ r.vw t.vw u,q _ _ _ g a w];rfl
  cases p with
  |non=>cases f;cases h;rfl
  |bl x=>cases f;cases h;simp
  |int x=>cases f;cases h;simp
  |str x=>cases f;cases h;simp
  |tup g j o=>
   cases f with
   |tup a c k=>
    have:=I.tuple_inj j c;subst this;exact lst _ _ _ _ o k h
   |lst c k=>exact(BN I j c.sq).elim
   |_=>cases h
  |lst j o=>
   cases f with
   |tup a c k=>exact(BN I c j.sq).elim
   |lst c k=>
    have:=I.list_inj j.sq c.sq;subst this;exact lst _ _ _ _ o k h
   |_=>cases h
  |_=>cases h
theorem Nx(I:Inv X pins σ H s):∀(n:Nat) (A:Around) (x y:V) (d e:D) (u v:Value) (b:Bool),A.units+n<cLine->Vw X.K kd O H x d->Vw X.K kd O H y e->RelV x u->RelV y v->ZK n d e=some b->EqAll A s u v b
 |0,_,_,_,_,_,_,_,_,_,_,_,_,_,h=>by cases h
 |n+1,A,x,y,d,e,u,v,b,hu,h1,E,R,k,h=>by
  have f:A.units<cLine:=by omega
  have W:∀{vs ws:List V}{l g:List Value}{S T:List D},RpL X.K kd O H vs S->RpL X.K kd O H ws T->zO vs l->zO ws g->(∀(j:Nat) d e,S[j]? = some d->T[j]? = some e->∃c,ZK n d e=some c)->
   ∀j (h1:j<l.toArray.size) (E:j<g.toArray.size),SeqAt.EqAt A.in1 s l.toArray[j] g.toArray[j] (Ci (ZK n) S T j):=by
   intro vs ws l g S T F q v1 v2 hd j j1 j2;have q1:j<S.length:=by rw[<-F.length,v1.length];simpa using j1
   have q2:j<T.length:=by rw[<-q.length,v2.length];simpa using j2
   obtain⟨L,ha1,ra1⟩:=F.get (zzE q1);obtain⟨M,ha2,ra2⟩:=q.get (zzE q2);obtain⟨u1,hu1,ru1⟩:=v1.get ha1;obtain⟨u2,hu2,ru2⟩:=v2.get ha2;obtain⟨c,hc⟩:=hd j _ _ (zzE q1) (zzE q2);have e1:l.toArray[j]=u1:=by
    have:=(zzG.mp hu1).2;simpa using this
   have e2:g.toArray[j]=u2:=by
    have:=(zzG.mp hu2).2;simpa using this
   rw[e1,e2];have e3:Ci (ZK n) S T j=c:=by
    unfold Ci;rw[zzE q1,zzE q2];show(ZK n _ _).getD false=c;rw[hc];rfl
   rw[e3];exact(Nx I n A.in1 L M _ _ u1 u2 c (by show A.units+1+n<cLine;omega) ra1.vw ra2.vw ru1 ru2 hc).eq
  have G:∀{a a':Addr},x = .ref a->y = .ref a'->a=a'->b=true:=by
   intro a a' e1 e2 e3;subst e1 e2 e3;exact Sb I (n+1) _ _ _ _ h1 E h
  cases h1 with
  |non=>
   cases R;cases E with
   |non=>cases k;cases h;exact⟨SeqAt.RcAt.none_none,SeqAt.RcNeAt.none_none,SeqAt.EqAt.same _⟩
   |bl=>cases k;cases h;exact⟨SeqAt.RcAt.none_bool _,SeqAt.RcNeAt.none_bool _,SeqAt.EqAt.none_bool _⟩
   |int=>obtain⟨t,rfl⟩:=k;cases h;exact⟨SeqAt.RcAt.none_int _ _,SeqAt.RcNeAt.none_int _ _,SeqAt.EqAt.none_int _ _⟩
   |str=>obtain⟨t,rfl⟩:=k;cases h;exact⟨SeqAt.RcAt.none_str _ _,SeqAt.RcNeAt.none_str _ _,SeqAt.EqAt.none_str _ _⟩
   |tup r o q=>
    cases k;cases h;obtain⟨l,J,p,_⟩:=I.tuple o;exact⟨SeqAt.RcAt.none_tuple p f,SeqAt.RcNeAt.none_tuple p f,SeqAt.EqAt.none_tuple p f⟩
   |lst o q=>
    cases k;cases h;obtain⟨l,J,p,_⟩:=I.list o.sq;exact⟨SeqAt.RcAt.none_list p.isList f,SeqAt.RcNeAt.none_list p.isList f,SeqAt.EqAt.none_list p.isList f⟩
   |_=>cases h
  |bl c=>
   cases R;cases E with
   |non=>cases k;cases h;exact⟨SeqAt.RcAt.bool_none _,SeqAt.RcNeAt.bool_none _,SeqAt.EqAt.bool_none _⟩
   |bl=>cases k;cases h;exact⟨SeqAt.RcAt.bool_bool _ _,SeqAt.RcNeAt.bool_bool _ _,SeqAt.EqAt.bool_bool _ _⟩
   |int=>obtain⟨t,rfl⟩:=k;cases h;exact⟨SeqAt.RcAt.bool_int _ _ _,SeqAt.RcNeAt.bool_int _ _ _,SeqAt.EqAt.bool_int _ _ _⟩
   |str=>obtain⟨t,rfl⟩:=k;cases h;exact⟨SeqAt.RcAt.bool_str _ _ _,SeqAt.RcNeAt.bool_str _ _ _,SeqAt.EqAt.bool_str _ _ _⟩
   |tup r o q=>
    cases k;cases h;obtain⟨l,J,p,_⟩:=I.tuple o;exact⟨SeqAt.RcAt.bool_tuple _ p f,SeqAt.RcNeAt.bool_tuple _ p f,SeqAt.EqAt.bool_tuple _ p f⟩
   |lst o q=>
    cases k;cases h;obtain⟨l,J,p,_⟩:=I.list o.sq;exact⟨SeqAt.RcAt.bool_list _ p.isList f,SeqAt.RcNeAt.bool_list _ p.isList f,SeqAt.EqAt.bool_list _ p.isList f⟩
   |_=>cases h
  |int c=>
   obtain⟨t0,rfl⟩:=R;cases E with
   |non=>cases k;cases h;exact⟨SeqAt.RcAt.int_none _ _,SeqAt.RcNeAt.int_none _ _,SeqAt.EqAt.int_none _ _⟩
   |bl=>cases k;cases h;exact⟨SeqAt.RcAt.int_bool _ _ _,SeqAt.RcNeAt.int_bool _ _ _,SeqAt.EqAt.int_bool _ _ _⟩
   |int=>obtain⟨t,rfl⟩:=k;cases h;exact⟨SeqAt.RcAt.int_int _ _ _ _,SeqAt.RcNeAt.int_int _ _ _ _,SeqAt.EqAt.int_int _ _ _ _⟩
   |str=>obtain⟨t,rfl⟩:=k;cases h;exact⟨SeqAt.RcAt.int_str _ _ _ _,SeqAt.RcNeAt.int_str _ _ _ _,SeqAt.EqAt.int_str _ _ _ _⟩
   |tup r o q=>
    cases k;cases h;obtain⟨l,J,p,_⟩:=I.tuple o;exact⟨SeqAt.RcAt.int_tuple _ _ p f,SeqAt.RcNeAt.int_tuple _ _ p f,SeqAt.EqAt.int_tuple _ _ p f⟩
   |lst o q=>
    cases k;cases h;obtain⟨l,J,p,_⟩:=I.list o.sq;exact⟨SeqAt.RcAt.int_list _ _ p.isList f,SeqAt.RcNeAt.int_list _ _ p.isList f,SeqAt.EqAt.int_list _ _ p.isList f⟩
   |_=>cases h
  |str c=>
   obtain⟨t0,rfl⟩:=R;cases E with
   |non=>cases k;cases h;exact⟨SeqAt.RcAt.str_none _ _,SeqAt.RcNeAt.str_none _ _,SeqAt.EqAt.str_none _ _⟩
   |bl=>cases k;cases h;exact⟨SeqAt.RcAt.str_bool _ _ _,SeqAt.RcNeAt.str_bool _ _ _,SeqAt.EqAt.str_bool _ _ _⟩
   |int=>obtain⟨t,rfl⟩:=k;cases h;exact⟨SeqAt.RcAt.str_int _ _ _ _,SeqAt.RcNeAt.str_int _ _ _ _,SeqAt.EqAt.str_int _ _ _ _⟩
   |str=>obtain⟨t,rfl⟩:=k;cases h;exact⟨SeqAt.RcAt.str_str _ _ _ _,SeqAt.RcNeAt.str_str _ _ _ _,SeqAt.EqAt.str_str _ _ _ _⟩
   |tup r o q=>
    cases k;cases h;obtain⟨l,J,p,_⟩:=I.tuple o;exact⟨SeqAt.RcAt.str_tuple _ _ p f,SeqAt.RcNeAt.str_tuple _ _ p f,SeqAt.EqAt.str_tuple _ _ p f⟩
   |lst o q=>
    cases k;cases h;obtain⟨l,J,p,_⟩:=I.list o.sq;exact⟨SeqAt.RcAt.str_list _ _ p.isList f,SeqAt.RcNeAt.str_list _ _ p.isList f,SeqAt.EqAt.str_list _ _ p.isList f⟩
   |_=>cases h
  | @tup L vs1 N r s1 F=>
   cases R;obtain⟨m,z,i,_⟩:=I.tuple s1;cases E with
   |non=>cases k;cases h;exact⟨SeqAt.RcAt.tuple_none i f,SeqAt.RcNeAt.tuple_none i f,SeqAt.EqAt.tuple_none i f⟩
   |bl=>cases k;cases h;exact⟨SeqAt.RcAt.tuple_bool _ i f,SeqAt.RcNeAt.tuple_bool _ i f,SeqAt.EqAt.tuple_bool _ i f⟩
   |int=>obtain⟨t,rfl⟩:=k;cases h;exact⟨SeqAt.RcAt.tuple_int _ _ i f,SeqAt.RcNeAt.tuple_int _ _ i f,SeqAt.EqAt.tuple_int _ _ i f⟩
   |str=>obtain⟨t,rfl⟩:=k;cases h;exact⟨SeqAt.RcAt.tuple_str _ _ i f,SeqAt.RcNeAt.tuple_str _ _ i f,SeqAt.EqAt.tuple_str _ _ i f⟩
   | @tup M vs2 P r' o q=>
    cases k;obtain⟨g,w,B,_⟩:=I.tuple o;obtain⟨k1,k2⟩:=G8 h;have Y:=W F q z w k1;have Z:((List.range (min m.toArray.size g.toArray.size)).all (Ci (ZK n) N P)&&m.toArray.size==g.toArray.size)=b:=by
     rw[k2,zzH,zzH,<-z.length,<-w.length,F.length,q.length]
    have U:=SeqAt.RcAt.tuples i B f Y;have b2:=SeqAt.RcNeAt.tuples i B f Y;rw[Z]at U b2;refine⟨U,b2, ?_⟩
    by_cases Q:L=M
    . have hb:=G rfl rfl Q;subst Q;rw[hb];exact SeqAt.EqAt.same _
    . exact SeqAt.EqAt.of_refs Q U
   |lst o q=>
    cases k;cases h;obtain⟨l,J,p,_⟩:=I.list o.sq;exact⟨SeqAt.RcAt.tuple_list i p.isList f,SeqAt.RcNeAt.tuple_list i p.isList f,SeqAt.EqAt.tuple_list i p.isList f⟩
   |_=>cases h
  | @lst L vs1 N s1 F=>
   cases R;obtain⟨m,z,i,_⟩:=I.list s1.sq;cases E with
   |non=>cases k;cases h;exact⟨SeqAt.RcAt.list_none i.isList f,SeqAt.RcNeAt.list_none i.isList f,SeqAt.EqAt.list_none i.isList f⟩
   |bl=>cases k;cases h;exact⟨SeqAt.RcAt.list_bool _ i.isList f,SeqAt.RcNeAt.list_bool _ i.isList f,SeqAt.EqAt.list_bool _ i.isList f⟩
   |int=>obtain⟨t,rfl⟩:=k;cases h;exact⟨SeqAt.RcAt.list_int _ _ i.isList f,SeqAt.RcNeAt.list_int _ _ i.isList f,SeqAt.EqAt.list_int _ _ i.isList f⟩
   |str=>obtain⟨t,rfl⟩:=k;cases h;exact⟨SeqAt.RcAt.list_str _ _ i.isList f,SeqAt.RcNeAt.list_str _ _ i.isList f,SeqAt.EqAt.list_str _ _ i.isList f⟩
   |tup r' o q=>
    cases k;cases h;obtain⟨g,w,B,_⟩:=I.tuple o;exact⟨SeqAt.RcAt.list_tuple i.isList B f,SeqAt.RcNeAt.list_tuple i.isList B f,SeqAt.EqAt.list_tuple i.isList B f⟩
   | @lst M vs2 P o q=>
    cases k;obtain⟨g,w,B,_⟩:=I.list o.sq;obtain⟨k1,k2⟩:=G8 h;have Y:=W F q z w k1;have ez1:m.toArray.size=_:=zzH.trans (z.length.symm.trans F.length);have ez2:g.toArray.size=_:=zzH.trans (w.length.symm.trans q.length);have C:SeqAt.RcAt A s (.ref L) (.ref M) b/\SeqAt.RcNeAt A s (.ref L) (.ref M) (!b):=by
     by_cases hz:m.toArray.size=g.toArray.size
     . have U:=SeqAt.RcAt.lists i.isList B.isList hz f Y;have b2:=SeqAt.RcNeAt.lists i.isList B.isList hz f Y;have Z:(List.range m.toArray.size).all (Ci (ZK n) N P)=b:=by
        rw[k2,<-ez1,<-ez2,<-hz,Nat.min_self];simp
       rw[Z]at U b2;exact⟨U,b2⟩
     . have hz':(m.toArray.size != g.toArray.size)=true:=by simpa using hz
       have Z:b=false:=by
        rw[k2,<-ez1,<-ez2];have:(m.toArray.size==g.toArray.size)=false:=by simpa using hz
        rw[this,Bool.and_false]
       rw[Z];exact⟨SeqAt.RcAt.lists_lengths i.isList B.isList hz' f,SeqAt.RcNeAt.lists_lengths i.isList B.isList hz' f⟩
    refine⟨C.1,C.2, ?_⟩
    by_cases Q:L=M
    . have hb:=G rfl rfl Q;subst Q;rw[hb];exact SeqAt.EqAt.same _
    . exact SeqAt.EqAt.of_refs Q C.1
   |_=>cases h
  |_=>cases h
end
structure DkAt(P:Program)(w:World)(h:Heap)(a:Addr)(kvs:List (Key×V)):Prop where
 le:kvs.length<=sizeLine
 ns:(a==sysModules)=false
 ex:∃vs,KV kvs vs/\h.DictOf (wo P w) a vs
structure KdOk(X:Cx)(kd:KD):Prop where
 inj:∀a k k',kd a k->kd a k'->k=k'
 inK:∀a k,kd a k->∃o,X.K.lookup a=some o
 at_:∀a k h,kd a k->X.K.In h->DkAt X.prog X.w h a k
section
variable{X:Cx}{kd:KD}{pins:List (Addr×Obj)}{σ:St}{H:Hp}{s:Shared}{O:Addr->Prop}
def Ka(I:Inv X pins σ H s)(hk:KdOk X kd){a:Addr}{kvs:List (Key×V)}(h:Rd H a (.dK kvs)\/kd a kvs):DkAt X.prog X.w s.heap a kvs:=by
 rcases h with h|h
 . obtain⟨z,hd,vs,rel,dd⟩:=qV I.hok h;exact⟨z,hd,vs,rel,dd⟩
 . exact hk.at_ _ _ _ h I.kIn
theorem Iz(I:Inv X pins σ H s):∀(n:Nat) (v:V) (d e x:D) (b c:Bool),Vw X.K kd O H v d->Vw X.K kd O H v e->ZK n d x=some b->ZK n e x=some c->b=c
 |0,_,_,_,_,_,_,_,_,h,_=>by cases h
 |n+1,v,d,e,x,b,c,h1,h2,h,h'=>by
  have lst:∀(vs:List V) (ds es xs:List D) (b c:Bool),RpL X.K kd O H vs ds->RpL X.K kd O H vs es->Ab (ZK n) ds xs=some b->Ab (ZK n) es xs=some c->b=c:=by
   intro vs
   induction vs with
   |nil=>intro ds es xs b c r1 r2 h h';cases r1;cases r2;exact zzZ (h.symm.trans h')
   |cons v vs ih=>
    intro ds es xs b c r1 r2 h h';cases r1 with
    |cons a1 r1=>
     cases r2 with
     | cons a2 r2=>
            cases xs with
            |nil=>cases h;cases h';rfl
            |cons x xs=>
             obtain⟨b1,k1,h⟩:=bS_ (show(ZK n _ _).bind _=_ from h);obtain⟨c1,k2,h⟩:=bS_ h;obtain⟨b2,k3,h'⟩:=bS_ (show(ZK n _ _).bind _=_ from h');obtain⟨c2,k4,h'⟩:=bS_ h';cases h;cases h';rw[Iz I n _ _ _ _ _ _ a1.vw a2.vw k1 k3,ih _ _ _ _ _ r1 r2 k2 k4]
  cases h1 with
  |tup r1 s1 l1=>
   cases h2 with
   |tup r2 s2 l2=>
    have:=I.tuple_inj s1 s2;subst this;cases x with
    |tup xs=>exact lst _ _ _ _ _ _ l1 l2 h h'
    |_=>exact zzZ (h.symm.trans h')
   |lst s2 l2=>exact(BN I s1 s2.sq).elim
   |_=>cases h'
  |lst s1 l1=>
   cases h2 with
   |tup r2 s2 l2=>exact(BN I s2 s1.sq).elim
   |lst s2 l2=>
    have:=I.list_inj s1.sq s2.sq;subst this;cases x with
    |lst xs=>exact lst _ _ _ _ _ _ l1 l2 h h'
    |_=>exact zzZ (h.symm.trans h')
   |_=>cases h'
  |dct s1 l1=>cases h
  |cl=>cases h
  |ob=>cases h
  |_=>cases h2;exact zzZ (h.symm.trans h')
end
noncomputable def H_:D->Option Key
 | .int i=>some (.inl i)
 | .str x=>some (.inr x)
 |_=>none
def MH(kvs:List (Key×D))(k:Key):Option D:=(kvs.find? λkv=>decide (kv.1=k)).map (·.2)
def MN{K:zzA}{kd:KD}{O:Addr->Prop}{H:Hp}(k:Key){vs:List (Key×V)}{ds:List (Key×D)}(h:RpM K kd O H vs ds):(∃v d,RG vs k=some v/\MH ds k=some d/\Rp K kd O H v d)\/(RG vs k=none/\MH ds k=none):=
 RpM.ind (P:=λvs ds=>(∃v d,RG vs k=some v/\MH ds k=some d/\Rp K kd O H v d)\/(RG vs k=none/\MH ds k=none)) (.inr ⟨rfl,rfl⟩) (λ{k' v d vs ds} a _ ih=>by
  by_cases e:k'=k
  . left;refine⟨_,_, ?_, ?_,a⟩
    . unfold RG;simp[e]
    . unfold MH;simp[e]
  . rcases ih with⟨v,d,h1,h2,h3⟩|⟨h1,h2⟩
    . left;refine⟨v,d, ?_, ?_,h3⟩
      . unfold RG at h1 ⊢;simpa[e]using h1
      . unfold MH at h2 ⊢;simpa[e]using h2
    . right;refine⟨?_, ?_⟩
      . unfold RG at h1 ⊢;simpa[e]using h1
      . unfold MH at h2 ⊢;simpa[e]using h2) h
def anyF(f:D->Option Bool):List D->Option Bool
 | []=>some false
 |x::r=>(f x).bind λb=>(anyF f r).bind λc=>some (b||c)
def A1(b:Bool):R0:=.im (.bl b)
noncomputable def nQ(x:D):D->Option Bool
 | .lst ys=>anyF (λy=>ZK 50 y x) ys
 | .tup ys=>anyF (λy=>ZK 50 y x) ys
 | .str y=>match x with | .str i=>some (!(Builtin.Str.occurrences y i 0 y.length 1).isEmpty)|_=>none
 | .dct kvs=>(H_ x).bind λk=>some (MH kvs k).isSome
 |_=>none
def ng:D->D->Option Bool
 |d,.non=>some (match d with | .non=>true|_=>false)
 |d,.bl b=>match d with | .bl c=>some (c==b)|_=>some false
 |_,_=>none
def SW(f:Int->Int->Bool):D->D->Option R0:=DS λi j=>some (A1 (f i j))
noncomputable def zP(o:CmpOp)(d e:D):Option R0:=match o with
 | .Eq=>(ZK 60 d e).bind λb=>some (A1 b)
 | .NotEq=>(ZK 60 d e).bind λb=>some (A1 !b)
 | .Lt=>SW (λi j=>decide (i<j)) d e
 | .LtE=>SW (λi j=>decide (i<=j)) d e
 | .Gt=>SW (λi j=>decide (j<i)) d e
 | .GtE=>SW (λi j=>decide (j<=i)) d e
 | .In=>(nQ d e).bind λb=>some (A1 b)
 | .NotIn=>(nQ d e).bind λb=>some (A1 !b)
 | .Is=>(ng d e).bind λb=>some (A1 b)
 | .IsNot=>(ng d e).bind λb=>some (A1 !b)
def Qd{o:Option Bool}{f:Bool->Bool}{r:R0}(h:(o.bind λb=>some (A1 (f b)))=some r):∃k,r = .im (.bl k):=by
 obtain⟨b,_,h⟩:=bS_ h;cases h;exact⟨_,rfl⟩
def T5{x y:D}{f:Int->Int->Bool}{r:R0}(h:SW f x y=some r):∃k,r = .im (.bl k):=by
 obtain⟨i,_,h⟩:=bS_ (show(Ke x).bind _=_ from h);obtain⟨j,_,h⟩:=bS_ h;cases h;exact⟨_,rfl⟩
def Ji(op:CmpOp)(x y:D)(r:R0)(h:zP op x y=some r):∃k,r = .im (.bl k):=by
 cases op with
 |Eq=>exact Qd (f:=id) h
 |NotEq=>exact Qd (f:=not) h
 |Lt=>exact T5 h
 |LtE=>exact T5 h
 |Gt=>exact T5 h
 |GtE=>exact T5 h
 |In=>exact Qd (f:=id) h
 |NotIn=>exact Qd (f:=not) h
 |Is=>exact Qd (f:=id) h
 |IsNot=>exact Qd (f:=not) h
section
variable{X:Cx}{kd:KD}{pins:List (Addr×Obj)}{σ:St}{H:Hp}{s:Shared}{O:Addr->Prop}
noncomputable def MV(K:zzA)(kd:KD)(O:Addr->Prop)(H:Hp)(n:Nat)(x:D)(u:Value):Bool:=@decide (∃v d,RelV v u/\Rp K kd O H v d/\ZK n d x=some true) (Classical.propDecidable _)
def N1(I:Inv X pins σ H s)(hk:KdOk X kd){n:Nat}{x d:D}{v:V}{u:Value}{b:Bool}(r:RelV v u)(p:Rp X.K kd O H v d)(e:ZK n d x=some b):MV X.K kd O H n x u=b:=by
 unfold MV;cases b with
 |true=>exact @zyO _ (Classical.propDecidable _) ⟨v,d,r,p,e⟩
 |false=>
  refine @zyG _ (Classical.propDecidable _) λ⟨v',d',r',p',e'⟩=>?_;have:=r.inj r';subst this;exact Bool.noConfusion (Iz I n _ _ _ _ _ _ p.vw p'.vw e e')
def T9(I:Inv X pins σ H s)(hk:KdOk X kd){n:Nat}{x:D}{vs:List V}{us:List Value}{ds:List D}{b:Bool}(hv:zO vs us)(h:RpL X.K kd O H vs ds)(e:anyF (λy=>ZK n y x) ds=some b):us.any (MV X.K kd O H n x)=b:=
 RpL.ind (P:=λvs ds=>∀us b,zO vs us->anyF (λy=>ZK n y x) ds=some b->us.any (MV X.K kd O H n x)=b) (λus b hv e=>by cases e;cases hv;rfl) (λ{v d vs ds} a _ ih us b hv h=>by
  cases hv with
  |cons r t=>
   obtain⟨b1,h1,h⟩:=bS_ (show(ZK n _ x).bind _=_ from h);obtain⟨c1,h2,h⟩:=bS_ h;cases h;rw[List.any_cons,N1 I hk r a h1,ih _ _ t h2]) h us b hv e
theorem X0{f:D->Option Bool}:∀{ds:List D}{b:Bool},anyF f ds=some b->∀d ∈ ds,∃c,f d=some c
 | [],_,_,d,hd=>by simp at hd
 |x::r,b,h,d,hd=>by
  obtain⟨b1,h1,h⟩:=bS_ (show(f x).bind _=_ from h);obtain⟨c1,h2,h⟩:=bS_ h
  rcases zzC.mp hd with e|e
  . subst e;exact⟨b1,h1⟩
  . exact X0 h2 d e
def Uu(I:Inv X pins σ H s)(hk:KdOk X kd){n:Nat}{A:Around}(hu:A.units+n<cLine){x:V}{v:Value}{d:D}(vx:Vw X.K kd O H x d)(rx:RelV x v){vs:List V}{us:List Value}{ds:List D}(hv:zO vs us)(h:RpL X.K kd O H vs ds)(k:∀e ∈ ds,∃c,ZK n e d=some c):∀u ∈ us,SeqAt.EqAt A s u v (MV X.K kd O H n d u):=
 RpL.ind (P:=λvs ds=>∀us,zO vs us->(∀e ∈ ds,∃c,ZK n e d=some c)->∀u ∈ us,SeqAt.EqAt A s u v (MV X.K kd O H n d u)) (λus hv _ u hu=>by cases hv;simp at hu) (λa q ih us hv h u hm=>by
  cases hv with
  |cons r t=>
   rcases zzC.mp hm with e|e
   . subst e;obtain⟨c,hc⟩:=h _ zzF;rw[N1 I hk r a hc];exact(Nx I n A _ _ _ _ _ _ _ hu a.vw vx r rx hc).eq
   . exact ih _ t (λe he=>h e (zzD _ he)) u e) h us hv k
def GE{A:Around}{E:Value->Shared->Prop}{x:V}{v:Value}{b c:Bool}{d:D}{Q:Bool->Shared->Prop}(vx:Vw X.K kd O H x d)(rx:RelV x v)(e:ng d (.bl b)=some c)(h:Q c s):wpAny (model X.prog X.w) A (isSame v (.bool b)) Q E s:=by
 cases vx with
 |non=>cases rx;cases e;exact zxG h
 |bl k=>
  cases rx;have e:some (k==b)=some c:=e;cases e;refine zxG ?_;cases k<;>cases b<;>exact h
 |int=>obtain⟨t,rfl⟩:=rx;cases e;exact zxG h
 |str=>obtain⟨t,rfl⟩:=rx;cases e;exact zxG h
 |tup=>cases rx;cases e;exact zxG h
 |lst=>cases rx;cases e;exact zxG h
 |dct=>cases rx;cases e;exact zxG h
 |cl=>cases rx;cases e;exact zxG h
 |ob=>cases rx;cases e;exact zxG h
def N0(hk:KdOk X kd)(hu:X.A.units+100<cLine)(op:CmpOp):sO X kd (compareOp op) (zP op):=by
 intro pins s σ H x y v u Q I rx ry h;obtain⟨O,d,e,r,ht,vx,vy,he,q⟩:=h;cases op with
 |Eq=>
  obtain⟨b,h1,he⟩:=bS_ (show(ZK 60 d e).bind _=_ from he);cases he;exact(Nx I 60 X.A x y d e v u b (by omega) vx vy rx ry h1).rc _ _ _ _ (wN I (yc q (.bl _)) rfl)
 |NotEq=>
  obtain⟨b,h1,he⟩:=bS_ (show(ZK 60 d e).bind _=_ from he);cases he;exact(Nx I 60 X.A x y d e v u b (by omega) vx vy rx ry h1).ne _ _ _ _ (wN I (yc q (.bl _)) rfl)
 |Lt=>
  obtain⟨i,j,rfl,rfl,he⟩:=Wa vx vy he;cases he;exact oQ pins s σ H _ _ v u Q I rx ry ⟨_,_,rfl,rfl,yc q (.bl _)⟩
 |LtE=>
  obtain⟨i,j,rfl,rfl,he⟩:=Wa vx vy he;cases he;exact p7 pins s σ H _ _ v u Q I rx ry ⟨_,_,rfl,rfl,yc q (.bl _)⟩
 |Gt=>
  obtain⟨i,j,rfl,rfl,he⟩:=Wa vx vy he;cases he;exact qt pins s σ H _ _ v u Q I rx ry ⟨_,_,rfl,rfl,yc q (.bl _)⟩
 |GtE=>
  obtain⟨i,j,rfl,rfl,he⟩:=Wa vx vy he;cases he;exact oJ pins s σ H _ _ v u Q I rx ry ⟨_,_,rfl,rfl,yc q (.bl _)⟩
 |In=>
  obtain⟨b,h1,he⟩:=bS_ (show(nQ d e).bind _=_ from he);cases he;cases vy with
  |lst hs rl=>
   cases ry;obtain⟨its,rv,p,_⟩:=I.list hs.sq;refine SeqAt.in_listAt (MV X.K kd O H 50 d) p.isList (λw hw=>Uu I hk (by show X.A.units+1+50<cLine;omega) vx rx rv rl (X0 h1) w (by simpa using hw)) ?_;have:=T9 I hk rv rl h1;rw[show its.toArray.any (MV X.K kd O H 50 d)=b by rw[<-this];simp];exact wN (I) (yc q (.bl _)) rfl
  |tup rp hs rl=>
   cases ry;obtain⟨its,rv,p,_⟩:=I.tuple hs;refine SeqAt.in_tupleAt (MV X.K kd O H 50 d) p (λw hw=>Uu I hk (by show X.A.units+1+50<cLine;omega) vx rx rv rl (X0 h1) w (by simpa using hw)) ?_;have:=T9 I hk rv rl h1;rw[show its.toArray.any (MV X.K kd O H 50 d)=b by rw[<-this];simp];exact wN (I) (yc q (.bl _)) rfl
  |str z=>
   cases vx with
   |str i=>cases h1;exact SQ pins s σ H _ _ v u Q I rx ry ⟨_,_,rfl,rfl,yc q (.bl _)⟩
   |_=>cases h1
  |dct hs rm=>
   cases ry;obtain⟨k,k1,h1⟩:=bS_ h1;cases h1;obtain⟨z,hd,vs,rel,dd⟩:=Ka I hk hs;have ek:x=kV k:=by
    cases vx with
    |int i=>cases k1;rfl
    |str i=>cases k1;rfl
    |_=>cases k1
   subst ek;refine wpAny_in_of (Si rx) hd dd.mapOf ?_;rw[<-(rel.val k).isSome_eq]
   rcases MN k rm with⟨v1,d1,e1,e2,_⟩|⟨e1,e2⟩
   . rw[e1];rw[e2]at q;exact wN (I.tok _) (yc q (.bl _)) rfl
   . rw[e1];rw[e2]at q;exact wN (I.tok _) (yc q (.bl _)) rfl
  |_=>cases h1
 |NotIn=>
  obtain⟨b,h1,he⟩:=bS_ (show(nQ d e).bind _=_ from he);cases he;cases vy with
  |lst hs rl=>
   cases ry;obtain⟨its,rv,p,_⟩:=I.list hs.sq;refine SeqAt.notIn_listAt (MV X.K kd O H 50 d) p.isList (λw hw=>Uu I hk (by show X.A.units+1+50<cLine;omega) vx rx rv rl (X0 h1) w (by simpa using hw)) ?_;have:=T9 I hk rv rl h1;rw[show its.toArray.any (MV X.K kd O H 50 d)=b by rw[<-this];simp];exact wN (I) (yc q (.bl _)) rfl
  |tup rp hs rl=>
   cases ry;obtain⟨its,rv,p,_⟩:=I.tuple hs;refine SeqAt.notIn_tupleAt (MV X.K kd O H 50 d) p (λw hw=>Uu I hk (by show X.A.units+1+50<cLine;omega) vx rx rv rl (X0 h1) w (by simpa using hw)) ?_;have:=T9 I hk rv rl h1;rw[show its.toArray.any (MV X.K kd O H 50 d)=b by rw[<-this];simp];exact wN (I) (yc q (.bl _)) rfl
  |str z=>
   cases vx with
   |str i=>cases h1;exact ML pins s σ H _ _ v u Q I rx ry ⟨_,_,rfl,rfl,yc q (.bl _)⟩
   |_=>cases h1
  |dct hs rm=>
   cases ry;obtain⟨k,k1,h1⟩:=bS_ h1;cases h1;obtain⟨z,hd,vs,rel,dd⟩:=Ka I hk hs;have ek:x=kV k:=by
    cases vx with
    |int i=>cases k1;rfl
    |str i=>cases k1;rfl
    |_=>cases k1
   subst ek;refine wpAny_notIn_of (Si rx) hd dd.mapOf ?_;rw[<-(rel.val k).isSome_eq]
   rcases MN k rm with⟨v1,d1,e1,e2,_⟩|⟨e1,e2⟩
   . rw[e1];rw[e2]at q;exact wN (I.tok _) (yc q (.bl _)) rfl
   . rw[e1];rw[e2]at q;exact wN (I.tok _) (yc q (.bl _)) rfl
  |_=>cases h1
 |Is=>
  obtain⟨b,h1,he⟩:=bS_ (show(ng d e).bind _=_ from he);cases he;cases vy with
  |non=>
   refine uc pins s σ H _ _ v u Q I rx ry ⟨rfl, ?_⟩;have:decide (x=V.non)=b:=by cases vx<;>(cases h1;rfl)
   rw[this];exact yc q (.bl b)
  |bl c=>
   cases ry;exact zxF (GE vx rx h1 (zxG (wN I (yc q (.bl _)) rfl)))
  |_=>cases h1
 |IsNot=>
  obtain⟨b,h1,he⟩:=bS_ (show(ng d e).bind _=_ from he);cases he;cases vy with
  |non=>
   refine A5 pins s σ H _ _ v u Q I rx ry ⟨rfl, ?_⟩;have:decide (x=V.non)=b:=by cases vx<;>(cases h1;rfl)
   rw[this];exact yc q (.bl _)
  |bl c=>
   cases ry;exact zxF (GE vx rx h1 (zxG (wN I (yc q (.bl _)) rfl)))
  |_=>cases h1
end
def BP{K:zzA}{kd:KD}{O:Addr->Prop}{H:Hp}{vs:List V}{ds:List D}{i:Int}{d:D}(r:RpL K kd O H vs ds)(h:atI ds i=some d):∃v,atI vs i=some v/\Rp K kd O H v d:=by
 unfold atI at h ⊢;obtain⟨j,a,b⟩:=bS_ h;rw[r.length,a];exact r.get b
def JC(o:Option D):Option R0:=o.bind λd=>some (.im d)
noncomputable def zN(x y:D):Option R0:=match x with
 | .lst xs=>(Ke y).bind λi=>JC (atI xs i)
 | .tup xs=>(Ke y).bind λi=>JC (atI xs i)
 | .str x=>(Ke y).bind λi=>if x.length<=sizeLine then(atI x.cps.toList i).bind λc=>some (.im (.str ⟨#[c]⟩))else none
 | .dct kvs=>(H_ y).bind λk=>JC (MH kvs k)
 |_=>none
def Kh(h:JC o=some r):∃d,o=some d/\r = .im d:=by
 obtain⟨d,a,b⟩:=bS_ (show o.bind _=_ from h);cases b;exact⟨d,a,rfl⟩
section
variable{X:Cx}{kd:KD}
def Ir{K:zzA}{O:Addr->Prop}{H:Hp}{x:V}{d:D}{k:Key}(vx:Vw K kd O H x d)(e:H_ d=some k):x=kV k:=by
 cases vx with
 |int i=>cases e;rfl
 |str i=>cases e;rfl
 |_=>cases e
def ma(hk:KdOk X kd):ki X kd zN:=by
 intro b f g s σ H x y v u Q I A B h C;obtain⟨O,d,e,r,U,P,D,a,q⟩:=h;cases P with
 |lst m E=>
  obtain⟨i,n,a⟩:=bS_ (show(Ke e).bind _=_ from a);obtain⟨rfl,rfl⟩:=Wh D n;obtain⟨d,l,rfl⟩:=Kh a;obtain⟨w,p,j⟩:=BP E l;exact IU b f g s σ H _ _ v u Q I A B ⟨_,_,_,w,rfl,rfl,m.sq,p,yc q j⟩ C
 |tup J m E=>
  obtain⟨i,n,a⟩:=bS_ (show(Ke e).bind _=_ from a);obtain⟨rfl,rfl⟩:=Wh D n;obtain⟨d,l,rfl⟩:=Kh a;obtain⟨w,p,j⟩:=BP E l;exact ug b f g s σ H _ _ v u Q I A B ⟨_,_,_,w,rfl,rfl,m,p,yc q j⟩ C
 |str z=>
  obtain⟨i,n,a⟩:=bS_ (show(Ke e).bind _=_ from a);obtain⟨rfl,rfl⟩:=Wh D n;obtain⟨R,a⟩:=ite_some' a;obtain⟨c,l,a⟩:=bS_ a;cases a;exact D1 b f g s σ H _ _ v u Q I A B ⟨_,_,c,rfl,rfl,R,l,yc q (.str _)⟩ C
 |dct m S=>
  obtain⟨k,l,a⟩:=bS_ (show(H_ e).bind _=_ from a);obtain⟨d,K,rfl⟩:=Kh a;cases A;obtain⟨z,V,T,G,L⟩:=Ka I hk m;have:=Ir D l;subst this
  rcases MN k S with⟨M,W,N,t,J⟩|⟨N,t⟩
  . rw[K]at t;cases t;obtain⟨Y,p,j⟩:=UD.some_of (v:=M) (o:=valueAt T k) (by rw[<-N];exact G.val k);exact tail_any L.typeIs PySem.F.slot_dict_getitem.lookup (wpAny_getItem_of (Si B) L.mapOf p ⟨M,H,I.tok _,j,yc q J⟩) C
  . rw[K]at t;cases t
 |_=>cases a
def cutD(xs:List D)(lo hi:Option Int):List D:=(xs.drop (HT.sIx xs.length 0 lo)).take (HT.sIx xs.length xs.length hi-HT.sIx xs.length 0 lo)
def B7{K:zzA}{O:Addr->Prop}{H:Hp}{vs:List V}{ds:List D}(r:RpL K kd O H vs ds)(lo hi:Option Int):RpL K kd O H (E4 vs lo hi) (cutD ds lo hi):=by
 unfold E4 cutD;rw[r.length];exact(r.drop _).take _
noncomputable def Ml(x:D)(lo hi:Option Int):Option R0:=match x with
 | .lst xs=>some (.fl (cutD xs lo hi))
 | .tup xs=>if HT.sIx xs.length 0 lo=0/\HT.sIx xs.length xs.length hi=xs.length then none else some (.im (.tup (cutD xs lo hi)))
 |_=>none
abbrev OF:=AS->Option (Option Int×AS)
def oN:OF:=λas=>some (none,as)
noncomputable def oS(f:EF):OF:=λas=>(f as).bind λp=>(kG p.1).bind λi=>some (some i,p.2)
noncomputable def KZ(fa:EF)(fl fh:OF)(g:D->Option Int->Option Int->Option R0):EF:=λas=>(fa as).bind λp=>(fl p.2).bind λl=>(fh l.2).bind λh=>(p.1.frz.view h.2).bind λx=>(g x.1 l.1 h.1).bind λr=>(wrap x.2 r).bind λz=>some (z,h.2)
def js(K:zzA)(kd:KD)(f:OF):TO:=λσ H Q=>∃F B ad as o as',Rel K kd F B [] ad as σ H/\f as=some (o,as')/\
 ∀ad' H',Rel K kd F B [] ad' as' σ H'->Grow (Gw [] ad) H (Gw [] ad') H'->Q o H'
@[irreducible] def AO(X:Cx)(kd:KD)(e:Option Expr)(f:OF):Prop:=PO X e (js X.K kd f)
def OH(h:PO X e t)(k:∀σ H Q,t' σ H Q->t σ H Q):PO X e t':=λa s σ H Q I q=>h a s σ H Q I (k σ H Q q)
def TV:AO X kd none oN:=by with_unfolding_all exact(OH AK λσ H Q h=>by
 obtain⟨F,B,a,as,o,b,R,e,q⟩:=h;cases e;exact q a H R Grow.refl)
def uj{K:zzA}{F B:Addr->Prop}{T:List Addr}{ad:Ad}{σ:St}{H:Hp}{v:V}{st:Bool}{c:Int}(h:xW K kd F B T ad σ H v (.ow (.lf st (.int c)))):T=[]/\v = .int c:=by
 have h:ZN K kd F B (Gw T ad) H v (.lf st (.int c)) T:=h;generalize b:Gw T ad=G at h;cases h with
 |lf a=>cases a;exact⟨rfl,rfl⟩
def Yw{a:Expr}{fa:EF}(ha:AE X kd a fa):AO X kd (some a) (oS fa):=by with_unfolding_all exact(OH (JU ha) λσ H Q h=>by
 obtain⟨F,B,d,as,o,f,R,e,q⟩:=h;obtain⟨⟨p,g⟩,j,e⟩:=bS_ (show(fa as).bind _=_ from e);obtain⟨i,k,e⟩:=bS_ e;obtain⟨r,rfl⟩:=tG k;cases e;refine⟨F,B,d,as,_,_,R,j,λv s b l m c n=>?_⟩;obtain⟨rfl,rfl⟩:=uj c;exact⟨i,rfl,q b l m n⟩)
def nX:nu X (λx lo hi H Q=>∃O d r,(∀a,O a->H a≠none)/\Vw X.K kd O H x d/\Ml d lo hi=some r/\RQ X.K kd O H Q r):=by
 intro b s σ H x v j k e f l Q I m n o p h;obtain⟨O,d,r,t,u,c,q⟩:=h;cases u with
 |lst i g=>cases c;exact IX b s σ H _ v j k e f l Q I m n o p ⟨_,_,rfl,i.sq,RP q (B7 g e f)⟩
 |tup y i g=>
  have c:(if _ then none else some _:Option R0)=_:=c
  split at c
  . cases c
  . rename_i w;cases c;exact rz b s σ H _ v j k e f l Q I m n o p ⟨_,_,rfl,i,by rw[g.length];exact w,Gz t q (B7 g e f)⟩
 |_=>cases c
def XR{a:Expr}{lo hi:Option Expr}{fa:EF}{fl fh:OF}{pos p2:Pos}(ha:AE X kd a fa)(hl:AO X kd lo fl)(hh:AO X kd hi fh):AE X kd (.Subscript a (.Slice lo hi none p2) pos) (KZ fa fl fh Ml):=by with_unfolding_all exact(yu (OL nX ha hl hh) λσ H Q h=>by
 obtain⟨F,B,O,as,r,s,R,e,q⟩:=h;obtain⟨⟨p,c⟩,t,e⟩:=bS_ (show(fa as).bind _=_ from e);obtain⟨⟨l,b⟩,x,e⟩:=bS_ e;obtain⟨⟨u,y⟩,A,e⟩:=bS_ e;obtain⟨⟨d,P⟩,C,e⟩:=bS_ e;obtain⟨D,E,e⟩:=bS_ e;obtain⟨z,G,e⟩:=bS_ e;cases e;refine vQ R t λv f S I g J=>⟨F,B,f,c,l,b,I,x,λi T R2 n=>⟨F,B,i,b,u,_,R2,A,λj U k o=>?_⟩⟩;exact⟨_,d,D,k.tr _,xW.vw k ((g.grow n).grow o) C,E,Yo k G λw K L M m N=>q w K j L M m (((J.trans n).trans o).trans N)⟩)
def FP:D->Option R0
 | .int i=>some (.im (.int (-i)))
 |_=>none
def He:kK X kd (unaryOp .USub) FP:=by
 intro a s σ H x v Q I c h;obtain⟨O,d,r,f,e,b,q⟩:=h;cases e with
 |int i=>cases b;exact sk a s σ H _ v Q I c ⟨i,rfl,yc q (.int _)⟩
 |_=>cases b
def q8:D->String
 | .non=>"NoneType" | .bl _=>"bool" | .int _=>"int" | .str _=>"str" | .tup _=>"tuple" | .lst _=>"list" | .dct _=>"dict"|_=>""
def Dj:D->Bool
 | .cl _=>false | .ob _ _ _=>false|_=>true
def BW(t c:String):Bool:=t==c||(t=="bool"&&c=="int")
def Uz(c:String):Bool:=c=="int"||c=="bool"||c=="str"||c=="list"||c=="tuple"||c=="dict"
def sY(K:zzA)(d:D)(c:String)(h:Uz c=true)(ho:Dj d=true):PySem.W.kitOne K (.type (q8 d)) (.type c)=some (BW (q8 d) c):=by
 have:c="int"\/c="bool"\/c="str"\/c="list"\/c="tuple"\/c="dict":=by
  unfold Uz at h;simp only[Bool.or_eq_true,beq_iff_eq]at h
  rcases h with((((h|h)|h)|h)|h)|h<;>simp[h]
 rcases this with rfl|rfl|rfl|rfl|rfl|rfl<;>cases d<;>first|rfl|cases ho
def tw(hk:KdOk X kd){pins:List (Addr×Obj)}{σ:St}{H:Hp}{s:Shared}{O:Addr->Prop}{A:Around}{E:Value->Shared->Prop}{Q:Value->Shared->Prop}{c:String}{x:V}{u:Value}{d:D}(I:Inv X pins σ H s)(rx:RelV x u)(vx:Vw X.K kd O H x d)(hc:Uz c=true)(ho:Dj d=true)
 (h:∀tk,Q (.bool (BW (q8 d) c)) {s with toks:=tk}):wpAny (model X.prog X.w) A (call (.builtin "isinstance") [u,.type c]) Q E s:=by
 have e:=sY X.K d c hc ho;cases vx with
 |non=>cases rx;exact PySem.W.kia_one PySem.W.kitx_none I.kIn True.intro e (λz=>nomatch z) h
 |bl y=>cases rx;exact PySem.W.kia_one PySem.W.kitx_bool I.kIn True.intro e (λz=>nomatch z) h
 |int i=>obtain⟨t,rfl⟩:=rx;exact PySem.W.kia_one PySem.W.kitx_int I.kIn True.intro e (λz=>nomatch z) h
 |str y=>obtain⟨t,rfl⟩:=rx;exact PySem.W.kia_one PySem.W.kitx_str I.kIn True.intro e (λz=>nomatch z) h
 |lst a j=>
  cases rx;obtain⟨g,k,⟨o,n,b,f,_⟩,_⟩:=I.list a.sq;exact PySem.W.kia_one PySem.W.kitx_list I.kIn ⟨o,b,f⟩ e (λz=>nomatch z) h
 |tup m a j=>
  cases rx;obtain⟨g,k,⟨o,b,f,_⟩,_⟩:=I.tuple a;exact PySem.W.kia_one PySem.W.kitx_tuple I.kIn ⟨o,b,f⟩ e (λz=>nomatch z) h
 |dct a p=>
  cases rx;obtain⟨z,q,r,l,⟨o,v,B,b,f,_⟩⟩:=Ka I hk a;exact PySem.W.kia_one PySem.W.kitx_dict I.kIn ⟨o,b,f.1⟩ e (λz=>nomatch z) h
 |cl=>cases ho
 |ob=>cases ho
end
noncomputable def XT:List D->Option (List Int)
 | []=>some []
 | .int i::r=>(XT r).bind λs=>some (i::s)
 |_::_=>none
def tP:List Int->Int
 | []=>0
 |x::r=>r.foldl (λa b=>if a<b then b else a) x
def sU:List Int->Int
 | []=>0
 |x::r=>r.foldl (λa b=>if b<a then b else a) x
theorem Nr:∀(r:List Int) (x:Int),r.foldl (λa b=>if a<b then b else a) x ∈ x::r/\∀a ∈ x::r,a<=r.foldl (λa b=>if a<b then b else a) x
 | [],x=>⟨by simp,by simp⟩
 |y::r,x=>by
  rw[List.foldl_cons];obtain⟨h1,h2⟩:=Nr r (if x<y then y else x);refine⟨?_,λa ha=>?_⟩
  . rcases zzC.mp h1 with e|e
    . rw[e];split<;>simp
    . exact zzD _ (zzD _ e)
  . have h3:=h2 _ zzF
    rcases zzC.mp ha with e|e
    . subst e;exact Int.le_trans (by split<;>omega) h3
    . rcases zzC.mp e with e|e
      . subst e;exact Int.le_trans (by split<;>omega) h3
      . exact h2 a (zzD _ e)
theorem L5:∀(r:List Int) (x:Int),r.foldl (λa b=>if b<a then b else a) x ∈ x::r/\∀a ∈ x::r,r.foldl (λa b=>if b<a then b else a) x<=a
 | [],x=>⟨by simp,by simp⟩
 |y::r,x=>by
  rw[List.foldl_cons];obtain⟨h1,h2⟩:=L5 r (if y<x then y else x);refine⟨?_,λa ha=>?_⟩
  . rcases zzC.mp h1 with e|e
    . rw[e];split<;>simp
    . exact zzD _ (zzD _ e)
  . have h3:=h2 _ zzF
    rcases zzC.mp ha with e|e
    . subst e;exact Int.le_trans h3 (by split<;>omega)
    . rcases zzC.mp e with e|e
      . subst e;exact Int.le_trans h3 (by split<;>omega)
      . exact h2 a (zzD _ e)
def J4{ns:List Int}{M:Int}(h1:M ∈ ns)(h2:∀a ∈ ns,a<=M):tP ns=M:=by
 cases ns with
 |nil=>simp at h1
 |cons x r=>
  obtain⟨k1,k2⟩:=Nr r x;have a1:=k2 M h1;have a2:=h2 _ k1;show r.foldl _ x=M;omega
def Dc{ns:List Int}{M:Int}(h1:M ∈ ns)(h2:∀a ∈ ns,M<=a):sU ns=M:=by
 cases ns with
 |nil=>simp at h1
 |cons x r=>
  obtain⟨k1,k2⟩:=L5 r x;have a1:=k2 M h1;have a2:=h2 _ k1;show r.foldl _ x=M;omega
def uv(f:D->Option R0)(ds:List D):Option R0:=match ds with
 | [x]=>f x
 |_=>none
def Pm{K:zzA}{kd:KD}{O:Addr->Prop}{H:Hp}{f:D->Option R0}{xs:List V}{ds:List D}{r:R0}(vl:VwL K kd O H xs ds)(h:uv f ds=some r):∃x d,xs=[x]/\Vw K kd O H x d/\f d=some r:=by
 cases vl with
 |nil=>cases h
 |cons a b=>
  cases b with
  |nil=>exact⟨_,_,rfl,a,h⟩
  |cons _ _=>cases h
noncomputable def mP:D->Option R0
 | .lst ds=>some (.im (.int ds.length))
 | .tup ds=>some (.im (.int ds.length))
 | .str x=>if x.length<=sizeLine then some (.im (.int x.length))else none
 | .dct kvs=>some (.im (.int kvs.length))
 |_=>none
def vA:List D->Option R0:=uv mP
def la:D->Option R0
 | .int i=>some (.im (.int i))
 | .bl b=>some (.im (.int (if b then 1 else 0)))
 |_=>none
def tupP:List D->Option R0
 | [.lst ds]=>some (.im (.tup ds))
 | [.tup ds]=>some (.im (.tup ds))
 |_=>none
def n6:D->Option R0
 | .lst ds=>some (.fl ds)
 | .tup ds=>some (.fl ds)
 |_=>none
def lstP:List D->Option R0:=uv n6
def dctP:List D->Option R0
 | [.dct kvs]=>some (.fd kvs)
 |_=>none
noncomputable def E8(ds:List D):Option R0:=match ds with
 | [x,y]=>DS (λi j=>some (.im (.int (if j > i then j else i)))) x y
 | [x]=>(SD x).bind λds=>(XT ds).bind λns=>if 0<ns.length then some (.im (.int (tP ns)))else none
 |_=>none
noncomputable def SZ:List D->Option R0
 | [.int i,.int j]=>some (.im (.int (if j<i then j else i)))
 | [.lst ds]=>(XT ds).bind λns=>if 0<ns.length then some (.im (.int (sU ns)))else none
 |_=>none
def Gg{K:zzA}{kd:KD}{O:Addr->Prop}{H:Hp}{xs:List V}{d:D}(h:VwL K kd O H xs [d]):∃x,xs=[x]/\Vw K kd O H x d:=by
 cases h with
 |cons a b=>cases b;exact⟨_,rfl,a⟩
def Se{K:zzA}{kd:KD}{O:Addr->Prop}{H:Hp}{xs:List V}{d e:D}(h:VwL K kd O H xs [d,e]):∃x y,xs=[x,y]/\Vw K kd O H x d/\Vw K kd O H y e:=by
 cases h with
 |cons a b=>
  cases b with
  |cons b c=>cases c;exact⟨_,_,rfl,a,b⟩
def EE{K:zzA}{kd:KD}{O:Addr->Prop}{H:Hp}{vs:List V}{ds:List D}{ns:List Int}(h:RpL K kd O H vs ds)(e:XT ds=some ns):vs=ns.map V.int:=
 RpL.ind (P:=λvs ds=>∀ns,XT ds=some ns->vs=ns.map V.int) (λns e=>by cases e;rfl) (λ{v d vs ds} a _ ih ns e=>by
  cases d with
  |int i=>
   obtain⟨s,h1,h2⟩:=bS_ (show(XT _).bind _=_ from e);cases h2;cases a;rw[ih _ h1];rfl
  |_=>cases e) h ns e
section
variable{X:Cx}{kd:KD}
def yX(hk:KdOk X kd):Y0 X kd (.builtin "len") vA:=by
 intro pins s σ H xs us Q I r h;obtain⟨O,ds,z,ht,vl,he,q⟩:=h;obtain⟨x,d,rfl,vx,he⟩:=Pm vl he;cases vx with
 |lst hr rl=>cases he;exact UY pins s σ H _ us Q I r ⟨_,_,rfl,.inl hr.sq,by rw[rl.length];exact yc q (.int _)⟩
 |tup rp hr rl=>cases he;exact UY pins s σ H _ us Q I r ⟨_,_,rfl,.inr hr,by rw[rl.length];exact yc q (.int _)⟩
 |str y=>
  obtain⟨c,rfl⟩:=zt he;exact N2 pins s σ H _ us Q I r ⟨_,rfl,c,yc q (.int _)⟩
 |dct hr rm=>
  cases he;obtain⟨u,rfl,ru⟩:=vals1 r;cases ru;obtain⟨z,hd,vs,rel,dd⟩:=Ka I hk hr;refine call_len_dict hd dd (by rw[<-rel.length];rw[sizeLine_eq]at z;omega) ?_;rw[<-rel.length,rm.length];exact⟨.int _,H,I.tok _,⟨_,rfl⟩,yc q (.int _)⟩
 |_=>cases he
def XC:Y0 X kd (.type "tuple") tupP:=by
 intro pins s σ H xs us Q I r h;obtain⟨O,ds,z,ht,vl,he,q⟩:=h;unfold tupP at he
 split at he
 . cases he;obtain⟨x,rfl,vx⟩:=Gg vl;cases vx with
   |lst hr rl=>exact Qv pins s σ H _ us Q I r ⟨_,_,rfl,.inl ⟨hr.sq,Gz ht q rl⟩⟩
 . cases he;obtain⟨x,rfl,vx⟩:=Gg vl;cases vx with
   |tup rp hr rl=>exact Qv pins s σ H _ us Q I r ⟨_,_,rfl,.inr ⟨hr,yc q rp⟩⟩
 . cases he
def Qj:Y0 X kd (.type "list") lstP:=by
 intro pins s σ H xs us Q I r h;obtain⟨O,ds,z,ht,vl,he,q⟩:=h;obtain⟨x,d,rfl,vx,he⟩:=Pm vl he;cases vx with
 |lst hr rl=>cases he;exact Uo pins s σ H _ us Q I r ⟨_,_,rfl,.inl hr.sq,RP q rl⟩
 |tup rp hr rl=>cases he;exact Uo pins s σ H _ us Q I r ⟨_,_,rfl,.inr hr,RP q rl⟩
 |_=>cases he
def Sw(hk:KdOk X kd):Y0 X kd (.type "dict") dctP:=by
 intro pins s σ H xs us Q I r h;obtain⟨O,ds,z,ht,vl,he,q⟩:=h;unfold dctP at he
 split at he
 . cases he;obtain⟨x,rfl,vx⟩:=Gg vl;cases vx with
   |dct hr rm=>
    obtain⟨u,rfl,ru⟩:=vals1 r;cases ru;obtain⟨z,hd,vs,rel,dd⟩:=Ka I hk hr;refine kt_call_dict hd dd (by rw[<-rel.length];exact z) λh' dd' hs=>?_;refine⟨.ref _,_,(I.laid (a:=s.heap.objs.size) (o:=.dK _) (t':=s.toks) (λb q hq=>?_) (zzN _) (C3 z (beq_eq_false_iff_ne.mpr (Ne.symm (zzQ I.big))) rel dd')),rfl,CA q rm _ (I.hok.fresh (zzN _))⟩;exact(hs.2 b (zzQ (zxI hq))).trans (zxH _ hq)
 . cases he
def Qk(hc:X.calm=true):Y0 X kd (.builtin "max") E8:=by
 intro pins s σ H xs us Q I r h;obtain⟨O,ds,z,ht,vl,he,q⟩:=h;cases vl with
 |nil=>cases he
 |cons vx vl=>
  cases vl with
  |nil=>
   obtain⟨ds,h0,he⟩:=bS_ (show(SD _).bind _=_ from he);cases Rr h0;obtain⟨ns,h1,he⟩:=bS_ he;obtain⟨c,rfl⟩:=zt he;cases vx with
   |lst hr rl=>
    obtain⟨u,rfl,ru⟩:=vals1 r;cases ru;obtain⟨its,rv,p,_⟩:=I.list hr.sq;rw[EE rl h1]at rv;have hi:=intsAre_of rv;obtain⟨ys,e⟩:=hi.allInts.items;have hns:ns=ys.toList.map (·.1):=by rw[<-hi.numsOf,<-nums_intItems,<-e]
    have hsz:0<ys.size:=by
     have h3:=c;rw[hns,zzB,zyT]at h3;exact h3
    have hl:=p.isList;rw[e]at hl;refine max_intList (I.ok.hd hc) hl hsz λv h' tk hv kp=>?_;obtain⟨t,rfl⟩:=intItems_at hv;obtain⟨k1,k2⟩:=argBest_gt (numAt ys) (ys.size-1);refine⟨.int (tP ns),H,I.kept kp,⟨t, ?_⟩,yc q (.int _)⟩
    congr 1
    refine(J4 ?_ λa ha=>?_).symm
    . rw[hns,numAt_eq];have hlt:argBest (λi j=>decide (numAt ys i > numAt ys j)) (ys.size-1)<(ys.toList.map (·.1)).length:=by rw[zzB,zyT];omega
      rw[zyF,zzE hlt];exact zyZ hlt
    . rw[hns]at ha;obtain⟨j,hj,rfl⟩:=List.getElem_of_mem ha;have hj':=hj;rw[zzB,zyT]at hj;have:=k2 j (by omega);rw[numAt_eq ys j,zyF,zzE hj']at this;exact this
  |cons vy vl=>
   cases vl with
   |nil=>
    obtain⟨i,j,rfl,rfl,he⟩:=Wa vx vy he;cases he;exact SN hc pins s σ H _ us Q I r ⟨_,_,rfl,yc q (.int _)⟩
   |cons _ _=>cases he
def LC(hc:X.calm=true):Y0 X kd (.builtin "min") SZ:=by
 intro pins s σ H xs us Q I r h;obtain⟨O,ds,z,ht,vl,he,q⟩:=h;unfold SZ at he
 split at he
 . cases he;obtain⟨x,y,rfl,vx,vy⟩:=Se vl;cases vx;cases vy;exact S9 hc pins s σ H _ us Q I r ⟨_,_,rfl,yc q (.int _)⟩
 . obtain⟨ns,h1,he⟩:=bS_ he;obtain⟨c,rfl⟩:=zt he;obtain⟨x,rfl,vx⟩:=Gg vl;cases vx with
   |lst hr rl=>
    obtain⟨u,rfl,ru⟩:=vals1 r;cases ru;obtain⟨its,rv,p,_⟩:=I.list hr.sq;rw[EE rl h1]at rv;have hi:=intsAre_of rv;obtain⟨ys,e⟩:=hi.allInts.items;have hns:ns=ys.toList.map (·.1):=by rw[<-hi.numsOf,<-nums_intItems,<-e]
    have hsz:0<ys.size:=by
     have h3:=c;rw[hns,zzB,zyT]at h3;exact h3
    have hl:=p.isList;rw[e]at hl;refine min_intList (I.ok.hd hc) hl hsz λv h' tk hv kp=>?_;obtain⟨t,rfl⟩:=intItems_at hv;obtain⟨k1,k2⟩:=argBest_lt (numAt ys) (ys.size-1);refine⟨.int (sU ns),H,I.kept kp,⟨t, ?_⟩,yc q (.int _)⟩
    congr 1
    refine(Dc ?_ λa ha=>?_).symm
    . rw[hns,numAt_eq];have hlt:argBest (λi j=>decide (numAt ys i<numAt ys j)) (ys.size-1)<(ys.toList.map (·.1)).length:=by rw[zzB,zyT];omega
      rw[zyF,zzE hlt];exact zyZ hlt
    . rw[hns]at ha;obtain⟨j,hj,rfl⟩:=List.getElem_of_mem ha;have hj':=hj;rw[zzB,zyT]at hj;have:=k2 j (by omega);rw[numAt_eq ys j,zyF,zzE hj']at this;exact this
 . cases he
end
noncomputable def wM(env:Env):List (Str×NameKind)->List (Str×Addr)->List (Str×Addr)
 | [],cs=>cs
 |(n,k)::r,cs=>wM env r (if k == .free then((n,(env.cells.lookup n).getD 0)::cs)else cs)
def QK(h:∀x ∈ scope.names,x.2 = .free->∃c,env.cells.lookup x.1=some c):closureFor scope env=pure (wM env scope.names []):=by
 have s:∀(b:List (Str×NameKind)) (i:List (Str×Addr)) (f:Str×NameKind->List (Str×Addr)->Sem (ForInStep (List (Str×Addr)))),
  (∀d g i,f (d,g) i=if g == .free then(do let a <-cellOf env d;pure (.yield ((d,a)::i)))else pure (.yield i))->
  (∀x ∈ b,x.2 = .free->∃c,env.cells.lookup x.1=some c)->(forIn b i f:Sem (List (Str×Addr)))=pure (wM env b i):=by
  intro b
  induction b with
  |nil=>intro i f _ _;rfl
  |cons x r p=>
   intro i f l m;obtain⟨n,k⟩:=x;rw[List.forIn_cons,l];unfold wM
   by_cases j:(k == .free)=true
   . obtain⟨c,q⟩:=m (n,k) zzF (by simpa using j);rw[if_pos j,if_pos j];have e:cellOf env n=pure c:=by unfold cellOf;rw[q]
     rw[e,q];exact p _ f l λy o=>m y (zzD _ o)
   . rw[if_neg j,if_neg j];exact p _ f l λy o=>m y (zzD _ o)
 simp only[closureFor];rw[s scope.names [] _ (λd g i=>?_) h]
 . rfl
 . rfl
theorem Nq:∀(names:List (Str×NameKind)) (cs:List (Str×Addr)) (p:Str×Addr),p ∈ wM env names cs->p ∈ cs\/((p.1,NameKind.free) ∈ names/\p.2=(env.cells.lookup p.1).getD 0)
 | [],_,_,h=>.inl h
 |(n,k)::r,b,p,h=>by
  unfold wM at h
  rcases Nq r _ p h with h|h
  . by_cases a:(k == .free)=true
    . rw[if_pos a]at h
      rcases zzC.mp h with e|h
      . subst e;have:k = .free:=by simpa using a
        subst this;exact .inr ⟨zzF,rfl⟩
      . exact .inl h
    . rw[if_neg a]at h;exact .inl h
  . exact .inr ⟨zzD _ h.1,h.2⟩
theorem Kd:∀(names:List (Str×NameKind)) (cs:List (Str×Addr)) (p:Str×Addr),p ∈ cs->p ∈ wM env names cs
 | [],_,_,h=>h
 |(n,k)::r,a,p,h=>by
  unfold wM;refine Kd r _ p ?_
  split
  . exact zzD _ h
  . exact h
theorem LN:∀(names:List (Str×NameKind)) (cs:List (Str×Addr)) (x:Str),(x,NameKind.free) ∈ names->(x,(env.cells.lookup x).getD 0) ∈ wM env names cs
 |(n,k)::r,a,x,h=>by
  unfold wM
  rcases zzC.mp h with e|h
  . cases e;exact Kd r _ _ (by simp)
  . exact LN r _ x h
theorem Xg:∀{l:List (Str×α)},(∀p ∈ l,p.1=x->p.2=a)->(∃b,(x,b) ∈ l)->l.lookup x=some a
 | [],_,h=>by obtain⟨_,h⟩:=h;cases h
 |(k,v)::r,u,h=>by
  rw[List.lookup_cons];cases hb:x==k with
  |true=>
   have:=u (k,v) zzF (beq_iff_eq.mp hb).symm;exact congrArg some this
  |false=>
   refine Xg (λp c=>u p (zzD _ c)) ?_;obtain⟨b,h⟩:=h
   rcases zzC.mp h with e|h
   . cases e;simp at hb
   . exact⟨b,h⟩
theorem Rv:∀(names:List (Str×NameKind)) (h:Heap) (acc:List (Str×Addr)) (p:Str×Addr),p ∈ cellsFrom h.objs.size names acc->
 p ∈ acc\/((p.1,NameKind.cell) ∈ names/\(pushCells h names).IsCell p.2 none/\h.objs.size<=p.2)
 | [],_,_,_,m=>.inl m
 |(n,k)::r,h,b,p,m=>by
  unfold cellsFrom at m;unfold pushCells
  split at m
  . rename_i a;rw[if_pos a];have e:(h.push {cls:=.type "cell",data:=.cell none}).objs.size=h.objs.size+1:=zxM ..;rw[<-e]at m
    rcases Rv r _ _ p m with m|⟨c,d,f⟩
    . rcases zzC.mp m with g|m
      . subst g;have:k = .cell:=by simpa using a
        subst this;refine .inr ⟨zzF, ?_,zzN _⟩;have z:(h.push {cls:=.type "cell",data:=.cell none}).IsCell h.objs.size none:=⟨_,zxJ _ rfl,rfl⟩;exact z.keeps (pushCells_keeps r _)
      . exact .inl m
    . exact .inr ⟨zzD _ c,d,by rw[e]at f;omega⟩
  . rename_i a;rw[if_neg a]
    rcases Rv r h b p m with m|⟨c,d,f⟩
    . exact .inl m
    . exact .inr ⟨zzD _ c,d,f⟩
theorem WJ:∀(names:List (Str×NameKind)) (n:Nat) (acc:List (Str×Addr)) (p:Str×Addr),p ∈ acc->p ∈ cellsFrom n names acc
 | [],_,_,_,m=>m
 |(_,k)::r,n,a,p,m=>by
  unfold cellsFrom
  split
  . exact WJ r _ _ p (zzD _ m)
  . exact WJ r _ _ p m
theorem RO:∀(names:List (Str×NameKind)) (n:Nat) (acc:List (Str×Addr)) (x:Str),(x,NameKind.cell) ∈ names->∃c,(x,c) ∈ cellsFrom n names acc
 |(y,k)::r,n,a,x,m=>by
  unfold cellsFrom
  rcases zzC.mp m with e|m
  . cases e;rw[if_pos (by decide)];exact⟨n,WJ r _ _ _ zzF⟩
  . split
    . exact RO r _ _ x m
    . exact RO r _ _ x m
theorem Pp:∀(names:List (Str×NameKind)) (n:Nat) (acc:List (Str×Addr)),(∀p ∈ acc,p.2<n)->(∀p ∈ acc,∀q ∈ acc,p.2=q.2->p.1=q.1)->∀p ∈ cellsFrom n names acc,∀q ∈ cellsFrom n names acc,p.2=q.2->p.1=q.1
 | [],_,_,_,h=>h
 |(y,k)::r,n,c,b,h=>by
  unfold cellsFrom
  split
  . refine Pp r (n+1) _ (λp m=>?_) (λp m q a e=>?_)
    . rcases zzC.mp m with z|m
      . subst z;exact Nat.lt_succ_self _
      . exact zxA (b p m)
    . rcases zzC.mp m with z|m
      . rcases zzC.mp a with d|a
        . rw[z,d]
        . subst z;have:=b q a;rw[<-e]at this;exact absurd this (Nat.lt_irrefl _)
      . rcases zzC.mp a with d|a
        . subst d;have:=b p m;rw[e]at this;exact absurd this (Nat.lt_irrefl _)
        . exact h p m q a e
  . exact Pp r n c b h
section
variable{M:Model}{A:Around}{E:Value->Shared->Prop}{s:Shared}
noncomputable def Vt(scope:Scope)(env:Env)(cl:List (Str×Addr))(L:Addr):Env:=
 {scope:=relabel scope env,locals:=L,globals:=env.globals,cells:=cellsFrom (L+1) scope.names cl,qual:=env.qual,func:=none,code:=env.code,frame:=env.frame,builtins:=env.builtins}
def Md
 (h:∀h' env',{env' with scope:=relabel scope env}=Vt scope env cl s.heap.objs.size->env'.locals=s.heap.objs.size->(∀b o,s.heap.get? b=some o->h'.get? b=some o)->h'.Ns s.heap.objs.size (λ_=>none)->
  (∀p ∈ cellsFrom (s.heap.objs.size+1) scope.names cl,p ∈ cl\/((p.1,NameKind.cell) ∈ scope.names/\h'.IsCell p.2 none/\s.heap.objs.size+1<=p.2))->Q env' {s with heap:=h'}):
 wpAny M A (newFunctionEnv scope env.globals cl [] env.qual none .none (some env)) Q E s:=by
 simp only[newFunctionEnv,Option.isSome_some,if_true];refine zxF (wpAny_alloc ?_);refine zxF (wpAny_layCells _ (λd a c=>by cases hkc:a==NameKind.cell<;>simp[hkc]) _ _ _ _ ?_);have e:(s.heap.push {cls:=.type "dict",data:=.dict #[]}).objs.size=s.heap.objs.size+1:=zxM ..;refine zxF (zxG (zxG (h _ _ ?_ rfl (λb o q=>pushCells_keeps _ _ b o (zxH _ q)) ((Heap.Ns.new s.heap (.type "dict")).keeps (pushCells_keeps _ _)) λp m=>?_)))
 . unfold Vt;rw[<-e]
 . rw[<-e]at m
   rcases Rv _ _ _ p m with m|⟨g,i,f⟩
   . exact .inl m
   . exact .inr ⟨g,i,by rw[e]at f;exact f⟩
end
abbrev wB(X:Cx)(N:List Str)(scope:Scope)(cl:List (Str×Addr))(s:Shared)(H:Hp)(fp:List Addr):Cx:=
 {X with N:=N,s₀:=s,H₀:=H,env:=Vt scope X.env cl (s.heap.objs.size+1),outer:=X.stack,ex:=fp,fn:=λx=>scope.names.lookup x==some .cell,pn:=[],xe:=λ_ _=>False}
def rO(σ:St):Option Nat->Option V
 |none=>none
 |some j=>(σ[j]?).getD none
def vI(cap:List (Option Nat))(σ:St):St:=cap.map (rO σ)
def xq(N XN:List Str)(names:List (Str×NameKind))(envNames:List (Str×NameKind))(cap:List (Option Nat)):Bool:=
 N.length==cap.length&&(N.zip cap).all (λp=>match p.2 with|none=>true|some j=>XN[j]? == some p.1&&names.contains (p.1,NameKind.free)) &&
 names.all (λp=>p.2 != .free||envNames.lookup p.1==some .cell||envNames.lookup p.1==some .free)&&decide (names.map (·.1)).Nodup
def II(X:Cx)(ifs:List Expr)(t:TT):Prop:=
 ∀(pins:List (Addr×Obj)) (s:Shared) (σ:St) (H:Hp) (Q:Bool->Hp->Prop),Inv X pins σ H s->t σ H Q->
  wpAny (model X.prog X.w) X.A (forIn ifs true λc r=>if r=true then do let ok <-isTrue c X.env (eval c X.env);pure (ForInStep.yield ok)else pure (ForInStep.yield r)) (TP X pins σ Q) X.xe s
def A9:II X [] (λ_ H Q=>Q true H):=λa s σ H Q I h=>wpAny_tests_nil ⟨H,I,h⟩
def JE(h:PT X c t):II X [c] t:=λa s σ H Q I q=>wpAny_tests_one (h a s σ H Q I q)
def Oo(wi:TI)(cap:List (Option Nat))(g:TG)(tt:TT)(te:TE):TE:=λσ H Q=>wi σ H λJ H1=>∃W:Nat->Nat->List V->Hp->Prop,(∃m,W 0 m [] H1)/\∀i m ys H,W i m ys H->ys.length<=sizeLine/\
 ((J.stop i H/\∀p,H p=none->Q (.ref p) (upd H p (.lst ys)))\/(J.go i H/\∀x H',J.yld i H x H'->g x (vI cap σ) H' λσ2 H2=>(∀(j:Nat) v,(vI cap σ)[j]? = some (some v)->σ2[j]? = some (some v))/\
   tt σ2 H2 λb H3=>if b=true then ys.length<sizeLine/\te σ2 H3 λy H4=>∃m',m'<m/\W (i+1) m' (ys++[y]) H4 else ∃m',m'<m/\W (i+1) m' ys H3))
section
variable{prog:Program}{w:World}{A:Around}{E:Value->Shared->Prop}{R:Result->Shared->Prop}{s:Shared}
def Mj(I:Nat->Shared->Prop)
 (turn:∀n s (E:Value->Shared->Prop),I n s->wpAny (model prog w) A (pyNext it) (λr s₁=>match r with
  |none=>R (.ok .next) s₁
  |some v=>wpAny (model prog w) A (letOwnedTupleGo target it v) (λ_ s₁=>wpAny (model prog w) A (assign target env v) (λ_ s₂=>
   wpAny (model prog w) A (forIn ifs true λc r=>if r=true then do let ok <-isTrue c env (eval c env);pure (ForInStep.yield ok)else pure (ForInStep.yield r)) (λok s₃=>
            if ok=true then wpAny (model prog w) A (eval elt env) (λx s₄=>
             wpAny (model prog w) A (call (.builtin "list.append") [acc,x]) (λ_ s₅=>∃m,m<n/\I m s₅) E s₄) E s₃
            else ∃m,m<n/\I m s₃) E s₂) E s₁) E s₁) E s)
 (n:Nat) (h:I n s):
 codeAny (model prog w) A (.compLoop (.ListComp elt [⟨target,iter,ifs,0⟩] scope pos) 0 it acc env) R s:=by
 refine codeAny_loop rfl I (λn s e=>?_) n h;show wpAny _ A ((compTurn (.ListComp elt [⟨target,iter,ifs,0⟩] scope pos) 0 it acc env).onRaise (λx=>do noteFrame x env;theTreesLotGoes x)) _ _ s;refine wpAny_noted ?_;rw[compTurn_list];refine zxF (wpAny_standAt (zxF (zxN (turn n s _ e) (λr f b=>?_) λ_ _ a=>a)));cases r with
 |none=>exact zxG b
 |some v=>
  refine zxF (zxN b (λ_ f b=>?_) λ_ _ a=>a);refine zxF (zxN b (λ_ k g=>zxF (zxN g (λok l d=>?_) λ_ _ a=>a)) λ_ _ a=>a);cases ok with
  |false=>exact zxG ⟨rfl,d⟩
  |true=>
   exact zxF (zxF (zxN d (λx o i=>zxF (zxN i (λ_ p j=>zxG (zxG ⟨rfl,j⟩)) λ_ _ a=>a)) λ_ _ a=>a))
end
structure CapOk(N XN:List Str)(names:List (Str×NameKind))(envNames:List (Str×NameKind))(cap:List (Option Nat)):Prop where
 len:N.length=cap.length
 at_:∀(i:Nat) x (j:Nat),N[i]? = some x->cap[i]? = some (some j)->XN[j]? = some x/\(x,NameKind.free) ∈ names
 fr:∀p ∈ names,p.2 = .free->envNames.lookup p.1=some .cell\/envNames.lookup p.1=some .free
 nd:(names.map (·.1)).Nodup
def EB(h:xq N XN names envNames cap=true):CapOk N XN names envNames cap:=by
 unfold xq at h;simp only[zyC,beq_iff_eq,List.all_eq_true,decide_eq_true_eq]at h;obtain⟨⟨⟨a,b⟩,c⟩,d⟩:=h;refine⟨a,λi x j f g=>?_,λp k e=>?_,d⟩
 . have m:(x,some j) ∈ N.zip cap:=zyA (i:=i) (by rw[List.getElem?_zip_eq_some];exact⟨f,g⟩);have:=b _ m;simp only[zyC,beq_iff_eq]at this;exact⟨this.1,by simpa using this.2⟩
 . have:=c p k;rw[e]at this;simpa using this
def My{names:List (Str×NameKind)}(h:(names.map (·.1)).Nodup){x:Str}{k k':NameKind}(m:(x,k) ∈ names)(m':(x,k') ∈ names):k=k':=by
 induction names with
 |nil=>cases m
 |cons p r ih=>
  obtain⟨h1,h2⟩:=zzW.mp (show(p.1::r.map (·.1)).Nodup from h)
  rcases zzC.mp m with e|m
  . rcases zzC.mp m' with e'|m'
    . rw[<-e]at e';cases e';rfl
    . exact absurd (zxD.mpr ⟨_,m',by rw[<-e]⟩) h1
  . rcases zzC.mp m' with e'|m'
    . exact absurd (zxD.mpr ⟨_,m,by rw[<-e']⟩) h1
    . exact ih h2 m m'
def Px{names:List (Str×NameKind)}(h:(names.map (·.1)).Nodup){x:Str}{k:NameKind}(m:(x,k) ∈ names):names.lookup x=some k:=
 Xg (λp a e=>by obtain⟨y,b⟩:=p;cases(show y=x from e);exact My h a m) ⟨k,m⟩
def VV(x:Str):(relabel scope env).names.lookup x=(scope.names.lookup x).map λk=>if(k == .free&&env.scope.kind == .function&&env.kindOf x==some .cell)=true then NameKind.cell else k:=by
 unfold relabel;show(scope.names.map _).lookup x=_;generalize scope.names=a
 induction a with
 |nil=>rfl
 |cons p r b=>
  obtain⟨n,k⟩:=p;rw[zyS,List.lookup_cons (k:=n) (as:=r)];cases hb:x==n with
  |true=>
   have e:x=n:=beq_iff_eq.mp hb;subst e;show List.lookup x ((if(k==NameKind.free&&env.scope.kind == .function&&env.kindOf x==some .cell)=true then(x,NameKind.cell)else(x,k))::_)=_;show _=some (if(k==NameKind.free&&env.scope.kind == .function&&env.kindOf x==some .cell)=true then NameKind.cell else k)
   split
   . rw[List.lookup_cons,hb]
   . rw[List.lookup_cons,hb]
  |false=>
   show List.lookup x ((if(k==NameKind.free&&env.scope.kind == .function&&env.kindOf n==some .cell)=true then(n,NameKind.cell)else(n,k))::_)=_
   split
   . rw[List.lookup_cons,hb];exact b
   . rw[List.lookup_cons,hb];exact b
def Bb{X:Cx}{pins:List (Addr×Obj)}{σ:St}{H:Hp}{s:Shared}{N:List Str}{scope:Scope}{cap:List (Option Nat)}{fp:List Addr}{h':Heap}(I:Inv X pins σ H s)(C:CapOk N X.N scope.names X.env.scope.names cap)(hk:scope.kind = .function)
 (hf:∀b ∈ fp,Tf X pins H b) (ho:∀b ∈ fp,∃o,s.heap.get? b=some o)
 (old:∀b o,s.heap.get? b=some o->h'.get? b=some o) (ns:h'.Ns (s.heap.objs.size+1) (λ_=>none))
 (hc:∀p ∈ cellsFrom (s.heap.objs.size+1+1) scope.names (wM X.env scope.names []),p ∈ wM X.env scope.names []\/((p.1,NameKind.cell) ∈ scope.names/\h'.IsCell p.2 none/\s.heap.objs.size+1+1<=p.2)):
 Inv (wB X N scope (wM X.env scope.names []) s H fp) [] (vI cap σ) H {s with heap:=h'}:=by
 have has:∀x,(x,NameKind.free) ∈ scope.names->∃c,X.env.cells.lookup x=some c:=λx m=>I.ok.has x (C.fr _ m rfl);have clo:∀p ∈ wM X.env scope.names [],X.env.cells.lookup p.1=some p.2/\(p.1,NameKind.free) ∈ scope.names:=λp m=>by
  rcases Nq _ _ p m with z|⟨z1,z2⟩
  . cases z
  . obtain⟨c,e⟩:=has _ z1;rw[e]at z2;exact⟨by rw[e];exact congrArg some z2.symm,z1⟩
 have look:∀x c,(cellsFrom (s.heap.objs.size+1+1) scope.names (wM X.env scope.names [])).lookup x=some c->(X.env.cells.lookup x=some c/\(x,NameKind.free) ∈ scope.names)\/((x,NameKind.cell) ∈ scope.names/\h'.IsCell c none/\s.heap.objs.size+1+1<=c):=λx c e=>by
  rcases hc _ (mem_of_lookup e)with m|m
  . exact .inl (clo _ m)
  . exact .inr m
 have lt:∀x c,X.env.cells.lookup x=some c->c<s.heap.objs.size:=λx c e=>by obtain⟨v,z⟩:=I.cell x c e;exact z.lt
 have lookF:∀x,(x,NameKind.free) ∈ scope.names->∃c,(cellsFrom (s.heap.objs.size+1+1) scope.names (wM X.env scope.names [])).lookup x=some c/\X.env.cells.lookup x=some c:=λx m=>by
  obtain⟨c,e⟩:=has x m;have m1:=WJ scope.names (s.heap.objs.size+1+1) _ _ (LN (env:=X.env) scope.names [] x m);refine⟨c,Xg (λp hp ep=>?_) ⟨_,m1⟩,e⟩
  rcases hc p hp with z|z
  . have:=(clo p z).1;rw[ep,e]at this;exact(zzZ this).symm
  . rw[ep]at z;exact absurd (My C.nd z.1 m) (by decide)
 have kinds:∀x,((relabel scope X.env).names.lookup x=some .cell\/(relabel scope X.env).names.lookup x=some .free)->(x,NameKind.free) ∈ scope.names\/(x,NameKind.cell) ∈ scope.names:=λx h=>by
  rw[VV]at h;cases e:scope.names.lookup x with
  |none=>rw[e]at h;rcases h with h|h<;>cases h
  |some k=>
   have m:=mem_of_lookup e;cases k with
   |free=>exact .inl m
   |cell=>exact .inr m
   |_=>rw[e]at h;rcases h with h|h<;>(simp at h)
 have lsz:s.heap.objs.size+1<h'.objs.size:=ns.lt;refine⟨⟨I.ok.mod,hk,I.ok.glob,I.ok.blt,zyW _, ?_, ?_, ?_,I.ok.hd,I.ok.frames,.inl rfl, ?_,I.bs,zzO I.ok.bsz I.sz, ?_, ?_,I.stack,I.stkFree⟩,rfl,I.bare,(Un.kept old),⟨_,ns, ?_⟩, ?_,I.hok.fresh (zyW _), ?_,(λ_ z=>nomatch z),I.hok.kept old, ?_⟩
 . intro x y c e1 e2;refine Pp scope.names (s.heap.objs.size+1+1) _ (λp m=>?_) (λp m q m' e=>?_) (x,c) (mem_of_lookup e1) (y,c) (mem_of_lookup e2) rfl
   . exact zxA (zxA (lt _ _ (clo p m).1))
   . refine I.ok.inj _ _ _ (clo p m).1 ?_;rw[e];exact(clo q m').1
 . intro x h
   rcases kinds x h with m|m
   . obtain⟨c,e,_⟩:=lookF x m;exact⟨c,e⟩
   . obtain⟨c,e⟩:=RO scope.names (s.heap.objs.size+1+1) (wM X.env scope.names []) x m;cases q:(cellsFrom (s.heap.objs.size+1+1) scope.names (wM X.env scope.names [])).lookup x with
     |some c'=>exact⟨c',q⟩
     |none=>
      exfalso;have:=List.lookup_eq_none_iff.mp q (x,c) e;simp at this
 . intro x c hx e;have hx:(scope.names.lookup x==some .cell)=true:=hx;have m:=mem_of_lookup (beq_iff_eq.mp hx)
   rcases look x c e with z|z
   . exact absurd (My C.nd z.2 m) (by decide)
   . exact zzO (zzO (zyW _) (zyW _)) z.2.2
 . intro b hb;obtain⟨o,e⟩:=ho b hb;refine⟨zzQ (zxA (zxI e)),λx c ec=>?_⟩
   rcases look x c ec with z|z
   . exact(hf b hb).2.2.2.2.1 x c z.1
   . have:=zxI e;intro q;subst q;exact absurd (zzK this (zzO (zzO (zyW _) (zyW _)) z.2.2)) (Nat.lt_irrefl _)
 . intro b o e hb
   rcases(hf b hb).2.2.2.1 with z|z
   . exact I.ok.noex b o e z
   . exact absurd (zzK (zxI e) (zzO I.ok.bsz z)) (Nat.lt_irrefl _)
 . intro b hb hm
   rcases zzC.mp (I.stkSub b hm)with z|z
   . exact(hf b hb).2.1 z
   . exact(hf b hb).2.2.1 z
 . intro i x v e1 e2 e3;have e2:(vI cap σ)[i]? = some (some v):=e2;unfold vI at e2;rw[zzI]at e2;cases ec:cap[i]? with
   |none=>rw[ec]at e2;cases e2
   |some c=>
    cases c with
    |none=>rw[ec]at e2;cases e2
    |some j=>
     rw[ec]at e2;have e2:(σ[j]?).getD none=some v:=zzZ e2;obtain⟨xn,m⟩:=C.at_ i x j e1 ec;have es:σ[j]? = some (some v):=by
      cases q:σ[j]? with
      |none=>rw[q]at e2;cases e2
      |some y=>rw[q]at e2;exact congrArg some e2
     have kf:=C.fr _ m rfl;obtain⟨mm,hn,hl⟩:=I.loc;obtain⟨u,r,l⟩:=hl j x v xn es (by rcases kf with k|k;exact .inr (.inl k);exact .inr (.inr k));refine⟨u,r,.inr ⟨?_, ?_⟩⟩
     . show(relabel scope X.env).names.lookup x=some .cell\/(relabel scope X.env).names.lookup x=some .free;rw[VV,Px C.nd m];show some (if _ then _ else _)=_\/some (if _ then _ else _)=_
       split
       . exact .inl rfl
       . exact .inr rfl
     . obtain⟨c,ec,eo⟩:=lookF x m;refine⟨c,ec, ?_⟩
       rcases l with⟨k1,_⟩|⟨_,c2,e4,z⟩
       . have k1:X.env.scope.names.lookup x=some .local:=k1
         rcases kf with k|k<;>(rw[k1]at k;cases k)
       . rw[eo]at e4;cases e4;exact z.keeps old
 . intro x c e
   rcases look x c e with z|z
   . obtain⟨v,q⟩:=I.cell x c z.1;exact⟨v,q.keeps old⟩
   . exact⟨none,z.2.1⟩
 . intro x c e
   rcases look x c e with z|z
   . exact I.freeC x c z.1
   . exact I.hok.fresh (zzO (zzO (zyW _) (zyW _)) z.2.2)
 . show(vI cap σ).length=N.length;unfold vI;rw[zzB,C.len]
abbrev lobj(its:List Value):Obj:={cls:=.type "list",data:=.seq its.toArray its.length}
section
variable{X:Cx}{pins:List (Addr×Obj)}{σ:St}{H2:Hp}{s2:Shared}{elt tg iter:Expr}{ifs:List Expr}{scope:Scope}{pos:Pos}{N:List Str}{cap:List (Option Nat)}{g:TG}{tt:TT}{te:TE}{wi:TI}
set_option maxHeartbeats 1000000
def Gj{J:It}{it:Addr}{fp:List Addr}{tn:Nat->Heap->Prop}{Q:VK}{R:Value->Addr->Result->Shared->Prop}{E:Value->Shared->Prop}
 (hc:X.calm=true) (C:CapOk N X.N scope.names X.env.scope.names cap) (hk:scope.kind = .function)
 (hg:∀cl s H fp,PG (wB X N scope cl s H fp) tg g) (ht:∀cl s H fp,II (wB X N scope cl s H fp) ifs tt) (he:∀cl s H fp,PE (wB X N scope cl s H fp) elt te)
 (I2:Inv X pins σ H2 s2) (T:Turn X.prog X.w X.K tg J fp it tn) (st2:tn 0 s2.heap) (f2:∀b ∈ fp,Tf X pins H2 b)
 (W:Nat->Nat->List V->Hp->Prop) (m0:Nat) (w0:W 0 m0 [] H2)
 (turn:∀i m ys H,W i m ys H->ys.length<=sizeLine/\((J.stop i H/\∀p,H p=none->Q (.ref p) (upd H p (.lst ys)))\/(J.go i H/\∀x H',J.yld i H x H'->g x (vI cap σ) H' λσ2 H2=>(∀(j:Nat) v,(vI cap σ)[j]? = some (some v)->σ2[j]? = some (some v))/\
  tt σ2 H2 λb H3=>if b=true then ys.length<sizeLine/\te σ2 H3 λy H4=>∃m',m'<m/\W (i+1) m' (ys++[y]) H4 else ∃m',m'<m/\W (i+1) m' ys H3)))
 (fin:∀ys H3 s1 m,Inv X pins σ (upd H3 s2.heap.objs.size (.lst ys)) s1->s1.heap.Ns (s2.heap.objs.size+1) m->Tf X pins (upd H3 s2.heap.objs.size (.lst ys)) (s2.heap.objs.size+1)->
  Q (.ref s2.heap.objs.size) (upd H3 s2.heap.objs.size (.lst ys))->R (.ref s2.heap.objs.size) (s2.heap.objs.size+1) (.ok .next) s1):
 wpAny (model X.prog X.w) X.A (newList []) (λacc s₃=>wpAny (model X.prog X.w) X.A (newFunctionEnv scope X.env.globals (wM X.env scope.names []) [] X.env.qual none .none (some X.env)) (λcenv s₄=>
  codeAny (model X.prog X.w) X.A (.compStart (.ListComp elt [⟨tg,iter,ifs,0⟩] scope pos) 0 (.ref it) acc {cenv with scope:=relabel scope X.env}) (R acc cenv.locals) s₄) E s₃) E s2:=by
 refine zxK (Md λh' env' eE eL old hns hcells=>?_);have e1:(s2.heap.push {cls:=.type "list",dict:=none,data:=.seq ([]:List Value).toArray}).objs.size=s2.heap.objs.size+1:=zxM ..;dsimp only at eE eL old hns hcells;rw[e1]at eE eL hns hcells;have hD0:(s2.heap.push {cls:=.type "list",dict:=none,data:=.seq ([]:List Value).toArray}).get? s2.heap.objs.size=some (lobj []):=zxJ _ rfl;have hD:h'.get? s2.heap.objs.size=some (lobj []):=old _ _ hD0;have old':∀b o,s2.heap.get? b=some o->h'.get? b=some o:=λb o q=>old b o (zxH _ q);have fex:∀b ∈ fp,∃o,s2.heap.get? b=some o:=λb hb=>by obtain⟨o,e,_⟩:=T.obj _ _ st2 b hb;exact⟨o,e⟩
 have flt:∀b ∈ fp,b<s2.heap.objs.size:=λb hb=>by obtain⟨o,e⟩:=fex b hb;exact zxI e
 have I':=Bb I2 C hk f2 fex old' hns hcells;rw[eE,eL];generalize hX:wB X N scope (wM X.env scope.names []) s2 H2 fp=X' at I';have xP:X'.prog=X.prog:=by rw[<-hX]
 have xw:X'.w=X.w:=by rw[<-hX]
 have xK:X'.K=X.K:=by rw[<-hX]
 have xA:X'.A=X.A:=by rw[<-hX]
 have xe:X'.env=Vt scope X.env (wM X.env scope.names []) (s2.heap.objs.size+1):=by rw[<-hX]
 have xL:X'.env.locals=s2.heap.objs.size+1:=by rw[xe];rfl
 have xfs:X'.fs=HH X.stack:=by rw[<-hX]
 have xex:X'.ex=fp:=by rw[<-hX]
 have xs:X'.s₀=s2:=by rw[<-hX]
 have xH:X'.H₀=H2:=by rw[<-hX]
 have xpn:X'.pn=[]:=by rw[<-hX]
 have xc:X'.calm=true:=by rw[<-hX];exact hc
 have xE:X'.xe=λ_ _=>False:=by rw[<-hX]
 have hg':PG X' tg g:=by rw[<-hX];exact hg _ _ _ _
 have ht':II X' ifs tt:=by rw[<-hX];exact ht _ _ _ _
 have he':PE X' elt te:=by rw[<-hX];exact he _ _ _ _
 have H2D:H2 s2.heap.objs.size=none:=I2.hok.fresh (zzN _);have Dfs:s2.heap.objs.size ∉ X'.fs:=by
  rw[xfs];intro hm
  rcases zzC.mp (I2.stkSub _ hm)with z|z
  . exact absurd I2.lt (by rw[<-z];exact Nat.lt_irrefl _)
  . exact I2.nofs (zzN _) z
 have DL:s2.heap.objs.size≠X'.env.locals:=by rw[xL];exact zzQ (Nat.lt_succ_self _)
 have pinD:∀{σ':St}{H':Hp}{s':Shared}{its:List Value}{ps:List (Addr×Obj)},Inv X' ps σ' H' s'->s'.heap.get? s2.heap.objs.size=some (lobj its)->H' s2.heap.objs.size=none->Inv X' [(s2.heap.objs.size,lobj its)] σ' H' s':=λI e n=>
  I.pins_of λp hp=>by
   cases zzR.mp hp;exact⟨e,n,DL,Dfs,λv z=>by cases z⟩
 have stat:∀{H':Hp}{its:List Value},(∀b ∈ fp,H' b=none)->∀b ∈ fp,Tf X' [(s2.heap.objs.size,lobj its)] H' b:=λhn b hb=>by
  refine⟨hn b hb, ?_, ?_,.inl (by rw[xex];exact hb),(I'.ok.exf b (by rw[xex];exact hb)).2,λp hp=>?_⟩
  . exact(I'.ok.exf b (by rw[xex];exact hb)).1
  . exact I'.ok.exfs b (by rw[xex];exact hb)
  . rw[xpn,List.nil_append]at hp;cases zzR.mp hp;exact Nat.ne_of_gt (flt b hb)
 have loop:∀(n:Nat) (s':Shared),(∃i ys its H3,Inv X' [(s2.heap.objs.size,lobj its)] (vI cap σ) H3 s'/\tn i s'.heap/\(∀b ∈ fp,H3 b=none)/\zO ys its/\W i n ys H3)->
  codeAny (model X.prog X.w) X.A (.compLoop (.ListComp elt [⟨tg,iter,ifs,0⟩] scope pos) 0 (.ref it) (.ref s2.heap.objs.size) (Vt scope X.env (wM X.env scope.names []) (s2.heap.objs.size+1)))
   (R (.ref s2.heap.objs.size) (s2.heap.objs.size+1)) s':=by
  intro n s' h0;refine Mj (λn s'=>∃i ys its H3,Inv X' [(s2.heap.objs.size,lobj its)] (vI cap σ) H3 s'/\tn i s'.heap/\(∀b ∈ fp,H3 b=none)/\zO ys its/\W i n ys H3) ?_ n h0;clear h0 n s'
  rintro n s3 E' ⟨i,ys,its,H3,I3,st3,fr3,rv3,w3⟩
  obtain⟨hz,hstep⟩:=turn i n ys H3 w3
  rcases hstep with⟨stop,qn⟩|⟨go,step⟩
  . have:=T.done X' xP xw xK xc i _ s3 _ H3 E' I3 (stat fr3) st3 stop;rw[xA]at this;refine zxN this (λr s4 ⟨hr,I4⟩=>?_) λ_ _ z=>z;subst hr;obtain⟨gD,nD,_⟩:=I4.pin (s2.heap.objs.size,lobj its) (by rw[xpn];simp);obtain⟨m,hn,_⟩:=I4.loc;rw[xL]at hn;have b4:=I4.base;rw[xfs,xex,xH,xs]at b4;have nL:H3 (s2.heap.objs.size+1)=none:=by have:=I4.free;rw[xL]at this;exact this
    have neD:∀b o,s2.heap.get? b=some o->b≠s2.heap.objs.size:=λb o e=>zzQ (zxI e);have neH:∀b u,H2 b=some u->b≠s2.heap.objs.size:=λb u e z=>by rw[z,H2D]at e;cases e
    have ne3:∀b u,H3 b=some u->b≠s2.heap.objs.size:=λb u e z=>by rw[z,nD]at e;cases e
    have hok4:=I4.hok;rw[xP,xw]at hok4;refine fin ys H3 s4 m (I2.call' (ch:=fp) ?_ ⟨b4.keep,b4.slot,λb o e n hx=>?_,b4.there,λb xs e=>?_,λb o u e=>?_,λb ps e=>?_⟩ ?_ I4.bare λb hb=>?_) hn (I2.fpOk (zyW _) (by rw[zF (Nat.ne_of_gt (Nat.lt_succ_self _))];exact nL)) (qn _ nD)
    . have:=I4.os;rw[xs]at this;exact this
    . rw[zF (neD b o e)];exact b4.free b o e n hx
    . rw[zF (neH b _ e)];exact b4.tups b xs e
    . rw[zF (neH b _ e)];exact b4.frzs b o u e
    . rw[zF (neH b _ e)];exact b4.tbls b ps e
    . intro b u e
      by_cases hb:b=s2.heap.objs.size
      . subst hb;rw[ya]at e;cases e;exact⟨hz,its,its.length,rv3,gD⟩
      . rw[zF hb]at e;exact(hok4 b u e).stay (λc v _ q=>q) (λc q=>by rw[zF (ne3 c _ q)];exact q) λc xs q=>by rw[zF (ne3 c _ q)];exact q
    . obtain⟨f0,f1,f3,f4,f5,f6⟩:=f2 b hb;exact⟨f4,f1,f5,f6⟩
  . have:=T.item X' xP xw xK xc i _ s3 _ H3 E' I3 (stat fr3) st3 go;rw[xA]at this;refine zxN this (λr s4 ⟨u,hr,h4⟩=>?_) λ_ _ z=>z;subst hr;refine zxN h4 (λ_ s5 ⟨x,H5,I5,r5,y5,st5,fr5⟩=>?_) λ_ _ z=>z;have I5':=I5.pinned (stat fr5) (T.obj _ _ st5);have h6:=hg' _ s5 _ H5 x u _ I5' r5 (step x H5 y5);rw[xP,xw,xA,xe,xE]at h6;refine zxN h6 (λ_ s6 ⟨σ6,H6,I6,cap6,q6⟩=>?_) λ_ _ z=>z.elim;have h7:=ht' _ s6 σ6 H6 _ I6 q6;rw[xP,xw,xA,xe,xE]at h7;refine zxN h7 (λb s7 ⟨H7,I7,q7⟩=>?_) λ_ _ z=>z.elim;have keep:∀{H8:Hp}{s8:Shared},Inv X' ([(s2.heap.objs.size,lobj its)]++Kr fp s5.heap) σ6 H8 s8->Inv X' [(s2.heap.objs.size,lobj its)] (vI cap σ) H8 s8/\tn (i+1) s8.heap/\∀b ∈ fp,H8 b=none:=λ{H8 s8} I8=>by
     refine⟨I8.unpinned.weak ?_ cap6,T.keep _ _ _ st5 λb hb o e=>(I8.pin (b,o) (zzL _ (zzL _ (Wu hb e)))).1,λb hb=>?_⟩
     . rw[I3.len];exact I8.len.symm
     . obtain⟨o,e,d⟩:=T.obj _ _ st5 b hb;exact(I8.pin (b,o) (zzL _ (zzL _ (Wu hb e)))).2.1
    cases b with
    |false=>
     obtain⟨m',hm,w7⟩:=q7;obtain⟨k1,k2,k3⟩:=keep I7;exact⟨m',hm,i+1,ys,its,H7,k1,k2,k3,rv3,w7⟩
    |true=>
     obtain⟨hz2,q7⟩:=q7;have h8:=he' _ s7 σ6 H7 _ I7 q7;rw[xP,xw,xA,xe,xE]at h8;show wpAny _ _ _ _ _ _;refine zxN h8 (λyv s8 ⟨y,H8,I8,ry,m',hm,w8⟩=>?_) λ_ _ z=>z.elim;obtain⟨k1,k2,k3⟩:=keep I8;obtain⟨gD,nD,_⟩:=k1.pin (s2.heap.objs.size,lobj its) (by rw[xpn];simp);have hl:=rv3.length;refine append_at gD (λh9 sb gD9=>?_) (by rw[zzH];omega);have I9:Inv X' [] (vI cap σ) H8 {s8 with heap:=h9}:=(k1.pins_of (pins':=[]) (λ_ z=>nomatch z)).turned (t':=s8.toks) (it:=s2.heap.objs.size) (λb o hb e=>(sb.2 b hb).trans e) nD DL (.inr (by rw[xs];exact zzN _)) (λx c ec z=>by
      obtain⟨v,o,ho,hd⟩:=k1.cell x c ec;rw[z,gD]at ho;cases ho;cases hd) (λp hp=>by rw[xpn]at hp;cases hp)
     have gD9':h9.get? s2.heap.objs.size=some (lobj (its++[yv])):=by
      rw[gD9]
      congr 1
      show({cls:=.type "list",data:=.seq (its.toArray.push yv) (its.length+1)}:Obj)={cls:=.type "list",data:=.seq (its++[yv]).toArray (its++[yv]).length};rw[zzJ,List.length_singleton,List.push_toArray]
     refine⟨m',hm,i+1,ys++[y],its++[yv],H8,pinD I9 gD9' nD,T.keep _ _ _ k2 λb hb o e=>(sb.2 b (zzQ (flt b hb))).trans e,k3,rv3.append (.cons ry .nil),w8⟩
 have start:∃i ys its H3,Inv X' [(s2.heap.objs.size,lobj its)] (vI cap σ) H3 {s2 with heap:=h'}/\tn i h'/\(∀b ∈ fp,H3 b=none)/\zO ys its/\W i m0 ys H3:=
  ⟨0,[],[],H2,pinD I' hD H2D,T.keep _ _ _ st2 λb hb o e=>old' b o e,λb hb=>(f2 b hb).1,.nil,w0⟩
 exact codeAny_compStart_list (loop m0 _ start) (T.self _ 0 _ _ _ (T.keep _ _ _ st2 λb hb o e=>old' b o e) (loop m0 _ start))
def A8(hc:X.calm=true)(hi:PI X tg iter wi)(hk:scope.kind = .function)(hcap:xq N X.N scope.names X.env.scope.names cap=true)
 (hg:∀cl s H fp,PG (wB X N scope cl s H fp) tg g) (ht:∀cl s H fp,II (wB X N scope cl s H fp) ifs tt) (he:∀cl s H fp,PE (wB X N scope cl s H fp) elt te)
 (hs:∀x,foldedSetIterable iter X.env x=pure x):PE X (.ListComp elt [⟨tg,iter,ifs,0⟩] scope pos) (Oo wi cap g tt te):=by
 intro a s σ H Q I h;have C:=EB hcap;rw[eval_ListComp];refine wpAny_comprehension_free (use:=none) rfl hs (QK λx m e=>I.ok.has x.1 (C.fr x m e)) hk (λy m e=>Px C.nd (by rw[<-e];exact m)) ?_;refine wF (hi a s σ H _ I h) λv O i=>wF i λj k l=>?_;obtain⟨P,S,U,J,V,e,n,T,d,f2,W,⟨p,t⟩,c⟩:=l;subst e;refine Gj (R:=λf C r u=>compPost (model X.prog X.w) X.A X.xe none (EP X a σ Q) f C r u) hc C hk hg ht he n T d f2 W p t c λY Z z m B D fl q=>?_;refine⟨m,D,λh' E=>?_⟩;obtain⟨F,f1,f3,G,K,L⟩:=fl;exact⟨.ref k.heap.objs.size,_,B.turned (t':=z.toks) (λb o M e=>(E.2 b M).trans e) F f1 G K L,rfl,q⟩
def IS(hN:X.N.Nodup)(hiy:X.N[i]? = some y)(hy:Loc X.env.scope y)(hf:X.fn y=true\/X.env.scope.names.lookup y=some .local)
 (hsw:swapsWith (.ListComp elt [⟨tg,iter,ifs,0⟩] scope pos) (some (.Name y py)) spos.line X.env=pure true)
 (hc:X.calm=true) (hi:PI X tg iter wi) (hk:scope.kind = .function) (hcap:xq N X.N scope.names X.env.scope.names cap=true)
 (hg:∀cl s H fp,PG (wB X N scope cl s H fp) tg g) (ht:∀cl s H fp,II (wB X N scope cl s H fp) ifs tt) (he:∀cl s H fp,PE (wB X N scope cl s H fp) elt te)
 (hs:∀x,foldedSetIterable iter X.env x=pure x):PS X (.Assign [.Name y py] (.ListComp elt [⟨tg,iter,ifs,0⟩] scope pos) spos) (rA (Oo wi cap g tt te) (Ef i)):=by
 intro c s σ H D I h;have C:=EB hcap;rw[exec_Assign_Name_used _ _ _ _ hsw];refine zxF (wpAny_standAt (zxF ?_));show wpAny _ X.A (do let _ <-comprehension (.ListComp elt [⟨tg,iter,ifs,0⟩] scope pos) scope X.env _ (newList []) false (eval iter X.env) (some (assign (.Name y py) X.env))) _ _ s;refine zxF (zxN (wpAny_comprehension_free (use:=some (assign (.Name y py) X.env)) (Q:=λ_ d=>SP X c D .next d) rfl hs (QK λx m e=>I.ok.has x.1 (C.fr x m e)) hk (λy m e=>Px C.nd (by rw[<-e];exact m)) ?_) (λ_ d t=>zxG (zxG t)) λ_ _ e=>e);refine wF (hi c s σ H _ I h) λv s1 u=>wF u λB E F=>?_;obtain⟨it,fp,tn,J,H2,e,G,T,k,f2,W,⟨K,L⟩,f⟩:=F;subst e;refine Gj (Q:=λx M=>Ef i x σ M D.nx) (R:=λl C r d=>compPost (model X.prog X.w) X.A X.xe (some (assign (.Name y py) X.env)) (λ_ d=>SP X c D .next d) l C r d) hc C hk hg ht he G T k f2 W K L f λys H3 s3 m O P fl q=>?_;obtain⟨S,f1,f3,U,p,V⟩:=fl;refine wpAny_assign_Name (LK O hN hiy hy (v:=.ref E.heap.objs.size) rfl (λY Z ⟨a,sb,j⟩=>?_) hf);refine⟨m,P.sameBut sb (λz=>?_),λh' n=>?_⟩
 . rcases j with j|j
   . exact f1 (z.trans j)
   . exact p y a j z.symm
 . exact⟨_,_,Z.turned (t':=Y.toks) (λb o hb e=>(n.2 b hb).trans e) S f1 U p V,q⟩
end
structure ItC(K:zzA)(kd:KD)(F:Addr->Prop)(H:Hp)(J:It)(ds:List xb):Prop where
 all:∀(H2:Hp) (T:Addr->Prop),(∀b u,H b=some u->H2 b=some u)->(∀a,T a->H a=none/\H2 a≠none)->∀i,(i<ds.length->J.go i H2)/\(ds.length<=i->J.stop i H2)/\
  ∀v H3,J.yld i H2 v H3->(∀b o,H2 b=some o->H3 b=some o)/\∀x,ds[i]? = some x->Rp K kd (λa=>x.1=true/\(F a\/T a)) H3 v x.2
def ko(K:zzA)(kd:KD)(f:IF):TI:=λσ H R=>∃F B ad as ds as',Rel K kd F B [] ad as σ H/\f as=some (ds,as')/\
 ∀J ad' H',Rel K kd F B [] ad' as' σ H'->Grow (Gw [] ad) H (Gw [] ad') H'->ItC K kd (Lv F B (Gw [] ad') true) H' J ds->R J H'
@[irreducible] def rH(X:Cx)(kd:KD)(tg iter:Expr)(f:IF):Prop:=PI X tg iter (ko X.K kd f)
def Xh(os:List O):List xb:=os.map λo=>match o with | .lf st d=>(st,d)|o=>(false,o.toD)
noncomputable def lF(as:AS):RV->Option (List xb)
 | .ow o=>P8 (o.str,o.toD)
 | .bo i=>match as[i]? with
  |some (some (.nd .ls os))=>some (Xh os)
  |some (some (.nd .tp os))=>some (Xh os)
  |_=>none
noncomputable def wW(f:EF):IF:=λas=>(f as).bind λp=>(lF p.2 p.1).bind λds=>some (ds,p.2)
section
variable{K:zzA}{kd:KD}{F B:Addr->Prop}{G:Addr->Prop}{T:List Addr}{ad:Ad}{as:AS}{σ:St}{H H':Hp}
inductive RpC(K:zzA)(kd:KD)(F:Addr->Prop)(H:Hp):List V->List xb->Prop
 |nil:RpC K kd F H [] []
 |cons {v:V}{x:xb}{vs:List V}{ds:List xb}:Rp K kd (λa=>x.1=true/\F a) H v x.2->RpC K kd F H vs ds->RpC K kd F H (v::vs) (x::ds)
theorem RpC.length{vs:List V}{ds:List xb}(h:RpC K kd F H vs ds):vs.length=ds.length:=by
 induction h with
 |nil=>rfl
 |cons _ _ ih=>exact congrArg (· + 1) ih
def RpC.get{vs:List V}{ds:List xb}{i:Nat}{x:xb}(h:RpC K kd F H vs ds)(e:ds[i]? = some x):∃v,vs[i]? = some v/\Rp K kd (λa=>x.1=true/\F a) H v x.2:=by
 induction h generalizing i with
 |nil=>simp at e
 |cons h r ih=>
  cases i with
  |zero=>simp at e;subst e;exact⟨_,rfl,h⟩
  |succ i=>
   obtain⟨v,h1,h2⟩:=ih (i:=i) (by simpa using e);exact⟨v,by simpa using h1,h2⟩
def Rp.since{Ob:Addr->Prop}{v:V}{d:D}{T:Addr->Prop}(k:∀b u,H b=some u->H' b=some u)(hT:∀a,T a->H a=none)(h:Rp K kd Ob H v d):Rp K kd (W_ Ob T) H' v d:=
 Rp.grow (F:=Ob) (W:=λ_=>False) (W':=T) (H':=H') ⟨λb u q _=>k b u q,λb z=>.inr (hT b z)⟩ (h.less λa z=>z.elim id False.elim)
def Ku{st:Bool}{vs:List V}{ds:List D}(h:RpL K kd (Lv F B G st) H vs ds):RpC K kd (Lv F B G true) H vs (kids st ds):=
 RpL.ind (P:=λvs ds=>RpC K kd (Lv F B G true) H vs (kids st ds)) .nil (λ{v d vs ds} h _ ih=>by
  refine .cons (x:=(zv d||st,d)) ?_ ih;cases e:zv d with
  |true=>exact h.flat e
  |false=>
   refine h.less λa z=>?_;have zs:st=true:=z.1;rw[zs];exact z.2) h
def DJ{vs:List V}{os:List O}{fp:List Addr}(h:vB K kd F B G H vs os fp):RpC K kd (Lv F B G true) H vs (Xh os):=
 RoL.ind (P:=λvs os _=>RpC K kd (Lv F B G true) H vs (Xh os)) .nil (λ{v o vs os fp fq} h _ ih=>by
  have ha:=G3 h;refine .cons ?_ ih;cases h with
  |lf rp=>exact rp.less λa z=>(by have zs:=z.1;dsimp only at zs;rw[zs];exact z.2)
  |ls=>exact ha.less λa z=>nomatch z.1
  |dc=>exact ha.less λa z=>nomatch z.1
  |ob=>exact ha.less λa z=>nomatch z.1
  |tp=>exact ha.less λa z=>nomatch z.1) h
def Gs{a:Addr}{vs:List V}{ds:List xb}(h:W0 K H a vs)(r:RpC K kd F H vs ds):ItC K kd F H (nj K a) ds:=⟨λH3 T k hT i=>by
 have hr3:W0 K H3 a vs:=by
  rcases h with(h|⟨o,h⟩)|h
  . exact .inl (.inl (k _ _ h))
  . exact .inl (.inr ⟨o,k _ _ h⟩)
  . exact .inr h
 refine⟨λhi=>?_,λhi=>⟨_,hr3,by rw[r.length];exact hi⟩,λv H4 hy=>?_⟩
 . obtain⟨u,hu,_⟩:=r.get (zzE hi);exact⟨_,u,hr3,hu⟩
 . obtain⟨rfl,hv⟩:=hy;refine⟨λ_ _ z=>z,λd hd=>?_⟩;obtain⟨u,hu,ru⟩:=r.get hd;have:=hv _ hr3;rw[hu]at this;cases this;exact(ru.since k λa z=>(hT a z).1).less λa z=>z.2.elim (λy=>.inl ⟨z.1,y⟩) .inr⟩
def Sf{a:Addr}{vs:List V}{ds:List xb}(h:Q3 K H a vs)(r:RpC K kd F H vs ds):ItC K kd F H (nN K a) ds:=⟨λH3 T k hT i=>by
 have hr3:Q3 K H3 a vs:=by
  rcases h with(h|⟨o,h⟩)|h
  . exact .inl (.inl (k _ _ h))
  . exact .inl (.inr ⟨o,k _ _ h⟩)
  . exact .inr h
 refine⟨λhi=>?_,λhi=>⟨_,hr3,by rw[r.length];exact hi⟩,λv H4 hy=>?_⟩
 . obtain⟨u,hu,_⟩:=r.get (zzE hi);exact⟨_,u,hr3,hu⟩
 . obtain⟨rfl,hv⟩:=hy;refine⟨λ_ _ z=>z,λd hd=>?_⟩;obtain⟨u,hu,ru⟩:=r.get hd;have:=hv _ hr3;rw[hu]at this;cases this;exact(ru.since k λa z=>(hT a z).1).less λa z=>z.2.elim (λy=>.inl ⟨z.1,y⟩) .inr⟩
def J9(lo:Int)(n:Nat):ItC K kd F H (rG lo n) (y2 lo n):=⟨λH2 T k hT i=>by
 have hl:(y2 lo n).length=n:=by unfold y2;simp
 refine⟨λhi=>by rw[hl]at hi;exact hi,λhi=>by rw[hl]at hi;exact hi,λv H3 hy=>?_⟩;obtain⟨rfl,rfl⟩:=hy;refine⟨λ_ _ z=>z,λd hd=>?_⟩;have hi:i<n:=by rw[<-hl];exact(zzG.mp hd).1
 unfold y2 at hd;rw[zzI,List.getElem?_range hi]at hd;cases hd;exact .int _⟩
end
def xO{X:Cx}{kd:KD}{tg e:Expr}{fa:EF}(he:AE X kd e fa):rH X kd tg e (wW fa):=by
 with_unfolding_all (
 intro pins s σ H R I h;obtain⟨F,B,ad,as,ds,as',Rl,e,q⟩:=h;obtain⟨⟨p,as1⟩,h1,e⟩:=bS_ (show(fa as).bind _=_ from e);obtain⟨ys,h2,e⟩:=bS_ e;cases e;cases p with
 |ow o=>
  have h2:P8 (o.str,o.toD)=some ds:=h2;generalize hd:o.toD=d at h2;cases d with
  |lst xs=>
   cases h2;refine ME he pins s σ H R I ⟨F,B,ad,as,_,as1,Rl,h1,λv T1 ad1 H1 R1 rv1 g1=>?_⟩;have rp:=Fy R1 rv1;rw[hd]at rp;cases rp with
   |lst hn hr rl=>exact⟨_,rfl,⟨_,.inl hr⟩,q _ ad1 H1 R1.drop (g1.trans (Grow.less Gw.drop)) (Gs (.inl hr) (Ku rl))⟩
   |lstK a b c rl=>exact⟨_,rfl,⟨_,.inr ⟨_,_,_,a,rfl,rfl,rfl,b,c⟩⟩,q _ ad1 H1 R1.drop (g1.trans (Grow.less Gw.drop)) (Gs (.inr ⟨_,_,_,a,rfl,rfl,rfl,b,c⟩) (Ku rl))⟩
  |tup xs=>
   cases h2;refine FG he pins s σ H R I ⟨F,B,ad,as,_,as1,Rl,h1,λv T1 ad1 H1 R1 rv1 g1=>?_⟩;have rp:=Fy R1 rv1;rw[hd]at rp;have go:∃a ys,v = .ref a/\Q3 X.K H1 a ys/\RpL X.K kd (Lv F B (Gw [] ad1) o.str) H1 ys xs:=by
    cases rp with
    |tup n h r=>exact⟨_,_,rfl,.inl h,r⟩
    |tupK a b c e f r=>exact⟨_,_,rfl,.inr ⟨_,_,_,a,b,c,e,f⟩,r⟩
   obtain⟨a,ys,rfl,hs,rl⟩:=go;exact⟨_,rfl,⟨_,hs⟩,q _ ad1 H1 R1.drop (g1.trans (Grow.less Gw.drop)) (Sf hs (Ku rl))⟩
  |_=>cases h2
 |bo i=>
  have h2:(match as1[i]? with|some (some (.nd .ls os))=>some (Xh os)|some (some (.nd .tp os))=>some (Xh os)|_=>none)=some ds:=h2;cases k:as1[i]? with
  |none=>rw[k]at h2;cases h2
  |some s0=>
   rw[k]at h2
   match s0,h2,k with
   |some (.nd .ls os),h2,k=>
    cases h2;refine ME he pins s σ H R I ⟨F,B,ad,as,_,as1,Rl,h1,λv T1 ad1 H1 R1 rv1 g1=>?_⟩;obtain⟨rfl,hs⟩:=rv1;obtain⟨w,hw,ro⟩:=R1.sl i _ k;rw[hs]at hw;cases hw;generalize hfp:ad1 i=fp at ro;cases ro with
    |ls hH rl=>exact⟨_,rfl,⟨_,.inl (.inl hH)⟩,q _ ad1 H1 R1 g1 (Gs (.inl (.inl hH)) (DJ rl))⟩
   |some (.nd .tp os),h2,k=>
    cases h2;refine FG he pins s σ H R I ⟨F,B,ad,as,_,as1,Rl,h1,λv T1 ad1 H1 R1 rv1 g1=>?_⟩;obtain⟨rfl,hs⟩:=rv1;obtain⟨w,hw,ro⟩:=R1.sl i _ k;rw[hs]at hw;cases hw;generalize hfp:ad1 i=fp at ro;cases ro with
    |tp n hH rl=>exact⟨_,rfl,⟨_,.inl (.inl hH)⟩,q _ ad1 H1 R1 g1 (Sf (.inl (.inl hH)) (DJ rl))⟩)
def YD{X:Cx}{kd:KD}{tg a:Expr}{pos:Pos}{fr:AF}{p:Pos}(hg:Gl X "range")(hm:X.mg "range"=none)(ha:AA X kd [a] fr)(hs:starEach [a] X.env=[(false,eval a X.env)]):rH X kd tg (.Call (.Name "range" p) [a] [] pos) (yM fr y_):=by
 with_unfolding_all (
 intro pins s σ H R I h;obtain⟨F,B,ad,as,ds,as',Rl,e,q⟩:=h;obtain⟨⟨ps,as1⟩,h1,e⟩:=bS_ (show(fr as).bind _=_ from e);obtain⟨⟨xs,lv⟩,h2,e⟩:=bS_ e;obtain⟨ys,h3,e⟩:=bS_ e;cases e;obtain⟨j,rfl,h3⟩:=By h3
 . obtain⟨hj,e3⟩:=zt h3;cases e3;refine Ly hg hm ha hs pins s σ H R I ⟨F,B,ad,as,ps,_,Rl,h1,λvs ad1 H1 R1 rv1 g1=>?_⟩;have vl:=Qa R1 rv1 h2;cases vl with
   |cons v1 v2=>
    cases v2;cases v1;exact⟨j,rfl,hj.1,hj.2,q _ ad1 H1 R1 g1 (J9 0 _)⟩)
noncomputable def lK(as:AS):Option Nat->Option O
 |none=>none
 |some j=>match as[j]? with
  |some (some (.lf st d))=>some (.lf st d)
  |some (some o)=>some (.lf false o.toD)
  |_=>none
def vL(cap:List (Option Nat))(as:AS):AS:=cap.map (lK as)
noncomputable def xf(g:GF)(tt:TF)(fe:EF)(as0:AS):List xb->Option (List O)
 | []=>some []
 |x::r=>(g x as0).bind λas1=>(tt as1).bind λb=>if b.1=true then(fe b.2).bind λp=>(AB p.2 p.1).bind λq=>if q.1.str=true then(xf g tt fe as0 r).bind λos=>some (q.1::os)else none
  else xf g tt fe as0 r
noncomputable def yf(fi:IF)(cap:List (Option Nat))(g:GF)(tt:TF)(fe:EF):EF:=λas=>(fi as).bind λp=>if p.1.length<=sizeLine then(xf g tt fe (vL cap p.2) p.1).bind λos=>some (.ow (.nd .ls os),p.2)else none
def yZ:TF:=λas=>some (true,as)
section
variable{K:zzA}{kd:KD}{F B:Addr->Prop}{T:List Addr}{ad:Ad}{as:AS}{σ:St}{H H':Hp}{cap:List (Option Nat)}
def Aa(R:Rel K kd F B [] ad as σ H)(k:∀b u,H b=some u->H' b=some u)(hT:∀a ∈ T,H a=none)(hT':∀a ∈ T,H' a≠none):
 Rel K kd (W_ (Lv F B (Gw [] ad) true) (· ∈ T)) (λ_=>False) [] (λ_=>[]) (vL cap as) (vI cap σ) H':=by
 have no:∀a,¬Gw [] (λ_=>[]) a:=λa z=>z.elim (λy=>nomatch y) λ⟨_,y⟩=>nomatch y;have kn:∀a,H a≠none->H' a≠none:=λa z=>by
  cases e:H a with
  |none=>exact absurd e z
  |some u=>rw[k a u e];simp
 have up:∀{st:Bool}{v:V}{d:D},Rp K kd (λa=>st=true/\Lv F B (Gw [] ad) true a) H v d->Rp K kd (Lv (W_ (Lv F B (Gw [] ad) true) (· ∈ T)) (λ_=>False) (Gw [] λ_=>[]) st) H' v d:=λ{st v d} h=>by
  have:=Rp.grow (F:=λa=>st=true/\Lv F B (Gw [] ad) true a) (W:=λ_=>False) (W':=(· ∈ T)) (H':=H') ⟨λb u q _=>k b u q,λb z=>.inr (hT b z)⟩ (h.less λa z=>z.elim id False.elim);refine this.less λa z=>?_
  rcases z with(⟨z1,z2⟩|z)|z
  . rcases z2 with z2|z2
    . exact .inl ⟨z1,z2⟩
    . exact .inr z2
  . exact z.elim
  . exact(no a z).elim
 refine⟨by unfold vL vI;rw[zzB,zzB],λ_ _=>rfl,λ_=>zyJ,(λ_ _ _ z=>nomatch z),zyJ,(λ_ _ _ z=>nomatch z),λa z=>z.elim (λy=>kn a (R.trk true a y)) (hT' a),(λ_ z=>z.elim),λa z=>(no a z).elim,λi s e=>?_⟩;unfold vL at e;rw[zzI]at e;obtain⟨c,hc,rfl⟩:=zzX.mp e;have es:(vI cap σ)[i]? = some (rO σ c):=by
  unfold vI;rw[zzI,hc];rfl
 rw[es];cases c with
 |none=>rfl
 |some j=>
  show Kk _ _ _ _ _ _ (match as[j]? with|some (some (.lf st d))=>some (.lf st d)|some (some o)=>some (.lf false o.toD)|_=>none) _ _;cases k2:as[j]? with
  |none=>rfl
  |some s0=>
   cases s0 with
   |none=>rfl
   |some o=>
    obtain⟨v,hv,ro⟩:=R.sl j _ k2;cases o with
    |lf st d=>
     have e0:ad j=[]:=by
            generalize hfp:ad j=fp at ro;cases ro;rfl
     rw[e0]at ro;refine⟨v,by show some ((σ[j]?).getD none)=_;rw[hv];rfl,.lf (up ?_)⟩;exact(KQ ro).less λa z=>by have zs:st=true:=z.1;show Lv F B (Gw [] ad) st a;rw[zs];exact z.2
    |nd kk os=>exact⟨v,by show some ((σ[j]?).getD none)=_;rw[hv];rfl,.lf (up ((G3 ro).less λa z=>nomatch z.1))⟩
def CZ{S:List Nat}{fi:IF}{g:GF}{tt:TF}{fe:EF}{Q:VK}(hS:∀i ∈ S,cap[i]? = some none)(h:al K kd (yf fi cap g tt fe) σ H Q):
 Oo (ko K kd fi) cap (nC K kd S g) (tm K kd tt) (al K kd fe) σ H Q:=by
 obtain⟨F,B,ad,as,r,as',R,e,q⟩:=h;obtain⟨⟨ds,as1⟩,h1,e⟩:=bS_ (show(fi as).bind _=_ from e)
 by_cases hz:ds.length<=sizeLine
 . have e:(if ds.length<=sizeLine then(xf g tt fe (vL cap as1) ds).bind λos=>some (RV.ow (.nd .ls os),as1)else none)=some (r,as'):=e;rw[if_pos hz]at e;obtain⟨os,h2,e⟩:=bS_ e;cases e;refine⟨F,B,ad,as,ds,as',R,h1,λJ ad1 H1 R1 g1 it=>?_⟩;refine⟨λi m ys H3=>m+i=ds.length/\∃T os1 os2,os=os1++os2/\xf g tt fe (vL cap as') (ds.drop i)=some os2/\os1.length<=i/\T.Nodup/\(∀a ∈ T,H1 a=none/\H3 a≠none)/\(∀b u,H1 b=some u->H3 b=some u)/\
    RoL (λ_ v d=>Rp K kd (W_ (Lv F B (Gw [] ad1) true) (· ∈ T)) H3 v d) (λa=>¬W_ (Lv F B (Gw [] ad1) true) (· ∈ T) a) H3 ys os1 T,⟨ds.length,rfl,[],[],os,rfl,h2,zzN _,zyJ,(λ_ m=>nomatch m),(λ_ _ z=>z),.nil⟩, ?_⟩
   rintro i m ys H3 ⟨hm,T,os1,os2,eo,ec,hl,tnd,tf,k3,rl⟩
   obtain⟨i1,i2,i3⟩:=it.all H3 (· ∈ T) k3 tf i;have yl:=rl.length;refine⟨by omega, ?_⟩
   by_cases hi:i<ds.length
   . refine .inr ⟨i1 hi,λv H4 hy=>?_⟩;obtain⟨k4,rp⟩:=i3 v H4 hy;rw[zyQ hi]at ec;obtain⟨as2,e2,ec⟩:=bS_ (show(g _ _).bind _=_ from ec);obtain⟨⟨b,as3⟩,e3,ec⟩:=bS_ ec;have k14:∀b u,H1 b=some u->H4 b=some u:=λb u h=>k4 b u (k3 b u h);have kn4:∀a,H3 a≠none->H4 a≠none:=λa z=>by
      cases e:H3 a with
      |none=>exact absurd e z
      |some u=>rw[k4 a u e];simp
     have R4:=Aa (cap:=cap) (T:=T) R1 k14 (λa z=>(tf a z).1) (λa z=>kn4 a (tf a z).2);have no:∀a,¬Gw [] (λ_=>[]) a:=λa z=>z.elim (λy=>nomatch y) λ⟨_,y⟩=>nomatch y;refine⟨_,_,_,_,ds[i],as2,R4,(rp _ (zzE hi)).less λa z=>?_,e2,λσ5 ad5 H5 R5 g5 keep5=>⟨λj w hw=>?_,_,_,ad5,as2,b,as3,R5,e3,λad6 H6 R6 g6=>?_⟩⟩
     . rcases z with(z|z)|z
       . exact z
       . exact z.elim
       . exact(no a z).elim
     . rw[keep5 j λz=>?_]
       . exact hw
       . have:=hS j z;unfold vI at hw;rw[zzI,this]at hw;cases hw
     . -- what stood is kept
       have g46:=g5.trans g6;have k46:∀b u,H4 b=some u->H6 b=some u:=λb u h=>g46.keep b u h (no b);have k36:∀b u,H3 b=some u->H6 b=some u:=λb u h=>k46 b u (k4 b u h);have kn6:∀a,H3 a≠none->H6 a≠none:=λa z=>by
        cases e:H3 a with
        |none=>exact absurd e z
        |some u=>rw[k36 a u e];simp
       have up:∀{H7:Hp}{T2:List Addr},(∀b u,H3 b=some u->H7 b=some u)->(∀a ∈ T2,H3 a=none)->RoL (λ_ v d=>Rp K kd (W_ (Lv F B (Gw [] ad1) true) (· ∈ T++T2)) H7 v d) (λa=>¬W_ (Lv F B (Gw [] ad1) true) (· ∈ T++T2) a) H7 ys os1 T:=λ{H7 T2} k7 f7=>
        RoL.mono (λst v d r=>(r.since k7 f7).less λa z=>z.elim (λy=>.inl (.inl y)) λy=>(zzM.mp y).elim (λx=>.inl (.inr x)) .inr)
         (λa vs n e=>⟨λz=>z.elim (λy=>n (.inl y)) λy=>(zzM.mp y).elim (λx=>n (.inr x)) λx=>(by have:=f7 a x;rw[this]at e;cases e),k7 _ _ e⟩) (λa _ u h=>k7 a u h) rl
       cases b with
       |false=>
        have:=up (T2:=[]) k36 (λ_ m=>nomatch m);rw[zyE]at this;exact⟨m-1,by omega,by omega,T,os1,os2,eo,ec,Nat.le_succ_of_le hl,tnd,λa z=>⟨(tf a z).1,kn6 a (tf a z).2⟩,λb u h=>k36 b u (k3 b u h),this⟩
       |true=>
        rw[if_pos rfl]at ec;obtain⟨⟨p,as7⟩,e7,ec⟩:=bS_ ec;obtain⟨⟨o,as8⟩,e8,ec⟩:=bS_ ec
        by_cases hs:o.str=true
        . have ec:(if o.str=true then(xf g tt fe (vL cap as') (ds.drop (i+1))).bind λos=>some (o::os)else none)=some os2:=ec;rw[if_pos hs]at ec;obtain⟨os3,e9,ec⟩:=bS_ ec;cases ec;refine⟨by omega,_,_,ad6,as3,p,as7,R6,e7,λy T2 ad7 H7 R7 rv7 g7=>?_⟩;obtain⟨ad8,R8,ro8,le8⟩:=Gu R7 rv7 e8;have g47:=g46.trans g7;have k47:∀b u,H4 b=some u->H7 b=some u:=λb u h=>g47.keep b u h (no b);have k37:∀b u,H3 b=some u->H7 b=some u:=λb u h=>k47 b u (k4 b u h);have f42:∀a ∈ T2,H4 a=none:=λa z=>(g47.own a (.inl z)).resolve_left (no a);have f32:∀a ∈ T2,H3 a=none:=λa z=>by
             cases e:H3 a with
             |none=>rfl
             |some u=>have:=k4 a u e;rw[f42 a z]at this;cases this
          have rt:=N5 R8 R8.tnd (λa z=>.inl z) ro8 hs;have ro9:Ro (λ_ v d=>Rp K kd (W_ (Lv F B (Gw [] ad1) true) (· ∈ T++T2)) H7 v d) (λa=>¬W_ (Lv F B (Gw [] ad1) true) (· ∈ T++T2) a) H7 y o T2:=
             Ro.mono (λst v d r=>r.less λa z=>z.elim (λy=>.inl (.inl y)) λy=>(zzM.mp y).elim (λx=>.inl (.inr x)) .inr)
              (λa vs n e=>⟨λz=>n (z.elim (λy=>.inl (.inl y)) λy=>(zzM.mp y).elim (λx=>.inl (.inr x)) .inr),e⟩) (λ_ _ _ h=>h) rt.ro
          refine⟨m-1,by omega,by omega,T++T2,os1++[o],os3,by rw[eo,zxC];rfl,e9,by rw[zzJ,List.length_singleton];omega,zxE.mpr ⟨tnd,rt.nd,λa z b z' e=>?_⟩,λa z=>?_,λb u h=>k37 b u (k3 b u h),(up k37 f32).append (RoL.one ro9)⟩
          . subst e;exact(tf a z).2 (f32 a z')
          . rcases zzM.mp z with z|z
            . refine⟨(tf a z).1, ?_⟩;cases e:H3 a with
              |none=>exact absurd e (tf a z).2
              |some u=>rw[k37 a u e];simp
            . refine⟨?_,rt.tr a z⟩;cases e:H1 a with
              |none=>rfl
              |some u=>have:=k3 a u e;rw[f32 a z]at this;cases this
        . have ec:(if o.str=true then(xf g tt fe (vL cap as') (ds.drop (i+1))).bind λos=>some (o::os)else none)=some os2:=ec;rw[if_neg hs]at ec;cases ec
   . refine .inl ⟨i2 (by omega),λp hp=>?_⟩;rw[List.drop_eq_nil_of_le (by omega)]at ec;cases ec;rw[zyE]at eo;subst eo;have pT:p ∉ T:=λz=>(tf p z).2 hp;have H1p:H1 p=none:=by
      cases e:H1 p with
      |none=>rfl
      |some u=>have:=k3 p u e;rw[hp]at this;cases this
     have kp:∀b u,H3 b=some u->upd H3 p (.lst ys) b=some u:=λb u h=>by rw[zF (zY h hp)];exact h
     obtain⟨R9,g9⟩:=R1.news (T':=p::T) (H':=upd H3 p (.lst ys)) (zzW.mpr ⟨pT,tnd⟩) (λa z=>(zzC.mp z).elim (λe=>by rw[e];exact H1p) λz=>(tf a z).1) (λb u h=>kp b u (k3 b u h)) (λa z=>by
      rcases zzC.mp z with e|z
      . rw[e,ya];simp
      . cases e:H3 a with
        |none=>exact absurd e (tf a z).2
        |some u=>rw[kp a u e];simp)
     refine q _ (p::T) ad1 _ R9 (.ls ya ?_) (g1.trans g9);have le:∀st a,Lv F B (Gw (p::T) ad1) st a->W_ (W_ (Lv F B (Gw [] ad1) true) (· ∈ T)) (· = p) a:=λst a z=>by
      rcases z with(z|z)|z|z
      . exact .inl (.inl (.inl (.inl ⟨rfl,z.2⟩)))
      . exact .inl (.inl (.inl (.inr z)))
      . exact(zzC.mp z).elim .inr λy=>.inl (.inr y)
      . exact .inl (.inl (.inr (.inr z)))
     exact RoL.mono (λst v d r=>(r.since kp (T:=(· = p)) λa z=>by rw[z];exact hp).less (le st)) (λa vs n e=>⟨λz=>(le true a z).elim n λy=>(by rw[y,hp]at e;cases e),kp _ _ e⟩) (λa _ u h=>kp a u h) rl
 . have e:(if ds.length<=sizeLine then(xf g tt fe (vL cap as1) ds).bind λos=>some (RV.ow (.nd .ls os),as1)else none)=some (r,as'):=e;rw[if_neg hz]at e;cases e
end
section
variable{X:Cx}{kd:KD}{elt tg iter e a b c:Expr}{es ifs:List Expr}{scope:Scope}{pos:Pos}{N:List Str}{cap:List (Option Nat)}{g:GF}{tt:TF}{fe fa fb:EF}{fi:IF}{S:List Nat}{fr:AF}{fd:DF}
def yr:II X [] (tm X.K kd yZ):=λa s σ H Q I h=>by
 obtain⟨F,B,c,as,b,d,R,e,q⟩:=h;cases e;exact A9 a s σ H Q I (q c H R Grow.refl)
def T6(h:AT X kd c tt):II X [c] (tm X.K kd tt):=by with_unfolding_all exact(JE h)
def yt(hc:X.calm=true)(hi:rH X kd tg iter fi)(hk:scope.kind = .function)(hcap:xq N X.N scope.names X.env.scope.names cap=true)(hS:S.all (λi=>cap[i]? == some none)=true)
 (hg:∀cl s H fp,AG (wB X N scope cl s H fp) kd tg S g) (ht:∀cl s H fp,II (wB X N scope cl s H fp) ifs (tm X.K kd tt)) (he:∀cl s H fp,AE (wB X N scope cl s H fp) kd elt fe)
 (hs:∀x,foldedSetIterable iter X.env x=pure x):AE X kd (.ListComp elt [⟨tg,iter,ifs,0⟩] scope pos) (yf fi cap g tt fe):=by with_unfolding_all exact(yu (A8 (g:=nC X.K kd S g) (te:=al X.K kd fe) hc hi hk hcap hg ht he hs) λσ H Q h=>CZ (λi m=>by simpa using List.all_eq_true.mp hS i m) h)
def U4(hN:X.N.Nodup)(hiy:X.N[i]? = some y)(hy:Loc X.env.scope y)(hf:X.fn y=true\/X.env.scope.names.lookup y=some .local)
 (hsw:swapsWith (.ListComp elt [⟨tg,iter,ifs,0⟩] scope pos) (some (.Name y py)) spos.line X.env=pure true)
 (hc:X.calm=true) (hi:rH X kd tg iter fi) (hk:scope.kind = .function) (hcap:xq N X.N scope.names X.env.scope.names cap=true) (hS:S.all (λi=>cap[i]? == some none)=true)
 (hg:∀cl s H fp,AG (wB X N scope cl s H fp) kd tg S g) (ht:∀cl s H fp,II (wB X N scope cl s H fp) ifs (tm X.K kd tt)) (he:∀cl s H fp,AE (wB X N scope cl s H fp) kd elt fe)
 (hs:∀x,foldedSetIterable iter X.env x=pure x):HC X kd (.Assign [.Name y py] (.ListComp elt [⟨tg,iter,ifs,0⟩] scope pos) spos) (zy z i (yf fi cap g tt fe)):=by with_unfolding_all exact(wq (IS (g:=nC X.K kd S g) (te:=al X.K kd fe) hN hiy hy hf hsw hc hi hk hcap hg ht he hs) λD σ H h=>by
 obtain⟨F,B,c,as,o,R,e,q⟩:=h;obtain⟨⟨p,a⟩,d,e⟩:=bS_ (show(yf fi cap g tt fe as).bind _=_ from e);obtain⟨⟨y,f⟩,j,e⟩:=bS_ e;obtain⟨k,e⟩:=zt e;cases e;refine CZ (Q:=λx l=>Ef i x σ l D.nx) (λi m=>by simpa using List.all_eq_true.mp hS i m) ⟨F,B,c,as,p,a,R,d,λv A n r t u g=>?_⟩;obtain⟨b,R2,w⟩:=Fw t u j k;exact q _ b r R2 (g.trans (Grow.less w)))
def AJ(F:FnOk X.prog X.w X.K X.mg X.base xC k f fdt ps (Zm X.K kd gg))(hr:Room k X.A)(hg:Gl X x)(hm:X.mg x=some (.ref f))(hk:PySem.W.keepIn X.K (.ref f)=true)
 (hb:Binds X.K fdt ps []) (hx:Zd xC X (λ_ _ _=>False)) (ha:AA X kd (e::es) fr) (hdb:(x==("__debug__":Str))=false) (he:starEach (e::es) X.env=(false,eval e X.env)::starEach es X.env) (hpl:(backTo pos (starEach es X.env)).any (·.1)=false):
 AE X kd (.Call (.Name x p) (e::es) [] pos) (zq fr gg):=by with_unfolding_all exact(yu (BZ F hr hg hm hk hb .nil hx ha hdb he hpl) λσ H Q h=>tF h)
def tZ{id:String}{gg:List D->Option R0}{x:Str}{p:Pos}(hc:Y0 X kd (.builtin id) gg)(hg:Gl X x)(hm:X.mg x=none)(hv:bootBuiltins x=some (.builtin id))(ha:AA X kd (e::es) fr)(hn:x≠"__name__")(hdb:(x==("__debug__":Str))=false)
 (he:starEach (e::es) X.env=(false,eval e X.env)::starEach es X.env) (hpl:(backTo pos (starEach es X.env)).any (·.1)=false):AE X kd (.Call (.Name x p) (e::es) [] pos) (fP fr gg):=by with_unfolding_all exact(yu (Kt hc hg hm hv ha hn hdb he hpl) λσ H Q h=>km (λ_ _ _ z=>z) h)
def u9(hc:Y0 X kd (.type T) gg)(hg:Gl X x)(hm:X.mg x=none)(hv:bootBuiltins x=some (.type T))(ha:AA X kd (e::es) fr)(hn:x≠"__name__")(hdb:(x==("__debug__":Str))=false)
 (he:starEach (e::es) X.env=(false,eval e X.env)::starEach es X.env) (hpl:(backTo pos (starEach es X.env)).any (·.1)=false):AE X kd (.Call (.Name x p) (e::es) [] pos) (fP fr gg):=by with_unfolding_all exact(yu (SV hc hg hm hv ha hn hdb he hpl) λσ H Q h=>km (λ_ _ _ z=>z) h)
noncomputable def RR(fa:EF)(c:String):EF:=λas=>(fa as).bind λp=>(p.1.frz.view p.2).bind λx=>if Dj x.1=true then some (.ow (.lf true (.bl (BW (q8 x.1) c))),p.2)else none
def Iu(hk:KdOk X kd):XO X (.builtin "isinstance") (λxs H Q=>∃x c O d,xs=[x,.ty c]/\Uz c=true/\Vw X.K kd O H x d/\Dj d=true/\Q (.bl (BW (q8 d) c)) H):=by
 intro b s σ H l m Q I r h;obtain⟨x,c,O,d,rfl,e,f,g,q⟩:=h;cases r with
 |cons i a=>
  cases a with
  |cons a j=>
   cases j;cases(show _=Value.type c from a);exact tw hk I i f e g λk=>⟨.bl _,H,I.tok k,rfl,q⟩
def VQ{c:String}{x y:Str}{p p2:Pos}(hkd:KdOk X kd)(hc:Uz c=true)(hg:Gl X x)(hm:X.mg x=none)(hv:bootBuiltins x=some (.builtin "isinstance"))(hg2:Gl X y)(hm2:X.mg y=none)(hv2:bootBuiltins y=some (.type c))(ha:AE X kd a fa)
 (hn:x≠"__name__") (hdb:(x==("__debug__":Str))=false) (hn2:y≠"__name__") (hdb2:(y==("__debug__":Str))=false)
 (he:starEach [a,.Name y p2] X.env=(false,eval a X.env)::starEach [.Name y p2] X.env) (he2:starEach [.Name y p2] X.env=(false,eval (.Name y p2) X.env)::starEach [] X.env) (hpl:(backTo pos (starEach [.Name y p2] X.env)).any (·.1)=false):
 AE X kd (.Call (.Name x p) [a,.Name y p2] [] pos) (RR fa c):=by with_unfolding_all exact(yu (Kt (Iu hkd) hg hm hv (WH ha (WH (Dd (v:=.ty c) hg2 hm2 hv2 rfl hn2 hdb2) Rq he2) he) hn hdb he hpl) λσ H Q h=>by
 obtain⟨F,B,s,as,r,i,R,e,q⟩:=h;obtain⟨⟨p,j⟩,k,e⟩:=bS_ (show(fa as).bind _=_ from e);obtain⟨⟨d,t⟩,l,e⟩:=bS_ e;obtain⟨m,e⟩:=zt e;cases e;exact vQ R k λv b n g f o=>⟨v,c,_,d,rfl,hc,xW.vw g f l,m,q _ [] b n g (.lf (.bl _)) o⟩)
def ZA:MG:=λos es=>match es with | [o]=>if os.length<sizeLine then some (os++[o],.lf true .non)else none|_=>none
def XG(i:Int)(n:Nat):Nat:=if i<0 then(i+(n:Int)).toNat else min i.toNat n
noncomputable def FL:MG:=λos es=>match es with | [.lf _ (.int i),o]=>if(-(2 ^ 63)<=i/\i<2 ^ 63)/\os.length<sizeLine then some (os.take (XG i os.length)++o::os.drop (XG i os.length),.lf true .non)else none|_=>none
def Av:MG:=λos es=>match es with | []=>some ([],.lf true .non)|_=>none
def ZT:rE X kd Su ZA:=by
 intro F B G l f p q r g o s t H Q h c b d e k;unfold ZA at e
 split at e
 . obtain⟨i,e⟩:=zt e;cases e;cases b with
   |cons j n=>
    cases n;rw[zyE]at d k;exact⟨l,f,_,rfl,rfl,h,by rw[c.length];exact i,k _ _ _ [] (c.append (RoL.one j)) (.lf .non) (λa m=>by rwa [zyE]at m) (by rw[zyE];exact d)⟩
 . cases e
def oO:V->List V->Hp->VK->Prop:=λx vs H Q=>∃l xs i y,x = .ref l/\vs=[.int i,y]/\H l=some (.lst xs) /\ -(2 ^ 63)<=i/\i<2 ^ 63/\xs.length<sizeLine/\Q .non (upd H l (.lst (xs.take (XG i xs.length)++y::xs.drop (XG i xs.length))))
def sA:pX X "list.insert" oO:=by
 intro c s σ H x p v A Q I f g h;obtain⟨l,B,i,y,rfl,rfl,d,j,k,C,q⟩:=h;cases f;obtain⟨u,w,rfl,m,b⟩:=g.two;obtain⟨t,rfl⟩:=m;obtain⟨z,a,n,r,o,e⟩:=I.lstM d;refine call_meets F.slot_list_insert ⟨_,e,rfl⟩ F.entry_list_insert (F.args_list_insert_3 _ _ _) (AutoSeq1.list_insert_list_int_val_1 l a.toArray n i t w (by rw[fitsIndex_both j k];exact zyV) (by rw[zzH];omega)) ⟨e, ?_⟩;refine⟨.non,_,I.lset (its':=a.take (XG i a.length)++w::a.drop (XG i a.length)) d e ?_ ((r.take _).append (.cons b (r.drop _))) ?_,rfl, ?_⟩
 . show((a.toArray.extract 0 (XG i a.toArray.size)).push w++a.toArray.extract (XG i a.toArray.size))=_;rw[zzH];simp;exact List.take_of_length_le (by rw[List.length_drop];omega)
 . rw[zzJ,zzT,zzS,List.length_drop];omega
 . rw[<-o];exact q
def su:rE X kd oO FL:=by
 intro F B G l r C s D t o E I H Q u g b h e k;unfold FL at e
 split at e
 . rename_i J i K;obtain⟨c,e⟩:=zt e;cases e;cases b with
   |cons v d=>
    cases d with
    |cons d w=>
     cases w;cases v with
     |lf x=>
      cases x;rw[List.nil_append,zyE]at h k;obtain⟨f,j,y,z,A⟩:=g.part (XG i s.length);have n:=g.length;rename_i q;refine⟨l,r,i,_,rfl,rfl,u,c.1.1,c.1.2,by rw[n];exact c.2, ?_⟩;rw[n];subst y;have p:((f++j)++q).Perm (f++(q++j)):=by
       rw[zxC];exact(List.perm_append_comm).append_left f
      refine k _ _ _ [] (z.append (.cons d A)) (.lf .non) (λa m=>?_) (by rw[zyE];exact p.nodup_iff.mp h);rw[zyE]at m;exact p.mem_iff.mpr m
 . cases e
def tK:rE X kd OD Av:=by
 intro F B G l c g h i d o j n H Q f p b q e k;unfold Av at e
 split at e
 . cases e;cases b;exact⟨l,c,rfl,rfl,f,k .non [] [] [] .nil (.lf .non) (λa m=>nomatch m) zyJ⟩
 . cases e
def Zh{i:Nat}{x:Str}{gg:MG}{r:V->List V->Hp->VK->Prop}{name:Str}{id:String}{apos cpos p:Pos}(hm:pX X id r)(hr:rE X kd r gg)(slot:Slot "list" name id)(hty:typeOf (.builtin id)=pure (.type "method_descriptor"))(ho:PE X (.Name x p) (Qo i))(ha:AD X kd (e::es) fd)
 (hbase:attributeBase (.Name x p) name X.env (eval (.Name x p) X.env)=eval (.Name x p) X.env)
 (hfew:((backTo cpos (starEach (e::es) X.env)).all (λx=>!x.1)&&(backToKw cpos (keywordEach [] X.env)).all (λx=>x.1.isSome)
  && decide ((e::es).length+([]:List Keyword).length+(if([]:List Keyword).isEmpty then 0 else 1)<30))=true)
 (hline:(apos.endLine==cpos.line)=true) (hs:starEach (e::es) X.env=(false,eval e X.env)::starEach es X.env) (hplain:(backTo cpos (starEach es X.env)).any (·.1)=false):
 AE X kd (.Call (.Attribute (.Name x p) name apos) (e::es) [] cpos) (vH i fd gg):=by with_unfolding_all exact(yu (DE PySem.F.plainAttrs_list slot hty hm ho ha hbase hfew hline hs hplain) λσ H Q h=>DX hr h)
def JA{i:Nat}{x:Str}{gg:MG}{r:V->List V->Hp->VK->Prop}{name:Str}{id:String}{apos cpos p:Pos}(hm:pX X id r)(hr:rE X kd r gg)(slot:Slot "list" name id)(hty:typeOf (.builtin id)=pure (.type "method_descriptor"))(ho:PE X (.Name x p) (Qo i))
 (hbase:attributeBase (.Name x p) name X.env (eval (.Name x p) X.env)=eval (.Name x p) X.env) (hline:(apos.endLine==cpos.line)=true):
 AE X kd (.Call (.Attribute (.Name x p) name apos) [] [] cpos) (vH i dN gg):=by with_unfolding_all exact(yu (tM PySem.F.plainAttrs_list slot hty hm ho hbase hline) λσ H Q h=>by
 have:=DX hr h;obtain⟨v,a,b,c⟩:=this;refine⟨v,a,b, ?_⟩;obtain⟨F,B,d,as,g,f,R,e,q⟩:=c;cases e;exact q [] [] d H R .nil Grow.refl)
end
inductive Ty where
 |str|lst|dct|int
def Ty.nm:Ty->String
 | .str=>"str" | .lst=>"list" | .dct=>"dict" | .int=>"int"
def J2:Ty->D->Bool
 | .str,.str _=>true
 | .lst,.lst _=>true
 | .dct,.dct _=>true
 | .int,.int _=>true
 |_,_=>false
def kY(X:Cx)(T:String)(x:V)(H:Hp):Prop:=∀(pins:List (Addr×Obj)) (σ:St) (s:Shared) (v:Value),Inv X pins σ H s->RelV x v->s.TypeIs v T/\∀a,v = .ref a->∃ob,s.heap.get? a=some ob/\ob.dict=none
def lO(X:Cx)(T:String)(r:V->List V->Hp->VK->Prop)(to:TE)(t:TA):TE:=λσ H Q=>to σ H λx H1=>kY X T x H1/\t σ H1 λxs H2=>r x xs H2 Q
section
variable{X:Cx}{kd:KD}{o e:Expr}{es:List Expr}{to:TE}{t:TA}{name:Str}{apos cpos:Pos}{T id:String}{r:V->List V->Hp->VK->Prop}
def pF(pa:PlainAttrs T)(slot:Slot T name id)(hty:typeOf (.builtin id)=pure (.type "method_descriptor"))(hm:nA X id r)(ho:PE X o to)(ha:PA X (e::es) t)
 (hbase:attributeBase o name X.env (eval o X.env)=eval o X.env)
 (hfew:((backTo cpos (starEach (e::es) X.env)).all (λx=>!x.1)&&(backToKw cpos (keywordEach [] X.env)).all (λx=>x.1.isSome)
  && decide ((e::es).length+([]:List Keyword).length+(if([]:List Keyword).isEmpty then 0 else 1)<30))=true)
 (hline:(apos.endLine==cpos.line)=true) (hs:starEach (e::es) X.env=(false,eval e X.env)::starEach es X.env) (hplain:(backTo cpos (starEach es X.env)).any (·.1)=false):
 PE X (.Call (.Attribute o name apos) (e::es) [] cpos) (lO X T r to t):=by
 intro a s σ H Q I h;refine wpAny_Call_method_late hbase hfew hline rfl (wF (ho a s σ H _ I h) λv f ⟨x,g,b,c,i,j⟩=>?_);obtain⟨k,l⟩:=i _ _ _ _ b c;refine⟨T,id,pa,slot,hty,k,l, ?_⟩;have d:=ha cpos a f σ g _ b j;rw[hs]at d ⊢;refine Calls.callWith_builtin (by show(false||(backTo cpos (starEach es X.env)).any (·.1))=false;rw[hplain]<;>rfl) (Calls.evalArgs_plain ?_);exact wF d λm n ⟨p,q,u,w,y⟩=>hm a n σ q x p v m Q u c w y
def ky(X:Cx)(kd:KD)(id:String)(g:D->List D->Option R0):Prop:=
 nA X id (λx xs H Q=>∃O d ds r,(∀a,O a->H a≠none)/\Vw X.K kd O H x d/\VwL X.K kd O H xs ds/\g d ds=some r/\RQ X.K kd O H Q r)
def oV(hk:KdOk X kd){O:Addr->Prop}{H:Hp}{x:V}{d:D}{ty:Ty}(h:Vw X.K kd O H x d)(e:J2 ty d=true):kY X ty.nm x H:=by
 intro pins σ s v I rx;cases h with
 |str z=>
  obtain⟨t,rfl⟩:=rx;cases ty<;>first|(cases e;done)|exact⟨typeIs_str s z t,λ_ e=>nomatch e⟩
 |int z=>
  obtain⟨t,rfl⟩:=rx;cases ty<;>first|(cases e;done)|exact⟨typeIs_int s z t,λ_ e=>nomatch e⟩
 |lst hr rl=>
  cases rx;obtain⟨its,_,pl,_⟩:=I.list hr.sq;cases ty<;>first|(cases e;done)|skip
  refine⟨pl.isList.typeIs,λa e=>?_⟩;cases e;obtain⟨o,n,e,c,hd,_⟩:=pl;exact⟨o,e,hd⟩
 |dct hr rm=>
  cases rx;obtain⟨z,hd,vs,rel,dd⟩:=Ka I hk hr;cases ty<;>first|(cases e;done)|skip
  refine⟨dd.typeIs,λb q=>?_⟩;cases q;obtain⟨ob,_,_,h1,h2,_⟩:=dd;exact⟨ob,h1,h2.2.1⟩
 |non=>cases ty<;>cases e
 |bl=>cases ty<;>cases e
 |tup=>cases ty<;>cases e
 |cl=>cases ty<;>cases e
 |ob=>cases ty<;>cases e
noncomputable def Lz(ty:Ty)(fa:EF)(fr:AF)(g:D->List D->Option R0):EF:=λas=>(fa as).bind λp=>(p.1.frz.view p.2).bind λw=>if J2 ty w.1=true then(fr p.2).bind λq=>(p.1.frz.view q.2).bind λx=>(views q.2 q.1).bind λy=>(g x.1 y.1).bind λr=>(wrap (meet x.2 y.2) r).bind λz=>some (z,q.2)else none
def s9(hk:KdOk X kd)(h:al X.K kd (Lz ty fa fr g) σ H Q):
 lO X ty.nm (λx xs H Q=>∃O d ds r,(∀a,O a->H a≠none)/\Vw X.K kd O H x d/\VwL X.K kd O H xs ds/\g d ds=some r/\RQ X.K kd O H Q r) (al X.K kd fa) (IH X.K kd fr) σ H Q:=by
 obtain⟨F,B,U,as,r,o,R,e,q⟩:=h;obtain⟨⟨p,c⟩,s,e⟩:=bS_ (show(fa as).bind _=_ from e);obtain⟨⟨V,W⟩,t,e⟩:=bS_ e;obtain⟨f,e⟩:=ite_some' e;obtain⟨⟨u,y⟩,A,e⟩:=bS_ e;obtain⟨⟨d,Y⟩,C,e⟩:=bS_ e;obtain⟨⟨D,E⟩,G,e⟩:=bS_ e;obtain⟨I,J,e⟩:=bS_ e;obtain⟨z,L,e⟩:=bS_ e;cases e;refine vQ R s λv i Z m b M=>⟨oV hk (xW.vw m b t) f,F,B,i,c,u,_,m,A,λvs j H2 R2 k n=>?_⟩;exact⟨_,d,D,I,R2.tr _,(xW.vw R2 (b.grow n) C).less P5.meet1,(Qa R2 k G).less P5.meet2,J,Yo R2 L λw N P S l T=>q w N j P S l ((M.trans n).trans T)⟩
def A6(hk:KdOk X kd)(hm:ky X kd id g)(pa:PlainAttrs ty.nm)(slot:Slot ty.nm name id)(hty:typeOf (.builtin id)=pure (.type "method_descriptor"))(ho:AE X kd a fa)(ha:AA X kd (e::es) fr)
 (hbase:attributeBase a name X.env (eval a X.env)=eval a X.env)
 (hfew:((backTo cpos (starEach (e::es) X.env)).all (λx=>!x.1)&&(backToKw cpos (keywordEach [] X.env)).all (λx=>x.1.isSome)
  && decide ((e::es).length+([]:List Keyword).length+(if([]:List Keyword).isEmpty then 0 else 1)<30))=true)
 (hline:(apos.endLine==cpos.line)=true) (hs:starEach (e::es) X.env=(false,eval e X.env)::starEach es X.env) (hplain:(backTo cpos (starEach es X.env)).any (·.1)=false):
 AE X kd (.Call (.Attribute a name apos) (e::es) [] cpos) (Lz ty fa fr g):=by with_unfolding_all exact(yu (pF pa slot hty hm ho ha hbase hfew hline hs hplain) λσ H Q h=>s9 hk h)
end
section
variable{K:zzA}{kd:KD}{F B G:Addr->Prop}{T:List Addr}{ad:Ad}{as:AS}{σ:St}{H H':Hp}
inductive RPs(K:zzA)(kd:KD)(F B G:Addr->Prop)(H:Hp):List (V×V)->List (Key×O)->Prop
 |nil:RPs K kd F B G H [] []
 |cons {k:Key}{v:V}{o:O}{ps:List (V×V)}{kos:List (Key×O)}:ZN K kd F B G H v o []->RPs K kd F B G H ps kos->RPs K kd F B G H ((kV k,v)::ps) ((k,o)::kos)
end
abbrev Fn:=List (Bool×D)->Option O
section
variable{P:Program}{w:World}{K:zzA}{mg:Str->Option Value}{base:Heap}{kd:KD}
def JQ:FnOk P w K mg base xC k f fd ps (Zm K kd λ_=>none):=
 ⟨λc H Q E h=>(by obtain⟨_,_,_,_,_,e,_⟩:=h;cases e),λA a s H b d c Q E _ _ _ _ h=>(by obtain⟨_,_,_,_,_,e,_⟩:=h;cases e)⟩
def Fd(hr:Room k A):A.units+100<cLine:=by have:=hr.un;omega
def vb(P:Program)(w:World)(K:zzA)(kd:KD):Prop:=∀X:Cx,X.prog=P->X.w=w->X.K=K->KdOk X kd
theorem VA{O:Addr->Prop}{H:Hp}:∀ns:List Int,RpL K kd O H (ns.map V.int) (ns.map D.int)
 | []=>.nil
 |_::r=>.cons (.int _) (VA r)
def ri{H:Hp}{a:Addr}{ns:List Int}{g:Fn}{E:XK}(hg:g [(true,.lst (ns.map D.int))]=some (.lf true (.bl true)))(hS:Ot K H a (ns.map V.int)):Zm K kd g [.ref a] H (λv _=>v = .bl true) E:=by
 refine⟨λ_=>False,[(true,.lst (ns.map D.int))],.lf true (.bl true),(λ_ z=>z.elim),.cons ?_ .nil,hg,λv T e _ _ _ _ b=>?_⟩
 . rcases hS with h|⟨c,n,k,z,r⟩
   . exact .lst (λz=>z.2) h (VA ns)
   . exact .lstK k z r (VA ns)
 . cases b with
   |lf d=>cases d;rfl
end
namespace Bt
theorem len:bootBuiltins "len"=some (.builtin "len"):=by decide +kernel
theorem max:bootBuiltins "max"=some (.builtin "max"):=by decide +kernel
theorem min:bootBuiltins "min"=some (.builtin "min"):=by decide +kernel
theorem sum:bootBuiltins "sum"=some (.builtin "sum"):=by decide +kernel
theorem divmod:bootBuiltins "divmod"=some (.builtin "divmod"):=by decide +kernel
theorem isinstance:bootBuiltins "isinstance"=some (.builtin "isinstance"):=by decide +kernel
theorem int:bootBuiltins "int"=some (.type "int"):=by decide +kernel
theorem bool:bootBuiltins "bool"=some (.type "bool"):=by decide +kernel
theorem list:bootBuiltins "list"=some (.type "list"):=by decide +kernel
theorem tuple:bootBuiltins "tuple"=some (.type "tuple"):=by decide +kernel
theorem dict:bootBuiltins "dict"=some (.type "dict"):=by decide +kernel
def n(x:Str)(h:(x==("__name__":Str))=false):x≠"__name__":=λe=>by subst e;simp at h
end Bt
def WD(f:EF)(as:AS)(st:Bool)(d:D):Prop:=f as=some (.ow (.lf st d),as)
def WT(f:TF)(as:AS)(b:Bool):Prop:=f as=some (b,as)
def WA(f:AF)(as:AS)(rs:List (Bool×D)):Prop:=f as=some (rs.map (λx=>.ow (.lf x.1 x.2)),as)
def WO(f:DF)(as:AS)(os:List O):Prop:=f as=some (os,as)
section
variable{as:AS}{f a b:EF}{s t:Bool}{x y z:D}{i j:Int}
def zb:WD (fC x) as true x:=rfl
def za{i:Nat}(h:as[i]? = some (some (.lf s x))):WD (fV i) as s x:=by unfold WD fV;rw[h]
def Dz(ha:WD a as s x)(hb:WD b as t y)(hg:g x y=some (.im z)):WD (f2 a b g) as (zv z||(s&&t)) z:=by
 unfold WD f2 at *;rw[ha];show((b as).bind _)=_;rw[hb];show((g x y).bind _)=_;rw[hg];show(if(zv z||(meet (some s) (some t)).isSome)=true then _ else _:Option RV).bind _=_;rw[if_pos (by unfold meet;simp)];rfl
def pq(ha:a as=some (.ow oa,as))(hb:b as=some (.ow ob,as))(hg:g oa.toD ob.toD=some (.im z)):WD (f2 a b g) as (zv z||(oa.str&&ob.str)) z:=by
 unfold WD f2 at *;rw[ha];show((b as).bind _)=_;rw[hb];show((g oa.toD ob.toD).bind _)=_;rw[hg];show(if(zv z||(meet (some oa.str) (some ob.str)).isSome)=true then _ else _:Option RV).bind _=_;rw[if_pos (by unfold meet;simp)];rfl
def zJ(ha:WD a as s x)(hb:WD b as t y)(hg:g x y=some (.im z))(e:zv z=true):WD (f2 a b g) as true z:=by
 have:=Dz ha hb hg;rw[e]at this;exact this
def zR(ha:WD a as s (.int i))(hb:WD b as t (.int j)):WD (f2 a b (YX .Add)) as true (.int (i+j)):=zJ ha hb rfl rfl
def XB(ha:WD a as s (.int i))(hb:WD b as t (.int j)):WD (f2 a b (YX .Sub)) as true (.int (i-j)):=zJ ha hb rfl rfl
def Me(ha:WD a as s (.int i))(hb:WD b as t (.int j))(h:j.natAbs<2 ^ 64):WD (f2 a b (YX .Mult)) as true (.int (i*j)):=zJ ha hb (by show(if _ then _ else _)=_;rw[if_pos (.inr h)]) rfl
def xy(ha:WD a as s (.int i))(hb:WD b as t (.int j))(h1:i.natAbs<big)(h2:j.natAbs<big):WD (f2 a b (YX .Mult)) as true (.int (i*j)):=zJ ha hb (by show(if _ then _ else _)=_;rw[if_pos (.inl ⟨h1,h2⟩)]) rfl
def wy(ha:WD a as s (.int i))(hb:WD b as t (.int j))(h1:0<j)(h2:j.natAbs<big):WD (f2 a b (YX .FloorDiv)) as true (.int (i/j)):=zJ ha hb (by show(if _ then _ else _)=_;rw[if_pos ⟨h1,h2⟩]) rfl
def yj(ha:WD a as s (.int i))(hb:WD b as t (.int j))(h1:0<j):WD (f2 a b (YX .Mod)) as true (.int (i%j)):=zJ ha hb (by show(if _ then _ else _)=_;rw[if_pos h1]) rfl
def CL(ha:WD a as s (.int i))(hb:WD b as t (.int j))(h1:0<=j/\j<=1000000/\i.natAbs<2 ^ 64):WD (f2 a b (YX .Pow)) as true (.int (i ^ j.toNat)):=zJ ha hb (by show(if _ then _ else _)=_;rw[if_pos h1]) rfl
def Km(ha:WD a as s x)(hb:WD b as t y)(h:ZK 60 x y=some c):WD (f2 a b (zP .Eq)) as true (.bl c):=zJ ha hb (by show(ZK 60 x y).bind _=_;rw[h];rfl) rfl
def BE(ha:WD a as s x)(hb:WD b as t y)(h:ZK 60 x y=some c):WD (f2 a b (zP .NotEq)) as true (.bl (!c)):=zJ ha hb (by show(ZK 60 x y).bind _=_;rw[h];rfl) rfl
def Dx(ha:WD a as s (.int i))(hb:WD b as t (.int j)):WD (f2 a b (zP .Lt)) as true (.bl (decide (i<j))):=zJ ha hb rfl rfl
def t8(ha:WD a as s (.int i)):WD (f1 a FP) as true (.int (-i)):=by
 unfold WD f1 at *;rw[ha];rfl
def yV(h:WD f as s x)(e:truth x=some c):WT (fT f) as c:=by
 unfold WT fT;unfold WD at h;rw[h];show((truth x).bind _)=_;rw[e];rfl
def Rx(h:WT c as k):WT (ZH c) as (!k):=by unfold WT ZH at *;rw[h];rfl
def HX(h:WT c as k)(h2:k=true->WT e as l)(h3:k=false->l=false):WT (Sq c e) as l:=by
 unfold WT Sq at *;rw[h];cases k with
 |true=>exact h2 rfl
 |false=>rw[h3 rfl];rfl
def Ol(h:WT c as k)(h2:k=false->WT e as l)(h3:k=true->l=true):WT (Pv c e) as l:=by
 unfold WT Pv at *;rw[h];cases k with
 |false=>exact h2 rfl
 |true=>rw[h3 rfl];rfl
def tu(h:WT c as true)(ha:WD a as s x):WD (Sl c a b) as s x:=by unfold WD Sl;unfold WT at h;rw[h];exact ha
def sF(h:WT c as false)(hb:WD b as s x):WD (Sl c a b) as s x:=by unfold WD Sl;unfold WT at h;rw[h];exact hb
def Mv(h:WD a as s (.bl k))(h2:k=true->WD b as true (.bl l))(h3:k=false->l=false):WD (K0 a b) as true (.bl l):=by
 unfold WD K0 at *;rw[h];cases k with
 |true=>exact h2 rfl
 |false=>rw[h3 rfl];rfl
def zB:WA aN as []:=rfl
def zr(ha:WD a as s x)(hr:WA fr as rs):WA (aC a fr) as ((s,x)::rs):=by
 unfold WA aC at *;unfold WD at ha;rw[ha];show((fr as).bind _)=_;rw[hr];rfl
theorem XH:∀rs:List (Bool×D),vZ as (rs.map (λx=>.ow (.lf x.1 x.2)))=some (rs.map λx=>(zv x.2||x.1,x.2))
 | []=>rfl
 |r::a=>by
  show(Ig as (.ow (.lf r.1 r.2))).bind _=_;show(vZ as (a.map _)).bind _=_;rw[XH a];rfl
theorem YK:∀rs:List (Bool×D),views as (rs.map (λx=>.ow (.lf x.1 x.2)))=some (rs.map (·.2),some (rs.all (·.1)))
 | []=>rfl
 |r::a=>by
  show(views as (a.map _)).bind _=_;rw[YK a];rfl
def Gb(ha:WA fr as rs)(hg:g (rs.map λx=>(zv x.2||x.1,x.2))=some (.lf s x)):WD (zq fr g) as s x:=by
 unfold WD zq;unfold WA at ha;rw[ha];show(vZ as _).bind _=_;rw[XH];show(g _).bind _=_;rw[hg];rfl
def Zr(ha:WA fr as rs)(hg:g (rs.map λx=>(zv x.2||x.1,x.2))=some o):zq fr g as=some (.ow o,as):=by
 unfold zq;unfold WA at ha;rw[ha];show(vZ as _).bind _=_;rw[XH];show(g _).bind _=_;rw[hg];rfl
def BQ(ha:WA fr as rs)(hg:g (rs.map (·.2))=some (.im x)):WD (fP fr g) as (zv x||rs.all (·.1)) x:=by
 unfold WD fP;unfold WA at ha;rw[ha];show(views as _).bind _=_;rw[YK];show(g _).bind _=_;rw[hg];show(if(zv x||(some (rs.all (·.1))).isSome)=true then _ else _:Option RV).bind _=_;rw[if_pos (by simp)];rfl
def xk(ha:WA fr as rs)(hg:g (rs.map (·.2))=some (.im x))(e:zv x=true):WD (fP fr g) as true x:=by
 have:=BQ ha hg;rw[e]at this;exact this
def yz:WO dN as []:=rfl
def zz{fr:DF}{os:List O}(ha:WD a as s x)(hr:WO fr as os):WO (dC a fr) as (.lf s x::os):=by
 unfold WO dC at *;unfold WD at ha;rw[ha];show((fr as).bind _)=_;rw[hr];rfl
def vv{fr:DF}{os:List O}(h:WO fr as os)(hl:os.length<=sizeLine):yk fr as=some (.ow (.nd .ls os),as):=by
 unfold yk;unfold WO at h;rw[h];show(if os.length<=sizeLine then _ else _)=_;rw[if_pos hl]
def zp{f g:SF}{as1:AS}{o:Option Out}(h1:f as=some (.nx as1))(h2:g as1=o):zj f g as=o:=by unfold zj;rw[h1];exact h2
def vU{f g:SF}{o:O}(h1:f as=some (.rt o)):zj f g as=some (.rt o):=by unfold zj;rw[h1];rfl
def xN{c:TF}{f g:SF}{o:Option Out}(h:WT c as true)(h1:f as=o):vG c f g as=o:=by unfold vG;unfold WT at h;rw[h];exact h1
def zT{c:TF}{f g:SF}{o:Option Out}(h:WT c as false)(h1:g as=o):vG c f g as=o:=by unfold vG;unfold WT at h;rw[h];exact h1
def zX{i:Nat}{st:Bool}(h:WD f as s x)(hi:i<as.length):zy st i f as=some (.nx (as.set i (some (.lf s x)))):=by
 unfold zy;unfold WD at h;rw[h];cases st<;>exact if_pos hi
def xa{i:Nat}{o:O}(h:f as=some (.ow o,as))(hi:i<as.length):zy false i f as=some (.nx (as.set i (some o))):=by
 unfold zy;rw[h];exact if_pos hi
def JV{i:Nat}{o:O}(h:f as=some (.ow o,as))(hi:i<as.length):zy true i f as=some (.nx (as.set i (some o.frz))):=by
 unfold zy;rw[h];exact if_pos hi
def vP(h:WD f as true x):zL f as=some (.rt (.lf true x)):=by unfold zL;unfold WD at h;rw[h];rfl
def vF(hl:ds.length=m)(h:c (v9 n ds)=some (.rt o)):ZD n m c ds=some o:=by unfold ZD;rw[if_pos hl,h];rfl
theorem xm{g:GF}{f:SF}(I:Nat->AS->Prop):∀(xs:List xb) (k:Nat) (as:AS),(∀i x as,xs[i]? = some x->I (k+i) as->∃as1,g x as=some as1/\∃as2,f as1=some (.nx as2)/\I (k+i+1) as2)->I k as->∃as',forL g f xs as=some (.nx as')/\I (k+xs.length) as'
 | [],k,as,_,h=>⟨as,rfl,h⟩
 |x::r,k,as,d,h=>by
  obtain⟨a,j,b,l,m⟩:=d 0 x as rfl h;obtain⟨c,n,o⟩:=xm I r (k+1) b (λi y as e q=>by
   obtain⟨u,p,v,s,t⟩:=d (i+1) y as e (by rw[show k+(i+1)=k+1+i by omega];exact q);exact⟨u,p,v,s,by rw[show k+1+i+1=k+(i+1)+1 by omega];exact t⟩) m
  refine⟨c, ?_,by rw[zzT,show k+(r.length+1)=k+1+r.length by omega];exact o⟩;show(g x as).bind _=_;rw[j];show(f a).bind _=_;rw[l];exact n
def yI{fi:IF}{g:GF}{f:SF}{xs:List xb}{as':AS}{o:Option Out}(h:fi as=some (xs,as'))(h2:forL g f xs as'=o):yU fi g f as=o:=by unfold yU;rw[h];exact h2
def wb{lo:Int}{n i:Nat}{x:xb}(h:(y2 lo n)[i]? = some x):x=(true,.int (lo+i))/\i<n:=by
 unfold y2 at h;rw[zzI]at h;cases e:(List.range n)[i]? with
 |none=>rw[e]at h;cases h
 |some k=>
  rw[e]at h;obtain⟨a,b⟩:=zzG.mp e;rw[zyU]at a;rw[List.getElem_range]at b;subst b;exact⟨(zzZ h).symm,a⟩
def xX(h:WA fr as [(u,.int j)])(h0:0<=j)(h1:j<1000000):yM fr y_ as=some (y2 0 j.toNat,as):=by
 unfold yM;unfold WA at h;rw[h];simp only[zyL,YK];show((if -(2 ^ 62)<=j/\j<2 ^ 62 then some (y2 0 j.toNat)else none).bind _)=_;rw[if_pos ⟨by omega,by omega⟩];rfl
def OE(ha:a as=some (.ow o,as))(hr:WA fr as rs):WA (aC a fr) as ((o.str,o.toD)::rs):=by
 unfold WA aC at *;rw[ha];show((fr as).bind _)=_;rw[hr];rfl
def NG{i:Nat}{o:O}(h:as[i]? = some (some o)):RV.view as (.bo i)=some (o.toD,o.kl):=by simp only[RV.view,h]
def tj{i:Nat}{o:O}(h:as[i]? = some (some o)):AB as (.bo i)=some (o.frz,as.set i (some o.frz)):=by simp only[AB,h]
def Ak{i:Nat}{o:O}(h:as[i]? = some (some o))(hs:o.str=true):Cw as (.bo i)=some o:=by simp only[Cw,h,hs,if_true]
def Nd{i:Nat}{k:Kind}{os:List O}(h:as[i]? = some (some (.nd k os))):fV i as=some (.bo i,as):=by unfold fV;rw[h]
def nW{i:Nat}{os:List O}(h:as[i]? = some (some (.nd .ls os))):WD (fP (aC (fV i) aN) vA) as true (.int os.length):=by
 have e:views as [.bo i]=some ([.lst (O.toDs os)],meet (O.nd .ls os).kl (some true)):=by
  show(RV.view as (.bo i)).bind _=_;rw[NG h];rfl
 unfold WD fP aC;rw[Nd h];simp only[zyL,aN,RV.frz,e];rw[show vA [.lst (O.toDs os)]=some (.im (.int os.length)) by show some (R0.im (.int ((O.toDs os).length:Nat)))=_;rw[Y4]];rfl
def jo{i:Nat}{os:List O}(h:as[i]? = some (some (.nd .ls os)))(hl:os.all O.isLf=true)(hb:WD b as t y)(hg:zN (.lst (O.toDs os)) y=some (.im z)):WD (f2 (fV i) b zN) as (zv z||(O.strs os&&t)) z:=by
 unfold WD f2 at *;rw[Nd h];show((b as).bind _)=_;rw[hb];show((RV.view as (.bo i)).bind _)=_;rw[NG h];have e:(O.nd .ls os).kl=some (O.strs os):=by simp only[O.kl,hl,if_true]
 rw[e];show((zN (.lst (O.toDs os)) y).bind _)=_;rw[hg];show(if(zv z||(meet (some (O.strs os)) (some t)).isSome)=true then _ else _:Option RV).bind _=_;rw[if_pos (by unfold meet;simp)];rfl
def Oy{i:Nat}{ds:List D}(h:as[i]? = some (some (.lf s (.lst ds)))):Xe (fV i) as=some (kids s ds,as):=by
 unfold Xe fV;rw[h];rfl
def Za{g:GF}{f:SF}{d:xb}{r:List xb}{as1 as2:AS}{o:Option Out}(h1:g d as=some as1)(h2:f as1=some (.nx as2))(h3:forL g f r as2=o):forL g f (d::r) as=o:=by
 show(g d as).bind _=_;rw[h1];show(f as1).bind _=_;rw[h2];exact h3
def Iq{g:GF}{f:SF}{d:xb}{r:List xb}{as1:AS}{o:O}(h1:g d as=some as1)(h2:f as1=some (.rt o)):forL g f (d::r) as=some (.rt o):=by
 show(g d as).bind _=_;rw[h1];show(f as1).bind _=_;rw[h2];rfl
def Ft{i:Nat}{os:List O}(h:as[i]? = some (some (.nd .ls os)))(hl:os.length<sizeLine)(ha:WD a as s x):yN (vH i (dC a dN) ZA) as=some (.nx (as.set i (some (.nd .ls (os++[.lf s x]))))):=by
 unfold yN vH;rw[h];have e:dC a dN as=some ([.lf s x],as):=zz ha yz;show((dC a dN as).bind _).bind _=_;rw[e];show(Option.bind (match as[i]? with|some (some (.nd .ls os))=>_|_=>none) _)=_;rw[h];show((ZA os [.lf s x]).bind _).bind _=_;have e2:ZA os [.lf s x]=some (os++[.lf s x],.lf true .non):=by unfold ZA;exact if_pos hl
 rw[e2];rfl
def uA(h:f as=some (.ow o,as))(hg:g (o.str,o.toD) as=some as'):Rg f g as=some (.nx as'):=by
 unfold Rg;rw[h];show(g (o.str,o.toD) as).bind _=_;rw[hg];rfl
def Qf{i:Nat}{o:O}(h:as[i]? = some (some o))(hs:o.str=true):zL (fV i) as=some (.rt o):=by
 cases o with
 |lf a d=>unfold zL fV;rw[h];have:a=true:=hs;subst this;rfl
 |nd k b=>
  unfold zL;rw[Nd h];show(Cw as (.bo i)).bind _=_;rw[Ak h hs];rfl
def tO(ha:a as=some (.ow oa,as1))(hb:b as1=some (.ow ob,as2))(hg:g oa.toD ob.toD=some (.fl zs)):f2 a b g as=some (.ow (.nd .ls (zs.map (MZ (oa.str&&ob.str)))),as2):=by
 unfold f2;rw[ha];show((b as1).bind _)=_;rw[hb];show((g oa.toD ob.toD).bind _)=_;rw[hg];show(if(zs.all zv||(meet (some oa.str) (some ob.str)).isSome)=true then _ else _:Option RV).bind _=_;rw[if_pos (by unfold meet;simp)];rfl
def wO(ha:WD a as true x)(hb:WD b as true y)(hg:g x y=some (.im z)):WD (f2 a b g) as true z:=by
 have:=Dz ha hb hg;rw[show(zv z||(true&&true))=true by simp]at this;exact this
def m4{i:Nat}{os:List O}(h:as[i]? = some (some (.nd .ls os)))(hl:os.all O.isLf=true)(hs:O.strs os=true)(hb:WD b as true y)(hg:zN (.lst (O.toDs os)) y=some (.im z)):WD (f2 (fV i) b zN) as true z:=by
 have:=jo h hl hb hg;rw[hs,show(zv z||(true&&true))=true by simp]at this;exact this
theorem Ux:∀zs:List D,zs.map (MZ true)=zs.map (O.lf true)
 | []=>rfl
 |z::r=>by
  show MZ true z::r.map (MZ true)=_;rw[Ux r];unfold MZ;rw[zyD];rfl
def Jc(ha:a as=some (.ow oa,as1))(hb:b as1=some (.ow ob,as2))(hg:g oa.toD ob.toD=some (.fl zs))(h1:oa.str=true)(h2:ob.str=true):f2 a b g as=some (.ow (.nd .ls (zs.map (O.lf true))),as2):=by
 have:=tO ha hb hg;rw[h1,h2,show(true&&true)=true from rfl,Ux]at this;exact this
def vJ{fr:DF}{o:O}{os:List O}{as1 as2:AS}(ha:a as=some (.ow o,as1))(hr:fr as1=some (os,as2)):dC a fr as=some (o::os,as2):=by
 unfold dC;rw[ha];show((fr as1).bind _)=_;rw[hr];rfl
def add_lists(h:xs.length+ys.length<=sizeLine):YX .Add (.lst xs) (.lst ys)=some (.fl (xs++ys)):=if_pos h
def Lq(lo:Int)(n:Nat):y2 lo (n+1)=(true,.int lo)::y2 (lo+1) n:=by
 unfold y2;rw[List.range_succ_eq_map,zyS,zyB]
 congr 1
 . simp
 . apply List.map_congr_left;intro i _;show(true,D.int _)=(true,D.int _)
   congr 2
   show lo+((i+1:Nat):Int)=_;omega
def EM(ha:WA fr as rs)(hg:g (rs.map (·.2))=some (.im x))(e:rs.all (·.1)=true):WD (fP fr g) as true x:=by
 have:=BQ ha hg;rw[e,zyD]at this;exact this
def Ah(ha:WD a as s y)(ht:J2 ty y=true)(hr:WA fr as rs)(hg:g y (rs.map (·.2))=some (.im x))(e:zv x=true):WD (Lz ty a fr g) as true x:=by
 unfold WD Lz;unfold WD at ha;unfold WA at hr;rw[ha];show(if J2 ty y=true then _ else _:Option (RV×AS))=_;rw[if_pos ht,hr];simp only[zyL,YK];show((g y (rs.map (·.2))).bind _)=_;rw[hg];show(if(zv x||_)=true then _ else _:Option RV).bind _=_;rw[if_pos (by rw[e];rfl)];show some (RV.ow (.lf (zv x||_) x),as)=_;rw[e];rfl
def JB(h:WD f as s x)(e:P8 (s,x)=some ds):wW f as=some (ds,as):=by
 unfold wW;unfold WD at h;rw[h];show(P8 (s,x)).bind _=_;rw[e];rfl
def RD{g:GF}{fe:EF}{as0 as1:AS}{y:xb}{r:List xb}{os:List O}(h1:g y as0=some as1)(h2:WD fe as1 true x)(h3:xf g yZ fe as0 r=some os):xf g yZ fe as0 (y::r)=some (.lf true x::os):=by
 show(g y as0).bind _=_;rw[h1];show(fe as1).bind _=_;unfold WD at h2;rw[h2];show(xf g yZ fe as0 r).bind _=_;rw[h3];rfl
def UX{fi:IF}{cap:List (Option Nat)}{g:GF}{tt:TF}{fe:EF}{xs:List xb}{os:List O}(h1:fi as=some (xs,as))(hl:xs.length<=sizeLine)(h2:xf g tt fe (vL cap as) xs=some os):yf fi cap g tt fe as=some (.ow (.nd .ls os),as):=by
 unfold yf;rw[h1];show(if xs.length<=sizeLine then _ else _)=_;rw[if_pos hl];show(xf g tt fe (vL cap as) xs).bind _=_;rw[h2];rfl
def O5(ha:fr as=some (rs,as))(hx:vZ as rs=some xs)(hg:g xs=some o):zq fr g as=some (.ow o,as):=by
 unfold zq;rw[ha];show(vZ as rs).bind _=_;rw[hx];show(g xs).bind _=_;rw[hg];rfl
end
def QC(h:Nat.ble n 1000=true):n<=sizeLine:=Nat.le_of_lt (Pb (Nat.le_of_ble_eq_true h))
def zo(h:Nat.ble (a+1) b=true):a<b:=Nat.le_of_ble_eq_true h
def zE(h0 : -(10 ^ 200)<i)(h1:i<10 ^ 200):i.natAbs<big:=by
 have:(10:Nat) ^ 200<big:=by unfold big;decide +kernel
 have e:((10 ^ 200:Nat):Int)=(10:Int) ^ 200:=by norm_cast
 have:(i.natAbs:Int)<((10 ^ 200:Nat):Int):=by rw[e];omega
 omega
def GC(K:zzA)(kd:KD)(mg:Str->Option Value)(x:Str)(d:D):Prop:=∃v u,mg x=some u/\RelV v u/\∀(O:Addr->Prop) (H:Hp),Rp K kd O H v d
section
variable{X:Cx}{kd:KD}{K:zzA}{mg:Str->Option Value}
def ux(h:GC X.K kd X.mg x d)(hg:Gl X x)(hd:(x==("__debug__":Str))=false):AE X kd (.Name x pos) (fC d):=by
 with_unfolding_all (
 obtain⟨v,u,h1,h2,h3⟩:=h;exact G9 (Jo hg h1 h2 hd) h3)
theorem GC.int{x:Str}{i:Int}{t:Tok}(h:mg x=some (.int i t)):GC K kd mg x (.int i):=⟨.int i,_,h,⟨t,rfl⟩,λ_ _=>.int i⟩
def lE(K:zzA)(g:Fn):Sp:=λvs H Q E=>∀kd:KD,Zm K kd g vs H Q E
end
noncomputable def NP(fa fb fc:EF)(g g':D->D->Option R0):EF:=λas=>(fa as).bind λp=>(fb p.2).bind λq=>(p.1.frz.view q.2).bind λx=>(q.1.frz.view q.2).bind λy=>(g x.1 y.1).bind λr=>match r with
 | .im (.bl true)=>(fc q.2).bind λt=>(q.1.frz.view t.2).bind λy'=>(t.1.frz.view t.2).bind λz=>(g' y'.1 z.1).bind λr'=>(wrap (meet y'.2 z.2) r').bind λo=>some (o,t.2)
 | .im (.bl false)=>some (.ow (.lf true (.bl false)),q.2)
 |_=>none
section
variable{X:Cx}{kd:KD}{a b c:Expr}{fa fb fc:EF}{pos:Pos}
def H9(ho:sO X kd (compareOp op) g)(ho':sO X kd (compareOp op') g')(ha:AE X kd a fa)(hb:AE X kd b fb)(hc:AE X kd c fc)(hm:lastMarks [op,op'] [b,c]=false):
 AE X kd (.Compare a [op,op'] [b,c] pos) (NP fa fb fc g g'):=by with_unfolding_all exact(yu (OS ho ho' ha hb hc hm) λσ H Q h=>by
 obtain⟨F,B,ad,as,r,O,R,e,q⟩:=h;obtain⟨⟨p,P⟩,S,e⟩:=bS_ (show(fa as).bind _=_ from e);obtain⟨⟨z,j⟩,T,e⟩:=bS_ e;obtain⟨⟨x,U⟩,V,e⟩:=bS_ e;obtain⟨⟨y,W⟩,Y,e⟩:=bS_ e;obtain⟨K,Z,e⟩:=bS_ e;refine vQ R S λv ad1 H1 R1 k L=>vQ R1 T λu l H2 R2 d m=>⟨_,x,y,K,R2.tr (meet U W),(xW.vw R2 (k.grow m) V).less P5.meet1,(xW.vw R2 d Y).less P5.meet2,Z, ?_⟩
 match K,e with
 | .im (.bl true),e=>
  obtain⟨⟨t,as3⟩,h6,e⟩:=bS_ (show(fc j).bind _=_ from e);obtain⟨⟨y',n⟩,h7,e⟩:=bS_ e;obtain⟨⟨z',s⟩,h8,e⟩:=bS_ e;obtain⟨r1,h9,e⟩:=bS_ e;obtain⟨o,A,e⟩:=bS_ e;cases e;intro w M C D;cases D;obtain⟨E,f⟩:=R2.more C;refine⟨true,rfl, ?_⟩;rw[if_pos rfl];refine vQ E h6 λw' G H4 i I N=>⟨_,y',z',r1,i.tr (meet n s),(xW.vw i ((d.grow f).grow N) h7).less P5.meet1,(xW.vw i I h8).less P5.meet2,h9, ?_⟩;exact Yo i A λw T' H' R' J g'=>q w T' G H' R' J ((((L.trans m).trans f).trans N).trans g')
 | .im (.bl false),e=>
  cases e;intro w M C D;cases D;obtain⟨E,f⟩:=R2.more C;refine⟨false,rfl, ?_⟩;rw[if_neg zyV];exact q _ [] l M E (.lf (.bl _)) ((L.trans m).trans f))
end
inductive Ents(w:World):List DictEntry->List (Key×V)->Prop
 |nil:Ents w [] []
 |str {x:Str}{t:Tok}{v:V}{u:Value}{r:List DictEntry}{s:List (Key×V)}:RelV v u->Ents w r s->Ents w (⟨PyData.keyHash w.params x,.str x t,u⟩::r) ((.inr x,v)::s)
theorem Ents.keys:∀{es:List DictEntry}{kvs:List (Key×V)},Ents w es kvs->∀e ∈ es,∃k,(wo P w).is k e.key=true/\e.hash=(wo P w).hash k
 |_,_,.nil,_,m=>nomatch m
 |_,_,.str (x:=x) (t:=t) _ r,e,m=>by
  rcases zzC.mp m with rfl|m
  . exact⟨.inr x,VT P w x t,rfl⟩
  . exact r.keys e m
theorem Ents.pairs:∀{es:List DictEntry}{kvs:List (Key×V)},Ents w es kvs->∃vs,KV kvs vs/\Pairs (wo P w) es vs/\vs.map (·.1)=kvs.map (·.1)
 |_,_,.nil=>⟨[],.nil,.nil,rfl⟩
 |_,_,.str (x:=x) (t:=t) (u:=u) h r=>by
  obtain⟨a,b,c,d⟩:=r.pairs (P:=P);exact⟨(.inr x,u)::a,.cons ⟨rfl,h⟩ b,.cons (VT P w x t) rfl c,by rw[zyS,zyS,d]⟩
structure DctAt(w:World)(K:zzA)(a:Addr)(kvs:List (Key×V)):Prop where
 ex:∃es ep,K.lookup a=some {cls:=.type "dict",data:=.dict es ep}/\Ents w es.toList kvs
 nd:(kvs.map (·.1)).Nodup
 le:kvs.length<=sizeLine
 ns:(a==sysModules)=false
def lD(l:List (Addr×List (Key×V)))(c:Str->Addr:=λ_=>0):KD:=⟨λa k=>l.lookup a=some k,c⟩
def lookup_mem{l:List (Addr×List (Key×V))}{a:Addr}{k:List (Key×V)}(h:l.lookup a=some k):(a,k) ∈ l:=by
 induction l with
 |nil=>cases h
 |cons p r b=>
  rw[List.lookup_cons]at h
  by_cases e:a=p.1
  . subst e;rw[beq_self_eq_true]at h;cases h;exact zzF
  . rw[show(a==p.1)=false from beq_eq_false_iff_ne.mpr e]at h;exact zzD _ (b h)
def uC{P:Program}{w:World}{K:zzA}{l:List (Addr×List (Key×V))}{c:Str->Addr}(h:∀p ∈ l,DctAt w K p.1 p.2):vb P w K (lD l c):=λX n o r=>by
 subst n;subst o;subst r;refine⟨λa k v b d=>zzZ (b.symm.trans d),λa k b=>?_,λa k y b f=>?_⟩
 . obtain⟨g,i,e,_⟩:=(h _ (lookup_mem b)).ex;exact⟨_,e⟩
 . have q:=h _ (lookup_mem b);obtain⟨g,i,e,j⟩:=q.ex;obtain⟨s,d,t,u⟩:=j.pairs (P:=X.prog);refine⟨q.le,q.ns,s,d,_,g,i,f _ _ e,⟨rfl,rfl,rfl⟩,rfl,λx m=>j.keys x (by simpa using m),t,by rw[u];exact q.nd⟩
def isStar:Expr->Bool
 | .Starred .. => true
 |_=>false
def LW(h:isStar a=false):starEach (a::es) env=(false,eval a env)::starEach es env:=by
 cases a<;>first|rfl|cases h
section
variable{as:AS}{f a b c:EF}{s t u:Bool}{x y z:D}{i j k:Int}
def HB(h1:g w as0=some as1)(h2:WT tt as1 false)(h3:xf g tt fe as0 r=o):xf g tt fe as0 (w::r)=o:=by
 unfold WT at h2;show(g w as0).bind _=_;rw[h1];show(tt as1).bind _=_;rw[h2];exact h3
def WE(f:EF)(as:AS)(x:D):Prop:=∃o,f as=some (.ow o,as)/\o.str=true/\o.toD=x
def RE(r:Option O)(x:D):Prop:=∃o,r=some o/\o.str=true/\o.toD=x
def WD.e(h:WD f as true x):WE f as x:=⟨_,h,rfl,rfl⟩
def RE.of(h:r=some (.lf true x)):RE r x:=⟨_,h,rfl,rfl⟩
def Zp{fr:DF}{os:List O}(h:WO fr as os)(hl:os.length<=sizeLine)(hs:O.strs os=true)(e:D.lst (O.toDs os)=x):WE (yk fr) as x:=⟨_,vv h hl,hs,e⟩
def xZ(h:WE a as x)(hr:WA fr as rs):WA (aC a fr) as ((true,x)::rs):=by
 obtain⟨o,b,c,rfl⟩:=h;have:=OE b hr;rw[c]at this;exact this
def vt(ha:WE a as x)(hg:RE (g [(true,x)]) z):WE (zq (aC a aN) g) as z:=by
 obtain⟨o,b,c,d⟩:=hg;exact⟨o,Zr (xZ ha zB) (by show g [(zv x||true,x)]=_;rw[zyD];exact b),c,d⟩
def Xo(ha:WE a as x)(hb:WE b as y)(hg:RE (g [(true,x),(true,y)]) z):WE (zq (aC a (aC b aN)) g) as z:=by
 obtain⟨o,c,d,e⟩:=hg;exact⟨o,Zr (xZ ha (xZ hb zB)) (by show g [(zv x||true,x),(zv y||true,y)]=_;rw[zyD,zyD];exact c),d,e⟩
def Pg(ha:WE a as x)(hb:WE b as y)(hc:WE c as w)(hg:RE (g [(true,x),(true,y),(true,w)]) z):WE (zq (aC a (aC b (aC c aN))) g) as z:=by
 obtain⟨o,d,e,f⟩:=hg;exact⟨o,Zr (xZ ha (xZ hb (xZ hc zB))) (by show g [(zv x||true,x),(zv y||true,y),(zv w||true,w)]=_;rw[zyD,zyD,zyD];exact d),e,f⟩
def DZ(ha:WE a as x)(hg:g [(true,x)]=some (.lf s z)):WD (zq (aC a aN) g) as s z:=Zr (xZ ha zB) (by show g [(zv x||true,x)]=_;rw[zyD];exact hg)
def FI(ha:WE a as x)(hb:WE b as y)(hg:g [(true,x),(true,y)]=some (.lf s z)):WD (zq (aC a (aC b aN)) g) as s z:=Zr (xZ ha (xZ hb zB)) (by show g [(zv x||true,x),(zv y||true,y)]=_;rw[zyD,zyD];exact hg)
def HE(ha:WE a as x)(hb:WE b as y)(hg:g x y=some (.im z)):WD (f2 a b g) as true z:=by
 obtain⟨o,c,d,rfl⟩:=ha;obtain⟨p,e,f,rfl⟩:=hb;have:=pq c e hg;rw[d,f,Bool.and_true,zyD]at this;exact this
def jg(ha:WE a as x)(hb:WE b as y)(hg:g x y=some (.fl zs)):f2 a b g as=some (.ow (.nd .ls (zs.map (O.lf true))),as):=by
 obtain⟨o,c,d,rfl⟩:=ha;obtain⟨p,e,f,rfl⟩:=hb;exact Jc c e hg d f
theorem U8:∀zs:List D,O.strs (zs.map (O.lf true))=true
 | []=>rfl
 |_::r=>U8 r
theorem PH:∀zs:List D,O.toDs (zs.map (O.lf true))=zs
 | []=>rfl
 |z::r=>congrArg (z :: ·) (PH r)
def HQ(ha:WE a as x)(hb:WE b as y)(hg:g x y=some (.fl zs)):WE (f2 a b g) as (.lst zs):=⟨_,jg ha hb hg,U8 zs,congrArg D.lst (PH zs)⟩
def ZE(h:WE f as x)(hi:p<as.length):zy true p f as=some (.nx (as.set p (some (.lf true x)))):=by
 obtain⟨o,a,b,rfl⟩:=h;have:=JV a hi;rw[show o.frz = .lf true o.toD by unfold O.frz;rw[b]]at this;exact this
def ON(ha:WE a as x)(hb:WE b as y)(h:ZK 60 x y=some q):WD (f2 a b (zP .Eq)) as true (.bl q):=HE ha hb (by show(ZK 60 x y).bind _=_;rw[h];rfl)
def Fl(ha:WE a as x)(hb:WE b as y)(h:ZK 60 x y=some q):WD (f2 a b (zP .NotEq)) as true (.bl (!q)):=HE ha hb (by show(ZK 60 x y).bind _=_;rw[h];rfl)
def FD(ha:WE a as x)(hg:g [x]=some (.im z)):WD (fP (aC a aN) g) as true z:=EM (xZ ha zB) hg rfl
def Iw{fr:DF}{o:O}{os:List O}(ha:a as=some (.ow o,as))(hr:WO fr as os):WO (dC a fr) as (o::os):=vJ ha hr
def C_{fr:DF}{os:List O}(h:WO fr as os)(hl:os.length<=sizeLine):yR fr as=some (.ow (VR os),as):=by
 unfold yR;unfold WO at h;rw[h];show(if os.length<=sizeLine then some (RV.ow (VR os),as)else _)=_;rw[if_pos hl]
def Jd{fl fh:OF}{lo hi:Option Int}{g:D->Option Int->Option Int->Option R0}{zs:List D}(ha:WE a as y)(hl:fl as=some (lo,as))(hh:fh as=some (hi,as))(hg:g y lo hi=some (.fl zs)):WE (KZ a fl fh g) as (.lst zs):=by
 obtain⟨o,b,c,rfl⟩:=ha;refine⟨.nd .ls (zs.map (O.lf true)), ?_,U8 zs,congrArg D.lst (PH zs)⟩;unfold KZ;rw[b];show((fl as).bind _)=_;rw[hl];show((fh as).bind _)=_;rw[hh];show((g o.toD lo hi).bind _)=_;rw[hg];show(if(zs.all zv||(some o.str).isSome)=true then some (RV.ow (.nd .ls (zs.map (MZ ((some o.str).getD false)))))else none:Option RV).bind _=_;rw[if_pos (by simp),c];show some (RV.ow (.nd .ls (zs.map (MZ true))),as)=_;rw[Ux]
def CM:Ml (.lst (xs++ys)) (some (xs.length:Int)) none=some (.fl ys):=by
 show some (R0.fl (cutD (xs++ys) (some (xs.length:Int)) none))=_
 congr 2
 unfold cutD;rw[HT.UF,HT.KC,zzJ,Nat.min_eq_left (by omega),List.drop_left,List.take_of_length_le (by omega)]
theorem Pn:∀ds:List D,kids true ds=ds.map λd=>(true,d)
 | []=>rfl
 |d::r=>by show(zv d||true,d)::kids true r=_;rw[Pn r,zyD];rfl
def rY(h:WE f as (.lst ds)):wW f as=some (ds.map λd=>(true,d),as):=by
 obtain⟨o,a,b,c⟩:=h;unfold wW;rw[a];show(P8 (o.str,o.toD)).bind _=_;rw[b,c];show some (kids true ds,as)=_;rw[Pn]
def B3(h:WD f as true (.lst ds)):Xe f as=some (ds.map λd=>(true,d),as):=by
 unfold Xe;unfold WD at h;rw[h];show some (kids true ds,as)=_;rw[Pn]
end
section
variable{X:Cx}{kd:KD}
noncomputable def m_:D->Option R0
 | .str x=>if x.length<=640 then(PySem.intText? x).bind λn=>some (.im (.int n))else none
 |d=>la d
def LH:List D->Option R0:=uv m_
def Q5:Y0 X kd (.type "int") LH:=by
 intro c s σ H m e Q I r h;obtain⟨O,o,z,p,f,a,q⟩:=h;obtain⟨x,d,rfl,g,a⟩:=Pm f a;cases g with
 |str y=>
  obtain⟨j,a⟩:=ite_some' a;obtain⟨n,k,a⟩:=bS_ a;cases a;obtain⟨u,rfl,l⟩:=vals1 r;obtain⟨t,rfl⟩:=l;exact PySem.W.KIN.call_text k j ⟨.int _,H,I.tok _,⟨_,rfl⟩,yc q (.int _)⟩
 |int i=>cases a;exact Nn c s σ H _ e Q I r (.inl ⟨_,rfl,yc q (.int _)⟩)
 |bl b=>cases a;exact Nn c s σ H _ e Q I r (.inr ⟨_,rfl,yc q (.int _)⟩)
 |_=>cases a
end
section
variable{X:Cx}{pins:List (Addr×Obj)}{σ:List (Option V)}{H:Hp}{s:Shared}{h':Heap}
def Uw{t':Nat}{ch:List Addr}{T:Addr}{o:HO}(I:Inv X pins σ H s)(hf:∀b ∈ ch,Tf X pins H b)(k:∀b u,b ∉ ch->s.heap.get? b=some u->h'.get? b=some u)(hp:s.heap.objs.size<=T)
 (new:w9 X.prog X.w (upd H T o) h' T o):Inv X pins σ (upd H T o) {s with heap:=h',toks:=t'}:=by
 have hn:H T=none:=I.hok.fresh hp;have nT:∀b u,s.heap.get? b=some u->b≠T:=λb u e z=>absurd (zzK (zxI e) (by rw[z];exact hp)) (Nat.lt_irrefl _);have nc:∀b u,H b=some u->b ∉ ch:=λb u e z=>by have:=(hf b z).1;rw[e]at this;cases this
 refine I.step (g':=s.gens) (d':=s.drawn) (ch:=ch) (λb hb=>?_) (λb o _ _ hc e _=>k b o hc e) (λb o _ _ hc e _=>⟨o.slots,k b o hc e⟩) (λb o _ e n=>by rw[zF (nT b o e)];exact n)
  (λb o hc e=>⟨o,k b o hc e⟩) (λb xs e=>by rw[zF (zY e hn)];exact e) (λb o u e=>by rw[zF (zY e hn)];exact e) (λb ps e=>⟨#[],by rw[zF (zY e hn),e];simp⟩) (λm hm=>?_) (λb u e=>?_) I.bare
 . obtain⟨f0,f1,f2,f3,f4,f5⟩:=hf b hb;exact⟨f3,f1,f4,f5⟩
 . obtain⟨o,es,ep,ho,r⟩:=hm;exact⟨o,es,ep,k _ o (λz=>(hf _ z).2.1 rfl) ho,r⟩
 . by_cases hb:b=T
   . subst hb;rw[ya]at e;cases e;exact new
   . rw[zF hb]at e;refine(I.hok b u e).stay (λc v hc q=>k c v ?_ q) (λc q=>by rw[zF (zY q hn)];exact q) λc xs q=>by rw[zF (zY q hn)];exact q
     rcases hc with z|z
     . rw[z];exact nc b u e
     . exact nc c _ z
end
section
variable{as:AS}{f a b:EF}{s t:Bool}{x y z:D}
def sG(h:WE f as (.tup ds)):wW f as=some (ds.map λd=>(true,d),as):=by
 obtain⟨o,a,b,c⟩:=h;unfold wW;rw[a];show(P8 (o.str,o.toD)).bind _=_;rw[b,c];show some (kids true ds,as)=_;rw[Pn]
def u5:Ml (.lst (xs++ys)) none (some (xs.length:Int))=some (.fl xs):=by
 show some (R0.fl (cutD (xs++ys) none (some (xs.length:Int))))=_
 congr 2
 unfold cutD;rw[HT.UF,HT.KC,zzJ,Nat.min_eq_left (by omega),List.drop_zero,Nat.sub_zero,List.take_left]
end
def Kn{X:Cx}{pins:List (Addr×Obj)}{σ:List (Option V)}{H:Hp}{s:Shared}{h':Heap}{t':Nat}{ch:List Addr}(I:Inv X pins σ H s)(hf:∀b ∈ ch,Tf X pins H b)(k:∀b u,b ∉ ch->s.heap.get? b=some u->h'.get? b=some u):Inv X pins σ H {s with heap:=h',toks:=t'}:=by
 have nc:∀b u,H b=some u->b ∉ ch:=λb u e z=>by have:=(hf b z).1;rw[e]at this;cases this
 refine I.step (g':=s.gens) (d':=s.drawn) (ch:=ch) (λb hb=>?_) (λb o _ _ hc e _=>k b o hc e) (λb o _ _ hc e _=>⟨o.slots,k b o hc e⟩) (λb o _ e n=>n)
  (λb o hc e=>⟨o,k b o hc e⟩) (λb xs e=>e) (λb o u e=>e) (λb ps e=>⟨#[],by rw[e];simp⟩) (λm hm=>?_) (λb u e=>?_) I.bare
 . obtain⟨f0,f1,f2,f3,f4,f5⟩:=hf b hb;exact⟨f3,f1,f4,f5⟩
 . obtain⟨o,es,ep,ho,r⟩:=hm;exact⟨o,es,ep,k _ o (λz=>(hf _ z).2.1 rfl) ho,r⟩
 . refine(I.hok b u e).stay (λc v hc q=>k c v ?_ q) (λc q=>q) λc xs q=>q
   rcases hc with z|z
   . rw[z];exact nc b u e
   . exact nc c _ z
section
variable{X:Cx}{tg:Expr}
def S4(I l1 l2:Nat)(h1:l1<I)(h2:l2<I):ZipApart (I+4) (I+2) (I+3) I (I+1) l1 l2:=by
 constructor<;>(show(_:Nat)≠_;omega)
end
section
variable{X:Cx}{kd:KD}{tg e:Expr}{fa:EF}
noncomputable def VI(st:Bool):List D->List D->List xb
 |x::r,y::t=>(st,.tup [x,y])::VI st r t
 |_,_=>[]
theorem UM(st:Bool):∀(xs ys:List D),(VI st xs ys).length=min xs.length ys.length
 | [],_=>by simp[VI]
 |_::_,[]=>by simp[VI]
 |_::r,_::t=>by simp only[VI,zzT,UM st r t];omega
theorem Gn{st:Bool}:∀{xs ys:List D}{i:Nat}{y:xb},(VI st xs ys)[i]? = some y->∃d e,xs[i]? = some d/\ys[i]? = some e/\y=(st,.tup [d,e])
 | [],_,_,_,h=>by simp[VI]at h
 |_::_,[],_,_,h=>by simp[VI]at h
 |x::r,y::t,0,z,h=>by
  simp only[VI,List.getElem?_cons_zero]at h;cases h;exact⟨x,y,rfl,rfl,rfl⟩
 |x::r,y::t,i+1,z,h=>by
  simp only[VI,List.getElem?_cons_succ]at h;obtain⟨d,e,h1,h2,h3⟩:=Gn h;exact⟨d,e,by simpa using h1,by simpa using h2,h3⟩
end
def Aw{K:zzA}{kd:KD}{O:Addr->Prop}{H:Hp}{vs:List V}{us:List Value}{ds:List D}{ns:List Int}(h:RpL K kd O H vs ds)(hv:zO vs us)(e:XT ds=some ns):IntsAre us ns:=
 RpL.ind (P:=λvs ds=>∀us ns,zO vs us->XT ds=some ns->IntsAre us ns) (λus ns hv e=>by cases e;cases hv;exact .nil) (λ{v d vs ds} a _ ih us ns hv e=>by
  cases hv with
  |cons b t=>
   cases a with
   |int x=>
    obtain⟨ys,h1,h2⟩:=bS_ (show(XT _).bind _=_ from e);cases h2;obtain⟨tk,rfl⟩:=b;exact .cons _ _ (ih _ _ t h1)
   |_=>cases e) h us ns hv e
noncomputable def Tg(f:D->Option Bool):List D->Option Nat
 | []=>none
 |x::r=>(f x).bind λb=>if b=true then(anyF f r).bind λ_=>some 0 else(Tg f r).bind λj=>some (j+1)
def Ba(d:D):List D->Option R0:=uv λx=>(SD d).bind λds=>(Tg (λy=>ZK 50 y x) ds).bind λj=>if ds.length<=1000 then some (.im (.int j))else none
theorem EZ:∀{ds:List D}{j:Nat},Tg f ds=some j->∀d ∈ ds,∃c,f d=some c
 | [],_,h,_,m=>nomatch m
 |x::r,j,h,d,m=>by
  obtain⟨b,e,h⟩:=bS_ (show(f x).bind _=_ from h)
  rcases zzC.mp m with rfl|m
  . exact⟨b,e⟩
  . cases b with
    |true=>
     obtain⟨c,a,_⟩:=bS_ (show(anyF f r).bind _=_ from h);exact X0 a d m
    |false=>
     obtain⟨k,a,_⟩:=bS_ (show(Tg f r).bind _=_ from h);exact EZ a d m
section
variable{X:Cx}{kd:KD}{pins:List (Addr×Obj)}{σ:St}{H:Hp}{s:Shared}{O:Addr->Prop}
def Ae(I:Inv X pins σ H s)(hk:KdOk X kd)(hv:zO vs us)(h:RpL X.K kd O H vs ds)(e:Tg (λy=>ZK n y x) ds=some j):∃h:j<us.length,MV X.K kd O H n x us[j]=true/\∀m (hm:m<us.length),m<j->MV X.K kd O H n x us[m]=false:=
 RpL.ind (P:=λvs ds=>∀us j,zO vs us->Tg (λy=>ZK n y x) ds=some j->∃h:j<us.length,MV X.K kd O H n x us[j]=true/\∀m (hm:m<us.length),m<j->MV X.K kd O H n x us[m]=false) (λus j hv e=>by cases e) (λ{v d vs ds} a _ ih us j hv h=>by
  cases hv with
  |cons r t=>
   obtain⟨b,h1,h⟩:=bS_ (show(ZK n _ x).bind _=_ from h);cases b with
   |true=>
    obtain⟨c,h2,h3⟩:=bS_ (show(anyF _ _).bind _=_ from h);cases h3;exact⟨by simp,N1 I hk r a h1,λm hm hlt=>by omega⟩
   |false=>
    obtain⟨k,h2,h3⟩:=bS_ (show(Tg _ _).bind _=_ from h);cases h3;obtain⟨hk',e1,e2⟩:=ih _ _ t h2;refine⟨by simpa using hk',by simpa using e1,λm hm hlt=>?_⟩;cases m with
    |zero=>exact N1 I hk r a h1
    |succ m=>simpa using e2 m (by simpa using hm) (by omega)) h us j hv e
def HZ(hk:KdOk X kd)(hu:X.A.units+100<cLine):ky X kd "list.index" Ba:=by
 intro k s σ H x Y v Z Q I C r h;obtain⟨O,d,ds,r0,ht,D,E,a,q⟩:=h;obtain⟨y',y,rfl,G,a⟩:=Pm E a;obtain⟨es,J,b⟩:=bS_ (show(SD d).bind _=_ from a);cases Rr J
 . obtain⟨j,l,a⟩:=bS_ b;obtain⟨hz,a⟩:=zt a;cases a;obtain⟨u,rfl,L⟩:=vals1 r;cases D with
   |lst M c=>
    cases C;obtain⟨e,f,N,_⟩:=I.list M.sq;obtain⟨⟨cls,P,o,R⟩,p,t,n,z⟩:=N.isList;simp only at t z;subst t z;obtain⟨S,T,U⟩:=Ae I hk f c l;have B:=f.length;have g:=c.length;refine call_meets PySem.F.slot_list_index ⟨_,p,rfl⟩ PySem.F.entry_list_index (PySem.F.args_list_index_2 _ _)
     (SeqAt.list_indexAt _ e.toArray n P R _ (MV X.K kd O H 50 y) j (by simpa using S) (by omega) (by simpa using T) (λm V i=>by simpa using U m (by simpa using V) i))
     ⟨p,λw W=>Uu I hk (by show X.A.units+1+50<cLine;omega) G L f c (EZ l) w (by simpa using W),⟨.int j,H,I.tok _,⟨_,rfl⟩,yc q (.int _)⟩⟩
end
theorem P_:∀{vs:List V}{us:List Value},vs.length=us.length->(∀(i:Nat) v u,vs[i]? = some v->us[i]? = some u->RelV v u)->zO vs us
 | [],[],_,_=>.nil
 | [],_::_,h,_=>by simp at h
 |_::_,[],h,_=>by simp at h
 |v::c,u::d,h,k=>.cons (k 0 v u rfl rfl) (P_ (by simpa using h) λi a b x y=>k (i+1) a b (by simpa using x) (by simpa using y))
section
variable{X:Cx}{tg:Expr}
def qb(ta:TA):TE:=λσ H Q=>ta σ H λvs H1=>∃j:Int,vs=[.int j] /\ -(2 ^ 62)<=j/\j<2 ^ 62/\∀r,H1 r=none->Q (.ref r) (upd H1 r (.rng 0 j))
def Cp(hg:Gl X "range")(hm:X.mg "range"=none)(ha:PA X [a] ta)(hs:starEach [a] X.env=[(false,eval a X.env)]):PE X (.Call (.Name "range" p) [a] [] pos) (qb ta):=by
 intro c s σ H Q I h;refine Call_ (Wm I hg hm boot_range (PyProof.Rows.callWith_type1 (wF (ha pos c s σ H _ I h) λl f ⟨m,n,d,g,i⟩=>?_) hs rfl));obtain⟨j,e,u,v,q⟩:=i;subst e;cases g with
 |cons r k=>
  cases k;obtain⟨t,rfl⟩:=r;exact call_range_1 ⟨.ref f.heap.objs.size,_,d.laid (λb o e=>zxH _ e) (zzN _) (show w9 X.prog X.w _ _ _ (.rng 0 j)from⟨_,_,_,zxJ _ rfl⟩),rfl,q _ (d.hok.fresh (zzN _))⟩
def jj(ta:TA):TE:=λσ H Q=>DQ (qb ta) pU σ H λvs H2=>∃r H1,∃j:Int,vs=[.ref r]/\H1 r=none/\H2=upd H1 r (.rng 0 j)/\0<=j/\j<=100000/\∀l,H2 l=none->Q (.ref l) (upd H2 l (.lst ((List.range j.toNat).map λ(i:Nat)=>V.int i)))
def Hm(hc:X.calm=true)(hg:Gl X "range")(hm:X.mg "range"=none)(hgl:Gl X "list")(hml:X.mg "list"=none)(ha:PA X [a] ta)(hs:starEach [a] X.env=[(false,eval a X.env)])
 (hs':starEach [.Call (.Name "range" p) [a] [] pos] X.env=[(false,eval (.Call (.Name "range" p) [a] [] pos) X.env)]):PE X (.Call (.Name "list" p') [.Call (.Name "range" p) [a] [] pos] [] pos') (jj ta):=by
 intro b s σ H Q I h;refine Call_ (Wm I hgl hml Bt.list (PyProof.Rows.callWith_type1 (wF ((WH (Cp hg hm ha hs) Rq hs') pos' b s σ H (λD g=>∃r o,∃j:Int,D=[.ref r]/\o r=none/\g=upd o r (.rng 0 j)/\0<=j/\j<=100000/\∀l,g l=none->Q (.ref l) (upd g l (.lst ((List.range j.toNat).map λ(i:Nat)=>V.int i)))) I ?_) λP E ⟨D,g,m,F,G⟩=>?_) hs' rfl))
 . exact h
 obtain⟨r,o,j,rfl,R,rfl,S,T,q⟩:=G;cases F with
 |cons J K=>
  cases K;cases J;obtain⟨t,u,v,L⟩:=m.hok r _ (ya ..);have z:Builtin.Range.rangeSize 0 j 1=(j.toNat:Nat):=by rw[rangeSize_one];split<;>omega
  refine call_list_range (m.ok.hd hc) L (small_one (by omega) (by omega) (by omega) (by omega)) (n:=j.toNat) (by exact_mod_cast z) (by omega) λU W A M N B c=>?_;refine⟨.ref E.heap.objs.size,_,m.laid N (zzN _) (show w9 X.prog X.w _ _ _ (.lst ((List.range j.toNat).map λ(i:Nat)=>V.int i))from⟨?_,A.toList,M, ?_,by simpa using B⟩),rfl,q _ (m.hok.fresh (zzN _))⟩
  . rw[zzB,zyU];exact zzO (show j.toNat<=100000 by omega) (by decide)
  . refine P_ (by rw[zzB,zyU];simpa using c.1.symm) λi x y d O=>?_;rw[zzI]at d;obtain⟨C,e⟩:=c.2 i y (by simpa using O);cases hr:(List.range j.toNat)[i]? with
    |none=>rw[hr]at d;cases d
    |some k=>
     rw[hr]at d;obtain⟨_,f⟩:=zzG.mp hr;rw[List.getElem_range]at f;subst f;cases d;exact⟨C,by rw[e];simp⟩
end
section
variable{X:Cx}{kd:KD}
noncomputable def ll:List D->Option R0
 | [.int j]=>if 0<=j/\j<=100000 then some (.fl ((List.range j.toNat).map λ(i:Nat)=>.int i))else none
 |_=>none
theorem BK{K:zzA}{O:Addr->Prop}{H:Hp}:∀l:List Nat,RpL K kd O H (l.map λ(i:Nat)=>V.int i) (l.map λ(i:Nat)=>D.int i)
 | []=>.nil
 |y::r=>.cons (.int y) (BK r)
def Hf(hc:X.calm=true)(hg:Gl X "range")(hm:X.mg "range"=none)(hgl:Gl X "list")(hml:X.mg "list"=none)(ha:AA X kd [a] fr)(hs:starEach [a] X.env=[(false,eval a X.env)])
 (hs':starEach [.Call (.Name "range" p) [a] [] pos] X.env=[(false,eval (.Call (.Name "range" p) [a] [] pos) X.env)]):AE X kd (.Call (.Name "list" p') [.Call (.Name "range" p) [a] [] pos] [] pos') (fP fr ll):=by
 with_unfolding_all exact(yu (Hm hc hg hm hgl hml ha hs hs') λσ H Q h=>by
  obtain⟨F,B,y,as,r,A,R,e,q⟩:=h;obtain⟨⟨C,d⟩,D,e⟩:=bS_ (show(fr as).bind _=_ from e);obtain⟨⟨E,Z⟩,f,e⟩:=bS_ e;obtain⟨G,g,e⟩:=bS_ e;obtain⟨z,I,e⟩:=bS_ e;cases e
  match E,g,f with
  | [.int j],g,f=>
   obtain⟨⟨J,L⟩,M⟩:=zt (show(if 0<=j/\j<=100000 then some (R0.fl ((List.range j.toNat).map λ(i:Nat)=>.int i))else none)=some G from g);cases M;refine(show IH X.K kd fr σ H _ from⟨F,B,y,as,C,d,R,D,λvs k u v m N=>?_⟩);have O:=Qa v m f;have P:=Yo v I (Q:=Q) λw S T U n V=>q w S k T U n (N.trans V);cases O with
   |cons W Y=>
    cases Y;cases W;refine⟨j,rfl,by omega,by omega,λr x=>⟨r,u,j,rfl,x,rfl,J,L,λl c=>?_⟩⟩;have s:l≠r:=λe=>by rw[e,ya]at c;cases c
    have t:u l=none:=by rw[zF s]at c;exact c
    exact P l _ _ t (λb o q=>wa c b o (wa x b o q)) ya (BK _))
end
def Xk(n:Nat)(os:List O):AS:=os.map some++List.replicate (n-os.length) none
theorem Sr:∀(ls:List O) {vs:List V}{fp:List Addr},ls.all O.isLf=true->RoL L N H vs ls fp->fp=[]
 | [],_,_,_,r=>by cases r;rfl
 |o::ls,_,_,h,r=>by
  rw[List.all_cons,zyC]at h;cases r with
  |cons a r=>
   cases a with
   |lf _=>rw[Sr ls h.2 r];rfl
   |_=>exact absurd h.1 (by simp[O.isLf])
def Je(h:RoL L N H vs ls fp):vs.length=ls.length:=RoL.length h
theorem B6:∀(ls:List O) {vs:List V}{fp:List Addr}{i:Nat}{o:O},ls.all O.isLf=true->RoL L N H vs ls fp->ls[i]? = some o->∃v,vs[i]? = some v/\Ro L N H v o []
 | [],_,_,_,_,_,_,e=>by simp at e
 |d::ls,_,_,i,o,h,r,e=>by
  rw[List.all_cons,zyC]at h;cases r with
  |cons a r=>
   cases i with
   |zero=>
    simp at e;subst e;cases a with
    |lf z=>exact⟨_,rfl,.lf z⟩
    |_=>exact absurd h.1 (by simp[O.isLf])
   |succ i=>
    obtain⟨v,b,c⟩:=B6 ls (i:=i) h.2 r (by simpa using e);exact⟨v,by simpa using b,c⟩
def GN{K:zzA}{kd:KD}{F:Addr->Prop}{T:List Addr}{H:Hp}{N:List Str}{vs:List V}{o:O}{ls:List O}(ht:∀a,F a->H a≠none)(hn:T.Nodup)(hT:∀a ∈ T,H a≠none/\¬F a)(hl:ls.all O.isLf=true)(hN:(o::ls).length<=N.length)(ro:vB K kd F (λ_=>False) (· ∈ T) H vs (o::ls) T):
 Rel K kd F (λ_=>False) [] (λi=>if i=0 then T else[]) (Xk N.length (o::ls)) (L2.start N vs) H:=by
 have b:=Je ro;have n:∀a,Gw [] (λi=>if i=0 then T else[]) a ↔ a ∈ T:=λa=>⟨λz=>z.elim (λy=>nomatch y) λ⟨i,y⟩=>by
  by_cases e:i=0
  . subst e;simpa using y
  . simp[e]at y,λz=>.inr ⟨0,by simpa using z⟩⟩
 have p:∀f a,Lv F (λ_=>False) (Gw [] (λi=>if i=0 then T else[])) f a->Lv F (λ_=>False) (· ∈ T) f a:=λf a z=>z.imp id (n a).mp;refine⟨by unfold Xk L2.start;simp[b];omega,λi c=>?_,λi=>?_,λi j a x y=>?_,zyJ,(λ_ _ _ z=>nomatch z),ht,(λ_ z=>z.elim),λa z=>hT a ((n a).mp z),λi s e=>?_⟩
 . have:i≠0:=λz=>by subst z;unfold Xk at c;simp at c
   simp[this]
 . by_cases e:i=0
   . subst e;simpa using hn
   . simp[e]
 . have g:i=0:=by
    by_cases e:i=0
    . exact e
    . simp[e]at x
   have h:j=0:=by
    by_cases e:j=0
    . exact e
    . simp[e]at y
   rw[g,h]
 . unfold Xk at e;unfold L2.start
   by_cases c:i<(o::ls).length
   . rw[zyP (by rw[zzB];exact c),zzI]at e;obtain⟨d,k,l⟩:=zzX.mp e;subst l;rw[zyP (by rw[zzB,b];exact c),zzI];cases ro with
     |cons a r=>
      rename_i v q A t;have u:t=[]:=Sr ls hl r;subst u;cases i with
      |zero=>
       simp at k;subst k;exact⟨v,rfl,by simpa using ZN.lv p a⟩
      |succ i=>
       obtain⟨w,g,h⟩:=B6 ls hl r (show ls[i]? = some d by simpa using k);exact⟨w,by simp[g],by simpa using ZN.lv p h⟩
   . rw[zyR (by rw[zzB];omega)]at e;have:=zyA e;have l:s=none:=(List.mem_replicate.mp this).2;subst l;have m:i≠0:=λz=>by subst z;exact c (by simp)
     show(if i=0 then T else[])=[];rw[if_neg m]
section
variable{K:zzA}{kd:KD}{F B G:Addr->Prop}{H:Hp}
theorem EI{L:Bool->V->D->Prop}{N:Addr->Prop}{v:V}{st:Bool}{d:D}(h:L st v d):∀(os:List O) {vs:List V}{fp:List Addr},RoL L N H vs os fp->RoL L N H (vs++[v]) (os++[.lf st d]) fp
 | [],_,_,r=>by cases r;exact .cons (.lf h) .nil
 |o::b,_,_,r=>by
  cases r with
  |cons a r=>
   exact .cons a (EI h b r)
end
def Nz:typeLookup (.type "list") "keys"=pure none:=am_miss_of_fast (by decide +kernel)
def Fz
 (hx:s.heap.get? a=some o) (hc:o.cls = .type "list") (hdat:o.data = .seq xs k) (hd:o.dict=none) (hA:A.handled=none)
 (h:∀h' tk,(∀b o,s.heap.get? b=some o->h'.get? b=some o)->Q none {s with heap:=h',toks:=tk}):
 wpAny (model prog w) A (getAttr? (.ref a) "keys") Q E s:=by
 obtain⟨c,dct,dat,sl⟩:=o;simp only at hc hdat hd;subst hc hdat hd;obtain⟨hp,g,d,tk,os⟩:=s;have hT:∀tk',(⟨hp,g,d,tk',os⟩:Shared).TypeIs (.ref a) "list":=λ_=>⟨_,hx,rfl⟩;have f1:=sub_AttributeError;have f3:=F.slot_list_getattribute.lookup;have f4:=F.slot_list_getattribute.bind (.ref a);have f5:=am_list_getattr_none;unfold getAttr? getAttrBy? getAttrBy
 repeat (any_goals (first|assumption|exact hT _|((with_reducible show wpAny _ _ (call (Value.builtin "list.__getattribute__") _ _) _ _ _);refine call_meets F.slot_list_getattribute (hT _) am_entry_list_getattribute (F.args_list_getattribute_2 _ _) (meets_getattribute_miss_list a xs k sl "keys" _ Nz (by decide +kernel)) ⟨hx,hA,λh' tk' e hx'=>?_⟩)|wp_step))
 obtain⟨t',u',he⟩:=hx'.there;show wpAny _ _ (getattributeRaised _ _ _ _ _ _ _) _ _ _;unfold getattributeRaised
 repeat (any_goals (first|assumption|wp_step))
 exact h _ _ hx'.keeps
def vR:plainId "dict.update.loop"=true:=by decide +kernel
theorem Vu:entryFor table "dict.update.loop"=some Builtin.«dict.update.loop» := entryFor_of_fast (by kernel_rfl)
section
variable{prog:Program}{w:World}{κ:Type}[DecidableEq κ]{knd:KeyKind prog w κ}{A:Around}{R:Result->Shared->Prop}{d I l:Addr}{items:Array Value}{N:Nat}
def putAll(kvs:List (κ×Value)):List (κ×Value)->List (κ×Value)
 | []=>kvs
 |p::r=>putAll (stored kvs p.1 p.2) r
def Bm(kvs:List (κ×Value))(k:κ)(v:Value):(stored kvs k v).length<=kvs.length+1:=by
 unfold stored
 split
 . rw[zzB];omega
 . rw[zzJ];exact zzN _
def OU(hh:A.handled=none)(hdN:N<=d)(hIN:N<=I)(hdI:d≠I)(hlN:l<N):∀(rest:List (κ×Value)) (i:Nat) (s:Shared) (kvs:List (κ×Value)),s.heap.IsListIter I l i->s.heap.IsList l items->s.heap.DictOf knd d kvs->kvs.length+rest.length<=sizeLine->
 (∀j p,rest[j]? = some p->∃q key,items[i+j]? = some (.ref q)/\q<N/\IsTup s.heap q #[key,p.2]/\knd.is p.1 key=true)->items[i+rest.length]? = none->
 (∀h' tk,h'.DictOf knd d (putAll kvs rest)->(∀b o,b<N->s.heap.get? b=some o->h'.get? b=some o)->R (.ok (.ret .none)) {s with heap:=h',toks:=tk})->
 codeAny (model prog w) A (.builtin "dict.update.loop" ⟨[.ref d,.ref I,rawInt i,.none],[]⟩) R s:=by
 intro rest
 induction rest with
 |nil=>
  intro i s kvs hit hl hm hz hp he hR;refine codeAny_builtin Vu ?_;rw[Around.under_plainId vR _];show wpAny _ A.in1 (pyNext (.ref I) >>= _) _ _ s;refine zxF (wpAny_pyNext_list_end hh hit hl he λh' hx=>?_);show wpAny _ _ (Builtin.Dict.addKeywords d [] >>= _) _ _ _;refine zxF (zxG (zxG ?_));obtain⟨o,es,ep,ho,r⟩:=hm;exact hR h' s.toks ⟨o,es,ep,hx d o hdI ho,r⟩ λb o hb e=>hx b o (zzQ (zzK hb hIN)) e
 |cons p rest ih=>
  intro i s kvs hit hl hm hz hp he hR;obtain⟨q,key,hq,hqN,ht,hkey⟩:=hp 0 p rfl;refine codeAny_builtin Vu ?_;rw[Around.under_plainId vR _];show wpAny _ A.in1 (pyNext (.ref I) >>= _) _ _ s;refine zxF (wpAny_pyNext_list_item hit hl hq λh' hit' hs=>?_);have sm:∀b o,b≠I->s.heap.get? b=some o->h'.get? b=some o:=λb o hb e=>(hs.2 b hb).trans e;obtain⟨oq,hoq,hcq,nq,hdq⟩:=ht;have hoq':=sm q oq (zzQ (zzK hqN hIN)) hoq;have hm':h'.DictOf knd d kvs:=let⟨o,es,ep,ho,r⟩:=hm;⟨o,es,ep,sm d o hdI ho,r⟩;have hl':h'.IsList l items:=let⟨o,ho,r⟩:=hl;⟨o,sm l o (zzQ (zzK hlN hIN)) ho,r⟩;have hT:({s with heap:=h'}:Shared).TypeIs (.ref q) "tuple":=⟨oq,hoq',hcq⟩;show wpAny _ _ (holding [.ref q] _ >>= _) _ _ _;refine zxF (zxL (zxF (wpAny_tryCatch ?_)));unfold Builtin.Dict.pairItems;refine zxF (wpAny_typeOf hT ?_);show wpAny _ _ (if(Value.type "tuple"==Value.type "list"||Value.type "tuple"==Value.type "tuple")=true then _ else _) _ _ _;rw[if_pos (by decide)];refine zxF (wpAny_seqItems hoq' hdq (zxG ?_));show wpAny _ _ (holding [key,p.2] (dictSet d key p.2)) _ _ _;refine zxL (wpAny_dictSet_pairs (hsz:=by simp only[zzT]at hz;omega) hkey hm' λh'' hm'' hs''=>?_);have sm2:∀b o,b≠d->h'.get? b=some o->h''.get? b=some o:=λb o hb e=>(hs''.2 b hb).trans e;refine zxG ⟨plainId_quiet vR _, ?_⟩;have hit'':h''.IsListIter I l (i+1):=let⟨o,ho,r⟩:=hit';⟨o,sm2 I o (Ne.symm hdI) ho,r⟩;have hl'':h''.IsList l items:=let⟨o,ho,r⟩:=hl';⟨o,sm2 l o (zzQ (zzK hlN hdN)) ho,r⟩;have keep:∀b o,b<N->s.heap.get? b=some o->h''.get? b=some o:=λb o hb e=>sm2 b o (zzQ (zzK hb hdN)) (sm b o (zzQ (zzK hb hIN)) e);have:=ih (i+1) {s with heap:=h'',toks:=s.toks+1} (stored kvs p.1 p.2) hit'' hl'' hm'' (by have:=Bm kvs p.1 p.2;simp only[zzT]at hz;omega)
   (λj p' hj=>by
    obtain⟨q',key',a1,a2,⟨o',a3,a4⟩,a5⟩:=hp (j+1) p' (by simpa using hj);exact⟨q',key',by rw[show i+1+j=i+(j+1) by omega];exact a1,a2,⟨o',keep q' o' a2 a3,a4⟩,a5⟩)
   (by rw[show i+1+rest.length=i+(p::rest).length by simp only[zzT];omega];exact he)
   (λh3 tk hm3 k3=>hR h3 tk hm3 λb o hb e=>k3 b o hb (keep b o hb e))
  exact this
end
def Ks{prog:Program}{w:World}{κ:Type}[DecidableEq κ]{knd:KeyKind prog w κ}{A:Around}{E:Value->Shared->Prop}{s:Shared}{l:Addr}{o:Obj}{items:Array Value}{n:Nat}{ps:List (κ×Value)}{Q:Value->Shared->Prop}(hh:A.handled=none)
 (ho:s.heap.get? l=some o) (hc:o.cls = .type "list") (hd:o.data = .seq items n) (hn:o.dict=none) (hsz:ps.length<=sizeLine)
 (hp:∀(j:Nat) (p:κ×Value),ps[j]? = some p->∃(q:Addr) (key:Value),items[j]? = some (Value.ref q)/\IsTup s.heap q #[key,p.2]/\knd.is p.1 key=true) (he:items[ps.length]? = none)
 (h:∀h' tk,h'.DictOf knd s.heap.objs.size (putAll [] ps)->(∀b o,s.heap.get? b=some o->h'.get? b=some o)->Q (.ref s.heap.objs.size) {s with heap:=h',toks:=tk}):wpAny (model prog w) A (call (.type "dict") [.ref l]) Q E s:=by
 refine callType_codes (Q₁:=λd z=>d = .ref s.heap.objs.size/\z={s with heap:=s.heap.push {cls:=.type "dict",data:=.dict #[]}}) F.kt_called_dict (F.kt_typeCall_dict_1 _) F.entry_dict_init (kt_code_dict_new _ ⟨rfl,rfl⟩) ?_
 rintro d z ⟨rfl,rfl⟩
 have a:(s.heap.push {cls:=.type "dict",data:=.dict #[]}).DictOf knd s.heap.objs.size []:=Heap.DictOf.new s.heap;have f:∀b o,s.heap.get? b=some o->(s.heap.push {cls:=.type "dict",data:=.dict #[]}).get? b=some o:=λb o e=>zxH _ e;have C:({s with heap:=s.heap.push {cls:=.type "dict",data:=.dict #[]}}:Shared).TypeIs (.ref l) "list":=⟨o,f l o ho,hc⟩;refine⟨a.typeIs,F.args_dict_init_2 _ _, ?_⟩;unfold Builtin.«dict.__init__»;refine zxF ?_;unfold Builtin.Dict.selfAndRest;refine zxF (wpAny_notOrdered_dict a.typeIs ?_);show wpAny _ _ (pure (s.heap.objs.size,[Value.ref l])) _ _ _;refine zxG ?_;show wpAny _ _ (Builtin.Dict.updateFrom "dict.__init__" s.heap.objs.size (.ref l) [] .none) _ _ _;unfold Builtin.Dict.updateFrom;refine zxF (wpAny_typeOf C ?_);rw[if_pos (by decide)];refine zxF (Fz (f l o ho) hc hd hn hh λg v i=>?_);rw[if_pos (by decide)];refine zxF (wpAny_rule ?_);have k:=i l o (f l o ho);have x:g.IsList l items:=⟨o,k,hc,n,hd⟩;refine zxF (wpAny_pyIter_list x ?_);have t:∀b o,g.get? b=some o->(g.push {cls:=.type "list_iterator",data:=.fields #[.ref l,.int 0 0]}).get? b=some o:=λb o e=>zxH _ e;have m:s.heap.objs.size<g.objs.size:=by
  obtain⟨u,_,_,c,_⟩:=a;exact zxI (i _ _ c)
 refine zxG ⟨plainId_quiet vR _, ?_⟩;refine OU (A:=A.in1) (N:=s.heap.objs.size) (knd:=knd) (items:=items) hh (zzN _) (Nat.le_of_lt m) (zzQ m) (zxI ho) ps 0 {s with heap:=g.push {cls:=.type "list_iterator",data:=.fields #[.ref l,.int 0 0]},toks:=v} [] ⟨_,zxJ _ rfl,rfl,rfl⟩ ⟨o,t l o k,hc,n,hd⟩ ?_ (by rw[List.length_nil];omega) (λj p D=>?_) (by rw[zyX];exact he) (λG H I J=>?_)
 . obtain⟨u,K,L,c,r⟩:=a;exact⟨u,K,L,t _ _ (i _ _ c),r⟩
 . obtain⟨q,y,M,⟨u,B,O⟩,P⟩:=hp j p D;exact⟨q,y,by rw[zyX];exact M,zxI B,⟨u,t _ _ (i _ _ (f _ _ B)),O⟩,P⟩
 . exact⟨rfl,h G H I λb o e=>J b o (zxI e) (t _ _ (i _ _ (f _ _ e)))⟩
noncomputable def QX:List D->Option (List (Key×D))
 | []=>some []
 |d::r=>(rV d).bind λl=>(t7 l).bind λp=>(H_ p.1).bind λk=>(QX r).bind λt=>some ((k,p.2)::t)
noncomputable def lI:D->Option R0
 | .dct kvs=>some (.fd kvs)
 | .lst ds=>(QX ds).bind λkvs=>if(kvs.map (·.1)).Nodup then some (.fd kvs)else none
 |_=>none
def L_:List D->Option R0:=uv lI
theorem Kq[DecidableEq κ]:∀(ps acc:List (κ×Value)),((acc++ps).map (·.1)).Nodup->putAll acc ps=acc++ps
 | [],a,_=>(zyE a).symm
 |p::r,a,h=>by
  have b:stored a p.1 p.2=a++[p]:=by
   unfold stored;rw[if_neg];rw[zyM,zyS]at h;obtain⟨_,_,c⟩:=zxE.mp h;intro z;obtain⟨q,m,e⟩:=List.any_eq_true.mp z;exact c q.1 (List.mem_map_of_mem m) p.1 (zzF ..) (of_decide_eq_true e)
  show putAll (stored a p.1 p.2) r=_;rw[b,Kq r (a++[p]) (by rw[zxC];exact h),zxC];rfl
section
variable{X:Cx}{kd:KD}{O:Addr->Prop}{pins:List (Addr×Obj)}{σ:St}{H:Hp}{s:Shared}
theorem KJ(I:Inv X pins σ H s):∀{vs:List V}{us:List Value}{ds:List D}{dk:List (Key×D)},RpL X.K kd O H vs ds->zO vs us->QX ds=some dk->
 ∃(kvs:List (Key×V)) (ps:List (Key×Value)),KV kvs ps/\RpM X.K kd O H kvs dk/\ps.length=us.length/\ps.map (·.1)=dk.map (·.1)/\kvs.length=ps.length/\
  ∀(j:Nat) (p:Key×Value),ps[j]? = some p->∃(q:Addr) (key:Value),us[j]? = some (Value.ref q)/\IsTup s.heap q #[key,p.2]/\(wo X.prog X.w).is p.1 key=true
 |_,_,[],_,b,r,e=>by
  cases b;cases r;cases e;exact⟨[],[],.nil,.nil,rfl,rfl,rfl,λj p h=>by simp at h⟩
 |_,_,d::i,dk,b,r,e=>by
  cases b with
  |cons l b=>
   rename_i v vs;cases r with
   |cons m r=>
    rename_i u us;obtain⟨l0,n,o⟩:=bS_ (show(rV d).bind _=_ from e);obtain⟨⟨k,dv⟩,x,y⟩:=bS_ o;cases Ow n;cases MY x
    . obtain⟨c,z,e⟩:=bS_ y;obtain⟨t,A,e⟩:=bS_ e;cases e;obtain⟨f,B,C,E,F,G,J,L⟩:=KJ I (ds:=i) (dk:=t) b r A;cases l.vw with
      | tup M N a=>
            rename_i q ws;cases a with
            |cons P a=>
             cases a with
             |cons Q a=>
              cases a;rename_i R g;have S:=Ir P.vw z;subst S;obtain⟨T,U,W,_⟩:=I.tuple N;obtain⟨Y,Z,rfl,r1,r2⟩:=vals2 U;cases m;refine⟨(c,g)::f,(c,Z)::B,.cons ⟨rfl,r2⟩ C,.cons Q E,congrArg (· + 1) F,congrArg (c :: ·) G,congrArg (· + 1) J,λj p h=>?_⟩;cases j with
              |zero=>
               simp at h;subst h;exact⟨q,Y,rfl,W,Si r1⟩
              |succ j=>simpa using L j p (by simpa using h)
def Kb(hc:X.calm=true)(hk:KdOk X kd):Y0 X kd (.type "dict") L_:=by
 intro c s σ H xs A Q I r h;obtain⟨O,ds,z,B,C,b,q⟩:=h;obtain⟨x,d,rfl,D,b⟩:=Pm C b;cases D with
 |dct e E=>exact Sw hk c s σ H _ A Q I r ⟨O,[.dct _],z,B,.cons (.dct e E) .nil,b,q⟩
 |lst e F=>
  obtain⟨dk,G,b⟩:=bS_ (show(QX _).bind _=_ from b);obtain⟨J,b⟩:=zt b;cases b;obtain⟨u,rfl,K⟩:=vals1 r;cases K;obtain⟨L,m,⟨o,n,M,f,g,i⟩,hz⟩:=I.list e.sq;obtain⟨k,t,N,P,R,S,a5,T⟩:=KJ I F m G;have v:=m.length;refine Ks (knd:=wo X.prog X.w) (ps:=t) (I.ok.hd hc) M f i g (by omega) (λj p U=>?_) (by rw[R];simp) λh' V y W=>?_
  . obtain⟨Y,l,Z,b2,b3⟩:=T j p U;exact⟨Y,l,by simpa using Z,b2,b3⟩
  . rw[Kq t [] (by rw[List.nil_append,S];exact J),List.nil_append]at y;exact⟨.ref _,_,I.laid (a:=s.heap.objs.size) (o:=.dK k) (t':=V) W (zzN _) (C3 (by omega) (beq_eq_false_iff_ne.mpr (Ne.symm (zzQ I.big))) N y),rfl,CA q P _ (I.hok.fresh (zzN _))⟩
 |_=>cases b
end
noncomputable def IL:List D->Option R0
 | [.int i,.int j]=>if 0<j/\j<1073741824 then some (.im (.tup [.int (i/j),.int (i%j)]))else none
 |_=>none
def jV{α:Type}{P:List α->Prop}(h:∀a,P [a]):∀us:List α,us.length=1->P us
 | [a],_=>h a
def jf{α:Type}{P:List α->Prop}(h:∀a b,P [a,b]):∀us:List α,us.length=2->P us
 | [a,b],_=>h a b
def jm{α:Type}{P:List α->Prop}(h:∀a b c,P [a,b,c]):∀us:List α,us.length=3->P us
 | [a,b,c],_=>h a b c
def jQ{α:Type}{P:List α->Prop}(h:∀a b c d,P [a,b,c,d]):∀us:List α,us.length=4->P us
 | [a,b,c,d],_=>h a b c d
def jn{α:Type}{P:List α->Prop}(h:∀a b c d e,P [a,b,c,d,e]):∀us:List α,us.length=5->P us
 | [a,b,c,d,e],_=>h a b c d e
section
variable{X:Cx}{kd:KD}
def Hj:Y0 X kd (.builtin "divmod") IL:=by
 intro a s σ H j c Q I r h;obtain⟨O,k,z,d,e,b,q⟩:=h;unfold IL at b
 split at b
 . obtain⟨f,rfl⟩:=zt b;obtain⟨x,y,rfl,g,i⟩:=Se e;cases g;cases i;exact E5 a s σ H _ c Q I r ⟨_,_,rfl,f,Gz d q (.cons (.int _) (.cons (.int _) .nil))⟩
 . cases b
def aI:AE X kd (.Constant (.int c) j pos) (fC (.int c)):=G9 D5 λ_ _=>.int _
def aS:AE X kd (.Constant (.str c) j pos) (fC (.str c)):=G9 uX λ_ _=>.str _
def aZ:AE X kd (.Constant .none j pos) (fC .non):=G9 DY λ_ _=>.non
def aB:AE X kd (.Constant (.bool c) j pos) (fC (.bl c)):=G9 qL λ_ _=>.bl _
def ax{P:Program}{w:World}{K:zzA}{a b:Expr}{fa fb:EF}{pos:Pos}(hkd:vb P w K kd)(ha:AE X kd a fa)(hb:AE X kd b fb)(h1:X.prog=P:=by rfl)(h2:X.w=w:=by rfl)(h3:X.K=K:=by rfl)(hm:N3 b:=by exact λ_ _=>rfl):AE X kd (.Subscript a b pos) (f2 fa fb zN):=ox (ma (hkd _ h1 h2 h3)) ha hb hm
def sv(z:Bool)(i:Nat)(hN:X.N.Nodup)(he:AE X kd e fa)(hi:X.N[i]? = some x:=by rfl)(hx:Loc X.env.scope x:=by first|exact Or.inl rfl|exact Or.inr rfl)(hs:swapsWith e (some (.Name x pos')) pos.line X.env=pure false:=by rfl)(hf:X.fn x=true\/X.env.scope.names.lookup x=some .local:=by first|exact Or.inl rfl|exact Or.inr rfl):
 HC X kd (.Assign [.Name x pos'] e pos) (zy z i fa):=HW hN hi hx he hs hf
def an(i:Nat)(hN:X.N.Nodup)(hi:X.N[i]? = some x:=by rfl)(hx:Loc X.env.scope x:=by first|exact Or.inl rfl|exact Or.inr rfl)(hf:X.fn x=true\/X.env.scope.names.lookup x=some .local:=by first|exact Or.inl rfl|exact Or.inr rfl):AG X kd (.Name x pos) [i] (gN i):=AZ hN hi hx hf
def av(i:Nat)(hN:X.N[i]? = some x:=by rfl)(hv:nH X.env.scope x:=by first|exact Or.inl rfl|exact Or.inr (Or.inl rfl)|exact Or.inr (Or.inr rfl))(hd:(x==("__debug__":Str))=false:=by decide)
 (hcd:(x==("__classdict__":Str))=false:=by decide):AE X kd (.Name x pos) (fV i):=D0 (OB hN hv hd hcd)
end
def FA{α:Type}:List Str->List α->Str->Option α
 | [],_,_=>none
 |_,[],_=>none
 |n::ns,a::as,f=>if f=n then some a else FA ns as f
theorem YV(f:Str):∀(ns:List Str) (vs:List V),(ns.zip vs).lookup f=FA ns vs f
 | [],_=>rfl
 |_::_,[]=>rfl
 |n::a,v::b=>by
  show List.lookup f ((n,v)::a.zip b)=if f=n then some v else FA a b f
  rw[List.lookup_cons]
  by_cases h:f=n
  . rw[if_pos h,beq_iff_eq.mpr h]
  . rw[if_neg h,beq_eq_false_iff_ne.mpr h];exact YV f a b
theorem Cd{K:zzA}{kd:KD}{O:Addr->Prop}{H:Hp}{f:Str}{d:D}:∀{ns:List Str}{vs:List V}{ds:List D},RpL K kd O H vs ds->FA ns ds f=some d->∃v,FA ns vs f=some v/\Rp K kd O H v d
 | [],_,_,_,e=>by cases e
 |_::_,_,_,.nil,e=>by cases e
 |n::a,_,_,.cons (v:=v) (d:=b) (vs:=c) (ds:=g) h r,e=>by
  have e:(if f=n then some b else FA a g f)=some d:=e;show ∃w,(if f=n then some v else FA a c f)=some w/\_
  by_cases q:f=n
  . rw[if_pos q]at e ⊢;cases e;exact⟨v,rfl,h⟩
  . rw[if_neg q]at e ⊢;exact Cd r e
theorem UE:∀{ns:List Str}{vs:List α},f ∉ ns->FA ns vs f=none
 | [],_,_=>rfl
 |_::_,[],_=>rfl
 |n::a,v::b,h=>by
  show(if f=n then some v else FA a b f)=none;rw[if_neg λe=>h (by rw[e];exact zzF)];exact UE λm=>h (zzD _ m)
theorem GJ:∀{ns:List Str}{vs:List V},ns.length=vs.length->f ∉ ns->Vm f v (ns.zip vs)=(ns++[f]).zip (vs++[v])
 | [],[],_,_=>rfl
 | [],_::_,h,_=>by cases h
 |_::_,[],h,_=>by cases h
 |n::a,w::b,h,c=>by
  show(if n=f then(n,v)::a.zip b else(n,w)::Vm f v (a.zip b))=(n,w)::(a++[f]).zip (b++[v]);rw[if_neg λe=>c (by rw[e];exact zzF),GJ (Nat.succ.inj h) λm=>c (zzD _ m)]
noncomputable def xM(cs:List Str)(f:Str):D->Option R0
 | .ob c ns ds=>if c ∈ cs then(FA ns ds f).bind λd=>some (.im d)else none
 |_=>none
def CF(K:zzA)(kd:KD)(cs:List Str)(f:Str):Prop:=∀c ∈ cs,Cls K (kd.c c)/\yT K (kd.c c) f
section
variable{X:Cx}{kd:KD}{a e o:Expr}{es:List Expr}{fa fo fe:EF}{fr:AF}{pos pos' apos:Pos}{m f:Str}{cs:List Str}
def ub(hc:CF X.K kd cs f)(ha:AE X kd a fa)(hb:attributeBase a f X.env (eval a X.env)=eval a X.env):AE X kd (.Attribute a f pos) (f1 fa (xM cs f)):=by
 with_unfolding_all exact(yu (NL ha hb) λσ H Q h=>by
  obtain⟨F,B,P,as,r,m,R,e,q⟩:=h;obtain⟨⟨p,n⟩,o,e⟩:=bS_ (show(fa as).bind _=_ from e);obtain⟨⟨x,S⟩,s,e⟩:=bS_ e;obtain⟨z,b,e⟩:=bS_ e;obtain⟨y,t,e⟩:=bS_ e;cases e;refine vQ R o λv c u k g A=>?_;have C:=xW.vw k g s;have D:=Yo k t λw E G I i J=>q w E c G I i (A.trans J);cases C with
  |ob L T M=>
   obtain⟨l,b⟩:=ite_some' b;obtain⟨d,N,b⟩:=bS_ b;cases b;obtain⟨w,O,j⟩:=Cd M N;exact⟨_,_,_,_,w,rfl,L,(hc _ l).1,(hc _ l).2,(YV _ _ _).trans O,D w u (λ_ _ z=>z) j⟩
  |_=>cases b)
def AU(X:Cx)(m:Str)(ta:TE)(t:TA):TE:=λσ H Q=>ta σ H λx H1=>∃a C dx fs k f fd ps sp,x = .ref a/\H1 a=some (.ins C dx fs)/\Cls X.K C/\Meth X.K C m f/\fs.lookup m=none/\
 FnOk X.prog X.w X.K X.mg X.base xC k f fd ps sp/\Room k X.A/\Binds X.K fd ps []/\t σ H1 λvs H2=>sp (x::vs) H2 Q λ_ _ _=>False
def FB(he:PE X o ta)(hx:Zd xC X λ_ _ _=>False)(ha:PA X (e::es) t)
 (hst:starEach (e::es) X.env=(false,eval e X.env)::starEach es X.env) (hpl:(backTo pos (starEach es X.env)).any (·.1)=false)
 (ht:eval (.Call (.Attribute o m apos) (e::es) [] pos) X.env=(do
  let ov <-eval o X.env
  standAt apos.atName
  let(f,first) <-holding [ov] (getMethod ov m pl)
  callWith pos f first (backTo pos (starEach (e::es) X.env)) (backToKw pos (keywordEach [] X.env)))):
 PE X (.Call (.Attribute o m apos) (e::es) [] pos) (AU X m ta t):=by
 intro b s σ H Q I h;refine PySem.W.methodCall_KW (pl:=pl) (wF (he b s σ H _ I h) λu j ⟨x,n,d,p,a,C,E,G,k,f,fd,J,K,v,w,c,g,l,F,y,z,q⟩=>?_) ht;subst v;obtain rfl:u=Value.ref a:=p;refine Fk d w c g l ?_;refine PySem.W.callWith_K (first:=[.ref a]) (h₀:=X.base) I.ok.mod.kin g.kp (wF (ha pos b j σ n _ d q) λA L ⟨B,M,i,r,D⟩=>⟨i.kIn, ?_⟩) hst hpl;refine HR (us:=.ref a::A) (vs:=.ref a::B) F y z .nil hx i (.cons rfl r) ?_;rw[zyE];exact D
end
def HF:List (Str×Fn)->Str->Option Fn
 | [],_=>none
 |p::r,c=>if c=p.1 then some p.2 else HF r c
def MT(P:Program)(w:World)(K:zzA)(mg:Str->Option Value)(base:Heap)(kd:KD)(m:Str)(k:Nat)(tbl:List (Str×Fn)):Prop:=
 ∀c g,HF tbl c=some g->∃k' f fd ps,k'<=k/\Cls K (kd.c c)/\Meth K (kd.c c) m f/\FnOk P w K mg base xC k' f fd ps (Zm K kd g)/\Binds K fd ps []
section
variable{P:Program}{w:World}{K:zzA}{mg:Str->Option Value}{base:Heap}{kd:KD}{m:Str}{k:Nat}{tbl:List (Str×Fn)}
def VJ:MT P w K mg base kd m k []:=λc g h=>by cases h
def Jq(hk:k'<=k)(cl:Cls K (kd.c c))(me:Meth K (kd.c c) m f)(F:FnOk P w K mg base xC k' f fd ps (Zm K kd g))(b:Binds K fd ps [])(h:MT P w K mg base kd m k tbl):MT P w K mg base kd m k ((c,g)::tbl):=λc' g' e=>by
 have e:(if c'=c then some g else HF tbl c')=some g':=e
 by_cases q:c'=c
 . rw[if_pos q]at e;cases e;subst q;exact⟨k',f,fd,ps,hk,cl,me,F,b⟩
 . rw[if_neg q]at e;exact h c' g' e
end
def ku(m:Str):D->Option Str
 | .ob c ns _=>if m ∈ ns then none else some c
 |_=>none
noncomputable def UT(tbl:List (Str×Fn))(m:Str)(fo:EF)(fr:AF):EF:=λas=>(fo as).bind λp=>(p.1.frz.view p.2).bind λw=>(ku m w.1).bind λc=>(HF tbl c).bind λg=>(fr p.2).bind λq=>(vZ q.2 (p.1.frz::q.1)).bind λx=>(g x).bind λo=>some (.ow o,q.2)
section
variable{X:Cx}{kd:KD}{a e o:Expr}{es:List Expr}{fa fo fe:EF}{fr:AF}{pos pos' apos:Pos}{m f:Str}{cs:List Str}{tbl:List (Str×Fn)}{k:Nat}
def pZ(hT:MT X.prog X.w X.K X.mg X.base kd m k tbl)(hr:Room k X.A)(ht:∀σ H Q,IH X.K kd fr σ H Q->t σ H Q)(h:al X.K kd (UT tbl m fo fr) σ H Q):AU X m (al X.K kd fo) t σ H Q:=by
 obtain⟨F,B,ad,as,r,E,R,e,q⟩:=h;obtain⟨⟨p,i⟩,G,e⟩:=bS_ (show(fo as).bind _=_ from e);obtain⟨⟨w,lv⟩,I,e⟩:=bS_ e;obtain⟨c,a,e⟩:=bS_ e;obtain⟨g,J,e⟩:=bS_ e;obtain⟨⟨L,j⟩,M,e⟩:=bS_ e;obtain⟨N,O,e⟩:=bS_ e;obtain⟨o,P,e⟩:=bS_ e;cases e;refine vQ R G λv l H1 z d S=>?_;have T:=xW.vw z d I;cases T with
 | @ob a' dx U C V W Y hl rl=>
  have a:(if m ∈ C then none else some U)=some c:=a
  by_cases n:m ∈ C
  . rw[if_pos n]at a;cases a
  . rw[if_neg n]at a;cases a;obtain⟨Z,f,fd,ps,s,cl,me,F1,b⟩:=hT _ _ J;refine⟨_,_,_,_,Z,f,fd,ps,_,rfl,Y,cl,me,(YV _ _ _).trans (UE n),F1,hr.mono s,b,ht _ _ _ ⟨F,B,l,i,L,j,z,M,λvs u H2 R2 x D=>?_⟩⟩;exact⟨_,N,o,R2.trk true,T7 R2 (.cons (d.grow D) x) O,P,Bf R2 λw T' H' R' y g'=>q w T' u H' R' y ((S.trans D).trans g')⟩
 |_=>cases a
def uQ(hT:MT X.prog X.w X.K X.mg X.base kd m k tbl)(hr:Room k X.A)(hx:Zd xC X λ_ _ _=>False)(ho:AE X kd o fo)(ha:AA X kd (e::es) fr)
 (hst:starEach (e::es) X.env=(false,eval e X.env)::starEach es X.env) (hpl:(backTo pos (starEach es X.env)).any (·.1)=false)
 (ht:eval (.Call (.Attribute o m apos) (e::es) [] pos) X.env=(do
  let ov <-eval o X.env
  standAt apos.atName
  let(f,first) <-holding [ov] (getMethod ov m pl)
  callWith pos f first (backTo pos (starEach (e::es) X.env)) (backToKw pos (keywordEach [] X.env)))):
 AE X kd (.Call (.Attribute o m apos) (e::es) [] pos) (UT tbl m fo fr):=by
 with_unfolding_all exact(yu (FB ho hx ha hst hpl ht) λσ H Q h=>pZ hT hr (λ_ _ _ z=>z) h)
end
abbrev Fp:=AS->Option AS
def bf(K:zzA)(kd:KD)(f:Fp):TS:=λD σ H=>∃F B ad as as',Rel K kd F B [] ad as σ H/\f as=some as'/\∀ad' H',Rel K kd F B [] ad' as' σ H'->Grow (Gw [] ad) H (Gw [] ad') H'->D.nx σ H'
@[irreducible] def nG(X:Cx)(kd:KD)(st:List Stmt)(f:Fp):Prop:=Mg X st (bf X.K kd f)
@[irreducible] def p0(X:Cx)(kd:KD)(st:Stmt)(f:Fp):Prop:=PS X st (bf X.K kd f)
noncomputable def Vl(i:Nat)(cs:List Str)(f:Str)(fe:EF):Fp:=λas=>(fe as).bind λp=>(Ua p.2 p.1).bind λx=>match x.2[i]? with
 |some (some (.nd (.ob c ns) os))=>if c ∈ cs/\f ∉ ns/\ns.length<1000 then some (x.2.set i (some (.nd (.ob c (ns++[f])) (os++[.lf x.1.1 x.1.2]))))else none
 |_=>none
def Al(fe:EF):Fp:=λas=>(fe as).bind λp=>some p.2
def Zy(f g:Fp):Fp:=λas=>(f as).bind g
section
variable{X:Cx}{kd:KD}{e o:Expr}{st:Stmt}{rest:List Stmt}{fe:EF}{f g:Fp}{pos pos':Pos}{cs:List Str}{n:Str}
def Ac(he:AE X kd e fe)(hs:swapsWith e none pos.line X.env=pure false):p0 X kd (.Expr e pos) (Al fe):=by
 with_unfolding_all exact(wq (UP he hs) λD σ H h=>by
  obtain⟨F,B,c,as,o,R,e,q⟩:=h;obtain⟨⟨p,a⟩,d,e⟩:=bS_ (show(fe as).bind _=_ from e);cases e;exact⟨F,B,c,as,p,a,R,d,λv j b f i k g=>q b f i.drop (g.trans (Grow.less Gw.drop))⟩)
def xU(hc:CF X.K kd cs n)(ho:PE X o (Qo j))(he:AE X kd e fe)(hs:swapsWith e (some (.Attribute o n pos')) pos.line X.env=pure false):p0 X kd (.Assign [.Attribute o n pos'] e pos) (Vl j cs n fe):=by
 with_unfolding_all exact(wq (Ou ho he hs) λD σ H h=>by
  obtain⟨F,B,P,as,o,R,e,q⟩:=h;obtain⟨⟨p,t⟩,Q,e⟩:=bS_ (show(fe as).bind _=_ from e);obtain⟨⟨⟨A,d⟩,w⟩,S,e⟩:=bS_ e;cases f:w[j]? with
  |none=>rw[f]at e;cases e
  |some T=>
   rw[f]at e
   match T,e,f with
   |some (.nd (.ob c E) G),e,f=>
    obtain⟨⟨I,U,V⟩,e⟩:=zt e;cases e;refine⟨F,B,P,as,p,t,R,Q,λv T1 W J Y x Z=>?_⟩;obtain⟨b,R2,rp,le⟩:=V9 Y x S;obtain⟨v0,g,i⟩:=R2.sl j _ f;refine⟨v0,g, ?_⟩;generalize k:b j=fp1 at i;cases i with
    |ob hC L s rl=>
     rename_i l M C O fp;have ec:C=kd.c c:=hC.cl_eq;subst ec;have r:=R2.nd j;rw[k]at r;have y : vB X.K kd F B (Gw [] b) J (O++[v]) (G++[.lf A d]) fp:=by
            have:=rl.append (RoL.one (Ro.lf (N:=Nf F B (Gw [] b)) (H:=J) rp));rw[zyE]at this;exact this
     refine⟨l,_,M,_,rfl,L,(hc _ I).1,(hc _ I).2,by rw[List.length_zip,s,Nat.min_self,<-s];exact V, ?_⟩;rw[GJ s U];obtain ⟨R4,g4⟩:=R2.mut (fo:=[]) (n:=.nd (.ob c (E++[n])) (G++[.lf A d])) (u:=.ins (kd.c c) M ((E++[n]).zip (O++[v]))) (zzG.mp f).1 k g (fp':=fp) (λa m=>by
            rw[zyE]at m ⊢;exact m) (by rw[zyE];exact(zzW.mp r).2) (by rw[L];simp) λH' G' z gr kp=>.ob (.cl c) z (by rw[zzJ,zzJ,s];rfl) (vB.grow gr kp y)
     exact q _ _ R4 ((Z.trans (Grow.less le)).trans g4))
def MR(h:p0 X kd st f):nG X kd [st] f:=by
 with_unfolding_all exact(Ug h)
def xl(h1:p0 X kd st f)(h2:nG X kd rest g):nG X kd (st::rest) (Zy f g):=by
 with_unfolding_all exact(YZ (XW h1 h2) λD σ H h=>by
  obtain⟨F,B,d,as,o,R,e,q⟩:=h;obtain⟨c,i,e⟩:=bS_ (show(f as).bind _=_ from e);exact⟨F,B,d,as,c,R,i,λa n j k=>⟨F,B,a,c,o,j,e,λb l R2 m=>q b l R2 (k.trans m)⟩⟩)
end
def pQ(c:Str):O:=.nd (.ob c []) []
def IE(x:Bool×D):O:=.lf x.1 x.2
def slot0:AS->Option O
 |some o::_=>if o.str=true then some o else none
 |_=>none
def D7(c:Str)(n m:Nat)(f:Fp)(ds:List (Bool×D)):Option O:=if ds.length+1=m then(f (Xk n (pQ c::ds.map IE))).bind slot0 else none
def uI(K:zzA)(kd:KD)(c:Str)(g:Fn):Sp:=λvs H Q _=>∃F x dx vs' ds o,vs = .ref x::vs'/\H x=some (.ins (kd.c c) dx [])/\(∀a,F a->H a≠none)/\¬F x/\RpI K kd F (λ_=>False) (· = x) H vs' ds/\g ds=some o/\
 ∀T H',T.Nodup->(∀a ∈ T,a=x\/H a=none)->(∀b u,H b=some u->b≠x->H' b=some u)->(∀a ∈ T,H' a≠none)->Ro (λ_ v d=>Rp K kd (W_ F (· ∈ T)) H' v d) (λa=>¬W_ F (· ∈ T) a) H' (.ref x) o T->Q .non H'
def Ct{K:zzA}{kd:KD}{F B G:Addr->Prop}{H:Hp}{vs:List V}{ds:List (Bool×D)}(h:RpI K kd F B G H vs ds):vB K kd F B G H vs (ds.map IE) []:=by
 induction h with
 |nil=>exact .nil
 |cons a _ b=>exact RoL.cons (Ro.lf a) b
def Bz(ds:List (Bool×D)):(ds.map IE).all O.isLf=true:=by
 induction ds with
 |nil=>rfl
 |cons x r a=>exact a
section
variable{P:Program}{w:World}{K:zzA}{mg:Str->Option Value}{base:Heap}
def FX{kd:KD}{x qual:Str}{st:Stmt}{f:Addr}{fd:FuncData}{N ps:List Str}{k:Nat}{c:Str}{b:Fp}(Fn:Fun K x qual st f fd)(S:FnScope N ps (zd st))(hps:ps.length<=N.length)
 (hb:∀(cdv:Value) (A:Around) (outer:List Env) (s:Shared) (H:Hp) (E:XK),Room k (A.deeper (envOfC qual (zd st) s.heap.objs.size f cdv))->nG (Ld xC P w K mg base N qual (zd st) f cdv A outer s H E).nox kd (Yy st) b):
 FnOk P w K mg base xC (k+1) f fd ps (uI K kd c (D7 c N.length ps.length b)):=by
 with_unfolding_all (
 refine Fn.ok S (λvs H Q E h=>?_) (λcdv A outer s H vs Q E hr h=>⟨_,hb cdv A outer s H E hr, ?_⟩)
 . obtain⟨F,x,dx,vs',ds,o,rfl,_,_,_,rp,e,_⟩:=h;obtain⟨hl,_⟩:=ite_some' (show(if ds.length+1=ps.length then _ else none)=_ from e);rw[zzT,rp.length,hl]
 . obtain⟨F,x,dx,vs',ds,o,rfl,hx,ht,hF,rp,e,q⟩:=h;obtain⟨hl,e⟩:=ite_some' (show(if ds.length+1=ps.length then _ else none)=_ from e);obtain⟨as',e1,e2⟩:=bS_ e;have ro:vB K kd F (λ_=>False) (· ∈ [x]) H (V.ref x::vs') (pQ c::ds.map IE) [x]:=by
    have e0:(λa=>a ∈ [x])=(λa=>a=x):=by funext a;exact propext zzR
    rw[e0];exact RoL.cons (fq:=[]) (Ro.ob (C:=kd.c c) (vs:=[]) (.cl c) hx rfl .nil) (Ct rp)
   have R0:=GN (N:=N) ht (T:=[x]) (by simp) (λa m=>by rw[zzR.mp m,hx];exact⟨by simp,hF⟩) (Bz ds) (by rw[zzT,zzB];omega) ro;have gw:∀a,Gw [] (λi=>if i=0 then[x]else[]) a->a=x:=λa z=>z.elim (λy=>nomatch y) λ⟨i,y⟩=>by
    by_cases e:i=0
    . subst e;simpa using y
    . simp[e]at y
   refine⟨F,λ_=>False,_,_,as',R0,e1,λad' H' R' g'=>?_⟩
   match as',e2,R' with
   |some o'::r,e2,R'=>
    obtain⟨hs,e2⟩:=zt (show(if o'.str=true then some o' else none)=some o from e2);subst e2;obtain⟨v,hv,ro'⟩:=R'.sl 0 (some o') rfl;have hv0:(L2.start N (V.ref x::vs'))[0]? = some (some (V.ref x)):=rfl;rw[hv0]at hv;cases hv;have rt:=N5 R' (R'.nd 0) (λa m=>.inr ⟨0,m⟩) ro' hs;exact q (ad' 0) H' rt.nd (λa m=>(g'.own a (.inr ⟨0,m⟩)).imp (gw a) id) (λb u h hb=>g'.keep b u h λz=>hb (gw b z)) rt.tr rt.ro)
end
section
variable{X:Cx}{kd:KD}{e:Expr}{es:List Expr}{fr:AF}{pos p:Pos}{g:Fn}
def D_(h:al X.K kd (zq fr g) σ H Q):DB (kd.c c) (uI X.K kd c g) [] E (IH X.K kd fr) σ H Q:=by
 obtain⟨F,B,G,as,r,I,R,e,q⟩:=h;obtain⟨⟨p,J⟩,L,e⟩:=bS_ (show(fr as).bind _=_ from e);obtain⟨M,A,e⟩:=bS_ e;obtain⟨o,C,e⟩:=bS_ e;cases e;refine⟨F,B,G,as,p,_,R,L,λN d f n i O x j l s P=>?_⟩;rw[zyE];have k:∀b u,f b=some u->upd (upd f j (.own x)) x (.ins (kd.c c) j []) b=some u:=λb u h=>by rw[zF (zY h l),zF (zY h s)];exact h
 have D:∀b,upd (upd f j (.own x)) x (.ins (kd.c c) j []) b=none->f b=none:=λb h=>by
  cases e:f b with
  |none=>rfl
  |some u=>rw[k b u e]at h;cases h
 refine⟨Lv F B (Gw [] d) true,x,j,N,M,o,rfl,ya,λa z y=>n.trk true a z (D a y),λz=>n.trk true x z l, ?_,C,λT t S U V Y Z=>⟨rfl, ?_⟩⟩
 . have ra:=T7 n i A;clear e C A i
   induction ra with
   |nil=>exact .nil
   |cons h _ ih=>
    refine .cons ?_ ih;exact Rp.grow (W:=λ_=>False) (W':=(· = x)) ⟨λb u h _=>k b u h,λb e=>.inr (by rw[e];exact l)⟩ (h.less λa z=>z.elim (λy=>y.elim id λy=>y.elim) λy=>y.elim)
 . exact Bf n (λw T' t R' v g'=>q w T' d t R' v (O.trans g')) (.ref x) T t S (λa m=>(U a m).elim (λe=>by rw[e];exact l) (D a)) (λb u h=>V b u (k b u h) (zY h l)) Y Z
def J0(hC:kd.c c=C)(M:Mk X.K C f)(F:FnOk X.prog X.w X.K X.mg X.base xC k f fdt ps (uI X.K kd c g))(hr:Room (k+1) X.A)(hg:Gl X x)(hm:X.mg x=some (.ref C))(hb:Binds X.K fdt ps [])(hx:Zd xC X λ_ _ _=>False)
 (ha:AA X kd (e::es) fr) (hdb:(x==("__debug__":Str))=false) (he:starEach (e::es) X.env=(false,eval e X.env)::starEach es X.env) (hpl:(backTo pos (starEach es X.env)).any (·.1)=false):
 AE X kd (.Call (.Name x p) (e::es) [] pos) (zq fr g):=by
 subst hC
 with_unfolding_all exact(yu (A0 M F hr hg hm hb .nil hx ha hdb he hpl) λσ H Q h=>D_ h)
end
def Jg(mg:Str->Option Value):Str->Addr:=λx=>match mg x with
 |some (.ref a)=>a
 |_=>0
def Mo(h:mg x=some (.ref a)):Jg mg x=a:=by
 unfold Jg;rw[h]
structure CI(K:zzA)(kd:KD)(mg:Str->Option Value)(c:Str)(C:Addr):Prop where
 eq:kd.c c=C
 cl:Cls K C
 mks:PySem.W.makesIn K C=true
 kp:PySem.W.keepIn K (.ref C)=true
 mg:mg c=some (.ref C)
section
variable{P:Program}{w:World}{K:zzA}{mg:Str->Option Value}{base:Heap}{kd:KD}{m f:Str}{k:Nat}{tbl:List (Str×Fn)}{cs:List Str}{c:Str}{C:Addr}
def VE{g:Fn}{k':Nat}{f:Addr}{fd:FuncData}{ps:List Str}(ci:CI K kd mg c C)(me:Meth K C m f)(F:FnOk P w K mg base xC k' f fd ps (Zm K kd g))(hk:k'<=k)(b:Binds K fd ps [])(h:MT P w K mg base kd m k tbl):MT P w K mg base kd m k ((c,g)::tbl):=by
 have e:=ci.eq;subst e;exact Jq hk ci.cl me F b h
def vz:CF K kd [] f:=λc h=>nomatch h
def wR(ci:CI K kd mg c C)(n:yT K C f)(h:CF K kd cs f):CF K kd (c::cs) f:=λb a=>by
 have e:=ci.eq;subst e
 rcases zzC.mp a with rfl|a
 . exact⟨ci.cl,n⟩
 . exact h b a
def CI.mk'{f:Addr}(ci:CI K kd mg c C)(me:Meth K C "__init__" f):Mk K C f:=⟨ci.mks,me.at_,me.fn,ci.kp⟩
end
def U3{prog:Program}{w:World}{A:Around}{E:Value->Shared->Prop}{s:Shared}{it l:Addr}{i:Nat}{items:Array Value}{x:Value}{Q:Value->Shared->Prop}(hit:s.heap.IsTupleIter it l i)(hl:s.heap.IsTuple l items)(hx:items[i]? = some x)
 (h:∀h':Heap,h'.IsTupleIter it l (i+1)->Heap.SameBut it s.heap h'->Q x {s with heap:=h'}):wpAny (model prog w) A (Builtin.SmallTypes.nextOf (.ref it)) Q E s:=by
 obtain⟨o,ho,hc,hd⟩:=id hit;obtain⟨ol,hol,hcl,nl,hdl⟩:=hl;refine zxF (wpAny_callSpecial?_slot hit.typeIs F.slot_tuple_iterator_next (zxO F.slot_tuple_iterator_next hit.typeIs F.entry_tuple_iterator_next ?_));unfold Builtin.«tuple_iterator.__next__»
 wp_walk using wpAny_field ho hd rfl,wpAny_seqItems hol hdl
 rw[hdl]
 wp_walk
 rw[zyI,hx];refine zxF (wpAny_setField ho hd (by simp) ?_);refine zxG ⟨x,rfl,zxG (h _ ⟨_,Heap.get?_update_self _ ho (Obj.isFreed_of_fields (Obj.data_mapFields hd _)),(Obj.cls_mapFields o _).trans hc,(Obj.data_mapFields hd _).trans (by simp[rawInt])⟩ (Heap.SameBut.update _ _ _))⟩
def Rw{prog:Program}{w:World}{A:Around}{E:Value->Shared->Prop}{s:Shared}{it l:Addr}{i:Nat}{items:Array Value}{Q:Value->Shared->Prop}(hh:A.handled=none)(hit:s.heap.IsTupleIter it l i)(hl:s.heap.IsTuple l items)(hx:items[i]? = none)
 (h:∀(h':Heap) (e:Addr),Heap.ExtBut it s.heap h'->(∃o,h'.get? e=some o/\o.cls = .type "StopIteration")->E (.ref e) {s with heap:=h'}):wpAny (model prog w) A (Builtin.SmallTypes.nextOf (.ref it)) Q E s:=by
 obtain⟨o,ho,hc,hd⟩:=id hit;obtain⟨ol,hol,hcl,nl,hdl⟩:=hl;refine zxF (wpAny_callSpecial?_slot hit.typeIs F.slot_tuple_iterator_next (zxO F.slot_tuple_iterator_next hit.typeIs F.entry_tuple_iterator_next ?_));unfold Builtin.«tuple_iterator.__next__»
 wp_walk using wpAny_field ho hd rfl,wpAny_seqItems hol hdl
 rw[hdl]
 wp_walk
 rw[zyI,hx];refine zxF (wpAny_rule (zxF (wpAny_setField ho hd (by simp) ?_)))
 wp_walk
 refine wpAny_raiseNew_none hh (h _ _ (((Heap.SameBut.update _ _ _).extBut.push _).push _) ⟨_,zxJ _ rfl,rfl⟩)
def Vj(b:Bool)(h:Heap)(it l:Addr)(k:Nat):Prop:=if b=true then h.IsTupleIter it l k else h.IsListIter it l k
def Gf(b:Bool)(h:Heap)(l:Addr)(xs:Array Value):Prop:=if b=true then h.IsTuple l xs else h.IsList l xs
def vE{prog:Program}{w:World}{A:Around}{E:Value->Shared->Prop}{s:Shared}{it l:Addr}{i:Nat}{items:Array Value}{x:Value}{Q:Value->Shared->Prop}:∀{b:Bool},Vj b s.heap it l i->Gf b s.heap l items->items[i]? = some x->
 (∀h':Heap,Vj b h' it l (i+1)->Heap.SameBut it s.heap h'->Q x {s with heap:=h'})->wpAny (model prog w) A (Builtin.SmallTypes.nextOf (.ref it)) Q E s
 |true,h1,h2,h3,h4=>U3 h1 h2 h3 h4
 |false,h1,h2,h3,h4=>wpAny_nextOf_list_item h1 h2 h3 h4
def Wt{prog:Program}{w:World}{A:Around}{E:Value->Shared->Prop}{s:Shared}{it l:Addr}{i:Nat}{items:Array Value}{Q:Value->Shared->Prop}(hh:A.handled=none):∀{b:Bool},Vj b s.heap it l i->Gf b s.heap l items->items[i]? = none->
 (∀(h':Heap) (e:Addr),Heap.ExtBut it s.heap h'->(∃o,h'.get? e=some o/\o.cls = .type "StopIteration")->E (.ref e) {s with heap:=h'})->wpAny (model prog w) A (Builtin.SmallTypes.nextOf (.ref it)) Q E s
 |true,h1,h2,h3,h4=>Rw hh h1 h2 h3 h4
 |false,h1,h2,h3,h4=>wpAny_nextOf_list_end hh h1 h2 h3 h4
def Vj.ext{a:Addr}{h h':Heap}{it l:Addr}{k:Nat}:∀{b:Bool},Vj b h it l k->Heap.ExtBut a h h'->it≠a->Vj b h' it l k
 |true,x,e,n=>Heap.IsTupleIter.extBut x e n
 |false,x,e,n=>Heap.IsListIter.extBut x e n
def Gf.ext{a:Addr}{h h':Heap}{l:Addr}{xs:Array Value}:∀{b:Bool},Gf b h l xs->Heap.ExtBut a h h'->l≠a->Gf b h' l xs
 |true,x,e,n=>Heap.IsTuple.extBut x e n
 |false,x,e,n=>Heap.IsList.extBut x e n
def Vj.at{h h':Heap}{it l:Addr}{k:Nat}(k':∀o,h.get? it=some o->h'.get? it=some o):∀{b:Bool},Vj b h it l k->Vj b h' it l k
 |true,⟨o,e,c⟩=>⟨o,k' o e,c⟩
 |false,⟨o,e,c⟩=>⟨o,k' o e,c⟩
theorem Vj.push{h:Heap}{it l:Addr}{k:Nat}{o:Obj}{b:Bool}(x:Vj b h it l k):Vj b (h.push o) it l k:=x.at λ_ e=>zxH _ e
def K7{M:Model}{A:Around}{E:Value->Shared->Prop}{s:Shared}{a:Addr}{Q:Option Obj->Shared->Prop}(h:Q (s.heap.get? a) s):wpAny M A (loadIfAlive a) Q E s:=λΓ p hΓ=>by
 unfold loadIfAlive;rw[Sem.wp_loadIfAlive];exact zxG (M:=M) (A:=A) (E:=E) h Γ p hΓ
def MD(h:Heap)(z TI TO:Addr)(f0:Value)(f1:Bool):Prop:=h.get? z=some {cls:=.type "zip",data:=.fields #[f0,.bool f1,.bool false,.ref TI,.ref TO]}
def Zf(f0:Value):Prop:=f0 = .none\/∃n:Int,f0=rawInt n
def B0{prog:Program}{w:World}{A:Around}{E:Value->Shared->Prop}{s:Shared}{z TI TO:Addr}{f0:Value}{f1:Bool}{Q:Bool->Shared->Prop}(hz:MD s.heap z TI TO f0 f1)(hf:Zf f0)(h1:Q true s)(h2:∀h' f1',MD h' z TI TO f0 f1'->Heap.SameBut z s.heap h'->Q false {s with heap:=h'}):
 wpAny (model prog w) A (Builtin.SmallTypes.ownedTupleIsFree (.ref z)) Q E s:=by
 rcases hf with rfl|⟨n,rfl⟩
 . exact zxF (wpAny_field hz rfl rfl (zxG h1))
 . refine zxF (wpAny_field hz rfl rfl ?_);change wpAny (model prog w) A (bind (loadIfAlive n.toNat) _) Q E s;refine zxF (K7 ?_);cases e:s.heap.get? n.toNat with
   |none=>exact zxG h1
   |some o=>
    rw[if_neg (by simp)];refine zxF (wpAny_field hz rfl rfl ?_);cases f1 with
    |true=>exact zxG (h2 s.heap true hz (Heap.SameBut.refl _ _))
    |false=>exact zxF (wpAny_setField_rec hz (by simp) λh' hz' hs=>zxG (h2 h' true hz' hs))
def CS{b1 b2:Bool}{prog:Program}{w:World}{A:Around}{E:Value->Shared->Prop}{s:Shared}{z TI TO i1 i2 l1 l2:Addr}{k1 k2:Nat}{xs ys:Array Value}{x y a b f0:Value}{f1:Bool}{Q:Value->Shared->Prop}(D:ZipApart z TI TO i1 i2 l1 l2)
 (hz:MD s.heap z TI TO f0 f1) (hf:Zf f0) (hTI:IsPair s.heap TI (.ref i1) (.ref i2)) (hTO:IsPair s.heap TO a b) (h1:Vj b1 s.heap i1 l1 k1) (h2:Vj b2 s.heap i2 l2 k2) (q1:Gf b1 s.heap l1 xs) (q2:Gf b2 s.heap l2 ys) (hx:xs[k1]? = some x) (hy:ys[k2]? = some y)
 (h:∀(h':Heap) (g0:Value) (g1:Bool),MD h' z TI TO g0 g1->Zf g0->(∃p q,IsPair h' TO p q)->Vj b1 h' i1 l1 (k1+1)->Vj b2 h' i2 l2 (k2+1)->IsPair h' s.heap.objs.size x y->(∀c o,c≠z->c≠TO->c≠i1->c≠i2->s.heap.get? c=some o->h'.get? c=some o)->Q (.ref s.heap.objs.size) {s with heap:=h'}):
 wpAny (model prog w) A (Builtin.«zip.__next__» {pos:=[.ref z]}) (λfin s'=>∃v,fin=Fin.done (Flow.ret v)/\Q v s') E s:=by
 change wpAny (model prog w) A (bind (field (.ref z) 2) _) _ E s;refine zxF (wpAny_field hz rfl rfl ?_);change wpAny (model prog w) A (bind (field (.ref z) 3) _) _ E s;refine zxF (wpAny_field hz rfl rfl (zxF (wpAny_seqItems hTI rfl ?_)));change wpAny (model prog w) A (bind (Builtin.SmallTypes.ownedTupleIsFree (.ref z)) _) _ E s;refine zxF (B0 hz hf ?_ λh₁ g1 z1 hs₁=>?_)
 . rw[if_pos rfl];refine zxF (wpAny_rule (zxF (wpAny_field hz rfl rfl ?_)));refine zxF (wpAny_setField_rec hz (by simp) λh₁ hz₁ hs₁=>?_);refine zxF ?_;rw[show(#[Value.ref i1,Value.ref i2].toList.zipIdx)=[(Value.ref i1,0),(Value.ref i2,1)]from rfl,List.forIn_cons];have x1:=h1.ext hs₁.extBut D.i1z;have y1:=q1.ext hs₁.extBut D.l1z;refine zxF (zxF (wpAny_onRaise ?_));change wpAny (model prog w) A (bind (Builtin.SmallTypes.nextOf (.ref i1)) _) _ _ _;refine zxF (vE x1 y1 hx λh₂ x2 hs₂=>zxG ?_);have t2:IsPair h₂ TO a b:=hs₂.extBut TO _ D.TOi1 (hs₁.extBut TO _ D.TOz hTO);refine zxF (wpAny_seqItems t2 rfl (zxF (wpAny_updateSeq_pair t2 λh₃ t3 hs₃=>?_)));refine zxF (wpAny_letGo (zxG ?_));have x3:=((h2.ext hs₁.extBut D.i2z).ext hs₂.extBut D.i12.symm).ext hs₃.extBut D.TOi2.symm;have y3:=((q2.ext hs₁.extBut D.l2z).ext hs₂.extBut D.l2i1).ext hs₃.extBut D.l2TO;change wpAny (model prog w) A (forIn [(Value.ref i2,1)] _ _) _ E _;rw[List.forIn_cons];refine zxF (zxF (wpAny_onRaise ?_));change wpAny (model prog w) A (bind (Builtin.SmallTypes.nextOf (.ref i2)) _) _ _ _;refine zxF (vE x3 y3 hy λh₄ x4 hs₄=>zxG ?_);have t4:IsPair h₄ TO x b:=hs₄.extBut TO _ D.TOi2 t3;refine zxF (wpAny_seqItems t4 rfl (zxF (wpAny_updateSeq_pair t4 λh₅ t5 hs₅=>?_)));refine zxF (wpAny_letGo (zxG ?_));change wpAny (model prog w) A (forIn [] _ _) _ E _;rw[List.forIn_nil];refine zxG ?_;have t5:IsPair h₅ TO x y:=t5;refine zxF (wpAny_seqItems t5 rfl (zxF (wpAny_newTuple ?_)));have e5:h₅.objs.size=s.heap.objs.size:=hs₅.1.trans (hs₄.1.trans (hs₃.1.trans (hs₂.1.trans hs₁.1)));have z1:MD h₁ z TI TO .ellipsis f1:=hz₁;have z5:MD h₅ z TI TO .ellipsis f1:=hs₅.extBut z _ D.TOz.symm (hs₄.extBut z _ D.i2z.symm (hs₃.extBut z _ D.TOz.symm (hs₂.extBut z _ D.i1z.symm z1)));refine zxF ?_;change wpAny (model prog w) A (bind (setField (.ref z) 0 (rawInt (h₅.objs.size:Int))) λ_=>setField (.ref z) 1 (.bool false)) _ E {s with heap:=h₅.push {cls:=.type "tuple",data:=.seq #[x,y]}};refine zxF (wpAny_setField_rec (s:={s with heap:=h₅.push {cls:=.type "tuple",data:=.seq #[x,y]}}) (zxH _ z5) (by simp) λh₇ z7 hs₇=>?_);refine wpAny_setField_rec z7 (by simp) λh₆ z6 hs₆'=>zxG ⟨_,rfl, ?_⟩;have hs₆:=hs₇.trans hs₆';have lt:∀c o,h₅.get? c=some o->c≠z->h₆.get? c=some o:=λc o q n=>hs₆.extBut c o n (zxH _ q);have nz:h₅.objs.size≠z:=λe=>by
    have:=zxI z5;rw[<-e]at this;exact Nat.lt_irrefl _ this
   show Q (.ref h₅.objs.size) {s with heap:=h₆};rw[e5];refine h h₆ (rawInt (h₅.objs.size:Int)) false z6 (.inr ⟨_,rfl⟩) ⟨_,_,lt TO _ t5 D.TOz⟩ ?_ ?_ ?_ λc o c1 c2 c3 c4 q=>?_
   . have:=((x2.ext hs₃.extBut D.TOi1.symm).ext hs₄.extBut D.i12).ext hs₅.extBut D.TOi1.symm;exact(Vj.push this).ext hs₆.extBut D.i1z
   . exact(Vj.push (x4.ext hs₅.extBut D.TOi2.symm)).ext hs₆.extBut D.i2z
   . rw[<-e5];exact hs₆.extBut _ _ nz (zxJ _ rfl)
   . exact lt c o (hs₅.extBut c o c2 (hs₄.extBut c o c4 (hs₃.extBut c o c2 (hs₂.extBut c o c3 (hs₁.extBut c o c1 q))))) c1
 . rw[if_neg (by simp)];change wpAny (model prog w) A (bind (forIn #[Value.ref i1,Value.ref i2] _ _) _) _ E _;rw[<-Array.forIn_toList,show #[Value.ref i1,Value.ref i2].toList=[Value.ref i1,Value.ref i2]from rfl,List.forIn_cons];have x1:=h1.ext hs₁.extBut D.i1z;have y1:=q1.ext hs₁.extBut D.l1z;refine zxF (zxF (zxF (zxL ?_)));change wpAny (model prog w) A (bind (Builtin.SmallTypes.nextOf (.ref i1)) _) _ _ _;refine zxF (vE x1 y1 hx λh₂ x2 hs₂=>zxG (zxG ?_));change wpAny (model prog w) A (forIn [Value.ref i2] _ _) _ E _;rw[List.forIn_cons];have x3:=(h2.ext hs₁.extBut D.i2z).ext hs₂.extBut D.i12.symm;have y3:=(q2.ext hs₁.extBut D.l2z).ext hs₂.extBut D.l2i1;refine zxF (zxF (zxL ?_));change wpAny (model prog w) A (bind (Builtin.SmallTypes.nextOf (.ref i2)) _) _ _ _;refine zxF (vE x3 y3 hy λh₄ x4 hs₄=>zxG (zxG ?_));change wpAny (model prog w) A (forIn [] _ _) _ E _;rw[List.forIn_nil];refine zxG (zxF (wpAny_newTuple ?_ (show 2<=sizeLine by decide)));refine zxG ⟨_,rfl, ?_⟩;have e4:h₄.objs.size=s.heap.objs.size:=hs₄.1.trans (hs₂.1.trans hs₁.1);show Q (.ref h₄.objs.size) {s with heap:=h₄.push {cls:=.type "tuple",data:=.seq #[x,y]}};have z4:MD h₄ z TI TO f0 g1:=hs₄.extBut z _ D.i2z.symm (hs₂.extBut z _ D.i1z.symm z1);have t4:IsPair h₄ TO a b:=hs₄.extBut TO _ D.TOi2 (hs₂.extBut TO _ D.TOi1 (hs₁.extBut TO _ D.TOz hTO));rw[e4];refine h _ f0 g1 (zxH _ z4) hf ⟨_,_,zxH _ t4⟩ (Vj.push (x2.ext hs₄.extBut D.i12)) (Vj.push x4) ?_ λc o c1 c2 c3 c4 q=>zxH _ (hs₄.extBut c o c4 (hs₂.extBut c o c3 (hs₁.extBut c o c1 q)));rw[<-e4];exact zxJ _ rfl
def JL{b1 b2:Bool}{prog:Program}{w:World}{A:Around}{E:Value->Shared->Prop}{s:Shared}{z TI TO i1 i2 l1 l2:Addr}{k1 k2:Nat}{xs ys:Array Value}{a b f0:Value}{f1:Bool}{Q:PySem.Fin->Shared->Prop}(hh:A.handled=none)(D:ZipApart z TI TO i1 i2 l1 l2)
 (hz:MD s.heap z TI TO f0 f1) (hf:Zf f0) (hTI:IsPair s.heap TI (.ref i1) (.ref i2)) (hTO:IsPair s.heap TO a b) (h1:Vj b1 s.heap i1 l1 k1) (h2:Vj b2 s.heap i2 l2 k2) (q1:Gf b1 s.heap l1 xs) (q2:Gf b2 s.heap l2 ys) (hx:xs[k1]? = none\/ys[k2]? = none)
 (h:∀(h':Heap) (e:Addr),(∀c o,c≠z->c≠TO->c≠i1->c≠i2->s.heap.get? c=some o->h'.get? c=some o)->(∃o,h'.get? e=some o/\o.cls = .type "StopIteration")->E (.ref e) {s with heap:=h'}):
 wpAny (model prog w) A (Builtin.«zip.__next__» {pos:=[.ref z]}) Q E s:=by
 have fin:∀(h':Heap) (e:Addr),(∃f g,MD h' z TI TO f g)->(∀c o,c≠z->c≠TO->c≠i1->c≠i2->s.heap.get? c=some o->h'.get? c=some o)->(∃o,h'.get? e=some o/\o.cls = .type "StopIteration")->
  wpAny (model prog w) A (setField (.ref z) 0 Value.none) (λ_ s''=>E (.ref e) s'') E {s with heap:=h'}:=λh' e ⟨f,g,hf⟩ kk ⟨o,ho,hc⟩=>by
  refine wpAny_setField_rec (s:={s with heap:=h'}) hf (by simp) λh'' z'' hs=>?_;have ne:e≠z:=λe'=>by
   subst e';have:=(show h'.get? e=some _ from hf).symm.trans ho;cases this;exact absurd (show Value.type "zip"=Value.type "StopIteration" from hc) (by decide)
  exact h h'' e (λc o c1 c2 c3 c4 q=>hs.extBut c o c1 (kk c o c1 c2 c3 c4 q)) ⟨o,hs.extBut e o ne ho,hc⟩
 change wpAny (model prog w) A (bind (field (.ref z) 2) _) _ E s;refine zxF (wpAny_field hz rfl rfl ?_);change wpAny (model prog w) A (bind (field (.ref z) 3) _) _ E s;refine zxF (wpAny_field hz rfl rfl (zxF (wpAny_seqItems hTI rfl ?_)));change wpAny (model prog w) A (bind (Builtin.SmallTypes.ownedTupleIsFree (.ref z)) _) _ E s;refine zxF (B0 hz hf ?_ λh₁ g1 z1 hs₁=>?_)
 . rw[if_pos rfl];refine zxF (wpAny_rule (zxF (wpAny_field hz rfl rfl ?_)));refine zxF (wpAny_setField_rec hz (by simp) λh₁ hz₁ hs₁=>?_);refine zxF ?_;rw[show(#[Value.ref i1,Value.ref i2].toList.zipIdx)=[(Value.ref i1,0),(Value.ref i2,1)]from rfl,List.forIn_cons];have z1:MD h₁ z TI TO .ellipsis f1:=hz₁;have x1:=h1.ext hs₁.extBut D.i1z;have y1:=q1.ext hs₁.extBut D.l1z;refine zxF (zxF (wpAny_onRaise ?_));change wpAny (model prog w) A (bind (Builtin.SmallTypes.nextOf (.ref i1)) _) _ _ _;cases e1:xs[k1]? with
   |none=>exact zxF (Wt hh x1 y1 e1 λh' e ex ho=>fin h' e ⟨_,_,ex z _ D.i1z.symm z1⟩ (λc o c1 c2 c3 c4 q=>ex c o c3 (hs₁.extBut c o c1 q)) ho)
   |some x=>
    have hy:ys[k2]? = none:=hx.resolve_left (by rw[e1];simp);refine zxF (vE x1 y1 e1 λh₂ x2 hs₂=>zxG ?_);have t2:IsPair h₂ TO a b:=hs₂.extBut TO _ D.TOi1 (hs₁.extBut TO _ D.TOz hTO);refine zxF (wpAny_seqItems t2 rfl (zxF (wpAny_updateSeq_pair t2 λh₃ t3 hs₃=>?_)));refine zxF (wpAny_letGo (zxG ?_));have x3:=((h2.ext hs₁.extBut D.i2z).ext hs₂.extBut D.i12.symm).ext hs₃.extBut D.TOi2.symm;have y3:=((q2.ext hs₁.extBut D.l2z).ext hs₂.extBut D.l2i1).ext hs₃.extBut D.l2TO;change wpAny (model prog w) A (forIn [(Value.ref i2,1)] _ _) _ E _;rw[List.forIn_cons];refine zxF (zxF (wpAny_onRaise ?_));change wpAny (model prog w) A (bind (Builtin.SmallTypes.nextOf (.ref i2)) _) _ _ _;exact zxF (Wt hh x3 y3 hy λh' e ex ho=>fin h' e ⟨_,_,ex z _ D.i2z.symm (hs₃.extBut z _ D.TOz.symm (hs₂.extBut z _ D.i1z.symm z1))⟩
     (λc o c1 c2 c3 c4 q=>ex c o c4 (hs₃.extBut c o c2 (hs₂.extBut c o c3 (hs₁.extBut c o c1 q)))) ho)
 . rw[if_neg (by simp)];change wpAny (model prog w) A (bind (forIn #[Value.ref i1,Value.ref i2] _ _) _) _ E _;rw[<-Array.forIn_toList,show #[Value.ref i1,Value.ref i2].toList=[Value.ref i1,Value.ref i2]from rfl,List.forIn_cons];have x1:=h1.ext hs₁.extBut D.i1z;have y1:=q1.ext hs₁.extBut D.l1z;refine zxF (zxF (zxF (zxL ?_)));change wpAny (model prog w) A (bind (Builtin.SmallTypes.nextOf (.ref i1)) _) _ _ _;cases e1:xs[k1]? with
   |none=>exact zxF (Wt hh x1 y1 e1 λh' e ex ho=>h h' e (λc o c1 c2 c3 c4 q=>ex c o c3 (hs₁.extBut c o c1 q)) ho)
   |some x=>
    have hy:ys[k2]? = none:=hx.resolve_left (by rw[e1];simp);refine zxF (vE x1 y1 e1 λh₂ x2 hs₂=>zxG (zxG ?_));change wpAny (model prog w) A (forIn [Value.ref i2] _ _) _ E _;rw[List.forIn_cons];have x3:=(h2.ext hs₁.extBut D.i2z).ext hs₂.extBut D.i12.symm;have y3:=(q2.ext hs₁.extBut D.l2z).ext hs₂.extBut D.l2i1;refine zxF (zxF (zxL ?_));change wpAny (model prog w) A (bind (Builtin.SmallTypes.nextOf (.ref i2)) _) _ _ _;exact zxF (Wt hh x3 y3 hy λh' e ex ho=>h h' e (λc o c1 c2 c3 c4 q=>ex c o c4 (hs₂.extBut c o c3 (hs₁.extBut c o c1 q))) ho)
def E6{b1 b2:Bool}{prog:Program}{w:World}{A:Around}{E:Value->Shared->Prop}{s:Shared}{z TI TO i1 i2 l1 l2:Addr}{k1 k2:Nat}{xs ys:Array Value}{x y a b f0:Value}{f1:Bool}{Q:Option Value->Shared->Prop}(D:ZipApart z TI TO i1 i2 l1 l2)
 (hz:MD s.heap z TI TO f0 f1) (hf:Zf f0) (hTI:IsPair s.heap TI (.ref i1) (.ref i2)) (hTO:IsPair s.heap TO a b) (h1:Vj b1 s.heap i1 l1 k1) (h2:Vj b2 s.heap i2 l2 k2) (q1:Gf b1 s.heap l1 xs) (q2:Gf b2 s.heap l2 ys) (hx:xs[k1]? = some x) (hy:ys[k2]? = some y)
 (h:∀(h':Heap) (g0:Value) (g1:Bool),MD h' z TI TO g0 g1->Zf g0->(∃p q,IsPair h' TO p q)->Vj b1 h' i1 l1 (k1+1)->Vj b2 h' i2 l2 (k2+1)->IsPair h' s.heap.objs.size x y->(∀c o,c≠z->c≠TO->c≠i1->c≠i2->s.heap.get? c=some o->h'.get? c=some o)->Q (some (.ref s.heap.objs.size)) {s with heap:=h'}):
 wpAny (model prog w) A (pyNext (.ref z)) Q E s:=by
 have hT:s.TypeIs (.ref z) "zip":=⟨_,hz,rfl⟩;exact zxF (wpAny_attempt (wpAny_callSpecial?_slot hT F.slot_zip_next (zxO F.slot_zip_next hT F.entry_zip_next (CS D hz hf hTI hTO h1 h2 q1 q2 hx hy λh' g0 g1 a1 a2 a3 a4 a5 a6 a7=>zxG (h h' g0 g1 a1 a2 a3 a4 a5 a6 a7)) (F.args_zip_next_1 _))))
def EN{b1 b2:Bool}{prog:Program}{w:World}{A:Around}{E:Value->Shared->Prop}{s:Shared}{z TI TO i1 i2 l1 l2:Addr}{k1 k2:Nat}{xs ys:Array Value}{a b f0:Value}{f1:Bool}{Q:Option Value->Shared->Prop}(hh:A.handled=none)(D:ZipApart z TI TO i1 i2 l1 l2)
 (hz:MD s.heap z TI TO f0 f1) (hf:Zf f0) (hTI:IsPair s.heap TI (.ref i1) (.ref i2)) (hTO:IsPair s.heap TO a b) (h1:Vj b1 s.heap i1 l1 k1) (h2:Vj b2 s.heap i2 l2 k2) (q1:Gf b1 s.heap l1 xs) (q2:Gf b2 s.heap l2 ys) (hx:xs[k1]? = none\/ys[k2]? = none)
 (h:∀h':Heap,(∀c o,c≠z->c≠TO->c≠i1->c≠i2->s.heap.get? c=some o->h'.get? c=some o)->Q none {s with heap:=h'}):wpAny (model prog w) A (pyNext (.ref z)) Q E s:=by
 have hT:s.TypeIs (.ref z) "zip":=⟨_,hz,rfl⟩;exact zxF (wpAny_attempt (wpAny_callSpecial?_slot hT F.slot_zip_next (zxO F.slot_zip_next hT F.entry_zip_next (JL hh D hz hf hTI hTO h1 h2 q1 q2 hx λh' e hk ⟨o,ho,hc⟩=>zxF (wpAny_isInstance ⟨o,ho,hc⟩ isSubtype_stop (zxG (h h' hk)))) (F.args_zip_next_1 _))))
def Hi{prog:Program}{w:World}{A:Around}{E:Value->Shared->Prop}{s:Shared}{z TI TO T:Addr}{f0:Value}{f1:Bool}{Q:Unit->Shared->Prop}(tg:Expr)(hz:MD s.heap z TI TO f0 f1)(hf:Zf f0)
 (h:∀(h':Heap) (g0:Value),MD h' z TI TO g0 f1->Zf g0->Heap.SameBut z s.heap h'->Q () {s with heap:=h'}):wpAny (model prog w) A (letOwnedTupleGo tg (.ref z) (.ref T)) Q E s:=by
 have no:wpAny (model prog w) A (pure ()) Q E s:=zxG (h s.heap f0 hz hf (Heap.SameBut.refl _ _));have go:wpAny (model prog w) A (bind (load z) λo=>match o.cls,o.data with
  |Value.type n,Data.fields vs=>if(["enumerate","zip","dict_itemiterator","dict_reverseitemiterator","odict_iterator","itertools.zip_longest","itertools.pairwise"].contains n&&vs[0]? == some (rawInt (T:Int)))=true then(do rule "for.unpacks-the-owned-tuple";updateField z 0 Value.none)else pure ()
  |_,_=>pure ()) Q E s:=by
  refine zxF (wpAny_load hz ?_);show wpAny (model prog w) A (if _ then _ else _) Q E s
  split
  . refine zxF (wpAny_rule ?_);exact wpAny_setField_rec hz (by simp) λh' z' hs=>h h' .none z' (.inl rfl) hs
  . exact no
 cases tg with
 |Tuple elts k pos=>exact go
 |List elts pos=>exact go
 |_=>exact no
def Y1(b:Bool)(l:Addr):Obj:={cls:=.type (if b=true then "tuple_iterator" else "list_iterator"),data:=.fields #[.ref l,.int 0 0]}
def Eu{prog:Program}{w:World}{A:Around}{E:Value->Shared->Prop}{s:Shared}{l:Addr}{xs:Array Value}{Q:Value->Shared->Prop}:∀{b:Bool},Gf b s.heap l xs->Q (.ref s.heap.objs.size) {s with heap:=s.heap.push (Y1 b l)}->wpAny (model prog w) A (pyIter (.ref l)) Q E s
 |true,h1,h2=>wpAny_pyIter_tuple h1 h2
 |false,h1,h2=>wpAny_pyIter_list h1 h2
def Gf.at{h h':Heap}{l:Addr}{xs:Array Value}(k:∀o,h.get? l=some o->h'.get? l=some o):∀{b:Bool},Gf b h l xs->Gf b h' l xs
 |true,⟨o,e,c⟩=>⟨o,k o e,c⟩
 |false,⟨o,e,c⟩=>⟨o,k o e,c⟩
def O9{b1 b2:Bool}(l1 l2:Addr)(xs ys:Array Value):Meets (Builtin.«zip.__new__» {pos:=[.type "zip",.ref l1,.ref l2]}) λ_ R s=>Gf b1 s.heap l1 xs/\Gf b2 s.heap l2 ys/\
 ∀h':Heap,MD h' (s.heap.objs.size+4) (s.heap.objs.size+2) (s.heap.objs.size+3) .none false->IsPair h' (s.heap.objs.size+2) (.ref s.heap.objs.size) (.ref (s.heap.objs.size+1))->IsPair h' (s.heap.objs.size+3) .none .none->Vj b1 h' s.heap.objs.size l1 0->Vj b2 h' (s.heap.objs.size+1) l2 0->
  (∀c o,s.heap.get? c=some o->h'.get? c=some o)->R (.ok (.ret (.ref (s.heap.objs.size+4)))) {s with heap:=h'}:=
 .of_wp λprog w A R s h=>by
  obtain⟨hp,g,d,tk,os⟩:=s;obtain⟨hl1,hl2,h⟩:=h;have hsub:=sub_zip;have p1:∀{Q:Value->Shared->Prop}{E:Value->Shared->Prop}{A:Around},Q (.ref hp.objs.size) ⟨hp.push (Y1 b1 l1),g,d,tk,os⟩->wpAny (model prog w) A (pyIter (.ref l1)) Q E ⟨hp,g,d,tk,os⟩:=λh=>Eu hl1 h;have p2:∀{Q:Value->Shared->Prop}{E:Value->Shared->Prop}{A:Around},Q (.ref (hp.push (Y1 b1 l1)).objs.size) ⟨(hp.push (Y1 b1 l1)).push (Y1 b2 l2),g,d,tk,os⟩->wpAny (model prog w) A (pyIter (.ref l2)) Q E ⟨hp.push (Y1 b1 l1),g,d,tk,os⟩:=λh=>Eu (s:=⟨hp.push (Y1 b1 l1),g,d,tk,os⟩) (hl2.at λo e=>zxH _ e) h
  wp_walk using p1,p2
  refine⟨_,rfl, ?_⟩;have s1:(hp.push (Y1 b1 l1)).objs.size=hp.objs.size+1:=zxM _ _;have s2:((hp.push (Y1 b1 l1)).push (Y1 b2 l2)).objs.size=hp.objs.size+2:=(zxM _ _).trans (congrArg (· + 1) s1);generalize hh2:(hp.push (Y1 b1 l1)).push (Y1 b2 l2)=h2 at s2 ⊢;have i1:Vj b1 h2 hp.objs.size l1 0:=by
   have:h2.get? hp.objs.size=some (Y1 b1 l1):=by rw[<-hh2];exact zxH _ (zxJ _ rfl)
   cases b1<;>exact⟨_,this,rfl,rfl⟩
  have i2:Vj b2 h2 (hp.objs.size+1) l2 0:=by
   have:h2.get? (hp.objs.size+1)=some (Y1 b2 l2):=by rw[<-hh2,<-s1];exact zxJ _ rfl
   cases b2<;>exact⟨_,this,rfl,rfl⟩
  have kp:∀c o,hp.get? c=some o->h2.get? c=some o:=λc o q=>by rw[<-hh2];exact zxH _ (zxH _ q)
  rw[s1];change R (.ok (.ret (.ref ((h2.push {cls:=.type "tuple",data:=.seq #[.ref hp.objs.size,.ref (hp.objs.size+1)]}).push {cls:=.type "tuple",data:=.seq #[.none,.none]}).objs.size)))
   ⟨((h2.push {cls:=.type "tuple",data:=.seq #[.ref hp.objs.size,.ref (hp.objs.size+1)]}).push {cls:=.type "tuple",data:=.seq #[.none,.none]}).push {cls:=.type "zip",data:=.fields #[.none,.bool false,.bool false,.ref h2.objs.size,.ref (h2.push {cls:=.type "tuple",data:=.seq #[.ref hp.objs.size,.ref (hp.objs.size+1)]}).objs.size]},g,d,tk,os⟩
  have g3:=zxJ h2 (o:={cls:=.type "tuple",data:=.seq #[.ref hp.objs.size,.ref (hp.objs.size+1)]}) rfl;have s3:(h2.push {cls:=.type "tuple",data:=.seq #[.ref hp.objs.size,.ref (hp.objs.size+1)]}).objs.size=hp.objs.size+3:=(zxM _ _).trans (congrArg (· + 1) s2);rw[s2]at g3;rw[s2,s3];have k3:∀c o,h2.get? c=some o->(h2.push {cls:=.type "tuple",data:=.seq #[.ref hp.objs.size,.ref (hp.objs.size+1)]}).get? c=some o:=λc o q=>zxH _ q;generalize (h2.push {cls:=.type "tuple",data:=.seq #[.ref hp.objs.size,.ref (hp.objs.size+1)]})=h3 at *;have g4:=zxJ h3 (o:={cls:=.type "tuple",data:=.seq #[.none,.none]}) rfl;have s4:(h3.push {cls:=.type "tuple",data:=.seq #[.none,.none]}).objs.size=hp.objs.size+4:=(zxM _ _).trans (congrArg (· + 1) s3);have k4:∀c o,h3.get? c=some o->(h3.push {cls:=.type "tuple",data:=.seq #[.none,.none]}).get? c=some o:=λc o q=>zxH _ q;rw[s3]at g4;rw[s4];generalize (h3.push {cls:=.type "tuple",data:=.seq #[.none,.none]})=h4 at *;have g5:=zxJ h4 (o:={cls:=.type "zip",data:=.fields #[.none,.bool false,.bool false,.ref (hp.objs.size+2),.ref (hp.objs.size+3)]}) rfl;rw[s4]at g5;exact h _ g5 (zxH _ (k4 _ _ g3)) (zxH _ g4) (i1.at λo e=>zxH _ (k4 _ _ (k3 _ _ e))) (i2.at λo e=>zxH _ (k4 _ _ (k3 _ _ e))) λc o q=>zxH _ (k4 _ _ (k3 _ _ (kp c o q)))
def Sz{b1 b2:Bool}{prog:Program}{w:World}{A:Around}{E:Value->Shared->Prop}{s:Shared}{l1 l2:Addr}{xs ys:Array Value}{Q:Value->Shared->Prop}(hl1:Gf b1 s.heap l1 xs)(hl2:Gf b2 s.heap l2 ys)
 (h:∀h':Heap,MD h' (s.heap.objs.size+4) (s.heap.objs.size+2) (s.heap.objs.size+3) .none false->IsPair h' (s.heap.objs.size+2) (.ref s.heap.objs.size) (.ref (s.heap.objs.size+1))->IsPair h' (s.heap.objs.size+3) .none .none->Vj b1 h' s.heap.objs.size l1 0->Vj b2 h' (s.heap.objs.size+1) l2 0->
  (∀c o,s.heap.get? c=some o->h'.get? c=some o)->Q (.ref (s.heap.objs.size+4)) {s with heap:=h'}):wpAny (model prog w) A (call (.type "zip") [.ref l1,.ref l2]) Q E s:=
 callType_new F.called_zip (by decide) (F.typeCall_zip_2 _ _) (F.newCall_zip_2 _ _) (λobj=>F.args_object_init_3 obj _ _) F.entry_zip_new (O9 (b1:=b1) (b2:=b2) l1 l2 xs ys)
  ⟨hl1,hl2,λh' a1 a2 a3 a4 a5 a6=>⟨⟨_,a1,rfl⟩,h h' a1 a2 a3 a4 a5 a6⟩⟩
def P6{prog:Program}{w:World}{A:Around}{E:Value->Shared->Prop}{s:Shared}{z TI TO:Addr}{f0:Value}{f1:Bool}{Q:Value->Shared->Prop}(hz:MD s.heap z TI TO f0 f1)(h:Q (.ref z) s):wpAny (model prog w) A (pyIter (.ref z)) Q E s:=by
 have hT:s.TypeIs (.ref z) "zip":=⟨_,hz,rfl⟩;exact wpAny_pyIter_slot hT F.slot_zip_iter (zxO F.slot_zip_iter hT F.entry_zip_iter (zxG ⟨.ref z,rfl,"zip",.builtin "zip.__next__",hT,F.slot_zip_next.lookup,h⟩) (F.args_zip_iter_1 _))
def Lk(K:zzA)(H:Hp):Bool->Addr->List V->Prop
 |true,a,xs=>Q3 K H a xs
 |false,a,xs=>W0 K H a xs
def Lk.ok{X:Cx}{pins:List (Addr×Obj)}{σ:St}{H:Hp}{s:Shared}(I:Inv X pins σ H s):∀{b:Bool}{a:Addr}{xs:List V},Lk X.K H b a xs->∃its:List Value,zO xs its/\Gf b s.heap a its.toArray
 |true,a,xs,h=>by obtain⟨its,rv,p,_⟩:=I.tuple h;exact⟨its,rv,p⟩
 |false,a,xs,h=>by obtain⟨its,rv,p,_⟩:=I.list h;exact⟨its,rv,p.isList⟩
def Lk.inj{X:Cx}{pins:List (Addr×Obj)}{σ:St}{H:Hp}{s:Shared}(I:Inv X pins σ H s):∀{b:Bool}{a:Addr}{xs ys:List V},Lk X.K H b a xs->Lk X.K H b a ys->xs=ys
 |true,_,_,_,h,h'=>I.tuple_inj h h'
 |false,_,_,_,h,h'=>I.list_inj h h'
def Gf.ex{h:Heap}{l:Addr}{xs:Array Value}:∀{b:Bool},Gf b h l xs->∃o,h.get? l=some o
 |true,⟨o,e,_⟩=>⟨o,e⟩
 |false,⟨o,e,_⟩=>⟨o,e⟩
def Vj.ex{h:Heap}{it l:Addr}{k:Nat}:∀{b:Bool},Vj b h it l k->∃o,h.get? it=some o/\∀v,o.data ≠ .cell v
 |true,⟨o,e,_,d⟩=>⟨o,e,λv z=>by rw[d]at z;cases z⟩
 |false,⟨o,e,_,d⟩=>⟨o,e,λv z=>by rw[d]at z;cases z⟩
def Ap(K:zzA)(b1 b2:Bool)(a b:Addr):It:=
 ⟨λi H=>∃xs ys x y,Lk K H b1 a xs/\Lk K H b2 b ys/\xs[i]? = some x/\ys[i]? = some y,
  λi H v H'=>∃T x y,H T=none/\v = .ref T/\H'=upd H T (.tup [x,y])/\(∀xs,Lk K H b1 a xs->xs[i]? = some x)/\∀ys,Lk K H b2 b ys->ys[i]? = some y,
  λi H=>∃xs ys,Lk K H b1 a xs/\Lk K H b2 b ys/\(xs.length<=i\/ys.length<=i)⟩
def S7{P:Program}{w:World}{K:zzA}{tg:Expr}{b1 b2:Bool}(a b z TI TO i1 i2:Addr)(D:ZipApart z TI TO i1 i2 a b):Turn P w K tg (Ap K b1 b2 a b) [z,TI,TO,i1,i2] z
 (λi h=>(∃f0 f1,MD h z TI TO f0 f1/\Zf f0)/\IsPair h TI (.ref i1) (.ref i2)/\(∃p q,IsPair h TO p q)/\Vj b1 h i1 a i/\Vj b2 h i2 b i)where
 mem:=by simp
 obj:=λi h st c hc=>by
  obtain⟨⟨f0,f1,hz,_⟩,hTI,⟨p,q,hTO⟩,h1,h2⟩:=st;simp only[zzC,zxB,or_false]at hc
  rcases hc with rfl|rfl|rfl|rfl|rfl
  . exact⟨_,hz,λv z=>by cases z⟩
  . exact⟨_,hTI,λv z=>by cases z⟩
  . exact⟨_,hTO,λv z=>by cases z⟩
  . exact h1.ex
  . exact h2.ex
 keep:=λi h h' st kk=>by
  obtain⟨⟨f0,f1,hz,hf⟩,hTI,⟨p,q,hTO⟩,h1,h2⟩:=st;exact⟨⟨f0,f1,kk z (by simp) _ hz,hf⟩,kk TI (by simp) _ hTI,⟨p,q,kk TO (by simp) _ hTO⟩,h1.at λo e=>kk i1 (by simp) o e,h2.at λo e=>kk i2 (by simp) o e⟩
 item:=by
  intro X hP hw hK hc i pins s σ H E I hf st hg;subst hP hw hK;obtain⟨xs,ys,x,y,hq,hr,hx,hy⟩:=hg;obtain⟨its,rv,p⟩:=hq.ok I;obtain⟨jts,rw',p'⟩:=hr.ok I;obtain⟨u,hu,ru⟩:=rv.get hx;obtain⟨u',hu',ru'⟩:=rw'.get hy;obtain⟨⟨f0,f1,hz,zf⟩,hTI,⟨pp,qq,hTO⟩,h1,h2⟩:=st;refine E6 D hz zf hTI hTO h1 h2 p p' (x:=u) (y:=u') (by simpa using hu) (by simpa using hu') λh' g0 g1 z' zf' to' i1' i2' pr kk=>⟨_,rfl,Hi tg z' zf' λh9 e0 z2 zf2 hs=>?_⟩;have hn:H s.heap.objs.size=none:=I.hok.fresh (zzN _);have fr:∀c o,s.heap.get? c=some o->c≠s.heap.objs.size:=λc o e z=>by
   have:=zxI e;rw[z]at this;exact Nat.lt_irrefl _ this
  have nz:s.heap.objs.size≠z:=(fr z _ hz).symm;have k2:∀c o,c ∉ [z,TI,TO,i1,i2]->s.heap.get? c=some o->h9.get? c=some o:=λc o hb q=>by
   simp only[zzC,zxB,or_false,not_or]at hb;exact hs.extBut c o hb.1 (kk c o hb.1 hb.2.2.1 hb.2.2.2.1 hb.2.2.2.2 q)
  have hTI2:IsPair h9 TI (.ref i1) (.ref i2):=hs.extBut TI _ D.TIz (kk TI _ D.TIz D.TITO D.TIi1 D.TIi2 hTI);obtain⟨p1,q1,to1⟩:=to';refine⟨.ref s.heap.objs.size,upd H s.heap.objs.size (.tup [x,y]),Uw (s:=s) (t':=s.toks) (ch:=[z,TI,TO,i1,i2]) I hf k2 (zzN _) ⟨by show 2<=sizeLine;decide,[u,u'],.cons ru (.cons ru' .nil),⟨_,hs.extBut _ _ nz pr,rfl,_,rfl⟩⟩,rfl,
   ⟨_,x,y,hn,rfl,rfl,λq hq'=>by rw[Lk.inj I hq' hq];exact hx,λq hq'=>by rw[Lk.inj I hq' hr];exact hy⟩,⟨⟨e0,g1,z2,zf2⟩,hTI2,⟨p1,q1,hs.extBut TO _ D.TOz to1⟩,i1'.ext hs.extBut D.i1z,i2'.ext hs.extBut D.i2z⟩,λc hc=>?_⟩
  have hcT:c≠s.heap.objs.size:=by
   simp only[zzC,zxB,or_false]at hc
   rcases hc with rfl|rfl|rfl|rfl|rfl
   . exact fr _ _ hz
   . exact fr _ _ hTI
   . exact fr _ _ hTO
   . obtain⟨o,e,_⟩:=h1.ex;exact fr _ _ e
   . obtain⟨o,e,_⟩:=h2.ex;exact fr _ _ e
  rw[zF hcT];exact(hf c hc).1
 done:=by
  intro X hP hw hK hc i pins s σ H E I hf st hg;subst hP hw hK;obtain⟨xs,ys,hq,hr,hx⟩:=hg;obtain⟨its,rv,p⟩:=hq.ok I;obtain⟨jts,rw',p'⟩:=hr.ok I;have hl:=rv.length;have hl':=rw'.length;obtain⟨⟨f0,f1,hz,zf⟩,hTI,⟨pp,qq,hTO⟩,h1,h2⟩:=st;refine EN (I.ok.hd hc) D hz zf hTI hTO h1 h2 p p' (hx.imp (λh=>by simp;omega) (λh=>by simp;omega)) λh' eb=>⟨rfl,Kn (t':=s.toks) (ch:=[z,TI,TO,i1,i2]) I hf λc o hc q=>?_⟩;simp only[zzC,zxB,or_false,not_or]at hc;exact eb c o hc.1 hc.2.2.1 hc.2.2.2.1 hc.2.2.2.2 q
 self:=λ_ _ _ _ _ st h=>let⟨⟨_,_,hz,_⟩,_⟩:=st;P6 hz h
section
variable{X:Cx}{tg:Expr}
def rn(K:zzA)(ta:TA):TI:=λσ H R=>ta σ H λvs H1=>∃a b b1 b2,vs=[.ref a,.ref b]/\(∃xs,Lk K H1 b1 a xs)/\(∃ys,Lk K H1 b2 b ys)/\R (Ap K b1 b2 a b) H1
def BS{l l':Expr}{ta:TA}{p pos:Pos}(hg:Gl X "zip")(hm:X.mg "zip"=none)(ha:PA X [l,l'] ta)(hs:starEach [l,l'] X.env=[(false,eval l X.env),(false,eval l' X.env)])(hs2:starEach [l'] X.env=[(false,eval l' X.env)]):
 PI X tg (.Call (.Name "zip" p) [l,l'] [] pos) (rn X.K ta):=by
 intro pins s σ H R I h;refine Call_ (Wm I hg hm boot_zip (PyProof.Rows.callWith_type1 (wF (ha pos pins s σ H _ I h) λus s1 ⟨vs,H1,I1,r1,q1⟩=>?_) (by rw[hs,hs2]) (by rw[hs2];rfl)));obtain⟨a,b,b1,b2,rfl,⟨xs,hq⟩,⟨ys,hr⟩,q⟩:=q1;cases r1 with
 |cons r rr=>
  cases rr with
  |cons r' rr=>
   cases rr;cases r;cases r';obtain⟨its,rv,pl⟩:=hq.ok I1;obtain⟨jts,rw',pl'⟩:=hr.ok I1;obtain⟨o1,ho1⟩:=pl.ex;obtain⟨o2,ho2⟩:=pl'.ex;refine Sz pl pl' λh' hZ hTI hTO hi1 hi2 hk=>?_;refine P6 hZ ⟨s1.heap.objs.size+4,[s1.heap.objs.size+4,s1.heap.objs.size+2,s1.heap.objs.size+3,s1.heap.objs.size,s1.heap.objs.size+1],_,_,H1,rfl,I1.kept (t':=s1.toks) hk,S7 a b _ _ _ _ _ (S4 _ _ _ (zxI ho1) (zxI ho2)),⟨⟨_,_,hZ,.inl rfl⟩,hTI,⟨_,_,hTO⟩,hi1,hi2⟩,λc hc=>?_,q⟩;have hb':s1.heap.objs.size<=c:=by
    simp only[zzC,zxB,or_false]at hc
    rcases hc with rfl|rfl|rfl|rfl|rfl<;>first|exact zzN _|exact Nat.le_add_right _ _
   exact I1.fpOk hb' (I1.hok.fresh hb')
end
section
variable{X:Cx}{kd:KD}{tg e:Expr}{fa:EF}
def AY{K:zzA}{F B:Addr->Prop}{ad:Ad}{H:Hp}{a b:Addr}{b1 b2:Bool}{vs ws:List V}{st:Bool}{ds es:List D}(hs:∀(ad3:Ad) (H3:Hp),Grow (Gw [] ad) H (Gw [] ad3) H3->Lk K H3 b1 a vs)(hs':∀(ad3:Ad) (H3:Hp),Grow (Gw [] ad) H (Gw [] ad3) H3->Lk K H3 b2 b ws)
 (r:RpL K kd (Lv F B (Gw [] ad) st) H vs ds) (r':RpL K kd (Lv F B (Gw [] ad) st) H ws es):ItOk K kd F B ad H (Ap K b1 b2 a b) (VI st ds es):=⟨λad3 H3 g3 tr i=>by
 have hr3:=hs ad3 H3 g3;have hr4:=hs' ad3 H3 g3;have rl3:RpL K kd (Lv F B (Gw [] ad3) st) H3 vs ds:=RpL.grow g3 r;have rl4:RpL K kd (Lv F B (Gw [] ad3) st) H3 ws es:=RpL.grow g3 r';have hlen:=UM st ds es;have l1:vs.length=ds.length:=r.length;have l2:ws.length=es.length:=r'.length;refine⟨λhi=>?_,λhi=>⟨_,_,hr3,hr4,by omega⟩,λv H4 hy=>?_⟩
 . obtain⟨u,hu,_⟩:=r.get (zzE (show i<ds.length by omega));obtain⟨u',hu',_⟩:=r'.get (zzE (show i<es.length by omega));exact⟨_,_,u,u',hr3,hr4,hu,hu'⟩
 . obtain⟨T,x,y,hn,rfl,rfl,hv,hv'⟩:=hy;refine⟨wa hn,λq hq=>?_⟩;obtain⟨d,e,hd,he,rfl⟩:=Gn hq;obtain⟨u,hu,ru⟩:=rl3.get hd;obtain⟨u',hu',ru'⟩:=rl4.get he;have:=hv _ hr3;rw[hu]at this;cases this;have:=hv' _ hr4;rw[hu']at this;cases this;exact .tup (λz=>tr _ _ z hn) (.inl ya) (.cons (Rp.grow ⟨λb o q _=>wa hn b o q,λb z=>.inl z⟩ ru) (.cons (Rp.grow ⟨λb o q _=>wa hn b o q,λb z=>.inl z⟩ ru') .nil))⟩
def Am{K:zzA}{F:Addr->Prop}{H:Hp}{a b:Addr}{b1 b2:Bool}{vs ws:List V}{st:Bool}{ds es:List D}(ft:∀a,F a->H a≠none)(hs:∀H3:Hp,(∀b u,H b=some u->H3 b=some u)->Lk K H3 b1 a vs)(hs':∀H3:Hp,(∀b u,H b=some u->H3 b=some u)->Lk K H3 b2 b ws)
 (r:RpL K kd (λa=>st=true/\F a) H vs ds) (r':RpL K kd (λa=>st=true/\F a) H ws es):ItC K kd F H (Ap K b1 b2 a b) (VI st ds es):=⟨λH3 T k hT i=>by
 have hr3:=hs H3 k;have hr4:=hs' H3 k;have hlen:=UM st ds es;have l1:vs.length=ds.length:=r.length;have l2:ws.length=es.length:=r'.length;refine⟨λhi=>?_,λhi=>⟨_,_,hr3,hr4,by omega⟩,λv H4 hy=>?_⟩
 . obtain⟨u,hu,_⟩:=r.get (zzE (show i<ds.length by omega));obtain⟨u',hu',_⟩:=r'.get (zzE (show i<es.length by omega));exact⟨_,_,u,u',hr3,hr4,hu,hu'⟩
 . obtain⟨A,x,y,hn,rfl,rfl,hv,hv'⟩:=hy;have hnH:H A=none:=by
    cases e:H A with
    |none=>rfl
    |some u=>rw[k A u e]at hn;cases hn
   refine⟨wa hn,λq hq=>?_⟩;obtain⟨d,e,hd,he,rfl⟩:=Gn hq;obtain⟨u,hu,ru⟩:=r.get hd;obtain⟨u',hu',ru'⟩:=r'.get he;have:=hv _ hr3;rw[hu]at this;cases this;have:=hv' _ hr4;rw[hu']at this;cases this;have up:∀{v:V}{d:D},Rp K kd (λa=>st=true/\F a) H v d->Rp K kd (λa=>st=true/\(F a\/T a)) (upd H3 A (.tup [x,y])) v d:=λrp=>
    (rp.since (λb o q=>wa hn b o (k b o q)) λa z=>(hT a z).1).less λa z=>z.2.elim (λy=>.inl ⟨z.1,y⟩) .inr
   exact .tup (λz=>z.2.elim (λy=>ft A y hnH) λy=>(hT A y).2 hn) (.inl ya) (.cons (up ru) (.cons (up ru') .nil))⟩
noncomputable def JP:RV->Option (Bool×Bool×List D)
 | .ow (.lf s (.lst l))=>some (s,false,l)
 | .ow (.lf s (.tup l))=>some (s,true,l)
 |_=>none
noncomputable def W4(fr:AF):IF:=λas=>(fr as).bind λp=>(t7 p.1).bind λo=>(JP o.1).bind λa=>(JP o.2).bind λb=>some (VI (a.1&&b.1) a.2.2 b.2.2,p.2)
def Wr{K:zzA}{F B:Addr->Prop}{ad:Ad}{σ:St}{H:Hp}{v:V}{r:RV}{x:Bool×Bool×List D}(e:JP r=some x)(rv:xW K kd F B [] ad σ H v r):∃a vs,v = .ref a/\Lk K H x.2.1 a vs/\(∀H3:Hp,(∀b u,¬Gw [] ad b->H b=some u->H3 b=some u)->Lk K H3 x.2.1 a vs)/\RpL K kd (Lv F B (Gw [] ad) x.1) H vs x.2.2:=by
 cases r with
 |bo i=>cases e
 |ow o=>
  cases o with
  |nd k os=>cases e
  |lf s d=>
   cases rv with
   |lf rp=>
    cases rp with
    |lst hn hr rl=>
     cases e;refine⟨_,_,rfl,.inl hr,λH3 k=>?_,rl⟩
     rcases hr with hr|⟨o,hr⟩
     . exact .inl (.inl (k _ _ (λz=>hn (.inr z)) hr))
     . exact .inl (.inr ⟨o,k _ _ (λz=>hn (.inr z)) hr⟩)
    |lstK a b c rl=>cases e;exact⟨_,_,rfl,.inr ⟨_,_,_,a,rfl,rfl,rfl,b,c⟩,λH3 k=>.inr ⟨_,_,_,a,rfl,rfl,rfl,b,c⟩,rl⟩
    |tup hn hr rl=>
     cases e;refine⟨_,_,rfl,.inl hr,λH3 k=>?_,rl⟩
     rcases hr with hr|⟨o,hr⟩
     . exact .inl (.inl (k _ _ (λz=>hn (.inr z)) hr))
     . exact .inl (.inr ⟨o,k _ _ (λz=>hn (.inr z)) hr⟩)
    |tupK a b c e' f rl=>cases e;exact⟨_,_,rfl,.inr ⟨_,_,_,a,b,c,e',f⟩,λH3 k=>.inr ⟨_,_,_,a,b,c,e',f⟩,rl⟩
    |_=>cases e
def IT{F B G:Addr->Prop}{p q:Bool}:∀a,Lv F B G (p&&q) a->Lv F B G p a:=US λz=>(Bool.and_eq_true_iff.mp z).1
def Di{F B G:Addr->Prop}{p q:Bool}:∀a,Lv F B G (p&&q) a->Lv F B G q a:=US λz=>(Bool.and_eq_true_iff.mp z).2
def Ao{l l':Expr}{fr:AF}{p pos:Pos}(hg:Gl X "zip")(hm:X.mg "zip"=none)(ha:AA X kd [l,l'] fr)(hs:starEach [l,l'] X.env=[(false,eval l X.env),(false,eval l' X.env)])(hs2:starEach [l'] X.env=[(false,eval l' X.env)]):
 AI X kd tg (.Call (.Name "zip" p) [l,l'] [] pos) (W4 fr):=by
 with_unfolding_all (
 intro pins s σ H R I h;obtain⟨F,B,ad,as,ds,as',Rl,e',q⟩:=h;obtain⟨⟨rs,as1⟩,h1,e'⟩:=bS_ (show(fr as).bind _=_ from e');obtain⟨⟨o1,o2⟩,e1,e'⟩:=bS_ e';obtain⟨x1,e2,e'⟩:=bS_ e';obtain⟨x2,e3,e'⟩:=bS_ e';cases MY e1;cases e';refine BS hg hm ha hs hs2 pins s σ H R I ⟨F,B,ad,as,_,as1,Rl,h1,λvs ad1 H1 R1 rv1 g1=>?_⟩;cases rv1 with
 |cons r1 rr=>
  cases rr with
  |cons r2 rr=>
   cases rr;obtain⟨a,vs,rfl,sa,ka,ra⟩:=Wr e2 r1;obtain⟨b,ws,rfl,sb,kb,rb⟩:=Wr e3 r2;exact⟨a,b,_,_,rfl,⟨_,sa⟩,⟨_,sb⟩,q _ ad1 H1 R1 g1 (AY (λad3 H3 g3=>ka H3 λb u n h=>g3.keep b u h n) (λad3 H3 g3=>kb H3 λb u n h=>g3.keep b u h n) (ra.less IT) (rb.less Di))⟩)
def BX{l l':Expr}{fr:AF}{p pos:Pos}(hg:Gl X "zip")(hm:X.mg "zip"=none)(ha:AA X kd [l,l'] fr)(hs:starEach [l,l'] X.env=[(false,eval l X.env),(false,eval l' X.env)])(hs2:starEach [l'] X.env=[(false,eval l' X.env)]):
 rH X kd tg (.Call (.Name "zip" p) [l,l'] [] pos) (W4 fr):=by
 with_unfolding_all (
 intro pins s σ H R I h;obtain⟨F,B,ad,as,ds,as',Rl,e',q⟩:=h;obtain⟨⟨rs,as1⟩,h1,e'⟩:=bS_ (show(fr as).bind _=_ from e');obtain⟨⟨o1,o2⟩,e1,e'⟩:=bS_ e';obtain⟨x1,e2,e'⟩:=bS_ e';obtain⟨x2,e3,e'⟩:=bS_ e';cases MY e1;cases e';refine BS hg hm ha hs hs2 pins s σ H R I ⟨F,B,ad,as,_,as1,Rl,h1,λvs ad1 H1 R1 rv1 g1=>?_⟩;cases rv1 with
 |cons r1 rr=>
  cases rr with
  |cons r2 rr=>
   cases rr;obtain⟨a,vs,rfl,sa,ka,ra⟩:=Wr e2 r1;obtain⟨b,ws,rfl,sb,kb,rb⟩:=Wr e3 r2;refine⟨a,b,_,_,rfl,⟨_,sa⟩,⟨_,sb⟩,q _ ad1 H1 R1 g1 (Am (R1.trk true) (λH3 k=>ka H3 λb u n h=>k b u h) (λH3 k=>kb H3 λb u n h=>k b u h) (ra.less λa z=>?_) (rb.less λa z=>?_))⟩
   . have z1:=(Bool.and_eq_true_iff.mp z.1).1;rw[z1];exact z.2
   . have z1:=(Bool.and_eq_true_iff.mp z.1).2;rw[z1];exact z.2)
end
def sV:List D->Option R0:=uv λx=>(SD x).bind λds=>(XT ds).bind λns=>some (.im (.int ns.sum))
theorem KG:∀{us:List Value}{ns:List Int},IntsAre us ns->∃ps:List (Int×Tok),us=ps.map (λp=>Value.int p.1 p.2)/\ps.map (·.1)=ns
 |_,_,.nil=>⟨[],rfl,rfl⟩
 |_,_,.cons a t h=>by
  obtain⟨b,rfl,rfl⟩:=KG h;exact⟨(a,t)::b,rfl,rfl⟩
theorem Em{ps:List (Int×Tok)}:∀k,k<=ps.length->preSum (numAt ps.toArray) k=((ps.take k).map (·.1)).sum
 |0,_=>by rw[List.take_zero];rfl
 |k+1,h=>by
  have a:=Em (ps:=ps) k (by omega);rw[List.take_add_one,zyM,List.sum_append,<-a];show preSum (numAt ps.toArray) k+numAt ps.toArray k=_
  congr 1
  rw[zzE (show k<ps.length by omega)];show((ps.toArray[k]?).map (·.1)).getD 0=_;rw[List.getElem?_toArray,zzE (show k<ps.length by omega)];simp
section
variable{X:Cx}{kd:KD}
def Hv(hc:X.calm=true):Y0 X kd (.builtin "sum") sV:=by
 intro f s σ H E F Q I r h;obtain⟨O,G,J,K,i,a,q⟩:=h;obtain⟨x,d,rfl,j,a⟩:=Pm i a;obtain⟨l,k,b⟩:=bS_ (show(SD d).bind _=_ from a);cases Rr k
 . obtain⟨m,n,c⟩:=bS_ b;cases c
   . cases j with
     |lst o p=>
      obtain⟨u,rfl,t⟩:=vals1 r;cases t;obtain⟨e,v,w,L⟩:=I.list o.sq;obtain⟨g,y,z⟩:=KG (Aw p v n);refine sum_intListG (I.ok.hd hc) (xs:=g.toArray) ?_ λM A B C=>?_
      . have D:intItems g.toArray=e.toArray:=by rw[y];simp[intItems]
        rw[D];exact w.isList
      . refine⟨.int m.sum,H,I.kept (t':=A) C,⟨B, ?_⟩,yc q (.int _)⟩;rw[zzH,Em _ (zzN _),List.take_length,z]
end
def S_(h:n<=1000000):n<=sizeLine:=zzO h (by decide)
section
variable{as:AS}{f fo a b:EF}{fr:AF}{s t:Bool}{x y z d:D}{c m:Str}{ns cs:List Str}{ds:List D}{tbl:List (Str×Fn)}{g:Fn}{o:O}
def Ul(h:WD fo as s (.ob c ns ds))(hc:c ∈ cs)(hl:FA ns ds n=some d):WD (f1 fo (xM cs n)) as (zv d||s) d:=by
 unfold WD f1 at *;rw[h];show(if c ∈ cs then(FA ns ds n).bind λd=>some (R0.im d)else none:Option R0).bind _=_;rw[if_pos hc,hl];show(if(zv d||(some s).isSome)=true then _ else _:Option RV).bind _=_;rw[if_pos (by simp)];rfl
def Mw(ho:WD fo as s (.ob c ns ds))(hm:m ∉ ns)(ht:HF tbl c=some g)(hr:WA fr as rs)(hg:g ((s,.ob c ns ds)::rs.map λx=>(zv x.2||x.1,x.2))=some o):UT tbl m fo fr as=some (.ow o,as):=by
 unfold UT;unfold WD at ho;unfold WA at hr;rw[ho];show(if m ∈ ns then none else some c:Option Str).bind _=_;rw[if_neg hm];show(HF tbl c).bind _=_;rw[ht];show(fr as).bind _=_;rw[hr];show(vZ as (.ow (.lf s (.ob c ns ds))::rs.map _)).bind _=_;show((vZ as (rs.map _)).bind _:Option (List (Bool×D))).bind _=_;rw[XH];show(g ((s,.ob c ns ds)::_)).bind _=_;rw[hg];rfl
def HL(ho:WD fo as true (.ob c ns ds))(hm:m ∉ ns)(ht:HF tbl c=some g)(ha:WE a as x)(hg:RE (g [(true,.ob c ns ds),(true,x)]) z):WE (UT tbl m fo (aC a aN)) as z:=by
 obtain⟨o,b,d,e⟩:=hg;exact⟨o,Mw ho hm ht (xZ ha zB) (by show g [_,(zv x||true,x)]=_;rw[zyD];exact b),d,e⟩
def CH(ho:WD fo as true (.ob c ns ds))(hm:m ∉ ns)(ht:HF tbl c=some g)(ha:WE a as x)(hb:WE b as y)(hg:RE (g [(true,.ob c ns ds),(true,x),(true,y)]) z):WE (UT tbl m fo (aC a (aC b aN))) as z:=by
 obtain⟨o,d,e,f⟩:=hg;exact⟨o,Mw ho hm ht (xZ ha (xZ hb zB)) (by show g [_,(zv x||true,x),(zv y||true,y)]=_;rw[zyD,zyD];exact d),e,f⟩
def pS(ho:WD fo as true (.ob c ns ds))(hm:m ∉ ns)(ht:HF tbl c=some g)(ha:WE a as x)(hb:WE b as y)(he:WE e as w)(hg:RE (g [(true,.ob c ns ds),(true,x),(true,y),(true,w)]) z):WE (UT tbl m fo (aC a (aC b (aC e aN)))) as z:=by
 obtain⟨o,d,f,h⟩:=hg;exact⟨o,Mw ho hm ht (xZ ha (xZ hb (xZ he zB))) (by show g [_,(zv x||true,x),(zv y||true,y),(zv w||true,w)]=_;rw[zyD,zyD,zyD];exact d),f,h⟩
inductive SqD:D->List D->Prop
 |l (ds:List D):SqD (.lst ds) ds
 |t (ds:List D):SqD (.tup ds) ds
theorem V2(st:Bool):∀(xs ys:List D),VI st xs ys=(xs.zip ys).map λq=>(st,.tup [q.1,q.2])
 | [],_=>rfl
 |_::_,[]=>rfl
 |x::r,y::t=>congrArg (_ :: ·) (V2 st r t)
def Ck(ha:WE a as x)(hb:WE b as y)(hx:SqD x xs)(hy:SqD y ys):W4 (aC a (aC b aN)) as=some ((xs.zip ys).map λq=>(true,.tup [q.1,q.2]),as):=by
 have h:WA (aC a (aC b aN)) as [(true,x),(true,y)]:=xZ ha (xZ hb zB);unfold WA at h;unfold W4;rw[h,<-V2];cases hx<;>cases hy<;>rfl
theorem Ln:∀(l:List α),(∀q ∈ l,∃as1,gg (it q) as0=some as1/\WE fe as1 (h q))->∃os,xf gg yZ fe as0 (l.map it)=some os/\O.strs os=true/\O.toDs os=l.map h
 | [],_=>⟨[],rfl,rfl,rfl⟩
 |q::l,H=>by
  obtain⟨a,d,e,f⟩:=Ln l λp m=>H p (zzD _ m);obtain⟨b,g,o,i,c,j⟩:=H q zzF;refine⟨o::a, ?_,by show(o.str&&O.strs a)=true;rw[c,e];rfl,by show o.toD::O.toDs a=_;rw[j,f];rfl⟩;show xf gg yZ fe as0 (it q::l.map it)=_;unfold xf;rw[g];show((fe b).bind _)=_;rw[i];show(if o.str=true then _ else _)=_;rw[if_pos c,d];rfl
theorem L4:∀(l:List α),(∀q ∈ l,∃as1,gg (it q) as0=some as1/\WT tt as1 (p q)/\(p q=true->WE fe as1 (h q)))->∃os,xf gg tt fe as0 (l.map it)=some os/\O.strs os=true/\O.toDs os=(l.filter p).map h
 | [],_=>⟨[],rfl,rfl,rfl⟩
 |q::l,H=>by
  obtain⟨c,d,e,f⟩:=L4 l λp m=>H p (zzD _ m);obtain⟨a,g,b,j⟩:=H q zzF;cases hp:p q with
  |false=>
   rw[hp]at b;refine⟨c,HB g b d,e, ?_⟩;rw[List.filter_cons_of_neg (by simp[hp])];exact f
  |true=>
   rw[hp]at b;obtain⟨o,k,i,n⟩:=j hp;refine⟨o::c, ?_,by show(o.str&&O.strs c)=true;rw[i,e];rfl, ?_⟩
   . unfold WT at b;show xf gg tt fe as0 (it q::l.map it)=_;unfold xf;rw[g];show(tt a).bind _=_;rw[b];show((fe a).bind _)=_;rw[k];show(if o.str=true then _ else _)=_;rw[if_pos i,d];rfl
   . rw[List.filter_cons_of_pos hp];show o.toD::O.toDs c=_;rw[n,f];rfl
def Ea{fi:IF}{cap:List (Option Nat)}{gg:GF}{tt:TF}{fe:EF}{xs:List xb}{os:List O}{zs:List D}(h1:fi as=some (xs,as))(hl:xs.length<=1000000)(h2:xf gg tt fe (vL cap as) xs=some os)(hs:O.strs os=true)(e:O.toDs os=zs):WE (yf fi cap gg tt fe) as (.lst zs):=by
 refine⟨.nd .ls os, ?_,hs,congrArg D.lst e⟩;unfold yf;rw[h1];show(if xs.length<=sizeLine then _ else _)=_;rw[if_pos (S_ hl),h2];rfl
def Rm(l:List α)(h1:fi as=some (l.map it,as))(hl:l.length<=1000000)(H:∀q ∈ l,∃as1,gg (it q) (vL cap as)=some as1/\WE fe as1 (h q)):WE (yf fi cap gg yZ fe) as (.lst (l.map h)):=by
 obtain⟨d,a,b,c⟩:=Ln l H;exact Ea h1 (by rw[zzB];exact hl) a b c
def FC(l:List α)(h1:fi as=some (l.map it,as))(hl:l.length<=1000000)(H:∀q ∈ l,∃as1,gg (it q) (vL cap as)=some as1/\WT tt as1 (p q)/\(p q=true->WE fe as1 (h q))):WE (yf fi cap gg tt fe) as (.lst ((l.filter p).map h)):=by
 obtain⟨d,a,b,c⟩:=L4 l H;exact Ea h1 (by rw[zzB];exact hl) a b c
def Rt(r:Option Out)(x:D):Prop:=∃o,r=some (.rt o)/\o.str=true/\o.toD=x
def yJ{n m:Nat}{c:SF}{ds:List (Bool×D)}{x:D}(hl:ds.length=m)(h:Rt (c (v9 n ds)) x):RE (ZD n m c ds) x:=by
 obtain⟨o,a,b,d⟩:=h;exact⟨o,vF hl a,b,d⟩
def zm{f g:SF}{as as1:AS}{x:D}(h1:f as=some (.nx as1))(h2:Rt (g as1) x):Rt (zj f g as) x:=by
 obtain⟨o,e,h⟩:=h2;exact⟨o,zp h1 e,h⟩
def WC{f g:SF}{as:AS}{x:D}(h1:Rt (f as) x):Rt (zj f g as) x:=by
 obtain⟨o,e,h⟩:=h1;exact⟨o,vU e,h⟩
def Py{c:TF}{f g:SF}{as:AS}{x:D}(h:WT c as true)(h1:Rt (f as) x):Rt (vG c f g as) x:=by
 obtain⟨o,e,a⟩:=h1;exact⟨o,xN h e,a⟩
def yF(h:WE f as x):Rt (zL f as) x:=by
 obtain⟨o,b,a,c⟩:=h;refine⟨o, ?_,a,c⟩;unfold zL;rw[b];show((if o.str=true then some o else none).bind _)=_;rw[if_pos a];rfl
theorem RE.lf(h:r=some (.lf true x)):RE r x:=⟨_,h,rfl,rfl⟩
def NH{c:TF}(h:WT c as true)(ha:WE a as x):WE (Sl c a b) as x:=by
 obtain⟨o,d,e,f⟩:=ha;exact⟨o,by unfold Sl;unfold WT at h;rw[h];exact d,e,f⟩
def NT{c:TF}(h:WT c as false)(hb:WE b as x):WE (Sl c a b) as x:=by
 obtain⟨o,d,e,f⟩:=hb;exact⟨o,by unfold Sl;unfold WT at h;rw[h];exact d,e,f⟩
def U_{g:List D->Option R0}(ha:WE a as x)(hg:g [x]=some (.im z)):WE (fP (aC a aN) g) as z:=WD.e (FD ha hg)
def sM{fd:DF}{os:List O}{zs:List D}(h:WO fd as os)(hl:os.length<=1000000)(hs:O.strs os=true)(e:O.toDs os=zs):WE (yR fd) as (.tup zs):=by
 refine⟨VR os,C_ h (S_ hl), ?_, ?_⟩
 . unfold VR;split
   . exact hs
   . exact hs
 . subst e;unfold VR;split
   . rfl
   . rfl
def oo{fd:DF}{os:List O}(h:WE a as x)(hr:WO fd as os):∃o,o.str=true/\o.toD=x/\WO (dC a fd) as (o::os):=by
 obtain⟨o,b,c,d⟩:=h;exact⟨o,c,d,Iw b hr⟩
def vY(ha:WE a as x)(hb:WE b as y):WE (yR (dC a (dC b dN))) as (.tup [x,y]):=by
 obtain⟨p,c,rfl,d⟩:=oo hb yz;obtain⟨o,e,rfl,f⟩:=oo ha d;exact sM f (by show 2<=_;omega) (by show(o.str&&(p.str&&true))=true;rw[e,c];rfl) rfl
def Nl{g:D->D->Option R0}(ha:WE a as x)(hb:WE b as y)(hg:g x y=some (.im z)):WE (f2 a b g) as z:=WD.e (HE ha hb hg)
end
open AutoSeq1 (wpAny_loadPart')
section
variable{X:Cx}{kd:KD}
noncomputable def rW(x:D)(lo hi:Option Int):Option R0:=(SD x).bind λxs=>if lo=none/\hi=some (-1)then some (.fl xs.reverse)else none
theorem E7:∀r:List Value,(List.range r.length).filterMap (λk=>r[k]?)=r
 | []=>rfl
 |a::r=>by
  rw[zzT,List.range_succ_eq_map,List.filterMap_cons,List.filterMap_map];show a::(List.range r.length).filterMap (λk=>r[k]?)=_;rw[E7 r]
theorem V1{α β:Type}{f g:α->Option β}:∀{l:List α},(∀a ∈ l,f a=g a)->l.filterMap f=l.filterMap g
 | [],_=>rfl
 |a::l,h=>by rw[List.filterMap_cons,List.filterMap_cons,h a zzF,V1 λb hb=>h b (zzD _ hb)]
def Ic(l:List Value):slicePick l.toArray none none (some (-1))=l.reverse.toArray:=by
 have e:sliceBounds none none (some (-1)) l.toArray.size=((l.length:Int)-1, -1, -1):=by
  rw[zzH];rfl
 unfold slicePick;rw[e];have e2:(sliceRange ((l.length:Int)-1) (-1) (-1))=(List.range l.length).map λk=>l.length-1-k:=by
  unfold sliceRange;rw[if_neg (by decide)]
  rcases Nat.eq_zero_or_pos l.length with h|h
  . rw[h];rfl
  . rw[if_pos (by omega),Int.neg_neg,Int.ediv_one];have:((l.length:Int)-1 - -1 - -1-1).toNat=l.length:=by omega
    show List.map _ (List.range ((l.length:Int)-1 - -1 - -1-1).toNat)=_;rw[this];refine List.map_congr_left λk hk=>?_;have:=List.mem_range.mp hk;omega
 show((sliceRange ((l.length:Int)-1) (-1) (-1)).filterMap (l.toArray[·]?)).toArray=_;rw[e2]
 congr 1
 rw[List.filterMap_map];have e3:(List.range l.length).filterMap (λk=>l.toArray[l.length-1-k]?)=(List.range l.reverse.length).filterMap (λk=>l.reverse[k]?):=by
  rw[List.length_reverse];refine V1 λk hk=>?_;rw[List.getElem?_reverse (List.mem_range.mp hk)];simp
 exact e3.trans (E7 _)
def JY{K:zzA}{O:Addr->Prop}{H:Hp}{vs:List V}{ds:List D}(r:RpL K kd O H vs ds):RpL K kd O H vs.reverse ds.reverse:=RpL.ind (P:=λvs ds=>RpL K kd O H vs.reverse ds.reverse) .nil (λa _ ih=>by
 rw[List.reverse_cons,List.reverse_cons];exact ih.append (.cons a .nil)) r
def t9{e st:Expr}{te:TE}{th:TO}{p2 pos:Pos}(he:PE X e te)(hst:PO X (some st) th):PE X (.Subscript e (.Slice none none (some st) p2) pos)
 (kO (λx lo u H Q=>∃a xs,x = .ref a/\W0 X.K H a xs/\u=some (-1)/\∀p,H p=none->Q (.ref p) (upd H p (.lst xs.reverse))) te BC th):=by
 intro pins s σ H Q I h;refine Subscript_ (wF (he pins s σ H _ I h) λv s1 ⟨x,H1,I1,r1,q1⟩=>?_);refine wpAny_Slice ?_;rw[evalPart_none];refine zxG (zxG (wF (hst pins s1 σ H1 _ I1 q1) λvu s3 ⟨u,H3,I3,pu,q3⟩=>?_));have I4:Inv X pins σ H3 {s3 with heap:=s3.heap.push {cls:=.type "slice",data:=.fields #[.none,.none,vu]}}:=I3.kept (t':=s3.toks) λb ob q=>zxH _ q;obtain⟨a,xs,rfl,hx,rfl,q⟩:=q3;cases r1;obtain⟨its,r',pl,hz⟩:=I4.list hx;have hlen:=r'.length;show wpAny (model X.prog X.w) X.A (subscriptTail e (.Slice none none (some st) p2) (.ref a) (.ref s3.heap.objs.size)) (EP X pins σ Q) X.xe {s3 with heap:=s3.heap.push {cls:=.type "slice",data:=.fields #[.none,.none,vu]}};refine tail_any (ops:=[.ref a,.ref s3.heap.objs.size]) pl.isList.typeIs slot_list_getitem.lookup (wpAny_getItem_list_slice pl.isList (Heap.IsSliceOf.new ..) .none .none pu (by decide) ?_ (by rw[zzH];omega)) (by with_unfolding_all rfl);rw[Ic];exact⟨.ref _,_,I4.lnew (t':=s3.toks) r'.reverse (by rw[List.length_reverse];exact hz),rfl,q _ I4.fresh⟩
def MO{a st:Expr}{fa fs:EF}{pos p2:Pos}(ha:AE X kd a fa)(hs:AE X kd st fs):AE X kd (.Subscript a (.Slice none none (some st) p2) pos) (KZ fa oN (oS fs) rW):=by with_unfolding_all exact(yu (t9 ha (Yw hs)) λσ H Q h=>by
 obtain⟨F,B,ad,as,r,as',R,e,q⟩:=h;obtain⟨⟨p,as1⟩,h1,e⟩:=bS_ (show(fa as).bind _=_ from e);obtain⟨⟨l,as2⟩,h2,e⟩:=bS_ e;cases h2;obtain⟨⟨u,as3⟩,h3,e⟩:=bS_ e;obtain⟨⟨d,lv⟩,h4,e⟩:=bS_ e;obtain⟨r',h5,e⟩:=bS_ e;obtain⟨z,h6,e⟩:=bS_ e;cases e;obtain⟨xs,h7,h5⟩:=bS_ (show(SD d).bind _=_ from h5);obtain⟨c,e5⟩:=zt h5;cases e5;refine vQ R h1 λv ad1 H1 R1 rv1 g1=>⟨F,B,ad1,as1,u,_,R1,h3,λad3 H3 R3 g3=>?_⟩;have vx:=xW.vw R3 (rv1.grow g3) h4;have rq:=Yo R3 h6 (Q:=Q) λw T' H' R' rv' g'=>q w T' ad3 H' R' rv' ((g1.trans g3).trans g');cases Rr h7;cases vx with
 |lst hr rl=>exact⟨_,_,rfl,hr.sq,c.2,RP rq (JY rl)⟩)
end
def AM(n:Nat)(K:zzA)(kd:KD)(F B:Addr->Prop)(ad:Ad)(σ:St)(H:Hp)(D:Ends):Out->Prop
 | .nx as'=>∀σ' ad' H',(∀i,i<n->σ'[i]? = σ[i]?)->Rel K kd F B [] ad' as' σ' H'->Grow (Gw [] ad) H (Gw [] ad') H'->D.nx σ' H'
 | .bk as'=>∀σ' ad' H',(∀i,i<n->σ'[i]? = σ[i]?)->Rel K kd F B [] ad' as' σ' H'->Grow (Gw [] ad) H (Gw [] ad') H'->D.bk σ' H'
 | .ct as'=>∀σ' ad' H',(∀i,i<n->σ'[i]? = σ[i]?)->Rel K kd F B [] ad' as' σ' H'->Grow (Gw [] ad) H (Gw [] ad') H'->D.ct σ' H'
 | .rt _=>False
def bp(n:Nat)(K:zzA)(kd:KD)(f:SF):TS:=λD σ H=>∃F B ad as o,Rel K kd F B [] ad as σ H/\f as=some o/\AM n K kd F B ad σ H D o
@[irreducible] def AP(X:Cx)(kd:KD)(n:Nat)(st:Stmt)(f:SF):Prop:=PS X st (bp n X.K kd f)
@[irreducible] def DC(X:Cx)(kd:KD)(n:Nat)(st:List Stmt)(f:SF):Prop:=Mg X st (bp n X.K kd f)
def AM.pre{n:Nat}{K:zzA}{kd:KD}{F B:Addr->Prop}{ad ad1:Ad}{σ σ1:St}{H H1:Hp}{D:Ends}{o:Out}(s:∀i,i<n->σ1[i]? = σ[i]?)(g:Grow (Gw [] ad) H (Gw [] ad1) H1)(h:AM n K kd F B ad σ H D o):AM n K kd F B ad1 σ1 H1 D o:=by
 cases o with
 |nx as=>exact λσ' ad' H' s' R g'=>h σ' ad' H' (λi hi=>(s' i hi).trans (s i hi)) R (g.trans g')
 |bk as=>exact λσ' ad' H' s' R g'=>h σ' ad' H' (λi hi=>(s' i hi).trans (s i hi)) R (g.trans g')
 |ct as=>exact λσ' ad' H' s' R g'=>h σ' ad' H' (λi hi=>(s' i hi).trans (s i hi)) R (g.trans g')
 |rt _=>exact h
section
variable{X:Cx}{kd:KD}{n:Nat}{e c tg iter:Expr}{st:Stmt}{rest sts body:List Stmt}{fa:EF}{ta:TF}{f g:SF}{pos pos':Pos}
def Ax:DC X kd n [] w4:=by with_unfolding_all exact(YZ N8 λD σ H h=>by
 obtain⟨F,B,a,as,o,R,e,q⟩:=h;cases e;exact q σ a H (λ_ _=>rfl) R Grow.refl)
def GU(h1:AP X kd n st f)(h2:DC X kd n rest g):DC X kd n (st::rest) (zj f g):=by with_unfolding_all exact(YZ (XW h1 h2) λD σ H h=>by
 obtain⟨F,B,ad,as,o,R,e,q⟩:=h;obtain⟨o1,e1,e⟩:=bS_ (show(f as).bind _=_ from e);refine⟨F,B,ad,as,o1,R,e1, ?_⟩;cases o1 with
 |nx as1=>exact λσ' ad' H' s' R' g'=>⟨F,B,ad',as1,o,R',e,q.pre s' g'⟩
 |bk as1=>cases e;exact q
 |ct as1=>cases e;exact q
 |rt r=>cases e;exact q)
def T4(h1:AP X kd n st f):DC X kd n [st] f:=by with_unfolding_all exact(Ug h1)
def qN(hc:AT X kd c ta)(ha:DC X kd n sts f)(hb:DC X kd n rest g):AP X kd n (.If c sts rest pos) (vG ta f g):=by with_unfolding_all exact(wq (Cc hc ha hb) λD σ H h=>by
 obtain⟨F,B,i,as,o,R,e,q⟩:=h;obtain⟨⟨p,a⟩,j,e⟩:=bS_ (show(ta as).bind _=_ from e);refine⟨F,B,i,as,p,a,R,j,λb k d g=>?_⟩;cases p with
 |true=>exact⟨F,B,b,a,o,d,e,q.pre (λ_ _=>rfl) g⟩
 |false=>exact⟨F,B,b,a,o,d,e,q.pre (λ_ _=>rfl) g⟩)
def N6(he:AE X kd e fa)(hs:swapsWith e none pos.line X.env=pure false):AP X kd n (.Expr e pos) (yN fa):=by with_unfolding_all exact(wq (UP he hs) λD σ H h=>by
 obtain⟨F,B,c,as,o,R,e,q⟩:=h;obtain⟨⟨p,a⟩,d,e⟩:=bS_ (show(fa as).bind _=_ from e);cases e;exact⟨F,B,c,as,p,a,R,d,λv j b f i k g=>q σ b f (λ_ _=>rfl) i.drop (g.trans (Grow.less Gw.drop))⟩)
def tI{z:Bool}{i:Nat}{x:Str}(hn:n<=i)(hN:X.N.Nodup)(hi:X.N[i]? = some x)(hx:Loc X.env.scope x)(he:AE X kd e fa)(hs:swapsWith e (some (.Name x pos')) pos.line X.env=pure false)(hf:X.fn x=true\/X.env.scope.names.lookup x=some .local):
 AP X kd n (.Assign [.Name x pos'] e pos) (zy z i fa):=by with_unfolding_all exact(wq (CY hN hi hx he hs hf) λD σ H h=>by
 obtain⟨F,B,c,as,o,R,e,q⟩:=h;obtain⟨⟨p,a⟩,d,e⟩:=bS_ (show(fa as).bind _=_ from e);obtain⟨⟨y,f⟩,j,e⟩:=bS_ e;obtain⟨l,e⟩:=zt e;cases e;refine⟨F,B,c,as,p,a,R,d,λv w m r s t g=>?_⟩;obtain⟨b,R2,u⟩:=Fw s t j l;exact q _ b r (λk A=>zzY (by omega)) R2 (g.trans (Grow.less u)))
def OA{fi:IF}{S:List Nat}{gt:GF}(hS:∀i,i<n->i ∉ S)(hp:PassesOwn (model X.prog X.w) X.A X.env X.xe)(hc:X.calm=true)(hi:AI X kd tg iter fi)(hg:AG X kd tg S gt)(hb:DC X kd n body f)(hs:∀x,foldedSetIterable iter X.env x=pure x):
 AP X kd n (.For tg iter body [] pos) (yU fi gt f):=by with_unfolding_all exact(wq (HP hp hc hi hg hb hs) λD σ H h=>by
 obtain⟨F,B,ad,as,o,R,e,q⟩:=h;obtain⟨⟨ds,as1⟩,h1,e⟩:=bS_ (show(fi as).bind _=_ from e);refine⟨F,B,ad,as,ds,as1,R,h1,λJ ad1 H1 R1 g1 it=>?_⟩;refine⟨λi m σ2 H2=>m+i=ds.length/\∃ad2 as2,(∀k,k<n->σ2[k]? = σ[k]?)/\Rel X.K kd F B [] ad2 as2 σ2 H2/\Grow (Gw [] ad1) H1 (Gw [] ad2) H2/\forL gt f (ds.drop i) as2=some o,⟨ds.length,rfl,ad1,as1,λ_ _=>rfl,R1,Grow.refl,e⟩, ?_⟩
 rintro i m σ2 H2 ⟨hm,ad2,as2,s2,R2,g2,e2⟩
 obtain⟨k1,k2,k3⟩:=it.all ad2 H2 g2 R2.trk i
 by_cases hi:i<ds.length
 . refine .inr ⟨k1 hi,λσ3 H3=>∃ad3 as3,(∀k,k<n->σ3[k]? = σ[k]?)/\Rel X.K kd F B [] ad3 as3 σ3 H3/\Grow (Gw [] ad1) H1 (Gw [] ad3) H3/\forL gt f (ds.drop (i+1)) as3=some o,λσ3 H3 ⟨ad3,as3,s3,R3,g3,e3⟩=>⟨m-1,by omega,by omega,ad3,as3,s3,R3,g3,e3⟩,λv H3 hy=>?_⟩;obtain⟨kp,rp⟩:=k3 v H3 hy;rw[zyQ hi]at e2;obtain⟨as3,e3,e2⟩:=bS_ (show(gt _ as2).bind _=_ from e2);obtain⟨o3,e4,e2⟩:=bS_ e2;obtain⟨R3,g3⟩:=R2.more kp;refine⟨F,B,ad2,as2,_,as3,R3,rp _ (zzE hi),e3,λσ4 ad4 H4 R4 g4 s4=>?_⟩;refine⟨F,B,ad4,as3,o3,R4,e4, ?_⟩;have gg:=(g2.trans g3).trans g4;have s4':∀k,k<n->σ4[k]? = σ[k]? := λk hk=>(s4 k (hS k hk)).trans (s2 k hk);cases o3 with
   |nx as5=>exact λσ5 ad5 H5 s5 R5 g5=>⟨ad5,as5,λk hk=>(s5 k hk).trans (s4' k hk),R5,gg.trans g5,e2⟩
   |ct as5=>exact λσ5 ad5 H5 s5 R5 g5=>⟨ad5,as5,λk hk=>(s5 k hk).trans (s4' k hk),R5,gg.trans g5,e2⟩
   |bk as5=>
    cases e2;exact λσ5 ad5 H5 s5 R5 g5=>q σ5 ad5 H5 (λk hk=>(s5 k hk).trans (s4' k hk)) R5 (g1.trans (gg.trans g5))
   |rt r=>cases e2;exact q.elim
 . refine .inl ⟨k2 (by omega), ?_⟩;rw[List.drop_eq_nil_of_le (by omega)]at e2;cases e2;exact q σ2 ad2 H2 s2 R2 (g1.trans g2))
end
section
variable{K:zzA}{kd:KD}{F B:Addr->Prop}{ad:Ad}{as:AS}{σ:St}{H H':Hp}
def G1(G:Addr->Prop)(T T':List Addr):Addr->Prop:=λa=>(G a/\a ∉ T)\/a ∈ T'
def Rel.chg1{i:Nat}{o0:O}{v0:V}{T0:List Addr}(R:Rel K kd F B [] ad as σ H)(hi:i<as.length)(s0:σ[i]? = some (some v0))(nd:T0.Nodup)
 (sub:∀a ∈ T0,a ∈ ad i\/H a=none) (kp:∀c u,H c=some u->c ∉ ad i->H' c=some u) (al:∀a ∈ T0,H' a≠none)
 (r0:ZN K kd F B (G1 (Gw [] ad) (ad i) T0) H' v0 o0 T0):
 Rel K kd F B [] (v7 ad i T0) (as.set i (some o0)) σ H'/\Grow (Gw [] ad) H (Gw [] (v7 ad i T0)) H':=by
 have v:v7 ad i T0 i=T0:=zZ;have q:∀k,k≠i->v7 ad i T0 k=ad k:=λk h=>ye h;have r:∀k a,k≠i->a ∈ ad k->a ∉ ad i:=λk a h m z=>h (R.inj k i a m z);have C:∀a,Gw [] (v7 ad i T0) a->G1 (Gw [] ad) (ad i) T0 a:=λa z=>by
  rcases z with z|⟨k,z⟩
  . exact nomatch z
  . by_cases e:k=i
    . subst e;rw[v]at z;exact .inr z
    . rw[q k e]at z;exact .inl ⟨.inr ⟨k,z⟩,r k a e z⟩
 have A:∀k a,k≠i->a ∈ ad k->a ∉ T0:=λk a h m z=>(sub a z).elim (r k a h m) λy=>(R.gtr a (.inr ⟨k,m⟩)).1 y;have g:Grow (Gw [] ad) H (Gw [] (v7 ad i T0)) H':=⟨λb o h n=>kp b o h λz=>n (.inr ⟨i,z⟩),λb z=>(C b z).elim (λy=>.inl y.1) λy=>(sub b y).elim (λx=>.inl (.inr ⟨i,x⟩)) .inr⟩;have D:∀a,H a≠none->a ∉ ad i->H' a≠none:=λa h n=>by
  cases e:H a with
  |none=>exact absurd e h
  |some u=>rw[kp a u e n];simp
 have d:∀a,a ∈ ad i->Gw [] ad a:=λa z=>.inr ⟨i,z⟩;refine⟨⟨by rw[zzU];exact R.len,λk I=>?_,λk=>?_,λk l a j p=>?_,zyJ,(λ_ _ _ z=>nomatch z),λa z=>D a (R.ftr a z) λy=>(R.gtr a (d a y)).2 z,λa z=>?_,λa z=>?_,λk s e=>?_⟩,g⟩
 . rw[zzU]at I;rw[q k (by omega)];exact R.out k I
 . by_cases e:k=i
   . subst e;rw[v];exact nd
   . rw[q k e];exact R.nd k
 . by_cases e:k=i
   . subst e;rw[v]at j
     by_cases E:l=k
     . exact E.symm
     . rw[q l E]at p;exact absurd j (A l a E p)
   . rw[q k e]at j
     by_cases t:l=i
     . subst t;rw[v]at p;exact absurd p (A k a e j)
     . rw[q l t]at p;exact R.inj k l a j p
 . obtain⟨j,p,G⟩:=R.btr a z;refine⟨D a j λy=>G (d a y),p,λy=>(C a y).elim (λx=>G x.1) λx=>(sub a x).elim (λw=>G (d a w)) j⟩
 . rcases C a z with⟨y,n⟩|y
   . exact⟨D a (R.gtr a y).1 n,(R.gtr a y).2⟩
   . exact⟨al a y,(sub a y).elim (λw=>(R.gtr a (d a w)).2) λw f=>R.ftr a f w⟩
 . by_cases t:k=i
   . subst t;rw[zyK hi]at e;cases e;rw[v];exact⟨v0,s0,ZN.lv (λJ a z=>z.imp id (C a)) r0⟩
   . rw[zzY (λz=>t z.symm)]at e;rw[q k t];exact(R.sl k s e).grow g λa m u h=>kp a u h (r k a t m)
end
def S3(K:zzA)(kd:KD)(g:List xb->O->Option O):Sp:=λvs H Q _=>∃(F B G:Addr->Prop) (T:List Addr) (ws:List V) (v:V) (xs:List xb) (o r:O),vs=ws++[v]/\(∀a,F a->H a≠none)/\(∀a,B a->H a≠none/\¬F a/\¬G a)/\(∀a,G a->H a≠none/\¬F a)/\
 T.Nodup/\(∀a ∈ T,G a)/\RpI K kd F B G H ws xs/\ZN K kd F B G H v o T/\g xs o=some r/\
 ∀(H':Hp) (T':List Addr),(∀c u,H c=some u->c ∉ T->H' c=some u)->T'.Nodup->(∀a ∈ T',a ∈ T\/H a=none)->(∀a ∈ T',H' a≠none)->ZN K kd F B (G1 G T T') H' v r T'->Q .non H'
noncomputable def L7(i:Nat):List RV->Option (List xb)
 | []=>none
 |r::rs=>match r with
  | .bo j=>if j=i/\rs.isEmpty=true then some []else none
  | .ow (.lf st d)=>(L7 i rs).bind λxs=>some ((st,d)::xs)
  | .ow (.nd _ _)=>none
theorem M7{K:zzA}{kd:KD}{F B:Addr->Prop}{ad:Ad}{σ:St}{H:Hp}{i:Nat}:∀{rs:List RV}{vs:List V}{xs:List xb},RVs K kd F B ad σ H vs rs->L7 i rs=some xs->∃ws v,vs=ws++[v]/\RpI K kd F B (Gw [] ad) H ws xs/\σ[i]? = some (some v)
 | [],_,_,_,e=>by cases e
 |r::rs,_,xs,h,e=>by
  cases h with
  |cons hv hr=>
   rename_i v vs;cases r with
   |bo j=>
    have e:(if j=i/\rs.isEmpty=true then some ([]:List xb)else none)=some xs:=e;obtain⟨⟨e1,e2⟩,e3⟩:=zt e;cases e3;rw[List.isEmpty_iff]at e2;subst e1 e2;cases hr;exact⟨[],v,rfl,.nil,hv.2⟩
   |ow o=>
    cases o with
    |lf st d=>
     obtain⟨ys,e1,e⟩:=bS_ (show(L7 i rs).bind _=_ from e);cases e;obtain⟨ws,w,rfl,h1,h2⟩:=M7 hr e1;have hv:ZN K kd F B (Gw [] ad) H v (.lf st d) []:=hv;cases hv with
     |lf rp=>exact⟨v::ws,w,rfl,.cons rp h1,h2⟩
    |nd k os=>cases e
noncomputable def Wf(i:Nat)(fr:AF)(g:List xb->O->Option O):SF:=λas=>(fr as).bind λp=>(L7 i p.1).bind λxs=>(p.2[i]?).bind λa=>a.bind λo=>(g xs o).bind λr=>some (.nx (p.2.set i (some r)))
section
variable{X:Cx}{kd:KD}{e:Expr}{es:List Expr}{fr:AF}{pos pos':Pos}
def M_{n i k:Nat}{f:Addr}{fdt:FuncData}{ps:List Str}{g:List xb->O->Option O}{x:Str}{p:Pos}(F:FnOk X.prog X.w X.K X.mg X.base xC k f fdt ps (S3 X.K kd g))(hr:Room k X.A)(hg:Gl X x)(hm:X.mg x=some (.ref f))(hk:PySem.W.keepIn X.K (.ref f)=true)
 (hb:Binds X.K fdt ps []) (hx:Zd xC X (λ_ _ _=>False)) (ha:AA X kd (e::es) fr) (hdb:(x==("__debug__":Str))=false) (he:starEach (e::es) X.env=(false,eval e X.env)::starEach es X.env) (hpl:(backTo pos (starEach es X.env)).any (·.1)=false)
 (hs:swapsWith (.Call (.Name x p) (e::es) [] pos) none pos'.line X.env=pure false):
 AP X kd n (.Expr (.Call (.Name x p) (e::es) [] pos) pos') (Wf i fr g):=by
 with_unfolding_all exact(wq (UP (BZ F hr hg hm hk hb .nil hx ha hdb he hpl) hs) λD σ H h=>by
  obtain⟨F,B,I,as,o,R,e,q⟩:=h;obtain⟨⟨J,d⟩,L,M⟩:=bS_ (show(fr as).bind _=_ from e);obtain⟨N,P,Q⟩:=bS_ M;obtain⟨a,z,S⟩:=bS_ Q;obtain⟨T,U,V⟩:=bS_ S;obtain⟨r,j,Y⟩:=bS_ V;subst U;have l:=zzZ Y;refine(show IH X.K kd fr σ H _ from⟨F,B,I,as,J,d,R,L,λvs c Z b s g1=>?_⟩);obtain⟨C,v,rfl,t,E⟩:=M7 s P;obtain⟨w0,G,u⟩:=b.sl i _ z;rw[E]at G;cases G;show S3 X.K kd g ((C++[v])++[]) Z _ _;rw[zyE];refine⟨F,B,Gw [] c,c i,C,v,N,T,r,rfl,b.ftr,b.btr,b.gtr,b.nd i,λa m=>.inr ⟨i,m⟩,t,u,j,λH' T' kp nd y al r0=>?_⟩;obtain⟨R3,g3⟩:=b.chg1 (zzG.mp z).1 E nd y kp al r0;subst l;exact q σ _ _ (λ_ _=>rfl) R3 (g1.trans g3))
def CC{i k:Nat}{f:Addr}{fdt:FuncData}{ps:List Str}{g:List xb->O->Option O}{x:Str}{p:Pos}(F:FnOk X.prog X.w X.K X.mg X.base xC k f fdt ps (S3 X.K kd g))(hr:Room k X.A)(hg:Gl X x)(hm:X.mg x=some (.ref f))(hk:PySem.W.keepIn X.K (.ref f)=true)
 (hb:Binds X.K fdt ps []) (hx:Zd xC X (λ_ _ _=>False)) (ha:AA X kd (e::es) fr) (hdb:(x==("__debug__":Str))=false) (he:starEach (e::es) X.env=(false,eval e X.env)::starEach es X.env) (hpl:(backTo pos (starEach es X.env)).any (·.1)=false)
 (hs:swapsWith (.Call (.Name x p) (e::es) [] pos) none pos'.line X.env=pure false):
 HC X kd (.Expr (.Call (.Name x p) (e::es) [] pos) pos') (Wf i fr g):=by
 have h:=M_ (n:=0) (i:=i) F hr hg hm hk hb hx ha hdb he hpl hs
 with_unfolding_all exact(wq h λD σ H h=>by
  obtain⟨F,B,ad,as,o,R,e,q⟩:=h;refine⟨F,B,ad,as,o,R,e, ?_⟩;cases o with
  |nx as'=>exact λσ' ad' H' _ R' g'=>q σ' ad' H' R' g'
  |bk as'=>exact λσ' ad' H' _ R' g'=>q σ' ad' H' R' g'
  |ct as'=>exact λσ' ad' H' _ R' g'=>q σ' ad' H' R' g'
  |rt r=>
   obtain⟨⟨rs,as1⟩,h1,e1⟩:=bS_ (show(fr as).bind _=_ from e);obtain⟨xs,h2,e2⟩:=bS_ e1;obtain⟨a,ka,e3⟩:=bS_ e2;obtain⟨o0,qa,e4⟩:=bS_ e3;obtain⟨r,hgr,e5⟩:=bS_ e4;cases e5)
end
def br(n:Nat)(K:zzA)(kd:KD)(f:SF):TS:=λD σ H=>∃F B ad as as',Rel K kd F B [] ad as σ H/\f as=some (.nx as')/\∀σ' ad' H',(∀i,i<n->σ'[i]? = σ[i]?)->Rel K kd F B [] ad' as' σ' H'->Grow (Gw [] ad) H (Gw [] ad') H'->D.nx σ' H'/\D.rt .non H'
@[irreducible] def lY(X:Cx)(kd:KD)(n:Nat)(st:List Stmt)(f:SF):Prop:=Mg X st (br n X.K kd f)
section
variable{X:Cx}{kd:KD}{n:Nat}{c:Expr}{st:Stmt}{rest:List Stmt}{ta:TF}{f g:SF}{pos pos':Pos}
def Ho(hc:AT X kd c ta)(ha:AP X kd n st f)(hb:DC X kd n rest g):lY X kd n (.If c [st,.Return none pos'] [] pos::rest) (vG ta f g):=by
 with_unfolding_all exact(YZ (XW (Cc hc (XW ha (Ug Ar)) N8) hb) λD σ H h=>by
  obtain⟨F,B,r,as,s,R,e,q⟩:=h;obtain⟨⟨p,a⟩,t,e⟩:=bS_ (show(ta as).bind _=_ from e);refine⟨F,B,r,as,p,a,R,t,λd u m o=>?_⟩;cases p with
  |true=>exact⟨F,B,d,a,_,m,e,λi b j k R2 l=>(q i b j k R2 (o.trans l)).2⟩
  |false=>exact⟨F,B,d,a,_,m,e,λi b j k R2 l=>(q i b j k R2 (o.trans l)).1⟩)
end
def Ub(n:Nat)(xs:List xb)(o:O):AS:=(xs.map λx=>some (O.lf x.1 x.2))++some o::List.replicate (n-(xs.length+1)) none
noncomputable def gL(n m:Nat)(c:SF)(xs:List xb)(o:O):Option O:=if xs.length+1=m then(c (Ub n xs o)).bind λout=>match out with
 | .nx as=>(as[xs.length]?).bind id
 |_=>none
 else none
def uE(k:Nat)(T:List Addr):Ad:=λi=>if i=k then T else[]
def Pj{k:Nat}{T:List Addr}{a:Addr}:Gw [] (uE k T) a ↔ a ∈ T:=by
 constructor
 . rintro(z|⟨i,z⟩)
   . exact nomatch z
   . unfold uE at z
     by_cases e:i=k
     . rw[if_pos e]at z;exact z
     . rw[if_neg e]at z;exact nomatch z
 . intro z;exact .inr ⟨k,by unfold uE;rw[if_pos rfl];exact z⟩
theorem Ge{K:zzA}{kd:KD}{F B G:Addr->Prop}{H:Hp}:∀{vs:List V}{xs:List xb},RpI K kd F B G H vs xs->vs.length=xs.length
 |_,_,.nil=>rfl
 |_,_,.cons _ h=>congrArg Nat.succ (Ge h)
theorem Sk{K:zzA}{kd:KD}{F B G:Addr->Prop}{H:Hp}:∀{vs:List V}{xs:List xb}{i:Nat}{x:xb},RpI K kd F B G H vs xs->xs[i]? = some x->∃v,vs[i]? = some v/\Rp K kd (Lv F B G x.1) H v x.2
 |_,_,i,x,.nil,e=>by cases e
 |_,_,0,x,.cons r h,e=>by cases e;exact⟨_,rfl,r⟩
 |_,_,i+1,x,.cons r h,e=>Sk (i:=i) h e
def FV{K:zzA}{kd:KD}{F B G:Addr->Prop}{T:List Addr}{H:Hp}{N:List Str}{ws:List V}{v:V}{xs:List xb}{o:O}(hN:xs.length+1<=N.length)(ht:∀a,F a->H a≠none)(hB:∀a,B a->H a≠none/\¬F a/\¬G a)(hG:∀a,G a->H a≠none/\¬F a)(nd:T.Nodup)(hT:∀a ∈ T,G a)
 (rpi:RpI K kd F B G H ws xs) (r0:ZN K kd F B G H v o T):Rel K kd F (λa=>B a\/(G a/\a ∉ T)) [] (uE xs.length T) (Ub N.length xs o) (L2.start N (ws++[v])) H:=by
 have d:=Ge rpi;have k:∀c a,Lv F (λa=>B a\/(G a/\a ∉ T)) (Gw [] (uE xs.length T)) c a->Lv F B G c a:=λc a z=>by
  rcases z with(z|z|z)|z
  . exact .inl (.inl z)
  . exact .inl (.inr z)
  . exact .inr z.1
  . exact .inr (hT a (Pj.mp z))
 have b:∀i,i≠xs.length->uE xs.length T i=[]:=λi h=>if_neg h;have f:uE xs.length T xs.length=T:=if_pos rfl;have l:(Ub N.length xs o).length=N.length:=by unfold Ub;simp;omega
 have c:L2.start N (ws++[v])=ws.map some++some v::List.replicate (N.length-(xs.length+1)) none:=by
  unfold L2.start;simp[d]
 refine⟨by rw[l,c];simp[d];omega,λi t=>b i (by omega),λi=>?_,λi j a x y=>?_,zyJ,(λ_ _ _ z=>nomatch z),ht,λa z=>?_,λa z=>hG a (hT a (Pj.mp z)),λi s e=>?_⟩
 . by_cases h:i=xs.length
   . subst h;rw[f];exact nd
   . rw[b i h];exact zyJ
 . by_cases h:i=xs.length
   . by_cases g:j=xs.length
     . rw[h,g]
     . rw[b j g]at y;exact nomatch y
   . rw[b i h]at x;exact nomatch x
 . rcases z with z|z
   . exact⟨(hB a z).1,(hB a z).2.1,λy=>(hB a z).2.2 (hT a (Pj.mp y))⟩
   . exact⟨(hG a z.1).1,(hG a z.1).2,λy=>z.2 (Pj.mp y)⟩
 . rw[c];unfold Ub at e
   by_cases h:i<xs.length
   . rw[zyP (by rw[zzB];exact h),zzI]at e;obtain⟨x,m,rfl⟩:=zzX.mp e;obtain⟨u,n,p⟩:=Sk rpi m;rw[b i (by omega),zyP (by rw[zzB,d];exact h),zzI,n];exact⟨u,rfl,.lf (p.less (k x.1))⟩
   . rw[zyR (by rw[zzB];omega),zzB]at e;rw[zyR (by rw[zzB,d];omega),zzB,d]
     by_cases g:i=xs.length
     . subst g;rw[Nat.sub_self]at e ⊢;cases e;rw[f];exact⟨v,rfl,ZN.lv k r0⟩
     . rw[b i g];obtain⟨j,q⟩:∃j,i-xs.length=j+1:=⟨i-xs.length-1,by omega⟩;rw[q]at e;have e:(List.replicate (N.length-(xs.length+1)) (none:Option O))[j]? = some s:=e;have r:s=none:=(List.mem_replicate.mp (zyA e)).2;subst r;rfl
section
variable{P:Program}{w:World}{K:zzA}{mg:Str->Option Value}{base:Heap}
def uV{kd:KD}{x qual:Str}{st:Stmt}{f:Addr}{fd:FuncData}{N ps:List Str}{k:Nat}{c:SF}(Fn:Fun K x qual st f fd)(S:FnScope N ps (zd st))(hN:ps.length<=N.length)
 (hb:∀(cdv:Value) (A:Around) (outer:List Env) (s:Shared) (H:Hp) (E:XK),Room k (A.deeper (envOfC qual (zd st) s.heap.objs.size f cdv))->lY (Ld xC P w K mg base N qual (zd st) f cdv A outer s H E).nox kd ps.length (Yy st) c):
 FnOk P w K mg base xC (k+1) f fd ps (S3 K kd (gL N.length ps.length c)):=by
 with_unfolding_all (
 refine Fn.ok S (λX H Q E h=>?_) (λy A j s H X Q E Y h=>⟨_,hb y A j s H E Y, ?_⟩)
 . obtain⟨F,B,G,T,I,v,d,o,r,rfl,J,L,M,nd,O,i,U,e,q⟩:=h;unfold gL at e
   by_cases p:d.length+1=ps.length
   . rw[zzJ,Ge i];exact p
   . rw[if_neg p]at e;cases e
 . obtain⟨F,B,G,T,I,v,d,o,r,rfl,J,L,M,nd,O,i,U,e,q⟩:=h;unfold gL at e
   by_cases p:d.length+1=ps.length
   . rw[if_pos p]at e;obtain⟨C,Z,V⟩:=bS_ e;cases C with
     |nx as=>
      obtain⟨a,k0,e3⟩:=bS_ V;have e4:a=some r:=e3;subst e4;refine⟨F,_,_,Ub N.length d o,as,FV (by omega) J L M nd O i U,Z,λσ' b H' sp R g=>?_⟩;obtain⟨u0,W,t0⟩:=R.sl d.length _ k0;rw[sp d.length (by omega)]at W;have sv:(L2.start N (I++[v]))[d.length]? = some (some v):=by
       have wl:=Ge i;unfold L2.start;rw[<-wl];simp
      cases(show some (some v)=some (some u0)from sv.symm.trans W);have l:∀a,a ∈ b d.length->Gw [] b a:=λa z=>.inr ⟨_,z⟩;have lv:∀D a,Lv F B (G1 G T (b d.length)) D a->Lv F (λa=>B a\/(G a/\a ∉ T)) (Gw [] b) D a:=λD a z=>by
       rcases z with(z|z)|z|z
       . exact .inl (.inl z)
       . exact .inl (.inr (.inl z))
       . exact .inl (.inr (.inr z))
       . exact .inr (l a z)
      have t:=q H' (b d.length) (λc u h n=>g.keep c u h λz=>n (Pj.mp z)) (R.nd _) (λa m=>(g.own a (l a m)).imp Pj.mp id) (λa m=>(R.gtr a (l a m)).1) (ZN.lv lv t0);exact⟨t,t⟩
     |_=>cases V
   . rw[if_neg p]at e;cases e)
end
section
variable{X:Cx}{kd:KD}{n:Nat}
def mV(z:Bool)(i:Nat){x:Str}{pos pos':Pos}{e:Expr}{fa:EF}(hn:n<=i)(hN:X.N.Nodup)(he:AE X kd e fa)(hi:X.N[i]? = some x:=by rfl)(hx:Loc X.env.scope x:=by first|exact Or.inl rfl|exact Or.inr rfl)(hs:swapsWith e (some (.Name x pos')) pos.line X.env=pure false:=by rfl)(hf:X.fn x=true\/X.env.scope.names.lookup x=some .local:=by first|exact Or.inl rfl|exact Or.inr rfl):
 AP X kd n (.Assign [.Name x pos'] e pos) (zy z i fa):=tI hn hN hi hx he hs hf
end
section
variable{P:Program}{w:World}{K:zzA}{mg:Str->Option Value}{base:Heap}{kd:KD}
def Cm{k:Nat}{f:Addr}{fd:FuncData}{ps:List Str}:FnOk P w K mg base xC k f fd ps (S3 K kd λ_ _=>none):=
 ⟨λc H Q E h=>(by obtain⟨_,_,_,_,_,_,_,_,_,_,_,_,_,_,_,_,_,e,_⟩:=h;cases e),λA a s H b d c Q E _ _ _ _ h=>(by obtain⟨_,_,_,_,_,_,_,_,_,_,_,_,_,_,_,_,_,e,_⟩:=h;cases e)⟩
end
section
variable{X:Cx}{kd:KD}{P:Program}{w:World}{K:zzA}{a b e o:Expr}{es:List Expr}{fa fb fo:EF}{fr:AF}{fd_:DF}{pos p apos:Pos}{k n:Nat}
def Yx{N Ps:List Str}{sc:Scope}(h1:sc.kind = .function:=by rfl)(h2:sc.isCoroutine=false:=by rfl)(h3:sc.isGenerator=false:=by rfl)(h4:N.Nodup:=by decide +kernel)(h5:N.take Ps.length=Ps:=by rfl)(h6:∀x ∈ Ps,sc.names.lookup x=some .local\/sc.names.lookup x=some .cell:=by decide +kernel)(h7:∀y ∈ sc.names,y.2 ≠ .free:=by decide +kernel):FnScope N Ps sc:=⟨h1,h2,h3,h4,h5,h6,h7⟩
def bs{x qual:Str}{st:Stmt}{f:Addr}{fd:FuncData}{ps:List Str}(F:Fun K x qual st f fd)
 (h:∀(kV doc pm:Value) (an:Option Addr) (cdv ct:Value) (us:List Value),us.length=ps.length->bindArgs (PySem.W.fnOf x qual (Ga st) (Yy st) (zd st) .none kV doc pm an cdv ct) ⟨us,[]⟩=pure (ps.zip us):=by first|exact λ_ _ _ _ _ _=>jV λ_=>rfl|exact λ_ _ _ _ _ _=>jf λ_ _=>rfl|exact λ_ _ _ _ _ _=>jm λ_ _ _=>rfl|exact λ_ _ _ _ _ _=>jQ λ_ _ _ _=>rfl|exact λ_ _ _ _ _ _=>jn λ_ _ _ _ _=>rfl|exact λ_ _ _ _ _ _=>l6_ λ_ _ _ _ _ _=>rfl):Binds K fd ps []:=F.binds h
def bc(ha:AE X kd a fa)(hr:AA X kd es fr)(hs:isStar a=false:=by rfl):AA X kd (a::es) (aC fa fr):=AC ha hr (LW hs)
def bd(ha:AE X kd a fa)(hr:AD X kd es fd_)(hs:isStar a=false:=by rfl):AD X kd (a::es) (dC fa fd_):=Ai ha hr (LW hs)
def bn{op:Operator}(ha:AE X kd a fa)(hb:AE X kd b fb):AE X kd (.BinOp a op b pos) (f2 fa fb (YX op)):=uh (tX op) ha hb
def tc{op:CmpOp}(hkd:vb P w K kd)(hr:Room k X.A)(ha:AE X kd a fa)(hb:AE X kd b fb)(h1:X.prog=P:=by rfl)(h2:X.w=w:=by rfl)(h3:X.K=K:=by rfl)(hm:behindInMarks op b=false:=by exact Iv _):AT X kd (.Compare a [op] [b] pos) (fT (f2 fa fb (zP op))):=s_ (N0 (hkd _ h1 h2 h3) (Fd hr) op) (Ji op) ha hb hm
def ec{op:CmpOp}(hkd:vb P w K kd)(hr:Room k X.A)(ha:AE X kd a fa)(hb:AE X kd b fb)(h1:X.prog=P:=by rfl)(h2:X.w=w:=by rfl)(h3:X.K=K:=by rfl)(hm:behindInMarks op b=false:=by exact Iv _):AE X kd (.Compare a [op] [b] pos) (f2 fa fb (zP op)):=rD (N0 (hkd _ h1 h2 h3) (Fd hr) op) ha hb hm
def fd{cs:List Str}{f:Str}(hc:CF X.K kd cs f)(ha:AE X kd a fa)(hb:attributeBase a f X.env (eval a X.env)=eval a X.env:=by rfl):AE X kd (.Attribute a f pos) (f1 fa (xM cs f)):=ub hc ha hb
def ck{f:Addr}{fdt:FuncData}{ps:List Str}{gg:List (Bool×D)->Option O}{x:Str}(F:FnOk X.prog X.w X.K X.mg X.base xC k f fdt ps (Zm X.K kd gg))(hr:Room n X.A)(hm:X.mg x=some (.ref f))(hk:PySem.W.keepIn X.K (.ref f)=true)
 (hb:Binds X.K fdt ps []) (ha:AA X kd (e::es) fr) (hn:k<=n:=by omega) (hg:Gl X x:=by rfl) (hdb:(x==("__debug__":Str))=false:=by decide) (he:starEach (e::es) X.env=(false,eval e X.env)::starEach es X.env:=by rfl) (hpl:(backTo pos (starEach es X.env)).any (·.1)=false:=by rfl):
 AE X kd (.Call (.Name x p) (e::es) [] pos) (zq fr gg):=AJ F (hr.mono hn) hg hm hk hb XI ha hdb he hpl
def bi{id:String}{gg:List D->Option R0}{x:Str}(hc:Y0 X kd (.builtin id) gg)(hm:X.mg x=none)(hv:bootBuiltins x=some (.builtin id))(ha:AA X kd (e::es) fr)(hg:Gl X x:=by rfl)(hn:x≠"__name__":=by exact Bt.n _ rfl)(hdb:(x==("__debug__":Str))=false:=by decide)
 (he:starEach (e::es) X.env=(false,eval e X.env)::starEach es X.env:=by rfl) (hpl:(backTo pos (starEach es X.env)).any (·.1)=false:=by rfl):AE X kd (.Call (.Name x p) (e::es) [] pos) (fP fr gg):=tZ hc hg hm hv ha hn hdb he hpl
def Ss{T:String}{gg:List D->Option R0}{x:Str}(hc:Y0 X kd (.type T) gg)(hm:X.mg x=none)(hv:bootBuiltins x=some (.type T))(ha:AA X kd (e::es) fr)(hg:Gl X x:=by rfl)(hn:x≠"__name__":=by exact Bt.n _ rfl)(hdb:(x==("__debug__":Str))=false:=by decide)
 (he:starEach (e::es) X.env=(false,eval e X.env)::starEach es X.env:=by rfl) (hpl:(backTo pos (starEach es X.env)).any (·.1)=false:=by rfl):AE X kd (.Call (.Name x p) (e::es) [] pos) (fP fr gg):=u9 hc hg hm hv ha hn hdb he hpl
def mq{c x:Str}{f C:Addr}{fdt:FuncData}{ps:List Str}{g:List (Bool×D)->Option O}(hC:kd.c c=C)(M:Mk X.K C f)(F:FnOk X.prog X.w X.K X.mg X.base xC k f fdt ps (uI X.K kd c g))(hr:Room n X.A)(hm:X.mg x=some (.ref C))(hb:Binds X.K fdt ps [])
 (ha:AA X kd (e::es) fr) (hn:k+1<=n:=by omega) (hg:Gl X x:=by rfl) (hdb:(x==("__debug__":Str))=false:=by decide) (he:starEach (e::es) X.env=(false,eval e X.env)::starEach es X.env:=by rfl) (hpl:(backTo pos (starEach es X.env)).any (·.1)=false:=by rfl):
 AE X kd (.Call (.Name x p) (e::es) [] pos) (zq fr g):=J0 hC M F (hr.mono hn) hg hm hb XI ha hdb he hpl
def sj(i:Nat){z:Bool}{x:Str}{pos':Pos}{rest:List Stmt}{g:SF}(hN:X.N.Nodup)(he:AE X kd e fa)(h2:IG X kd rest g)(hi:X.N[i]? = some x:=by rfl)(hx:Loc X.env.scope x:=by first|exact Or.inl rfl|exact Or.inr rfl)(hs:swapsWith e (some (.Name x pos')) pos.line X.env=pure false:=by rfl)(hf:X.fn x=true\/X.env.scope.names.lookup x=some .local:=by first|exact Or.inl rfl|exact Or.inr rfl):
 IG X kd (.Assign [.Name x pos'] e pos::rest) (zj (zy z i fa) g):=zi (HW hN hi hx he hs hf) h2
def mt{m:Str}{tbl:List (Str×(List (Bool×D)->Option O))}{pl:Sem Bool}(hT:MT X.prog X.w X.K X.mg X.base kd m k tbl)(hr:Room n X.A)(ho:AE X kd o fo)(ha:AA X kd (e::es) fr)
 (ht:eval (.Call (.Attribute o m apos) (e::es) [] pos) X.env=(do
  let ov <-eval o X.env
  standAt apos.atName
  let(f,first) <-holding [ov] (getMethod ov m pl)
  callWith pos f first (backTo pos (starEach (e::es) X.env)) (backToKw pos (keywordEach [] X.env))))
 (hn:k<=n:=by omega) (hst:starEach (e::es) X.env=(false,eval e X.env)::starEach es X.env:=by rfl) (hpl:(backTo pos (starEach es X.env)).any (·.1)=false:=by rfl):
 AE X kd (.Call (.Attribute o m apos) (e::es) [] pos) (UT tbl m fo fr):=uQ hT (hr.mono hn) XI ho ha hst hpl ht
end
section
variable{K:zzA}{kd:KD}{F B:Addr->Prop}{ad:Ad}{as:AS}{σ:St}{H:Hp}{i:Nat}{c f1 f2:Str}{st:Bool}{w:D}{ts:List O}
def Rel.mks(R:Rel K kd F B [] ad as σ H)(k:as[i]? = some (some (.nd (.ob c [f1,f2]) [.lf st w,.nd .ls ts]))):∃a dx l v1 vs fp,σ[i]? = some (some (.ref a))/\H a=some (.ins (kd.c c) dx [(f1,v1),(f2,.ref l)])/\Rp K kd (Lv F B (Gw [] ad) st) H v1 w/\H l=some (.lst vs)/\vB K kd F B (Gw [] ad) H vs ts fp/\ad i=a::l::fp:=by
 obtain⟨v,e,d⟩:=R.sl i _ k;generalize f:ad i=g at d;cases d with
 |ob h j t m=>
  have ec:=h.cl_eq;subst ec;cases m with
  |cons n o=>
   cases n with
   |lf p=>
    cases o with
    |cons q r=>
     cases r with
     |nil=>
      cases q with
      |ls s b=>exact⟨_,_,_,_,_,_,e,j,p,s,b,by simp⟩
end
noncomputable def r_(i:Nat)(cs:List Str)(f:Str):EF:=λas=>match as[i]? with
 |some (some (.nd (.ob c [f1,f2]) [.lf st w,.nd .ls ts]))=>if c ∈ cs/\f=f1 then some (.ow (.lf st w),as)else none
 |_=>none
noncomputable def pP(i:Nat)(cs:List Str)(f:Str):EF:=λas=>match as[i]? with
 |some (some (.nd (.ob c [f1,f2]) [.lf st w,.nd .ls ts]))=>if c ∈ cs/\f=f2/\f1≠f2 then some (.ow (.lf true (.int ts.length)),as)else none
 |_=>none
noncomputable def qw(i j:Nat)(cs:List Str)(f:Str):SF:=λas=>match as[i]?,as[j]? with
 |some (some (.nd (.ob c [f1,f2]) [.lf st w,.nd .ls ts])),some (some (.lf s d))=>if c ∈ cs/\f=f2/\f1≠f2/\ts.length<sizeLine then some (.nx (as.set i (some (.nd (.ob c [f1,f2]) [.lf st w,.nd .ls (ts++[.lf s d])]))))else none
 |_,_=>none
def AL{i:Nat}{cs:List Str}{f:Str}{as:AS}{x:RV×AS}(e:r_ i cs f as=some x):∃c f2 st w ts,as[i]? = some (some (.nd (.ob c [f,f2]) [.lf st w,.nd .ls ts]))/\c ∈ cs/\x=(.ow (.lf st w),as):=by
 unfold r_ at e
 split at e
 . rename_i c f1 f2 g w h k;obtain⟨⟨a,b⟩,d⟩:=zt e;subst b;cases d;exact⟨_,_,_,_,_,k,a,rfl⟩
 . cases e
def De{i:Nat}{cs:List Str}{f:Str}{as:AS}{x:RV×AS}(e:pP i cs f as=some x):∃c f1 st w ts,as[i]? = some (some (.nd (.ob c [f1,f]) [.lf st w,.nd .ls ts]))/\c ∈ cs/\f1≠f/\x=(.ow (.lf true (.int ts.length)),as):=by
 unfold pP at e
 split at e
 . rename_i c f1 f2 h w j k;obtain⟨⟨a,b,d⟩,g⟩:=zt e;subst b;cases g;exact⟨_,_,_,_,_,k,a,d,rfl⟩
 . cases e
def JH{i j:Nat}{cs:List Str}{f:Str}{as:AS}{x:Out}(e:qw i j cs f as=some x):∃c f1 st w ts s d,as[i]? = some (some (.nd (.ob c [f1,f]) [.lf st w,.nd .ls ts]))/\as[j]? = some (some (.lf s d))/\c ∈ cs/\f1≠f/\ts.length<sizeLine/\x = .nx (as.set i (some (.nd (.ob c [f1,f]) [.lf st w,.nd .ls (ts++[.lf s d])]))):=by
 unfold qw at e
 split at e
 . rename_i c f1 f2 n w o s d k a;obtain⟨⟨b,g,h,l⟩,m⟩:=zt e;subst g;cases m;exact⟨_,_,_,_,_,_,_,k,a,b,h,l,rfl⟩
 . cases e
section
variable{X:Cx}{kd:KD}{i j n:Nat}{cs:List Str}{f x y:Str}{p p' pos apos cpos:Pos}
def qP(hc:CF X.K kd cs f)(ho:PE X (.Name x p) (Qo i))(hb:attributeBase (.Name x p) f X.env (eval (.Name x p) X.env)=eval (.Name x p) X.env):AE X kd (.Attribute (.Name x p) f pos) (r_ i cs f):=by
 with_unfolding_all exact(yu (NL ho hb) λσ H Q h=>by
  obtain⟨F,B,g,as,r,j,R,e,q⟩:=h;obtain⟨c,f2,u,w,v,k,b,e⟩:=AL e;cases e;obtain⟨a,m,l,d,y,z,n,o,s,A,C,t⟩:=R.mks k;exact⟨.ref a,n,a,_,m,_,d,rfl,o,(hc _ b).1,(hc _ b).2,by simp,q d [] g H R (.lf s) Grow.refl⟩)
def og(hc:CF X.K kd cs f)(ho:PE X (.Name x p) (Qo i))(hb:attributeBase (.Name x p) f X.env (eval (.Name x p) X.env)=eval (.Name x p) X.env)(hg:Gl X "len")(hm:X.mg "len"=none)
 (he:starEach [.Attribute (.Name x p) f pos] X.env=(false,eval (.Attribute (.Name x p) f pos) X.env)::starEach [] X.env) (hpl:(backTo cpos (starEach [] X.env)).any (·.1)=false):
 AE X kd (.Call (.Name "len" p') [.Attribute (.Name x p) f pos] [] cpos) (pP i cs f):=by
 with_unfolding_all exact(yu (Kt OX hg hm rfl (WH (NL ho hb) Rq he) (by decide) (by decide) he hpl) λσ H Q h=>by
  obtain⟨F,B,ad,as,r,as',R,e,q⟩:=h;obtain⟨c,f1,st,w,ts,k,hm,hne,e⟩:=De e;cases e;obtain⟨a,dx,l,v1,vs,fp,hs,hH,rp,hL,rl,hfp⟩:=R.mks k;refine⟨.ref a,hs,a,_,dx,_,.ref l,rfl,hH,(hc _ hm).1,(hc _ hm).2, ?_,.ref l,ts.length,rfl,.inl ⟨vs,.inl (.inl hL),rl.length.symm⟩,q _ [] ad H R (.lf (.int _)) Grow.refl⟩;rw[List.lookup_cons,beq_eq_false_iff_ne.mpr (Ne.symm hne)];simp)
def oX(hc:CF X.K kd cs f)(ho:PE X (.Name x p) (Qo i))(hy:PE X (.Name y p') (Qo j))(hb:attributeBase (.Name x p) f X.env (eval (.Name x p) X.env)=eval (.Name x p) X.env)
 (hbase:attributeBase (.Attribute (.Name x p) f pos) "append" X.env (eval (.Attribute (.Name x p) f pos) X.env)=eval (.Attribute (.Name x p) f pos) X.env)
 (hfew:((backTo cpos (starEach [.Name y p'] X.env)).all (λx=>!x.1)&&(backToKw cpos (keywordEach [] X.env)).all (λx=>x.1.isSome)
  && decide (([.Name y p']:List Expr).length+([]:List Keyword).length+(if([]:List Keyword).isEmpty then 0 else 1)<30))=true)
 (hline:(apos.endLine==cpos.line)=true) (hst:starEach [.Name y p'] X.env=(false,eval (.Name y p') X.env)::starEach [] X.env) (hplain:(backTo cpos (starEach [] X.env)).any (·.1)=false) {spos:Pos}
 (hsw:swapsWith (.Call (.Attribute (.Attribute (.Name x p) f pos) "append" apos) [.Name y p'] [] cpos) none spos.line X.env=pure false):
 AP X kd n (.Expr (.Call (.Attribute (.Attribute (.Name x p) f pos) "append" apos) [.Name y p'] [] cpos) spos) (qw i j cs f):=by
 with_unfolding_all exact(wq (UP (DE PySem.F.plainAttrs_list PySem.F.slot_list_append PySem.F.type_list_append yY (NL ho hb) (WH hy Rq hst) hbase hfew hline hst hplain) hsw) λD σ H h=>by
  obtain⟨F,B,g,as,o,R,e,q⟩:=h;obtain⟨c,f1,O,w,E,s,d,k,k',P,G,hz,e⟩:=JH e;subst e;obtain⟨a,Q,l,v1,t,fp,S,T,rp,U,V,r⟩:=R.mks k;obtain⟨v,hj,A⟩:=R.sl j _ k';have hi:i<as.length:=(zzG.mp k).1;generalize hfj:g j=fj at A;cases A with
  |lf I=>
   have nd:=R.nd i;rw[r]at nd;have J:a≠l:=λe=>(zzW.mp nd).1 (by rw[e];exact zzF);have L:l ∉ fp:=(zzW.mp (zzW.mp nd).2).1;have W:l ∈ g i:=by rw[r];exact zzD _ zzF
   have M:Grow (Gw [] g) H (G1 (Gw [] g) (g i) (g i)) (upd H l (.lst (t++[v]))):=⟨λb u h n=>by rw[zF (λe=>n (by subst e;exact .inr ⟨i,W⟩))];exact h,λb z=>.inl (z.elim (λy=>y.1) λy=>.inr ⟨i,y⟩)⟩;obtain⟨R2,g2⟩:=R.chg1 (H':=upd H l (.lst (t++[v]))) (o0:=.nd (.ob c [f1,f]) [.lf O w,.nd .ls (E++[.lf s d])]) (T0:=g i) hi S (R.nd i) (λa m=>.inl m) (λb u h n=>by rw[zF (λe=>n (by subst e;exact W))];exact h) (λb m=>by
    by_cases e:b=l
    . subst e;rw[ya];simp
    . rw[zF e];exact(R.gtr b (.inr ⟨i,m⟩)).1) (by
    have r2:vB X.K kd F B (G1 (Gw [] g) (g i) (g i)) (upd H l (.lst (t++[v]))) (t++[v]) (E++[.lf s d]) fp:=EI (Rp.grow M I) E (vB.grow M (λb m u h=>by rw[zF (λe=>L (by subst e;exact m))];exact h) V);have Y:=RoL.cons (Ro.lf (st:=O) (Rp.grow M rp)) (RoL.cons (Ro.ls (N:=Nf F B (G1 (Gw [] g) (g i) (g i))) ya r2) .nil);rw[zyE,List.nil_append]at Y;have Z:=Ro.ob (N:=Nf F B (G1 (Gw [] g) (g i) (g i))) (C:=kd.c c) (c:=c) (ns:=[f1,f]) (Rp.cl c) (show upd H l (.lst (t++[v])) a=some (.ins (kd.c c) Q ([f1,f].zip [v1,.ref l])) by rw[zF J];exact T) rfl Y;rw[r];rw[r]at Z;exact Z)
   refine⟨.ref a,S,a,_,Q,_,.ref l,rfl,T,(hc _ P).1,(hc _ P).2, ?_,.inl ⟨rfl,t,.inl (.inl U)⟩,v,hj,l,t,v,rfl,rfl,U,by rw[V.length];exact hz,q σ _ _ (λ_ _=>rfl) R2 g2⟩;rw[List.lookup_cons,beq_eq_false_iff_ne.mpr (Ne.symm G)];simp)
end
noncomputable def nc(n0:List Str):Nat->D->Bool
 |0,_=>false
 |n+1,.tup ds=>ds.all (nc n0 n)
 |n+1,.ob _ ns ds=>decide (ns≠n0)&&ds.all (nc n0 n)
 |_+1,.lst _=>false
 |_+1,.dct _=>false
 |_+1,_=>true
section
variable{K:zzA}{kd:KD}{O:Addr->Prop}{H:Hp}{a l C dx:Addr}{f1 f2:Str}{v1 v2:V}{vs0:List V}
def qh(ha:H a=some (.ins C dx [(f1,v1),(f2,v2)]))(hl:H l=some (.lst vs0)){v:V}{d:D}(h:Rp K kd O H v d):∀n,nc [f1,f2] n d=true->Rp K kd (λz=>O z\/z=a\/z=l) H v d:=
 Rp.rec (motive_1:=λv d _=>∀n,nc [f1,f2] n d=true->Rp K kd (λz=>O z\/z=a\/z=l) H v d) (motive_2:=λg f _=>∀n,f.all (nc [f1,f2] n)=true->RpL K kd (λz=>O z\/z=a\/z=l) H g f) (motive_3:=λ_ _ _=>True)
  (λ_ _=>.non) (λb _ _=>.bl b) (λi _ _=>.int i) (λx _ _=>.str x)
  (λ{c g f} n h _ r m e=>by
   cases m with
   |zero=>cases e
   |succ m=>
    refine .tup (λz=>z.elim n λq=>?_) h (r m e)
    rcases q with q|q<;>subst q
    . rcases h with h|⟨o,h⟩<;>(rw[ha]at h;cases h)
    . rcases h with h|⟨o,h⟩<;>(rw[hl]at h;cases h))
  (λk p s t u _ r m e=>by
   cases m with
   |zero=>cases e
   |succ m=>exact .tupK k p s t u (r m e))
  (λ_ _ _ _ m e=>by cases m<;>cases e) (λ_ _ _ _ _ m e=>by cases m<;>cases e)
  (λ_ _ _ _ m e=>by cases m<;>cases e) (λ_ _ _ m e=>by cases m<;>cases e) (λc _ _=>.cl c)
  (λ{c w A j g f} n h y _ r m e=>by
   cases m with
   |zero=>cases e
   |succ m=>
    have e:(decide (j≠[f1,f2])&&f.all (nc [f1,f2] m))=true:=e;rw[zyC]at e;refine .ob (λz=>z.elim n λq=>?_) h y (r m e.2)
    rcases q with q|q<;>subst q
    . rw[ha]at h;injection h with h
      injection h with _ _ h
      have:=List.map_fst_zip (l₁:=j) (l₂:=g) (by omega);rw[<-h]at this;exact of_decide_eq_true e.1 this.symm
    . rw[hl]at h;cases h)
  (λ_ _=>.nil) (λ_ _ h r n e=>by
   rw[List.all_cons,zyC]at e;exact .cons (h n e.1) (r n e.2)) ⟨⟩ (λ_ _ _ _=>⟨⟩) h
end
theorem RpA.less{K:zzA}{kd:KD}{F F':Addr->Prop}{H:Hp}(g:∀a,F' a->F a):∀{vs:List V}{ds:List (Bool×D)},RpA K kd F H vs ds->RpA K kd F' H vs ds
 |_,_,.nil=>.nil
 |_,_,.cons h r=>.cons (h.less λz q=>⟨q.1,g z q.2⟩) (RpA.less g r)
def mY(n0:List Str):O->Bool
 | .lf _ d=>nc n0 60 d
 |_=>false
def oB(n0:List Str):O->Bool
 | .lf _ d=>nc n0 60 d
 | .nd .ls os=>os.all (mY n0)
 |_=>false
noncomputable def Kx:Option (Option O)->Option D
 |some (some (.nd (.ob c [f1,f2]) [.lf st w,.nd .ls ts]))=>if st=true/\ts.all O.isLf=true/\O.strs ts=true then some (.ob c [f1,f2] [w,.lst (O.toDs ts)])else none
 |_=>none
def jR:D->List Str
 | .ob _ ns _=>ns
 |_=>[]
def GZ{s:Option (Option O)}{d:D}(e:Kx s=some d):∃c f1 f2 w ts,s=some (some (.nd (.ob c [f1,f2]) [.lf true w,.nd .ls ts]))/\ts.all O.isLf=true/\O.strs ts=true/\d = .ob c [f1,f2] [w,.lst (O.toDs ts)]:=by
 unfold Kx at e
 split at e
 . obtain⟨⟨a,b,f⟩,g⟩:=zt e;subst a;cases g;exact⟨_,_,_,_,_,rfl,b,f,rfl⟩
 . cases e
noncomputable def V0(i:Nat)(tbl:List (Str×Fn))(m:Str)(fr:AF):EF:=λas=>(Kx as[i]?).bind λd0=>(ku m d0).bind λc=>(HF tbl c).bind λg=>(fr as).bind λq=>(Kx q.2[i]?).bind λd=>(vZ q.2 q.1).bind λx=>(g ((true,d)::x)).bind λo=>if oB (jR d) o=true then some (.ow o,q.2)else none
section
variable{K:zzA}{kd:KD}{F F' B G:Addr->Prop}{H:Hp}{T:List Addr}{n0:List Str}
def tB(cv:∀v d,nc n0 60 d=true->Rp K kd (W_ F' (· ∈ T)) H v d->∀st,Rp K kd (Lv F B G st) H v d){N:Addr->Prop}{v:V}{o:O}{fp:List Addr}(e:oB n0 o=true)(h:Ro (λ_ v d=>Rp K kd (W_ F' (· ∈ T)) H v d) N H v o fp):ZN K kd F B G H v o fp:=by
 cases h with
 |lf r=>exact .lf (cv _ _ e r _)
 |ls a c=>
  refine .ls a ?_;have e:List.all _ (mY n0)=true:=e;clear a;exact RoL.ind (P:=λf b g=>b.all (mY n0)=true->vB K kd F B G H f b g) (λ_=>.nil) (λh _ i e=>by
   rw[List.all_cons,zyC]at e;cases h with
   |lf r=>exact .cons (.lf (cv _ _ e.1 r _)) (i e.2)
   |_=>cases e.1) c e
 |_=>cases e
end
section
variable{X:Cx}{kd:KD}{e:Expr}{es:List Expr}{fr:AF}{pos apos p:Pos}{m x:Str}{tbl:List (Str×Fn)}{k i:Nat}
def rC(hT:MT X.prog X.w X.K X.mg X.base kd m k tbl)(hr:Room k X.A){σ:St}{H:Hp}{Q:VK}{t:TA}(ht:∀σ H Q,IH X.K kd fr σ H Q->t σ H Q)(h:al X.K kd (V0 i tbl m fr) σ H Q):AU X m (Qo i) t σ H Q:=by
 obtain⟨F,B,ad,as,r,as',R,e,q⟩:=h;obtain⟨d0,h0,e⟩:=bS_ (show(Kx as[i]?).bind _=_ from e);obtain⟨c,p,e⟩:=bS_ e;obtain⟨g,h4,e⟩:=bS_ e;obtain⟨⟨rs,G⟩,h5,e⟩:=bS_ e;obtain⟨d,h6,e⟩:=bS_ e;obtain⟨ds,h7,e⟩:=bS_ e;obtain⟨o,h8,e⟩:=bS_ e;obtain⟨I,e⟩:=zt e;cases e;obtain⟨c0,f1,f2,w,ts,k0,_,_,e0⟩:=GZ h0;subst e0;obtain⟨a,dx,l,v1,vs0,fp,Z,hH,_,_,_,_⟩:=R.mks k0;have p:(if m ∈ [f1,f2]then none else some c0)=some c:=p
 by_cases u:m ∈ [f1,f2]
 . rw[if_pos u]at p;cases p
 rw[if_neg u]at p;cases p;obtain⟨k',f,fd,ps,J,cl,me,F1,b⟩:=hT _ _ h4;refine⟨.ref a,Z,a,_,dx,_,k',f,fd,ps,_,rfl,hH,cl,me, ?_,F1,hr.mono J,b,ht _ _ _ ⟨F,B,ad,as,rs,G,R,h5,λvs j H2 R2 L g2=>?_⟩⟩
 . have:List.lookup m ([f1,f2].zip [v1,V.ref l])=none:=(YV _ _ _).trans (UE u);exact this
 obtain⟨c1,g1,M,w1,ts1,k1,N,O,s⟩:=GZ h6;subst s;obtain⟨a',dx',D,v1',vs',fp',x,y,P,C,S,hfp'⟩:=R2.mks k1;rw[Z]at x;cases x;have off:∀z,(Lv F B (Gw [] j) true z/\z≠a/\z≠D)->Lv F B (Gw [] j) true z:=λz q=>q.1;refine⟨λz=>Lv F B (Gw [] j) true z/\z≠a/\z≠D,_,o,λz n=>R2.trk true z n.1,.cons ?_ ?_,h8,λv T H' u hT U W ro=>?_⟩
 . refine .ob (λz=>z.2.2.1 rfl) y rfl (.cons (P.less λz q=>q.2.1) (.cons (.lst (λz=>z.2.2.2 rfl) (.inl C) ?_) .nil));have:=Pl S N;rw[O]at this;exact this.less λz q=>q.2.1
 . exact(T7 R2 L h7).less λz q=>q.1
 . obtain⟨R',g'⟩:=R2.news u hT U W;refine q v T j H' R' (tB (n0:=[g1,M]) (F':=λz=>Lv F B (Gw [] j) true z/\z≠a/\z≠D) (λv d Y rp st=>?_) I ro) (g2.trans g');refine(qh (U _ _ y) (U _ _ C) rp 60 Y).less λz n=>?_
   by_cases s:z=a
   . exact .inr (.inl s)
   by_cases E:z=D
   . exact .inr (.inr E)
   refine .inl ?_
   rcases n with(n|n)|n|n
   . exact .inl ⟨.inl (.inl ⟨rfl,n.2⟩),s,E⟩
   . exact .inl ⟨.inl (.inr n),s,E⟩
   . exact .inr n
   . exact .inl ⟨.inr (.inr n),s,E⟩
def Ui{pl:Sem Bool}(hT:MT X.prog X.w X.K X.mg X.base kd m k tbl)(hr:Room k X.A)(hx:Zd xC X λ_ _ _=>False)(ho:PE X (.Name x p) (Qo i))(ha:AA X kd (e::es) fr)
 (hst:starEach (e::es) X.env=(false,eval e X.env)::starEach es X.env) (hpl:(backTo pos (starEach es X.env)).any (·.1)=false)
 (ht:eval (.Call (.Attribute (.Name x p) m apos) (e::es) [] pos) X.env=(do
  let ov <-eval (.Name x p) X.env
  standAt apos.atName
  let(f,first) <-holding [ov] (getMethod ov m pl)
  callWith pos f first (backTo pos (starEach (e::es) X.env)) (backToKw pos (keywordEach [] X.env)))):
 AE X kd (.Call (.Attribute (.Name x p) m apos) (e::es) [] pos) (V0 i tbl m fr):=by
 with_unfolding_all exact(yu (FB ho hx ha hst hpl ht) λσ H Q h=>rC hT hr (λσ H Q z=>z) h)
end
noncomputable def Il(i:Nat)(cs:List Str)(f:Str)(fe:EF):Fp:=λas=>(fe as).bind λp=>match p.1 with
 | .ow o=>match p.2[i]? with
  |some (some (.nd (.ob c ns) os))=>if c ∈ cs/\f ∉ ns/\ns.length<1000 then some (p.2.set i (some (.nd (.ob c (ns++[f])) (os++[o]))))else none
  |_=>none
 |_=>none
def Ha{i:Nat}{cs:List Str}{f:Str}{r:RV}{as as':AS}(e:(match r with
 | .ow o=>match as[i]? with
  |some (some (.nd (.ob c ns) os))=>if c ∈ cs/\f ∉ ns/\ns.length<1000 then some (as.set i (some (.nd (.ob c (ns++[f])) (os++[o]))))else none
  |_=>none
 |_=>none)=some as'):∃o c ns os,r = .ow o/\as[i]? = some (some (.nd (.ob c ns) os))/\c ∈ cs/\f ∉ ns/\ns.length<1000/\as'=as.set i (some (.nd (.ob c (ns++[f])) (os++[o]))):=by
 split at e
 . split at e
   . obtain⟨⟨a,b,d⟩,g⟩:=zt e;cases g;rename_i k;exact⟨_,_,_,_,rfl,k,a,b,d,rfl⟩
   . cases e
 . cases e
def OV{X:Cx}{kd:KD}{e o:Expr}{fe:EF}{pos pos':Pos}{cs:List Str}{n:Str}{j:Nat}(hc:CF X.K kd cs n)(ho:PE X o (Qo j))(he:AE X kd e fe)(hs:swapsWith e (some (.Attribute o n pos')) pos.line X.env=pure false):p0 X kd (.Assign [.Attribute o n pos'] e pos) (Il j cs n fe):=by
 with_unfolding_all exact(wq (Ou ho he hs) λD σ H h=>by
  obtain⟨F,B,ad,as,as',R,e,q⟩:=h;obtain⟨⟨p,as1⟩,h1,e⟩:=bS_ (show(fe as).bind _=_ from e);obtain⟨o0,c,ns,os,rfl,k1,hm,hf,hz,rfl⟩:=Ha e;refine⟨F,B,ad,as,_,as1,R,h1,λv T1 ad1 H1 R1 rv1 g1=>?_⟩;obtain⟨v0,hs0,ro0⟩:=R1.sl j _ k1;refine⟨v0,hs0, ?_⟩;generalize hfp:ad1 j=fp1 at ro0;cases ro0 with
  |ob hC hH hl rl=>
   rename_i l dx C vs fp;have ec:C=kd.c c:=hC.cl_eq;subst ec;have hnd:=R1.nd j;rw[hfp]at hnd;have rl':vB X.K kd F B (Gw T1 ad1) H1 (vs++[v]) (os++[o0]) (fp++T1):=rl.append (RoL.one rv1);refine⟨l,_,dx,_,rfl,hH,(hc _ hm).1,(hc _ hm).2,by rw[List.length_zip,hl,Nat.min_self,<-hl];exact hz, ?_⟩;rw[GJ hl hf];have dis:∀a ∈ fp,a ∉ T1:=λa m=>R1.dis j a (by rw[hfp];exact zzD _ m);obtain⟨R4,g4⟩:=R1.mut (fo:=[]) (n:=.nd (.ob c (ns++[n])) (os++[o0])) (u:=.ins (kd.c c) dx ((ns++[n]).zip (vs++[v]))) (zzG.mp k1).1 hfp hs0 (fp':=fp++T1) (λa m=>by
    rw[zyE]at m;exact m) (by
    rw[zyE];exact zxE.mpr ⟨(zzW.mp hnd).2,R1.tnd,λa m b m' e=>dis a m (by rw[e];exact m')⟩) (by rw[hH];simp) λH' G' hl' gr kp=>.ob (.cl c) hl' (by rw[zzJ,zzJ,hl];rfl) (vB.grow gr kp rl')
   exact q _ _ R4 (g1.trans g4))
abbrev VF:=AS->Option (D×AS)
def bv(n:Nat)(K:zzA)(kd:KD)(f:VF):TS:=λD σ H=>∃F B ad as d as',Rel K kd F B [] ad as σ H/\f as=some (d,as')/\zv d=true/\∀σ' ad' H' v,(∀i,i<n->σ'[i]? = σ[i]?)->Rel K kd F B [] ad' as' σ' H'->Grow (Gw [] ad) H (Gw [] ad') H'->Rp K kd (λ_=>False) H' v d->D.rt v H'
@[irreducible] def nv(X:Cx)(kd:KD)(n:Nat)(st:List Stmt)(f:VF):Prop:=Mg X st (bv n X.K kd f)
noncomputable def jO:RV×AS->Option (D×AS)
 |(.ow (.lf _ d),as)=>some (d,as)
 |_=>none
def Cz(fe:EF):VF:=λas=>(fe as).bind jO
def Bu(f:SF)(g:VF):VF:=λas=>(f as).bind λo=>match o with
 | .nx as1=>g as1
 |_=>none
section
variable{X:Cx}{kd:KD}{n:Nat}{e:Expr}{st:Stmt}{rest:List Stmt}{fe:EF}{f:SF}{g:VF}{pos:Pos}
def rX:AP X kd n st DP:=by with_unfolding_all exact(λa s σ H D I h=>by obtain⟨F,B,b,as,o,R,e,q⟩:=h;cases e)
def BV(he:AE X kd e fe):nv X kd n [.Return (some e) pos] (Cz fe):=by with_unfolding_all exact(YZ (Ug (ID he)) λD σ H h=>by
 obtain⟨F,B,ad,as,d,as',R,e,hf,q⟩:=h;obtain⟨⟨p,as1⟩,h1,e⟩:=bS_ (show(fe as).bind _=_ from e)
 match p,e,h1 with
 | .ow (.lf st d0),e,h1=>
  cases e;refine⟨F,B,ad,as,_,_,R,h1,λv T' ad' H' R' rv g=>?_⟩;have rv:ZN X.K kd F B (Gw T' ad') H' v (.lf st d) T':=rv;cases rv with
  |lf rp=>exact q σ ad' H' v (λ_ _=>rfl) R' g (rp.flat hf))
def Uh(h1:AP X kd n st f)(h2:nv X kd n rest g):nv X kd n (st::rest) (Bu f g):=by with_unfolding_all exact(YZ (XW h1 h2) λD σ H h=>by
 obtain⟨F,B,l,as,d,a,R,e,m,q⟩:=h;obtain⟨o,p,e⟩:=bS_ (show(f as).bind _=_ from e);cases o with
 |nx b=>exact⟨F,B,l,as,_,R,p,λA c C r s t=>⟨F,B,c,b,d,a,s,e,m,λu j w v x R2 y z=>q u j w v (λi k=>(x i k).trans (r i k)) R2 (t.trans y) z⟩⟩
 |_=>cases e)
end
noncomputable def o8(n m:Nat)(c:VF)(xs:List xb)(o:O):Option (D×O):=if xs.length+1=m then(c (Xk n (o::xs.map IE))).bind λz=>(z.2[0]?).bind λs=>s.bind λr=>if r.str=true/\zv z.1=true then some (z.1,r)else none else none
def spS(K:zzA)(kd:KD)(g:List xb->O->Option (D×O)):Sp:=λvs H Q _=>∃(F:Addr->Prop) (T:List Addr) (v:V) (ws:List V) (xs:List xb) (o:O) (d:D) (r:O),vs=v::ws/\(∀a,F a->H a≠none)/\T.Nodup/\(∀a ∈ T,H a≠none/\¬F a)/\RpI K kd F (λ_=>False) (· ∈ T) H ws xs/\ZN K kd F (λ_=>False) (· ∈ T) H v o T/\g xs o=some (d,r)/\
 ∀(u:V) (H':Hp) (T':List Addr),(∀c u,H c=some u->c ∉ T->H' c=some u)->T'.Nodup->(∀a ∈ T',a ∈ T\/H a=none)->(∀a ∈ T',H' a≠none)->ZN K kd F (λ_=>False) (· ∈ T') H' v r T'->Rp K kd (λ_=>False) H' u d->Q u H'
section
variable{P:Program}{w:World}{K:zzA}{mg:Str->Option Value}{base:Heap}
def OM{kd:KD}{x qual:Str}{st:Stmt}{f:Addr}{fd:FuncData}{N ps:List Str}{k:Nat}{c:VF}(Fn:Fun K x qual st f fd)(S:FnScope N ps (zd st))(hN:ps.length<=N.length)
 (hb:∀(cdv:Value) (A:Around) (outer:List Env) (s:Shared) (H:Hp) (E:XK),Room k (A.deeper (envOfC qual (zd st) s.heap.objs.size f cdv))->nv (Ld xC P w K mg base N qual (zd st) f cdv A outer s H E).nox kd 1 (Yy st) c):
 FnOk P w K mg base xC (k+1) f fd ps (spS K kd (o8 N.length ps.length c)):=by
 with_unfolding_all (
 refine Fn.ok S (λX H Q E h=>?_) (λB A b s H X Q E Y h=>⟨_,hb B A b s H E Y, ?_⟩)
 . obtain⟨F,T,v,C,t,o,d,r,rfl,L,M,O,j,U,e,q⟩:=h;obtain⟨V,_⟩:=ite_some' (show(if t.length+1=ps.length then _ else none)=_ from e);rw[zzT,j.length];exact V
 . obtain⟨F,T,v,C,t,o,d,r,rfl,L,M,O,j,U,e,q⟩:=h;obtain⟨V,Z⟩:=ite_some' (show(if t.length+1=ps.length then _ else none)=_ from e);obtain⟨⟨d0,D⟩,e1,z1⟩:=bS_ Z;obtain⟨G,k0,z2⟩:=bS_ z1;obtain⟨r0,e2,z3⟩:=bS_ z2;obtain⟨⟨hr0,I⟩,z4⟩:=zt z3;subst e2;cases z4;have J:vB K kd F (λ_=>False) (· ∈ T) H (v::C) (o::t.map IE) T:=by
    have:=RoL.cons U (Ct j)
    rwa [zyE]at this
   have R0:=GN (N:=N) L M O (Bz t) (by rw[zzT,zzB];omega) J;have W:∀a,Gw [] (λi=>if i=0 then T else[]) a->a ∈ T:=λa z=>z.elim (λy=>nomatch y) λ⟨i,y⟩=>by
    by_cases e:i=0
    . subst e;simpa using y
    . simp[e]at y
   refine⟨F,λ_=>False,_,Xk N.length (o::t.map IE),d0,D,R0,e1,I,λσ' l H' u sp R g rp=>?_⟩;obtain⟨u0,G,t0⟩:=R.sl 0 _ k0;rw[sp 0 (by omega)]at G;have sv:(L2.start N (v::C))[0]? = some (some v):=rfl;cases(show some (some v)=some (some u0)from sv.symm.trans G);have p:∀a,a ∈ l 0->Gw [] l a:=λa z=>.inr ⟨_,z⟩;exact q u H' (l 0) (λc u h n=>g.keep c u h λz=>n (W c z)) (R.nd _) (λa m=>(g.own a (p a m)).imp (W a) id) (λa m=>(R.gtr a (p a m)).1) (ZN.lv (λst a z=>z.imp id (p a)) t0) rp)
end
def Ro.monoS{L L':Bool->V->D->Prop}{N N':Addr->Prop}{H:Hp}(hL:∀v d,L true v d->L' true v d)(hN:∀a,N a->N' a){v:V}{o:O}{fp:List Addr}(s:o.str=true)(h:Ro L N H v o fp):Ro L' N' H v o fp:=
 Ro.rec (motive_1:=λv o b _=>o.str=true->Ro L' N' H v o b) (motive_2:=λg f b _=>O.strs f=true->RoL L' N' H g f b)
  (λ{i v d} h s=>by have e:i=true:=s;subst e;exact .lf (hL _ _ h)) (λh _ r s=>.ls h (r s)) (λh l _ r s=>.dc h l (r s)) (λc h l _ r s=>.ob (hL _ _ c) h l (r s)) (λn h _ r s=>.tp (hN _ n) h (r s))
  (λ_=>.nil) (λ_ _ h r s=>.cons (h ((zyC _ _).mp s).1) (r ((zyC _ _).mp s).2)) h s
noncomputable def Kg(i:Nat)(as:AS):List RV->Option (List xb)
 | []=>some []
 | .ow o::rs=>(Kg i as rs).bind λy=>some ((zv o.toD||o.str,o.toD)::y)
 | .bo j::rs=>(as[j]?).bind λs=>s.bind λo=>if j=i then none else(Kg i as rs).bind λy=>some ((false,o.toD)::y)
section
variable{K:zzA}{kd:KD}{F B:Addr->Prop}{ad:Ad}{as:AS}{σ:St}{H:Hp}{i:Nat}
def IV(R:Rel K kd F B [] ad as σ H){vs:List V}{rs:List RV}{xs:List xb}(h:RVs K kd F B ad σ H vs rs)(e:Kg i as rs=some xs):RpI K kd (λz=>Lv F B (Gw [] ad) true z/\z ∉ ad i) (λ_=>False) (· ∈ ad i) H vs xs:=by
 induction h generalizing xs with
 |nil=>cases e;exact .nil
 |cons h t l=>
  rename_i v r E q;cases r with
  |ow o=>
   obtain⟨y,f,e⟩:=bS_ (show(Kg i as q).bind _=_ from e);cases e;refine .cons ?_ (l f);cases hf:zv o.toD with
   |true=>exact(G3 h).flat hf
   |false=>
    refine(KQ h).less λa z=>?_
    rcases z with(z|z)|z
    . rw[show o.str=true from z.1];exact z.2.1
    . exact z.elim
    . exact .inr (.inr ⟨i,z⟩)
  |bo j=>
   obtain⟨s,k,u⟩:=bS_ (show(as[j]?).bind _=_ from e);obtain⟨o,x,c⟩:=bS_ u;subst x
   by_cases g:j=i
   . rw[if_pos g]at c;cases c
   rw[if_neg g]at c;obtain⟨y,f,A⟩:=bS_ c;cases A;refine .cons ?_ (l f);obtain⟨w,p,C⟩:=R.sl j _ k;rw[h.2]at p;cases p;have ob:∀z,Lv (λz=>Lv F B (Gw [] ad) true z/\z ∉ ad i) (λ_=>False) (· ∈ ad i) false z->z ∈ ad i:=λz b=>by
    rcases b with(b|b)|b
    . exact nomatch b.1
    . exact b.elim
    . exact b
   exact Ro.rp false (λD v d _ r=>(show Rp K kd (Lv F B (Gw [] ad) D) H v d from r).less λz b=>.inr (.inr ⟨i,ob z b⟩)) (λa n z=>n (.inr (.inr ⟨i,ob a z⟩))) (λz=>Bool.noConfusion z) (λa m z=>g (R.inj j i a m (ob a z))) C
end
noncomputable def mh(m:Str):Option (Option O)->Option Str
 |some (some (.nd (.ob c ns) _))=>if m ∈ ns then none else some c
 |_=>none
noncomputable def Gr(i:Nat)(c0 m:Str)(g:List xb->O->Option (D×O))(fr:AF):EF:=λas=>(mh m as[i]?).bind λc=>if c=c0 then(fr as).bind λq=>(Kg i q.2 q.1).bind λxs=>(q.2[i]?).bind λs=>s.bind λo=>(g xs o).bind λz=>if zv z.1=true/\z.2.str=true then some (.ow (.lf true z.1),q.2.set i (some z.2))else none else none
def MS(P:Program)(w:World)(K:zzA)(mg:Str->Option Value)(base:Heap)(kd:KD)(m:Str)(k:Nat)(c:Str)(g:List xb->O->Option (D×O)):Prop:=
 ∃k' f fd ps,k'<=k/\Cls K (kd.c c)/\Meth K (kd.c c) m f/\FnOk P w K mg base xC k' f fd ps (spS K kd g)/\Binds K fd ps []
section
variable{X:Cx}{kd:KD}{e:Expr}{es:List Expr}{fr:AF}{pos apos p:Pos}{m x c0:Str}{g:List xb->O->Option (D×O)}{k i:Nat}
def D8(hT:MS X.prog X.w X.K X.mg X.base kd m k c0 g)(hr:Room k X.A){σ:St}{H:Hp}{Q:VK}{t:TA}(ht:∀σ H Q,IH X.K kd fr σ H Q->t σ H Q)(h:al X.K kd (Gr i c0 m g fr) σ H Q):AU X m (Qo i) t σ H Q:=by
 obtain⟨F,B,ad,as,r,as',R,e,q⟩:=h;obtain⟨c,h0,e⟩:=bS_ (show(mh m as[i]?).bind _=_ from e);obtain⟨ec,z0⟩:=ite_some' e;subst ec;obtain⟨⟨rs,as2⟩,h5,z1⟩:=bS_ z0;obtain⟨xs,h6,z2⟩:=bS_ z1;obtain⟨s,k2,z3⟩:=bS_ z2;obtain⟨o,e1,z4⟩:=bS_ z3;subst e1;obtain⟨⟨d,r⟩,h7,z5⟩:=bS_ z4;obtain⟨⟨hf,hst⟩,z6⟩:=zt z5;cases z6;obtain⟨ns,os,k0,hn⟩:∃ns os,as[i]? = some (some (.nd (.ob c ns) os))/\m ∉ ns:=by
  unfold mh at h0
  split at h0
  . rename_i c' ns' os' k0
    by_cases hm:m ∈ ns'
    . rw[if_pos hm]at h0;cases h0
    . rw[if_neg hm]at h0;cases h0;exact⟨_,_,k0,hm⟩
  . cases h0
 obtain⟨v,hs,ro⟩:=R.sl i _ k0;generalize hfp:ad i=fp0 at ro;cases ro with
 |ob hC hH hl rl=>
  rename_i a dx C vs0 fp;have ec:C=kd.c c:=hC.cl_eq;subst ec;obtain⟨k',f,fd,ps,hk',cl,me,F1,b⟩:=hT;refine⟨.ref a,hs,a,_,dx,_,k',f,fd,ps,_,rfl,hH,cl,me,(YV _ _ _).trans (UE hn),F1,hr.mono hk',b,ht _ _ _ ⟨F,B,ad,as,rs,as2,R,h5,λvs ad2 H2 R2 rv2 g2=>?_⟩⟩;obtain⟨v',hv',ro'⟩:=R2.sl i _ k2;rw[hs]at hv';cases hv';have hi:i<as2.length:=(zzG.mp k2).1;refine⟨λz=>Lv F B (Gw [] ad2) true z/\z ∉ ad2 i,ad2 i,.ref a,vs,xs,o,d,r,rfl,λz hz=>R2.trk true z hz.1,R2.nd i,λz mz=>⟨(R2.gtr z (.inr ⟨i,mz⟩)).1,λy=>y.2 mz⟩,IV R2 rv2 h6,ZN.lv (λst z hz=>?_) ro',h7,λu H' T' kp nd sub al ro3 rp=>?_⟩
  . rcases hz with(hz|hz)|hz
    . rw[hz.1];exact hz.2.1
    . exact hz.elim
    . exact .inr (.inr ⟨i,hz⟩)
  . have le:∀z,Lv F B (G1 (Gw [] ad2) (ad2 i) T') true z->Lv (λz=>Lv F B (Gw [] ad2) true z/\z ∉ ad2 i) (λ_=>False) (· ∈ T') true z:=λz hz=>by
     rcases hz with(hz|hz)|hz|hz
     . exact .inl (.inl ⟨rfl,.inl (.inl hz),λy=>(R2.gtr z (.inr ⟨i,y⟩)).2 hz.2⟩)
     . exact .inl (.inl ⟨rfl,.inl (.inr hz),λy=>(R2.btr z hz).2.2 (.inr ⟨i,y⟩)⟩)
     . exact .inl (.inl ⟨rfl,.inr hz.1,hz.2⟩)
     . exact .inr hz
    have r0:ZN X.K kd F B (G1 (Gw [] ad2) (ad2 i) T') H' (.ref a) r T':=Ro.monoS (λv d h=>Rp.less le h) (λz n y=>n (le z y)) hst ro3;obtain⟨R3,g3⟩:=R2.chg1 hi hs nd sub kp al r0;exact q u [] _ H' R3 (.lf (rp.flat hf)) (g2.trans g3)
def Mu{pl:Sem Bool}(hT:MS X.prog X.w X.K X.mg X.base kd m k c0 g)(hr:Room k X.A)(hx:Zd xC X λ_ _ _=>False)(ho:PE X (.Name x p) (Qo i))(ha:AA X kd (e::es) fr)
 (hst:starEach (e::es) X.env=(false,eval e X.env)::starEach es X.env) (hpl:(backTo pos (starEach es X.env)).any (·.1)=false)
 (ht:eval (.Call (.Attribute (.Name x p) m apos) (e::es) [] pos) X.env=(do
  let ov <-eval (.Name x p) X.env
  standAt apos.atName
  let(f,first) <-holding [ov] (getMethod ov m pl)
  callWith pos f first (backTo pos (starEach (e::es) X.env)) (backToKw pos (keywordEach [] X.env)))):
 AE X kd (.Call (.Attribute (.Name x p) m apos) (e::es) [] pos) (Gr i c0 m g fr):=by
 with_unfolding_all exact(yu (FB ho hx ha hst hpl ht) λσ H Q h=>D8 hT hr (λσ H Q z=>z) h)
end
def Dl{P:Program}{w:World}{K:zzA}{mg:Str->Option Value}{base:Heap}{kd:KD}{m c:Str}{k k':Nat}{C f:Addr}{fd:FuncData}{ps:List Str}{g:List xb->O->Option (D×O)}(ci:CI K kd mg c C)(me:Meth K C m f)(F:FnOk P w K mg base xC k' f fd ps (spS K kd g))(b:Binds K fd ps [])(hk:k'<=k:=by decide):MS P w K mg base kd m k c g:=by
 have e:=ci.eq;subst e;exact⟨_,_,_,_,hk,ci.cl,me,F,b⟩
abbrev SO(h:Heap)(T:Nat)(a b c:Value):Prop:=h.get? T=some {cls:=.type "tuple",data:=.seq #[a,b,c]}
structure Z3(h:Heap)(I l1 l2 l3 k:Nat)(f0:Value):Prop where
 z:IsZip h (I+5) (I+3) (I+4) f0
 ti:SO h (I+3) (.ref I) (.ref (I+1)) (.ref (I+2))
 to:∃a b c,SO h (I+4) a b c
 h1:h.IsListIter I l1 k
 h2:h.IsListIter (I+1) l2 k
 h3:h.IsListIter (I+2) l3 k
section
variable{prog:Program}{w:World}{A:Around}{E:Value->Shared->Prop}{s:Shared}
def N_{T:Nat}{a b c x:Value}{k:Nat}{Q:Unit->Shared->Prop}(hT:SO s.heap T a b c)
 (h:∀h',h'.get? T=some {cls:=.type "tuple",data:=.seq ((#[a,b,c]:Array Value).setIfInBounds k x)}->Heap.SameBut T s.heap h'->Q () {s with heap:=h'}):wpAny (model prog w) A (updateSeq T (·.setIfInBounds k x)) Q E s:=by
 refine wpAny_updateSeq hT rfl (h _ ?_ (Heap.SameBut.update ..));rw[Heap.get?_update_self _ hT rfl];simp[Obj.mapSeq]
def J7{I l1 l2 l3 k:Nat}{xs ys zs:Array Value}{x y z:Value}{Q:Value->Shared->Prop}(d1:l1<I)(d2:l2<I)(d3:l3<I)(Z:Z3 s.heap I l1 l2 l3 k .none)
 (hl1:s.heap.IsList l1 xs) (hl2:s.heap.IsList l2 ys) (hl3:s.heap.IsList l3 zs) (hx:xs[k]? = some x) (hy:ys[k]? = some y) (hw:zs[k]? = some z)
 (hQ:∀h',Z3 h' I l1 l2 l3 (k+1) (rawInt s.heap.objs.size)->SO h' s.heap.objs.size x y z->(∀(c:Nat) o,c<I\/I+5<c->s.heap.get? c=some o->h'.get? c=some o)->Q (.ref s.heap.objs.size) {s with heap:=h'}):
 wpAny (model prog w) A (Builtin.«zip.__next__» ⟨[.ref (I+5)],[]⟩) (λfin s'=>∃v,fin = .done (.ret v)/\Q v s') E s:=by
 obtain⟨t,B,⟨a,b,c,K⟩,h1,h2,h3⟩:=Z;have d:∀{p q:Nat},p<q\/q<p->p≠q:=λh=>by omega
 show wpAny _ _ (field (.ref (I+5)) 2 >>= _) _ _ _;refine zxF (wpAny_field t rfl (x:=.bool false) rfl ?_);show wpAny _ _ (field (.ref (I+5)) 3 >>= _) _ _ _;refine zxF (wpAny_field t rfl (x:=.ref (I+3)) rfl ?_);refine zxF (wpAny_seqItems B rfl ?_);show wpAny _ _ (Builtin.SmallTypes.ownedTupleIsFree (.ref (I+5)) >>= _) _ _ _;refine zxF ?_;unfold Builtin.SmallTypes.ownedTupleIsFree;refine zxF (wpAny_field t rfl (x:=.none) rfl (zxG ?_));simp only[if_true];refine zxF (wpAny_rule ?_);refine zxF (wpAny_field t rfl (x:=.ref (I+4)) rfl ?_);refine zxF (wpAny_setField_rec t (by simp) λg1 g V=>?_)
 replace g:IsZip g1 (I+5) (I+3) (I+4) .ellipsis:=g
 refine zxF ?_;simp only[List.zipIdx_cons,List.zipIdx_nil,List.forIn_cons,List.forIn_nil];refine zxF (zxF (wpAny_onRaise ?_));show wpAny _ _ (Builtin.SmallTypes.nextOf (.ref I) >>= _) _ _ _;have L:=λ(p:Nat) o (n:p≠I+5)=>V.extBut p o n;refine zxF (wpAny_nextOf_list_item (h1.at λo e=>L _ o (d (by omega)) e) (hl1.at λo e=>L _ o (d (by omega)) e) hx λg2 i2 M=>zxG ?_);have W:=λ(p:Nat) o (n:p≠I+5) (m:p≠I) e=>M.extBut p o m (L p o n e);have X:SO g2 (I+4) a b c:=W _ _ (d (by omega)) (d (by omega)) K;refine zxF (wpAny_seqItems X rfl ?_);refine zxF (N_ X λY N F=>?_)
 replace N:SO Y (I+4) x b c:=N
 refine zxF (wpAny_letGo (zxG ?_));have O:=λ(p:Nat) o (n:p≠I+5) (m:p≠I) (r:p≠I+4) e=>F.extBut p o r (W p o n m e);have i3:Y.IsListIter I l1 (k+1):=i2.at λo e=>F.extBut _ o (d (by omega)) e;refine zxF (zxF (wpAny_onRaise ?_));show wpAny _ _ (Builtin.SmallTypes.nextOf (.ref (I+1)) >>= _) _ _ _;refine zxF (wpAny_nextOf_list_item (h2.at λo e=>O _ o (d (by omega)) (d (by omega)) (d (by omega)) e) (hl2.at λo e=>O _ o (d (by omega)) (d (by omega)) (d (by omega)) e) hy λg4 j4 C=>zxG ?_);have t4:SO g4 (I+4) x b c:=C.extBut _ _ (d (by omega)) N;refine zxF (wpAny_seqItems t4 rfl ?_);refine zxF (N_ t4 λP R D=>?_)
 replace R:SO P (I+4) x y c:=R
 refine zxF (wpAny_letGo (zxG ?_));have S:=λ(p:Nat) o (n:p≠I+5) (m:p≠I) (r:p≠I+4) (u:p≠I+1) e=>D.extBut p o r (C.extBut p o u (O p o n m r e));have i5:P.IsListIter I l1 (k+1):=i3.at λo e=>D.extBut _ o (d (by omega)) (C.extBut _ o (d (by omega)) e);have j5:P.IsListIter (I+1) l2 (k+1):=j4.at λo e=>D.extBut _ o (d (by omega)) e;refine zxF (zxF (wpAny_onRaise ?_));show wpAny _ _ (Builtin.SmallTypes.nextOf (.ref (I+2)) >>= _) _ _ _;refine zxF (wpAny_nextOf_list_item (h3.at λo e=>S _ o (d (by omega)) (d (by omega)) (d (by omega)) (d (by omega)) e) (hl3.at λo e=>S _ o (d (by omega)) (d (by omega)) (d (by omega)) (d (by omega)) e) hw λg6 l6 i=>zxG ?_);have t6:SO g6 (I+4) x y c:=i.extBut _ _ (d (by omega)) R;refine zxF (wpAny_seqItems t6 rfl ?_);refine zxF (N_ t6 λf G j=>?_)
 replace G:SO f (I+4) x y z:=G
 refine zxF (wpAny_letGo (zxG (zxG ?_)));have k7:=λ(p:Nat) o (n:p≠I+5) (m:p≠I) (r:p≠I+4) (u:p≠I+1) (v:p≠I+2) e=>j.extBut p o r (i.extBut p o v (S p o n m r u e));have i7:f.IsListIter I l1 (k+1):=i5.at λo e=>j.extBut _ o (d (by omega)) (i.extBut _ o (d (by omega)) e);have j7:f.IsListIter (I+1) l2 (k+1):=j5.at λo e=>j.extBut _ o (d (by omega)) (i.extBut _ o (d (by omega)) e);have l7:f.IsListIter (I+2) l3 (k+1):=l6.at λo e=>j.extBut _ o (d (by omega)) e;have z7:IsZip f (I+5) (I+3) (I+4) .ellipsis:=j.extBut _ _ (d (by omega)) (i.extBut _ _ (d (by omega)) (D.extBut _ _ (d (by omega)) (C.extBut _ _ (d (by omega)) (F.extBut _ _ (d (by omega)) (M.extBut _ _ (d (by omega)) g)))));have u7:SO f (I+3) (.ref I) (.ref (I+1)) (.ref (I+2)):=k7 _ _ (d (by omega)) (d (by omega)) (d (by omega)) (d (by omega)) (d (by omega)) B;have T:f.objs.size=s.heap.objs.size:=by rw[j.1,i.1,D.1,C.1,F.1,M.1,V.1]
 refine zxF (wpAny_seqItems G rfl ?_);refine zxF (wpAny_newTuple ?_);have zl:I+5<f.objs.size:=zxI z7;show wpAny _ _ (Builtin.SmallTypes.ownedTupleHandOut (.ref (I+5)) (.ref f.objs.size) >>= _) _ _ _;refine zxF ?_;unfold Builtin.SmallTypes.ownedTupleHandOut;have z8:IsZip (f.push {cls:=.type "tuple",data:=.seq #[x,y,z]}) (I+5) (I+3) (I+4) .ellipsis:=zxH _ z7;refine zxF (wpAny_setField_rec z8 (by simp) λg9 U q9=>?_)
 replace U:IsZip g9 (I+5) (I+3) (I+4) (rawInt f.objs.size):=U
 refine wpAny_setField_rec U (by simp) λH J q0=>?_
 replace J:IsZip H (I+5) (I+3) (I+4) (rawInt f.objs.size):=J
 have l:∀(c:Nat) o,c≠I+5->f.get? c=some o->H.get? c=some o:=λc o c1 e=>q0.extBut _ _ c1 (q9.extBut _ _ c1 (zxH _ e));have hT:SO H f.objs.size x y z:=q0.extBut _ _ (d (.inr zl)) (q9.extBut _ _ (d (.inr zl)) (zxJ _ rfl));refine zxG ⟨_,rfl, ?_⟩;show Q (.ref f.objs.size) _;rw[T]at J hT ⊢;exact hQ H ⟨J,l _ _ (d (by omega)) u7,⟨x,y,z,l _ _ (d (by omega)) G⟩,i7.at λo e=>l _ o (d (by omega)) e,j7.at λo e=>l _ o (d (by omega)) e,l7.at λo e=>l _ o (d (by omega)) e⟩ hT λc o hc e=>l c o (d (by omega)) (k7 c o (d (by omega)) (d (by omega)) (d (by omega)) (d (by omega)) (d (by omega)) e)
def sJ{I l1 l2 l3 k:Nat}{xs:Array Value}{Q:Fin->Shared->Prop}(hh:A.handled=none)(d1:l1<I)(Z:Z3 s.heap I l1 l2 l3 k .none)(hl1:s.heap.IsList l1 xs)(hx:xs[k]? = none)
 (hE:∀h' e,(∀(c:Nat) o,c<I\/I+5<c->s.heap.get? c=some o->h'.get? c=some o)->(∃o,h'.get? e=some o/\o.cls = .type "StopIteration")->E (.ref e) {s with heap:=h'}):
 wpAny (model prog w) A (Builtin.«zip.__next__» ⟨[.ref (I+5)],[]⟩) Q E s:=by
 obtain⟨i,m,⟨a,b,c,y⟩,z,J,K⟩:=Z;have g:∀{p q:Nat},p<q\/q<p->p≠q:=λh=>by omega
 show wpAny _ _ (field (.ref (I+5)) 2 >>= _) _ _ _;refine zxF (wpAny_field i rfl (x:=.bool false) rfl ?_);show wpAny _ _ (field (.ref (I+5)) 3 >>= _) _ _ _;refine zxF (wpAny_field i rfl (x:=.ref (I+3)) rfl ?_);refine zxF (wpAny_seqItems m rfl ?_);show wpAny _ _ (Builtin.SmallTypes.ownedTupleIsFree (.ref (I+5)) >>= _) _ _ _;refine zxF ?_;unfold Builtin.SmallTypes.ownedTupleIsFree;refine zxF (wpAny_field i rfl (x:=.none) rfl (zxG ?_));simp only[if_true];refine zxF (wpAny_rule ?_);refine zxF (wpAny_field i rfl (x:=.ref (I+4)) rfl ?_);refine zxF (wpAny_setField_rec i (by simp) λB d C=>?_)
 replace d:IsZip B (I+5) (I+3) (I+4) .ellipsis:=d
 refine zxF ?_;simp only[List.zipIdx_cons,List.zipIdx_nil,List.forIn_cons,List.forIn_nil];refine zxF (zxF (wpAny_onRaise ?_));show wpAny _ _ (Builtin.SmallTypes.nextOf (.ref I) >>= _) _ _ _;have r:=λ(p:Nat) o (n:p≠I+5)=>C.extBut p o n;refine zxF (wpAny_nextOf_list_end hh (z.at λo e=>r _ o (g (by omega)) e) (hl1.at λo e=>r _ o (g (by omega)) e) hx λD e u F=>?_);obtain⟨G,f,j⟩:=F;have l:IsZip D (I+5) (I+3) (I+4) .ellipsis:=u _ _ (g (by omega)) d;have t:e≠I+5:=λx=>by subst x;rw[l]at f;cases f;simp at j
 refine wpAny_setField_rec l (by simp) λH _ v=>hE H e (λc o L x=>v.extBut _ _ (g (by omega)) (u _ _ (g (by omega)) (r c o (g (by omega)) x))) ⟨G,v.extBut _ _ t f,j⟩
end
section
variable{prog:Program}{w:World}{A:Around}{E:Value->Shared->Prop}{s:Shared}
def O6{I l1 l2 l3 k:Nat}{xs ys zs:Array Value}{x y z:Value}{Q:Option Value->Shared->Prop}(d1:l1<I)(d2:l2<I)(d3:l3<I)(Z:Z3 s.heap I l1 l2 l3 k .none)
 (hl1:s.heap.IsList l1 xs) (hl2:s.heap.IsList l2 ys) (hl3:s.heap.IsList l3 zs) (hx:xs[k]? = some x) (hy:ys[k]? = some y) (hw:zs[k]? = some z)
 (hQ:∀h',Z3 h' I l1 l2 l3 (k+1) (rawInt s.heap.objs.size)->SO h' s.heap.objs.size x y z->(∀(c:Nat) o,c<I\/I+5<c->s.heap.get? c=some o->h'.get? c=some o)->Q (some (.ref s.heap.objs.size)) {s with heap:=h'}):
 wpAny (model prog w) A (pyNext (.ref (I+5))) Q E s:=by
 have hT:s.TypeIs (.ref (I+5)) "zip":=⟨_,Z.z,rfl⟩;unfold pyNext;exact zxF (wpAny_attempt (wpAny_callSpecial?_slot (name:=Str.ofString "__next__") hT PySem.F.slot_zip_next (zxO PySem.F.slot_zip_next hT PySem.F.entry_zip_next (J7 d1 d2 d3 Z hl1 hl2 hl3 hx hy hw λh' a1 a2 a3=>zxG (hQ h' a1 a2 a3)) (PySem.F.args_zip_next_1 _))))
def Oe{I l1 l2 l3 k:Nat}{xs:Array Value}{Q:Option Value->Shared->Prop}(hh:A.handled=none)(d1:l1<I)(Z:Z3 s.heap I l1 l2 l3 k .none)(hl1:s.heap.IsList l1 xs)(hx:xs[k]? = none)
 (hQ:∀h',(∀(c:Nat) o,c<I\/I+5<c->s.heap.get? c=some o->h'.get? c=some o)->Q none {s with heap:=h'}):wpAny (model prog w) A (pyNext (.ref (I+5))) Q E s:=by
 have hT:s.TypeIs (.ref (I+5)) "zip":=⟨_,Z.z,rfl⟩;unfold pyNext;refine zxF (wpAny_attempt (wpAny_callSpecial?_slot (name:=Str.ofString "__next__") hT PySem.F.slot_zip_next (zxO PySem.F.slot_zip_next hT PySem.F.entry_zip_next (sJ hh d1 Z hl1 hx λh' e hk he=>?_) (PySem.F.args_zip_next_1 _))));obtain⟨o,ho,hc⟩:=he;refine zxF (wpAny_isInstance (T:="StopIteration") (b:=true) ⟨o,ho,hc⟩ isSubtype_stop ?_);exact zxG (hQ _ hk)
end
abbrev nI(h:Heap)(l1 l2 l3:Nat):Heap:=zipH1 (zipH2 h l1 l2) l3
abbrev nB(h:Heap)(l1 l2 l3:Nat):Heap:=(nI h l1 l2 l3).push {cls:=.type "tuple",data:=.seq #[.ref h.objs.size,.ref (zipH1 h l1).objs.size,.ref (zipH2 h l1 l2).objs.size]}
abbrev nS(h:Heap)(l1 l2 l3:Nat):Heap:=(nB h l1 l2 l3).push {cls:=.type "tuple",data:=.seq #[.none,.none,.none]}
abbrev u4(h:Heap)(l1 l2 l3:Nat):Heap:=(nS h l1 l2 l3).push {cls:=.type "zip",data:=.fields #[.none,.bool false,.bool false,.ref (nI h l1 l2 l3).objs.size,.ref (nB h l1 l2 l3).objs.size]}
set_option maxHeartbeats 4000000 in
def ud(l1 l2 l3:Nat)(xs ys zs:Array Value):Meets (Builtin.«zip.__new__» ⟨[.type "zip",.ref l1,.ref l2,.ref l3],[]⟩) (λ_ R s=>s.heap.IsList l1 xs/\s.heap.IsList l2 ys/\s.heap.IsList l3 zs/\
 R (.ok (.ret (.ref (nS s.heap l1 l2 l3).objs.size))) {s with heap:=u4 s.heap l1 l2 l3}):=
 .of_wp λprog w A R s h=>by
  obtain⟨hp,g,d,tk,os⟩:=s;obtain⟨hl1,hl2,hl3,h⟩:=h;have hsub:=sub_zip;have hL1:Heap.IsList (Shared.heap ⟨hp,g,d,tk,os⟩) l1 xs:=hl1;have hL2:Heap.IsList (Shared.heap ⟨hp.push {cls:=.type "list_iterator",data:=.fields #[.ref l1,.int 0 0]},g,d,tk,os⟩) l2 ys:=Heap.IsList.push hl2 _;have hL3:Heap.IsList (Shared.heap ⟨(hp.push {cls:=.type "list_iterator",data:=.fields #[.ref l1,.int 0 0]}).push {cls:=.type "list_iterator",data:=.fields #[.ref l2,.int 0 0]},g,d,tk,os⟩) l3 zs:=Heap.IsList.push (Heap.IsList.push hl3 _) _
  wp_walk using wpAny_pyIter_list hL1,wpAny_pyIter_list hL2,wpAny_pyIter_list hL3
  exact⟨_,rfl,h⟩
theorem Az(a b c:Value):checkTypeCall "zip" ⟨[a,b,c],[]⟩=pure ():=by kernel_rfl
theorem Au(a b c:Value):checkBuiltinCall "zip.__new__" ⟨[.type "zip",a,b,c],[]⟩=pure ():=by kernel_rfl
theorem AR(a b c d:Value):argsOk "object.__init__" ⟨[a,b,c,d],[]⟩:=by
 unfold argsOk;rw[signature?_of (id:="object.__init__") (n:=['_','_','t','i','n','i','_','_']) (o:=['t','c','e','j','b','o']) (by kernel_rfl) PySem.F.owner_object];kernel_rfl
def Hy{prog:Program}{w:World}{A:Around}{E:Value->Shared->Prop}{s:Shared}{l1 l2 l3:Nat}{xs ys zs:Array Value}{Q:Value->Shared->Prop}(hl1:s.heap.IsList l1 xs)(hl2:s.heap.IsList l2 ys)(hl3:s.heap.IsList l3 zs)
 (h:∀h',Z3 h' s.heap.objs.size l1 l2 l3 0 .none->(∀c o,s.heap.get? c=some o->h'.get? c=some o)->Q (.ref (s.heap.objs.size+5)) {s with heap:=h'}):
 wpAny (model prog w) A (call (.type "zip") [.ref l1,.ref l2,.ref l3]) Q E s:=by
 refine callType_new PySem.F.called_zip (by decide) (Az _ _ _) (Au _ _ _) (λobj=>AR obj _ _ _) PySem.F.entry_zip_new (ud l1 l2 l3 xs ys zs) ⟨hl1,hl2,hl3, ?_⟩;have z1:(zipH1 s.heap l1).objs.size=s.heap.objs.size+1:=zxM ..;have z2:(zipH2 s.heap l1 l2).objs.size=s.heap.objs.size+2:=by rw[zxM,z1]
 have z3:(nI s.heap l1 l2 l3).objs.size=s.heap.objs.size+3:=by rw[zxM,z2]
 have z4:(nB s.heap l1 l2 l3).objs.size=s.heap.objs.size+4:=by rw[zxM,z3]
 have z5:(nS s.heap l1 l2 l3).objs.size=s.heap.objs.size+5:=by rw[zxM,z4]
 have g6:(u4 s.heap l1 l2 l3).get? (nS s.heap l1 l2 l3).objs.size=some _:=zxJ _ rfl;have g5:(u4 s.heap l1 l2 l3).get? (nB s.heap l1 l2 l3).objs.size=some _:=zxH _ (zxJ _ rfl);have g4:(u4 s.heap l1 l2 l3).get? (nI s.heap l1 l2 l3).objs.size=some _:=zxH _ (zxH _ (zxJ _ rfl));have g3:(u4 s.heap l1 l2 l3).get? (zipH2 s.heap l1 l2).objs.size=some _:=zxH _ (zxH _ (zxH _ (zxJ _ rfl)));have g2:(u4 s.heap l1 l2 l3).get? (zipH1 s.heap l1).objs.size=some _:=zxH _ (zxH _ (zxH _ (zxH _ (zxJ _ rfl))));have g1:(u4 s.heap l1 l2 l3).get? s.heap.objs.size=some _:=zxH _ (zxH _ (zxH _ (zxH _ (zxH _ (zxJ _ rfl)))));show _/\_;rw[z3,z4,z5]at g6;rw[z4]at g5;rw[z1,z2,z3]at g4;rw[z2]at g3;rw[z1]at g2;rw[z5];exact⟨⟨_,g6,rfl⟩,h _ ⟨g6,g4,⟨_,_,_,g5⟩,⟨_,g1,rfl,rfl⟩,⟨_,g2,rfl,rfl⟩,⟨_,g3,rfl,rfl⟩⟩ λc o x=>zxH _ (zxH _ (zxH _ (zxH _ (zxH _ (zxH _ x)))))⟩
def sS(K:zzA)(a b c:Addr):It:=
 ⟨λi H=>∃xs ys zs x y z,W0 K H a xs/\W0 K H b ys/\W0 K H c zs/\xs[i]? = some x/\ys[i]? = some y/\zs[i]? = some z,
  λi H v H'=>∃T x y z,H T=none/\v = .ref T/\H'=upd H T (.tup [x,y,z])/\(∀xs,W0 K H a xs->xs[i]? = some x)/\(∀ys,W0 K H b ys->ys[i]? = some y)/\∀zs,W0 K H c zs->zs[i]? = some z,
  λi H=>∃xs,W0 K H a xs/\xs.length<=i⟩
def Ma{I c:Nat}:c ∈ [I+5,I+3,I+4,I,I+1,I+2] ↔ I<=c/\c<=I+5:=by
 simp only[zzC,zxB,or_false];omega
def SM{P:Program}{w:World}{K:zzA}{elts:List Expr}{kk:Nat}{pos:Pos}(a b c I:Nat)(d1:a<I)(d2:b<I)(d3:c<I):Turn P w K (.Tuple elts kk pos) (sS K a b c) [I+5,I+3,I+4,I,I+1,I+2] (I+5) (λi h=>Z3 h I a b c i .none)where
 mem:=by simp
 obj:=λi h st d hd=>by
  obtain⟨hz,hTI,⟨p,q,r,hTO⟩,⟨o1,e1,c1,f1⟩,⟨o2,e2,c2,f2⟩,⟨o3,e3,c3,f3⟩⟩:=st;simp only[zzC,zxB,or_false]at hd
  rcases hd with rfl|rfl|rfl|rfl|rfl|rfl
  . exact⟨_,hz,λv z=>by cases z⟩
  . exact⟨_,hTI,λv z=>by cases z⟩
  . exact⟨_,hTO,λv z=>by cases z⟩
  . exact⟨o1,e1,λv z=>by rw[f1]at z;cases z⟩
  . exact⟨o2,e2,λv z=>by rw[f2]at z;cases z⟩
  . exact⟨o3,e3,λv z=>by rw[f3]at z;cases z⟩
 keep:=λi h h' st k=>by
  obtain⟨hz,hTI,⟨p,q,r,hTO⟩,h1,h2,h3⟩:=st;exact⟨k _ (by simp) _ hz,k _ (by simp) _ hTI,⟨p,q,r,k _ (by simp) _ hTO⟩,h1.at λo e=>k _ (by simp) o e,h2.at λo e=>k _ (by simp) o e,h3.at λo e=>k _ (by simp) o e⟩
 item:=by
  intro X hP hw hK hc i pins s σ H E I' hf st hg;subst hP hw hK;obtain⟨xs,ys,zs,x,y,z,hq,hr,hs,hx,hy,hz⟩:=hg;obtain⟨its,rv,p,_⟩:=I'.list hq;obtain⟨jts,rv',p',_⟩:=I'.list hr;obtain⟨kts,rv'',p'',_⟩:=I'.list hs;obtain⟨u,hu,ru⟩:=rv.get hx;obtain⟨u',hu',ru'⟩:=rv'.get hy;obtain⟨u'',hu'',ru''⟩:=rv''.get hz;refine O6 d1 d2 d3 st p.isList p'.isList p''.isList (x:=u) (y:=u') (z:=u'') (by simpa using hu) (by simpa using hu') (by simpa using hu'') λh1 hZ hT k1=>?_;refine⟨_,rfl,wpAny_letOwnedTupleGo_zip hZ.z λh2 hz2 q2=>?_⟩;have zl:I+5<s.heap.objs.size:=zxI st.z;have nq:∀{p q:Nat},p<q\/q<p->p≠q:=λh=>by omega
  have hn:H s.heap.objs.size=none:=I'.hok.fresh (zzN _);have k2:∀c o,c ∉ [I+5,I+3,I+4,I,I+1,I+2]->s.heap.get? c=some o->h2.get? c=some o:=λc o hc e=>by
   rw[Ma]at hc;exact q2.extBut c o (nq (by omega)) (k1 c o (by omega) e)
  have hT2:IsTup h2 s.heap.objs.size #[u,u',u'']:=⟨_,q2.extBut _ _ (nq (.inr zl)) hT,rfl,_,rfl⟩;obtain⟨_,t2,⟨ta,tb,tc,t3⟩,t4,t5,t6⟩:=hZ;refine⟨.ref s.heap.objs.size,upd H s.heap.objs.size (.tup [x,y,z]),Uw (s:=s) (t':=s.toks) (ch:=[I+5,I+3,I+4,I,I+1,I+2]) I' hf k2 (zzN _) ⟨by show 3<=sizeLine;decide,[u,u',u''],.cons ru (.cons ru' (.cons ru'' .nil)),hT2⟩,rfl,⟨_,x,y,z,hn,rfl,rfl,λq hq'=>by rw[I'.list_inj hq' hq];exact hx,λq hq'=>by rw[I'.list_inj hq' hr];exact hy,λq hq'=>by rw[I'.list_inj hq' hs];exact hz⟩,⟨hz2,q2.extBut _ _ (nq (by omega)) t2,⟨ta,tb,tc,q2.extBut _ _ (nq (by omega)) t3⟩,t4.at λo e=>q2.extBut _ o (nq (by omega)) e,t5.at λo e=>q2.extBut _ o (nq (by omega)) e,t6.at λo e=>q2.extBut _ o (nq (by omega)) e⟩,λd hd=>?_⟩;have hd':=Ma.mp hd;rw[zF (show d≠s.heap.objs.size from nq (by omega))];exact(hf d hd).1
 done:=by
  intro X hP hw hK hc i pins s σ H E I' hf st hg;subst hP hw hK;obtain⟨xs,hq,hx⟩:=hg;obtain⟨its,rv,p,_⟩:=I'.list hq;have hl:=rv.length;refine Oe (I'.ok.hd hc) d1 st p.isList (by simp;omega) λh' k=>⟨rfl,Kn (t':=s.toks) (ch:=[I+5,I+3,I+4,I,I+1,I+2]) I' hf λc o hc e=>k c o ?_ e⟩;rw[Ma]at hc;omega
 self:=λ_ _ _ _ _ st h=>wpAny_pyIter_zip st.z h
section
variable{X:Cx}
def uZ(K:zzA)(ta:TA):TI:=λσ H R=>ta σ H λvs H1=>∃a b c,vs=[.ref a,.ref b,.ref c]/\(∃xs,W0 K H1 a xs)/\(∃ys,W0 K H1 b ys)/\(∃zs,W0 K H1 c zs)/\R (sS K a b c) H1
def J_{l l' l'':Expr}{ta:TA}{p pos pos':Pos}{elts:List Expr}{k:Nat}(hg:Gl X "zip")(hm:X.mg "zip"=none)(ha:PA X [l,l',l''] ta)(hs:starEach [l,l',l''] X.env=(false,eval l X.env)::starEach [l',l''] X.env)(hs2:(backTo pos (starEach [l',l''] X.env)).any (·.1)=false):
 PI X (.Tuple elts k pos') (.Call (.Name "zip" p) [l,l',l''] [] pos) (uZ X.K ta):=by
 intro pins s σ H R I h;refine Call_ (Wm I hg hm boot_zip (PyProof.Rows.callWith_type1 (wF (ha pos pins s σ H _ I h) λus s1 ⟨vs,H1,I1,r1,q1⟩=>?_) hs hs2));obtain⟨a,b,c,rfl,⟨xs,hq⟩,⟨ys,hr⟩,⟨zs,ht⟩,q⟩:=q1;cases r1 with
 |cons r rr=>
  cases rr with
  |cons r' rr=>
   cases rr with
   |cons r'' rr=>
    cases rr;cases r;cases r';cases r'';obtain⟨its,rv,pl,hz⟩:=I1.list hq;obtain⟨jts,rw',pl',hz'⟩:=I1.list hr;obtain⟨kts,rx',pl'',hz''⟩:=I1.list ht;obtain⟨o1,ho1,_⟩:=pl.isList;obtain⟨o2,ho2,_⟩:=pl'.isList;obtain⟨o3,ho3,_⟩:=pl''.isList;refine Hy pl.isList pl'.isList pl''.isList λh' hZ hk=>?_;refine wpAny_pyIter_zip hZ.z ⟨_,_,_,_,H1,rfl,I1.kept (t':=s1.toks) hk,SM a b c s1.heap.objs.size (zxI ho1) (zxI ho2) (zxI ho3),hZ,λd hd=>?_,q⟩;have hb':s1.heap.objs.size<=d:=(Ma.mp hd).1;exact I1.fpOk hb' (I1.hok.fresh hb')
end
noncomputable def Y_(st:Bool):List D->List D->List D->List xb
 |x::r,y::t,z::u=>(st,.tup [x,y,z])::Y_ st r t u
 |_,_,_=>[]
theorem RJ(st:Bool):∀(xs ys zs:List D),xs.length=ys.length->ys.length=zs.length->(Y_ st xs ys zs).length=xs.length
 | [],_,_,_,_=>by simp[Y_]
 |_::_,[],_,h,_=>by simp at h
 |_::_,_::_,[],_,h=>by simp at h
 |_::r,_::t,_::u,h,h'=>by
  simp only[Y_,zzT]at h h' ⊢;rw[RJ st r t u (by omega) (by omega)]
theorem LV{st:Bool}:∀{xs ys zs:List D}{i:Nat}{y:xb},(Y_ st xs ys zs)[i]? = some y->∃d e f,xs[i]? = some d/\ys[i]? = some e/\zs[i]? = some f/\y=(st,.tup [d,e,f])
 | [],_,_,_,_,h=>by simp[Y_]at h
 |_::_,[],_,_,_,h=>by simp[Y_]at h
 |_::_,_::_,[],_,_,h=>by simp[Y_]at h
 |x::r,y::t,z::u,0,w,h=>by
  simp only[Y_,List.getElem?_cons_zero]at h;cases h;exact⟨x,y,z,rfl,rfl,rfl,rfl⟩
 |x::r,y::t,z::u,i+1,w,h=>by
  simp only[Y_,List.getElem?_cons_succ]at h;obtain⟨d,e,f,h1,h2,h3,h4⟩:=LV h;exact⟨d,e,f,by simpa using h1,by simpa using h2,by simpa using h3,h4⟩
noncomputable def oI:List RV->Option (RV×RV×RV)
 | [a,b,c]=>some (a,b,c)
 |_=>none
noncomputable def BF(fr:AF):IF:=λas=>(fr as).bind λp=>(oI p.1).bind λo=>(nP o.1).bind λa=>(nP o.2.1).bind λb=>(nP o.2.2).bind λc=>if a.2.length=b.2.length/\b.2.length=c.2.length then some (Y_ (a.1&&(b.1&&c.1)) a.2 b.2 c.2,p.2)else none
def Jw{l:List RV}{a b c:RV}(h:oI l=some (a,b,c)):l=[a,b,c]:=by
 match l,h with
 | [a,b,c],h=>cases h;rfl
section
variable{X:Cx}{kd:KD}
def CK{K:zzA}{F:Addr->Prop}{H:Hp}{a b c:Addr}{vs ws us:List V}{st:Bool}{ds es fs:List D}(ft:∀a,F a->H a≠none)(hs:∀H3:Hp,(∀b u,H b=some u->H3 b=some u)->W0 K H3 a vs)(hs':∀H3:Hp,(∀b u,H b=some u->H3 b=some u)->W0 K H3 b ws)(hs'':∀H3:Hp,(∀b u,H b=some u->H3 b=some u)->W0 K H3 c us)
 (r:RpL K kd (λa=>st=true/\F a) H vs ds) (r':RpL K kd (λa=>st=true/\F a) H ws es) (r'':RpL K kd (λa=>st=true/\F a) H us fs) (q1:ds.length=es.length) (q2:es.length=fs.length):ItC K kd F H (sS K a b c) (Y_ st ds es fs):=⟨λH3 T k hT i=>by
 have hr3:=hs H3 k;have hr4:=hs' H3 k;have hr5:=hs'' H3 k;have hlen:=RJ st ds es fs q1 q2;have l1:vs.length=ds.length:=r.length;refine⟨λhi=>?_,λhi=>⟨_,hr3,by omega⟩,λv H4 hy=>?_⟩
 . obtain⟨u,hu,_⟩:=r.get (zzE (show i<ds.length by omega));obtain⟨u',hu',_⟩:=r'.get (zzE (show i<es.length by omega));obtain⟨u'',hu'',_⟩:=r''.get (zzE (show i<fs.length by omega));exact⟨_,_,_,u,u',u'',hr3,hr4,hr5,hu,hu',hu''⟩
 . obtain⟨A,x,y,z,hn,rfl,rfl,hv,hv',hv''⟩:=hy;have hnH:H A=none:=by
    cases e:H A with
    |none=>rfl
    |some u=>rw[k A u e]at hn;cases hn
   refine⟨wa hn,λq hq=>?_⟩;obtain⟨d,e,f,hd,he,hf,rfl⟩:=LV hq;obtain⟨u,hu,ru⟩:=r.get hd;obtain⟨u',hu',ru'⟩:=r'.get he;obtain⟨u'',hu'',ru''⟩:=r''.get hf;have e1:=hv _ hr3;rw[hu]at e1;cases e1;have e2:=hv' _ hr4;rw[hu']at e2;cases e2;have e3:=hv'' _ hr5;rw[hu'']at e3;cases e3;have up:∀{v:V}{d:D},Rp K kd (λa=>st=true/\F a) H v d->Rp K kd (λa=>st=true/\(F a\/T a)) (upd H3 A (.tup [x,y,z])) v d:=λrp=>
    (rp.since (λb o q=>wa hn b o (k b o q)) λa z=>(hT a z).1).less λa z=>z.2.elim (λy=>.inl ⟨z.1,y⟩) .inr
   exact .tup (λz=>z.2.elim (λy=>ft A y hnH) λy=>(hT A y).2 hn) (.inl ya) (.cons (up ru) (.cons (up ru') (.cons (up ru'') .nil)))⟩
def Ay{l l' l'':Expr}{fr:AF}{p pos pos':Pos}{elts:List Expr}{k:Nat}(hg:Gl X "zip")(hm:X.mg "zip"=none)(ha:AA X kd [l,l',l''] fr)(hs:starEach [l,l',l''] X.env=(false,eval l X.env)::starEach [l',l''] X.env)(hs2:(backTo pos (starEach [l',l''] X.env)).any (·.1)=false):
 rH X kd (.Tuple elts k pos') (.Call (.Name "zip" p) [l,l',l''] [] pos) (BF fr):=by
 with_unfolding_all (
 intro pins s σ H R I h;obtain⟨F,B,ad,as,ds,as',Rl,e',q⟩:=h;obtain⟨⟨rs,as1⟩,h1,z1⟩:=bS_ (show(fr as).bind _=_ from e');obtain⟨⟨o1,o2,o3⟩,e1,z2⟩:=bS_ z1;obtain⟨⟨s1,d1⟩,e2,z3⟩:=bS_ z2;obtain⟨⟨s2,d2⟩,e3,z4⟩:=bS_ z3;obtain⟨⟨s3,d3⟩,e4,z5⟩:=bS_ z4;obtain⟨⟨q1,q2⟩,z6⟩:=zt z5;cases Jw e1;cases FJ e2;cases FJ e3;cases FJ e4;cases z6;refine J_ hg hm ha hs hs2 pins s σ H R I ⟨F,B,ad,as,_,as1,Rl,h1,λvs ad1 H1 R1 rv1 g1=>?_⟩;cases rv1 with
 |cons r1 rr=>
  cases rr with
  |cons r2 rr=>
   cases rr with
   |cons r3 rr=>
    cases rr;have ls:∀{st:Bool}{l:List D},JP (.ow (.lf st (.lst l)))=some (st,false,l):=rfl;obtain⟨a,vs,rfl,sa,ka,ra⟩:=Wr (ls (st:=s1) (l:=d1)) r1;obtain⟨b,ws,rfl,sb,kb,rb⟩:=Wr (ls (st:=s2) (l:=d2)) r2;obtain⟨c,us,rfl,sc,kc,rc⟩:=Wr (ls (st:=s3) (l:=d3)) r3;refine⟨a,b,c,rfl,⟨_,sa⟩,⟨_,sb⟩,⟨_,sc⟩,q _ ad1 H1 R1 g1 (CK (R1.trk true) (λH3 k=>ka H3 λb u n h=>k b u h) (λH3 k=>kb H3 λb u n h=>k b u h) (λH3 k=>kc H3 λb u n h=>k b u h) (ra.less λa z=>?_) (rb.less λa z=>?_) (rc.less λa z=>?_) q1 q2)⟩
    . have z1:=(Bool.and_eq_true_iff.mp z.1).1;rw[z1];exact z.2
    . have z1:=(Bool.and_eq_true_iff.mp (Bool.and_eq_true_iff.mp z.1).2).1;rw[z1];exact z.2
    . have z1:=(Bool.and_eq_true_iff.mp (Bool.and_eq_true_iff.mp z.1).2).2;rw[z1];exact z.2)
end
abbrev zQ(n:Nat)(x:Int):Prop:=0<=x/\x<(n:Int)
structure LJ(n:Nat)(j:Int->Int->Int)(e:Int):Prop where
 cl:∀a b,zQ n a->zQ n b->zQ n (j a b)
 ce:zQ n e
 ul:∀a,zQ n a->j e a=a
 ur:∀a,zQ n a->j a e=a
 as:∀a b c,zQ n a->zQ n b->zQ n c->j (j a b) c=j a (j b c)
structure LD(n m:Nat)(j:Int->Int->Int)(e:Int)(d:Int->Int->Int):Prop where
 cl:∀c a,zQ m c->zQ n a->zQ n (d c a)
 em:d 0 e=e
 dn:∀a i b k,zQ n a->zQ m i->zQ n b->zQ m k->d ((i+k)%m) (j a b)=j (d i a) (d k b)
def U1{x:Int}{n:Nat}(hn:0<n):zQ n (x%n):=⟨zyN _ (by omega),zyH _ (by omega)⟩
def LD.congr{n m:Nat}{j j':Int->Int->Int}{e:Int}{d d':Int->Int->Int}(hm:0<m)(hj:LJ n j e)(h:LD n m j e d)(q:∀a b,zQ n a->zQ n b->j' a b=j a b)(p:∀c a,zQ m c->zQ n a->d' c a=d c a):LD n m j' e d':=by
 refine⟨λc a r f=>by rw[p c a r f];exact h.cl c a r f,by rw[p 0 e ⟨by omega,by omega⟩ hj.ce];exact h.em,λa i b k f l g o=>?_⟩;rw[q a b f g,p _ _ (U1 hm) (hj.cl a b f g),p i a l f,p k b o g,q _ _ (h.cl i a l f) (h.cl k b o g)];exact h.dn a i b k f l g o
def jS(n:Nat)(a b:Int):Int:=(a+b)%n
def jM(a b:Int):Int:=if b > a then b else a
def jL(a b:Int):Int:=if b=0 then a else b
def kB{n:Nat}(hn:0<n):LJ n (jS n) 0:=by
 refine⟨λa b _ _=>U1 hn,⟨by omega,by omega⟩,λa d=>?_,λa d=>?_,λa b c _ _ _=>?_⟩
 . unfold jS;rw[Int.zero_add,Int.emod_eq_of_lt d.1 d.2]
 . unfold jS;rw[Int.add_zero,Int.emod_eq_of_lt d.1 d.2]
 . unfold jS;rw[Int.emod_add_emod,Int.add_emod_emod,Int.add_assoc]
def jY{n:Nat}(hn:0<n):LJ n jM 0:=by
 refine⟨λa b d e=>?_,⟨by omega,by omega⟩,λa d=>?_,λa d=>?_,λa b c _ _ _=>?_⟩<;>unfold jM<;>(try unfold jM)<;>grind
def jG{n:Nat}(hn:0<n):LJ n jL 0:=by
 refine⟨λa b d e=>?_,⟨by omega,by omega⟩,λa d=>?_,λa d=>?_,λa b c _ _ _=>?_⟩<;>unfold jL<;>grind
def four{P:Int->Prop}(h0:P 0)(h1:P 1)(h2:P 2)(h3:P 3){a:Int}(h:zQ 4 a):P a:=by
 rcases(show a=0\/a=1\/a=2\/a=3 by have:=h.1;have:=h.2;omega)with rfl|rfl|rfl|rfl<;>assumption
def f4{P:Int->Prop}(h:∀a ∈ ([0,1,2,3]:List Int),P a){a:Int}(ha:zQ 4 a):P a:=four (h 0 (by decide)) (h 1 (by decide)) (h 2 (by decide)) (h 3 (by decide)) ha
def jI{n m:Nat}{g x0 x1:Int}(hn:0<n)(hm:0<m)(g0:0<g)(gn:g ∣ n)(gm:g ∣ m):LD n m (jS n) 0 (λc a=>(a*x0+c*((n:Int)/g)*x1)%n):=by
 refine⟨λc a _ _=>U1 hn,by simp,λa i b k _ _ _ _=>?_⟩;obtain⟨t,e⟩:=gm;have h:(m:Int)*((n:Int)/g)=n*t:=by
  obtain⟨s,f⟩:=gn;rw[f,Int.mul_ediv_cancel_left _ (by omega),e];grind
 show(_:Int)=jS n _ _;unfold jS;rw[<-Int.add_emod];generalize (n:Int)/g=d at h;rw[Int.emod_def (i+k) m,Int.emod_def (a+b) n];generalize (i+k)/(m:Int)=q;generalize (a+b)/(n:Int)=p;rw[show((a+b)-(n:Int)*p)*x0+((i+k)-(m:Int)*q)*d*x1=(a*x0+i*d*x1+(b*x0+k*d*x1))+(n:Int)*(-(p*x0)-t*q*x1) by grind,Int.add_mul_emod_self_left]
def ji{n m:Nat}{r:Int->Int}(hm:0<m)(h0:r 0=0)(hc:∀a,zQ n a->zQ n (r a))(hr:∀a b,zQ n a->zQ n b->a<=b->r a<=r b):LD n m jM 0 (λ_ a=>r a):=by
 refine⟨λc a _ d=>hc a d,h0,λa i b k d _ e _=>?_⟩;show r (jM a b)=jM (r a) (r b);unfold jM;have f:=hr a b d e;have g:=hr b a e d
 split<;>split<;>grind
def jD{n m:Nat}{r:Int->Int}(h0:r 0=0)(hc:∀a,zQ n a->zQ n (r a))(hr:∀a,zQ n a->a≠0->r a≠0):LD n m jL 0 (λ_ a=>r a):=by
 refine⟨λc a _ d=>hc a d,h0,λa i b k d _ e _=>?_⟩;show r (jL a b)=jL (r a) (r b);unfold jL;have f:=hr b e
 split<;>split<;>grind
def uJ{n1 n2:Nat}{x y:Int}(hx:zQ n1 x)(hy:zQ n2 y):zQ (n1*n2) (x*n2+y):=by
 have b:0<=x*n2:=Int.mul_nonneg hx.1 (by omega);have a:x*n2<=((n1:Int)-1)*n2:=Int.mul_le_mul_of_nonneg_right (by have:=hx.2;omega) (by omega);rw[Int.sub_mul,Int.one_mul]at a;refine⟨by have:=hy.1;omega, ?_⟩;rw[zzV];have:=hy.2;omega
def yg{n1 n2:Nat}{p:Int}(h2:0<n2)(h:zQ (n1*n2) p):zQ n1 (p/n2)/\zQ n2 (p%n2):=
 ⟨⟨Int.ediv_nonneg h.1 (by omega),Int.ediv_lt_of_lt_mul (by omega) (by have:=h.2;rw[zzV]at this;exact this)⟩,U1 h2⟩
def Qt{n2:Nat}{x y:Int}(hy:zQ n2 y):(x*n2+y)/n2=x/\(x*n2+y)%n2=y:=by
 have a:(n2:Int)≠0:=by have:=hy.1;have:=hy.2;omega
 constructor
 . rw[Int.add_comm,Int.add_mul_ediv_right _ _ a,Int.ediv_eq_zero_of_lt hy.1 hy.2,Int.zero_add]
 . rw[Int.add_comm,Int.add_mul_emod_self_right,Int.emod_eq_of_lt hy.1 hy.2]
def o_{n2:Nat}{p:Int}:(p/n2)*n2+p%n2=p:=by rw[Int.mul_comm];exact Int.mul_ediv_add_emod p n2
def jB(n2:Nat)(j1 j2:Int->Int->Int)(p q:Int):Int:=j1 (p/n2) (q/n2)*n2+j2 (p%n2) (q%n2)
def dB(n2:Nat)(d1 d2:Int->Int->Int)(c p:Int):Int:=d1 c (p/n2)*n2+d2 c (p%n2)
def tR{n k:Nat}(h:n<=8)(hk:8<=k:=by decide):n<=k:=zzO h hk
def rB{n:Nat}(h:1<=n):(0:Int)<n:=Int.natCast_pos.mpr h
def tS{a:Int}{n:Nat}(h0:0<=a)(h1:a<n):a.toNat<n:=Int.ofNat_lt.mp (by rw[zyY h0];exact h1)
def mU{n:Nat}{k:Int}(h:n<=8)(hk:8<k:=by decide):(n:Int)<k:=Int.lt_of_le_of_lt (Int.ofNat_le.mpr h) hk
def iT{n:Nat}{x:Int}(h:zQ n x):x.toNat<n:=Int.ofNat_lt.mp (by rw[zyY h.1];exact h.2)
def iC{n:Nat}{x:Int}(h:zQ n x):((x.toNat:Nat):Int)=x:=zyY h.1
def wY(r:List Int)(v:Int):Int:=(r[v.toNat]?).getD 0
def yA(J:List (List Int))(w v:Int):Int:=wY ((J[w.toNat]?).getD []) v
def rF(J:List (List Int))(e:Int):List Int->Int
 | []=>e
 |x::t=>t.foldl (yA J) x
section
variable{n m:Nat}{J T:List (List Int)}{e:Int}
theorem Ey(h:LJ n (yA J) e):∀(t:List Int) (w:Int),zQ n w->(∀x ∈ t,zQ n x)->zQ n (t.foldl (yA J) w)
 | [],w,a,_=>a
 |v::t,w,a,k=>Ey h t (yA J w v) (h.cl w v a (k v (zzF ..))) λx m=>k x (zzD _ m)
def QZ(h:LJ n (yA J) e){r:List Int}(k:∀x ∈ r,zQ n x):zQ n (rF J e r):=by
 cases r with
 |nil=>exact h.ce
 |cons x t=>exact Ey h t x (k x (zzF ..)) λy m=>k y (zzD _ m)
theorem NO(h:LJ n (yA J) e):∀(t:List Int) (w:Int),zQ n w->(∀x ∈ t,zQ n x)->t.foldl (yA J) w=yA J w (rF J e t)
 | [],w,a,_=>(h.ur w a).symm
 |x::t,w,a,k=>by
  have b:=k x (zzF ..);have c:∀y ∈ t,zQ n y:=λy m=>k y (zzD _ m);show t.foldl (yA J) (yA J w x)=yA J w (t.foldl (yA J) x);rw[NO h t _ (h.cl w x a b) c,NO h t x b c,h.as _ _ _ a b (QZ h c)]
def O4(h:LJ n (yA J) e){l l':List Int}(k:∀x ∈ l,zQ n x)(k':∀x ∈ l',zQ n x):rF J e (l++l')=yA J (rF J e l) (rF J e l'):=by
 cases l with
 |nil=>exact(h.ul _ (QZ h k')).symm
 |cons x t=>
  show(t++l').foldl (yA J) x=_;rw[List.foldl_append];exact NO h l' _ (QZ h k) k'
end
local macro_rules | `(tactic| trivial)=>`(tactic| first|with_reducible first|assumption|exact Int.natCast_nonneg _|exact Nat.le_refl _|exact Int.le_refl _|exact rfl|exact tR (by assumption)|exact rB (by assumption)|exact np2 (by assumption)|exact nq1 (by assumption)|exact nq2 (by assumption)|exact Int.natCast_pos.mpr (by assumption)|exact Nat.le_trans (by assumption) (by decide)|exact bgL _|exact bgU (by assumption)|exact mU (by assumption)|exact zI _|exact bL0 (by assumption)|exact bU0 (by assumption) (by assumption)|exact iL (by assumption)|exact iU (by assumption) (by assumption)|exact iC (by assumption)|exact iT (by assumption)|exact stL (by assumption)|exact stU (by assumption)|exact lnK (by assumption) (by assumption) (by assumption)|exact zi1 _|exact lnE (by assumption)|exact ltL (by assumption)|exact Int.toNat_of_nonneg (by assumption)|exact tS (by assumption) (by assumption)|exact b6 (by assumption)|exact Int.emod_nonneg _ (by decide)|exact Int.emod_lt_of_pos _ (by decide)|decide|omega)
abbrev Q9(x:Int):O:=.lf true (.int x)
abbrev sI(x:Int):Option O:=some (Q9 x)
abbrev sT(d:D):Option O:=some (.lf true d)
abbrev sN(os:List O):Option O:=some (.nd .ls os)
abbrev TZ:Type:=List (List Int)
abbrev DD:Type:=List (Str×TZ)
abbrev SS:Type:=List (Str×List Int)
def TX{f:EF}{as as1:AS}{o:O}(h:f as=some (.ow o,as1))(hs:o.str=true):zL f as=some (.rt o):=by
 unfold zL;rw[h];show((if o.str=true then some o else none).bind _)=_;rw[if_pos hs];rfl
theorem Zv:∀xs:List Int,(xs.map Q9).all O.isLf=true/\O.strs (xs.map Q9)=true/\O.toDs (xs.map Q9)=xs.map D.int
 | []=>⟨rfl,rfl,rfl⟩
 |x::r=>⟨(Zv r).1,(Zv r).2.1,congrArg (D.int x :: ·) (Zv r).2.2⟩
def EH(ys:List Int)(w:Int):(ys++[w]).map Q9=ys.map Q9++[O.lf true (.int w)]:=by rw[zyM];rfl
def ZC(xs:List Int):(O.nd .ls (xs.map Q9)).str=true/\(O.nd .ls (xs.map Q9)).toD = .lst (xs.map D.int):=⟨(Zv xs).2.1,congrArg D.lst (Zv xs).2.2⟩
abbrev yC(r:List Int):O:=.nd .ls (r.map Q9)
abbrev zh(r:List Int):D:=.lst (r.map D.int)
def E1{g:GF}{fe:EF}{as0 as1:AS}{y:xb}{r:List xb}{o:O}{os:List O}(h1:g y as0=some as1)(h2:fe as1=some (.ow o,as1))(hs:o.str=true)(h3:xf g yZ fe as0 r=some os):xf g yZ fe as0 (y::r)=some (o::os):=by
 unfold xf;rw[h1];show((fe as1).bind _)=_;rw[h2];show(if o.str=true then _ else _)=_;rw[if_pos hs,h3];rfl
theorem xp:∀(n:Nat) (k:Int),(y2 k n).length=n
 |0,_=>rfl
 |n+1,k=>by rw[Lq];exact congrArg (· + 1) (xp n (k+1))
def Im{f:EF}{as:AS}{x:D}(h:WE f as x):∃o,zL f as=some (.rt o)/\o.str=true/\o.toD=x:=by
 obtain⟨o,b,a,c⟩:=h;exact⟨o,TX b a,a,c⟩
theorem TU:∀{n:Nat}{k:Int}{y:xb},y ∈ y2 k n->∃b:Int,y=(true,.int b)/\k<=b/\b<k+n
 |0,_,_,h=>nomatch h
 |n+1,k,y,h=>by
  rw[Lq]at h
  rcases zzC.mp h with rfl|h
  . exact⟨k,rfl,by trivial,by trivial⟩
  . obtain⟨b,e,a,c⟩:=TU h;exact⟨b,e,by trivial,by trivial⟩
theorem Lp{α:Type}(toD:α->D){Q:α->Prop}{g:GF}{fe:EF}{as0:AS}:∀{xs:List xb},(∀y ∈ xs,∃as1 a,g y as0=some as1/\WE fe as1 (toD a)/\Q a)->∃(os:List O) (l:List α),xf g yZ fe as0 xs=some os/\O.strs os=true/\O.toDs os=l.map toD/\l.length=xs.length/\∀a ∈ l,Q a
 | [],_=>⟨[],[],rfl,rfl,rfl,rfl,λ_ m=>nomatch m⟩
 |y::e,H=>by
  obtain⟨f,a,h,⟨o,i,d,j⟩,k⟩:=H y (zzF ..);obtain⟨c,l,n,p,q,r,s⟩:=Lp toD (Q:=Q) (g:=g) (fe:=fe) (as0:=as0) (xs:=e) λz m=>H z (zzD _ m);refine⟨o::c,a::l,E1 h i d n,by show(o.str&&O.strs c)=true;rw[d,p];rfl,by show o.toD::O.toDs c=_;rw[j,q];rfl,congrArg (· + 1) r,λb m=>?_⟩
  rcases zzC.mp m with rfl|m
  . exact k
  . exact s b m
def Jk{α:Type}(toD:α->D){Q:α->Prop}{fi:IF}{cap:List (Option Nat)}{g:GF}{fe:EF}{as:AS}{xs:List xb}(h1:fi as=some (xs,as))(hl:xs.length<=1000)(H:∀y ∈ xs,∃as1 a,g y (vL cap as)=some as1/\WE fe as1 (toD a)/\Q a):
 ∃l:List α,l.length=xs.length/\(∀a ∈ l,Q a)/\WE (yf fi cap g yZ fe) as (.lst (l.map toD)):=by
 obtain⟨h,l,b,c,d,e,f⟩:=Lp toD H;exact⟨l,e,f,_,UX h1 (S_ (by trivial)) b,c,congrArg D.lst d⟩
def tE{α:Type}(toD:α->D){Q:α->Prop}{fr:AF}{cap:List (Option Nat)}{fe:EF}{as:AS}{n:Nat}{u:Bool}(h1:WA fr as [(u,.int n)])(hl:n<=1000)(H:∀b:Int,0<=b->b<n->∃as1 a,gN 0 (true,.int b) (vL cap as)=some as1/\WE fe as1 (toD a)/\Q a):
 ∃l:List α,l.length=n/\(∀a ∈ l,Q a)/\WE (yf (yM fr y_) cap (gN 0) yZ fe) as (.lst (l.map toD)):=by
 obtain⟨l,c,d,e⟩:=Jk toD (Q:=Q) (cap:=cap) (g:=gN 0) (fe:=fe) (xX h1 (by trivial) (by trivial)) (by rw[xp];trivial) (λy m=>by
  obtain⟨b,rfl,f,h⟩:=TU m;exact H b f (by trivial))
 rw[xp]at c;exact⟨l,by trivial,d,e⟩
def Row(n:Nat)(r:List Int):Prop:=r.length=n/\∀x ∈ r,0<=x/\x<(n:Int)
def Tab(k n:Nat)(T:TZ):Prop:=T.length=k/\∀r ∈ T,Row n r
abbrev xJ(T:TZ):D:=.lst (T.map zh)
def HS{r:List Int}{P:Int->Prop}{k:Int}(h0:0<=k)(h1:k<r.length)(hp:∀x ∈ r,P x):∃x,zN (zh r) (.int k)=some (.im (.int x))/\P x:=by
 have a:k.toNat<r.length:=by trivial
 refine⟨r[k.toNat], ?_,hp _ (zyZ a)⟩;have h:=UA (xs:=r.map D.int) (j:=k.toNat) (v:=D.int r[k.toNat]) (by rw[zzI,zzE a];rfl);rw[show((k.toNat:Nat):Int)=k by trivial]at h;show JC (atI _ _)=_;rw[h];rfl
def tY{α:Type}(toD:α->D){T:List α}{P:α->Prop}{k:Int}(h0:0<=k)(h1:k<T.length)(hp:∀r ∈ T,P r):∃r,zN (.lst (T.map toD)) (.int k)=some (.im (toD r))/\P r:=by
 have a:k.toNat<T.length:=by trivial
 refine⟨T[k.toNat], ?_,hp _ (zyZ a)⟩;have h:=UA (xs:=T.map toD) (j:=k.toNat) (v:=toD T[k.toNat]) (by rw[zzI,zzE a];rfl);rw[show((k.toNat:Nat):Int)=k by trivial]at h;show JC (atI _ _)=_;rw[h];rfl
def Xr{α:Type}{f:α->D}{l:List α}{i:Nat}{p:α}(h:l[i]? = some p):zN (.lst (l.map f)) (.int (i:Int))=some (.im (f p)):=by
 have h:=UA (xs:=l.map f) (j:=i) (v:=f p) (by rw[zzI,h];rfl);show JC (atI _ _)=_;rw[h];rfl
def tQ{n k:Nat}{r:List Int}{v:Int}(hl:r.length=k)(hr:∀x ∈ r,zQ n x)(hv:zQ k v):zN (zh r) (.int v)=some (.im (.int (wY r v)))/\zQ n (wY r v):=by
 have a:v.toNat<r.length:=by rw[hl];have:=hv.1;have:=hv.2;trivial
 have g:=zzE a;have e:wY r v=r[v.toNat]:=by unfold wY;rw[g];rfl
 rw[e];refine⟨?_,hr _ (zyZ a)⟩;have:=Xr (f:=D.int) g;rw[show((v.toNat:Nat):Int)=v by have:=hv.1;trivial]at this;exact this
abbrev Qs(T:TZ)(w:Int):List Int:=(T[w.toNat]?).getD []
def Yc{k n:Nat}{T:TZ}{w:Int}(hT:Tab k n T)(hw:zQ k w):zN (xJ T) (.int w)=some (.im (zh (Qs T w)))/\Row n (Qs T w):=by
 have a:w.toNat<T.length:=by rw[hT.1];have:=hw.1;have:=hw.2;trivial
 have g:=zzE a;unfold Qs;rw[g];refine⟨?_,hT.2 _ (zyZ a)⟩;have:=Xr (f:=zh) g;rw[show((w.toNat:Nat):Int)=w by have:=hw.1;trivial]at this;exact this
def rowAt{n:Nat}{r:List Int}{v:Int}(hr:Row n r)(hv:zQ n v):zN (zh r) (.int v)=some (.im (.int (wY r v)))/\zQ n (wY r v):=tQ hr.1 hr.2 hv
theorem strs_snoc:∀(os:List O) (o:O),O.strs os=true->o.str=true->O.strs (os++[o])=true
 | [],o,_,h=>by show(o.str&&true)=true;rw[h];rfl
 |p::r,o,h,a=>by
  have h:=(zyC _ _).mp (show(p.str&&O.strs r)=true from h);show(p.str&&O.strs (r++[o]))=true;rw[h.1,strs_snoc r o h.2 a];rfl
theorem LF:∀(os:List O) (o:O),O.toDs (os++[o])=O.toDs os++[o.toD]
 | [],o=>rfl
 |p::r,o=>congrArg (p.toD :: ·) (LF r o)
structure Ows{α:Type}(toD:α->D)(Q:α->Prop)(os:List O)(l:List α):Prop where
 st:O.strs os=true
 ds:O.toDs os=l.map toD
 al:∀a ∈ l,Q a
 ln:os.length=l.length
def Ows.nil{α:Type}{toD:α->D}{Q:α->Prop}:Ows toD Q [] []:=⟨rfl,rfl,(λ_ m=>nomatch m),rfl⟩
def Ows.snoc{α:Type}{toD:α->D}{Q:α->Prop}{os:List O}{l:List α}{o:O}{a:α}(h:Ows toD Q os l)(h1:o.str=true)(h2:o.toD=toD a)(h3:Q a):Ows toD Q (os++[o]) (l++[a]):=
 ⟨strs_snoc os o h.st h1,(by rw[LF,h.ds,h2,zyM];rfl),(λb m=>(zzM.mp m).elim (h.al b) λm=>(by rw[zzR.mp m];exact h3)),(by rw[zzJ,zzJ,h.ln];rfl)⟩
def Um{as as1:AS}{a:EF}{i:Nat}{os0 os:List O}{o:O}(h:as[i]? = some (sN os0))(ha:a as=some (.ow o,as1))(h1:as1[i]? = some (sN os))(hl:os.length<sizeLine):yN (vH i (dC a dN) ZA) as=some (.nx (as1.set i (sN (os++[o])))):=by
 unfold yN vH;rw[h];have e:dC a dN as=some ([o],as1):=vJ ha rfl;show((dC a dN as).bind _).bind _=_;rw[e];show(Option.bind (match as1[i]? with|some (some (.nd .ls os))=>_|_=>none) _)=_;rw[h1];show((ZA os [o]).bind _).bind _=_;have e2:ZA os [o]=some (os++[o],.lf true .non):=by unfold ZA;exact if_pos hl
 rw[e2];rfl
def OC{α:Type}{toD:α->D}{Q:α->Prop}{as:AS}{a:EF}{i:Nat}{os:List O}{l:List α}{x:α}(h:as[i]? = some (sN os))(ho:Ows toD Q os l)(hl:l.length<1000)(ha:WE a as (toD x))(hx:Q x):
 ∃os',Ows toD Q os' (l++[x])/\yN (vH i (dC a dN) ZA) as=some (.nx (as.set i (sN os'))):=by
 obtain⟨o,b,c,d⟩:=ha;exact⟨os++[o],ho.snoc c d hx,Um h b h (by rw[ho.ln];exact Pb (by trivial))⟩
def Ows.retB{α:Type}{toD:α->D}{Q:α->Prop}{as:AS}{i:Nat}{os:List O}{l:List α}(h:as[i]? = some (sN os))(ho:Ows toD Q os l):Rt (zL (fV i) as) (.lst (l.map toD)):=
 ⟨_,Qf h ho.st,ho.st,congrArg D.lst ho.ds⟩
structure OwsX{α:Type}(toD:α->D)(Q:Nat->α->Prop)(os:List O)(l:List α):Prop where
 st:O.strs os=true
 ds:O.toDs os=l.map toD
 al:∀i a,l[i]? = some a->Q i a
 ln:os.length=l.length
def DH{fr:AF}{as:AS}{rs:List (Bool×D)}{g:List D->Option R0}{zs:List D}(ha:WA fr as rs)(hg:g (rs.map (·.2))=some (.fl zs)):fP fr g as=some (.ow (.nd .ls (zs.map (MZ (rs.all (·.1))))),as):=by
 unfold fP;unfold WA at ha;rw[ha];show(views as _).bind _=_;rw[YK];show(g _).bind _=_;rw[hg];show(if(zs.all zv||(some (rs.all (·.1))).isSome)=true then _ else _:Option RV).bind _=_;rw[if_pos (by simp)];rfl
def sf{a:EF}{as:AS}{x:D}{g:List D->Option R0}{zs:List D}(ha:WE a as x)(hg:g [x]=some (.fl zs)):fP (aC a aN) g as=some (.ow (.nd .ls (zs.map (O.lf true))),as):=by
 have:=DH (g:=g) (xZ ha (zB (as:=as))) hg;rw[show([(true,x)].all (·.1))=true from rfl,Ux]at this;exact this
def Dw{a:EF}{as:AS}{s:Bool}{r:List Int}(h:WD a as s (zh r)):fP (aC a aN) lstP as=some (.ow (yC r),as):=by
 have:=DH (g:=lstP) (zr h (zB (as:=as))) rfl;rw[zyB]at this;exact this
def O1{a:EF}{as:AS}{s:Bool}{r:List Int}(h:WD a as s (zh r)):WE (fP (aC a aN) lstP) as (zh r):=⟨_,Dw h,(ZC r).1,(ZC r).2⟩
def Aj{fr:DF}{as:AS}{os:List O}{x:D}(h:WO fr as os)(hl:os.length<=sizeLine)(hs:O.strs os=true)(e:D.tup (O.toDs os)=x):WE (yR fr) as x:=by
 refine⟨_,C_ h hl, ?_, ?_⟩
 . unfold VR
   split
   . exact hs
   . exact hs
 . unfold VR
   split
   . exact e
   . exact e
def Up{r:List Int}{a:Int}(h:a.toNat<r.length):wY r a=r[a.toNat]:=by unfold wY;rw[zzE h];rfl
theorem Ows.frz{α:Type}{toD:α->D}{Q:α->Prop}{os:List O}{l:List α}(h:Ows toD Q os l):(O.nd .ls os).frz = .lf true (.lst (l.map toD)):=by
 show O.lf (O.strs os) (.lst (O.toDs os))=_;rw[h.st,h.ds]
def GO{as as2:AS}{j:Nat}{ps:List O}{fr:DF}{os:List O}(hj:as[j]? = some (sN ps))(hr:fr (as.set j (some (O.nd .ls ps).frz))=some (os,as2)):dC (fV j) fr as=some ((O.nd .ls ps).frz::os,as2):=by
 unfold dC;rw[Nd hj];show((AB as (.bo j)).bind _)=_;rw[tj hj];show(fr (as.set j (some (O.nd .ls ps).frz))).bind _=_;rw[hr];rfl
def BD{as as1:AS}{fr:DF}{os:List O}(h:fr as=some (os,as1))(hl:os.length<=sizeLine):yR fr as=some (.ow (VR os),as1):=by
 unfold yR;rw[h];show(if os.length<=sizeLine then _ else _)=_;rw[if_pos hl]
def Bw{f:EF}{as:AS}{ds:List D}(h:WE f as (.lst ds)):Xe f as=some (ds.map λd=>(true,d),as):=by
 obtain⟨o,h1,h2,h3⟩:=h;unfold Xe;rw[h1];have e:Ua as (.ow o)=some ((o.str,o.toD),as):=rfl;show(Ua as (RV.ow o)).bind (λq=>(P8 q.1).bind λds=>some (ds,q.2))=_;rw[e,h2,h3];show some (kids true ds,as)=_;rw[Pn]
abbrev Tu(n:Nat):List Int:=(List.range n).map λ(i:Nat)=>(i:Int)
abbrev Kp(p:Str×List Int):D:=.tup [.str p.1,zh p.2]
def p8{x y:Int}{c:Bool}:zN (.lst [.int x,.int y]) (.int (if c=true then 1 else 0))=some (.im (.int (if c=true then y else x))):=by cases c<;>rfl
abbrev Hu:Str:="abcdefghijklmnopqrstuvwxyz"
def IW:∀k,k<26->Hu.cps.toList[k]? = some (97+k):=by decide +kernel
def uf{i:Int}(h0:0<=i)(h1:i<26):zN (.str Hu) (.int i)=some (.im (.str ⟨#[97+i.toNat]⟩)):=by
 show(if Hu.length<=sizeLine then(atI Hu.cps.toList i).bind (λc=>some (R0.im (.str ⟨#[c]⟩)))else none)=_;rw[if_pos (show Hu.length<=sizeLine by decide +kernel)];have:=UA (IW i.toNat (by trivial));rw[show((i.toNat:Nat):Int)=i by trivial]at this;rw[this];rfl
def wA{F:List Int}{n:Nat}(h:F.Perm (Tu n)):Row n F/\∀b:Int,0<=b->b<n->b ∈ F:=by
 refine⟨⟨by rw[h.length_eq,zzB,zyU],λx m=>?_⟩,λb c d=>h.mem_iff.mpr ?_⟩
 . obtain⟨i,a,rfl⟩:=zxD.mp (h.mem_iff.mp m);have:=List.mem_range.mp a;trivial
 . exact zxD.mpr ⟨b.toNat,List.mem_range.mpr (by trivial),by trivial⟩
def HK{F:List Int}{n:Nat}(h:F.Perm (Tu n)){v w:Int}(hv:zQ n v)(hw:zQ n w)(e:wY F v=wY F w):v=w:=by
 have a:=(wA h).1.1;have b:=hv.1;have c:=hv.2;have d:=hw.1;have f:=hw.2;have nd:F.Nodup:=by
  refine h.nodup_iff.mpr (List.pairwise_map.mpr (List.nodup_range.imp λz q=>z (by trivial)))
 rw[Up (by trivial),Up (by trivial)]at e;have:=(List.getElem_inj nd).mp e;trivial
def Bl{f:EF}{g:GF}{as as':AS}{x:D}(h:WE f as x)(hg:g (true,x) as=some as'):Rg f g as=some (.nx as'):=by
 obtain⟨o,a,b,c⟩:=h;exact uA a (by rw[b,c];exact hg)
abbrev QB(p:Str×TZ):D:=.tup [.str p.1,xJ p.2]
structure Alg(n m:Nat)(J:TZ)(e:Int)(Ds:DD):Prop where
 n1:1<=n
 n8:n<=8
 m1:1<=m
 m6:m<=6
 j:Tab n n J
 e0:0<=e
 en:e<n
 dl:Ds.length<=6
 ds:∀p ∈ Ds,Tab m n p.2
 nd:(Ds.map (·.1)).Nodup
structure LawA(n m:Nat)(J:TZ)(e:Int)(Ds:DD):Prop where
 lj:LJ n (yA J) e
 ld:∀p ∈ Ds,LD n m (yA J) e (yA p.2)
abbrev xB(n m:Nat)(J:TZ)(e:Int)(Ds:DD)(S:SS):D:=.tup [.int n,.int m,xJ J,.int e,.lst (Ds.map QB),.lst (S.map Kp)]
def Bk{f:EF}{as:AS}{k:Int}(h:WD f as true (.int k)):oS f as=some (some k,as):=by
 unfold oS;unfold WD at h;rw[h];rfl
abbrev FR(T:TZ):O:=.nd .ls (T.map yC)
def RB{n:Nat}{J:TZ}{w v:Int}(hJ:Tab n n J)(hw:zQ n w)(hv:zQ n v):zQ n (yA J w v):=(rowAt (Yc hJ hw).2 hv).2
def vM{a b c:EF}{as:AS}{n:Nat}{J:TZ}{w v:Int}(hJ:Tab n n J)(hw:zQ n w)(hv:zQ n v)(ha:WD a as true (xJ J))(hb:WD b as true (.int w))(hc:WD c as true (.int v)):WD (f2 (f2 a b zN) c zN) as true (.int (yA J w v)):=
 zJ (wO ha hb (Yc hJ hw).1) hc (rowAt (Yc hJ hw).2 hv).1 rfl
def q5{fr:AF}{as:AS}{rs:List (Bool×D)}{g:List D->Option R0}{kvs:List (Key×D)}(ha:WA fr as rs)(hg:g (rs.map (·.2))=some (.fd kvs)):fP fr g as=some (.ow (.nd (.dc (kvs.map (·.1))) ((kvs.map (·.2)).map (MZ (rs.all (·.1))))),as):=by
 unfold fP;unfold WA at ha;rw[ha];show(views as _).bind _=_;rw[YK];show(g _).bind _=_;rw[hg];show(if((kvs.map (·.2)).all zv||(some (rs.all (·.1))).isSome)=true then _ else _:Option RV).bind _=_;rw[if_pos (by simp)];rfl
abbrev RT(o:O):Prop:=o.str=true/\∃ds,o.toD = .tup ds
theorem B5{g:GF}{f:SF}(I:AS->Prop)(P:xb->Prop):∀(xs:List xb) (as:AS),(∀x ∈ xs,∀as,I as->∃as1,g x as=some as1/\((∃as2,f as1=some (.nx as2)/\I as2/\P x)\/∃o,f as1=some (.rt o)/\RT o/\¬P x))->I as->
 (∃as',forL g f xs as=some (.nx as')/\I as'/\∀x ∈ xs,P x)\/∃o,forL g f xs as=some (.rt o)/\RT o/\¬ ∀x ∈ xs,P x
 | [],as,_,h=>.inl ⟨as,rfl,h,λ_ m=>nomatch m⟩
 |x::r,as,H,h=>by
  obtain⟨n,b,a⟩:=H x (zzF ..) as h
  rcases a with⟨c,a,d,e⟩|⟨o,a,d,e⟩
  . rcases B5 I P r c (λy m=>H y (zzD _ m)) d with⟨i,j,k,l⟩|⟨o,j,k,l⟩
    . refine .inl ⟨i,Za b a j,k,λy m=>?_⟩
      rcases zzC.mp m with rfl|m
      . exact e
      . exact l y m
    . exact .inr ⟨o,Za b a j,k,λz=>l λy m=>z y (zzD _ m)⟩
  . exact .inr ⟨o,Iq b a,d,λz=>e (z x (zzF ..))⟩
abbrev TQ(r:Option Out)(I:AS->Prop)(P:Prop):Prop:=(∃as',r=some (.nx as')/\I as'/\P)\/∃o,r=some (.rt o)/\RT o/\¬P
def TQ.imp{r:Option Out}{I:AS->Prop}{P Q:Prop}(h:TQ r I P)(k:P ↔ Q):TQ r I Q:=by
 rcases h with⟨a,b,c,d⟩|⟨a,b,c,d⟩
 . exact .inl ⟨a,b,c,k.mp d⟩
 . exact .inr ⟨a,b,c,λz=>d (k.mpr z)⟩
def VX{v n:Nat}{f fr:SF}(I:AS->Prop)(P:Int->Prop)(H:∀b,zQ n b->∀as,I as->∃as1,gN v (true,.int b) as=some as1/\TQ (f as1) I (P b)){as:AS}(h:I as):TQ (forL (gN v) f (y2 0 n) as) I (∀b,zQ n b->P b):=by
 have k:=B5 (g:=gN v) (f:=f) I (λx=>∀b,x=(true,.int b)->P b) (y2 0 n) as (λx m as j=>by
  obtain⟨b,rfl,l,u⟩:=TU m;obtain⟨a,o,q⟩:=H b ⟨l,by trivial⟩ as j;exact⟨a,o,q.imp ⟨λp c e=>by cases e;exact p,λp=>p b rfl⟩⟩) h
 refine TQ.imp k ⟨λp b d=>p (true,.int b) ?_ b rfl,λp x m b e=>?_⟩
 . have r:=d.1;have s:=d.2;refine zyA (i:=b.toNat) ?_;unfold y2;rw[zzI,List.getElem?_range (by trivial)];show some (true,D.int (0+(b.toNat:Int)))=_;rw[show(0:Int)+(b.toNat:Int)=b by trivial]
 . subst e;obtain⟨c,e,t,w⟩:=TU m;cases e;exact p b ⟨t,by trivial⟩
def X5{v n:Nat}{g:GF}{f:SF}{as:AS}{s:Bool}(h:as[v]? = some (some (.lf s (.int n))))(hn:n<=1000):yU (yM (aC (fV v) aN) y_) g f as=forL g f (y2 0 n) as:=
 yI (xX (zr (za h) zB) (by trivial) (by trivial)) (by rw[zyI])
def Fh{c:TF}{f:EF}{as:AS}{P:Prop}{q:Bool}{ds:List D}{I:AS->Prop}(ht:WT c as q)(hq:q=true ↔ ¬P)(hf:WE f as (.tup ds))(hI:I as):TQ (vG c (zL f) w4 as) I P:=by
 cases q with
 |false=>exact .inl ⟨as,zT ht rfl,hI,Classical.byContradiction λz=>nomatch hq.mpr z⟩
 |true=>
  obtain⟨o,a,b,d⟩:=Im hf;exact .inr ⟨o,xN ht a,⟨b,ds,d⟩,hq.mp rfl⟩
def Of{a b:EF}{as:AS}{x y:Int}{s t:Bool}(ha:WD a as s (.int x))(hb:WD b as t (.int y)):WT (fT (f2 a b (zP .NotEq))) as (!(x==y)):=yV (BE (c:=x==y) ha hb rfl) rfl
def BB{x y:Int}:(!(x==y))=true ↔ ¬x=y:=by simp
abbrev nM(n:Nat)(J:TZ)(e:Int):Prop:=∀a,zQ n a->yA J e a=a/\yA J a e=a
abbrev As(n:Nat)(J:TZ):Prop:=∀a,zQ n a->∀b,zQ n b->∀c,zQ n c->yA J (yA J a b) c=yA J a (yA J b c)
section
variable{S:Option O->Option O->Option O->AS}{vj vn ve:Nat}{J:TZ}{n:Nat}{e:Int}
def sh{x y z:Option O}(hJ:Tab n n J)(he:zQ n e)(hj:∀x y z,(S x y z)[vj]? = some (sT (xJ J)))(hv:∀x y z,(S x y z)[ve]? = some (sI e))(h3:∀x y z,(S x y z)[3]? = some x)(g3:∀d x y z,gN 3 (true,d) (S x y z)=some (S (sT d) y z)):
 TQ (forL (gN 3) (vG (Pv (fT (f2 (f2 (f2 (fV vj) (fV ve) zN) (fV 3) zN) (fV 3) (zP .NotEq))) (fT (f2 (f2 (f2 (fV vj) (fV 3) zN) (fV ve) zN) (fV 3) (zP .NotEq)))) (zL (yR (dC (fC (.str "nothing")) (dC (fV 3) dN)))) w4) (y2 0 n) (S x y z)) (λas=>∃x,as=S x y z) (nM n J e):=by
 refine VX (fr:=w4) (λas=>∃x,as=S x y z) (λa=>yA J e a=a/\yA J a e=a) (λa c as f=>?_) ⟨x,rfl⟩;obtain⟨x,rfl⟩:=f;have b:WD (fV 3) (S (sI a) y z) true (.int a):=za (h3 _ _ _);have g:=Of (vM hJ he c (za (hj (sI a) y z)) (za (hv (sI a) y z)) b) b;have i:=Of (vM hJ c he (za (hj (sI a) y z)) b (za (hv (sI a) y z))) b;refine⟨S (sI a) y z,g3 _ _ _ _,Fh (q:=!(yA J e a==a) || !(yA J a e==a)) (ds:=[.str "nothing",.int a]) (Ol g (λh=>by rw[h,Bool.false_or];exact i) (λh=>by rw[h];rfl)) (by simp;grind) (Aj (os:=[.lf true (.str "nothing"),Q9 a]) (zz zb (zz b yz)) (QC rfl) rfl rfl) ⟨_,rfl⟩⟩
abbrev qR(vj vn:Nat):SF:=yU (yM (aC (fV vn) aN) y_) (gN 4) (yU (yM (aC (fV vn) aN) y_) (gN 5) (vG (fT (f2 (f2 (f2 (fV vj) (f2 (f2 (fV vj) (fV 3) zN) (fV 4) zN) zN) (fV 5) zN) (f2 (f2 (fV vj) (fV 3) zN) (f2 (f2 (fV vj) (fV 4) zN) (fV 5) zN) zN) (zP .NotEq))) (zL (yR (dC (fC (.str "parting")) (dC (fV 3) (dC (fV 4) (dC (fV 5) dN)))))) w4))
def Aq{x y z:Option O}(n8:n<=8)(hJ:Tab n n J)(hj:∀x y z,(S x y z)[vj]? = some (sT (xJ J)))(hn:∀x y z,(S x y z)[vn]? = some (sI n))(h3:∀x y z,(S x y z)[3]? = some x)(h4:∀x y z,(S x y z)[4]? = some y)(h5:∀x y z,(S x y z)[5]? = some z)
 (g3:∀d x y z,gN 3 (true,d) (S x y z)=some (S (sT d) y z)) (g4:∀d x y z,gN 4 (true,d) (S x y z)=some (S x (sT d) z)) (g5:∀d x y z,gN 5 (true,d) (S x y z)=some (S x y (sT d))):
 TQ (forL (gN 3) (qR vj vn) (y2 0 n) (S x y z)) (λas=>∃x y z,as=S x y z) (As n J):=by
 refine VX (fr:=w4) (λas=>∃x y z,as=S x y z) (λa=>∀b,zQ n b->∀c,zQ n c->yA J (yA J a b) c=yA J a (yA J b c)) (λa i as e=>?_) ⟨x,y,z,rfl⟩;obtain⟨x,y,z,rfl⟩:=e;refine⟨_,g3 _ _ _ _, ?_⟩;unfold qR;rw[X5 (hn _ _ _) (by trivial)];have k:=VX (v:=4) (n:=n) (fr:=w4) (f:=yU (yM (aC (fV vn) aN) y_) (gN 5) (vG (fT (f2 (f2 (f2 (fV vj) (f2 (f2 (fV vj) (fV 3) zN) (fV 4) zN) zN) (fV 5) zN) (f2 (f2 (fV vj) (fV 3) zN) (f2 (f2 (fV vj) (fV 4) zN) (fV 5) zN) zN) (zP .NotEq))) (zL (yR (dC (fC (.str "parting")) (dC (fV 3) (dC (fV 4) (dC (fV 5) dN)))))) w4)) (λas=>∃y z,as=S (sI a) y z) (λb=>∀c,zQ n c->yA J (yA J a b) c=yA J a (yA J b c)) (λb g as e=>by
  obtain⟨y,z,rfl⟩:=e;refine⟨_,g4 _ _ _ _, ?_⟩;rw[X5 (hn _ _ _) (by trivial)];have k:=VX (v:=5) (n:=n) (fr:=w4) (f:=vG (fT (f2 (f2 (f2 (fV vj) (f2 (f2 (fV vj) (fV 3) zN) (fV 4) zN) zN) (fV 5) zN) (f2 (f2 (fV vj) (fV 3) zN) (f2 (f2 (fV vj) (fV 4) zN) (fV 5) zN) zN) (zP .NotEq))) (zL (yR (dC (fC (.str "parting")) (dC (fV 3) (dC (fV 4) (dC (fV 5) dN)))))) w4) (λas=>∃z,as=S (sI a) (sI b) z) (λc=>yA J (yA J a b) c=yA J a (yA J b c)) (λc j as e=>by
   obtain⟨z,rfl⟩:=e;have l:WD (fV 3) (S (sI a) (sI b) (sI c)) true (.int a):=za (h3 _ _ _);have m:WD (fV 4) (S (sI a) (sI b) (sI c)) true (.int b):=za (h4 _ _ _);have o:WD (fV 5) (S (sI a) (sI b) (sI c)) true (.int c):=za (h5 _ _ _);have h:WD (fV vj) (S (sI a) (sI b) (sI c)) true (xJ J):=za (hj _ _ _);have s:=RB hJ i g;have bc:=RB hJ g j;exact⟨_,g5 _ _ _ _,Fh (ds:=[.str "parting",.int a,.int b,.int c]) (Of (vM hJ s j h (vM hJ i g h l m) o) (vM hJ i bc h l (vM hJ g j h m o))) BB (Aj (os:=[.lf true (.str "parting"),Q9 a,Q9 b,Q9 c]) (zz zb (zz l (zz m (zz o yz)))) (QC rfl) rfl rfl) ⟨_,rfl⟩⟩) ⟨z,rfl⟩
  rcases k with⟨p,q,⟨t,rfl⟩,r⟩|k
  . exact .inl ⟨_,q,⟨_,_,rfl⟩,r⟩
  . exact .inr k) ⟨y,z,rfl⟩
 rcases k with⟨p,q,⟨u,t,rfl⟩,r⟩|k
 . exact .inl ⟨_,q,⟨_,_,_,rfl⟩,r⟩
 . exact .inr k
end
abbrev HD(r:Option O)(P:Prop):Prop:=(RE r .non/\P)\/((∃ds,RE r (.tup ds))/\¬P)
def FZ{n m:Nat}{c:SF}{ds:List (Bool×D)}{P:Prop}(hl:ds.length=m)(h:(Rt (c (v9 n ds)) .non/\P)\/((∃es,Rt (c (v9 n ds)) (.tup es))/\¬P)):HD (ZD n m c ds) P:=by
 rcases h with⟨h,p⟩|⟨⟨a,h⟩,p⟩
 . exact .inl ⟨yJ hl h,p⟩
 . exact .inr ⟨⟨a,yJ hl h⟩,p⟩
def NR{f g:SF}{as:AS}{I:AS->Prop}{P Q:Prop}(h:TQ (f as) I P)(k:∀as',I as'->P->(Rt (g as') .non/\Q)\/((∃es,Rt (g as') (.tup es))/\¬Q)):(Rt (zj f g as) .non/\P/\Q)\/((∃es,Rt (zj f g as) (.tup es))/\¬(P/\Q)):=by
 rcases h with⟨b,a,c,p⟩|⟨o,a,⟨c,d,i⟩,p⟩
 . rcases k b c p with⟨e,q⟩|⟨⟨d,e⟩,q⟩
   . exact .inl ⟨zm a e,p,q⟩
   . exact .inr ⟨⟨d,zm a e⟩,λz=>q z.2⟩
 . exact .inr ⟨⟨d,o,vU a,c,i⟩,λz=>p z.1⟩
def ND{as:AS}:(Rt (zL (fC .non) as) .non/\True)\/((∃es,Rt (zL (fC .non) as) (.tup es))/\¬True):=.inl ⟨yF (WD.e zb),trivial⟩
def HD.imp{r:Option O}{P Q:Prop}(h:HD r P)(k:P ↔ Q):HD r Q:=by
 rcases h with⟨h,p⟩|⟨h,p⟩
 . exact .inl ⟨h,k.mp p⟩
 . exact .inr ⟨h,λz=>p (k.mpr z)⟩
section
variable{n m:Nat}{J T:TZ}{e:Int}{Ds:DD}{S:SS}
abbrev Dn(n m:Nat)(J T:TZ):Prop:=∀a,zQ n a->∀i,zQ m i->∀b,zQ n b->∀k,zQ m k->yA T ((i+k)%m) (yA J a b)=yA J (yA T i a) (yA T k b)
def Vx{a b c:EF}{as:AS}{w v:Int}(hT:Tab m n T)(hw:zQ m w)(hv:zQ n v)(ha:WD a as true (xJ T))(hb:WD b as true (.int w))(hc:WD c as true (.int v)):WD (f2 (f2 a b zN) c zN) as true (.int (yA T w v))/\zQ n (yA T w v):=
 ⟨zJ (wO ha hb (Yc hT hw).1) hc (rowAt (Yc hT hw).2 hv).1 rfl,(rowAt (Yc hT hw).2 hv).2⟩
abbrev nR:SF:=(vG (fT (f2 (f2 (f2 (fV 2) (f2 (f2 (fV 7) (fV 9) (YX .Add)) (fV 4) (YX .Mod)) zN) (f2 (f2 (fV 5) (fV 6) zN) (fV 8) zN) zN) (f2 (f2 (fV 5) (f2 (f2 (fV 2) (fV 7) zN) (fV 6) zN) zN) (f2 (f2 (fV 2) (fV 9) zN) (fV 8) zN) zN) (zP .NotEq))) (zL (yR (dC (fC (.str "doing")) (dC (fV 1) (dC (fV 6) (dC (fV 7) (dC (fV 8) (dC (fV 9) dN)))))))) w4)
abbrev LS(n m:Nat)(J T:TZ)(e:Int)(Ds:DD)(S:SS)(s:Str)(x y z w:Option O):AS:=[sT (xB n m J e Ds S),sT (.str s),sT (xJ T),sI n,sI m,sT (xJ J),x,y,z,w]
def jF{s:Str}{a i b:Int}{w:Option O}(hJ:Tab n n J)(hT:Tab m n T)(m1:1<=m)(ha:zQ n a)(hi:zQ m i)(hb:zQ n b):TQ (forL (gN 9) nR (y2 0 m) (LS n m J T e Ds S s (sI a) (sI i) (sI b) w)) (λas=>∃w,as=LS n m J T e Ds S s (sI a) (sI i) (sI b) w) (∀k,zQ m k->yA T ((i+k)%m) (yA J a b)=yA J (yA T i a) (yA T k b)):=by
 refine VX (fr:=w4) (λas=>∃w,as=LS n m J T e Ds S s (sI a) (sI i) (sI b) w) (λk=>yA T ((i+k)%m) (yA J a b)=yA J (yA T i a) (yA T k b)) (λk l as o=>?_) ⟨w,rfl⟩;obtain⟨w,rfl⟩:=o;have c:WD (fV 2) (LS n m J T e Ds S s (sI a) (sI i) (sI b) (sI k)) true (xJ T):=za rfl;have j:WD (fV 5) (LS n m J T e Ds S s (sI a) (sI i) (sI b) (sI k)) true (xJ J):=za rfl;have d:WD (fV 6) (LS n m J T e Ds S s (sI a) (sI i) (sI b) (sI k)) true (.int a):=za rfl;have f:WD (fV 7) (LS n m J T e Ds S s (sI a) (sI i) (sI b) (sI k)) true (.int i):=za rfl;have g:WD (fV 8) (LS n m J T e Ds S s (sI a) (sI i) (sI b) (sI k)) true (.int b):=za rfl;have h:WD (fV 9) (LS n m J T e Ds S s (sI a) (sI i) (sI b) (sI k)) true (.int k):=za rfl;obtain⟨p,q⟩:=Vx hT hi ha c f d;obtain⟨r,t⟩:=Vx hT l hb c h g;have u:=RB hJ ha hb;obtain⟨v,y⟩:=Vx hT (w:=(i+k)%m) (U1 m1) u c (yj (zR f h) (za (i:=4) (x:=.int m) (s:=true) rfl) (by trivial)) (vM hJ ha hb j d g);exact⟨_,rfl,Fh (ds:=[.str "doing",.str s,.int a,.int i,.int b,.int k]) (Of v (vM hJ q t j p r)) BB (Aj (os:=[.lf true (.str "doing"),.lf true (.str s),Q9 a,Q9 i,Q9 b,Q9 k]) (zz zb (zz (za (i:=1) rfl) (zz d (zz f (zz g (zz h yz)))))) (QC rfl) rfl rfl) ⟨_,rfl⟩⟩
def HD.none{r:Option O}{P:Prop}(h:HD r P)(p:P):RE r .non:=by
 rcases h with⟨h,_⟩|⟨_,h⟩
 . exact h
 . exact absurd p h
def LawA.un(L:LawA n m J e Ds):nM n J e:=λa b=>⟨L.lj.ul a b,L.lj.ur a b⟩
theorem LawA.as(L:LawA n m J e Ds):As n J:=λa d b f c g=>L.lj.as a b c d f g
theorem LawA.dn(L:LawA n m J e Ds){p:Str×TZ}(hp:p ∈ Ds):Dn n m J p.2:=λa c i d b f k g=>(L.ld p hp).dn a i b k c d f g
end
def iP(b k:Int):Int:=if k=0 then b/2 else b%2
def jP(a b:Int):Int:=2*iP b (a/2)+iP b (a%2)
def sP(a:Int):Int:=2*(1-a%2)+1-a/2
def mL:LJ 4 jP 1:=by
 refine⟨λa b d e=>?_,⟨by decide,by decide⟩,λa d=>?_,λa d=>?_,λa b c d e f=>?_⟩
 . revert b;refine f4 (P:=λa=>∀b,zQ 4 b->zQ 4 (jP a b)) ?_ d
   have:∀a ∈ ([0,1,2,3]:List Int),∀b ∈ ([0,1,2,3]:List Int),zQ 4 (jP a b):=by decide
   exact λa m b e=>f4 (P:=λb=>zQ 4 (jP a b)) (this a m) e
 . exact f4 (P:=λa=>jP 1 a=a) (by decide) d
 . exact f4 (P:=λa=>jP a 1=a) (by decide) d
 . have:∀a ∈ ([0,1,2,3]:List Int),∀b ∈ ([0,1,2,3]:List Int),∀c ∈ ([0,1,2,3]:List Int),jP (jP a b) c=jP a (jP b c):=by decide
   refine f4 (P:=λa=>jP (jP a b) c=jP a (jP b c)) (λa m=>f4 (P:=λb=>jP (jP a b) c=jP a (jP b c)) (λb g=>f4 (P:=λc=>jP (jP a b) c=jP a (jP b c)) (this a m b g) f) e) d
def jJ{m:Nat}{r:Int->Int}(h:(∀a,zQ 4 a->r a=a)\/(∀a,zQ 4 a->r a=sP a)):LD 4 m jP 1 (λ_ a=>r a):=by
 rcases h with h|h
 . refine⟨λc a _ d=>by show zQ 4 (r a);rw[h a d];exact d,h 1 ⟨by decide,by decide⟩,λa i b k d _ e _=>?_⟩;show r (jP a b)=jP (r a) (r b);rw[h a d,h b e,h _ (mL.cl a b d e)]
 . refine⟨λc a _ d=>by show zQ 4 (r a);rw[h a d];exact f4 (P:=λa=>zQ 4 (sP a)) (by decide) d,h 1 ⟨by decide,by decide⟩,λa i b k d _ e _=>?_⟩;show r (jP a b)=jP (r a) (r b);rw[h a d,h b e,h _ (mL.cl a b d e)];have:∀a ∈ ([0,1,2,3]:List Int),∀b ∈ ([0,1,2,3]:List Int),sP (jP a b)=jP (sP a) (sP b):=by decide
   exact f4 (P:=λa=>sP (jP a b)=jP (sP a) (sP b)) (λa m=>f4 (P:=λb=>sP (jP a b)=jP (sP a) (sP b)) (this a m) e) d
def jb{n1 n2:Nat}{j1 j2:Int->Int->Int}{e1 e2:Int}(h1:LJ n1 j1 e1)(h2:LJ n2 j2 e2)(p2:0<n2):LJ (n1*n2) (jB n2 j1 j2) (e1*n2+e2):=by
 refine⟨λa b d e=>?_,uJ h1.ce h2.ce,λa d=>?_,λa d=>?_,λa b c d e f=>?_⟩
 . exact uJ (h1.cl _ _ (yg p2 d).1 (yg p2 e).1) (h2.cl _ _ (yg p2 d).2 (yg p2 e).2)
 . unfold jB;rw[(Qt h2.ce).1,(Qt h2.ce).2,h1.ul _ (yg p2 d).1,h2.ul _ (yg p2 d).2,o_]
 . unfold jB;rw[(Qt h2.ce).1,(Qt h2.ce).2,h1.ur _ (yg p2 d).1,h2.ur _ (yg p2 d).2,o_]
 . unfold jB;rw[(Qt (h2.cl _ _ (yg p2 d).2 (yg p2 e).2)).1,(Qt (h2.cl _ _ (yg p2 d).2 (yg p2 e).2)).2,(Qt (h2.cl _ _ (yg p2 e).2 (yg p2 f).2)).1,(Qt (h2.cl _ _ (yg p2 e).2 (yg p2 f).2)).2,h1.as _ _ _ (yg p2 d).1 (yg p2 e).1 (yg p2 f).1,h2.as _ _ _ (yg p2 d).2 (yg p2 e).2 (yg p2 f).2]
def jC{n1 n2 m:Nat}{j1 j2 d1 d2:Int->Int->Int}{u1 u2:Int}(h1:LJ n1 j1 u1)(h2:LJ n2 j2 u2)(p2:0<n2)(e1:LD n1 m j1 u1 d1)(e2:LD n2 m j2 u2 d2):LD (n1*n2) m (jB n2 j1 j2) (u1*n2+u2) (dB n2 d1 d2):=by
 refine⟨λc a h d=>uJ (e1.cl _ _ h (yg p2 d).1) (e2.cl _ _ h (yg p2 d).2), ?_,λa i b k d f e g=>?_⟩
 . unfold dB;rw[(Qt h2.ce).1,(Qt h2.ce).2,e1.em,e2.em]
 . unfold jB dB;rw[(Qt (h2.cl _ _ (yg p2 d).2 (yg p2 e).2)).1,(Qt (h2.cl _ _ (yg p2 d).2 (yg p2 e).2)).2,(Qt (e2.cl i _ f (yg p2 d).2)).1,(Qt (e2.cl i _ f (yg p2 d).2)).2,(Qt (e2.cl k _ g (yg p2 e).2)).1,(Qt (e2.cl k _ g (yg p2 e).2)).2,e1.dn _ _ _ _ (yg p2 d).1 f (yg p2 e).1 g,e2.dn _ _ _ _ (yg p2 d).2 f (yg p2 e).2 g]
def jN{n:Nat}{j j':Int->Int->Int}{e:Int}{F B:Int->Int}(h:LJ n j e)(hF:∀a,zQ n a->zQ n (F a))(hB:∀a,zQ n a->zQ n (B a))(hFB:∀a,zQ n a->F (B a)=a)(q:∀a b,zQ n a->zQ n b->j' (F a) (F b)=F (j a b)):LJ n j' (F e):=by
 have g:∀a b,zQ n a->zQ n b->j' a b=F (j (B a) (B b)):=λa b d f=>by
  have:=q (B a) (B b) (hB a d) (hB b f);rw[hFB a d,hFB b f]at this;exact this
 refine⟨λa b d f=>by rw[g a b d f];exact hF _ (h.cl _ _ (hB a d) (hB b f)),hF e h.ce,λa d=>?_,λa d=>?_,λa b c d f i=>?_⟩
 . have:=q e (B a) h.ce (hB a d);rw[hFB a d,h.ul _ (hB a d),hFB a d]at this;exact this
 . have:=q (B a) e (hB a d) h.ce;rw[hFB a d,h.ur _ (hB a d),hFB a d]at this;exact this
 . have k:=hB a d;have l:=hB b f;have m:=hB c i;rw[g a b d f,g b c f i];have x:=q (j (B a) (B b)) (B c) (h.cl _ _ k l) m;have y:=q (B a) (j (B b) (B c)) k (h.cl _ _ l m);rw[hFB c i]at x;rw[hFB a d]at y;rw[x,y,h.as _ _ _ k l m]
def jw{n m:Nat}{j j' d d':Int->Int->Int}{e:Int}{F B:Int->Int}(hm:0<m)(h:LJ n j e)(k:LD n m j e d)(hF:∀a,zQ n a->zQ n (F a))(hB:∀a,zQ n a->zQ n (B a))(hFB:∀a,zQ n a->F (B a)=a)
 (q:∀a b,zQ n a->zQ n b->j' (F a) (F b)=F (j a b)) (p:∀c a,zQ m c->zQ n a->d' c (F a)=F (d c a)):LD n m j' (F e) d':=by
 refine⟨λc a t f=>?_, ?_,λa i b l f r u s=>?_⟩
 . have:=p c (B a) t (hB a f);rw[hFB a f]at this;rw[this];exact hF _ (k.cl _ _ t (hB a f))
 . rw[p 0 e ⟨by omega,by omega⟩ h.ce,k.em]
 . have g:=hB a f;have o:=hB b u;have x:=q (B a) (B b) g o;have y:=p i (B a) r g;have z:=p l (B b) s o;rw[hFB a f]at x y;rw[hFB b u]at x z;rw[x,y,z,p _ _ (U1 hm) (h.cl _ _ g o),q _ _ (k.cl _ _ r g) (k.cl _ _ s o),k.dn _ _ _ _ g r o s]
def KN(k:Int)(n:Nat):Prop:=(k=0/\1<=n)\/(k=1/\1<=n)\/(k=2/\1<=n)\/(k=3/\n=4)
def jK(k:Int)(n:Nat):Int->Int->Int:=if k=0 then jS n else if k=1 then jM else if k=2 then jL else jP
def eK(k:Int):Int:=if k=3 then 1 else 0
def kN{k:Int}{n:Nat}(h:KN k n):LJ n (jK k n) (eK k):=by
 rcases h with⟨rfl,h⟩|⟨rfl,h⟩|⟨rfl,h⟩|⟨rfl,rfl⟩
 . exact kB h
 . exact jY h
 . exact jG h
 . exact mL
def IB{as:AS}{fr:AF}{i j:Int}{u v:Bool}(h:WA fr as [(u,.int i),(v,.int j)])(h0:0<=i)(h1:i<=1000)(h2:0<=j)(h3:j<=1000):yM fr J8 as=some (y2 i (j-i).toNat,as):=by
 unfold yM;unfold WA at h;rw[h];simp only[zyL,YK];show((if -(2 ^ 62)<=i/\i<2 ^ 62 /\ -(2 ^ 62)<=j/\j<2 ^ 62 then some (y2 i (j-i).toNat)else none).bind _)=_;rw[if_pos ⟨by omega,by omega,by omega,by omega⟩];rfl
abbrev Kc(r:List Int):D:=.tup (r.map D.int)
abbrev XF(T:TZ):D:=.tup (T.map Kc)
def Sm{α:Type}{f:α->D}{l:List α}{i:Nat}{p:α}(h:l[i]? = some p):zN (.tup (l.map f)) (.int (i:Int))=some (.im (f p)):=by
 have h:=UA (xs:=l.map f) (j:=i) (v:=f p) (by rw[zzI,h];rfl);show JC (atI _ _)=_;rw[h];rfl
def nV{k n:Nat}{T:TZ}{w:Int}(hT:Tab k n T)(hw:zQ k w):zN (XF T) (.int w)=some (.im (Kc (Qs T w))):=by
 have a:w.toNat<T.length:=by rw[hT.1];exact iT hw
 have g:=zzE a;unfold Qs;rw[g];have:=Sm (f:=Kc) g;rw[iC hw]at this;exact this
def oG{n:Nat}{r:List Int}{v:Int}(hr:Row n r)(hv:zQ n v):zN (Kc r) (.int v)=some (.im (.int (wY r v))):=by
 have a:v.toNat<r.length:=by rw[hr.1];exact iT hv
 have g:=zzE a;rw[Up a];have:=Sm (f:=D.int) g;rw[iC hv]at this;exact this
def HJ{a b c:EF}{as:AS}{m n:Nat}{T:TZ}{w v:Int}(hT:Tab m n T)(hw:zQ m w)(hv:zQ n v)(ha:WD a as true (XF T))(hb:WD b as true (.int w))(hc:WD c as true (.int v)):WD (f2 (f2 a b zN) c zN) as true (.int (yA T w v)):=
 zJ (wO ha hb (nV hT hw)) hc (oG (Yc hT hw).2 hv) rfl
section
variable{α:Type}{kf:α->Str}{vf:α->D}
theorem L1:∀l:List α,QX (l.map λp=>.tup [.str (kf p),vf p])=some (l.map λp=>(.inr (kf p),vf p))
 | []=>rfl
 |p::l=>by
  show(QX (l.map λp=>.tup [.str (kf p),vf p])).bind _=_;rw[L1 l];rfl
theorem Ik:∀(kvs:List (Key×D)),(kvs.map (·.1)).zip (kvs.map (·.2))=kvs
 | []=>rfl
 |p::r=>congrArg (p :: ·) (Ik r)
def qo{a:EF}{as:AS}{l:List α}(nd:(l.map kf).Nodup)(h:WE a as (.lst (l.map λp=>.tup [.str (kf p),vf p]))):WE (fP (aC a aN) L_) as (.dct (l.map λp=>(.inr (kf p),vf p))):=by
 have c:L_ [.lst (l.map λp=>.tup [.str (kf p),vf p])]=some (.fd (l.map λp=>(.inr (kf p),vf p))):=by
  show(QX (l.map λp=>.tup [.str (kf p),vf p])).bind _=_;rw[L1];refine if_pos ?_;rw[zyB];exact List.pairwise_map.mpr ((List.pairwise_map.mp nd).imp λh e=>h (Sum.inr.inj e))
 have k:=q5 (g:=L_) (xZ h (zB (as:=as))) c;rw[show([(true,D.lst (l.map λp=>.tup [.str (kf p),vf p]))].all (·.1))=true from rfl,Ux]at k;generalize (l.map λp=>((.inr (kf p),vf p):Key×D))=b at k;refine⟨_,k,U8 _, ?_⟩;show D.dct ((b.map (·.1)).zip (O.toDs ((b.map (·.2)).map (O.lf true))))=_;rw[PH,Ik]
end
def y9{as:AS}{i:Nat}{cs:List Str}{f c:Str}{fe:EF}{d:D}{ns:List Str}{os:List O}(h:WE fe as d)(hi:as[i]? = some (some (.nd (.ob c ns) os)))(hc:c ∈ cs)(hn:f ∉ ns)(hl:ns.length<1000):Vl i cs f fe as=some (as.set i (some (.nd (.ob c (ns++[f])) (os++[.lf true d])))):=by
 obtain⟨o,a,b,g⟩:=h;unfold Vl;have e:Ua as (.ow o)=some ((o.str,o.toD),as):=rfl;simp only[a,zyL,e,hi,if_pos (⟨hc,hn,hl⟩:c ∈ cs/\f ∉ ns/\ns.length<1000),b,g]
def yO{f g:Fp}{as as1:AS}{o:Option AS}(h:f as=some as1)(h2:g as1=o):Zy f g as=o:=by
 unfold Zy;rw[h];exact h2
def Ib{fe:EF}{as:AS}{d:D}(h:WE fe as d):Al fe as=some as:=by
 obtain⟨o,a,_,_⟩:=h;unfold Al;rw[a];rfl
def qM{as:AS}{i:Nat}{cs ns:List Str}{f c:Str}{ds:List D}{d:D}(h:as[i]? = some (sT (.ob c ns ds)))(hc:c ∈ cs)(hl:FA ns ds f=some d):WD (f1 (fV i) (xM cs f)) as true d:=by
 have:=Ul (za h) hc hl;rw[zyD]at this;exact this
def bh(A B:TZ):TZ:=(A.zip B).map λp=>p.1.map (wY p.2)
def uR{m n:Nat}{A B:TZ}(hA:Tab m n A)(hB:Tab m n B){i:Nat}(hi:i<m):(bh A B)[i]? = some ((Qs A i).map (wY (Qs B i))):=by
 have a:=zzE (l:=A) (i:=i) (by rw[hA.1];exact hi);have b:=zzE (l:=B) (i:=i) (by rw[hB.1];exact hi);unfold bh Qs;rw[zzI,zyI,a,b];have:(A.zip B)[i]? = some (A[i]'(by rw[hA.1];exact hi),B[i]'(by rw[hB.1];exact hi)):=List.getElem?_zip_eq_some.mpr ⟨a,b⟩;rw[this];rfl
def sX{m n:Nat}{A B:TZ}(hA:Tab m n A)(hB:Tab m n B):Tab m n (bh A B):=by
 refine⟨by unfold bh;rw[zzB,List.length_zip,hA.1,hB.1,Nat.min_self],λr h=>?_⟩;obtain⟨p,b,rfl⟩:=zxD.mp h;obtain⟨c,d⟩:=List.of_mem_zip b;have a:=hA.2 _ c;have e:=hB.2 _ d;exact⟨by rw[zzB];exact a.1,λx f=>by
  obtain⟨y,g,rfl⟩:=zxD.mp f;exact(rowAt e (a.2 y g)).2⟩
def qp{m n:Nat}{A B:TZ}(hA:Tab m n A)(hB:Tab m n B){c a:Int}(hc:zQ m c)(ha:zQ n a):yA (bh A B) c a=yA B c (yA A c a):=by
 have d:=iT hc;have g:=uR hA hB d;have e:((c.toNat:Nat):Int)=c:=iC hc;rw[e]at g;have f:=(Yc hA hc).2;have h:=(Yc hB hc).2;show wY (((bh A B)[c.toNat]?).getD []) a=wY (Qs B c) (wY (Qs A c) a);rw[g];show wY ((Qs A c).map (wY (Qs B c))) a=_;have b:a.toNat<(Qs A c).length:=by rw[f.1];exact iT ha
 rw[Up (by rw[zzB];exact b),List.getElem_map,Up b]
end PF
end
section
namespace G40
open PySem PySem.Spec PyProof.Rows L2 PF
abbrev zA:EF:=fV 1
abbrev yS:EF:=fC (.int 0)
abbrev zw:EF:=fV 0
abbrev xY:EF:=fC (.int 2)
abbrev yB:EF:=fC (.int 1)
abbrev yb:EF:=fV 2
abbrev RF:EF:=fC (.int 4)
abbrev Po:GF:=gN 4
abbrev yG:EF:=fV 4
abbrev yw:EF:=fV 3
abbrev wz:GF:=gN 0
abbrev zD:=YX .Add
abbrev wH:EF:=fV 5
abbrev uY:EF:=fC (.int 5)
abbrev ZW:EF:=fV 6
abbrev Re:EF:=fV 7
abbrev Kj:EF:=fV 11
abbrev zW:=YX .Mod
abbrev zS:=YX .Mult
abbrev KU:EF:=fC (.int 8)
abbrev zM:=YX .FloorDiv
abbrev Qn:EF:=fC (.int 3)
abbrev YH:=YX .Sub
abbrev CN:EF:=fC (.int 6)
abbrev GQ:AF:=aC (fV 3) aN
abbrev vO:AF:=aC (fV 0) aN
abbrev v5:AF:=aC (fV 1) aN
abbrev KM:AF:=aC (fV 2) aN
abbrev Oi:AF:=aC (fV 5) aN
abbrev lp:AF:=aC (fV 7) aN
def YN:List Str:=["Knot"]
def Uy:List Str:=["Knot"]
def T8:List Str:=["Knot"]
def Gc:List Str:=["Knot"]
def Ki:List Str:=["Knot"]
def VS:List Str:=["Knot"]
def Wc:List Str:=["Knot"]
def Zs:List Str:=["Knot","Ways"]
def Gk:List Str:=["Ways"]
def Qc:List Str:=["Ways"]
def Wo:List Str:=["Makes"]
def xt:List Str:=["Makes"]
def KO:List Str:=["Ways"]
def M9:List Str:=["Ways"]
def GB:List Str:=["Ways"]
abbrev Gh:List Str:=["thing"]
def Ex:FnScope Gh ["thing"] (zd X7):=Yx
def GA:SF:=(zL (K0 (RR zw "int") (se (RR zw "bool"))))
def YL:Fn:=ZD 1 1 GA
abbrev P9:List Str:=["thing","least","most"]
def N4:FnScope P9 ["thing","least","most"] (zd Y7):=Yx
def Tc:SF:=(zL (K0 (zq vO YL) (NP zA zw yb (zP .LtE) (zP .LtE))))
def wD:Fn:=ZD 3 3 Tc
abbrev Vg:List Str:=["algebra","join","nothing","a"]
def wJ:FnScope Vg ["algebra"] (zd vg):=Yx
abbrev rR:SF:=(vG (Pv (fT (f2 (f2 (f2 zA yb zN) yw zN) yw (zP .NotEq))) (fT (f2 (f2 (f2 zA yw zN) yb zN) yw (zP .NotEq)))) (zL (yR (dC (fC (.str "nothing")) (dC yw dN)))) w4)
def ZM:SF:=(zj (zy true 1 (f2 zw xY zN)) (zj (zy true 2 (f2 zw Qn zN)) (zj (yU (yM (aC (f2 zw yS zN) aN) y_) (gN 3) rR) (zL (fC .non)))))
def wd:Fn:=ZD 4 1 ZM
abbrev Vi:List Str:=["algebra","n","join","a","b","c"]
def y0:FnScope Vi ["algebra"] (zd vo):=Yx
def WZ:SF:=(zj (zy true 1 (f2 zw yS zN)) (zj (zy true 2 (f2 zw xY zN)) (zj (yU (yM v5 y_) (gN 3) (yU (yM v5 y_) Po (yU (yM v5 y_) (gN 5) (vG (fT (f2 (f2 (f2 yb (f2 (f2 yb yw zN) yG zN) zN) wH zN) (f2 (f2 yb yw zN) (f2 (f2 yb yG zN) wH zN) zN) (zP .NotEq))) (zL (yR (dC (fC (.str "parting")) (dC yw (dC yG (dC wH dN)))))) w4)))) (zL (fC .non)))))
def x5:Fn:=ZD 6 1 WZ
abbrev QE:List Str:=["algebra","name","rows","n","m","join","a","i","b","j"]
def yL:FnScope QE ["algebra","name","rows"] (zd Zt):=Yx
def QH:SF:=(zj (zy true 3 (f2 zw yS zN)) (zj (zy true 4 (f2 zw yB zN)) (zj (zy true 5 (f2 zw xY zN)) (zj (yU (yM GQ y_) (gN 6) (yU (yM (aC yG aN) y_) (gN 7) (yU (yM GQ y_) (gN 8) (yU (yM (aC yG aN) y_) (gN 9) (vG (fT (f2 (f2 (f2 yb (f2 (f2 Re (fV 9) zD) yG zW) zN) (f2 (f2 wH ZW zN) (fV 8) zN) zN) (f2 (f2 wH (f2 (f2 yb Re zN) ZW zN) zN) (f2 (f2 yb (fV 9) zN) (fV 8) zN) zN) (zP .NotEq))) (zL (yR (dC (fC (.str "doing")) (dC zA (dC ZW (dC Re (dC (fV 8) (dC (fV 9) dN)))))))) w4))))) (zL (fC .non))))))
def w5:Fn:=ZD 10 3 QH
abbrev UG:List Str:=["algebra","nothing","name","rows","fault"]
def w6:FnScope UG ["algebra"] (zd Yl):=Yx
abbrev qu:SF:=(vG (fT (f2 (f2 (f2 yw yS zN) zA zN) zA (zP .NotEq))) (zL (yR (dC (fC (.str "empty")) (dC yb dN)))) w4)
abbrev o5:SF:=(zy true 4 (zq (aC zw (aC yb GQ)) w5))
def Ut:SF:=(zj (zy true 1 (f2 zw Qn zN)) (zj (yU (Xe (f2 zw RF zN)) (gT 2 (wj (gN 2) (wj (gN 3) Qm))) (zj qu (zj o5 (vG (fT (f2 yG (fC .non) (zP .IsNot))) (zL yG) w4)))) (zL (fC .non))))
def vX:Fn:=ZD 5 1 Ut
abbrev Uq:List Str:=["algebra","fault"]
def Zn:FnScope Uq ["algebra"] (zd Yr):=Yx
def Ra:SF:=(zj (zy true 1 (zq vO wd)) (zj (vG (fT (f2 zA (fC .non) (zP .Is))) (zy true 1 (zq vO x5)) w4) (zj (vG (fT (f2 zA (fC .non) (zP .Is))) (zy true 1 (zq vO vX)) w4) (zL zA))))
def vT:Fn:=ZD 2 1 Ra
abbrev VM:List Str:=["algebra","fault"]
def W7:FnScope VM ["algebra"] (zd v3):=Yx
def YQ:SF:=(zj (zy true 1 (zq vO vT)) (vG (fT (f2 zA (fC .non) (zP .IsNot))) DP w4))
def xI:Fn:=ZD 2 1 YQ
abbrev WK:List Str:=["self","whole","back","wait","turn","one","other"]
def RZ:FnScope WK ["self","whole","back","wait","turn","one","other"] (zd vp):=Yx
abbrev qS:EF:=(Sl (fT (f2 wH (fC .non) (zP .Is))) yS (f2 yB (fP (aC (f1 wH (xM Wc "deep")) (aC (f1 ZW (xM Wc "deep")) aN)) E8) zD))
abbrev oF:EF:=(Sl (fT (f2 wH (fC .non) (zP .Is))) yB (f2 (f1 wH (xM Zs "size")) (f1 ZW (xM Zs "size")) zD))
def Yg:Fp:=(Zy (Vl 0 YN "whole" zA) (Zy (Vl 0 Uy "back" yb) (Zy (Vl 0 T8 "wait" yw) (Zy (Vl 0 Gc "turn" yG) (Zy (Vl 0 Ki "one" wH) (Zy (Vl 0 VS "other" ZW) (Zy (Vl 0 Wc "deep" qS) (Vl 0 Zs "size" oF))))))))
def yP(c:Str):Fn:=D7 c 7 7 Yg
abbrev L6:List Str:=["value"]
def Fj:FnScope L6 ["value"] (zd V_):=Yx
def Ni:SF:=(zL (zq (aC zw (aC zw (aC (fC .non) (aC (fC (.bl false)) (aC (fC .non) (aC (fC .non) aN)))))) (yP "Knot")))
def XQ:Fn:=ZD 1 1 Ni
abbrev Pz:List Str:=["self","one","other"]
def Mr:FnScope Pz ["self","one","other"] (zd Y9):=Yx
def P2:SF:=(zL (f2 (f2 (f1 zw (xM Gk "table")) zA zN) yb zN))
def VU:Fn:=ZD 3 3 P2
def UL:List (Str×Fn):=[("Ways",VU)]
abbrev LI:List Str:=["way","one","other"]
def Bh:FnScope LI ["way","one","other"] (zd V8):=Yx
def LB:SF:=(zL (zq (aC (UT UL "join" zw (aC (f1 zA (xM YN "whole")) (aC (f1 yb (xM YN "whole")) aN))) (aC (UT UL "join" zw (aC (f1 yb (xM Uy "back")) (aC (f1 zA (xM Uy "back")) aN))) (aC (fC .non) (aC (fC (.bl false)) (aC zA KM))))) (yP "Knot")))
def XD:Fn:=ZD 3 3 LB
abbrev L8:List Str:=["way","row","half"]
def GP:FnScope L8 ["way","row"] (zd Qg):=Yx
def Nh(self:Fn):SF:=(zj (vG (fT (f2 (fP v5 vA) yS (zP .Eq))) (zL (fC .non)) w4) (zj (vG (fT (f2 (fP v5 vA) yB (zP .Eq))) (zL (zq (aC (f2 zA yS zN) aN) XQ)) w4) (zj (zy true 2 (f2 (fP v5 vA) xY zM)) (zL (zq (aC zw (aC (zq (aC zw (aC (KZ zA oN (oS yb) Ml) aN)) self) (aC (zq (aC zw (aC (KZ zA (oS yb) oN Ml) aN)) self) aN))) XD)))))
def wk:Nat->Fn
 |0=>λ_=>none
 |n+1=>ZD 3 2 (Nh (wk n))
abbrev Nu:List Str:=["tree"]
def Fi:FnScope Nu ["tree"] (zd Qe):=Yx
def Lw:SF:=(zL (Sl (fT (f2 zw (fC .non) (zP .Is))) yS (f1 zw (xM Zs "size"))))
def XS:Fn:=ZD 1 1 Lw
abbrev Xc:List Str:=["self","one","other"]
def G5:FnScope Xc ["self","one","other"] (zd w_):=Yx
def X1:(["row","then"]:List Str).Nodup:=by decide +kernel
def RY:(["a","then"]:List Str).Nodup:=by decide +kernel
abbrev CV:EF:=(yf (wW zw) [none,some 1] wz yZ (f2 zA zw zN))
def Qy:SF:=(zL (fP (aC (yf (W4 (aC zA KM)) [none,none] (gT 2 (wj wz (wj (gN 1) Qm))) yZ (fP (aC CV aN) tupP)) aN) tupP))
def Xz:Fn:=ZD 3 3 Qy
def Nm:List (Str×Fn):=[("Ways",Xz)]
abbrev U7:List Str:=["way","one","other"]
def Lc:FnScope U7 ["way","one","other"] (zd Yv):=Yx
def Rb:SF:=(zj (vG (fT (f2 zA (fC .non) (zP .Is))) (zL yb) w4) (zj (vG (fT (f2 yb (fC .non) (zP .Is))) (zL zA) w4) (zL (UT Nm "behind" zw (aC zA KM)))))
def vS:Fn:=ZD 3 3 Rb
abbrev PB:List Str:=["self","wait","value","many"]
def NB:FnScope PB ["self","wait","value","many"] (zd Y3):=Yx
def Td:SF:=(zL (f2 (f2 zA (f2 yw (f1 zw (xM Qc "around")) zW) zN) yb zN))
def VO:Fn:=ZD 4 4 Td
def B2:List (Str×Fn):=[("Ways",VO)]
abbrev EY:List Str:=["way","tree","wait","turn","row","owed","contrary","parts","part"]
def XZ:FnScope EY ["way","tree","wait","turn","row"] (zd UC):=Yx
abbrev nh:EF:=(Sl (fT (f2 yb (fC .non) (zP .Is))) (f1 zA (xM YN "whole")) (UT B2 "made" zw (aC yb (aC (f1 zA (xM YN "whole")) (aC yB aN)))))
abbrev uK:AF:=(aC zw (aC (fV 8) (aC wH (aC ZW (aC yG aN)))))
def UU(self:List xb->O->Option O):SF:=(vG (fT (f2 (f1 zA (xM Wc "deep")) yS (zP .Eq))) (yN (vH 4 (dC nh dN) ZA)) (zj (zy true 5 (zq (aC zw (aC (f1 zA (xM T8 "wait")) KM)) vS)) (zj (zy true 6 (f2 (f1 zA (xM Gc "turn")) yw (zP .NotEq))) (zj (zy true 7 (Sl (fT ZW) (yR (dC (f1 zA (xM VS "other")) (dC (f1 zA (xM Ki "one")) dN))) (yR (dC (f1 zA (xM Ki "one")) (dC (f1 zA (xM VS "other")) dN))))) (yU (Xe Re) (gN 8) (Wf 4 uK self))))))
def xG:Nat->List xb->O->Option O
 |0=>λ_ _=>none
 |n+1=>gL 9 5 (UU (xG n))
abbrev Et:List Str:=["way","tree","row"]
def Lo:FnScope Et ["way","tree"] (zd UN):=Yx
abbrev pJ:AF:=(aC zw (aC zA (aC (fC .non) (aC (fC (.bl false)) KM))))
def EX:SF:=(zj (zy false 2 (yk dN)) (zj (vG (fT (f2 zA (fC .non) (zP .IsNot))) (Wf 2 pJ (xG 20)) w4) (zL yb)))
def ZF:Fn:=ZD 3 2 EX
abbrev Uj:List Str:=["size"]
def K5:FnScope Uj ["size"] (zd Yn):=Yx
def Wv:SF:=(vG (fT (f2 zw (fC (.int 300)) (zP .Gt))) DP w4)
def xS:Fn:=ZD 1 1 Wv
abbrev Bq:List Str:=["rows"]
def JJ:FnScope Bq ["rows"] (zd Gq):=Yx
def SG:(["row"]:List Str).Nodup:=by decide +kernel
def Co:SF:=(zL (fP (aC (yf (wW zw) [none] wz yZ (fP vO tupP)) aN) tupP))
def QP:Fn:=ZD 1 1 Co
abbrev KB:List Str:=["_law_script","_law_k","_law_most","_law_x","_law_found","_law_j"]
def xQ:FnScope KB ["_law_script","_law_k"] (zd Wi):=Yx
abbrev ql:EF:=(f2 (fC (.int 1000)) (f2 (fC (.int 10)) (fC (.int 64)) (YX .Pow)) zS)
abbrev qg:EF:=(f2 (f2 (f2 (f2 zw zA zN) yb zW) (f2 (fC (.int 7919)) (fC (.int 15)) (YX .Pow)) zS) yb zW)
abbrev qe:EF:=(f2 (f2 (f2 zA zA zS) (f2 (fC (.int 7)) zA zS) zD) (fC (.int 11)) zD)
abbrev qy:SF:=(zy true 3 (f2 yw (f2 (f2 (f2 zw (f2 zA (fP vO vA) zW) zN) (fC (.int 1000003)) zW) (f2 (f2 xY zA zS) yB zD) zS) zD))
abbrev rL:SF:=(zy true 3 (f2 (f2 (f2 (f2 (f2 yw yw zS) (f2 (fC (.int 48271)) yw zS) zD) (f2 (fC (.int 69621)) wH zS) zD) zA zD) (fC (.int 2147483629)) zW))
abbrev qW:SF:=(zy true 4 (f2 (f2 yG (fC (.int 998244353)) zS) (f2 (f2 yw (fC (.int 16807)) zS) (fC (.int 2147483587)) zW) zD))
def GY:SF:=(zj (zy true 2 ql) (zj (vG (fT (f2 zA (fP vO vA) (zP .Lt))) (zL qg) w4) (zj (zy true 3 qe) (zj (vG (fT (f2 zw (yk dN) (zP .NotEq))) qy w4) (zj (zy true 4 yS) (zj (yU (yM (aC KU aN) y_) (gN 5) (zj rL qW)) (zL (f2 yG yb zW))))))))
def zH:Fn:=ZD 6 2 GY
abbrev Ue:List Str:=["_law_x","_law_sizes","_law_found","_law_size"]
def Zl:FnScope Ue ["_law_x","_law_sizes"] (zd Yp):=Yx
def UH:SF:=(zj (zy false 2 (yk dN)) (zj (yU (Xe zA) (gN 3) (zj (yN (vH 2 (dC (f2 zw yw zW) dN) ZA)) (zy true 0 (f2 zw yw zM)))) (zL yb)))
def zU:Fn:=ZD 4 2 UH
abbrev PP:List Str:=["_law_x","_law_many","_law_letters","_law_size","_law_at","_law_step","_law_names_here","_law_k","_law_name","_law_j","_law_turn"]
def yd:FnScope PP ["_law_x","_law_many"] (zd YY):=Yx
abbrev qA:EF:=(zq (aC zw (aC (yk (dC KU (dC (fC (.int 840)) (dC KU dN)))) aN)) zU)
abbrev qI:EF:=(f2 (yk (dC yS (dC xY (dC RF (dC CN (dC KU (dC (fC (.int 10)) (dC (fC (.int 14)) (dC (fC (.int 16)) dN))))))))) wH zN)
abbrev sy:AF:=(aC (f2 yw yB zD) aN)
abbrev sx:EF:=(f2 zw (f2 (fC (.int 53761)) (f2 (f2 (fC (.int 26)) (fV 9) zS) (fV 9) zS) zD) zM)
abbrev um:SF:=(zy true 10 (f2 (fV 10) (f2 Re (f2 wH yB zD) zS) zD))
abbrev oZ:SF:=(zy true 8 (f2 (fV 8) (f2 yb (f2 (fV 10) (fC (.int 26)) zW) zN) zD))
def PQ:SF:=(zj (zy true 2 (fC (.str "abcdefghijklmnopqrstuvwxyz"))) (zj (Rg qA (gT 3 (wj (gN 3) (wj Po (wj (gN 5) Qm))))) (zj (zy true 5 qI) (zj (zy true 4 (f2 yG (f2 yw yB zD) zW)) (zj (zy false 6 (yk dN)) (zj (yU (yM v5 y_) (gN 7) (zj (zy true 8 (fC (.str ""))) (zj (yU (yM sy y_) (gN 9) (zj (zy true 10 sx) (zj (vG (fT (f2 (fV 9) yG (zP .Eq))) um w4) oZ))) (yN (vH 6 (dC (fV 8) dN) ZA))))) (zL ZW)))))))
def wu:Fn:=ZD 11 2 PQ
abbrev W6:List Str:=["_law_part","_law_a","_law_b","_law_kind","_law_size"]
def Zj:FnScope W6 ["_law_part","_law_a","_law_b"] (zd vq):=Yx
abbrev uP:EF:=(yk (dC (f2 yb xY zM) (dC (f2 yb xY zW) dN)))
def Vk:SF:=(zj (Rg zw (gT 2 (wj (gN 3) (wj Po Qm)))) (zj (vG (fT (f2 yw yS (zP .Eq))) (zL (f2 (f2 zA yb zD) yG zW)) w4) (zj (vG (fT (f2 yw yB (zP .Eq))) (zL (fP (aC zA KM) E8)) w4) (zj (vG (fT (f2 yw xY (zP .Eq))) (zL (f2 (yk (dC yb (dC zA dN))) (fP (aC (f2 yb yS (zP .Eq)) aN) LH) zN)) w4) (zL (f2 (f2 xY (f2 uP (f2 zA xY zM) zN) zS) (f2 uP (f2 zA xY zW) zN) zD))))))
def xi:Fn:=ZD 5 3 Vk
abbrev ZS:List Str:=["_law_part","_law_x","_law_c","_law_a","_law_kind","_law_size"]
def v_:FnScope ZS ["_law_part","_law_x","_law_c","_law_a"] (zd x_):=Yx
def QQ:(["_law_k","_law_x"]:List Str).Nodup:=by decide +kernel
abbrev qF:EF:=(f2 zA (f2 (yk (dC yB (dC Qn (dC (fC (.int 9)) (dC (fC (.int 27)) (dC (fC (.int 81)) (dC (fC (.int 243)) (dC (fC (.int 729)) dN)))))))) zw zN) zM)
abbrev pM:TF:=(fT (f2 (f2 zA xY zW) yS (zP .Eq)))
def W3:SF:=(zj (Rg zw (gT 2 (wj Po (wj (gN 5) Qm)))) (zj (vG (fT (f2 yG yS (zP .Eq))) (zL (f2 (f2 (f2 (f2 zA wH zW) yw zS) (f2 (f2 (f2 zA wH zM) wH zW) yb zS) zD) wH zW)) w4) (zj (vG (fT (f2 yG yB (zP .Eq))) (zL (fP (aC (f2 wH yB YH) (aC (fP (aC (yf (yM GQ y_) [none,some 1] wz yZ (f2 qF Qn zW)) aN) sV) aN)) SZ)) w4) (zj (vG (fT (f2 yG xY (zP .Eq))) (zL (f2 (fP (aC (f2 yw yS (zP .Gt)) aN) LH) (f2 yB (f2 (f2 zA (f2 (yk (dC yB (dC CN (dC (fC (.int 36)) (dC (fC (.int 216)) (dC (fC (.int 1296)) (dC (fC (.int 7776)) (dC (fC (.int 46656)) dN)))))))) yw zN) zM) (fP (aC yB (aC (f2 wH yB YH) aN)) E8) zW) zD) zS)) w4) (zj (vG pM (zL yw) w4) (zL (f2 (f2 (f2 xY (f2 yB (f2 yw xY zW) YH) zS) yB zD) (f2 yw xY zM) YH)))))))
def yQ:Fn:=ZD 6 4 W3
abbrev Te:List Str:=["_law_x","_law_some"]
def Yq:FnScope Te ["_law_x"] (zd Xb):=Yx
abbrev D6:EF:=(yR (dC yS (dC xY dN)))
abbrev Jm:DF:=(dC (yR (dC Qn (dC RF dN))) dN)
def P4:SF:=(zj (zy true 1 (yk (dC (yk (dC (yR (dC yS (dC Qn dN))) dN)) (dC (yk (dC (yR (dC xY (dC Qn dN))) dN)) (dC (yk (dC (yR (dC yB (dC RF dN))) dN)) (dC (yk (dC D6 (dC (yR (dC xY (dC xY dN))) dN))) (dC (yk Jm) (dC (yk (dC (yR (dC xY (dC RF dN))) dN)) (dC (yk (dC D6 (dC (yR (dC yB (dC Qn dN))) dN))) (dC (yk (dC (yR (dC yS (dC uY dN))) dN)) dN)))))))))) (zj (zy true 1 (f2 zA (yk (dC (yk (dC (yR (dC xY (dC xY dN))) Jm)) (dC (yk (dC (yR (dC yB (dC xY dN))) (dC (yR (dC xY (dC Qn dN))) dN))) (dC (yk (dC (yR (dC yS (dC RF dN))) dN)) (dC (yk Jm) (dC (yk (dC (yR (dC yB (dC CN dN))) dN)) (dC (yk (dC D6 Jm)) dN))))))) zD)) (zj (zy true 1 (f2 zA (yk (dC (yk (dC (yR (dC xY (dC (fC (.int 7)) dN))) dN)) (dC (yk (dC (yR (dC yS (dC CN dN))) dN)) dN))) zD)) (zL (f2 zA (f2 zw (fC (.int 16)) zW) zN)))))
def Zw:Fn:=ZD 2 1 P4
abbrev PJ:List Str:=["_law_parts_here","_law_value","_law_found","_law_kind","_law_size"]
def vK:FnScope PJ ["_law_parts_here","_law_value"] (zd Y6):=Yx
def PX:SF:=(zj (zy false 2 (yk dN)) (zj (yU (Xe zw) (gT 2 (wj (gN 3) (wj Po Qm))) (zj (yN (vH 2 (dC (f2 zA yG zW) dN) ZA)) (zy true 1 (f2 zA yG zM)))) (zL yb)))
def Zx:Fn:=ZD 5 2 PX
abbrev GK:List Str:=["_law_parts_here","_law_row_here","_law_value","_law_part","_law_one"]
def ZG:FnScope GK ["_law_parts_here","_law_row_here"] (zd Wl):=Yx
abbrev rf:AF:=(aC (KZ zw oN (oS (f1 yB FP)) rW) (aC (KZ zA oN (oS (f1 yB FP)) rW) aN))
abbrev pV:SF:=(zy true 2 (f2 (f2 yb (f2 yw yB zN) zS) yG zD))
def GR:SF:=(zj (zy true 2 yS) (zj (yU (W4 rf) (gT 2 (wj (gN 3) (wj Po Qm))) pV) (zL yb)))
def yy:Fn:=ZD 5 2 GR
abbrev PM:List Str:=["_law_x","_law_n","_law_order_here","_law_k"]
def Ys:FnScope PM ["_law_x","_law_n"] (zd Xa):=Yx
abbrev ph:SF:=(yN (vH 2 (dC (f2 zw (f2 yw yB zD) zW) (dC yw dN)) FL))
abbrev pR:SF:=(zy true 0 (f2 zw (f2 yw yB zD) zM))
def P0:SF:=(zj (zy false 2 (yk dN)) (zj (yU (yM v5 y_) (gN 3) (zj ph pR)) (zL yb)))
def Zz:Fn:=ZD 4 2 P0
abbrev yx:List Str:=["_law_script","_law_start","_law_parts_here","_law_n","_law_m","_law_order_here","_law_values","_law_join","_law_a","_law_deeds","_law_names_here","_law_k","_law_x","_law_rows","_law_c","_law_signs","_law_nothing"]
def zC:FnScope yx ["_law_script","_law_start"] (zd ym):=Yx
def X3:(["_law_kind","_law_size"]:List Str).Nodup:=by decide +kernel
def Pf:(["_law_v","_law_parts_here","_law_order_here"]:List Str).Nodup:=by decide +kernel
def Ri:(["_law_b","_law_parts_here","_law_a"]:List Str).Nodup:=by decide +kernel
def Zb:(["_law_p","_law_i","_law_j"]:List Str).Nodup:=by decide +kernel
def Pw:(["_law_row_here","_law_order_here"]:List Str).Nodup:=by decide +kernel
def RN:(["_law_v","_law_order_here"]:List Str).Nodup:=by decide +kernel
def Pi:(["_law_a","_law_parts_here","_law_x","_law_c"]:List Str).Nodup:=by decide +kernel
def XY:(["_law_p","_law_i","_law_x","_law_c"]:List Str).Nodup:=by decide +kernel
def RX:(["_law_row_here","_law_order_here"]:List Str).Nodup:=by decide +kernel
def UK:(["_law_v","_law_order_here"]:List Str).Nodup:=by decide +kernel
def Us:(["_law_v","_law_x"]:List Str).Nodup:=by decide +kernel
def Y2:(["_law_kind","_law_size"]:List Str).Nodup:=by decide +kernel
abbrev pC:SF:=(zy true 2 (zq (aC (zq (aC zw v5) zH) aN) Zw))
abbrev oK:SF:=(zy true 3 (f2 (zq (aC yb (aC (yf (wW yb) [none,none] (gT 2 (wj wz (wj (gN 1) Qm))) yZ (f2 zA yB YH)) aN)) yy) yB zD))
abbrev oT:SF:=(zy true 4 (f2 yB (f2 (f2 (zq (aC zw v5) zH) (fC (.int 16)) zM) RF zW) zD))
abbrev qB:SF:=(vG (fT (f2 (f2 (f2 yb yS zN) yS zN) yS (zP .Eq))) (zy true 4 (f2 (f2 yb yS zN) yB zN)) w4)
abbrev pK:SF:=(zy true 5 (zq (aC (zq (aC zw (aC (f2 zA yB zD) aN)) zH) GQ) Zz))
abbrev qO:SF:=(zy true 6 (yf (yM GQ y_) [none,some 2,some 5] wz yZ (zq (aC zA (aC (Lz .lst yb vO Ba) aN)) Zx)))
abbrev uB:GF:=(gT 3 (wj wz (wj (gN 1) (wj (gN 2) Qm))))
abbrev mW:SF:=(yN (vH 7 (dC (yf (wW ZW) [none,some 2,some 8] wz yZ (zq (aC zA (aC (yf (BF (aC zA (aC yb vO))) [none,none,none] uB yZ (zq (aC zw (aC zA KM)) xi)) aN)) yy)) dN) ZA))
abbrev oA:SF:=(zy false 7 (yf (wW Re) [none,some 5] wz yZ CV))
abbrev r6:SF:=(zy true 10 (zq (aC (zq (aC zw (aC (f2 zA xY zD) aN)) zH) (aC (fC (.int 7)) aN)) wu))
abbrev qc:EF:=(zq (aC zw (aC (f2 (f2 zA RF zD) Kj zD) aN)) zH)
abbrev mE:SF:=(yN (vH 13 (dC (yf (wW ZW) [none,some 2,some 12,some 14] wz yZ (zq (aC zA (aC (yf (W4 (aC zA vO)) [none,none,some 2,some 3] (gT 2 (wj wz (wj (gN 1) Qm))) yZ (zq (aC zw (aC yb (aC yw v5))) yQ)) aN)) yy)) dN) ZA))
abbrev pk:EF:=(yR (dC (f2 (fV 10) Kj zN) (dC (yf (wW (fV 13)) [none,some 5] wz yZ CV) dN)))
abbrev kI:SF:=(yU (yM (aC (f2 yB (f2 (zq (aC zw (aC (f2 zA Qn zD) aN)) zH) RF zW) zD) aN) y_) (gN 11) (zj (zy true 12 qc) (zj (zy false 13 (yk dN)) (zj (yU (yM (aC yG aN) y_) (gN 14) mE) (yN (vH 9 (dC pk dN) ZA))))))
abbrev rQ:EF:=(f2 (zq (aC zw (aC (f2 (f2 zA (fC (.int 9)) zD) Kj zD) aN)) zH) (fC (.int 7)) zM)
abbrev qZ:TF:=(fT (f2 (f2 (f2 zA (f2 (yk (dC yB (dC xY (dC RF (dC KU (dC (fC (.int 16)) (dC (fC (.int 32)) (dC (fC (.int 64)) (dC (fC (.int 128)) dN))))))))) zw zN) zM) xY zW) yB (zP .Eq)))
abbrev lN:SF:=(yU (yM (aC (f2 yB (f2 (zq (aC zw (aC (f2 zA KU zD) aN)) zH) Qn zW) zD) aN) y_) (gN 11) (zj (zy true 12 rQ) (yN (vH 15 (dC (yR (dC (f2 (fV 10) (f2 RF Kj zD) zN) (dC (yf (yM GQ y_) [none,some 12] wz qZ zw) dN))) dN) ZA))))
abbrev rZ:SF:=(zy true 16 (f2 wH (zq (aC yb (aC (yf (wW yb) [none,none] (gT 2 (wj wz (wj (gN 1) Qm))) yZ (fP (aC (f2 zw Qn (zP .Eq)) aN) LH)) aN)) yy) zN))
abbrev r9:DF:=(dC yw (dC yG (dC Re (dC (fV 16) (dC (fV 9) (dC (fV 15) dN))))))
def Qz:SF:=(zj pC (zj oK (zj oT (zj qB (zj pK (zj qO (zj (zy false 7 (yk dN)) (zj (yU (Xe ZW) (gN 8) mW) (zj oA (zj (zy false 9 (yk dN)) (zj r6 (zj kI (zj (zy false 15 (yk dN)) (zj lN (zj rZ (zL (yR r9)))))))))))))))))
def wg:Fn:=ZD 17 2 Qz
abbrev xj:List Str:=["_law_script","_law_cells","_law_odd","_law_n","_law_m","_law_deeds","_law_signs","_law_nothing","_law_names_here","_law_table","_law_join","_law_told","_law_k","_law_rows","_law_held","_law_bits"]
def zu:FnScope xj ["_law_script"] (zd yE):=Yx
def QY:(["_law_cell"]:List Str).Nodup:=by decide +kernel
def Q8:(["_law_a","_law_table","_law_n"]:List Str).Nodup:=by decide +kernel
def Q0:(["_law_c","_law_rows","_law_n"]:List Str).Nodup:=by decide +kernel
def Q1:(["_law_v","_law_bits"]:List Str).Nodup:=by decide +kernel
abbrev qm:EF:=(f2 (fC (.int 12)) (fP (aC (KZ zw oN (oS (fC (.int 12))) Ml) aN) vA) YH)
abbrev uN:EF:=(f2 (yf (wW (KZ zw oN (oS (fC (.int 12))) Ml)) [none] wz yZ zw) (f2 (yk (dC yS dN)) qm zS) zD)
abbrev oY:EF:=(zq (aC (f2 zA yS zN) (aC (yk (dC xY (dC KU (dC CN (dC (fC (.int 7)) (dC uY (dC KU dN))))))) aN)) zU)
abbrev qz:SF:=(Rg oY (gT 6 (wj (gN 2) (wj (gN 3) (wj Po (wj (gN 5) (wj (gN 6) (wj (gN 7) Qm))))))))
abbrev qU:SF:=(zy true 8 (zq (aC (zq (aC zw (aC (fC (.int 12)) aN)) zH) (aC (fC (.int 10)) aN)) wu))
abbrev qK:SF:=(zy true 9 (zq (aC (f2 zA yB zN) (aC (f2 (yk (dC yw dN)) (f2 yw yw zS) zS) aN)) zU))
abbrev qf:EF:=(KZ zA (oS (f2 yb zw zS)) (oS (f2 (f2 yb zw zS) yb zD)) Ml)
abbrev rN:SF:=(zy true 10 (yf (yM GQ y_) [none,some 9,some 3] wz yZ qf))
abbrev lS:SF:=(yU (yM Oi y_) (gN 12) (zj (zy true 13 (zq (aC (f2 zA (f2 xY (fV 12) zD) zN) (aC (f2 (yk (dC yw dN)) (f2 yw yG zS) zS) aN)) zU)) (yN (vH 11 (dC (yR (dC (f2 (fV 8) (fV 12) zN) (dC (yf (yM (aC yG aN) y_) [none,some 13,some 3] wz yZ qf) dN))) dN) ZA))))
abbrev pw:SF:=(yU (yM (aC ZW aN) y_) (gN 12) (zj (zy true 15 (zq (aC (f2 zA (f2 KU (fV 12) zD) zN) (aC (f2 (yk (dC xY dN)) yw zS) aN)) zU)) (yN (vH 14 (dC (yR (dC (f2 (fV 8) (f2 (fC (.int 9)) (fV 12) YH) zN) (dC (yf (yM GQ y_) [none,some 15] wz (fT (f2 (f2 zA zw zN) yB (zP .Eq))) zw) dN))) dN) ZA))))
abbrev oj:DF:=(dC yw (dC yG (dC (fV 10) (dC (f2 Re yw zW) (dC Kj (dC (fV 14) dN))))))
def W9:SF:=(zj (zy true 1 uN) (zj qz (zj (zy true 3 (f2 yw yB zD)) (zj (zy true 4 (f2 yG yB zD)) (zj qU (zj qK (zj rN (zj (zy false 11 (yk dN)) (zj lS (zj (zy false 14 (yk dN)) (zj pw (zL (yR oj)))))))))))))
def xg:Fn:=ZD 16 1 W9
abbrev Kw:List Str:=["_law_m","_law_join","_law_rows","_law_a","_law_b","_law_i","_law_j","_law_one","_law_other"]
def ZI:FnScope Kw ["_law_m","_law_join","_law_rows","_law_a","_law_b"] (zd X9):=Yx
abbrev ny:SF:=(zj (zy true 7 (f2 (f2 yb (f2 (f2 wH ZW zD) zw zW) zN) (f2 (f2 zA yw zN) yG zN) zN)) (zj (zy true 8 (f2 (f2 zA (f2 (f2 yb wH zN) yw zN) zN) (f2 (f2 yb ZW zN) yG zN) zN)) (vG (fT (f2 Re (fV 8) (zP .NotEq))) (zL (fC (.bl false))) w4)))
def Kf:SF:=(zj (yU (yM vO y_) (gN 5) (yU (yM vO y_) (gN 6) ny)) (zL (fC (.bl true))))
def YW:Fn:=ZD 9 5 Kf
abbrev Zu:List Str:=["_law_algebra_here","_law_n","_law_m","_law_join","_law_nothing","_law_deeds","_law_signs","_law_p","_law_a","_law_b","_law_name","_law_rows","_law_empty"]
def zV:FnScope Zu ["_law_algebra_here"] (zd we):=Yx
def RI:(["_law_c","_law_join","_law_a"]:List Str).Nodup:=by decide +kernel
def XM:(["_law_name","_law_rows","_law_nothing"]:List Str).Nodup:=by decide +kernel
abbrev JR:SF:=(Rg zw (gT 6 (wj (gN 1) (wj (gN 2) (wj (gN 3) (wj Po (wj (gN 5) (wj (gN 6) Qm))))))))
abbrev o4:SF:=(Rg (fP (aC Re v5) IL) (gT 2 (wj (gN 8) (wj (gN 9) Qm))))
abbrev kH:SF:=(zj o4 (zj (vG (Pv (fT (f2 (f2 (f2 yw yG zN) (fV 8) zN) (fV 8) (zP .NotEq))) (fT (f2 (f2 (f2 yw (fV 8) zN) yG zN) (fV 8) (zP .NotEq)))) (zL (fC (.bl false))) w4) (zj (vG (fT (f2 (f2 yw (f2 (f2 yw (fV 8) zN) (fV 9) zN) zN) (yf (wW (f2 yw (fV 9) zN)) [none,some 3,some 8] wz yZ (f2 (f2 zA yb zN) zw zN)) (zP .NotEq))) (zL (fC (.bl false))) w4) (yU (Xe wH) (gT 2 (wj (gN 10) (wj (gN 11) Qm))) (vG (ZH (fT (zq (aC yb (aC yw (aC Kj (aC (fV 8) (aC (fV 9) aN))))) YW))) (zL (fC (.bl false))) w4)))))
abbrev mT:EF:=(f2 (f2 (f2 zA yS zN) yb zN) yb (zP .NotEq))
def Qw:SF:=(zj JR (zj (yU (yM (aC (f2 zA zA zS) aN) y_) (gN 7) kH) (zj (zy true 12 (yf (wW wH) [none,none,some 4] (gT 2 (wj wz (wj (gN 1) Qm))) (fT mT) zw)) (zL (K0 (f2 (fV 12) (yk dN) (zP .Eq)) (K0 (f2 wH (yk dN) (zP .NotEq)) (f2 ZW (yk dN) (zP .NotEq))))))))
def wZ:Fn:=ZD 13 1 Qw
abbrev LR:List Str:=["_law_script","_law_algebra_here"]
def KI:FnScope LR ["_law_script"] (zd Qi):=Yx
abbrev oU:TF:=(Sq (fT (f2 (fP vO vA) yS (zP .Gt))) (fT (f2 (f2 (f2 zw yS zN) xY zW) yB (zP .Eq))))
def LO:SF:=(zj (vG oU (zj (zy true 1 (zq vO xg)) (vG (fT (zq v5 wZ)) (zL zA) w4)) w4) (zL (zq (aC zw (aC yS aN)) wg)))
def YC:Fn:=ZD 2 1 LO
abbrev YU:List Str:=["_law_algebra_here","_law_n","_law_m","_law_join","_law_nothing","_law_deeds","_law_signs"]
def xR:FnScope YU ["_law_algebra_here"] (zd vC):=Yx
def QI:(["_law_name","_law_rows"]:List Str).Nodup:=by decide +kernel
def K2:(["_law_row_here"]:List Str).Nodup:=by decide +kernel
def K6:(["_law_row_here"]:List Str).Nodup:=by decide +kernel
def QF:(["_law_name","_law_row_here"]:List Str).Nodup:=by decide +kernel
abbrev rT:SF:=(zy true 5 (yf (wW wH) [none,none] (gT 2 (wj wz (wj (gN 1) Qm))) yZ (yR (dC zw (dC (yf (wW zA) [none] wz yZ (fP vO lstP)) dN)))))
def GD:SF:=(zj JR (zj rT (zL (yR (dC zA (dC yb (dC (yf (wW yw) [none] wz yZ (fP vO lstP)) (dC yG (dC wH (dC (yf (wW ZW) [none,none] (gT 2 (wj wz (wj (gN 1) Qm))) yZ (yR (dC zw (dC (fP v5 lstP) dN)))) dN))))))))))
def Zg:Fn:=ZD 7 1 GD
abbrev L3:List Str:=["_law_x","_law_n","_law_most","_law_many"]
def Q4:FnScope L3 ["_law_x","_law_n","_law_most"] (zd Qb):=Yx
abbrev oH:TF:=(fT (f2 (f2 (f2 zw (fC (.int 64)) zM) KU zW) yB (zP .Eq)))
abbrev pG:SF:=(vG oH (zy true 3 (f2 (fC (.int 20)) (f2 (f2 zw (fC (.int 512)) zM) (fC (.int 40)) zW) zD)) w4)
def LQ:SF:=(zj (zy true 3 (f2 zw (f2 yb yB zD) zW)) (zj pG (zL (zq (aC (f2 zw (fC (.int 32768)) zM) (aC (f2 (yk (dC zA dN)) yw zS) aN)) zU))))
def XE:Fn:=ZD 4 3 LQ
abbrev Xl:List Str:=["_law_found","_law_due"]
def Gx:FnScope Xl ["_law_found","_law_due"] (zd va):=Yx
def Rk:(["_law_one"]:List Str).Nodup:=by decide +kernel
def QG:SF:=(zj (vG (Pv (ZH (fT (RR zw "list"))) (fT (f2 zw zA (zP .NotEq)))) (zL (fC (.bl false))) w4) (zL (f2 (yf (wW zw) [none] wz (Pv (fT (RR zw "bool")) (ZH (fT (RR zw "int")))) zw) (yk dN) (zP .Eq))))
def yn:Fn:=ZD 2 2 QG
abbrev W5:List Str:=["_law_found","_law_due"]
def Rn:FnScope W5 ["_law_found","_law_due"] (zd vd):=Yx
def WW:SF:=(zL (K0 (RR zw "int") (K0 (se (RR zw "bool")) (f2 zw zA (zP .Eq)))))
def yo:Fn:=ZD 2 2 WW
abbrev XU:List Str:=["self","way"]
def UR:FnScope XU ["self","way"] (zd wG):=Yx
def v8:Fp:=(Zy (Vl 0 Wo "way" zA) (Il 0 xt "trees" (yk dN)))
def yW(c:Str):Fn:=D7 c 2 2 v8
abbrev vc:List Str:=["self","algebra"]
def Rh:FnScope vc ["self","algebra"] (zd xh):=Yx
def YR:(["name","rows"]:List Str).Nodup:=by decide +kernel
def YI:(["name","values"]:List Str).Nodup:=by decide +kernel
abbrev oy:EF:=(fP (aC (yf (wW (f2 zA RF zN)) [none,none] (gT 2 (wj wz (wj (gN 1) Qm))) yZ (yR (dC zw (dC (zq v5 QP) dN)))) aN) L_)
abbrev p6:EF:=(fP (aC (yf (wW (f2 zA uY zN)) [none,none] (gT 2 (wj wz (wj (gN 1) Qm))) yZ (yR (dC zw (dC (fP v5 tupP) dN)))) aN) L_)
def Z9:Fp:=(Zy (Al (zq v5 xI)) (Zy (Vl 0 Zs "size" (f2 zA yS zN)) (Zy (Vl 0 Qc "around" (f2 zA yB zN)) (Zy (Vl 0 Gk "table" (zq (aC (f2 zA xY zN) aN) QP)) (Zy (Vl 0 KO "neutral" (f2 zA Qn zN)) (Zy (Vl 0 M9 "waits" oy) (Vl 0 GB "holders" p6)))))))
def vi(c:Str):Fn:=D7 c 2 2 Z9
abbrev WS:List Str:=["self","make"]
def RU:FnScope WS ["self","make"] (zd vh):=Yx
def Vb:SF:=(zj (vG (ZH (fT (zq (aC zA (aC yS (aC (f2 (fP (aC (f1 zw (xM xt "trees")) aN) vA) yB YH) aN))) wD))) DP w4) (zL (f2 (f1 zw (xM xt "trees")) zA zN)))
def Z1:Fn:=ZD 2 2 Vb
def G0:List (Str×Fn):=[("Makes",Z1)]
abbrev VC:List Str:=["self","make"]
def Tt:FnScope VC ["self","make"] (zd vW):=Yx
abbrev sW:EF:=(UT G0 "tree_at" zw v5)
def VB:SF:=(zL (zq (aC (f1 zw (xM Wo "way")) (aC sW aN)) ZF))
def wC:Fn:=ZD 2 2 VB
abbrev Ur:List Str:=["self","tree"]
def K_:FnScope Ur ["self","tree"] (zd Ym):=Yx
def Yz:VF:=(Bu (qw 0 1 xt "trees") (Cz (f2 (pP 0 xt "trees") yB YH)))
def vV:List xb->O->Option (D×O):=o8 2 2 Yz
abbrev WM:List Str:=["self","thing"]
def RL:FnScope WM ["self","thing"] (zd vk):=Yx
def WU:SF:=(zL (zq (aC zA (aC yS (aC (f2 (f1 zw (xM Zs "size")) yB YH) aN))) wD))
def Z_:Fn:=ZD 2 2 WU
def P3:List (Str×Fn):=[("Ways",Z_)]
abbrev Yk:List Str:=["self","thing"]
def VW:FnScope Yk ["self","thing"] (zd xD):=Yx
def wU:SF:=(vG (ZH (fT (UT P3 "is_value" (f1 zw (xM Wo "way")) v5))) DP w4)
def xF:Fn:=ZD 2 2 wU
def YT:List (Str×Fn):=[("Makes",xF)]
abbrev UZ:List Str:=["self","row","value"]
def QJ:FnScope UZ ["self","row"] (zd YB):=Yx
def YA:VF:=(Bu (vG (ZH (fT (RR zA "list"))) DP w4) (Bu (yU (Xe zA) (gN 2) (yN (V0 0 YT "check_value" KM))) (Bu (yN (zq (aC (fP v5 vA) aN) xS)) (Cz (Gr 0 "Makes" "keep" vV (aC (zq (aC (r_ 0 Wo "way") v5) (wk 20)) aN))))))
def xT:List xb->O->Option (D×O):=o8 3 2 YA
abbrev UW:List Str:=["self","make"]
def KS:FnScope UW ["self","make"] (zd Yu):=Yx
def U6:SF:=(zL (zq (aC sW aN) XS))
def Ws:Fn:=ZD 2 2 U6
def Zk:List (Str×Fn):=[("Makes",wC)]
def NY:List (Str×Fn):=[("Makes",Ws)]
abbrev Dp:List Str:=["_law_script","_law_algebra_here","_law_makes","_law_other","_law_rows","_law_k","_law_row_here","_law_handed","_law_found"]
def Xu:FnScope Dp ["_law_script"] (zd B_):=Yx
abbrev qD:AF:=(aC (zq (aC (zq v5 Zg) aN) (vi "Ways")) aN)
abbrev JF:EF:=(zq qD (yW "Makes"))
abbrev pe:AF:=(aC (fC (.int 13)) (aC (fP (aC (fC (.int 18)) (aC (fP (aC (fP vO vA) (aC (fC (.int 25)) aN)) SZ) aN)) E8) aN))
abbrev qQ:SF:=(zy true 6 (zq (aC (zq (aC zw Oi) zH) (aC (f2 zA yS zN) (aC (fC (.int 11)) aN))) XE))
abbrev lH:SF:=(zj qQ (zj (zy false 7 (fP (aC ZW aN) lstP)) (zj (vG (Pv (ZH (fT (zq (aC (Gr 2 "Makes" "made" xT lp) (aC (fP (aC yG aN) vA) aN)) yo))) (fT (f2 Re ZW (zP .NotEq)))) (zL (fC (.bl false))) w4) (zj (yN (vH 7 dN Av)) (yN (vH 4 (dC ZW dN) ZA))))))
abbrev uM:EF:=(KZ (f2 yG (f1 yB FP) zN) oN (oS (f1 yB FP)) rW)
abbrev px:EF:=(f2 (fP (aC (fP (aC yG aN) vA) aN) ll) (yk (dC yS dN)) zD)
abbrev m7:SF:=(zj (zy false 8 (V0 2 Zk "listed" Oi)) (zj (vG (Pv (ZH (fT (zq (aC (V0 2 NY "many" Oi) (aC (fP (aC (f2 yG wH zN) aN) vA) aN)) yo))) (ZH (fT (zq (aC (fV 8) (aC (f2 yG wH zN) aN)) yn)))) (zL (fC (.bl false))) w4) (yN (vH 8 (dC yS dN) ZA))))
def Dy:SF:=(zj (zy true 1 (zq vO YC)) (zj (zy false 2 JF) (zj (zy false 3 JF) (zj (zy false 4 (yk dN)) (zj (yU (yM pe J8) (gN 5) lH) (zj (vG (ZH (fT (zq (aC (Gr 3 "Makes" "made" xT (aC uM aN)) (aC yS aN)) yo))) (zL (fC (.bl false))) w4) (zj (yU (Xe px) (gN 5) m7) (zL (K0 (zq (aC (V0 3 Zk "listed" (aC yS aN)) (aC uM aN)) yn) (zq (aC (V0 2 Zk "listed" (aC yS aN)) (aC (f2 yG yS zN) aN)) yn))))))))))
def Kv:Fn:=ZD 9 1 Dy
set_option genInjectivity false in
set_option genSizeOf false in
structure Adr where
 Q7:Addr
 QW:FuncData
 VL:Addr
 VG:FuncData
 ZR:Addr
 Z6:FuncData
 Yi:Addr
 Yd:FuncData
 Xf:Addr
 Xy:FuncData
 WB:Addr
 We:FuncData
 X8:Addr
 X6:FuncData
 YJ:Addr
 YG:FuncData
 Z2:Addr
 Z0:FuncData
 RC:Addr
 Pu:FuncData
 Vv:Addr
 Vy:FuncData
 RH:Addr
 Rz:FuncData
 Ru:Addr
 RS:FuncData
 RK:Addr
 R_:FuncData
 Xi:Addr
 Xw:FuncData
 Wq:Addr
 Wb:FuncData
 Vo:Addr
 VH:FuncData
 G2:Addr
 Gm:FuncData
 GV:Addr
 KP:FuncData
 Wg:Addr
 Ww:FuncData
 Fu:Addr
 Fq:FuncData
 QR:Addr
 QO:FuncData
 Wx:Addr
 X4:FuncData
 Vz:Addr
 Vp:FuncData
 Z5:Addr
 ZU:FuncData
 Yj:Addr
 ZO:FuncData
 VY:Addr
 V5:FuncData
 Vr:Addr
 VN:FuncData
 QU:Addr
 Q_:FuncData
 Vq:Addr
 Vs:FuncData
 Xs:Addr
 Xp:FuncData
 Yb:Addr
 Z8:FuncData
 Ud:Addr
 QV:FuncData
 Xq:Addr
 Xj:FuncData
 Pq:Addr
 Pd:FuncData
 QL:Addr
 QS:FuncData
 Pa:Addr
 Rc:FuncData
 Xm:Addr
 Xx:FuncData
 Z7:Addr
 ZP:FuncData
 Ze:Addr
 Zi:FuncData
 ZZ:Addr
 Z4:FuncData
 Ye:Addr
 ZQ:FuncData
 YM:Addr
 YS:FuncData
 Wp:Addr
 Wn:FuncData
 ZY:Addr
 ZX:FuncData
 wQ:Addr
 wV:FuncData
 X_:Addr
 WI:FuncData
 Wk:Addr
 Wd:FuncData
 Ih:Addr
 OW:FuncData
 Xn:Addr
 Zq:Addr
 ZV:Addr
structure Txt(K:zzA)(kd:KD)(mg:Str->Option Value)(t:Adr):Prop where
 KH:Fun K "is_whole" "is_whole" X7 t.Q7 t.QW
 FU:Binds K t.QW ["thing"] []
 YL:mg "is_whole"=some (.ref t.Q7)
 V6:Fun K "is_within" "is_within" Y7 t.VL t.VG
 P7:Binds K t.VG ["thing","least","most"] []
 wD:mg "is_within"=some (.ref t.VL)
 Vh:Fun K "nothing_fails" "nothing_fails" vg t.ZR t.Z6
 Tj:Binds K t.Z6 ["algebra"] []
 wd:mg "nothing_fails"=some (.ref t.ZR)
 Vf:Fun K "parting_fails" "parting_fails" vo t.Yi t.Yd
 TJ:Binds K t.Yd ["algebra"] []
 x5:mg "parting_fails"=some (.ref t.Yi)
 QD:Fun K "doing_fails" "doing_fails" Zt t.Xf t.Xy
 Lj:Binds K t.Xy ["algebra","name","rows"] []
 w5:mg "doing_fails"=some (.ref t.Xf)
 UQ:Fun K "deeds_fail" "deeds_fail" Yl t.WB t.We
 NJ:Binds K t.We ["algebra"] []
 vX:mg "deeds_fail"=some (.ref t.WB)
 U0:Fun K "what_fails" "what_fails" Yr t.X8 t.X6
 Mp:Binds K t.X6 ["algebra"] []
 vT:mg "what_fails"=some (.ref t.X8)
 VD:Fun K "check_let_by" "check_let_by" v3 t.YJ t.YG
 Ky:Binds K t.YG ["algebra"] []
 xI:mg "check_let_by"=some (.ref t.YJ)
 Tr:Fun K "__init__" "Knot.__init__" vp t.Z2 t.Z0
 WN:Binds K t.Z0 ["self","whole","back","wait","turn","one","other"] []
 LX:Fun K "leaf_of" "leaf_of" V_ t.RC t.Pu
 SR:Binds K t.Pu ["value"] []
 XQ:mg "leaf_of"=some (.ref t.RC)
 M6:Fun K "join" "Ways.join" Y9 t.Vv t.Vy
 Fb:Binds K t.Vy ["self","one","other"] []
 L0:Fun K "knot_of" "knot_of" V8 t.RH t.Rz
 Hb:Binds K t.Rz ["way","one","other"] []
 XD:mg "knot_of"=some (.ref t.RH)
 Qh:Fun K "tree_of" "tree_of" Qg t.Ru t.RS
 Rj:Binds K t.RS ["way","row"] []
 wk:mg "tree_of"=some (.ref t.Ru)
 LM:Fun K "size_of" "size_of" Qe t.RK t.R_
 Hg:Binds K t.R_ ["tree"] []
 XS:mg "size_of"=some (.ref t.RK)
 Li:Fun K "behind" "Ways.behind" w_ t.Xi t.Xw
 K8:Binds K t.Xw ["self","one","other"] []
 U5:Fun K "both_waits" "both_waits" Yv t.Wq t.Wb
 MB:Binds K t.Wb ["way","one","other"] []
 vS:mg "both_waits"=some (.ref t.Wq)
 ES:Fun K "made" "Ways.made" Y3 t.Vo t.VH
 Ei:Binds K t.VH ["self","wait","value","many"] []
 GH:Fun K "gather" "gather" UC t.G2 t.Gm
 Ec:Binds K t.Gm ["way","tree","wait","turn","row"] []
 xG:mg "gather"=some (.ref t.G2)
 Ew:Fun K "row_of" "row_of" UN t.GV t.KP
 Ie:Binds K t.KP ["way","tree"] []
 ZF:mg "row_of"=some (.ref t.GV)
 Uv:Fun K "check_size" "check_size" Yn t.Wg t.Ww
 NS:Binds K t.Ww ["size"] []
 xS:mg "check_size"=some (.ref t.Wg)
 FH:Fun K "firm" "firm" Gq t.Fu t.Fq
 OI:Binds K t.Fq ["rows"] []
 QP:mg "firm"=some (.ref t.Fu)
 y4:Fun K "_law_draw" "_law_draw" Wi t.QR t.QO
 xv:Binds K t.QO ["_law_script","_law_k"] []
 zH:mg "_law_draw"=some (.ref t.QR)
 xV:Fun K "_law_digits" "_law_digits" Yp t.Wx t.X4
 wL:Binds K t.X4 ["_law_x","_law_sizes"] []
 zU:mg "_law_digits"=some (.ref t.Wx)
 V4:Fun K "_law_names" "_law_names" YY t.Vz t.Vp
 P1:Binds K t.Vp ["_law_x","_law_many"] []
 wu:mg "_law_names"=some (.ref t.Vz)
 WV:Fun K "_law_part_join" "_law_part_join" vq t.Z5 t.ZU
 Tw:Binds K t.ZU ["_law_part","_law_a","_law_b"] []
 xi:mg "_law_part_join"=some (.ref t.Z5)
 WQ:Fun K "_law_part_done" "_law_part_done" x_ t.Yj t.ZO
 TN:Binds K t.ZO ["_law_part","_law_x","_law_c","_law_a"] []
 yQ:mg "_law_part_done"=some (.ref t.Yj)
 PC:Fun K "_law_parts" "_law_parts" Xb t.VY t.V5
 E9:Binds K t.V5 ["_law_x"] []
 Zw:mg "_law_parts"=some (.ref t.VY)
 PR:Fun K "_law_split" "_law_split" Y6 t.Vr t.VN
 En:Binds K t.VN ["_law_parts_here","_law_value"] []
 Zx:mg "_law_split"=some (.ref t.Vr)
 YO:Fun K "_law_laid" "_law_laid" Wl t.QU t.Q_
 Wz:Binds K t.Q_ ["_law_parts_here","_law_row_here"] []
 yy:mg "_law_laid"=some (.ref t.QU)
 PU:Fun K "_law_order" "_law_order" Xa t.Vq t.Vs
 EC:Binds K t.Vs ["_law_x","_law_n"] []
 Zz:mg "_law_order"=some (.ref t.Vq)
 QA:Fun K "_law_algebra" "_law_algebra" ym t.Xs t.Xp
 K3:Binds K t.Xp ["_law_script","_law_start"] []
 wg:mg "_law_algebra"=some (.ref t.Xs)
 Ve:Fun K "_law_by_digits" "_law_by_digits" yE t.Yb t.Z8
 TL:Binds K t.Z8 ["_law_script"] []
 xg:mg "_law_by_digits"=some (.ref t.Yb)
 Gv:Fun K "_law_does" "_law_does" X9 t.Ud t.QV
 Fe:Binds K t.QV ["_law_m","_law_join","_law_rows","_law_a","_law_b"] []
 YW:mg "_law_does"=some (.ref t.Ud)
 Qx:Fun K "_law_is_good" "_law_is_good" we t.Xq t.Xj
 La:Binds K t.Xj ["_law_algebra_here"] []
 wZ:mg "_law_is_good"=some (.ref t.Xq)
 Ng:Fun K "_law_any" "_law_any" Qi t.Pq t.Pd
 SB:Binds K t.Pd ["_law_script"] []
 YC:mg "_law_any"=some (.ref t.Pq)
 QT:Fun K "_law_copy" "_law_copy" vC t.QL t.QS
 GT:Binds K t.QS ["_law_algebra_here"] []
 Zg:mg "_law_copy"=some (.ref t.QL)
 LZ:Fun K "_law_row" "_law_row" Qb t.Pa t.Rc
 Hr:Binds K t.Rc ["_law_x","_law_n","_law_most"] []
 XE:mg "_law_row"=some (.ref t.Pa)
 Zo:Fun K "_law_is_list" "_law_is_list" va t.Xm t.Xx
 Xd:Binds K t.Xx ["_law_found","_law_due"] []
 yn:mg "_law_is_list"=some (.ref t.Xm)
 vm:Fun K "_law_is_number" "_law_is_number" vd t.Z7 t.ZP
 Yh:Binds K t.ZP ["_law_found","_law_due"] []
 yo:mg "_law_is_number"=some (.ref t.Z7)
 Pk:Fun K "__init__" "Makes.__init__" wG t.Ze t.Zi
 X2:Binds K t.Zi ["self","way"] []
 TC:Fun K "__init__" "Ways.__init__" xh t.ZZ t.Z4
 Va:Binds K t.Z4 ["self","algebra"] []
 Ts:Fun K "tree_at" "Makes.tree_at" vh t.Ye t.ZQ
 Tz:Binds K t.ZQ ["self","make"] []
 G_:Fun K "listed" "Makes.listed" vW t.YM t.YS
 GW:Binds K t.YS ["self","make"] []
 NW:Fun K "keep" "Makes.keep" Ym t.Wp t.Wn
 Mt:Binds K t.Wn ["self","tree"] []
 TH:Fun K "is_value" "Ways.is_value" vk t.ZY t.ZX
 To:Binds K t.ZX ["self","thing"] []
 Qr:Fun K "check_value" "Makes.check_value" xD t.wQ t.wV
 Qq:Binds K t.wV ["self","thing"] []
 Mm:Fun K "made" "Makes.made" YB t.X_ t.WI
 Mh:Binds K t.WI ["self","row"] []
 MP:Fun K "many" "Makes.many" Yu t.Wk t.Wd
 MM:Binds K t.Wd ["self","make"] []
 qE:Fun K "law" "law" B_ t.Ih t.OW
 lQ:Binds K t.OW ["_law_script"] []
 Kv:mg "law"=some (.ref t.Ih)
 vN:CI K kd mg "Knot" t.Xn
 wm:CI K kd mg "Makes" t.Zq
 wX:CI K kd mg "Ways" t.ZV
 WY:Meth K t.Xn "__init__" t.Z2
 XX:Meth K t.Zq "__init__" t.Ze
 Vd:Meth K t.ZV "__init__" t.ZZ
 Ee:Meth K t.ZV "join" t.Vv
 K4:Meth K t.ZV "behind" t.Xi
 MQ:Meth K t.Zq "made" t.X_
 Ep:Meth K t.ZV "made" t.Vo
 Tx:Meth K t.Zq "tree_at" t.Ye
 TB:Meth K t.ZV "is_value" t.ZY
 Mb:Meth K t.Zq "keep" t.Wp
 Qp:Meth K t.Zq "check_value" t.wQ
 GI:Meth K t.Zq "listed" t.YM
 Mc:Meth K t.Zq "many" t.Wk
 NX:yT K t.Xn "whole"
 Ed:yT K t.Xn "back"
 EO:yT K t.Xn "wait"
 ET:yT K t.Xn "turn"
 Fs:yT K t.Xn "one"
 NZ:yT K t.Xn "other"
 EU:yT K t.Xn "deep"
 Fc:yT K t.Xn "size"
 Eo:yT K t.ZV "size"
 MI:yT K t.ZV "table"
 K9:yT K t.ZV "around"
 EA:yT K t.Zq "way"
 K1:yT K t.Zq "trees"
 KF:yT K t.ZV "neutral"
 Mz:yT K t.ZV "waits"
 Gy:yT K t.ZV "holders"
 KR:GC K kd mg "MOST_IN_ROW" (.int 300)
 Bn:mg "bool"=none
 H0:mg "dict"=none
 O3:mg "divmod"=none
 LG:mg "int"=none
 xr:mg "isinstance"=none
 Y5:mg "len"=none
 Uc:mg "list"=none
 BI:mg "max"=none
 Dq:mg "min"=none
 yi:mg "range"=none
 oM:mg "sum"=none
 UI:mg "tuple"=none
 B9:mg "zip"=none
set_option maxHeartbeats 8000000
section
variable{P:Program}{w:World}{K:zzA}{mg:Str->Option Value}{base:Heap}{kd:KD}{t:Adr}
def UO(T:Txt K kd mg t):CF K kd YN "whole":=(wR T.vN T.NX vz)
def Fx(T:Txt K kd mg t):CF K kd Uy "back":=(wR T.vN T.Ed vz)
def CQ(T:Txt K kd mg t):CF K kd T8 "wait":=(wR T.vN T.EO vz)
def CU(T:Txt K kd mg t):CF K kd Gc "turn":=(wR T.vN T.ET vz)
def CO(T:Txt K kd mg t):CF K kd Ki "one":=(wR T.vN T.Fs vz)
def NV(T:Txt K kd mg t):CF K kd VS "other":=(wR T.vN T.NZ vz)
def NQ(T:Txt K kd mg t):CF K kd Wc "deep":=(wR T.vN T.EU vz)
def RM(T:Txt K kd mg t):CF K kd Zs "size":=(wR T.vN T.Fc (wR T.wX T.Eo vz))
def BY(T:Txt K kd mg t):CF K kd Gk "table":=(wR T.wX T.MI vz)
def E3(T:Txt K kd mg t):CF K kd Qc "around":=(wR T.wX T.K9 vz)
def Bx(T:Txt K kd mg t):CF K kd Wo "way":=(wR T.wm T.EA vz)
def UB(T:Txt K kd mg t):CF K kd xt "trees":=(wR T.wm T.K1 vz)
def S0(T:Txt K kd mg t):CF K kd KO "neutral":=(wR T.wX T.KF vz)
def Jn(T:Txt K kd mg t):CF K kd M9 "waits":=(wR T.wX T.Mz vz)
def SC(T:Txt K kd mg t):CF K kd GB "holders":=(wR T.wX T.Gy vz)
def FY(T:Txt K kd mg t)(hkd:vb P w K kd):FnOk P w K mg base xC 1 t.Q7 t.QW ["thing"] (Zm K kd YL):=by
 refine yq (N:=Gh) (k:=0) (c:=GA) T.KH Ex λcdv A outer s H E hr=>?_;exact(ze (zx (QM (VQ (hkd _ rfl rfl rfl) rfl rfl T.xr Bt.isinstance rfl T.LG Bt.int (av 0) (Bt.n _ rfl) (by decide) (Bt.n _ rfl) (by decide) rfl rfl rfl) (Gi (OK (VQ (hkd _ rfl rfl rfl) rfl rfl T.xr Bt.isinstance rfl T.Bn Bt.bool (av 0) (Bt.n _ rfl) (by decide) (Bt.n _ rfl) (by decide) rfl rfl rfl))))))
def Tb(T:Txt K kd mg t)(hkd:vb P w K kd):FnOk P w K mg base xC 2 t.VL t.VG ["thing","least","most"] (Zm K kd wD):=by
 refine yq (N:=P9) (k:=1) (c:=Tc) T.V6 N4 λcdv A outer s H E hr=>?_;exact(ze (zx (QM (ck (FY T hkd) hr T.YL T.KH.kp T.FU (bc (av 0) zc)) (Gi (H9 (N0 (hkd _ rfl rfl rfl) (Fd hr) .LtE) (N0 (hkd _ rfl rfl rfl) (Fd hr) .LtE) (av 1) (av 0) (av 2) (by with_unfolding_all rfl))))))
def Tv(T:Txt K kd mg t)(hkd:vb P w K kd):FnOk P w K mg base xC 1 t.ZR t.Z6 ["algebra"] (Zm K kd wd):=by
 refine yq (N:=Vg) (k:=0) (c:=ZM) T.Vh wJ λcdv A outer s H E hr=>?_;exact(by
  refine sj 1 wJ.nd ?_ ?_;exact(ax hkd (av 0) aI);refine sj 2 wJ.nd ?_ ?_;exact(ax hkd (av 0) aI);refine zi ?_ ?_;exact(yH PassesOwn.never rfl (yh rfl T.yi (bc (ax hkd (av 0) aI) zc) rfl) (an 3 wJ.nd) (ze (yD (AW.at_ (LL (tc hkd hr (ax hkd (ax hkd (av 1) (av 2)) (av 3)) (av 3)) (YF (tc hkd hr (ax hkd (ax hkd (av 1) (av 3)) (av 2)) (av 3))))) (ze (zx (z_ (bd aS (bd (av 3) zg))))) zK)) (λ_=>rfl));exact ze (zx aZ))
def Ti(T:Txt K kd mg t)(hkd:vb P w K kd):FnOk P w K mg base xC 1 t.Yi t.Yd ["algebra"] (Zm K kd x5):=by
 refine yq (N:=Vi) (k:=0) (c:=WZ) T.Vf y0 λcdv A outer s H E hr=>?_;exact(by
  refine sj 1 y0.nd ?_ ?_;exact(ax hkd (av 0) aI);refine sj 2 y0.nd ?_ ?_;exact(ax hkd (av 0) aI);refine zi ?_ ?_;exact(yH PassesOwn.never rfl (yh rfl T.yi (bc (av 1) zc) rfl) (an 3 y0.nd) (ze (yH PassesOwn.never rfl (yh rfl T.yi (bc (av 1) zc) rfl) (an 4 y0.nd) (ze (yH PassesOwn.never rfl (yh rfl T.yi (bc (av 1) zc) rfl) (an 5 y0.nd) (ze (yD (tc hkd hr (ax hkd (ax hkd (av 2) (ax hkd (ax hkd (av 2) (av 3)) (av 4))) (av 5)) (ax hkd (ax hkd (av 2) (av 3)) (ax hkd (ax hkd (av 2) (av 4)) (av 5)))) (ze (zx (z_ (bd aS (bd (av 3) (bd (av 4) (bd (av 5) zg))))))) zK)) (λ_=>rfl))) (λ_=>rfl))) (λ_=>rfl));exact ze (zx aZ))
def Le(T:Txt K kd mg t)(hkd:vb P w K kd):FnOk P w K mg base xC 1 t.Xf t.Xy ["algebra","name","rows"] (Zm K kd w5):=by
 refine yq (N:=QE) (k:=0) (c:=QH) T.QD yL λcdv A outer s H E hr=>?_;exact(by
  refine sj 3 yL.nd ?_ ?_;exact(ax hkd (av 0) aI);refine sj 4 yL.nd ?_ ?_;exact(ax hkd (av 0) aI);refine sj 5 yL.nd ?_ ?_;exact(ax hkd (av 0) aI);refine zi ?_ ?_;exact(yH PassesOwn.never rfl (yh rfl T.yi (bc (av 3) zc) rfl) (an 6 yL.nd) (ze (yH PassesOwn.never rfl (yh rfl T.yi (bc (av 4) zc) rfl) (an 7 yL.nd) (ze (yH PassesOwn.never rfl (yh rfl T.yi (bc (av 3) zc) rfl) (an 8 yL.nd) (ze (yH PassesOwn.never rfl (yh rfl T.yi (bc (av 4) zc) rfl) (an 9 yL.nd) (ze (yD (tc hkd hr (ax hkd (ax hkd (av 2) (bn (bn (av 7) (av 9)) (av 4))) (ax hkd (ax hkd (av 5) (av 6)) (av 8))) (ax hkd (ax hkd (av 5) (ax hkd (ax hkd (av 2) (av 7)) (av 6))) (ax hkd (ax hkd (av 2) (av 9)) (av 8)))) (ze (zx (z_ (bd aS (bd (av 1) (bd (av 6) (bd (av 7) (bd (av 8) (bd (av 9) zg))))))))) zK)) (λ_=>rfl))) (λ_=>rfl))) (λ_=>rfl))) (λ_=>rfl));exact ze (zx aZ))
def Mq(T:Txt K kd mg t)(hkd:vb P w K kd):FnOk P w K mg base xC 2 t.WB t.We ["algebra"] (Zm K kd vX):=by
 refine yq (N:=UG) (k:=1) (c:=Ut) T.UQ w6 λcdv A outer s H E hr=>?_;exact(by
  refine sj 1 w6.nd ?_ ?_;exact(ax hkd (av 0) aI);refine zi ?_ ?_;exact(yH PassesOwn.never rfl (VZ (ax hkd (av 0) aI)) (xu rfl (zk (an 2 w6.nd) (zk (an 3 w6.nd) yK rfl) rfl) rfl rfl) (by
  refine zi ?_ ?_;exact(yD (tc hkd hr (ax hkd (ax hkd (av 3) aI) (av 1)) (av 1)) (ze (zx (z_ (bd aS (bd (av 2) zg))))) zK);refine sj 4 w6.nd ?_ ?_;exact(ck (Le T hkd) hr T.w5 T.QD.kp T.Lj (bc (av 0) (bc (av 2) (bc (av 3) zc))));exact ze (yD (tc hkd hr (av 4) aZ) (ze (zx (av 4))) zK)) (λ_=>rfl))
  exact ze (zx aZ))
def Ny(T:Txt K kd mg t)(hkd:vb P w K kd):FnOk P w K mg base xC 3 t.X8 t.X6 ["algebra"] (Zm K kd vT):=by
 refine yq (N:=Uq) (k:=2) (c:=Ra) T.U0 Zn λcdv A outer s H E hr=>?_;exact(by
  refine sj 1 Zn.nd ?_ ?_;exact(ck (Tv T hkd) hr T.wd T.Vh.kp T.Tj (bc (av 0) zc));refine zi ?_ ?_;exact(yD (tc hkd hr (av 1) aZ) (ze (by refine sv true 1 Zn.nd ?_;exact(ck (Ti T hkd) hr T.x5 T.Vf.kp T.TJ (bc (av 0) zc)))) zK);refine zi ?_ ?_;exact(yD (tc hkd hr (av 1) aZ) (ze (by refine sv true 1 Zn.nd ?_;exact(ck (Mq T hkd) hr T.vX T.UQ.kp T.NJ (bc (av 0) zc)))) zK);exact ze (zx (av 1)))
def GM(T:Txt K kd mg t)(hkd:vb P w K kd):FnOk P w K mg base xC 4 t.YJ t.YG ["algebra"] (Zm K kd xI):=by
 refine yq (N:=VM) (k:=3) (c:=YQ) T.VD W7 λcdv A outer s H E hr=>?_;exact(by
  refine sj 1 W7.nd ?_ ?_;exact(ck (Ny T hkd) hr T.vT T.U0.kp T.Mp (bc (av 0) zc));exact ze (yD (tc hkd hr (av 1) aZ) (ze BM) zK))
def W8(T:Txt K kd mg t)(hkd:vb P w K kd)(c:Str):FnOk P w K mg base xC 1 t.Z2 t.Z0 ["self","whole","back","wait","turn","one","other"] (uI K kd c (yP c)):=by
 refine FX (N:=WK) (k:=0) (b:=Yg) T.Tr RZ (by decide) λcdv A outer s H E hr=>?_;exact(xl (xU (UO T) (pv 0) (av 1) rfl) (xl (xU (Fx T) (pv 0) (av 2) rfl) (xl (xU (CQ T) (pv 0) (av 3) rfl) (xl (xU (CU T) (pv 0) (av 4) rfl) (xl (xU (CO T) (pv 0) (av 5) rfl) (xl (xU (NV T) (pv 0) (av 6) rfl) (xl (xU (NQ T) (pv 0) (Es (tc hkd hr (av 5) aZ) aI (bn aI (bi (Qk rfl) T.BI Bt.max (bc (fd (NQ T) (av 5)) (bc (fd (NQ T) (av 6)) zc))))) rfl) (MR (xU (RM T) (pv 0) (Es (tc hkd hr (av 5) aZ) aI (bn (fd (RM T) (av 5)) (fd (RM T) (av 6)))) rfl)))))))))
def S6(T:Txt K kd mg t)(hkd:vb P w K kd):FnOk P w K mg base xC 3 t.RC t.Pu ["value"] (Zm K kd XQ):=by
 refine yq (N:=L6) (k:=2) (c:=Ni) T.LX Fj λcdv A outer s H E hr=>?_;exact(ze (zx (mq T.vN.eq (T.vN.mk' T.WY) (W8 T hkd "Knot") hr T.vN.mg T.WN (bc (av 0) (bc (av 0) (bc aZ (bc aB (bc aZ (bc aZ zc)))))))))
def E_(T:Txt K kd mg t)(hkd:vb P w K kd):FnOk P w K mg base xC 1 t.Vv t.Vy ["self","one","other"] (Zm K kd VU):=by
 refine yq (N:=Pz) (k:=0) (c:=P2) T.M6 Mr λcdv A outer s H E hr=>?_;exact(ze (zx (ax hkd (ax hkd (fd (BY T) (av 0)) (av 1)) (av 2))))
def Cu(T:Txt K kd mg t)(hkd:vb P w K kd):MT P w K mg base kd "join" 1 UL:=(VE T.wX T.Ee (E_ T hkd) (by decide) T.Fb VJ)
def Hk(T:Txt K kd mg t)(hkd:vb P w K kd):FnOk P w K mg base xC 3 t.RH t.Rz ["way","one","other"] (Zm K kd XD):=by
 refine yq (N:=LI) (k:=2) (c:=LB) T.L0 Bh λcdv A outer s H E hr=>?_;exact(ze (zx (mq T.vN.eq (T.vN.mk' T.WY) (W8 T hkd "Knot") hr T.vN.mg T.WN (bc (mt (Cu T hkd) hr (av 0) (bc (fd (UO T) (av 1)) (bc (fd (UO T) (av 2)) zc)) rfl) (bc (mt (Cu T hkd) hr (av 0) (bc (fd (Fx T) (av 2)) (bc (fd (Fx T) (av 1)) zc)) rfl) (bc aZ (bc aB (bc (av 1) (bc (av 2) zc)))))))))
theorem Nk(T:Txt K kd mg t)(hkd:vb P w K kd):∀n:Nat,FnOk P w K mg base xC (3+n) t.Ru t.RS ["way","row"] (Zm K kd (wk n))
 |0=>JQ
 |n+1=>by
  have G:=Nk T hkd n;refine yq (N:=L8) (k:=3+n) (c:=Nh (wk n)) T.Qh GP λcdv A outer s H E hr=>?_;exact(by
  refine zi ?_ ?_;exact(yD (tc hkd hr (bi (yX (hkd _ rfl rfl rfl)) T.Y5 Bt.len (bc (av 1) zc)) aI) (ze (zx aZ)) zK);refine zi ?_ ?_;exact(yD (tc hkd hr (bi (yX (hkd _ rfl rfl rfl)) T.Y5 Bt.len (bc (av 1) zc)) aI) (ze (zx (ck (S6 T hkd) hr T.XQ T.LX.kp T.SR (bc (ax hkd (av 1) aI) zc)))) zK);refine sj 2 GP.nd ?_ ?_;exact(bn (bi (yX (hkd _ rfl rfl rfl)) T.Y5 Bt.len (bc (av 1) zc)) aI);exact ze (zx (ck (Hk T hkd) hr T.XD T.L0.kp T.Hb (bc (av 0) (bc (ck G hr T.wk T.Qh.kp T.Rj (bc (av 0) (bc (XR (av 1) TV (Yw (av 2))) zc))) (bc (ck G hr T.wk T.Qh.kp T.Rj (bc (av 0) (bc (XR (av 1) (Yw (av 2)) TV) zc))) zc))))))
def Sx(T:Txt K kd mg t)(hkd:vb P w K kd):FnOk P w K mg base xC 1 t.RK t.R_ ["tree"] (Zm K kd XS):=by
 refine yq (N:=Nu) (k:=0) (c:=Lw) T.LM Fi λcdv A outer s H E hr=>?_;exact(ze (zx (Es (tc hkd hr (av 0) aZ) aI (fd (RM T) (av 0)))))
def Ll(T:Txt K kd mg t)(hkd:vb P w K kd):FnOk P w K mg base xC 1 t.Xi t.Xw ["self","one","other"] (Zm K kd Xz):=by
 refine yq (N:=Xc) (k:=0) (c:=Qy) T.Li G5 λcdv A outer s H E hr=>?_;exact(ze (zx (Ss XC T.UI Bt.tuple (bc (yt (N:=["row","then"]) (cap:=[none,none]) (S:=[0,1]) rfl (BX rfl T.B9 (bc (av 1) (bc (av 2) zc)) rfl rfl) rfl (by change xq _ Xc _ (zd w_).names _=true;decide +kernel) (by decide) (λcl s H fp=>(xu rfl (zk (an 0 X1) (zk (an 1 X1) yK rfl) rfl) rfl rfl)) (λcl s H fp=>yr) (λcl s H fp=>(Ss XC T.UI Bt.tuple (bc (yt (N:=["a","then"]) (cap:=[none,some 1]) (S:=[0]) rfl (xO (av 0)) rfl (by with_unfolding_all rfl) (by decide) (λcl s H fp=>(an 0 RY)) (λcl s H fp=>yr) (λcl s H fp=>(ax hkd (av 1) (av 0))) (λ_=>rfl)) zc))) (λ_=>rfl)) zc))))
def IA(T:Txt K kd mg t)(hkd:vb P w K kd):MT P w K mg base kd "behind" 1 Nm:=(VE T.wX T.K4 (Ll T hkd) (by decide) T.K8 VJ)
def NI(T:Txt K kd mg t)(hkd:vb P w K kd):FnOk P w K mg base xC 2 t.Wq t.Wb ["way","one","other"] (Zm K kd vS):=by
 refine yq (N:=U7) (k:=1) (c:=Rb) T.U5 Lc λcdv A outer s H E hr=>?_;exact(by
  refine zi ?_ ?_;exact(yD (tc hkd hr (av 1) aZ) (ze (zx (av 2))) zK);refine zi ?_ ?_;exact(yD (tc hkd hr (av 2) aZ) (ze (zx (av 1))) zK);exact ze (zx (mt (IA T hkd) hr (av 0) (bc (av 1) (bc (av 2) zc)) rfl)))
def M8(T:Txt K kd mg t)(hkd:vb P w K kd):FnOk P w K mg base xC 1 t.Vo t.VH ["self","wait","value","many"] (Zm K kd VO):=by
 refine yq (N:=PB) (k:=0) (c:=Td) T.ES NB λcdv A outer s H E hr=>?_;exact(ze (zx (ax hkd (ax hkd (av 1) (bn (av 3) (fd (E3 T) (av 0)))) (av 2))))
def uw(T:Txt K kd mg t)(hkd:vb P w K kd):MT P w K mg base kd "made" 1 B2:=(VE T.wX T.Ep (M8 T hkd) (by decide) T.Ei VJ)
theorem M5(T:Txt K kd mg t)(hkd:vb P w K kd):∀n:Nat,FnOk P w K mg base xC (2+n) t.G2 t.Gm ["way","tree","wait","turn","row"] (S3 K kd (xG n))
 |0=>Cm
 |n+1=>by
  have G:=M5 T hkd n;refine uV (N:=EY) (k:=2+n) (c:=UU (xG n)) T.GH XZ (by decide) λcdv A outer s H E hr=>?_;exact(Ho (tc hkd hr (fd (NQ T) (av 1)) aI) (N6 (Zh yY ZT PySem.F.slot_list_append PySem.F.type_list_append (pv 4) (bd (Es (tc hkd hr (av 2) aZ) (fd (UO T) (av 1)) (mt (uw T hkd) hr (av 0) (bc (av 2) (bc (fd (UO T) (av 1)) (bc aI zc))) rfl)) zg) rfl rfl rfl rfl rfl) rfl) (by
  refine GU ?_ ?_;exact(by refine mV true 5 (by decide) XZ.nd ?_;exact(ck (NI T hkd) hr T.vS T.U5.kp T.MB (bc (av 0) (bc (fd (CQ T) (av 1)) (bc (av 2) zc)))));refine GU ?_ ?_;exact(by refine mV true 6 (by decide) XZ.nd ?_;exact(ec hkd hr (fd (CU T) (av 1)) (av 3)));refine GU ?_ ?_;exact(by refine mV true 7 (by decide) XZ.nd ?_;exact(Es (Zc (av 6) (λ_=>rfl)) (z_ (bd (fd (NV T) (av 1)) (bd (fd (CO T) (av 1)) zg))) (z_ (bd (fd (CO T) (av 1)) (bd (fd (NV T) (av 1)) zg)))));exact T4 (OA (by decide) PassesOwn.never rfl (VZ (av 7)) (an 8 XZ.nd) (T4 (M_ (i:=4) G (hr.mono (by omega)) rfl T.xG T.GH.kp T.Ec XI (bc (av 0) (bc (av 8) (bc (av 5) (bc (av 6) (bc (av 4) zc))))) (by decide) rfl rfl rfl)) (λ_=>rfl))))
def IC(T:Txt K kd mg t)(hkd:vb P w K kd):FnOk P w K mg base xC 23 t.GV t.KP ["way","tree"] (Zm K kd ZF):=by
 refine yq (N:=Et) (k:=22) (c:=EX) T.Ew Lo λcdv A outer s H E hr=>?_;exact(by
  refine sj 2 Lo.nd ?_ ?_;exact(zG zg);refine zi ?_ ?_;exact(yD (tc hkd hr (av 1) aZ) (ze (CC (i:=2) (M5 T hkd 20) (hr.mono (by omega)) rfl T.xG T.GH.kp T.Ec XI (bc (av 0) (bc (av 1) (bc aZ (bc aB (bc (av 2) zc))))) (by decide) rfl rfl rfl)) zK);exact ze (zx (av 2)))
def MA(T:Txt K kd mg t)(hkd:vb P w K kd):FnOk P w K mg base xC 1 t.Wg t.Ww ["size"] (Zm K kd xS):=by
 refine yq (N:=Uj) (k:=0) (c:=Wv) T.Uv K5 λcdv A outer s H E hr=>?_;exact(ze (yD (tc hkd hr (av 0) (ux T.KR rfl (by decide))) (ze BM) zK))
def Oj(T:Txt K kd mg t)(hkd:vb P w K kd):FnOk P w K mg base xC 1 t.Fu t.Fq ["rows"] (Zm K kd QP):=by
 refine yq (N:=Bq) (k:=0) (c:=Co) T.FH JJ λcdv A outer s H E hr=>?_;exact(ze (zx (Ss XC T.UI Bt.tuple (bc (yt (N:=["row"]) (cap:=[none]) (S:=[0]) rfl (xO (av 0)) rfl (by change xq _ Bq _ (zd Gq).names _=true;decide +kernel) (by decide) (λcl s H fp=>(an 0 SG)) (λcl s H fp=>yr) (λcl s H fp=>(Ss XC T.UI Bt.tuple (bc (av 0) zc))) (λ_=>rfl)) zc))))
def xx(T:Txt K kd mg t)(hkd:vb P w K kd):FnOk P w K mg base xC 1 t.QR t.QO ["_law_script","_law_k"] (Zm K kd zH):=by
 refine yq (N:=KB) (k:=0) (c:=GY) T.y4 xQ λcdv A outer s H E hr=>?_;exact(by
  refine sj 2 xQ.nd ?_ ?_;exact(bn aI (bn aI aI));refine zi ?_ ?_;exact(yD (tc hkd hr (av 1) (bi (yX (hkd _ rfl rfl rfl)) T.Y5 Bt.len (bc (av 0) zc))) (ze (zx (bn (bn (bn (ax hkd (av 0) (av 1)) (av 2)) (bn aI aI)) (av 2)))) zK);refine sj 3 xQ.nd ?_ ?_;exact(bn (bn (bn (av 1) (av 1)) (bn aI (av 1))) aI);refine zi ?_ ?_;exact(yD (tc hkd hr (av 0) (zG zg)) (ze (by refine sv true 3 xQ.nd ?_;exact(bn (av 3) (bn (bn (ax hkd (av 0) (bn (av 1) (bi (yX (hkd _ rfl rfl rfl)) T.Y5 Bt.len (bc (av 0) zc)))) aI) (bn (bn aI (av 1)) aI))))) zK);refine sj 4 xQ.nd ?_ ?_;exact aI;refine zi ?_ ?_;exact(yH PassesOwn.never rfl (yh rfl T.yi (bc aI zc) rfl) (an 5 xQ.nd) (by
  refine sj 3 xQ.nd ?_ ?_;exact(bn (bn (bn (bn (bn (av 3) (av 3)) (bn aI (av 3))) (bn aI (av 5))) (av 1)) aI);exact ze (by refine sv true 4 xQ.nd ?_;exact(bn (bn (av 4) aI) (bn (bn (av 3) aI) aI)))) (λ_=>rfl))
  exact ze (zx (bn (av 4) (av 2))))
def wK(T:Txt K kd mg t)(hkd:vb P w K kd):FnOk P w K mg base xC 1 t.Wx t.X4 ["_law_x","_law_sizes"] (Zm K kd zU):=by
 refine yq (N:=Ue) (k:=0) (c:=UH) T.xV Zl λcdv A outer s H E hr=>?_;exact(by
  refine sj 2 Zl.nd ?_ ?_;exact(zG zg);refine zi ?_ ?_;exact(yH PassesOwn.never rfl (VZ (av 1)) (an 3 Zl.nd) (by
  refine zi ?_ ?_;exact(wI (Zh yY ZT PySem.F.slot_list_append PySem.F.type_list_append (pv 2) (bd (bn (av 0) (av 3)) zg) rfl rfl rfl rfl rfl) rfl);exact ze (by refine sv true 0 Zl.nd ?_;exact(bn (av 0) (av 3)))) (λ_=>rfl))
  exact ze (zx (av 2)))
def PV(T:Txt K kd mg t)(hkd:vb P w K kd):FnOk P w K mg base xC 2 t.Vz t.Vp ["_law_x","_law_many"] (Zm K kd wu):=by
 refine yq (N:=PP) (k:=1) (c:=PQ) T.V4 yd λcdv A outer s H E hr=>?_;exact(by
  refine sj 2 yd.nd ?_ ?_;exact aS;refine zi ?_ ?_;exact(Q2 (ck (wK T hkd) hr T.zU T.xV.kp T.wL (bc (av 0) (bc (zG (bd aI (bd aI (bd aI zg)))) zc))) (xu rfl (zk (an 3 yd.nd) (zk (an 4 yd.nd) (zk (an 5 yd.nd) yK rfl) rfl) rfl) rfl rfl) rfl rfl rfl);refine sj 5 yd.nd ?_ ?_;exact(ax hkd (zG (bd aI (bd aI (bd aI (bd aI (bd aI (bd aI (bd aI (bd aI zg))))))))) (av 5));refine sj 4 yd.nd ?_ ?_;exact(bn (av 4) (bn (av 3) aI));refine sj 6 yd.nd ?_ ?_;exact(zG zg);refine zi ?_ ?_;exact(yH PassesOwn.never rfl (yh rfl T.yi (bc (av 1) zc) rfl) (an 7 yd.nd) (by
  refine sj 8 yd.nd ?_ ?_;exact aS;refine zi ?_ ?_;exact(yH PassesOwn.never rfl (yh rfl T.yi (bc (bn (av 3) aI) zc) rfl) (an 9 yd.nd) (by
  refine sj 10 yd.nd ?_ ?_;exact(bn (av 0) (bn aI (bn (bn aI (av 9)) (av 9))));refine zi ?_ ?_;exact(yD (tc hkd hr (av 9) (av 4)) (ze (by refine sv true 10 yd.nd ?_;exact(bn (av 10) (bn (av 7) (bn (av 5) aI))))) zK);exact ze (by refine sv true 8 yd.nd ?_;exact(bn (av 8) (ax hkd (av 2) (bn (av 10) aI))))) (λ_=>rfl))
  exact ze (wI (Zh yY ZT PySem.F.slot_list_append PySem.F.type_list_append (pv 6) (bd (av 8) zg) rfl rfl rfl rfl rfl) rfl)) (λ_=>rfl))
  exact ze (zx (av 6)))
def Tp(T:Txt K kd mg t)(hkd:vb P w K kd):FnOk P w K mg base xC 1 t.Z5 t.ZU ["_law_part","_law_a","_law_b"] (Zm K kd xi):=by
 refine yq (N:=W6) (k:=0) (c:=Vk) T.WV Zj λcdv A outer s H E hr=>?_;exact(by
  refine zi ?_ ?_;exact(Q2 (av 0) (xu rfl (zk (an 3 Zj.nd) (zk (an 4 Zj.nd) yK rfl) rfl) rfl rfl) rfl rfl rfl);refine zi ?_ ?_;exact(yD (tc hkd hr (av 3) aI) (ze (zx (bn (bn (av 1) (av 2)) (av 4)))) zK);refine zi ?_ ?_;exact(yD (tc hkd hr (av 3) aI) (ze (zx (bi (Qk rfl) T.BI Bt.max (bc (av 1) (bc (av 2) zc))))) zK);refine zi ?_ ?_;exact(yD (tc hkd hr (av 3) aI) (ze (zx (ax hkd (zG (bd (av 2) (bd (av 1) zg))) (Ss Q5 T.LG Bt.int (bc (ec hkd hr (av 2) aI) zc))))) zK);exact ze (zx (bn (bn aI (ax hkd (zG (bd (bn (av 2) aI) (bd (bn (av 2) aI) zg))) (bn (av 1) aI))) (ax hkd (zG (bd (bn (av 2) aI) (bd (bn (av 2) aI) zg))) (bn (av 1) aI)))))
def Tq(T:Txt K kd mg t)(hkd:vb P w K kd):FnOk P w K mg base xC 1 t.Yj t.ZO ["_law_part","_law_x","_law_c","_law_a"] (Zm K kd yQ):=by
 refine yq (N:=ZS) (k:=0) (c:=W3) T.WQ v_ λcdv A outer s H E hr=>?_;exact(by
  refine zi ?_ ?_;exact(Q2 (av 0) (xu rfl (zk (an 4 v_.nd) (zk (an 5 v_.nd) yK rfl) rfl) rfl rfl) rfl rfl rfl);refine zi ?_ ?_;exact(yD (tc hkd hr (av 4) aI) (ze (zx (bn (bn (bn (bn (av 1) (av 5)) (av 3)) (bn (bn (bn (av 1) (av 5)) (av 5)) (av 2))) (av 5)))) zK);refine zi ?_ ?_;exact(yD (tc hkd hr (av 4) aI) (ze (zx (bi (LC rfl) T.Dq Bt.min (bc (bn (av 5) aI) (bc (bi (Hv rfl) T.oM Bt.sum (bc (yt (N:=["_law_k","_law_x"]) (cap:=[none,some 1]) (S:=[0]) rfl (YD rfl T.yi (bc (av 3) zc) rfl) rfl (by change xq _ ZS _ (zd x_).names _=true;decide +kernel) (by decide) (λcl s H fp=>(an 0 QQ)) (λcl s H fp=>yr) (λcl s H fp=>(bn (bn (av 1) (ax hkd (zG (bd aI (bd aI (bd aI (bd aI (bd aI (bd aI (bd aI zg)))))))) (av 0))) aI)) (λ_=>rfl)) zc)) zc))))) zK);refine zi ?_ ?_;exact(yD (tc hkd hr (av 4) aI) (ze (zx (bn (Ss Q5 T.LG Bt.int (bc (ec hkd hr (av 3) aI) zc)) (bn aI (bn (bn (av 1) (ax hkd (zG (bd aI (bd aI (bd aI (bd aI (bd aI (bd aI (bd aI zg)))))))) (av 3))) (bi (Qk rfl) T.BI Bt.max (bc aI (bc (bn (av 5) aI) zc)))))))) zK);refine zi ?_ ?_;exact(yD (tc hkd hr (bn (av 1) aI) aI) (ze (zx (av 3))) zK);exact ze (zx (bn (bn (bn aI (bn aI (bn (av 3) aI))) aI) (bn (av 3) aI))))
def EG(T:Txt K kd mg t)(hkd:vb P w K kd):FnOk P w K mg base xC 1 t.VY t.V5 ["_law_x"] (Zm K kd Zw):=by
 refine yq (N:=Te) (k:=0) (c:=P4) T.PC Yq λcdv A outer s H E hr=>?_;exact(by
  refine sj 1 Yq.nd ?_ ?_;exact(zG (bd (zG (bd (z_ (bd aI (bd aI zg))) zg)) (bd (zG (bd (z_ (bd aI (bd aI zg))) zg)) (bd (zG (bd (z_ (bd aI (bd aI zg))) zg)) (bd (zG (bd (z_ (bd aI (bd aI zg))) (bd (z_ (bd aI (bd aI zg))) zg))) (bd (zG (bd (z_ (bd aI (bd aI zg))) zg)) (bd (zG (bd (z_ (bd aI (bd aI zg))) zg)) (bd (zG (bd (z_ (bd aI (bd aI zg))) (bd (z_ (bd aI (bd aI zg))) zg))) (bd (zG (bd (z_ (bd aI (bd aI zg))) zg)) zg)))))))));refine sj 1 Yq.nd ?_ ?_;exact(bn (av 1) (zG (bd (zG (bd (z_ (bd aI (bd aI zg))) (bd (z_ (bd aI (bd aI zg))) zg))) (bd (zG (bd (z_ (bd aI (bd aI zg))) (bd (z_ (bd aI (bd aI zg))) zg))) (bd (zG (bd (z_ (bd aI (bd aI zg))) zg)) (bd (zG (bd (z_ (bd aI (bd aI zg))) zg)) (bd (zG (bd (z_ (bd aI (bd aI zg))) zg)) (bd (zG (bd (z_ (bd aI (bd aI zg))) (bd (z_ (bd aI (bd aI zg))) zg))) zg))))))));refine sj 1 Yq.nd ?_ ?_;exact(bn (av 1) (zG (bd (zG (bd (z_ (bd aI (bd aI zg))) zg)) (bd (zG (bd (z_ (bd aI (bd aI zg))) zg)) zg))));exact ze (zx (ax hkd (av 1) (bn (av 0) aI))))
def E2(T:Txt K kd mg t)(hkd:vb P w K kd):FnOk P w K mg base xC 1 t.Vr t.VN ["_law_parts_here","_law_value"] (Zm K kd Zx):=by
 refine yq (N:=PJ) (k:=0) (c:=PX) T.PR vK λcdv A outer s H E hr=>?_;exact(by
  refine sj 2 vK.nd ?_ ?_;exact(zG zg);refine zi ?_ ?_;exact(yH PassesOwn.never rfl (VZ (av 0)) (xu rfl (zk (an 3 vK.nd) (zk (an 4 vK.nd) yK rfl) rfl) rfl rfl) (by
  refine zi ?_ ?_;exact(wI (Zh yY ZT PySem.F.slot_list_append PySem.F.type_list_append (pv 2) (bd (bn (av 1) (av 4)) zg) rfl rfl rfl rfl rfl) rfl);exact ze (by refine sv true 1 vK.nd ?_;exact(bn (av 1) (av 4)))) (λ_=>rfl))
  exact ze (zx (av 2)))
def Wj(T:Txt K kd mg t)(hkd:vb P w K kd):FnOk P w K mg base xC 1 t.QU t.Q_ ["_law_parts_here","_law_row_here"] (Zm K kd yy):=by
 refine yq (N:=GK) (k:=0) (c:=GR) T.YO ZG λcdv A outer s H E hr=>?_;exact(by
  refine sj 2 ZG.nd ?_ ?_;exact aI;refine zi ?_ ?_;exact(yH PassesOwn.never rfl (Ao rfl T.B9 (bc (MO (av 0) (Nj He aI)) (bc (MO (av 1) (Nj He aI)) zc)) rfl rfl) (xu rfl (zk (an 3 ZG.nd) (zk (an 4 ZG.nd) yK rfl) rfl) rfl rfl) (ze (by refine sv true 2 ZG.nd ?_;exact(bn (bn (av 2) (ax hkd (av 3) aI)) (av 4)))) (λ_=>rfl));exact ze (zx (av 2)))
def Eh(T:Txt K kd mg t)(hkd:vb P w K kd):FnOk P w K mg base xC 1 t.Vq t.Vs ["_law_x","_law_n"] (Zm K kd Zz):=by
 refine yq (N:=PM) (k:=0) (c:=P0) T.PU Ys λcdv A outer s H E hr=>?_;exact(by
  refine sj 2 Ys.nd ?_ ?_;exact(zG zg);refine zi ?_ ?_;exact(yH PassesOwn.never rfl (yh rfl T.yi (bc (av 1) zc) rfl) (an 3 Ys.nd) (by
  refine zi ?_ ?_;exact(wI (Zh sA su PySem.F.slot_list_insert PySem.F.type_list_insert (pv 2) (bd (bn (av 0) (bn (av 3) aI)) (bd (av 3) zg)) rfl rfl rfl rfl rfl) rfl);exact ze (by refine sv true 0 Ys.nd ?_;exact(bn (av 0) (bn (av 3) aI)))) (λ_=>rfl))
  exact ze (zx (av 2)))
def Lb(T:Txt K kd mg t)(hkd:vb P w K kd):FnOk P w K mg base xC 3 t.Xs t.Xp ["_law_script","_law_start"] (Zm K kd wg):=by
 refine yq (N:=yx) (k:=2) (c:=Qz) T.QA zC λcdv A outer s H E hr=>?_;exact(by
  refine sj 2 zC.nd ?_ ?_;exact(ck (EG T hkd) hr T.Zw T.PC.kp T.E9 (bc (ck (xx T hkd) hr T.zH T.y4.kp T.xv (bc (av 0) (bc (av 1) zc))) zc));refine sj 3 zC.nd ?_ ?_;exact(bn (ck (Wj T hkd) hr T.yy T.YO.kp T.Wz (bc (av 2) (bc (yt (N:=["_law_kind","_law_size"]) (cap:=[none,none]) (S:=[0,1]) rfl (xO (av 2)) rfl (by change xq _ yx _ (zd ym).names _=true;decide +kernel) (by decide) (λcl s H fp=>(xu rfl (zk (an 0 X3) (zk (an 1 X3) yK rfl) rfl) rfl rfl)) (λcl s H fp=>yr) (λcl s H fp=>(bn (av 1) aI)) (λ_=>rfl)) zc))) aI);refine sj 4 zC.nd ?_ ?_;exact(bn aI (bn (bn (ck (xx T hkd) hr T.zH T.y4.kp T.xv (bc (av 0) (bc (av 1) zc))) aI) aI));refine zi ?_ ?_;exact(yD (tc hkd hr (ax hkd (ax hkd (av 2) aI) aI) aI) (ze (by refine sv true 4 zC.nd ?_;exact(ax hkd (ax hkd (av 2) aI) aI))) zK);refine sj 5 zC.nd ?_ ?_;exact(ck (Eh T hkd) hr T.Zz T.PU.kp T.EC (bc (ck (xx T hkd) hr T.zH T.y4.kp T.xv (bc (av 0) (bc (bn (av 1) aI) zc))) (bc (av 3) zc)));refine zi ?_ ?_;exact(U4 (z:=true) (i:=6) (N:=["_law_v","_law_parts_here","_law_order_here"]) (cap:=[none,some 2,some 5]) (S:=[0]) zC.nd rfl (by exact Or.inl rfl) (by exact Or.inr rfl) rfl rfl (YD rfl T.yi (bc (av 3) zc) rfl) rfl (by change xq _ yx _ (zd ym).names _=true;decide +kernel) (by decide) (λcl s H fp=>(an 0 Pf)) (λcl s H fp=>yr) (λcl s H fp=>(ck (E2 T hkd) hr T.Zx T.PR.kp T.En (bc (av 1) (bc (A6 (ty:=.lst) (hkd _ rfl rfl rfl) (HZ (hkd _ rfl rfl rfl) (Fd hr)) PySem.F.plainAttrs_list PySem.F.slot_list_index PySem.F.type_list_index (av 2) (bc (av 0) zc) rfl rfl rfl rfl rfl) zc)))) (λ_=>rfl));refine sj 7 zC.nd ?_ ?_;exact(zG zg);refine zi ?_ ?_;exact(yH PassesOwn.never rfl (VZ (av 6)) (an 8 zC.nd) (ze (wI (Zh yY ZT PySem.F.slot_list_append PySem.F.type_list_append (pv 7) (bd (yt (N:=["_law_b","_law_parts_here","_law_a"]) (cap:=[none,some 2,some 8]) (S:=[0]) rfl (xO (av 6)) rfl (by change xq _ yx _ (zd ym).names _=true;decide +kernel) (by decide) (λcl s H fp=>(an 0 Ri)) (λcl s H fp=>yr) (λcl s H fp=>(ck (Wj T hkd) hr T.yy T.YO.kp T.Wz (bc (av 1) (bc (yt (N:=["_law_p","_law_i","_law_j"]) (cap:=[none,none,none]) (S:=[0,1,2]) rfl (Ay rfl T.B9 (bc (av 1) (bc (av 2) (bc (av 0) zc))) rfl rfl) rfl (by with_unfolding_all rfl) (by decide) (λcl s H fp=>(xu rfl (zk (an 0 Zb) (zk (an 1 Zb) (zk (an 2 Zb) yK rfl) rfl) rfl) rfl rfl)) (λcl s H fp=>yr) (λcl s H fp=>(ck (Tp T hkd) hr T.xi T.WV.kp T.Tw (bc (av 0) (bc (av 1) (bc (av 2) zc))))) (λ_=>rfl)) zc)))) (λ_=>rfl)) zg) rfl rfl rfl rfl rfl) rfl)) (λ_=>rfl));refine zi ?_ ?_;exact(U4 (z:=false) (i:=7) (N:=["_law_row_here","_law_order_here"]) (cap:=[none,some 5]) (S:=[0]) zC.nd rfl (by exact Or.inl rfl) (by exact Or.inr rfl) rfl rfl (xO (av 7)) rfl (by change xq _ yx _ (zd ym).names _=true;decide +kernel) (by decide) (λcl s H fp=>(an 0 Pw)) (λcl s H fp=>yr) (λcl s H fp=>(yt (N:=["_law_v","_law_order_here"]) (cap:=[none,some 1]) (S:=[0]) rfl (xO (av 0)) rfl (by with_unfolding_all rfl) (by decide) (λcl s H fp=>(an 0 RN)) (λcl s H fp=>yr) (λcl s H fp=>(ax hkd (av 1) (av 0))) (λ_=>rfl))) (λ_=>rfl));refine sj 9 zC.nd ?_ ?_;exact(zG zg);refine sj 10 zC.nd ?_ ?_;exact(ck (PV T hkd) hr T.wu T.V4.kp T.P1 (bc (ck (xx T hkd) hr T.zH T.y4.kp T.xv (bc (av 0) (bc (bn (av 1) aI) zc))) (bc aI zc)));refine zi ?_ ?_;exact(yH PassesOwn.never rfl (yh rfl T.yi (bc (bn aI (bn (ck (xx T hkd) hr T.zH T.y4.kp T.xv (bc (av 0) (bc (bn (av 1) aI) zc))) aI)) zc) rfl) (an 11 zC.nd) (by
  refine sj 12 zC.nd ?_ ?_;exact(ck (xx T hkd) hr T.zH T.y4.kp T.xv (bc (av 0) (bc (bn (bn (av 1) aI) (av 11)) zc)));refine sj 13 zC.nd ?_ ?_;exact(zG zg);refine zi ?_ ?_;exact(yH PassesOwn.never rfl (yh rfl T.yi (bc (av 4) zc) rfl) (an 14 zC.nd) (ze (wI (Zh yY ZT PySem.F.slot_list_append PySem.F.type_list_append (pv 13) (bd (yt (N:=["_law_a","_law_parts_here","_law_x","_law_c"]) (cap:=[none,some 2,some 12,some 14]) (S:=[0]) rfl (xO (av 6)) rfl (by change xq _ yx _ (zd ym).names _=true;decide +kernel) (by decide) (λcl s H fp=>(an 0 Pi)) (λcl s H fp=>yr) (λcl s H fp=>(ck (Wj T hkd) hr T.yy T.YO.kp T.Wz (bc (av 1) (bc (yt (N:=["_law_p","_law_i","_law_x","_law_c"]) (cap:=[none,none,some 2,some 3]) (S:=[0,1]) rfl (BX rfl T.B9 (bc (av 1) (bc (av 0) zc)) rfl rfl) rfl (by with_unfolding_all rfl) (by decide) (λcl s H fp=>(xu rfl (zk (an 0 XY) (zk (an 1 XY) yK rfl) rfl) rfl rfl)) (λcl s H fp=>yr) (λcl s H fp=>(ck (Tq T hkd) hr T.yQ T.WQ.kp T.TN (bc (av 0) (bc (av 2) (bc (av 3) (bc (av 1) zc)))))) (λ_=>rfl)) zc)))) (λ_=>rfl)) zg) rfl rfl rfl rfl rfl) rfl)) (λ_=>rfl));exact ze (wI (Zh yY ZT PySem.F.slot_list_append PySem.F.type_list_append (pv 9) (bd (z_ (bd (ax hkd (av 10) (av 11)) (bd (yt (N:=["_law_row_here","_law_order_here"]) (cap:=[none,some 5]) (S:=[0]) rfl (xO (av 13)) rfl (by change xq _ yx _ (zd ym).names _=true;decide +kernel) (by decide) (λcl s H fp=>(an 0 RX)) (λcl s H fp=>yr) (λcl s H fp=>(yt (N:=["_law_v","_law_order_here"]) (cap:=[none,some 1]) (S:=[0]) rfl (xO (av 0)) rfl (by with_unfolding_all rfl) (by decide) (λcl s H fp=>(an 0 UK)) (λcl s H fp=>yr) (λcl s H fp=>(ax hkd (av 1) (av 0))) (λ_=>rfl))) (λ_=>rfl)) zg))) zg) rfl rfl rfl rfl rfl) rfl)) (λ_=>rfl))
  refine sj 15 zC.nd ?_ ?_;exact(zG zg);refine zi ?_ ?_;exact(yH PassesOwn.never rfl (yh rfl T.yi (bc (bn aI (bn (ck (xx T hkd) hr T.zH T.y4.kp T.xv (bc (av 0) (bc (bn (av 1) aI) zc))) aI)) zc) rfl) (an 11 zC.nd) (by
  refine sj 12 zC.nd ?_ ?_;exact(bn (ck (xx T hkd) hr T.zH T.y4.kp T.xv (bc (av 0) (bc (bn (bn (av 1) aI) (av 11)) zc))) aI);exact ze (wI (Zh yY ZT PySem.F.slot_list_append PySem.F.type_list_append (pv 15) (bd (z_ (bd (ax hkd (av 10) (bn aI (av 11))) (bd (yt (N:=["_law_v","_law_x"]) (cap:=[none,some 12]) (S:=[0]) rfl (YD rfl T.yi (bc (av 3) zc) rfl) rfl (by change xq _ yx _ (zd ym).names _=true;decide +kernel) (by decide) (λcl s H fp=>(an 0 Us)) (λcl s H fp=>(T6 (tc hkd hr (bn (bn (av 1) (ax hkd (zG (bd aI (bd aI (bd aI (bd aI (bd aI (bd aI (bd aI (bd aI zg))))))))) (av 0))) aI) aI))) (λcl s H fp=>(av 0)) (λ_=>rfl)) zg))) zg) rfl rfl rfl rfl rfl) rfl)) (λ_=>rfl))
  refine sj 16 zC.nd ?_ ?_;exact(ax hkd (av 5) (ck (Wj T hkd) hr T.yy T.YO.kp T.Wz (bc (av 2) (bc (yt (N:=["_law_kind","_law_size"]) (cap:=[none,none]) (S:=[0,1]) rfl (xO (av 2)) rfl (by change xq _ yx _ (zd ym).names _=true;decide +kernel) (by decide) (λcl s H fp=>(xu rfl (zk (an 0 Y2) (zk (an 1 Y2) yK rfl) rfl) rfl rfl)) (λcl s H fp=>yr) (λcl s H fp=>(Ss Q5 T.LG Bt.int (bc (ec hkd hr (av 0) aI) zc))) (λ_=>rfl)) zc))));exact ze (zx (z_ (bd (av 3) (bd (av 4) (bd (av 7) (bd (av 16) (bd (av 9) (bd (av 15) zg)))))))))
def TR(T:Txt K kd mg t)(hkd:vb P w K kd):FnOk P w K mg base xC 3 t.Yb t.Z8 ["_law_script"] (Zm K kd xg):=by
 refine yq (N:=xj) (k:=2) (c:=W9) T.Ve zu λcdv A outer s H E hr=>?_;exact(by
  refine sj 1 zu.nd ?_ ?_;exact(bn (yt (N:=["_law_cell"]) (cap:=[none]) (S:=[0]) rfl (xO (XR (av 0) TV (Yw aI))) rfl (by change xq _ xj _ (zd yE).names _=true;decide +kernel) (by decide) (λcl s H fp=>(an 0 QY)) (λcl s H fp=>yr) (λcl s H fp=>(av 0)) (λ_=>rfl)) (bn (zG (bd aI zg)) (bn aI (bi (yX (hkd _ rfl rfl rfl)) T.Y5 Bt.len (bc (XR (av 0) TV (Yw aI)) zc)))));refine zi ?_ ?_;exact(Q2 (ck (wK T hkd) hr T.zU T.xV.kp T.wL (bc (ax hkd (av 1) aI) (bc (zG (bd aI (bd aI (bd aI (bd aI (bd aI (bd aI zg))))))) zc))) (xu rfl (zk (an 2 zu.nd) (zk (an 3 zu.nd) (zk (an 4 zu.nd) (zk (an 5 zu.nd) (zk (an 6 zu.nd) (zk (an 7 zu.nd) yK rfl) rfl) rfl) rfl) rfl) rfl) rfl rfl) rfl rfl rfl);refine sj 3 zu.nd ?_ ?_;exact(bn (av 3) aI);refine sj 4 zu.nd ?_ ?_;exact(bn (av 4) aI);refine sj 8 zu.nd ?_ ?_;exact(ck (PV T hkd) hr T.wu T.V4.kp T.P1 (bc (ck (xx T hkd) hr T.zH T.y4.kp T.xv (bc (av 0) (bc aI zc))) (bc aI zc)));refine sj 9 zu.nd ?_ ?_;exact(ck (wK T hkd) hr T.zU T.xV.kp T.wL (bc (ax hkd (av 1) aI) (bc (bn (zG (bd (av 3) zg)) (bn (av 3) (av 3))) zc)));refine zi ?_ ?_;exact(U4 (z:=true) (i:=10) (N:=["_law_a","_law_table","_law_n"]) (cap:=[none,some 9,some 3]) (S:=[0]) zu.nd rfl (by exact Or.inl rfl) (by exact Or.inr rfl) rfl rfl (YD rfl T.yi (bc (av 3) zc) rfl) rfl (by change xq _ xj _ (zd yE).names _=true;decide +kernel) (by decide) (λcl s H fp=>(an 0 Q8)) (λcl s H fp=>yr) (λcl s H fp=>(XR (av 1) (Yw (bn (av 2) (av 0))) (Yw (bn (bn (av 2) (av 0)) (av 2))))) (λ_=>rfl));refine sj 11 zu.nd ?_ ?_;exact(zG zg);refine zi ?_ ?_;exact(yH PassesOwn.never rfl (yh rfl T.yi (bc (av 5) zc) rfl) (an 12 zu.nd) (by
  refine sj 13 zu.nd ?_ ?_;exact(ck (wK T hkd) hr T.zU T.xV.kp T.wL (bc (ax hkd (av 1) (bn aI (av 12))) (bc (bn (zG (bd (av 3) zg)) (bn (av 3) (av 4))) zc)));exact ze (wI (Zh yY ZT PySem.F.slot_list_append PySem.F.type_list_append (pv 11) (bd (z_ (bd (ax hkd (av 8) (av 12)) (bd (yt (N:=["_law_c","_law_rows","_law_n"]) (cap:=[none,some 13,some 3]) (S:=[0]) rfl (YD rfl T.yi (bc (av 4) zc) rfl) rfl (by change xq _ xj _ (zd yE).names _=true;decide +kernel) (by decide) (λcl s H fp=>(an 0 Q0)) (λcl s H fp=>yr) (λcl s H fp=>(XR (av 1) (Yw (bn (av 2) (av 0))) (Yw (bn (bn (av 2) (av 0)) (av 2))))) (λ_=>rfl)) zg))) zg) rfl rfl rfl rfl rfl) rfl)) (λ_=>rfl))
  refine sj 14 zu.nd ?_ ?_;exact(zG zg);refine zi ?_ ?_;exact(yH PassesOwn.never rfl (yh rfl T.yi (bc (av 6) zc) rfl) (an 12 zu.nd) (by
  refine sj 15 zu.nd ?_ ?_;exact(ck (wK T hkd) hr T.zU T.xV.kp T.wL (bc (ax hkd (av 1) (bn aI (av 12))) (bc (bn (zG (bd aI zg)) (av 3)) zc)));exact ze (wI (Zh yY ZT PySem.F.slot_list_append PySem.F.type_list_append (pv 14) (bd (z_ (bd (ax hkd (av 8) (bn aI (av 12))) (bd (yt (N:=["_law_v","_law_bits"]) (cap:=[none,some 15]) (S:=[0]) rfl (YD rfl T.yi (bc (av 3) zc) rfl) rfl (by change xq _ xj _ (zd yE).names _=true;decide +kernel) (by decide) (λcl s H fp=>(an 0 Q1)) (λcl s H fp=>(T6 (tc hkd hr (ax hkd (av 1) (av 0)) aI))) (λcl s H fp=>(av 0)) (λ_=>rfl)) zg))) zg) rfl rfl rfl rfl rfl) rfl)) (λ_=>rfl))
  exact ze (zx (z_ (bd (av 3) (bd (av 4) (bd (av 10) (bd (bn (av 7) (av 3)) (bd (av 11) (bd (av 14) zg)))))))))
def Bc(T:Txt K kd mg t)(hkd:vb P w K kd):FnOk P w K mg base xC 1 t.Ud t.QV ["_law_m","_law_join","_law_rows","_law_a","_law_b"] (Zm K kd YW):=by
 refine yq (N:=Kw) (k:=0) (c:=Kf) T.Gv ZI λcdv A outer s H E hr=>?_;exact(by
  refine zi ?_ ?_;exact(yH PassesOwn.never rfl (yh rfl T.yi (bc (av 0) zc) rfl) (an 5 ZI.nd) (ze (yH PassesOwn.never rfl (yh rfl T.yi (bc (av 0) zc) rfl) (an 6 ZI.nd) (by
  refine sj 7 ZI.nd ?_ ?_;exact(ax hkd (ax hkd (av 2) (bn (bn (av 5) (av 6)) (av 0))) (ax hkd (ax hkd (av 1) (av 3)) (av 4)));refine sj 8 ZI.nd ?_ ?_;exact(ax hkd (ax hkd (av 1) (ax hkd (ax hkd (av 2) (av 5)) (av 3))) (ax hkd (ax hkd (av 2) (av 6)) (av 4)));exact ze (yD (tc hkd hr (av 7) (av 8)) (ze (zx aB)) zK)) (λ_=>rfl))) (λ_=>rfl))
  exact ze (zx aB))
def KW(T:Txt K kd mg t)(hkd:vb P w K kd):FnOk P w K mg base xC 2 t.Xq t.Xj ["_law_algebra_here"] (Zm K kd wZ):=by
 refine yq (N:=Zu) (k:=1) (c:=Qw) T.Qx zV λcdv A outer s H E hr=>?_;exact(by
  refine zi ?_ ?_;exact(Q2 (av 0) (xu rfl (zk (an 1 zV.nd) (zk (an 2 zV.nd) (zk (an 3 zV.nd) (zk (an 4 zV.nd) (zk (an 5 zV.nd) (zk (an 6 zV.nd) yK rfl) rfl) rfl) rfl) rfl) rfl) rfl rfl) rfl rfl rfl);refine zi ?_ ?_;exact(yH PassesOwn.never rfl (yh rfl T.yi (bc (bn (av 1) (av 1)) zc) rfl) (an 7 zV.nd) (by
  refine zi ?_ ?_;exact(Q2 (bi Hj T.O3 Bt.divmod (bc (av 7) (bc (av 1) zc))) (xu rfl (zk (an 8 zV.nd) (zk (an 9 zV.nd) yK rfl) rfl) rfl rfl) rfl rfl rfl);refine zi ?_ ?_;exact(yD (AW.at_ (LL (tc hkd hr (ax hkd (ax hkd (av 3) (av 4)) (av 8)) (av 8)) (YF (tc hkd hr (ax hkd (ax hkd (av 3) (av 8)) (av 4)) (av 8))))) (ze (zx aB)) zK);refine zi ?_ ?_;exact(yD (tc hkd hr (ax hkd (av 3) (ax hkd (ax hkd (av 3) (av 8)) (av 9))) (yt (N:=["_law_c","_law_join","_law_a"]) (cap:=[none,some 3,some 8]) (S:=[0]) rfl (xO (ax hkd (av 3) (av 9))) rfl (by change xq _ Zu _ (zd we).names _=true;decide +kernel) (by decide) (λcl s H fp=>(an 0 RI)) (λcl s H fp=>yr) (λcl s H fp=>(ax hkd (ax hkd (av 1) (av 2)) (av 0))) (λ_=>rfl))) (ze (zx aB)) zK);exact ze (yH PassesOwn.never rfl (VZ (av 5)) (xu rfl (zk (an 10 zV.nd) (zk (an 11 zV.nd) yK rfl) rfl) rfl rfl) (ze (yD (Xv (Zc (ck (Bc T hkd) hr T.YW T.Gv.kp T.Fe (bc (av 2) (bc (av 3) (bc (av 11) (bc (av 8) (bc (av 9) zc)))))) (λ_=>rfl))) (ze (zx aB)) zK)) (λ_=>rfl))) (λ_=>rfl))
  refine zi ?_ ?_;exact(U4 (z:=true) (i:=12) (N:=["_law_name","_law_rows","_law_nothing"]) (cap:=[none,none,some 4]) (S:=[0,1]) zV.nd rfl (by exact Or.inl rfl) (by exact Or.inr rfl) rfl rfl (xO (av 5)) rfl (by change xq _ Zu _ (zd we).names _=true;decide +kernel) (by decide) (λcl s H fp=>(xu rfl (zk (an 0 XM) (zk (an 1 XM) yK rfl) rfl) rfl rfl)) (λcl s H fp=>(T6 (tc hkd hr (ax hkd (ax hkd (av 1) aI) (av 2)) (av 2)))) (λcl s H fp=>(av 0)) (λ_=>rfl));exact ze (zx (QM (ec hkd hr (av 12) (zG zg)) (QM (ec hkd hr (av 5) (zG zg)) (Gi (ec hkd hr (av 6) (zG zg)))))))
def Hx(T:Txt K kd mg t)(hkd:vb P w K kd):FnOk P w K mg base xC 4 t.Pq t.Pd ["_law_script"] (Zm K kd YC):=by
 refine yq (N:=LR) (k:=3) (c:=LO) T.Ng KI λcdv A outer s H E hr=>?_;exact(by
  refine zi ?_ ?_;exact(yD (AW.at_ (rg (tc hkd hr (bi (yX (hkd _ rfl rfl rfl)) T.Y5 Bt.len (bc (av 0) zc)) aI) (FE (tc hkd hr (bn (ax hkd (av 0) aI) aI) aI)))) (by
  refine sj 1 KI.nd ?_ ?_;exact(ck (TR T hkd) hr T.xg T.Ve.kp T.TL (bc (av 0) zc));exact ze (yD (Zc (ck (KW T hkd) hr T.wZ T.Qx.kp T.La (bc (av 1) zc)) (λ_=>rfl)) (ze (zx (av 1))) zK)) zK)
  exact ze (zx (ck (Lb T hkd) hr T.wg T.QA.kp T.K3 (bc (av 0) (bc aI zc)))))
def GX(T:Txt K kd mg t)(hkd:vb P w K kd):FnOk P w K mg base xC 1 t.QL t.QS ["_law_algebra_here"] (Zm K kd Zg):=by
 refine yq (N:=YU) (k:=0) (c:=GD) T.QT xR λcdv A outer s H E hr=>?_;exact(by
  refine zi ?_ ?_;exact(Q2 (av 0) (xu rfl (zk (an 1 xR.nd) (zk (an 2 xR.nd) (zk (an 3 xR.nd) (zk (an 4 xR.nd) (zk (an 5 xR.nd) (zk (an 6 xR.nd) yK rfl) rfl) rfl) rfl) rfl) rfl) rfl rfl) rfl rfl rfl);refine zi ?_ ?_;exact(U4 (z:=true) (i:=5) (N:=["_law_name","_law_rows"]) (cap:=[none,none]) (S:=[0,1]) xR.nd rfl (by exact Or.inl rfl) (by exact Or.inr rfl) rfl rfl (xO (av 5)) rfl (by change xq _ YU _ (zd vC).names _=true;decide +kernel) (by decide) (λcl s H fp=>(xu rfl (zk (an 0 QI) (zk (an 1 QI) yK rfl) rfl) rfl rfl)) (λcl s H fp=>yr) (λcl s H fp=>(z_ (bd (av 0) (bd (yt (N:=["_law_row_here"]) (cap:=[none]) (S:=[0]) rfl (xO (av 1)) rfl (by with_unfolding_all rfl) (by decide) (λcl s H fp=>(an 0 K2)) (λcl s H fp=>yr) (λcl s H fp=>(Ss Qj T.Uc Bt.list (bc (av 0) zc))) (λ_=>rfl)) zg)))) (λ_=>rfl));exact ze (zx (z_ (bd (av 1) (bd (av 2) (bd (yt (N:=["_law_row_here"]) (cap:=[none]) (S:=[0]) rfl (xO (av 3)) rfl (by change xq _ YU _ (zd vC).names _=true;decide +kernel) (by decide) (λcl s H fp=>(an 0 K6)) (λcl s H fp=>yr) (λcl s H fp=>(Ss Qj T.Uc Bt.list (bc (av 0) zc))) (λ_=>rfl)) (bd (av 4) (bd (av 5) (bd (yt (N:=["_law_name","_law_row_here"]) (cap:=[none,none]) (S:=[0,1]) rfl (xO (av 6)) rfl (by change xq _ YU _ (zd vC).names _=true;decide +kernel) (by decide) (λcl s H fp=>(xu rfl (zk (an 0 QF) (zk (an 1 QF) yK rfl) rfl) rfl rfl)) (λcl s H fp=>yr) (λcl s H fp=>(z_ (bd (av 0) (bd (Ss Qj T.Uc Bt.list (bc (av 1) zc)) zg)))) (λ_=>rfl)) zg)))))))))
def SX(T:Txt K kd mg t)(hkd:vb P w K kd):FnOk P w K mg base xC 2 t.Pa t.Rc ["_law_x","_law_n","_law_most"] (Zm K kd XE):=by
 refine yq (N:=L3) (k:=1) (c:=LQ) T.LZ Q4 λcdv A outer s H E hr=>?_;exact(by
  refine sj 3 Q4.nd ?_ ?_;exact(bn (av 0) (bn (av 2) aI));refine zi ?_ ?_;exact(yD (tc hkd hr (bn (bn (av 0) aI) aI) aI) (ze (by refine sv true 3 Q4.nd ?_;exact(bn aI (bn (bn (av 0) aI) aI)))) zK);exact ze (zx (ck (wK T hkd) hr T.zU T.xV.kp T.wL (bc (bn (av 0) aI) (bc (bn (zG (bd (av 1) zg)) (av 3)) zc)))))
def XA(T:Txt K kd mg t)(hkd:vb P w K kd):FnOk P w K mg base xC 1 t.Xm t.Xx ["_law_found","_law_due"] (Zm K kd yn):=by
 refine yq (N:=Xl) (k:=0) (c:=QG) T.Zo Gx λcdv A outer s H E hr=>?_;exact(by
  refine zi ?_ ?_;exact(yD (AW.at_ (LL (Xv (Zc (VQ (hkd _ rfl rfl rfl) rfl rfl T.xr Bt.isinstance rfl T.Uc Bt.list (av 0) (Bt.n _ rfl) (by decide) (Bt.n _ rfl) (by decide) rfl rfl rfl) (λ_=>rfl))) (YF (tc hkd hr (av 0) (av 1))))) (ze (zx aB)) zK);exact ze (zx (ec hkd hr (yt (N:=["_law_one"]) (cap:=[none]) (S:=[0]) rfl (xO (av 0)) rfl (by change xq _ Xl _ (zd va).names _=true;decide +kernel) (by decide) (λcl s H fp=>(an 0 Rk)) (λcl s H fp=>(T6 (AW.at_ (LL (Zc (VQ (hkd _ rfl rfl rfl) rfl rfl T.xr Bt.isinstance rfl T.Bn Bt.bool (av 0) (Bt.n _ rfl) (by decide) (Bt.n _ rfl) (by decide) rfl rfl rfl) (λ_=>rfl)) (YF (Xv (Zc (VQ (hkd _ rfl rfl rfl) rfl rfl T.xr Bt.isinstance rfl T.LG Bt.int (av 0) (Bt.n _ rfl) (by decide) (Bt.n _ rfl) (by decide) rfl rfl rfl) (λ_=>rfl)))))))) (λcl s H fp=>(av 0)) (λ_=>rfl)) (zG zg))))
def ZL(T:Txt K kd mg t)(hkd:vb P w K kd):FnOk P w K mg base xC 1 t.Z7 t.ZP ["_law_found","_law_due"] (Zm K kd yo):=by
 refine yq (N:=W5) (k:=0) (c:=WW) T.vm Rn λcdv A outer s H E hr=>?_;exact(ze (zx (QM (VQ (hkd _ rfl rfl rfl) rfl rfl T.xr Bt.isinstance rfl T.LG Bt.int (av 0) (Bt.n _ rfl) (by decide) (Bt.n _ rfl) (by decide) rfl rfl rfl) (QM (OK (VQ (hkd _ rfl rfl rfl) rfl rfl T.xr Bt.isinstance rfl T.Bn Bt.bool (av 0) (Bt.n _ rfl) (by decide) (Bt.n _ rfl) (by decide) rfl rfl rfl)) (Gi (ec hkd hr (av 0) (av 1)))))))
def XJ(T:Txt K kd mg t)(hkd:vb P w K kd)(c:Str):FnOk P w K mg base xC 1 t.Ze t.Zi ["self","way"] (uI K kd c (yW c)):=by
 refine FX (N:=XU) (k:=0) (b:=v8) T.Pk UR (by decide) λcdv A outer s H E hr=>?_;exact(xl (xU (Bx T) (pv 0) (av 1) rfl) (MR (OV (UB T) (pv 0) (zG zg) rfl)))
def WR(T:Txt K kd mg t)(hkd:vb P w K kd)(c:Str):FnOk P w K mg base xC 5 t.ZZ t.Z4 ["self","algebra"] (uI K kd c (vi c)):=by
 refine FX (N:=vc) (k:=4) (b:=Z9) T.TC Rh (by decide) λcdv A outer s H E hr=>?_;exact(xl (Ac (ck (GM T hkd) hr T.xI T.VD.kp T.Ky (bc (av 1) zc)) rfl) (xl (xU (RM T) (pv 0) (ax hkd (av 1) aI) rfl) (xl (xU (E3 T) (pv 0) (ax hkd (av 1) aI) rfl) (xl (xU (BY T) (pv 0) (ck (Oj T hkd) hr T.QP T.FH.kp T.OI (bc (ax hkd (av 1) aI) zc)) rfl) (xl (xU (S0 T) (pv 0) (ax hkd (av 1) aI) rfl) (xl (xU (Jn T) (pv 0) (Ss (Kb rfl (hkd _ rfl rfl rfl)) T.H0 Bt.dict (bc (yt (N:=["name","rows"]) (cap:=[none,none]) (S:=[0,1]) rfl (xO (ax hkd (av 1) aI)) rfl (by change xq _ vc _ (zd xh).names _=true;decide +kernel) (by decide) (λcl s H fp=>(xu rfl (zk (an 0 YR) (zk (an 1 YR) yK rfl) rfl) rfl rfl)) (λcl s H fp=>yr) (λcl s H fp=>(z_ (bd (av 0) (bd (ck (Oj T hkd) hr T.QP T.FH.kp T.OI (bc (av 1) zc)) zg)))) (λ_=>rfl)) zc)) rfl) (MR (xU (SC T) (pv 0) (Ss (Kb rfl (hkd _ rfl rfl rfl)) T.H0 Bt.dict (bc (yt (N:=["name","values"]) (cap:=[none,none]) (S:=[0,1]) rfl (xO (ax hkd (av 1) aI)) rfl (by change xq _ vc _ (zd xh).names _=true;decide +kernel) (by decide) (λcl s H fp=>(xu rfl (zk (an 0 YI) (zk (an 1 YI) yK rfl) rfl) rfl rfl)) (λcl s H fp=>yr) (λcl s H fp=>(z_ (bd (av 0) (bd (Ss XC T.UI Bt.tuple (bc (av 1) zc)) zg)))) (λ_=>rfl)) zc)) rfl))))))))
def Tn(T:Txt K kd mg t)(hkd:vb P w K kd):FnOk P w K mg base xC 3 t.Ye t.ZQ ["self","make"] (Zm K kd Z1):=by
 refine yq (N:=WS) (k:=2) (c:=Vb) T.Ts RU λcdv A outer s H E hr=>?_;exact(by
  refine zi ?_ ?_;exact(yD (Xv (Zc (ck (Tb T hkd) hr T.wD T.V6.kp T.P7 (bc (av 1) (bc aI (bc (bn (bi (yX (hkd _ rfl rfl rfl)) T.Y5 Bt.len (bc (fd (UB T) (av 0)) zc)) aI) zc)))) (λ_=>rfl))) (ze BM) zK);exact ze (zx (ax hkd (fd (UB T) (av 0)) (av 1))))
def Nt(T:Txt K kd mg t)(hkd:vb P w K kd):MT P w K mg base kd "tree_at" 3 G0:=(VE T.wm T.Tx (Tn T hkd) (by decide) T.Tz VJ)
def KA(T:Txt K kd mg t)(hkd:vb P w K kd):FnOk P w K mg base xC 24 t.YM t.YS ["self","make"] (Zm K kd wC):=by
 refine yq (N:=VC) (k:=23) (c:=VB) T.G_ Tt λcdv A outer s H E hr=>?_;exact(ze (zx (ck (IC T hkd) hr T.ZF T.Ew.kp T.Ie (bc (fd (Bx T) (av 0)) (bc (mt (Nt T hkd) hr (av 0) (bc (av 1) zc) rfl) zc)))))
def NF(T:Txt K kd mg t)(hkd:vb P w K kd):FnOk P w K mg base xC 1 t.Wp t.Wn ["self","tree"] (spS K kd vV):=by
 refine OM (N:=Ur) (k:=0) (c:=Yz) T.NW K_ (by decide) λcdv A outer s H E hr=>?_;exact(Uh (oX (UB T) (pv 0) (pv 1) rfl rfl rfl rfl rfl rfl rfl) (BV (bn (og (UB T) (pv 0) rfl rfl T.Y5 rfl rfl) aI)))
def TM(T:Txt K kd mg t)(hkd:vb P w K kd):FnOk P w K mg base xC 3 t.ZY t.ZX ["self","thing"] (Zm K kd Z_):=by
 refine yq (N:=WM) (k:=2) (c:=WU) T.TH RL λcdv A outer s H E hr=>?_;exact(ze (zx (ck (Tb T hkd) hr T.wD T.V6.kp T.P7 (bc (av 1) (bc aI (bc (bn (fd (RM T) (av 0)) aI) zc))))))
def Bj(T:Txt K kd mg t)(hkd:vb P w K kd):MT P w K mg base kd "is_value" 3 P3:=(VE T.wX T.TB (TM T hkd) (by decide) T.To VJ)
def Qu(T:Txt K kd mg t)(hkd:vb P w K kd):FnOk P w K mg base xC 4 t.wQ t.wV ["self","thing"] (Zm K kd xF):=by
 refine yq (N:=Yk) (k:=3) (c:=wU) T.Qr VW λcdv A outer s H E hr=>?_;exact(ze (yD (Xv (Zc (mt (Bj T hkd) hr (fd (Bx T) (av 0)) (bc (av 1) zc) rfl) (λ_=>rfl))) (ze BM) zK))
def Lm(T:Txt K kd mg t)(hkd:vb P w K kd):MT P w K mg base kd "check_value" 4 YT:=(VE T.wm T.Qp (Qu T hkd) (by decide) T.Qq VJ)
def I0(T:Txt K kd mg t)(hkd:vb P w K kd):MS P w K mg base kd "keep" 1 "Makes" vV:=Dl T.wm T.Mb (NF T hkd) T.Mt
def Ms(T:Txt K kd mg t)(hkd:vb P w K kd):FnOk P w K mg base xC 24 t.X_ t.WI ["self","row"] (spS K kd xT):=by
 refine OM (N:=UZ) (k:=23) (c:=YA) T.Mm QJ (by decide) λcdv A outer s H E hr=>?_;exact(Uh (qN (Xv (Zc (VQ (hkd _ rfl rfl rfl) rfl rfl T.xr Bt.isinstance rfl T.Uc Bt.list (av 1) (Bt.n _ rfl) (by decide) (Bt.n _ rfl) (by decide) rfl rfl rfl) (λ_=>rfl))) (T4 rX) Ax) (Uh (OA (by decide) PassesOwn.never rfl (VZ (av 1)) (an 2 QJ.nd) (T4 (N6 (Ui (Lm T hkd) (hr.mono (by omega)) XI (pv 0) (bc (av 2) zc) rfl rfl rfl) rfl)) (λ_=>rfl)) (Uh (N6 (ck (MA T hkd) hr T.xS T.Uv.kp T.NS (bc (bi (yX (hkd _ rfl rfl rfl)) T.Y5 Bt.len (bc (av 1) zc)) zc)) rfl) (BV (Mu (I0 T hkd) (hr.mono (by omega)) XI (pv 0) (bc (ck (Nk T hkd 20) hr T.wk T.Qh.kp T.Rj (bc (qP (Bx T) (pv 0) rfl) (bc (av 1) zc))) zc) rfl rfl rfl)))))
def NK(T:Txt K kd mg t)(hkd:vb P w K kd):FnOk P w K mg base xC 4 t.Wk t.Wd ["self","make"] (Zm K kd Ws):=by
 refine yq (N:=UW) (k:=3) (c:=U6) T.MP KS λcdv A outer s H E hr=>?_;exact(ze (zx (ck (Sx T hkd) hr T.XS T.LM.kp T.Hg (bc (mt (Nt T hkd) hr (av 0) (bc (av 1) zc) rfl) zc))))
def GG(T:Txt K kd mg t)(hkd:vb P w K kd):MT P w K mg base kd "listed" 24 Zk:=(VE T.wm T.GI (KA T hkd) (by decide) T.GW VJ)
def D2(T:Txt K kd mg t)(hkd:vb P w K kd):MT P w K mg base kd "many" 4 NY:=(VE T.wm T.Mc (NK T hkd) (by decide) T.MM VJ)
def Sg(T:Txt K kd mg t)(hkd:vb P w K kd):MS P w K mg base kd "made" 24 "Makes" xT:=Dl T.wm T.MQ (Ms T hkd) T.Mh
def qG(T:Txt K kd mg t)(hkd:vb P w K kd):FnOk P w K mg base xC 25 t.Ih t.OW ["_law_script"] (Zm K kd Kv):=by
 refine yq (N:=Dp) (k:=24) (c:=Dy) T.qE Xu λcdv A outer s H E hr=>?_;exact(by
  refine sj 1 Xu.nd ?_ ?_;exact(ck (Hx T hkd) hr T.YC T.Ng.kp T.SB (bc (av 0) zc));refine sj 2 Xu.nd ?_ ?_;exact(mq T.wm.eq (T.wm.mk' T.XX) (XJ T hkd "Makes") hr T.wm.mg T.X2 (bc (mq T.wX.eq (T.wX.mk' T.Vd) (WR T hkd "Ways") hr T.wX.mg T.Va (bc (ck (GX T hkd) hr T.Zg T.QT.kp T.GT (bc (av 1) zc)) zc)) zc));refine sj 3 Xu.nd ?_ ?_;exact(mq T.wm.eq (T.wm.mk' T.XX) (XJ T hkd "Makes") hr T.wm.mg T.X2 (bc (mq T.wX.eq (T.wX.mk' T.Vd) (WR T hkd "Ways") hr T.wX.mg T.Va (bc (ck (GX T hkd) hr T.Zg T.QT.kp T.GT (bc (av 1) zc)) zc)) zc));refine sj 4 Xu.nd ?_ ?_;exact(zG zg);refine zi ?_ ?_;exact(yH PassesOwn.never rfl (Hc rfl T.yi (bc aI (bc (bi (Qk rfl) T.BI Bt.max (bc aI (bc (bi (LC rfl) T.Dq Bt.min (bc (bi (yX (hkd _ rfl rfl rfl)) T.Y5 Bt.len (bc (av 0) zc)) (bc aI zc))) zc))) zc)) rfl rfl) (an 5 Xu.nd) (by
  refine sj 6 Xu.nd ?_ ?_;exact(ck (SX T hkd) hr T.XE T.LZ.kp T.Hr (bc (ck (xx T hkd) hr T.zH T.y4.kp T.xv (bc (av 0) (bc (av 5) zc))) (bc (ax hkd (av 1) aI) (bc aI zc))));refine sj 7 Xu.nd ?_ ?_;exact(Ss Qj T.Uc Bt.list (bc (av 6) zc));refine zi ?_ ?_;exact(yD (AW.at_ (LL (Xv (Zc (ck (ZL T hkd) hr T.yo T.vm.kp T.Yh (bc (Mu (Sg T hkd) (hr.mono (by omega)) XI (pv 2) (bc (av 7) zc) rfl rfl rfl) (bc (bi (yX (hkd _ rfl rfl rfl)) T.Y5 Bt.len (bc (av 4) zc)) zc))) (λ_=>rfl))) (YF (tc hkd hr (av 7) (av 6))))) (ze (zx aB)) zK);refine zi ?_ ?_;exact(wI (JA Od tK PySem.F.slot_list_clear PySem.F.type_list_clear (pv 7) rfl rfl) rfl);exact ze (wI (Zh yY ZT PySem.F.slot_list_append PySem.F.type_list_append (pv 4) (bd (av 6) zg) rfl rfl rfl rfl rfl) rfl)) (λ_=>rfl))
  refine zi ?_ ?_;exact(yD (Xv (Zc (ck (ZL T hkd) hr T.yo T.vm.kp T.Yh (bc (Mu (Sg T hkd) (hr.mono (by omega)) XI (pv 3) (bc (MO (ax hkd (av 4) (Nj He aI)) (Nj He aI)) zc) rfl rfl rfl) (bc aI zc))) (λ_=>rfl))) (ze (zx aB)) zK);refine zi ?_ ?_;exact(yH PassesOwn.never rfl (VZ (bn (Hf rfl rfl T.yi rfl T.Uc (bc (bi (yX (hkd _ rfl rfl rfl)) T.Y5 Bt.len (bc (av 4) zc)) zc) rfl rfl) (zG (bd aI zg)))) (an 5 Xu.nd) (by
  refine sj 8 Xu.nd ?_ ?_;exact(Ui (GG T hkd) (hr.mono (by omega)) XI (pv 2) (bc (av 5) zc) rfl rfl rfl);refine zi ?_ ?_;exact(yD (AW.at_ (LL (Xv (Zc (ck (ZL T hkd) hr T.yo T.vm.kp T.Yh (bc (Ui (D2 T hkd) (hr.mono (by omega)) XI (pv 2) (bc (av 5) zc) rfl rfl rfl) (bc (bi (yX (hkd _ rfl rfl rfl)) T.Y5 Bt.len (bc (ax hkd (av 4) (av 5)) zc)) zc))) (λ_=>rfl))) (YF (Xv (Zc (ck (XA T hkd) hr T.yn T.Zo.kp T.Xd (bc (av 8) (bc (ax hkd (av 4) (av 5)) zc))) (λ_=>rfl)))))) (ze (zx aB)) zK);exact ze (wI (Zh yY ZT PySem.F.slot_list_append PySem.F.type_list_append (pv 8) (bd aI zg) rfl rfl rfl rfl rfl) rfl)) (λ_=>rfl))
  exact ze (zx (QM (ck (XA T hkd) hr T.yn T.Zo.kp T.Xd (bc (Ui (GG T hkd) (hr.mono (by omega)) XI (pv 3) (bc aI zc) rfl rfl rfl) (bc (MO (ax hkd (av 4) (Nj He aI)) (Nj He aI)) zc))) (Gi (ck (XA T hkd) hr T.yn T.Zo.kp T.Xd (bc (Ui (GG T hkd) (hr.mono (by omega)) XI (pv 2) (bc aI zc) rfl rfl rfl) (bc (ax hkd (av 4) aI) zc)))))))
end
abbrev Vn(K:zzA)(x:Str)(f:Addr):Prop:=PySem.W.nsIn K mainGlobals x=some (some (.ref f))
abbrev FnAt(K:zzA)(x q:Str)(s:Stmt)(f:Addr):Prop:=∃d,Fun K x q s f d
def uL{l:PySem.W.OpenLaw}{w:World}{K:zzA}{h:Heap}{mg:Str->Option Value}{fa:Addr}(X:K.In h)(G:h.Ns mainGlobals mg)(hfa:mg "law"=some (.ref fa))
 {f0 f1 f2 f3 f4 f5 f6 f7 f8 f9 f10 f11 f12 f13 f14 f15 f16 f17 f18 f19 f20 f21 f22 f23 f24 f25 f26 f27 f28 f29 f30 f31 f32 f33 f34 f35 f36 f37 f38 f39 f40 f41 f42 f43 f44 f45 f46 f47 f48 C0 C1 C2:Addr}
 {tk0_0:Tok}
 (aC0:PySem.W.nsIn K mainGlobals "Knot"=some (some (.ref C0)))
 (aC1:PySem.W.nsIn K mainGlobals "Makes"=some (some (.ref C1)))
 (aC2:PySem.W.nsIn K mainGlobals "Ways"=some (some (.ref C2)))
 (e0:PySem.W.findIn K (.ref C0) "__init__"=some (some (.ref f8))) (ei0:PySem.W.isFn K (.ref f8)=true) (ek0:PySem.W.keepIn K (.ref f8)=true)
 (e1:PySem.W.findIn K (.ref C1) "__init__"=some (some (.ref f39))) (ei1:PySem.W.isFn K (.ref f39)=true) (ek1:PySem.W.keepIn K (.ref f39)=true)
 (e2:PySem.W.findIn K (.ref C2) "__init__"=some (some (.ref f40))) (ei2:PySem.W.isFn K (.ref f40)=true) (ek2:PySem.W.keepIn K (.ref f40)=true)
 (e3:PySem.W.findIn K (.ref C2) "join"=some (some (.ref f10))) (ei3:PySem.W.isFn K (.ref f10)=true) (ek3:PySem.W.keepIn K (.ref f10)=true)
 (e4:PySem.W.findIn K (.ref C2) "behind"=some (some (.ref f14))) (ei4:PySem.W.isFn K (.ref f14)=true) (ek4:PySem.W.keepIn K (.ref f14)=true)
 (e5:PySem.W.findIn K (.ref C1) "made"=some (some (.ref f46))) (ei5:PySem.W.isFn K (.ref f46)=true) (ek5:PySem.W.keepIn K (.ref f46)=true)
 (e6:PySem.W.findIn K (.ref C2) "made"=some (some (.ref f16))) (ei6:PySem.W.isFn K (.ref f16)=true) (ek6:PySem.W.keepIn K (.ref f16)=true)
 (e7:PySem.W.findIn K (.ref C1) "tree_at"=some (some (.ref f41))) (ei7:PySem.W.isFn K (.ref f41)=true) (ek7:PySem.W.keepIn K (.ref f41)=true)
 (e8:PySem.W.findIn K (.ref C2) "is_value"=some (some (.ref f44))) (ei8:PySem.W.isFn K (.ref f44)=true) (ek8:PySem.W.keepIn K (.ref f44)=true)
 (e9:PySem.W.findIn K (.ref C1) "keep"=some (some (.ref f43))) (ei9:PySem.W.isFn K (.ref f43)=true) (ek9:PySem.W.keepIn K (.ref f43)=true)
 (e10:PySem.W.findIn K (.ref C1) "check_value"=some (some (.ref f45))) (ei10:PySem.W.isFn K (.ref f45)=true) (ek10:PySem.W.keepIn K (.ref f45)=true)
 (e11:PySem.W.findIn K (.ref C1) "listed"=some (some (.ref f42))) (ei11:PySem.W.isFn K (.ref f42)=true) (ek11:PySem.W.keepIn K (.ref f42)=true)
 (e12:PySem.W.findIn K (.ref C1) "many"=some (some (.ref f47))) (ei12:PySem.W.isFn K (.ref f47)=true) (ek12:PySem.W.keepIn K (.ref f47)=true)
 (pg0:PySem.W.plainGet K C0 Str.empty=true) (hd0:PySem.W.hasDictIn K C0=true) (po0:PySem.W.plainOver K C0=true) (sa0:PySem.W.findIn K (.ref C0) "__setattr__"=some (some (.builtin "object.__setattr__"))) (mk0:PySem.W.makesIn K C0=true) (kc0:PySem.W.keepIn K (.ref C0)=true)
 (pg1:PySem.W.plainGet K C1 Str.empty=true) (hd1:PySem.W.hasDictIn K C1=true) (po1:PySem.W.plainOver K C1=true) (sa1:PySem.W.findIn K (.ref C1) "__setattr__"=some (some (.builtin "object.__setattr__"))) (mk1:PySem.W.makesIn K C1=true) (kc1:PySem.W.keepIn K (.ref C1)=true)
 (pg2:PySem.W.plainGet K C2 Str.empty=true) (hd2:PySem.W.hasDictIn K C2=true) (po2:PySem.W.plainOver K C2=true) (sa2:PySem.W.findIn K (.ref C2) "__setattr__"=some (some (.builtin "object.__setattr__"))) (mk2:PySem.W.makesIn K C2=true) (kc2:PySem.W.keepIn K (.ref C2)=true)
 (na0:PySem.W.findIn K (.ref C0) "whole"=some none)
 (na1:PySem.W.findIn K (.ref C0) "back"=some none)
 (na2:PySem.W.findIn K (.ref C0) "wait"=some none)
 (na3:PySem.W.findIn K (.ref C0) "turn"=some none)
 (na4:PySem.W.findIn K (.ref C0) "one"=some none)
 (na5:PySem.W.findIn K (.ref C0) "other"=some none)
 (na6:PySem.W.findIn K (.ref C0) "deep"=some none)
 (na7:PySem.W.findIn K (.ref C0) "size"=some none)
 (na8:PySem.W.findIn K (.ref C2) "size"=some none)
 (na9:PySem.W.findIn K (.ref C2) "table"=some none)
 (na10:PySem.W.findIn K (.ref C2) "around"=some none)
 (na11:PySem.W.findIn K (.ref C1) "way"=some none)
 (na12:PySem.W.findIn K (.ref C1) "trees"=some none)
 (na13:PySem.W.findIn K (.ref C2) "neutral"=some none)
 (na14:PySem.W.findIn K (.ref C2) "waits"=some none)
 (na15:PySem.W.findIn K (.ref C2) "holders"=some none)
 (a0:Vn K "is_whole" f0) (l0:FnAt K "is_whole" "is_whole" X7 f0)
 (a1:Vn K "is_within" f1) (l1:FnAt K "is_within" "is_within" Y7 f1)
 (a2:Vn K "nothing_fails" f2) (l2:FnAt K "nothing_fails" "nothing_fails" vg f2)
 (a3:Vn K "parting_fails" f3) (l3:FnAt K "parting_fails" "parting_fails" vo f3)
 (a4:Vn K "doing_fails" f4) (l4:FnAt K "doing_fails" "doing_fails" Zt f4)
 (a5:Vn K "deeds_fail" f5) (l5:FnAt K "deeds_fail" "deeds_fail" Yl f5)
 (a6:Vn K "what_fails" f6) (l6:FnAt K "what_fails" "what_fails" Yr f6)
 (a7:Vn K "check_let_by" f7) (l7:FnAt K "check_let_by" "check_let_by" v3 f7)
 (l8:FnAt K "__init__" "Knot.__init__" vp f8)
 (a9:Vn K "leaf_of" f9) (l9:FnAt K "leaf_of" "leaf_of" V_ f9)
 (l10:FnAt K "join" "Ways.join" Y9 f10)
 (a11:Vn K "knot_of" f11) (l11:FnAt K "knot_of" "knot_of" V8 f11)
 (a12:Vn K "tree_of" f12) (l12:FnAt K "tree_of" "tree_of" Qg f12)
 (a13:Vn K "size_of" f13) (l13:FnAt K "size_of" "size_of" Qe f13)
 (l14:FnAt K "behind" "Ways.behind" w_ f14)
 (a15:Vn K "both_waits" f15) (l15:FnAt K "both_waits" "both_waits" Yv f15)
 (l16:FnAt K "made" "Ways.made" Y3 f16)
 (a17:Vn K "gather" f17) (l17:FnAt K "gather" "gather" UC f17)
 (a18:Vn K "row_of" f18) (l18:FnAt K "row_of" "row_of" UN f18)
 (a19:Vn K "check_size" f19) (l19:FnAt K "check_size" "check_size" Yn f19)
 (a20:Vn K "firm" f20) (l20:FnAt K "firm" "firm" Gq f20)
 (a21:Vn K "_law_draw" f21) (l21:FnAt K "_law_draw" "_law_draw" Wi f21)
 (a22:Vn K "_law_digits" f22) (l22:FnAt K "_law_digits" "_law_digits" Yp f22)
 (a23:Vn K "_law_names" f23) (l23:FnAt K "_law_names" "_law_names" YY f23)
 (a24:Vn K "_law_part_join" f24) (l24:FnAt K "_law_part_join" "_law_part_join" vq f24)
 (a25:Vn K "_law_part_done" f25) (l25:FnAt K "_law_part_done" "_law_part_done" x_ f25)
 (a26:Vn K "_law_parts" f26) (l26:FnAt K "_law_parts" "_law_parts" Xb f26)
 (a27:Vn K "_law_split" f27) (l27:FnAt K "_law_split" "_law_split" Y6 f27)
 (a28:Vn K "_law_laid" f28) (l28:FnAt K "_law_laid" "_law_laid" Wl f28)
 (a29:Vn K "_law_order" f29) (l29:FnAt K "_law_order" "_law_order" Xa f29)
 (a30:Vn K "_law_algebra" f30) (l30:FnAt K "_law_algebra" "_law_algebra" ym f30)
 (a31:Vn K "_law_by_digits" f31) (l31:FnAt K "_law_by_digits" "_law_by_digits" yE f31)
 (a32:Vn K "_law_does" f32) (l32:FnAt K "_law_does" "_law_does" X9 f32)
 (a33:Vn K "_law_is_good" f33) (l33:FnAt K "_law_is_good" "_law_is_good" we f33)
 (a34:Vn K "_law_any" f34) (l34:FnAt K "_law_any" "_law_any" Qi f34)
 (a35:Vn K "_law_copy" f35) (l35:FnAt K "_law_copy" "_law_copy" vC f35)
 (a36:Vn K "_law_row" f36) (l36:FnAt K "_law_row" "_law_row" Qb f36)
 (a37:Vn K "_law_is_list" f37) (l37:FnAt K "_law_is_list" "_law_is_list" va f37)
 (a38:Vn K "_law_is_number" f38) (l38:FnAt K "_law_is_number" "_law_is_number" vd f38)
 (l39:FnAt K "__init__" "Makes.__init__" wG f39)
 (l40:FnAt K "__init__" "Ways.__init__" xh f40)
 (l41:FnAt K "tree_at" "Makes.tree_at" vh f41)
 (l42:FnAt K "listed" "Makes.listed" vW f42)
 (l43:FnAt K "keep" "Makes.keep" Ym f43)
 (l44:FnAt K "is_value" "Ways.is_value" vk f44)
 (l45:FnAt K "check_value" "Makes.check_value" xD f45)
 (l46:FnAt K "made" "Makes.made" YB f46)
 (l47:FnAt K "many" "Makes.many" Yu f47)
 (a48:Vn K "law" f48) (l48:FnAt K "law" "law" B_ f48)
 (cg0:PySem.W.nsIn K mainGlobals "MOST_IN_ROW"=some (some (.int 300 tk0_0)))
 (z0:PySem.W.nsIn K mainGlobals "bool"=some none) (z1:PySem.W.nsIn K mainGlobals "dict"=some none) (z2:PySem.W.nsIn K mainGlobals "divmod"=some none) (z3:PySem.W.nsIn K mainGlobals "int"=some none) (z4:PySem.W.nsIn K mainGlobals "isinstance"=some none) (z5:PySem.W.nsIn K mainGlobals "len"=some none) (z6:PySem.W.nsIn K mainGlobals "list"=some none) (z7:PySem.W.nsIn K mainGlobals "max"=some none) (z8:PySem.W.nsIn K mainGlobals "min"=some none) (z9:PySem.W.nsIn K mainGlobals "range"=some none) (z10:PySem.W.nsIn K mainGlobals "sum"=some none) (z11:PySem.W.nsIn K mainGlobals "tuple"=some none) (z12:PySem.W.nsIn K mainGlobals "zip"=some none):
 ∃fd:FuncData,(∀(s:Shared) (v:Value),BindsTo s fd ⟨[v],[]⟩ [("_law_script",v)])/\∀base:Heap,K.In base->base.Ns mainGlobals mg->FnOk l.prog w K mg base xC 25 fa fd ["_law_script"] (lE K Kv):=by
 have e:=hfa.symm.trans (PySem.W.mg_of X G a48);cases e;obtain⟨_,F0⟩:=l0;obtain⟨_,F1⟩:=l1;obtain⟨_,F2⟩:=l2;obtain⟨_,F3⟩:=l3;obtain⟨_,F4⟩:=l4;obtain⟨_,F5⟩:=l5;obtain⟨_,F6⟩:=l6;obtain⟨_,F7⟩:=l7;obtain⟨_,F8⟩:=l8;have b8:=F8.binds (ps:=["self","whole","back","wait","turn","one","other"]) λ_ _ _ _ _ _ us hl=>match us,hl with | [_,_,_,_,_,_,_],_=>rfl
 obtain⟨_,F9⟩:=l9;obtain⟨_,F10⟩:=l10;obtain⟨_,F11⟩:=l11;obtain⟨_,F12⟩:=l12;obtain⟨_,F13⟩:=l13;obtain⟨_,F14⟩:=l14;obtain⟨_,F15⟩:=l15;obtain⟨_,F16⟩:=l16;obtain⟨_,F17⟩:=l17;obtain⟨_,F18⟩:=l18;obtain⟨_,F19⟩:=l19;obtain⟨_,F20⟩:=l20;obtain⟨_,F21⟩:=l21;obtain⟨_,F22⟩:=l22;obtain⟨_,F23⟩:=l23;obtain⟨_,F24⟩:=l24;obtain⟨_,F25⟩:=l25;obtain⟨_,F26⟩:=l26;obtain⟨_,F27⟩:=l27;obtain⟨_,F28⟩:=l28;obtain⟨_,F29⟩:=l29;obtain⟨_,F30⟩:=l30;obtain⟨_,F31⟩:=l31;obtain⟨_,F32⟩:=l32;obtain⟨_,F33⟩:=l33;obtain⟨_,F34⟩:=l34;obtain⟨_,F35⟩:=l35;obtain⟨_,F36⟩:=l36;obtain⟨_,F37⟩:=l37;obtain⟨_,F38⟩:=l38;obtain⟨_,F39⟩:=l39;obtain⟨_,F40⟩:=l40;obtain⟨_,F41⟩:=l41;obtain⟨_,F42⟩:=l42;obtain⟨_,F43⟩:=l43;obtain⟨_,F44⟩:=l44;obtain⟨_,F45⟩:=l45;obtain⟨_,F46⟩:=l46;obtain⟨_,F47⟩:=l47;obtain⟨_,F48⟩:=l48;obtain⟨_,_,_,_,_,_,_,_,_,rfl,_,_⟩:=F48.ex;let KL:List (Addr×List (Key×V)):=[];have hkd:vb l.prog w K (lD KL (Jg mg)):=uC λp m=>by
  exact absurd (show p ∈ ([]:List (Addr×List (Key×V)))from m) zxB
 have T:Txt K (lD KL (Jg mg)) mg ⟨_,_,_,_,_,_,_,_,_,_,_,_,_,_,_,_,_,_,_,_,_,_,_,_,_,_,_,_,_,_,_,_,_,_,_,_,_,_,_,_,_,_,_,_,_,_,_,_,_,_,_,_,_,_,_,_,_,_,_,_,_,_,_,_,_,_,_,_,_,_,_,_,_,_,_,_,_,_,_,_,_,_,_,_,_,_,_,_,_,_,_,_,_,_,_,_,_,_,_,_,_⟩:=⟨F0,bs F0,PySem.W.mg_of X G a0,F1,bs F1,PySem.W.mg_of X G a1,F2,bs F2,PySem.W.mg_of X G a2,F3,bs F3,PySem.W.mg_of X G a3,F4,bs F4,PySem.W.mg_of X G a4,F5,bs F5,PySem.W.mg_of X G a5,F6,bs F6,PySem.W.mg_of X G a6,F7,bs F7,PySem.W.mg_of X G a7,F8,b8,F9,bs F9,PySem.W.mg_of X G a9,F10,bs F10,F11,bs F11,PySem.W.mg_of X G a11,F12,bs F12,PySem.W.mg_of X G a12,F13,bs F13,PySem.W.mg_of X G a13,F14,bs F14,F15,bs F15,PySem.W.mg_of X G a15,F16,bs F16,F17,bs F17,PySem.W.mg_of X G a17,F18,bs F18,PySem.W.mg_of X G a18,F19,bs F19,PySem.W.mg_of X G a19,F20,bs F20,PySem.W.mg_of X G a20,F21,bs F21,PySem.W.mg_of X G a21,F22,bs F22,PySem.W.mg_of X G a22,F23,bs F23,PySem.W.mg_of X G a23,F24,bs F24,PySem.W.mg_of X G a24,F25,bs F25,PySem.W.mg_of X G a25,F26,bs F26,PySem.W.mg_of X G a26,F27,bs F27,PySem.W.mg_of X G a27,F28,bs F28,PySem.W.mg_of X G a28,F29,bs F29,PySem.W.mg_of X G a29,F30,bs F30,PySem.W.mg_of X G a30,F31,bs F31,PySem.W.mg_of X G a31,F32,bs F32,PySem.W.mg_of X G a32,F33,bs F33,PySem.W.mg_of X G a33,F34,bs F34,PySem.W.mg_of X G a34,F35,bs F35,PySem.W.mg_of X G a35,F36,bs F36,PySem.W.mg_of X G a36,F37,bs F37,PySem.W.mg_of X G a37,F38,bs F38,PySem.W.mg_of X G a38,F39,bs F39,F40,bs F40,F41,bs F41,F42,bs F42,F43,bs F43,F44,bs F44,F45,bs F45,F46,bs F46,F47,bs F47,F48,bs F48,PySem.W.mg_of X G a48,⟨Mo (PySem.W.mg_of X G aC0),⟨pg0,hd0,po0,sa0⟩,mk0,kc0,PySem.W.mg_of X G aC0⟩,⟨Mo (PySem.W.mg_of X G aC1),⟨pg1,hd1,po1,sa1⟩,mk1,kc1,PySem.W.mg_of X G aC1⟩,⟨Mo (PySem.W.mg_of X G aC2),⟨pg2,hd2,po2,sa2⟩,mk2,kc2,PySem.W.mg_of X G aC2⟩,⟨e0,ei0,ek0⟩,⟨e1,ei1,ek1⟩,⟨e2,ei2,ek2⟩,⟨e3,ei3,ek3⟩,⟨e4,ei4,ek4⟩,⟨e5,ei5,ek5⟩,⟨e6,ei6,ek6⟩,⟨e7,ei7,ek7⟩,⟨e8,ei8,ek8⟩,⟨e9,ei9,ek9⟩,⟨e10,ei10,ek10⟩,⟨e11,ei11,ek11⟩,⟨e12,ei12,ek12⟩,na0,na1,na2,na3,na4,na5,na6,na7,na8,na9,na10,na11,na12,na13,na14,na15,GC.int (PySem.W.mg_of X G cg0),PySem.W.mg_none_of X G z0,PySem.W.mg_none_of X G z1,PySem.W.mg_none_of X G z2,PySem.W.mg_none_of X G z3,PySem.W.mg_none_of X G z4,PySem.W.mg_none_of X G z5,PySem.W.mg_none_of X G z6,PySem.W.mg_none_of X G z7,PySem.W.mg_none_of X G z8,PySem.W.mg_none_of X G z9,PySem.W.mg_none_of X G z10,PySem.W.mg_none_of X G z11,PySem.W.mg_none_of X G z12⟩;exact⟨_,λs v=>.of_eq rfl,λbase _ _=>(qG T hkd).imp λvs H Q E h=>h _⟩
def walk{l:PySem.W.OpenLaw}{q:Program}{loose:List Str}{XP:(Str->Option Value)->Heap->Prop}{YP:World->Heap->Prop}{d:DefRec}{K:Params->zzA}(hn:l.most=some 63)(hdf:d.params.defaults=[])
 (hY:∀(w:World) (h:Heap),YP w h->(K w.params).In h) (hm:∀ns:List Int,ns.length<=63->Kv [(true,.lst (ns.map D.int))]=some (.lf true (.bl true)))
 (F:∀(w:World) (mg:Str->Option Value) (fa:Addr) (h:Heap),(K w.params).In h->h.Ns mainGlobals mg->mg d.name=some (.ref fa)->
  ∃fd:FuncData,(∀(s:Shared) (u:Value),BindsTo s fd ⟨[u],[]⟩ [("_law_script",u)])/\∀base:Heap,(K w.params).In base->base.Ns mainGlobals mg->FnOk l.prog w (K w.params) mg base xC 25 fa fd ["_law_script"] (lE (K w.params) Kv)):
 PySem.W.WalkO q loose XP YP l.row.toRowW d [] (λf vs=>PySem.call f vs):=
 L2.walk_of (n:=63) (k:=25) (x:="_law_script") (CX:=λ_=>xC) (sp:=λw=>lE (K w.params) Kv) hn (by decide) hdf ⟨rfl,by decide,by decide,rfl⟩ hY F (λ_ _ a ns hl _ hS kd=>ri (hm ns hl) hS) λ_ _ _ _ _ z=>z
local macro_rules | `(tactic| trivial)=>`(tactic| first|with_reducible first|assumption|exact Int.natCast_nonneg _|exact Nat.le_refl _|exact Int.le_refl _|exact rfl|exact tR (by assumption)|exact rB (by assumption)|exact np2 (by assumption)|exact nq1 (by assumption)|exact nq2 (by assumption)|exact Int.natCast_pos.mpr (by assumption)|exact Nat.le_trans (by assumption) (by decide)|exact bgL _|exact bgU (by assumption)|exact mU (by assumption)|exact zI _|exact bL0 (by assumption)|exact bU0 (by assumption) (by assumption)|exact iL (by assumption)|exact iU (by assumption) (by assumption)|exact iC (by assumption)|exact iT (by assumption)|exact stL (by assumption)|exact stU (by assumption)|exact lnK (by assumption) (by assumption) (by assumption)|exact zi1 _|exact lnE (by assumption)|exact ltL (by assumption)|exact Int.toNat_of_nonneg (by assumption)|exact tS (by assumption) (by assumption)|exact b6 (by assumption)|exact Int.emod_nonneg _ (by decide)|exact Int.emod_lt_of_pos _ (by decide)|decide|omega)
section
variable{n m:Nat}{J T:TZ}{e:Int}{Ds:DD}{S:SS}
def FQ(n8:n<=8)(hJ:Tab n n J)(he:zQ n e):HD (wd [(true,xB n m J e Ds S)]) (nM n J e):=by
 refine HD.imp (P:=nM n J e/\True) (FZ rfl ?_) ⟨λz=>z.1,λz=>⟨z,trivial⟩⟩;have d:zy true 1 (f2 zw xY zN) [sT (xB n m J e Ds S),none,none,none]=some (.nx [sT (xB n m J e Ds S),sT (xJ J),none,none]):=zX (wO (za rfl) zb rfl) (zo rfl);have i:zy true 2 (f2 zw Qn zN) [sT (xB n m J e Ds S),sT (xJ J),none,none]=some (.nx [sT (xB n m J e Ds S),sT (xJ J),sI e,none]):=zX (wO (za rfl) zb rfl) (zo rfl);have k:=NR (g:=zL (fC .non)) (sh (S:=λx y z=>[sT (xB n m J e Ds S),sT (xJ J),sI e,x]) (x:=none) (y:=none) (z:=none) (vj:=1) (ve:=2) hJ he (λ_ _ _=>rfl) (λ_ _ _=>rfl) (λ_ _ _=>rfl) (λ_ _ _ _=>rfl)) λ_ _ _=>ND;have j:∀f:SF,yU (yM (aC (f2 zw yS zN) aN) y_) (gN 3) f [sT (xB n m J e Ds S),sT (xJ J),sI e,none]=forL (gN 3) f (y2 0 n) [sT (xB n m J e Ds S),sT (xJ J),sI e,none]:=λf=>yI (xX (zr (zJ (za rfl) zb rfl rfl) zB) (by trivial) (by trivial)) (by rw[zyI]);have c:∀x,Rt (zj (λas=>forL (gN 3) rR (y2 0 n) as) (zL (fC .non)) [sT (xB n m J e Ds S),sT (xJ J),sI e,none]) x->Rt (ZM (v9 4 [(true,xB n m J e Ds S)])) x:=λx h=>by
  refine zm d (zm i ?_);obtain⟨o,a,b⟩:=h;refine⟨o, ?_,b⟩;unfold zj at a ⊢;rw[j];exact a
 rcases k with⟨k,p⟩|⟨⟨l,k⟩,p⟩
 . exact .inl ⟨c _ k,p⟩
 . exact .inr ⟨⟨l,c _ k⟩,p⟩
def Bp(n8:n<=8)(hJ:Tab n n J):HD (x5 [(true,xB n m J e Ds S)]) (As n J):=by
 have a:zy true 1 (f2 zw yS zN) [sT (xB n m J e Ds S),none,none,none,none,none]=some (.nx [sT (xB n m J e Ds S),sI n,none,none,none,none]):=zX (wO (za rfl) zb rfl) (zo rfl);have b:zy true 2 (f2 zw xY zN) [sT (xB n m J e Ds S),sI n,none,none,none,none]=some (.nx [sT (xB n m J e Ds S),sI n,sT (xJ J),none,none,none]):=zX (wO (za rfl) zb rfl) (zo rfl);have k:=Aq (S:=λx y z=>[sT (xB n m J e Ds S),sI n,sT (xJ J),x,y,z]) (x:=none) (y:=none) (z:=none) (vj:=2) (vn:=1) n8 hJ (λ_ _ _=>rfl) (λ_ _ _=>rfl) (λ_ _ _=>rfl) (λ_ _ _=>rfl) (λ_ _ _=>rfl) (λ_ _ _ _=>rfl) (λ_ _ _ _=>rfl) (λ_ _ _ _=>rfl);rw[<-X5 (v:=1) rfl (by trivial)]at k;refine HD.imp (P:=As n J/\True) (FZ rfl ?_) ⟨λz=>z.1,λz=>⟨z,trivial⟩⟩
 rcases NR k λ_ _ _=>ND with⟨k,p⟩|⟨⟨c,k⟩,p⟩
 . exact .inl ⟨zm a (zm b k),p⟩
 . exact .inr ⟨⟨c,zm a (zm b k)⟩,p⟩
def Iy{s:Str}(n8:n<=8)(m1:1<=m)(m6:m<=6)(hJ:Tab n n J)(hT:Tab m n T):HD (w5 [(true,xB n m J e Ds S),(true,.str s),(true,xJ T)]) (Dn n m J T):=by
 have k:TQ (forL (gN 6) (yU (yM (aC yG aN) y_) (gN 7) (yU (yM GQ y_) (gN 8) (yU (yM (aC yG aN) y_) (gN 9) nR))) (y2 0 n) (LS n m J T e Ds S s none none none none)) (λas=>∃x y z w,as=LS n m J T e Ds S s x y z w) (Dn n m J T):=by
  refine VX (fr:=w4) (λas=>∃x y z w,as=LS n m J T e Ds S s x y z w) _ (λa r as c=>?_) ⟨_,_,_,_,rfl⟩;obtain⟨x,y,z,w,rfl⟩:=c;refine⟨LS n m J T e Ds S s (sI a) y z w,rfl, ?_⟩;rw[X5 rfl (by trivial)];have k:=VX (v:=7) (fr:=w4) (f:=yU (yM GQ y_) (gN 8) (yU (yM (aC yG aN) y_) (gN 9) nR)) (as:=LS n m J T e Ds S s (sI a) y z w) (λas=>∃y z w,as=LS n m J T e Ds S s (sI a) y z w) (λi=>∀b,zQ n b->∀k,zQ m k->yA T ((i+k)%m) (yA J a b)=yA J (yA T i a) (yA T k b)) (λi t as c=>by
   obtain⟨y,z,w,rfl⟩:=c;refine⟨LS n m J T e Ds S s (sI a) (sI i) z w,rfl, ?_⟩;rw[X5 rfl (by trivial)];have k:=VX (v:=8) (fr:=w4) (f:=yU (yM (aC yG aN) y_) (gN 9) nR) (as:=LS n m J T e Ds S s (sI a) (sI i) z w) (λas=>∃z w,as=LS n m J T e Ds S s (sI a) (sI i) z w) (λb=>∀k,zQ m k->yA T ((i+k)%m) (yA J a b)=yA J (yA T i a) (yA T k b)) (λb u as c=>by
    obtain⟨z,w,rfl⟩:=c;refine⟨LS n m J T e Ds S s (sI a) (sI i) (sI b) w,rfl, ?_⟩;rw[X5 rfl (by trivial)]
    rcases jF hJ hT m1 r t u with⟨d,g,⟨j,rfl⟩,h⟩|k
    . exact .inl ⟨_,g,⟨_,_,rfl⟩,h⟩
    . exact .inr k) ⟨_,_,rfl⟩
   rcases k with⟨d,g,⟨A,j,rfl⟩,h⟩|k
   . exact .inl ⟨_,g,⟨_,_,_,rfl⟩,h⟩
   . exact .inr k) ⟨_,_,_,rfl⟩
  rcases k with⟨d,g,⟨C,A,j,rfl⟩,h⟩|k
  . exact .inl ⟨_,g,⟨_,_,_,_,rfl⟩,h⟩
  . exact .inr k
 rw[<-X5 (v:=3) rfl (by trivial)]at k;have l:zy true 3 (f2 zw yS zN) [sT (xB n m J e Ds S),sT (.str s),sT (xJ T),none,none,none,none,none,none,none]=some (.nx [sT (xB n m J e Ds S),sT (.str s),sT (xJ T),sI n,none,none,none,none,none,none]):=zX (wO (za rfl) zb rfl) (zo rfl);have o:zy true 4 (f2 zw yB zN) [sT (xB n m J e Ds S),sT (.str s),sT (xJ T),sI n,none,none,none,none,none,none]=some (.nx [sT (xB n m J e Ds S),sT (.str s),sT (xJ T),sI n,sI m,none,none,none,none,none]):=zX (wO (za rfl) zb rfl) (zo rfl);have q:zy true 5 (f2 zw xY zN) [sT (xB n m J e Ds S),sT (.str s),sT (xJ T),sI n,sI m,none,none,none,none,none]=some (.nx (LS n m J T e Ds S s none none none none)):=zX (wO (za rfl) zb rfl) (zo rfl);refine HD.imp (P:=Dn n m J T/\True) (FZ rfl ?_) ⟨λz=>z.1,λz=>⟨z,trivial⟩⟩
 rcases NR k λ_ _ _=>ND with⟨k,p⟩|⟨⟨B,k⟩,p⟩
 . exact .inl ⟨zm l (zm o (zm q k)),p⟩
 . exact .inr ⟨⟨B,zm l (zm o (zm q k))⟩,p⟩
def FF(A:Alg n m J e Ds)(L:LawA n m J e Ds):RE (vX [(true,xB n m J e Ds S)]) .non:=by
 have k:=A.n8;have l:=A.m1;have o:zy true 1 (f2 zw Qn zN) [sT (xB n m J e Ds S),none,none,none,none]=some (.nx [sT (xB n m J e Ds S),sI e,none,none,none]):=zX (wO (za rfl) zb rfl) (zo rfl);obtain⟨q,r,x,y,z,rfl⟩:=xm (g:=gT 2 (wj (gN 2) (wj (gN 3) Qm))) (f:=(zj qu
  (zj o5
  (vG (fT (f2 yG (fC .non) (zP .IsNot))) (zL yG) w4))))
  (λi as=>∃(x y z:Option O),as=[sT (xB n m J e Ds S),sI e,x,y,z])
  ((Ds.map QB).map λd=>(true,d)) 0 [sT (xB n m J e Ds S),sI e,none,none,none] (λi x as a t=>by
    obtain⟨x,y,z,rfl⟩:=t;rw[zyB,zzI]at a;obtain⟨p,u,rfl⟩:=zzX.mp a;have b:=zyA u;have c:=A.ds p b;obtain⟨v,_⟩:=Vx (as:=[sT (xB n m J e Ds S),sI e,sT (.str p.1),sT (xJ p.2),z]) c ⟨by trivial,by trivial⟩ ⟨A.e0,A.en⟩ (za (i:=3) rfl) (zb) (za (i:=1) rfl);have h:=Of v (za (i:=1) rfl);rw[(L.ld p b).em,show(!(e==e))=false by simp]at h;have d:=(Iy (s:=p.1) (e:=e) (Ds:=Ds) (S:=S) k l A.m6 A.j c).none (L.dn b);exact⟨_,rfl,_,zp (zT h rfl) (zp (ZE (Pg (WD.e (za rfl)) (WD.e (za rfl)) (WD.e (za rfl)) d) (zo rfl)) (zT (yV (zJ (za rfl) zb rfl rfl) rfl) rfl)),_,_,_,rfl⟩)
  ⟨_,_,_,rfl⟩
 exact yJ rfl (zm o (zm (yI (B3 (wO (za rfl) zb rfl)) r) (yF (WD.e zb))))
def Hw(A:Alg n m J e Ds)(L:LawA n m J e Ds):RE (vT [(true,xB n m J e Ds S)]) .non:=by
 have b:=(FQ (m:=m) (Ds:=Ds) (S:=S) A.n8 A.j ⟨A.e0,A.en⟩).none L.un;have c:=(Bp (m:=m) (e:=e) (Ds:=Ds) (S:=S) A.n8 A.j).none L.as;have d:=FF (S:=S) A L;have a:WT (fT (f2 zA (fC .non) (zP .Is))) [sT (xB n m J e Ds S),sT .non] true:=yV (zJ (za rfl) zb rfl rfl) rfl;exact yJ rfl (zm (ZE (vt (WD.e (za rfl)) b) (zo rfl)) (zm (xN a (ZE (vt (WD.e (za rfl)) c) (zo rfl))) (zm (xN a (ZE (vt (WD.e (za rfl)) d) (zo rfl))) (yF (WD.e (za rfl))))))
end
open L2 (Pb)
abbrev nK(p:Str×TZ):L2.Key×D:=(Sum.inr p.1,XF p.2)
abbrev nJ(p:Str×List Int):L2.Key×D:=(Sum.inr p.1,Kc p.2)
abbrev sR:List Str:=["size","around","table","neutral","waits","holders"]
abbrev Cr(n m:Nat)(J:TZ)(e:Int)(Ds:DD)(S:SS):D:=.ob "Ways" sR [.int n,.int m,XF J,.int e,.dct (Ds.map nK),.dct (S.map nJ)]
def WX{α:Type}{f:EF}{as:AS}{g:α->D}{l:List α}(h:WE f as (.lst (l.map g))):wW f as=some (l.map λa=>(true,g a),as):=by
 have:=rY h;rw[zyB]at this;exact this
def Sv{T:TZ}(hl:T.length<=1000):RE (QP [(true,xJ T)]) (XF T):=
 yJ rfl (yF (U_ (Rm T (WX (WD.e (za rfl))) (by omega) λr _=>⟨_,rfl,U_ (WD.e (za rfl)) rfl⟩) rfl))
section
variable{n m:Nat}{J:TZ}{e:Int}{Ds:DD}{S:SS}
def C7(A:Alg n m J e Ds)(L:LawA n m J e Ds):RE (xI [(true,xB n m J e Ds S)]) .non:=by
 have h:YQ (v9 2 [(true,xB n m J e Ds S)])=some (.nx [sT (xB n m J e Ds S),sT .non]):=zp (ZE (vt (WD.e (za rfl)) (Hw A L)) (zo rfl)) (zT (yV (zJ (za rfl) zb rfl rfl) rfl) rfl);refine⟨.lf true .non, ?_,rfl,rfl⟩;unfold xI ZD;rw[if_pos (by rfl),h];rfl
def A_(A:Alg n m J e Ds)(L:LawA n m J e Ds)(sl:S.length<=4)(sn:(S.map (·.1)).Nodup):RE (vi "Ways" [(true,xB n m J e Ds S)]) (Cr n m J e Ds S):=by
 have f:=A.dl;have g:=A.n8;have k:=A.m6;have a:∀o,WD zA [o,sT (xB n m J e Ds S)] true (xB n m J e Ds S):=λo=>za rfl;have c:∀o,WE oy [o,sT (xB n m J e Ds S)] (.dct (Ds.map nK)):=λo=>
  qo A.nd (Rm Ds (WX (Nl (WD.e (a o)) (WD.e zb) rfl)) (by omega) λp b=>⟨_,rfl,vY (WD.e (za rfl)) (vt (WD.e (za rfl)) (Sv (by rw[(A.ds p b).1];omega)))⟩)
 have d:∀o,WE p6 [o,sT (xB n m J e Ds S)] (.dct (S.map nJ)):=λo=>
  qo sn (Rm S (WX (Nl (WD.e (a o)) (WD.e zb) rfl)) (by omega) λp b=>⟨_,rfl,vY (WD.e (za rfl)) (U_ (WD.e (za rfl)) rfl)⟩)
 have h:Z9 (Xk 2 (pQ "Ways"::[(true,xB n m J e Ds S)].map IE))=some [some (.nd (.ob "Ways" sR) [.lf true (.int n),.lf true (.int m),.lf true (XF J),.lf true (.int e),.lf true (.dct (Ds.map nK)),.lf true (.dct (S.map nJ))]),sT (xB n m J e Ds S)]:=
  yO (Ib (vt (WD.e (a _)) (C7 A L))) (yO (y9 (Nl (WD.e (a _)) (WD.e zb) rfl) rfl (by decide +kernel) (by decide +kernel) (by decide)) (yO (y9 (Nl (WD.e (a _)) (WD.e zb) rfl) rfl (by decide +kernel) (by decide +kernel) (by decide)) (yO (y9 (vt (Nl (WD.e (a _)) (WD.e zb) rfl) (Sv (by rw[A.j.1];omega))) rfl (by decide +kernel) (by decide +kernel) (by decide)) (yO (y9 (Nl (WD.e (a _)) (WD.e zb) rfl) rfl (by decide +kernel) (by decide +kernel) (by decide)) (yO (y9 (c _) rfl (by decide +kernel) (by decide +kernel) (by decide)) (y9 (i:=0) (d _) rfl (by decide +kernel) (by decide +kernel) (by decide)))))))
 refine⟨.nd (.ob "Ways" sR) [.lf true (.int n),.lf true (.int m),.lf true (XF J),.lf true (.int e),.lf true (.dct (Ds.map nK)),.lf true (.dct (S.map nJ))], ?_,rfl,rfl⟩;unfold vi D7;rw[if_pos (by rfl),h];rfl
def Ox{a b:Int}(hJ:Tab n n J)(ha:zQ n a)(hb:zQ n b):RE (VU [(true,Cr n m J e Ds S),(true,.int a),(true,.int b)]) (.int (yA J a b)):=
 yJ rfl (yF (WD.e (HJ hJ ha hb (qM rfl (by decide +kernel) rfl) (za rfl) (za rfl))))
end
structure Cx where
 n:Nat
 m:Nat
 J:TZ
 e:Int
 Ds:DD
 S:SS
abbrev Cx.w(c:Cx):D:=Cr c.n c.m c.J c.e c.Ds c.S
abbrev Cx.g(c:Cx):D:=xB c.n c.m c.J c.e c.Ds c.S
abbrev Cx.h(c:Cx):List Int->Int:=rF c.J c.e
abbrev Cx.In(c:Cx)(r:List Int):Prop:=∀x ∈ r,zQ c.n x
structure Cx.Ok(c:Cx):Prop where
 A:Alg c.n c.m c.J c.e c.Ds
 L:LawA c.n c.m c.J c.e c.Ds
structure Cx.W(c:Cx)(T:TZ):Prop where
 t:Tab c.m c.n T
 l:LD c.n c.m (yA c.J) c.e (yA T)
def TY:Option TZ->D
 |none=>.non
 |some T=>XF T
def Cx.wok(c:Cx):Option TZ->Prop
 |none=>True
 |some T=>c.W T
def Cx.ap(c:Cx):Option TZ->List Int->List Int
 |none,r=>r
 |some T,r=>r.map (yA T (1%(c.m:Int)))
def tn:Bool->List Int->List Int
 |false,r=>r
 |true,r=>r.reverse
abbrev pL:List Str:=["whole","back","wait","turn","one","other","deep","size"]
abbrev kn(w b:Int)(q:D)(t:Bool)(x y:D)(p s:Int):D:=.ob "Knot" pL [.int w,.int b,q,.bl t,x,y,.int p,.int s]
inductive TK(c:Cx):D->List Int->Nat->Prop
 |lf (v:Int) (t:Bool):zQ c.n v->TK c (kn v v .non t .non .non 0 1) [v] 0
 |nd (w:Option TZ) (t:Bool) {x y:D}{r s:List Int}{p q:Nat}{R:List Int}:TK c x r p->TK c y s q->p<=q+1->q<=p+1->c.wok w->R=tn t (c.ap w (r++s))->TK c (kn (c.h R) (c.h R.reverse) (TY w) t x y ((1+max p q:Nat):Int) (R.length:Int)) R (1+max p q)
section
variable{c:Cx}{d:D}{R:List Int}{p:Nat}
def Mi(w:Option TZ)(r:List Int):(c.ap w r).length=r.length:=by cases w with
 |none=>rfl
 |some T=>exact zzB ..
def Mf(t:Bool)(r:List Int):(tn t r).length=r.length:=by cases t with
 |false=>rfl
 |true=>exact List.length_reverse ..
def sr(w:Option TZ)(r s:List Int):c.ap w (r++s)=c.ap w r++c.ap w s:=by cases w with
 |none=>rfl
 |some T=>exact zyM ..
def pW(w:Option TZ)(t:Bool)(r:List Int):c.ap w (tn t r)=tn t (c.ap w r):=by cases w with
 |none=>rfl
 |some T=>cases t with
  |false=>rfl
  |true=>exact List.map_reverse ..
def qi(t u:Bool)(r:List Int):tn t (tn u r)=tn (u != t) r:=by cases t<;>cases u<;>first|rfl|exact List.reverse_reverse r
theorem Cx.Ok.m1(h:c.Ok):zQ c.m (1%(c.m:Int)):=U1 h.A.m1
def oC(h:c.Ok){w:Option TZ}(hw:c.wok w){r:List Int}(k:c.In r):c.In (c.ap w r):=by cases w with
 |none=>exact k
 |some T=>
  intro x a;obtain⟨z,b,rfl⟩:=zxD.mp a;exact hw.l.cl _ _ h.m1 (k z b)
def DN{t:Bool}{r:List Int}(k:c.In r):c.In (tn t r):=by cases t with
 |false=>exact k
 |true=>exact λx a=>k x (List.mem_reverse.mp a)
def OQ{r s:List Int}(k:c.In r)(l:c.In s):c.In (r++s):=λx a=>(zzM.mp a).elim (k x) (l x)
def TK.in(h:c.Ok):TK c d R p->c.In R:=λk=>by
 induction k with
 |lf v t g=>exact λx f=>by rcases zzC.mp f with rfl|f;exact g;exact nomatch f
 |nd w t a b _ _ l e i j=>subst e;exact DN (oC h l (OQ i j))
def TK.rev(h:c.Ok)(k:TK c d R p):c.In R.reverse:=DN (t:=true) (k.in h)
def fb:Nat->Nat
 |0=>1
 |1=>2
 |k+2=>fb (k+1)+fb k
def pf:∀k,fb k<=fb (k+1)
 |0=>by decide
 |k+1=>by show _<=fb (k+1)+fb k;omega
def DT{a b:Nat}(h:a<=b):fb a<=fb b:=by
 induction h with
 |refl=>exact zzN _
 |step _ i=>exact zzO i (pf _)
theorem TK.fb(k:TK c d R p):fb p<=R.length:=by
 induction k with
 |lf=>exact zzN _
 | @nd w t x y r s p q R a b f g l e i j=>
  subst e;rw[Mf,Mi,zzJ]
  by_cases h:q<=p
  . rw[Nat.max_eq_left h,Nat.add_comm 1 p];cases p with
    |zero=>rw[show q=0 by omega]at j;exact Nat.add_le_add i j
    |succ p=>
     have:G40.fb p<=G40.fb q:=DT (by omega);show G40.fb (p+1)+G40.fb p<=_;omega
  . rw[Nat.max_eq_right (by omega),Nat.add_comm 1 q,show q=p+1 by omega];rw[show q=p+1 by omega]at j;show G40.fb (p+1)+G40.fb p<=_;omega
def TK.lt(k:TK c d R p)(hl:R.length<=1000):p<20:=by
 refine Nat.lt_of_not_le λh=>?_;have a:=k.fb;have b:=DT h;have:G40.fb 20=17711:=by decide
 omega
def TK.gt(k:TK c d R p):∃q t x y,d=kn (c.h R) (c.h R.reverse) q t x y p R.length:=by
 cases k with
 |lf v t _=>exact⟨_,_,_,_,rfl⟩
 |nd w t=>exact⟨_,_,_,_,rfl⟩
def Cj{a:EF}{as:AS}{w b:Int}{q x y:D}{t:Bool}{p s:Int}{cs:List Str}{f:Str}{v:D}(h:WD a as true (kn w b q t x y p s))(hc:("Knot":Str) ∈ cs)(hl:FA pL [.int w,.int b,q,.bl t,x,y,.int p,.int s] f=some v):WD (f1 a (xM cs f)) as true v:=by
 have:=Ul h hc hl;rw[zyD]at this;exact this
variable{a:EF}{as:AS}
theorem TK.whole(k:TK c d R p)(ha:WD a as true d):WD (f1 a (xM YN "whole")) as true (.int (c.h R)):=by
 obtain⟨q,t,x,y,rfl⟩:=k.gt;exact Cj ha (by decide +kernel) rfl
theorem TK.back(k:TK c d R p)(ha:WD a as true d):WD (f1 a (xM Uy "back")) as true (.int (c.h R.reverse)):=by
 obtain⟨q,t,x,y,rfl⟩:=k.gt;exact Cj ha (by decide +kernel) rfl
theorem TK.deep(k:TK c d R p)(ha:WD a as true d):WD (f1 a (xM Wc "deep")) as true (.int p):=by
 obtain⟨q,t,x,y,rfl⟩:=k.gt;exact Cj ha (by decide +kernel) rfl
theorem TK.size(k:TK c d R p)(ha:WD a as true d):WD (f1 a (xM Zs "size")) as true (.int R.length):=by
 obtain⟨q,t,x,y,rfl⟩:=k.gt;exact Cj ha (by decide +kernel) rfl
def TK.isN(k:TK c d R p)(ha:WD a as true d):WT (fT (f2 a (fC .non) (zP .Is))) as false:=by
 obtain⟨q,t,x,y,rfl⟩:=k.gt;exact yV (zJ ha zb rfl rfl) rfl
def TK.isS(k:TK c d R p)(ha:WD a as true d):WT (fT (f2 a (fC .non) (zP .IsNot))) as true:=by
 obtain⟨q,t,x,y,rfl⟩:=k.gt;exact yV (zJ ha zb rfl rfl) rfl
def TK.zero(k:TK c d R p)(ha:WD a as true d):WT (fT (f2 (f1 a (xM Wc "deep")) yS (zP .Eq))) as (decide (p=0)):=yV (Km (k.deep ha) zb (by
 show some ((p:Int)==0)=_
 by_cases h:p=0
 . subst h;rfl
 . rw[zyG h,beq_eq_false_iff_ne.mpr (by omega)])) rfl
end
section
variable{n m:Nat}{J:TZ}{e:Int}{Ds:DD}{S:SS}
def SA{W1 W2:TZ}{x:D}(h1:Tab m n W1)(h2:Tab m n W2)(m6:m<=6)(n8:n<=8):RE (Xz [(true,x),(true,XF W1),(true,XF W2)]) (XF (bh W1 W2)):=by
 have c:W4 (aC zA KM) [sT x,sT (XF W1),sT (XF W2)]=some ((W1.zip W2).map λq=>(true,.tup [Kc q.1,Kc q.2]),[sT x,sT (XF W1),sT (XF W2)]):=by
  have:=Ck (as:=[sT x,sT (XF W1),sT (XF W2)]) (WD.e (za (i:=1) rfl)) (WD.e (za (i:=2) rfl)) (.t _) (.t _);rw[this,List.zip_map,zyB];rfl
 have:=Rm (cap:=[none,none]) (gg:=gT 2 (wj wz (wj (gN 1) Qm))) (fe:=fP (aC CV aN) tupP) (W1.zip W2) c (by rw[List.length_zip,h1.1];omega) (λq mq=>by
  obtain⟨d,f⟩:=List.of_mem_zip mq;have b:=h1.2 _ d;have g:=h2.2 _ f;refine⟨_,rfl,U_ (Rm (it:=λa=>(true,D.int a)) q.1 ?_ (by rw[b.1];omega) λa h=>⟨_,rfl,WD.e (zJ (za rfl) (za rfl) (oG g (b.2 a h)) rfl)⟩) ?_⟩
  . have:=sG (as:=[sT (Kc q.1),sT (Kc q.2)]) (WD.e (za (i:=0) rfl));rw[zyB]at this;exact this
  . show some (R0.im (.tup (q.1.map λa=>D.int (wY q.2 a))))=some (R0.im (.tup ((q.1.map (wY q.2)).map D.int)));rw[zyB];rfl)
 refine yJ rfl (yF (U_ this ?_));show some (R0.im (.tup ((W1.zip W2).map λq:List Int×List Int=>Kc (q.1.map (wY q.2)))))=some (R0.im (.tup (((W1.zip W2).map λp=>p.1.map (wY p.2)).map Kc)));rw[zyB];rfl
def I_{W:TZ}{v k:Int}(m1:1<=m)(h1:Tab m n W)(hv:zQ n v):VO [(true,Cr n m J e Ds S),(true,XF W),(true,.int v),(true,.int k)]=sI (yA W (k%m) v):=by
 have a:WD (f1 zw (xM Qc "around")) [sT (Cr n m J e Ds S),sT (XF W),sI v,sI k] true (.int m):=qM rfl (by decide +kernel) rfl;exact vF rfl (vP (HJ h1 (U1 m1) hv (za rfl) (yj (za rfl) a (by omega)) (za rfl)))
end
def Cf{a b c d e f:EF}{as:AS}{x y z u v w o:D}{g:List (Bool×D)->Option O}(ha:WE a as x)(hb:WE b as y)(hc:WE c as z)(hd:WE d as u)(he:WE e as v)(hf:WE f as w)(hg:RE (g [(true,x),(true,y),(true,z),(true,u),(true,v),(true,w)]) o):WE (zq (aC a (aC b (aC c (aC d (aC e (aC f aN)))))) g) as o:=by
 obtain⟨o,h,i⟩:=hg;exact⟨o,Zr (xZ ha (xZ hb (xZ hc (xZ hd (xZ he (xZ hf zB)))))) (by show g [(zv x||true,x),(zv y||true,y),(zv z||true,z),(zv u||true,u),(zv v||true,v),(zv w||true,w)]=_;simp only[zyD];exact h),i⟩
abbrev k7(ns:List Str)(os:List O)(w b:Int)(a:D)(t:Bool)(x y:D):AS:=[some (.nd (.ob "Knot" ns) os),sI w,sI b,sT a,sT (.bl t),sT x,sT y]
def Dk{w b:Int}{a x y:D}{t:Bool}{p s:Int}(hd:∀ns os,WE qS (k7 ns os w b a t x y) (.int p))
 (hz:∀ns os,WE oF (k7 ns os w b a t x y) (.int s)):
 RE (yP "Knot" [(true,.int w),(true,.int b),(true,a),(true,.bl t),(true,x),(true,y)]) (kn w b a t x y p s):=by
 have v:∀(i:Nat) (d:D) c f,(k7 c f w b a t x y)[i]? = some (sT d)->WE (fV i) (k7 c f w b a t x y) d:=λi d c f h=>WD.e (za h);have h:Yg (Xk 7 (pQ "Knot"::[(true,.int w),(true,.int b),(true,a),(true,.bl t),(true,x),(true,y)].map IE))=some (k7 pL [.lf true (.int w),.lf true (.int b),.lf true a,.lf true (.bl t),.lf true x,.lf true y,.lf true (.int p),.lf true (.int s)] w b a t x y):=
  yO (y9 (v 1 _ _ _ rfl) rfl (by decide +kernel) (by decide +kernel) (by decide))
  (yO (y9 (v 2 _ _ _ rfl) rfl (by decide +kernel) (by decide +kernel) (by decide))
  (yO (y9 (v 3 _ _ _ rfl) rfl (by decide +kernel) (by decide +kernel) (by decide))
  (yO (y9 (v 4 _ _ _ rfl) rfl (by decide +kernel) (by decide +kernel) (by decide))
  (yO (y9 (v 5 _ _ _ rfl) rfl (by decide +kernel) (by decide +kernel) (by decide))
  (yO (y9 (v 6 _ _ _ rfl) rfl (by decide +kernel) (by decide +kernel) (by decide))
  (yO (y9 (hd _ _) rfl (by decide +kernel) (by decide +kernel) (by decide))
  (y9 (i:=0) (hz _ _) rfl (by decide +kernel) (by decide +kernel) (by decide))))))))
 refine⟨.nd (.ob "Knot" pL) [.lf true (.int w),.lf true (.int b),.lf true a,.lf true (.bl t),.lf true x,.lf true y,.lf true (.int p),.lf true (.int s)], ?_,rfl,rfl⟩;unfold yP D7;rw[if_pos (by rfl),h];rfl
def Ce{w b:Int}{a:D}{t:Bool}:RE (yP "Knot" [(true,.int w),(true,.int b),(true,a),(true,.bl t),(true,.non),(true,.non)]) (kn w b a t .non .non 0 1):=
 Dk (λ_ _=>NH (yV (zJ (za rfl) zb rfl rfl) rfl) (WD.e zb)) λ_ _=>NH (yV (zJ (za rfl) zb rfl rfl) rfl) (WD.e zb)
section
variable{c:Cx}{x y d:D}{r s R:List Int}{p q:Nat}
def HU{w b:Int}{a:D}{t:Bool}(k:TK c x r p)(l:TK c y s q):RE (yP "Knot" [(true,.int w),(true,.int b),(true,a),(true,.bl t),(true,x),(true,y)]) (kn w b a t x y ((1+max p q:Nat):Int) ((r.length+s.length:Nat):Int)):=by
 have i:∀d f,WD wH (k7 d f w b a t x y) true x:=λ_ _=>za rfl;have j:∀d f,WD ZW (k7 d f w b a t x y) true y:=λ_ _=>za rfl;refine Dk (λd f=>NT (k.isN (i _ _)) ?_) λd f=>NT (k.isN (i _ _)) ?_
 . have h:=zR (zb (x:=.int 1)) (xk (g:=E8) (zr (k.deep (i d f)) (zr (l.deep (j d f)) zB)) rfl rfl);rw[show((1+max p q:Nat):Int)=1+(if(q:Int) > p then(q:Int)else p) by split<;>omega];exact WD.e h
 . have h:=zR (k.size (i d f)) (l.size (j d f));rw[show((r.length+s.length:Nat):Int)=(r.length:Int)+s.length by omega];exact WD.e h
def Df{v:Int}:RE (XQ [(true,.int v)]) (kn v v .non false .non .non 0 1):=
 yJ rfl (yF (Cf (WD.e (za rfl)) (WD.e (za rfl)) (WD.e zb) (WD.e zb) (WD.e zb) (WD.e zb) Ce))
def TK.mk(h:c.Ok)(w:Option TZ)(t:Bool)(hw:c.wok w)(k:TK c x r p)(l:TK c y s q)(h1:p<=q+1)(h2:q<=p+1){u v:Int}(hu:u=c.h (tn t (c.ap w (r++s))))(hv:v=c.h (tn t (c.ap w (r++s))).reverse):TK c (kn u v (TY w) t x y ((1+max p q:Nat):Int) ((r.length+s.length:Nat):Int)) (tn t (c.ap w (r++s))) (1+max p q):=by
 have:=TK.nd w t k l h1 h2 hw rfl;rw[Mf,Mi,zzJ]at this;rw[hu,hv];exact this
def JI(h:c.Ok)(k:TK c x r p)(l:TK c y s q)(h1:p<=q+1)(h2:q<=p+1):∃d,RE (XD [(true,c.w),(true,x),(true,y)]) d/\TK c d (r++s) (1+max p q):=by
 have a:WD zA [sT c.w,sT x,sT y] true x:=za rfl;have b:WD yb [sT c.w,sT x,sT y] true y:=za rfl;have f:WD zw [sT c.w,sT x,sT y] true c.w:=za rfl;have g:=CH (tbl:=UL) (m:="join") f (by decide +kernel) rfl (WD.e (k.whole a)) (WD.e (l.whole b)) (Ox h.A.j (QZ h.L.lj (k.in h)) (QZ h.L.lj (l.in h)));have i:=CH (tbl:=UL) (m:="join") f (by decide +kernel) rfl (WD.e (l.back b)) (WD.e (k.back a)) (Ox h.A.j (QZ h.L.lj (l.rev h)) (QZ h.L.lj (k.rev h)));refine⟨_,yJ rfl (yF (Cf g i (WD.e zb) (WD.e zb) (WD.e a) (WD.e b) (HU k l))),TK.mk h none false trivial k l h1 h2 ?_ ?_⟩
 . exact(O4 h.L.lj (k.in h) (l.in h)).symm
 . show _=c.h (r++s).reverse;rw[List.reverse_append];exact(O4 h.L.lj (l.rev h) (k.rev h)).symm
def Jh(h:c.Ok){w u:Option TZ}(hw:c.wok w)(hu:c.wok u):∃v,RE (vS [(true,c.w),(true,TY w),(true,TY u)]) (TY v)/\c.wok v/\∀r,c.In r->c.ap v r=c.ap u (c.ap w r):=by
 cases w with
 |none=>exact⟨u,yJ rfl (WC (Py (yV (zJ (za rfl) zb rfl rfl) rfl) (yF (WD.e (za rfl))))),hu,λ_ _=>rfl⟩
 |some A=>
  have p:∀z,WT (fT (f2 zA (fC .non) (zP .Is))) [sT c.w,sT (XF A),z] false:=λz=>yV (zJ (za rfl) zb rfl rfl) rfl;cases u with
  |none=>exact⟨some A,yJ rfl (zm (zT (p _) rfl) (WC (Py (yV (zJ (za rfl) zb rfl rfl) rfl) (yF (WD.e (za rfl)))))),hw,λ_ _=>rfl⟩
  |some B=>
   have q:=h.m1;have d:∀{i a:Int},zQ c.m i->zQ c.n a->yA (bh A B) i a=yA B i (yA A i a):=λf g=>qp hw.t hu.t f g;refine⟨some (bh A B),yJ rfl (zm (zT (p _) rfl) (zm (zT (yV (zJ (za rfl) zb rfl rfl) rfl) rfl) (yF (CH (za rfl) (by decide +kernel) rfl (WD.e (za rfl)) (WD.e (za rfl)) (SA hw.t hu.t h.A.m6 h.A.n8))))),⟨sX hw.t hu.t, ?_⟩,λr s=>?_⟩
   . have x:=h.L.lj.ce;have y:zQ c.m 0:=⟨Int.le_refl _,Int.natCast_pos.mpr h.A.m1⟩;refine⟨λi a f g=>?_, ?_,λa i b k g f j o=>?_⟩
     . rw[d f g];exact hu.l.cl _ _ f (hw.l.cl _ _ f g)
     . rw[d y x,hw.l.em,hu.l.em]
     . rw[d (U1 h.A.m1) (h.L.lj.cl _ _ g j),d f g,d o j,hw.l.dn a i b k g f j o,hu.l.dn _ i _ k (hw.l.cl _ _ f g) f (hw.l.cl _ _ o j) o]
   . show r.map _=(r.map _).map _;rw[zyB];exact List.map_congr_left λa C=>d q (s a C)
end
def Dr{f:EF}{as:AS}{ds:List D}(h:WD f as true (.tup ds)):Xe f as=some (ds.map λd=>(true,d),as):=by
 unfold Xe;unfold WD at h;rw[h];show some (kids true ds,as)=_;rw[Pn]
def LU{as:AS}{i:Nat}{fr:AF}{g:List xb->O->Option O}{rs:List RV}{xs:List xb}{o r:O}(h1:fr as=some (rs,as))(h2:L7 i rs=some xs)(h3:as[i]? = some (some o))(h4:g xs o=some r):Wf i fr g as=some (.nx (as.set i (some r))):=by
 unfold Wf;rw[h1];show(L7 i rs).bind _=_;rw[h2];show(as[i]?).bind _=_;rw[h3];show(g xs o).bind _=_;rw[h4];rfl
def nk{f:EF}{as:AS}{d:D}(hd:zv d=true)(h:WE f as d):WD f as true d:=by
 obtain⟨o,h,b,a⟩:=h;cases o with
 |lf s x=>subst a;rw[show s=true from b]at h;exact h
 |nd k c=>subst a;cases k<;>cases hd
def ou{f:EF}{as:AS}{k:Bool}(h:WE f as (.bl k)):WT (fT f) as k:=yV (nk rfl h) rfl
section
variable{c:Cx}{x y d:D}{r s R:List Int}{p q:Nat}
abbrev g9(c:Cx)(d:D)(w:Option TZ)(t:Bool)(acc:List Int)(a b e f:Option O):AS:=[sT c.w,sT d,sT (TY w),sT (.bl t),some (yC acc),a,b,e,f]
def pd(acc:List Int)(v:Int):acc.map Q9++[Q9 v]=(acc++[v]).map Q9:=by rw[zyM];rfl
theorem Lu(h:c.Ok):∀(k:Nat) {d:D}{R:List Int}{p:Nat}(w:Option TZ) (t:Bool) (acc:List Int),TK c d R p->c.wok w->p<k->acc.length+R.length<=1000->xG k [(true,c.w),(true,d),(true,TY w),(true,.bl t)] (yC acc)=some (yC (acc++tn t (c.ap w R)))
 |0,_,_,_,_,_,_,_,_,h,_=>absurd h (Nat.not_lt_zero _)
 |n+1,d,R,p,w,t,g,k,X,hp,C=>by
  obtain⟨a',Y,e',f',N⟩:∃a b e f,UU (xG n) (g9 c d w t g none none none none)=some (.nx (g9 c d w t (g++tn t (c.ap w R)) a b e f)):=by
   have P:∀a b e f,WD zA (g9 c d w t g a b e f) true d:=λ_ _ _ _=>za rfl;have E:=k.zero (P none none none none);have Z:=k.whole (P none none none none);have al:g.length<1001:=by omega
   cases k with
   |lf v b hv=>
    have Q:∃u,[u]=tn t (c.ap w [v])/\WD nh (g9 c (kn v v .non b .non .non 0 1) w t g none none none none) true (.int u):=by
     cases w with
     |none=>exact⟨v,by cases t<;>rfl,tu (yV (zJ (za rfl) zb rfl rfl) rfl) Z⟩
     |some T=>exact⟨yA T (1%(c.m:Int)) v,by cases t<;>rfl,sF (yV (zJ (za rfl) zb rfl rfl) rfl) (nk rfl (pS (za rfl) (by decide +kernel) rfl (WD.e (za rfl)) (WD.e Z) (WD.e zb) (RE.lf (I_ h.A.m1 X.t hv))))⟩
    obtain⟨u,e,Q⟩:=Q;refine⟨none,none,none,none,xN E ?_⟩;rw[Ft rfl (by rw[zzB];exact zzK al (S_ (by decide))) Q,<-e];show some (Out.nx [_,_,_,_,some (O.nd .ls (g.map Q9++[Q9 u])),_,_,_,_])=_;rw[pd]
   | @nd u b x y r s p q R k l h1 h2 hu e=>
    rw[zyG (by omega)]at E;obtain⟨v,b1,b2,b3⟩:=Jh h hu X;have hR:R.length=r.length+s.length:=by rw[e,Mf,Mi,zzJ]
    have eR:tn t (c.ap w R)=tn (b != t) (c.ap v r++c.ap v s):=by rw[e,pW,qi,<-b3 _ (OQ (k.in h) (l.in h)),sr]
    rw[eR];have f:∀{cs:List Str}{n:Str}{z:D}(a Y e f:Option O),("Knot":Str) ∈ cs->FA pL [.int (c.h R),.int (c.h R.reverse),TY u,.bl b,x,y,.int ((1+max p q:Nat):Int),.int (R.length:Int)] n=some z->WD (f1 zA (xM cs n)) (g9 c (kn (c.h R) (c.h R.reverse) (TY u) b x y ((1+max p q:Nat):Int) (R.length:Int)) w t g a Y e f) true z:=λa b e f F C=>Cj (P a b e f) F C;have s5:=ZE (p:=5) (Pg (WD.e (za (i:=0) rfl)) (WD.e (f (cs:=T8) (n:="wait") none none none none (by decide +kernel) rfl)) (WD.e (za (i:=2) rfl)) b1) (zo rfl);have j:=zX (i:=6) (st:=true) (BE (c:=b==t) (f (cs:=Gc) (n:="turn") (sT (TY v)) none none none (by decide +kernel) rfl) (za (i:=3) rfl) (by cases b<;>cases t<;>rfl)) (zo rfl);rw[show(!(b==t))=(b != t)from rfl]at j;have G:=WD.e (f (cs:=Ki) (n:="one") (sT (TY v)) (sT (.bl (b != t))) none none (by decide +kernel) rfl);have H:=WD.e (f (cs:=VS) (n:="other") (sT (TY v)) (sT (.bl (b != t))) none none (by decide +kernel) rfl);have I:WT (fT ZW) (g9 c (kn (c.h R) (c.h R.reverse) (TY u) b x y ((1+max p q:Nat):Int) (R.length:Int)) w t g (sT (TY v)) (sT (.bl (b != t))) none none) (b != t):=yV (za rfl) rfl;have cl:∀{z:D}{J:List Int}{S:Nat}(a:List Int) (o f:Option O),TK c z J S->S<n->a.length+J.length<=1000->Wf 4 uK (xG n) [sT c.w,f,sT (TY w),sT (.bl t),some (yC a),sT (TY v),sT (.bl (b != t)),o,sT z]=some (.nx [sT c.w,f,sT (TY w),sT (.bl t),some (yC (a++tn (b != t) (c.ap v J))),sT (TY v),sT (.bl (b != t)),o,sT z]):=λ{z J S} a o f k' U ha=>LU rfl rfl rfl (Lu h n v (b != t) a k' b2 U ha);have K:∀{z L:D}{B M:List Int}{V W:Nat}(o:Option O),TK c z B V->TK c L M W->V<n->W<n->g.length+B.length+M.length<=1000->forL (gN 8) (Wf 4 uK (xG n)) [(true,z),(true,L)] (g9 c (kn (c.h R) (c.h R.reverse) (TY u) b x y ((1+max p q:Nat):Int) (R.length:Int)) w t g (sT (TY v)) (sT (.bl (b != t))) o none)=some (.nx (g9 c (kn (c.h R) (c.h R.reverse) (TY u) b x y ((1+max p q:Nat):Int) (R.length:Int)) w t (g++tn (b != t) (c.ap v B)++tn (b != t) (c.ap v M)) (sT (TY v)) (sT (.bl (b != t))) o (sT L))):=λ{z L B M V W} o k1 k2 l1 l2 C=>Za rfl (cl g o _ k1 l1 (by omega)) (Za rfl (cl (g++tn (b != t) (c.ap v B)) o _ k2 l2 (by rw[zzJ,Mf,Mi];exact C)) rfl);cases F:(b != t)with
    |false=>
     rw[F]at I j K G H;have:=K (sT (.tup [x,y])) k l (by omega) (by omega) (by omega);rw[zxC]at this;exact⟨_,_,_,_,zT E (zp s5 (zp j (zp (ZE (NT I (vY G H)) (zo rfl)) (yI (Dr (za rfl)) this))))⟩
    |true=>
     rw[F]at I j K G H;have:=K (sT (.tup [y,x])) l k (by omega) (by omega) (by omega);rw[zxC,show tn true (c.ap v s)++tn true (c.ap v r)=tn true (c.ap v r++c.ap v s)from List.reverse_append.symm]at this;exact⟨_,_,_,_,zT E (zp s5 (zp j (zp (ZE (NH I (vY H G)) (zo rfl)) (yI (Dr (za rfl)) this))))⟩
  show gL 9 5 (UU (xG n)) [(true,c.w),(true,d),(true,TY w),(true,.bl t)] (yC g)=_;unfold gL;rw[if_pos (by rfl),show Ub 9 [(true,c.w),(true,d),(true,TY w),(true,.bl t)] (yC g)=g9 c d w t g none none none none from rfl,N];rfl
def uu(h:c.Ok)(k:TK c d R p)(hl:R.length<=1000):ZF [(true,c.w),(true,d)]=some (yC R):=by
 have g:=Lu h 20 none false [] k trivial (k.lt hl) (by show 0+_<=_;omega);have cl:Wf 2 pJ (xG 20) [sT c.w,sT d,some (yC [])]=some (.nx [sT c.w,sT d,some (yC R)]):=LU rfl rfl rfl g;exact vF rfl (zp (xa (vv yz (QC rfl)) (zo rfl)) (zp (xN (k.isS (za rfl)) cl) (Qf rfl (ZC R).1)))
def AH:ZF [(true,c.w),(true,.non)]=some (yC []):=
 vF rfl (zp (xa (vv yz (QC rfl)) (zo rfl)) (zp (zT (yV (zJ (za rfl) zb rfl rfl) rfl) rfl) (Qf rfl (ZC []).1)))
def OT(c:Cx)(d:D)(R:List Int):Prop:=(d = .non/\R=[])\/∃p,TK c d R p
def TK.o(k:TK c d R p):OT c d R:=.inr ⟨p,k⟩
def OT.n:OT c .non []:=.inl ⟨rfl,rfl⟩
def Af(k:OT c d R):RE (XS [(true,d)]) (.int R.length):=by
 rcases k with⟨rfl,rfl⟩|⟨p,k⟩
 . exact yJ rfl (yF (NH (yV (zJ (za rfl) zb rfl rfl) rfl) (WD.e zb)))
 . exact yJ rfl (yF (NT (k.isN (za rfl)) (WD.e (k.size (za rfl)))))
def p_(h:c.Ok)(k:OT c d R)(hl:R.length<=1000):ZF [(true,c.w),(true,d)]=some (yC R):=by
 rcases k with⟨rfl,rfl⟩|⟨p,k⟩
 . exact AH
 . exact uu h k hl
end
def FW{f:EF}{as:AS}{s:Bool}{y:D}{fl fh:OF}{lo hi:Option Int}{r:List Int}(ha:WD f as s y)(hl:fl as=some (lo,as))(hh:fh as=some (hi,as))(hg:Ml y lo hi=some (.fl (r.map D.int))):WE (KZ f fl fh Ml) as (zh r):=by
 refine⟨yC r, ?_,ZC r⟩;unfold WD at ha;unfold KZ;rw[ha];show((fl as).bind _)=_;rw[hl];show((fh as).bind _)=_;rw[hh];show((Ml y lo hi).bind _)=_;rw[hg];show(if((r.map D.int).all zv||(some s).isSome)=true then some (RV.ow (.nd .ls ((r.map D.int).map (MZ s))))else none:Option RV).bind _=_;rw[if_pos (by simp),zyB];rfl
def slt{n:Nat}(h:n<1000):n<sizeLine:=zzK h (S_ (by decide))
def Pe{f:EF}{as:AS}{r:List Int}(h:f as=some (.ow (yC r),as)):WE f as (zh r):=⟨_,h,ZC r⟩
def dg:Int->List Int->List Int
 |_,[]=>[]
 |x,z::r=>x%z::dg (x/z) r
theorem GL:∀(l:List Int) (x:Int),(dg x l).length=l.length
 | [],_=>rfl
 |_::r,x=>congrArg (· + 1) (GL r _)
theorem BU{n:Nat}(hn:1<=n):∀(k:Nat) (x:Int),∀v ∈ dg x (List.replicate k (n:Int)),zQ n v
 |0,_,v,m=>nomatch m
 |k+1,x,v,m=>by
  have m:=m
  rcases zzC.mp m with rfl|m
  . exact U1 hn
  . exact BU hn k _ v m
abbrev je:SF:=(zj (yN (vH 2 (dC (f2 zw yw zW) dN) ZA))
 (zy true 0 (f2 zw yw zM)))
theorem CT{B:Option O}:∀(sz:List Int) (x:Int) (acc:List Int) (e3:Option O),(∀z ∈ sz,0<z/\z<1000000)->acc.length+sz.length<=900->∃x' e3',forL (gN 3) je (sz.map λz=>(true,D.int z)) [sI x,B,some (yC acc),e3]=some (.nx [sI x',B,some (yC (acc++dg x sz)),e3'])
 | [],x,a,b,_,_=>⟨x,b,by rw[show a++dg x []=a from zyE _];rfl⟩
 |z::sz,x,a,b,h,f=>by
  have c:=h z (zzF ..);rw[zzT]at f;obtain⟨g,j,d⟩:=CT sz (x/z) (a++[x%z]) (sI z) (λy m=>h y (zzD _ m)) (by rw[zzJ];show a.length+1+sz.length<=900;omega);rw[zxC]at d;refine⟨g,j,Za rfl (zp (as1:=[sI x,B,some (yC (a++[x%z])),sI z]) ?_ (zX (wy (za rfl) (za rfl) c.1 (zE (by omega) (by omega))) (zo rfl))) d⟩;have e:=Um (i:=2) (as:=[sI x,B,some (yC a),sI z]) rfl (yj (za (i:=0) rfl) (za (i:=3) rfl) c.1) rfl (by rw[zzB];exact slt (by omega));rw[<-EH]at e;exact e
def Hz{x:Int}{sz:List Int}(h:∀z ∈ sz,0<z/\z<1000000)(hl:sz.length<=900):zU [(true,.int x),(true,zh sz)]=some (yC (dg x sz)):=by
 obtain⟨c,d,a⟩:=CT sz x [] none h (by show 0+_<=_;omega);have b:Xe zA [sI x,sT (zh sz),some (yC []),none]=some (sz.map λz=>(true,D.int z),[sI x,sT (zh sz),some (yC []),none]):=by
  have:=Bw (WD.e (za (as:=[sI x,sT (zh sz),some (yC []),none]) (i:=1) rfl));rw[zyB]at this;exact this
 exact vF rfl (zp (xa (vv yz (QC rfl)) (zo rfl)) (zp (yI b a) (Qf rfl (Zv _).2.1)))
def SH{a b:EF}{as:AS}{x:Int}{sz:List Int}(h:∀z ∈ sz,0<z/\z<1000000)(hl:sz.length<=900)(ha:WE a as (.int x))(hb:WE b as (zh sz)):WE (zq (aC a (aC b aN)) zU) as (zh (dg x sz)):=Xo ha hb ⟨_,Hz h hl,ZC _⟩
def Lg(p n:Nat):Prop:=n<=2 ^ p/\(p=0\/2 ^ (p-1)<n)
def uU{p q a b:Nat}(ha:1<=a)(h1:a<=b)(h2:b<=a+1)(hp:Lg p a)(hq:Lg q b):p<=q/\q<=p+1/\Lg (1+max p q) (a+b):=by
 obtain⟨i,d⟩:=hp;obtain⟨f,c⟩:=hq;have e:p<=q:=by
  rcases d with d|d
  . omega
  . refine Nat.le_of_not_lt λh=>?_;have:=Nat.pow_le_pow_right (n:=2) (by decide) (show q<=p-1 by omega);omega
 have g:q<=p+1:=by
  rcases c with c|c
  . omega
  . refine Nat.le_of_not_lt λh=>?_;have:=Nat.pow_le_pow_right (n:=2) (by decide) (show p+1<=q-1 by omega);rw[Nat.pow_succ]at this;omega
 refine⟨e,g, ?_⟩;rw[Nat.max_eq_right e];refine⟨?_,.inr ?_⟩
 . rw[Nat.add_comm 1 q,Nat.pow_succ];omega
 . rw[show 1+q-1=q by omega]
   rcases c with c|c
   . subst c;show 1<a+b;omega
   . obtain⟨r,rfl⟩:∃r,q=r+1:=⟨q-1,by
      have:q≠0:=λz=>by subst z;have:(2:Nat) ^ (0-1)=1:=rfl;have j:=f;omega
      omega⟩
     rw[Nat.add_sub_cancel]at c;rw[Nat.pow_succ];omega
section
variable{c:Cx}{x y d:D}{r s R:List Int}{p q:Nat}
theorem MF(h:c.Ok):∀(k:Nat) (r:List Int),1<=r.length->r.length<=2 ^ k->r.length<=1000->c.In r->∀s:Bool,∃d p,RE (wk (k+1) [(true,c.w),(s,zh r)]) d/\TK c d r p/\Lg p r.length
 |k,r,P,n,Q,b,s=>by
  have f:=λz=>by
   have:=xk (as:=[sT c.w,some (.lf s (zh r)),z]) (g:=vA) (zr (za (i:=1) rfl) zB) rfl rfl;rw[zzB]at this;exact this
  have o:WT (fT (f2 (fP v5 vA) yS (zP .Eq))) [sT c.w,some (.lf s (zh r)),none] false:=yV (Km (f _) zb (by show some ((r.length:Int)==0)=_;rw[beq_eq_false_iff_ne.mpr (by omega)])) rfl;have a:WT (fT (f2 (fP v5 vA) yB (zP .Eq))) [sT c.w,some (.lf s (zh r)),none] (decide (r.length=1)):=yV (Km (f _) zb (by
   show some ((r.length:Int)==1)=_
   by_cases h:r.length=1
   . rw[h];rfl
   . rw[beq_eq_false_iff_ne.mpr (by omega),zyG h])) rfl
  by_cases j:r.length=1
  . rw[zyO j]at a
    match r,j with
    | [v],_=>
     exact⟨_,0,yJ rfl (zm (zT o rfl) (WC (Py a (yF (vt (WD.e (zJ (za rfl) zb rfl rfl)) Df))))),.lf v false (b v zzF),⟨zzN _,.inl rfl⟩⟩
  . rw[zyG j]at a;cases k with
    |zero=>exact absurd (show r.length<=1 from n) (by omega)
    |succ k=>
     rw[Nat.pow_succ]at n;have G:zy true 2 (f2 (fP v5 vA) xY zM) [sT c.w,some (.lf s (zh r)),none]=some (.nx [sT c.w,some (.lf s (zh r)),sI ((r.length/2:Nat):Int)]):=zX (wy (f none) (zb) (by decide) (zE (by decide) (by decide))) (zo rfl);have t:(r.take (r.length/2)).length=r.length/2:=by rw[zzS];omega
     have H:(r.drop (r.length/2)).length=r.length-r.length/2:=List.length_drop;obtain⟨x,p,I,J,u⟩:=MF h k (r.take (r.length/2)) (by omega) (by omega) (by omega) (λv l=>b v (List.mem_of_mem_take l)) true;obtain⟨y,q,K,L,A⟩:=MF h k (r.drop (r.length/2)) (by omega) (by omega) (by omega) (λv l=>b v (List.mem_of_mem_drop l)) true;rw[t]at u;rw[H]at A;obtain⟨R,S,B⟩:=uU (by omega) (by omega) (by omega) u A;obtain⟨d,M,C⟩:=JI h J L (by omega) (by omega);have sp:(r.map D.int)=(r.take (r.length/2)).map D.int++(r.drop (r.length/2)).map D.int:=by rw[<-zyM,List.take_append_drop]
     have E:=u5 (xs:=(r.take (r.length/2)).map D.int) (ys:=(r.drop (r.length/2)).map D.int);have F:=CM (xs:=(r.take (r.length/2)).map D.int) (ys:=(r.drop (r.length/2)).map D.int);rw[<-sp,zzB,t]at E F;have N:WE (KZ zA oN (oS yb) Ml) [sT c.w,some (.lf s (zh r)),sI ((r.length/2:Nat):Int)] (zh (r.take (r.length/2))):=FW (za rfl) rfl rfl E;have O:WE (KZ zA (oS yb) oN Ml) [sT c.w,some (.lf s (zh r)),sI ((r.length/2:Nat):Int)] (zh (r.drop (r.length/2))):=FW (za rfl) rfl rfl F;have m:WE zw [sT c.w,some (.lf s (zh r)),sI ((r.length/2:Nat):Int)] c.w:=WD.e (za rfl);rw[List.take_append_drop]at C;exact⟨d,_,yJ rfl (zm (zT o rfl) (zm (zT a rfl) (zm G (yF (Pg m (Xo m N I) (Xo m O K) M))))),C,by rw[show r.length/2+(r.length-r.length/2)=r.length by omega]at B;exact B⟩
def tT(h:c.Ok)(hl:r.length<=1000)(hv:c.In r)(s:Bool):∃d,RE (wk 20 [(true,c.w),(s,zh r)]) d/\OT c d r:=by
 by_cases e:r=[]
 . subst e;exact⟨.non,yJ rfl (WC (Py (yV (Km (xk (zr (za rfl) zB) rfl rfl) zb rfl) rfl) (yF (WD.e zb)))),.n⟩
 . obtain⟨d,p,a,b,_⟩:=MF h 19 r (List.length_pos_iff.mpr e) (zzO hl (by decide)) hl hv s;exact⟨d,a,b.o⟩
end
abbrev HI:Int:=1000*10 ^ (64:Int).toNat
def Bg:(0:Int)<HI:=by decide
def eqT{a b:EF}{as:AS}{x y:Int}{s t q:Bool}(ha:WD a as s (.int x))(hb:WD b as t (.int y))(e:(x==y)=q):WT (fT (f2 a b (zP .Eq))) as q:=yV (Km ha hb (congrArg some e)) rfl
def lb{x y:Int}(h0:0<=x)(h1:x<y)(hy:y<=10 ^ 200:=by decide):x.natAbs<big:=zE (Int.lt_of_lt_of_le (by decide) h0) (Int.lt_of_lt_of_le h1 hy)
def ZJ{as:AS}{a b:EF}{ns:List Int}{k:Int}(ha:WD a as true (zh ns))(hb:WD b as true (.int k))(h0:0<=k)(h1:k<ns.length):∃v,WD (f2 a b zN) as true (.int v):=by
 obtain⟨v,e,_⟩:=HS h0 h1 λ_ _=>trivial;exact⟨v,zJ ha hb e rfl⟩
abbrev jv:SF:=(zj rL
 qW)
def J5{ns:List Int}{k:Nat}(hk:k<=100):∃x:Int,0<=x/\zH [(true,.lst (ns.map .int)),(true,.int k)]=sI x:=by
 have p:zy true 2 ql [sT (zh ns),sI k,none,none,none,none]=some (.nx [sT (zh ns),sI k,sI HI,none,none,none]):=zX (xy zb (CL zb zb ⟨by decide,by decide,by decide⟩) (zE (by decide) (by decide)) (zE (by decide) (by decide))) (zo rfl);have j:∀as:AS,as[0]? = some (sT (zh ns))->WD (fP vO vA) as true (.int (ns.length:Nat)):=λas h=>by
  have:=xk (g:=vA) (zr (za h) zB) rfl rfl
  rwa [zzB]at this
 by_cases h:(k:Int)<(ns.length:Int)
 . obtain⟨v,w⟩:=ZJ (as:=[sT (zh ns),sI k,sI HI,none,none,none]) (a:=fV 0) (b:=fV 1) (za rfl) (za rfl) (by omega) h;refine⟨_,zyN _ (Int.ne_of_gt Bg),vF rfl (zp p (vU (xN (yV (Dx (za rfl) (j _ rfl)) (congrArg some (zyO h))) (vP (yj (xy (yj w (za rfl) Bg) (CL zb zb ⟨by decide,by decide,by decide⟩) (lb (zyN _ (Int.ne_of_gt Bg)) (zyH _ Bg)) (zE (by decide) (by decide))) (za rfl) Bg)))))⟩
 . have q:=zT (f:=zL qg) (g:=w4) (yV (Dx (as:=[sT (zh ns),sI k,sI HI,none,none,none]) (za (i:=1) rfl) (j _ rfl)) (congrArg some (zyG h))) rfl;have d:((k:Int)).natAbs<big:=zE (by omega) (by omega);have r:zy true 3 qe [sT (zh ns),sI k,sI HI,none,none,none]=some (.nx [sT (zh ns),sI k,sI HI,sI ((k:Int)*k+7*k+11),none,none]):=zX (zR (zR (xy (za rfl) (za rfl) d d) (xy zb (za rfl) (zE (by decide) (by decide)) d)) zb) (zo rfl);have H:(k:Int)*k<=10000:=by
    have:=Int.mul_le_mul (show(k:Int)<=100 by omega) (show(k:Int)<=100 by omega) (by omega) (by omega);omega
   have I:0<=(k:Int)*k:=Int.mul_nonneg (by omega) (by omega);obtain⟨c,s,t,u⟩:∃c:Int,0<=c/\c<10 ^ 12/\vG (fT (f2 zw (yk dN) (zP .NotEq))) qy w4 [sT (zh ns),sI k,sI HI,sI ((k:Int)*k+7*k+11),none,none]=some (.nx [sT (zh ns),sI k,sI HI,sI c,none,none]):=by
    have l:WT (fT (f2 zw (yk dN) (zP .NotEq))) [sT (zh ns),sI k,sI HI,sI ((k:Int)*k+7*k+11),none,none] (!ns.isEmpty):=yV (HE (z:=.bl (!ns.isEmpty)) (WD.e (za rfl)) (Zp yz (QC rfl) rfl rfl) (by cases ns<;>rfl)) rfl
    by_cases m:ns=[]
    . subst m;exact⟨_,by omega,by omega,zT l rfl⟩
    . have J:=List.length_pos_iff.mpr m;obtain⟨v,w⟩:=ZJ (as:=[sT (zh ns),sI k,sI HI,sI ((k:Int)*k+7*k+11),none,none]) (a:=fV 0) (za rfl) (yj (za (i:=1) rfl) (j _ rfl) (by omega)) (zyN _ (by omega)) (zyH _ (by omega));have A:=zyN v (show(1000003:Int)≠0 by decide);have K:=zyH v (show(0:Int)<1000003 by decide);have L:0<=v%1000003*(2*k+1):=Int.mul_nonneg A (by omega);have M:v%1000003*(2*k+1)<=1000003*201:=Int.mul_le_mul (by omega) (by omega) (by omega) (by omega);have B:(!ns.isEmpty)=true:=by
       cases ns with
       |nil=>exact absurd rfl m
       |cons _ _=>rfl
      rw[B]at l;exact⟨_,by omega,by omega,xN l (zX (zR (za rfl) (xy (yj w zb (by decide)) (zR (xy zb (za rfl) (zE (by decide) (by decide)) d) zb) (zE (by omega) (by omega)) (zE (by omega) (by omega)))) (zo rfl))⟩
   obtain⟨C,D,x,y,n,rfl,_⟩:=xm (g:=gN 5) (f:=jv) (λi as=>∃(x y:Int) (n:Option O),as=[sT (zh ns),sI k,sI HI,sI x,sI y,n]/\0<=x/\x<10 ^ 12) (y2 0 8) 0 [sT (zh ns),sI k,sI HI,sI c,sI 0,none] (λi z as E F=>by
    obtain⟨x,y,n,rfl,N,P⟩:=F;obtain⟨rfl,Q⟩:=wb E;have o:x.natAbs<big:=zE (by omega) (by omega);have G:=zyN (x*x+48271*x+69621*(0+(i:Int))+k) (show(2147483629:Int)≠0 by decide);have R:=zyH (x*x+48271*x+69621*(0+(i:Int))+k) (show(0:Int)<2147483629 by decide);exact⟨_,rfl,_,zp (zX (yj (zR (zR (zR (xy (za rfl) (za rfl) o o) (xy zb (za rfl) (zE (by decide) (by decide)) o)) (xy zb (za rfl) (zE (by decide) (by decide)) (zE (by omega) (by omega)))) (za rfl)) zb (by decide)) (zo rfl)) (zX (zR (Me (za rfl) zb (by decide)) (yj (Me (za rfl) zb (by decide)) zb (by decide))) (zo rfl)),_,_,_,rfl,G,by omega⟩)
    ⟨c,0,none,rfl,s,t⟩
   refine⟨_,zyN _ (Int.ne_of_gt Bg),vF rfl (zp p (zp q (zp r (zp u (zp (zX zb (zo rfl)) (zp (yI (xX (zr (zb) zB) (by decide) (by decide)) D) (vP (yj (za rfl) (za rfl) Bg))))))))⟩
def UV(ns:List Int){k:Nat}(hk:k<=100):∃x:Int,0<=x/\∀(as:AS) (b:EF),as[0]? = some (sT (zh ns))->WD b as true (.int k)->WD (zq (aC zw (aC b aN)) zH) as true (.int x):=by
 obtain⟨x,a,h⟩:=J5 hk;exact⟨x,a,λas b c d=>Gb (zr (za c) (zr d zB)) h⟩
def uT(x at_ st:Int)(k j:Nat):Nat:=97+((x/(53761+26*(j:Int)*j)+(if(j:Int)=at_ then(k:Int)*(st+1)else 0))%26).toNat
def M0(x at_ st:Int)(sz k:Nat):Str:=⟨((List.range sz).map (uT x at_ st k)).toArray⟩
abbrev lh(st:Int):Prop:=st=0\/st=2\/st=4\/st=6\/st=8\/st=10\/st=14\/st=16
def JO{x at_ st:Int}{sz k l:Nat}(hs:lh st)(h0:0<=at_)(h1:at_<sz)(hk:k<10)(hl:l<10)(h:M0 x at_ st sz k=M0 x at_ st sz l):k=l:=by
 unfold M0 at h;injection h with h
 have h:=congrArg Array.toList h;rw[List.toList_toArray,List.toList_toArray]at h;have e:=congrArg (λt:List Nat=>t[at_.toNat]?) h;have a:(List.range sz)[at_.toNat]? = some at_.toNat:=List.getElem?_range (by omega)
 simp only[zzI,a,Option.map_some]at e;have e:=zzZ e;unfold uT at e;rw[show((at_.toNat:Nat):Int)=at_ by omega,if_pos rfl,if_pos rfl]at e;have b:=zyN (x/(53761+26*at_*at_)+(k:Int)*(st+1)) (show(26:Int)≠0 by decide);have c:=zyN (x/(53761+26*at_*at_)+(l:Int)*(st+1)) (show(26:Int)≠0 by decide);generalize x/(53761+26*at_*at_)=q at e b c
 rcases hs with rfl|rfl|rfl|rfl|rfl|rfl|rfl|rfl<;>omega
def tU{x y:Str}(h:x.length+y.length<=sizeLine):YX .Add (.str x) (.str y)=some (.im (.str (x++y))):=if_pos h
abbrev Eb(x:Int)(mn sz:Nat)(at_ st:Int)(os:List O)(a b c d:Option O):AS:=[sI x,sI mn,sT (.str Hu),sI ((sz:Int)-1),sI at_,sI st,sN os,a,b,c,d]
abbrev kU:SF:=(zj (zy true 10 sx)
 (zj (vG (fT (f2 (fV 9) yG (zP .Eq))) um w4)
 oZ))
def pY{x:Int}{mn sz:Nat}{at_ st:Int}{os:List O}{k:Nat}{c d:Option O}(hz:sz<=8)(hk:k<10)(hs:lh st):∃c' d',forL (gN 9) kU (y2 0 sz) (Eb x mn sz at_ st os (sI k) (sT (.str ⟨#[]⟩)) c d)=some (.nx (Eb x mn sz at_ st os (sI k) (sT (.str (M0 x at_ st sz k))) c' d')):=by
 have l:0<=st/\st<=16:=by rcases hs with rfl|rfl|rfl|rfl|rfl|rfl|rfl|rfl<;>decide
 obtain⟨o,m,b,a,rfl⟩:=xm (g:=gN 9) (λi as=>∃b a,as=Eb x mn sz at_ st os (sI k) (sT (.str (M0 x at_ st i k))) b a) (y2 0 sz) 0 (Eb x mn sz at_ st os (sI k) (sT (.str ⟨#[]⟩)) c d) (λi z as f p=>by
  obtain⟨b,a,rfl⟩:=p;obtain⟨rfl,u⟩:=wb f;rw[zyX,Int.zero_add];have v:0<=(i:Int)*i:=Int.mul_nonneg (by omega) (by omega);have w:(i:Int)*i<=64:=Int.mul_le_mul (c:=8) (d:=8) (by omega) (by omega) (by omega) (by omega);have y:26*(i:Int)*i=26*((i:Int)*i):=Int.mul_assoc ..;have h:∀a,zy true 10 sx (Eb x mn sz at_ st os (sI k) (sT (.str (M0 x at_ st i k))) (sI i) a)=some (.nx (Eb x mn sz at_ st os (sI k) (sT (.str (M0 x at_ st i k))) (sI i) (sI (x/(53761+26*(i:Int)*i))))):=λa=>zX (wy (za rfl) (zR zb (xy (xy zb (za rfl) (zE (by decide) (by decide)) (zE (by omega) (by omega))) (za rfl) (zE (by omega) (by omega)) (zE (by omega) (by omega)))) (by omega) (zE (by omega) (by omega))) (zo rfl);have j:vG (fT (f2 (fV 9) yG (zP .Eq))) um w4 (Eb x mn sz at_ st os (sI k) (sT (.str (M0 x at_ st i k))) (sI i) (sI (x/(53761+26*(i:Int)*i))))=some (.nx (Eb x mn sz at_ st os (sI k) (sT (.str (M0 x at_ st i k))) (sI i) (sI (x/(53761+26*(i:Int)*i)+(if(i:Int)=at_ then(k:Int)*(st+1)else 0))))):=by
   by_cases e:(i:Int)=at_
   . rw[if_pos e];exact xN (eqT (za rfl) (za rfl) (by simp[e])) (zX (zR (za rfl) (xy (za rfl) (zR (za rfl) zb) (zE (by omega) (by omega)) (zE (by omega) (by omega)))) (zo rfl))
   . rw[if_neg e,Int.add_zero];exact zT (eqT (za rfl) (za rfl) (by simp[e])) rfl
  have q:=zyN (x/(53761+26*(i:Int)*i)+(if(i:Int)=at_ then(k:Int)*(st+1)else 0)) (show(26:Int)≠0 by decide);have r:=zyH (x/(53761+26*(i:Int)*i)+(if(i:Int)=at_ then(k:Int)*(st+1)else 0)) (show(0:Int)<26 by decide);have s:(M0 x at_ st i k).length=i:=by
   show(((List.range i).map (uT x at_ st k)).toArray).size=i;rw[zzH,zzB,zyU]
  have t:M0 x at_ st i k++(⟨#[uT x at_ st k i]⟩:Str)=M0 x at_ st (i+1) k:=by
   show(⟨((List.range i).map (uT x at_ st k)).toArray ++ #[uT x at_ st k i]⟩:Str)=_;unfold M0;rw[List.range_succ,zyM];simp
  have n:=zX (st:=true) (i:=8) (as:=Eb x mn sz at_ st os (sI k) (sT (.str (M0 x at_ st i k))) (sI i) (sI (x/(53761+26*(i:Int)*i)+(if(i:Int)=at_ then(k:Int)*(st+1)else 0)))) (zJ (za (i:=8) rfl) (zJ (za (i:=2) rfl) (yj (za (i:=10) rfl) zb (by decide)) (uf q r) rfl) (tU (S_ (by rw[s];show i+1<=_;omega))) rfl) (zo rfl);rw[show(⟨#[97+((x/(53761+26*(i:Int)*i)+(if(i:Int)=at_ then(k:Int)*(st+1)else 0))%26).toNat]⟩:Str)=⟨#[uT x at_ st k i]⟩from rfl,t]at n;exact⟨Eb x mn sz at_ st os (sI k) (sT (.str (M0 x at_ st i k))) (sI i) a,rfl,_,zp (h a) (zp j n),_,_,rfl⟩)
  ⟨c,d,rfl⟩
 rw[xp,zyX]at m;exact⟨b,a,m⟩
def EW(x:Int){mn:Nat}(hm:mn<=10):∃ss:List Str,ss.length=mn/\ss.Nodup/\RE (wu [(true,.int x),(true,.int mn)]) (.lst (ss.map D.str)):=by
 have A:zy true 2 (fC (.str "abcdefghijklmnopqrstuvwxyz")) [sI x,sI mn,none,none,none,none,none,none,none,none,none]=some (.nx [sI x,sI mn,sT (.str Hu),none,none,none,none,none,none,none,none]):=zX zb (zo rfl);have U:=zyN x (show(8:Int)≠0 by decide);have V:=zyH x (show(0:Int)<8 by decide);obtain⟨sz,B,o,C⟩:∃sz:Nat,1<=sz/\sz<=8/\x%8=(sz:Int)-1:=⟨(x%8+1).toNat,by omega,by omega,by omega⟩;have E:Rg qA (gT 3 (wj (gN 3) (wj Po (wj (gN 5) Qm)))) [sI x,sI mn,sT (.str Hu),none,none,none,none,none,none,none,none]=some (.nx [sI x,sI mn,sT (.str Hu),sI ((sz:Int)-1),sI (x/8%840),sI (x/8/840%8),none,none,none,none,none]):=by
  rw[<-C];exact Bl (SH (sz:=[8,840,8]) (by decide) (by decide) (WD.e (za rfl)) (Zp (zz zb (zz zb (zz zb yz))) (QC rfl) rfl rfl)) rfl
 have F:=zyN (x/8/840) (show(8:Int)≠0 by decide);have f1:=zyH (x/8/840) (show(0:Int)<8 by decide);obtain⟨l,p,v⟩:=HS (r:=[0,2,4,6,8,10,14,16]) (P:=lh) F f1 (by decide);have G:zy true 5 qI [sI x,sI mn,sT (.str Hu),sI ((sz:Int)-1),sI (x/8%840),sI (x/8/840%8),none,none,none,none,none]=some (.nx [sI x,sI mn,sT (.str Hu),sI ((sz:Int)-1),sI (x/8%840),sI l,none,none,none,none,none]):=zX (HE (Zp (zz zb (zz zb (zz zb (zz zb (zz zb (zz zb (zz zb (zz zb yz)))))))) (QC rfl) rfl rfl) (WD.e (za rfl)) p) (zo rfl);have w:=zyN (x/8%840) (show(sz:Int)-1+1≠0 by omega);have H:=zyH (x/8%840) (show(0:Int)<(sz:Int)-1+1 by omega);have y:zy true 4 (f2 yG (f2 yw yB zD) zW) [sI x,sI mn,sT (.str Hu),sI ((sz:Int)-1),sI (x/8%840),sI l,none,none,none,none,none]=some (.nx [sI x,sI mn,sT (.str Hu),sI ((sz:Int)-1),sI (x/8%840%((sz:Int)-1+1)),sI l,none,none,none,none,none]):=zX (yj (za rfl) (zR (za rfl) zb) (by omega)) (zo rfl);generalize x/8%840%((sz:Int)-1+1)=h at y w H;obtain⟨I,J,m,a,b,c,d,rfl,n⟩:=xm (g:=gN 7) (f:=(zj (zy true 8 (fC (.str "")))
  (zj (yU (yM sy y_) (gN 9) kU)
  (yN (vH 6 (dC (fV 8) dN) ZA)))))
  (λi as=>∃m a b c d,as=Eb x mn sz h l m a b c d/\Ows D.str (λ_=>True) m ((List.range i).map (M0 x h l sz)))
  (y2 0 mn) 0 (Eb x mn sz h l [] none none none none) (λi z as q K=>by
   obtain⟨m,a,b,c,d,rfl,n⟩:=K;obtain⟨rfl,W⟩:=wb q;rw[zyX]at n ⊢;rw[Int.zero_add];obtain⟨L,M,s⟩:=pY (k:=i) o (by omega) v;have N:WA sy (Eb x mn sz h l m (sI i) (sT (.str ⟨#[]⟩)) c d) [(true,.int (sz:Int))]:=by
    have:=zr (zR (as:=Eb x mn sz h l m (sI i) (sT (.str ⟨#[]⟩)) c d) (za (i:=3) rfl) (zb (x:=.int 1))) zB
    rwa [Int.sub_add_cancel]at this
   have j:=xX N (by omega) (by omega);rw[zyI]at j;obtain⟨t,O,Q⟩:=OC (as:=Eb x mn sz h l m (sI i) (sT (.str (M0 x h l sz i))) L M) (i:=6) rfl n (by rw[zzB,zyU];omega) (WD.e (za (i:=8) rfl)) True.intro;exact⟨Eb x mn sz h l m (sI i) b c d,rfl,_,zp (zX zb (zo rfl)) (zp (yI j s) Q),t,_,_,_,_,rfl,by rw[List.range_succ,zyM];exact O⟩)
  ⟨[],none,none,none,none,rfl,Ows.nil⟩
 rw[xp,zyX]at n;have j:=xX (as:=Eb x mn sz h l [] none none none none) (zr (za (i:=1) rfl) zB) (by omega) (by omega);rw[zyI]at j;refine⟨(List.range mn).map (M0 x h l sz),by rw[zzB,zyU], ?_,yJ rfl (zm A (zm E (zm G (zm y (zm (xa (vv yz (QC rfl)) (zo rfl)) (zm (yI j J) (Ows.retB rfl n)))))))⟩;exact List.pairwise_map.mpr ((List.nodup_range).imp_of_mem λR S u T=>u (JO v w (by omega) (by have:=List.mem_range.mp R;omega) (by have:=List.mem_range.mp S;omega) T))
abbrev PZ:Type:=List (Int×Nat)
abbrev pD(p:Int×Nat):D:=.tup [.int p.1,.int p.2]
abbrev Vc(P:PZ):D:=.lst (P.map pD)
def PN:PZ->Nat
 | []=>1
 |p::r=>PN r*p.2
def sp:PZ->Int->List Int
 | [],_=>[]
 |p::r,v=>v%p.2::sp r (v/p.2)
def ld:PZ->List Int->Int
 |p::r,d::t=>ld r t*p.2+d
 |_,_=>0
def jX:PZ->Int->Int->Int
 | [],_,_=>0
 |p::r,v,w=>jB p.2 (jX r) (jK p.1 p.2) v w
def eX:PZ->Int
 | []=>0
 |p::r=>eX r*p.2+eK p.1
def dS(x:Int):Nat->Int
 |0=>0
 |k+1=>dS x k+x/3 ^ k%3
noncomputable def dK(k:Int)(n:Nat)(x c a:Int):Int:=
 if k=0 then(x%n*a+x/n%n*c)%n
 else if k=1 then(if dS x a.toNat<(n:Int)-1 then dS x a.toNat else(n:Int)-1)
 else if k=2 then(if 0<a then 1+x/6 ^ a.toNat%((n:Int)-1)else 0)
 else if x%2=0 then a else sP a
def dX:PZ->Int->Int->Int->Int
 | [],_,_,_=>0
 |p::r,x,c,v=>dB p.2 (dX r x) (dK p.1 p.2 x) c v
abbrev PK(P:PZ):Prop:=∀p ∈ P,KN p.1 p.2/\2<=p.2/\p.2<=7
theorem Bo:∀{P:PZ},PK P->1<=PN P
 | [],_=>zzN _
 |p::r,h=>Nat.mul_pos (Bo λq m=>h q (zzD _ m)) (by have:=(h p (zzF ..)).2.1;omega)
theorem rJ:∀{P:PZ},PK P->LJ (PN P) (jX P) (eX P)
 | [],_=>⟨λ_ _ _ _=>⟨Int.le_refl _,Int.one_pos⟩,⟨Int.le_refl _,Int.one_pos⟩,λa b=>(by have c:=b.1;have d:a<1:=b.2;show(0:Int)=a;omega),λa b=>(by have c:=b.1;have d:a<1:=b.2;show(0:Int)=a;omega),λ_ _ _ _ _ _=>rfl⟩
 |p::r,h=>jb (rJ λq m=>h q (zzD _ m)) (kN (h p (zzF ..)).1) (by have:=(h p (zzF ..)).2.1;omega)
def Sn(x:Int):∀{a b:Nat},a<=b->dS x a<=dS x b:=λ{a b} h=>by
 induction h with
 |refl=>exact Int.le_refl _
 | @step k _ ih=>
  refine Int.le_trans ih ?_;have:=zyN (x/3 ^ k) (show(3:Int)≠0 by decide);exact Int.le_add_of_nonneg_right this
def oe(x:Int)(a:Nat):0<=dS x a:=Sn x (Nat.zero_le a)
def ldK{k x:Int}{n m:Nat}(h:KN k n)(n2:2<=n)(m1:1<=m)(hm:k=0->m=n):LD n m (jK k n) (eK k) (dK k n x):=by
 rcases h with⟨rfl,_⟩|⟨rfl,_⟩|⟨rfl,_⟩|⟨rfl,rfl⟩
 . have e:=hm rfl;subst e;exact LD.congr (by omega) (kB (by omega)) (jI (x0:=x%m) (x1:=x/m%m) (by omega) (by omega) (by omega) (Int.dvd_refl _) (Int.dvd_refl _)) (λ_ _ _ _=>rfl) λc a _ _=>by
    show(x%m*a+x/m%m*c)%m=_;rw[Int.ediv_self (by omega),Int.mul_one,Int.mul_comm (x%m),Int.mul_comm (x/m%m)]
 . refine ji m1 ?_ (λa _=>?_) λa b d i g=>?_
   . show(if(0:Int)<(n:Int)-1 then(0:Int)else(n:Int)-1)=0;rw[if_pos (by omega)]
   . have:=oe x a.toNat;show zQ n (if dS x a.toNat<(n:Int)-1 then dS x a.toNat else(n:Int)-1)
     split<;>exact⟨by omega,by omega⟩
   . have:=Sn x (show a.toNat<=b.toNat by omega);show(if dS x a.toNat<(n:Int)-1 then dS x a.toNat else(n:Int)-1)<=(if dS x b.toNat<(n:Int)-1 then dS x b.toNat else(n:Int)-1)
     split<;>split<;>omega
 . have f:∀a:Int,0<=x/6 ^ a.toNat%((n:Int)-1)/\x/6 ^ a.toNat%((n:Int)-1)<(n:Int)-1:=λa=>⟨zyN _ (by omega),zyH _ (by omega)⟩;refine jD rfl (λa _=>?_) λa d j=>?_
   . have:=f a;show zQ n (if 0<a then _ else _)
     split<;>exact⟨by omega,by omega⟩
   . have:=f a;have:=d.1;show(if 0<a then 1+x/6 ^ a.toNat%((n:Int)-1)else 0)≠0;rw[if_pos (by omega)];omega
 . refine jJ ?_
   by_cases e:x%2=0
   . exact .inl λa _=>if_pos e
   . exact .inr λa _=>if_neg e
theorem mJ{x:Int}{m:Nat}(m1:1<=m):∀{P:PZ},PK P->(∀p ∈ P,p.1=0->m=p.2)->LD (PN P) m (jX P) (eX P) (dX P x)
 | [],_,_=>⟨λ_ _ _ _=>⟨Int.le_refl _,Int.one_pos⟩,rfl,λ_ _ _ _ _ _ _ _=>rfl⟩
 |p::r,h,a=>jC (rJ λq m=>h q (zzD _ m)) (kN (h p (zzF ..)).1) (by have:=(h p (zzF ..)).2.1;omega) (mJ m1 (λq m=>h q (zzD _ m)) λq m=>a q (zzD _ m)) (ldK (h p (zzF ..)).1 (h p (zzF ..)).2.1 m1 (a p (zzF ..)))
noncomputable def z3(f:Int->Nat->Int->Int->Int):PZ->List Int->List Int->List Int
 |p::P,a::s,b::t=>f p.1 p.2 a b::z3 f P s t
 |_,_,_=>[]
noncomputable def z2(f:Int->Nat->Int->Int):PZ->List Int->List Int
 |p::P,a::s=>f p.1 p.2 a::z2 f P s
 |_,_=>[]
theorem DO:∀(P:PZ) (v w:Int),ld P (z3 jK P (sp P v) (sp P w))=jX P v w
 | [],_,_=>rfl
 |p::r,v,w=>by
  show ld r (z3 jK r (sp r (v/p.2)) (sp r (w/p.2)))*p.2+jK p.1 p.2 (v%p.2) (w%p.2)=_;rw[DO r];rfl
theorem DV(x c:Int):∀(P:PZ) (v:Int),ld P (z2 (λk n a=>dK k n x c a) P (sp P v))=dX P x c v
 | [],_=>rfl
 |p::r,v=>by
  show ld r (z2 (λk n a=>dK k n x c a) r (sp r (v/p.2)))*p.2+dK p.1 p.2 x c (v%p.2)=_;rw[DV x c r];rfl
theorem NM:∀(P:PZ) (v:Int),(sp P v).length=P.length
 | [],_=>rfl
 |_::r,v=>congrArg (· + 1) (NM r _)
theorem lZ:∀P:PZ,ld P (P.map λp=>eK p.1)=eX P
 | []=>rfl
 |p::r=>by
  show ld r (r.map λp=>eK p.1)*p.2+eK p.1=_;rw[lZ r];rfl
theorem lX:∀P:PZ,ld P (P.map λp=>(p.2:Int)-1)+1=(PN P:Int)
 | []=>rfl
 |p::r=>by
  show ld r (r.map λp=>(p.2:Int)-1)*p.2+((p.2:Int)-1)+1=((PN r*p.2:Nat):Int);rw[zzV,<-lX r,Int.add_mul];omega
end G40
end
section
set_option exponentiation.threshold 5000
namespace G40
open PySem PySem.Spec PyProof.Rows PF
def MW{p:Int×Nat}{a b:Int}(h:KN p.1 p.2)(ha:zQ p.2 a)(hb:zQ p.2 b):xi [(true,pD p),(true,.int a),(true,.int b)]=sI (jK p.1 p.2 a b):=by
 obtain⟨k,n⟩:=p;have c:∀{k:Int}{n:Nat},Rg zw (gT 2 (wj (gN 3) (wj Po Qm))) [sT (pD (k,n)),sI a,sI b,none,none]=some (.nx [sT (pD (k,n)),sI a,sI b,sI k,sI n]):=Bl (WD.e (za rfl)) rfl
 rcases h with⟨rfl,d⟩|⟨rfl,d⟩|⟨rfl,d⟩|⟨rfl,rfl⟩
 . exact vF rfl (zp c (vU (xN (eqT (za rfl) zb rfl) (vP (yj (zR (za rfl) (za rfl)) (za rfl) (by omega))))))
 . exact vF rfl (zp c (zp (zT (eqT (za rfl) zb rfl) rfl) (vU (xN (eqT (za rfl) zb rfl) (vP (xk (zr (za rfl) (zr (za rfl) zB)) rfl rfl))))))
 . exact vF rfl (zp c (zp (zT (eqT (za rfl) zb rfl) rfl) (zp (zT (eqT (za rfl) zb rfl) rfl) (vU (xN (eqT (za rfl) zb rfl) (vP (HE (Zp (zz (za rfl) (zz (za rfl) yz)) (QC rfl) rfl rfl) (WD.e (xk (zr (Km (za rfl) zb rfl) zB) rfl rfl)) (p8.trans (by show _=some (R0.im (.int (jL a b)));unfold jL;by_cases h:b=0<;>simp[h])))))))))
 . obtain⟨o,f⟩:=ha;obtain⟨q,g⟩:=hb;have f:=f;have g:=g;have j:WE uP [sT (pD (3,4)),sI a,sI b,sI 3,sI (4:Nat)] (.lst [.int (b/2),.int (b%2)]):=Zp (zz (wy (za rfl) zb (by decide) (zE (by decide) (by decide))) (zz (yj (za rfl) zb (by decide)) yz)) (QC rfl) rfl rfl;have l:∀{i:Int},i=0\/i=1->zN (.lst [.int (b/2),.int (b%2)]) (.int i)=some (.im (.int (iP b i))):=λh=>by
    rcases h with rfl|rfl<;>rfl
   have m:∀i,0<=iP b i/\iP b i<4:=λi=>by unfold iP;split<;>constructor<;>omega
   have:=m (a/2);exact vF rfl (zp c (zp (zT (eqT (za rfl) zb rfl) rfl) (zp (zT (eqT (za rfl) zb rfl) rfl) (zp (zT (eqT (za rfl) zb rfl) rfl) (vP (zR (xy zb (HE j (WD.e (wy (za rfl) zb (by decide) (zE (by decide) (by decide)))) (l (by omega))) (zE (by decide) (by decide)) (zE (by omega) (by omega))) (HE j (WD.e (yj (za rfl) zb (by decide))) (l (by omega)))))))))
theorem Og(x:Int):∀k:Nat,((List.range k).map λi=>x/3 ^ i%3).sum=dS x k
 |0=>rfl
 |k+1=>by
  rw[List.range_succ,zyM,List.sum_append_int,Og x k];show dS x k+(x/3 ^ k%3+0)=dS x k+x/3 ^ k%3;rw[Int.add_zero]
def jU:∀i:Nat,i<7->zN (zh [1,3,9,27,81,243,729]) (.int (i:Int))=some (.im (.int (3 ^ i)))
 |0,_=>rfl|1,_=>rfl|2,_=>rfl|3,_=>rfl|4,_=>rfl|5,_=>rfl|6,_=>rfl
 |n+7,h=>by omega
def ju:∀i:Nat,i<7->zN (zh [1,6,36,216,1296,7776,46656]) (.int (i:Int))=some (.im (.int (6 ^ i)))
 |0,_=>rfl|1,_=>rfl|2,_=>rfl|3,_=>rfl|4,_=>rfl|5,_=>rfl|6,_=>rfl
 |n+7,h=>by omega
def pb(b:Int)(h1:1<=b)(h2:b<=6):∀i:Nat,i<7->(0:Int)<b ^ i/\b ^ i<=1000000:=λi a=>by
 refine⟨Int.pow_pos (by omega), ?_⟩;have e:i=0\/i=1\/i=2\/i=3\/i=4\/i=5\/i=6:=by omega
 have f:b=1\/b=2\/b=3\/b=4\/b=5\/b=6:=by omega
 rcases e with rfl|rfl|rfl|rfl|rfl|rfl|rfl<;>rcases f with rfl|rfl|rfl|rfl|rfl|rfl<;>decide
def l7{as:AS}{a b c d e f g:Int}:WE (yk (dC (fC (.int a)) (dC (fC (.int b)) (dC (fC (.int c)) (dC (fC (.int d)) (dC (fC (.int e)) (dC (fC (.int f)) (dC (fC (.int g)) dN)))))))) as (zh [a,b,c,d,e,f,g]):=Zp (zz zb (zz zb (zz zb (zz zb (zz zb (zz zb (zz zb yz))))))) (QC rfl) rfl rfl
theorem Np:∀l:List Int,XT (l.map D.int)=some l
 | []=>rfl
 |x::l=>by show(XT (l.map D.int)).bind _=_;rw[Np l];rfl
def Er{k:Int}{n:Nat}{x c a:Int}{m:Nat}(h:KN k n)(n2:2<=n)(n7:n<=7)(hc:zQ m c)(m6:m<=6)(ha:zQ n a):yQ [(true,pD (k,n)),(true,.int x),(true,.int c),(true,.int a)]=sI (dK k n x c a):=by
 obtain⟨C,E⟩:=ha;obtain⟨F,G⟩:=hc;have j:∀{k:Int}{n:Nat},Rg zw (gT 2 (wj Po (wj (gN 5) Qm))) [sT (pD (k,n)),sI x,sI c,sI a,none,none]=some (.nx [sT (pD (k,n)),sI x,sI c,sI a,sI k,sI n]):=Bl (WD.e (za rfl)) rfl;have H:=zyN x (show(n:Int)≠0 by omega);have I:=zyH x (show(0:Int)<n by omega);have J:=zyN (x/n) (show(n:Int)≠0 by omega);have K:=zyH (x/n) (show(0:Int)<n by omega);have u:((n:Int)).natAbs<big:=zE (by omega) (by omega)
 rcases h with⟨rfl,r⟩|⟨rfl,r⟩|⟨rfl,r⟩|⟨rfl,rfl⟩
 . exact vF rfl (zp j (vU (xN (eqT (za rfl) zb rfl) (vP (yj (zR (xy (yj (za rfl) (za rfl) (by omega)) (za rfl) (zE (by omega) (by omega)) (zE (by omega) (by omega))) (xy (yj (wy (za rfl) (za rfl) (by omega) u) (za rfl) (by omega)) (za rfl) (zE (by omega) (by omega)) (zE (by omega) (by omega)))) (za rfl) (by omega))))))
 . obtain⟨b,rfl⟩:∃b:Nat,a=(b:Int):=⟨a.toNat,by omega⟩;have s:=Rm (cap:=[none,some 1]) (gg:=gN 0) (fe:=f2 qF Qn zW) (List.range b) (by
    have:=xX (as:=[sT (pD (1,n)),sI x,sI c,sI (b:Int),sI 1,sI n]) (zr (za (i:=3) rfl) zB) (by omega) (by omega)
    rwa [zyI]at this) (by rw[zyU];omega) λi v=>by
    have L:=List.mem_range.mp v;rw[Int.zero_add];have:=pb 3 (by decide) (by decide) i (by omega);exact⟨_,rfl,WD.e (yj (wy (za rfl) (HE l7 (WD.e (za rfl)) (jU i (by omega))) this.1 (zE (by omega) (by omega))) zb (by decide))⟩
   have w:((List.range b).map λi:Nat=>D.int (x/3 ^ i%3))=((List.range b).map λi=>x/3 ^ i%3).map D.int:=by rw[zyB];rfl
   rw[w]at s;have y:=xk (g:=sV) (x:=.int (dS x b)) (xZ s zB) (by
    show(XT (((List.range b).map λi=>x/3 ^ i%3).map D.int)).bind _=_;rw[Np,<-Og x b];rfl) rfl
   have p:=xk (g:=SZ) (zr (XB (za (i:=5) rfl) (zb (x:=.int 1))) (zr y zB)) rfl rfl;exact vF rfl (zp j (zp (zT (eqT (za rfl) zb rfl) rfl) (vU (xN (eqT (za rfl) zb rfl) (vP p)))))
 . obtain⟨b,rfl⟩:∃b:Nat,a=(b:Int):=⟨a.toNat,by omega⟩;have q:=pb 6 (by decide) (by decide) b (by omega);have p:=xk (g:=E8) (zr (zb (as:=[sT (pD (2,n)),sI x,sI c,sI (b:Int),sI 2,sI n]) (x:=.int 1)) (zr (XB (za (i:=5) rfl) (zb)) zB)) (by
    show some (R0.im (.int (if(n:Int)-1 > 1 then(n:Int)-1 else 1)))=_
    split
    . rfl
    . rw[show(n:Int)-1=1 by omega]) rfl
   have M:=zyN (x/6 ^ b) (show(n:Int)-1≠0 by omega);have N:=zyH (x/6 ^ b) (show(0:Int)<(n:Int)-1 by omega);have z:=xk (x:=.int (if(0:Int)<b then 1 else 0)) (zr (zJ (g:=zP .Gt) (za (as:=[sT (pD (2,n)),sI x,sI c,sI (b:Int),sI 2,sI n]) (i:=3) rfl) (zb (x:=.int 0)) rfl rfl) zB) (by
    show LH [.bl (decide ((0:Int)<b))]=_
    by_cases h:(0:Int)<b
    . rw[zyO h,if_pos h];rfl
    . rw[zyG h,if_neg h];rfl) rfl
   have t:=xy z (zR (zb (x:=.int 1)) (yj (wy (za (i:=1) rfl) (HE l7 (WD.e (za (i:=3) rfl)) (ju b (by omega))) q.1 (zE (by omega) (by omega))) p (by omega))) (zE (by split<;>decide) (by split<;>decide)) (zE (by omega) (by omega));have A:(if(0:Int)<b then(1:Int)else 0)*(1+x/6 ^ b%((n:Int)-1))=dK 2 n x c (b:Int):=by
    show _=if(0:Int)<b then 1+x/6 ^ (((b:Nat):Int)).toNat%((n:Int)-1)else 0
    rw[zyI]
    split
    . rw[Int.one_mul]
    . rw[Int.zero_mul]
   rw[A]at t;exact vF rfl (zp j (zp (zT (eqT (za rfl) zb rfl) rfl) (zp (zT (eqT (za rfl) zb rfl) rfl) (vU (xN (eqT (za rfl) zb rfl) (vP t))))))
 . have l:WT pM [sT (pD (3,4)),sI x,sI c,sI a,sI 3,sI (4:Nat)] (x%2==0):=eqT (yj (za rfl) zb (by decide)) zb rfl;have B:∀{o:Option Out}{f g:SF},zj f g [sT (pD (3,4)),sI x,sI c,sI a,sI 3,sI (4:Nat)]=o->zj f g [sT (pD (3,4)),sI x,sI c,sI a,sI 3,sI (4:Nat)]=o:=λh=>h
   by_cases e:x%2=0
   . rw[show(x%2==0)=true by simp[e]]at l;have d:dK 3 4 x c a=a:=if_pos e;rw[d];exact vF rfl (zp j (zp (zT (eqT (za rfl) zb rfl) rfl) (zp (zT (eqT (za rfl) zb rfl) rfl) (zp (zT (eqT (za rfl) zb rfl) rfl) (vU (xN l (vP (za rfl))))))))
   . rw[show(x%2==0)=false by simp[e]]at l;have d:dK 3 4 x c a=sP a:=if_neg e;rw[d];exact vF rfl (zp j (zp (zT (eqT (za rfl) zb rfl) rfl) (zp (zT (eqT (za rfl) zb rfl) rfl) (zp (zT (eqT (za rfl) zb rfl) rfl) (zp (zT l rfl) (vP (XB (zR (xy zb (XB zb (yj (za rfl) zb (by decide))) (zE (by decide) (by decide)) (zE (by omega) (by omega))) zb) (wy (za rfl) zb (by decide) (zE (by decide) (by decide))))))))))
def N7{p:Int×Nat}{x c a:Int}{m:Nat}(h:KN p.1 p.2/\2<=p.2/\p.2<=7)(hc:zQ m c)(m6:m<=6)(ha:zQ p.2 a):yQ [(true,pD p),(true,.int x),(true,.int c),(true,.int a)]=sI (dK p.1 p.2 x c a):=Er h.1 h.2.1 h.2.2 hc m6 ha
def PK.tail{p:Int×Nat}{P:PZ}(h:PK (p::P)):PK P:=λq m=>h q (zzD _ m)
abbrev jr:SF:=(zj (yN (vH 2 (dC (f2 zA yG zW) dN) ZA))
 (zy true 1 (f2 zA yG zM)))
theorem Cv{B:Option O}:∀(P:PZ) (v:Int) (acc:List Int) (e3 e4:Option O),PK P->acc.length+P.length<=900->∃v' e3' e4',forL (gT 2 (wj (gN 3) (wj Po Qm))) jr (P.map λp=>(true,pD p)) [B,sI v,some (yC acc),e3,e4]=some (.nx [B,sI v',some (yC (acc++sp P v)),e3',e4'])
 | [],v,a,b,c,_,_=>⟨v,b,c,by rw[show a++sp [] v=a from zyE _];rfl⟩
 |p::P,v,a,b,c,h,f=>by
  have k:=(h p (zzF ..)).2;rw[zzT]at f;obtain⟨g,j,f4,d⟩:=Cv P (v/p.2) (a++[v%p.2]) (sI p.1) (sI p.2) h.tail (by rw[zzJ];show a.length+1+P.length<=900;omega);rw[zxC]at d;refine⟨g,j,f4,Za rfl (zp (as1:=[B,sI v,some (yC (a++[v%p.2])),sI p.1,sI p.2]) ?_ (zX (wy (za rfl) (za rfl) (by omega) (zE (by omega) (by omega))) (zo rfl))) d⟩;have e:=Um (i:=2) (as:=[B,sI v,some (yC a),sI p.1,sI p.2]) rfl (yj (za (i:=1) rfl) (za (i:=4) rfl) (by omega)) rfl (by rw[zzB];exact slt (by omega));rw[<-EH]at e;exact e
def Ip{P:PZ}{v:Int}(h:PK P)(hl:P.length<=10):Zx [(true,Vc P),(true,.int v)]=some (yC (sp P v)):=by
 obtain⟨c,d,f,a⟩:=Cv P v [] none none h (by show 0+_<=_;omega);have b:Xe zw [sT (Vc P),sI v,some (yC []),none,none]=some (P.map λp=>(true,pD p),[sT (Vc P),sI v,some (yC []),none,none]):=by
  have:=Bw (WD.e (za (as:=[sT (Vc P),sI v,some (yC []),none,none]) (i:=0) rfl));rw[zyB]at this;exact this
 exact vF rfl (zp (xa (vv yz (QC rfl)) (zo rfl)) (zp (yI b a) (Qf rfl (Zv _).2.1)))
def D4{f:EF}{as:AS}{ds:List D}(h:WD f as true (.lst ds)):WE (KZ f oN (oS (f1 yB FP)) rW) as (.lst ds.reverse):=by
 refine⟨.nd .ls (ds.reverse.map (O.lf true)), ?_,U8 _,congrArg D.lst (PH _)⟩;unfold WD at h;unfold KZ;rw[h];show(if((ds.reverse).all zv||(some true).isSome)=true then some (RV.ow (.nd .ls (ds.reverse.map (MZ true))))else none:Option RV).bind _=_;rw[if_pos (by simp)];show some (RV.ow (.nd .ls (ds.reverse.map (MZ true))),as)=_;rw[show(MZ true)=O.lf true from funext λd=>by show O.lf (zv d||true) d=_;rw[zyD]]
theorem V2:∀(P:PZ) (ds:List Int),VI true (P.map pD) (ds.map D.int)=(P.zip ds).map λq=>(true,D.tup [pD q.1,.int q.2])
 | [],_=>rfl
 |_::_,[]=>rfl
 |p::P,d::a=>congrArg (_ :: ·) (V2 P a)
theorem Sh:∀(P:PZ) (ds:List Int),P.length=ds.length->(P.zip ds).foldr (λq v=>v*(q.1.2:Int)+q.2) 0=ld P ds
 | [],[],_=>rfl
 | [],_::_,h=>by simp at h
 |_::_,[],h=>by simp at h
 |p::P,d::a,h=>by
  show(P.zip a).foldr _ 0*(p.2:Int)+d=ld P a*p.2+d;rw[Sh P a (by simpa using h)]
abbrev k_:SF:=pV
theorem HM{B C:Option O}:∀(l:List ((Int×Nat)×Int)) (v:Int) (e3 e4:Option O),(∀q ∈ l,q.1.2<=7)->∃e3' e4',forL (gT 2 (wj (gN 3) (wj Po Qm))) k_ (l.map λq=>(true,D.tup [pD q.1,.int q.2])) [B,C,sI v,e3,e4]=some (.nx [B,C,sI (l.foldl (λv q=>v*(q.1.2:Int)+q.2) v),e3',e4'])
 | [],v,a,b,_=>⟨a,b,rfl⟩
 |q::l,v,a,b,h=>by
  have e:=h q (zzF ..);obtain⟨c,f4,d⟩:=HM l (v*(q.1.2:Int)+q.2) (sT (pD q.1)) (sI q.2) λx m=>h x (zzD _ m);exact⟨c,f4,Za rfl (zX (zR (Me (za rfl) (zJ (za rfl) (zb) rfl rfl) (Nat.lt_of_le_of_lt (show((q.1.2:Int)).natAbs<=7 by omega) (by decide))) (za rfl)) (zo rfl)) d⟩
def NA{P:PZ}{ds:List Int}(h:PK P)(hl:P.length=ds.length):yy [(true,Vc P),(true,zh ds)]=sI (ld P ds):=by
 obtain⟨g,j,a⟩:=HM (P.zip ds).reverse 0 none none λq m=>by
  have:=List.of_mem_zip (List.mem_reverse.mp (show(q.1,q.2) ∈ (P.zip ds).reverse from m));exact(h _ this.1).2.2
 rw[List.foldl_reverse,Sh P ds hl]at a;have e:(P.zip ds).reverse=P.reverse.zip ds.reverse:=List.reverse_zipWith hl;have b:=D4 (as:=[sT (Vc P),sT (zh ds),sI 0,none,none]) (za (i:=0) rfl);have c:=D4 (as:=[sT (Vc P),sT (zh ds),sI 0,none,none]) (za (i:=1) rfl);rw[<-List.map_reverse]at b c;have f:W4 rf [sT (Vc P),sT (zh ds),sI 0,none,none]=some ((P.zip ds).reverse.map λq=>(true,D.tup [pD q.1,.int q.2]),[sT (Vc P),sT (zh ds),sI 0,none,none]):=by
  rw[e,<-V2];have d:=xZ b (xZ c (zB));unfold WA at d;unfold W4 rf;rw[d];rfl
 exact vF rfl (zp (zX zb (zo rfl)) (zp (yI f a) (vP (za rfl))))
def IP{as:AS}{a b:EF}{i:Nat}{l:List Int}{k v:Int}(h:as[i]? = some (some (yC l)))(hl:l.length<900)(ha:WD a as true (.int k))(hb:WD b as true (.int v))(k0:0<=k)(k1:k<1000):∃l':List Int,l'.Perm (v::l)/\yN (vH i (dC a (dC b dN)) FL) as=some (.nx (as.set i (some (yC l')))):=by
 refine⟨l.take (XG k l.length)++v::l.drop (XG k l.length),List.perm_middle.trans (by rw[List.take_append_drop]), ?_⟩;unfold yN vH;rw[h];have e:=zz ha (zz hb yz);show((dC a (dC b dN) as).bind _).bind _=_;rw[e];show(Option.bind (match as[i]? with|some (some (.nd .ls d))=>_|_=>none) _)=_;rw[h];show((FL (l.map Q9) [.lf true (.int k),Q9 v]).bind _).bind _=_;have c:FL (l.map Q9) [.lf true (.int k),Q9 v]=some ((l.take (XG k l.length)++v::l.drop (XG k l.length)).map Q9,.lf true .non):=by
  unfold FL;show(if(-(2 ^ 63)<=k/\k<2 ^ 63)/\(l.map Q9).length<sizeLine then _ else _)=_;rw[if_pos ⟨⟨by omega,by omega⟩,by rw[zzB];exact slt (by omega)⟩,zzB,zyM,zyS,List.map_take,List.map_drop]
 rw[c];rfl
def OG{x:Int}{n:Nat}(n8:n<=8):∃F:List Int,F.Perm (Tu n)/\RE (Zz [(true,.int x),(true,.int n)]) (zh F):=by
 obtain⟨h,j,b,F,d,rfl,c⟩:=xm (g:=gN 3) (f:=(zj ph
  pR))
  (λi as=>∃(b:Int) (F:List Int) (d:Option O),as=[sI b,sI n,some (yC F),d]/\F.Perm (Tu i)) (y2 0 n) 0 [sI x,sI n,some (yC []),none] (λi z as k l=>by
   obtain⟨b,F,d,rfl,c⟩:=l;obtain⟨rfl,q⟩:=wb k;rw[zyX]at c ⊢;rw[Int.zero_add];have fl:F.length=i:=by rw[c.length_eq,zzB,zyU]
   have m:=zyN b (show(i:Int)+1≠0 by omega);have r:=zyH b (show(0:Int)<(i:Int)+1 by omega);obtain⟨e,o,p⟩:=IP (as:=[sI b,sI n,some (yC F),sI i]) (i:=2) rfl (by omega) (yj (za (i:=0) rfl) (zR (za (i:=3) rfl) (zb)) (by omega)) (za (i:=3) rfl) m (by omega);refine⟨_,rfl,_,zp p (zX (wy (za rfl) (zR (za rfl) (zb)) (by omega) (zE (by omega) (by omega))) (zo rfl)),_,e,_,rfl, ?_⟩;show e.Perm ((List.range (i+1)).map λ(i:Nat)=>(i:Int));rw[List.range_succ,zyM];exact o.trans ((c.cons _).trans (List.perm_append_singleton _ _).symm))
  ⟨x,[],none,rfl,List.Perm.refl _⟩
 rw[xp,zyX]at c;have a:=xX (as:=[sI x,sI n,some (yC []),none]) (zr (za (i:=1) rfl) zB) (by omega) (by omega);rw[zyI]at a;exact⟨F,c,yJ rfl (zm (xa (vv yz (QC rfl)) (zo rfl)) (zm (yI a j) ⟨_,Qf rfl (Zv F).2.1,(ZC F).1,(ZC F).2⟩))⟩
def WL(fr:DF)(as:AS)(xs:List D):Prop:=∃os,fr as=some (os,as)/\O.strs os=true/\O.toDs os=xs
def Wy{as:AS}:WL dN as []:=⟨_,rfl,rfl,rfl⟩
def yp{a:EF}{fr:DF}{as:AS}{x:D}{xs:List D}(h:WE a as x)(t:WL fr as xs):WL (dC a fr) as (x::xs):=by
 obtain⟨o,c,d,e⟩:=h;obtain⟨b,f,g,i⟩:=t;refine⟨o::b,Iw c f, ?_, ?_⟩
 . show(o.str&&O.strs b)=true;rw[d,g];rfl
 . show o.toD::O.toDs b=_;rw[e,i]
def VP{fr:DF}{as:AS}{xs:List D}(h:WL fr as xs)(hl:Nat.ble xs.length 1000=true):WE (yk fr) as (.lst xs):=by
 obtain⟨b,c,d,a⟩:=h;have e:b.length=xs.length:=by rw[<-a,Y4]
 exact Zp c (by rw[e];exact QC hl) d (congrArg D.lst a)
def lU:List PZ:=[[(0,3)],[(2,3)],[(1,4)],[(0,2),(2,2)],[(3,4)],[(2,4)],[(0,2),(1,3)],[(0,5)],[(2,2),(3,4)],[(1,2),(2,3)],[(0,4)],[(3,4)],[(1,6)],[(0,2),(3,4)],[(2,7)],[(0,6)]]
def lq(P:PZ):Bool:=P.all (λp=>((p.1==0&&p.2<=6)||p.1==1||p.1==2||(p.1==3&&p.2==4))&&2<=p.2&&p.2<=7)&&PN P<=8&&P.tail.all (λp=>p.1 != 0)&&P.length<=2&&P != []
def J3:∀P ∈ lU,lq P=true:=by decide
structure Pt(P:PZ):Prop where
 k:PK P
 n8:PN P<=8
 tl:∀p ∈ P.tail,p.1≠0
 l2:P.length<=2
 ne:P≠[]
 z6:∀p ∈ P,p.1=0->p.2<=6
def pN{P:PZ}(h:lq P=true):Pt P:=by
 unfold lq at h;simp only[zyC,List.all_eq_true,Bool.or_eq_true,beq_iff_eq,decide_eq_true_eq,bne_iff_ne,ne_eq]at h;obtain⟨⟨⟨⟨d,f⟩,g⟩,i⟩,j⟩:=h;refine⟨λp c=>?_,f,g,i,j,λp c e=>?_⟩
 . obtain⟨⟨h,a⟩,b⟩:=d p c;refine⟨?_,a,b⟩
   rcases h with((h|h)|h)|h
   . exact .inl ⟨h.1,by omega⟩
   . exact .inr (.inl ⟨h,by omega⟩)
   . exact .inr (.inr (.inl ⟨h,by omega⟩))
   . exact .inr (.inr (.inr ⟨h.1,h.2⟩))
 . obtain⟨⟨h,a⟩,b⟩:=d p c
   rcases h with((h|h)|h)|h
   . exact h.2
   . omega
   . omega
   . omega
def mQ{as:AS}{k:Int}{n:Nat}:WE (yR (dC (fC (.int k)) (dC (fC (.int (n:Int))) dN))) as (pD (k,n)):=vY (WD.e zb) (WD.e zb)
def Cs{as:AS}{k:Int}{n:Nat}:WE (yk (dC (yR (dC (fC (.int k)) (dC (fC (.int (n:Int))) dN))) dN)) as (Vc [(k,n)]):=VP (yp mQ Wy) rfl
def qj{as:AS}{k l:Int}{n m:Nat}:WE (yk (dC (yR (dC (fC (.int k)) (dC (fC (.int (n:Int))) dN))) (dC (yR (dC (fC (.int l)) (dC (fC (.int (m:Int))) dN))) dN))) as (Vc [(k,n),(l,m)]):=VP (yp mQ (yp mQ Wy)) rfl
def CW(x:Int):∃P:PZ,Pt P/\RE (Zw [(true,.int x)]) (Vc P):=by
 have a:=zyN x (show(16:Int)≠0 by decide);have b:=zyH x (show(0:Int)<16 by decide);obtain⟨P,c,d⟩:=tY Vc (T:=lU) a b J3;have f:=ZE (p:=1) (as:=[sI x,none]) (VP (yp (Cs (k:=0) (n:=3)) (yp (Cs (k:=2) (n:=3)) (yp (Cs (k:=1) (n:=4)) (yp (qj (k:=0) (n:=2) (l:=2) (m:=2)) (yp (Cs (k:=3) (n:=4)) (yp (Cs (k:=2) (n:=4)) (yp (qj (k:=0) (n:=2) (l:=1) (m:=3)) (yp (Cs (k:=0) (n:=5)) Wy)))))))) rfl) (zo rfl);have g:=ZE (p:=1) (as:=[sI x,sT (.lst (([[(0,3)],[(2,3)],[(1,4)],[(0,2),(2,2)],[(3,4)],[(2,4)],[(0,2),(1,3)],[(0,5)]]:List PZ).map Vc))]) (HQ (WD.e (za (i:=1) rfl)) (VP (yp (qj (k:=2) (n:=2) (l:=3) (m:=4)) (yp (qj (k:=1) (n:=2) (l:=2) (m:=3)) (yp (Cs (k:=0) (n:=4)) (yp (Cs (k:=3) (n:=4)) (yp (Cs (k:=1) (n:=6)) (yp (qj (k:=0) (n:=2) (l:=3) (m:=4)) Wy)))))) rfl) (add_lists (QC rfl))) (zo rfl);have h:=ZE (p:=1) (as:=[sI x,sT (.lst (([[(0,3)],[(2,3)],[(1,4)],[(0,2),(2,2)],[(3,4)],[(2,4)],[(0,2),(1,3)],[(0,5)],[(2,2),(3,4)],[(1,2),(2,3)],[(0,4)],[(3,4)],[(1,6)],[(0,2),(3,4)]]:List PZ).map Vc))]) (HQ (WD.e (za (i:=1) rfl)) (VP (yp (Cs (k:=2) (n:=7)) (yp (Cs (k:=0) (n:=6)) Wy)) rfl) (add_lists (QC rfl))) (zo rfl);exact⟨P,pN d,yJ rfl (zm f (zm g (zm h (yF (WD.e (wO (za rfl) (yj (za rfl) zb (by decide)) c))))))⟩
section
variable{α:Type}{fi:IF}{cap:List (Option Nat)}{gg:GF}{fe:EF}{as:AS}{it:α->xb}
def Lx{h:α->Int}(l:List α)(h1:fi as=some (l.map it,as))(hl:l.length<=1000)(H:∀q ∈ l,∃as1,gg (it q) (vL cap as)=some as1/\WD fe as1 true (.int (h q))):yf fi cap gg yZ fe as=some (.ow (yC (l.map h)),as):=by
 have c:∀l:List α,(∀q ∈ l,∃d,gg (it q) (vL cap as)=some d/\WD fe d true (.int (h q)))->xf gg yZ fe (vL cap as) (l.map it)=some ((l.map h).map Q9):=by
  intro l
  induction l with
  |nil=>exact λ_=>rfl
  |cons q l e=>
   intro H;obtain⟨d,a,b⟩:=H q (zzF ..);exact RD a b (e λz m=>H z (zzD _ m))
 exact UX h1 (by rw[zzB];exact S_ (by omega)) (c l H)
def C9{h:α->D}(l:List α)(h1:fi as=some (l.map it,as))(hl:l.length<=1000)(H:∀q ∈ l,∃as1,gg (it q) (vL cap as)=some as1/\WE fe as1 (h q)):∃os,yf fi cap gg yZ fe as=some (.ow (.nd .ls os),as)/\O.strs os=true/\O.toDs os=l.map h:=by
 have c:∀l:List α,(∀q ∈ l,∃d,gg (it q) (vL cap as)=some d/\WE fe d (h q))->∃b,xf gg yZ fe (vL cap as) (l.map it)=some b/\O.strs b=true/\O.toDs b=l.map h:=by
  intro l
  induction l with
  |nil=>exact λ_=>⟨_,rfl,rfl,rfl⟩
  |cons q l j=>
   intro H;obtain⟨d,a,o,k,i,n⟩:=H q (zzF ..);obtain⟨b,e,f,g⟩:=j λz m=>H z (zzD _ m);refine⟨o::b,E1 a k i e, ?_, ?_⟩
   . show(o.str&&O.strs b)=true;rw[i,f];rfl
   . show o.toD::O.toDs b=_;rw[n,g];rfl
 obtain⟨b,e,f,g⟩:=c l H;exact⟨b,UX h1 (by rw[zzB];exact S_ (by omega)) e,f,g⟩
end
def An{as:AS}{fr:AF}{n:Nat}{u:Bool}(h:WA fr as [(u,.int n)])(hn:n<=1000):yM fr y_ as=some ((List.range n).map λi:Nat=>(true,D.int (0+(i:Int))),as):=by
 have:=xX h (by omega) (by omega)
 rwa [zyI]at this
theorem any_ints(b:Int):∀r:List Int,∃t,anyF (λy=>ZK 50 y (.int b)) (r.map D.int)=some t
 | []=>⟨_,rfl⟩
 |x::r=>by
  obtain⟨t,h⟩:=any_ints b r;refine⟨(x==b)||t, ?_⟩;show(some (x==b)).bind _=_;rw[zyL,h];rfl
theorem El{b:Int}:∀{r:List Int},b ∈ r->∃j:Nat,j<r.length/\r[j]? = some b/\Tg (λy=>ZK 50 y (.int b)) (r.map D.int)=some j
 |x::r,m=>by
  by_cases e:x=b
  . obtain⟨t,h⟩:=any_ints b r;refine⟨0,Nat.succ_pos _,by rw[e];rfl, ?_⟩;show(some (x==b)).bind _=_;rw[zyL,show(x==b)=true by simp[e]];show(anyF _ (r.map D.int)).bind _=_;rw[h];rfl
  . obtain⟨j,a,c,d⟩:=El ((zzC.mp m).resolve_left λz=>e z.symm);refine⟨j+1,Nat.succ_lt_succ a,by simpa using c, ?_⟩;show(some (x==b)).bind _=_;rw[zyL,show(x==b)=false by simp[e]];show(Tg _ (r.map D.int)).bind _=_;rw[d];rfl
def Kz(r:List Int)(b:Int):Int:=(((Tg (λy=>ZK 50 y (.int b)) (r.map D.int)).getD 0:Nat):Int)
def C4{n:Nat}{r:List Int}{b:Int}(hl:r.length=n)(hb:b ∈ r):zQ n (Kz r b)/\wY r (Kz r b)=b/\Tg (λy=>ZK 50 y (.int b)) (r.map D.int)=some (Kz r b).toNat:=by
 obtain⟨j,d,c,a⟩:=El hb;have e:Kz r b=(j:Int):=by unfold Kz;rw[a];rfl
 rw[e,zyI];refine⟨⟨by omega,by omega⟩, ?_,a⟩;unfold wY;rw[zyI,c];rfl
def ja{as:AS}{r:List Int}{i j:Nat}{x:Int}(hl:r.length<=1000)(hx:x ∈ r)(hi:as[i]? = some (sT (zh r)))(hj:as[j]? = some (sI x)):WD (Lz .lst (fV i) (aC (fV j) aN) Ba) as true (.int (Kz r x)):=by
 obtain⟨a,c,b⟩:=C4 rfl hx;refine Ah (za hi) rfl (zr (za hj) zB) ?_ rfl;show(Tg _ (r.map D.int)).bind _=_;rw[b];show(if(r.map D.int).length<=1000 then some (R0.im (.int ((Kz r x).toNat:Nat)))else none)=_;rw[if_pos (by rw[zzB];exact hl),show(((Kz r x).toNat:Nat):Int)=Kz r x by have:=a.1;omega]
section
variable{n:Nat}{F:List Int}
def Y8(h:F.Perm (Tu n)){x:Int}(hx:zQ n x):zQ n (Kz F x)/\wY F (Kz F x)=x:=
 have k:=C4 (wA h).1.1 ((wA h).2 x hx.1 hx.2)
 ⟨k.1,k.2.1⟩
def Ql(h:F.Perm (Tu n)){v:Int}(hv:zQ n v):zQ n (wY F v):=(rowAt (wA h).1 hv).2
def G6(h:F.Perm (Tu n)){a:Int}(ha:zQ n a):Kz F (wY F a)=a:=
 have k:=Y8 h (Ql h ha)
 HK h k.1 ha k.2
end
def pin:PZ->List Int->Prop
 | [],[]=>True
 |p::P,a::s=>zQ p.2 a/\pin P s
 |_,_=>False
theorem MX:∀{P:PZ},PK P->∀v,pin P (sp P v)
 | [],_,_=>trivial
 |p::P,h,v=>⟨U1 (by have:=(h p (zzF ..)).2.1;omega),MX h.tail _⟩
theorem Om(f:Int->Nat->Int->Int->Int):∀{P:PZ}{s t:List Int},pin P s->pin P t->P.length=(z3 f P s t).length
 | [],[],[],_,_=>rfl
 |_::_,_::_,_::_,h,k=>congrArg (· + 1) (Om f h.2 k.2)
 | [],_::_,_,h,_=>h.elim
 |_::_,[],_,h,_=>h.elim
 | [],[],_::_,_,h=>h.elim
 |_::_,_::_,[],_,h=>h.elim
theorem C6(f:Int->Nat->Int->Int):∀{P:PZ}{s:List Int},pin P s->P.length=(z2 f P s).length
 | [],[],_=>rfl
 |_::_,_::_,h=>congrArg (· + 1) (C6 f h.2)
 | [],_::_,h=>h.elim
 |_::_,[],h=>h.elim
abbrev kM:EF:=zq (aC zw (aC zA KM)) xi
theorem DM:∀{P:PZ}{s t:List Int},PK P->pin P s->pin P t->xf uB yZ kM [none,none,none] (Y_ true (P.map pD) (s.map D.int) (t.map D.int))=some ((z3 jK P s t).map Q9)
 | [],[],[],_,_,_=>rfl
 |p::P,a::s,b::t,h,c,d=>RD rfl (Gb (zr (za rfl) (zr (za rfl) (zr (za rfl) zB))) (MW (h p (zzF ..)).1 c.1 d.1)) (DM h.tail c.2 d.2)
 | [],_::_,_,_,h,_=>h.elim
 |_::_,[],_,_,h,_=>h.elim
 | [],[],_::_,_,_,h=>h.elim
 |_::_,_::_,[],_,_,h=>h.elim
abbrev lW:EF:=zq (aC zw (aC yb (aC yw v5))) yQ
theorem Do{x c:Int}{m:Nat}(hc:zQ m c)(m6:m<=6):∀{P:PZ}{s:List Int},PK P->pin P s->xf (gT 2 (wj wz (wj (gN 1) Qm))) yZ lW [none,none,sI x,sI c] (VI true (P.map pD) (s.map D.int))=some ((z2 (λk n a=>dK k n x c a) P s).map Q9)
 | [],[],_,_=>rfl
 |p::P,a::s,h,b=>RD rfl (Gb (zr (za rfl) (zr (za rfl) (zr (za rfl) (zr (za rfl) zB)))) (N7 (h p (zzF ..)) hc m6 b.1)) (Do hc m6 h.tail b.2)
 | [],_::_,_,h=>h.elim
 |_::_,[],_,h=>h.elim
def Jf{P:PZ}{u v:Int}(h:PK P)(l2:P.length<=2):WD (zq (aC zA (aC (yf (BF (aC zA (aC yb vO))) [none,none,none] uB yZ kM) aN)) yy) [sT (zh (sp P v)),sT (Vc P),sT (zh (sp P u))] true (.int (jX P u v)):=by
 have a:=MX h u;have b:=MX h v;have c:BF (aC zA (aC yb vO)) [sT (zh (sp P v)),sT (Vc P),sT (zh (sp P u))]=some (Y_ true (P.map pD) ((sp P u).map D.int) ((sp P v).map D.int),[sT (zh (sp P v)),sT (Vc P),sT (zh (sp P u))]):=by
  show(if(P.map pD).length=((sp P u).map D.int).length/\((sp P u).map D.int).length=((sp P v).map D.int).length then _ else _)=_;rw[if_pos (by simp only[zzB,NM,and_self])];rfl
 have d:=UX (cap:=[none,none,none]) c (by rw[RJ _ _ _ _ (by simp only[zzB,NM]) (by simp only[zzB,NM]),zzB];exact S_ (by omega)) (DM h a b);have:=FI (WD.e (za (i:=1) rfl)) (Pe d) (NA h (Om jK a b))
 rwa [DO]at this
def qr{P:PZ}{x c v:Int}{m:Nat}(h:PK P)(l2:P.length<=2)(hc:zQ m c)(m6:m<=6):WD (zq (aC zA (aC (yf (W4 (aC zA vO)) [none,none,some 2,some 3] (gT 2 (wj wz (wj (gN 1) Qm))) yZ lW) aN)) yy) [sT (zh (sp P v)),sT (Vc P),sI x,sI c] true (.int (dX P x c v)):=by
 have a:=MX h v;have b:W4 (aC zA vO) [sT (zh (sp P v)),sT (Vc P),sI x,sI c]=some (VI true (P.map pD) ((sp P v).map D.int),[sT (zh (sp P v)),sT (Vc P),sI x,sI c]):=rfl;have d:=UX (cap:=[none,none,some 2,some 3]) b (by rw[UM,zzB];exact S_ (by omega)) (Do hc m6 h a);have:=FI (WD.e (za (i:=1) rfl)) (Pe d) (NA h (C6 _ a))
 rwa [DV]at this
def OR{n:Nat}{g:GF}{f:SF}{S:List O->Option O->AS}{it:Nat->xb}{v:Nat->O}{w:Nat->Option O}(hn:n<=900)(H:∀i,i<n->∀os e,os.length<900->g (it i) (S os e)=some (S os (w i))/\f (S os (w i))=some (.nx (S (os++[v i]) (w i))))(e0:Option O):∃e',forL g f ((List.range n).map it) (S [] e0)=some (.nx (S ((List.range n).map v) e')):=by
 obtain⟨d,b,h,rfl⟩:=xm (λi as=>∃e,as=S ((List.range i).map v) e) ((List.range n).map it) 0 (S [] e0) (λi x as a j=>by
  obtain⟨e,rfl⟩:=j;rw[zyX];have c:i<n:=by
   have:=(zzG.mp a).1
   rwa [zzB,zyU]at this
  rw[zzI,List.getElem?_range c]at a;cases a;obtain⟨k,l⟩:=H i c ((List.range i).map v) e (by rw[zzB,zyU];omega);exact⟨_,k,_,l,w i,by rw[List.range_succ,zyM];rfl⟩) ⟨e0,rfl⟩
 rw[zzB,zyU,zyX]at b;exact⟨h,b⟩
def DR{as:AS}{i:Nat}{s:Bool}{r:List Int}(h:as[i]? = some (some (.lf s (zh r)))):wW (fV i) as=some (r.map λx=>(true,D.int x),as):=by
 refine JB (za h) ?_;show some (kids s (r.map D.int))=_;unfold kids;rw[zyB];rfl
def oW{as:AS}{i:Nat}{T:TZ}(h:as[i]? = some (some (FR T))):wW (fV i) as=some (T.map λr=>(false,zh r),as):=by
 unfold wW;rw[Nd h];show((match as[i]? with|some (some (.nd .ls a))=>some (Xh a)|some (some (.nd .tp a))=>some (Xh a)|_=>none:Option (List xb)).bind λl=>some (l,as))=_;rw[h];show some (Xh (T.map yC),as)=_;unfold Xh;rw[zyB]
 congr 2
 refine List.map_congr_left λr _=>?_;show(false,(yC r).toD)=(false,zh r);rw[(ZC r).2]
section
variable{n m:Nat}{F:List Int}{P:PZ}
def kx{as:AS}{i:Nat}{T:TZ}(hF:Row n F)(hi:as[i]? = some (some (FR T)))(hc:∀d:xb,gN 0 d (vL [none,some 5] as)=some [some (.lf d.1 d.2),sT (zh F)])(hl:T.length<=900)(hr:∀r ∈ T,r.length<=900/\∀x ∈ r,zQ n x):∃os,yf (wW (fV i)) [none,some 5] wz yZ CV as=some (.ow (.nd .ls os),as)/\O.strs os=true/\O.toDs os=(T.map λr=>r.map (wY F)).map zh:=by
 obtain⟨b,c,e,f⟩:=C9 T (oW hi) (by omega) λr a=>by
  refine⟨_,hc _, ?_⟩;have g:=Lx (as:=[some (.lf false (zh r)),sT (zh F)]) (cap:=[none,some 1]) (gg:=gN 0) r (DR (i:=0) rfl) (by have:=(hr r a).1;omega) λx h=>⟨_,rfl,zJ (za (i:=1) rfl) (za (i:=0) rfl) (rowAt hF ((hr r a).2 x h)).1 rfl⟩;exact Pe g
 exact⟨b,c,e,by rw[f,zyB];rfl⟩
def S5(P:PZ)(F:List Int)(n a:Nat):List Int:=(List.range n).map λb:Nat=>jX P (Kz F a) (Kz F b)
def MC(P:PZ)(F:List Int)(n:Nat):TZ:=((List.range n).map (S5 P F n)).map λr=>r.map (wY F)
def Be(P:PZ)(F:List Int)(n:Nat)(x:Int)(c:Nat):List Int:=(List.range n).map λa:Nat=>dX P x c (Kz F a)
def uz(P:PZ)(F:List Int)(n m:Nat)(x:Int):TZ:=((List.range m).map (Be P F n x)).map λr=>r.map (wY F)
def JW{g:Nat->Int}{v:Int}(hv:zQ n v):wY ((List.range n).map g) v=g v.toNat:=by
 unfold wY;have:=hv.1;have:=hv.2;rw[zzI,List.getElem?_range (by omega)];rfl
def On{k:Nat}{g:Nat->Nat->Int}{u v:Int}(hu:zQ k u)(hv:zQ n v):yA (((List.range k).map λa=>(List.range n).map (g a)).map λr=>r.map (wY F)) u v=wY F (g u.toNat v.toNat):=by
 have:=hu.1;have:=hu.2;unfold yA;rw[zzI,zzI,List.getElem?_range (show u.toNat<k by omega)];show wY (((List.range n).map (g u.toNat)).map (wY F)) v=_;rw[zyB,JW hv];rfl
def BA{k:Nat}{g:Nat->Nat->Int}(hF:Row n F)(hg:∀a b,a<k->b<n->zQ n (g a b)):Tab k n (((List.range k).map λa=>(List.range n).map (g a)).map λr=>r.map (wY F)):=by
 refine⟨by rw[zzB,zzB,zyU],λr c=>?_⟩;obtain⟨q,mq,rfl⟩:=zxD.mp c;obtain⟨a,d,rfl⟩:=zxD.mp mq;refine⟨by rw[zzB,zzB,zyU],λx e=>?_⟩;obtain⟨y,f,rfl⟩:=zxD.mp e;obtain⟨b,h,rfl⟩:=zxD.mp f;exact(rowAt hF (hg a b (List.mem_range.mp d) (List.mem_range.mp h))).2
def Bs{i:Nat}(h:i<n):zQ n (i:Int):=⟨by omega,by omega⟩
def Dm(hP:PK P)(hn:n=PN P)(hF:F.Perm (Tu n)){a b:Nat}(ha:a<n)(hb:b<n):zQ n (jX P (Kz F a) (Kz F b)):=by
 have:=(rJ hP).cl;rw[<-hn]at this;exact this _ _ (Y8 hF (Bs ha)).1 (Y8 hF (Bs hb)).1
def DG{x:Int}(hP:PK P)(hn:n=PN P)(m1:1<=m)(hm:∀p ∈ P,p.1=0->m=p.2)(hF:F.Perm (Tu n)){c a:Nat}(hc:c<m)(ha:a<n):zQ n (dX P x c (Kz F a)):=by
 have:=(mJ (x:=x) m1 hP hm).cl;rw[<-hn]at this;exact this _ _ (Bs hc) (Y8 hF (Bs ha)).1
def BH(hP:PK P)(hn:n=PN P)(hF:F.Perm (Tu n)):Tab n n (MC P F n)/\LJ n (yA (MC P F n)) (wY F (eX P))/\∀a b,zQ n a->zQ n b->yA (MC P F n) (wY F a) (wY F b)=wY F (jX P a b):=by
 have q:∀a b,zQ n a->zQ n b->yA (MC P F n) (wY F a) (wY F b)=wY F (jX P a b):=λa b c d=>by
  have e:=Ql hF c;have f:=Ql hF d;refine(On e f).trans ?_;show wY F (jX P (Kz F (((wY F a).toNat:Nat):Int)) (Kz F (((wY F b).toNat:Nat):Int)))=_;rw[show(((wY F a).toNat:Nat):Int)=wY F a by have:=e.1;omega,show(((wY F b).toNat:Nat):Int)=wY F b by have:=f.1;omega,G6 hF c,G6 hF d]
 have g:=rJ hP;rw[<-hn]at g;exact⟨BA (wA hF).1 λa b c d=>Dm hP hn hF c d,jN g (λa c=>Ql hF c) (λa c=>(Y8 hF c).1) (λa c=>(Y8 hF c).2) q,q⟩
def J6{x:Int}(hP:PK P)(hn:n=PN P)(m1:1<=m)(hm:∀p ∈ P,p.1=0->m=p.2)(hF:F.Perm (Tu n)):Tab m n (uz P F n m x)/\LD n m (yA (MC P F n)) (wY F (eX P)) (yA (uz P F n m x)):=by
 have e:=rJ hP;have f:=mJ (x:=x) m1 hP hm;rw[<-hn]at e f;refine⟨BA (wA hF).1 λc a d b=>DG hP hn m1 hm hF d b,jw (by omega) e f (λa b=>Ql hF b) (λa b=>(Y8 hF b).1) (λa b=>(Y8 hF b).2) (BH hP hn hF).2.2 λc a d b=>?_⟩;have g:=Ql hF b;refine(On d g).trans ?_;show wY F (dX P x ((c.toNat:Nat):Int) (Kz F (((wY F a).toNat:Nat):Int)))=_;rw[show(((wY F a).toNat:Nat):Int)=wY F a by have:=g.1;omega,show((c.toNat:Nat):Int)=c by have:=d.1;omega,G6 hF b]
end
abbrev kj:SF:=pC
abbrev kz:SF:=oK
abbrev kS:SF:=oT
abbrev kL:SF:=qB
abbrev lP:SF:=pK
abbrev kg:SF:=qO
abbrev kW:SF:=(zy false 7 (yk dN))
abbrev kP:SF:=(yU (Xe ZW) (gN 8) mW)
abbrev jh:SF:=oA
abbrev vD(P:PZ)(F:List Int)(n:Nat):D:=.lst ((List.range n).map λa:Nat=>zh (sp P (Kz F a)))
abbrev A7(ns:List Int)(P:PZ)(n m:Nat)(F:List Int)(l:AS):AS:=sT (zh ns)::sI 0::sT (Vc P)::sI n::sI m::sT (zh F)::sT (vD P F n)::l
structure Hd(P:PZ)(n m:Nat)(F:List Int):Prop where
 p:Pt P
 nn:n=PN P
 m1:1<=m
 m6:m<=6
 z:∀p ∈ P,p.1=0->m=p.2
 f:F.Perm (Tu n)
def oP{as:AS}{P:PZ}(h:as[2]? = some (sT (Vc P))):wW yb as=some (P.map λp=>(true,pD p),as):=WX (WD.e (za h))
def Dv{as:AS}{P:PZ}{fe:EF}{f:Int×Nat->Int}(hP:Pt P)(h:as[2]? = some (sT (Vc P)))(hf:∀p:Int×Nat,WD fe [sI p.1,sI p.2] true (.int (f p))):WD (zq (aC yb (aC (yf (wW yb) [none,none] (gT 2 (wj wz (wj (gN 1) Qm))) yZ fe) aN)) yy) as true (.int (ld P (P.map f))):=
 FI (WD.e (za h)) (Pe (Lx P (oP h) (by have:=hP.l2;omega) λp _=>⟨_,rfl,hf p⟩)) (NA hP.k (zzB ..).symm)
def Jy(ns:List Int):∃P n m F,Hd P n m F/\∀(g:SF) (d:D),Rt (g (A7 ns P n m F [none,none,none,none,none,none,none,none,none,none])) d->Rt (zj kj (zj kz (zj kS (zj kL (zj lP (zj kg g))))) [sT (zh ns),sI 0,none,none,none,none,none,none,none,none,none,none,none,none,none,none,none]) d:=by
 obtain⟨c,v,t⟩:=UV ns (k:=0) (by omega);obtain⟨W,y,z⟩:=UV ns (k:=1) (by omega);obtain⟨P,b,A⟩:=CW c;have B:=lX P;have C:=b.n8;have X:=Bo b.k;obtain⟨F,r,E⟩:=OG C;have G:kj [sT (zh ns),sI 0,none,none,none,none,none,none,none,none,none,none,none,none,none,none,none]=some (.nx [sT (zh ns),sI 0,sT (Vc P),none,none,none,none,none,none,none,none,none,none,none,none,none,none]):=ZE (vt (WD.e (t _ _ rfl (za rfl))) A) (zo rfl);have H:kz [sT (zh ns),sI 0,sT (Vc P),none,none,none,none,none,none,none,none,none,none,none,none,none,none]=some (.nx [sT (zh ns),sI 0,sT (Vc P),sI (PN P),none,none,none,none,none,none,none,none,none,none,none,none,none]):=by
  have w:=zR (Dv (as:=[sT (zh ns),sI 0,sT (Vc P),none,none,none,none,none,none,none,none,none,none,none,none,none,none]) (f:=λp=>(p.2:Int)-1) b rfl λp=>XB (za (i:=1) rfl) zb) (zb (x:=.int 1));rw[B]at w;exact zX w (zo rfl)
 have Y:=zyN (c/16) (show(4:Int)≠0 by decide);have Z:=zyH (c/16) (show(0:Int)<4 by decide);obtain⟨l,I⟩:∃k:Nat,(k:Int)=1+c/16%4:=⟨(1+c/16%4).toNat,by omega⟩;have J:kS [sT (zh ns),sI 0,sT (Vc P),sI (PN P),none,none,none,none,none,none,none,none,none,none,none,none,none]=some (.nx [sT (zh ns),sI 0,sT (Vc P),sI (PN P),sI l,none,none,none,none,none,none,none,none,none,none,none,none]):=by
  have w:=zR (zb (x:=.int 1)) (yj (wy (t [sT (zh ns),sI 0,sT (Vc P),sI (PN P),none,none,none,none,none,none,none,none,none,none,none,none,none] zA rfl (za rfl)) (zb (x:=.int 16)) (by decide) (zE (by decide) (by decide))) (zb (x:=.int 4)) (by decide));rw[<-I]at w;exact zX w (zo rfl)
 obtain⟨m,K,L,M,N⟩:∃m:Nat,1<=m/\m<=6/\(∀p ∈ P,p.1=0->m=p.2)/\kL [sT (zh ns),sI 0,sT (Vc P),sI (PN P),sI l,none,none,none,none,none,none,none,none,none,none,none,none]=some (.nx [sT (zh ns),sI 0,sT (Vc P),sI (PN P),sI m,none,none,none,none,none,none,none,none,none,none,none,none]):=by
  obtain _|⟨p,Q⟩:=P
  . exact absurd rfl b.ne
  have s:WD (f2 yb yS zN) [sT (zh ns),sI 0,sT (Vc (p::Q)),sI (PN (p::Q)),sI l,none,none,none,none,none,none,none,none,none,none,none,none] true (pD p):=wO (za rfl) (zb) (Xr rfl);have u:=b.tl
  by_cases o:p.1=0
  . have k:=b.z6 p (zzF ..) o;have k2:=b.k p (zzF ..);refine⟨p.2,by omega,k,λq mq e=>?_,xN (eqT (zJ s zb rfl rfl) zb (by rw[o];rfl)) (zX (zJ s zb rfl rfl) (zo rfl))⟩
    rcases zzC.mp mq with rfl|mq
    . rfl
    . exact absurd e (u q mq)
  . refine⟨l,by omega,by omega,λq mq e=>?_,zT (eqT (zJ s zb rfl rfl) zb (beq_eq_false_iff_ne.mpr o)) rfl⟩
    rcases zzC.mp mq with rfl|mq
    . exact absurd e o
    . exact absurd e (u q mq)
 have O:lP [sT (zh ns),sI 0,sT (Vc P),sI (PN P),sI m,none,none,none,none,none,none,none,none,none,none,none,none]=some (.nx [sT (zh ns),sI 0,sT (Vc P),sI (PN P),sI m,sT (zh F),none,none,none,none,none,none,none,none,none,none,none]):=ZE (Xo (WD.e (z _ _ rfl (zR (za (x:=.int 0) rfl) (zb)))) (WD.e (za rfl)) E) (zo rfl);have R:kg [sT (zh ns),sI 0,sT (Vc P),sI (PN P),sI m,sT (zh F),none,none,none,none,none,none,none,none,none,none,none]=some (.nx (A7 ns P (PN P) m F [none,none,none,none,none,none,none,none,none,none])):=by
  obtain⟨os,S,T,U⟩:=C9 (cap:=[none,some 2,some 5]) (gg:=gN 0) (List.range (PN P)) (An (as:=[sT (zh ns),sI 0,sT (Vc P),sI (PN P),sI m,sT (zh F),none,none,none,none,none,none,none,none,none,none,none]) (zr (za (i:=3) rfl) zB) (by omega)) (by rw[zyU];omega) λa V=>by
   have ha:=List.mem_range.mp V;rw[Int.zero_add];refine⟨_,rfl,Xo (WD.e (za (i:=1) rfl)) (WD.e (ja (i:=2) (j:=0) (by have:=(wA r).1.1;omega) ((wA r).2 a (by omega) (by omega)) rfl rfl)) ⟨_,Ip b.k (by have:=b.l2;omega),ZC _⟩⟩
  exact ZE ⟨_,S,T,congrArg D.lst U⟩ (zo rfl)
 exact⟨P,PN P,m,F,⟨b,rfl,K,L,M,r⟩,λg d h=>zm G (zm H (zm J (zm N (zm O (zm R h)))))⟩
abbrev oR:SF:=(zy false 9 (yk dN))
abbrev pz:SF:=r6
abbrev lu:SF:=kI
abbrev rK:SF:=(zy false 15 (yk dN))
abbrev mB:SF:=lN
abbrev nZ:SF:=rZ
section
variable{ns F:List Int}{P:PZ}{n m:Nat}
def Js(h:Hd P n m F):∃os b,O.strs os=true/\O.toDs os=(MC P F n).map zh/\∀(g:SF) (d:D),Rt (g (A7 ns P n m F [sN os,b,none,none,none,none,none,none,none,none])) d->Rt (zj kW (zj kP (zj jh g)) (A7 ns P n m F [none,none,none,none,none,none,none,none,none,none])) d:=by
 have o:=h.p.n8;rw[<-h.nn]at o;have q:=h.p.l2;have s:kW (A7 ns P n m F [none,none,none,none,none,none,none,none,none,none])=some (.nx (A7 ns P n m F [sN [],none,none,none,none,none,none,none,none,none])):=xa (vv yz (QC rfl)) (zo rfl);obtain⟨b,t⟩:=OR (n:=n) (g:=gN 8) (f:=mW) (S:=λc e=>A7 ns P n m F [sN c,e,none,none,none,none,none,none,none,none]) (it:=λa=>(true,zh (sp P (Kz F a)))) (by omega) (λa j c e G=>⟨rfl,Um rfl (Lx (List.range n) (WX (WD.e (za rfl))) (by rw[zyU];omega) λb l=>⟨_,rfl,Jf h.p.k q⟩) rfl (slt (by omega))⟩) none;have u:kP (A7 ns P n m F [sN [],none,none,none,none,none,none,none,none,none])=some (.nx (A7 ns P n m F [some (FR ((List.range n).map (S5 P F n))),b,none,none,none,none,none,none,none,none])):=by
  refine yI (B3 (za rfl)) ?_;rw[zyB];refine t.trans ?_;show some (Out.nx (A7 ns P n m F [sN ((List.range n).map λa=>yC (S5 P F n a)),b,none,none,none,none,none,none,none,none]))=some (Out.nx (A7 ns P n m F [sN (((List.range n).map (S5 P F n)).map yC),b,none,none,none,none,none,none,none,none]));rw[zyB];rfl
 have v:=(wA h.f).1;obtain⟨c,w,y,z⟩:=kx (i:=7) (as:=A7 ns P n m F [some (FR ((List.range n).map (S5 P F n))),b,none,none,none,none,none,none,none,none]) v rfl (λd=>rfl) (by rw[zzB,zyU];omega) (λr A=>by
  obtain⟨a,B,rfl⟩:=zxD.mp A;have j:=List.mem_range.mp B;refine⟨by unfold S5;rw[zzB,zyU];omega,λx C=>?_⟩;obtain⟨b,l,rfl⟩:=zxD.mp C;exact Dm h.p.k h.nn h.f j (List.mem_range.mp l))
 exact⟨c,b,y,z,λg d E=>zm s (zm u (zm (xa w (zo rfl)) E))⟩
abbrev DK(P:PZ)(n m:Nat)(F:List Int)(p:Str×TZ):Prop:=Tab m n p.2/\LD n m (yA (MC P F n)) (wY F (eX P)) (yA p.2)
abbrev QN(ns:List Int)(P:PZ)(n m:Nat)(F:List Int)(o7:List O)(ss:List Str)(o9:List O)(b8 b11 b12 b13 b14 b15:Option O):AS:=A7 ns P n m F [sN o7,b8,sN o9,sT (.lst (ss.map D.str)),b11,b12,b13,b14,b15,none]
def Ov{o7:List O}{b:Option O}(h:Hd P n m F):∃ss o9 Ds b8 b11 b12 b13 b14,ss.length=7/\ss.Nodup/\Ows QB (DK P n m F) o9 Ds/\1<=Ds.length/\Ds.length<=4/\Ds.map (·.1)=(List.range Ds.length).map (λj=>(ss[j]?).getD ("":Str))/\∀(g:SF) (d:D),Rt (g (QN ns P n m F o7 ss o9 b8 b11 b12 b13 b14 none)) d->Rt (zj oR (zj pz (zj lu g)) (A7 ns P n m F [sN o7,b,none,none,none,none,none,none,none,none])) d:=by
 have Q:=h.p.n8;rw[<-h.nn]at Q;have R:=h.p.l2;have T:=h.m6;have U:=(wA h.f).1;obtain⟨V,_,W⟩:=UV ns (k:=2) (by omega);obtain⟨C,_,X⟩:=UV ns (k:=3) (by omega);obtain⟨o,Y,Z,rs⟩:=EW V (mn:=7) (by omega);have sg:∀i,i<7->o[i]? = some ((o[i]?).getD ("":Str)):=λi hi=>by rw[zzE (by omega)];rfl
 have E:oR (A7 ns P n m F [sN o7,b,none,none,none,none,none,none,none,none])=some (.nx (A7 ns P n m F [sN o7,b,sN [],none,none,none,none,none,none,none])):=xa (vv yz (QC rfl)) (zo rfl);have G:pz (A7 ns P n m F [sN o7,b,sN [],none,none,none,none,none,none,none])=some (.nx (QN ns P n m F o7 o [] b none none none none none)):=ZE (Xo (WD.e (W _ _ rfl (zR (za (x:=.int 0) rfl) (zb)))) (WD.e (zb)) rs) (zo rfl);have q0:=zyN C (show(4:Int)≠0 by decide);have q1:=zyH C (show(0:Int)<4 by decide);obtain⟨k,ek⟩:∃k:Nat,(k:Int)=1+C%4:=⟨(1+C%4).toNat,by omega⟩;obtain⟨as',L,q,v,u,t,s,l,rfl,H,A,B⟩:=xm (g:=gN 11)
  (λi as=>∃(q:List O) (v:DD) (u t s l:Option O),as=QN ns P n m F o7 o q b u t s l none/\Ows QB (DK P n m F) q v/\v.map (·.1)=(List.range i).map (λj=>(o[j]?).getD ("":Str))/\v.length=i) (y2 0 k) 0 (QN ns P n m F o7 o [] b none none none none none) (λi y as hy hI=>by
   obtain⟨q,v,u,t,s,l,rfl,H,A,B⟩:=hI;obtain⟨rfl,hi⟩:=wb hy;rw[zyX]at A B ⊢;rw[Int.zero_add];obtain⟨x,_,wx⟩:=UV ns (k:=4+i) (by omega);have t1:zy true 12 qc (QN ns P n m F o7 o q b (sI i) t s l none)=some (.nx (QN ns P n m F o7 o q b (sI i) (sI x) s l none)):=by
    have w:=zR (zR (za (as:=QN ns P n m F o7 o q b (sI i) t s l none) (i:=1) rfl) (zb (x:=.int 4))) (za (i:=11) rfl);rw[show(0:Int)+4+(i:Int)=((4+i:Nat):Int) by omega]at w;exact zX (wx _ _ rfl w) (zo rfl)
   have t2:zy false 13 (yk dN) (QN ns P n m F o7 o q b (sI i) (sI x) s l none)=some (.nx (QN ns P n m F o7 o q b (sI i) (sI x) (sN []) l none)):=xa (vv yz (QC rfl)) (zo rfl);obtain⟨e,he⟩:=OR (n:=m) (g:=gN 14) (f:=mE) (S:=λI e=>QN ns P n m F o7 o q b (sI i) (sI x) (sN I) e none) (it:=λc:Nat=>(true,D.int (0+(c:Int)))) (by omega) (λc J I e L=>by
    rw[Int.zero_add];exact⟨rfl,Um rfl (Lx (List.range n) (WX (WD.e (za rfl))) (by rw[zyU];omega) λa M=>⟨_,rfl,qr h.p.k R (Bs J) T⟩) rfl (slt (by omega))⟩) l
   have t3:yU (yM (aC yG aN) y_) (gN 14) mE (QN ns P n m F o7 o q b (sI i) (sI x) (sN []) l none)=some (.nx (QN ns P n m F o7 o q b (sI i) (sI x) (some (FR ((List.range m).map (Be P F n x)))) e none)):=by
    refine yI (An (zr (za rfl) zB) (by omega)) (he.trans ?_);show some (Out.nx (QN ns P n m F o7 o q b (sI i) (sI x) (sN ((List.range m).map λc=>yC (Be P F n x c))) e none))=some (Out.nx (QN ns P n m F o7 o q b (sI i) (sI x) (sN (((List.range m).map (Be P F n x)).map yC)) e none));rw[zyB];rfl
   obtain⟨I,o1,o2,o3⟩:=kx (i:=13) (as:=QN ns P n m F o7 o q b (sI i) (sI x) (some (FR ((List.range m).map (Be P F n x)))) e none) U rfl (λd=>rfl) (by rw[zzB,zyU];omega) (λr mr=>by
    obtain⟨c,mc,rfl⟩:=zxD.mp mr;have J:=List.mem_range.mp mc;refine⟨by unfold Be;rw[zzB,zyU];omega,λy my=>?_⟩;obtain⟨a,M,rfl⟩:=zxD.mp my;exact DG h.p.k h.nn h.m1 h.z h.f J (List.mem_range.mp M))
   have wt:WE pk (QN ns P n m F o7 o q b (sI i) (sI x) (some (FR ((List.range m).map (Be P F n x)))) e none) (QB ((o[i]?).getD ("":Str),uz P F n m x)):=vY (WD.e (zJ (za rfl) (za rfl) (Xr (sg i (by omega))) rfl)) ⟨_,o1,o2,congrArg D.lst o3⟩;obtain⟨K,p1,p2⟩:=OC (i:=9) rfl H (by omega) wt (J6 h.p.k h.nn h.m1 h.z h.f);exact⟨_,rfl,_,zp t1 (zp t2 (zp t3 p2)),K,_,_,_,_,_,rfl,p1,by rw[zyM,A,List.range_succ,zyM];rfl,by rw[zzJ,B];rfl⟩)
  ⟨[],[],none,none,none,none,rfl,Ows.nil,rfl,rfl⟩
 rw[xp,zyX]at A B;have N:=xX (as:=QN ns P n m F o7 o [] b none none none none none) (zr (zR (zb (x:=.int 1)) (yj (X _ _ rfl (zR (za (i:=1) (x:=.int 0) rfl) (zb (x:=.int 3)))) (zb (x:=.int 4)) (by decide))) zB) (by omega) (by omega);rw[<-ek,zyI]at N;exact⟨o,q,v,b,u,t,s,l,Y,Z,H,by omega,by omega,by rw[B];exact A,λg d hg=>zm E (zm G (zm (yI N L) hg))⟩
end
section
variable{ns F:List Int}{P:PZ}{n m:Nat}
def jx:∀i:Nat,i<8->∃k:Int,0<k/\k<1000/\zN (zh [1,2,4,8,16,32,64,128]) (.int (i:Int))=some (.im (.int k))
 |0,_=>⟨1,by decide,by decide,rfl⟩
 |1,_=>⟨2,by decide,by decide,rfl⟩
 |2,_=>⟨4,by decide,by decide,rfl⟩
 |3,_=>⟨8,by decide,by decide,rfl⟩
 |4,_=>⟨16,by decide,by decide,rfl⟩
 |5,_=>⟨32,by decide,by decide,rfl⟩
 |6,_=>⟨64,by decide,by decide,rfl⟩
 |7,_=>⟨128,by decide,by decide,rfl⟩
 |i+8,h=>absurd h (by omega)
def l8{as:AS}{a b c d e f g h:Int}:WE (yk (dC (fC (.int a)) (dC (fC (.int b)) (dC (fC (.int c)) (dC (fC (.int d)) (dC (fC (.int e)) (dC (fC (.int f)) (dC (fC (.int g)) (dC (fC (.int h)) dN))))))))) as (zh [a,b,c,d,e,f,g,h]):=Zp (zz zb (zz zb (zz zb (zz zb (zz zb (zz zb (zz zb (zz zb yz)))))))) (QC rfl) rfl rfl
def BG{as:AS}{fi:IF}{cap:List (Option Nat)}{gg:GF}{tt:TF}{fe:EF}{it:Nat->xb}(l:List Nat)(h1:fi as=some (l.map it,as))(hl:l.length<=1000000)(H:∀q ∈ l,∃as1 t,gg (it q) (vL cap as)=some as1/\WT tt as1 t/\WE fe as1 (.int q)):∃r:List Int,WE (yf fi cap gg tt fe) as (zh r):=by
 have:∃p:Nat->Bool,∀q ∈ l,∃as1,gg (it q) (vL cap as)=some as1/\WT tt as1 (p q)/\WE fe as1 (.int q):=by
  refine⟨λq=>((gg (it q) (vL cap as)).bind tt).elim false (·.1),λq mq=>?_⟩;obtain⟨as1,t,h1,h2,h3⟩:=H q mq;refine⟨as1,h1, ?_,h3⟩;show WT tt as1 (((gg (it q) (vL cap as)).bind tt).elim false (·.1));rw[h1];unfold WT at h2 ⊢;show tt as1=some ((tt as1).elim false (·.1),as1);rw[h2];rfl
 obtain⟨p,hp⟩:=this;have w:=FC l h1 hl λq mq=>by
  obtain⟨as1,h1,h2,h3⟩:=hp q mq;exact⟨as1,h1,h2,λ_=>h3⟩
 refine⟨(l.filter p).map λq:Nat=>(q:Int), ?_⟩;show WE _ _ (D.lst (((l.filter p).map λq:Nat=>(q:Int)).map D.int));rw[zyB];exact w
def HN{o7 o9:List O}{ss:List Str}{b8 b11 b12 b13 b14:Option O}(h:Hd P n m F)(sl:ss.length=7):∃o15 S c11 c12,Ows Kp (λ_=>True) o15 S/\1<=S.length/\S.length<=3/\S.map (·.1)=(List.range S.length).map (λj=>(ss[4+j]?).getD ("":Str))/\∀(g:SF) (d:D),Rt (g (QN ns P n m F o7 ss o9 b8 c11 c12 b13 b14 (sN o15))) d->Rt (zj rK (zj mB g) (QN ns P n m F o7 ss o9 b8 b11 b12 b13 b14 none)) d:=by
 have n8:=h.p.n8;rw[<-h.nn]at n8;obtain⟨x3,_,w3⟩:=UV ns (k:=8) (by omega);have sg:∀i,i<7->ss[i]? = some ((ss[i]?).getD ("":Str)):=λi hi=>by rw[zzE (by omega)];rfl
 have s13:rK (QN ns P n m F o7 ss o9 b8 b11 b12 b13 b14 none)=some (.nx (QN ns P n m F o7 ss o9 b8 b11 b12 b13 b14 (sN []))):=xa (vv yz (QC rfl)) (zo rfl);have q0:=zyN x3 (show(3:Int)≠0 by decide);have q1:=zyH x3 (show(0:Int)<3 by decide);obtain⟨k,ek⟩:∃k:Nat,(k:Int)=1+x3%3:=⟨(1+x3%3).toNat,by omega⟩;obtain⟨as',hl,o15,S,c11,c12,rfl,hO,hN,hK⟩:=xm (g:=gN 11)
  (λi as=>∃(o15:List O) (S:SS) (b11 b12:Option O),as=QN ns P n m F o7 ss o9 b8 b11 b12 b13 b14 (sN o15)/\Ows Kp (λ_=>True) o15 S/\S.map (·.1)=(List.range i).map (λj=>(ss[4+j]?).getD ("":Str))/\S.length=i) (y2 0 k) 0 (QN ns P n m F o7 ss o9 b8 b11 b12 b13 b14 (sN [])) (λi y as hy hI=>by
   obtain⟨o15,S,b11,b12,rfl,hO,hN,hK⟩:=hI;obtain⟨rfl,hi⟩:=wb hy;rw[zyX]at hN hK ⊢;rw[Int.zero_add];obtain⟨x,_,wx⟩:=UV ns (k:=9+i) (by omega);have t1:zy true 12 rQ (QN ns P n m F o7 ss o9 b8 (sI i) b12 b13 b14 (sN o15))=some (.nx (QN ns P n m F o7 ss o9 b8 (sI i) (sI (x/7)) b13 b14 (sN o15))):=by
    have w:=zR (zR (za (as:=QN ns P n m F o7 ss o9 b8 (sI i) b12 b13 b14 (sN o15)) (i:=1) rfl) (zb (x:=.int 9))) (za (i:=11) rfl);rw[show(0:Int)+9+(i:Int)=((9+i:Nat):Int) by omega]at w;exact zX (wy (wx _ _ rfl w) (zb) (by decide) (zE (by decide) (by decide))) (zo rfl)
   obtain⟨r,wr⟩:=BG (as:=QN ns P n m F o7 ss o9 b8 (sI i) (sI (x/7)) b13 b14 (sN o15)) (cap:=[none,some 12]) (gg:=gN 0) (tt:=qZ) (List.range n) (An (zr (za (i:=3) rfl) zB) (by omega)) (by rw[zyU];omega) λq mq=>by
    have hq:=List.mem_range.mp mq;rw[Int.zero_add];obtain⟨z,z0,z1,ez⟩:=jx q (by omega);exact⟨[sI q,sI (x/7)],_,rfl,eqT (yj (wy (za rfl) (HE l8 (WD.e (za rfl)) ez) z0 (zE (by omega) (by omega))) zb (by decide)) zb rfl,WD.e (za (i:=0) rfl)⟩
   have wn:WD (f2 (fV 10) (f2 RF Kj zD) zN) (QN ns P n m F o7 ss o9 b8 (sI i) (sI (x/7)) b13 b14 (sN o15)) true (.str ((ss[4+i]?).getD ("":Str))):=by
    have w:=zR (zb (x:=.int 4)) (za (as:=QN ns P n m F o7 ss o9 b8 (sI i) (sI (x/7)) b13 b14 (sN o15)) (i:=11) rfl);rw[show(4:Int)+(i:Int)=((4+i:Nat):Int) by omega]at w;exact zJ (za rfl) w (Xr (sg (4+i) (by omega))) rfl
   obtain⟨os',p1,p2⟩:=OC (i:=15) (x:=((ss[4+i]?).getD ("":Str),r)) rfl hO (by omega) (vY (WD.e wn) wr) True.intro;exact⟨_,rfl,_,zp t1 p2,os',_,_,_,rfl,p1,by rw[zyM,hN,List.range_succ,zyM];rfl,by rw[zzJ,hK];rfl⟩)
  ⟨[],[],b11,b12,rfl,Ows.nil,rfl,rfl⟩
 rw[xp,zyX]at hN hK;have hr:=xX (as:=QN ns P n m F o7 ss o9 b8 b11 b12 b13 b14 (sN [])) (zr (zR (zb (x:=.int 1)) (yj (w3 _ _ rfl (zR (za (i:=1) (x:=.int 0) rfl) (zb (x:=.int 8)))) (zb (x:=.int 3)) (by decide))) zB) (by omega) (by omega);rw[<-ek,zyI]at hr;exact⟨o15,S,c11,c12,hO,by omega,by omega,by rw[hK];exact hN,λg d hg=>zm s13 (zm (yI hr hl) hg)⟩
def CP{ss:List Str}(nd:ss.Nodup){i j:Nat}(hi:i<ss.length)(hj:j<ss.length)(e:ss[i]=ss[j]):i=j:=by
 have p:=List.pairwise_iff_getElem.mp nd
 rcases Nat.lt_trichotomy i j with h|h|h
 . exact absurd e (p i j hi hj h)
 . exact h
 . exact absurd e.symm (p j i hj hi h)
def Mx{ss:List Str}{k a:Nat}(nd:ss.Nodup)(hk:a+k<=ss.length):((List.range k).map λj=>(ss[a+j]?).getD ("":Str)).Nodup:=by
 refine List.pairwise_map.mpr ((List.nodup_range).imp_of_mem λ{i j} d e b c=>b ?_);have f:=List.mem_range.mp d;have g:=List.mem_range.mp e;rw[zzE (show a+i<ss.length by omega),zzE (show a+j<ss.length by omega)]at c;have:=CP nd (show a+i<ss.length by omega) (show a+j<ss.length by omega) c;omega
structure Cx.Gd(c:Cx):Prop where
 ok:c.Ok
 sl:c.S.length<=4
 sn:(c.S.map (·.1)).Nodup
def Ff(ns:List Int):∃c:Cx,c.Gd/\RE (wg [(true,zh ns),(true,.int 0)]) c.g:=by
 obtain⟨P,n,m,F,h,L⟩:=Jy ns;obtain⟨r,b,M,N,Q⟩:=Js h;obtain⟨u,v,s,y,R,T,e,j,U,I,z,d1,d4,V,W⟩:=Ov h;obtain⟨l,S,o,q,X,s1,s3,sm,Y⟩:=HN h U;obtain⟨tJ,lJ,qJ⟩:=BH h.p.k h.nn h.f;have A:=(wA h.f).1;have t:=(rJ h.p.k).ce;rw[<-h.nn]at t;have J:=h.p.n8;have K:=Bo h.p.k;rw[<-h.nn]at J K;let Z:=QN ns P n m F r u v y o q e j (sN l);have B:nZ Z=some (.nx (A7 ns P n m F [sN r,y,sN v,sT (.lst (u.map D.str)),o,q,e,j,sN l,sI (wY F (eX P))])):=by
  have w:=Dv (as:=Z) h.p rfl λp=>by
   have w:=xk (as:=[sI p.1,sI p.2]) (g:=LH) (zr (Km (za (i:=0) rfl) (zb (x:=.int 3)) rfl) zB) rfl rfl
   rwa [show(if(p.1==3)=true then(1:Int)else 0)=eK p.1 by unfold eK;by_cases h:p.1=3<;>simp[h]]at w
  rw[lZ]at w;exact zX (zJ (za rfl) w (rowAt A t).1 rfl) (zo rfl)
 have wr:r9 (A7 ns P n m F [sN r,y,sN v,sT (.lst (u.map D.str)),o,q,e,j,sN l,sI (wY F (eX P))])=some (_,_):=
  vJ (za rfl) (vJ (za rfl) (GO rfl (vJ (za rfl) (GO rfl (GO rfl rfl)))))
 have d:=BD wr (QC rfl);have C:(O.nd .ls r).frz = .lf true (xJ (MC P F n)):=by
  show O.lf (O.strs r) (.lst (O.toDs r))=_;rw[M,N]
 rw[C,z.frz,X.frz]at d;have rt:=TX d rfl;have E:(s.map (·.1)).Nodup:=by
  rw[V];have:=Mx (k:=s.length) (a:=0) I (by omega);simp only[zyX]at this;exact this
 have G:(S.map (·.1)).Nodup:=by
  rw[sm];exact Mx I (by omega)
 exact⟨⟨n,m,MC P F n,wY F (eX P),s,S⟩,⟨⟨⟨K,J,h.m1,h.m6,tJ,(rowAt A t).2.1,(rowAt A t).2.2,by show s.length<=6;omega,λp H=>(z.al p H).1,E⟩,⟨lJ,λp H=>(z.al p H).2⟩⟩,by show S.length<=4;omega,G⟩,yJ rfl (L _ _ (Q _ _ (W _ _ (Y _ _ (zm B ⟨_,rt,rfl,rfl⟩)))))⟩
end
abbrev jH:SF:=(zy true 1 uN)
abbrev kZ:SF:=qz
abbrev kJ:SF:=(zy true 3 (f2 yw yB zD))
abbrev kQ:SF:=(zy true 4 (f2 yG yB zD))
abbrev kX:SF:=qU
abbrev jz:SF:=qK
abbrev jt:SF:=rN
abbrev jW:SF:=(zy false 11 (yk dN))
abbrev jd:SF:=lS
abbrev mS:SF:=(zy false 14 (yk dN))
abbrev m5:SF:=pw
def IZ{ds:List Int}{a n:Nat}(h:a+n<=ds.length):Ml (zh ds) (some (a:Int)) (some ((a+n:Nat):Int))=some (.fl (((ds.drop a).take n).map D.int)):=by
 show some (R0.fl (PF.cutD (ds.map D.int) (some (a:Int)) (some ((a+n:Nat):Int))))=_
 congr 2
 unfold PF.cutD;rw[HT.UF,HT.UF,zzB,Nat.min_eq_left h,Nat.min_eq_left (show a<=ds.length by omega),<-List.map_drop,<-List.map_take,Nat.add_sub_cancel_left]
def JM{ds:List Int}{a n N:Nat}(h:a+n<=ds.length)(hd:∀x ∈ ds,zQ N x)(e:n=N):Row N ((ds.drop a).take n):=by
 refine⟨by rw[zzS,List.length_drop];omega,λx m=>hd x (List.mem_of_mem_drop (List.mem_of_mem_take m))⟩
def mf{f fl fh:EF}{as:AS}{ds:List Int}{a n:Nat}{lo hi:Int}(h:a+n<=ds.length)(hf:WD f as true (zh ds))(h1:WD fl as true (.int lo))(h2:WD fh as true (.int hi))(e1:lo=(a:Int))(e2:hi=((a+n:Nat):Int)):WE (KZ f (oS fl) (oS fh) Ml) as (zh ((ds.drop a).take n)):=by
 subst e1 e2;exact Jd (WD.e hf) (Bk h1) (Bk h2) (IZ h)
def JS{xs:List D}{k:Int}(h : -(2 ^ 63)<=k/\k<2 ^ 63/\xs.length*k.toNat<=sizeLine):YX .Mult (.lst xs) (.int k)=some (.fl (List.replicate k.toNat xs).flatten):=if_pos h
def HY{as:AS}{a b:EF}{x:Int}{k:Nat}(ha:WD a as true (.int x))(hb:WD b as true (.int (k:Int)))(hk:k<=900):WE (f2 (yk (dC a dN)) b zS) as (zh (List.replicate k x)):=by
 refine HQ (Zp (zz ha yz) (QC rfl) rfl rfl) (WD.e hb) ?_;show YX .Mult (.lst [D.int x]) (.int k)=_;rw[JS ⟨by omega,by omega,by rw[zyI];exact S_ (by show 1*k<=_;omega)⟩,zyI,List.flatten_replicate_singleton,List.map_replicate]
abbrev jE:EF:=KZ zA (oS (f2 yb zw zS)) (oS (f2 (f2 yb zw zS) yb zD)) Ml
def DW{as:AS}{j n k:Nat}{cap:List (Option Nat)}{ds:List Int}(n8:n<=8)(k8:k<=8)(hc:∀b:Int,gN 0 (true,.int b) (vL cap as)=some [sI b,sT (zh ds),sI n])(hr:as[j]? = some (sI k))(hl:ds.length=n*k)(hd:∀x ∈ ds,zQ n x):∃T:TZ,Tab k n T/\WE (yf (yM (aC (fV j) aN) y_) cap wz yZ jE) as (xJ T):=by
 obtain⟨T,d,e,f⟩:=tE zh (zr (za hr) zB) (by omega) λb g h=>by
  have l:n*b.toNat+n<=n*k:=by rw[<-Nat.mul_succ];exact Nat.mul_le_mul_left n (by omega)
  have c:(b.toNat:Int)=b:=by omega
  have w:WD (f2 yb zw zS) [sI b,sT (zh ds),sI n] true (.int (n*b)):=xy (za rfl) (za rfl) (zE (by omega) (by omega)) (zE (by omega) (by omega));refine⟨[sI b,sT (zh ds),sI n],_,hc b,mf (a:=n*b.toNat) (by omega) (za (i:=1) rfl) w (zR w (za (i:=2) rfl)) (by rw[zzV,c]) (by rw[Int.natCast_add,zzV,c]),JM (by omega) hd rfl⟩
 exact⟨T,⟨d,e⟩,f⟩
def OY{ns:List Int}:∃r:List Int,r.length<=12/\Ml (zh ns) none (some 12)=some (.fl (r.map D.int)):=by
 refine⟨ns.take (min 12 ns.length),by rw[zzS];omega, ?_⟩;show some (R0.fl (PF.cutD (ns.map D.int) none (some ((12:Nat):Int))))=_
 congr 2
 unfold PF.cutD;rw[HT.UF,HT.KC,zzB,List.drop_zero,Nat.sub_zero,<-List.map_take]
def JN{f:EF}{as:AS}{r:List Int}(h:WE f as (zh r)):WD (fP (aC f aN) vA) as true (.int r.length):=by
 have:=FD (g:=vA) h rfl
 rwa [zzB]at this
def Cb{ns:List Int}{as:AS}(h:as[0]? = some (sT (zh ns))):∃cs:List Int,cs.length=12/\WE uN as (zh cs):=by
 obtain⟨r,d,e⟩:=OY;have a:WE (KZ zw oN (oS (fC (.int 12))) Ml) as (zh r):=FW (za h) rfl (Bk zb) e;have b:=Pe (Lx (cap:=[none]) (gg:=gN 0) r (WX a) (by omega) λx _=>⟨_,rfl,za (i:=0) rfl⟩);rw[List.map_id']at b;have c:WD qm as true (.int ((12-r.length:Nat):Int)):=by
  have:=XB (zb (x:=.int 12)) (JN a)
  rwa [show(12:Int)-(r.length:Int)=((12-r.length:Nat):Int) by omega]at this
 refine⟨r++List.replicate (12-r.length) 0,by rw[zzJ,List.length_replicate];omega, ?_⟩;refine HQ b (HY zb c (by omega)) ?_;rw[zyM];exact if_pos (by rw[zzB,zzB,List.length_replicate];exact S_ (by omega))
section
variable{ns cs:List Int}{o z:Int}{n m k s:Nat}
abbrev B8(ns cs:List Int)(o:Int)(n m k s:Nat)(z:Int)(l:AS):AS:=sT (zh ns)::sT (zh cs)::sI o::sI n::sI m::sI k::sI s::sI z::l
abbrev Lh(ns cs:List Int)(o:Int)(n m k s:Nat)(z:Int)(ss:List Str)(b9:Option O)(J:TZ)(o11:List O)(b12 b13 b14 b15:Option O):AS:=B8 ns cs o n m k s z [sT (.lst (ss.map D.str)),b9,sT (xJ J),sN o11,b12,b13,b14,b15]
structure Bd(cs:List Int)(n m k s:Nat):Prop where
 c:cs.length=12
 n1:1<=n
 n8:n<=8
 m1:1<=m
 m6:m<=6
 k6:k<=6
 s4:s<=4
def qk(ns:List Int):∃cs o n m k s z ss b9 J,Bd cs n m k s/\ss.length=10/\ss.Nodup/\Tab n n J/\0<=z/\∀(g:SF) (d:D),Rt (g (Lh ns cs o n m k s z ss b9 J [] none none none none)) d->Rt (zj jH (zj kZ (zj kJ (zj kQ (zj kX (zj jz (zj jt (zj jW g))))))) [sT (zh ns),none,none,none,none,none,none,none,none,none,none,none,none,none,none,none]) d:=by
 obtain⟨f,w,A⟩:=Cb (as:=[sT (zh ns),none,none,none,none,none,none,none,none,none,none,none,none,none,none,none]) rfl;have B:=ZE (p:=1) A (zo rfl);obtain⟨c,C⟩:=ZJ (as:=[sT (zh ns),sT (zh f),none,none,none,none,none,none,none,none,none,none,none,none,none,none]) (za (i:=1) rfl) (zb (x:=.int 0)) (by omega) (by omega);have u:WE oY [sT (zh ns),sT (zh f),none,none,none,none,none,none,none,none,none,none,none,none,none,none] (zh [c%2,c/2%8,c/2/8%6,c/2/8/6%7,c/2/8/6/7%5,c/2/8/6/7/5%8]):=SH (sz:=[2,8,6,7,5,8]) (by decide) (by decide) (WD.e C) (Zp (zz zb (zz zb (zz zb (zz zb (zz zb (zz zb yz)))))) (QC rfl) rfl rfl);have bd:∀(x y:Int),0<y->∃r:Nat,(r:Int)=x%y/\(r:Int)<y:=λx y E=>by
  have:=zyN x (show y≠0 by omega);have:=zyH x E;exact⟨(x%y).toNat,by omega,by omega⟩
 obtain⟨a,F,n8⟩:=bd (c/2) 8 (by decide);obtain⟨l,G,m8⟩:=bd (c/2/8) 6 (by decide);obtain⟨k,H,k8⟩:=bd (c/2/8/6) 7 (by decide);obtain⟨s,I,s8⟩:=bd (c/2/8/6/7) 5 (by decide);obtain⟨z,K,z8⟩:=bd (c/2/8/6/7/5) 8 (by decide);rw[<-F,<-G,<-H,<-I,<-K]at u;generalize c%2=o at u;have L:kZ [sT (zh ns),sT (zh f),none,none,none,none,none,none,none,none,none,none,none,none,none,none]=some (.nx [sT (zh ns),sT (zh f),sI o,sI a,sI l,sI k,sI s,sI z,none,none,none,none,none,none,none,none]):=Bl u rfl;have M:kJ [sT (zh ns),sT (zh f),sI o,sI a,sI l,sI k,sI s,sI z,none,none,none,none,none,none,none,none]=some (.nx [sT (zh ns),sT (zh f),sI o,sI ((a+1:Nat):Int),sI l,sI k,sI s,sI z,none,none,none,none,none,none,none,none]):=zX (zR (za (x:=.int a) rfl) (zb)) (zo rfl);have N:kQ [sT (zh ns),sT (zh f),sI o,sI ((a+1:Nat):Int),sI l,sI k,sI s,sI z,none,none,none,none,none,none,none,none]=some (.nx (B8 ns f o (a+1) (l+1) k s z [none,none,none,none,none,none,none,none])):=zX (zR (za (x:=.int l) rfl) (zb)) (zo rfl);have q:a+1<=8:=by omega
 have nn:=Nat.mul_le_mul q q;obtain⟨x,_,O⟩:=UV ns (k:=12) (by omega);obtain⟨t,P,Q,R⟩:=EW x (mn:=10) (by omega);have S:kX (B8 ns f o (a+1) (l+1) k s z [none,none,none,none,none,none,none,none])=some (.nx (B8 ns f o (a+1) (l+1) k s z [sT (.lst (t.map D.str)),none,none,none,none,none,none,none])):=ZE (Xo (WD.e (O _ _ rfl (zb))) (WD.e (zb)) R) (zo rfl);obtain⟨T,U⟩:=ZJ (as:=B8 ns f o (a+1) (l+1) k s z [sT (.lst (t.map D.str)),none,none,none,none,none,none,none]) (za (i:=1) rfl) (zb (x:=.int 1)) (by omega) (by omega);have v:=xy (za (as:=B8 ns f o (a+1) (l+1) k s z [sT (.lst (t.map D.str)),none,none,none,none,none,none,none]) (i:=3) rfl) (za (i:=3) rfl) (zE (by omega) (by omega)) (zE (by omega) (by omega));rw[<-zzV]at v;have V:=ZE (p:=9) (SH (λy W=>by rw[List.eq_of_mem_replicate W];omega) (by rw[List.length_replicate];omega) (WD.e U) (HY (za (i:=3) rfl) v (by omega))) (zo rfl);obtain⟨J,X,Y⟩:=DW (as:=B8 ns f o (a+1) (l+1) k s z [sT (.lst (t.map D.str)),sT (zh (dg T (List.replicate ((a+1)*(a+1)) ((a+1:Nat):Int)))),none,none,none,none,none,none]) (j:=3) (cap:=[none,some 9,some 3]) q q (λb=>rfl) rfl (by rw[GL,List.length_replicate]) (BU (by omega) _ _);have Z:=ZE (p:=10) Y (zo rfl);exact⟨f,o,a+1,l+1,k,s,z,t,_,J,⟨w,by omega,q,by omega,by omega,by omega,by omega⟩,P,Q,X,by omega,λg d h=>zm B (zm L (zm M (zm N (zm S (zm V (zm Z (zm (xa (vv yz (QC rfl)) (zo rfl)) h)))))))⟩
end
section
variable{ns cs:List Int}{o z:Int}{n m k s:Nat}{ss:List Str}{b9:Option O}{J:TZ}
def tW(h:Bd cs n m k s)(sl:ss.length=10):∃o11 Ds b12 b13,Ows QB (λp=>Tab m n p.2) o11 Ds/\Ds.length=k/\Ds.map (·.1)=(List.range k).map (λj=>(ss[j]?).getD ("":Str))/\jd (Lh ns cs o n m k s z ss b9 J [] none none none none)=some (.nx (Lh ns cs o n m k s z ss b9 J o11 b12 b13 none none)):=by
 have B:=h.n1;have v:=h.n8;have C:=h.m6;have S:=h.k6;have U:=h.c;have V:=Nat.mul_le_mul v C;have D:∀i,i<10->ss[i]? = some ((ss[i]?).getD ("":Str)):=λi E=>by rw[zzE (by omega)];rfl
 obtain⟨F,G,a,l,f,d,rfl,t,q,r⟩:=xm (g:=gN 12)
  (λi as=>∃(a:List O) (l:DD) (f d:Option O),as=Lh ns cs o n m k s z ss b9 J a f d none none/\Ows QB (λp=>Tab m n p.2) a l/\l.map (·.1)=(List.range i).map (λj=>(ss[j]?).getD ("":Str))/\l.length=i) (y2 0 k) 0 (Lh ns cs o n m k s z ss b9 J [] none none none none) (λi y as H I=>by
   obtain⟨a,l,f,d,rfl,t,q,r⟩:=I;obtain⟨rfl,E⟩:=wb H;rw[zyX]at q r ⊢;rw[Int.zero_add];obtain⟨c,K⟩:=ZJ (as:=Lh ns cs o n m k s z ss b9 J a (sI i) d none none) (za (i:=1) rfl) (zR (zb (x:=.int 2)) (za (i:=12) rfl)) (by omega) (by omega);have w:=xy (za (as:=Lh ns cs o n m k s z ss b9 J a (sI i) d none none) (i:=3) rfl) (za (i:=4) rfl) (zE (by omega) (by omega)) (zE (by omega) (by omega));rw[<-zzV]at w;have L:=ZE (p:=13) (SH (λy M=>by rw[List.eq_of_mem_replicate M];omega) (by rw[List.length_replicate];omega) (WD.e K) (HY (za (i:=3) rfl) w (by omega))) (zo rfl);obtain⟨T,N,P⟩:=DW (as:=Lh ns cs o n m k s z ss b9 J a (sI i) (sT (zh (dg c (List.replicate (n*m) (n:Int))))) none none) (j:=4) (cap:=[none,some 13,some 3]) v (by omega) (λb=>rfl) rfl (by rw[GL,List.length_replicate]) (BU B _ _);obtain⟨u,Q,R⟩:=OC (i:=11) (x:=((ss[i]?).getD ("":Str),T)) rfl t (by omega) (vY (WD.e (zJ (za (i:=8) rfl) (za (i:=12) rfl) (Xr (D i (by omega))) rfl)) P) N;exact⟨_,rfl,_,zp L R,u,_,_,_,rfl,Q,by rw[zyM,q,List.range_succ,zyM];rfl,by rw[zzJ,r];rfl⟩)
  ⟨[],[],none,none,rfl,Ows.nil,rfl,rfl⟩
 rw[xp,zyX]at q r;have A:=xX (as:=Lh ns cs o n m k s z ss b9 J [] none none none none) (zr (za (i:=5) rfl) zB) (by omega) (by omega);rw[zyI]at A;exact⟨a,l,f,d,t,r,q,yI A G⟩
def u_{o11:List O}{b12 b13:Option O}(h:Bd cs n m k s)(sl:ss.length=10):∃o14 S b12' b15,Ows Kp (λ_=>True) o14 S/\S.length=s/\S.map (·.1)=(List.range s).map (λj=>(ss[9-j]?).getD ("":Str))/\m5 (Lh ns cs o n m k s z ss b9 J o11 b12 b13 (sN []) none)=some (.nx (Lh ns cs o n m k s z ss b9 J o11 b12' b13 (sN o14) b15)):=by
 have n1:=h.n1;have n8:=h.n8;have s4:=h.s4;have hc:=h.c;have sg:∀i,i<10->ss[i]? = some ((ss[i]?).getD ("":Str)):=λi hi=>by rw[zzE (by omega)];rfl
 obtain⟨as',hl,o14,S,b12',b15,rfl,hO,hN,hK⟩:=xm (g:=gN 12)
  (λi as=>∃(o14:List O) (S:SS) (b12 b15:Option O),as=Lh ns cs o n m k s z ss b9 J o11 b12 b13 (sN o14) b15/\Ows Kp (λ_=>True) o14 S/\S.map (·.1)=(List.range i).map (λj=>(ss[9-j]?).getD ("":Str))/\S.length=i) (y2 0 s) 0 (Lh ns cs o n m k s z ss b9 J o11 b12 b13 (sN []) none) (λi y as hy hI=>by
   obtain⟨o14,S,b12,b15,rfl,hO,hN,hK⟩:=hI;obtain⟨rfl,hi⟩:=wb hy;rw[zyX]at hN hK ⊢;rw[Int.zero_add];obtain⟨c,wc⟩:=ZJ (as:=Lh ns cs o n m k s z ss b9 J o11 (sI i) b13 (sN o14) b15) (za (i:=1) rfl) (zR (zb (x:=.int 8)) (za (i:=12) rfl)) (by omega) (by omega);have t1:=ZE (p:=15) (SH (λy my=>by rw[List.eq_of_mem_replicate my];omega) (by rw[List.length_replicate];omega) (WD.e wc) (HY (zb (x:=.int 2)) (za (i:=3) rfl) (by omega))) (zo rfl);obtain⟨r,wr⟩:=BG (as:=Lh ns cs o n m k s z ss b9 J o11 (sI i) b13 (sN o14) (sT (zh (dg c (List.replicate n 2))))) (cap:=[none,some 15]) (gg:=gN 0) (tt:=(fT (f2 (f2 zA zw zN) yB (zP .Eq)))) (List.range n) (An (zr (za (i:=3) rfl) zB) (by omega)) (by rw[zyU];omega) λq mq=>by
    have hq:=List.mem_range.mp mq;rw[Int.zero_add];obtain⟨v,wv⟩:=ZJ (as:=[sI q,sT (zh (dg c (List.replicate n 2)))]) (za (i:=1) rfl) (za (i:=0) rfl) (by omega) (by rw[GL,List.length_replicate];omega);exact⟨_,_,rfl,eqT wv zb rfl,WD.e (za (i:=0) rfl)⟩
   have wn:WD (f2 (fV 8) (f2 (fC (.int 9)) (fV 12) YH) zN) (Lh ns cs o n m k s z ss b9 J o11 (sI i) b13 (sN o14) (sT (zh (dg c (List.replicate n 2))))) true (.str ((ss[9-i]?).getD ("":Str))):=by
    have w:=XB (as:=Lh ns cs o n m k s z ss b9 J o11 (sI i) b13 (sN o14) (sT (zh (dg c (List.replicate n 2))))) (zb (x:=.int 9)) (za (i:=12) rfl);rw[show(9:Int)-i=((9-i:Nat):Int) by omega]at w;exact zJ (za rfl) w (Xr (sg (9-i) (by omega))) rfl
   obtain⟨os',p1,p2⟩:=OC (i:=14) (x:=((ss[9-i]?).getD ("":Str),r)) rfl hO (by omega) (vY (WD.e wn) wr) True.intro;exact⟨_,rfl,_,zp t1 p2,os',_,_,_,rfl,p1,by rw[zyM,hN,List.range_succ,zyM];rfl,by rw[zzJ,hK];rfl⟩)
  ⟨[],[],b12,none,rfl,Ows.nil,rfl,rfl⟩
 rw[xp,zyX]at hN hK;have hr:=xX (as:=Lh ns cs o n m k s z ss b9 J o11 b12 b13 (sN []) none) (zr (za (i:=6) rfl) zB) (by omega) (by omega);rw[zyI]at hr;exact⟨o14,S,b12',b15,hO,hK,hN,yI hr hl⟩
def AQ{ss:List Str}{k a:Nat}(nd:ss.Nodup)(ha:a<ss.length)(hk:k<=a):((List.range k).map λj=>(ss[a-j]?).getD ("":Str)).Nodup:=by
 refine List.pairwise_map.mpr ((List.nodup_range).imp_of_mem λ{i j} d e b c=>b ?_);have f:=List.mem_range.mp d;have g:=List.mem_range.mp e;rw[zzE (show a-i<ss.length by omega),zzE (show a-j<ss.length by omega)]at c;have:=CP nd (show a-i<ss.length by omega) (show a-j<ss.length by omega) c;omega
def Mn(ns:List Int):∃c:Cx,Alg c.n c.m c.J c.e c.Ds/\c.S.length<=4/\(c.S.map (·.1)).Nodup/\RE (xg [(true,zh ns)]) c.g:=by
 obtain⟨j,o,n,m,k,s,z,l,p,J,h,B,C,G,N,H⟩:=qk ns;obtain⟨d,q,i,f,D,O,I,K⟩:=tW h B;obtain⟨r,S,t,u,L,E,sm,v⟩:=u_ h B;have P:=h.n1;have Q:=h.k6;have R:=h.s4;have w:mS (Lh ns j o n m k s z l p J d i f none none)=some (.nx (Lh ns j o n m k s z l p J d i f (sN []) none)):=xa (vv yz (QC rfl)) (zo rfl);have F:=U1 (x:=z) h.n1;have M:oj (Lh ns j o n m k s z l p J d t f (sN r) u)=some (_,_):=
  vJ (za rfl) (vJ (za rfl) (vJ (za rfl) (vJ (yj (za rfl) (za rfl) (by omega)) (GO rfl (GO rfl rfl)))))
 have b:=BD M (QC rfl);rw[D.frz,L.frz]at b;have rt:=TX b rfl;have y:(q.map (·.1)).Nodup:=by
  rw[I];have:=Mx (k:=k) (a:=0) C (by omega);simp only[zyX]at this;exact this
 have A:(S.map (·.1)).Nodup:=by
  rw[sm];exact AQ C (by omega) (by omega)
 exact⟨⟨n,m,J,z%n,q,S⟩,⟨h.n1,h.n8,h.m1,h.m6,G,F.1,F.2,by show q.length<=6;omega,D.al,y⟩,by show S.length<=4;omega,A,yJ rfl (H _ _ (zm K (zm w (zm v ⟨_,rt,rfl,rfl⟩))))⟩
end
theorem CD(k:Nat):∀r s:List Int,Ab (ZK (k+1)) (r.map D.int) (s.map D.int)=some (r==s)
 | [],[]=>rfl
 | [],_::_=>rfl
 |_::_,[]=>rfl
 |a::r,b::s=>by
  show(some (a==b)).bind (λx=>(Ab (ZK (k+1)) (r.map D.int) (s.map D.int)).bind λc=>some (x&&c))=_;rw[CD k r s];rfl
def O8(r s:List Int):ZK 60 (zh r) (zh s)=some (r==s):=CD 58 r s
def So:∀xs:List D,ZK 60 (.lst xs) (.lst [])=some xs.isEmpty
 | []=>rfl
 |_::_=>rfl
def Rf(r:Option Out)(I:AS->Prop):Prop:=(∃as,r=some (.nx as)/\I as)\/r=some (.rt (.lf true (.bl false)))
theorem Rf.loop{g:GF}{f:SF}(I:Nat->AS->Prop):∀(xs:List xb) (k:Nat) (as:AS),(∀i x as,xs[i]? = some x->I (k+i) as->∃as1,g x as=some as1/\Rf (f as1) (I (k+i+1)))->I k as->Rf (forL g f xs as) (I (k+xs.length))
 | [],k,as,_,h=>.inl ⟨as,rfl,h⟩
 |x::xs,k,as,H,h=>by
  obtain⟨as1,h1,h2⟩:=H 0 x as rfl h
  rcases h2 with⟨as2,h2,h3⟩|h2
  . have:=Rf.loop I xs (k+1) as2 (λi y as hy hI=>by
     have:=H (i+1) y as hy (by rw[show k+(i+1)=k+1+i by omega];exact hI)
     rwa [show k+(i+1)+1=k+1+i+1 by omega]at this) h3
    rw[show k+1+xs.length=k+(x::xs).length by rw[zzT];omega]at this;have e:forL g f (x::xs) as=forL g f xs as2:=by
     show(g x as).bind _=_;rw[h1];show(f as1).bind _=_;rw[h2];rfl
    rwa [e]
  . right;show(g x as).bind _=_;rw[h1];show(f as1).bind _=_;rw[h2];rfl
def Rf.seq{f g:SF}{as as1:AS}{I:AS->Prop}(h:f as=some (.nx as1))(k:Rf (g as1) I):Rf (zj f g as) I:=by
 rcases k with⟨a,b,c⟩|k
 . exact .inl ⟨a,zp h b,c⟩
 . exact .inr (zp h k)
def Rf.no{c:TF}{as:AS}{I:AS->Prop}{t:Bool}(h:WT c as t)(k:t=false->I as):Rf (vG c (zL (fC (.bl false))) w4 as) I:=by
 cases t with
 |false=>exact .inl ⟨as,zT h rfl,k rfl⟩
 |true=>exact .inr (xN h rfl)
def Rf.bind{f g:SF}{as:AS}{I K:AS->Prop}(h:Rf (f as) I)(k:∀as1,I as1->Rf (g as1) K):Rf (zj f g as) K:=by
 rcases h with⟨a,b,c⟩|h
 . exact(k a c).seq b
 . exact .inr (vU h)
def nt{a b:EF}{as:AS}{x y:Int}{s t:Bool}(ha:WD a as s (.int x))(hb:WD b as t (.int y)):WT (fT (f2 a b (zP .NotEq))) as (!(x==y)):=yV (BE ha hb rfl) rfl
def rk{x y:Int}(h:(!(x==y))=false):x=y:=by
 rw[Bool.not_eq_false']at h;exact beq_iff_eq.mp h
section
variable{n m:Nat}{J T:TZ}{a b:Int}
abbrev D9(m:Nat)(J T:TZ)(a b:Int)(l:AS):AS:=sI m::sT (xJ J)::sT (xJ T)::sI a::sI b::l
abbrev Oq(m:Nat)(J T:TZ)(a b i k:Int):Prop:=yA T ((i+k)%m) (yA J a b)=yA J (yA T i a) (yA T k b)
def JD(hJ:Tab n n J)(hT:Tab m n T)(m1:1<=m)(m6:m<=6)(ha:zQ n a)(hb:zQ n b):∃t,RE (YW [(true,.int m),(true,xJ J),(true,xJ T),(true,.int a),(true,.int b)]) (.bl t)/\(t=true->∀i k,zQ m i->zQ m k->Oq m J T a b i k):=by
 have C:=λl=>by
  have:=xX (as:=D9 m J T a b l) (zr (za (i:=0) rfl) zB) (by omega) (by omega)
  rwa [zyI]at this
 have p:=Rf.loop (g:=gN 5) (λi as=>∃x y z w,as=D9 m J T a b [x,y,z,w]/\∀v:Nat,v<i->∀k,zQ m k->Oq m J T a b v k) (y2 0 m) 0 (D9 m J T a b [none,none,none,none]) (λi y as D A=>by
  obtain⟨x,y,z,w,rfl,A⟩:=A;obtain⟨rfl,q⟩:=wb D;rw[zyX]at A ⊢;rw[Int.zero_add];refine⟨D9 m J T a b [sI i,y,z,w],rfl, ?_⟩;have s:=Rf.loop (g:=gN 6) (f:=ny) (λk as=>∃y z w,as=D9 m J T a b [sI i,y,z,w]/\∀o:Nat,o<k->Oq m J T a b i o) (y2 0 m) 0 (D9 m J T a b [sI i,y,z,w]) (λk y as D B=>by
   obtain⟨y,z,w,rfl,B⟩:=B;obtain⟨rfl,j⟩:=wb D;rw[zyX]at B ⊢;rw[Int.zero_add];refine⟨D9 m J T a b [sI i,sI k,z,w],rfl, ?_⟩;have I:=(Vx (as:=D9 m J T a b [sI i,sI k,z,w]) hT (U1 (by omega)) (RB hJ ha hb) (za (i:=2) rfl) (yj (zR (za (i:=5) rfl) (za (i:=6) rfl)) (za (i:=0) rfl) (by omega)) (vM hJ ha hb (za (i:=1) rfl) (za (i:=3) rfl) (za (i:=4) rfl))).1;have H:=Vx (as:=D9 m J T a b [sI i,sI k,sI (yA T (((i:Int)+k)%m) (yA J a b)),w]) hT (Bs q) ha (za (i:=2) rfl) (za (i:=5) rfl) (za (i:=3) rfl);have z2:=Vx (as:=D9 m J T a b [sI i,sI k,sI (yA T (((i:Int)+k)%m) (yA J a b)),w]) hT (Bs j) hb (za (i:=2) rfl) (za (i:=6) rfl) (za (i:=4) rfl);refine(Rf.no (nt (za rfl) (za rfl)) λh=>⟨_,_,_,rfl,λo c=>?_⟩).seq (zX (vM hJ H.2 z2.2 (za rfl) H.1 z2.1) (zo rfl)) |>.seq (zX I (zo rfl))
   rcases Nat.lt_or_eq_of_le (Nat.le_of_lt_succ c)with d|rfl
   . exact B o d
   . exact rk h) ⟨_,_,_,rfl,λo c=>absurd c (Nat.not_lt_zero _)⟩
  rw[xp,zyX]at s;have u:∀{r},forL (gN 6) ny (y2 0 m) (D9 m J T a b [sI i,y,z,w])=r->(yU (yM vO y_) (gN 6) ny) (D9 m J T a b [sI i,y,z,w])=r:=λh=>yI (C _) h
  rcases s with⟨E,d,K,L,M,rfl,F⟩|d
  . refine .inl ⟨_,u d,_,_,_,_,rfl,λv G k j=>?_⟩
    rcases Nat.lt_or_eq_of_le (Nat.le_of_lt_succ G)with N|rfl
    . exact A v N k j
    . have:=F k.toNat (by have:=j.1;have:=j.2;omega)
      rwa [show((k.toNat:Nat):Int)=k by have:=j.1;omega]at this
  . exact .inr (u d)) ⟨_,_,_,_,rfl,λo c=>absurd c (Nat.not_lt_zero _)⟩
 rw[xp,zyX]at p
 rcases p with⟨E,d,O,K,L,M,rfl,F⟩|d
 . refine⟨true,yJ rfl (zm (yI (C _) d) (yF (WD.e zb))),λ_ i k q j=>?_⟩;have:=F i.toNat (by have:=q.1;have:=q.2;omega) k j
   rwa [show((i.toNat:Nat):Int)=i by have:=q.1;omega]at this
 . exact⟨false,yJ rfl (WC ⟨_,yI (C _) d,rfl,rfl⟩),λh=>nomatch h⟩
end
def rj{a b c d e:EF}{as:AS}{x y z u v o:D}{g:List (Bool×D)->Option O}(ha:WE a as x)(hb:WE b as y)(hc:WE c as z)(hd:WE d as u)(he:WE e as v)(hg:RE (g [(true,x),(true,y),(true,z),(true,u),(true,v)]) o):WE (zq (aC a (aC b (aC c (aC d (aC e aN))))) g) as o:=by
 obtain⟨r,f,h,rfl⟩:=hg;exact⟨r,Zr (xZ ha (xZ hb (xZ hc (xZ hd (xZ he zB))))) (by show g [(zv x||true,x),(zv y||true,y),(zv z||true,z),(zv u||true,u),(zv v||true,v)]=_;simp only[zyD];exact f),h,rfl⟩
def lz{a b:EF}{as:AS}{x y:Int}(ha:WD a as true (.int x))(hb:WD b as true (.int y))(h0:0<y)(h1:y<1000):WD (fP (aC a (aC b aN)) IL) as true (.tup [.int (x/y),.int (x%y)]):=
 EM (zr ha (zr hb zB)) (by show(if 0<y/\y<1073741824 then _ else _)=_;rw[if_pos ⟨h0,by omega⟩]) rfl
def IJ{n:Nat}{r:List Int}{v:Int}{f:Int->Int}(hl:r.length=n)(hv:zQ n v):wY (r.map f) v=f (wY r v):=by
 unfold wY;have:=hv.1;have:=hv.2;rw[zzI,zzE (show v.toNat<r.length by omega)];rfl
abbrev G7(c:Cx)(l:AS):AS:=sT c.g::sI c.n::sI c.m::sT (xJ c.J)::sI c.e::sT (.lst (c.Ds.map QB))::sT (.lst (c.S.map Kp))::l
structure pFac(c:Cx)(a b:Int):Prop where
 u:yA c.J c.e a=a
 v:yA c.J a c.e=a
 s:∀v,zQ c.n v->yA c.J (yA c.J a b) v=yA c.J a (yA c.J b v)
 d:∀q ∈ c.Ds,∀i k,zQ c.m i->zQ c.m k->Oq c.m c.J q.2 a b i k
section
variable{c:Cx}
def Ja(A:Alg c.n c.m c.J c.e c.Ds){p:Nat}(hp:p<c.n*c.n){x8 x9 x10 x11:Option O}:Rf (kH (G7 c [sI p,x8,x9,x10,x11,none])) (λas=>(∃x7 x8 x9 x10 x11,as=G7 c [x7,x8,x9,x10,x11,none])/\pFac c ((p:Int)/c.n) ((p:Int)%c.n)):=by
 have M:=A.n1;have Y:=A.n8;have u:zQ c.n ((p:Int)%c.n):=U1 M;have f:zQ c.n ((p:Int)/c.n):=⟨Int.ediv_nonneg (by omega) (by omega),by
  rw[<-Int.natCast_ediv];have:=Nat.div_lt_of_lt_mul (Nat.mul_comm .. ▸ hp);omega⟩
 have G:zQ c.n c.e:=⟨A.e0,A.en⟩;have H:o4 (G7 c [sI p,x8,x9,x10,x11,none])=some (.nx (G7 c [sI p,sI ((p:Int)/c.n),sI ((p:Int)%c.n),x10,x11,none])):=Bl (WD.e (lz (za rfl) (za rfl) (by omega) (by omega))) rfl;generalize (p:Int)/c.n=a,(p:Int)%c.n=b at f u H ⊢;have D:=RB A.j f u;have o:∀l,WD yw (G7 c l) true (xJ c.J):=λl=>za rfl;refine Rf.seq H (Rf.bind (I:=λas=>as=G7 c [sI p,sI a,sI b,x10,x11,none]/\yA c.J c.e a=a/\yA c.J a c.e=a) (Rf.no (t:=!(yA c.J c.e a==a) || !(yA c.J a c.e==a)) (Ol (nt (vM A.j G f (o _) (za rfl) (za rfl)) (za rfl)) (λh=>by rw[h,Bool.false_or];exact nt (vM A.j f G (o _) (za rfl) (za rfl)) (za rfl)) (λh=>by rw[h];rfl)) λh=>by
  rw[Bool.or_eq_false_iff]at h;exact⟨rfl,rk h.1,rk h.2⟩) ?_)
 rintro _ ⟨rfl,N,P⟩
 obtain⟨Q,Z⟩:=Yc A.j D;obtain⟨R,E⟩:=Yc A.j u;refine Rf.bind (I:=λas=>as=G7 c [sI p,sI a,sI b,x10,x11,none]/\∀v,zQ c.n v->yA c.J (yA c.J a b) v=yA c.J a (yA c.J b v)) (Rf.no (yV (Fl (WD.e (wO (o _) (vM A.j f u (o _) (za rfl) (za rfl)) Q)) (Pe (Lx (Qs c.J b) (WX (WD.e (wO (o _) (za rfl) R))) (by rw[E.1];omega) λv S=>⟨_,rfl,vM A.j f (E.2 v S) (za rfl) (za rfl) (za rfl)⟩)) (O8 _ _)) rfl) λh=>⟨rfl,λv T=>?_⟩) ?_
 . rw[Bool.not_eq_false']at h;have e:=beq_iff_eq.mp h;show wY (Qs c.J (yA c.J a b)) v=yA c.J a (wY (Qs c.J b) v);rw[e,IJ E.1 T]
 rintro _ ⟨rfl,U⟩
 have x:=Rf.loop (g:=(gT 2 (wj (gN 10) (wj (gN 11) Qm)))) (λi as=>∃y z,as=G7 c [sI p,sI a,sI b,y,z,none]/\∀j q,j<i->c.Ds[j]? = some q->∀i k,zQ c.m i->zQ c.m k->Oq c.m c.J q.2 a b i k) ((c.Ds.map QB).map λd=>(true,d)) 0 (G7 c [sI p,sI a,sI b,x10,x11,none]) (λi y as K C=>by
  obtain⟨y,z,rfl,C⟩:=C;rw[zyB,zzI]at K;obtain⟨q,L,rfl⟩:=zzX.mp K;rw[zyX]at C ⊢;refine⟨G7 c [sI p,sI a,sI b,sT (.str q.1),sT (xJ q.2),none],rfl, ?_⟩;obtain⟨t,w,V⟩:=JD A.j (A.ds q (zyA L)) A.m1 A.m6 f u;refine Rf.no (Rx (ou (rj (WD.e (za (i:=2) rfl)) (WD.e (o _)) (WD.e (za (i:=11) rfl)) (WD.e (za (i:=8) rfl)) (WD.e (za (i:=9) rfl)) w))) λh=>⟨_,_,rfl,λj r s F=>?_⟩
  rcases Nat.lt_or_eq_of_le (Nat.le_of_lt_succ s)with B|rfl
  . exact C j r B F
  . rw[L]at F;cases F;exact V ((Bool.not_eq_false' ..).mp h)) ⟨_,_,rfl,λj _ s=>absurd s (Nat.not_lt_zero _)⟩
 rw[zyX,zzB,zzB]at x
 rcases x with⟨W,B,y,z,rfl,X⟩|B
 . refine .inl ⟨_,yI (B3 (za rfl)) B,⟨_,_,_,_,_,rfl⟩,N,P,U,λq mq=>?_⟩;obtain⟨j,s,e⟩:=List.getElem_of_mem mq;exact X j q s (by rw[zzE s,e])
 . exact .inr (yI (B3 (za rfl)) B)
end
section
variable{c:Cx}
def IQ(A:Alg c.n c.m c.J c.e c.Ds):∃t,RE (wZ [(true,c.g)]) (.bl t)/\(t=true->LawA c.n c.m c.J c.e c.Ds):=by
 have U:=A.n1;have M:=A.n8;have nn:=Nat.mul_le_mul M M;have N:JR [sT c.g,none,none,none,none,none,none,none,none,none,none,none,none]=some (.nx (G7 c [none,none,none,none,none,none])):=Bl (WD.e (za rfl)) rfl;have O:=xy (za (as:=G7 c [none,none,none,none,none,none]) (i:=1) rfl) (za (i:=1) rfl) (zE (by omega) (by omega)) (zE (by omega) (by omega));rw[<-zzV]at O;have G:=xX (zr O zB) (by omega) (by omega);rw[zyI]at G;have x:=Rf.loop (g:=gN 7) (λi as=>(∃z B C l o,as=G7 c [z,B,C,l,o,none])/\∀p:Nat,p<i->pFac c ((p:Int)/c.n) ((p:Int)%c.n)) (y2 0 (c.n*c.n)) 0 (G7 c [none,none,none,none,none,none]) (λi y as V E=>by
  obtain⟨⟨z,B,C,l,o,rfl⟩,E⟩:=E;obtain⟨rfl,H⟩:=wb V;rw[zyX]at E ⊢;rw[Int.zero_add];refine⟨_,rfl, ?_⟩
  rcases Ja A H with⟨as,w,I,W⟩|w
  . refine .inl ⟨as,w,I,λp X=>?_⟩
    rcases Nat.lt_or_eq_of_le (Nat.le_of_lt_succ X)with Y|rfl
    . exact E p Y
    . exact W
  . exact .inr w) ⟨⟨_,_,_,_,_,rfl⟩,λj Z=>absurd Z (Nat.not_lt_zero _)⟩
 rw[xp,zyX]at x
 rcases x with⟨as2,w,⟨z,B,C,l,o,rfl⟩,I⟩|w
 . have F:∀a b,zQ c.n a->zQ c.n b->pFac c a b:=λa b f r=>by
    have:=f.1;have:=f.2;have:=r.1;have:=r.2;have e1:(b.toNat+c.n*a.toNat)/c.n=a.toNat:=by rw[Nat.add_mul_div_left _ _ U,Nat.div_eq_of_lt (by omega),zyX]
    have e2:(b.toNat+c.n*a.toNat)%c.n=b.toNat:=by rw[Nat.add_mul_mod_self_left,Nat.mod_eq_of_lt (by omega)]
    have:=I (b.toNat+c.n*a.toNat) (by
     have:c.n*a.toNat+c.n<=c.n*c.n:=by rw[<-Nat.mul_succ];exact Nat.mul_le_mul_left _ (by omega)
     omega)
    rwa [<-Int.natCast_ediv,<-Int.natCast_emod,e1,e2,zyY (by omega),zyY (by omega)]at this
   have P:zQ c.n c.e:=⟨A.e0,A.en⟩;have z0:zQ c.m 0:=⟨by omega,by have:=A.m1;omega⟩;have wf:=FC (as:=G7 c [z,B,C,l,o,none]) (cap:=[none,none,some 4]) (gg:=gT 2 (wj wz (wj (gN 1) Qm))) c.Ds (WX (WD.e (za (i:=5) rfl))) (by have:=A.dl;omega) λq mq=>⟨_,rfl,nt (Vx (A.ds q mq) z0 P (za (i:=1) rfl) zb (za (i:=2) rfl)).1 (za (i:=2) rfl),λ_=>WD.e (za (i:=0) rfl)⟩;have Q:=ZE (p:=12) wf (zo rfl);have K:∀{as:AS},WE (yk dN) as (.lst []):=λ{as}=>VP Wy rfl;generalize hF:(c.Ds.filter λq:Str×TZ=>!(yA q.2 0 c.e==c.e))=fl at Q;refine⟨(fl.map λq:Str×TZ=>D.str q.1).isEmpty&&(!(c.Ds.map QB).isEmpty && !(c.S.map Kp).isEmpty),yJ rfl (zm N (zm (yI G w) (zm Q (yF (WD.e (Mv (ON (WD.e (za rfl)) K (So _)) (λh=>by rw[h,Bool.true_and];exact Mv (Fl (WD.e (za rfl)) K (So _)) (λh=>by rw[h,Bool.true_and];exact Fl (WD.e (za rfl)) K (So _)) (λh=>by rw[h];rfl)) (λh=>by rw[h];rfl))))))),λR=>?_⟩;have hE:fl=[]:=by
    rw[zyC,List.isEmpty_iff,List.map_eq_nil_iff]at R;exact R.1
   refine⟨⟨λa b f r=>RB A.j f r,P,λa f=>(F a a f f).u,λa f=>(F a a f f).v,λa b v f r hv=>(F a b f r).s v hv⟩,λq mq=>⟨λk a L f=>(rowAt (Yc (A.ds q mq) L).2 f).2, ?_,λa i b k f H r L=>(F a b f r).d q mq i k H L⟩⟩
   by_cases T:yA q.2 0 c.e=c.e
   . exact T
   . have:q ∈ fl:=hF ▸ List.mem_filter.mpr ⟨mq,by rw[beq_eq_false_iff_ne.mpr T];rfl⟩;rw[hE]at this;exact absurd this zxB
 . exact⟨false,yJ rfl (zm N (WC ⟨_,yI G w,rfl,rfl⟩)),λh=>nomatch h⟩
end
def uk(ns:List Int):∃c:Cx,c.Gd/\RE (YC [(true,zh ns)]) c.g:=by
 obtain⟨a,d,m⟩:=Ff ns;have f:∀l,Rt (zL (zq (aC zw (aC yS aN)) wg) (sT (zh ns)::l)) a.g:=λl=>yF (Xo (WD.e (za rfl)) (WD.e zb) m);obtain⟨t,b⟩:∃t,WT oU [sT (zh ns),none] t:=by
  have j:WT (fT (f2 (fP vO vA) yS (zP .Gt))) [sT (zh ns),none] (decide ((0:Int)<ns.length)):=yV (zJ (JN (WD.e (za rfl))) zb rfl rfl) rfl
  by_cases h:(0:Int)<ns.length
  . obtain⟨v,n⟩:=ZJ (as:=[sT (zh ns),none]) (za (i:=0) rfl) (zb (x:=.int 0)) (by omega) (by omega);exact⟨_,HX j (λ_=>eqT (yj n zb (by decide)) zb rfl) (λz=>by rw[zyO h]at z;exact nomatch z)⟩
  . exact⟨false,HX j (λz=>by rw[zyG h]at z;exact nomatch z) (λ_=>rfl)⟩
 cases t with
 |false=>exact⟨a,d,yJ rfl (zm (zT b rfl) (f _))⟩
 |true=>
  obtain⟨c,A,o,p,q⟩:=Mn ns;obtain⟨t,r,s⟩:=IQ A;have k:zy true 1 (zq vO xg) [sT (zh ns),none]=some (.nx [sT (zh ns),sT c.g]):=ZE (vt (WD.e (za rfl)) q) (zo rfl);have w:=ou (vt (WD.e (za (as:=[sT (zh ns),sT c.g]) (i:=1) rfl)) r);cases t with
  |true=>exact⟨c,⟨⟨A,s rfl⟩,o,p⟩,yJ rfl (WC (Py b (zm k (Py w (yF (WD.e (za rfl)))))))⟩
  |false=>exact⟨a,d,yJ rfl (zm (xN b (zp k (zT w rfl))) (f _))⟩
def uD{fr:DF}{as:AS}{xs:List D}(h:WL fr as xs)(hl:Nat.ble xs.length 1000=true):WE (yR fr) as (.tup xs):=by
 obtain⟨b,c,d,a⟩:=h;have e:b.length=xs.length:=by rw[<-a,Y4]
 exact Aj c (by rw[e];exact QC hl) d (congrArg D.tup a)
def Ca{α:Type}{fi:IF}{cap:List (Option Nat)}{gg:GF}{fe:EF}{as:AS}{it:α->xb}{h:α->D}(l:List α)(h1:fi as=some (l.map it,as))(hl:l.length<=1000)(H:∀q ∈ l,∃as1,gg (it q) (vL cap as)=some as1/\WE fe as1 (h q)):WE (yf fi cap gg yZ fe) as (.lst (l.map h)):=by
 obtain⟨d,a,b,c⟩:=C9 l h1 hl H;exact⟨_,a,b,congrArg D.lst c⟩
def pA{as:AS}{i k n:Nat}{T:TZ}(k9:k<=900)(hT:Tab k n T)(h:as[i]? = some (sT (xJ T))):WE (yf (wW (fV i)) [none] wz yZ (fP vO lstP)) as (xJ T):=
 Ca T (WX (WD.e (za h))) (by rw[hT.1];omega) λr _=>⟨_,rfl,O1 (za rfl)⟩
def Jz{c:Cx}(h:c.Gd):RE (Zg [(true,c.g)]) c.g:=by
 have A:=h.ok.A;have d:=A.n8;have f:=A.m6;have i:=A.dl;have k:=h.sl;have a:JR [sT c.g,none,none,none,none,none,none]=some (.nx (G7 c [])):=Bl (WD.e (za rfl)) rfl;have b:rT (G7 c [])=some (.nx (G7 c [])):=ZE (Ca c.Ds (WX (WD.e (za rfl))) (by omega) λq mq=>⟨_,rfl,vY (WD.e (za rfl)) (pA (by omega) (A.ds q mq) rfl)⟩) (zo rfl);exact yJ rfl (zm a (zm b (yF (uD (yp (WD.e (za rfl)) (yp (WD.e (za rfl)) (yp (pA (by omega) A.j rfl) (yp (WD.e (za rfl)) (yp (WD.e (za rfl)) (yp (Ca c.S (WX (WD.e (za rfl))) (by omega) λq mq=>⟨_,rfl,vY (WD.e (za rfl)) (O1 (za rfl))⟩) Wy)))))) rfl))))
def AX{a b c:EF}{as:AS}{i j k:Int}{s t u:Bool}(ha:WD a as s (.int i))(hb:WD b as t (.int j))(hc:WD c as u (.int k))(h1:i<=j)(h2:j<=k):WD (NP a b c (zP .LtE) (zP .LtE)) as true (.bl true):=by
 unfold WD at *;unfold NP;rw[ha];simp only[zyL];rw[hb];simp only[zyL];simp only[RV.frz,O.frz,RV.view,O.toD,O.str,zyL,zP,SW,DS,Ke,A1,h1,h2,decide_true,hc];rfl
def Bv{s:Bool}{x:Int}:YL [(s,.int x)]=sT (.bl true):=rfl
def Na{x k:Int}(h0:0<=x)(h1:x<=k):wD [(true,.int x),(true,.int 0),(true,.int k)]=sT (.bl true):=
 vF rfl (vP (Mv (Gb (zr (za rfl) zB) Bv) (λ_=>AX (za rfl) (za rfl) (za rfl) h0 h1) (λz=>nomatch z)))
def NU{r:List Int}{s t:Bool}(hl:r.length<=1000):RE (yn [(s,zh r),(t,zh r)]) (.bl true):=by
 have c:WT (fT (RR zw "list")) [some (.lf s (zh r)),some (.lf t (zh r))] true:=rfl;have a:WT (fT (f2 zw zA (zP .NotEq))) [some (.lf s (zh r)),some (.lf t (zh r))] (!(r==r)):=yV (BE (za rfl) (za rfl) (O8 r r)) rfl;rw[beq_self_eq_true]at a;have b:=FC (as:=[some (.lf s (zh r)),some (.lf t (zh r))]) (h:=λx:Int=>D.int x) (p:=λ_:Int=>false) (cap:=[none]) (gg:=gN 0) (tt:=Pv (fT (RR zw "bool")) (ZH (fT (RR zw "int")))) (fe:=fV 0) r (DR (i:=0) rfl) (by omega) λx _=>⟨_,rfl,rfl,λz=>nomatch z⟩;rw[List.filter_eq_nil_iff.mpr λ_ _=>zyV,List.map_nil]at b;exact yJ rfl (zm (zT (Ol (Rx c) (λ_=>a) (λz=>nomatch z)) rfl) (yF (WD.e (ON b (VP Wy rfl) (So _)))))
def J1{x:Int}{n:Nat}(n1:1<=n)(n8:n<=8):∃r:List Int,r.length<=59/\(∀v ∈ r,zQ n v)/\RE (XE [(true,.int x),(true,.int n),(true,.int 11)]) (zh r):=by
 have b:=zyN x (show(12:Int)≠0 by decide);have i:=zyH x (show(0:Int)<12 by decide);have j:=zyN (x/512) (show(40:Int)≠0 by decide);have l:=zyH (x/512) (show(0:Int)<40 by decide);have c:zy true 3 (f2 zw (f2 yb yB zD) zW) [sI x,sI n,sI 11,none]=some (.nx [sI x,sI n,sI 11,sI (x%12)]):=zX (yj (za rfl) (zR (za (x:=.int 11) rfl) zb) (by decide)) (zo rfl);obtain⟨k,d,f⟩:∃k:Nat,k<=59/\pG [sI x,sI n,sI 11,sI (x%12)]=some (.nx [sI x,sI n,sI 11,sI k]):=by
  have a:WT oH [sI x,sI n,sI 11,sI (x%12)] (x/64%8==1):=eqT (yj (wy (za rfl) zb (by decide) (zE (by decide) (by decide))) zb (by decide)) zb rfl;cases hc:x/64%8==1 with
  |true=>
   rw[hc]at a;obtain⟨k,g⟩:∃k:Nat,(k:Int)=20+x/512%40:=⟨(20+x/512%40).toNat,by omega⟩;refine⟨k,by omega,xN a ?_⟩;rw[g];exact zX (zR zb (yj (wy (za rfl) zb (by decide) (zE (by decide) (by decide))) zb (by decide))) (zo rfl)
  |false=>
   rw[hc]at a;refine⟨(x%12).toNat,by omega,zT a ?_⟩;rw[zyY b];rfl
 exact⟨_,by rw[GL,List.length_replicate];exact d,BU n1 k _,yJ rfl (zm c (zm f (yF (SH (λy h=>by rw[List.eq_of_mem_replicate h];omega) (by rw[List.length_replicate];omega) (WD.e (wy (za rfl) zb (by decide) (zE (by decide) (by decide)))) (HY (za rfl) (za rfl) (by omega))))))⟩
abbrev Hn:List Str:=["way","trees"]
abbrev Yt(c:Cx)(ts:List D):O:=.nd (.ob "Makes" Hn) [.lf true c.w,.nd .ls (ts.map (O.lf true))]
abbrev SJ(c:Cx)(ts:List D):D:=.ob "Makes" Hn [c.w,.lst ts]
section
variable{c:Cx}{ts:List D}{as:AS}{i:Nat}
theorem Cg:∀ts:List D,(ts.map (O.lf true)).all O.isLf=true
 | []=>rfl
 |_::r=>Cg r
def BO:Kx (some (some (Yt c ts)))=some (SJ c ts):=by
 show(if true=true/\(ts.map (O.lf true)).all O.isLf=true/\O.strs (ts.map (O.lf true))=true then some (D.ob "Makes" Hn [c.w,.lst (O.toDs (ts.map (O.lf true)))])else none)=_;rw[if_pos ⟨rfl,Cg ts,U8 ts⟩,PH]
def Fg:(Yt c ts).str=true:=by
 show(true&&(O.strs (ts.map (O.lf true))&&true))=true;rw[U8];rfl
def V3{m:Str}{tbl:List (Str×Fn)}{g:Fn}{a:EF}{x:D}{o:O}(h:as[i]? = some (some (Yt c ts)))(hm:m ∉ Hn)(ht:HF tbl "Makes"=some g)(ha:WE a as x)(hg:g [(true,SJ c ts),(true,x)]=some o)(ho:oB Hn o=true):V0 i tbl m (aC a aN) as=some (.ow o,as):=by
 have b:=xZ ha zB;unfold WA at b;unfold V0;rw[h,BO];show(if m ∈ Hn then none else some "Makes":Option Str).bind _=_;rw[if_neg hm];show(HF tbl "Makes").bind _=_;rw[ht];show(aC a aN as).bind _=_;rw[b];show(Kx as[i]?).bind _=_;rw[h,BO,zyL];show(vZ as (List.map (λx:Bool×D=>RV.ow (O.lf x.1 x.2)) [(true,x)])).bind _=_;rw[XH];show(g [(true,SJ c ts),(zv x||true,x)]).bind _=_;rw[zyD,hg];show(if oB Hn o=true then some (RV.ow o,as)else none)=_;rw[if_pos ho]
def G4{m:Str}{g:List xb->O->Option (D×O)}{fr:AF}{rs:List RV}{xs:List xb}{v:Int}{ts':List D}(h:as[i]? = some (some (Yt c ts)))(hm:m ∉ Hn)(hr:fr as=some (rs,as))(ha:Kg i as rs=some xs)(hg:g xs (Yt c ts)=some (.int v,Yt c ts')):Gr i "Makes" m g fr as=some (.ow (.lf true (.int v)),as.set i (some (Yt c ts'))):=by
 unfold Gr;rw[h];show(if m ∈ Hn then none else some "Makes":Option Str).bind _=_;rw[if_neg hm,zyL,if_pos rfl,hr];show(Kg i as rs).bind _=_;rw[ha];show(as[i]?).bind _=_;rw[h];show(g xs (Yt c ts)).bind _=_;rw[hg];show(if zv (.int v)=true/\(Yt c ts').str=true then _ else _)=_;rw[if_pos ⟨rfl,Fg⟩]
def Jj{f:SF}{g:VF}{as1:AS}{x:Option (D×AS)}(h:f as=some (.nx as1))(k:g as1=x):Bu f g as=x:=by
 unfold Bu;rw[h];exact k
def Dg:yW "Makes" [(true,c.w)]=some (Yt c []):=by
 have h:v8 (Xk 2 (pQ "Makes"::[(true,c.w)].map IE))=some [some (Yt c []),sT c.w]:=yO (y9 (WD.e (za rfl)) rfl (by decide +kernel) (by decide +kernel) (by decide)) (by
  unfold Il;rw[vv yz (QC rfl)];exact if_pos (e:=none) (c:=("Makes":Str) ∈ xt/\("trees":Str) ∉ ([("way":Str)]:List Str)/\1<1000) ⟨by decide +kernel,by decide +kernel,by decide⟩)
 unfold yW D7;rw[if_pos (by rfl),h];rfl
def Jl{d:D}(hl:ts.length<900):vV [(true,d)] (Yt c ts)=some (.int ts.length,Yt c (ts++[d])):=by
 have b:qw 0 1 xt "trees" [some (Yt c ts),sT d]=some (.nx [some (Yt c (ts++[d])),sT d]):=by
  show(if("Makes":Str) ∈ xt/\("trees":Str)="trees"/\("way":Str)≠"trees"/\(ts.map (O.lf true)).length<sizeLine then some (Out.nx [some (.nd (.ob "Makes" Hn) [.lf true c.w,.nd .ls (ts.map (O.lf true)++[.lf true d])]),sT d])else none)=_;rw[if_pos ⟨by decide +kernel,rfl,by decide +kernel,by rw[zzB];exact slt (by omega)⟩];show some (Out.nx [some (.nd (.ob "Makes" Hn) [.lf true c.w,.nd .ls (ts.map (O.lf true)++[.lf true d])]),sT d])=some (Out.nx [some (.nd (.ob "Makes" Hn) [.lf true c.w,.nd .ls ((ts++[d]).map (O.lf true))]),sT d]);rw[zyM];rfl
 have w:WD (pP 0 xt "trees") [some (Yt c (ts++[d])),sT d] true (.int ((ts.length+1:Nat):Int)):=by
  show(if("Makes":Str) ∈ xt/\("trees":Str)="trees"/\("way":Str)≠"trees" then some (RV.ow (.lf true (.int ((ts++[d]).map (O.lf true)).length)),_)else none)=_;rw[if_pos ⟨by decide +kernel,rfl,by decide +kernel⟩,zzB,zzJ];rfl
 have a:=XB w (zb (x:=.int 1));rw[show((ts.length+1:Nat):Int)-1=ts.length by omega]at a;have e:Yz [some (Yt c ts),sT d]=some (.int ts.length,[some (Yt c (ts++[d])),sT d]):=Jj b (by
  unfold Cz;unfold WD at a;rw[a];rfl)
 unfold vV o8;rw[if_pos (by rfl)];show(Yz [some (Yt c ts),sT d]).bind _=_;rw[e];show(if(Yt c (ts++[d])).str=true/\zv (.int ts.length)=true then _ else _)=_;rw[if_pos ⟨Fg,rfl⟩]
def qd(h:WD (fV i) as true (SJ c ts)):WD (f1 (fV i) (xM Wo "way")) as true c.w:=by
 have:=Ul (n:="way") h (by decide +kernel:("Makes":Str) ∈ Wo) rfl;rw[zyD]at this;exact this
def OP(h:WD (fV i) as true (SJ c ts)):WD (f1 (fV i) (xM xt "trees")) as true (.lst ts):=by
 have:=Ul (n:="trees") h (by decide +kernel:("Makes":Str) ∈ xt) rfl;rw[zyD]at this;exact this
def Os{v:Int}(hv:zQ c.n v):RE (Z_ [(true,c.w),(true,.int v)]) (.bl true):=by
 have w:WD (f1 zw (xM Zs "size")) [sT c.w,sI v] true (.int c.n):=by
  have:=Ul (n:="size") (za (as:=[sT c.w,sI v]) (i:=0) rfl) (by decide +kernel:("Ways":Str) ∈ Zs) rfl;rw[zyD]at this;exact this
 exact yJ rfl (yF (Pg (WD.e (za rfl)) (WD.e zb) (WD.e (XB w (zb))) (RE.of (Na hv.1 (by have:=hv.2;omega)))))
def SL{v:Int}(hv:zQ c.n v):xF [(true,SJ c ts),(true,.int v)]=sT .non:=by
 have h:wU (v9 2 [(true,SJ c ts),(true,.int v)])=some (.nx [sT (SJ c ts),sI v]):=zT (Rx (ou (HL (qd (za rfl)) (by decide +kernel) rfl (WD.e (za rfl)) (Os hv)))) rfl;unfold xF ZD;rw[if_pos (by rfl),h];rfl
def Kl{k:Nat}{d:D}(hk:ts[k]? = some d):RE (Z1 [(true,SJ c ts),(true,.int k)]) d:=by
 have b:=(zzG.mp hk).1;have a:WD (fP (aC (f1 zw (xM xt "trees")) aN) vA) [sT (SJ c ts),sI k] true (.int ts.length):=FD (WD.e (OP (za rfl))) rfl;have w:=ou (Pg (WD.e (za (i:=1) rfl)) (WD.e (zb)) (WD.e (XB a (zb (x:=.int 1)))) (RE.of (Na (by omega) (by omega))));refine yJ rfl (zm (zT (Rx w) rfl) (yF (WD.e (HE (WD.e (OP (za rfl))) (WD.e (za rfl)) ?_))));have:=Xr (f:=λd:D=>d) hk
 rwa [List.map_id']at this
end
section
variable{c:Cx}{ts:List D}{as:AS}{i:Nat}{r:List Int}
def p4{s:Bool}(h:as[i]? = some (some (.lf s (zh r)))):Xe (fV i) as=some (r.map λx=>(true,D.int x),as):=by
 rw[Oy h];unfold kids;rw[zyB];rfl
def A3{k:Int}(h:k<=300):xS [(true,.int k)]=sT .non:=by
 have h:Wv (v9 1 [(true,.int k)])=some (.nx [sI k]):=zT (yV (zJ (za rfl) zb rfl rfl) (by show some (decide ((300:Int)<k))=_;rw[zyG (by omega)])) rfl;unfold xS ZD;rw[if_pos (by rfl),h];rfl
def M3{s:Bool}(h:c.Ok)(hl:r.length<=300)(hv:c.In r)(tl:ts.length<900):∃d,OT c d r/\xT [(s,zh r)] (Yt c ts)=some (.int ts.length,Yt c (ts++[d])):=by
 obtain⟨d,⟨o,l,n,p⟩,q⟩:=tT h (by omega) hv s;have t:vG (ZH (fT (RR zA "list"))) DP w4 [some (Yt c ts),some (.lf s (zh r)),none]=some (.nx [some (Yt c ts),some (.lf s (zh r)),none]):=zT (Rx (k:=true) rfl) rfl;obtain⟨u,y,e,rfl⟩:=xm (g:=gN 2) (f:=yN (V0 0 YT "check_value" KM)) (λ_ as=>∃e,as=[some (Yt c ts),some (.lf s (zh r)),e]) (r.map λx=>(true,D.int x)) 0 [some (Yt c ts),some (.lf s (zh r)),none] (λj x as b z=>by
  obtain⟨e,rfl⟩:=z;rw[zzI]at b;obtain⟨v,a,rfl⟩:=zzX.mp b;refine⟨_,rfl,[some (Yt c ts),some (.lf s (zh r)),sI v], ?_,_,rfl⟩;unfold yN;rw[V3 rfl (by decide +kernel) rfl (WD.e (za rfl)) (SL (hv v (zyA a))) rfl];rfl) ⟨_,rfl⟩
 have A:=yI (p4 (i:=1) rfl) y;have B:WD (fP v5 vA) [some (Yt c ts),some (.lf s (zh r)),e] true (.int r.length):=by
  have:=xk (as:=[some (Yt c ts),some (.lf s (zh r)),e]) (g:=vA) (zr (za (i:=1) rfl) zB) rfl rfl
  rwa [zzB]at this
 have C:yN (zq (aC (fP v5 vA) aN) xS) [some (Yt c ts),some (.lf s (zh r)),e]=some (.nx [some (Yt c ts),some (.lf s (zh r)),e]):=by
  unfold yN;have:=DZ (WD.e B) (A3 (by omega));unfold WD at this;rw[this];rfl
 have E:WD (r_ 0 Wo "way") [some (Yt c ts),some (.lf s (zh r)),e] true c.w:=if_pos (c:=("Makes":Str) ∈ Wo/\("way":Str)="way") (e:=none) ⟨by decide +kernel,rfl⟩;have F:=Zr (zr E (zr (za (i:=1) rfl) zB)) l;have G:=G4 (i:=0) (m:="keep") rfl (by decide +kernel) (xZ ⟨o,F,n,p⟩ zB) (by
  show some [(zv d||true,d)]=_;rw[zyD]) (Jl tl)
 refine⟨d,q, ?_⟩;have H:YA [some (Yt c ts),some (.lf s (zh r)),none]=some (.int ts.length,[some (Yt c (ts++[d])),some (.lf s (zh r)),e]):=Jj t (Jj A (Jj C (by
  unfold Cz;rw[G];rfl)))
 unfold xT o8;rw[if_pos (by rfl)];show(YA [some (Yt c ts),some (.lf s (zh r)),none]).bind _=_;rw[H];show(if(Yt c (ts++[d])).str=true/\zv (.int ts.length)=true then _ else _)=_;rw[if_pos ⟨Fg,rfl⟩]
def Ph{k:Nat}{d:D}(h:c.Ok)(hk:ts[k]? = some d)(hd:OT c d r)(hl:r.length<=900):wC [(true,SJ c ts),(true,.int k)]=some (yC r):=by
 obtain⟨o,a,b,f⟩:=Kl hk;have g:WE sW [sT (SJ c ts),sI k] d:=HL (za rfl) (by decide +kernel) rfl (WD.e (za rfl)) ⟨o,a,b,f⟩;refine vF rfl (TX (Zr (zr (qd (za rfl)) (xZ g zB)) ?_) (ZC r).1);show ZF [(true,c.w),(zv d||true,d)]=_;rw[zyD];exact p_ h hd (by omega)
def JZ{k:Nat}{d:D}(hk:ts[k]? = some d)(hd:OT c d r):RE (Ws [(true,SJ c ts),(true,.int k)]) (.int r.length):=
 yJ rfl (yF (vt (HL (za rfl) (by decide +kernel) rfl (WD.e (za rfl)) (Kl hk)) (Af hd)))
end
def lV{r:Option O}{d:D}(hd:zv d=true)(h:RE r d):r=sT d:=by
 obtain⟨o,h,b,a⟩:=h;cases o with
 |lf s x=>subst a;rw[show s=true from b]at h;exact h
 |nd k c=>subst a;cases k<;>cases hd
def rM{as:AS}{i:Nat}{os:List O}{b:EF}{y z:D}{g:D->D->Option R0}(h:as[i]? = some (sN os))(hb:WE b as y)(hg:g (.lst (O.toDs os)) y=some (.im z))(hz:zv z=true):WD (f2 (fV i) b g) as true z:=by
 obtain⟨o,a,c,rfl⟩:=hb;unfold WD f2;rw[Nd h];show(b as).bind _=_;rw[a];show(RV.view as (.bo i)).bind _=_;rw[NG h];show(g (.lst (O.toDs os)) o.toD).bind _=_;rw[hg];show(if(zv z||_)=true then some (RV.ow (.lf (zv z||_) z))else none:Option RV).bind _=_;rw[hz,Bool.true_or,if_pos rfl,Bool.true_or];rfl
def tD{a b:EF}{as as1:AS}{v w:Int}(ha:a as=some (.ow (.lf true (.int v)),as1))(hb:WD b as1 true (.int w))(e:v=w):ZH (fT (zq (aC a (aC b aN)) yo)) as=some (false,as1):=by
 have c:aC a (aC b aN) as=some ([.ow (.lf true (.int v)),.ow (.lf true (.int w))],as1):=by
  have:=zr hb zB;unfold WA at this;show(a as).bind _=_;rw[ha];show(aC b aN as1).bind _=_;rw[this];rfl
 have d:zq (aC a (aC b aN)) yo as=some (.ow (.lf true (.bl (v==w))),as1):=by
  unfold zq;rw[c];rfl
 unfold ZH fT;rw[d,e,beq_self_eq_true];rfl
def orM{c e:TF}{as as1:AS}{t:Bool}(h1:c as=some (false,as1))(h2:e as1=some (t,as1)):Pv c e as=some (t,as1):=by
 unfold Pv;rw[h1];exact h2
def lg{c:TF}{f g:SF}{as as1:AS}(h:c as=some (false,as1)):vG c f g as=g as1:=by
 unfold vG;rw[h];rfl
def ui{as:AS}{i:Nat}{os:List O}(h:as[i]? = some (sN os)):yN (vH i dN Av) as=some (.nx (as.set i (sN []))):=by
 unfold yN vH;rw[h];show(Option.bind (match as[i]? with|some (some (.nd .ls a))=>_|_=>none) _)=_;rw[h];rfl
abbrev jk(rs:TZ):List O:=(rs.map zh).map (O.lf true)
abbrev L9(ns:List Int)(c:Cx)(t2 t3:List D)(rs:TZ)(l:AS):AS:=sT (zh ns)::sT c.g::some (Yt c t2)::some (Yt c t3)::sN (jk rs)::l
section
variable{ns:List Int}{c:Cx}{t2 t3:List D}{rs:TZ}{l:AS}
def qH:WD (fP (aC yG aN) vA) (L9 ns c t2 t3 rs l) true (.int rs.length):=by
 have:=nW (as:=L9 ns c t2 t3 rs l) (i:=4) rfl
 rwa [zzB,zzB]at this
def rat{b:EF}{k:Int}{r:List Int}(hb:WD b (L9 ns c t2 t3 rs l) true (.int k))(h:zN (.lst (rs.map zh)) (.int k)=some (.im (zh r))):WD (f2 yG b zN) (L9 ns c t2 t3 rs l) true (zh r):=
 m4 rfl (Cg _) (U8 _) hb (by rw[PH];exact h)
def Jv{xs:List D}{x:D}:zN (.lst (xs++[x])) (.int (-1))=some (.im x):=by
 have:L2.atI (xs++[x]) (-1)=some x:=by
  unfold L2.atI L2.ixN;rw[if_neg (by decide),zzJ,if_pos (by show -(((xs.length+1:Nat)):Int) <= -1;omega)];show(xs++[x])[(-1+((xs.length+1:Nat):Int)).toNat]? = _;rw[show(-1+((xs.length+1:Nat):Int)).toNat=xs.length by omega,zyR (zzN _),Nat.sub_self];rfl
 show JC (L2.atI (xs++[x]) (-1))=_;rw[this];rfl
theorem BL:∀r:List Int,oB Hn (yC r)=true
 | []=>rfl
 |_::r=>BL r
structure Ls(c:Cx)(ts:List D)(rs:TZ):Prop where
 ln:ts.length=rs.length
 ot:∀(i:Nat) d r,ts[i]? = some d->rs[i]? = some r->OT c d r
 sz:∀r ∈ rs,r.length<=59/\c.In r
def Ls.snoc{ts:List D}{d:D}{r:List Int}(h:Ls c ts rs)(hd:OT c d r)(h1:r.length<=59)(h2:c.In r):Ls c (ts++[d]) (rs++[r]):=by
 refine⟨by rw[zzJ,zzJ,h.ln];rfl,λi e q a b=>?_,λq mq=>?_⟩
 . rcases Nat.lt_or_ge i ts.length with f|f
   . rw[zyP f]at a;rw[zyP (by have:=h.ln;omega)]at b;exact h.ot i e q a b
   . rw[zyR f]at a;rw[zyR (by have:=h.ln;omega),<-h.ln]at b;cases hk:i-ts.length with
     |zero=>
      rw[hk]at a b;cases a;cases b;exact hd
     |succ k=>
      rw[hk]at a;cases a
 . rcases zzM.mp mq with m|m
   . exact h.sz q m
   . rw[zzR.mp m];exact⟨h1,h2⟩
def qY(g:c.Gd)(h:Ls c t2 rs)(hl:rs.length<100){k:Nat}(hk:k<=100){x6 x7 x8:Option O}:∃d r y6 y7,Ls c (t2++[d]) (rs++[r])/\lH (L9 ns c t2 t3 rs [sI k,x6,x7,x8])=some (.nx (L9 ns c (t2++[d]) t3 (rs++[r]) [sI k,y6,y7,x8])):=by
 obtain⟨x,_,b⟩:=UV ns hk;obtain⟨r,j,a,l⟩:=J1 g.ok.A.n1 g.ok.A.n8;have n:qQ (L9 ns c t2 t3 rs [sI k,x6,x7,x8])=some (.nx (L9 ns c t2 t3 rs [sI k,sT (zh r),x7,x8])):=ZE (Pg (WD.e (b _ _ rfl (za rfl))) (WD.e (zJ (za rfl) (zb) rfl rfl)) (WD.e zb) l) (zo rfl);have o:(zy false 7 (fP (aC ZW aN) lstP)) (L9 ns c t2 t3 rs [sI k,sT (zh r),x7,x8])=some (.nx (L9 ns c t2 t3 rs [sI k,sT (zh r),some (yC r),x8])):=xa (Dw (za rfl)) (zo rfl);obtain⟨d,p,q⟩:=M3 g.ok (by omega) a (by rw[h.ln];omega);have s:=G4 (as:=L9 ns c t2 t3 rs [sI k,sT (zh r),some (yC r),x8]) (i:=2) (m:="made") (fr:=aC Re aN) rfl (by decide +kernel) rfl (by
  show some [(false,(yC r).toD)]=_;rw[(ZC r).2]) q
 have t:=tD s (qH) (by rw[h.ln]);have u:WT (fT (f2 Re ZW (zP .NotEq))) (L9 ns c (t2++[d]) t3 rs [sI k,sT (zh r),some (yC r),x8]) false:=yV (rM rfl (WD.e (za rfl)) (by
  show(ZK 60 (yC r).toD (zh r)).bind _=_;rw[(ZC r).2,O8,beq_self_eq_true];rfl) rfl) rfl
 have v:=lg (f:=zL (fC (.bl false))) (g:=w4) (orM t u);refine⟨d,r,sT (zh r),sN [],h.snoc p j a,zp n (zp o (zp v (zp (ui rfl) ?_)))⟩;have:=Ft (as:=L9 ns c (t2++[d]) t3 rs [sI k,sT (zh r),sN [],x8]) (i:=4) rfl (by rw[zzB,zzB];exact slt (by omega)) (za (i:=6) rfl);refine this.trans ?_;show some (Out.nx (sT (zh ns)::sT c.g::some (Yt c (t2++[d]))::some (Yt c t3)::sN ((rs.map zh).map (O.lf true)++[.lf true (zh r)])::_))=some (Out.nx (sT (zh ns)::sT c.g::some (Yt c (t2++[d]))::some (Yt c t3)::sN (((rs++[r]).map zh).map (O.lf true))::_));rw[zyM,zyM];rfl
def pO(g:c.Gd)(h:Ls c t2 rs){k:Nat}(hk:k<rs.length){x6 x7 x8:Option O}:∃y8,m7 (L9 ns c t2 t3 rs [sI k,x6,x7,x8])=some (.nx (L9 ns c t2 t3 rs [sI k,x6,x7,y8])):=by
 have a:=zzE hk;have b:=zzE (show k<t2.length by have:=h.ln;omega);generalize rs[k]=r at a;generalize t2[k]'_=d at b;have j:=h.ot k d r b a;have sz:=h.sz r (zyA a);have p:(zy false 8 (V0 2 Zk "listed" Oi)) (L9 ns c t2 t3 rs [sI k,x6,x7,x8])=some (.nx (L9 ns c t2 t3 rs [sI k,x6,x7,some (yC r)])):=xa (V3 rfl (by decide +kernel) rfl (WD.e (za rfl)) (Ph g.ok b j (by omega)) (BL r)) (zo rfl);have n:∀l,WD (f2 yG wH zN) (L9 ns c t2 t3 rs (sI k::l)) true (zh r):=λl=>rat (za rfl) (Xr a);have q:=tD (as:=L9 ns c t2 t3 rs [sI k,x6,x7,some (yC r)]) (V3 (i:=2) (tbl:=NY) (m:="many") rfl (by decide +kernel) rfl (WD.e (za (i:=5) rfl)) (lV rfl (JZ b j)) rfl) (JN (WD.e (n _))) rfl;obtain⟨o,s,t,u⟩:=NU (r:=r) (by omega);have v:WE (zq (aC (fV 8) (aC (f2 yG wH zN) aN)) yn) (L9 ns c t2 t3 rs [sI k,x6,x7,some (yC r)]) (.bl true):=⟨o,O5 (by
  have:=zr (n [x6,x7,some (yC r)]) zB;unfold WA at this;show(aC (f2 yG wH zN) aN (L9 ns c t2 t3 rs [sI k,x6,x7,some (yC r)])).bind _=_;rw[this];rfl) (by
  show some [(false,(yC r).toD),(true,zh r)]=_;rw[(ZC r).2]) s,t,u⟩
 have w:=lg (f:=zL (fC (.bl false))) (g:=w4) (orM q (Rx (ou v)));exact⟨_,zp p (zp w (Ft rfl (by rw[zzB];exact slt (by omega)) zb))⟩
end
def O0(ns:List Int)(hns:ns.length<=63):Kv [(true,.lst (ns.map .int))]=sT (.bl true):=by
 obtain⟨c,g,ra⟩:=uk ns;have iw:=A_ (S:=c.S) g.ok.A g.ok.L g.sl g.sn;have X:∀as:AS,as[1]? = some (sT c.g)->zq qD (yW "Makes") as=some (.ow (Yt c []),as):=λas h=>Zr (xZ (vt (vt (WD.e (za h)) (Jz g)) iw) zB) (by
  show yW "Makes" [(zv c.w||true,c.w)]=_;rw[zyD];exact Dg)
 have s1:(zy true 1 (zq vO YC)) [sT (zh ns),none,none,none,none,none,none,none,none]=some (.nx [sT (zh ns),sT c.g,none,none,none,none,none,none,none]):=ZE (p:=1) (vt (WD.e (za (i:=0) rfl)) ra) (zo rfl);have s2:(zy false 2 JF) [sT (zh ns),sT c.g,none,none,none,none,none,none,none]=some (.nx [sT (zh ns),sT c.g,some (Yt c []),none,none,none,none,none,none]):=xa (i:=2) (X _ rfl) (zo rfl);have s3:(zy false 3 JF) [sT (zh ns),sT c.g,some (Yt c []),none,none,none,none,none,none]=some (.nx [sT (zh ns),sT c.g,some (Yt c []),some (Yt c []),none,none,none,none,none]):=xa (i:=3) (X _ rfl) (zo rfl);have s4:(zy false 4 (yk dN)) [sT (zh ns),sT c.g,some (Yt c []),some (Yt c []),none,none,none,none,none]=some (.nx (L9 ns c [] [] [] [none,none,none,none])):=xa (i:=4) (vv yz (QC rfl)) (zo rfl);obtain⟨k,k5,k12,hr⟩:∃k:Nat,5<=k/\k<=12/\yM pe J8 (L9 ns c [] [] [] [none,none,none,none])=some (y2 13 k,L9 ns c [] [] [] [none,none,none,none]):=by
  have N:=JN (WD.e (za (as:=L9 ns c [] [] [] [none,none,none,none]) (i:=0) (x:=zh ns) rfl));have w2:=xk (g:=SZ) (x:=.int (if(25:Int)<ns.length then 25 else ns.length)) (zr N (zr (zb (x:=.int 25)) zB)) rfl rfl;have Y:=xk (g:=E8) (x:=.int (if(if(25:Int)<ns.length then(25:Int)else ns.length) > 18 then(if(25:Int)<ns.length then(25:Int)else ns.length)else 18)) (zr (zb (x:=.int 18)) (zr w2 zB)) rfl rfl;generalize P:(if(if(25:Int)<ns.length then(25:Int)else ns.length) > 18 then(if(25:Int)<ns.length then(25:Int)else ns.length)else 18)=M at Y;have m0:18<=M/\M<=25:=by
   rw[<-P]
   split<;>split<;>omega
  have:=IB (zr (zb (x:=.int 13)) (zr Y zB)) (by omega) (by omega) (by omega) (by omega);exact⟨(M-13).toNat,by omega,by omega,this⟩
 obtain⟨Q,h5,n,C,u,o,t,rfl,F,v⟩:=xm (g:=gN 5) (f:=lH) (λi as=>∃(n:List D) (C:TZ) (u o t:Option O),as=L9 ns c n [] C [u,o,t,none]/\Ls c n C/\C.length=i) (y2 13 k) 0 (L9 ns c [] [] [] [none,none,none,none]) (λi y as K R=>by
  obtain⟨n,C,u,o,t,rfl,F,v⟩:=R;obtain⟨rfl,hi⟩:=wb K;rw[zyX]at v ⊢;obtain⟨d,r,y6,y7,h1,h2⟩:=qY (ns:=ns) (t3:=[]) g F (by omega) (k:=13+i) (by omega) (x6:=o) (x7:=t) (x8:=none);exact⟨L9 ns c n [] C [sI ((13+i:Nat):Int),o,t,none],rfl,_,h2,_,_,_,_,_,rfl,h1,by rw[zzJ,v];rfl⟩) ⟨[],[],none,none,none,rfl,⟨rfl,(λi d r h=>nomatch h),(λr m=>nomatch m)⟩,rfl⟩
 rw[xp,zyX]at v;have s5:=yI hr h5;have T:C≠[]:=λz=>by rw[z]at v;simp at v;omega
 obtain⟨q,b,rfl⟩:∃q b,C=q++[b]:=⟨_,_,(List.dropLast_concat_getLast T).symm⟩;have zl:=F.sz b (zzL _ (zzR.mpr rfl));have E:∀U V l,WE uM (L9 ns c U V (q++[b]) l) (zh b.reverse):=λU V l=>by
  have:=D4 (rat (ns:=ns) (c:=c) (t2:=U) (t3:=V) (rs:=q++[b]) (l:=l) (t8 (zb (x:=.int 1))) (by rw[zyM];exact Jv))
  rwa [<-List.map_reverse]at this
 obtain⟨d,hd,P⟩:=M3 (s:=true) (ts:=[]) (r:=b.reverse) g.ok (by rw[List.length_reverse];omega) (λx mx=>zl.2 x (List.mem_reverse.mp mx)) (by decide);have mo:=G4 (as:=L9 ns c n [] (q++[b]) [u,o,t,none]) (i:=3) (c:=c) (ts:=[]) (m:="made") (g:=xT) (rs:=[.ow (.lf true (zh b.reverse))]) (xs:=[(true,zh b.reverse)]) rfl (by decide +kernel) (xZ (E _ _ _) zB) rfl P;have s6:=lg (f:=zL (fC (.bl false))) (g:=w4) (tD mo (zb (x:=.int 0)) rfl);have Z:0<(q++[b]).length:=by rw[v];omega
 have wi:WE px (L9 ns c n [d] (q++[b]) [u,o,t,none]) (.lst ((List.range (q++[b]).length++[0]).map λi:Nat=>D.int i)):=by
  have N:WE (fP (aC (fP (aC yG aN) vA) aN) ll) (L9 ns c n [d] (q++[b]) [u,o,t,none]) (.lst ((List.range (q++[b]).length).map λi:Nat=>D.int i)):=⟨_,sf (zs:=(List.range (q++[b]).length).map λi:Nat=>D.int i) (WD.e qH) (by
   show(if(0:Int)<=((q++[b]).length:Int)/\((q++[b]).length:Int)<=100000 then _ else _)=_;rw[if_pos ⟨by omega,by rw[v];omega⟩,zyI]),U8 _,congrArg D.lst (PH _)⟩
  refine HQ N (VP (yp (WD.e (zb (x:=.int 0))) Wy) rfl) ?_;rw[zyM];exact if_pos (by rw[zzB,zyU,v];exact S_ (by show k+1<=_;omega))
 obtain⟨Q,h7,H,I,rfl⟩:=xm (g:=gN 5) (f:=m7) (λ_ as=>∃(u W:Option O),as=L9 ns c n [d] (q++[b]) [u,o,t,W]) (((List.range (q++[b]).length++[0]).map λi:Nat=>D.int i).map λd=>(true,d)) 0 (L9 ns c n [d] (q++[b]) [u,o,t,none]) (λi y as K R=>by
  obtain⟨u,W,rfl⟩:=R;rw[zyB,zzI]at K;obtain⟨j,hj,rfl⟩:=zzX.mp K;have jl:j<(q++[b]).length:=by
   rcases zzM.mp (zyA hj)with m|m
   . exact List.mem_range.mp m
   . rw[zzR.mp m];exact Z
  obtain⟨y8,e⟩:=pO (ns:=ns) (t3:=[d]) g F jl (x6:=o) (x7:=t) (x8:=W);exact⟨_,rfl,_,e,_,_,rfl⟩) ⟨_,_,rfl⟩
 have s7:=yI (Bw wi) h7;have B:=zzE Z;have G:=zzE (show 0<n.length by have:=F.ln;omega);generalize (q++[b])[0]=J at B;generalize n[0]'_=d0 at G;have ot:=F.ot 0 d0 J G B;have sz:=F.sz J (zyA B);have u1:=Xo (as:=L9 ns c n [d] (q++[b]) [H,o,t,I]) (g:=yn) ⟨_,V3 (i:=3) (c:=c) (ts:=[d]) (tbl:=Zk) (m:="listed") (a:=fC (.int 0)) (g:=wC) rfl (by decide +kernel) rfl (WD.e (zb (x:=.int 0))) (Ph (k:=0) g.ok rfl hd (by rw[List.length_reverse];omega)) (BL _),ZC _⟩ (E _ _ _) (NU (by rw[List.length_reverse];omega));have u2:=Xo (as:=L9 ns c n [d] (q++[b]) [H,o,t,I]) (g:=yn) ⟨_,V3 (i:=2) (c:=c) (ts:=n) (tbl:=Zk) (m:="listed") (a:=fC (.int 0)) (g:=wC) rfl (by decide +kernel) rfl (WD.e (zb (x:=.int 0))) (Ph (k:=0) g.ok G ot (by omega)) (BL _),ZC _⟩ (WD.e (rat (zb (x:=.int 0)) (Xr B))) (NU (by omega));exact lV rfl (yJ rfl (zm s1 (zm s2 (zm s3 (zm s4 (zm s5 (zm s6 (zm s7 (yF (WD.e (Mv (nk rfl u1) (λ_=>nk rfl u2) (λz=>nomatch z))))))))))))
end G40
end
end
open PySem PySem.W PyProof.Rows
set_option maxRecDepth 100000 in
set_option maxHeartbeats 0 in
theorem PySem.Challenge.cw_stretchdeeds_k40_makes_of_rows_holds : PySem.Challenge.rw_stretchdeeds_k40_makes_of_rows.Holds := by
 w_on;refine holds_law G40.ws λsaid=>?_
 refine holds_open (q:=G40.qv) (loose:=[]) (Xt:=G40.Xt) (XP:=XL G40.qv []) (Yf:=Hook.obs (kHook G40.K G40.kA G40.kAe)) (Ya:=Hook.val (kHook G40.K G40.kA G40.kAe)) (YP:=Hook.says (kHook G40.K G40.kA G40.kAe)) (N:=6000) G40.hl (Hook.of (kHook G40.K G40.kA G40.kAe)) (Hook.keeps (kHook G40.K G40.kA G40.kAe)) (λs e=>xl_of s (Bool.and_eq_true_iff.mp e).1) XL.keeps (by rfl) (by rfl) (by rfl) (λs e=>recFacts_of (Bool.and_eq_true_iff.mp e).2) (by rfl) (by first|assumption|decide +kernel) (by decide +kernel) ⟨rfl,rfl,rfl,rfl,rfl,by decide +kernel⟩ ?hw ?hc
 (case hw=>w_witness2)
 k_fill
 refine G40.walk (l:=PySem.Challenge.rw_stretchdeeds_k40_makes_of_rows) rfl rfl (λw h Y=>PySem.W.kIn_of Y) G40.O0 ?F
 case F=>
  intro w mg fa h KX G hmg;refine' G40.uL KX G hmg ?_ ?_ ?_ ?_ ?_ ?_ ?_ ?_ ?_ ?_ ?_ ?_ ?_ ?_ ?_ ?_ ?_ ?_ ?_ ?_ ?_ ?_ ?_ ?_ ?_ ?_ ?_ ?_ ?_ ?_ ?_ ?_ ?_ ?_ ?_ ?_ ?_ ?_ ?_ ?_ ?_ ?_ ?_ ?_ ?_ ?_ ?_ ?_ ?_ ?_ ?_ ?_ ?_ ?_ ?_ ?_ ?_ ?_ ?_ ?_ ?_ ?_ ?_ ?_ ?_ ?_ ?_ ?_ ?_ ?_ ?_ ?_ ?_ ?_ ?_ ?_ ?_ ?_ ?_ ?_ ?_ ?_ ?_ ?_ ?_ ?_ ?_ ?_ ?_ ?_ ?_ ?_ ?_ ?_ ?_ ?_ ?_ ?_ ?_ ?_ ?_ ?_ ?_ ?_ ?_ ?_ ?_ ?_ ?_ ?_ ?_ ?_ ?_ ?_ ?_ ?_ ?_ ?_ ?_ ?_ ?_ ?_ ?_ ?_ ?_ ?_ ?_ ?_ ?_ ?_ ?_ ?_ ?_ ?_ ?_ ?_ ?_ ?_ ?_ ?_ ?_ ?_ ?_ ?_ ?_ ?_ ?_ ?_ ?_ ?_ ?_ ?_ ?_ ?_ ?_ ?_ ?_ ?_ ?_ ?_ ?_ ?_ ?_ ?_ ?_ ?_ ?_ ?_ ?_ ?_ ?_ ?_ ?_ ?_ ?_
  all_goals try first|k_is|(change _=_;k_is)|exact⟨_,⟨_,_,_,_,_,_,_,_,_,rfl,by k_is,by k_is⟩,by k_is⟩|rfl
#print axioms PySem.Challenge.cw_stretchdeeds_k40_makes_of_rows_holds
