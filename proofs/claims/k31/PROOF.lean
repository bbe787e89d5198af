import PyProof.Rows.All
import KE.KDictOf
import KE.KFromBytes
import KE.KIntText
import KE.KIsAll
import KE.KItem
import KE.KRevIter
import KE.LcSums
import Lean
import PySem.Challenge.RW_stretchdeeds_k31_put_together
set_option Elab.async false
set_option linter.all false
set_option maxRecDepth 100000
abbrev zD:=PySem.W.Frag
abbrev zS:=@List.length_map
abbrev zzA:=@List.mem_cons
abbrev zzB:=@List.mem_cons_of_mem
abbrev zzC:=@List.getElem?_eq_getElem
abbrev zzD:=@List.mem_cons_self
abbrev zzE:=@List.getElem?_eq_some_iff
abbrev zzF:=@List.size_toArray
abbrev zzG:=@List.getElem?_map
abbrev zzH:=@List.length_append
abbrev zzI:=@Nat.lt_of_lt_of_le
abbrev zzJ:=@List.mem_append_right
abbrev zzK:=@List.mem_append
abbrev zzL:=@Nat.le_refl
abbrev zzM:=@Nat.le_trans
abbrev zzN:=@List.mem_append_left
abbrev zzO:=@Nat.ne_of_lt
abbrev zzP:=@List.mem_singleton
abbrev zzQ:=@List.length_take
abbrev zzR:=@List.length_cons
abbrev zzS:=@List.length_set
abbrev zzT:=@Int.natCast_mul
abbrev zzU:=@List.nodup_cons
abbrev zzV:=@Option.map_eq_some_iff
abbrev zzW:=@List.getElem?_set_ne
abbrev zzX:=@Option.some.inj
abbrev zzY:=@List.mem_of_getElem?
abbrev zzZ:=@List.map_map
abbrev zyA:=@Bool.and_eq_true
abbrev zyB:=@Bool.or_true
abbrev zyC:=@List.append_nil
abbrev zyD:=@List.getD_eq_getElem?_getD
abbrev zyE:=@decide_eq_false
abbrev zyF:=@Int.emod_lt_of_pos
abbrev zyG:=@Int.toNat_natCast
abbrev zyH:=@List.nodup_nil
abbrev zyI:=@List.getElem?_set_self
abbrev zyJ:=@Option.bind_some
abbrev zyK:=@List.map_append
abbrev zyL:=@Int.emod_nonneg
abbrev zyM:=@decide_eq_true
abbrev zyN:=@List.getElem?_append_left
abbrev zyO:=@List.drop_eq_getElem_cons
abbrev zyP:=@List.getElem?_append_right
abbrev zyQ:=@List.map_cons
abbrev zyR:=@Array.length_toList
abbrev zyS:=@List.length_range
abbrev zyU:=@Bool.false_ne_true
abbrev zyV:=@Nat.le_succ
abbrev zyW:=@Nat.zero_add
abbrev zyX:=@Int.toNat_of_nonneg
abbrev zyY:=@List.getElem_mem
abbrev zyZ:=@Nat.lt_succ_of_lt
abbrev zxA:=@List.not_mem_nil
abbrev zxB:=@List.append_assoc
abbrev zxC:=@List.mem_map
abbrev zxD:=@List.nodup_append
abbrev zxE:=@PySem.wpAny_bind
abbrev zxF:=@PySem.wpAny_pure
abbrev zxG:=@PySem.Heap.get?_push_of_some
abbrev zxH:=@PySem.Heap.lt_size
abbrev zxI:=@PySem.Heap.get?_push_size
abbrev zxJ:=@PySem.wpAny_newObj_type
abbrev zxL:=@PySem.wpAny_holding
abbrev zxP:=@PySem.Heap.size_push
abbrev zxR:=@PySem.wpAny_mono
abbrev zxS:=@PySem.wpAny_call_entry
section
namespace L2
open PySem PySem.Spec PyProof.Rows
def inClass(s:Stmt)(j:Nat):Stmt:=match s with
 | .ClassDef _ _ _ body _ _ _ _ _ _ _=>body.getD j (.Pass ⟨0,0,0,0⟩)
 |_=>.Pass ⟨0,0,0,0⟩
def zjw(s:Stmt):Arguments:=match s with
 | .FunctionDef _ a _ _ _ _ _ _ _ _=>a
 |_=>{posonlyargs:=[],args:=[],vararg:=none,kwonlyargs:=[],kw_defaults:=[],kwarg:=none,defaults:=[]}
def V0(s:Stmt):List Stmt:=match s with
 | .FunctionDef _ _ b _ _ _ _ _ _ _=>b
 |_=>[]
def zG(s:Stmt):Scope:=match s with
 | .FunctionDef _ _ _ _ _ _ sc _ _ _=>sc
 |_=>{kind:=.function,names:=[],isGenerator:=false,isCoroutine:=false}
end L2
end
section
namespace G31
open PySem PySem.W PyProof.Rows L2
def top(i:Nat):Stmt:=PySem.Challenge.pw_stretchdeeds_k31_put_together.main.body.getD i (.Pass ⟨0,0,0,0⟩)
abbrev Zu:Stmt:=inClass (top 2) 0
abbrev zbi:Stmt:=top 3
abbrev Wd:Stmt:=inClass (top 31) 5
abbrev zbd:Stmt:=top 4
abbrev zbm:Stmt:=top 5
abbrev zbu:Stmt:=top 6
abbrev ZW:Stmt:=inClass (top 31) 4
abbrev Vr:Stmt:=top 7
abbrev Zm:Stmt:=inClass (top 31) 9
abbrev Xd:Stmt:=top 8
abbrev X6:Stmt:=inClass (top 31) 10
abbrev V1:Stmt:=top 9
abbrev Xa:Stmt:=top 10
abbrev Vg:Stmt:=top 11
abbrev zcO:Stmt:=top 12
abbrev zcT:Stmt:=top 13
abbrev zbg:Stmt:=top 14
abbrev Yq:Stmt:=top 15
abbrev Z5:Stmt:=top 16
abbrev zcF:Stmt:=top 17
abbrev Yd:Stmt:=top 18
abbrev Zv:Stmt:=top 23
abbrev Zt:Stmt:=top 24
abbrev Yu:Stmt:=top 25
abbrev Xb:Stmt:=top 26
abbrev Xc:Stmt:=top 27
abbrev Z9:Stmt:=top 28
abbrev zfY:Stmt:=top 30
abbrev Yp:Stmt:=top 33
abbrev X8:Stmt:=top 34
abbrev ZQ:Stmt:=top 35
abbrev zbk:Stmt:=top 36
abbrev Vd:Stmt:=top 37
abbrev X4:Stmt:=top 38
abbrev Vh:Stmt:=top 39
abbrev wI:Stmt:=top 40
abbrev VH:Stmt:=top 41
abbrev Wa:Stmt:=top 43
abbrev VF:Stmt:=top 44
abbrev Yt:Stmt:=top 45
abbrev X3:Stmt:=top 46
abbrev Wh:Stmt:=top 47
abbrev wC:Stmt:=inClass (top 31) 0
abbrev zkE:Stmt:=top 48
abbrev hpg:=PySem.Challenge.pw_stretchdeeds_k31_put_together
abbrev hva:Value:=.str "__main__" 164
abbrev hvb:Value:=.str "stretchdeeds.trees" 194
abbrev hvc:Value:=.str "stretchdeeds.errors" 389
abbrev hvd:Value:=.str "stretchdeeds.algebras" 434
abbrev hve:Value:=.str "stretchdeeds.ways" 501
abbrev hvf:Value:=.str "law_stretchdeeds_k31_put_together" 621
abbrev hem:List Value:=[(.type "ValueError"), (.type "Exception"), (.type "BaseException"), (.type "object")]
abbrev kF(n q:Str)(s:Stmt)(pm hcd:Value):Obj:=⟨.type "function",none,.func (fnOf n q (zjw s) (V0 s) (zG s) .none .none .none pm none hcd .none),#[]⟩
abbrev kD(es:List DictEntry)(n:Nat):Obj:=⟨.type "dict",none,.dict es.toArray n,#[]⟩
abbrev kE(P:Params)(x:Str)(t:Nat)(v:Value):DictEntry:=⟨PyData.keyHash P x,.str x t,v⟩
abbrev kR(P:Params)(x:Str)(t:Nat)(a:Addr):DictEntry:=kE P x t (.ref a)
abbrev hfl(c:Value)(l:List Value):Obj:=⟨c,none,.fields l.toArray,#[]⟩
abbrev hco(n q:Str)(t u:Nat)(l k g:Int)(b:Bool)(a:Nat)(r s v:Value):Obj:=hfl (.type "code") [.str n t,.str q (t+1),.str "/claim/cut.py" (t+2),.int l 0,.int k 0,.int 0 0,.int 0 0,.int g 0,.ref a,.bool b,.int 181 0,.ref (a+1),.none,r,s,v,.int u 0,.int l 0,.str "/claim/cut.py" (u+1)]
abbrev hc7(n q:Str)(t u:Nat)(l k:Int)(a:Nat):=hco n q t u l k 3 true a (.ref (a+2)) (.ref (a+3)) (.ref (a+4))
abbrev hc5(n q:Str)(t:Nat)(l k:Int)(a:Nat):=hco n q t (t+3) l k 3 true a .none .none (.ref (a+2))
abbrev hen(P:Params):List DictEntry:=[kE P "__doc__" 166 .none,kE P "__package__" 167 .none,kE P "__loader__" 168 (.builtin "__main__.__loader__#opaque"),kE P "__spec__" 169 .none,kR P "__annotations__" 170 6,kR P "__builtins__" 171 4,kE P "__file__" 173 (.str "/claim/cut.py" 172),kE P "__cached__" 174 .none,kR P "_wall" 193 21,kR P "Knot" 236 38,kR P "leaf_of" 243 49,kR P "knot_of" 252 56,kR P "tree_of" 261 63,kR P "size_of" 268 70,kR P "whole_of" 276 77,kR P "both_waits" 285 84,kR P "done_all" 296 91,kR P "turned_all" 304 98,kR P "parts_of" 314 105,kR P "gather" 329 112,kR P "row_of" 338 119,kR P "walk_of" 347 126,kR P "leaned_left" 358 133,kR P "leaned_right" 369 140,kR P "evened" 378 147,kR P "put_together" 388 154,kR P "StretchError" 408 164,kR P "NotLetBy" 433 184,kR P "nothing_fails" 445 193,kR P "parting_fails" 457 200,kR P "doing_fails" 473 207,kR P "deeds_fail" 484 214,kR P "what_fails" 492 221,kR P "check_let_by" 500 228,kR P "firm" 508 233,kR P "Ways" 620 316,kR P "_law_cell_at" 630 327,kR P "_law_mixed" 639 334,kR P "_law_names" 645 339,kR P "_law_two" 656 346,kR P "_law_one" 662 351,kR P "_law_order" 673 358,kR P "_law_rows" 688 365,kR P "_law_algebra" 694 370,kR P "_law_come" 704 377,kR P "_law_made" 710 382,kR P "_law_whole" 717 389,kR P "_law_gone" 728 396,kR P "_law_is_tree" 741 403,kR P "_law_drawn" 753 410,kR P "_law_right" 765 417,kR P "law" 771 422]
def K(P:Params):Frag:=
 (nat_lit 3,kD (kE P "__name__" 165 hvf::hen P) 53)::
 (nat_lit 34,hc7 "__init__" "Knot.__init__" 208 218 7 7 29)::
 (nat_lit 35,kF "__init__" "Knot.__init__" Zu hvb (.ref 34))::
 (nat_lit 37,kD [kE P "__module__" 203 hvb,kE P "__firstlineno__" 207 (.int (5) 206),kR P "__init__" 220 35,kR P "__static_attributes__" 229 36,kR P "__dict__" 231 39,kR P "__weakref__" 233 40,kE P "__doc__" 234 .none] 4)::
 (nat_lit 38,⟨(.type "type"),none,.cls {name:="Knot",bases:=[(.type "object")],mro:=[(.ref 38),(.type "object")],ns:=37,qualname:="Knot",hasDict:=true,slotNames:=[],subclasses:=[],abstract:=false,collection:=none,hasDel:=false},#[none,none,some (.str "Knot" 196),some (.str "Knot" 204),some (.builtin "object.__new__"),some (.bool true)]⟩)::
 (nat_lit 48,hc7 "leaf_of" "leaf_of" 237 241 16 1 43)::
 (nat_lit 49,kF "leaf_of" "leaf_of" zbi hvb (.ref 48))::
 (nat_lit 55,hc7 "knot_of" "knot_of" 244 250 18 3 50)::
 (nat_lit 56,kF "knot_of" "knot_of" zbd hvb (.ref 55))::
 (nat_lit 62,hc7 "tree_of" "tree_of" 253 259 20 2 57)::
 (nat_lit 63,kF "tree_of" "tree_of" zbm hvb (.ref 62))::
 (nat_lit 69,hc7 "size_of" "size_of" 262 266 27 1 64)::
 (nat_lit 70,kF "size_of" "size_of" zbu hvb (.ref 69))::
 (nat_lit 76,hc7 "whole_of" "whole_of" 269 274 29 2 71)::
 (nat_lit 77,kF "whole_of" "whole_of" Vr hvb (.ref 76))::
 (nat_lit 83,hc7 "both_waits" "both_waits" 277 283 31 3 78)::
 (nat_lit 84,kF "both_waits" "both_waits" Xd hvb (.ref 83))::
 (nat_lit 90,hc7 "done_all" "done_all" 286 294 37 3 85)::
 (nat_lit 91,kF "done_all" "done_all" V1 hvb (.ref 90))::
 (nat_lit 97,hc7 "turned_all" "turned_all" 297 302 45 2 92)::
 (nat_lit 98,kF "turned_all" "turned_all" Xa hvb (.ref 97))::
 (nat_lit 104,hc7 "parts_of" "parts_of" 305 312 49 2 99)::
 (nat_lit 105,kF "parts_of" "parts_of" Vg hvb (.ref 104))::
 (nat_lit 111,hc7 "gather" "gather" 315 327 58 5 106)::
 (nat_lit 112,kF "gather" "gather" zcO hvb (.ref 111))::
 (nat_lit 118,hc7 "row_of" "row_of" 330 336 67 2 113)::
 (nat_lit 119,kF "row_of" "row_of" zcT hvb (.ref 118))::
 (nat_lit 125,hc7 "walk_of" "walk_of" 339 345 72 2 120)::
 (nat_lit 126,kF "walk_of" "walk_of" zbg hvb (.ref 125))::
 (nat_lit 132,hc7 "leaned_left" "leaned_left" 348 356 79 3 127)::
 (nat_lit 133,kF "leaned_left" "leaned_left" Yq hvb (.ref 132))::
 (nat_lit 139,hc7 "leaned_right" "leaned_right" 359 367 85 3 134)::
 (nat_lit 140,kF "leaned_right" "leaned_right" Z5 hvb (.ref 139))::
 (nat_lit 146,hc7 "evened" "evened" 370 376 91 3 141)::
 (nat_lit 147,kF "evened" "evened" zcF hvb (.ref 146))::
 (nat_lit 153,hc7 "put_together" "put_together" 379 386 97 3 148)::
 (nat_lit 154,kF "put_together" "put_together" Yd hvb (.ref 153))::
 (nat_lit 192,hc7 "nothing_fails" "nothing_fails" 436 443 118 1 187)::
 (nat_lit 193,kF "nothing_fails" "nothing_fails" Zv hvd (.ref 192))::
 (nat_lit 199,hc7 "parting_fails" "parting_fails" 446 455 125 1 194)::
 (nat_lit 200,kF "parting_fails" "parting_fails" Zt hvd (.ref 199))::
 (nat_lit 206,hc7 "doing_fails" "doing_fails" 458 471 134 3 201)::
 (nat_lit 207,kF "doing_fails" "doing_fails" Yu hvd (.ref 206))::
 (nat_lit 213,hc7 "deeds_fail" "deeds_fail" 474 482 145 1 208)::
 (nat_lit 214,kF "deeds_fail" "deeds_fail" Xb hvd (.ref 213))::
 (nat_lit 220,hc7 "what_fails" "what_fails" 485 490 154 1 215)::
 (nat_lit 221,kF "what_fails" "what_fails" Xc hvd (.ref 220))::
 (nat_lit 227,hc7 "check_let_by" "check_let_by" 493 498 161 1 222)::
 (nat_lit 228,kF "check_let_by" "check_let_by" Z9 hvd (.ref 227))::
 (nat_lit 232,hc5 "firm" "firm" 503 166 1 229)::
 (nat_lit 233,kF "firm" "firm" zfY hve (.ref 232))::
 (nat_lit 244,hc5 "__init__" "Ways.__init__" 521 170 2 241)::
 (nat_lit 245,kF "__init__" "Ways.__init__" wC hve (.ref 244))::
 (nat_lit 272,hc7 "nothing" "Ways.nothing" 551 555 188 1 267)::
 (nat_lit 273,kF "nothing" "Ways.nothing" ZW hve (.ref 272))::
 (nat_lit 279,hc7 "join" "Ways.join" 558 564 191 3 274)::
 (nat_lit 280,kF "join" "Ways.join" Wd hve (.ref 279))::
 (nat_lit 305,hc5 "behind" "Ways.behind" 591 203 3 302)::
 (nat_lit 306,kF "behind" "Ways.behind" Zm hve (.ref 305))::
 (nat_lit 312,hc7 "made" "Ways.made" 597 604 206 4 307)::
 (nat_lit 313,kF "made" "Ways.made" X6 hve (.ref 312))::
 (nat_lit 315,kD [kE P "__module__" 516 hve,kE P "__firstlineno__" 520 (.int (168) 519),kR P "__init__" 526 245,kR P "is_value" 534 252,kR P "is_deed" 542 259,kR P "is_sign" 550 266,kR P "nothing" 557 273,kR P "join" 566 280,kR P "has_sign" 575 287,kR P "idle" 582 294,kR P "wait_of" 590 301,kR P "behind" 596 306,kR P "made" 606 313,kR P "__static_attributes__" 613 314,kR P "__dict__" 615 317,kR P "__weakref__" 617 318,kE P "__doc__" 618 .none] 4)::
 (nat_lit 316,⟨(.type "type"),none,.cls {name:="Ways",bases:=[(.type "object")],mro:=[(.ref 316),(.type "object")],ns:=315,qualname:="Ways",hasDict:=true,slotNames:=[],subclasses:=[],abstract:=false,collection:=none,hasDel:=false},#[none,none,some (.str "Ways" 509),some (.str "Ways" 517),some (.builtin "object.__new__"),some (.bool true)]⟩)::
 (nat_lit 326,hc7 "_law_cell_at" "_law_cell_at" 623 628 209 2 321)::
 (nat_lit 327,kF "_law_cell_at" "_law_cell_at" Yp hvf (.ref 326))::
 (nat_lit 333,hc7 "_law_mixed" "_law_mixed" 631 637 213 2 328)::
 (nat_lit 334,kF "_law_mixed" "_law_mixed" X8 hvf (.ref 333))::
 (nat_lit 338,hc5 "_law_names" "_law_names" 640 219 2 335)::
 (nat_lit 339,kF "_law_names" "_law_names" ZQ hvf (.ref 338))::
 (nat_lit 345,hc7 "_law_two" "_law_two" 646 654 232 4 340)::
 (nat_lit 346,kF "_law_two" "_law_two" zbk hvf (.ref 345))::
 (nat_lit 350,hc5 "_law_one" "_law_one" 657 243 5 347)::
 (nat_lit 351,kF "_law_one" "_law_one" Vd hvf (.ref 350))::
 (nat_lit 357,hc7 "_law_order" "_law_order" 663 671 256 2 352)::
 (nat_lit 358,kF "_law_order" "_law_order" X4 hvf (.ref 357))::
 (nat_lit 364,hc7 "_law_rows" "_law_rows" 674 686 262 5 359)::
 (nat_lit 365,kF "_law_rows" "_law_rows" Vh hvf (.ref 364))::
 (nat_lit 369,hc5 "_law_algebra" "_law_algebra" 689 270 1 366)::
 (nat_lit 370,kF "_law_algebra" "_law_algebra" wI hvf (.ref 369))::
 (nat_lit 376,hc7 "_law_come" "_law_come" 695 702 286 2 371)::
 (nat_lit 377,kF "_law_come" "_law_come" VH hvf (.ref 376))::
 (nat_lit 388,hc7 "_law_whole" "_law_whole" 711 715 296 1 383)::
 (nat_lit 389,kF "_law_whole" "_law_whole" Wa hvf (.ref 388))::
 (nat_lit 395,hc7 "_law_gone" "_law_gone" 718 726 298 2 390)::
 (nat_lit 396,kF "_law_gone" "_law_gone" VF hvf (.ref 395))::
 (nat_lit 402,hc7 "_law_is_tree" "_law_is_tree" 729 739 311 4 397)::
 (nat_lit 403,kF "_law_is_tree" "_law_is_tree" Yt hvf (.ref 402))::
 (nat_lit 409,hc7 "_law_drawn" "_law_drawn" 742 751 325 3 404)::
 (nat_lit 410,kF "_law_drawn" "_law_drawn" X3 hvf (.ref 409))::
 (nat_lit 416,hc7 "_law_right" "_law_right" 754 763 336 4 411)::
 (nat_lit 417,kF "_law_right" "_law_right" Wh hvf (.ref 416))::
 (nat_lit 421,hc5 "law" "law" 766 344 1 418)::
 (nat_lit 422,kF "law" "law" zkE hvf (.ref 421))::
 []
def kA:List Addr:=[3,34,35,37,38,48,49,55,56,62,63,69,70,76,77,83,84,90,91,97,98,104,105,111,112,118,119,125,126,132,133,139,140,146,147,153,154,192,193,199,200,206,207,213,214,220,221,227,228,232,233,244,245,272,273,279,280,305,306,312,313,315,316,326,327,333,334,338,339,345,346,350,351,357,358,364,365,369,370,376,377,388,389,395,396,402,403,409,410,416,417,421,422]
def qv:Program:={hpg with main:={hpg.main with body:=[0,2,3,4,5,6,7,8,9,10,11,12,13,14,15,16,17,18,20,21,23,24,25,26,27,28,30,31,33,34,35,36,37,38,39,40,41,42,43,44,45,46,47,48].map top}}
theorem kAe(P:Params):kA=(K P).map (·.1):=by kernel_rfl
set_option maxRecDepth 100000
theorem ws:PySem.Challenge.rw_stretchdeeds_k31_put_together.wellSaid=true:=by kernel_rfl
abbrev Xt(s:Shared):Bool:=xlAt qv [] s&&recOk (RowW.records (OpenRow.toRowW PySem.Challenge.rw_stretchdeeds_k31_put_together.row)) s
abbrev hk:Hook:=kHook K kA kAe
def htp(l:List Value):Obj:=⟨.type "tuple",none,.seq l.toArray 0,#[]⟩
def htx:Nat->List Str->List Value
 |_,[]=>[]
 |t,x::l=>.str x t::htx (t+1) l
noncomputable def hfO(a t:Nat)(r:Str)(v:Value)(s:Stmt):List Obj:=match s with
 | .FunctionDef n p b _ _ _ c _ _ o=>
  let q:=r++n;let S:Obj:=⟨.none,none,.func {name:=n,qualname:=q,params:=p,body:=.stmts b,scope:=c,globals:=0,closure:=[],defaults:=.none,kwdefaults:=.none},#[]⟩
  match localNames p c (.stmts b) with
  |some (x,_)=>[htp [],hfl .none [],htp (htx (t+3) x),htp [],S,hc7 n q t (t+3+x.length) o.line p.args.length a,kF n q s v (.ref (a+5))]
  |none=>[htp [],hfl .none [],S,hc5 n q t o.line p.args.length a,kF n q s v (.ref (a+3))]
 |_=>[]
noncomputable def htk(s:Stmt):Nat:=match s with
 | .FunctionDef _ p b _ _ _ c _ _ _=>match localNames p c (.stmts b) with
  |some (x,_)=>6+x.length
  |none=>6
 |_=>0
noncomputable def hms(P:Params)(c:Str)(v:Value):Nat->Nat->List Stmt->List Obj×List DictEntry×List Value×Nat
 |_,t,[]=>([],[],[],t)
 |a,t,s::r=>match s with
  | .FunctionDef n _ _ _ _ _ _ _ _ o=>let f:=hfO a t (c++".") v s;let l:=a+f.length;let u:=t+htk s;let z:=hms P c v l u r;(f++z.1,kR P n (u-1) (l-1)::z.2.1,.int o.line 0:: .int 4 0:: .ref (l-2)::z.2.2.1,z.2.2.2)
  |_=>hms P c v a t r
def hfm(a b:Addr)(v:Value):Obj:=⟨.type "frame",none,.plain,#[some (.ref a),some (.ref 3),some (.ref b),none,some v,none,some (.ref 0)]⟩
def hbf(x:String)(v:Value):Obj:=hfl (.type "builtin_function_or_method") [.builtin x,v]
def hgd(x:Str)(t:Nat)(c:Addr)(g s:Value):Obj:=hfl (.type "getset_descriptor") [.str x t,.ref c,g,s]
noncomputable def hcO(P:Params)(a t:Nat)(v:Value)(bv mr sb:List Value)(nw:String)(d:Nat)(s:Stmt):List Obj:=match s with
 | .ClassDef n _ _ b _ _ _ _ _ sa o=>
  let m:=hms P n v (a+7) (t+12) b;let e:=a+7+m.1.length;let k:=m.2.2.2+sa.length;let z:=k+1;let C:=e+2
  let x:=kE P "__module__" (t+7) v;let f:=kE P "__firstlineno__" (t+11) (.int o.line (t+10));let y:=kR P "__static_attributes__" k e
  let W:=λt:Nat=>hgd "__weakref__" t C (.builtin "ExceptionGroup.__weakref__") .none
  let D:List DictEntry×List Obj:=match d with
   |0=>([],[])
   |1=>([kR P "__weakref__" (z+1) (C+1)],[W z])
   |_=>([kR P "__dict__" (z+1) (C+1),kR P "__weakref__" (z+3) (C+2)],[hgd "__dict__" z C (.builtin "function.__dict__") (.builtin "function.__dict__#set"),W (z+2)])
  [htp bv,hbf "type.__prepare__" (.type "type"),kD (x::kE P "__qualname__" (t+9) (.str n (t+8))::f::m.2.1++[y]) (4+m.2.1.length),htp [],hfl .none m.2.2.1,hco n n (t+2) (t+5) o.line 0 0 false (a+3) .none .none .none,hfm (a+5) (a+2) v]++m.1++[htp (htx m.2.2.2 sa),kD (x::f::m.2.1++y::D.1++[kE P "__doc__" (z+2*d) .none]) (2+d),⟨.type "type",none,.cls {name:=n,bases:=if bv.isEmpty then [.type "object"] else bv,mro:=.ref C::mr,ns:=e+1,qualname:=n,hasDict:=true,slotNames:=[],subclasses:=sb},#[if bv.isEmpty then none else some (.ref a),none,some (.str n t),some (.str n (t+8)),some (.builtin nw),some (.bool true)]⟩]++D.2++[hfl (.type "super") [.ref C,.ref C,.ref C],hbf "object.__init_subclass__" (.ref C)]
 |_=>[]
def hcs:List (Int×Addr):=[(1,20),(5,27),(16,48),(18,55),(20,62),(27,69),(29,76),(31,83),(37,90),(45,97),(49,104),(58,111),(67,118),(72,125),(79,132),(85,139),(91,146),(97,153),(110,160),(112,173),(118,192),(125,199),(134,206),(145,213),(154,220),(161,227),(166,232),(168,239),(209,326),(213,333),(219,338),(232,345),(243,350),(256,357),(262,364),(270,369),(286,376),(293,381),(296,388),(298,395),(311,402),(325,409),(336,416),(344,421)]
noncomputable def hhp(P:Params)(v:Value)(g c:Nat)(l:List Obj):Heap:=⟨⟨boot_o_0 P::boot_o_1 P::boot_o_2 P::kD (kE P "__name__" 165 v::(hen P).take g) (g+1)::boot_o_4 P::boot_o_5 P::boot_o_6 P::boot_o_7 P::boot_o_8 P::boot_o_9 P::boot_o_10 P::htp []::hfl .none ((hcs.take c).flatMap λp=>[.int p.1 0,.int 0 0,.ref p.2])::hco "<module>" "<module>" 182 185 1 0 0 false 11 .none .none .none::hfm 13 3 (.str "__main__" 164)::l⟩,(boot_heap P).life⟩
abbrev hbd:=behindTheImports hpg
abbrev hev:Env:={scope:=hpg.main.scope,locals:=mainNs,globals:=mainNs,cells:=[],code:=.ref 13,frame:=some 14}
abbrev hcd:Code:=.body hbd hev
noncomputable abbrev hSh(t:Nat)(h:Heap)(o:OsState):Shared:=⟨h,⟨[]⟩,boot_drawn,t,o⟩
noncomputable def hl0(P:Params):List Obj:=hfO 15 187 "" hva (top 0)++hcO P 22 196 hvb [] [(.type "object")] [] "object.__new__" 2 (top 2)++hfO 43 237 "" hvb (top 3)++hfO 50 244 "" hvb (top 4)++hfO 57 253 "" hvb (top 5)++hfO 64 262 "" hvb (top 6)++hfO 71 269 "" hvb (top 7)++hfO 78 277 "" hvb (top 8)++hfO 85 286 "" hvb (top 9)++hfO 92 297 "" hvb (top 10)++hfO 99 305 "" hvb (top 11)++hfO 106 315 "" hvb (top 12)++hfO 113 330 "" hvb (top 13)++hfO 120 339 "" hvb (top 14)++hfO 127 348 "" hvb (top 15)++hfO 134 359 "" hvb (top 16)++hfO 141 370 "" hvb (top 17)++hfO 148 379 "" hvb (top 18)++hcO P 155 391 hvc [(.type "ValueError")] hem [(.ref 184)] "ValueError.__new__" 1 (top 20)++hcO P 168 409 hvc [(.ref 164)] ((.ref 164)::hem) [] "ValueError.__new__" 0 (top 21)
noncomputable def hl1(P:Params):List Obj:=hl0 P++hfO 187 436 "" hvd (top 23)++hfO 194 446 "" hvd (top 24)++hfO 201 458 "" hvd (top 25)++hfO 208 474 "" hvd (top 26)++hfO 215 485 "" hvd (top 27)++hfO 222 493 "" hvd (top 28)++hfO 229 503 "" hve (top 30)++hcO P 234 509 hve [] [(.type "object")] [] "object.__new__" 2 (top 31)++hfO 321 623 "" hvf (top 33)++hfO 328 631 "" hvf (top 34)++hfO 335 640 "" hvf (top 35)++hfO 340 646 "" hvf (top 36)++hfO 347 657 "" hvf (top 37)++hfO 352 663 "" hvf (top 38)
noncomputable def hl2(P:Params):List Obj:=hl1 P++hfO 359 674 "" hvf (top 39)++hfO 366 689 "" hvf (top 40)++hfO 371 695 "" hvf (top 41)++hfO 378 705 "" hvf (top 42)++hfO 383 711 "" hvf (top 43)++hfO 390 718 "" hvf (top 44)++hfO 397 729 "" hvf (top 45)++hfO 404 742 "" hvf (top 46)++hfO 411 754 "" hvf (top 47)++hfO 418 766 "" hvf (top 48)
theorem hr0(w:World)(o:OsState):topGo treeTable hpg w 11 (some (.ref 6)) 12 (hSh boot_toks (boot_heap w.params) o) (topStub hpg)=some (hSh 187 (hhp w.params (.str "__main__" 164) 8 0 []) o,⟨denote treeTable hcd,hcd,⟨0,0,0,0⟩,[topFrame ⟨0,0,0,0⟩]⟩):=by kernel_rfl
theorem hr1(w:World)(o:OsState):segRun treeTable hpg w 11 (some (.ref 6)) 1 1 (hSh 187 (hhp w.params (.str "__main__" 164) 8 0 []) o) (blockOf hbd hev hcd ⟨0,0,0,0⟩ [topFrame ⟨0,0,0,0⟩])=some (.next,hSh 187 (hhp w.params (.str "__main__" 164) 8 0 []) o,hcd,⟨0,0,0,0⟩):=by kernel_rfl
theorem hs0(w:World)(o:OsState):segRun treeTable hpg w 11 (some (.ref 6)) 1 1217 (hSh 187 (hhp w.params (.str "__main__" 164) 8 0 []) o) (piecesOf (hbd.take 22) hev hcd ⟨0,0,0,0⟩ [topFrame ⟨0,0,0,0⟩])=some (.next,hSh 434 (hhp w.params hvc 28 20 (hl0 w.params)) o,hcd,⟨112,0,116,24⟩):=by kernel_rfl
abbrev hb0:=hbd.drop 22
theorem hs1(w:World)(o:OsState):segRun treeTable hpg w 11 (some (.ref 6)) 1 971 (hSh 434 (hhp w.params hvc 28 20 (hl0 w.params)) o) (piecesOf (hb0.take 17) hev hcd ⟨112,0,116,24⟩ [topFrame ⟨0,0,0,0⟩])=some (.next,hSh 674 (hhp w.params hvf 42 34 (hl1 w.params)) o,hcd,⟨256,0,261,26⟩):=by kernel_rfl
abbrev hb1:=hb0.drop 17
theorem hs2(w:World)(o:OsState):topRun treeTable hpg w 11 (some (.ref 6)) 315 (hSh 674 (hhp w.params hvf 42 34 (hl1 w.params)) o) (restOf hb1 hev hcd ⟨256,0,261,26⟩ [topFrame ⟨0,0,0,0⟩])=some (hSh 772 (hhp w.params hvf 52 44 (hl2 w.params)) o):=by kernel_rfl
theorem hpa{w:World}{n N t t':Nat}{h h':Heap}{o:OsState}{r:Shared}{b:List Stmt}(m:Nat){p p':Pos}(x:segRun treeTable hpg w 11 (some (.ref 6)) 1 n (hSh t h o) (piecesOf (b.take m) hev hcd p [topFrame ⟨0,0,0,0⟩])=some (.next,hSh t' h' o,hcd,p'))(y:topRun treeTable hpg w 11 (some (.ref 6)) N (hSh t' h' o) (restOf (b.drop m) hev hcd p' [topFrame ⟨0,0,0,0⟩])=some r):topRun treeTable hpg w 11 (some (.ref 6)) (n+N) (hSh t h o) (restOf b hev hcd p [topFrame ⟨0,0,0,0⟩])=some r:=by
 have z:=piece_app x y;rwa[List.take_append_drop] at z
theorem hhr(w:World)(o:OsState):topRun treeTable hpg w 11 (some (.ref 6)) (12+(1+(1217+(971+315)))) (hSh boot_toks (boot_heap w.params) o) (topStub hpg)=some (hSh 772 (hhp w.params hvf 52 44 (hl2 w.params)) o):=go_top (hr0 w o) (piece_block (hr1 w o) (hpa _ (hs0 w o) (hpa _ (hs1 w o) (hs2 w o))))
noncomputable def hhf(P:Params):Heap:=hhp P hvf 52 44 (hl2 P)
theorem hhq(w:World):(λo=>((staticsOk (importedModules hpg.main.body) (boot_heap w.params) (hhf w.params)&&namesBound hpg (hhf w.params)&&gensDone (hSh 772 (hhf w.params) o)&&laidKept (boot_heap w.params) (hhf w.params)),openSeen qv [] (importedModules hpg.main.body) Xt true (hSh 772 (hhf w.params) o),hk.obs (hSh 772 (hhf w.params) o)))=λ_=>(true,openGood qv [],hk.val w):=by kernel_rfl
theorem hl:LeftO PySem.Challenge.pw_stretchdeeds_k31_put_together qv [] Xt hk.obs hk.val 6000:=LeftO.of_pieces (H₀:=boot_heap) (H₁:=hhf) (boot_open (by kernel_rfl) rfl λ_=>by kernel_rfl) (λ_=>by kernel_rfl) hhr rfl hhq
end G31
end
section
namespace L2
open PySem PySem.Spec PyProof.Rows
abbrev Key:=Sum Int Str
def zhW:Key->Value->Bool
 | .inl k,v=>Value.isInt k v
 | .inr x,v=>Value.isStrOf x v
def zvT(w:World):Key->Int
 | .inl k=>hashInt k
 | .inr x=>hashStr w x
theorem wH:∀{k:Key}{v:Value},zhW k v=true->(∃i t,k=Sum.inl i/\v=Value.int i t)\/(∃x t,k=Sum.inr x/\v=Value.str x t)
 | .inl i,v,h=>by
  obtain⟨t,e⟩:=Value.isInt_shape (k:=i) (v:=v) h
  exact .inl ⟨i,t,rfl,e⟩
 | .inr x,v,h=>by
  obtain⟨t,e⟩:=Value.isStrOf_shape (x:=x) (v:=v) h
  exact .inr ⟨x,t,rfl,e⟩
theorem zod(i:Int)(t:Tok):zhW (.inl i) (.int i t)=true:=by simp[zhW,Value.isInt]
theorem znQ(x:Str)(t:Tok):zhW (.inr x) (.str x t)=true:=by simp[zhW,Value.isStrOf]
theorem zsV(a b:Int):decide ((Sum.inl a:Key)=Sum.inl b)=(a==b):=by
 by_cases e:a=b
 · subst e;simp
 · have h:¬(Sum.inl a:Key)=Sum.inl b:=λq=>e (Sum.inl.inj q)
   rw[zyE h]
   exact(beq_eq_false_iff_ne.mpr e).symm
theorem zuo(a b:Str):decide ((Sum.inr a:Key)=Sum.inr b)=decide (a=b):=by
 by_cases e:a=b
 · subst e;simp
 · have h:¬(Sum.inr a:Key)=Sum.inr b:=λq=>e (Sum.inr.inj q)
   rw[zyE h,zyE e]
theorem ztJ(a:Int)(b:Str):decide ((Sum.inl a:Key)=Sum.inr b)=false:=zyE (λq=>nomatch q)
theorem ztE(a:Str)(b:Int):decide ((Sum.inr a:Key)=Sum.inl b)=false:=zyE (λq=>nomatch q)
def vJ(prog:Program)(w:World):PySem.KeyKind prog w Key where
 is:=zhW
 hash:=zvT w
 inj:=λv a b ha hb=>by
  rcases wH ha with⟨i,t,rfl,rfl⟩|⟨x,t,rfl,rfl⟩
  · rcases wH hb with⟨j,u,rfl,e⟩|⟨y,u,rfl,e⟩
    · injection e with e1 _;rw[e1]
    · exact nomatch e
  · rcases wH hb with⟨j,u,rfl,e⟩|⟨y,u,rfl,e⟩
    · exact nomatch e
    · injection e with e1 _;rw[e1]
 byValue:=λk v h=>by
  rcases wH h with⟨i,t,rfl,rfl⟩|⟨x,t,rfl,rfl⟩<;>rfl
 pyHash:=λhv h=>by
  rcases wH hv with⟨i,t,rfl,rfl⟩|⟨x,t,rfl,rfl⟩
  · exact wpAny_pyHash_int h
  · exact wpAny_pyHash_str h
 eqBool:=λhu hv h=>by
  rcases wH hu with⟨i,t,rfl,rfl⟩|⟨x,t,rfl,rfl⟩
  · rcases wH hv with⟨j,u,rfl,rfl⟩|⟨y,u,rfl,rfl⟩
    · rw[zsV]at h;exact wpAny_eqBool_int h
    · rw[ztJ]at h;exact SeqAt.EqAt.int_str i t y u _ _ _ _ h
  · rcases wH hv with⟨j,u,rfl,rfl⟩|⟨y,u,rfl,rfl⟩
    · rw[ztE]at h;exact SeqAt.EqAt.str_int x t j u _ _ _ _ h
    · rw[zuo]at h;exact wpAny_eqBool_str h
 «strs» := λk x t v h=>by
  rcases wH h with⟨i,u,rfl,e⟩|⟨y,u,rfl,e⟩
  · exact nomatch e
  · injection e with e1 _
    subst e1
    cases v<;>rfl
theorem zkP(prog:Program)(w:World)(i:Int)(t:Tok):(vJ prog w).is (.inl i) (.int i t)=true:=zod i t
theorem zaU(prog:Program)(w:World)(x:Str)(t:Tok):(vJ prog w).is (.inr x) (.str x t)=true:=znQ x t
end L2
namespace L2
open PySem PySem.Spec PyProof.Rows
inductive V where
 |non|bl (b:Bool)|int (i:Int)|str (x:Str)|byt (b:Array UInt8)|flt (b:UInt64)|ref (a:Addr)|ty (n:String)
 deriving DecidableEq
def RelV:V->Value->Prop
 | .non,u=>u=Value.none
 | .bl b,u=>u=Value.bool b
 | .int i,u=>∃t,u=Value.int i t
 | .str x,u=>∃t,u=Value.str x t
 | .byt b,u=>∃t,u=Value.bytes b t
 | .flt b,u=>∃t,u=Value.float b t
 | .ref a,u=>u=Value.ref a
 | .ty n,u=>u=Value.type n
abbrev Vals:List V->List Value->Prop:=Paired RelV
theorem Vals.length(r:Vals xs us):xs.length=us.length:=Paired.length r
theorem Vals.get:∀{xs:List V}{us:List Value}{i:Nat}{x:V},Vals xs us->xs[i]? = some x->∃u,us[i]? = some u/\RelV x u
 |_,_,_,_,.nil,e=>by simp at e
 |_,_,0,_,.cons r _,e=>by simp at e;subst e;exact⟨_,rfl,r⟩
 |_,_,i+1,x,.cons _ t,e=>by
  obtain⟨u,h1,h2⟩:=Vals.get (i:=i) (x:=x) t (by simpa using e)
  exact⟨u,by simpa using h1,h2⟩
theorem Vals.set(r:RelV x u):∀{xs:List V}{us:List Value}(i:Nat),Vals xs us->Vals (xs.set i x) (us.set i u)
 |_,_,_,.nil=>.nil
 |_,_,0,.cons _ t=>.cons r t
 |_,_,i+1,.cons q t=>.cons q (Vals.set r i t)
theorem Vals.append:∀{xs ys:List V}{us ws:List Value},Vals xs us->Vals ys ws->Vals (xs++ys) (us++ws)
 |_,_,_,_,.nil,s=>s
 |_,_,_,_,.cons r t,s=>.cons r (Vals.append t s)
theorem Vals.take:∀{xs:List V}{us:List Value}(n:Nat),Vals xs us->Vals (xs.take n) (us.take n)
 |_,_,0,_=>.nil
 |_,_,_+1,.nil=>.nil
 |_,_,n+1,.cons r t=>.cons r (Vals.take n t)
theorem Vals.drop:∀{xs:List V}{us:List Value}(n:Nat),Vals xs us->Vals (xs.drop n) (us.drop n)
 |_,_,0,r=>r
 |_,_,_+1,.nil=>.nil
 |_,_,n+1,.cons _ t=>Vals.drop n t
def zcS:Option V->Option Value->Prop
 |some v,some u=>RelV v u
 |none,none=>True
 |_,_=>False
def KV{κ:Type}:List (κ×V)->List (κ×Value)->Prop:=Paired λ(p:κ×V) (q:κ×Value)=>p.1=q.1/\RelV p.2 q.2
def kV:Key->V
 | .inl i=>.int i
 | .inr x=>.str x
inductive HO where
 |lst (xs:List V)
 |tup (xs:List V)
 |dK (kvs:List (Key×V))|dT (kvs:List (List Key×V))
 |set (S:Int->Bool) (n:Nat)
 |ins (C dx:Addr) (fs:List (Str×V))
 |own (x:Addr)
 |xd (fs:List (Str×V))
 |met (f x:Addr)
 |rng (lo hi:Int)
 |frz (o:Obj) (u:HO)
 |tbl (ps:Array Value)
 |ext (φ:Heap->Prop)
abbrev Hp:=Addr->Option HO
def upd(H:Hp)(a:Addr)(o:HO):Hp:=λb=>if b=a then some o else H b
theorem yP:upd H a o a=some o:=by unfold upd;rw[if_pos rfl]
theorem yj(h:b≠a):upd H a o b=H b:=by unfold upd;rw[if_neg h]
theorem yJ{H:Hp}{a b:Addr}{o:HO}(h:H a=some o)(h':H b=none):a≠b:=by
 intro e;subst e;rw[h]at h';cases h'
section
variable(P:Program)(w:World)
def Zj(H:Hp)(h:Heap)(a:Addr):HO->Prop
 | .lst xs=>xs.length<=sizeLine/\∃(its:List Value) (n:Nat),Vals xs its/\h.get? a=some {cls:=.type "list",data:=.seq its.toArray n}
 | .tup xs=>xs.length<=sizeLine/\∃its:List Value,Vals xs its/\IsTup h a its.toArray
 | .dK kvs=>kvs.length<=sizeLine/\(a==sysModules)=false/\∃vs,KV kvs vs/\h.DictOf (vJ P w) a vs
 | .dT kvs=>kvs.length<=sizeLine/\(a==sysModules)=false/\∃xs:List (List Key×Addr×Value),
  Paired (λ(p:List Key×V) (q:List Key×Addr×Value)=>p.1=q.1/\H q.2.1=some (.tup (p.1.map kV))/\RelV p.2 q.2.2) kvs xs/\
  ∃o es ep,h.get? a=some o/\o.ExactDict/\o.data = .dict es ep/\es.toList=xs.map (entryOfKey (tupleKind (vJ P w)))/\(xs.map (·.1)).Nodup
 | .set S n=>h.SetOf (intKind P w) a S n
 | .ins C dx fs=>H dx=some (.own a)/\fs.length<=1000/\dx≠a/\h.get? a=some (PySem.W.instObj C dx)/\
  ∃mA,h.Ns1 dx mA/\(∀f,zcS (fs.lookup f) (mA f))/\PySem.Within mA (fs.map (·.1))
 | .own _=>∃o,h.get? a=some o
 | .xd fs=>∃mA,h.Ns1 a mA/\∀f,zcS (fs.lookup f) (mA f)
 | .rng lo hi=>∃t u v,h.get? a=some {cls:=.type "range",data:=.fields #[.int lo t,.int hi u,.int 1 v]}
 | .frz o u=>h.get? a=some o/\Zj H h a u
 | .tbl ps=>h.get? a=some {cls:=.none,data:=.fields ps}
 | .met f x=>h.get? a=some (PySem.W.methodObj (.ref f) (.ref x))
 | .ext φ=>φ h/\(∃o,h.get? a=some o)/\∀h1 h2:Heap,φ h1->(∀o,h1.get? a=some o->h2.get? a=some o)->φ h2
def HOk(H:Hp)(h:Heap):Prop:=∀a o,H a=some o->Zj P w H h a o
end
section
variable{P:Program}{w:World}{H H':Hp}{h h':Heap}{a:Addr}{o:HO}
theorem Zj.lt(x:Zj P w H h a o):a<h.objs.size:=by
 cases o with
 |lst xs=>obtain⟨_,_,_,_,e⟩:=x;exact zxH e
 |tup xs=>obtain⟨_,_,_,p⟩:=x;exact p.lt
 |dK kvs=>obtain⟨_,_,_,_,o,_,_,e,_⟩:=x;exact zxH e
 |dT kvs=>obtain⟨_,_,_,_,o,_,_,e,_⟩:=x;exact zxH e
 |set S n=>obtain⟨o,_,_,_,e,_⟩:=x;exact zxH e
 |ins C dx fs=>obtain⟨_,_,_,e,_⟩:=x;exact zxH e
 |own y=>obtain⟨_,e⟩:=x;exact zxH e
 |xd fs=>obtain⟨_,⟨_,_,_,e,_⟩,_⟩:=x;exact zxH e
 |rng lo hi=>obtain⟨_,_,_,e⟩:=x;exact zxH e
 |frz ob u=>obtain⟨e,_⟩:=x;exact zxH e
 |tbl ps=>exact zxH (show h.get? a=some _ from x)
 |met f y=>exact zxH (show h.get? a=some _ from x)
 |ext φ=>obtain⟨_,⟨_,e⟩,_⟩:=x;exact zxH e
theorem Paired.mapP:∀{l₁:List α}{l₂:List β},Paired F l₁ l₂->(∀a b,F a b->G a b)->Paired G l₁ l₂
 |_,_,.nil,_=>.nil
 |_,_,.cons r t,f=>.cons (f _ _ r) (Paired.mapP t f)
theorem Zj.stay(x:Zj P w H h a o)(k:∀b u,(b=a\/H b=some (.own a))->h.get? b=some u->h'.get? b=some u)
 (ho:∀b,H b=some (.own a)->H' b=some (.own a)) (ht:∀b xs,H b=some (.tup xs)->H' b=some (.tup xs)):Zj P w H' h' a o:=by
 induction o with
 |lst xs=>obtain⟨z,its,n,r,e⟩:=x;exact⟨z,its,n,r,k _ _ (.inl rfl) e⟩
 |tup xs=>obtain⟨z,its,r,ob,e,c⟩:=x;exact⟨z,its,r,ob,k _ _ (.inl rfl) e,c⟩
 |dK kvs=>obtain⟨z,y,vs,r,ob,es,ep,e,c⟩:=x;exact⟨z,y,vs,r,ob,es,ep,k _ _ (.inl rfl) e,c⟩
 |dT kvs=>
  obtain⟨z,y,xs,r,ob,es,ep,e,c⟩:=x
  exact⟨z,y,xs,Paired.mapP r λp q z=>⟨z.1,ht _ _ z.2.1,z.2.2⟩,ob,es,ep,k _ _ (.inl rfl) e,c⟩
 |set S n=>obtain⟨ob,es,ep,t,e,c⟩:=x;exact⟨ob,es,ep,t,k _ _ (.inl rfl) e,c⟩
 |ins C dx fs=>
  obtain⟨d,z,ne,e,mA,⟨od,es,ep,e2,c⟩,r⟩:=x
  exact⟨ho _ d,z,ne,k _ _ (.inl rfl) e,mA,⟨od,es,ep,k _ _ (.inr d) e2,c⟩,r⟩
 |own y=>obtain⟨ob,e⟩:=x;exact⟨ob,k _ _ (.inl rfl) e⟩
 |xd fs=>obtain⟨mA,⟨od,es,ep,e,c⟩,r⟩:=x;exact⟨mA,⟨od,es,ep,k _ _ (.inl rfl) e,c⟩,r⟩
 |rng lo hi=>obtain⟨t,u,v,e⟩:=x;exact⟨t,u,v,k _ _ (.inl rfl) e⟩
 |frz ob u ih=>obtain⟨e,q⟩:=x;exact⟨k _ _ (.inl rfl) e,ih q⟩
 |tbl ps=>
  have e:h.get? a=some {cls:=.none,data:=.fields ps}:=x
  show h'.get? a=some {cls:=.none,data:=.fields ps}
  exact k a _ (.inl rfl) e
 |met f y=>
  have e:h.get? a=some (PySem.W.methodObj (.ref f) (.ref y)):=x
  show h'.get? a=some (PySem.W.methodObj (.ref f) (.ref y))
  exact k a _ (.inl rfl) e
 |ext φ=>obtain⟨p,⟨o,e⟩,st⟩:=x;exact⟨st _ _ p λo q=>k _ _ (.inl rfl) q,⟨o,k _ _ (.inl rfl) e⟩,st⟩
theorem HOk.lt(x:HOk P w H h)(e:H a=some o):a<h.objs.size:=(x a o e).lt
theorem HOk.fresh(x:HOk P w H h)(e:h.objs.size<=a):H a=none:=by
 cases q:H a with
 |none=>rfl
 |some u=>exact absurd (zzI (x.lt q) e) (Nat.lt_irrefl _)
theorem HOk.kept(x:HOk P w H h)(k:∀b u,h.get? b=some u->h'.get? b=some u):HOk P w H h':=λa o e=>
 (x a o e).stay (λb u _ q=>k b u q) (λ_ q=>q) λ_ _ q=>q
theorem HOk.laid(x:HOk P w H h)(k:∀b u,h.get? b=some u->h'.get? b=some u)(hp:h.objs.size<=a)(new:Zj P w (upd H a o) h' a o):HOk P w (upd H a o) h':=λb u e=>by
 have hn:=x.fresh hp
 by_cases hb:b=a
 · subst hb;rw[yP]at e;cases e;exact new
 · rw[yj hb]at e
   exact(x b u e).stay (λc v _ q=>k c v q) (λc q=>by rw[yj (yJ q hn)];exact q) λc xs q=>by rw[yj (yJ q hn)];exact q
end
def Rd(H:Hp)(a:Addr)(u:HO):Prop:=H a=some u\/∃o,H a=some (.frz o u)
theorem Rd.ok(r:Rd H a u)(x:HOk P w H h):Zj P w H h a u:=by
 rcases r with r|⟨o,r⟩
 · exact x a u r
 · obtain⟨_,q⟩:=x a _ r
   exact q
def Mut:Option HO->Prop
 |some (.lst _)=>True
 |some (.dK _)=>True
 |some (.dT _)=>True
 |some (.set _ _)=>True
 |some (.ins _ _ _)=>True
 |some (.ext _)=>True
 |_=>False
section
variable{P:Program}{w:World}{H:Hp}{h h':Heap}{x e:Addr}{o':HO}
theorem HOk.write(ok:HOk P w H h)(mu:Mut (H x))(he:e=x\/H e=some (.own x))(k:∀b u,b≠e->h.get? b=some u->h'.get? b=some u)(heo:∃u,h'.get? e=some u)
 (new:Zj P w (upd H x o') h' x o'):HOk P w (upd H x o') h':=λb u q=>by
 have nown:∀c y,H c=some (.own y)->c≠x:=λc y r z=>by subst z;rw[r]at mu;exact mu
 have ntup:∀c xs,H c=some (.tup xs)->c≠x:=λc xs r z=>by subst z;rw[r]at mu;exact mu
 by_cases hb:b=x
 · subst hb;rw[yP]at q;cases q;exact new
 · rw[yj hb]at q
   by_cases hbe:b=e
   · have q':H b=some (.own x):=by
      rcases he with z|z
      · exact absurd (hbe.trans z) hb
      · rw[hbe];exact z
     rw[q]at q';cases q'
     obtain⟨v,hv⟩:=heo
     exact⟨v,by rw[hbe];exact hv⟩
   · refine(ok b u q).stay (λc v hc r=>k c v ?_ r) (λc r=>by rw[yj (nown c b r)];exact r) λc xs r=>by rw[yj (ntup c xs r)];exact r
     rcases hc with rfl|hc
     · exact hbe
     · rintro rfl
       rcases he with z|z
       · exact nown c b hc z
       · rw[hc]at z;cases z;exact hb rfl
end
structure Un(fs ex:List Addr)(H H':Hp)(h h':Heap):Prop where
 keep:∀b o,h.get? b=some o->H b=none->b ∉ fs->b ∉ ex->h'.get? b=some o
 slot:∀b o,h.get? b=some o->H b=none->b ∈ fs->b ∉ ex->∃sl,h'.get? b=some {o with slots:=sl}
 free:∀b o,h.get? b=some o->H b=none->b ∉ ex->H' b=none
 there:∀b o,h.get? b=some o->b ∉ ex->∃o',h'.get? b=some o'
 tups:∀b xs,H b=some (.tup xs)->H' b=some (.tup xs)
 frzs:∀b o u,H b=some (.frz o u)->H' b=some (.frz o u)
 tbls:∀b ps,H b=some (.tbl ps)->∃more,H' b=some (.tbl (ps++more))
section
variable{fs fs' ex ex':List Addr}{H H1 H2:Hp}{h h1 h2 h':Heap}{a x e:Addr}{o:HO}
theorem Un.any(u:Un fs ex H H1 h h1)(q:h.get? b=some ob)(n:H b=none)(hx:b ∉ ex):∃sl,h1.get? b=some {ob with slots:=sl}:=by
 by_cases hb:b ∈ fs
 · exact u.slot b ob q n hb hx
 · exact⟨ob.slots,u.keep b ob q n hb hx⟩
theorem Un.kept(k:∀b u,h.get? b=some u->h'.get? b=some u):Un fs ex H H h h':=
 ⟨λb ob q _ _ _=>k b ob q,λb ob q _ _ _=>⟨ob.slots,k b ob q⟩,λ_ _ _ n _=>n,λb ob q _=>⟨ob,k b ob q⟩,λ_ _ q=>q,λ_ _ _ q=>q,λ_ ps q=>⟨#[],by rw[q];simp⟩⟩
theorem Un.refl:Un fs ex H H h h:=Un.kept λ_ _ q=>q
theorem Un.laid(k:∀b u,h.get? b=some u->h'.get? b=some u)(hp:h.objs.size<=a)(hn:H a=none):Un fs ex H (upd H a o) h h' where
 keep:=λb u q _ _ _=>k b u q
 slot:=λb u q _ _ _=>⟨u.slots,k b u q⟩
 free:=λb u q n _=>by rw[yj (zzO (zzI (zxH q) hp))];exact n
 there:=λb u q _=>⟨u,k b u q⟩
 tups:=λb xs q=>by rw[yj (yJ q hn)];exact q
 frzs:=λb u xs q=>by rw[yj (yJ q hn)];exact q
 tbls:=λb ps q=>⟨#[],by rw[yj (yJ q hn),q];simp⟩
theorem Un.write(mu:Mut (H x))(he:e=x\/H e=some (.own x))(k:∀b u,b≠e->h.get? b=some u->h'.get? b=some u)(heo:∃u,h'.get? e=some u):Un fs ex H (upd H x o) h h':=by
 have hx:∀b,H b=none->b≠x:=λb n z=>by subst z;rw[n]at mu;exact mu
 have hb:∀b,H b=none->b≠e:=λb n z=>by
  subst z
  rcases he with r|r
  · exact hx b n r
  · rw[n]at r;cases r
 have hm:∀b u,H b=some u->¬Mut (some u)->b≠x:=λb u q nm z=>by subst z;rw[q]at mu;exact nm mu
 refine⟨λb u q n _ _=>k b u (hb b n) q,λb u q n _ _=>⟨u.slots,k b u (hb b n) q⟩,λb u q n _=>by rw[yj (hx b n)];exact n,λb u q _=>?_,
  λb xs q=>by rw[yj (hm b _ q λz=>z)];exact q,λb u xs q=>by rw[yj (hm b _ q λz=>z)];exact q,λb ps q=>⟨#[],by rw[yj (hm b _ q λz=>z),q];simp⟩⟩
 by_cases hbe:b=e
 · subst hbe;exact heo
 · exact⟨u,k b u hbe q⟩
end
def trk(h:Heap)(H:Hp):List Addr:=(List.range h.objs.size).filter λa=>(H a).isSome
def zir(h:Heap)(H:Hp):Heap:=PySem.W.hideAll h (trk h H)
theorem zoh(h:Heap)(H:Hp):(zir h H).objs.size=h.objs.size:=PySem.W.hideAll_size _ _
theorem zoN(e:h.get? b=some o)(n:H b=none):(zir h H).get? b=some o:=
 PySem.W.hideAll_get _ e λhm=>by
  have q:(H b).isSome=true:=(List.mem_filter.mp hm).2
  rw[n]at q;simp at q
theorem zsh(e:(zir h H).get? b=some o):h.get? b=some o/\H b=none:=by
 have e':h.get? b=some o:=PySem.W.of_hideAll (trk h H) e
 refine⟨e', ?_⟩
 cases q:H b with
 |none=>rfl
 |some x=>
  have hm:b ∈ trk h H:=List.mem_filter.mpr ⟨List.mem_range.mpr (zxH e'),by simp[q]⟩
  have z:(zir h H).get? b=none:=PySem.W.hideAll_none (trk h H) hm
  rw[z]at e;cases e
end L2
namespace L2
open PySem PySem.Spec PyProof.Rows
structure Mod(K:zD)(mg:Str->Option Value)(base:Heap):Prop where
 kin:K.In base
 glob:base.Ns mainGlobals mg
 blt:∃mb,base.Ns builtinsNs mb/\∀x:Str,x≠"__name__"->mb x=bootBuiltins x
 nolimit:base.NoLimit
structure Cx where
 prog:Program
 w:World
 K:zD
 mg:Str->Option Value
 base:Heap
 A:Around
 N:List Str
 s₀:Shared
 H₀:Hp
 env:Env
 outer:List Env
 stack:List Env
 ex:List Addr
 fn:Str->Bool
 calm:Bool
 pn:List (Addr×Obj)
 xe:Value->Shared->Prop
def frs(l:List Env):List Addr:=l.filterMap (·.frame)
abbrev Cx.fs(X:Cx):List Addr:=frs X.outer
def Vis(sc:Scope)(x:Str):Prop:=sc.names.lookup x=some .local\/sc.names.lookup x=some .cell\/sc.names.lookup x=some .free
def Loc(sc:Scope)(x:Str):Prop:=sc.names.lookup x=some .local\/sc.names.lookup x=some .cell
def Look(env:Env)(h:Heap)(m:Str->Option Value)(x:Str)(u:Value):Prop:=
 (env.kindOf x=some .local/\m x=some u)\/((env.kindOf x=some .cell\/env.kindOf x=some .free)/\∃c,env.cells.lookup x=some c/\h.IsCell c (some u))
structure Cx.Ok(X:Cx):Prop where
 mod:Mod X.K X.mg X.base
 kind:X.env.scope.kind = .function
 glob:X.env.globals=mainGlobals
 blt:X.env.builtins=builtinsNs
 above:X.s₀.heap.objs.size<=X.env.locals
 inj:∀x y c,X.env.cells.lookup x=some c->X.env.cells.lookup y=some c->x=y
 has:∀x,(X.env.kindOf x=some .cell\/X.env.kindOf x=some .free)->∃c,X.env.cells.lookup x=some c
 cab:∀x c,X.fn x=true->X.env.cells.lookup x=some c->X.s₀.heap.objs.size<=c
 hd:X.calm=true->X.A.handled=none
 frames:X.A.frames=some X.stack
 stk:X.stack=X.outer\/(X.stack=X.env::X.outer/\X.env.frame=some X.env.locals)
 exf:∀b ∈ X.ex,b≠X.env.locals/\∀x c,X.env.cells.lookup x=some c->c≠b
 bs:∀b o,X.base.get? b=some o->X.s₀.heap.get? b=some o/\X.H₀ b=none
 bsz:X.base.objs.size<=X.s₀.heap.objs.size
 noex:∀b o,X.base.get? b=some o->b ∉ X.ex
 exfs:∀b ∈ X.ex,b ∉ X.fs
 funs:X.s₀.heap.FunFrames X.base X.outer
 frf:∀b ∈ X.fs,X.H₀ b=none
structure Inv(X:Cx)(pins:List (Addr×Obj))(σ:List (Option V))(H:Hp)(s:Shared):Prop where
 ok:X.Ok
 os:s.os=X.s₀.os
 bare:AllBare s.gens
 base:Un X.fs X.ex X.H₀ H X.s₀.heap s.heap
 loc:∃m,s.heap.Ns X.env.locals m/\∀(i:Nat) (x:Str) (v:V),X.N[i]? = some x->σ[i]? = some (some v)->Vis X.env.scope x->∃u,RelV v u/\Look X.env s.heap m x u
 cell:∀x c,X.env.cells.lookup x=some c->∃v,s.heap.IsCell c v
 free:H X.env.locals=none
 freeC:∀x c,X.env.cells.lookup x=some c->H c=none
 pin:∀p ∈ X.pn++pins,s.heap.get? p.1=some p.2/\H p.1=none/\p.1≠X.env.locals/\p.1 ∉ X.fs/\∀v,p.2.data ≠ .cell v
 hok:HOk X.prog X.w H s.heap
 len:σ.length=X.N.length
section
variable{X:Cx}{pins:List (Addr×Obj)}{σ:List (Option V)}{H H':Hp}{s:Shared}{h':Heap}
theorem Cx.Ok.nofr(ok:X.Ok)(e:X.base.get? b=some o):b ∉ X.fs:=λhb=>by
 have:=(ok.funs.mem hb).1
 rw[e]at this;cases this
theorem Inv.bs(I:Inv X pins σ H s):∀b o,X.base.get? b=some o->s.heap.get? b=some o/\H b=none:=λb o e=>
 ⟨I.base.keep b o (I.ok.bs b o e).1 (I.ok.bs b o e).2 (I.ok.nofr e) (I.ok.noex b o e),I.base.free b o (I.ok.bs b o e).1 (I.ok.bs b o e).2 (I.ok.noex b o e)⟩
theorem Inv.bk(I:Inv X pins σ H s):∀b o,X.base.get? b=some o->s.heap.get? b=some o:=λb o e=>(I.bs b o e).1
theorem Inv.mod(I:Inv X pins σ H s):Mod X.K X.mg X.base:=I.ok.mod
theorem Inv.kIn(I:Inv X pins σ H s):X.K.In s.heap:=I.ok.mod.kin.keeps I.bk
theorem Inv.lt(I:Inv X pins σ H s):X.env.locals<s.heap.objs.size:=let⟨_,hn,_⟩:=I.loc;hn.lt
theorem Inv.sz(I:Inv X pins σ H s):X.s₀.heap.objs.size<=s.heap.objs.size:=zzM I.ok.above (Nat.le_of_lt I.lt)
theorem Inv.nofs(I:Inv X pins σ H s)(h:s.heap.objs.size<=a):a ∉ X.fs:=λhb=>by
 obtain⟨_,o,ho,_⟩:=I.ok.funs.mem hb
 exact absurd (zzI (zxH ho) (zzM I.sz h)) (Nat.lt_irrefl _)
theorem Inv.cne(I:Inv X pins σ H s):∀x c,X.env.cells.lookup x=some c->c≠X.env.locals:=λx c e z=>by
 obtain⟨v,o,ho,hd⟩:=I.cell x c e
 obtain⟨m,⟨o',es,ep,ho',hd',_⟩,_⟩:=I.loc
 rw[z,ho']at ho;cases ho;rw[hd']at hd;cases hd
theorem Inv.funs(I:Inv X pins σ H s):s.heap.FunFrames X.base X.outer:=by
 have all:∀(l:List Env),(∀b ∈ frs l,b ∈ X.fs)->X.s₀.heap.FunFrames X.base l->s.heap.FunFrames X.base l:=by
  intro l
  induction l with
  |nil=>intro _ _;trivial
  |cons env r ih=>
   intro hs hl
   obtain⟨hk,⟨L,o,hf,hn,ho,hd⟩,hr⟩:=hl
   have hL:L ∈ X.fs:=hs L (by unfold frs;rw[List.filterMap_cons,hf];exact zzD)
   obtain⟨sl,e⟩:=I.base.slot L o ho (I.ok.frf L hL) hL λz=>I.ok.exfs L z hL
   exact⟨hk,⟨L,_,hf,hn,e,hd⟩,ih (λb hb=>hs b (by unfold frs;rw[List.filterMap_cons,hf];exact zzB _ hb)) hr⟩
 exact all X.outer (λ_ hb=>hb) I.ok.funs
theorem Inv.stack(I:Inv X pins σ H s):s.heap.FunFrames X.base X.stack:=by
 rcases I.ok.stk with e|⟨e,hf⟩
 · rw[e];exact I.funs
 · rw[e]
   obtain⟨m,hn,_⟩:=I.loc
   refine .cons (by rw[I.ok.kind];decide) hf hn ?_ I.funs
   exact Heap.get?_none_of_le (zzM I.ok.bsz I.ok.above)
theorem Inv.stkSub(I:Inv X pins σ H s):∀b ∈ frs X.stack,b ∈ X.env.locals::X.fs:=λb hb=>by
 rcases I.ok.stk with e|⟨e,hf⟩
 · rw[e]at hb;exact zzB _ hb
 · rw[e]at hb
   unfold frs at hb
   rw[List.filterMap_cons,hf]at hb
   exact hb
theorem Inv.stkFree(I:Inv X pins σ H s):∀b ∈ frs X.stack,H b=none:=λb hb=>by
 rcases zzA.mp (I.stkSub b hb)with e|hb
 · rw[e];exact I.free
 · obtain⟨_,o,ho,_⟩:=I.ok.funs.mem hb
   exact I.base.free b o ho (I.ok.frf b hb) λz=>I.ok.exfs b z hb
theorem Inv.step{g':Array GenState}{t':Nat}{d':Drawn}{ch:List Addr}(I:Inv X pins σ H s)
 (hch:∀b ∈ ch,(b ∈ X.ex\/X.s₀.heap.objs.size<=b)/\b≠X.env.locals/\(∀x c,X.env.cells.lookup x=some c->c≠b)/\∀p ∈ X.pn++pins,p.1≠b)
 (keep:∀b o,b≠X.env.locals->b ∉ X.fs->b ∉ ch->s.heap.get? b=some o->H b=none->h'.get? b=some o)
 (slot:∀b o,b≠X.env.locals->b ∈ X.fs->b ∉ ch->s.heap.get? b=some o->H b=none->∃sl,h'.get? b=some {o with slots:=sl}) (free:∀b o,b ∉ ch->s.heap.get? b=some o->H b=none->H' b=none)
 (there:∀b o,b ∉ ch->s.heap.get? b=some o->∃o',h'.get? b=some o')
 (tups:∀b xs,H b=some (.tup xs)->H' b=some (.tup xs)) (frzs:∀b o u,H b=some (.frz o u)->H' b=some (.frz o u)) (tbls:∀b ps,H b=some (.tbl ps)->∃more,H' b=some (.tbl (ps++more)))
 (ns:∀m,s.heap.Ns X.env.locals m->h'.Ns X.env.locals m) (hok:HOk X.prog X.w H' h') (hg:AllBare g'):
 Inv X pins σ H' {s with heap:=h',gens:=g',drawn:=d',toks:=t'}:=by
 have neL:∀b o,X.s₀.heap.get? b=some o->b≠X.env.locals:=λb o e=>zzO (zzI (zxH e) I.ok.above)
 have neC:∀b o,X.s₀.heap.get? b=some o->b ∉ X.ex->b ∉ ch:=λb o e hx hb=>by
  rcases(hch b hb).1 with z|z
  · exact hx z
  · exact absurd (zzI (zxH e) z) (Nat.lt_irrefl _)
 have cellK:∀x c,X.env.cells.lookup x=some c->∀v,s.heap.IsCell c v->h'.IsCell c v:=λx c e v ⟨o,ho,hd⟩=>by
  have nch:c ∉ ch:=λz=>(hch c z).2.2.1 x c e rfl
  by_cases hc:c ∈ X.fs
  · obtain⟨sl,q⟩:=slot c o (I.cne x c e) hc nch ho (I.freeC x c e)
    exact⟨_,q,hd⟩
  · exact⟨o,keep c o (I.cne x c e) hc nch ho (I.freeC x c e),hd⟩
 refine⟨I.ok,I.os,hg,⟨λb o e n hb hx=>?_,λb o e n hb hx=>?_,λb o e n hx=>?_,λb o e hx=>?_,λb xs e=>tups b xs (I.base.tups b xs e),λb o xs e=>frzs b o xs (I.base.frzs b o xs e),λb ps e=>?_⟩, ?_,λx c e=>?_, ?_,λx c e=>?_,λp hp=>?_,hok,I.len⟩
 · exact keep b o (neL b o e) hb (neC b o e hx) (I.base.keep b o e n hb hx) (I.base.free b o e n hx)
 · obtain⟨sl,e1⟩:=I.base.slot b o e n hb hx
   obtain⟨sl',e2⟩:=slot b _ (neL b o e) hb (neC b o e hx) e1 (I.base.free b o e n hx)
   exact⟨sl',e2⟩
 · obtain⟨o',e1⟩:=I.base.there b o e hx
   exact free b o' (neC b o e hx) e1 (I.base.free b o e n hx)
 · obtain⟨o',e1⟩:=I.base.there b o e hx
   exact there b o' (neC b o e hx) e1
 · obtain⟨m1,e1⟩:=I.base.tbls b ps e
   obtain⟨m2,e2⟩:=tbls b _ e1
   exact⟨m1++m2,by rw[e2,Array.append_assoc]⟩
 · obtain⟨m,hn,hl⟩:=I.loc
   refine⟨m,ns m hn,λi x v e1 e2 e3=>?_⟩
   obtain⟨u,r,l⟩:=hl i x v e1 e2 e3
   refine⟨u,r, ?_⟩
   rcases l with l|⟨k,c,e,z⟩
   · exact .inl l
   · exact .inr ⟨k,c,e,cellK x c e _ z⟩
 · obtain⟨v,z⟩:=I.cell x c e
   exact⟨v,cellK x c e v z⟩
 · obtain⟨m,⟨o,_,_,ho,_⟩,_⟩:=I.loc
   exact free _ o (λz=>(hch _ z).2.1 rfl) ho I.free
 · obtain⟨v,o,ho,hd⟩:=I.cell x c e
   exact free c o (λz=>(hch c z).2.2.1 x c e rfl) ho (I.freeC x c e)
 · obtain⟨e,n,ne,nf,d⟩:=I.pin p hp
   have nch:p.1 ∉ ch:=λz=>(hch p.1 z).2.2.2 p hp rfl
   exact⟨keep p.1 p.2 ne nf nch e n,free p.1 p.2 nch e n,ne,nf,d⟩
theorem Inv.un{t':Nat}(I:Inv X pins σ H s)(u:Un X.fs [] H H' s.heap h')(hok:HOk X.prog X.w H' h'):Inv X pins σ H' {s with heap:=h',toks:=t'}:=by
 obtain⟨m,⟨o,es,ep,ho,r⟩,_⟩:=id I.loc
 obtain⟨sl,hL⟩:=u.any ho I.free (by simp)
 exact I.step (g':=s.gens) (d':=s.drawn) (ch:=[]) (λ_ z=>nomatch z) (λb o _ hb _ e n=>u.keep b o e n hb (by simp)) (λb o _ hb _ e n=>u.slot b o e n hb (by simp)) (λb o _ e n=>u.free b o e n (by simp)) (λb o _ e=>u.there b o e (by simp)) u.tups u.frzs u.tbls (λm' hm=>by
  obtain⟨o',es',ep',ho',r'⟩:=hm
  rw[ho]at ho';cases ho'
  exact⟨_,es',ep',hL,r'⟩) hok I.bare
theorem Inv.call{g':Array GenState}{t':Nat}{d':Drawn}{ch:List Addr}(I:Inv X pins σ H s)(u:Un (frs X.stack) ch H H' s.heap h')(hok:HOk X.prog X.w H' h')(hg:AllBare g')
 (hch:∀b ∈ ch,(b ∈ X.ex\/X.s₀.heap.objs.size<=b)/\b≠X.env.locals/\(∀x c,X.env.cells.lookup x=some c->c≠b)/\∀p ∈ X.pn++pins,p.1≠b):
 Inv X pins σ H' {s with heap:=h',gens:=g',drawn:=d',toks:=t'}:=by
 obtain⟨m,⟨o,es,ep,ho,r⟩,_⟩:=id I.loc
 obtain⟨sl,hL⟩:=u.any ho I.free λz=>(hch _ z).2.1 rfl
 exact I.step (ch:=ch) hch (λb o hL hb hc e n=>u.keep b o e n (λz=>(zzA.mp (I.stkSub b z)).elim hL hb) hc) (λb o _ _ hc e n=>u.any e n hc) (λb o hc e n=>u.free b o e n hc) (λb o hc e=>u.there b o e hc) u.tups u.frzs u.tbls (λm' hm=>by
  obtain⟨o',es',ep',ho',r'⟩:=hm
  rw[ho]at ho';cases ho'
  exact⟨_,es',ep',hL,r'⟩) hok hg
theorem Inv.turned{t':Nat}{it:Addr}(I:Inv X pins σ H s)(k:∀b o,b≠it->s.heap.get? b=some o->h'.get? b=some o)(hn:H it=none)(hL:it≠X.env.locals)
 (h1:it ∈ X.ex\/X.s₀.heap.objs.size<=it) (h2:∀x c,X.env.cells.lookup x=some c->c≠it) (h3:∀p ∈ X.pn++pins,p.1≠it):Inv X pins σ H {s with heap:=h',toks:=t'}:=by
 have nit:∀b u,H b=some u->b≠it:=λb u e z=>by rw[z,hn]at e;cases e
 refine I.step (g':=s.gens) (d':=s.drawn) (ch:=[it]) (λb hb=>?_) (λb o _ _ hc e _=>k b o (λz=>hc (by simp[z])) e) (λb o _ _ hc e _=>⟨o.slots,k b o (λz=>hc (by simp[z])) e⟩) (λ_ _ _ _ n=>n)
  (λb o hc e=>⟨o,k b o (λz=>hc (by simp[z])) e⟩) (λ_ _ e=>e) (λ_ _ _ e=>e) (λb ps e=>⟨#[],by rw[e];simp⟩) (λm hm=>?_) (λb u e=>?_) I.bare
 · have e:b=it:=by simpa using hb
   subst e
   exact⟨h1,hL,h2,h3⟩
 · obtain⟨o,es,ep,ho,r⟩:=hm
   exact⟨o,es,ep,k _ o (Ne.symm hL) ho,r⟩
 · refine(I.hok b u e).stay (λc v hc q=>k c v ?_ q) (λ_ q=>q) λ_ _ q=>q
   rcases hc with z|z
   · rw[z];exact nit b u e
   · exact nit c _ z
theorem Inv.tok(I:Inv X pins σ H s)(t:Nat):Inv X pins σ H {s with toks:=t}:=I.un (h':=s.heap) (t':=t) Un.refl I.hok
theorem Inv.kept(I:Inv X pins σ H s)(k:∀b u,s.heap.get? b=some u->h'.get? b=some u):Inv X pins σ H {s with heap:=h',toks:=t'}:=I.un (Un.kept k) (I.hok.kept k)
theorem Inv.laid(I:Inv X pins σ H s)(k:∀b u,s.heap.get? b=some u->h'.get? b=some u)(hp:s.heap.objs.size<=a)(new:Zj X.prog X.w (upd H a o) h' a o):
 Inv X pins σ (upd H a o) {s with heap:=h',toks:=t'}:=I.un (Un.laid k hp (I.hok.fresh hp)) (I.hok.laid k hp new)
theorem Inv.write(I:Inv X pins σ H s)(mu:Mut (H x))(he:e=x\/H e=some (.own x))(k:∀b u,b≠e->s.heap.get? b=some u->h'.get? b=some u)(heo:∃u,h'.get? e=some u)
 (new:Zj X.prog X.w (upd H x o) h' x o):Inv X pins σ (upd H x o) {s with heap:=h',toks:=t'}:=I.un (Un.write mu he k heo) (I.hok.write mu he k heo new)
theorem Inv.weak(I:Inv X pins σ H s)(hl:σ'.length=σ.length)(w:∀(i:Nat) v,σ'[i]? = some (some v)->σ[i]? = some (some v)):Inv X pins σ' H s:=
 ⟨I.ok,I.os,I.bare,I.base,let⟨m,hn,hl'⟩:=I.loc;⟨m,hn,λi x v e1 e2 e3=>hl' i x v e1 (w i v e2) e3⟩,I.cell,I.free,I.freeC,I.pin,I.hok,hl.trans I.len⟩
theorem Inv.pins_of(I:Inv X pins σ H s)(h:∀p ∈ pins',s.heap.get? p.1=some p.2/\H p.1=none/\p.1≠X.env.locals/\p.1 ∉ X.fs/\∀v,p.2.data ≠ .cell v):Inv X pins' σ H s:=
 ⟨I.ok,I.os,I.bare,I.base,I.loc,I.cell,I.free,I.freeC,λp hp=>(zzK.mp hp).elim (λz=>I.pin p (zzN _ z)) (h p),I.hok,I.len⟩
theorem zkQ{N:List Str}(hN:N.Nodup){i j:Nat}{x:Str}(a:N[i]? = some x)(b:N[j]? = some x):i=j:=by
 obtain⟨h1,e1⟩:=zzE.mp a
 obtain⟨h2,e2⟩:=zzE.mp b
 exact(List.getElem_inj hN).mp (e1.trans e2.symm)
theorem zhM{M:Model}{A:Around}{E:Value->Shared->Prop}{i:Nat}{x:Str}{v:V}{u:Value}{Q:Unit->Shared->Prop}(I:Inv X pins σ H s)(hN:X.N.Nodup)(hi:X.N[i]? = some x)(hx:Loc X.env.scope x)(r:RelV v u)
 (h:∀s',Inv X pins (σ.set i (some v)) H s'->(∃a,Heap.SameBut a s.heap s'.heap/\(a=X.env.locals\/X.env.cells.lookup x=some a))->Q () s') (hf:X.fn x=true\/X.env.scope.names.lookup x=some .local:=by first|exact .inl rfl|exact .inr rfl|assumption):wpAny M A (storeName X.env x u) Q E s:=by
 obtain⟨m,hn,hl⟩:=id I.loc
 have hcls:(X.env.scope.kind == .class||(X.env.scope.kind == .module&&X.env.locals != X.env.globals))=false:=by rw[I.ok.kind];rfl
 have hiσ:i<σ.length:=by rw[I.len];exact(zzE.mp hi).1
 have cne:=I.cne
 have tracked:∀{a:Addr}{h':Heap},(∃o,s.heap.get? a=some o/\H a=none)->Heap.SameBut a s.heap h'->HOk X.prog X.w H h':=λ{a h'} ha hs b ob e=>by
  obtain⟨_,_,hfree⟩:=ha
  refine(I.hok b ob e).stay (λc w' hc q=>(hs.2 c ?_).trans q) (λ_ q=>q) λ_ _ q=>q
  rintro rfl
  rcases hc with rfl|hc
  · rw[hfree]at e;cases e
  · rw[hfree]at hc;cases hc
 rcases hx with hk|hk
 · refine wpAny_storeName_local hk hn (λh' hn' hs=>?_) hcls
   obtain⟨oL,_,_,hoL,_⟩:=id hn
   refine h _ ⟨I.ok,I.os,I.bare,⟨λb o e n hb hx=>?_,λb o e n hb hx=>?_,I.base.free,λb o e hx=>?_,I.base.tups,I.base.frzs,I.base.tbls⟩,⟨_,hn',λj y v' e1 e2 e3=>?_⟩,λy c e=>?_,I.free,I.freeC,λp hp=>?_,tracked ⟨oL,hoL,I.free⟩ hs,by simpa using I.len⟩ ⟨_,hs,.inl rfl⟩
   · exact(hs.2 b (zzO (zzI (zxH e) I.ok.above))).trans (I.base.keep b o e n hb hx)
   · obtain⟨sl,e1⟩:=I.base.slot b o e n hb hx
     exact⟨sl,(hs.2 b (zzO (zzI (zxH e) I.ok.above))).trans e1⟩
   · obtain⟨o',e1⟩:=I.base.there b o e hx
     exact⟨o',(hs.2 b (zzO (zzI (zxH e) I.ok.above))).trans e1⟩
   · by_cases hj:j=i
     · subst hj
       rw[hi]at e1;cases e1
       rw[zyI hiσ]at e2
       cases e2
       exact⟨u,r,.inl ⟨hk,by simp⟩⟩
     · rw[zzW (Ne.symm hj)]at e2
       obtain⟨u',r',q⟩:=hl j y v' e1 e2 e3
       refine⟨u',r', ?_⟩
       rcases q with⟨k,e⟩|⟨k,c,e,z⟩
       · refine .inl ⟨k, ?_⟩
         have:y≠x:=λe=>hj (zkQ hN e1 (e ▸ hi))
         simp[this,e]
       · exact .inr ⟨k,c,e,z.sameBut hs (cne y c e)⟩
   · obtain⟨w',z⟩:=I.cell y c e
     exact⟨w',z.sameBut hs (cne y c e)⟩
   · obtain⟨e,n,ne,nf,d⟩:=I.pin p hp
     exact⟨(hs.2 p.1 ne).trans e,n,ne,nf,d⟩
 · have hfn:X.fn x=true:=by
    rcases hf with z|z
    · exact z
    · rw[z]at hk;cases hk
   obtain⟨c,hc⟩:=I.ok.has x (.inl hk)
   obtain⟨w',z⟩:=I.cell x c hc
   refine wpAny_storeName_cell I.ok.kind hk hc z (λh' hc' hs=>?_)
   obtain⟨oc,hoc,hocd⟩:=id z
   refine h {s with heap:=h'} ⟨I.ok,I.os,I.bare,⟨λb o e n hb hx=>?_,λb o e n hb hx=>?_,I.base.free,λb o e hx=>?_,I.base.tups,I.base.frzs,I.base.tbls⟩,⟨m,hn.sameBut hs (Ne.symm (cne x c hc)),λj y v' e1 e2 e3=>?_⟩,λy c' e=>?_,I.free,I.freeC,λp hp=>?_,tracked ⟨oc,hoc,I.freeC x c hc⟩ hs,by simpa using I.len⟩ ⟨c,hs,.inr hc⟩
   · exact(hs.2 b (zzO (zzI (zxH e) (I.ok.cab x c hfn hc)))).trans (I.base.keep b o e n hb hx)
   · obtain⟨sl,e1⟩:=I.base.slot b o e n hb hx
     exact⟨sl,(hs.2 b (zzO (zzI (zxH e) (I.ok.cab x c hfn hc)))).trans e1⟩
   · obtain⟨o',e1⟩:=I.base.there b o e hx
     exact⟨o',(hs.2 b (zzO (zzI (zxH e) (I.ok.cab x c hfn hc)))).trans e1⟩
   · by_cases hj:j=i
     · subst hj
       rw[hi]at e1;cases e1
       rw[zyI hiσ]at e2
       cases e2
       exact⟨u,r,.inr ⟨.inl hk,c,hc,hc'⟩⟩
     · rw[zzW (Ne.symm hj)]at e2
       obtain⟨u',r',q⟩:=hl j y v' e1 e2 e3
       refine⟨u',r', ?_⟩
       rcases q with q|⟨k,c',e,z'⟩
       · exact .inl q
       · refine .inr ⟨k,c',e,z'.sameBut hs ?_⟩
         rintro rfl
         exact hj (zkQ hN e1 (I.ok.inj _ _ _ e hc ▸ hi))
   · by_cases hcc:c'=c
     · subst hcc;exact⟨_,hc'⟩
     · obtain⟨w2,z2⟩:=I.cell y c' e
       exact⟨w2,z2.sameBut hs hcc⟩
   · obtain⟨e,n,ne,nf,d⟩:=I.pin p hp
     refine⟨(hs.2 p.1 ?_).trans e,n,ne,nf,d⟩
     intro q
     rw[q,hoc]at e
     have q':oc=p.2:=zzX e
     exact d w' (by rw[<-q'];exact hocd)
theorem zkb(I:Inv X pins σ H s)(hN:X.N.Nodup)(hi:X.N[i]? = some x)(hx:Loc X.env.scope x)(r:RelV v u)
 (h:∀s',Inv X pins (σ.set i (some v)) H s'->Q () s') (hf:X.fn x=true\/X.env.scope.names.lookup x=some .local:=by first|exact .inl rfl|exact .inr rfl|assumption):wpAny M A (storeName X.env x u) Q E s:=
 zhM I hN hi hx r (λs' I' _=>h s' I') hf
theorem Inv.call'(I:Inv X pins σ H s)(ho:s'.os=s.os)(u:Un (frs X.stack) ch H H' s.heap s'.heap)(hok:HOk X.prog X.w H' s'.heap)(hg:AllBare s'.gens)
 (hch:∀b ∈ ch,(b ∈ X.ex\/X.s₀.heap.objs.size<=b)/\b≠X.env.locals/\(∀x c,X.env.cells.lookup x=some c->c≠b)/\∀p ∈ X.pn++pins,p.1≠b):Inv X pins σ H' s':=by
 obtain⟨h',g',d',t',o'⟩:=s'
 have e:o'=s.os:=ho
 subst e
 exact I.call (g':=g') (t':=t') (d':=d') u hok hg hch
end
abbrev XK:=Value->Option Addr->Hp->Prop
abbrev St:=List (Option V)
abbrev VK:=V->Hp->Prop
abbrev TE:=St->Hp->VK->Prop
abbrev TT:=St->Hp->(Bool->Hp->Prop)->Prop
abbrev TA:=St->Hp->(List V->Hp->Prop)->Prop
structure Ends where
 nx:St->Hp->Prop
 rt:VK
 bk:St->Hp->Prop:=λ_ _=>False
 ct:St->Hp->Prop:=λ_ _=>False
abbrev TS:=Ends->St->Hp->Prop
def EP(X:Cx)(pins:List (Addr×Obj))(σ:St)(Q:VK)(u:Value)(s':Shared):Prop:=∃v H',Inv X pins σ H' s'/\RelV v u/\Q v H'
def TP(X:Cx)(pins:List (Addr×Obj))(σ:St)(Q:Bool->Hp->Prop)(b:Bool)(s':Shared):Prop:=∃H',Inv X pins σ H' s'/\Q b H'
def AP(X:Cx)(pins:List (Addr×Obj))(σ:St)(Q:List V->Hp->Prop)(us:List Value)(s':Shared):Prop:=∃vs H',Inv X pins σ H' s'/\Vals vs us/\Q vs H'
def SP(X:Cx)(pins:List (Addr×Obj))(D:Ends)(f:Flow)(s':Shared):Prop:=
 match f with
 | .next=>∃σ' H',Inv X pins σ' H' s'/\D.nx σ' H'
 | .brk=>∃σ' H',Inv X pins σ' H' s'/\D.bk σ' H'
 | .cont=>∃σ' H',Inv X pins σ' H' s'/\D.ct σ' H'
 | .ret u=>∃v σ' H',Inv X pins σ' H' s'/\RelV v u/\D.rt v H'
def PE(X:Cx)(e:Expr)(t:TE):Prop:=
 ∀(pins:List (Addr×Obj)) (s:Shared) (σ:St) (H:Hp) (Q:VK),Inv X pins σ H s->t σ H Q->wpAny (model X.prog X.w) X.A (eval e X.env) (EP X pins σ Q) X.xe s
def PT(X:Cx)(e:Expr)(t:TT):Prop:=
 ∀(pins:List (Addr×Obj)) (s:Shared) (σ:St) (H:Hp) (Q:Bool->Hp->Prop),Inv X pins σ H s->t σ H Q->wpAny (model X.prog X.w) X.A (isTrue e X.env (eval e X.env)) (TP X pins σ Q) X.xe s
def PW(X:Cx)(e:Expr)(t:TT):Prop:=
 ∀(whole:Sem Value) (pins:List (Addr×Obj)) (s:Shared) (σ:St) (H:Hp) (Q:Bool->Hp->Prop),Inv X pins σ H s->t σ H Q->wpAny (model X.prog X.w) X.A (isTrue e X.env whole) (TP X pins σ Q) X.xe s
theorem PW.pt(h:PW X e t):PT X e t:=h _
def PA(X:Cx)(es:List Expr)(t:TA):Prop:=
 ∀(pos:Pos) (pins:List (Addr×Obj)) (s:Shared) (σ:St) (H:Hp) (Q:List V->Hp->Prop),Inv X pins σ H s->t σ H Q->wpAny (model X.prog X.w) X.A (spliced (backTo pos (starEach es X.env))) (AP X pins σ Q) X.xe s
def PS(X:Cx)(st:Stmt)(t:TS):Prop:=
 ∀(pins:List (Addr×Obj)) (s:Shared) (σ:St) (H:Hp) (D:Ends),Inv X pins σ H s->t D σ H->wpAny (model X.prog X.w) X.A (exec st X.env) (SP X pins D) X.xe s
def PSs(X:Cx)(st:List Stmt)(t:TS):Prop:=
 ∀(pins:List (Addr×Obj)) (s:Shared) (σ:St) (H:Hp) (D:Ends),Inv X pins σ H s->t D σ H->wpAny (model X.prog X.w) X.A (execs st X.env) (SP X pins D) X.xe s
theorem thn(h:wpAny M A t Q E s)(hQ:∀a s,Q a s->Q' a s):wpAny M A t Q' E s:=zxR h hQ λ_ _ x=>x
end L2
namespace L2
open PySem PySem.Spec PyProof.Rows
section
variable{X:Cx}
def zhg(i:Nat):TE:=λσ H Q=>∃v,σ[i]? = some (some v)/\Q v H
def tC(v:V):TE:=λ_ H Q=>Q v H
theorem zph(hN:X.N[i]? = some x)(hv:Vis X.env.scope x)(hd:(x==("__debug__":Str))=false:=by decide)(hcd:(x==("__classdict__":Str))=false:=by decide):PE X (.Name x pos) (zhg i):=by
 intro pins s σ H Q I h
 obtain⟨v,e,h⟩:=h
 obtain⟨m,hn,hl⟩:=I.loc
 obtain⟨u,r,l⟩:=hl i x v hN e hv
 have fin:EP X pins σ Q u s:=⟨v,H,I,r,h⟩
 rcases l with⟨hk,hm⟩|⟨hk,c,hc,hcell⟩
 · exact wpAny_Name (wpAny_loadName_local I.ok.kind hk hn hm fin) hd
 · rcases hk with hk|hk
   · exact wpAny_Name (wpAny_loadName_cell I.ok.kind hk hc hcell fin) hd
   · exact wpAny_Name (wpAny_loadName_free I.ok.kind hk hc hcell fin hcd) hd
theorem zsZ:PE X (.Constant (.int i) j pos) (tC (.int i)):=λ_ _ _ H _ I h=>wpAny_Constant_int ⟨.int i,H,I.tok _,⟨_,rfl⟩,h⟩
theorem zvN:PE X (.Constant (.bool b) j pos) (tC (.bl b)):=λ_ _ _ H _ I h=>Constant_bool ⟨.bl b,H,I,rfl,h⟩
theorem zsN:PE X (.Constant .none j pos) (tC .non):=λ_ _ _ H _ I h=>Constant_none ⟨.non,H,I,rfl,h⟩
theorem zuu:PE X (.Constant (.str x) j pos) (tC (.str x)):=λ_ _ _ H _ I h=>Calls.Constant_str ⟨.str x,H,I.tok _,⟨_,rfl⟩,h⟩
def Gl(X:Cx)(x:Str):Prop:=X.env.kindOf x=some .globalImplicit
theorem zmn(I:Inv X pins σ H s)(hg:Gl X x)(hm:X.mg x=some u)(h:Q u s)
 (hd:(x==("__debug__":Str))=false:=by decide):wpAny (model X.prog X.w) X.A (eval (.Name x pos) X.env) Q E s:=
 Calls.Name_function_global I.ok.kind hg (Calls.loadGlobal_global (by rw[I.ok.glob];exact I.mod.glob.keeps I.bk) hm h) hd
theorem zci(I:Inv X pins σ H s)(hg:Gl X x)(hm:X.mg x=none)(hv:bootBuiltins x=some u)(h:Q u s)
 (hn:x≠"__name__":=by decide) (hd:(x==("__debug__":Str))=false:=by decide):wpAny (model X.prog X.w) X.A (eval (.Name x pos) X.env) Q E s:=by
 obtain⟨mb,h1,h2⟩:=I.mod.blt
 exact Calls.Name_function_global I.ok.kind hg (Calls.loadGlobal_builtin (by rw[I.ok.glob];exact I.mod.glob.keeps I.bk) hm (by rw[I.ok.blt];exact h1.keeps I.bk) ((h2 x hn).trans hv) h) hd
theorem zqX(hg:Gl X x)(hm:X.mg x=none)(hv:bootBuiltins x=some u)(r:RelV v u)(hn:x≠"__name__":=by decide)(hd:(x==("__debug__":Str))=false:=by decide):PE X (.Name x pos) (tC v):=
 λ_ _ _ H _ I h=>zci I hg hm hv ⟨v,H,I,r,h⟩ hn hd
variable{a b:Expr}{ta tb:TE}{pos:Pos}
variable{tA tB':TT}{rest:List Expr}
def zwi(t u:TT):TT:=λσ H Q=>t σ H λc H1=>if c=true then u σ H1 Q else Q false H1
def tOr(t u:TT):TT:=λσ H Q=>t σ H λc H1=>if c=true then Q true H1 else u σ H1 Q
def zvP(t:TT):TT:=λσ H Q=>t σ H λc H1=>Q (!c) H1
theorem zqF(ha:PT X a tA):PW X (.BoolOp .And [a] pos) tA:=by
 intro wh pins s σ H Q I h
 refine isTrue_and (thn (ha pins s σ H Q I h) λc s1 e=>?_)
 cases c with
 |true=>exact isTrue_and_nil e
 |false=>exact e
theorem ztp(ha:PT X a tA):PW X (.BoolOp .Or [a] pos) tA:=by
 intro wh pins s σ H Q I h
 refine isTrue_or (thn (ha pins s σ H Q I h) λc s1 e=>?_)
 cases c with
 |false=>exact isTrue_or_nil e
 |true=>exact e
theorem zum(ha:PT X a tA)(hb:PW X (.BoolOp .And (b::rest) pos) tB'):PW X (.BoolOp .And (a::b::rest) pos) (zwi tA tB'):=by
 intro wh pins s σ H Q I h
 refine isTrue_and (thn (ha pins s σ H _ I h) λc s1 ⟨H1,I1,q1⟩=>?_)
 cases c with
 |true=>exact hb wh pins s1 σ H1 Q I1 q1
 |false=>exact⟨H1,I1,q1⟩
theorem zvd(ha:PT X a tA)(hb:PW X (.BoolOp .Or (b::rest) pos) tB'):PW X (.BoolOp .Or (a::b::rest) pos) (tOr tA tB'):=by
 intro wh pins s σ H Q I h
 refine isTrue_or (thn (ha pins s σ H _ I h) λc s1 ⟨H1,I1,q1⟩=>?_)
 cases c with
 |true=>exact⟨H1,I1,q1⟩
 |false=>exact hb wh pins s1 σ H1 Q I1 q1
theorem ztM(ha:PT X a tA):PT X (.UnaryOp .Not a pos) (zvP tA):=by
 intro pins s σ H Q I h
 exact isTrue_not (ha pins s σ H (λc H1=>Q (!c) H1) I h)
def zvn(ta tb:TE):TE:=λσ H Q=>ta σ H λx H1=>∃c,x = .bl c/\if c=true then tb σ H1 Q else Q (.bl false) H1
def zvg(ta:TE):TE:=λσ H Q=>ta σ H λx H1=>∃c,x = .bl c/\Q (.bl (!c)) H1
theorem zsP(h:PE X a t):PE X (.BoolOp op [a] pos) t:=λpins s σ H Q I hw=>BoolOp_one (h pins s σ H Q I hw)
theorem zul(ha:PE X a ta)(hb:PE X (.BoolOp .And (b::rest) pos) tb):PE X (.BoolOp .And (a::b::rest) pos) (zvn ta tb):=by
 intro pins s σ H Q I h
 refine BoolOp_and (thn (ha pins s σ H _ I h) λv s1 ⟨x,H1,I1,r1,q1⟩=>?_)
 obtain⟨c,rfl,q1⟩:=q1
 cases r1
 refine wpAny_truthy_bool ?_
 cases c with
 |true=>exact hb pins s1 σ H1 Q I1 q1
 |false=>exact⟨.bl false,H1,I1,rfl,q1⟩
theorem zsL(ha:PE X a ta):PE X (.UnaryOp .Not a pos) (zvg ta):=by
 intro pins s σ H Q I h
 refine UnaryOp_ (thn (ha pins s σ H _ I h) λv s1 ⟨x,H1,I1,r1,q1⟩=>?_)
 obtain⟨c,rfl,q1⟩:=q1
 cases r1
 exact not_of (wpAny_truthy_bool ⟨.bl (!c),H1,I1,rfl,q1⟩)
def tIf(t:TT)(ta tb:TE):TE:=λσ H Q=>t σ H λc H1=>if c=true then ta σ H1 Q else tb σ H1 Q
theorem zpI(hc:PT X c tA)(ha:PE X a ta)(hb:PE X b tb):PE X (.IfExp c a b pos) (tIf tA ta tb):=by
 intro pins s σ H Q I h
 refine wpAny_IfExp (thn (hc pins s σ H _ I h) λd s1 ⟨H1,I1,q1⟩=>?_)
 cases d with
 |true=>exact ha pins s1 σ H1 Q I1 q1
 |false=>exact hb pins s1 σ H1 Q I1 q1
end
end L2
namespace L2
open PySem PySem.Spec PyProof.Rows
def SqL(K:zD)(H:Hp)(a:Addr)(xs:List V):Prop:=
 Rd H a (.lst xs) \/
  ∃(o:Obj) (its:Array Value) (n:Nat),K.lookup a=some o/\o.cls = .type "list"/\o.dict=none/\o.data = .seq its n/\its.size<=sizeLine/\Vals xs its.toList
def RdL(K:zD)(H:Hp)(a:Addr)(xs:List V):Prop:=
 Rd H a (.lst xs)\/∃(its:Array Value) (n:Nat),K.lookup a=some {cls:=.type "list",data:=.seq its n}/\its.size<=sizeLine/\Vals xs its.toList
def SqT(K:zD)(H:Hp)(a:Addr)(xs:List V):Prop:=
 Rd H a (.tup xs) \/
  ∃(o:Obj) (its:Array Value) (n:Nat),K.lookup a=some o/\o.cls = .type "tuple"/\o.data = .seq its n/\its.size<=sizeLine/\Vals xs its.toList
def zvO:Value->Option V
 | .none=>some .non
 | .bool b=>some (.bl b)
 | .int i _=>some (.int i)
 | .str x _=>some (.str x)
 | .bytes b _=>some (.byt b)
 | .float b _=>some (.flt b)
 | .ref a=>some (.ref a)
 | .type n=>some (.ty n)
 |_=>none
theorem RelV.abs(r:RelV x u):zvO u=some x:=by
 cases x with
 |non=>cases r;rfl
 |bl _=>cases r;rfl
 |int _=>obtain⟨t,rfl⟩:=r;rfl
 |str _=>obtain⟨t,rfl⟩:=r;rfl
 |byt _=>obtain⟨t,rfl⟩:=r;rfl
 |flt _=>obtain⟨t,rfl⟩:=r;rfl
 |ref _=>cases r;rfl
 |ty _=>cases r;rfl
theorem RelV.inj(r:RelV x u)(q:RelV y u):x=y:=zzX (r.abs.symm.trans q.abs)
theorem Vals.inj:∀{xs ys:List V}{us:List Value},Vals xs us->Vals ys us->xs=ys
 |_,_,_,.nil,.nil=>rfl
 |_,_,_,.cons r t,.cons r' t'=>by rw[r.inj r',Vals.inj t t']
section
variable{X:Cx}{pins:List (Addr×Obj)}{σ:St}{H:Hp}{s:Shared}{a:Addr}{xs ys:List V}
theorem Inv.list(I:Inv X pins σ H s)(h:SqL X.K H a xs):∃its:List Value,Vals xs its/\PlainL s.heap a its.toArray/\xs.length<=sizeLine:=by
 rcases h with h|⟨o,its,n,hk,hc,hd,hs,hz,r⟩
 · obtain⟨z,its,n,r,e⟩:=h.ok I.hok
   exact⟨its,r,⟨_,n,e,rfl,rfl,rfl⟩,z⟩
 · refine⟨its.toList,r,⟨o,n,I.kIn a o hk,hc,hd,by simpa using hs⟩, ?_⟩
   have e:=r.length
   simp only[zyR]at e
   omega
theorem Inv.tuple(I:Inv X pins σ H s)(h:SqT X.K H a xs):∃its:List Value,Vals xs its/\IsTup s.heap a its.toArray/\xs.length<=sizeLine:=by
 rcases h with h|⟨o,its,n,hk,hc,hs,hz,r⟩
 · obtain⟨z,its,r,p⟩:=h.ok I.hok
   exact⟨its,r,p,z⟩
 · refine⟨its.toList,r,⟨o,I.kIn a o hk,hc,n,by simpa using hs⟩, ?_⟩
   have e:=r.length
   simp only[zyR]at e
   omega
theorem Inv.list_inj(I:Inv X pins σ H s)(h:SqL X.K H a xs)(h':SqL X.K H a ys):xs=ys:=by
 obtain⟨its,r,⟨o,n,e,_,_,d⟩,_⟩:=I.list h
 obtain⟨its',r',⟨o',n',e',_,_,d'⟩,_⟩:=I.list h'
 rw[e]at e';cases e'
 rw[d]at d'
 injection d' with d1 _
 have:its=its':=by simpa using congrArg Array.toList d1
 subst this
 exact r.inj r'
theorem Inv.tuple_inj(I:Inv X pins σ H s)(h:SqT X.K H a xs)(h':SqT X.K H a ys):xs=ys:=by
 obtain⟨its,r,⟨o,e,_,n,d⟩,_⟩:=I.tuple h
 obtain⟨its',r',⟨o',e',_,n',d'⟩,_⟩:=I.tuple h'
 rw[e]at e';cases e'
 rw[d]at d'
 injection d' with d1 _
 have:its=its':=by simpa using congrArg Array.toList d1
 subst this
 exact r.inj r'
end
abbrev Cx.wish(X:Cx)(E:Value->Shared->Prop):Cx:={X with xe:=E}
abbrev Cx.nox(X:Cx):Cx:=X.wish λ_ _=>False
theorem Cx.Ok.wish{X:Cx}(ok:X.Ok)(E:Value->Shared->Prop):(X.wish E).Ok:=
 ⟨ok.mod,ok.kind,ok.glob,ok.blt,ok.above,ok.inj,ok.has,ok.cab,ok.hd,ok.frames,ok.stk,ok.exf,ok.bs,ok.bsz,ok.noex,ok.exfs,ok.funs,ok.frf⟩
theorem Cx.Ok.unwish{X:Cx}{E:Value->Shared->Prop}(ok:(X.wish E).Ok):X.Ok:=
 ⟨ok.mod,ok.kind,ok.glob,ok.blt,ok.above,ok.inj,ok.has,ok.cab,ok.hd,ok.frames,ok.stk,ok.exf,ok.bs,ok.bsz,ok.noex,ok.exfs,ok.funs,ok.frf⟩
section
variable{X:Cx}{pins:List (Addr×Obj)}{σ:St}{H:Hp}{s:Shared}{E:Value->Shared->Prop}
theorem Inv.wish(I:Inv X pins σ H s)(E:Value->Shared->Prop):Inv (X.wish E) pins σ H s:=⟨I.ok.wish E,I.os,I.bare,I.base,I.loc,I.cell,I.free,I.freeC,I.pin,I.hok,I.len⟩
theorem Inv.unwish(I:Inv (X.wish E) pins σ H s):Inv X pins σ H s:=⟨I.ok.unwish,I.os,I.bare,I.base,I.loc,I.cell,I.free,I.freeC,I.pin,I.hok,I.len⟩
theorem SP.unwish(h:SP (X.wish E) pins D f s'):SP X pins D f s':=by
 cases f with
 |next=>obtain⟨σ',H',I,q⟩:=h;exact⟨σ',H',I.unwish,q⟩
 |brk=>obtain⟨σ',H',I,q⟩:=h;exact⟨σ',H',I.unwish,q⟩
 |cont=>obtain⟨σ',H',I,q⟩:=h;exact⟨σ',H',I.unwish,q⟩
 |ret u=>obtain⟨v,σ',H',I,r,q⟩:=h;exact⟨v,σ',H',I.unwish,r,q⟩
theorem PSs.nox{st:List Stmt}{t:TS}(h:PSs X.nox st t):PSs X st t:=λpins s σ H D I hw=>
 zxR (h pins s σ H D (I.wish _) hw) (λ_ _ q=>q.unwish) λ_ _ z=>False.elim z
end
section
variable{X:Cx}{st:Stmt}{rest:List Stmt}{t u:TS}{e:Expr}{te:TE}{pos:Pos}
def zvm:TS:=λD σ H=>D.nx σ H
def zwf(t u:TS):TS:=λD σ H=>t {D with nx:=u D} σ H
theorem znf:PSs X [] zvm:=λ_ _ σ H _ I h=>wpAny_execs_nil ⟨σ,H,I,h⟩
theorem zao(h1:PS X st t)(h2:PSs X rest u):PSs X (st::rest) (zwf t u):=by
 intro pins s σ H D I h
 refine wpAny_execs_cons (thn (h1 pins s σ H {D with nx:=u D} I h) λf s1 q=>?_)
 cases f with
 |next=>
  obtain⟨σ',H',I',q⟩:=q
  exact h2 pins s1 σ' H' D I' q
 |ret v=>exact q
 |brk=>exact q
 |cont=>exact q
theorem zfc(h1:PS X st t):PSs X [st] t:=by
 intro pins s σ H D I h
 refine wpAny_execs_cons (thn (h1 pins s σ H D I h) λf s1 q=>?_)
 cases f with
 |next=>exact wpAny_execs_nil q
 |ret v=>exact q
 |brk=>exact q
 |cont=>exact q
theorem Inv.quiet(I:Inv X pins σ H s):interactive X.env=false:=by simp[interactive,I.ok.kind]
def zvH(te:TE):TS:=λD σ H=>te σ H λ_ H1=>D.nx σ H1
theorem zfg(he:PE X e te)(hs:swapsWith e none pos.line X.env=pure false:=by rfl):PS X (.Expr e pos) (zvH te):=by
 intro pins s σ H D I h
 exact wpAny_Expr_any (thn (he pins s σ H _ I h) λv s1 ⟨x,H1,I1,r1,q1⟩=>⟨σ,H1,I1,q1⟩) I.quiet hs
def zwz(te:TE):TS:=λD σ H=>te σ H D.rt
theorem zuz(he:PE X e te):PS X (.Return (some e) pos) (zwz te):=by
 intro pins s σ H D I h
 exact wpAny_Return_some (thn (he pins s σ H _ I h) λv s1 ⟨x,H1,I1,r1,q1⟩=>⟨x,σ,H1,I1,r1,q1⟩)
def zuG:TS:=λD _ H=>D.rt .non H
theorem zrj:PS X (.Return none pos) zuG:=λ_ _ σ H _ I h=>wpAny_Return_none ⟨.non,σ,H,I,rfl,h⟩
def zwu(c:TT)(t u:TS):TS:=λD σ H=>c σ H λb H1=>if b=true then t D σ H1 else u D σ H1
theorem zsx(hc:PT X c tc)(ha:PSs X a t)(hb:PSs X b u):PS X (.If c a b pos) (zwu tc t u):=by
 intro pins s σ H D I h
 refine wpAny_If (thn (hc pins s σ H _ I h) λd s1 ⟨H1,I1,q1⟩=>?_)
 cases d with
 |true=>exact ha pins s1 σ H1 D I1 q1
 |false=>exact hb pins s1 σ H1 D I1 q1
end
abbrev TG:=V->St->Hp->(St->Hp->Prop)->Prop
abbrev TGs:=List V->St->Hp->(St->Hp->Prop)->Prop
def PG(X:Cx)(target:Expr)(t:TG):Prop:=
 ∀(pins:List (Addr×Obj)) (s:Shared) (σ:St) (H:Hp) (v:V) (u:Value) (Q:St->Hp->Prop),Inv X pins σ H s->RelV v u->t v σ H Q->
  wpAny (model X.prog X.w) X.A (assign target X.env u) (λ_ s'=>∃σ' H',Inv X pins σ' H' s'/\Q σ' H') X.xe s
def PGs(X:Cx)(ts:List Expr)(t:TGs):Prop:=
 ∀(pins:List (Addr×Obj)) (s:Shared) (σ:St) (H:Hp) (vs:List V) (us:List Value) (Q:St->Hp->Prop),Inv X pins σ H s->Vals vs us->t vs σ H Q->
  wpAny (model X.prog X.w) X.A (assignInOrder ((assignEach ts X.env).map (·.2)) us) (λ_ s'=>∃σ' H',Inv X pins σ' H' s'/\Q σ' H') X.xe s
abbrev zuK:=V->V->V->Hp->(Hp->Prop)->Prop
def zuR(X:Cx)(t:zuK):Prop:=
 ∀(pins:List (Addr×Obj)) (s:Shared) (σ:St) (H:Hp) (o i v:V) (ov iv u:Value) (Q:Hp->Prop),Inv X pins σ H s->RelV o ov->RelV i iv->RelV v u->t o i v H Q->
  wpAny (model X.prog X.w) X.A (setItem ov iv u) (λ_ s'=>∃H',Inv X pins σ H' s'/\Q H') X.xe s
section
variable{X:Cx}{pos:Pos}
def zjL(i:Nat):TG:=λv σ H Q=>Q (σ.set i (some v)) H
theorem zrW(hN:X.N.Nodup)(hi:X.N[i]? = some x)(hx:Loc X.env.scope x)(hf:X.fn x=true\/X.env.scope.names.lookup x=some .local:=by first|exact .inl rfl|exact .inr rfl|assumption):PG X (.Name x pos) (zjL i):=by
 intro pins s σ H v u Q I r h
 exact wpAny_assign_Name (zkb I hN hi hx r (λs' I'=>⟨_,H,I',h⟩) hf)
def zwm:TGs:=λvs σ H Q=>vs=[]/\Q σ H
def zvh(t:TG)(u:TGs):TGs:=λvs σ H Q=>∃v r,vs=v::r/\t v σ H λσ' H'=>u r σ' H' Q
theorem zrq:PGs X [] zwm:=by
 intro pins s σ H vs us Q I r h
 obtain⟨e,h⟩:=h
 subst e
 cases r
 exact assignInOrder_nil ⟨σ,H,I,h⟩
theorem zqv(h1:PG X e t)(h2:PGs X es u)
 (hs:(assignEach (e::es) X.env).map (·.2)=assign e X.env::(assignEach es X.env).map (·.2):=by rfl):PGs X (e::es) (zvh t u):=by
 intro pins s σ H vs us Q I r h
 obtain⟨v,vr,e1,h⟩:=h
 subst e1
 cases r with
 |cons r rr=>
  rw[hs]
  refine assignInOrder_cons (thn (h1 pins s σ H _ _ _ I r h) λ_ s1 ⟨σ1,H1,I1,q1⟩=>?_)
  exact h2 pins s1 σ1 H1 _ _ Q I1 rr q1
def zwp(K:zD)(n:Nat)(t:TGs):TG:=λv σ H Q=>∃a xs,v = .ref a/\SqT K H a xs/\xs.length=n/\t xs σ H Q
theorem ztV(hc:X.calm=true)(h:PGs X es t)
 (hn:(assignEach es X.env).length=n:=by rfl) (hst:(assignEach es X.env).findIdx? (·.1)=none:=by rfl):PG X (.Tuple es k pos) (zwp X.K n t):=by
 intro pins s σ H v u Q I r hw
 obtain⟨a,xs,e1,hq,hl,hw⟩:=hw
 subst e1
 cases r
 obtain⟨its,rv,ht,hz⟩:=I.tuple hq
 refine assign_Tuple_tuple (I.ok.hd hc) ht (by simp[hn,<-hl,rv.length]) hst λh' hx=>?_
 have I1:Inv X pins σ H {s with heap:=h'}:=I.kept (t':=s.toks) λb o e=>hx b o (zzO (zxH e)) e
 exact h pins _ σ H xs _ Q I1 (by simpa using rv) hw
def zwe(to ti:TE)(t:zuK):TG:=λv σ H Q=>to σ H λo H1=>ti σ H1 λi H2=>t o i v H2 λH3=>Q σ H3
theorem zpp(ho:PE X o to)(hi:PE X i ti)(hs:zuR X t)
 (ha:∀v,assign (.Subscript o i pos) X.env v=(do
  let ov <-holding [v] (eval o X.env)
  let iv <-holding [v,ov] (eval i X.env)
  standAt pos
  holding [v,ov,iv] (setItem ov iv v)
  release [v,ov,iv] []):=by intro _;rfl):PG X (.Subscript o i pos) (zwe to ti t):=by
 intro pins s σ H v u Q I r h
 rw[ha]
 refine zxE (zxL (thn (ho pins s σ H _ I h) λov s1 ⟨x,H1,I1,r1,q1⟩=>?_))
 refine zxE (zxL (thn (hi pins s1 σ H1 _ I1 q1) λiv s2 ⟨y,H2,I2,r2,q2⟩=>?_))
 refine zxE (wpAny_standAt (zxE (zxL (thn (hs pins s2 σ H2 x y v ov iv u _ I2 r1 r2 r q2) λ_ s3 ⟨H3,I3,q3⟩=>?_))))
 exact wpAny_release ⟨σ,H3,I3,q3⟩
def zuv(te:TE)(g:TG):TS:=λD σ H=>te σ H λx H1=>g x σ H1 D.nx
theorem zpo(he:PE X e te)(hg:PG X tg g)(hs:swapsWithSole [tg] e pos.line X.env=pure false:=by rfl)(hw:swappedStores [tg] e X.env=pure none:=by rfl)
 (h1:(assignEach [tg] X.env).map (·.2)=[assign tg X.env]:=by rfl):PS X (.Assign [tg] e pos) (zuv te g):=by
 intro pins s σ H D I h
 refine wpAny_Assign_stores (thn (he pins s σ H _ I h) λv s1 ⟨x,H1,I1,r1,q1⟩=>?_) hs hw
 rw[h1]
 exact thn (hg pins s1 σ H1 x v _ I1 r1 q1) λ_ s2 q=>q
theorem zoE(hN:X.N.Nodup)(hi:X.N[i]? = some x)(hx:Loc X.env.scope x)(he:PE X e te)(hs:swapsWith e (some (.Name x pos')) pos.line X.env=pure false:=by rfl)(hf:X.fn x=true\/X.env.scope.names.lookup x=some .local:=by first|exact .inl rfl|exact .inr rfl|assumption):
 PS X (.Assign [.Name x pos'] e pos) (zuv te (zjL i)):=by
 intro pins s σ H D I h
 refine wpAny_Assign_Name (thn (he pins s σ H _ I h) λv s1 ⟨y,H1,I1,r1,q1⟩=>?_) hs
 exact zkb I1 hN hi hx r1 (λs2 I2=>⟨_,H1,I2,q1⟩) hf
end
structure It where
 go:Nat->Hp->Prop
 yld:Nat->Hp->V->Hp->Prop
 stop:Nat->Hp->Prop
def zeO(X:Cx)(pins:List (Addr×Obj))(H:Hp)(b:Addr):Prop:=
 H b=none/\b≠X.env.locals/\b ∉ X.fs/\(b ∈ X.ex\/X.s₀.heap.objs.size<=b)/\(∀x c,X.env.cells.lookup x=some c->c≠b)/\∀p ∈ X.pn++pins,p.1≠b
theorem Inv.fpOk(I:Inv X pins σ H s)(hb:s.heap.objs.size<=b)(hn:H' b=none):zeO X pins H' b:=by
 refine⟨hn,Nat.ne_of_gt (zzI I.lt hb),I.nofs hb,.inr (zzM I.sz hb),λx c e z=>?_,λp hp z=>?_⟩
 · obtain⟨v,q⟩:=I.cell x c e
   exact absurd (zzI q.lt (by rw[z];exact hb)) (Nat.lt_irrefl _)
 · exact absurd (zzI (zxH (I.pin p hp).1) (by rw[z];exact hb)) (Nat.lt_irrefl _)
structure Turn(P:Program)(w:World)(K:zD)(tg:Expr)(J:It)(fp:List Addr)(it:Addr)(tn:Nat->Heap->Prop):Prop where
 mem:it ∈ fp
 obj:∀i h,tn i h->∀b ∈ fp,∃o,h.get? b=some o/\∀v,o.data ≠ .cell v
 keep:∀i h h',tn i h->(∀b ∈ fp,∀o,h.get? b=some o->h'.get? b=some o)->tn i h'
 item:∀(X:Cx),X.prog=P->X.w=w->X.K=K->X.calm=true->∀(i:Nat) (pins:List (Addr×Obj)) (s:Shared) (σ:St) (H:Hp) (E:Value->Shared->Prop),Inv X pins σ H s->(∀b ∈ fp,zeO X pins H b)->tn i s.heap->J.go i H->
  wpAny (model P w) X.A (pyNext (.ref it)) (λr s1=>∃u,r=some u/\
   wpAny (model P w) X.A (letOwnedTupleGo tg (.ref it) u) (λ_ s2=>∃x H',Inv X pins σ H' s2/\RelV x u/\J.yld i H x H'/\tn (i+1) s2.heap/\∀b ∈ fp,H' b=none) E s1) E s
 done:∀(X:Cx),X.prog=P->X.w=w->X.K=K->X.calm=true->∀(i:Nat) (pins:List (Addr×Obj)) (s:Shared) (σ:St) (H:Hp) (E:Value->Shared->Prop),Inv X pins σ H s->(∀b ∈ fp,zeO X pins H b)->tn i s.heap->J.stop i H->
  wpAny (model P w) X.A (pyNext (.ref it)) (λr s1=>r=none/\Inv X pins σ H s1) E s
 self:∀(A:Around) (i:Nat) (s:Shared) (Q:Value->Shared->Prop) (E:Value->Shared->Prop),tn i s.heap->Q (.ref it) s->wpAny (model P w) A (pyIter (.ref it)) Q E s
abbrev TI:=St->Hp->(It->Hp->Prop)->Prop
def PIE(X:Cx)(pins:List (Addr×Obj))(σ:St)(tg:Expr)(R:It->Hp->Prop)(itv:Value)(s2:Shared):Prop:=
 ∃(it:Addr) (fp:List Addr) (tn:Nat->Heap->Prop) (J:It) (H':Hp),itv = .ref it/\Inv X pins σ H' s2/\Turn X.prog X.w X.K tg J fp it tn/\tn 0 s2.heap/\(∀b ∈ fp,zeO X pins H' b)/\R J H'
def PI(X:Cx)(tg iter:Expr)(wi:TI):Prop:=
 ∀(pins:List (Addr×Obj)) (s:Shared) (σ:St) (H:Hp) (R:It->Hp->Prop),Inv X pins σ H s->wi σ H R->
  wpAny (model X.prog X.w) X.A (eval iter X.env) (λv s1=>wpAny (model X.prog X.w) X.A (pyIter v) (PIE X pins σ tg R) X.xe s1) X.xe s
theorem zoO(ho:s.heap.get? it=some o)(hc:o.cls = .type n)(hd:o.data = .fields vs)
 (hn : ["enumerate","zip","dict_itemiterator","dict_reverseitemiterator","odict_iterator","itertools.zip_longest","itertools.pairwise"].contains n=false) (hQ:Q () s):wpAny M A (letOwnedTupleGo tg (.ref it) u) Q E s:=by
 unfold letOwnedTupleGo
 cases tg<;>first
  |exact zxF hQ
  |(cases u<;>first
   |exact zxF hQ
   | (refine zxE (wpAny_load ho ?_)
      rw[hc,hd]
      show wpAny M A (if(["enumerate","zip","dict_itemiterator","dict_reverseitemiterator","odict_iterator","itertools.zip_longest","itertools.pairwise"].contains n&&vs[0]? == some (rawInt _))=true then _ else _) Q E s
      rw[if_neg (by intro h;rw[hn,Bool.false_and]at h;cases h)]
      exact zxF hQ))
def Itl(K:zD)(a:Addr):It:=
 ⟨λi H=>∃xs x,SqL K H a xs/\xs[i]? = some x,λi H x H'=>H'=H/\∀xs,SqL K H a xs->xs[i]? = some x,λi H=>∃xs,SqL K H a xs/\xs.length<=i⟩
def Itt(K:zD)(a:Addr):It:=
 ⟨λi H=>∃xs x,SqT K H a xs/\xs[i]? = some x,λi H x H'=>H'=H/\∀xs,SqT K H a xs->xs[i]? = some x,λi H=>∃xs,SqT K H a xs/\xs.length<=i⟩
def Itr(lo:Int)(n:Nat):It:=⟨λi _=>i<n,λi H x H'=>H'=H/\x = .int (lo+i),λi _=>n<=i⟩
theorem zoi{P:Program}{w:World}{K:zD}{tg:Expr}(a it:Addr):Turn P w K tg (Itl K a) [it] it (λi h=>h.IsListIter it a i)where
 mem:=by simp
 obj:=λi h st b hb=>by
  have e:b=it:=by simpa using hb
  subst e
  obtain⟨o,e,c,d⟩:=st
  exact⟨o,e,λv z=>by rw[d]at z;cases z⟩
 keep:=λi h h' st k=>st.at λo e=>k it (by simp) o e
 item:=by
  intro X hP hw hK hc i pins s σ H E I hf st hg
  subst hP hw hK
  obtain⟨xs,x,hq,hx⟩:=hg
  obtain⟨its,rv,p,hz⟩:=I.list hq
  obtain⟨u,hu,ru⟩:=rv.get hx
  obtain⟨f0,f1,f2,f3,f4,f5⟩:=hf it (by simp)
  refine wpAny_pyNext_list_item st p.isList (x:=u) (by simpa using hu) λh' st' sb=>?_
  have I1:Inv X pins σ H {s with heap:=h'}:=I.turned (t':=s.toks) (λb o hb e=>(sb.2 b hb).trans e) f0 f1 f3 f4 f5
  obtain⟨o,e,c,d⟩:=id st'
  exact⟨u,rfl,zoO (s:={s with heap:=h'}) e c d (by decide) ⟨x,H,I1,ru,⟨rfl,λys hy=>by rw[I.list_inj hy hq];exact hx⟩,st',λb hb=>(hf b hb).1⟩⟩
 done:=by
  intro X hP hw hK hc i pins s σ H E I hf st hg
  subst hP hw hK
  obtain⟨xs,hq,hx⟩:=hg
  obtain⟨its,rv,p,hz⟩:=I.list hq
  obtain⟨f0,f1,f2,f3,f4,f5⟩:=hf it (by simp)
  have hl:=rv.length
  exact wpAny_pyNext_list_end (I.ok.hd hc) st p.isList (by simp;omega) λh' eb=>⟨rfl,I.turned (t':=s.toks) (λb o hb e=>eb b o hb e) f0 f1 f3 f4 f5⟩
 self:=λ_ _ _ _ _ st h=>wpAny_pyIter_listiter st h
theorem zlB{P:Program}{w:World}{K:zD}{tg:Expr}(a it:Addr):Turn P w K tg (Itt K a) [it] it (λi h=>h.IsTupleIter it a i)where
 mem:=by simp
 obj:=λi h st b hb=>by
  have e:b=it:=by simpa using hb
  subst e
  obtain⟨o,e,c,d⟩:=st
  exact⟨o,e,λv z=>by rw[d]at z;cases z⟩
 keep:=λi h h' st k=>st.at λo e=>k it (by simp) o e
 item:=by
  intro X hP hw hK hc i pins s σ H E I hf st hg
  subst hP hw hK
  obtain⟨xs,x,hq,hx⟩:=hg
  obtain⟨its,rv,p,hz⟩:=I.tuple hq
  obtain⟨u,hu,ru⟩:=rv.get hx
  obtain⟨f0,f1,f2,f3,f4,f5⟩:=hf it (by simp)
  refine wpAny_pyNext_tuple_item st (show s.heap.IsTuple a its.toArray from p) (x:=u) (by simpa using hu) λh' st' sb=>?_
  have I1:Inv X pins σ H {s with heap:=h'}:=I.turned (t':=s.toks) (λb o hb e=>(sb.2 b hb).trans e) f0 f1 f3 f4 f5
  obtain⟨o,e,c,d⟩:=id st'
  exact⟨u,rfl,zoO (s:={s with heap:=h'}) e c d (by decide) ⟨x,H,I1,ru,⟨rfl,λys hy=>by rw[I.tuple_inj hy hq];exact hx⟩,st',λb hb=>(hf b hb).1⟩⟩
 done:=by
  intro X hP hw hK hc i pins s σ H E I hf st hg
  subst hP hw hK
  obtain⟨xs,hq,hx⟩:=hg
  obtain⟨its,rv,p,hz⟩:=I.tuple hq
  obtain⟨f0,f1,f2,f3,f4,f5⟩:=hf it (by simp)
  have hl:=rv.length
  exact wpAny_pyNext_tuple_end (I.ok.hd hc) st (show s.heap.IsTuple a its.toArray from p) (by simp;omega) λh' eb=>⟨rfl,I.turned (t':=s.toks) (λb o hb e=>eb b o hb e) f0 f1 f3 f4 f5⟩
 self:=λ_ _ _ _ _ st h=>wpAny_pyIter_tupleiter st h
theorem zlH{P:Program}{w:World}{K:zD}{tg:Expr}(it:Addr)(lo:Int)(n:Nat):Turn P w K tg (Itr lo n) [it] it (λi h=>IsRangeIter h it (lo+(i:Nat)*1) ((n:Int)-(i:Nat)) 1)where
 mem:=by simp
 obj:=λi h st b hb=>by
  have e:b=it:=by simpa using hb
  subst e
  exact⟨_,st,λv z=>by
   have z':Data.fields _=Data.cell v:=z
   cases z'⟩
 keep:=λi h h' st k=>k it (by simp) _ st
 item:=by
  intro X hP hw hK hc i pins s σ H E I hf st hg
  subst hP hw hK
  obtain⟨f0,f1,f2,f3,f4,f5⟩:=hf it (by simp)
  have W:=Walks.range (prog:=X.prog) (w:=X.w) (I.ok.hd hc) it lo 1 n
  refine W.item i s _ _ hg st λv h' tk hv st' kk=>?_
  obtain⟨t,rfl⟩:=hv
  have I1:Inv X pins σ H {s with heap:=h',toks:=tk}:=I.turned (λb o hb e=>kk b o (by simpa using hb) e) f0 f1 f3 f4 f5
  refine⟨_,rfl,zoO (s:={s with heap:=h',toks:=tk}) (n:="range_iterator") st' rfl rfl (by decide) ⟨.int (lo+i),H,I1,⟨t, ?_⟩,⟨rfl,rfl⟩,st',λb hb=>(hf b hb).1⟩⟩
  rw[Int.mul_one]
 done:=by
  intro X hP hw hK hc i pins s σ H E I hf st hg
  subst hP hw hK
  obtain⟨f0,f1,f2,f3,f4,f5⟩:=hf it (by simp)
  exact wpAny_pyNext_range_end (I.ok.hd hc) st (by have:n<=i:=hg;omega) λh' eb=>⟨rfl,I.turned (t':=s.toks) (λb o hb e=>eb b o hb e) f0 f1 f3 f4 f5⟩
 self:=λ_ _ _ _ _ st h=>wpAny_pyIter_rangeiter st h
end L2
namespace L2
open PySem PySem.Spec PyProof.Rows
section
variable{X:Cx}{tg:Expr}
def zvL(K:zD)(tl:TE):TI:=λσ H R=>tl σ H λx H1=>∃a,x = .ref a/\(∃xs,SqL K H1 a xs)/\R (Itl K a) H1
def zwC(K:zD)(tl:TE):TI:=λσ H R=>tl σ H λx H1=>∃a,x = .ref a/\(∃xs,SqT K H1 a xs)/\R (Itt K a) H1
theorem zix{l:Expr}{tl:TE}(hl:PE X l tl):PI X tg l (zvL X.K tl):=by
 intro pins s σ H R I h
 refine thn (hl pins s σ H _ I h) λv s1 ⟨x,H1,I1,r1,q1⟩=>?_
 obtain⟨a,e,⟨xs,hq⟩,q⟩:=q1
 subst e
 cases r1
 obtain⟨its,rv,p,hz⟩:=I1.list hq
 refine wpAny_pyIter_list p.isList ?_
 refine⟨s1.heap.objs.size,[s1.heap.objs.size],_,_,H1,rfl,I1.kept (t':=s1.toks) λb o e=>zxG _ e,zoi a _,⟨_,zxI _ rfl,rfl,rfl⟩,λb hb=>?_,q⟩
 have e:b=s1.heap.objs.size:=by simpa using hb
 subst e
 exact I1.fpOk (zzL _) (I1.hok.fresh (zzL _))
theorem zlJ{l:Expr}{tl:TE}(hl:PE X l tl):PI X tg l (zwC X.K tl):=by
 intro pins s σ H R I h
 refine thn (hl pins s σ H _ I h) λv s1 ⟨x,H1,I1,r1,q1⟩=>?_
 obtain⟨a,e,⟨xs,hq⟩,q⟩:=q1
 subst e
 cases r1
 obtain⟨its,rv,p,hz⟩:=I1.tuple hq
 refine wpAny_pyIter_tuple (show s1.heap.IsTuple a its.toArray from p) ?_
 refine⟨s1.heap.objs.size,[s1.heap.objs.size],_,_,H1,rfl,I1.kept (t':=s1.toks) λb o e=>zxG _ e,zlB a _,⟨_,zxI _ rfl,rfl,rfl⟩,λb hb=>?_,q⟩
 have e:b=s1.heap.objs.size:=by simpa using hb
 subst e
 exact I1.fpOk (zzL _) (I1.hok.fresh (zzL _))
theorem zpM{pins:List (Addr×Obj)}{σ:St}{H:Hp}{s:Shared}{R:It->Hp->Prop}{E:Value->Shared->Prop}{lo hi:Int}{t u v:Tok}{tk:Nat}(I:Inv X pins σ H s)(h1 : -(2 ^ 62)<=lo)(h2:lo<2 ^ 62)(h3 : -(2 ^ 62)<=hi)(h4:hi<2 ^ 62)
 (q:R (Itr lo (hi-lo).toNat) H):wpAny (model X.prog X.w) X.A (pyIter (.ref s.heap.objs.size)) (PIE X pins σ tg R) E {s with heap:=s.heap.push {cls:=.type "range",data:=.fields #[.int lo t,.int hi u,.int 1 v]},toks:=tk}:=by
 refine wpAny_pyIter_range (IsRange.new ..) (small_one h1 h2 h3 h4) ?_
 have I1:Inv X pins σ H {s with heap:=s.heap.push {cls:=.type "range",data:=.fields #[.int lo t,.int hi u,.int 1 v]},toks:=tk}:=I.kept λb o e=>zxG _ e
 refine⟨(s.heap.push {cls:=.type "range",data:=.fields #[.int lo t,.int hi u,.int 1 v]}).objs.size,[(s.heap.push {cls:=.type "range",data:=.fields #[.int lo t,.int hi u,.int 1 v]}).objs.size],_,_,H,rfl,
  I1.kept (t':=tk) λb o e=>zxG _ e,zlH _ lo (hi-lo).toNat, ?_,λb hb=>?_,q⟩
 · have e1:lo+((0:Nat):Int)*1=lo:=by simp
   have e2:(((hi-lo).toNat:Nat):Int)-((0:Nat):Int)=Builtin.Range.rangeSize lo hi 1:=by rw[rangeSize_one];split<;>omega
   show IsRangeIter _ _ (lo+((0:Nat):Int)*1) ((((hi-lo).toNat:Nat):Int)-((0:Nat):Int)) 1
   rw[e1,e2]
   exact zxI _ rfl
 · have e:b=(s.heap.push {cls:=.type "range",data:=.fields #[.int lo t,.int hi u,.int 1 v]}).objs.size:=by simpa using hb
   subst e
   exact I1.fpOk (zzL _) (I1.hok.fresh (zzL _))
def zuH(ta:TA):TI:=λσ H R=>ta σ H λvs H1=>∃j:Int,vs=[.int j] /\ -(2 ^ 62)<=j/\j<2 ^ 62/\R (Itr 0 j.toNat) H1
theorem zhK{a:Expr}{ta:TA}{p pos:Pos}(hg:Gl X "range")(hm:X.mg "range"=none)(ha:PA X [a] ta)(hs:starEach [a] X.env=[(false,eval a X.env)]:=by rfl):PI X tg (.Call (.Name "range" p) [a] [] pos) (zuH ta):=by
 intro pins s σ H R I h
 refine Call_ (zci I hg hm boot_range (PyProof.Rows.callWith_type1 (thn (ha pos pins s σ H _ I h) λus s1 ⟨vs,H1,I1,r1,q1⟩=>?_) hs rfl))
 obtain⟨j,e,q1,q2,q⟩:=q1
 subst e
 cases r1 with
 |cons r rr=>
  cases rr
  obtain⟨t,rfl⟩:=r
  exact call_range_1 (zpM I1 (by omega) (by omega) q1 q2 (by simpa using q))
def zwh(wi:TI)(g:TG)(tb:TS):TS:=λD σ H=>wi σ H λJ H1=>∃W:Nat->Nat->St->Hp->Prop,(∃m,W 0 m σ H1)/\∀i m σ H,W i m σ H->
 (J.stop i H/\D.nx σ H)\/(J.go i H/\∃N:St->Hp->Prop,(∀σ' H',N σ' H'->∃m',m'<m/\W (i+1) m' σ' H')/\∀x H',J.yld i H x H'->g x σ H' λσ2 H2=>tb {D with nx:=N,ct:=N,bk:=D.nx} σ2 H2)
def zgJ(fp:List Addr)(h:Heap):List (Addr×Obj):=fp.filterMap λb=>(h.get? b).map λo=>(b,o)
theorem VV(hb:b ∈ fp)(e:h.get? b=some o):(b,o) ∈ zgJ fp h:=List.mem_filterMap.mpr ⟨b,hb,by rw[e];rfl⟩
theorem znB(hp:p ∈ zgJ fp h):p.1 ∈ fp/\h.get? p.1=some p.2:=by
 obtain⟨b,hb,e⟩:=List.mem_filterMap.mp hp
 cases q:h.get? b with
 |none=>rw[q]at e;cases e
 |some o=>
  rw[q]at e
  have e':(b,o)=p:=zzX e
  subst e'
  exact⟨hb,q⟩
theorem Inv.pinned(I:Inv X pins σ H s)(hf:∀b ∈ fp,zeO X pins H b)(ho:∀b ∈ fp,∃o,s.heap.get? b=some o/\∀v,o.data ≠ .cell v):Inv X (pins++zgJ fp s.heap) σ H s:=
 I.pins_of λp hp=>(zzK.mp hp).elim (λz=>I.pin p (zzJ _ z)) λz=>by
  obtain⟨hb,e⟩:=znB z
  obtain⟨f0,f1,f2,_⟩:=hf p.1 hb
  obtain⟨o,e',d⟩:=ho p.1 hb
  rw[e]at e';cases e'
  exact⟨e,f0,f1,f2,d⟩
theorem Inv.unpinned(I:Inv X (pins++pl) σ H s):Inv X pins σ H s:=I.pins_of λp hp=>I.pin p (zzJ _ (zzN _ hp))
theorem zqn(hp:PassesOwn (model X.prog X.w) X.A X.env X.xe)(hc:X.calm=true)(hi:PI X tg iter wi)(hg:PG X tg g)(hb:PSs X body tb)
 (hs:∀x,foldedSetIterable iter X.env x=pure x:=by intro _;rfl):PS X (.For tg iter body [] pos) (zwh wi g tb):=by
 intro pins s σ H D I h
 refine wpAny_For (thn (hi pins s σ H _ I h) λv s1 h1=>thn h1 λitv s2 h2=>?_) hs
 obtain⟨it,fp,tn,J,H2,e,I2,T,st2,f2,W,⟨m0,w0⟩,turn⟩:=h2
 subst e
 have stat:∀{H':Hp},(∀b ∈ fp,H' b=none)->∀b ∈ fp,zeO X pins H' b:=λhn b hb=>⟨hn b hb,(f2 b hb).2⟩
 refine codeAny_forLoop_any (λn s'=>∃i σ' H',Inv X pins σ' H' s'/\tn i s'.heap/\(∀b ∈ fp,H' b=none)/\W i n σ' H') ?_ m0 ⟨0,σ,H2,I2,st2,λb hb=>(f2 b hb).1,w0⟩
 rintro n s3 ⟨i,σ3,H3,I3,st3,fr3,w3⟩
 rcases turn i n σ3 H3 w3 with⟨stop,qn⟩|⟨go,N,hN,step⟩
 · refine wpAny_passesOwn hp (thn (T.done X rfl rfl rfl hc i pins s3 σ3 H3 X.xe I3 (stat fr3) st3 stop) λr s4 ⟨hr,I4⟩=>?_)
   subst hr
   exact wpAny_execs_nil ⟨σ3,H3,I4,qn⟩
 · refine wpAny_passesOwn hp (thn (T.item X rfl rfl rfl hc i pins s3 σ3 H3 X.xe I3 (stat fr3) st3 go) λr s4 ⟨u,hr,h4⟩=>?_)
   subst hr
   refine wpAny_passesOwn hp (thn h4 λ_ s5 ⟨x,H5,I5,r5,y5,st5,fr5⟩=>?_)
   have I5':=I5.pinned (stat fr5) (T.obj _ _ st5)
   refine wpAny_passesOwn hp (thn (hg _ s5 σ3 H5 x u _ I5' r5 (step x H5 y5)) λ_ s6 ⟨σ6,H6,I6,q6⟩=>?_)
   refine wpAny_passesOwn hp (thn (hb _ s6 σ6 H6 _ I6 q6) λf s7 q7=>?_)
   have again:∀{σ7:St}{H7:Hp},Inv X (pins++zgJ fp s5.heap) σ7 H7 s7->N σ7 H7->∃m,m<n/\∃i σ' H',Inv X pins σ' H' s7/\tn i s7.heap/\(∀b ∈ fp,H' b=none)/\W i m σ' H':=λ{σ7 H7} I7 n7=>by
    obtain⟨m',hm,w7⟩:=hN σ7 H7 n7
    refine⟨m',hm,i+1,σ7,H7,I7.unpinned,T.keep _ _ _ st5 λb hb o e=>(I7.pin (b,o) (zzJ _ (zzJ _ (VV hb e)))).1,λb hb=>?_,w7⟩
    obtain⟨o,e,d⟩:=T.obj _ _ st5 b hb
    exact(I7.pin (b,o) (zzJ _ (zzJ _ (VV hb e)))).2.1
   cases f with
   |next=>obtain⟨σ7,H7,I7,n7⟩:=q7;exact again I7 n7
   |cont=>obtain⟨σ7,H7,I7,n7⟩:=q7;exact again I7 n7
   |brk=>obtain⟨σ7,H7,I7,q7⟩:=q7;exact⟨σ7,H7,I7.unpinned,q7⟩
   |ret v=>obtain⟨x7,σ7,H7,I7,r7,q7⟩:=q7;exact⟨x7,σ7,H7,I7.unpinned,r7,q7⟩
end
end L2
namespace L2
open PySem PySem.Spec PyProof.Rows
abbrev R2:=V->V->Hp->VK->Prop
def OpR(X:Cx)(f:Value->Value->Sem Value)(r:R2):Prop:=
 ∀(pins:List (Addr×Obj)) (s:Shared) (σ:St) (H:Hp) (x y:V) (v u:Value) (Q:VK),Inv X pins σ H s->RelV x v->RelV y u->r x y H Q->
  wpAny (model X.prog X.w) X.A (f v u) (EP X pins σ Q) X.xe s
def zbN(X:Cx)(f:Value)(r:List V->Hp->VK->Prop):Prop:=
 ∀(pins:List (Addr×Obj)) (s:Shared) (σ:St) (H:Hp) (xs:List V) (us:List Value) (Q:VK),Inv X pins σ H s->Vals xs us->r xs H Q->
  wpAny (model X.prog X.w) X.A (call f us) (EP X pins σ Q) X.xe s
def zwB(X:Cx)(r:V->Hp->(Bool->Hp->Prop)->Prop):Prop:=
 ∀(pins:List (Addr×Obj)) (s:Shared) (σ:St) (H:Hp) (x:V) (v:Value) (Q:Bool->Hp->Prop),Inv X pins σ H s->RelV x v->r x H Q->
  wpAny (model X.prog X.w) X.A (truthy v) (TP X pins σ Q) X.xe s
def tOp(r:R2)(ta tb:TE):TE:=λσ H Q=>ta σ H λx H1=>tb σ H1 λy H2=>r x y H2 Q
def rI(C:Int->Int->Prop)(g:Int->Int->V):R2:=λx y H Q=>∃i j,x = .int i/\y = .int j/\C i j/\Q (g i j) H
def rI0(g:Int->Int->V):R2:=λx y H Q=>∃i j,x = .int i/\y = .int j/\Q (g i j) H
section
variable{X:Cx}{a b c:Expr}{ta tb tc:TE}{pos:Pos}
theorem ztF(ha:PE X a ta)(hb:PE X b tb){pins:List (Addr×Obj)}{s:Shared}{σ:St}{H:Hp}{R:V->V->Hp->Prop}(I:Inv X pins σ H s)
 (h:ta σ H λx H1=>tb σ H1 λy H2=>R x y H2) {Q:Value->Shared->Prop}{f:Value->Value->Sem Value}
 (hf:∀v u s2 x y H2,Inv X pins σ H2 s2->RelV x v->RelV y u->R x y H2->wpAny (model X.prog X.w) X.A (f v u) Q X.xe s2):
 wpAny (model X.prog X.w) X.A (eval a X.env) (λv s₁=>wpAny (model X.prog X.w) X.A (eval b X.env) (λu s₂=>wpAny (model X.prog X.w) X.A (f v u) Q X.xe s₂) X.xe s₁) X.xe s:=by
 refine thn (ha pins s σ H _ I h) λv s1 ⟨x,H1,I1,r1,q1⟩=>?_
 refine thn (hb pins s1 σ H1 _ I1 q1) λu s2 ⟨y,H2,I2,r2,q2⟩=>?_
 exact hf v u s2 x y H2 I2 r1 r2 q2
theorem zuF{op:Operator}{r:R2}(ho:OpR X (binaryOp op) r)(ha:PE X a ta)(hb:PE X b tb):PE X (.BinOp a op b pos) (tOp r ta tb):=by
 intro pins s σ H Q I h
 exact wpAny_BinOp (ztF ha hb I h λv u s2 x y H2 I2 rx ry q=>ho pins s2 σ H2 x y v u Q I2 rx ry q)
theorem opI{f:Value->Value->Sem Value}{C:Int->Int->Prop}{g:Int->Int->Int}
 (rule:∀(i j:Int) (t u:Tok) (s:Shared) (Q:Value->Shared->Prop) (E:Value->Shared->Prop),C i j->Q (.int (g i j) s.toks) {s with toks:=s.toks+1}->wpAny (model X.prog X.w) X.A (f (.int i t) (.int j u)) Q E s):
 OpR X f (rI C λi j=>.int (g i j)):=by
 intro pins s σ H x y v u Q I rx ry h
 obtain⟨i,j,rfl,rfl,hc,q⟩:=h
 obtain⟨t,rfl⟩:=rx
 obtain⟨t',rfl⟩:=ry
 exact rule i j t t' s _ _ hc ⟨.int (g i j),H,I.tok _,⟨_,rfl⟩,q⟩
theorem zvo{f:Value->Value->Sem Value}{g:Int->Int->Int}
 (rule:∀(i j:Int) (t u:Tok) (s:Shared) (Q:Value->Shared->Prop) (E:Value->Shared->Prop),Q (.int (g i j) s.toks) {s with toks:=s.toks+1}->wpAny (model X.prog X.w) X.A (f (.int i t) (.int j u)) Q E s):
 OpR X f (rI0 λi j=>.int (g i j)):=by
 intro pins s σ H x y v u Q I rx ry h
 obtain⟨i,j,rfl,rfl,q⟩:=h
 obtain⟨t,rfl⟩:=rx
 obtain⟨t',rfl⟩:=ry
 exact rule i j t t' s _ _ ⟨.int (g i j),H,I.tok _,⟨_,rfl⟩,q⟩
theorem zry{f:Value->Value->Sem Value}{g:Int->Int->Bool}
 (rule:∀(i j:Int) (t u:Tok) (s:Shared) (Q:Value->Shared->Prop) (E:Value->Shared->Prop),Q (.bool (g i j)) s->wpAny (model X.prog X.w) X.A (f (.int i t) (.int j u)) Q E s):
 OpR X f (rI0 λi j=>.bl (g i j)):=by
 intro pins s σ H x y v u Q I rx ry h
 obtain⟨i,j,rfl,rfl,q⟩:=h
 obtain⟨t,rfl⟩:=rx
 obtain⟨t',rfl⟩:=ry
 exact rule i j t t' s _ _ ⟨.bl (g i j),H,I,rfl,q⟩
def zuJ(i j:Int):Prop:=0<=j/\j<=1000000/\i.natAbs<2 ^ 64
theorem ztS:OpR X (binaryOp .Add) (rI0 λi j=>.int (i+j)):=zvo λ_ _ _ _ _ _ _ q=>add_int q
theorem ztB:OpR X (binaryOp .Sub) (rI0 λi j=>.int (i-j)):=zvo λ_ _ _ _ _ _ _ q=>sub_int q
theorem zuk:OpR X (binaryOp .Mod) (rI (λ_ j=>0<j) λi j=>.int (i%j)):=opI λi j _ _ _ _ _ hc q=>by
 have h1:(0:Int)<j:=hc
 exact mod_int' (by omega) (by rw[Int.fmod_eq_emod_of_nonneg i (by omega)];exact q)
theorem zui:OpR X (binaryOp .Pow) (rI zuJ λi j=>.int (i ^ j.toNat)):=opI λ_ _ _ _ _ _ _ hc q=>pow_int_small hc.1 hc.2.1 hc.2.2 q
theorem ztG:OpR X (binaryOp .LShift) (rI zuJ λi j=>.int (i*2 ^ j.toNat)):=opI λ_ _ _ _ _ _ _ hc q=>lshift_int_small hc.1 hc.2.1 hc.2.2 q
end
section
variable{X:Cx}{a b c:Expr}{ta tb tc:TE}{pos:Pos}
theorem Za(I:Inv X pins σ H s)(q:Q (.bl k) H)(e:k=k'):EP X pins σ Q (.bool k') s:=by
 subst e
 exact⟨.bl k,H,I,rfl,q⟩
theorem zvG:OpR X (compareOp .Lt) (rI0 λi j=>.bl (decide (i<j))):=zry λ_ _ _ _ _ _ _ q=>lt_int q
theorem zvu:OpR X (compareOp .LtE) (rI0 λi j=>.bl (decide (i<=j))):=zry λ_ _ _ _ _ _ _ q=>le_int q
theorem zuU:OpR X (compareOp .Gt) (rI0 λi j=>.bl (decide (j<i))):=zry λ_ _ _ _ _ _ _ q=>gt_int q
theorem zvb:OpR X (compareOp .GtE) (rI0 λi j=>.bl (decide (j<=i))):=zry λ_ _ _ _ _ _ _ q=>ge_int q
theorem znz:OpR X (compareOp .In) (λx y H Q=>∃i j,x = .str i/\y = .str j/\Q (.bl (!(Builtin.Str.occurrences j i 0 j.length 1).isEmpty)) H):=by
 intro pins s σ H x y v u Q I rx ry h
 obtain⟨i,j,rfl,rfl,q⟩:=h
 obtain⟨t,rfl⟩:=rx
 obtain⟨t',rfl⟩:=ry
 exact in_str (Za I q rfl)
theorem ztI:OpR X (compareOp .Is) (λx y H Q=>y = .non/\Q (.bl (decide (x = .non))) H):=by
 intro pins s σ H x y v u Q I rx ry h
 obtain⟨rfl,q⟩:=h
 cases ry
 refine is_none_gen (Za I q ?_)
 cases x<;>first
  |(cases rx;rfl)
  |(obtain⟨t,rfl⟩:=rx;rfl)
theorem zqH:OpR X (compareOp .IsNot) (λx y H Q=>y = .non/\Q (.bl (!decide (x = .non))) H):=by
 intro pins s σ H x y v u Q I rx ry h
 obtain⟨rfl,q⟩:=h
 cases ry
 refine isnot_none_gen (Za I q ?_)
 cases x<;>first
  |(cases rx;rfl)
  |(obtain⟨t,rfl⟩:=rx;rfl)
theorem ziu:OpR X (compareOp .NotIn) (λx y H Q=>∃i j,x = .str i/\y = .str j/\Q (.bl (!(!(Builtin.Str.occurrences j i 0 j.length 1).isEmpty))) H):=by
 intro pins s σ H x y v u Q I rx ry h
 obtain⟨i,j,rfl,rfl,q⟩:=h
 obtain⟨t,rfl⟩:=rx
 obtain⟨t',rfl⟩:=ry
 exact notIn_str (Za I q rfl)
theorem zU(b:Expr)(h:op ≠ .In:=by decide)(h2:op ≠ .NotIn:=by decide):behindInMarks op b=false:=by
 have e1:(op==CmpOp.In)=false:=by cases op<;>first|rfl|exact absurd rfl h
 have e2:(op==CmpOp.NotIn)=false:=by cases op<;>first|rfl|exact absurd rfl h2
 cases b<;>simp[behindInMarks,e1,e2]
theorem zqV{op:CmpOp}{r:R2}(ho:OpR X (compareOp op) r)(ha:PE X a ta)(hb:PE X b tb)(hm:behindInMarks op b=false):PE X (.Compare a [op] [b] pos) (tOp r ta tb):=by
 intro pins s σ H Q I h
 exact wpAny_Compare1 (ztF ha hb I h λv u s2 x y H2 I2 rx ry q=>ho pins s2 σ H2 x y v u Q I2 rx ry q) hm
def zvj(t:TE):TT:=λσ H Q=>t σ H λx H'=>∃k,x = .bl k/\Q k H'
theorem zqZ(ho:OpR X (compareOp op) r)(ha:PE X a ta)(hb:PE X b tb)(hm:behindInMarks op b=false):PT X (.Compare a [op] [b] pos) (zvj (tOp r ta tb)):=by
 intro pins s σ H Q I h
 refine wpAny_isTrue_Compare1 (thn (ha pins s σ H _ I h) λv s1 ⟨x,H1,I1,r1,q1⟩=>thn (hb pins s1 σ H1 _ I1 q1) λu s2 ⟨y,H2,I2,r2,q2⟩=>
  thn (ho pins s2 σ H2 x y v u _ I2 r1 r2 q2) λc s3 ⟨z,H3,I3,r3,k,e,q3⟩=>?_) hm
 subst e
 cases r3
 exact wpAny_truthy_bool ⟨H3,I3,q3⟩
def zuA(K:zD)(x:V)(H:Hp)(k:Bool):Prop:=
 match x with
 | .non=>k=false
 | .bl b=>k=b
 | .int i=>k=(i != 0)
 | .str y=>y.length<=sizeLine/\k=((y.length:Int) != 0)
 | .byt y=>y.size<=sizeLine/\k=((y.size:Int) != 0)
 | .ref p=>(∃xs,SqL K H p xs/\k = !xs.isEmpty)\/(∃xs,SqT K H p xs/\k = !xs.isEmpty)\/∃kvs,H p=some (.dK kvs)/\k = !kvs.isEmpty
 |_=>False
theorem zlx(r:KV kvs vs):(!vs.isEmpty) = !kvs.isEmpty:=by
 cases r<;>rfl
theorem zfu(r:Vals xs its):(!its.toArray.isEmpty) = !xs.isEmpty:=by
 cases r<;>simp
theorem zck:(sizeLine:Nat)<2 ^ 63:=by rw[sizeLine_eq];decide
theorem zsU:zwB X (λx H Q=>∃k,zuA X.K x H k/\Q k H):=by
 intro pins s σ H x v Q I rx h
 obtain⟨k,e,q⟩:=h
 have hl:=zck
 have hs:sizeLine=16777216:=sizeLine_eq
 cases x with
 |non=>
  cases rx
  have e':k=false:=e
  subst e'
  exact truthy_none ⟨H,I,q⟩
 |bl b=>
  cases rx
  have e':k=b:=e
  subst e'
  exact wpAny_truthy_bool ⟨H,I,q⟩
 |int i=>
  obtain⟨t,rfl⟩:=rx
  have e':k=(i != 0):=e
  subst e'
  exact PySem.P.truthy_int ⟨H,I,q⟩
 |str y=>
  obtain⟨t,rfl⟩:=rx
  obtain⟨hy,e'⟩:y.length<=sizeLine/\k=((y.length:Int) != 0):=e
  subst e'
  exact PySem.P.truthy_str (by omega) ⟨H,I.tok _,q⟩
 |byt y=>
  obtain⟨t,rfl⟩:=rx
  obtain⟨hy,e'⟩:y.size<=sizeLine/\k=((y.size:Int) != 0):=e
  subst e'
  exact PySem.W.truthy_bytes (by omega) ⟨H,I.tok _,q⟩
 |ref p=>
  cases rx
  have e':(∃xs,SqL X.K H p xs/\k = !xs.isEmpty)\/(∃xs,SqT X.K H p xs/\k = !xs.isEmpty)\/∃kvs,H p=some (.dK kvs)/\k = !kvs.isEmpty:=e
  rcases e' with⟨xs,hx,e'⟩|⟨xs,hx,e'⟩|⟨kvs,hx,e'⟩
  · subst e'
    obtain⟨its,r,pl,hz⟩:=I.list hx
    have hlen:=r.length
    exact wpAny_truthy_list pl.isList (by simp only[zzF];omega) ⟨H,I.tok _,by rw[zfu r];exact q⟩
  · subst e'
    obtain⟨its,r,pl,hz⟩:=I.tuple hx
    have hlen:=r.length
    exact truthy_tuple pl (by simp only[zzF];omega) ⟨H,I.tok _,by rw[zfu r];exact q⟩
  · subst e'
    obtain⟨hz,hS,vs,r,m⟩:kvs.length<=sizeLine/\(p==sysModules)=false/\∃vs,KV kvs vs/\s.heap.DictOf (vJ X.prog X.w) p vs:=I.hok p _ hx
    have hlen:kvs.length=vs.length:=Paired.length r
    exact wpAny_truthy_dict hS m (by omega) ⟨H,I.tok _,by rw[zlx r];exact q⟩
 |_=>exact(show False from e).elim
theorem zoH(ha:PE X a ta)(he:∀whole,isTrue a X.env whole=(do let v <-whole;standAt a.pos;holding [v] (truthy v))):
 PT X a (λσ H Q=>ta σ H λx H'=>∃k,zuA X.K x H' k/\Q k H'):=by
 intro pins s σ H Q I h
 exact isTrue_plain (thn (ha pins s σ H _ I h) λv s1 ⟨x,H1,I1,r1,q1⟩=>zsU pins s1 σ H1 x v Q I1 r1 q1) (he _)
theorem zlO:OpR X (binaryOp .Add) (λx y H Q=>∃i j,x = .str i/\y = .str j/\i.length+j.length<=sizeLine/\Q (.str (i++j)) H):=by
 intro pins s σ H x y v u Q I rx ry h
 obtain⟨i,j,rfl,rfl,hz,q⟩:=h
 obtain⟨t,rfl⟩:=rx
 obtain⟨t',rfl⟩:=ry
 exact add_str (λt' tk=>⟨.str (i++j),H,I.tok _,⟨_,rfl⟩,q⟩) hz
theorem vals1(r:Vals [x] us):∃u,us=[u]/\RelV x u:=by
 cases r with
 |cons r1 r2=>cases r2;exact⟨_,rfl,r1⟩
theorem vals2(r:Vals [x,y] us):∃u w',us=[u,w']/\RelV x u/\RelV y w':=by
 cases r with
 |cons r1 r2=>
  cases r2 with
  |cons r3 r4=>cases r4;exact⟨_,_,rfl,r1,r3⟩
theorem zoF:zbN X (.builtin "abs") (λxs H Q=>∃i,xs=[.int i]/\Q (.int (if i<0 then -i else i)) H):=by
 intro pins s σ H xs us Q I r h
 obtain⟨i,rfl,q⟩:=h
 obtain⟨u,rfl,t,rfl⟩:=vals1 r
 exact call_abs_int λu tk=>⟨.int (if i<0 then -i else i),H,I.tok _,⟨_,rfl⟩,q⟩
theorem znJ(hc:X.calm=true):zbN X (.builtin "max") (λxs H Q=>∃i j,xs=[.int i,.int j]/\Q (.int (if j > i then j else i)) H):=by
 intro pins s σ H xs us Q I r h
 obtain⟨i,j,rfl,q⟩:=h
 obtain⟨u,w',rfl,⟨t,rfl⟩,⟨t',rfl⟩⟩:=vals2 r
 refine max_two_ints (I.ok.hd hc) λh' tk k=>⟨_,H,I.kept k, ?_,q⟩
 by_cases hj:j > i
 · rw[if_pos hj,if_pos hj];exact⟨_,rfl⟩
 · rw[if_neg hj,if_neg hj];exact⟨_,rfl⟩
theorem zhZ:zbN X (.type "int") (λxs H Q=>(∃i,xs=[.int i]/\Q (.int i) H)\/∃k,xs=[.bl k]/\Q (.int (if k then 1 else 0)) H):=by
 intro pins s σ H xs us Q I r h
 rcases h with⟨i,rfl,q⟩|⟨k,rfl,q⟩
 · obtain⟨u,rfl,t,rfl⟩:=vals1 r
   exact call_int_int ⟨.int i,H,I,⟨_,rfl⟩,q⟩
 · obtain⟨u,rfl,r1⟩:=vals1 r
   cases r1
   exact call_int_bool ⟨.int (if k then 1 else 0),H,I.tok _,⟨_,rfl⟩,q⟩
end
end L2
namespace L2
open PySem PySem.Spec PyProof.Rows
structure ObjM(h:Heap)(x dx C:Addr)(mA:Str->Option Value):Prop where
 obj:h.get? x=some (PySem.W.instObj C dx)
 ns:h.Ns1 dx mA
 ne:dx≠x
theorem znW{h:Heap}{dx:Addr}{mA:Str->Option Value}(n:h.Ns1 dx mA):∃od,h.get? dx=some od/\∀name,PySem.W.lookIn name od=some (mA name):=by
 obtain⟨o,es,ep,ho,hd,hk,_,hm⟩:=n
 refine⟨o,ho,λname=>?_⟩
 have e:=hm name
 unfold nsFind findBy at e
 rw[<-Array.find?_toList]at e
 unfold PySem.W.lookIn
 rw[hd]
 dsimp only
 split
 · rename_i y q
   rw[q]at e
   exact congrArg some e
 · rename_i q
   rw[q]at e
   have a:es.toList.any (·.refKey)=false:=by
    rw[List.any_eq_false]
    intro y hy
    obtain⟨z,t,hkey⟩:=hk y (Array.mem_toList_iff.mp hy)
    simp[DictEntry.refKey,hkey]
   have a':¬es.toList.any (·.refKey)=true:=by rw[a];exact zyU
   rw[if_neg a']
   exact congrArg some e
theorem ObjM.look(I:ObjM h x dx C mA):∃od,PySem.W.InstAt h x (PySem.W.instObj C dx) C (some od)/\∀name,PySem.W.lookIn name od=some (mA name):=
 let⟨od,ho,hl⟩:=znW I.ns
 ⟨od,⟨I.obj,rfl,rfl,ho⟩,hl⟩
section
variable{prog:Program}{w:World}{A:Around}{E:Value->Shared->Prop}{s:Shared}{K:zD}{x dx C f:Addr}{mA:Str->Option Value}{name:Str}{v:Value}
theorem zsl(X:K.In s.heap)(I:ObjM s.heap x dx C mA)(hg:PySem.W.plainGet K C name=true)(hh:PySem.W.hasDictIn K C=true)
 (ha:PySem.W.findIn K (.ref C) name=some none) (hv:mA name=some v) (hv':PySem.W.handedIn v=true) (h:Q v {s with toks:=s.toks+1}):
 wpAny (model prog w) A (getAttr (.ref x) name expr) Q E s:=by
 obtain⟨od,J,hl⟩:=I.look
 exact PySem.W.get_value X J (PySem.W.plainGet_of hg).1 (PySem.W.findObj_own hh ha rfl (by rw[hl,hv])) hv' h
theorem zov(X:K.In s.heap)(I:ObjM s.heap x dx C mA)(hg:PySem.W.plainGet K C name=true)
 (hf:PySem.W.findIn K (.ref C) name=some (some (.ref f))) (ht:PySem.W.isFn K (.ref f)=true) (hv:mA name=none) (h:Q (.ref f,[.ref x]) s):
 wpAny (model prog w) A (getMethod (.ref x) name pl) Q E s:=by
 obtain⟨od,J,hl⟩:=I.look
 exact PySem.W.method_fn X J (PySem.W.plainGet_of hg).1 (PySem.W.plainGet_of hg).2 hf (beq_iff_eq.mp ht) (by show(PySem.W.lookIn name od).map (·.isSome)=some false;rw[hl,hv];rfl) h
theorem zsd(X:K.In s.heap)(I:ObjM s.heap x dx C mA)
 (hs:PySem.W.findIn K (.ref C) "__setattr__"=some (some (.builtin "object.__setattr__"))) (hp:PySem.W.plainOver K C=true) (ht:PySem.W.takerIn K C name=some none) (hh:PySem.W.hasDictIn K C=true)
 (hw:PySem.Within mA ns) (hsz:ns.length<=sizeLine)
 (h:∀h',ObjM h' x dx C (λy=>if y=name then some v else mA y)->Heap.SameBut dx s.heap h'->Q () {s with heap:=h',toks:=s.toks+2}):
 wpAny (model prog w) A (setAttr (.ref x) name v) Q E s:=by
 obtain⟨od,J,hl⟩:=I.look
 refine PySem.W.set_plain X J hs (PySem.W.osa_open (s:={s with toks:=s.toks+1}) (r:=none) X J hp ht λb=>?_)
 obtain⟨cd,hc,hd'⟩:=PySem.W.any_some hh
 have hx:s.heap.get? x=some ⟨.ref C,some dx,.plain,#[]⟩:=I.obj
 refine zxE (zxF (zxE (zxE (wpAny_loadPart hx (zxE (PySem.W.Looks.here (s:={s with toks:=s.toks+1}) (PySem.W.looks_clsIn X hc) ?_))))))
 rw[hd']
 refine zxF (a:=some dx) (zxE (zxF (zxE ?_)))
 refine wpAny_nsSet1 (s:={s with toks:=s.toks+1}) I.ns λh' hn2 hs2=>?_
 obtain⟨oD,esD,epD,hoD,hdD,hcD⟩:=hn2.count (PySem.Within.cons name v hw)
 refine zxE (wpAny_lookBehind hoD (by rw[hdD];exact pastItsLine_dict (zzM hcD (by rw[zzR];omega))) ?_)
 exact zxF (h _ ⟨(hs2.2 _ (Ne.symm I.ne)).trans I.obj,hn2,I.ne⟩ hs2)
theorem zoV(X:K.In s.heap)(hm:PySem.W.makesIn K C=true)
 (hi:PySem.W.findIn K (.ref C) "__init__"=some (some (.ref f))) (hf:PySem.W.typeIn K (.ref f)=some (.type "function"))
 (h:codeAny (model prog w) (A.under (.builtin "type.__call__" ⟨.ref C::vs,kw⟩)) (.call (.ref f) ⟨.ref (s.heap.objs.size+1)::vs,kw⟩) (PySem.W.InitBack (s.heap.objs.size+1) R)
  {s with heap:=(s.heap.push PySem.W.emptyDict).push (PySem.W.instObj C s.heap.objs.size)}):
 codeAny (model prog w) A (.call (.ref C) ⟨vs,kw⟩) R s:=by
 obtain⟨hh,g,d,t,os⟩:=s
 exact PySem.W.make_core (PySem.W.makes_of X hm) (PySem.W.looks_findIn X hi) (λself=>PySem.W.bind_fn X self hf) (.inl rfl) h
end
def zae(f:Str)(v:V):List (Str×V)->List (Str×V)
 | []=>[(f,v)]
 |(g,x)::r=>if g=f then(g,v)::r else(g,x)::zae f v r
theorem zel(f g:Str)(v:V):∀fs:List (Str×V),(zae f v fs).lookup g=if g=f then some v else fs.lookup g
 | []=>by
  show List.lookup g [(f,v)]=_
  by_cases h:g=f
  · have hb:(g==f)=true:=beq_iff_eq.mpr h
    simp only[List.lookup,hb,if_pos h]
  · have hb:(g==f)=false:=beq_eq_false_iff_ne.mpr h
    simp only[List.lookup,hb,if_neg h]
 |(k,x)::r=>by
  have ih:=zel f g v r
  rw[show zae f v ((k,x)::r)=(if k=f then(k,v)::r else(k,x)::zae f v r)from rfl]
  by_cases hk:k=f
  · rw[if_pos hk]
    by_cases h:g=k
    · have hb:(g==k)=true:=beq_iff_eq.mpr h
      simp only[List.lookup,hb,if_pos (h.trans hk)]
    · have hb:(g==k)=false:=beq_eq_false_iff_ne.mpr h
      simp only[List.lookup,hb,if_neg (λe:g=f=>h (e.trans hk.symm))]
  · rw[if_neg hk]
    by_cases h:g=k
    · have hb:(g==k)=true:=beq_iff_eq.mpr h
      simp only[List.lookup,hb,if_neg (λe:g=f=>hk (h.symm.trans e))]
    · have hb:(g==k)=false:=beq_eq_false_iff_ne.mpr h
      simp only[List.lookup,hb]
      exact ih
theorem zdp(f:Str)(v:V):∀fs:List (Str×V),f ∈ (zae f v fs).map (·.1)/\∀g,g ∈ fs.map (·.1)->g ∈ (zae f v fs).map (·.1)
 | []=>⟨by simp[zae],λg h=>by simp at h⟩
 |(k,x)::r=>by
  obtain⟨i1,i2⟩:=zdp f v r
  rw[show zae f v ((k,x)::r)=(if k=f then(k,v)::r else(k,x)::zae f v r)from rfl]
  by_cases hk:k=f
  · rw[if_pos hk]
    subst hk
    exact⟨by simp,λg h=>by simpa using h⟩
  · rw[if_neg hk]
    refine⟨?_,λg h=>?_⟩
    · rw[zyQ]
      exact zzB _ i1
    · rw[zyQ]at h ⊢
      rcases zzA.mp h with e|e
      · exact zzA.mpr (.inl e)
      · exact zzB _ (i2 g e)
theorem zeE(f:Str)(v:V):∀fs:List (Str×V),(zae f v fs).length<=fs.length+1
 | []=>by simp[zae]
 |(k,x)::r=>by
  have ih:=zeE f v r
  rw[show zae f v ((k,x)::r)=(if k=f then(k,v)::r else(k,x)::zae f v r)from rfl]
  by_cases hk:k=f
  · rw[if_pos hk,zzR,zzR];omega
  · rw[if_neg hk,zzR,zzR];omega
theorem zcS.some_of(r:zcS (some v) o):∃u,o=some u/\RelV v u:=by
 cases o with
 |none=>exact(show False from r).elim
 |some u=>exact⟨u,rfl,r⟩
theorem zcS.none_of(r:zcS none o):o=none:=by
 cases o with
 |none=>rfl
 |some u=>exact(show False from r).elim
theorem znR(r:RelV v u):PySem.W.handedIn u=true:=by
 cases v with
 |non=>cases(show u=Value.none from r);rfl
 |bl b=>cases(show u=Value.bool b from r);rfl
 |int i=>obtain⟨t,e⟩:=(show ∃t,u=Value.int i t from r);cases e;rfl
 |str x=>obtain⟨t,e⟩:=(show ∃t,u=Value.str x t from r);cases e;rfl
 |byt b=>obtain⟨t,e⟩:=(show ∃t,u=Value.bytes b t from r);cases e;rfl
 |flt b=>obtain⟨t,e⟩:=(show ∃t,u=Value.float b t from r);cases e;rfl
 |ref a=>cases(show u=Value.ref a from r);rfl
 |ty n=>cases(show u=Value.type n from r);rfl
section
variable{P:Program}{w:World}{H H':Hp}{h h':Heap}{a C dx:Addr}{fs fs':List (Str×V)}
theorem ziB(hok:HOk P w H h)(e:H a=some (.ins C dx fs)):∃mA,ObjM h a dx C mA/\(∀f,zcS (fs.lookup f) (mA f))/\PySem.Within mA (fs.map (·.1))/\fs.length<=1000/\H dx=some (.own a):=by
 obtain⟨d,z,ne,ob,mA,n,r,q⟩:=(show Zj P w H h a (.ins C dx fs)from hok a _ e)
 exact⟨mA,⟨ob,n,ne⟩,r,q,z,d⟩
end
structure Cls(K:zD)(C:Addr):Prop where
 pg:PySem.W.plainGet K C Str.empty=true
 hd:PySem.W.hasDictIn K C=true
 po:PySem.W.plainOver K C=true
 sa:PySem.W.findIn K (.ref C) "__setattr__"=some (some (.builtin "object.__setattr__"))
theorem Cls.get{K:zD}{C:Addr}(c:Cls K C)(f:Str):PySem.W.plainGet K C f=true:=c.pg
def wB(K:zD)(C:Addr)(f:Str):Prop:=PySem.W.findIn K (.ref C) f=some none
theorem wB.taker{K:zD}{C:Addr}{f:Str}(n:wB K C f):PySem.W.takerIn K C f=some none:=by
 unfold PySem.W.takerIn
 rw[show PySem.W.findIn K (.ref C) f=some none from n]
 rfl
structure Con(K:zD)(C:Addr)(f:Str)(v:V)(u:Value):Prop where
 at_:PySem.W.findIn K (.ref C) f=some (some u)
 rel:RelV v u
 get:PySem.W.specialIn K u "__get__"=some none
 cp:PySem.W.copiedNames.contains f=false
structure Meth(K:zD)(C:Addr)(m:Str)(f:Addr):Prop where
 at_:PySem.W.findIn K (.ref C) m=some (some (.ref f))
 fn:PySem.W.isFn K (.ref f)=true
 kp:PySem.W.keepIn K (.ref f)=true
section
variable{X:Cx}{pins:List (Addr×Obj)}{σ:St}{H:Hp}{s:Shared}{a C dx:Addr}{fs:List (Str×V)}{f:Str}{v:V}{A:Around}{E:Value->Shared->Prop}
theorem zkX(I:Inv X pins σ H s)(e:H a=some (.ins C dx fs))(c:Cls X.K C)(n:wB X.K C f)(l:fs.lookup f=some v)
 (h:∀u s',Inv X pins σ H s'->RelV v u->Q u s'):wpAny (model X.prog X.w) A (getAttr (.ref a) f b) Q E s:=by
 obtain⟨mA,O,r,_,_,_⟩:=ziB I.hok e
 obtain⟨u,hu,ru⟩:=zcS.some_of (v:=v) (o:=mA f) (by rw[<-l];exact r f)
 exact zsl I.kIn O (c.get f) c.hd n hu (znR ru) (h u _ (I.tok _) ru)
theorem zfv(I:Inv X pins σ H s)(e:H a=some (.ins C dx fs))(c:Cls X.K C)(k:Meth X.K C m g)(l:fs.lookup m=none)
 (h:Q (.ref g,[.ref a]) s):wpAny (model X.prog X.w) A (getMethod (.ref a) m pl) Q E s:=by
 obtain⟨mA,O,r,_,_,_⟩:=ziB I.hok e
 have hn:mA m=none:=zcS.none_of (by rw[<-l];exact r m)
 exact zov I.kIn O (c.get m) k.at_ k.fn hn h
theorem zmi(I:Inv X pins σ H s)(e:H a=some (.ins C dx fs))(c:Cls X.K C)(n:wB X.K C f)(hl:fs.length<1000)(ry:RelV y u)
 (h:∀s',Inv X pins σ (upd H a (.ins C dx (zae f y fs))) s'->Q () s'):wpAny (model X.prog X.w) A (setAttr (.ref a) f u) Q E s:=by
 obtain⟨mA,O,r,wi,_,ho⟩:=ziB I.hok e
 have hz:(fs.map (·.1)).length<=sizeLine:=by rw[zS,sizeLine_eq];omega
 refine zsd I.kIn O c.sa c.po n.taker c.hd wi hz λh' O' sb=>h _ ?_
 have hd:∃o,h'.get? dx=some o:=let⟨o,_,_,e',_⟩:=O'.ns;⟨o,e'⟩
 refine I.write (x:=a) (e:=dx) (by rw[e];exact True.intro) (.inr ho) (λb q hb z=>(sb.2 b hb).trans z) hd ?_
 refine⟨by rw[yj O.ne];exact ho, ?_,O.ne,O'.obj,_,O'.ns,λg=>?_,λg hg=>?_⟩
 · have:=zeE f y fs;omega
 · show zcS ((zae f y fs).lookup g) (if g=f then some u else mA g)
   rw[zel]
   by_cases q:g=f
   · rw[if_pos q,if_pos q];exact ry
   · rw[if_neg q,if_neg q];exact r g
 · by_cases q:g=f
   · rw[q];exact(zdp f y fs).1
   · refine(zdp f y fs).2 g (wi g λz=>hg ?_)
     show(if g=f then some u else mA g)=none
     rw[if_neg q];exact z
theorem Inv.made(I:Inv X pins σ H s):Inv X pins σ (upd (upd H s.heap.objs.size (.own (s.heap.objs.size+1))) (s.heap.objs.size+1) (.ins C s.heap.objs.size []))
 {s with heap:=(s.heap.push PySem.W.emptyDict).push (PySem.W.instObj C s.heap.objs.size)}:=by
 have e1:(s.heap.push PySem.W.emptyDict).get? s.heap.objs.size=some PySem.W.emptyDict:=zxI s.heap rfl
 have e2:((s.heap.push PySem.W.emptyDict).push (PySem.W.instObj C s.heap.objs.size)).get? (s.heap.objs.size+1)=some (PySem.W.instObj C s.heap.objs.size):=by
  have:=zxI (s.heap.push PySem.W.emptyDict) (o:=PySem.W.instObj C s.heap.objs.size) rfl
  rwa [zxP]at this
 have e3:(s.heap.push PySem.W.emptyDict).Ns s.heap.objs.size (λ_=>none):=⟨PySem.W.emptyDict,#[],_,e1,rfl,(λe he=>absurd he (by simp)),λ_=>rfl⟩
 have I1:=I.laid (a:=s.heap.objs.size) (o:=.own (s.heap.objs.size+1)) (h':=s.heap.push PySem.W.emptyDict) (t':=s.toks) (λb u q=>zxG _ q) (zzL _) ⟨_,e1⟩
 refine I1.laid (a:=s.heap.objs.size+1) (o:=.ins C s.heap.objs.size []) (t':=s.toks) (λb u q=>zxG _ q) (Nat.le_of_eq (zxP _ _)) ?_
 have ne:s.heap.objs.size≠s.heap.objs.size+1:=zzO (Nat.lt_succ_self _)
 refine⟨by rw[yj ne,yP],Nat.zero_le _,ne,e2,λ_=>none,(Heap.Ns1.of_empty e3).at λo q=>zxG _ q,λ_=>True.intro,λy hy=>absurd rfl hy⟩
theorem zqK(hb:attributeBase e f env (eval e env)=eval e env)
 (h:wpAny (model prog w) A (eval e env) (λo s₁=>wpAny (model prog w) A (getAttr o f true) Q E s₁) E s):wpAny (model prog w) A (eval (.Attribute e f pos) env) Q E s:=
 Attribute_any_ h (by rw[arm_eval_Attribute,hb])
end
def zwn(K:zD)(ta:TE)(f:Str):TE:=λσ H Q=>ta σ H λx H1=>∃a C dx fs v,x = .ref a/\H1 a=some (.ins C dx fs)/\Cls K C/\wB K C f/\fs.lookup f=some v/\Q v H1
def zwD(K:zD)(ta tv:TE)(f:Str):TS:=λD σ H=>tv σ H λy H1=>ta σ H1 λx H2=>∃a C dx fs,x = .ref a/\H2 a=some (.ins C dx fs)/\Cls K C/\wB K C f/\fs.length<1000/\
 D.nx σ (upd H2 a (.ins C dx (zae f y fs)))
section
variable{X:Cx}{o e value:Expr}{f:Str}{pos pos' tpos:Pos}{ta tv:TE}
theorem zur(he:PE X e ta)(hb:attributeBase e f X.env (eval e X.env)=eval e X.env):PE X (.Attribute e f pos) (zwn X.K ta f):=by
 intro pins s σ H Q I h
 refine zqK hb (thn (he pins s σ H _ I h) λu s1 ⟨x,H1,I1,rx,a,C,dx,fs,v,ex,ea,c,n,l,q⟩=>?_)
 subst ex
 obtain rfl:u=Value.ref a:=rx
 exact zkX I1 ea c n l λu' s2 I2 ru=>⟨v,H1,I2,ru,q⟩
theorem zuE(ha:PE X o ta)(hv:PE X value tv)(hs:swapsWith value (some (.Attribute o f pos')) pos.line X.env=pure false):PS X (.Assign [.Attribute o f pos'] value pos) (zwD X.K ta tv f):=by
 intro pins s σ H D I h
 refine plainObj_wpAny_Assign_Attribute (thn (hv pins s σ H _ I h) λu s1 ⟨y,H1,I1,ry,q⟩=>thn (ha pins s1 σ H1 _ I1 q) λov s2 ⟨x,H2,I2,rx,a,C,dx,fs,ex,ea,c,n,l,q2⟩=>?_) hs
 subst ex
 obtain rfl:ov=Value.ref a:=rx
 exact zmi I2 ea c n l ry λs3 I3=>⟨σ,_,I3,q2⟩
end
section
variable{X:Cx}{pins:List (Addr×Obj)}{σ:St}{H:Hp}{s:Shared}{A:Around}{E:Value->Shared->Prop}{Q:Value->Shared->Prop}{c:Value}{b:Bool}
inductive TyOf(K:zD)(H:Hp):V->Value->Prop where
 |non:TyOf K H .non (.type "NoneType")
 |bl (x:Bool):TyOf K H (.bl x) (.type "bool")
 |int (i:Int):TyOf K H (.int i) (.type "int")
 |str (x:Str):TyOf K H (.str x) (.type "str")
 |flt (x:UInt64):TyOf K H (.flt x) (.type "float")
 |lst {a:Addr}{xs:List V}(e:H a=some (.lst xs)):TyOf K H (.ref a) (.type "list")
 |frz {a:Addr}{o:Obj}{xs:List V}(e:H a=some (.frz o (.lst xs))):TyOf K H (.ref a) (.type "list")
 |tup {a:Addr}{xs:List V}(e:H a=some (.tup xs)):TyOf K H (.ref a) (.type "tuple")
 |dK {a:Addr}{kvs:List (Key×V)}(e:H a=some (.dK kvs)):TyOf K H (.ref a) (.type "dict")
 |dT {a:Addr}{kvs:List (List Key×V)}(e:H a=some (.dT kvs)):TyOf K H (.ref a) (.type "dict")
 |ins {a C dx:Addr}{fs:List (Str×V)}(e:H a=some (.ins C dx fs)) (cl:Cls K C) (ha:PySem.W.findIn K (.ref C) "__class__"=some (some (.builtin "object.__class__")))
  (hn:PySem.W.specialIn K (.builtin "object.__class__") "__get__"=some (some (.builtin "getset_descriptor.__get__"))) (htk:PySem.W.takesIn K (.builtin "object.__class__")=some true)
  (hm:PySem.W.mroIn K C (.type "object")=some true):TyOf K H (.ref a) (.ref C)
end
end L2
namespace L2
open PySem PySem.Spec PyProof.Rows
structure Room(k:Nat)(A:Around):Prop where
 hd:A.handled=none
 dp:A.depth+3*k+5<recursionLimit
 un:A.units+16*k+200<cLine
 gd:A.guards=some []
theorem Room.mono(r:Room k A)(h:j<=k):Room j A:=⟨r.hd,by have:=r.dp;omega,by have:=r.un;omega,r.gd⟩
theorem Room.deeper(r:Room (k+1) A)(env:Env):Room k (A.deeper env):=
 ⟨r.hd,by have:=r.dp;show A.depth+1+3*k+5<_;omega,by have:=r.un;show A.units+3+16*k+200<_;omega,r.gd⟩
theorem zlP{A:Around}{C:Addr}{us:List Value}{kw:List (Str×Value)}:(A.under (.builtin "type.__call__" ⟨.ref C::us,kw⟩)).depth=A.depth+1:=by
 first|rfl|simp[Around.under,Code.weight,Code.isCreation,Code.isGuard,Code.isCaller,Code.frames,Code.isFrame,guardIds]
theorem zlQ{A:Around}{C:Addr}{us:List Value}{kw:List (Str×Value)}:(A.under (.builtin "type.__call__" ⟨.ref C::us,kw⟩)).units=A.units+1:=by
 first|rfl|simp[Around.under,Code.cUnits,Code.frames,Code.isFrame]
theorem zkB{A:Around}{C:Addr}{us:List Value}{kw:List (Str×Value)}:(A.under (.builtin "type.__call__" ⟨.ref C::us,kw⟩)).guards=A.guards:=by
 first|rfl|simp[Around.under,Code.guards,Code.isGuard,guardIds,PySem.pushGuards]
theorem Room.make{k:Nat}{A:Around}(r:Room (k+1) A)(C:Addr)(us:List Value)(kw:List (Str×Value)):Room k (A.under (.builtin "type.__call__" ⟨.ref C::us,kw⟩)):=
 ⟨r.hd,by have:=r.dp;rw[zlP];omega,by have:=r.un;rw[zlQ];omega,by rw[zkB];exact r.gd⟩
theorem Room.depth(r:Room k A):A.depth<recursionLimit:=by have:=r.dp;omega
def ztU:TA:=λ_ H Q=>Q [] H
def zsr(ta:TE)(tr:TA):TA:=λσ H Q=>ta σ H λx H1=>tr σ H1 λxs H2=>Q (x::xs) H2
section
variable{X:Cx}{e:Expr}{es:List Expr}{te:TE}{t:TA}{pos:Pos}
theorem ziy:PA X [] ztU:=λ_ _ _ _ H Q I h=>Calls.spliced_nil ⟨[],H,I,.nil,h⟩
theorem zcr(ha:PE X e te)(hr:PA X es t)(hs:starEach (e::es) X.env=(false,eval e X.env)::starEach es X.env:=by rfl):PA X (e::es) (zsr te t):=by
 intro pos pins s σ H Q I h
 rw[hs]
 show wpAny _ _ (spliced ((false,eval e X.env)::backTo pos (starEach es X.env))) _ _ s
 refine Calls.spliced_cons (thn (ha pins s σ H _ I h) λu s1 ⟨x,H1,I1,r1,q1⟩=>?_)
 exact thn (hr pos pins s1 σ H1 _ I1 q1) λus s2 ⟨xs,H2,I2,r2,q2⟩=>⟨x::xs,H2,I2,.cons r1 r2,q2⟩
def zvS(t:TA):TE:=λσ H Q=>t σ H λxs H1=>xs.length<=sizeLine/\∀p,H1 p=none->Q (.ref p) (upd H1 p (.tup xs))
def zws(t:TA):TE:=λσ H Q=>t σ H λxs H1=>xs.length<=sizeLine/\∀p,H1 p=none->Q (.ref p) (upd H1 p (.lst xs))
theorem zti(h:PA X es t):PE X (.Tuple es x1 pos) (zvS t):=by
 intro pins s σ H Q I hq
 refine wpAny_Tuple_spliced (thn (h pos pins s σ H _ I hq) λus s1 ⟨xs,H1,I1,r,z,q⟩=>⟨by rw[<-r.length];exact z, ?_⟩)
 have hf:H1 s1.heap.objs.size=none:=I1.hok.fresh (zzL _)
 refine⟨.ref s1.heap.objs.size,upd H1 s1.heap.objs.size (.tup xs),I1.laid (t':=s1.toks) (λb u e=>zxG _ e) (zzL _) ?_,rfl,q _ hf⟩
 exact⟨z,us,r,⟨_,zxI _ rfl,rfl,_,rfl⟩⟩
theorem ztN(h:PA X es t):PE X (.List es pos) (zws t):=by
 intro pins s σ H Q I hq
 refine wpAny_List_spliced (thn (h pos pins s σ H _ I hq) λus s1 ⟨xs,H1,I1,r,z,q⟩=>⟨by rw[<-r.length];exact z, ?_⟩)
 have hf:H1 s1.heap.objs.size=none:=I1.hok.fresh (zzL _)
 refine⟨.ref s1.heap.objs.size,upd H1 s1.heap.objs.size (.lst xs),I1.laid (t':=s1.toks) (λb u e=>zxG _ e) (zzL _) ?_,rfl,q _ hf⟩
 exact⟨z,us,0,r,zxI _ rfl⟩
end
abbrev Sp:=List V->Hp->VK->XK->Prop
abbrev CXT:=List Env->Hp->Shared->XK->Value->Shared->Prop
structure Env0(P:Program)(w:World)(K:zD)(mg:Str->Option Value)(base:Heap)(A:Around)(outer:List Env)(s:Shared)(H:Hp):Prop where
 frames:A.frames=some outer
 mod:Mod K mg base
 bs:∀b o,base.get? b=some o->s.heap.get? b=some o/\H b=none
 bsz:base.objs.size<=s.heap.objs.size
 funs:s.heap.FunFrames base outer
 frf:∀b ∈ frs outer,H b=none
 hok:HOk P w H s.heap
 bare:AllBare s.gens
def CE(outer:List Env)(P:Program)(w:World)(H:Hp)(s:Shared)(Q:VK)(u:Value)(s':Shared):Prop:=
 ∃v H',s'.os=s.os/\AllBare s'.gens/\Un (frs outer) [] H H' s.heap s'.heap/\HOk P w H' s'.heap/\RelV v u/\Q v H'
def CR(CX:CXT)(outer:List Env)(P:Program)(w:World)(H:Hp)(s:Shared)(Q:VK)(E:XK)(r:Result)(s':Shared):Prop:=
 match r with
 | .ok (.ret u)=>CE outer P w H s Q u s'
 | .ok _=>False
 | .error e=>CX outer H s E e s'
structure FnOk(P:Program)(w:World)(K:zD)(mg:Str->Option Value)(base:Heap)(CX:CXT)(k:Nat)(f:Addr)(fd:FuncData)(ps:List Str)(sp:Sp):Prop where
 len:∀vs H Q E,sp vs H Q E->vs.length=ps.length
 run:∀(A:Around) (outer:List Env) (s:Shared) (H:Hp) (args:Args) (us:List Value) (vs:List V) (Q:VK) (E:XK),Room k A->Env0 P w K mg base A outer s H->BindsTo s fd args (ps.zip us)->Vals vs us->sp vs H Q E->
  codeAny (model P w) A (.call (.ref f) args) (CR CX outer P w H s Q E) s
theorem FnOk.imp{P:Program}{w:World}{K:zD}{mg:Str->Option Value}{base:Heap}{CX:CXT}{k:Nat}{f:Addr}{fd:FuncData}{ps:List Str}{sp sp':Sp}(F:FnOk P w K mg base CX k f fd ps sp)
 (h:∀vs H Q E,sp' vs H Q E->sp vs H Q E):FnOk P w K mg base CX k f fd ps sp':=
 ⟨λvs H Q E q=>F.len vs H Q E (h _ _ _ _ q),λA outer s H args us vs Q E hr he hb hv hs=>F.run A outer s H args us vs Q E hr he hb hv (h _ _ _ _ hs)⟩
theorem Env0.make{P:Program}{w:World}{K:zD}{mg:Str->Option Value}{base:Heap}{A:Around}{outer:List Env}{s:Shared}{H:Hp}(e:Env0 P w K mg base A outer s H)(C:Addr)(us:List Value)(kw:List (Str×Value)):
 Env0 P w K mg base (A.under (.builtin "type.__call__" ⟨.ref C::us,kw⟩)) outer s H:=⟨by first|exact e.frames|(simpa[Around.under,Code.envs,Code.isFrame,pushEnvs]using e.frames),e.mod,e.bs,e.bsz,e.funs,e.frf,e.hok,e.bare⟩
section
variable{X:Cx}{pins:List (Addr×Obj)}{σ:St}{H:Hp}{s s':Shared}
theorem Inv.env0(I:Inv X pins σ H s):Env0 X.prog X.w X.K X.mg X.base X.A X.stack s H:=
 ⟨I.ok.frames,I.ok.mod,I.bs,zzM I.ok.bsz I.sz,I.stack,I.stkFree,I.hok,I.bare⟩
theorem Inv.after(I:Inv X pins σ H s)(h:CE X.stack X.prog X.w H s Q u s'):EP X pins σ Q u s':=by
 obtain⟨v,H',os,bare,un,hok,r,q⟩:=h
 obtain⟨hh,g,d,t,os'⟩:=s'
 obtain rfl:os'=s.os:=os
 exact⟨v,H',I.call (h':=hh) (g':=g) (d':=d) (t':=t) (ch:=[]) un hok bare (λb z=>absurd z (by simp)),r,q⟩
end
def zsy(sp:Sp)(dvs:List V)(E:XK)(t:TA):TE:=λσ H Q=>t σ H λvs H1=>sp (vs++dvs) H1 Q E
def zsD(C:Addr)(sp:Sp)(dvs:List V)(E:XK)(t:TA):TE:=λσ H Q=>t σ H λvs H1=>∀x dx,H1 x=none->H1 dx=none->dx≠x->
 sp (.ref x::(vs++dvs)) (upd (upd H1 dx (.own x)) x (.ins C dx [])) (λv H2=>v = .non/\Q (.ref x) H2) E
def Binds(K:zD)(fd:FuncData)(ps:List Str)(ds:List Value):Prop:=
 ∀(s:Shared) (us:List Value),K.In s.heap->(us++ds).length=ps.length->BindsTo s fd ⟨us,[]⟩ (ps.zip (us++ds))
theorem Binds.all{K:zD}{fd:FuncData}{ps:List Str}(h:∀us:List Value,us.length=ps.length->bindArgs fd ⟨us,[]⟩=pure (ps.zip us)):Binds K fd ps []:=λs us _ hl=>by
 rw[zyC]at hl ⊢
 exact .of_eq (h us hl)
def Yo(CX:CXT)(X:Cx)(E:XK):Prop:=∀(pins:List (Addr×Obj)) (σ:St) (H:Hp) (s:Shared) (e:Value) (s':Shared),Inv X pins σ H s->CX X.stack H s E e s'->X.xe e s'
section
variable{X:Cx}{CX:CXT}{k:Nat}{f C:Addr}{fd:FuncData}{ps:List Str}{sp:Sp}{dvs:List V}{ds:List Value}{E:XK}{x m:Str}{p pos apos:Pos}{e o:Expr}{es:List Expr}{ta:TE}{t:TA}
theorem zma(F:FnOk X.prog X.w X.K X.mg X.base CX k f fd ps sp)(hr:Room k X.A)(hb:Binds X.K fd ps ds)(hd:Vals dvs ds)(hx:Yo CX X E)
 (I:Inv X pins σ H s) (r:Vals vs us) (h:sp (vs++dvs) H Q E):wpAny (model X.prog X.w) X.A (call (.ref f) us) (EP X pins σ Q) X.xe s:=by
 have r2:Vals (vs++dvs) (us++ds):=r.append hd
 have hl:(us++ds).length=ps.length:=by rw[<-r2.length];exact F.len _ _ _ _ h
 refine wpAny_call (codeAny_mono (F.run X.A X.stack s H ⟨us,[]⟩ (us++ds) (vs++dvs) Q E hr I.env0 (hb s us I.kIn hl) r2 h) λr s' hq=>?_)
 cases r with
 |error e=>exact hx pins σ H s e s' I hq
 |ok fl=>
  cases fl with
  |ret u=>exact I.after hq
  |next=>exact False.elim hq
  |brk=>exact False.elim hq
  |cont=>exact False.elim hq
theorem zmV(F:FnOk X.prog X.w X.K X.mg X.base CX k f fd ps sp)(hr:Room k X.A)(hg:Gl X x)(hm:X.mg x=some (.ref f))(hk:PySem.W.keepIn X.K (.ref f)=true)(hb:Binds X.K fd ps ds)(hd:Vals dvs ds)(hx:Yo CX X E)
 (ha:PA X (e::es) t) (hdb:(x==("__debug__":Str))=false:=by decide) (he:starEach (e::es) X.env=(false,eval e X.env)::starEach es X.env:=by rfl) (hpl:(backTo pos (starEach es X.env)).any (·.1)=false:=by rfl):
 PE X (.Call (.Name x p) (e::es) [] pos) (zsy sp dvs E t):=by
 intro pins s σ H Q I h
 refine wpAny_Call_Name_kw (zmn I hg hm ?_ hdb)
 refine PySem.W.callWith_K (h₀:=X.base) I.ok.mod.kin hk (thn (ha pos pins s σ H _ I h) λus s1 ⟨vs,H1,I1,r,q⟩=>⟨I1.kIn, ?_⟩) he hpl
 exact zma F hr hb hd hx I1 r q
structure Mk(K:zD)(C f:Addr):Prop where
 makes:PySem.W.makesIn K C=true
 init:PySem.W.findIn K (.ref C) "__init__"=some (some (.ref f))
 fn:PySem.W.isFn K (.ref f)=true
 kp:PySem.W.keepIn K (.ref C)=true
theorem zpm(M:Mk X.K C f)(F:FnOk X.prog X.w X.K X.mg X.base CX k f fd ps sp)(hr:Room (k+1) X.A)(hb:Binds X.K fd ps ds)(hd:Vals dvs ds)
 (hx:Yo CX X E) (I:Inv X pins σ H s) (r:Vals vs us)
 (h:∀x dx,H x=none->H dx=none->dx≠x->sp (.ref x::(vs++dvs)) (upd (upd H dx (.own x)) x (.ins C dx [])) (λv H2=>v = .non/\Q (.ref x) H2) E):
 wpAny (model X.prog X.w) X.A (call (.ref C) us) (EP X pins σ Q) X.xe s:=by
 have hq:=h (s.heap.objs.size+1) s.heap.objs.size (I.hok.fresh (zyV _)) (I.hok.fresh (zzL _)) (zzO (Nat.lt_succ_self _))
 have I2:=Inv.made (C:=C) I
 have r2:Vals (V.ref (s.heap.objs.size+1)::(vs++dvs)) (Value.ref (s.heap.objs.size+1)::(us++ds)):=.cons rfl (r.append hd)
 have hl:(Value.ref (s.heap.objs.size+1)::us++ds).length=ps.length:=by
  have e:=r2.length
  rw[F.len _ _ _ _ hq]at e
  exact e.symm
 refine wpAny_call (zoV (f:=f) I.kIn M.makes M.init (beq_iff_eq.mp M.fn) (codeAny_mono (F.run _ X.stack _ _ ⟨Value.ref (s.heap.objs.size+1)::us,[]⟩ (Value.ref (s.heap.objs.size+1)::(us++ds)) _ _ E (hr.make C us [])
  (I2.env0.make C us []) (hb _ (Value.ref (s.heap.objs.size+1)::us) I2.kIn hl) r2 hq) λr s' hq'=>?_))
 cases r with
 |error e=>exact hx pins σ _ _ e s' I2 hq'
 |ok fl=>
  cases fl with
  |ret u=>
   obtain⟨v,H',I3,rv,ev,q3⟩:=I2.after hq'
   subst ev
   exact⟨rv,⟨V.ref (s.heap.objs.size+1),H',I3,rfl,q3⟩⟩
  |next=>exact False.elim hq'
  |brk=>exact False.elim hq'
  |cont=>exact False.elim hq'
theorem zrO(M:Mk X.K C f)(F:FnOk X.prog X.w X.K X.mg X.base CX k f fd ps sp)(hr:Room (k+1) X.A)(hg:Gl X x)(hm:X.mg x=some (.ref C))(hb:Binds X.K fd ps ds)(hd:Vals dvs ds)(hx:Yo CX X E)
 (ha:PA X (e::es) t) (hdb:(x==("__debug__":Str))=false:=by decide) (he:starEach (e::es) X.env=(false,eval e X.env)::starEach es X.env:=by rfl) (hpl:(backTo pos (starEach es X.env)).any (·.1)=false:=by rfl):
 PE X (.Call (.Name x p) (e::es) [] pos) (zsD C sp dvs E t):=by
 intro pins s σ H Q I h
 refine wpAny_Call_Name_kw (zmn I hg hm ?_ hdb)
 refine PySem.W.callWith_K (h₀:=X.base) I.ok.mod.kin M.kp (thn (ha pos pins s σ H _ I h) λus s1 ⟨vs,H1,I1,r,q⟩=>⟨I1.kIn, ?_⟩) he hpl
 exact zpm M F hr hb hd hx I1 r q
end
section
variable{X:Cx}{CX:CXT}{k:Nat}{f C:Addr}{fd:FuncData}{ps ks:List Str}{sp:Sp}{E:XK}{x m:Str}{p pos apos kpos:Pos}{e o:Expr}{es:List Expr}{kws:List Keyword}{te ta:TE}{t tk:TA}{nm:Option Str}
structure KBinds(K:zD)(fd:FuncData)(ps ks:List Str)(g:List Value->List Value->List Value)(gV:List V->List V->List V):Prop where
 to:∀(s:Shared) (us ws:List Value),K.In s.heap->(g us ws).length=ps.length->BindsTo s fd ⟨us,ks.zip ws⟩ (ps.zip (g us ws))
 rel:∀{vs:List V}{us:List Value}{zs:List V}{ws:List Value},Vals vs us->Vals zs ws->Vals (gV vs zs) (g us ws)
variable{g:List Value->List Value->List Value}{gV:List V->List V->List V}
end
structure FnScope(N P:List Str)(sc:Scope):Prop where
 kind:sc.kind = .function
 co:sc.isCoroutine=false
 gen:sc.isGenerator=false
 nd:N.Nodup
 pre:N.take P.length=P
 par:∀x ∈ P,sc.names.lookup x=some .local\/sc.names.lookup x=some .cell
 nofree:∀y ∈ sc.names,y.2 ≠ .free
theorem zhA{kindOf:Str->Option NameKind}{x:Str}:∀{binds:List (Str×Value)}{m:Str->Option Value},(∀v,(x,v) ∉ binds)->bindL kindOf binds m x=m x
 | [],_,_=>rfl
 |(n,v)::r,m,h=>by
  unfold bindL
  rw[zhA λw hw=>h w (zzB _ hw)]
  split
  · have:x≠n:=by rintro rfl;exact h v zzD
    simp[this]
  · rfl
theorem zhV{kindOf:Str->Option NameKind}{x:Str}:∀{binds:List (Str×Value)}{m:Str->Option Value},(∀v,(x,v) ∉ binds)->bindC kindOf binds m x=m x
 | [],_,_=>rfl
 |(n,v)::r,m,h=>by
  unfold bindC
  rw[zhV λw hw=>h w (zzB _ hw)]
  split
  · rfl
  · have:x≠n:=by rintro rfl;exact h v zzD
    simp[this]
theorem zin{kindOf:Str->Option NameKind}{x:Str}{v:Value}:∀{P:List Str}{vs:List Value}{i:Nat}{m:Str->Option Value},P.Nodup->P[i]? = some x->vs[i]? = some v->kindOf x=some .local->
 bindL kindOf (P.zip vs) m x=some v
 | [],_,_,_,_,h,_,_=>by simp at h
 |_::_,[],_,_,_,_,h,_=>by simp at h
 |p::P,w::vs,0,m,nd,h1,h2,hk=>by
  simp at h1 h2;subst h1;subst h2
  show bindL kindOf ((p,w)::P.zip vs) m p=_
  unfold bindL
  rw[zhA λv hv=>(zzU.mp nd).1 (List.of_mem_zip hv).1,if_pos hk]
  simp
 |p::P,w::vs,i+1,m,nd,h1,h2,hk=>by
  show bindL kindOf ((p,w)::P.zip vs) m x=_
  unfold bindL
  exact zin (i:=i) (zzU.mp nd).2 (by simpa using h1) (by simpa using h2) hk
theorem zhO{kindOf:Str->Option NameKind}{x:Str}{v:Value}:∀{P:List Str}{vs:List Value}{i:Nat}{m:Str->Option Value},P.Nodup->P[i]? = some x->vs[i]? = some v->kindOf x≠some .local->
 bindC kindOf (P.zip vs) m x=some v
 | [],_,_,_,_,h,_,_=>by simp at h
 |_::_,[],_,_,_,_,h,_=>by simp at h
 |p::P,w::vs,0,m,nd,h1,h2,hk=>by
  simp at h1 h2;subst h1;subst h2
  show bindC kindOf ((p,w)::P.zip vs) m p=_
  unfold bindC
  rw[zhV λv hv=>(zzU.mp nd).1 (List.of_mem_zip hv).1,if_neg hk]
  simp
 |p::P,w::vs,i+1,m,nd,h1,h2,hk=>by
  show bindC kindOf ((p,w)::P.zip vs) m x=_
  unfold bindC
  exact zhO (i:=i) (zzU.mp nd).2 (by simpa using h1) (by simpa using h2) hk
def start(N:List Str)(vs:List V):St:=vs.map some++List.replicate (N.length-vs.length) none
def zji(CX:CXT)(P:Program)(w:World)(K:zD)(mg:Str->Option Value)(base:Heap)(N:List Str)(qual:Str)(scope:Scope)(f:Addr)(cd:Value)(A:Around)(outer:List Env)(s:Shared)(H:Hp)(E:XK):Cx where
 prog:=P
 w:=w
 K:=K
 mg:=mg
 base:=base
 A:=A.deeper (envOfC qual scope s.heap.objs.size f cd)
 N:=N
 s₀:=s
 H₀:=H
 env:=envOfC qual scope s.heap.objs.size f cd
 outer:=outer
 stack:=envOfC qual scope s.heap.objs.size f cd::outer
 ex:=[]
 calm:=true
 fn:=λ_=>true
 pn:=[]
 xe:=λe s'=>wpAny (model P w) (A.deeper (envOfC qual scope s.heap.objs.size f cd)) (leaving (envOfC qual scope s.heap.objs.size f cd) e) (λ_ s''=>CX outer H s E e s'') (λe' s''=>CX outer H s E e' s'') s'
theorem zka{sc:Scope}{n:Nat}{x:Str}(h:sc.names.lookup x=some .cell):∃c,(cellsFrom n sc.names []).lookup x=some c:=by
 have q:=PySem.W.cellsFrom_some sc.names n [] (.inl h)
 exact Option.isSome_iff_exists.mp q
theorem znM{CX:CXT}{P:Program}{w:World}{K:zD}{mg:Str->Option Value}{base:Heap}{N ps:List Str}{qual:Str}{scope:Scope}{f:Addr}{cd:Value}{A:Around}{outer:List Env}{s s1:Shared}{H:Hp}{E:XK}{us:List Value}{vs:List V}
 (S:FnScope N ps scope) (hd:A.handled=none) (e0:Env0 P w K mg base A outer s H) (hl:vs.length=ps.length) (r:Vals vs us)
 (x:InCallC s s.heap.objs.size (bindL (envOfC qual scope s.heap.objs.size f cd).kindOf (ps.zip us) λ_=>none) (cellsFrom (s.heap.objs.size+1) scope.names []) (bindC (envOfC qual scope s.heap.objs.size f cd).kindOf (ps.zip us) λ_=>none) s1):
 Inv (zji CX P w K mg base N qual scope f cd A outer s H E) [] (start N vs) H s1:=by
 have hpl:ps.length<=N.length:=by have:=congrArg List.length S.pre;rw[zzQ]at this;omega
 obtain⟨h1,tk,rfl,hk⟩:=x.done
 have noA:∀b:Addr,b ∉ (zji CX P w K mg base N qual scope f cd A outer s H E).ex:=λb z=>absurd (show b ∈ ([]:List Addr)from z) (by simp)
 refine⟨⟨e0.mod,S.kind,rfl,rfl,zzL _,λy z c h1 h2=>?_,λy hy=>?_,λy c _ h=>?_,λ_=>hd,Around.frames_deeper e0.frames,.inr ⟨rfl,rfl⟩,λb z=>absurd z (noA b),e0.bs,e0.bsz,λb _ _=>noA b,λb z=>absurd z (noA b),e0.funs,e0.frf⟩,
  rfl,e0.bare,Un.kept hk,⟨_,x.toInCall.ns,λi y v h1 h2 h3=>?_⟩,λy c h=>⟨_,x.cell y c h⟩,e0.hok.fresh (zzL _),λy c h=>?_,λp hp=>absurd (show p ∈ ([]:List (Addr×Obj))from hp) (by simp),e0.hok.kept hk, ?_⟩
 · exact name_of_addr x.apart (PySem.mem_of_lookup h1) (PySem.mem_of_lookup h2)
 · have hy:scope.names.lookup y=some .cell\/scope.names.lookup y=some .free:=hy
   rcases hy with hy|hy
   · exact zka hy
   · exact absurd rfl (S.nofree _ (PySem.mem_of_lookup hy))
 · exact Nat.le_of_lt (x.above y c (PySem.mem_of_lookup h))
 · have hi:i<vs.length:=by
    unfold start at h2
    by_cases hi:i<vs.length
    · exact hi
    · rw[zyP (by simpa using hi)]at h2
      rw[List.getElem?_replicate]at h2
      split at h2<;>cases h2
   have ha:vs[i]? = some v:=by
    unfold start at h2
    rw[zyN (by simpa using hi),zzG]at h2
    cases e:vs[i]? with
    |none=>rw[e]at h2;cases h2
    |some a=>rw[e]at h2;cases h2;rfl
   obtain⟨u,hu,rv⟩:=r.get ha
   have hp:ps[i]? = some y:=by
    rw[<-S.pre,List.getElem?_take_of_lt (by omega)];exact h1
   have ndP:ps.Nodup:=by rw[<-S.pre];exact S.nd.sublist (List.take_sublist _ _)
   refine⟨u,rv, ?_⟩
   rcases S.par y (zzY hp)with k|k
   · exact .inl ⟨k,zin ndP hp hu k⟩
   · obtain⟨c,e⟩:=zka (n:=s.heap.objs.size+1) k
     refine .inr ⟨.inl k,c,e, ?_⟩
     have q:=x.cell y c e
     rw[zhO ndP hp hu (by show scope.names.lookup y≠_;rw[k];decide)]at q
     exact q
 · exact e0.hok.fresh (Nat.le_of_lt (x.above y c (PySem.mem_of_lookup h)))
 · unfold start
   show _=N.length
   rw[zzH,zS,List.length_replicate]
   omega
theorem zuW{CX:CXT}{P:Program}{w:World}{K:zD}{mg:Str->Option Value}{base:Heap}{k:Nat}{f:Addr}{name qual:Str}{params:Arguments}{body:List Stmt}{scope:Scope}{dV kV doc pm cdv ct oc:Value}{an od:Option Addr}
 {osl:Array (Option Value)}{N ps:List Str}{sp:Sp}(lk:K.lookup f=some ⟨oc,od,.func (PySem.W.fnOf name qual params body scope dV kV doc pm an cdv ct),osl⟩) (hcd:PySem.W.codeIn K cdv qual=true) (S:FnScope N ps scope)
 (len:∀vs H Q E,sp vs H Q E->vs.length=ps.length)
 (hbody:∀(A:Around) (outer:List Env) (s:Shared) (H:Hp) (vs:List V) (Q:VK) (E:XK),Room k (A.deeper (envOfC qual scope s.heap.objs.size f cdv))->sp vs H Q E->
  ∃t,PSs (zji CX P w K mg base N qual scope f cdv A outer s H E) body t/\t {nx:=λ_ H'=>Q .non H',rt:=Q} (start N vs) H):
 FnOk P w K mg base CX (k+1) f (PySem.W.fnOf name qual params body scope dV kV doc pm an cdv ct) ps sp:=by
 refine⟨len,λA outer s H args us vs Q E hr e0 hb r hsp=>?_⟩
 have hl:=len _ _ _ _ hsp
 have KX:K.In s.heap:=e0.mod.kin.keeps λb o e=>(e0.bs b o e).1
 have lim:s.heap.NoLimit:=e0.mod.nolimit.keeps λb o e=>(e0.bs b o e).1
 have hkind:∀y ∈ ps.zip us,scope.names.lookup y.1=some .local\/(scope.names.lookup y.1=some .cell/\((cellsFrom (s.heap.objs.size+1) scope.names []).lookup y.1).isSome=true):=λ⟨n,v⟩ hy=>by
  rcases S.par n (List.of_mem_zip hy).1 with q|q
  · exact .inl q
  · exact .inr ⟨q,PySem.W.cellsFrom_some _ _ _ (.inl q)⟩
 refine codeAny_call_function hr.depth (KX _ _ lk) rfl S.co S.gen rfl (PySem.W.codeRec_of KX hcd) (hb _ _ _ _ ?_)
 refine wpAny_newFunctionEnv_cells S.kind hkind λenv he s1 x=>?_
 subst he
 refine⟨lim.keeps x.toInCall.keep,codeAny_func ?_⟩
 obtain⟨t,ht,hq⟩:=hbody A outer s H vs Q E (hr.deeper _) hsp
 have I:Inv (zji CX P w K mg base N qual scope f cdv A outer s H E) [] (start N vs) H s1:=znM S hr.hd e0 hl r x
 refine zxR (ht [] s1 (start N vs) H _ I hq) (λfl s' hs=>?_) λe s' hs=>hs
 have fin:∀{σ':St}{H':Hp}{v:V}{u:Value},Inv (zji CX P w K mg base N qual scope f cdv A outer s H E) [] σ' H' s'->RelV v u->Q v H'->CE outer P w H s Q u s':=
  λ{σ' H' v u} J rv q=>⟨v,H',J.os,J.bare,J.base,J.hok,rv,q⟩
 cases fl with
 |ret u=>
  obtain⟨v,σ',H',J,rv,q⟩:=hs
  exact fin J rv q
 |next=>
  obtain⟨σ',H',J,q⟩:=hs
  exact fin (v:=V.non) (u:=Value.none) J rfl q
 |brk=>
  obtain⟨_,_,_,q⟩:=hs
  exact False.elim q
 |cont=>
  obtain⟨_,_,_,q⟩:=hs
  exact False.elim q
end L2
namespace L2
open PySem PySem.Spec PyProof.Rows
section
variable{X:Cx}{x:Str}{p pos:Pos}{e:Expr}{es:List Expr}{t:TA}{id T:String}{r:List V->Hp->VK->Prop}
def tCB(r:List V->Hp->VK->Prop)(t:TA):TE:=λσ H Q=>t σ H λvs H1=>r vs H1 Q
theorem zjY(hc:zbN X (.builtin id) r)(hg:Gl X x)(hm:X.mg x=none)(hv:bootBuiltins x=some (.builtin id))(ha:PA X (e::es) t)(hn:x≠"__name__":=by decide)(hdb:(x==("__debug__":Str))=false:=by decide)
 (he:starEach (e::es) X.env=(false,eval e X.env)::starEach es X.env:=by rfl) (hpl:(backTo pos (starEach es X.env)).any (·.1)=false:=by rfl):PE X (.Call (.Name x p) (e::es) [] pos) (tCB r t):=by
 intro pins s σ H Q I h
 refine wpAny_Call_Name_kw (zci I hg hm hv ?_ hn hdb)
 exact PyProof.Rows.callWith_builtin1 (thn (ha pos pins s σ H _ I h) λus s1 ⟨vs,H1,I1,r1,q1⟩=>hc pins s1 σ H1 vs us Q I1 r1 q1) he hpl
theorem zoj(hc:zbN X (.type T) r)(hg:Gl X x)(hm:X.mg x=none)(hv:bootBuiltins x=some (.type T))(ha:PA X (e::es) t)(hn:x≠"__name__":=by decide)(hdb:(x==("__debug__":Str))=false:=by decide)
 (he:starEach (e::es) X.env=(false,eval e X.env)::starEach es X.env:=by rfl) (hpl:(backTo pos (starEach es X.env)).any (·.1)=false:=by rfl):PE X (.Call (.Name x p) (e::es) [] pos) (tCB r t):=by
 intro pins s σ H Q I h
 refine wpAny_Call_Name_kw (zci I hg hm hv ?_ hn hdb)
 exact PyProof.Rows.callWith_type1 (thn (ha pos pins s σ H _ I h) λus s1 ⟨vs,H1,I1,r1,q1⟩=>hc pins s1 σ H1 vs us Q I1 r1 q1) he hpl
end
end L2
namespace L2
open PySem PySem.Spec PyProof.Rows
section
variable{κ:Type}[DecidableEq κ]
def zdA(kvs:List (κ×V))(k:κ):Option V:=(kvs.find? λkv=>decide (kv.1=k)).map (·.2)
theorem zoL{p:κ×V}{r:List (κ×V)}{k:κ}(e:p.1=k):zdA (p::r) k=some p.2:=by simp[zdA,List.find?_cons,e]
theorem zoD{p:κ×V}{r:List (κ×V)}{k:κ}(e:¬p.1=k):zdA (p::r) k=zdA r k:=by simp[zdA,List.find?_cons,e]
theorem zcS.isSome_eq(r:zcS o u):o.isSome=u.isSome:=by
 cases o with
 |none=>cases u with
  |none=>rfl
  |some _=>exact(show False from r).elim
 |some _=>cases u with
  |none=>exact(show False from r).elim
  |some _=>rfl
theorem KV.val{kvs:List (κ×V)}{vs:List (κ×Value)}(r:KV kvs vs)(k:κ):zcS (zdA kvs k) (valueAt vs k):=by
 unfold KV at r
 induction r with
 |nil=>exact True.intro
 | @cons p q ps qs h t ih=>
  obtain⟨h1,h2⟩:=h
  by_cases e:p.1=k
  · have e':q.1=k:=h1.symm.trans e
    have b:valueAt (q::qs) k=some q.2:=by simp[valueAt,List.find?_cons,e']
    rw[zoL e,b];exact h2
  · have e':¬q.1=k:=λz=>e (h1.trans z)
    have b:valueAt (q::qs) k=valueAt qs k:=by simp[valueAt,List.find?_cons,e']
    rw[zoD e,b];exact ih
theorem KV.length(r:KV kvs vs):kvs.length=vs.length:=Paired.length r
end
theorem zns(r:RelV (kV k) u):(vJ P w).is k u=true:=by
 cases k with
 |inl i=>obtain⟨t,e⟩:=(show ∃t,u=Value.int i t from r);subst e;exact zkP P w i t
 |inr x=>obtain⟨t,e⟩:=(show ∃t,u=Value.str x t from r);subst e;exact zaU P w x t
section
variable{P:Program}{w:World}{H:Hp}{h:Heap}{a:Addr}
theorem zvv(ok:HOk P w H h)(e:Rd H a u):Zj P w H h a u:=e.ok ok
theorem zvx(ok:HOk P w H h)(e:Rd H a (.dK kvs)):kvs.length<=sizeLine/\(a==sysModules)=false/\∃vs,KV kvs vs/\h.DictOf (vJ P w) a vs:=
 show Zj P w H h a (.dK kvs)from zvv ok e
end
section
variable{X:Cx}{pins:List (Addr×Obj)}{σ:St}{H:Hp}{s:Shared}{a:Addr}{y v:V}{u r:Value}{o:Option V}{A:Around}{E:Value->Shared->Prop}
theorem Inv.big(I:Inv X pins σ H s):sysModules<s.heap.objs.size:=by
 have h:mainGlobals<s.heap.objs.size:=(I.mod.glob.keeps I.bk).lt
 exact Nat.lt_trans (by decide) h
theorem zpk(z:kvs.length<=sizeLine)(hd:(a==sysModules)=false)(rel:KV kvs vs)(dd:h'.DictOf (vJ P w) a vs):
 Zj P w H' h' a (.dK kvs):=⟨z,hd,vs,rel,dd⟩
end
structure M1(X:Cx)(o:Expr)(m:Str)(apos:Pos)(e:Expr)(cpos:Pos):Prop where
 base:attributeBase o m X.env (eval o X.env)=eval o X.env
 few:((backTo cpos (starEach [e] X.env)).all (λx=>!x.1)&&(backToKw cpos (keywordEach [] X.env)).all (λx=>x.1.isSome)
  && decide (([e]:List Expr).length+([]:List Keyword).length+(if([]:List Keyword).isEmpty then 0 else 1)<30))=true
 line:(apos.endLine==cpos.line)=true
 trees:backTo cpos (starEach [e] X.env)=[(false,eval e X.env)]
structure M2(X:Cx)(o:Expr)(m:Str)(apos:Pos)(e f:Expr)(cpos:Pos):Prop where
 base:attributeBase o m X.env (eval o X.env)=eval o X.env
 few:((backTo cpos (starEach [e,f] X.env)).all (λx=>!x.1)&&(backToKw cpos (keywordEach [] X.env)).all (λx=>x.1.isSome)
  && decide (([e,f]:List Expr).length+([]:List Keyword).length+(if([]:List Keyword).isEmpty then 0 else 1)<30))=true
 line:(apos.endLine==cpos.line)=true
 trees:backTo cpos (starEach [e,f] X.env)=[(false,eval e X.env),(false,eval f X.env)]
end L2
namespace HT
open PySem PyProof.Rows
section
variable{prog:Program}{w:World}{A:Around}{E:Value->Shared->Prop}{s:Shared}
theorem zrI(ht:IsTup s.heap t vs.toArray)(hb:IsTup s.heap b ws.toArray)(hv:vs≠[])
 (h1:ws=[]->Q (.ref t) s) (h2:ws≠[]->Q (.ref s.heap.objs.size) {s with heap:=s.heap.push {cls:=.type "tuple",data:=.seq (vs++ws).toArray}})
 (hsz:vs.length+ws.length<=sizeLine):wpAny (model prog w) A (binaryOp .Add (.ref t) (.ref b)) Q E s:=by
 obtain⟨⟨cls,dd,data,sl⟩,ho,hc,n,hd⟩:=id ht
 obtain⟨⟨cls2,dd2,data2,sl2⟩,ho2,hc2,n2,hd2⟩:=id hb
 simp only at hc hd hc2 hd2
 subst hc hd hc2 hd2
 have e:vs.toArray++ws.toArray=(vs++ws).toArray:=by simp
 by_cases hw:ws=[]
 · exact concat_meets ⟨_,ho,rfl⟩ ⟨_,ho2,rfl⟩ noFill_tuple_add seq_tuple_add PySem.F.slot_tuple_add PySem.F.entry_tuple_add (PySem.F.args_tuple_add_2 _ _)
    (tuple_addW1 t b vs.toArray ws.toArray n n2 dd dd2 sl sl2 (by simpa using hv) (by simp[hw])) ⟨ho,ho2,h1 hw⟩
 · refine concat_meets ⟨_,ho,rfl⟩ ⟨_,ho2,rfl⟩ noFill_tuple_add seq_tuple_add PySem.F.slot_tuple_add PySem.F.entry_tuple_add (PySem.F.args_tuple_add_2 _ _)
    (tuple_addW2 t b vs.toArray ws.toArray n n2 dd dd2 sl sl2 (by simpa using hv) (by simpa using hw) (by rw[zzF,zzF];exact hsz)) ⟨ho,ho2, ?_⟩
   rw[e]
   exact h2 hw
def sIx(n d:Nat):Option Int->Nat
 |none=>d
 |some v=>if v<0 then(v+(n:Int)).toNat else min v.toNat n
theorem zkn(n d:Nat):sIx n d none=d:=rfl
theorem zmC(n d k:Nat):sIx n d (some (k:Int))=min k n:=by
 show(if(k:Int)<0 then((k:Int)+(n:Int)).toNat else min (k:Int).toNat n)=min k n
 rw[if_neg (by omega),zyG]
theorem zux(n d:Nat)(hd:d<=n)(o:Option Int):sIx n d o<=n:=by
 cases o with
 |none=>exact hd
 |some v=>
  show(if v<0 then(v+(n:Int)).toNat else min v.toNat n)<=n
  by_cases hv:v<0
  · rw[if_pos hv];omega
  · rw[if_neg hv];exact Nat.min_le_right _ _
theorem znp(v:Int)(n d:Nat):(if v<0 then max (v+(n:Int)) 0 else min v (n:Int))=((sIx n d (some v):Nat):Int):=by
 show(if v<0 then max (v+(n:Int)) 0 else min v (n:Int))=(((if v<0 then(v+(n:Int)).toNat else min v.toNat n):Nat):Int)
 by_cases hv:v<0
 · simp only[if_pos hv];omega
 · simp only[if_neg hv];omega
theorem zlm(lo hi:Option Int)(n:Nat):Builtin.Slice.sliceAdjust lo hi 1 (n:Int)=(((sIx n 0 lo:Nat):Int),((sIx n n hi:Nat):Int)):=by
 have h1:¬((1:Int)<0):=by omega
 unfold Builtin.Slice.sliceAdjust
 simp only[h1,if_false]
 refine Prod.ext ?_ ?_
 · cases lo with
   |none=>rfl
   |some v=>exact znp v n 0
 · cases hi with
   |none=>rfl
   |some v=>exact znp v n n
theorem zlU(i j:Nat):Builtin.Slice.slicePlaces (i:Int) (j:Int) 1=j-i:=by
 unfold Builtin.Slice.slicePlaces
 have h1:(1:Int) > 0:=by omega
 simp only[h1,if_true,Int.ediv_one]
 split<;>omega
theorem zgt(p:IsPart v o)(h:Q o s):wpAny (model prog w) A (Builtin.Slice.slicePartIndex v) Q E s:=by
 cases p with
 |none=>exact slicePart_none h
 |int i t=>exact slicePart_int h
theorem zdO{sl:Addr}{vl vu:Value}{lo hi:Option Int}{n:Nat}{Q:Int×Int×Nat->Shared->Prop}(hs:s.heap.IsSliceOf sl vl vu .none)(pl:IsPart vl lo)(pu:IsPart vu hi)
 (h:Q (((sIx n 0 lo:Nat):Int),1,sIx n n hi-sIx n 0 lo) s):wpAny (model prog w) A (Builtin.Slice.sliceApplied (.ref sl) (pure (n:Int))) Q E s:=by
 obtain⟨os,hos,hcs,hds⟩:=id hs
 unfold Builtin.Slice.sliceApplied Builtin.Slice.sliceFields
 refine zxE (zxE (wpAny_field hos hds (x:=vl) rfl (zxE (wpAny_field hos hds (x:=vu) rfl (zxE (wpAny_field hos hds (x:=.none) rfl (zxF ?_)))))))
 refine zxE (slicePart_none ?_)
 show wpAny _ _ (if((1:Int)==0)=true then _ else _) _ _ s
 rw[if_neg (by decide)]
 refine zxE (zgt pl (zxE (zgt pu (zxE (zxF ?_)))))
 show wpAny _ _ (match Builtin.Slice.sliceAdjust lo hi 1 (n:Int)with|(lo,hi)=>pure (lo,(1:Int),Builtin.Slice.slicePlaces lo hi 1)) _ _ s
 rw[zlm lo hi n]
 show wpAny _ _ (pure (((sIx n 0 lo:Nat):Int),(1:Int),Builtin.Slice.slicePlaces ((sIx n 0 lo:Nat):Int) ((sIx n n hi:Nat):Int) 1)) _ _ s
 rw[zlU]
 exact zxF h
theorem zoo(xs:Array Value)(i k:Nat):((List.range k).filterMap λ(m:Nat)=>xs[((i:Int)+(m:Int)*1).toNat]?).toArray=((xs.toList.drop i).take k).toArray:=by
 have e:(λ(m:Nat)=>xs[((i:Int)+(m:Int)*1).toNat]?)=λm=>xs[i+m]? := by
  funext m
  have:((i:Int)+(m:Int)*1).toNat=i+m:=by omega
  rw[this]
 rw[e]
 have:=pick_run xs i k
 rw[List.filterMap_map]at this
 have e2:((λx=>xs[x]?)∘λx=>i+x)=λm=>xs[i+m]? := rfl
 rw[e2]at this
 rw[this]
theorem zcL{t sl:Addr}{items:Array Value}{vl vu:Value}{lo hi:Option Int}{Q:Value->Shared->Prop}(ht:IsTup s.heap t items)(hs:s.heap.IsSliceOf sl vl vu .none)(pl:IsPart vl lo)(pu:IsPart vu hi)
 (hw:¬(sIx items.size 0 lo=0/\sIx items.size items.size hi=items.size))
 (h:Q (.ref s.heap.objs.size) {s with heap:=s.heap.push {cls:=.type "tuple",data:=.seq ((items.toList.drop (sIx items.size 0 lo)).take (sIx items.size items.size hi-sIx items.size 0 lo)).toArray}})
 (hsz:items.size<=sizeLine):wpAny (model prog w) A (getItem (.ref t) (.ref sl)) Q E s:=by
 have htake:sizeOk (.seq ((items.toList.drop (sIx items.size 0 lo)).take (sIx items.size items.size hi-sIx items.size 0 lo)).toArray):=by
  show((items.toList.drop (sIx items.size 0 lo)).take (sIx items.size items.size hi-sIx items.size 0 lo)).toArray.size<=sizeLine
  rw[zzF,zzQ,List.length_drop,zyR]
  omega
 have hj:sIx items.size items.size hi<=items.size:=zux _ _ (zzL _) hi
 obtain⟨os,hos,hcs,hds⟩:=id hs
 have hTs:s.TypeIs (.ref sl) "slice":=⟨os,hos,hcs⟩
 unfold getItem
 try with_reducible refine zxL ?_
 first|refine zxE (zxF ?_)|skip
 refine zxE (wpAny_sequenceKey ht.typeIs (by decide) ?_)
 refine zxE (wpAny_callSpecial?_slot (name:=Str.ofString "__getitem__") ht.typeIs PyProof.Rows.slot_tuple_getitem
  (zxS PyProof.Rows.slot_tuple_getitem ht.typeIs entry_tuple_getitem ?_ (args_tuple_getitem _ _)))
 show wpAny _ _ (Builtin.Tuple.tupleItemsOf (.ref t) >>= _) _ _ s
 refine zxE (tupleItemsOf_ ht ?_)
 refine zxE (wpAny_typeOf hTs ?_)
 rw[if_pos (by decide)]
 refine zxE (zdO hs pl pu ?_)
 have hno:¬((((sIx items.size 0 lo:Nat):Int)==0&&(1:Int)==1&&(sIx items.size items.size hi-sIx items.size 0 lo)==items.size)=true):=by
  intro q
  rw[zyA,zyA]at q
  have q1:((sIx items.size 0 lo:Nat):Int)=0:=eq_of_beq q.1.1
  have q2:sIx items.size items.size hi-sIx items.size 0 lo=items.size:=eq_of_beq q.2
  exact hw ⟨by omega,by omega⟩
 show wpAny _ _ (if(((sIx items.size 0 lo:Nat):Int)==0&&(1:Int)==1&&(sIx items.size items.size hi-sIx items.size 0 lo)==items.size)=true then _ else _) _ _ s
 rw[if_neg hno,zoo]
 first
  |exact zxE (m:=Builtin.Tuple.tupleExact _) (zxJ (zxF ⟨_,rfl,zxF h⟩) htake)
  |exact zxE (m:=Builtin.Tuple.tupleExact _) (zxJ (zxE (zxF (zxF ⟨_,rfl,zxF h⟩))) htake)
  |exact zxE (zxE (m:=Builtin.Tuple.tupleExact _) (zxJ (zxF (zxF ⟨_,rfl,zxF h⟩)) htake))
  |exact zxE (zxE (m:=Builtin.Tuple.tupleExact _) (zxJ (zxF ⟨_,rfl,zxF h⟩) htake))
end
end HT
namespace L2
open PySem PySem.Spec PyProof.Rows
abbrev TO:=St->Hp->(Option Int->Hp->Prop)->Prop
def PO(X:Cx)(e:Option Expr)(t:TO):Prop:=
 ∀(pins:List (Addr×Obj)) (s:Shared) (σ:St) (H:Hp) (Q:Option Int->Hp->Prop),Inv X pins σ H s->t σ H Q->
  wpAny (model X.prog X.w) X.A (evalPart e X.env) (λu s'=>∃o H',Inv X pins σ H' s'/\IsPart u o/\Q o H') X.xe s
def zqY:TO:=λ_ H Q=>Q none H
def zva(t:TE):TO:=λσ H Q=>t σ H λx H1=>∃i,x = .int i/\Q (some i) H1
theorem intsAre_of:∀{us:List Value},Vals (ns.map V.int) us->IntsAre us ns:=by
 induction ns with
 |nil=>intro us r;rw[List.map_nil]at r;cases r;exact .nil
 |cons n ns ih=>
  intro us r
  rw[zyQ]at r
  cases r with
  |cons r1 r2=>
   obtain⟨t,e⟩:=r1
   subst e
   exact .cons n t (ih r2)
section
variable{X:Cx}{e:Expr}{te:TE}{lo hi:Option Expr}{tl th:TO}{pos p2:Pos}
theorem zqT:PO X none zqY:=by
 intro pins s σ H Q I h
 rw[evalPart_none]
 exact zxF ⟨none,H,I,.none,h⟩
theorem zqR(h:PE X e te):PO X (some e) (zva te):=by
 intro pins s σ H Q I hw
 rw[evalPart_some]
 refine thn (h pins s σ H _ I hw) λu s1 ⟨x,H1,I1,r1,q1⟩=>?_
 obtain⟨i,rfl,q⟩:=q1
 obtain⟨t,rfl⟩:=r1
 exact⟨some i,H1,I1,.int i t,q⟩
def SlR(X:Cx)(r:V->Option Int->Option Int->Hp->VK->Prop):Prop:=
 ∀(pins:List (Addr×Obj)) (s:Shared) (σ:St) (H:Hp) (x:V) (v vl vu:Value) (lo hi:Option Int) (sl:Addr) (Q:VK),Inv X pins σ H s->RelV x v->s.heap.IsSliceOf sl vl vu .none->IsPart vl lo->IsPart vu hi->r x lo hi H Q->
  ∃T id,typeLookup (.type T) "__getitem__"=pure (some (.builtin id))/\s.TypeIs v T/\wpAny (model X.prog X.w) X.A (getItem v (.ref sl)) (EP X pins σ Q) X.xe s
def tSl(r:V->Option Int->Option Int->Hp->VK->Prop)(te:TE)(tl th:TO):TE:=λσ H Q=>te σ H λx H1=>tl σ H1 λl H2=>th σ H2 λu H3=>r x l u H3 Q
theorem zkW(hr:SlR X r)(he:PE X e te)(hl:PO X lo tl)(hu:PO X hi th):PE X (.Subscript e (.Slice lo hi none p2) pos) (tSl r te tl th):=by
 intro pins s σ H Q I h
 refine Subscript_ (thn (he pins s σ H _ I h) λv s1 ⟨x,H1,I1,r1,q1⟩=>?_)
 refine wpAny_Slice (thn (hl pins s1 σ H1 _ I1 q1) λvl s2 ⟨l,H2,I2,pl,q2⟩=>thn (hu pins s2 σ H2 _ I2 q2) λvu s3 ⟨u,H3,I3,pu,q3⟩=>?_)
 rw[evalPart_none]
 refine zxF ?_
 have I4:Inv X pins σ H3 {s3 with heap:=s3.heap.push {cls:=.type "slice",data:=.fields #[vl,vu,.none]}}:=I3.kept (t':=s3.toks) λb ob q=>zxG _ q
 obtain⟨T,id,hT,ht,hg⟩:=hr pins {s3 with heap:=s3.heap.push {cls:=.type "slice",data:=.fields #[vl,vu,.none]}} σ H3 x v vl vu l u s3.heap.objs.size Q I4 r1 (Heap.IsSliceOf.new ..) pl pu q3
 show wpAny (model X.prog X.w) X.A (subscriptTail e (.Slice lo hi none p2) v (.ref s3.heap.objs.size)) (EP X pins σ Q) X.xe {s3 with heap:=s3.heap.push {cls:=.type "slice",data:=.fields #[vl,vu,.none]}}
 exact tail_any (ops:=[.ref s3.heap.objs.size,v]) ht hT hg (by with_unfolding_all rfl)
def zkJ(xs:List V)(lo hi:Option Int):List V:=(xs.drop (HT.sIx xs.length 0 lo)).take (HT.sIx xs.length xs.length hi-HT.sIx xs.length 0 lo)
theorem zeF(xs:List V)(lo hi:Option Int):(zkJ xs lo hi).length<=xs.length:=by
 unfold zkJ
 rw[zzQ,List.length_drop]
 omega
def zwg(K:zD):V->Option Int->Option Int->Hp->VK->Prop:=λx lo hi H Q=>∃a xs,x = .ref a/\SqT K H a xs/\
 ¬(HT.sIx xs.length 0 lo=0/\HT.sIx xs.length xs.length hi=xs.length)/\∀p,H p=none->Q (.ref p) (upd H p (.tup (zkJ xs lo hi)))
theorem ztd:SlR X (zwg X.K):=by
 intro pins s σ H x v vl vu lo hi sl Q I rx hs pl pu h
 obtain⟨a,xs,rfl,hx,hw,q⟩:=h
 cases rx
 obtain⟨its,r,ht,hz⟩:=I.tuple hx
 have hlen:its.toArray.size=xs.length:=by rw[zzF];exact r.length.symm
 refine⟨"tuple",_,PyProof.Rows.slot_tuple_getitem.lookup,ht.typeIs, ?_⟩
 refine HT.zcL ht hs pl pu (by rw[hlen];exact hw) ?_ (by rw[hlen];exact hz)
 rw[hlen]
 refine⟨.ref s.heap.objs.size,_,I.laid (t':=s.toks) (o:=.tup (zkJ xs lo hi)) (λb ob q=>zxG _ q) (zzL _) ?_,rfl,q _ (I.hok.fresh (zzL _))⟩
 exact⟨zzM (zeF xs lo hi) hz,_,(r.drop (HT.sIx xs.length 0 lo)).take (HT.sIx xs.length xs.length hi-HT.sIx xs.length 0 lo),IsTup.new _ _⟩
def zuO(K:zD):R2:=λx y H Q=>∃a b xs ys,x = .ref a/\y = .ref b/\SqT K H a xs/\SqT K H b ys/\xs≠[]/\xs.length+ys.length<=sizeLine/\
 (ys=[]->Q (.ref a) H)/\(ys≠[]->∀p,H p=none->Q (.ref p) (upd H p (.tup (xs++ys))))
theorem Vals.nil_iff(r:Vals xs us):us=[] ↔ xs=[]:=by
 cases r with
 |nil=>simp
 |cons _ _=>simp
theorem zrf:OpR X (binaryOp .Add) (zuO X.K):=by
 intro pins s σ H x y v u Q I rx ry h
 obtain⟨a,b,xs,ys,rfl,rfl,ha,hb,hx,hz,q1,q2⟩:=h
 cases rx
 cases ry
 obtain⟨its,r1,p1,_⟩:=I.tuple ha
 obtain⟨its2,r2,p2,_⟩:=I.tuple hb
 refine HT.zrI p1 p2 (λz=>hx (r1.nil_iff.mp z)) (λz=>⟨.ref a,H,I,rfl,q1 (r2.nil_iff.mp z)⟩) (λz=>?_) (by rw[<-r1.length,<-r2.length];exact hz)
 refine⟨.ref s.heap.objs.size,_,I.laid (t':=s.toks) (o:=.tup (xs++ys)) (λb ob q=>zxG _ q) (zzL _) ?_,rfl,q2 (λw=>z (r2.nil_iff.mpr w)) _ (I.hok.fresh (zzL _))⟩
 exact⟨by rw[zzH];exact hz,_,r1.append r2,IsTup.new _ _⟩
end
end L2
namespace L2
open PySem PySem.Spec PyProof.Rows
def ixN(n:Nat)(i:Int):Option Nat:=if 0<=i then(if i<n then some i.toNat else none)else if -(n:Int)<=i then some (i+n).toNat else none
def atI{α:Type}(xs:List α)(i:Int):Option α:=(ixN xs.length i).bind λj=>xs[j]?
theorem zmt(h:ixN n i=some j):seqIndex? i n=some j/\j<n /\ -(n:Int)<=i/\i<n:=by
 unfold ixN at h
 by_cases h0:0<=i
 · rw[if_pos h0]at h
   by_cases h1:i<n
   · rw[if_pos h1]at h
     have e:i.toNat=j:=zzX h
     exact⟨by rw[seqIndex_of h0 h1,e],by omega,by omega,h1⟩
   · rw[if_neg h1]at h;cases h
 · rw[if_neg h0]at h
   by_cases h1 : -(n:Int)<=i
   · rw[if_pos h1]at h
     have e:(i+n).toNat=j:=zzX h
     exact⟨by rw[seqIndex_neg (by omega) h1,e],by omega,h1,by omega⟩
   · rw[if_neg h1]at h;cases h
theorem ziN(h:atI xs i=some v):∃j,seqIndex? i xs.length=some j/\xs[j]? = some v/\j<xs.length /\ -(xs.length:Int)<=i/\i<xs.length:=by
 unfold atI at h
 cases e:ixN xs.length i with
 |none=>rw[e]at h;cases h
 |some j=>
  rw[e]at h
  obtain⟨h1,h2,h3,h4⟩:=zmt e
  exact⟨j,h1,h,h2,h3,h4⟩
theorem zbj{α:Type}{xs:List α}{j:Nat}{v:α}(h:xs[j]? = some v):atI xs (j:Int)=some v:=by
 have hj:j<xs.length:=(zzE.mp h).1
 have e:ixN xs.length (j:Int)=some j:=by
  unfold ixN
  rw[if_pos (by omega),if_pos (by omega)];simp
 unfold atI;rw[e];exact h
def zcM(b:Expr):Prop:=∀o i,subscripted b false o i=operate [o,i] (getItem o i)
def IxR(X:Cx)(r:R2):Prop:=
 ∀(value slice:Expr) (pins:List (Addr×Obj)) (s:Shared) (σ:St) (H:Hp) (x y:V) (v u:Value) (Q:VK),Inv X pins σ H s->RelV x v->RelV y u->r x y H Q->
  subscripted slice false v u=operate [v,u] (getItem v u)->wpAny (model X.prog X.w) X.A (subscriptTail value slice v u) (EP X pins σ Q) X.xe s
def MtR(X:Cx)(id:String)(r:V->List V->Hp->VK->Prop):Prop:=
 ∀(pins:List (Addr×Obj)) (s:Shared) (σ:St) (H:Hp) (x:V) (xs:List V) (v:Value) (us:List Value) (Q:VK),Inv X pins σ H s->RelV x v->Vals xs us->r x xs H Q->
  wpAny (model X.prog X.w) X.A (call (.builtin id) (v::us)) (EP X pins σ Q) X.xe s
section
variable{X:Cx}{a b:Expr}{ta tb:TE}{pos:Pos}
theorem zqj(hr:IxR X r)(ha:PE X a ta)(hb:PE X b tb)(hs:zcM b):PE X (.Subscript a b pos) (tOp r ta tb):=by
 intro pins s σ H Q I h
 exact Subscript_ (ztF ha hb I h λv u s2 x y H2 I2 rx ry q=>hr a b pins s2 σ H2 x y v u Q I2 rx ry q (hs _ _))
def zwk(K:zD):R2:=λx y H Q=>∃p xs i v,x = .ref p/\y = .int i/\SqL K H p xs/\atI xs i=some v/\Q v H
def zwl(K:zD):R2:=λx y H Q=>∃p xs i v,x = .ref p/\y = .int i/\SqT K H p xs/\atI xs i=some v/\Q v H
def zwd:R2:=λx y H Q=>∃z i c,x = .str z/\y = .int i/\z.length<=sizeLine/\atI z.cps.toList i=some c/\Q (.str ⟨#[c]⟩) H
theorem ziM:IxR X (zwk X.K):=by
 intro value slice pins s σ H x y v u Q I rx ry h hs
 obtain⟨p,xs,i,z,rfl,rfl,hq,he,q⟩:=h
 cases rx
 obtain⟨t,rfl⟩:=ry
 obtain⟨its,r,pl,hz⟩:=I.list hq
 obtain⟨j,h1,h2,h3,h4,h5⟩:=ziN he
 obtain⟨w,ew,rw'⟩:=r.get h2
 have hl:=r.length
 have hn:=zck
 have fin:EP X pins σ Q w s:=⟨z,H,I,rw',q⟩
 by_cases h0:0<=i
 · have hj:i.toNat=j:=by
    rw[seqIndex_of h0 h5]at h1
    exact zzX h1
   exact item_listR pl.isList h0 (by omega) (by rw[hj];simpa using ew) fin hs
 · have hj:(i+(its.toArray.size:Int)).toNat=j:=by
    rw[seqIndex_neg (by omega) h4]at h1
    rw[zzF,<-hl]
    exact zzX h1
   exact subscriptTail_builtinR (x:=w) pl.isList.typeIs slot_list_getitem.lookup
    (wpAny_getItem_list_neg (Q:=λr s'=>r=w/\EP X pins σ Q r s') pl.isList (by omega) (by rw[zzF]<;>omega) (by omega) (by rw[hj];simpa using ew) ⟨rfl,fin⟩) hs
theorem zuj:IxR X (zwl X.K):=by
 intro value slice pins s σ H x y v u Q I rx ry h hs
 obtain⟨p,xs,i,z,rfl,rfl,hq,he,q⟩:=h
 cases rx
 obtain⟨t,rfl⟩:=ry
 obtain⟨its,r,pl,hz⟩:=I.tuple hq
 obtain⟨j,h1,h2,h3,h4,h5⟩:=ziN he
 obtain⟨w,ew,rw'⟩:=r.get h2
 have hl:=r.length
 have hn:=zck
 have fin:EP X pins σ Q w s:=⟨z,H,I,rw',q⟩
 exact subscriptTail_builtinR (x:=w) pl.typeIs slot_tuple_getitem.lookup
  (getItem_tuple (j:=j) (Q:=λr s'=>r=w/\EP X pins σ Q r s') pl (by omega) (by omega) (by rw[zzF,<-hl];exact h1) (by simpa using ew) ⟨rfl,fin⟩) hs
theorem ztk:IxR X zwd:=by
 intro value slice pins s σ H x y v u Q I rx ry h hs
 obtain⟨z,i,c,rfl,rfl,hz,he,q⟩:=h
 obtain⟨t,rfl⟩:=rx
 obtain⟨t',rfl⟩:=ry
 obtain⟨j,h1,h2,h3,h4,h5⟩:=ziN he
 have hl:z.cps.toList.length=z.length:=by simp[Str.length]
 rw[hl]at h1 h4 h5
 have hn:=zck
 exact tail_any (typeIs_str s z t) slot_str_getitem.lookup (getItem_str (c:=c) (by
  have e1:decide (i < -(2 ^ 63:Int))=false:=zyE (by omega)
  have e2:decide (i ≥ 2 ^ 63)=false:=zyE (by omega)
  rw[e1,e2,Bool.or_false]) (by rw[h1];simpa using h2) ⟨.str ⟨#[c]⟩,H,I.tok _,⟨_,rfl⟩,q⟩) hs
theorem zlw(its:List Value)(n j:Nat)(u:Value):Obj.mapSeq (·.setIfInBounds j u) {cls:=.type "list",data:=.seq its.toArray n}={cls:=.type "list",data:=.seq (its.set j u).toArray n}:=by
 simp[Obj.mapSeq]
theorem Inv.lst(I:Inv X pins σ H s)(h:H p=some (.lst xs)):
 ∃(its:List Value) (n:Nat),Vals xs its/\s.heap.get? p=some {cls:=.type "list",data:=.seq its.toArray n}/\xs.length<=sizeLine:=by
 obtain⟨z,its,n,r,e⟩:=I.hok p _ h
 exact⟨its,n,r,e,z⟩
theorem Inv.lstUpd{pins:List (Addr×Obj)}{σ:St}{H:Hp}{s:Shared}{p:Addr}{xs ys:List V}{its its':List Value}{n n':Nat}{f:Obj->Obj}(I:Inv X pins σ H s)(h:H p=some (.lst xs))
 (ho:s.heap.get? p=some {cls:=.type "list",data:=.seq its.toArray n}) (hf:f {cls:=.type "list",data:=.seq its.toArray n}={cls:=.type "list",data:=.seq its'.toArray n'}) (r:Vals ys its') (hz:ys.length<=sizeLine) (t:Nat):
 Inv X pins σ (upd H p (.lst ys)) {s with heap:=s.heap.update p f,toks:=t}:=by
 have e:(s.heap.update p f).get? p=some {cls:=.type "list",data:=.seq its'.toArray n'}:=by
  rw[Heap.get?_update_self f ho (by rw[hf]<;>rfl),hf]
 refine I.write (x:=p) (e:=p) (by rw[h];trivial) (.inl rfl) (λb u hb q=>(Heap.get?_update_other _ _ (Ne.symm hb)).trans q) ⟨_,e⟩ ?_
 exact⟨hz,its',n',r,e⟩
def zvl:V->V->V->Hp->(Hp->Prop)->Prop:=λo i v H Q=>∃p xs k j,o = .ref p/\i = .int k/\H p=some (.lst xs)/\ixN xs.length k=some j/\Q (upd H p (.lst (xs.set j v)))
theorem set_list:zuR X zvl:=by
 intro pins s σ H o i v ov iv u Q I ro ri rv h
 obtain⟨p,xs,k,j,rfl,rfl,hp,hj,q⟩:=h
 cases ro
 obtain⟨t,rfl⟩:=ri
 obtain⟨its,n,r,ho,hz⟩:=I.lst hp
 obtain⟨h1,h2,h3,h4⟩:=zmt hj
 have hl:=r.length
 have hn:=zck
 have I':Inv X pins σ (upd H p (.lst (xs.set j v))) {s with heap:=s.heap.update p (Obj.mapSeq (·.setIfInBounds j u))}:=
  I.lstUpd hp ho (zlw its n j u) (r.set rv j) (by rw[zzS];exact hz) s.toks
 by_cases h0:0<=k
 · have hk:k.toNat=j:=by
    rw[seqIndex_of h0 h4]at h1
    exact zzX h1
   exact PySem.W.ki_setAt ho h0 (by omega) (by rw[zzF,<-hl];exact h4) (by rw[hk];exact⟨_,I',q⟩)
 · have hk:(k+(its.toArray.size:Int)).toNat=j:=by
    rw[seqIndex_neg (by omega) h3]at h1
    rw[zzF,<-hl]
    exact zzX h1
   exact PySem.W.ki_setBack ho (by omega) (by rw[zzF,<-hl];exact h3) (by omega) (by rw[hk];exact⟨_,I',q⟩)
theorem ziT(lo hi:Option Int)(n:Nat):(sliceBounds lo hi none n).1=((HT.sIx n 0 lo:Nat):Int)/\(sliceBounds lo hi none n).2.1=((HT.sIx n n hi:Nat):Int)/\(sliceBounds lo hi none n).2.2=1:=by
 refine⟨?_, ?_,rfl⟩
 · cases lo with
   |none=>simp[sliceBounds,HT.sIx]
   |some i=>
    simp only[sliceBounds,HT.sIx,Option.getD_none,show(1:Int) > 0 by decide,if_true]
    by_cases h:i<0
    · simp only[h,if_true]<;>omega
    · simp only[h,if_false]<;>omega
 · cases hi with
   |none=>simp[sliceBounds,HT.sIx]
   |some i=>
    simp only[sliceBounds,HT.sIx,Option.getD_none,show(1:Int) > 0 by decide,if_true]
    by_cases h:i<0
    · simp only[h,if_true]<;>omega
    · simp only[h,if_false]<;>omega
theorem zhf(its:List Value)(lo hi:Option Int):slicePick its.toArray lo hi none=((its.drop (HT.sIx its.length 0 lo)).take (HT.sIx its.length its.length hi-HT.sIx its.length 0 lo)).toArray:=by
 obtain⟨h1,h2,h3⟩:=ziT lo hi its.toArray.size
 unfold slicePick
 rw[h1,h2,h3]
 simp only[sliceRange_one,pick_run,zzF]<;>rfl
def zvU(K:zD):V->Option Int->Option Int->Hp->VK->Prop:=λx lo hi H Q=>∃a xs,x = .ref a/\SqL K H a xs/\∀p,H p=none->Q (.ref p) (upd H p (.lst (zkJ xs lo hi)))
theorem zqS:SlR X (zvU X.K):=by
 intro pins s σ H x v vl vu lo hi sl Q I rx hs pl pu h
 obtain⟨a,xs,rfl,hx,q⟩:=h
 cases rx
 obtain⟨its,r,ht,hz⟩:=I.list hx
 have hlen:=r.length
 refine⟨"list",_,slot_list_getitem.lookup,ht.isList.typeIs, ?_⟩
 refine wpAny_getItem_list_slice ht.isList hs pl pu .none (by simp) ?_ (by rw[zzF]<;>omega)
 rw[zhf,<-hlen]
 refine⟨.ref s.heap.objs.size,_,I.laid (t':=s.toks) (o:=.lst (zkJ xs lo hi)) (λb ob q=>zxG _ q) (zzL _) ?_,rfl,q _ (I.hok.fresh (zzL _))⟩
 exact⟨zzM (zeF xs lo hi) hz,_,0,(r.drop (HT.sIx xs.length 0 lo)).take (HT.sIx xs.length xs.length hi-HT.sIx xs.length 0 lo),zxI _ rfl⟩
theorem zcV:zbN X (.builtin "len") (λxs H Q=>∃p ys,xs=[.ref p]/\(SqL X.K H p ys\/SqT X.K H p ys)/\Q (.int ys.length) H):=by
 intro pins s σ H xs us Q I r h
 obtain⟨p,ys,rfl,hq,q⟩:=h
 obtain⟨u,rfl,rx⟩:=vals1 r
 cases rx
 have hn:=zck
 rcases hq with hq|hq
 · obtain⟨its,r',pl,hz⟩:=I.list hq
   have hlen:=r'.length
   exact Calls.call_len_list pl.isList (by simp only[zzF]<;>omega) ⟨.int ys.length,H,I.tok _,⟨s.toks+1,by rw[zzF,hlen]⟩,q⟩
 · obtain⟨its,r',pl,hz⟩:=I.tuple hq
   have hlen:=r'.length
   exact len_tuple pl (by simp only[zzF]<;>omega) ⟨.int ys.length,H,I.tok _,⟨s.toks+1,by rw[zzF,hlen]⟩,q⟩
theorem ziS:zbN X (.builtin "len") (λxs H Q=>∃z,xs=[.str z]/\z.length<=sizeLine/\Q (.int z.length) H):=by
 intro pins s σ H xs us Q I r h
 obtain⟨z,rfl,hz,q⟩:=h
 obtain⟨u,rfl,t,rfl⟩:=vals1 r
 have hn:=zck
 exact len_str (by omega) ⟨.int z.length,H,I.tok _,⟨_,rfl⟩,q⟩
theorem zbE:zbN X (.type "tuple") (λxs H Q=>∃p ys,xs=[.ref p]/\((SqL X.K H p ys/\∀l,H l=none->Q (.ref l) (upd H l (.tup ys)))\/(SqT X.K H p ys/\Q (.ref p) H))):=by
 intro pins s σ H xs us Q I r h
 obtain⟨p,ys,rfl,h⟩:=h
 obtain⟨u,rfl,rx⟩:=vals1 r
 cases rx
 rcases h with⟨hq,q⟩|⟨hq,q⟩
 · obtain⟨its,r',pl,hz⟩:=I.list hq
   have hlen:=r'.length
   refine call_tuple_list pl.isList (λh' kp=>?_) (by simp only[zzF]<;>omega)
   have I1:Inv X pins σ H {s with heap:=h'}:=I.kept (t':=s.toks) kp
   have I2:Inv X pins σ (upd H h'.objs.size (.tup ys)) {s with heap:=h'.push {cls:=.type "tuple",data:=.seq its.toArray}}:=
    I1.laid (t':=s.toks) (λb o e=>zxG _ e) (zzL _) (show Zj X.prog X.w _ _ _ (.tup ys)from⟨hz,its,r',IsTup.new _ _⟩)
   exact⟨.ref h'.objs.size,_,I2,rfl,q _ (I1.hok.fresh (zzL _))⟩
 · obtain⟨its,r',pl,hz⟩:=I.tuple hq
   exact call_tuple_same pl ⟨.ref p,H,I,rfl,q⟩
def tyV(K:zD)(T:String)(x:V)(H:Hp):Prop:=match x with
 | .str _=>T="str"
 | .int _=>T="int"
 | .ref p=>(T="list"/\∃xs,SqL K H p xs)\/(T="tuple"/\∃o,K.lookup p=some o/\o.cls = .type "tuple"/\o.dict=none) \/
  (T="dict"/\((∃kvs,H p=some (.dK kvs))\/∃kvs,H p=some (.dT kvs)))\/(T="set"/\∃S n,H p=some (.set S n))
 |_=>False
theorem zut(I:Inv X pins σ H s)(r:RelV x v)(ty:tyV X.K T x H):
 s.TypeIs v T/\∀a,v = .ref a->∃ob,s.heap.get? a=some ob/\ob.dict=none:=by
 cases x with
 |str z=>
  obtain⟨t,rfl⟩:=r
  cases(show T="str" from ty)
  exact⟨typeIs_str s z t,λ_ e=>nomatch e⟩
 |int i=>
  obtain⟨t,rfl⟩:=r
  cases(show T="int" from ty)
  exact⟨typeIs_int s i t,λ_ e=>nomatch e⟩
 |ref p=>
  cases r
  rcases ty with⟨rfl,xs,hq⟩|⟨rfl,o,hk,hc,hd⟩|⟨rfl,hk⟩|⟨rfl,S,n,hk⟩
  · obtain⟨its,_,pl,_⟩:=I.list hq
    refine⟨pl.isList.typeIs,λa e=>?_⟩
    cases e
    obtain⟨o,n,e,c,hd,_⟩:=pl
    exact⟨o,e,hd⟩
  · refine⟨⟨o,I.kIn p o hk,hc⟩,λa e=>?_⟩
    cases e
    exact⟨o,I.kIn _ o hk,hd⟩
  · have z:∃o,s.heap.get? p=some o/\o.ExactDict:=by
     rcases hk with⟨kvs,hk⟩|⟨kvs,hk⟩
     · obtain⟨_,_,_,_,o,_,_,e,ex,_⟩:=I.hok p _ hk
       exact⟨o,e,ex⟩
     · obtain⟨_,_,_,_,o,_,_,e,ex,_⟩:=I.hok p _ hk
       exact⟨o,e,ex⟩
    obtain⟨o,e,ex⟩:=z
    refine⟨⟨o,e,ex.1⟩,λa e2=>?_⟩
    cases e2
    exact⟨o,e,ex.2.1⟩
  · obtain⟨o,_,_,_,e,ex,_⟩:=I.hok p _ hk
    refine⟨⟨o,e,ex.1⟩,λa e2=>?_⟩
    cases e2
    exact⟨o,e,ex.2.1⟩
 |_=>exact False.elim ty
def tBM(K:zD)(T:String)(r:V->List V->Hp->VK->Prop)(to:TE)(t:TA):TE:=λσ H Q=>to σ H λx H1=>tyV K T x H1/\t σ H1 λxs H2=>r x xs H2 Q
variable{o e:Expr}{es:List Expr}{to:TE}{t:TA}{name:Str}{apos cpos:Pos}{T id:String}{r:V->List V->Hp->VK->Prop}
theorem zuT(pa:PlainAttrs T)(slot:Slot T name id)(hty:typeOf (.builtin id)=pure (.type "method_descriptor"))(hm:MtR X id r)(ho:PE X o to)(ha:PA X (e::es) t)
 (hbase:attributeBase o name X.env (eval o X.env)=eval o X.env:=by rfl)
 (hfew:((backTo cpos (starEach (e::es) X.env)).all (λx=>!x.1)&&(backToKw cpos (keywordEach [] X.env)).all (λx=>x.1.isSome)
  && decide ((e::es).length+([]:List Keyword).length+(if([]:List Keyword).isEmpty then 0 else 1)<30))=true:=by rfl)
 (hline:(apos.endLine==cpos.line)=true:=by rfl) (hs:starEach (e::es) X.env=(false,eval e X.env)::starEach es X.env:=by rfl) (hplain:(backTo cpos (starEach es X.env)).any (·.1)=false:=by rfl):
 PE X (.Call (.Attribute o name apos) (e::es) [] cpos) (tBM X.K T r to t):=by
 intro pins s σ H Q I h
 refine wpAny_Call_method_late hbase hfew hline rfl (thn (ho pins s σ H _ I h) λv s1 ⟨x,H1,I1,r1,ty,q1⟩=>?_)
 obtain⟨h1,h2⟩:=zut I1 r1 ty
 refine⟨T,id,pa,slot,hty,h1,h2, ?_⟩
 have hA:=ha cpos pins s1 σ H1 _ I1 q1
 rw[hs]at hA ⊢
 refine Calls.callWith_builtin (by show(false||(backTo cpos (starEach es X.env)).any (·.1))=false;rw[hplain]<;>rfl) (Calls.evalArgs_plain ?_)
 exact thn hA λus s2 ⟨vs,H2,I2,r2,q2⟩=>hm pins s2 σ H2 x vs v us Q I2 r1 r2 q2
end
end L2
namespace L2
open PySem PySem.Spec PyProof.Rows
def MtM(X:Cx)(id:String)(r:V->List V->Hp->VK->Prop):Prop:=
 ∀(pins:List (Addr×Obj)) (s:Shared) (σ:St) (H:Hp) (x:V) (xs:List V) (v:Value) (us:List Value) (Q:VK),Inv X pins σ H s->RelV x v->Vals xs us->r x xs H Q->
  wpAny (model X.prog X.w) X.A (call (.builtin id) (v::us)) (EP X pins σ Q) X.xe s
theorem Vals.one:∀{x:V}{us:List Value},Vals [x] us->∃u,us=[u]/\RelV x u
 |_,_,.cons r .nil=>⟨_,rfl,r⟩
theorem Vals.eraseIdx:∀{xs:List V}{us:List Value}(i:Nat),Vals xs us->Vals (xs.eraseIdx i) (us.eraseIdx i)
 |_,_,_,.nil=>.nil
 |_,_,0,.cons _ t=>t
 |_,_,i+1,.cons r t=>.cons r (Vals.eraseIdx i t)
theorem Vals.rep(h:Vals xs us):∀k:Nat,Vals (List.replicate k xs).flatten (List.replicate k us).flatten
 |0=>.nil
 |k+1=>by
  rw[List.replicate_succ,List.replicate_succ,List.flatten_cons,List.flatten_cons]
  exact Vals.append h (Vals.rep h k)
theorem zhm:∀(l:List α) (i:Nat),(l.eraseIdx i).length<=l.length
 | [],_=>zzL _
 |_::_,0=>zyV _
 |_::r,i+1=>Nat.succ_le_succ (zhm r i)
theorem foldl_rep(its:List Value):∀(k:Nat) (acc:List Value),
 List.foldl (λx1 x2=>x1++x2) acc.toArray (List.replicate k its.toArray)=(acc++(List.replicate k its).flatten).toArray
 |0,acc=>by simp
 |k+1,acc=>by
  have e:acc.toArray++its.toArray=(acc++its).toArray:=by simp
  have e2:(acc++its)++(List.replicate k its).flatten=acc++(List.replicate (k+1) its).flatten:=by
   rw[List.replicate_succ,List.flatten_cons,zxB]
  rw[<-e2,<-foldl_rep its k (acc++its),<-e,List.replicate_succ,List.foldl_cons]
section
variable{X:Cx}{pins:List (Addr×Obj)}{σ:St}{H:Hp}{s:Shared}{l b:Addr}{xs ys zs:List V}
theorem Inv.lset{its its':List Value}{n:Nat}{f:Array Value->Array Value}{t':Nat}(I:Inv X pins σ H s)(hH:H l=some (.lst xs))
 (e:s.heap.get? l=some {cls:=.type "list",data:=.seq its.toArray n}) (hf:f its.toArray=its'.toArray) (hv:Vals ys its') (hz:ys.length<=sizeLine):
 Inv X pins σ (upd H l (.lst ys)) {s with heap:=s.heap.update l (Obj.mapSeq f),toks:=t'}:=by
 have q:=PySem.IsL.update e f
 rw[hf]at q
 refine I.write (x:=l) (e:=l) (by rw[hH];exact trivial) (.inl rfl) (λb' u hb hu=>(Heap.get?_update_other s.heap (Obj.mapSeq f) (Ne.symm hb)).trans hu) ⟨_,q⟩ ?_
 exact⟨hz,its',_,hv,q⟩
theorem Inv.lnew(I:Inv X pins σ H s)(hv:Vals ys its)(hz:ys.length<=sizeLine):
 Inv X pins σ (upd H s.heap.objs.size (.lst ys)) {s with heap:=s.heap.push {cls:=.type "list",data:=.seq its.toArray},toks:=t'}:=
 I.laid (λ_ _ q=>zxG _ q) (zzL _) ⟨hz,its,0,hv,zxI _ rfl⟩
theorem Inv.fresh(I:Inv X pins σ H s):H s.heap.objs.size=none:=I.hok.fresh (zzL _)
theorem Inv.lstM(I:Inv X pins σ H s)(hH:H l=some (.lst xs)):xs.length<=sizeLine/\∃(its:List Value) (n:Nat),Vals xs its/\xs.length=its.length/\s.heap.get? l=some {cls:=.type "list",data:=.seq its.toArray n}:=by
 obtain⟨z,its,n,r,e⟩:=I.hok l _ hH
 exact⟨z,its,n,r,r.length,e⟩
theorem zoS(h:n<=sizeLine):Builtin.List.listTooLong n=false:=by
 unfold Builtin.List.listTooLong
 exact zyE (by omega)
end
section
variable{X:Cx}
def znj:V->List V->Hp->VK->Prop:=λx vs H Q=>∃l xs y,x = .ref l/\vs=[y]/\H l=some (.lst xs)/\xs.length<sizeLine/\Q .non (upd H l (.lst (xs++[y])))
theorem ZL:MtM X "list.append" znj:=by
 intro pins s σ H x vs v us Q I rx rv h
 obtain⟨l,xs,y,rfl,rfl,hH,hz,q⟩:=h
 cases rx
 obtain⟨u,rfl,ru⟩:=rv.one
 obtain⟨z,its,n,r,hl,e⟩:=I.lstM hH
 refine call_meets F.slot_list_append ⟨_,e,rfl⟩ F.entry_list_append (F.args_list_append_2 _ _) (PySem.list_append l its.toArray n u (by rw[zzF];omega)) ⟨e, ?_⟩
 refine⟨.non,_,I.lset (its':=its++[u]) hH e (by simp) (r.append (.cons ru .nil)) ?_,rfl,q⟩
 rw[zzH,List.length_singleton]
 omega
def zpg:V->List V->Hp->VK->Prop:=λx vs H Q=>∃l xs i k y,x = .ref l/\vs=[.int i]/\H l=some (.lst xs) /\ -(2 ^ 63)<=i/\i<2 ^ 63/\seqIndex? i xs.length=some k/\xs[k]? = some y/\Q y (upd H l (.lst (xs.eraseIdx k)))
theorem zpx:MtM X "list.pop" zpg:=by
 intro pins s σ H x vs v us Q I rx rv h
 obtain⟨l,xs,i,k,y,rfl,rfl,hH,h1,h2,hk,hy,q⟩:=h
 cases rx
 obtain⟨u,rfl,ru⟩:=rv.one
 obtain⟨t,rfl⟩:=ru
 obtain⟨z,its,n,r,hl,e⟩:=I.lstM hH
 obtain⟨w,hw,rw'⟩:=r.get hy
 refine call_meets F.slot_list_pop ⟨_,e,rfl⟩ F.entry_list_pop (F.args_list_pop_2 _ _)
  (MeetsSeq.list_pop_at l its.toArray n i t k w (fitsIndex_both h1 h2) (by rw[zzF,<-hl];exact hk) (by rw[<-Array.getElem?_toList];exact hw) (by rw[zzF];omega)) ⟨e, ?_⟩
 refine⟨y,_,I.lset (its':=its.eraseIdx k) hH e ?_ (r.eraseIdx k) ?_,rw',q⟩
 · show its.toArray.eraseIdxIfInBounds k=(its.eraseIdx k).toArray
   rw[List.eraseIdxIfInBounds_toArray]
 · have:=zhm xs k
   omega
theorem len_rep(xs:List α)(k:Nat):(List.replicate k xs).flatten.length=k*xs.length:=by
 induction k with
 |zero=>simp
 |succ k ih=>rw[List.replicate_succ,List.flatten_cons,zzH,ih,Nat.succ_mul,Nat.add_comm]
end
end L2
namespace Att
open PySem PySem.W PySem.Calls PyProof.Rows
theorem zeN:∀(ns:List Int) (vs:List Value),WellAll P h vs (ns.map WData.int)->IntsAre vs ns:=by
 intro ns
 induction ns with
 |nil=>
  intro vs w
  rw[List.map_nil]at w
  cases w
  exact .nil
 |cons n ns ih=>
  intro vs w
  rw[zyQ]at w
  cases w with
  |cons a b=>
   cases a
   exact .cons _ _ (ih _ b)
theorem znv{l:OpenLaw}{n:Nat}(hn:l.most=some n){P:Params}{h:Heap}{args:List WData}{vals:List Value}
 (hpre:l.row.toRowW.claim.pre args=true) (hwl:WellAll P h vals args):
 ∃a vs ns,vals=[Value.ref a]/\args=[WData.list (ns.map WData.int)]/\h.get? a=some {cls:=.type "list",data:=.seq vs.toArray}/\IntsAre vs ns/\ns.length<=n:=by
 have hsh:WShape.hasAll [] args [.list .int]=true:=(pre_splitW hpre).1
 have hc:l.pre.holds [] {args:=args}=true:=(pre_splitW hpre).2
 obtain⟨d,r,rfl,h1,h2⟩:=hasAllW_cons hsh
 obtain rfl:=hasAllW_nil h2
 obtain⟨xs,rfl,h3⟩:=hasW_list h1
 obtain⟨ns,rfl⟩:=items_int h3
 have hlen:ns.length<=n:=by
  unfold OpenLaw.pre at hc
  have h4:(WTm.not (.lt (.lit (.int (n:Int))) (.len (.arg 0)))).holds [] {args:=[.list (ns.map .int)]}=true:=by
   have h4:=(holds_andW hc).1
   rw[hn]at h4
   exact h4
  have h5:=condW_of h4 (w_not (w_lt w_lit (w_len_list (w_arg rfl))))
  rw[zS]at h5
  refine Nat.le_of_not_lt λq=>?_
  have q':(n:Int)<((ns.length:Nat):Int):=by omega
  first
   |(rw[zyM q']at h5;exact absurd h5 (by decide))
   |(simp at h5;omega)
 cases hwl with
 |cons w1 w2=>
  cases w2
  cases w1 with
  |list ho hall=>exact⟨_,_,ns,rfl,rfl,ho,zeN ns _ hall,hlen⟩
theorem znA(l:OpenLaw)(args:List WData):l.row.toRowW.claim.post args (.bool true) args=true:=
 postW_of (r:=l.row.toRowW) (X:=(true==true))
  (show WShape.has [] (.bool true) .bool=true by first|rfl|decide|simp[WShape.has,WShape.arms,WShape.armsAll])
  (show(WTm.eq .res (.lit (.bool true))).value [] {args:=args,res:=some (.bool true),after:=args}=some (.bool (true==true))from w_eq_bool (w_res rfl) w_lit) rfl
theorem zkH{l:OpenLaw}{n:Nat}{q:Program}{loose:List Str}{XP:(Str->Option Value)->Heap->Prop}{YP:World->Heap->Prop}{d:DefRec}
 (hn:l.most=some n) (hdf:d.params.defaults=[])
 (call:∀(w:World) (s₀ s₁:Shared) (mg mb:Str->Option Value) (fa:Addr) (o:Obj) (pm cd doc:Value) (a:Addr) (vs:List Value) (ns:List Int),
  Ground q loose [] XP w s₀ mg mb s₁.heap->YP w s₁.heap->
  s₁.heap.get? fa=some o->o.data = .func (docDef d.name d.params d.body d.scope pm cd doc)->s₁.heap.CodeRec cd d.name->mg d.name=some (.ref fa)->
  s₁.heap.get? a=some {cls:=.type "list",data:=.seq vs.toArray}->IntsAre vs ns->ns.length<=n->s₁.gens = #[]->
  codeAny (model l.prog w) callerA (.call (.ref fa) ⟨[.ref a],[]⟩) (λr s'=>r = .ok (.ret (.bool true))/\OldK s₁.heap s'.heap/\s'.os=s₁.os/\AllBare s'.gens) s₁):
 WalkO q loose XP YP l.row.toRowW d [] (λf vs=>PySem.call f vs):=by
 intro w s₀ s₁ mg mb G Y fa o pm cd doc dV kV ho hd hcd hD hmg hg args vals as hpre hlay hrd hwl hlo
 obtain rfl:dV = .none:=Dflts.none hD hdf
 obtain rfl:kV = .none:=Dflts.noKw hD
 obtain⟨a,vs,ns,rfl,rfl,hobj,hints,hlen⟩:=znv hn hpre hwl
 refine enter_call (codeAny_mono (call w s₀ s₁ mg mb fa o pm cd doc a vs ns G Y ho (fd_plain hd) hcd hmg hobj hints hlen hg) λr s' hq=>?_)
 obtain⟨rfl,h2,h3,h4⟩:=hq
 exact⟨.inl ⟨.bool true,.bool true,[],rfl,λ_=>rfl,.bool true,znA l _,λ_=>⟨List.Pairwise.nil,λ_ hm=>(nomatch hm)⟩⟩,h2,h3,h4⟩
end Att
namespace L2
open PySem PySem.Spec PyProof.Rows
theorem W7:∀{vs:List Value}{ns:List Int},IntsAre vs ns->Vals (ns.map V.int) vs
 |_,_,.nil=>.nil
 |_,_,.cons n t h=>.cons ⟨t,rfl⟩ (W7 h)
def Only(H:Hp):Prop:=∀b,H b=none\/∃o xs,H b=some (.frz o (.lst xs))
theorem zqc{P:Program}{w:World}{K:zD}{mg mb:Str->Option Value}{CX:CXT}{k:Nat}{fa a:Addr}{fd:FuncData}{x:Str}{sp:Sp}{s₁:Shared}{vs:List Value}{ns:List Int}
 (KX:K.In s₁.heap) (hns:s₁.heap.Ns mainGlobals mg) (hb:s₁.heap.Ns builtinsNs mb) (hbb:∀x:Str,x≠"__name__"->mb x=bootBuiltins x) (hlim:s₁.heap.NoLimit) (hg:s₁.gens = #[])
 (ha:s₁.heap.get? a=some {cls:=.type "list",data:=.seq vs.toArray}) (hi:IntsAre vs ns) (hl:ns.length<=sizeLine) (hr:Room k callerA)
 (F:∀base:Heap,K.In base->base.Ns mainGlobals mg->FnOk P w K mg base CX k fa fd [x] sp) (hbind:∀(s:Shared) (u:Value),BindsTo s fd ⟨[u],[]⟩ [(x,u)])
 (hsp:∀H:Hp,Only H->RdL K H a (ns.map V.int)->sp [.ref a] H (λv _=>v = .bl true) λ_ _ _=>False)
 (hCX:∀H e s',CX [] H s₁ (λ_ _ _=>False) e s'->False):
 codeAny (model P w) callerA (.call (.ref fa) ⟨[.ref a],[]⟩) (λr s'=>r = .ok (.ret (.bool true))/\OldK s₁.heap s'.heap/\s'.os=s₁.os/\AllBare s'.gens) s₁:=by
 have rv:=W7 hi
 have lenV:=hi.length
 have core:∀H:Hp,Only H->RdL K H a (ns.map V.int)->HOk P w H s₁.heap->(∀b,H b≠none->b=a)->(H a≠none->K.lookup a=none)->
  codeAny (model P w) callerA (.call (.ref fa) ⟨[.ref a],[]⟩) (λr s'=>r = .ok (.ret (.bool true))/\OldK s₁.heap s'.heap/\s'.os=s₁.os/\AllBare s'.gens) s₁:=by
  intro H hO hS hok hA hK
  have base_of:∀{b:Addr}{o:Obj},s₁.heap.get? b=some o->H b=none->(zir s₁.heap H).get? b=some o:=λe n=>zoN e n
  have noA:∀{b:Addr}{o:Obj}{es:Array DictEntry}{ep:Nat},s₁.heap.get? b=some o->o.data = .dict es ep->H b=none:=λ{b o es ep} e d=>by
   cases q:H b with
   |none=>rfl
   |some u=>
    have e':b=a:=hA b (by rw[q];simp)
    subst e'
    rw[ha]at e;cases e
    have d':Data.seq vs.toArray _=Data.dict es ep:=d
    cases d'
  have nsK:∀{b:Addr}{m:Str->Option Value},s₁.heap.Ns b m->(zir s₁.heap H).Ns b m:=λ{b m} ⟨o,es,ep,e,d,r⟩=>⟨o,es,ep,base_of e (noA e d),d,r⟩
  have hKb:K.In (zir s₁.heap H):=λb o e=>base_of (KX b o e) (by
   cases q:H b with
   |none=>rfl
   |some u=>
    have e':b=a:=hA b (by rw[q];simp)
    subst e'
    rw[hK (by rw[q];simp)]at e;cases e)
  have hM:Mod K mg (zir s₁.heap H):=⟨hKb,nsK hns,⟨mb,nsK hb,hbb⟩,let⟨mc,h1,h2⟩:=hlim;⟨mc,nsK h1,h2⟩⟩
  have e0:Env0 P w K mg (zir s₁.heap H) callerA [] s₁ H:=⟨rfl,hM,λb o e=>zsh e,Nat.le_of_eq (zoh _ _),trivial,λb hb=>absurd (show b ∈ ([]:List Addr)from hb) (by simp),hok,.of_eq hg⟩
  refine codeAny_mono ((F _ hKb (nsK hns)).run callerA [] s₁ H ⟨[.ref a],[]⟩ [.ref a] [.ref a] _ _ hr e0 (hbind s₁ (.ref a)) (.cons rfl .nil) (hsp H hO hS)) λr s' h=>?_
  cases r with
  |error e=>exact(hCX H e s' h).elim
  |ok fl=>
   cases fl with
   |next=>exact False.elim h
   |brk=>exact False.elim h
   |cont=>exact False.elim h
   |ret u=>
    obtain⟨v,H',os,bare,un,hok',r',q⟩:=h
    have q':v = .bl true:=q
    subst q'
    obtain rfl:u=Value.bool true:=r'
    refine⟨rfl,OldK.of_keep λb o e=>?_,os,bare⟩
    cases q:H b with
    |none=>exact un.keep b o e q (by intro z;exact absurd (show b ∈ ([]:List Addr)from z) (by simp)) (by simp)
    |some u=>
     rcases hO b with z|⟨ob,xs,z⟩
     · rw[q]at z;cases z
     · have z2:=un.frzs b ob _ z
       obtain⟨e1,_⟩:=hok b _ z
       obtain⟨e2,_⟩:=hok' b _ z2
       rw[e]at e1;cases e1
       exact e2
 cases hk:K.lookup a with
 |some o=>
  have e:=KX a o hk
  rw[ha]at e
  cases e
  refine core (λ_=>none) (λ_=>.inl rfl) (.inr ⟨vs.toArray,_,hk,by rw[zzF,lenV];exact hl,by simpa using rv⟩) (λb u z=>by have z':(none:Option HO)=some u:=z;cases z') (λb z=>absurd rfl z) λz=>absurd rfl z
 |none=>
  refine core (λb=>if b=a then some (.frz {cls:=.type "list",data:=.seq vs.toArray} (.lst (ns.map V.int)))else none) (λb=>?_) (.inl (.inr ⟨{cls:=.type "list",data:=.seq vs.toArray},if_pos rfl⟩)) (λb u z=>?_) (λb z=>?_) λ_=>hk
  · by_cases hb:b=a
    · exact .inr ⟨_,_,if_pos hb⟩
    · exact .inl (if_neg hb)
  · by_cases hb:b=a
    · have z':=(if_pos hb).symm.trans z
      cases z'
      subst hb
      exact⟨ha,by rw[zS];exact hl,vs,_,rv,ha⟩
    · have z':=(if_neg hb).symm.trans z
      cases z'
  · by_cases hb:b=a
    · exact hb
    · exact absurd (if_neg hb) z
end L2
namespace L2
open PySem PySem.Spec PyProof.Rows
theorem walk_of{l:PySem.W.OpenLaw}{n k:Nat}{q:Program}{loose:List Str}{XP:(Str->Option Value)->Heap->Prop}{YP:World->Heap->Prop}{d:DefRec}{K:Params->zD}{CX:World->CXT}{sp:World->Sp}{x:Str}
 (hn:l.most=some n) (hn2:n<=sizeLine) (hdf:d.params.defaults=[]) (hr:Room k callerA)
 (hY:∀(w:World) (h:Heap),YP w h->(K w.params).In h)
 (F:∀(w:World) (mg:Str->Option Value) (fa:Addr) (h:Heap),(K w.params).In h->h.Ns mainGlobals mg->mg d.name=some (.ref fa)->
  ∃fd:FuncData,(∀(s:Shared) (u:Value),BindsTo s fd ⟨[u],[]⟩ [(x,u)])/\
   ∀base:Heap,(K w.params).In base->base.Ns mainGlobals mg->FnOk l.prog w (K w.params) mg base (CX w) k fa fd [x] (sp w))
 (hsp:∀(w:World) (H:Hp) (a:Addr) (ns:List Int),ns.length<=n->Only H->RdL (K w.params) H a (ns.map V.int)->sp w [.ref a] H (λv _=>v = .bl true) λ_ _ _=>False)
 (hCX:∀(w:World) (H:Hp) (s:Shared) (e:Value) (s':Shared),CX w [] H s (λ_ _ _=>False) e s'->False):
 PySem.W.WalkO q loose XP YP l.row.toRowW d [] (λf vs=>PySem.call f vs):=by
 refine Att.zkH hn hdf λw s₀ s₁ mg mb fa o pm cd doc a vs ns G Y ho hd hcd hmg hobj hints hlen hg=>?_
 have KX:=hY w _ Y
 obtain⟨fd,hb,hF⟩:=F w mg fa _ KX G.T.g hmg
 exact zqc KX G.T.g G.T.b G.T.builtins G.T.nolimit hg hobj hints (zzM hlen hn2) hr hF hb (λH hO hS=>hsp w H a ns hlen hO hS) λH e s'=>hCX w H s₁ e s'
end L2
namespace L2
open PySem PySem.Spec PyProof.Rows
abbrev CX0:CXT:=λ_ _ _ _ _ _=>False
abbrev E0:XK:=λ_ _ _=>False
theorem zJ:Yo CX0 X E0:=λ_ _ _ _ _ _ _ h=>h.elim
structure Fun(K:zD)(x qual:Str)(st:Stmt)(f:Addr)(fd:FuncData):Prop where
 ex:∃(oc:Value) (od:Option Addr) (kV doc pm:Value) (an:Option Addr) (cdv ct:Value) (osl:Array (Option Value)),
  fd=PySem.W.fnOf x qual (zjw st) (V0 st) (zG st) .none kV doc pm an cdv ct/\K.lookup f=some ⟨oc,od,.func fd,osl⟩/\PySem.W.codeIn K cdv qual=true
 kp:PySem.W.keepIn K (.ref f)=true
section
variable{P:Program}{w:World}{K:zD}{mg:Str->Option Value}{base:Heap}
theorem Fun.ok{x qual:Str}{st:Stmt}{f:Addr}{fd:FuncData}{N ps:List Str}{k:Nat}{sp:Sp}(F:Fun K x qual st f fd)(S:FnScope N ps (zG st))(len:∀vs H Q E,sp vs H Q E->vs.length=ps.length)
 (hbody:∀(cdv:Value) (A:Around) (outer:List Env) (s:Shared) (H:Hp) (vs:List V) (Q:VK) (E:XK),Room k (A.deeper (envOfC qual (zG st) s.heap.objs.size f cdv))->sp vs H Q E->
  ∃t,PSs (zji CX0 P w K mg base N qual (zG st) f cdv A outer s H E).nox (V0 st) t/\t {nx:=λ_ H'=>Q .non H',rt:=Q} (start N vs) H):FnOk P w K mg base CX0 (k+1) f fd ps sp:=by
 obtain⟨oc,od,kV,doc,pm,an,cdv,ct,osl,rfl,lk,hcd⟩:=F.ex
 refine zuW lk hcd S len λA outer s H vs Q E hr hsp=>?_
 obtain⟨t,h,q⟩:=hbody cdv A outer s H vs Q E hr hsp
 exact⟨t,h.nox,q⟩
theorem Fun.binds{x qual:Str}{st:Stmt}{f:Addr}{fd:FuncData}{ps:List Str}(F:Fun K x qual st f fd)
 (h:∀(kV doc pm:Value) (an:Option Addr) (cdv ct:Value) (us:List Value),us.length=ps.length->bindArgs (PySem.W.fnOf x qual (zjw st) (V0 st) (zG st) .none kV doc pm an cdv ct) ⟨us,[]⟩=pure (ps.zip us)):Binds K fd ps []:=by
 obtain⟨oc,od,kV,doc,pm,an,cdv,ct,osl,rfl,lk,hcd⟩:=F.ex
 exact .all (h kV doc pm an cdv ct)
end
theorem zbq(h:n<=1000):n<sizeLine:=Nat.lt_of_le_of_lt h (by decide)
section
variable{X:Cx}
theorem pv(i:Nat)(hN:X.N[i]? = some x:=by rfl)(hv:Vis X.env.scope x:=by first|exact Or.inl rfl|exact Or.inr (Or.inl rfl)|exact Or.inr (Or.inr rfl))(hd:(x==("__debug__":Str))=false:=by decide)
 (hcd:(x==("__classdict__":Str))=false:=by decide):PE X (.Name x pos) (zhg i):=zph hN hv hd hcd
end
end L2
end
section
namespace PF
open PySem PySem.Spec PyProof.Rows L2
abbrev St:=L2.St
structure KD where
 d:Addr->List (Key×V)->Prop
 c:Str->Addr
instance:CoeFun KD (λ_=>Addr->List (Key×V)->Prop):=⟨KD.d⟩
inductive D where
 |non|bl (b:Bool)|int (i:Int)|str (x:Str)|tup (ds:List D)|lst (ds:List D)|dct (kvs:List (Key×D))|cl (c:Str)|ob (c:Str) (ns:List Str) (ds:List D)
mutual
inductive Rp(K:zD)(kd:KD)(O:Addr->Prop)(H:Hp):V->D->Prop
 |non:Rp K kd O H .non .non
 |bl (b:Bool):Rp K kd O H (.bl b) (.bl b)
 |int (i:Int):Rp K kd O H (.int i) (.int i)
 |str (x:Str):Rp K kd O H (.str x) (.str x)
 |tup {a:Addr}{vs:List V}{ds:List D}:¬O a->Rd H a (.tup vs)->RpL K kd O H vs ds->Rp K kd O H (.ref a) (.tup ds)
 |tupK {a:Addr}{o:Obj}{its:Array Value}{n:Nat}{vs:List V}{ds:List D}:K.lookup a=some o->o.cls = .type "tuple"->o.data = .seq its n->its.size<=sizeLine->Vals vs its.toList->RpL K kd O H vs ds->Rp K kd O H (.ref a) (.tup ds)
 |lst {a:Addr}{vs:List V}{ds:List D}:¬O a->Rd H a (.lst vs)->RpL K kd O H vs ds->Rp K kd O H (.ref a) (.lst ds)
 |lstK {a:Addr}{its:Array Value}{n:Nat}{vs:List V}{ds:List D}:K.lookup a=some {cls:=.type "list",data:=.seq its n}->its.size<=sizeLine->Vals vs its.toList->RpL K kd O H vs ds->Rp K kd O H (.ref a) (.lst ds)
 |dct {a:Addr}{kvs:List (Key×V)}{ds:List (Key×D)}:¬O a->Rd H a (.dK kvs)->RpM K kd O H kvs ds->Rp K kd O H (.ref a) (.dct ds)
 |dctK {a:Addr}{kvs:List (Key×V)}{ds:List (Key×D)}:kd a kvs->RpM K kd O H kvs ds->Rp K kd O H (.ref a) (.dct ds)
 |cl (c:Str):Rp K kd O H (.ref (kd.c c)) (.cl c)
 |ob {a dx:Addr}{c:Str}{ns:List Str}{vs:List V}{ds:List D}:¬O a->H a=some (.ins (kd.c c) dx (ns.zip vs))->ns.length=vs.length->RpL K kd O H vs ds->Rp K kd O H (.ref a) (.ob c ns ds)
inductive RpL(K:zD)(kd:KD)(O:Addr->Prop)(H:Hp):List V->List D->Prop
 |nil:RpL K kd O H [] []
 |cons {v:V}{d:D}{vs:List V}{ds:List D}:Rp K kd O H v d->RpL K kd O H vs ds->RpL K kd O H (v::vs) (d::ds)
inductive RpM(K:zD)(kd:KD)(O:Addr->Prop)(H:Hp):List (Key×V)->List (Key×D)->Prop
 |nil:RpM K kd O H [] []
 |cons {k:Key}{v:V}{d:D}{vs:List (Key×V)}{ds:List (Key×D)}:Rp K kd O H v d->RpM K kd O H vs ds->RpM K kd O H ((k,v)::vs) ((k,d)::ds)
end
structure Grow(W:Addr->Prop)(H:Hp)(W':Addr->Prop)(H':Hp):Prop where
 keep:∀b o,H b=some o->¬W b->H' b=some o
 own:∀b,W' b->W b\/H b=none
theorem Grow.refl{W:Addr->Prop}{H:Hp}:Grow W H W H:=⟨λ_ _ h _=>h,λ_ h=>.inl h⟩
theorem Grow.trans{W W1 W2:Addr->Prop}{H H1 H2:Hp}(a:Grow W H W1 H1)(b:Grow W1 H1 W2 H2):Grow W H W2 H2 where
 keep:=λx o h n=>b.keep x o (a.keep x o h n) λq=>(a.own x q).elim n λz=>by rw[z]at h;cases h
 own:=λx q=>by
  rcases b.own x q with h|h
  · exact a.own x h
  · cases e:H x with
    |none=>exact .inr rfl
    |some o=>
     refine .inl (Classical.byContradiction λn=>?_)
     rw[a.keep x o e n]at h
     cases h
theorem Grow.less{W W':Addr->Prop}{H:Hp}(h:∀a,W' a->W a):Grow W H W' H:=⟨λ_ _ q _=>q,λb q=>.inl (h b q)⟩
abbrev Un2(F W:Addr->Prop):Addr->Prop:=λa=>F a\/W a
section
variable{K:zD}{kd:KD}{F W W':Addr->Prop}{H H':Hp}
theorem zbh{a:Addr}{u:HO}(g:Grow W H W' H')(n:¬W a)(h:Rd H a u):Rd H' a u:=by
 rcases h with h|⟨o,h⟩
 · exact .inl (g.keep _ _ h n)
 · exact .inr ⟨o,g.keep _ _ h n⟩
theorem zrU{a:Addr}{u:HO}(h:Rd H a u):H a≠none:=by
 rcases h with h|⟨o,h⟩<;>(rw[h];simp)
theorem zdf{a:Addr}{u:HO}(g:Grow W H W' H')(n:¬Un2 F W a)(h:Rd H a u):¬Un2 F W' a:=λq=>
 q.elim (λz=>n (.inl z)) λz=>(g.own a z).elim (λy=>n (.inr y)) λy=>zrU h y
theorem Rp.grow(g:Grow W H W' H'){v:V}{d:D}(h:Rp K kd (Un2 F W) H v d):Rp K kd (Un2 F W') H' v d:=
 Rp.rec (motive_1:=λv d _=>Rp K kd (Un2 F W') H' v d) (motive_2:=λvs ds _=>RpL K kd (Un2 F W') H' vs ds) (motive_3:=λvs ds _=>RpM K kd (Un2 F W') H' vs ds) .non .bl .int .str (λn h _ r=>.tup (zdf g n h) (zbh g (λz=>n (.inr z)) h) r) (λa b c e f _ r=>.tupK a b c e f r) (λn h _ r=>.lst (zdf g n h) (zbh g (λz=>n (.inr z)) h) r) (λa e f _ r=>.lstK a e f r) (λn h _ r=>.dct (zdf g n h) (zbh g (λz=>n (.inr z)) h) r) (λh _ r=>.dctK h r) .cl (λn h l _ r=>.ob (zdf g n (.inl h)) (g.keep _ _ h λz=>n (.inr z)) l r) .nil (λ_ _ h r=>.cons h r) .nil (λ_ _ h r=>.cons h r) h
theorem RpL.ind{O:Addr->Prop}{P:List V->List D->Prop}(h0:P [] [])(h1:∀{v d vs ds},Rp K kd O H v d->RpL K kd O H vs ds->P vs ds->P (v::vs) (d::ds)){vs:List V}{ds:List D}(h:RpL K kd O H vs ds):P vs ds:=
 RpL.rec (motive_1:=λ_ _ _=>True) (motive_2:=λvs ds _=>P vs ds) (motive_3:=λ_ _ _=>True) ⟨⟩ (λ_=>⟨⟩) (λ_=>⟨⟩) (λ_=>⟨⟩) (λ_ _ _ _=>⟨⟩) (λ_ _ _ _ _ _ _=>⟨⟩) (λ_ _ _ _=>⟨⟩) (λ_ _ _ _ _=>⟨⟩) (λ_ _ _ _=>⟨⟩) (λ_ _ _=>⟨⟩) (λ_=>⟨⟩) (λ_ _ _ _ _=>⟨⟩) h0 (λa r _ ih=>h1 a r ih) ⟨⟩ (λ_ _ _ _=>⟨⟩) h
theorem RpM.ind{O:Addr->Prop}{P:List (Key×V)->List (Key×D)->Prop}(h0:P [] [])(h1:∀{k v d vs ds},Rp K kd O H v d->RpM K kd O H vs ds->P vs ds->P ((k,v)::vs) ((k,d)::ds)){vs:List (Key×V)}{ds:List (Key×D)}(h:RpM K kd O H vs ds):P vs ds:=
 RpM.rec (motive_1:=λ_ _ _=>True) (motive_2:=λ_ _ _=>True) (motive_3:=λvs ds _=>P vs ds) ⟨⟩ (λ_=>⟨⟩) (λ_=>⟨⟩) (λ_=>⟨⟩) (λ_ _ _ _=>⟨⟩) (λ_ _ _ _ _ _ _=>⟨⟩) (λ_ _ _ _=>⟨⟩) (λ_ _ _ _ _=>⟨⟩) (λ_ _ _ _=>⟨⟩) (λ_ _ _=>⟨⟩) (λ_=>⟨⟩) (λ_ _ _ _ _=>⟨⟩) ⟨⟩ (λ_ _ _ _=>⟨⟩) h0 (λa r _ ih=>h1 a r ih) h
theorem RpL.grow(g:Grow W H W' H'){vs:List V}{ds:List D}(h:RpL K kd (Un2 F W) H vs ds):RpL K kd (Un2 F W') H' vs ds:=RpL.ind .nil (λa _ r=>.cons (Rp.grow g a) r) h
theorem RpM.grow(g:Grow W H W' H'){vs:List (Key×V)}{ds:List (Key×D)}(h:RpM K kd (Un2 F W) H vs ds):RpM K kd (Un2 F W') H' vs ds:=RpM.ind .nil (λa _ r=>.cons (Rp.grow g a) r) h
theorem Rp.less{O O':Addr->Prop}(g:∀a,O' a->O a){v:V}{d:D}(h:Rp K kd O H v d):Rp K kd O' H v d:=
 Rp.rec (motive_1:=λv d _=>Rp K kd O' H v d) (motive_2:=λvs ds _=>RpL K kd O' H vs ds) (motive_3:=λvs ds _=>RpM K kd O' H vs ds) .non .bl .int .str (λn h _ r=>.tup (λz=>n (g _ z)) h r) (λa b c e f _ r=>.tupK a b c e f r) (λn h _ r=>.lst (λz=>n (g _ z)) h r) (λa e f _ r=>.lstK a e f r) (λn h _ r=>.dct (λz=>n (g _ z)) h r) (λh _ r=>.dctK h r) .cl (λn h l _ r=>.ob (λz=>n (g _ z)) h l r) .nil (λ_ _ h r=>.cons h r) .nil (λ_ _ h r=>.cons h r) h
theorem RpL.less{O O':Addr->Prop}(g:∀a,O' a->O a){vs:List V}{ds:List D}(h:RpL K kd O H vs ds):RpL K kd O' H vs ds:=RpL.ind .nil (λa _ r=>.cons (Rp.less g a) r) h
theorem RpM.less{O O':Addr->Prop}(g:∀a,O' a->O a){vs:List (Key×V)}{ds:List (Key×D)}(h:RpM K kd O H vs ds):RpM K kd O' H vs ds:=RpM.ind .nil (λa _ r=>.cons (Rp.less g a) r) h
theorem RpL.length{O:Addr->Prop}{vs:List V}{ds:List D}(h:RpL K kd O H vs ds):vs.length=ds.length:=RpL.ind (P:=λvs ds=>vs.length=ds.length) rfl (λ_ _ r=>congrArg (· + 1) r) h
theorem RpM.length{O:Addr->Prop}{vs:List (Key×V)}{ds:List (Key×D)}(h:RpM K kd O H vs ds):vs.length=ds.length:=RpM.ind (P:=λvs ds=>vs.length=ds.length) rfl (λ_ _ r=>congrArg (· + 1) r) h
theorem RpL.get{O:Addr->Prop}{vs:List V}{ds:List D}{i:Nat}{d:D}(h:RpL K kd O H vs ds)(e:ds[i]? = some d):∃v,vs[i]? = some v/\Rp K kd O H v d:=
 RpL.ind (P:=λvs ds=>∀i,ds[i]? = some d->∃v,vs[i]? = some v/\Rp K kd O H v d) (λi e=>by rw[List.getElem?_nil]at e;cases e) (λa _ ih i e=>by
  cases i with
  |zero=>cases e;exact⟨_,rfl,a⟩
  |succ i=>exact ih i e) h i e
theorem RpL.append{O:Addr->Prop}{vs ws:List V}{ds es:List D}(h:RpL K kd O H vs ds)(r:RpL K kd O H ws es):RpL K kd O H (vs++ws) (ds++es):=RpL.ind (P:=λvs ds=>RpL K kd O H (vs++ws) (ds++es)) r (λa _ t=>.cons a t) h
theorem RpL.take{O:Addr->Prop}{vs:List V}{ds:List D}(n:Nat)(h:RpL K kd O H vs ds):RpL K kd O H (vs.take n) (ds.take n):=
 RpL.ind (P:=λvs ds=>∀n,RpL K kd O H (vs.take n) (ds.take n)) (λn=>by rw[List.take_nil,List.take_nil];exact .nil) (λa _ ih n=>by
  cases n with
  |zero=>exact .nil
  |succ n=>exact .cons a (ih n)) h n
theorem RpL.drop{O:Addr->Prop}{vs:List V}{ds:List D}(n:Nat)(h:RpL K kd O H vs ds):RpL K kd O H (vs.drop n) (ds.drop n):=
 RpL.ind (P:=λvs ds=>∀n,RpL K kd O H (vs.drop n) (ds.drop n)) (λn=>by rw[List.drop_nil,List.drop_nil];exact .nil) (λa b ih n=>by
  cases n with
  |zero=>exact .cons a b
  |succ n=>exact ih n) h n
theorem RpL.rep{O:Addr->Prop}{vs:List V}{ds:List D}(h:RpL K kd O H vs ds):∀k:Nat,RpL K kd O H (List.replicate k vs).flatten (List.replicate k ds).flatten
 |0=>.nil
 |k+1=>by
  rw[List.replicate_succ,List.replicate_succ,List.flatten_cons,List.flatten_cons]
  exact h.append (RpL.rep h k)
end
inductive Vw(K:zD)(kd:KD)(O:Addr->Prop)(H:Hp):V->D->Prop
 |non:Vw K kd O H .non .non
 |bl (b:Bool):Vw K kd O H (.bl b) (.bl b)
 |int (i:Int):Vw K kd O H (.int i) (.int i)
 |str (x:Str):Vw K kd O H (.str x) (.str x)
 |tup {a:Addr}{vs:List V}{ds:List D}:Rp K kd O H (.ref a) (.tup ds)->SqT K H a vs->RpL K kd O H vs ds->Vw K kd O H (.ref a) (.tup ds)
 |lst {a:Addr}{vs:List V}{ds:List D}:RdL K H a vs->RpL K kd O H vs ds->Vw K kd O H (.ref a) (.lst ds)
 |dct {a:Addr}{kvs:List (Key×V)}{ds:List (Key×D)}:(Rd H a (.dK kvs)\/kd a kvs)->RpM K kd O H kvs ds->Vw K kd O H (.ref a) (.dct ds)
 |cl (c:Str):Vw K kd O H (.ref (kd.c c)) (.cl c)
 |ob {a dx:Addr}{c:Str}{ns:List Str}{vs:List V}{ds:List D}:H a=some (.ins (kd.c c) dx (ns.zip vs))->ns.length=vs.length->RpL K kd O H vs ds->Vw K kd O H (.ref a) (.ob c ns ds)
theorem Rp.vw{K:zD}{kd:KD}{O:Addr->Prop}{H:Hp}{v:V}{d:D}(h:Rp K kd O H v d):Vw K kd O H v d:=by
 cases h with
 |non=>exact .non
 |bl b=>exact .bl b
 |int i=>exact .int i
 |str x=>exact .str x
 |tup n h r=>exact .tup (.tup n h r) (.inl h) r
 |tupK a b c e f r=>exact .tup (.tupK a b c e f r) (.inr ⟨_,_,_,a,b,c,e,f⟩) r
 |lst n h r=>exact .lst (.inl h) r
 |lstK a e f r=>exact .lst (.inr ⟨_,_,a,e,f⟩) r
 |dct n h r=>exact .dct (.inl h) r
 |dctK h r=>exact .dct (.inr h) r
 |cl c=>exact .cl c
 |ob n h l r=>exact .ob h l r
theorem _root_.L2.RdL.sq{K:zD}{H:Hp}{a:Addr}{xs:List V}(h:RdL K H a xs):SqL K H a xs:=by
 rcases h with h|⟨its,n,k,z,r⟩
 · exact .inl h
 · exact .inr ⟨_,its,n,k,rfl,rfl,rfl,z,r⟩
theorem zll{X:Cx}{pins:List (Addr×Obj)}{σ:St}{H:Hp}{s:Shared}{a:Addr}{xs:List V}(I:Inv X pins σ H s)(h:RdL X.K H a xs):
 xs.length<=sizeLine/\∃(its:List Value) (n:Nat),Vals xs its/\s.heap.get? a=some {cls:=.type "list",data:=.seq its.toArray n}:=by
 rcases h with h|⟨its,n,k,z,r⟩
 · exact h.ok I.hok
 · refine⟨by rw[r.length];simpa using z,its.toList,n,r,by simpa using I.kIn _ _ k⟩
theorem Rp.cl_eq{K:zD}{kd:KD}{O:Addr->Prop}{H:Hp}{C:Addr}{c:Str}(h:Rp K kd O H (.ref C) (.cl c)):C=kd.c c:=by
 cases h;rfl
def yo:D->Bool
 | .non=>true | .bl _=>true | .int _=>true | .str _=>true|_=>false
theorem Rp.flat{K:zD}{kd:KD}{O O':Addr->Prop}{H H':Hp}{v:V}{d:D}(h:Rp K kd O H v d)(e:yo d=true):Rp K kd O' H' v d:=by
 cases h with
 |non=>exact .non
 |bl b=>exact .bl b
 |int i=>exact .int i
 |str x=>exact .str x
 |_=>cases e
inductive Kind where
 |ls|tp|dc (ks:List Key)|ob (c:Str) (ns:List Str)
inductive O where
 |lf (st:Bool) (d:D)|nd (k:Kind) (os:List O)
abbrev lfs(st:Bool)(d:D):O:=.lf (yo d||st) d
mutual
inductive Ro(L:Bool->V->D->Prop)(N:Addr->Prop)(H:Hp):V->O->List Addr->Prop
 |lf {st:Bool}{v:V}{d:D}:L st v d->Ro L N H v (.lf st d) []
 |ls {a:Addr}{vs:List V}{os:List O}{fp:List Addr}:H a=some (.lst vs)->RoL L N H vs os fp->Ro L N H (.ref a) (.nd .ls os) (a::fp)
 |dc {a:Addr}{ks:List Key}{vs:List V}{os:List O}{fp:List Addr}:H a=some (.dK (ks.zip vs))->ks.length=vs.length->RoL L N H vs os fp->Ro L N H (.ref a) (.nd (.dc ks) os) (a::fp)
 |ob {a dx C:Addr}{c:Str}{ns:List Str}{vs:List V}{os:List O}{fp:List Addr}:L true (.ref C) (.cl c)->H a=some (.ins C dx (ns.zip vs))->ns.length=vs.length->RoL L N H vs os fp->Ro L N H (.ref a) (.nd (.ob c ns) os) (a::fp)
 |tp {a:Addr}{vs:List V}{os:List O}{fp:List Addr}:N a->H a=some (.tup vs)->RoL L N H vs os fp->Ro L N H (.ref a) (.nd .tp os) fp
inductive RoL(L:Bool->V->D->Prop)(N:Addr->Prop)(H:Hp):List V->List O->List Addr->Prop
 |nil:RoL L N H [] [] []
 |cons {v:V}{o:O}{vs:List V}{os:List O}{fp fq:List Addr}:Ro L N H v o fp->RoL L N H vs os fq->RoL L N H (v::vs) (o::os) (fp++fq)
end
mutual
def O.toD:O->D
 | .lf _ d=>d
 | .nd .ls os=>.lst (O.toDs os)
 | .nd .tp os=>.tup (O.toDs os)
 | .nd (.dc ks) os=>.dct (ks.zip (O.toDs os))
 | .nd (.ob c ns) os=>.ob c ns (O.toDs os)
def O.toDs:List O->List D
 | []=>[]
 |o::r=>o.toD::O.toDs r
end
mutual
def O.str:O->Bool
 | .lf st _=>st
 | .nd _ os=>O.strs os
def O.strs:List O->Bool
 | []=>true
 |o::r=>o.str&&O.strs r
end
section
variable{L L':Bool->V->D->Prop}{N N':Addr->Prop}{H H':Hp}{K:zD}{kd:KD}{Ob:Addr->Prop}
theorem Ro.mono(hL:∀st v d,L st v d->L' st v d)(hN:∀a vs,N a->H a=some (.tup vs)->N' a/\H' a=some (.tup vs)){v:V}{o:O}{fp:List Addr}(k:∀a ∈ fp,∀u,H a=some u->H' a=some u)(h:Ro L N H v o fp):Ro L' N' H' v o fp:=
 Ro.rec (motive_1:=λv o fp _=>(∀a ∈ fp,∀u,H a=some u->H' a=some u)->Ro L' N' H' v o fp) (motive_2:=λvs os fp _=>(∀a ∈ fp,∀u,H a=some u->H' a=some u)->RoL L' N' H' vs os fp)
  (λh _=>.lf (hL _ _ _ h)) (λh _ r k=>.ls (k _ zzD _ h) (r λa m=>k a (zzB _ m))) (λh l _ r k=>.dc (k _ zzD _ h) l (r λa m=>k a (zzB _ m))) (λc h l _ r k=>.ob (hL _ _ _ c) (k _ zzD _ h) l (r λa m=>k a (zzB _ m))) (λn h _ r k=>.tp (hN _ _ n h).1 (hN _ _ n h).2 (r k))
  (λ_=>.nil) (λ_ _ h r k=>.cons (h λa m=>k a (zzN _ m)) (r λa m=>k a (zzJ _ m))) h k
theorem RoL.ind{P:List V->List O->List Addr->Prop}(h0:P [] [] [])(h1:∀{v o vs os fp fq},Ro L N H v o fp->RoL L N H vs os fq->P vs os fq->P (v::vs) (o::os) (fp++fq)){vs:List V}{os:List O}{fp:List Addr}(h:RoL L N H vs os fp):P vs os fp:=
 RoL.rec (motive_1:=λ_ _ _ _=>True) (motive_2:=λvs os fp _=>P vs os fp) (λ_=>⟨⟩) (λ_ _ _=>⟨⟩) (λ_ _ _ _=>⟨⟩) (λ_ _ _ _ _=>⟨⟩) (λ_ _ _ _=>⟨⟩) h0 (λa r _ ih=>h1 a r ih) h
theorem RoL.mono(hL:∀st v d,L st v d->L' st v d)(hN:∀a vs,N a->H a=some (.tup vs)->N' a/\H' a=some (.tup vs)){vs:List V}{os:List O}{fp:List Addr}(k:∀a ∈ fp,∀u,H a=some u->H' a=some u)(h:RoL L N H vs os fp):RoL L' N' H' vs os fp:=
 RoL.ind (P:=λvs os fp=>(∀a ∈ fp,∀u,H a=some u->H' a=some u)->RoL L' N' H' vs os fp) (λ_=>.nil) (λh _ r k=>.cons (Ro.mono hL hN (λa m=>k a (zzN _ m)) h) (r λa m=>k a (zzJ _ m))) h k
theorem zff:∀{ks:List Key}{vs:List V}{ds:List D},RpL K kd Ob H vs ds->ks.length=vs.length->RpM K kd Ob H (ks.zip vs) (ks.zip ds)
 | [],_,_,_,_=>.nil
 |_::_,_,_,.nil,e=>by simp at e
 |_::_,_,_,.cons h r,e=>.cons h (zff r (by simpa using e))
theorem Ro.rp(b:Bool)(hL:∀st v d,(b=true->st=true)->L st v d->Rp K kd Ob H v d)(hN:∀a,N a->¬Ob a){v:V}{o:O}{fp:List Addr}(s:b=true->o.str=true)(k:∀a ∈ fp,¬Ob a)(h:Ro L N H v o fp):Rp K kd Ob H v o.toD:=
 Ro.rec (motive_1:=λv o fp _=>(b=true->o.str=true)->(∀a ∈ fp,¬Ob a)->Rp K kd Ob H v o.toD) (motive_2:=λvs os fp _=>(b=true->O.strs os=true)->(∀a ∈ fp,¬Ob a)->RpL K kd Ob H vs (O.toDs os))
  (λh s _=>hL _ _ _ s h) (λh _ r s k=>.lst (k _ zzD) (.inl h) (r s λa m=>k a (zzB _ m))) (λh l _ r s k=>.dct (k _ zzD) (.inl h) (zff (r s λa m=>k a (zzB _ m)) l)) (λc h l _ r s k=>by
   have e:=(hL _ _ _ (λ_=>rfl) c).cl_eq
   subst e
   exact .ob (k _ zzD) h l (r s λa m=>k a (zzB _ m))) (λn h _ r s k=>.tup (hN _ n) (.inl h) (r s k))
  (λ_ _=>.nil) (λ_ _ h r s k=>.cons (h (λz=>((zyA _ _).mp (s z)).1) λa m=>k a (zzN _ m)) (r (λz=>((zyA _ _).mp (s z)).2) λa m=>k a (zzJ _ m))) h s k
theorem RoL.rp(b:Bool)(hL:∀st v d,(b=true->st=true)->L st v d->Rp K kd Ob H v d)(hN:∀a,N a->¬Ob a){vs:List V}{os:List O}{fp:List Addr}(s:b=true->O.strs os=true)(k:∀a ∈ fp,¬Ob a)(h:RoL L N H vs os fp):RpL K kd Ob H vs (O.toDs os):=
 RoL.ind (P:=λvs os fp=>(b=true->O.strs os=true)->(∀a ∈ fp,¬Ob a)->RpL K kd Ob H vs (O.toDs os)) (λ_ _=>.nil) (λh _ r s k=>.cons (Ro.rp b hL hN (λz=>((zyA _ _).mp (s z)).1) (λa m=>k a (zzN _ m)) h) (r (λz=>((zyA _ _).mp (s z)).2) λa m=>k a (zzJ _ m))) h s k
theorem RoL.length{vs:List V}{os:List O}{fp:List Addr}(h:RoL L N H vs os fp):vs.length=os.length:=RoL.ind (P:=λvs os _=>vs.length=os.length) rfl (λ_ _ r=>congrArg (· + 1) r) h
theorem zeI:∀os:List O,(O.toDs os).length=os.length
 | []=>rfl
 |_::r=>congrArg (· + 1) (zeI r)
theorem RoL.append{vs ws:List V}{os ps:List O}{f g:List Addr}(h:RoL L N H vs os f)(r:RoL L N H ws ps g):RoL L N H (vs++ws) (os++ps) (f++g):=RoL.ind (P:=λvs os f=>RoL L N H (vs++ws) (os++ps) (f++g)) r (λh _ t=>by rw[zxB];exact .cons h t) h
theorem RoL.one{v:V}{o:O}{f:List Addr}(h:Ro L N H v o f):RoL L N H [v] [o] f:=by
 have:=RoL.cons h (RoL.nil (L:=L) (N:=N) (H:=H))
 rw[zyC]at this
 exact this
theorem RoL.at_{k:Nat}{o:O}:∀{vs:List V}{os:List O}{fp:List Addr},RoL L N H vs os fp->os[k]? = some o->∃v f fo g,vs[k]? = some v/\fp=f++(fo++g)/\Ro L N H v o fo/\RoL L N H (vs.take k) (os.take k) f/\RoL L N H (vs.drop (k+1)) (os.drop (k+1)) g:=by
 induction k with
 |zero=>
  intro vs os fp h e
  cases h with
  |nil=>cases e
  |cons h r=>
   rw[List.getElem?_cons_zero]at e
   cases e
   exact⟨_,[],_,_,rfl,rfl,h,.nil,r⟩
 |succ k ih=>
  intro vs os fp h e
  cases h with
  |nil=>cases e
  |cons h r=>
   rw[List.getElem?_cons_succ]at e
   obtain⟨v,f,fo,g,e1,e2,h1,h2,h3⟩:=ih r e
   subst e2
   exact⟨v,_,fo,g,by rw[List.getElem?_cons_succ];exact e1,(zxB _ _ _).symm,h1,.cons h h2,h3⟩
theorem zeh{α:Type}(l:List α)(k:Nat):l.eraseIdx k=l.take k++l.drop (k+1):=List.eraseIdx_eq_take_drop_succ l k
end
abbrev AS:=List (Option O)
abbrev Ad:=Nat->List Addr
def Gw(T:List Addr)(ad:Ad):Addr->Prop:=λa=>a ∈ T\/∃i,a ∈ ad i
abbrev Lv(F B G:Addr->Prop)(st:Bool):Addr->Prop:=Un2 (λa=>(st=true/\F a)\/B a) G
abbrev Lf(K:zD)(kd:KD)(F B G:Addr->Prop)(H:Hp):Bool->V->D->Prop:=λst v d=>Rp K kd (Lv F B G st) H v d
abbrev Nf(F B G:Addr->Prop):Addr->Prop:=λa=>¬Lv F B G true a
abbrev RoS(K:zD)(kd:KD)(F B G:Addr->Prop)(H:Hp):V->O->List Addr->Prop:=Ro (Lf K kd F B G H) (Nf F B G) H
abbrev Yh(K:zD)(kd:KD)(F B G:Addr->Prop)(H:Hp):List V->List O->List Addr->Prop:=RoL (Lf K kd F B G H) (Nf F B G) H
def zgr(K:zD)(kd:KD)(F B G:Addr->Prop)(H:Hp):Option O->Option (Option V)->List Addr->Prop
 |none,_,fp=>fp=[]
 |some o,s,fp=>∃v,s=some (some v)/\RoS K kd F B G H v o fp
structure Rel(K:zD)(kd:KD)(F B:Addr->Prop)(T:List Addr)(ad:Ad)(as:AS)(σ:St)(H:Hp):Prop where
 len:as.length=σ.length
 out:∀i,as.length<=i->ad i=[]
 nd:∀i,(ad i).Nodup
 inj:∀i j a,a ∈ ad i->a ∈ ad j->i=j
 tnd:T.Nodup
 dis:∀i a,a ∈ ad i->a ∉ T
 ftr:∀a,F a->H a≠none
 btr:∀a,B a->H a≠none/\¬F a/\¬Gw T ad a
 gtr:∀a,Gw T ad a->H a≠none/\¬F a
 sl:∀i s,as[i]? = some s->zgr K kd F B (Gw T ad) H s σ[i]? (ad i)
inductive RV where
 |ow (o:O)|bo (i:Nat)
def v8(K:zD)(kd:KD)(F B:Addr->Prop)(T:List Addr)(ad:Ad)(σ:St)(H:Hp)(v:V):RV->Prop
 | .ow o=>RoS K kd F B (Gw T ad) H v o T
 | .bo i=>T=[]/\σ[i]? = some (some v)
def O.frz(o:O):O:=.lf o.str o.toD
def RV.frz:RV->RV
 | .ow o=>.ow o.frz
 | .bo i=>.bo i
def O.isLf:O->Bool
 | .lf _ _=>true
 |_=>false
def O.kl:O->Option Bool
 | .lf st _=>some st
 | .nd _ os=>if os.all O.isLf=true then some (O.strs os)else none
def RV.view(as:AS):RV->Option (D×Option Bool)
 | .ow o=>some (o.toD,some o.str)
 | .bo i=>match as[i]? with
  |some (some o)=>some (o.toD,o.kl)
  |_=>none
def Obl(F B G:Addr->Prop):Option Bool->Addr->Prop
 |some st=>Lv F B G st
 |none=>λ_=>False
section
variable{K:zD}{kd:KD}{F B F' B':Addr->Prop}{G G':Addr->Prop}{T T':List Addr}{ad ad1:Ad}{as as1:AS}{σ:St}{H H1 H':Hp}{v:V}{r:RV}{o:O}{fp:List Addr}{vs:List V}{os:List O}
theorem RoS.grow(g:Grow G H G' H')(k:∀a ∈ fp,∀u,H a=some u->H' a=some u)(h:RoS K kd F B G H v o fp):RoS K kd F B G' H' v o fp:=
 Ro.mono (λst v d r=>Rp.grow g r) (λa vs n e=>⟨λz=>z.elim (λy=>n (.inl y)) λy=>(g.own a y).elim (λw=>n (.inr w)) λw=>(by rw[w]at e;cases e),g.keep a _ e (λw=>n (.inr w))⟩) k h
theorem Yh.grow(g:Grow G H G' H')(k:∀a ∈ fp,∀u,H a=some u->H' a=some u)(h:Yh K kd F B G H vs os fp):Yh K kd F B G' H' vs os fp:=
 RoL.mono (λst v d r=>Rp.grow g r) (λa vs n e=>⟨λz=>z.elim (λy=>n (.inl y)) λy=>(g.own a y).elim (λw=>n (.inr w)) λw=>(by rw[w]at e;cases e),g.keep a _ e (λw=>n (.inr w))⟩) k h
theorem RoS.lv(g:∀st a,Lv F' B' G' st a->Lv F B G st a)(h:RoS K kd F B G H v o fp):RoS K kd F' B' G' H v o fp:=
 Ro.mono (λst v d r=>r.less (g st)) (λa vs n e=>⟨λz=>n (g true a z),e⟩) (λ_ _ _ e=>e) h
theorem Yh.lv(g:∀st a,Lv F' B' G' st a->Lv F B G st a)(h:Yh K kd F B G H vs os fp):Yh K kd F' B' G' H vs os fp:=
 RoL.mono (λst v d r=>r.less (g st)) (λa vs n e=>⟨λz=>n (g true a z),e⟩) (λ_ _ _ e=>e) h
theorem RoS.less(g:∀a,G' a->G a)(h:RoS K kd F B G H v o fp):RoS K kd F B G' H v o fp:=RoS.lv (λ_ a z=>z.elim .inl λy=>.inr (g a y)) h
theorem Gw.drop:∀a,Gw [] ad a->Gw T ad a:=λ_ h=>h.elim (λz=>nomatch z) .inr
theorem Rel.trk(R:Rel K kd F B T ad as σ H)(st:Bool):∀a,Lv F B (Gw T ad) st a->H a≠none:=λa h=>by
 rcases h with(h|h)|h
 · exact R.ftr a h.2
 · exact(R.btr a h).1
 · exact(R.gtr a h).1
theorem Rel.tr(R:Rel K kd F B T ad as σ H)(lv:Option Bool):∀a,Obl F B (Gw T ad) lv a->H a≠none:=λa h=>by
 cases lv with
 |none=>exact h.elim
 |some st=>exact R.trk st a h
theorem zgr.lv{s:Option O}{x:Option (Option V)}(g:∀st a,Lv F' B' G' st a->Lv F B G st a)(h:zgr K kd F B G H s x fp):zgr K kd F' B' G' H s x fp:=by
 cases s with
 |none=>exact h
 |some o=>obtain⟨v,e,r⟩:=h;exact⟨v,e,RoS.lv g r⟩
theorem zgr.less{s:Option O}{x:Option (Option V)}(g:∀a,G' a->G a)(h:zgr K kd F B G H s x fp):zgr K kd F B G' H s x fp:=h.lv (λ_ a z=>z.elim .inl λy=>.inr (g a y))
theorem zgr.grow{s:Option O}{x:Option (Option V)}(g:Grow G H G' H')(k:∀a ∈ fp,∀u,H a=some u->H' a=some u)(h:zgr K kd F B G H s x fp):zgr K kd F B G' H' s x fp:=by
 cases s with
 |none=>exact h
 |some o=>obtain⟨v,e,r⟩:=h;exact⟨v,e,RoS.grow g k r⟩
theorem Rel.drop(R:Rel K kd F B T ad as σ H):Rel K kd F B [] ad as σ H where
 len:=R.len
 out:=R.out
 nd:=R.nd
 inj:=R.inj
 tnd:=zyH
 dis:=λ_ _ _ z=>nomatch z
 ftr:=R.ftr
 btr:=λa h=>let⟨h1,h2,h3⟩:=R.btr a h;⟨h1,h2,λz=>h3 (Gw.drop a z)⟩
 gtr:=λa h=>R.gtr a (Gw.drop a h)
 sl:=λi s e=>(R.sl i s e).less Gw.drop
theorem zlu(R:Rel K kd F B T ad as σ H)(h:RoS K kd F B (Gw T ad) H v o T):Rp K kd (Lv F B (Gw [] ad) o.str) H v o.toD:=
 Ro.rp o.str (λst v d hs r=>r.less λa z=>z.elim (λy=>.inl (y.elim (λx=>.inl ⟨hs x.1,x.2⟩) .inr)) λy=>.inr (Gw.drop a y))
  (λa n z=>n (z.elim (λy=>.inl (y.elim (λx=>.inl ⟨rfl,x.2⟩) .inr)) λy=>.inr (Gw.drop a y))) id
  (λa m z=>by
   rcases z with(z|z)|z|⟨i,z⟩
   · exact(R.gtr a (.inl m)).2 z.2
   · exact(R.btr a z).2.2 (.inl m)
   · cases z
   · exact R.dis i a z m) h
theorem v8.drop(R:Rel K kd F B T ad as σ H)(h:v8 K kd F B T ad σ H v r):v8 K kd F B [] ad σ H v r.frz:=by
 cases r with
 |ow o=>exact .lf (zlu R h)
 |bo i=>exact⟨rfl,h.2⟩
theorem v8.grow(g:Grow (Gw [] ad) H (Gw [] ad1) H1)(h:v8 K kd F B [] ad σ H v r):v8 K kd F B [] ad1 σ H1 v r:=by
 cases r with
 |ow o=>exact RoS.grow g (λ_ m=>nomatch m) h
 |bo i=>exact h
theorem zqd{vs:List V}{os:List O}{fp:List Addr}(h:Yh K kd F B G H vs os fp):os.all O.isLf=true->fp=[]:=
 RoL.ind (P:=λ_ os fp=>os.all O.isLf=true->fp=[]) (λ_=>rfl) (λh _ ih e=>by
  rw[List.all_cons,zyA]at e
  rw[ih e.2,zyC]
  cases h with
  |lf=>rfl
  |ls=>cases e.1
  |dc=>cases e.1
  |ob=>cases e.1
  |tp=>cases e.1) h
theorem zfw{st:Bool}{b:Bool}(hs:b=true->st=true):∀a,Lv F B G b a->Lv F B G st a:=λa z=>z.elim (λy=>.inl (y.elim (λx=>.inl ⟨hs x.1,x.2⟩) .inr)) .inr
theorem zgb(h:Yh K kd F B G H vs os fp)(e:os.all O.isLf=true):RpL K kd (Lv F B G (O.strs os)) H vs (O.toDs os):=by
 have:=zqd h e
 subst this
 exact RoL.rp (O.strs os) (λst v d hs r=>r.less (zfw hs)) (λa n z=>n (zfw (λ_=>rfl) a z)) id (by intro a m;cases m) h
theorem zcu(h:Yh K kd F B G H vs os fp):RpL K kd (λ_=>False) H vs (O.toDs os):=RoL.rp false (λst v d _ r=>r.less λ_ z=>z.elim) (λ_ _ z=>z) (λz=>Bool.noConfusion z) (λ_ _ z=>z) h
theorem zjA(h:RoS K kd F B G H v o fp):Rp K kd (λ_=>False) H v o.toD:=Ro.rp false (λst v d _ r=>r.less λ_ z=>z.elim) (λ_ _ z=>z) (λz=>Bool.noConfusion z) (λ_ _ z=>z) h
theorem ziI(h:RoS K kd F B G H v o []):Rp K kd (Lv F B G o.str) H v o.toD:=
 Ro.rp o.str (λst v d hs r=>r.less (zfw hs)) (λa n z=>n (zfw (λ_=>rfl) a z)) id (by intro a m;cases m) h
theorem RoS.vw(h:RoS K kd F B G H v o fp):Vw K kd (Obl F B G o.kl) H v o.toD:=by
 cases h with
 |lf h=>exact h.vw
 |ls hH r=>
  rename_i a vs' os' fp'
  show Vw K kd (Obl F B G (if os'.all O.isLf=true then some (O.strs os')else none)) H _ (.lst (O.toDs os'))
  by_cases e:os'.all O.isLf=true
  · rw[if_pos e];exact .lst (.inl (.inl hH)) (zgb r e)
  · rw[if_neg e];exact .lst (.inl (.inl hH)) (zcu r)
 |dc hH l r=>
  rename_i a ks vs' os' fp'
  show Vw K kd (Obl F B G (if os'.all O.isLf=true then some (O.strs os')else none)) H _ (.dct (ks.zip (O.toDs os')))
  by_cases e:os'.all O.isLf=true
  · rw[if_pos e];exact .dct (.inl (.inl hH)) (zff (zgb r e) l)
  · rw[if_neg e];exact .dct (.inl (.inl hH)) (zff (zcu r) l)
 |ob hc hH l r=>
  rename_i a dx C c ns vs' os' fp'
  have ec:C=kd.c c:=hc.cl_eq
  subst ec
  show Vw K kd (Obl F B G (if os'.all O.isLf=true then some (O.strs os')else none)) H _ (.ob c ns (O.toDs os'))
  by_cases e:os'.all O.isLf=true
  · rw[if_pos e];exact .ob hH l (zgb r e)
  · rw[if_neg e];exact .ob hH l (zcu r)
 |tp n hH r=>
  rename_i a vs' os'
  show Vw K kd (Obl F B G (if os'.all O.isLf=true then some (O.strs os')else none)) H _ (.tup (O.toDs os'))
  by_cases e:os'.all O.isLf=true
  · rw[if_pos e]
    have rl:=zgb r e
    exact .tup (.tup (λz=>n (zfw (λ_=>rfl) _ z)) (.inl hH) rl) (.inl (.inl hH)) rl
  · rw[if_neg e];exact .tup (.tup (λz=>z) (.inl hH) (zcu r)) (.inl (.inl hH)) (zcu r)
theorem v8.vw(R:Rel K kd F B [] ad as σ H)(h:v8 K kd F B [] ad σ H v r){d:D}{lv:Option Bool}(e:r.view as=some (d,lv)):Vw K kd (Obl F B (Gw [] ad) lv) H v d:=by
 cases r with
 |ow o=>
  cases e
  exact(ziI h).vw
 |bo i=>
  have e:(match as[i]? with|some (some o)=>some (o.toD,o.kl)|_=>none)=some (d,lv):=e
  cases k:as[i]? with
  |none=>rw[k]at e;cases e
  |some s=>
   cases s with
   |none=>rw[k]at e;cases e
   |some o=>
    rw[k]at e
    cases e
    obtain⟨w,hw,ro⟩:=R.sl i _ k
    rw[h.2]at hw
    cases hw
    exact ro.vw
theorem Rel.add{N:List Addr}(R:Rel K kd F B T ad as σ H)(hn:N.Nodup)(hl:∀a ∈ N,H a=none)(k:∀b u,H b=some u->H' b=some u)(h1:∀a ∈ N,H' a≠none):Rel K kd F B (N++T) ad as σ H'/\Grow (Gw T ad) H (Gw (N++T) ad) H':=by
 have g:Grow (Gw T ad) H (Gw (N++T) ad) H':=⟨λb u h _=>k b u h,λb h=>by
  rcases h with h|h
  · rcases zzK.mp h with h|h
    · exact .inr (hl b h)
    · exact .inl (.inl h)
  · exact .inl (.inr h)⟩
 have kn:∀a,H a≠none->H' a≠none:=λa z=>by
  cases e:H a with
  |none=>exact absurd e z
  |some u=>rw[k a u e];simp
 refine⟨⟨R.len,R.out,R.nd,R.inj, ?_,λi a m z=>?_,λa z=>kn a (R.ftr a z),λa z=>?_,λa z=>?_,λi s e=>(R.sl i s e).grow g λa _ u h=>k a u h⟩,g⟩
 · refine zxD.mpr ⟨hn,R.tnd,λa m b m' e=>?_⟩
   subst e
   exact(R.gtr a (.inl m')).1 (hl a m)
 · rcases zzK.mp z with z|z
   · exact(R.gtr a (.inr ⟨i,m⟩)).1 (hl a z)
   · exact R.dis i a m z
 · obtain⟨b1,b2,b3⟩:=R.btr a z
   refine⟨kn a b1,b2,λy=>?_⟩
   rcases y with y|y
   · rcases zzK.mp y with y|y
     · exact b1 (hl a y)
     · exact b3 (.inl y)
   · exact b3 (.inr y)
 · rcases z with z|z
   · rcases zzK.mp z with z|z
     · exact⟨h1 a z,λf=>R.ftr a f (hl a z)⟩
     · exact⟨kn a (R.gtr a (.inl z)).1,(R.gtr a (.inl z)).2⟩
   · exact⟨kn a (R.gtr a (.inr z)).1,(R.gtr a (.inr z)).2⟩
theorem Rel.more(R:Rel K kd F B T ad as σ H)(k:∀b u,H b=some u->H' b=some u):Rel K kd F B T ad as σ H'/\Grow (Gw T ad) H (Gw T ad) H':=
 R.add (N:=[]) zyH (λ_ m=>nomatch m) k (λ_ m=>nomatch m)
theorem Rel.news(R:Rel K kd F B [] ad as σ H)(hn:T'.Nodup)(hl:∀a ∈ T',H a=none)(k:∀b u,H b=some u->H' b=some u)(h1:∀a ∈ T',H' a≠none):Rel K kd F B T' ad as σ H'/\Grow (Gw [] ad) H (Gw T' ad) H':=by
 have:=R.add hn hl k h1
 rw[zyC]at this
 exact this
end
inductive R0 where
 |im (d:D)|fl (ds:List D)|fd (kvs:List (Key×D))
def RQ(K:zD)(kd:KD)(O:Addr->Prop)(H:Hp)(Q:VK):R0->Prop
 | .im d=>∀v H',(∀b o,H b=some o->H' b=some o)->Rp K kd O H' v d->Q v H'
 | .fl ds=>∀l vs H',H l=none->(∀b o,H b=some o->H' b=some o)->H' l=some (.lst vs)->RpL K kd (Un2 O (· = l)) H' vs ds->Q (.ref l) H'
 | .fd ds=>∀l vs H',H l=none->(∀b o,H b=some o->H' b=some o)->H' l=some (.dK vs)->RpM K kd (Un2 O (· = l)) H' vs ds->Q (.ref l) H'
def wrap(lv:Option Bool):R0->Option RV
 | .im d=>if(yo d||lv.isSome)=true then some (.ow (lfs (lv.getD false) d))else none
 | .fl ds=>if(ds.all yo||lv.isSome)=true then some (.ow (.nd .ls (ds.map (lfs (lv.getD false)))))else none
 | .fd kvs=>if((kvs.map (·.2)).all yo||lv.isSome)=true then some (.ow (.nd (.dc (kvs.map (·.1))) ((kvs.map (·.2)).map (lfs (lv.getD false)))))else none
theorem bS_{α β:Type}{o:Option α}{f:α->Option β}{b:β}(h:o.bind f=some b):∃a,o=some a/\f a=some b:=by
 cases o with
 |none=>cases h
 |some a=>exact⟨a,rfl,h⟩
theorem ite_some'{α:Type}{c:Prop}[Decidable c]{a:Option α}{b:α}(h:(if c then a else none)=some b):c/\a=some b:=by
 by_cases hc:c
 · rw[if_pos hc]at h;exact⟨hc,h⟩
 · rw[if_neg hc]at h;cases h
theorem yg{α:Type}{c:Prop}[Decidable c]{a b:α}(h:(if c then some a else none)=some b):c/\a=b:=by
 by_cases hc:c
 · rw[if_pos hc]at h;cases h;exact⟨hc,rfl⟩
 · rw[if_neg hc]at h;cases h
section
variable{K:zD}{kd:KD}{F B:Addr->Prop}{G:Addr->Prop}{ad:Ad}{as:AS}{σ:St}{H H':Hp}{v:V}{r:R0}{rv:RV}{Q:VK}{lv:Option Bool}
theorem zss{Ob:Addr->Prop}{d:D}(h:yo d=true\/lv.isSome=true)(hO:∀st,lv=some st->∀a,Lv F B G st a->Ob a)(rp:Rp K kd Ob H v d):Lf K kd F B G H (yo d||lv.getD false) v d:=by
 cases e:yo d with
 |true=>exact rp.flat e
 |false=>
  rw[e]at h
  cases lv with
  |none=>rcases h with h|h<;>cases h
  |some st=>exact rp.less (hO st rfl)
theorem zpr{Ob:Addr->Prop}{N:Addr->Prop}(hO:∀st,lv=some st->∀a,Lv F B G st a->Ob a){vs:List V}{ds:List D}(e:(ds.all yo||lv.isSome)=true)(h:RpL K kd Ob H vs ds):RoL (Lf K kd F B G H) N H vs (ds.map (lfs (lv.getD false))) []:=
 RpL.ind (P:=λvs ds=>(ds.all yo||lv.isSome)=true->RoL (Lf K kd F B G H) N H vs (ds.map (lfs (lv.getD false))) []) (λ_=>.nil) (λ{v d vs ds} h _ ih e=>by
  rw[List.all_cons]at e
  have e1:yo d=true\/lv.isSome=true:=by
   cases h1:lv.isSome<;>cases h2:yo d<;>simp[h1,h2]at e ⊢
  have e2:(ds.all yo||lv.isSome)=true:=by
   cases h1:lv.isSome with
   |true=>simp
   |false=>
    rw[h1,Bool.or_false,zyA]at e
    rw[Bool.or_false];exact e.2
  exact RoL.cons (.lf (zss e1 hO h)) (ih e2)) h e
theorem znX{O:Addr->Prop}{vs:List (Key×V)}{ds:List (Key×D)}(h:RpM K kd O H vs ds):vs=(ds.map (·.1)).zip (vs.map (·.2))/\RpL K kd O H (vs.map (·.2)) (ds.map (·.2)):=
 RpM.ind (P:=λvs ds=>vs=(ds.map (·.1)).zip (vs.map (·.2))/\RpL K kd O H (vs.map (·.2)) (ds.map (·.2))) ⟨rfl,.nil⟩ (λh _ ih=>by
  obtain⟨h1,h2⟩:=ih
  refine⟨?_,.cons h h2⟩
  conv=>lhs;rw[h1]
  rfl) h
theorem VM(R:Rel K kd F B [] ad as σ H)(e:wrap lv r=some rv)(q:∀v T' H',Rel K kd F B T' ad as σ H'->v8 K kd F B T' ad σ H' v rv->Grow (Gw [] ad) H (Gw T' ad) H'->Q v H'):RQ K kd (Obl F B (Gw [] ad) lv) H Q r:=by
 have hO:∀(l:List Addr) st,lv=some st->∀a,Lv F B (Gw l ad) st a->Un2 (Obl F B (Gw [] ad) lv) (· ∈ l) a:=by
  intro l st e a z
  subst e
  rcases z with z|z|z
  · exact .inl (.inl z)
  · exact .inr z
  · exact .inl (.inr (.inr z))
 cases r with
 |im d=>
  obtain⟨c,rfl⟩:=yg e
  intro v H' k rp
  obtain⟨R',g⟩:=R.more k
  refine q v [] H' R' (.lf (zss ((Bool.or_eq_true _ _).mp c) (λst e a z=>?_) rp)) g
  exact(hO [] st e a z).elim id λm=>nomatch m
 |fl ds=>
  obtain⟨c,rfl⟩:=yg e
  intro l vs H' hl k hl' rp
  obtain⟨R',g⟩:=R.news (T':=[l]) (by simp) (λa m=>by rw[zzP.mp m];exact hl) k (λa m=>by rw[zzP.mp m,hl'];simp)
  exact q _ [l] H' R' (.ls hl' (zpr (λst e a z=>(hO [l] st e a z).elim .inl λm=>.inr (zzP.mp m)) c rp)) g
 |fd ds=>
  obtain⟨c,rfl⟩:=yg e
  intro l vs H' hl k hl' rp
  obtain⟨R',g⟩:=R.news (T':=[l]) (by simp) (λa m=>by rw[zzP.mp m];exact hl) k (λa m=>by rw[zzP.mp m,hl'];simp)
  obtain⟨e1,r1⟩:=znX rp
  refine q _ [l] H' R' (.dc (vs:=vs.map (·.2)) (by rw[hl',<-e1]) (by rw[zS,zS,rp.length]) (zpr (λst e a z=>(hO [l] st e a z).elim .inl λm=>.inr (zzP.mp m)) c r1)) g
end
abbrev EF:=AS->Option (RV×AS)
def al(K:zD)(kd:KD)(f:EF):TE:=λσ H Q=>∃F B ad as r as',Rel K kd F B [] ad as σ H/\f as=some (r,as')/\
 ∀v T' ad' H',Rel K kd F B T' ad' as' σ H'->v8 K kd F B T' ad' σ H' v r->Grow (Gw [] ad) H (Gw T' ad') H'->Q v H'
@[irreducible] def AE(X:Cx)(kd:KD)(e:Expr)(f:EF):Prop:=PE X e (al X.K kd f)
theorem xF{X:Cx}{e:Expr}{t t':TE}(h:PE X e t)(k:∀σ H Q,t' σ H Q->t σ H Q):PE X e t':=λpins s σ H Q I q=>h pins s σ H Q I (k σ H Q q)
section
variable{K:zD}{kd:KD}{F B:Addr->Prop}{ad:Ad}{as as1:AS}{σ:St}{H:Hp}{r:RV}{f:EF}{P:VK}
theorem YK(R:Rel K kd F B [] ad as σ H)(e:f as=some (r,as1))(k:∀v ad1 H1,Rel K kd F B [] ad1 as1 σ H1->v8 K kd F B [] ad1 σ H1 v r.frz->Grow (Gw [] ad) H (Gw [] ad1) H1->P v H1):al K kd f σ H P:=
 ⟨F,B,ad,as,r,as1,R,e,λv T' ad' H' R' rv g=>k v ad' H' R'.drop (v8.drop R' rv) (g.trans (Grow.less Gw.drop))⟩
end
def OpD(X:Cx)(kd:KD)(f:Value->Value->Sem Value)(g:D->D->Option R0):Prop:=
 OpR X f (λx y H Q=>∃O d e r,(∀a,O a->H a≠none)/\Vw X.K kd O H x d/\Vw X.K kd O H y e/\g d e=some r/\RQ X.K kd O H Q r)
inductive VwL(K:zD)(kd:KD)(O:Addr->Prop)(H:Hp):List V->List D->Prop
 |nil:VwL K kd O H [] []
 |cons {v:V}{d:D}{vs:List V}{ds:List D}:Vw K kd O H v d->VwL K kd O H vs ds->VwL K kd O H (v::vs) (d::ds)
def CallD(X:Cx)(kd:KD)(f:Value)(g:List D->Option R0):Prop:=
 zbN X f (λxs H Q=>∃O ds r,(∀a,O a->H a≠none)/\VwL X.K kd O H xs ds/\g ds=some r/\RQ X.K kd O H Q r)
def IxD(X:Cx)(kd:KD)(g:D->D->Option R0):Prop:=
 IxR X (λx y H Q=>∃O d e r,(∀a,O a->H a≠none)/\Vw X.K kd O H x d/\Vw X.K kd O H y e/\g d e=some r/\RQ X.K kd O H Q r)
def meet:Option Bool->Option Bool->Option Bool
 |some a,some b=>some (a&&b)
 |_,_=>none
theorem Obl.meet1{F B G:Addr->Prop}{a b:Option Bool}:∀x,Obl F B G (meet a b) x->Obl F B G a x:=λx h=>by
 cases a with
 |none=>cases b<;>exact h.elim
 |some p=>
  cases b with
  |none=>exact h.elim
  |some q=>exact zfw (λz=>((zyA _ _).mp z).1) x h
theorem Obl.meet2{F B G:Addr->Prop}{a b:Option Bool}:∀x,Obl F B G (meet a b) x->Obl F B G b x:=λx h=>by
 cases a with
 |none=>cases b<;>exact h.elim
 |some p=>
  cases b with
  |none=>exact h.elim
  |some q=>exact zfw (λz=>((zyA _ _).mp z).2) x h
theorem Vw.less{K:zD}{kd:KD}{O O':Addr->Prop}{H:Hp}{v:V}{d:D}(g:∀a,O' a->O a)(h:Vw K kd O H v d):Vw K kd O' H v d:=by
 cases h with
 |non=>exact .non
 |bl b=>exact .bl b
 |int i=>exact .int i
 |str x=>exact .str x
 |tup r s l=>exact .tup (r.less g) s (l.less g)
 |lst h l=>exact .lst h (l.less g)
 |dct h l=>exact .dct h (l.less g)
 |cl c=>exact .cl c
 |ob h k l=>exact .ob h k (l.less g)
def f2(fa fb:EF)(g:D->D->Option R0):EF:=λas=>(fa as).bind λp=>(fb p.2).bind λq=>(p.1.frz.view q.2).bind λx=>(q.1.frz.view q.2).bind λy=>(g x.1 y.1).bind λr=>(wrap (meet x.2 y.2) r).bind λz=>some (z,q.2)
theorem zmy{fa fb:EF}{g:D->D->Option R0}{as as':AS}{rv:RV}(h:f2 fa fb g as=some (rv,as')):
 ∃p as1 q x y lx ly r,fa as=some (p,as1)/\fb as1=some (q,as')/\p.frz.view as'=some (x,lx)/\q.frz.view as'=some (y,ly)/\g x y=some r/\wrap (meet lx ly) r=some rv:=by
 unfold f2 at h
 obtain⟨⟨p,as1⟩,h1,h⟩:=bS_ h
 obtain⟨⟨q,as2⟩,h2,h⟩:=bS_ h
 obtain⟨⟨x,lx⟩,h3,h⟩:=bS_ h
 obtain⟨⟨y,ly⟩,h4,h⟩:=bS_ h
 obtain⟨r,h5,h⟩:=bS_ h
 obtain⟨z,h6,h⟩:=bS_ h
 cases h
 exact⟨p,as1,q,x,y,lx,ly,r,h1,h2,h3,h4,h5,h6⟩
section
variable{X:Cx}{kd:KD}{a b c:Expr}{fa fb fc:EF}{pos:Pos}
theorem al2{g:D->D->Option R0}{R2':R2}(hr:∀x y H Q,(∃O d e r,(∀a,O a->H a≠none)/\Vw X.K kd O H x d/\Vw X.K kd O H y e/\g d e=some r/\RQ X.K kd O H Q r)->R2' x y H Q)
 {σ:St}{H:Hp}{Q:VK}(h:al X.K kd (f2 fa fb g) σ H Q):tOp R2' (al X.K kd fa) (al X.K kd fb) σ H Q:=by
 obtain⟨F,B,ad,as,r,as',R,e,q⟩:=h
 obtain⟨p,as1,z,x,y,lx,ly,r0,h1,h2,h3,h4,h5,h6⟩:=zmy e
 refine YK R h1 λv ad1 H1 R1 rv1 g1=>YK R1 h2 λu ad2 H2 R2 rv2 g2=>hr _ _ _ _ ?_
 exact⟨_,x,y,r0,R2.tr _,(v8.vw R2 (rv1.grow g2) h3).less Obl.meet1,(v8.vw R2 rv2 h4).less Obl.meet2,h5,VM R2 h6 λw T' H' R' rv' g'=>q w T' ad2 H' R' rv' ((g1.trans g2).trans g')⟩
theorem zq{op:Operator}{g:D->D->Option R0}(ho:OpD X kd (binaryOp op) g)(ha:AE X kd a fa)(hb':AE X kd b fb):AE X kd (.BinOp a op b pos) (f2 fa fb g):=by with_unfolding_all exact(xF (zuF ho ha hb') λσ H Q h=>al2 (λ_ _ _ _ z=>z) h)
theorem Vm{op:CmpOp}{g:D->D->Option R0}(ho:OpD X kd (compareOp op) g)(ha:AE X kd a fa)(hb':AE X kd b fb)(hm:behindInMarks op b=false):AE X kd (.Compare a [op] [b] pos) (f2 fa fb g):=by with_unfolding_all exact(xF (zqV ho ha hb' hm) λσ H Q h=>al2 (λ_ _ _ _ z=>z) h)
theorem zuM{g:D->D->Option R0}(ho:IxD X kd g)(ha:AE X kd a fa)(hb':AE X kd b fb)(hm:zcM b):AE X kd (.Subscript a b pos) (f2 fa fb g):=by with_unfolding_all exact(xF (zqj ho ha hb' hm) λσ H Q h=>al2 (λ_ _ _ _ z=>z) h)
def fC(d:D):EF:=λas=>some (.ow (.lf true d),as)
def fV(i:Nat):EF:=λas=>match as[i]? with
 |some (some (.lf st d))=>some (.ow (.lf st d),as)
 |some (some (.nd _ _))=>some (.bo i,as)
 |_=>none
theorem ziP{v:V}{d:D}(h:PE X a (tC v))(hr:∀O H,Rp X.K kd O H v d):AE X kd a (fC d):=by with_unfolding_all exact(xF h λσ H Q h=>by
 obtain⟨F,B,ad,as,r,as',R,e,q⟩:=h
 cases e
 exact q v [] ad H R (.lf (hr _ _)) Grow.refl)
theorem ztP{i:Nat}(h:PE X a (zhg i)):AE X kd a (fV i):=by with_unfolding_all exact(xF h λσ H Q h=>by
 obtain⟨F,B,ad,as,r,as',R,e,q⟩:=h
 unfold fV at e
 cases k:as[i]? with
 |none=>rw[k]at e;cases e
 |some s=>
  rw[k]at e
  cases s with
  |none=>cases e
  |some o=>
   obtain⟨v,h1,h2⟩:=R.sl i _ k
   cases o with
   |lf st d=>
    cases e
    have e0:ad i=[]:=by
     generalize hfp:ad i=fp at h2
     cases h2
     rfl
    rw[e0]at h2
    exact⟨v,h1,q v [] ad H R h2 Grow.refl⟩
   |nd kk os=>
    cases e
    exact⟨_,h1,q _ [] ad H R ⟨rfl,h1⟩ Grow.refl⟩)
end
def Yi(ad:Ad)(i:Nat)(x:List Addr):Ad:=λj=>if j=i then x else ad j
section
variable{K:zD}{kd:KD}{F B:Addr->Prop}{T T1 T2:List Addr}{ad ad1:Ad}{as as1:AS}{σ:St}{H H1:Hp}{v:V}{r:RV}{o:O}{i:Nat}
theorem yK{x:List Addr}:Yi ad i x i=x:=if_pos rfl
theorem yL{j:Nat}{x:List Addr}(h:j≠i):Yi ad i x j=ad j:=if_neg h
theorem Xi:∀a,Gw T (Yi ad i []) a->Gw T ad a:=λa h=>by
 rcases h with h|⟨j,h⟩
 · exact .inl h
 · by_cases e:j=i
   · subst e;rw[yK]at h;cases h
   · rw[yL e]at h;exact .inr ⟨j,h⟩
theorem VD:∀a,Gw [] (Yi ad i T) a->Gw T ad a:=λa h=>by
 rcases h with h|⟨j,h⟩
 · cases h
 · by_cases e:j=i
   · subst e;rw[yK]at h;exact .inl h
   · rw[yL e]at h;exact .inr ⟨j,h⟩
theorem zmq:∀st a,Lv F (λa=>B a\/a ∈ T) (Gw [] ad) st a->Lv F B (Gw T ad) st a:=λst a z=>by
 rcases z with(z|z|z)|z
 · exact .inl (.inl z)
 · exact .inl (.inr z)
 · exact .inr (.inl z)
 · exact .inr (Gw.drop a z)
theorem zdB:∀st a,Lv F B (Gw (T1++T2) ad) st a->Lv F (λa=>B a\/a ∈ T1) (Gw T2 ad) st a:=λst a z=>by
 rcases z with(z|z)|z|z
 · exact .inl (.inl z)
 · exact .inl (.inr (.inl z))
 · rcases zzK.mp z with z|z
   · exact .inl (.inr (.inr z))
   · exact .inr (.inl z)
 · exact .inr (.inr z)
theorem Rel.hide(R:Rel K kd F B T ad as σ H):Rel K kd F (λa=>B a\/a ∈ T) [] ad as σ H where
 len:=R.len
 out:=R.out
 nd:=R.nd
 inj:=R.inj
 tnd:=zyH
 dis:=λ_ _ _ z=>nomatch z
 ftr:=R.ftr
 btr:=λa h=>by
  rcases h with h|h
  · obtain⟨h1,h2,h3⟩:=R.btr a h
    exact⟨h1,h2,λz=>h3 (Gw.drop a z)⟩
  · exact⟨(R.gtr a (.inl h)).1,(R.gtr a (.inl h)).2,λz=>z.elim (λm=>nomatch m) λ⟨j,y⟩=>R.dis j a y h⟩
 gtr:=λa h=>R.gtr a (Gw.drop a h)
 sl:=λi s e=>(R.sl i s e).lv zmq
theorem Rel.unhide(hn:T1.Nodup)(hb:∀a ∈ T1,¬B a)(R:Rel K kd F (λa=>B a\/a ∈ T1) T2 ad as σ H):Rel K kd F B (T1++T2) ad as σ H where
 len:=R.len
 out:=R.out
 nd:=R.nd
 inj:=R.inj
 tnd:=zxD.mpr ⟨hn,R.tnd,λa m b m' e=>by subst e;exact(R.btr a (.inr m)).2.2 (.inl m')⟩
 dis:=λi a m z=>by
  rcases zzK.mp z with z|z
  · exact(R.btr a (.inr z)).2.2 (.inr ⟨i,m⟩)
  · exact R.dis i a m z
 ftr:=R.ftr
 btr:=λa h=>by
  obtain⟨h1,h2,h3⟩:=R.btr a (.inl h)
  refine⟨h1,h2,λz=>?_⟩
  rcases z with z|z
  · rcases zzK.mp z with z|z
    · exact hb a z h
    · exact h3 (.inl z)
  · exact h3 (.inr z)
 gtr:=λa h=>by
  rcases h with h|h
  · rcases zzK.mp h with h|h
    · exact⟨(R.btr a (.inr h)).1,(R.btr a (.inr h)).2.1⟩
    · exact R.gtr a (.inl h)
  · exact R.gtr a (.inr h)
 sl:=λi s e=>(R.sl i s e).lv zdB
theorem Rel.frz(R:Rel K kd F B T ad as σ H)(h:as[i]? = some (some o)):
 Rel K kd F B T (Yi ad i []) (as.set i (some o.frz)) σ H/\∃v,σ[i]? = some (some v)/\Rp K kd (Lv F B (Gw T (Yi ad i [])) o.str) H v o.toD:=by
 obtain⟨v,hv,ro⟩:=R.sl i _ h
 have rp:Rp K kd (Lv F B (Gw T (Yi ad i [])) o.str) H v o.toD:=
  Ro.rp o.str (λst v d hs r=>r.less λa z=>z.elim (λy=>.inl (y.elim (λx=>.inl ⟨hs x.1,x.2⟩) .inr)) λy=>.inr (Xi a y))
   (λa n z=>n (z.elim (λy=>.inl (y.elim (λx=>.inl ⟨rfl,x.2⟩) .inr)) λy=>.inr (Xi a y))) id
   (λa m z=>by
    rcases z with(z|z)|z|⟨j,z⟩
    · exact(R.gtr a (.inr ⟨i,m⟩)).2 z.2
    · exact(R.btr a z).2.2 (.inr ⟨i,m⟩)
    · exact R.dis i a m z
    · by_cases e:j=i
      · subst e;rw[yK]at z;cases z
      · rw[yL e]at z;exact e (R.inj j i a z m)) ro
 have hi:i<as.length:=(zzE.mp h).1
 refine⟨⟨by rw[zzS];exact R.len,λj hj=>?_,λj=>?_,λj k a h1 h2=>?_,R.tnd,λj a h1=>?_,R.ftr,λa h1=>?_,λa h1=>R.gtr a (Xi a h1),λj s e=>?_⟩,v,hv,rp⟩
 · rw[zzS]at hj
   rw[yL (by omega)];exact R.out j hj
 · by_cases e:j=i
   · subst e;rw[yK];exact zyH
   · rw[yL e];exact R.nd j
 · by_cases e:j=i
   · subst e;rw[yK]at h1;cases h1
   · by_cases e':k=i
     · subst e';rw[yK]at h2;cases h2
     · rw[yL e]at h1;rw[yL e']at h2;exact R.inj j k a h1 h2
 · by_cases e:j=i
   · subst e;rw[yK]at h1;cases h1
   · rw[yL e]at h1;exact R.dis j a h1
 · obtain⟨b1,b2,b3⟩:=R.btr a h1
   exact⟨b1,b2,λz=>b3 (Xi a z)⟩
 · by_cases q:j=i
   · subst q
     rw[zyI hi]at e
     cases e
     rw[yK]
     exact⟨v,hv,.lf rp⟩
   · rw[zzW (Ne.symm q)]at e
     rw[yL q]
     exact(R.sl j s e).less Xi
theorem Rel.put(R:Rel K kd F B T ad as σ H)(hi:i<as.length)(h:RoS K kd F B (Gw T ad) H v o T):Rel K kd F B [] (Yi ad i T) (as.set i (some o)) (σ.set i (some v)) H:=by
 have hi':i<σ.length:=by rw[<-R.len];exact hi
 refine⟨by rw[zzS,zzS];exact R.len,λj hj=>?_,λj=>?_,λj k a h1 h2=>?_,zyH,(λ_ _ _ z=>nomatch z),R.ftr,λa h1=>?_,λa h1=>R.gtr a (VD a h1),λj s e=>?_⟩
 · rw[zzS]at hj
   rw[yL (by omega)];exact R.out j hj
 · by_cases e:j=i
   · subst e;rw[yK];exact R.tnd
   · rw[yL e];exact R.nd j
 · by_cases e:j=i
   · subst e
     rw[yK]at h1
     by_cases e':k=j
     · exact e'.symm
     · rw[yL e']at h2
       exact(R.dis k a h2 h1).elim
   · rw[yL e]at h1
     by_cases e':k=i
     · subst e'
       rw[yK]at h2
       exact(R.dis j a h1 h2).elim
     · rw[yL e']at h2
       exact R.inj j k a h1 h2
 · obtain⟨b1,b2,b3⟩:=R.btr a h1
   exact⟨b1,b2,λz=>b3 (VD a z)⟩
 · by_cases q:j=i
   · subst q
     rw[zyI hi]at e
     cases e
     rw[yK,zyI hi']
     exact⟨v,rfl,h.less VD⟩
   · rw[zzW (Ne.symm q)]at e
     rw[yL q,zzW (Ne.symm q)]
     exact(R.sl j s e).less VD
def toO(as:AS):RV->Option (O×AS)
 | .ow o=>some (o,as)
 | .bo i=>match as[i]? with
  |some (some o)=>some (o.frz,as.set i (some o.frz))
  |_=>none
theorem zgs{as':AS}(R:Rel K kd F B T ad as σ H)(h:v8 K kd F B T ad σ H v r)(e:toO as r=some (o,as')):∃ad',Rel K kd F B T ad' as' σ H/\RoS K kd F B (Gw T ad') H v o T/\∀a,Gw T ad' a->Gw T ad a:=by
 cases r with
 |ow o'=>cases e;exact⟨ad,R,h,λ_ z=>z⟩
 |bo i=>
  have e:(match as[i]? with|some (some o)=>some (o.frz,as.set i (some o.frz))|_=>none)=some (o,as'):=e
  cases k:as[i]? with
  |none=>rw[k]at e;cases e
  |some s=>
   cases s with
   |none=>rw[k]at e;cases e
   |some o1=>
    rw[k]at e
    cases e
    obtain⟨hT,hs⟩:=h
    subst hT
    obtain⟨R',w,hw,rp⟩:=R.frz k
    rw[hs]at hw
    cases hw
    exact⟨_,R',.lf rp,Xi⟩
end
abbrev TF:=AS->Option (Bool×AS)
def alT(K:zD)(kd:KD)(f:TF):TT:=λσ H Q=>∃F B ad as b as',Rel K kd F B [] ad as σ H/\f as=some (b,as')/\
 ∀ad' H',Rel K kd F B [] ad' as' σ H'->Grow (Gw [] ad) H (Gw [] ad') H'->Q b H'
@[irreducible] def AT(X:Cx)(kd:KD)(e:Expr)(f:TF):Prop:=PT X e (alT X.K kd f)
@[irreducible] def AW(X:Cx)(kd:KD)(e:Expr)(f:TF):Prop:=PW X e (alT X.K kd f)
def truth:D->Option Bool
 | .non=>some false
 | .bl b=>some b
 | .int i=>some (i != 0)
 | .str x=>if x.length<=sizeLine then some ((x.length:Int) != 0)else none
 | .tup ds=>some (!ds.isEmpty)
 | .lst ds=>some (!ds.isEmpty)
 |_=>none
def fT(f:EF):TF:=λas=>(f as).bind λp=>(p.1.frz.view p.2).bind λx=>(truth x.1).bind λb=>some (b,p.2)
def zcH(f g:TF):TF:=λas=>(f as).bind λp=>if p.1=true then g p.2 else some (false,p.2)
def Xq(f g:TF):TF:=λas=>(f as).bind λp=>if p.1=true then some (true,p.2)else g p.2
def Yw(f:TF):TF:=λas=>(f as).bind λp=>some (!p.1,p.2)
def fIf(c:TF)(f g:EF):EF:=λas=>(c as).bind λp=>if p.1=true then f p.2 else g p.2
def asI:D->Option Int
 | .int i=>some i
 |_=>none
def asS:D->Option Str
 | .str i=>some i
 |_=>none
def asL:D->Option (List D)
 | .lst i=>some i
 |_=>none
def asT:D->Option (List D)
 | .tup i=>some i
 |_=>none
theorem ziL{d:D}{i:List D}(e:asL d=some i):d = .lst i:=by
 cases d with
 |lst j=>cases e;rfl
 |_=>cases e
theorem zpR{d:D}{i:List D}(e:asT d=some i):d = .tup i:=by
 cases d with
 |tup j=>cases e;rfl
 |_=>cases e
theorem ziw{d:D}{c:Int}(h:asI d=some c):d = .int c:=by
 cases d with
 |int i=>cases h;rfl
 |_=>cases h
def asB:D->Option Bool
 | .bl i=>some i
 |_=>none
theorem ztQ{d:D}{c:Bool}(h:asB d=some c):d = .bl c:=by
 cases d with
 |bl i=>cases h;rfl
 |_=>cases h
def rvD:RV->Option D
 | .ow (.lf _ d)=>some d
 |_=>none
theorem zpS{r:RV}{d:D}(h:rvD r=some d):∃st,r = .ow (.lf st d):=by
 cases r with
 |bo i=>cases h
 |ow o=>
  cases o with
  |nd k os=>cases h
  |lf st d=>cases h;exact⟨st,rfl⟩
def rvB(r:RV):Option Bool:=(rvD r).bind asB
theorem zqo{r:RV}{c:Bool}(h:rvB r=some c):∃st,r = .ow (.lf st (.bl c)):=by
 obtain⟨d,h1,h⟩:=bS_ h
 cases ztQ h
 exact zpS h1
def rvI(r:RV):Option Int:=(rvD r).bind asI
theorem zlC{r:RV}{c:Int}(h:rvI r=some c):∃st,r = .ow (.lf st (.int c)):=by
 obtain⟨d,h1,h⟩:=bS_ h
 cases ziw h
 exact zpS h1
def zuh{α:Type}:List α->Option (α×α)
 | [a,b]=>some (a,b)
 |_=>none
theorem zmU{α:Type}{os:List α}{p:α×α}(h:zuh os=some p):os=[p.1,p.2]:=by
 cases os with
 |nil=>cases h
 |cons x r=>
  cases r with
  |nil=>cases h
  |cons y r=>
   cases r with
   |nil=>cases h;rfl
   |cons _ _=>cases h
def zlN(f g:EF):EF:=λas=>(f as).bind λp=>(rvB p.1).bind λc=>if c=true then g p.2 else some (.ow (.lf true (.bl false)),p.2)
def zpa(f:EF):EF:=λas=>(f as).bind λp=>(rvB p.1).bind λc=>some (.ow (.lf true (.bl (!c))),p.2)
def f1(fa:EF)(g:D->Option R0):EF:=λas=>(fa as).bind λp=>(p.1.frz.view p.2).bind λx=>(g x.1).bind λr=>(wrap x.2 r).bind λz=>some (z,p.2)
section
variable{X:Cx}{kd:KD}{a b c:Expr}{fa fb:EF}{ta tb:TF}{pos:Pos}{es rest:List Expr}
theorem zlT{e:Expr}{t t':TT}(h:PT X e t)(k:∀σ H Q,t' σ H Q->t σ H Q):PT X e t':=λpins s σ H Q I q=>h pins s σ H Q I (k σ H Q q)
theorem zqe{e:Expr}{t t':TT}(h:PW X e t)(k:∀σ H Q,t' σ H Q->t σ H Q):PW X e t':=λw pins s σ H Q I q=>h w pins s σ H Q I (k σ H Q q)
theorem ztv{O:Addr->Prop}{H:Hp}{v:V}{d:D}{k:Bool}(h:Vw X.K kd O H v d)(e:truth d=some k):zuA X.K v H k:=by
 cases h with
 |non=>cases e;rfl
 |bl b=>cases e;rfl
 |int i=>cases e;rfl
 |str x=>
  have e:(if x.length<=sizeLine then some ((x.length:Int) != 0)else none)=some k:=e
  by_cases hl:x.length<=sizeLine
  · rw[if_pos hl]at e;cases e;exact⟨hl,rfl⟩
  · rw[if_neg hl]at e;cases e
 |tup r hs hr=>
  cases e
  refine .inr (.inl ⟨_,hs, ?_⟩)
  cases hr<;>rfl
 |lst hs hr=>
  cases e
  refine .inl ⟨_,hs.sq, ?_⟩
  cases hr<;>rfl
 |dct=>cases e
 |cl=>cases e
 |ob=>cases e
theorem WY(ha:AE X kd a fa)(he:∀whole,isTrue a X.env whole=(do let v <-whole;standAt a.pos;holding [v] (truthy v))):AT X kd a (fT fa):=by with_unfolding_all exact(zlT (zoH ha he) λσ H Q h=>by
 obtain⟨F,B,ad,as,bb,as',R,e,q⟩:=h
 obtain⟨⟨p,as1⟩,h1,e⟩:=bS_ (show(fa as).bind _=_ from e)
 obtain⟨⟨d,lv⟩,h2,e⟩:=bS_ e
 obtain⟨k,h3,e⟩:=bS_ e
 cases e
 exact YK R h1 λv ad1 H1 R1 rv1 g1=>⟨_,ztv (v8.vw R1 rv1 h2) h3,q ad1 H1 R1 g1⟩)
theorem zY{op:CmpOp}{g:D->D->Option R0}(ho:OpD X kd (compareOp op) g)(hg:∀x y r,g x y=some r->∃k,r = .im (.bl k))(ha:AE X kd a fa)(hb:AE X kd b fb)(hm:behindInMarks op b=false):
 AT X kd (.Compare a [op] [b] pos) (fT (f2 fa fb g)):=by with_unfolding_all exact(zlT (zqZ ho ha hb hm) λσ H Q h=>by
 obtain⟨F,B,ad,as,bb,as',R,e,q⟩:=h
 obtain⟨⟨p,as1⟩,h1,e⟩:=bS_ (show(f2 fa fb g as).bind _=_ from e)
 obtain⟨⟨d,lv⟩,h2,e⟩:=bS_ e
 obtain⟨k,h3,e⟩:=bS_ e
 cases e
 obtain⟨_,_,_,x,y,_,_,r0,_,_,_,_,hp,hw⟩:=zmy h1
 obtain⟨k',rfl⟩:=hg _ _ _ hp
 cases hw
 cases h2
 cases h3
 refine al2 (λ_ _ _ _ z=>z) ⟨F,B,ad,as,_,_,R,h1,λv T' ad' H' R' rv g'=>?_⟩
 generalize hT:T'=T2 at rv R' g'
 cases rv with
 |lf rp=>
  cases rp
  exact⟨_,rfl,q ad' H' R' g'⟩)
theorem zaL(ha:AT X kd a ta):AT X kd (.UnaryOp .Not a pos) (Yw ta):=by with_unfolding_all exact(zlT (ztM ha) λσ H Q h=>by
 obtain⟨F,B,ad,as,bb,as',R,e,q⟩:=h
 obtain⟨⟨p,as1⟩,h1,e⟩:=bS_ (show(ta as).bind _=_ from e)
 cases e
 exact⟨F,B,ad,as,p,_,R,h1,λad' H' R' g=>q ad' H' R' g⟩)
theorem zgC(ha:AT X kd a ta):AW X kd (.BoolOp .And [a] pos) ta:=by with_unfolding_all exact(zqF ha)
theorem Xj(ha:AT X kd a ta):AW X kd (.BoolOp .Or [a] pos) ta:=by with_unfolding_all exact(ztp ha)
theorem zor(ha:AT X kd a ta)(hb:AW X kd (.BoolOp .And (b::rest) pos) tb):AW X kd (.BoolOp .And (a::b::rest) pos) (zcH ta tb):=by with_unfolding_all exact(zqe (zum ha hb) λσ H Q h=>by
 obtain⟨F,B,ad,as,bb,as',R,e,q⟩:=h
 obtain⟨⟨p,as1⟩,h1,e⟩:=bS_ (show(ta as).bind _=_ from e)
 refine⟨F,B,ad,as,p,as1,R,h1,λad' H' R' g=>?_⟩
 cases p with
 |true=>exact⟨F,B,ad',as1,bb,as',R',e,λad2 H2 R2 g2=>q ad2 H2 R2 (g.trans g2)⟩
 |false=>cases e;exact q ad' H' R' g)
theorem zcG(ha:AT X kd a ta)(hb:AW X kd (.BoolOp .Or (b::rest) pos) tb):AW X kd (.BoolOp .Or (a::b::rest) pos) (Xq ta tb):=by with_unfolding_all exact(zqe (zvd ha hb) λσ H Q h=>by
 obtain⟨F,B,ad,as,bb,as',R,e,q⟩:=h
 obtain⟨⟨p,as1⟩,h1,e⟩:=bS_ (show(ta as).bind _=_ from e)
 refine⟨F,B,ad,as,p,as1,R,h1,λad' H' R' g=>?_⟩
 cases p with
 |false=>exact⟨F,B,ad',as1,bb,as',R',e,λad2 H2 R2 g2=>q ad2 H2 R2 (g.trans g2)⟩
 |true=>cases e;exact q ad' H' R' g)
theorem AW.at_{e:Expr}(h:AW X kd e ta):AT X kd e ta:=by with_unfolding_all exact(PW.pt h)
theorem zhI(hc:AT X kd c ta)(ha:AE X kd a fa)(hb:AE X kd b fb):AE X kd (.IfExp c a b pos) (fIf ta fa fb):=by with_unfolding_all exact(xF (zpI hc ha hb) λσ H Q h=>by
 obtain⟨F,B,ad,as,r,as',R,e,q⟩:=h
 obtain⟨⟨p,as1⟩,h1,e⟩:=bS_ (show(ta as).bind _=_ from e)
 refine⟨F,B,ad,as,p,as1,R,h1,λad' H' R' g=>?_⟩
 cases p with
 |true=>exact⟨F,B,ad',as1,r,as',R',e,λv T2 ad2 H2 R2 rv g2=>q v T2 ad2 H2 R2 rv (g.trans g2)⟩
 |false=>exact⟨F,B,ad',as1,r,as',R',e,λv T2 ad2 H2 R2 rv g2=>q v T2 ad2 H2 R2 rv (g.trans g2)⟩)
theorem zsE{K:zD}{F B:Addr->Prop}{T:List Addr}{ad:Ad}{σ:St}{H:Hp}{v:V}{st c:Bool}(h:v8 K kd F B T ad σ H v (.ow (.lf st (.bl c)))):T=[]/\v = .bl c:=by
 have h:RoS K kd F B (Gw T ad) H v (.lf st (.bl c)) T:=h
 generalize hT:Gw T ad=G at h
 cases h with
 |lf rp=>cases rp;exact⟨rfl,rfl⟩
theorem zlg{op}(ha:AE X kd a fa):AE X kd (.BoolOp op [a] pos) fa:=by with_unfolding_all exact(zsP ha)
theorem zly(ha:AE X kd a fa)(hb:AE X kd (.BoolOp .And (b::rest) pos) fb):AE X kd (.BoolOp .And (a::b::rest) pos) (zlN fa fb):=by with_unfolding_all exact(xF (zul ha hb) λσ H Q h=>by
 obtain⟨F,B,ad,as,r,as',R,e,q⟩:=h
 obtain⟨⟨p,as1⟩,h1,e⟩:=bS_ (show(fa as).bind _=_ from e)
 refine⟨F,B,ad,as,p,as1,R,h1,λv T' ad' H' R' rv g=>?_⟩
 obtain⟨k,e1,e⟩:=bS_ e
 obtain⟨st,rfl⟩:=zqo e1
 obtain⟨rfl,rfl⟩:=zsE rv
 cases k with
 |true=>exact⟨true,rfl,⟨F,B,ad',as1,r,as',R',e,λv T2 ad2 H2 R2 rv g2=>q v T2 ad2 H2 R2 rv (g.trans g2)⟩⟩
 |false=>
  cases e
  exact⟨false,rfl,q _ [] ad' H' R' (.lf (.bl false)) g⟩)
theorem zoA(ha:AE X kd a fa):AE X kd (.UnaryOp .Not a pos) (zpa fa):=by with_unfolding_all exact(xF (zsL ha) λσ H Q h=>by
 obtain⟨F,B,ad,as,r,as',R,e,q⟩:=h
 obtain⟨⟨p,as1⟩,h1,e⟩:=bS_ (show(fa as).bind _=_ from e)
 refine⟨F,B,ad,as,p,as1,R,h1,λv T' ad' H' R' rv g=>?_⟩
 obtain⟨k,e1,e⟩:=bS_ e
 obtain⟨st,rfl⟩:=zqo e1
 obtain⟨rfl,rfl⟩:=zsE rv
 cases e
 exact⟨k,rfl,q _ [] ad' H' R' (.lf (.bl _)) g⟩)
end
abbrev AF:=AS->Option (List RV×AS)
inductive RVs(K:zD)(kd:KD)(F B:Addr->Prop)(ad:Ad)(σ:St)(H:Hp):List V->List RV->Prop
 |nil:RVs K kd F B ad σ H [] []
 |cons {v:V}{r:RV}{vs:List V}{rs:List RV}:v8 K kd F B [] ad σ H v r->RVs K kd F B ad σ H vs rs->RVs K kd F B ad σ H (v::vs) (r::rs)
def alA(K:zD)(kd:KD)(f:AF):TA:=λσ H Q=>∃F B ad as rs as',Rel K kd F B [] ad as σ H/\f as=some (rs,as')/\
 ∀vs ad' H',Rel K kd F B [] ad' as' σ H'->RVs K kd F B ad' σ H' vs rs->Grow (Gw [] ad) H (Gw [] ad') H'->Q vs H'
@[irreducible] def AA(X:Cx)(kd:KD)(es:List Expr)(f:AF):Prop:=PA X es (alA X.K kd f)
def aN:AF:=λas=>some ([],as)
def aC(fa:EF)(fr:AF):AF:=λas=>(fa as).bind λp=>(fr p.2).bind λq=>some (p.1.frz::q.1,q.2)
theorem ziz{X:Cx}{e:List Expr}{t t':TA}(h:PA X e t)(k:∀σ H Q,t' σ H Q->t σ H Q):PA X e t':=λpos pins s σ H Q I q=>h pos pins s σ H Q I (k σ H Q q)
abbrev DF:=AS->Option (List O×AS)
def alD(K:zD)(kd:KD)(f:DF):TA:=λσ H Q=>∃F B ad as os as',Rel K kd F B [] ad as σ H/\f as=some (os,as')/\
 ∀vs T' ad' H',Rel K kd F B T' ad' as' σ H'->Yh K kd F B (Gw T' ad') H' vs os T'->Grow (Gw [] ad) H (Gw T' ad') H'->Q vs H'
@[irreducible] def AD(X:Cx)(kd:KD)(es:List Expr)(f:DF):Prop:=PA X es (alD X.K kd f)
def dN:DF:=λas=>some ([],as)
def dC(fa:EF)(fr:DF):DF:=λas=>(fa as).bind λp=>(toO p.2 p.1).bind λx=>(fr x.2).bind λq=>some (x.1::q.1,q.2)
def views(as:AS):List RV->Option (List D×Option Bool)
 | []=>some ([],some true)
 |r::rs=>(r.view as).bind λx=>(views as rs).bind λy=>some (x.1::y.1,meet x.2 y.2)
def fP(fr:AF)(g:List D->Option R0):EF:=λas=>(fr as).bind λp=>(views p.2 p.1).bind λx=>(g x.1).bind λr=>(wrap x.2 r).bind λz=>some (z,p.2)
def zpF(as:AS):RV->Option (Bool×D)
 | .ow o=>some (yo o.toD||o.str,o.toD)
 | .bo i=>match as[i]? with
  |some (some o)=>some (false,o.toD)
  |_=>none
def Wz(as:AS):List RV->Option (List (Bool×D))
 | []=>some []
 |r::rs=>(zpF as r).bind λx=>(Wz as rs).bind λy=>some (x::y)
def zy(fr:AF)(g:List (Bool×D)->Option O):EF:=λas=>(fr as).bind λp=>(Wz p.2 p.1).bind λx=>(g x).bind λo=>some (.ow o,p.2)
def RQO(K:zD)(kd:KD)(F:Addr->Prop)(H:Hp)(Q:VK)(o:O):Prop:=
 ∀v T H',T.Nodup->(∀a ∈ T,H a=none)->(∀b u,H b=some u->H' b=some u)->(∀a ∈ T,H' a≠none)->Ro (λ_ v d=>Rp K kd (Un2 F (· ∈ T)) H' v d) (λa=>¬Un2 F (· ∈ T) a) H' v o T->Q v H'
inductive RpA(K:zD)(kd:KD)(F:Addr->Prop)(H:Hp):List V->List (Bool×D)->Prop
 |nil:RpA K kd F H [] []
 |cons {v:V}{st:Bool}{d:D}{vs:List V}{ds:List (Bool×D)}:Rp K kd (λa=>st=true/\F a) H v d->RpA K kd F H vs ds->RpA K kd F H (v::vs) ((st,d)::ds)
def spD(K:zD)(kd:KD)(g:List (Bool×D)->Option O):Sp:=λvs H Q _=>∃F ds o,(∀a,F a->H a≠none)/\RpA K kd F H vs ds/\g ds=some o/\RQO K kd F H Q o
def W8(os:List O):O:=if os.all O.isLf=true then .lf (O.strs os) (.tup (O.toDs os))else .nd .tp os
def wU(fr:DF):EF:=λas=>(fr as).bind λp=>if p.1.length<=sizeLine then some (.ow (W8 p.1),p.2)else none
def wz(fr:DF):EF:=λas=>(fr as).bind λp=>if p.1.length<=sizeLine then some (.ow (.nd .ls p.1),p.2)else none
section
variable{X:Cx}{kd:KD}{a b c:Expr}{fa fb:EF}{ta tb:TF}{pos:Pos}{es rest:List Expr}{fr:AF}{fd:DF}
theorem RpA.length{K:zD}{F:Addr->Prop}{H:Hp}{vs:List V}{ds:List (Bool×D)}(h:RpA K kd F H vs ds):vs.length=ds.length:=by
 induction h with
 |nil=>rfl
 |cons _ _ ih=>exact congrArg (· + 1) ih
theorem zm:AA X kd [] aN:=by with_unfolding_all exact(ziz ziy λσ H Q h=>by
 obtain⟨F,B,ad,as,rs,as',R,e,q⟩:=h
 cases e
 exact q [] ad H R .nil Grow.refl)
theorem zb(ha:AE X kd a fa)(hr:AA X kd es fr)(hs:starEach (a::es) X.env=(false,eval a X.env)::starEach es X.env):AA X kd (a::es) (aC fa fr):=by with_unfolding_all exact(ziz (zcr ha hr hs) λσ H Q h=>by
 obtain⟨F,B,ad,as,rs,as',R,e,q⟩:=h
 obtain⟨⟨p,as1⟩,h1,e⟩:=bS_ (show(fa as).bind _=_ from e)
 obtain⟨⟨z,as2⟩,h2,e⟩:=bS_ e
 cases e
 refine YK R h1 λv ad1 H1 R1 rv1 g1=>⟨F,B,ad1,as1,z,_,R1,h2,λvs ad2 H2 R2 rv2 g2=>?_⟩
 exact q _ ad2 H2 R2 (.cons (rv1.grow g2) rv2) (g1.trans g2))
theorem yp:AD X kd [] dN:=by with_unfolding_all exact(ziz ziy λσ H Q h=>by
 obtain⟨F,B,ad,as,rs,as',R,e,q⟩:=h
 cases e
 exact q [] [] ad H R .nil Grow.refl)
theorem zH(ha:AE X kd a fa)(hr:AD X kd es fd)(hs:starEach (a::es) X.env=(false,eval a X.env)::starEach es X.env):AD X kd (a::es) (dC fa fd):=by with_unfolding_all exact(ziz (zcr ha hr hs) λσ H Q h=>by
 obtain⟨F,B,ad,as,rs,as',R,e,q⟩:=h
 obtain⟨⟨p,as1⟩,h1,e⟩:=bS_ (show(fa as).bind _=_ from e)
 obtain⟨⟨o,as2⟩,h2,e⟩:=bS_ e
 obtain⟨⟨os,as3⟩,h3,e⟩:=bS_ e
 cases e
 refine⟨F,B,ad,as,p,as1,R,h1,λv T1 ad1 H1 R1 rv1 g1=>?_⟩
 obtain⟨ad2,R2,ro2,le2⟩:=zgs R1 rv1 h2
 refine⟨F,_,ad2,as2,os,_,R2.hide,h3,λvs T3 ad3 H3 R3 ro3 g3=>?_⟩
 have kT:∀a ∈ T1,∀u,H1 a=some u->H3 a=some u:=λa m u e=>g3.keep a u e λz=>z.elim (λy=>nomatch y) λ⟨i,y⟩=>R2.dis i a y m
 have r1:RoS X.K kd F B (Gw (T1++T3) ad3) H3 v o T1:=RoS.lv zdB (RoS.grow g3 kT (RoS.lv zmq ro2))
 have r3:Yh X.K kd F B (Gw (T1++T3) ad3) H3 vs os T3:=Yh.lv zdB ro3
 refine q _ (T1++T3) ad3 H3 (R3.unhide R2.tnd λa m z=>(R2.btr a z).2.2 (.inl m)) (.cons r1 r3) ((g1.trans (Grow.less le2)).trans ⟨λb u e n=>g3.keep b u e λz=>n (Gw.drop b z),λb z=>?_⟩)
 rcases z with z|z
 · rcases zzK.mp z with z|z
   · exact .inl (.inl z)
   · exact(g3.own b (.inl z)).elim (λy=>.inl (Gw.drop b y)) .inr
 · exact(g3.own b (.inr z)).elim (λy=>.inl (Gw.drop b y)) .inr)
theorem wZ{x1}(h:AD X kd es fd):AE X kd (.Tuple es x1 pos) (wU fd):=by with_unfolding_all exact(xF (zti h) λσ H Q h=>by
 obtain⟨F,B,ad,as,r,as',R,e,q⟩:=h
 obtain⟨⟨os,as1⟩,h1,e⟩:=bS_ (show(fd as).bind _=_ from e)
 obtain⟨hz,e⟩:=yg e
 cases e
 refine⟨F,B,ad,as,os,_,R,h1,λvs T1 ad1 H1 R1 ro1 g1=>⟨by rw[ro1.length];exact hz,λp hp=>?_⟩⟩
 have k:∀b o,H1 b=some o->upd H1 p (.tup vs) b=some o:=λb o hb=>by rw[yj (yJ hb hp)];exact hb
 obtain⟨R2,g2⟩:=R1.more k
 have ro2:=Yh.grow g2 (λa _ u h=>k a u h) ro1
 have np:∀st,¬Lv F B (Gw T1 ad1) st p:=λst z=>R1.trk st p z hp
 refine q _ T1 ad1 _ R2 ?_ (g1.trans g2)
 show RoS X.K kd F B (Gw T1 ad1) _ _ (W8 os) T1
 unfold W8
 by_cases hl:os.all O.isLf=true
 · rw[if_pos hl]
   have:=zqd ro2 hl
   subst this
   exact .lf (.tup (np _) (.inl yP) (zgb ro2 hl))
 · rw[if_neg hl]
   exact .tp (np _) yP ro2)
theorem wA(h:AD X kd es fd):AE X kd (.List es pos) (wz fd):=by with_unfolding_all exact(xF (ztN h) λσ H Q h=>by
 obtain⟨F,B,ad,as,r,as',R,e,q⟩:=h
 obtain⟨⟨os,as1⟩,h1,e⟩:=bS_ (show(fd as).bind _=_ from e)
 obtain⟨hz,e⟩:=yg e
 cases e
 refine⟨F,B,ad,as,os,_,R,h1,λvs T1 ad1 H1 R1 ro1 g1=>⟨by rw[ro1.length];exact hz,λp hp=>?_⟩⟩
 have k:∀b o,H1 b=some o->upd H1 p (.lst vs) b=some o:=λb o hb=>by rw[yj (yJ hb hp)];exact hb
 obtain⟨R2,g2⟩:=R1.add (N:=[p]) (by simp) (λa m=>by rw[zzP.mp m];exact hp) k (λa m=>by rw[zzP.mp m,yP];simp)
 exact q _ _ ad1 _ R2 (.ls yP (Yh.grow g2 (λa _ u h=>k a u h) ro1)) (g1.trans g2))
theorem VwL.less{K:zD}{O O':Addr->Prop}{H:Hp}(g:∀a,O' a->O a){vs:List V}{ds:List D}(h:VwL K kd O H vs ds):VwL K kd O' H vs ds:=by
 induction h with
 |nil=>exact .nil
 |cons h _ ih=>exact .cons (h.less g) ih
theorem zcQ{K:zD}{F B:Addr->Prop}{ad:Ad}{as:AS}{σ:St}{H:Hp}(R:Rel K kd F B [] ad as σ H){vs:List V}{rs:List RV}{ds:List D}{lv:Option Bool}(h:RVs K kd F B ad σ H vs rs)(e:views as rs=some (ds,lv)):VwL K kd (Obl F B (Gw [] ad) lv) H vs ds:=by
 induction h generalizing ds lv with
 |nil=>cases e;exact .nil
 |cons h t ih=>
  obtain⟨⟨d,l⟩,h1,e⟩:=bS_ (show(RV.view as _).bind _=_ from e)
  obtain⟨⟨ds,l2⟩,h2,e⟩:=bS_ e
  cases e
  exact .cons ((v8.vw R h h1).less Obl.meet1) ((ih h2).less Obl.meet2)
theorem alP{g:List D->Option R0}{σ:St}{H:Hp}{Q:VK}{R':List V->Hp->VK->Prop}(hr:∀vs H Q,(∃O ds r,(∀a,O a->H a≠none)/\VwL X.K kd O H vs ds/\g ds=some r/\RQ X.K kd O H Q r)->R' vs H Q)
 (h:al X.K kd (fP fr g) σ H Q):alA X.K kd fr σ H λvs H1=>R' vs H1 Q:=by
 obtain⟨F,B,ad,as,r,as',R,e,q⟩:=h
 obtain⟨⟨p,as1⟩,h1,e⟩:=bS_ (show(fr as).bind _=_ from e)
 obtain⟨⟨ds,lv⟩,h2,e⟩:=bS_ e
 obtain⟨z,h3,e⟩:=bS_ e
 obtain⟨y,h4,e⟩:=bS_ e
 cases e
 exact⟨F,B,ad,as,p,_,R,h1,λvs ad1 H1 R1 rv1 g1=>hr _ _ _ ⟨_,ds,z,R1.tr _,zcQ R1 rv1 h2,h3,VM R1 h4 λw T' H' R' rv' g'=>q w T' ad1 H' R' rv' (g1.trans g')⟩⟩
theorem zjo{K:zD}{F B:Addr->Prop}{ad:Ad}{as:AS}{σ:St}{H:Hp}(R:Rel K kd F B [] ad as σ H){vs:List V}{rs:List RV}{ds:List (Bool×D)}(h:RVs K kd F B ad σ H vs rs)(e:Wz as rs=some ds):RpA K kd (Lv F B (Gw [] ad) true) H vs ds:=by
 induction h generalizing ds with
 |nil=>cases e;exact .nil
 |cons h t ih=>
  rename_i v r vs rs
  obtain⟨⟨st,d⟩,h1,e⟩:=bS_ (show(zpF as r).bind _=_ from e)
  obtain⟨ds,h2,e⟩:=bS_ e
  cases e
  refine .cons ?_ (ih h2)
  cases r with
  |ow o=>
   cases h1
   cases hf:yo o.toD with
   |true=>exact(zjA h).flat hf
   |false=>
    refine(ziI h).less λa z=>?_
    have zs:o.str=true:=z.1
    rw[zs]
    exact z.2
  |bo i=>
   have e:(match as[i]? with|some (some o)=>some (false,o.toD)|_=>none)=some (st,d):=h1
   cases k:as[i]? with
   |none=>rw[k]at e;cases e
   |some s=>
    cases s with
    |none=>rw[k]at e;cases e
    |some o=>
     rw[k]at e
     cases e
     obtain⟨w,hw,ro⟩:=R.sl i _ k
     rw[h.2]at hw
     cases hw
     exact(zjA ro).less λa z=>nomatch z.1
theorem zlS{K:zD}{F B:Addr->Prop}{ad:Ad}{as:AS}{σ:St}{H:Hp}{Q:VK}{o:O}(R:Rel K kd F B [] ad as σ H)(q:∀v T' H',Rel K kd F B T' ad as σ H'->v8 K kd F B T' ad σ H' v (.ow o)->Grow (Gw [] ad) H (Gw T' ad) H'->Q v H'):
 RQO K kd (Lv F B (Gw [] ad) true) H Q o:=λv T H' hn hl k h1 ro=>by
 obtain⟨R',g⟩:=R.news hn hl k h1
 have le:∀st a,Lv F B (Gw T ad) st a->Un2 (Lv F B (Gw [] ad) true) (· ∈ T) a:=λst a z=>by
  rcases z with(z|z)|z|z
  · exact .inl (.inl (.inl ⟨rfl,z.2⟩))
  · exact .inl (.inl (.inr z))
  · exact .inr z
  · exact .inl (.inr (.inr z))
 exact q v T H' R' (Ro.mono (λst v d r=>r.less (le st)) (λa vs n e=>⟨λz=>n (le true a z),e⟩) (λ_ _ _ e=>e) ro) g
theorem ztn{g:List (Bool×D)->Option O}{σ:St}{H:Hp}{Q:VK}{E:XK}(h:al X.K kd (zy fr g) σ H Q):zsy (spD X.K kd g) [] E (alA X.K kd fr) σ H Q:=by
 obtain⟨F,B,ad,as,r,as',R,e,q⟩:=h
 obtain⟨⟨p,as1⟩,h1,e⟩:=bS_ (show(fr as).bind _=_ from e)
 obtain⟨ds,h2,e⟩:=bS_ e
 obtain⟨o,h3,e⟩:=bS_ e
 cases e
 refine⟨F,B,ad,as,p,_,R,h1,λvs ad1 H1 R1 rv1 g1=>?_⟩
 show spD X.K kd g (vs++[]) H1 Q E
 rw[zyC]
 exact⟨_,ds,o,R1.trk true,zjo R1 rv1 h2,h3,zlS R1 λw T' H' R' rv' g'=>q w T' ad1 H' R' rv' (g1.trans g')⟩
end
inductive Out where
 |nx (as:AS)|rt (o:O)|bk (as:AS)|ct (as:AS)
abbrev SF:=AS->Option Out
structure RetOk(K:zD)(kd:KD)(F:Addr->Prop)(T:List Addr)(H:Hp)(v:V)(o:O):Prop where
 nd:T.Nodup
 tr:∀a ∈ T,H a≠none
 ro:Ro (λ_ v d=>Rp K kd (Un2 F (· ∈ T)) H v d) (λa=>¬Un2 F (· ∈ T) a) H v o T
def zni(K:zD)(kd:KD)(F B:Addr->Prop)(ad:Ad)(H:Hp)(D:Ends):Out->Prop
 | .nx as'=>∀σ' ad' H',Rel K kd F B [] ad' as' σ' H'->Grow (Gw [] ad) H (Gw [] ad') H'->D.nx σ' H'
 | .bk as'=>∀σ' ad' H',Rel K kd F B [] ad' as' σ' H'->Grow (Gw [] ad) H (Gw [] ad') H'->D.bk σ' H'
 | .ct as'=>∀σ' ad' H',Rel K kd F B [] ad' as' σ' H'->Grow (Gw [] ad) H (Gw [] ad') H'->D.ct σ' H'
 | .rt o=>∀v T H',RetOk K kd F T H' v o->Grow (Gw [] ad) H (· ∈ T) H'->D.rt v H'
def be(K:zD)(kd:KD)(f:SF):TS:=λD σ H=>∃F B ad as o,Rel K kd F B [] ad as σ H/\f as=some o/\zni K kd F B ad H D o
@[irreducible] def ASt(X:Cx)(kd:KD)(st:Stmt)(f:SF):Prop:=PS X st (be X.K kd f)
@[irreducible] def ASs(X:Cx)(kd:KD)(st:List Stmt)(f:SF):Prop:=PSs X st (be X.K kd f)
theorem ZD{X:Cx}{e:Stmt}{t t':TS}(h:PS X e t)(k:∀D σ H,t' D σ H->t D σ H):PS X e t':=λpins s σ H D I q=>h pins s σ H D I (k D σ H q)
theorem zcy{X:Cx}{e:List Stmt}{t t':TS}(h:PSs X e t)(k:∀D σ H,t' D σ H->t D σ H):PSs X e t':=λpins s σ H D I q=>h pins s σ H D I (k D σ H q)
theorem zni.pre{K:zD}{kd:KD}{F B:Addr->Prop}{ad ad1:Ad}{H H1:Hp}{D:Ends}{o:Out}(g:Grow (Gw [] ad) H (Gw [] ad1) H1)(h:zni K kd F B ad H D o):zni K kd F B ad1 H1 D o:=by
 cases o with
 |nx as=>exact λσ' ad' H' R g'=>h σ' ad' H' R (g.trans g')
 |bk as=>exact λσ' ad' H' R g'=>h σ' ad' H' R (g.trans g')
 |ct as=>exact λσ' ad' H' R g'=>h σ' ad' H' R (g.trans g')
 |rt r=>exact λv T H' R g'=>h v T H' R (g.trans g')
def sNx:SF:=λas=>some (.nx as)
def zM(f g:SF):SF:=λas=>(f as).bind λo=>match o with | .nx as'=>g as'|o=>some o
def sIf(c:TF)(f g:SF):SF:=λas=>(c as).bind λp=>if p.1=true then f p.2 else g p.2
def wV(f:EF):SF:=λas=>(f as).bind λp=>some (.nx p.2)
def zqw(as:AS):RV->Option O
 | .ow o=>if o.str=true then some o else none
 | .bo i=>match as[i]? with
  |some (some o)=>if o.str=true then some o else none
  |_=>none
def yc(f:EF):SF:=λas=>(f as).bind λp=>(zqw p.2 p.1).bind λo=>some (.rt o)
def zW(z:Bool)(i:Nat)(f:EF):SF:=λas=>(f as).bind λp=>(toO p.2 (if z=true then p.1.frz else p.1)).bind λx=>if i<x.2.length then some (.nx (x.2.set i (some x.1)))else none
theorem Ro.strong{L:Bool->V->D->Prop}{N:Addr->Prop}{H:Hp}{v:V}{o:O}{fp:List Addr}(h:Ro L N H v o fp)(e:o.str=true):Ro (λst v d=>st=true/\L st v d) N H v o fp:=
 Ro.rec (motive_1:=λv o fp _=>o.str=true->Ro (λst v d=>st=true/\L st v d) N H v o fp) (motive_2:=λvs os fp _=>O.strs os=true->RoL (λst v d=>st=true/\L st v d) N H vs os fp)
  (λh e=>.lf ⟨e,h⟩) (λh _ r e=>.ls h (r e)) (λh l _ r e=>.dc h l (r e)) (λc h l _ r e=>.ob ⟨rfl,c⟩ h l (r e)) (λn h _ r e=>.tp n h (r e)) (λ_=>.nil) (λ_ _ h r e=>.cons (h ((zyA _ _).mp e).1) (r ((zyA _ _).mp e).2)) h e
section
variable{K:zD}{kd:KD}{F B:Addr->Prop}{T:List Addr}{ad ad1:Ad}{as as1:AS}{σ:St}{H H1:Hp}{v:V}{r:RV}{o:O}
theorem zjm{T':List Addr}(R:Rel K kd F B T ad as σ H)(hn:T'.Nodup)(hs:∀a ∈ T',Gw T ad a)(h:RoS K kd F B (Gw T ad) H v o T')(e:o.str=true):RetOk K kd F T' H v o:=by
 have le:∀a,Un2 F (· ∈ T') a->Lv F B (Gw T ad) true a:=λa z=>z.elim (λy=>.inl (.inl ⟨rfl,y⟩)) λy=>.inr (hs a y)
 exact⟨hn,λa m=>(R.gtr a (hs a m)).1,Ro.mono (λst v d r=>by obtain⟨rfl,r⟩:=r;exact r.less le) (λa vs n e=>⟨λz=>n (le a z),e⟩) (λ_ _ _ e=>e) (Ro.strong h e)⟩
theorem Rel.ret(R:Rel K kd F B T ad as σ H)(hr:v8 K kd F B T ad σ H v r)(e:zqw as r=some o):∃T',RetOk K kd F T' H v o/\∀b ∈ T',Gw T ad b:=by
 cases r with
 |ow o'=>
  obtain⟨hs,rfl⟩:=yg e
  exact⟨T,zjm R R.tnd (λa m=>.inl m) hr hs,λa m=>.inl m⟩
 |bo i=>
  have e:(match as[i]? with|some (some o)=>if o.str=true then some o else none|_=>none)=some o:=e
  cases k:as[i]? with
  |none=>rw[k]at e;cases e
  |some s=>
   cases s with
   |none=>rw[k]at e;cases e
   |some o1=>
    rw[k]at e
    obtain⟨hs,rfl⟩:=yg e
    obtain⟨w,hw,ro⟩:=R.sl i _ k
    rw[hr.2]at hw
    cases hw
    exact⟨ad i,zjm R (R.nd i) (λa m=>.inr ⟨i,m⟩) ro hs,λa m=>.inr ⟨i,m⟩⟩
end
section
variable{X:Cx}{kd:KD}{st:Stmt}{sts rest:List Stmt}{a b c e:Expr}{fa fb:EF}{ta:TF}{pos:Pos}{f g:SF}
theorem zX:ASs X kd [] sNx:=by with_unfolding_all exact(zcy znf λD σ H h=>by
 obtain⟨F,B,ad,as,o,R,e,q⟩:=h
 cases e
 exact q σ ad H R Grow.refl)
theorem zj(h1:ASt X kd st f)(h2:ASs X kd rest g):ASs X kd (st::rest) (zM f g):=by with_unfolding_all exact(zcy (zao h1 h2) λD σ H h=>by
 obtain⟨F,B,ad,as,o,R,e,q⟩:=h
 obtain⟨o1,e1,e⟩:=bS_ (show(f as).bind _=_ from e)
 refine⟨F,B,ad,as,o1,R,e1, ?_⟩
 cases o1 with
 |nx as1=>exact λσ' ad' H' R' g'=>⟨F,B,ad',as1,o,R',e,q.pre g'⟩
 |bk as1=>cases e;exact q
 |ct as1=>cases e;exact q
 |rt r=>cases e;exact q)
theorem zx(h1:ASt X kd st f):ASs X kd [st] f:=by with_unfolding_all exact(zfc h1)
def sNo:SF:=λ_=>none
theorem zvD:ASt X kd st sNo:=by with_unfolding_all exact(λpins s σ H D I h=>by obtain⟨F,B,ad,as,o,R,e,q⟩:=h;cases e)
theorem yI(hc:AT X kd c ta)(ha:ASs X kd sts f)(hb:ASs X kd rest g):ASt X kd (.If c sts rest pos) (sIf ta f g):=by with_unfolding_all exact(ZD (zsx hc ha hb) λD σ H h=>by
 obtain⟨F,B,ad,as,o,R,e,q⟩:=h
 obtain⟨⟨p,as1⟩,h1,e⟩:=bS_ (show(ta as).bind _=_ from e)
 refine⟨F,B,ad,as,p,as1,R,h1,λad' H' R' g=>?_⟩
 cases p with
 |true=>exact⟨F,B,ad',as1,o,R',e,q.pre g⟩
 |false=>exact⟨F,B,ad',as1,o,R',e,q.pre g⟩)
theorem Vj(he:AE X kd e fa)(hs:swapsWith e none pos.line X.env=pure false):ASt X kd (.Expr e pos) (wV fa):=by with_unfolding_all exact(ZD (zfg he hs) λD σ H h=>by
 obtain⟨F,B,ad,as,o,R,e,q⟩:=h
 obtain⟨⟨p,as1⟩,h1,e⟩:=bS_ (show(fa as).bind _=_ from e)
 cases e
 exact⟨F,B,ad,as,p,as1,R,h1,λv T' ad' H' R' rv g=>q σ ad' H' R'.drop (g.trans (Grow.less Gw.drop))⟩)
theorem zK(he:AE X kd e fa):ASt X kd (.Return (some e) pos) (yc fa):=by with_unfolding_all exact(ZD (zuz he) λD σ H h=>by
 obtain⟨F,B,ad,as,o,R,e,q⟩:=h
 obtain⟨⟨p,as1⟩,h1,e⟩:=bS_ (show(fa as).bind _=_ from e)
 obtain⟨r,h2,e⟩:=bS_ e
 cases e
 refine⟨F,B,ad,as,p,as1,R,h1,λv T' ad' H' R' rv g=>?_⟩
 obtain⟨T2,ro,le⟩:=R'.ret rv h2
 exact q v T2 H' ro (g.trans (Grow.less le)))
theorem zln{K:zD}{F B:Addr->Prop}{T:List Addr}{ad:Ad}{as as2:AS}{σ:St}{H:Hp}{v:V}{r:RV}{z:Bool}{o:O}{i:Nat}(R:Rel K kd F B T ad as σ H)(rv:v8 K kd F B T ad σ H v r)
 (h2:toO as (if z=true then r.frz else r)=some (o,as2)) (hl:i<as2.length):∃ad',Rel K kd F B [] ad' (as2.set i (some o)) (σ.set i (some v)) H/\∀a,Gw [] ad' a->Gw T ad a:=by
 cases z with
 |true=>
  obtain⟨ad1,R1,ro,le⟩:=zgs R.drop (v8.drop R rv) h2
  exact⟨_,R1.put hl ro,λa y=>Gw.drop a (le a (VD a y))⟩
 |false=>
  obtain⟨ad1,R1,ro,le⟩:=zgs R rv h2
  exact⟨_,R1.put hl ro,λa y=>le a (VD a y)⟩
theorem zth{z:Bool}{i:Nat}{x:Str}{pos':Pos}(hN:X.N.Nodup)(hi:X.N[i]? = some x)(hx:Loc X.env.scope x)(he:AE X kd e fa)(hs:swapsWith e (some (.Name x pos')) pos.line X.env=pure false)(hf:X.fn x=true\/X.env.scope.names.lookup x=some .local):
 ASt X kd (.Assign [.Name x pos'] e pos) (zW z i fa):=by with_unfolding_all exact(ZD (zoE hN hi hx he hs hf) λD σ H h=>by
 obtain⟨F,B,ad,as,o,R,e,q⟩:=h
 obtain⟨⟨p,as1⟩,h1,e⟩:=bS_ (show(fa as).bind _=_ from e)
 obtain⟨⟨y,as2⟩,h2,e⟩:=bS_ e
 obtain⟨hl,e⟩:=yg e
 cases e
 refine⟨F,B,ad,as,p,as1,R,h1,λv T' ad' H' R' rv g=>?_⟩
 obtain⟨ad2,R2,le⟩:=zln R' rv h2 hl
 exact q _ ad2 H' R2 (g.trans (Grow.less le)))
end
def XF(n:Nat)(ds:List (Bool×D)):AS:=ds.map (λx=>some (.lf x.1 x.2))++List.replicate (n-ds.length) none
def zwA:Out->Option O
 | .nx _=>some (.lf true .non)
 | .rt o=>some o
 |_=>none
def fnR(n m:Nat)(f:SF)(ds:List (Bool×D)):Option O:=if ds.length=m then(f (XF n ds)).bind zwA else none
theorem RpA.get{K:zD}{kd:KD}{F:Addr->Prop}{H:Hp}:∀{vs:List V}{ds:List (Bool×D)}{i:Nat}{x:Bool×D},RpA K kd F H vs ds->ds[i]? = some x->∃v,vs[i]? = some v/\Rp K kd (λa=>x.1=true/\F a) H v x.2
 |_,_,_,_,.nil,e=>by simp at e
 |_,_,0,_,.cons h _,e=>by simp at e;subst e;exact⟨_,rfl,h⟩
 |_,_,i+1,_,.cons _ r,e=>by
  obtain⟨v,h1,h2⟩:=RpA.get (i:=i) r (by simpa using e)
  exact⟨v,by simpa using h1,h2⟩
theorem znE{K:zD}{kd:KD}{F:Addr->Prop}{H:Hp}{N:List Str}{vs:List V}{ds:List (Bool×D)}(ht:∀a,F a->H a≠none)(rp:RpA K kd F H vs ds):
 Rel K kd F (λ_=>False) [] (λ_=>[]) (XF N.length ds) (L2.start N vs) H:=by
 have hl:=rp.length
 have no:∀a,¬Gw [] (λ_=>[]) a:=λa z=>z.elim (λy=>nomatch y) λ⟨_,y⟩=>nomatch y
 refine⟨by unfold XF L2.start;simp[hl],λ_ _=>rfl,λ_=>zyH,(λ_ _ _ z=>nomatch z),zyH,(λ_ _ _ z=>nomatch z),ht,(λ_ z=>z.elim),λa z=>(no a z).elim,λi s e=>?_⟩
 unfold XF at e
 unfold L2.start
 by_cases hi:i<ds.length
 · rw[zyN (by rw[zS];exact hi),zzG]at e
   obtain⟨d,hd,ea⟩:=zzV.mp e
   subst ea
   obtain⟨v,hv,rv⟩:=rp.get hd
   rw[zyN (by rw[zS,hl];exact hi),zzG,hv]
   refine⟨v,rfl,.lf (rv.less λa z=>?_)⟩
   rcases z with(z|z)|z
   · exact z
   · exact z.elim
   · exact(no a z).elim
 · rw[zyP (by rw[zS];omega)]at e
   have:=zzY e
   have ea:s=none:=(List.mem_replicate.mp this).2
   subst ea
   rfl
section
variable{P:Program}{w:World}{K:zD}{mg:Str->Option Value}{base:Heap}
theorem zqs{kd:KD}{F:Addr->Prop}{H H':Hp}{Q:VK}{o:O}{v:V}{T:List Addr}(q:RQO K kd F H Q o)(ro:RetOk K kd F T H' v o)(g:Grow (Gw [] λ_=>[]) H (· ∈ T) H'):Q v H':=by
 have no:∀a,¬Gw [] (λ_=>[]) a:=λa z=>z.elim (λy=>nomatch y) λ⟨_,y⟩=>nomatch y
 exact q v T H' ro.nd (λa m=>(g.own a m).resolve_left (no a)) (λb u h=>g.keep b u h (no b)) ro.tr ro.ro
theorem yW{kd:KD}{x qual:Str}{st:Stmt}{f:Addr}{fd:FuncData}{N ps:List Str}{k:Nat}{c:SF}(Fn:Fun K x qual st f fd)(S:FnScope N ps (zG st))
 (hb:∀(cdv:Value) (A:Around) (outer:List Env) (s:Shared) (H:Hp) (E:XK),Room k (A.deeper (envOfC qual (zG st) s.heap.objs.size f cdv))->ASs (zji CX0 P w K mg base N qual (zG st) f cdv A outer s H E).nox kd (V0 st) c):
 FnOk P w K mg base CX0 (k+1) f fd ps (spD K kd (fnR N.length ps.length c)):=by
 with_unfolding_all (
 refine Fn.ok S (λvs H Q E h=>?_) (λcdv A outer s H vs Q E hr h=>⟨_,hb cdv A outer s H E hr, ?_⟩)
 · obtain⟨F,ds,r,_,rp,e,_⟩:=h
   unfold fnR at e
   by_cases hl:ds.length=ps.length
   · rw[rp.length,hl]
   · rw[if_neg hl]at e;cases e
 · obtain⟨F,ds,r,ht,rp,e,q⟩:=h
   unfold fnR at e
   by_cases hl:ds.length=ps.length
   · rw[if_pos hl]at e
     obtain⟨o,e1,e⟩:=bS_ e
     refine⟨F,λ_=>False,λ_=>[],XF N.length ds,o,znE ht rp,e1, ?_⟩
     cases o with
     |nx as=>cases e;exact λσ' ad' H' R g=>zqs q (T:=[]) ⟨zyH,(λ_ m=>nomatch m),.lf .non⟩ (g.trans (Grow.less (λ_ z=>nomatch z)))
     |rt o=>cases e;exact λv T H' ro g=>zqs q ro g
     |bk=>cases e
     |ct=>cases e
   · rw[if_neg hl]at e;cases e)
end
abbrev It1:=Bool×D
abbrev GF:=It1->AS->Option AS
abbrev GFs:=List It1->AS->Option AS
def kids(st:Bool)(ds:List D):List It1:=ds.map λd=>(yo d||st,d)
inductive RpI(K:zD)(kd:KD)(F B G:Addr->Prop)(H:Hp):List V->List It1->Prop
 |nil:RpI K kd F B G H [] []
 |cons {v:V}{x:It1}{vs:List V}{ds:List It1}:Rp K kd (Lv F B G x.1) H v x.2->RpI K kd F B G H vs ds->RpI K kd F B G H (v::vs) (x::ds)
def alG(K:zD)(kd:KD)(S:List Nat)(g:GF):TG:=λv σ H Q=>∃F B ad as x as',Rel K kd F B [] ad as σ H/\Rp K kd (Lv F B (Gw [] ad) x.1) H v x.2/\g x as=some as'/\
 ∀σ' ad' H',Rel K kd F B [] ad' as' σ' H'->Grow (Gw [] ad) H (Gw [] ad') H'->(∀j,j ∉ S->σ'[j]? = σ[j]?)->Q σ' H'
def zwa(K:zD)(kd:KD)(S:List Nat)(g:GFs):TGs:=λvs σ H Q=>∃F B ad as ds as',Rel K kd F B [] ad as σ H/\RpI K kd F B (Gw [] ad) H vs ds/\g ds as=some as'/\
 ∀σ' ad' H',Rel K kd F B [] ad' as' σ' H'->Grow (Gw [] ad) H (Gw [] ad') H'->(∀j,j ∉ S->σ'[j]? = σ[j]?)->Q σ' H'
@[irreducible] def AG(X:Cx)(kd:KD)(tg:Expr)(S:List Nat)(g:GF):Prop:=PG X tg (alG X.K kd S g)
@[irreducible] def AGs(X:Cx)(kd:KD)(tg:List Expr)(S:List Nat)(g:GFs):Prop:=PGs X tg (zwa X.K kd S g)
theorem zug{X:Cx}{e:Expr}{t t':TG}(h:PG X e t)(k:∀v σ H Q,t' v σ H Q->t v σ H Q):PG X e t':=λpins s σ H v u Q I r q=>h pins s σ H v u Q I r (k v σ H Q q)
theorem znq{X:Cx}{e:List Expr}{t t':TGs}(h:PGs X e t)(k:∀v σ H Q,t' v σ H Q->t v σ H Q):PGs X e t':=λpins s σ H v u Q I r q=>h pins s σ H v u Q I r (k v σ H Q q)
def gN(i:Nat):GF:=λx as=>if i<as.length then some (as.set i (some (.lf x.1 x.2)))else none
def gsN:GFs:=λds as=>match ds with | []=>some as|_::_=>none
def gsC(g:GF)(gs:GFs):GFs:=λds as=>match ds with | []=>none|d::r=>(g d as).bind λas1=>gs r as1
def gT(n:Nat)(gs:GFs):GF:=λx as=>match x.2 with
 | .tup ds=>if ds.length=n then gs (kids x.1 ds) as else none
 | .lst ds=>if ds.length=n then gs (kids x.1 ds) as else none
 |_=>none
section
variable{K:zD}{kd:KD}{F B G G':Addr->Prop}{H H':Hp}
theorem RpI.length{vs:List V}{ds:List It1}(h:RpI K kd F B G H vs ds):vs.length=ds.length:=by
 induction h with
 |nil=>rfl
 |cons _ _ ih=>exact congrArg (· + 1) ih
theorem RpI.grow(g:Grow G H G' H'){vs:List V}{ds:List It1}(h:RpI K kd F B G H vs ds):RpI K kd F B G' H' vs ds:=by
 induction h with
 |nil=>exact .nil
 |cons h _ ih=>exact .cons (Rp.grow g h) ih
theorem RpI.get{vs:List V}{ds:List It1}{i:Nat}{x:It1}(h:RpI K kd F B G H vs ds)(e:ds[i]? = some x):∃v,vs[i]? = some v/\Rp K kd (Lv F B G x.1) H v x.2:=by
 induction h generalizing i with
 |nil=>simp at e
 |cons h r ih=>
  cases i with
  |zero=>simp at e;subst e;exact⟨_,rfl,h⟩
  |succ i=>
   obtain⟨v,h1,h2⟩:=ih (i:=i) (by simpa using e)
   exact⟨v,by simpa using h1,h2⟩
theorem zbo{st:Bool}{vs:List V}{ds:List D}(h:RpL K kd (Lv F B G st) H vs ds):RpI K kd F B G H vs (kids st ds):=
 RpL.ind (P:=λvs ds=>RpI K kd F B G H vs (kids st ds)) .nil (λ{v d vs ds} h _ ih=>by
  refine .cons (x:=(yo d||st,d)) ?_ ih
  cases e:yo d with
  |true=>exact h.flat e
  |false=>exact h) h
end
section
variable{prog:Program}{w:World}{A:Around}{E:Value->Shared->Prop}{s:Shared}
theorem zhE{it l:Addr}{items:Array Value}(hne:l≠it):∀(n i:Nat) (s:Shared) (Q:List Value->Shared->Prop),s.heap.IsListIter it l i->s.heap.IsList l items->i+n<=items.size->
 (∀h',h'.IsListIter it l (i+n)->Heap.SameBut it s.heap h'->Q ((items.toList.drop i).take n) {s with heap:=h'})->wpAny (model prog w) A (draw (.ref it) n) Q E s
 |0,i,s,Q,hit,_,_,hQ=>by
  show wpAny _ _ (pure []) Q E s
  exact zxF (by simpa using hQ s.heap hit (Heap.SameBut.refl ..))
 |n+1,i,s,Q,hit,ht,hle,hQ=>by
  have hlt:i<items.size:=by omega
  show wpAny _ _ (pyNext (.ref it) >>= _) Q E s
  refine zxE (wpAny_pyNext_list_item hit ht (x:=items[i]) (by simp[hlt]) λh₁ hit₁ hs₁=>?_)
  refine zxE (zxL (zhE hne n (i+1) _ _ hit₁ (ht.extBut hs₁.extBut hne) (by omega) λh₂ hit₂ hs₂=>zxF ?_))
  have hd:items.toList.drop i=items[i]::items.toList.drop (i+1):=by simp[zyO,hlt]
  have:=hQ h₂ (by rw[show i+(n+1)=i+1+n by omega];exact hit₂) (hs₁.trans hs₂)
  rw[hd,List.take_succ_cons]at this
  exact this
theorem zkV{l:Addr}{items:Array Value}{targets:List (Bool×(Value->Sem Unit))}{Q:Unit->Shared->Prop}(hh:A.handled=none)(ht:s.heap.IsList l items)
 (hn:targets.length=items.size) (hstar:targets.findIdx? (·.1)=none)
 (h:∀h',Heap.ExtBut s.heap.objs.size s.heap h'->wpAny (model prog w) A (assignInOrder (targets.map (·.2)) items.toList) Q E {s with heap:=h'}):
 wpAny (model prog w) A (unpack (.ref l) targets) Q E s:=by
 unfold unpack
 rw[hn,hstar]
 refine zxE (zxL ?_)
 have hlt:l≠s.heap.objs.size:=by obtain⟨o,ho,_⟩:=ht;exact zzO (zxH ho)
 unfold unpackItems
 refine zxE ?_
 unfold notIterableAtAll
 refine zxE (wpAny_specialOf ht.typeIs PySem.F.slot_list_iter.lookup ?_)
 refine zxF ?_
 simp only[Bool.false_eq_true,if_false]
 refine zxE (zxL (wpAny_pyIter_list ht ?_))
 refine zxE (zxL (zhE hlt items.size 0 _ _ ⟨_,zxI _ rfl,rfl,rfl⟩ (ht.push _) (by omega) λh₁ hit₁ hs₁=>?_))
 have hall:List.take items.size (List.drop 0 items.toList)=items.toList:=by
  rw[List.drop_zero];exact List.take_of_length_le (by simp)
 rw[hall]
 rw[if_neg (by simp)]
 have ht₁:h₁.IsList l items:=(ht.push _).extBut hs₁.extBut hlt
 refine zxE (zxL (wpAny_pyNext_list_end hh hit₁ ht₁ (by simp) λh₂ he₂=>?_))
 simp only[Option.isSome_none,Bool.false_eq_true,if_false]
 exact zxF (h h₂ λb o hb e=>he₂ b o hb (hs₁.extBut b o hb (zxG _ e)))
end
section
variable{X:Cx}{kd:KD}{a b c e tg iter:Expr}{es:List Expr}{body:List Stmt}{fa fb:EF}{pos:Pos}{g:GF}{gs:GFs}{f:SF}{ta:TF}{S S1 S2:List Nat}
def zwj(K:zD)(n:Nat)(t:TGs):TG:=λv σ H Q=>∃a xs,v = .ref a/\SqL K H a xs/\xs.length=n/\t xs σ H Q
theorem zot{es:List Expr}{k:Nat}{t:TGs}{n:Nat}(hc:X.calm=true)(h:PGs X es t)(hn:(assignEach es X.env).length=n)(hst:(assignEach es X.env).findIdx? (·.1)=none):PG X (.Tuple es k pos) (zwj X.K n t):=by
 intro pins s σ H v u Q I r hw
 obtain⟨a,xs,e1,hq,hl,hw⟩:=hw
 subst e1
 cases r
 obtain⟨its,rv,ht,hz⟩:=I.list hq
 rw[assign_Tuple]
 refine zxE (wpAny_standAt (zkV (I.ok.hd hc) ht.isList (by simp[hn,<-hl,rv.length]) hst λh' hx=>?_))
 have I1:Inv X pins σ H {s with heap:=h'}:=I.kept (t':=s.toks) λb o e=>hx b o (zzO (zxH e)) e
 exact h pins _ σ H xs _ Q I1 (by simpa using rv) hw
theorem zrm{i:Nat}{x:Str}(hN:X.N.Nodup)(hi:X.N[i]? = some x)(hx:Loc X.env.scope x)(hf:X.fn x=true\/X.env.scope.names.lookup x=some .local):AG X kd (.Name x pos) [i] (gN i):=by with_unfolding_all exact(zug (zrW hN hi hx hf) λv σ H Q h=>by
 obtain⟨F,B,ad,as,y,as',R,rp,e,q⟩:=h
 obtain⟨hl,e⟩:=yg e
 cases e
 exact q _ _ H (R.put hl (o:=.lf y.1 y.2) (.lf rp)) (Grow.less VD) λj hj=>zzW (λz=>hj (by rw[z];simp)))
theorem zeY:AGs X kd [] [] gsN:=by with_unfolding_all exact(znq zrq λvs σ H Q h=>by
 obtain⟨F,B,ad,as,ds,as',R,rp,e,q⟩:=h
 cases rp with
 |nil=>cases e;exact⟨rfl,q σ ad H R Grow.refl λ_ _=>rfl⟩
 |cons=>cases e)
theorem Yy(h1:AG X kd a S1 g)(h2:AGs X kd es S2 gs)(hs:(assignEach (a::es) X.env).map (·.2)=assign a X.env::(assignEach es X.env).map (·.2)):AGs X kd (a::es) (S1++S2) (gsC g gs):=by with_unfolding_all exact(znq (zqv h1 h2 hs) λvs σ H Q h=>by
 obtain⟨F,B,ad,as,ds,as',R,rp,e,q⟩:=h
 cases rp with
 |nil=>cases e
 |cons r rr=>
  obtain⟨as1,e1,e⟩:=bS_ (show(g _ as).bind _=_ from e)
  refine⟨_,_,rfl,F,B,ad,as,_,as1,R,r,e1,λσ' ad' H' R' g' k'=>?_⟩
  exact⟨F,B,ad',as1,_,as',R',rr.grow g',e,λσ2 ad2 H2 R2 g2 k2=>q σ2 ad2 H2 R2 (g'.trans g2) λj hj=>(k2 j λz=>hj (zzJ _ z)).trans (k' j λz=>hj (zzN _ z))⟩)
theorem zje{k n:Nat}(hc:X.calm=true)(h:AGs X kd es S gs)(hn:(assignEach es X.env).length=n)(hst:(assignEach es X.env).findIdx? (·.1)=none):AG X kd (.Tuple es k pos) S (gT n gs):=by
 with_unfolding_all (
 intro pins s σ H v u Q I r hw
 obtain⟨F,B,ad,as,⟨st,d⟩,as',R,rp,e,q⟩:=hw
 cases d with
 |tup ds=>
  have e:(if ds.length=n then gs (kids st ds) as else none)=some as':=e
  by_cases hl:ds.length=n
  · rw[if_pos hl]at e
    have go:∃a xs,v = .ref a/\SqT X.K H a xs/\RpL X.K kd (Lv F B (Gw [] ad) st) H xs ds:=by
     cases rp with
     |tup n h r=>exact⟨_,_,rfl,.inl h,r⟩
     |tupK a b c e f r=>exact⟨_,_,rfl,.inr ⟨_,_,_,a,b,c,e,f⟩,r⟩
    obtain⟨a,xs,rfl,hs,rl⟩:=go
    exact ztV hc h hn hst pins s σ H _ u Q I r ⟨a,xs,rfl,hs,by rw[rl.length,hl],F,B,ad,as,_,as',R,zbo rl,e,q⟩
  · rw[if_neg hl]at e;cases e
 |lst ds=>
  have e:(if ds.length=n then gs (kids st ds) as else none)=some as':=e
  by_cases hl:ds.length=n
  · rw[if_pos hl]at e
    cases rp with
    |lstK a b c r'=>exact zot hc h hn hst pins s σ H _ u Q I r ⟨_,_,rfl,.inr ⟨_,_,_,a,rfl,rfl,rfl,b,c⟩,by rw[r'.length,hl],F,B,ad,as,_,as',R,zbo r',e,q⟩
    |lst n h' r'=>exact zot hc h hn hst pins s σ H _ u Q I r ⟨_,_,rfl,.inl h',by rw[r'.length,hl],F,B,ad,as,_,as',R,zbo r',e,q⟩
  · rw[if_neg hl]at e;cases e
 |_=>cases e)
def ziW(as:AS)(r:RV):Option (It1×AS):=(toO as r.frz).bind λx=>match x.1 with | .lf st d=>some ((st,d),x.2)|_=>none
theorem zdm{K:zD}{F B:Addr->Prop}{T:List Addr}{ad:Ad}{as as':AS}{σ:St}{H:Hp}{v:V}{r:RV}{x:It1}(R:Rel K kd F B T ad as σ H)(h:v8 K kd F B T ad σ H v r)(e:ziW as r=some (x,as')):
 ∃ad',Rel K kd F B [] ad' as' σ H/\Rp K kd (Lv F B (Gw [] ad') x.1) H v x.2/\∀a,Gw [] ad' a->Gw T ad a:=by
 obtain⟨⟨o,as1⟩,h1,e⟩:=bS_ e
 obtain⟨ad1,R1,ro,le⟩:=zgs R.drop (v8.drop R h) h1
 cases o with
 |lf st d=>
  cases e
  refine⟨ad1,R1, ?_,λa y=>Gw.drop a (le a y)⟩
  have:=ziI ro
  exact this
 |nd k os=>cases e
structure ItOk(K:zD)(kd:KD)(F B:Addr->Prop)(ad:Ad)(H:Hp)(J:It)(ds:List It1):Prop where
 all:∀(ad2:Ad) (H2:Hp),Grow (Gw [] ad) H (Gw [] ad2) H2->(∀st a,Lv F B (Gw [] ad2) st a->H2 a≠none)->∀i,(i<ds.length->J.go i H2)/\(ds.length<=i->J.stop i H2)/\
  ∀v H3,J.yld i H2 v H3->(∀b o,H2 b=some o->H3 b=some o)/\∀x,ds[i]? = some x->Rp K kd (Lv F B (Gw [] ad2) x.1) H3 v x.2
abbrev IF:=AS->Option (List It1×AS)
def alI(K:zD)(kd:KD)(f:IF):TI:=λσ H R=>∃F B ad as ds as',Rel K kd F B [] ad as σ H/\f as=some (ds,as')/\
 ∀J ad' H',Rel K kd F B [] ad' as' σ H'->Grow (Gw [] ad) H (Gw [] ad') H'->ItOk K kd F B ad' H' J ds->R J H'
@[irreducible] def AI(X:Cx)(kd:KD)(tg iter:Expr)(f:IF):Prop:=PI X tg iter (alI X.K kd f)
def forL(g:GF)(f:SF):List It1->AS->Option Out
 | [],as=>some (.nx as)
 |d::r,as=>(g d as).bind λas1=>(f as1).bind λo=>match o with
  | .nx as'=>forL g f r as'
  | .ct as'=>forL g f r as'
  | .bk as'=>some (.nx as')
  | .rt r=>some (.rt r)
def vh(fi:IF)(g:GF)(f:SF):SF:=λas=>(fi as).bind λp=>forL g f p.1 p.2
theorem vH{fi:IF}(hp:PassesOwn (model X.prog X.w) X.A X.env X.xe)(hc:X.calm=true)(hi:AI X kd tg iter fi)(hg:AG X kd tg S g)(hb:ASs X kd body f)(hs:∀x,foldedSetIterable iter X.env x=pure x):
 ASt X kd (.For tg iter body [] pos) (vh fi g f):=by with_unfolding_all exact(ZD (zqn hp hc hi hg hb hs) λD σ H h=>by
 obtain⟨F,B,ad,as,o,R,e,q⟩:=h
 obtain⟨⟨ds,as1⟩,h1,e⟩:=bS_ (show(fi as).bind _=_ from e)
 refine⟨F,B,ad,as,ds,as1,R,h1,λJ ad1 H1 R1 g1 it=>?_⟩
 refine⟨λi m σ2 H2=>m+i=ds.length/\∃ad2 as2,Rel X.K kd F B [] ad2 as2 σ2 H2/\Grow (Gw [] ad1) H1 (Gw [] ad2) H2/\forL g f (ds.drop i) as2=some o,⟨ds.length,rfl,ad1,as1,R1,Grow.refl,e⟩, ?_⟩
 rintro i m σ2 H2 ⟨hm,ad2,as2,R2,g2,e2⟩
 obtain⟨k1,k2,k3⟩:=it.all ad2 H2 g2 R2.trk i
 by_cases hi:i<ds.length
 · refine .inr ⟨k1 hi,λσ3 H3=>∃ad3 as3,Rel X.K kd F B [] ad3 as3 σ3 H3/\Grow (Gw [] ad1) H1 (Gw [] ad3) H3/\forL g f (ds.drop (i+1)) as3=some o,λσ3 H3 ⟨ad3,as3,R3,g3,e3⟩=>⟨m-1,by omega,by omega,ad3,as3,R3,g3,e3⟩,λv H3 hy=>?_⟩
   obtain⟨kp,rp⟩:=k3 v H3 hy
   rw[zyO hi]at e2
   obtain⟨as3,e3,e2⟩:=bS_ (show(g _ as2).bind _=_ from e2)
   obtain⟨o3,e4,e2⟩:=bS_ e2
   obtain⟨R3,g3⟩:=R2.more kp
   refine⟨F,B,ad2,as2,_,as3,R3,rp _ (zzC hi),e3,λσ4 ad4 H4 R4 g4 _=>?_⟩
   refine⟨F,B,ad4,as3,o3,R4,e4, ?_⟩
   have gg:=(g2.trans g3).trans g4
   cases o3 with
   |nx as5=>exact λσ5 ad5 H5 R5 g5=>⟨ad5,as5,R5,gg.trans g5,e2⟩
   |ct as5=>exact λσ5 ad5 H5 R5 g5=>⟨ad5,as5,R5,gg.trans g5,e2⟩
   |bk as5=>
    cases e2
    exact λσ5 ad5 H5 R5 g5=>q σ5 ad5 H5 R5 (g1.trans (gg.trans g5))
   |rt r=>
    cases e2
    exact λv T H5 ro g5=>q v T H5 ro (g1.trans (gg.trans g5))
 · refine .inl ⟨k2 (by omega), ?_⟩
   rw[List.drop_eq_nil_of_le (by omega)]at e2
   cases e2
   exact q σ2 ad2 H2 R2 (g1.trans g2))
def ziq:It1->Option (List It1)
 |(st,.lst ds)=>some (kids st ds)
 |(st,.tup ds)=>some (kids st ds)
 |_=>none
def zgZ(f:EF):IF:=λas=>(f as).bind λp=>(ziW p.2 p.1).bind λq=>(ziq q.1).bind λds=>some (ds,q.2)
theorem zne{K:zD}{F B:Addr->Prop}{ad:Ad}{H:Hp}{a:Addr}{vs:List V}{ds:List It1}(hs:∀(ad3:Ad) (H3:Hp),Grow (Gw [] ad) H (Gw [] ad3) H3->SqL K H3 a vs)(r:RpI K kd F B (Gw [] ad) H vs ds):ItOk K kd F B ad H (Itl K a) ds:=⟨λad3 H3 g3 _ i=>by
 have hr3:=hs ad3 H3 g3
 have rl3:=r.grow g3
 refine⟨λhi=>?_,λhi=>⟨_,hr3,by rw[r.length];exact hi⟩,λv H4 hy=>?_⟩
 · obtain⟨u,hu,_⟩:=r.get (zzC hi)
   exact⟨_,u,hr3,hu⟩
 · obtain⟨rfl,hv⟩:=hy
   refine⟨λ_ _ z=>z,λd hd=>?_⟩
   obtain⟨u,hu,ru⟩:=rl3.get hd
   have:=hv _ hr3
   rw[hu]at this
   cases this
   exact ru⟩
theorem zsS{K:zD}{F B:Addr->Prop}{ad:Ad}{H:Hp}{a:Addr}{vs:List V}{ds:List It1}(hs:∀(ad3:Ad) (H3:Hp),Grow (Gw [] ad) H (Gw [] ad3) H3->SqT K H3 a vs)(r:RpI K kd F B (Gw [] ad) H vs ds):ItOk K kd F B ad H (Itt K a) ds:=⟨λad3 H3 g3 _ i=>by
 have hr3:=hs ad3 H3 g3
 have rl3:=r.grow g3
 refine⟨λhi=>?_,λhi=>⟨_,hr3,by rw[r.length];exact hi⟩,λv H4 hy=>?_⟩
 · obtain⟨u,hu,_⟩:=r.get (zzC hi)
   exact⟨_,u,hr3,hu⟩
 · obtain⟨rfl,hv⟩:=hy
   refine⟨λ_ _ z=>z,λd hd=>?_⟩
   obtain⟨u,hu,ru⟩:=rl3.get hd
   have:=hv _ hr3
   rw[hu]at this
   cases this
   exact ru⟩
theorem zlz(he:AE X kd e fa):AI X kd tg e (zgZ fa):=by
 with_unfolding_all (
 intro pins s σ H R I h
 obtain⟨F,B,ad,as,ds,as',Rl,e,q⟩:=h
 obtain⟨⟨p,as1⟩,h1,e⟩:=bS_ (show(fa as).bind _=_ from e)
 obtain⟨⟨⟨st,x⟩,as2⟩,h2,e⟩:=bS_ e
 obtain⟨ys,h3,e⟩:=bS_ e
 cases e
 cases x with
 |lst xs=>
  cases h3
  refine zix he pins s σ H R I ⟨F,B,ad,as,p,as1,Rl,h1,λv T1 ad1 H1 R1 rv1 g1=>?_⟩
  obtain⟨ad2,R2,rp,le⟩:=zdm R1 rv1 h2
  cases rp with
  |lst hn hr rl=>exact⟨_,rfl,⟨_,.inl hr⟩,q _ ad2 H1 R2 (g1.trans (Grow.less le)) (zne (λad3 H3 g3=>.inl (zbh g3 (λz=>hn (.inr z)) hr)) (zbo rl))⟩
  |lstK a b c rl=>exact⟨_,rfl,⟨_,.inr ⟨_,_,_,a,rfl,rfl,rfl,b,c⟩⟩,q _ ad2 H1 R2 (g1.trans (Grow.less le)) (zne (λad3 H3 g3=>.inr ⟨_,_,_,a,rfl,rfl,rfl,b,c⟩) (zbo rl))⟩
 |tup xs=>
  cases h3
  refine zlJ he pins s σ H R I ⟨F,B,ad,as,p,as1,Rl,h1,λv T1 ad1 H1 R1 rv1 g1=>?_⟩
  obtain⟨ad2,R2,rp,le⟩:=zdm R1 rv1 h2
  have go:∃a ys,v = .ref a/\(∀(ad3:Ad) (H3:Hp),Grow (Gw [] ad2) H1 (Gw [] ad3) H3->SqT X.K H3 a ys)/\RpL X.K kd (Lv F B (Gw [] ad2) st) H1 ys xs:=by
   cases rp with
   |tup n h r=>exact⟨_,_,rfl,λad3 H3 g3=>.inl (zbh g3 (λz=>n (.inr z)) h),r⟩
   |tupK a b c e f r=>exact⟨_,_,rfl,λad3 H3 g3=>.inr ⟨_,_,_,a,b,c,e,f⟩,r⟩
  obtain⟨a,ys,rfl,hs,rl⟩:=go
  exact⟨_,rfl,⟨_,hs ad2 H1 Grow.refl⟩,q _ ad2 H1 R2 (g1.trans (Grow.less le)) (zsS hs (zbo rl))⟩
 |_=>cases h3)
def wD(lo:Int)(n:Nat):List It1:=(List.range n).map λ(i:Nat)=>(true,D.int (lo+(i:Int)))
theorem zsT{K:zD}{F B:Addr->Prop}{ad:Ad}{H:Hp}(lo:Int)(n:Nat):ItOk K kd F B ad H (Itr lo n) (wD lo n):=⟨λad2 H2 g _ i=>by
 have hl:(wD lo n).length=n:=by unfold wD;simp
 refine⟨λhi=>by rw[hl]at hi;exact hi,λhi=>by rw[hl]at hi;exact hi,λv H3 hy=>?_⟩
 obtain⟨rfl,rfl⟩:=hy
 refine⟨λ_ _ z=>z,λd hd=>?_⟩
 have hi:i<n:=by rw[<-hl];exact(zzE.mp hd).1
 unfold wD at hd
 rw[zzG,List.getElem?_range hi]at hd
 cases hd
 exact .int _⟩
def zvz:List D->Option D
 | [x]=>some x
 |_=>none
theorem zqB{ds:List D}{d:D}(h:zvz ds=some d):ds=[d]:=by
 cases ds with
 |nil=>cases h
 |cons x r=>
  cases r with
  |nil=>cases h;rfl
  |cons _ _=>cases h
def xO(ds:List D):Option (List It1):=((zvz ds).bind asI).bind λj=>if -(2 ^ 62)<=j/\j<2 ^ 62 then some (wD 0 j.toNat)else none
theorem zmM{ds:List D}{xs:List It1}(h:xO ds=some xs):∃j,ds=[.int j]/\(if -(2 ^ 62)<=j/\j<2 ^ 62 then some (wD 0 j.toNat)else none)=some xs:=by
 obtain⟨j,h1,h⟩:=bS_ h
 obtain⟨d,h2,h1⟩:=bS_ h1
 cases ziw h1
 exact⟨j,zqB h2,h⟩
def xR(fr:AF)(h:List D->Option (List It1)):IF:=λas=>(fr as).bind λp=>(views p.2 p.1).bind λds=>(h ds.1).bind λxs=>some (xs,p.2)
theorem xj{fr:AF}{p:Pos}(hg:Gl X "range")(hm:X.mg "range"=none)(ha:AA X kd [a] fr)(hs:starEach [a] X.env=[(false,eval a X.env)]):AI X kd tg (.Call (.Name "range" p) [a] [] pos) (xR fr xO):=by
 with_unfolding_all (
 intro pins s σ H R I h
 obtain⟨F,B,ad,as,ds,as',Rl,e,q⟩:=h
 obtain⟨⟨ps,as1⟩,h1,e⟩:=bS_ (show(fr as).bind _=_ from e)
 obtain⟨⟨xs,lv⟩,h2,e⟩:=bS_ e
 obtain⟨ys,h3,e⟩:=bS_ e
 cases e
 obtain⟨j,rfl,h3⟩:=zmM h3
 · obtain⟨hj,e3⟩:=yg h3
   cases e3
   refine zhK hg hm ha hs pins s σ H R I ⟨F,B,ad,as,ps,_,Rl,h1,λvs ad1 H1 R1 rv1 g1=>?_⟩
   have vl:=zcQ R1 rv1 h2
   cases vl with
   |cons v1 v2=>
    cases v2
    cases v1
    exact⟨j,rfl,hj.1,hj.2,q _ ad1 H1 R1 g1 (zsT 0 _)⟩)
theorem Rel.mut{K:zD}{F B:Addr->Prop}{T fo:List Addr}{ad:Ad}{as:AS}{σ:St}{H:Hp}{i:Nat}{l:Addr}{fp fp':List Addr}{n:O}{u:HO}(R:Rel K kd F B T ad as σ H)(hi:i<as.length)(hl:ad i=l::fp)(hs:σ[i]? = some (some (.ref l)))
 (hsub:∀a ∈ fp'++fo,a ∈ fp++T) (hnd:(fp'++fo).Nodup) (hu:H l≠none)
 (ro:∀(H':Hp) (G':Addr->Prop),H' l=some u->Grow (Gw T ad) H G' H'->(∀a ∈ fp',∀w,H a=some w->H' a=some w)->RoS K kd F B G' H' (.ref l) n (l::fp')):
 Rel K kd F B fo (Yi ad i (l::fp')) (as.set i (some n)) σ (upd H l u)/\Grow (Gw T ad) H (Gw fo (Yi ad i (l::fp'))) (upd H l u):=by
 have hli:l ∈ ad i:=by rw[hl];exact zzD
 have lT:l ∉ T:=R.dis i l hli
 have lfp:l ∉ fp:=by have:=R.nd i;rw[hl]at this;exact(zzU.mp this).1
 have lsub:∀a ∈ fp'++fo,a≠l:=λa m e=>by
  subst e
  rcases zzK.mp (hsub _ m)with z|z
  · exact lfp z
  · exact lT z
 have sub:∀a ∈ fp'++fo,Gw T ad a:=λa m=>by
  rcases zzK.mp (hsub a m)with z|z
  · exact .inr ⟨i,by rw[hl];exact zzB _ z⟩
  · exact .inl z
 have gsub:∀a,Gw fo (Yi ad i (l::fp')) a->Gw T ad a:=λa z=>by
  rcases z with z|⟨j,z⟩
  · exact sub a (zzJ _ z)
  · by_cases e:j=i
    · subst e
      rw[yK]at z
      rcases zzA.mp z with z|z
      · subst z;exact .inr ⟨j,hli⟩
      · exact sub a (zzN _ z)
    · rw[yL e]at z;exact .inr ⟨j,z⟩
 have g:Grow (Gw T ad) H (Gw fo (Yi ad i (l::fp'))) (upd H l u):=⟨λb w h n=>by rw[yj (λe=>n (by subst e;exact .inr ⟨i,hli⟩))];exact h,λb z=>.inl (gsub b z)⟩
 have kn:∀a,H a≠none->upd H l u a≠none:=λa z=>by
  by_cases e:a=l
  · subst e;rw[yP];simp
  · rw[yj e];exact z
 obtain⟨hnd1,hnd2,hnd3⟩:=zxD.mp hnd
 have inT:∀j a,j≠i->a ∈ ad j->a ∈ fp'++fo->False:=λj a hj m m'=>by
  rcases zzK.mp (hsub a m')with z|z
  · exact hj (R.inj j i a m (by rw[hl];exact zzB _ z))
  · exact R.dis j a m z
 refine⟨⟨by rw[zzS];exact R.len,λj hj=>?_,λj=>?_,λj k a h1 h2=>?_,hnd2,λj a h1 h2=>?_,λa z=>kn a (R.ftr a z),λa z=>?_,λa z=>⟨kn a (R.gtr a (gsub a z)).1,(R.gtr a (gsub a z)).2⟩,λj s e=>?_⟩,g⟩
 · rw[zzS]at hj
   rw[yL (by omega)];exact R.out j hj
 · by_cases e:j=i
   · subst e;rw[yK]
     exact zzU.mpr ⟨λm=>lsub l (zzN _ m) rfl,hnd1⟩
   · rw[yL e];exact R.nd j
 · by_cases e:j=i
   · subst e
     by_cases e':k=j
     · exact e'.symm
     · rw[yK]at h1
       rw[yL e']at h2
       rcases zzA.mp h1 with z|z
       · subst z;exact R.inj j k a hli h2
       · exact(inT k a e' h2 (zzN _ z)).elim
   · rw[yL e]at h1
     by_cases e':k=i
     · subst e'
       rw[yK]at h2
       rcases zzA.mp h2 with z|z
       · subst z;exact R.inj j k a h1 hli
       · exact(inT j a e h1 (zzN _ z)).elim
     · rw[yL e']at h2
       exact R.inj j k a h1 h2
 · by_cases e:j=i
   · subst e
     rw[yK]at h1
     rcases zzA.mp h1 with z|z
     · subst z;exact lsub a (zzJ _ h2) rfl
     · exact hnd3 a z a h2 rfl
   · rw[yL e]at h1
     exact inT j a e h1 (zzJ _ h2)
 · obtain⟨b1,b2,b3⟩:=R.btr a z
   exact⟨kn a b1,b2,λy=>b3 (gsub a y)⟩
 · by_cases q:j=i
   · subst q
     rw[zyI hi]at e
     cases e
     rw[yK]
     refine⟨_,hs,ro _ _ yP g λa m w h=>?_⟩
     rw[yj (lsub a (zzN _ m))];exact h
   · rw[zzW (Ne.symm q)]at e
     rw[yL q]
     refine(R.sl j s e).grow g λa m w h=>?_
     rw[yj (λz=>q (R.inj j i l (by rw[<-z];exact m) hli))];exact h
abbrev MG:=List O->List O->Option (List O×O)
def ZK(i:Nat)(fr:DF)(g:MG):EF:=λas=>match as[i]? with
 |some (some (.nd .ls _))=>(fr as).bind λp=>match p.2[i]? with
  |some (some (.nd .ls os))=>(g os p.1).bind λz=>some (.ow z.2,p.2.set i (some (.nd .ls z.1)))
  |_=>none
 |_=>none
def MuD(X:Cx)(kd:KD)(r:V->List V->Hp->VK->Prop)(g:MG):Prop:=
 ∀(F B G:Addr->Prop) (l:Addr) (vs ws:List V) (os es os':List O) (o:O) (fp fq:List Addr) (H:Hp) (Q:VK),H l=some (.lst vs)->Yh X.K kd F B G H vs os fp->Yh X.K kd F B G H ws es fq->(fp++fq).Nodup->g os es=some (os',o)->
  (∀v vs' fp' fo,Yh X.K kd F B G H vs' os' fp'->RoS X.K kd F B G H v o fo->(∀a ∈ fp'++fo,a ∈ fp++fq)->(fp'++fo).Nodup->Q v (upd H l (.lst vs')))->r (.ref l) ws H Q
theorem zuS{i:Nat}{fr:DF}{g:MG}{r:V->List V->Hp->VK->Prop}(hr:MuD X kd r g)
 {σ:St}{H:Hp}{Q:VK}(h:al X.K kd (ZK i fr g) σ H Q):tBM X.K "list" r (zhg i) (alD X.K kd fr) σ H Q:=by
 obtain⟨F,B,ad,as,z,as',R,e,q⟩:=h
 unfold ZK at e
 cases k:as[i]? with
 |none=>rw[k]at e;cases e
 |some a0=>
  rw[k]at e
  match a0,e,k with
  |some (.nd .ls os0),e,k=>
   obtain⟨⟨es,as1⟩,h1,e⟩:=bS_ (show(fr as).bind _=_ from e)
   obtain⟨v0,hs0,ro0⟩:=R.sl i _ k
   generalize hfp0:ad i=fp0 at ro0
   cases ro0 with
   |ls hH0 rl0=>
   rename_i l vs0 fp00
   refine⟨_,hs0,.inl ⟨rfl,_,.inl (.inl hH0)⟩,F,B,ad,as,es,as1,R,h1,λws T1 ad1 H1 R1 ro1 g1=>?_⟩
   cases k2:as1[i]? with
   |none=>rw[k2]at e;cases e
   |some a2=>
    rw[k2]at e
    match a2,e,k2 with
    |some (.nd .ls os),e,k2=>
     obtain⟨⟨os',o⟩,h3,e⟩:=bS_ (show(g os es).bind _=_ from e)
     cases e
     obtain⟨v1,hs1,ro2⟩:=R1.sl i _ k2
     rw[hs0]at hs1
     cases hs1
     generalize hfp:ad1 i=fp1 at ro2
     cases ro2 with
     |ls hH rl=>
     rename_i vs fp
     have hnd:(fp++T1).Nodup:=zxD.mpr ⟨by have:=R1.nd i;rw[hfp]at this;exact(zzU.mp this).2,R1.tnd,λa m b m' e=>by
          subst e;exact R1.dis i a (by rw[hfp];exact zzB _ m) m'⟩
     refine hr F B (Gw T1 ad1) _ vs ws os es os' o fp T1 H1 Q hH rl ro1 hnd h3 λv vs' fp' fo rl' ro' hsub hnd'=>?_
     obtain⟨R3,g3⟩:=R1.mut (n:=.nd .ls os') (u:=.lst vs') (zzE.mp k2).1 hfp hs0 hsub hnd' (by rw[hH];simp) λH' G' hl' gr kp=>.ls hl' (Yh.grow gr kp rl')
     have lno:∀a ∈ fo,∀w,H1 a=some w->upd H1 l (.lst vs') a=some w:=λa m w h=>by
          rw[yj (λe=>?_)]
          · exact h
          · subst e
            rcases zzK.mp (hsub _ (zzJ _ m))with z|z
            · have:=R1.nd i;rw[hfp]at this;exact(zzU.mp this).1 z
            · exact R1.dis i _ (by rw[hfp];exact zzD) z
     exact q v fo _ _ R3 (RoS.grow g3 lno ro') (g1.trans g3)
end
end PF
end
section
set_option exponentiation.threshold 5000
namespace PF
open PySem PySem.Spec PyProof.Rows L2
section
variable{K:zD}{kd:KD}{O:Addr->Prop}{H:Hp}{Q:VK}
theorem yN{d:D}{v:V}(q:RQ K kd O H Q (.im d))(r:Rp K kd O H v d):Q v H:=q v H (λ_ _ z=>z) r
theorem zmB{vs:List V}{ds:List D}{p:Addr}{o:HO}(hp:H p=none)(r:RpL K kd O H vs ds):RpL K kd (Un2 O (· = p)) (upd H p o) vs ds:=
 RpL.grow (F:=O) (W:=λ_=>False) ⟨λb u q _=>by rw[yj (yJ q hp)];exact q,λb z=>.inr (by rw[z];exact hp)⟩ (r.less λa z=>z.elim id False.elim)
theorem zrG{vs:List (Key×V)}{ds:List (Key×D)}{p:Addr}{o:HO}(hp:H p=none)(r:RpM K kd O H vs ds):RpM K kd (Un2 O (· = p)) (upd H p o) vs ds:=
 RpM.grow (F:=O) (W:=λ_=>False) ⟨λb u q _=>by rw[yj (yJ q hp)];exact q,λb z=>.inr (by rw[z];exact hp)⟩ (r.less λa z=>z.elim id False.elim)
theorem Xv{p:Addr}{o:HO}(hp:H p=none):∀b u,H b=some u->upd H p o b=some u:=λb u q=>by rw[yj (yJ q hp)];exact q
theorem ziZ{vs:List V}{ds:List D}(q:RQ K kd O H Q (.fl ds))(r:RpL K kd O H vs ds):∀p,H p=none->Q (.ref p) (upd H p (.lst vs)):=λp hp=>
 q p vs _ hp (Xv hp) yP (zmB hp r)
theorem zpz{vs:List (Key×V)}{ds:List (Key×D)}(q:RQ K kd O H Q (.fd ds))(r:RpM K kd O H vs ds):∀p,H p=none->Q (.ref p) (upd H p (.dK vs)):=λp hp=>
 q p vs _ hp (Xv hp) yP (zrG hp r)
theorem zjE{vs:List V}{ds:List D}(ht:∀a,O a->H a≠none)(q:RQ K kd O H Q (.im (.tup ds)))(r:RpL K kd O H vs ds):∀p,H p=none->Q (.ref p) (upd H p (.tup vs)):=λp hp=>
 q _ _ (Xv hp) (.tup (λz=>ht p z hp) (.inl yP) ((zmB hp r).less λa z=>.inl z))
end
def big:Nat:=2 ^ 4000
theorem zkR{i:Int}(h:i.natAbs<big):Builtin.Int.intBits i<=2 ^ 20:=by
 unfold Builtin.Int.intBits
 split
 · exact Nat.zero_le _
 · have:i.natAbs.log2<4000:=by
    rcases Nat.eq_zero_or_pos i.natAbs with h0|hp
    · rw[h0];decide
    · exact(Nat.log2_lt (Nat.ne_of_gt hp)).mpr h
   have e:(2:Nat) ^ 20=1048576:=by decide
   omega
theorem zsi{i:Int}(h:i.natAbs<2 ^ 64):Builtin.Int.intBits i<=64:=by
 unfold Builtin.Int.intBits
 split
 · exact Nat.zero_le _
 · rcases Nat.eq_zero_or_pos i.natAbs with h0|hp
   · rw[h0];decide
   · exact(Nat.log2_lt (Nat.ne_of_gt hp)).mpr h
def onI(f:Int->Int->Option R0)(x y:D):Option R0:=(asI x).bind λi=>(asI y).bind λj=>f i j
def zwv(x y:D):Option R0:=match x with
 | .int i=>(asI y).bind λj=>some (.im (.int (i+j)))
 | .str x=>(asS y).bind λy=>if x.length+y.length<=sizeLine then some (.im (.str (x++y)))else none
 | .lst xs=>(asL y).bind λys=>if xs.length+ys.length<=sizeLine then some (.fl (xs++ys))else none
 | .tup xs=>(asT y).bind λys=>if xs.length+ys.length<=sizeLine then some (.im (.tup (xs++ys)))else none
 |_=>none
def zvR(x y:D):Option R0:=match x with
 | .int i=>(asI y).bind λj=>if(i.natAbs<big/\j.natAbs<big)\/j.natAbs<2 ^ 64 then some (.im (.int (i*j)))else none
 | .lst xs=>(asI y).bind λk=>if -(2 ^ 63)<=k/\k<2 ^ 63/\xs.length*k.toNat<=sizeLine then some (.fl (List.replicate k.toNat xs).flatten)else none
 | .tup xs=>(asI y).bind λk=>if 1<=k/\k<2 ^ 63/\xs.length≠0/\xs.length*k.toNat<=sizeLine then some (.im (.tup (List.replicate k.toNat xs).flatten))else none
 |_=>none
def zp(o:Operator)(x y:D):Option R0:=match o with
 | .Add=>zwv x y
 | .Sub=>onI (λi j=>some (.im (.int (i-j)))) x y
 | .Mult=>zvR x y
 | .FloorDiv=>onI (λi j=>if 0<j/\j.natAbs<big then some (.im (.int (i/j)))else none) x y
 | .Mod=>onI (λi j=>if 0<j then some (.im (.int (i%j)))else none) x y
 | .Pow=>onI (λi j=>if 0<=j/\j<=1000000/\i.natAbs<2 ^ 64 then some (.im (.int (i ^ j.toNat)))else none) x y
 |_=>none
theorem Vt{K:zD}{kd:KD}{O:Addr->Prop}{H:Hp}{v:V}{d:D}{i:Int}(h:Vw K kd O H v d)(e:asI d=some i):d = .int i/\v = .int i:=by
 cases h with
 |int j=>cases e;exact⟨rfl,rfl⟩
 |_=>cases e
theorem zsX{K:zD}{kd:KD}{O:Addr->Prop}{H:Hp}{v:V}{d:D}{i:Str}(h:Vw K kd O H v d)(e:asS d=some i):d = .str i/\v = .str i:=by
 cases h with
 |str j=>cases e;exact⟨rfl,rfl⟩
 |_=>cases e
theorem Wk{K:zD}{kd:KD}{O:Addr->Prop}{H:Hp}{v w:V}{d e:D}{f:Int->Int->Option R0}{r:R0}(vx:Vw K kd O H v d)(vy:Vw K kd O H w e)(h:onI f d e=some r):∃i j,v = .int i/\w = .int j/\f i j=some r:=by
 obtain⟨i,h1,h⟩:=bS_ (show(asI d).bind _=_ from h)
 obtain⟨j,h2,h⟩:=bS_ h
 exact⟨i,j,(Vt vx h1).2,(Vt vy h2).2,h⟩
section
variable{X:Cx}{kd:KD}
theorem zra:OpR X (binaryOp .Add) (λx y H Q=>∃l b xs zs,x = .ref l/\y = .ref b/\RdL X.K H l xs/\RdL X.K H b zs/\xs.length+zs.length<=sizeLine/\∀p,H p=none->Q (.ref p) (upd H p (.lst (xs++zs)))):=by
 intro pins s σ H x y v u Q I rx ry h
 obtain⟨l,b,xs,zs,rfl,rfl,hH,hB,hz,q⟩:=h
 cases rx
 cases ry
 obtain⟨z,its,n,r,e⟩:=zll I hH
 obtain⟨z2,its2,n2,r2,e2⟩:=zll I hB
 have hl:=r.length
 have hl2:=r2.length
 refine PySem.P.add_list e e2 ?_ (by rw[zzF,zzF];omega)
 have ea:its.toArray++its2.toArray=(its++its2).toArray:=by simp
 rw[ea]
 exact⟨.ref _,_,I.lnew (t':=s.toks) (r.append r2) (by rw[zzH];omega),rfl,q _ I.fresh⟩
theorem zqQ:OpR X (binaryOp .Mult) (λx y H Q=>∃l k xs,x = .ref l/\y = .int k/\RdL X.K H l xs /\ -(2 ^ 63)<=k/\k<2 ^ 63/\xs.length*k.toNat<=sizeLine/\
 ∀p,H p=none->Q (.ref p) (upd H p (.lst (List.replicate k.toNat xs).flatten))):=by
 intro pins s σ H x y v u Q I rx ry h
 obtain⟨l,k,xs,rfl,rfl,hH,h1,h2,hz,q⟩:=h
 cases rx
 obtain⟨t,rfl⟩:=ry
 obtain⟨z,its,n,r,e⟩:=zll I hH
 have hl:=r.length
 have hlen:its.toArray.size*k.toNat<=sizeLine:=by rw[zzF,<-hl];exact hz
 have hcap:¬its.toArray.size*k.toNat > (2 ^ 63-1)/8:=by
  have:(sizeLine:Nat)<=(2 ^ 63-1)/8:=by decide
  omega
 have hfit:¬(!Builtin.List.listFitsIndex k)=true:=by
  rw[fitsIndex_both h1 h2]
  exact zyU
 have hlong:¬Builtin.List.listTooLong (its.toArray.size*k.toNat)=true:=by
  rw[zoS hlen]
  exact zyU
 have hnew:List.foldl (λx1 x2=>x1++x2) #[] (List.replicate (if its.toArray.isEmpty=true then 0 else k.toNat) its.toArray)=(List.replicate k.toNat its).flatten.toArray:=by
  have f0:∀m:Nat,List.foldl (λx1 x2=>x1++x2) #[] (List.replicate m its.toArray)=(List.replicate m its).flatten.toArray:=λm=>by
   have:=foldl_rep its m []
   rw[List.nil_append]at this
   exact this
  rw[f0]
  cases its with
  |nil=>simp
  |cons a r'=>rw[if_neg (by simp)]
 refine wpAny_binaryOp_repeat_ref (T:="list") (U:="int") (by decide) ⟨_,e,rfl⟩ (λs'=>typeIs_int s' k t) noFill_list_mul F.fills_int_mul F.slot_int_rmul repeat_list F.slot_int_index.lookup
  (call_meets F.slot_int_rmul (typeIs_int s k t) F.entry_int_rmul (F.args_int_rmul_2 _ _) (int___rmul___int_list k t l its.toArray n)
   ⟨e,rfl,⟨_,e,rfl⟩,call_meets F.slot_list_mul ⟨_,e,rfl⟩ F.entry_list_mul (F.args_list_mul_2 _ _) (AutoListH.list___mul___list_int_3 l its.toArray n k t hfit hcap hlong) ⟨e, ?_⟩⟩)
 rw[hnew]
 refine⟨.ref _,_,I.lnew (t':=s.toks) (r.rep k.toNat) ?_,rfl,q _ I.fresh⟩
 rw[len_rep,Nat.mul_comm]
 exact hz
theorem tuple_addW0(l b:Addr)(items items2:Array Value)(n n2:Nat)(dd dd2:Option Addr)(sl sl2:Array (Option Value))(h0:items.isEmpty=true):
 Meets (Builtin.«tuple.__add__» {pos:=[.ref l,.ref b]}) (λ_ R s=>s.heap.get? l=some {cls:=.type "tuple",dict:=dd,data:=.seq items n,slots:=sl}/\s.heap.get? b=some {cls:=.type "tuple",dict:=dd2,data:=.seq items2 n2,slots:=sl2}/\R (.ok (.ret (.ref b))) s):=
 .of_wp λprog w A R s h=>by
  obtain⟨hp,g,d,tk,os⟩:=s;obtain⟨hl,hb,h⟩:=h
  have f2:=AutoSeq1.sub_tuple_tuple
  wp_walk using wpAny_loadPart' hl,wpAny_loadPart' hb
  exact⟨_,rfl,h⟩
theorem zjR(l:Addr)(items:Array Value)(n:Nat)(dd:Option Addr)(sl:Array (Option Value))(u:Tok):
 Meets (Builtin.«tuple.__mul__» {pos:=[.ref l,.int 1 u]}) (λ_ R s=>s.heap.get? l=some {cls:=.type "tuple",dict:=dd,data:=.seq items n,slots:=sl}/\R (.ok (.ret (.ref l))) s):=
 .of_wp λprog w A R s h=>by
  obtain⟨hp,g,d,tk,os⟩:=s;obtain⟨hl,h⟩:=h
  have f2:=AutoSeq1.sub_tuple_tuple
  wp_walk using wpAny_loadPart' hl
  exact⟨_,rfl,h⟩
theorem zjP(l:Addr)(items its2:Array Value)(n:Nat)(dd:Option Addr)(sl:Array (Option Value))(x:Int)(u:Tok)(c1:¬(decide (x < -2 ^ 63)||decide (x ≥ 2 ^ 63))=true)(c2:¬(items.isEmpty||x==1)=true)(c3:¬(decide (x<=0)||items.isEmpty)=true)
 (hcap:¬(items.size:Int)*x > (2 ^ 63-1)/8) (ht:¬Builtin.Tuple.tupleTooMany (items.size*x)=true) (hz:¬(List.foldl (λx1 x2=>x1++x2) #[] (List.replicate x.toNat items)).size > sizeLine):
 Meets (Builtin.«tuple.__mul__» {pos:=[.ref l,.int x u]}) (λ_ R s=>s.heap.get? l=some {cls:=.type "tuple",dict:=dd,data:=.seq items n,slots:=sl}/\R (.ok (.ret (.ref s.heap.objs.size))) {s with heap:=s.heap.push {cls:=.type "tuple",data:=.seq (List.foldl (λx1 x2=>x1++x2) #[] (List.replicate x.toNat items))}}):=
 .of_wp λprog w A R s h=>by
  obtain⟨hp,g,d,tk,os⟩:=s;obtain⟨hl,h⟩:=h
  have f2:=AutoSeq1.sub_tuple_tuple
  wp_walk using wpAny_loadPart' hl
  rw[if_neg c1]
  wp_walk using wpAny_loadPart' hl
  rw[if_neg hcap]
  wp_walk
  exact⟨_,rfl,h⟩
theorem zds:fillsNumberSlot (Value.type "tuple") "mul"=pure false:=PySem.fillsNumberSlot_seq rfl rfl rfl rfl
theorem zis:seqRepeat? (Value.type "tuple")=pure (some (Value.builtin "tuple.__mul__")):=W.of_pureOf rfl
theorem zfx(a:Int)(t:Tok)(l:Addr)(items:Array Value)(n:Nat)(dd:Option Addr)(sl:Array (Option Value)):
 Meets (Builtin.«int.__rmul__» {pos:=[.int a t,.ref l]}) (λ_ R s=>s.heap.get? l=some {cls:=.type "tuple",dict:=dd,data:=.seq items n,slots:=sl}/\R (.ok (.ret .notImplemented)) s):=
 .of_wp λprog w A R s h=>by
  obtain⟨hp,g,d,tk,os⟩:=s;obtain⟨hl,h⟩:=h
  wp_walk using wpAny_load' hl,wpAny_loadPart' hl
  exact⟨_,rfl,h⟩
theorem zrg:OpR X (binaryOp .Add) (λx y H Q=>∃a b ys,x = .ref a/\y = .ref b/\SqT X.K H a []/\SqT X.K H b ys/\Q (.ref b) H):=by
 intro pins s σ H x y v u Q I rx ry h
 obtain⟨a,b,ys,rfl,rfl,ha,hb,q⟩:=h
 cases rx
 cases ry
 obtain⟨its,r1,p1,_⟩:=I.tuple ha
 obtain⟨its2,r2,p2,_⟩:=I.tuple hb
 cases r1
 obtain⟨⟨cls,dd,data,sl⟩,ho,hc,n,hd⟩:=id p1
 obtain⟨⟨cls2,dd2,data2,sl2⟩,ho2,hc2,n2,hd2⟩:=id p2
 simp only at hc hd hc2 hd2
 subst hc hd hc2 hd2
 exact concat_meets ⟨_,ho,rfl⟩ ⟨_,ho2,rfl⟩ noFill_tuple_add seq_tuple_add PySem.F.slot_tuple_add PySem.F.entry_tuple_add (PySem.F.args_tuple_add_2 _ _) (tuple_addW0 a b _ _ n n2 dd dd2 sl sl2 rfl) ⟨ho,ho2,⟨.ref b,H,I,rfl,q⟩⟩
theorem zrr:OpR X (binaryOp .Mult) (λx y H Q=>∃l k xs,x = .ref l/\y = .int k/\SqT X.K H l xs/\xs≠[]/\1<=k/\k<2 ^ 63/\xs.length*k.toNat<=sizeLine/\(k=1->Q (.ref l) H)/\
 (2<=k->∀p,H p=none->Q (.ref p) (upd H p (.tup (List.replicate k.toNat xs).flatten)))):=by
 intro pins s σ H x y v u Q I rx ry h
 obtain⟨l,k,xs,rfl,rfl,hH,hne,h1,h2,hz,q1,q2⟩:=h
 cases rx
 obtain⟨t,rfl⟩:=ry
 obtain⟨its,r,p,_⟩:=I.tuple hH
 have hl:=r.length
 have hlen:its.toArray.size*k.toNat<=sizeLine:=by rw[zzF,<-hl];exact hz
 have hki:((its.toArray.size:Int)*k)=((its.toArray.size*k.toNat:Nat):Int):=by
  rw[zzT,zyX (by omega)]
 have he:its.toArray.isEmpty=false:=by
  cases its with
  |nil=>rw[List.length_nil]at hl;exact absurd (List.length_eq_zero_iff.mp hl) hne
  |cons a r'=>rfl
 have hnew:List.foldl (λx1 x2=>x1++x2) #[] (List.replicate k.toNat its.toArray)=(List.replicate k.toNat its).flatten.toArray:=by
  have:=foldl_rep its k.toNat []
  rw[List.nil_append]at this
  exact this
 obtain⟨⟨cls,dd,data,sl⟩,ho,hc,n,hd⟩:=id p
 simp only at hc hd
 subst hc hd
 refine wpAny_binaryOp_repeat_ref (T:="tuple") (U:="int") (by decide) ⟨_,ho,rfl⟩ (λs'=>typeIs_int s' k t) zds F.fills_int_mul F.slot_int_rmul zis F.slot_int_index.lookup
  (call_meets F.slot_int_rmul (typeIs_int s k t) F.entry_int_rmul (F.args_int_rmul_2 _ _) (zfx k t l its.toArray n dd sl) ⟨ho,rfl,⟨_,ho,rfl⟩, ?_⟩)
 by_cases hk:k=1
 · subst hk
   exact call_meets F.slot_tuple_mul ⟨_,ho,rfl⟩ F.entry_tuple_mul (F.args_tuple_mul_2 _ _) (zjR l its.toArray n dd sl t) ⟨ho,⟨.ref l,H,I,rfl,q1 rfl⟩⟩
 · have hfl:(List.replicate k.toNat xs).flatten.length<=sizeLine:=by rw[len_rep,Nat.mul_comm];exact hz
   refine call_meets F.slot_tuple_mul ⟨_,ho,rfl⟩ F.entry_tuple_mul (F.args_tuple_mul_2 _ _) (zjP l its.toArray #[] n dd sl k t (by simp;omega) (by rw[he];simpa using hk) (by rw[he];simp;omega) ?_ ?_ ?_) ⟨ho, ?_⟩
   · rw[hki]
     have:((sizeLine:Nat):Int)<=(2 ^ 63-1)/8:=by decide
     omega
   · unfold Builtin.Tuple.tupleTooMany
     rw[hki]
     simp only[gt_iff_lt,decide_eq_true_eq]
     omega
   · rw[hnew,zzF,len_rep,Nat.mul_comm]
     rw[zzF]at hlen
     omega
   · rw[hnew]
     refine⟨.ref s.heap.objs.size,_,I.laid (t':=s.toks) (o:=.tup (List.replicate k.toNat xs).flatten) (λb ob q=>zxG _ q) (zzL _) ?_,rfl,q2 (by omega) _ (I.hok.fresh (zzL _))⟩
     exact⟨hfl,_,r.rep k.toNat,IsTup.new _ _⟩
theorem zr(op:Operator):OpD X kd (binaryOp op) (zp op):=by
 intro pins s σ H x y v u Q I rx ry h
 obtain⟨O,d,e,r,ht,vx,vy,he,q⟩:=h
 cases op with
 |Add=>
  cases vx with
  |int i=>
   obtain⟨j,h1,he⟩:=bS_ (show(asI e).bind _=_ from he)
   obtain⟨rfl,rfl⟩:=Vt vy h1
   cases he
   exact ztS pins s σ H _ _ v u Q I rx ry ⟨_,_,rfl,rfl,yN q (.int _)⟩
  |str i=>
   obtain⟨j,h1,he⟩:=bS_ (show(asS e).bind _=_ from he)
   obtain⟨rfl,rfl⟩:=zsX vy h1
   obtain⟨c,rfl⟩:=yg he
   exact zlO pins s σ H _ _ v u Q I rx ry ⟨_,_,rfl,rfl,c,yN q (.str _)⟩
  |lst hx rx'=>
   obtain⟨j,h1,he⟩:=bS_ (show(asL e).bind _=_ from he)
   cases ziL h1
   obtain⟨c,rfl⟩:=yg he
   cases vy with
   |lst hy ry'=>exact zra pins s σ H _ _ v u Q I rx ry ⟨_,_,_,_,rfl,rfl,hx,hy,by rw[rx'.length,ry'.length];exact c,ziZ q (rx'.append ry')⟩
  | @tup a1 vs1 ds1 r1 hx rx'=>
   obtain⟨j,h1,he⟩:=bS_ (show(asT e).bind _=_ from he)
   cases zpR h1
   obtain⟨c,rfl⟩:=yg he
   cases vy with
   |tup r2 hy ry'=>
    by_cases h0:vs1=([]:List V)
    · subst h0
      cases rx'
      exact zrg pins s σ H _ _ v u Q I rx ry ⟨_,_,_,rfl,rfl,hx,hy,yN q r2⟩
    refine zrf pins s σ H _ _ v u Q I rx ry ⟨_,_,_,_,rfl,rfl,hx,hy,h0,by rw[rx'.length,ry'.length];exact c,λhn=>?_,λhn=>zjE ht q (rx'.append ry')⟩
    · subst hn
      cases ry'
      rw[zyC]at q
      exact yN q r1
  |_=>cases he
 |Sub=>
  obtain⟨i,j,rfl,rfl,he⟩:=Wk vx vy he
  cases he
  exact ztB pins s σ H _ _ v u Q I rx ry ⟨_,_,rfl,rfl,yN q (.int _)⟩
 |Mult=>
  cases vx with
  |int i=>
   obtain⟨j,h1,he⟩:=bS_ (show(asI e).bind _=_ from he)
   obtain⟨rfl,rfl⟩:=Vt vy h1
   obtain⟨c,rfl⟩:=yg he
   obtain⟨t,rfl⟩:=rx
   obtain⟨t',rfl⟩:=ry
   exact mul_int ⟨.int _,H,I.tok _,⟨_,rfl⟩,yN q (.int _)⟩ (c.elim (λc=>IntMulOk.of_bits (zkR c.1) (zkR c.2)) λc=>IntMulOk.of_right (zsi c))
  |lst hx rx'=>
   obtain⟨j,h1,he⟩:=bS_ (show(asI e).bind _=_ from he)
   obtain⟨rfl,rfl⟩:=Vt vy h1
   obtain⟨c,rfl⟩:=yg he
   exact zqQ pins s σ H _ _ v u Q I rx ry ⟨_,_,_,rfl,rfl,hx,c.1,c.2.1,by rw[rx'.length];exact c.2.2,ziZ q (rx'.rep _)⟩
  |tup r1 hx rx'=>
   obtain⟨j,h1,he⟩:=bS_ (show(asI e).bind _=_ from he)
   obtain⟨rfl,rfl⟩:=Vt vy h1
   obtain⟨c,rfl⟩:=yg he
   refine zrr pins s σ H _ _ v u Q I rx ry ⟨_,_,_,rfl,rfl,hx,λe=>?_,c.1,c.2.1,by rw[rx'.length];exact c.2.2.2,λe=>?_,λ_=>zjE ht q (rx'.rep _)⟩
   · have:=rx'.length
     rw[e]at this
     exact c.2.2.1 this.symm
   · subst e
     refine yN q ?_
     rw[show(1:Int).toNat=1 from rfl,List.replicate_one,List.flatten_cons,List.flatten_nil,zyC]
     exact r1
  |_=>cases he
 |FloorDiv=>
  obtain⟨i,j,rfl,rfl,he⟩:=Wk vx vy he
  obtain⟨c,rfl⟩:=yg he
  obtain⟨t,rfl⟩:=rx
  obtain⟨t',rfl⟩:=ry
  refine floordiv_int (by omega) ?_ (.inl (PyProof.noPylong_of_log2 ?_))
  · rw[Int.fdiv_eq_ediv_of_nonneg _ (by omega)]
    exact⟨.int _,H,I.tok _,⟨_,rfl⟩,yN q (.int _)⟩
  · exact zzI ((Nat.log2_lt (by have:=c.1;omega)).mpr (show _<2 ^ 4000 from c.2)) (by decide)
 |Mod=>
  obtain⟨i,j,rfl,rfl,he⟩:=Wk vx vy he
  obtain⟨c,rfl⟩:=yg he
  exact zuk pins s σ H _ _ v u Q I rx ry ⟨_,_,rfl,rfl,c,yN q (.int _)⟩
 |Pow=>
  obtain⟨i,j,rfl,rfl,he⟩:=Wk vx vy he
  obtain⟨c,rfl⟩:=yg he
  exact zui pins s σ H _ _ v u Q I rx ry ⟨_,_,rfl,rfl,c,yN q (.int _)⟩
 |_=>cases he
end
def eqL(f:D->D->Option Bool):List D->List D->Option Bool
 | [],[]=>some true
 |x::r,y::t=>(f x y).bind λb=>(eqL f r t).bind λc=>some (b&&c)
 |_,_=>some false
def eqF:Nat->D->D->Option Bool
 |0,_,_=>none
 |_+1,.non,.non=>some true
 |_+1,.bl a,.bl b=>some (a==b)
 |_+1,.int a,.int b=>some (a==b)
 |_+1,.str a,.str b=>some (a==b)
 |_+1,.bl a,.int b=>some ((if a then 1 else 0)==b)
 |_+1,.int a,.bl b=>some (a==(if b then 1 else 0))
 |n+1,.lst xs,.lst ys=>eqL (eqF n) xs ys
 |n+1,.tup xs,.tup ys=>eqL (eqF n) xs ys
 |_+1,.dct _,_=>none
 |_+1,.cl _,_=>none
 |_+1,.ob _ _ _,_=>none
 |_+1,_,.dct _=>none
 |_+1,_,.cl _=>none
 |_+1,_,.ob _ _ _=>none
 |_+1,_,_=>some false
def eqJ(f:D->D->Option Bool)(xs ys:List D)(j:Nat):Bool:=match xs[j]?,ys[j]? with
 |some d,some e=>(f d e).getD false
 |_,_=>false
theorem zfG{f:D->D->Option Bool}:∀{xs ys:List D}{b:Bool},eqL f xs ys=some b->(∀(j:Nat) d e,xs[j]? = some d->ys[j]? = some e->∃c,f d e=some c)/\
 b=((List.range (min xs.length ys.length)).all (eqJ f xs ys)&&xs.length==ys.length)
 | [],[],b,h=>by cases h;exact⟨λj d e h=>by simp at h,by simp⟩
 | [],y::t,b,h=>by cases h;exact⟨λj d e h=>by simp at h,by simp⟩
 |x::r,[],b,h=>by cases h;exact⟨λj d e _ h=>by simp at h,by simp⟩
 |x::r,y::t,b,h=>by
  obtain⟨b1,h1,h⟩:=bS_ (show(f x y).bind _=_ from h)
  obtain⟨c1,h2,h⟩:=bS_ h
  cases h
  obtain⟨k1,k2⟩:=zfG h2
  refine⟨λj d e hd he=>?_, ?_⟩
  · cases j with
    |zero=>simp at hd he;subst hd he;exact⟨b1,h1⟩
    |succ j=>exact k1 j d e (by simpa using hd) (by simpa using he)
  · have e0:min (x::r).length (y::t).length=min r.length t.length+1:=by simp only[zzR];omega
    rw[e0,List.range_succ_eq_map,List.all_cons,List.all_map,k2]
    have e1:eqJ f (x::r) (y::t) 0=b1:=by show(f x y).getD false=b1;rw[h1];rfl
    have e2:(eqJ f (x::r) (y::t)∘Nat.succ)=eqJ f r t:=by
     funext j
     show eqJ f (x::r) (y::t) (j+1)=_
     unfold eqJ
     simp
    have e3:((x::r).length==(y::t).length)=(r.length==t.length):=by
     by_cases hh:r.length=t.length<;>simp[hh]
    rw[e1,e2,e3,Bool.and_assoc]
structure EqAll(A:Around)(s:Shared)(u v:Value)(b:Bool):Prop where
 rc:SeqAt.RcAt A s u v b
 ne:SeqAt.RcNeAt A s u v (!b)
 eq:SeqAt.EqAt A s u v b
section
variable{X:Cx}{kd:KD}{pins:List (Addr×Obj)}{σ:St}{H:Hp}{s:Shared}{O:Addr->Prop}
theorem zna(I:Inv X pins σ H s){a:Addr}{xs ys:List V}(h:SqT X.K H a xs)(h':SqL X.K H a ys):False:=by
 obtain⟨_,_,⟨o,e,c,_⟩,_⟩:=I.tuple h
 obtain⟨_,_,⟨o',n,e',c',_⟩,_⟩:=I.list h'
 rw[e]at e'
 cases e'
 rw[c]at c'
 exact absurd c' (by decide)
theorem zmP(I:Inv X pins σ H s):∀(n:Nat) (v:V) (d e:D) (b:Bool),Vw X.K kd O H v d->Vw X.K kd O H v e->eqF n d e=some b->b=true
 |0,_,_,_,_,_,_,h=>by cases h
 |n+1,v,d,e,b,h1,h2,h=>by
  have lst:∀(vs:List V) (ds es:List D) (b:Bool),RpL X.K kd O H vs ds->RpL X.K kd O H vs es->eqL (eqF n) ds es=some b->b=true:=by
   intro vs
   induction vs with
   |nil=>intro ds es b r1 r2 h;cases r1;cases r2;cases h;rfl
   |cons v vs ih=>
    intro ds es b r1 r2 h
    cases r1 with
    |cons a1 r1=>
     cases r2 with
     |cons a2 r2=>
      obtain⟨b1,k1,h⟩:=bS_ (show(eqF n _ _).bind _=_ from h)
      obtain⟨c1,k2,h⟩:=bS_ h
      cases h
      rw[zmP I n _ _ _ _ a1.vw a2.vw k1,ih _ _ _ r1 r2 k2]
      rfl
  cases h1 with
  |non=>cases h2;cases h;rfl
  |bl x=>cases h2;cases h;simp
  |int x=>cases h2;cases h;simp
  |str x=>cases h2;cases h;simp
  |tup r1 s1 l1=>
   cases h2 with
   |tup r2 s2 l2=>
    have:=I.tuple_inj s1 s2
    subst this
    exact lst _ _ _ _ l1 l2 h
   |lst s2 l2=>exact(zna I s1 s2.sq).elim
   |_=>cases h
  |lst s1 l1=>
   cases h2 with
   |tup r2 s2 l2=>exact(zna I s2 s1.sq).elim
   |lst s2 l2=>
    have:=I.list_inj s1.sq s2.sq
    subst this
    exact lst _ _ _ _ l1 l2 h
   |_=>cases h
  |_=>cases h
theorem ziE(I:Inv X pins σ H s):∀(n:Nat) (A:Around) (x y:V) (d e:D) (u v:Value) (b:Bool),A.units+n<cLine->Vw X.K kd O H x d->Vw X.K kd O H y e->RelV x u->RelV y v->eqF n d e=some b->EqAll A s u v b
 |0,_,_,_,_,_,_,_,_,_,_,_,_,_,h=>by cases h
 |n+1,A,x,y,d,e,u,v,b,hu,h1,h2,r1,r2,h=>by
  have hu0:A.units<cLine:=by omega
  have itm:∀{vs ws:List V}{its its2:List Value}{ds es:List D},RpL X.K kd O H vs ds->RpL X.K kd O H ws es->Vals vs its->Vals ws its2->(∀(j:Nat) d e,ds[j]? = some d->es[j]? = some e->∃c,eqF n d e=some c)->
   ∀j (h1:j<its.toArray.size) (h2:j<its2.toArray.size),SeqAt.EqAt A.in1 s its.toArray[j] its2.toArray[j] (eqJ (eqF n) ds es j):=by
   intro vs ws its its2 ds es l1 l2 v1 v2 hd j j1 j2
   have q1:j<ds.length:=by rw[<-l1.length,v1.length];simpa using j1
   have q2:j<es.length:=by rw[<-l2.length,v2.length];simpa using j2
   obtain⟨a1,ha1,ra1⟩:=l1.get (zzC q1)
   obtain⟨a2,ha2,ra2⟩:=l2.get (zzC q2)
   obtain⟨u1,hu1,ru1⟩:=v1.get ha1
   obtain⟨u2,hu2,ru2⟩:=v2.get ha2
   obtain⟨c,hc⟩:=hd j _ _ (zzC q1) (zzC q2)
   have e1:its.toArray[j]=u1:=by
    have:=(zzE.mp hu1).2
    simpa using this
   have e2:its2.toArray[j]=u2:=by
    have:=(zzE.mp hu2).2
    simpa using this
   rw[e1,e2]
   have e3:eqJ (eqF n) ds es j=c:=by
    unfold eqJ
    rw[zzC q1,zzC q2]
    show(eqF n _ _).getD false=c
    rw[hc];rfl
   rw[e3]
   exact(ziE I n A.in1 a1 a2 _ _ u1 u2 c (by show A.units+1+n<cLine;omega) ra1.vw ra2.vw ru1 ru2 hc).eq
  have same:∀{a a':Addr},x = .ref a->y = .ref a'->a=a'->b=true:=by
   intro a a' e1 e2 e3
   subst e1 e2 e3
   exact zmP I (n+1) _ _ _ _ h1 h2 h
  cases h1 with
  |non=>
   cases r1
   cases h2 with
   |non=>cases r2;cases h;exact⟨SeqAt.RcAt.none_none,SeqAt.RcNeAt.none_none,SeqAt.EqAt.same _⟩
   |bl=>cases r2;cases h;exact⟨SeqAt.RcAt.none_bool _,SeqAt.RcNeAt.none_bool _,SeqAt.EqAt.none_bool _⟩
   |int=>obtain⟨t,rfl⟩:=r2;cases h;exact⟨SeqAt.RcAt.none_int _ _,SeqAt.RcNeAt.none_int _ _,SeqAt.EqAt.none_int _ _⟩
   |str=>obtain⟨t,rfl⟩:=r2;cases h;exact⟨SeqAt.RcAt.none_str _ _,SeqAt.RcNeAt.none_str _ _,SeqAt.EqAt.none_str _ _⟩
   |tup r s2 l2=>
    cases r2;cases h
    obtain⟨its,rv,p,_⟩:=I.tuple s2
    exact⟨SeqAt.RcAt.none_tuple p hu0,SeqAt.RcNeAt.none_tuple p hu0,SeqAt.EqAt.none_tuple p hu0⟩
   |lst s2 l2=>
    cases r2;cases h
    obtain⟨its,rv,p,_⟩:=I.list s2.sq
    exact⟨SeqAt.RcAt.none_list p.isList hu0,SeqAt.RcNeAt.none_list p.isList hu0,SeqAt.EqAt.none_list p.isList hu0⟩
   |_=>cases h
  |bl c=>
   cases r1
   cases h2 with
   |non=>cases r2;cases h;exact⟨SeqAt.RcAt.bool_none _,SeqAt.RcNeAt.bool_none _,SeqAt.EqAt.bool_none _⟩
   |bl=>cases r2;cases h;exact⟨SeqAt.RcAt.bool_bool _ _,SeqAt.RcNeAt.bool_bool _ _,SeqAt.EqAt.bool_bool _ _⟩
   |int=>obtain⟨t,rfl⟩:=r2;cases h;exact⟨SeqAt.RcAt.bool_int _ _ _,SeqAt.RcNeAt.bool_int _ _ _,SeqAt.EqAt.bool_int _ _ _⟩
   |str=>obtain⟨t,rfl⟩:=r2;cases h;exact⟨SeqAt.RcAt.bool_str _ _ _,SeqAt.RcNeAt.bool_str _ _ _,SeqAt.EqAt.bool_str _ _ _⟩
   |tup r s2 l2=>
    cases r2;cases h
    obtain⟨its,rv,p,_⟩:=I.tuple s2
    exact⟨SeqAt.RcAt.bool_tuple _ p hu0,SeqAt.RcNeAt.bool_tuple _ p hu0,SeqAt.EqAt.bool_tuple _ p hu0⟩
   |lst s2 l2=>
    cases r2;cases h
    obtain⟨its,rv,p,_⟩:=I.list s2.sq
    exact⟨SeqAt.RcAt.bool_list _ p.isList hu0,SeqAt.RcNeAt.bool_list _ p.isList hu0,SeqAt.EqAt.bool_list _ p.isList hu0⟩
   |_=>cases h
  |int c=>
   obtain⟨t0,rfl⟩:=r1
   cases h2 with
   |non=>cases r2;cases h;exact⟨SeqAt.RcAt.int_none _ _,SeqAt.RcNeAt.int_none _ _,SeqAt.EqAt.int_none _ _⟩
   |bl=>cases r2;cases h;exact⟨SeqAt.RcAt.int_bool _ _ _,SeqAt.RcNeAt.int_bool _ _ _,SeqAt.EqAt.int_bool _ _ _⟩
   |int=>obtain⟨t,rfl⟩:=r2;cases h;exact⟨SeqAt.RcAt.int_int _ _ _ _,SeqAt.RcNeAt.int_int _ _ _ _,SeqAt.EqAt.int_int _ _ _ _⟩
   |str=>obtain⟨t,rfl⟩:=r2;cases h;exact⟨SeqAt.RcAt.int_str _ _ _ _,SeqAt.RcNeAt.int_str _ _ _ _,SeqAt.EqAt.int_str _ _ _ _⟩
   |tup r s2 l2=>
    cases r2;cases h
    obtain⟨its,rv,p,_⟩:=I.tuple s2
    exact⟨SeqAt.RcAt.int_tuple _ _ p hu0,SeqAt.RcNeAt.int_tuple _ _ p hu0,SeqAt.EqAt.int_tuple _ _ p hu0⟩
   |lst s2 l2=>
    cases r2;cases h
    obtain⟨its,rv,p,_⟩:=I.list s2.sq
    exact⟨SeqAt.RcAt.int_list _ _ p.isList hu0,SeqAt.RcNeAt.int_list _ _ p.isList hu0,SeqAt.EqAt.int_list _ _ p.isList hu0⟩
   |_=>cases h
  |str c=>
   obtain⟨t0,rfl⟩:=r1
   cases h2 with
   |non=>cases r2;cases h;exact⟨SeqAt.RcAt.str_none _ _,SeqAt.RcNeAt.str_none _ _,SeqAt.EqAt.str_none _ _⟩
   |bl=>cases r2;cases h;exact⟨SeqAt.RcAt.str_bool _ _ _,SeqAt.RcNeAt.str_bool _ _ _,SeqAt.EqAt.str_bool _ _ _⟩
   |int=>obtain⟨t,rfl⟩:=r2;cases h;exact⟨SeqAt.RcAt.str_int _ _ _ _,SeqAt.RcNeAt.str_int _ _ _ _,SeqAt.EqAt.str_int _ _ _ _⟩
   |str=>obtain⟨t,rfl⟩:=r2;cases h;exact⟨SeqAt.RcAt.str_str _ _ _ _,SeqAt.RcNeAt.str_str _ _ _ _,SeqAt.EqAt.str_str _ _ _ _⟩
   |tup r s2 l2=>
    cases r2;cases h
    obtain⟨its,rv,p,_⟩:=I.tuple s2
    exact⟨SeqAt.RcAt.str_tuple _ _ p hu0,SeqAt.RcNeAt.str_tuple _ _ p hu0,SeqAt.EqAt.str_tuple _ _ p hu0⟩
   |lst s2 l2=>
    cases r2;cases h
    obtain⟨its,rv,p,_⟩:=I.list s2.sq
    exact⟨SeqAt.RcAt.str_list _ _ p.isList hu0,SeqAt.RcNeAt.str_list _ _ p.isList hu0,SeqAt.EqAt.str_list _ _ p.isList hu0⟩
   |_=>cases h
  | @tup a1 vs1 ds1 r s1 l1=>
   cases r1
   obtain⟨its1,rv1,p1,_⟩:=I.tuple s1
   cases h2 with
   |non=>cases r2;cases h;exact⟨SeqAt.RcAt.tuple_none p1 hu0,SeqAt.RcNeAt.tuple_none p1 hu0,SeqAt.EqAt.tuple_none p1 hu0⟩
   |bl=>cases r2;cases h;exact⟨SeqAt.RcAt.tuple_bool _ p1 hu0,SeqAt.RcNeAt.tuple_bool _ p1 hu0,SeqAt.EqAt.tuple_bool _ p1 hu0⟩
   |int=>obtain⟨t,rfl⟩:=r2;cases h;exact⟨SeqAt.RcAt.tuple_int _ _ p1 hu0,SeqAt.RcNeAt.tuple_int _ _ p1 hu0,SeqAt.EqAt.tuple_int _ _ p1 hu0⟩
   |str=>obtain⟨t,rfl⟩:=r2;cases h;exact⟨SeqAt.RcAt.tuple_str _ _ p1 hu0,SeqAt.RcNeAt.tuple_str _ _ p1 hu0,SeqAt.EqAt.tuple_str _ _ p1 hu0⟩
   | @tup a2 vs2 ds2 r' s2 l2=>
    cases r2
    obtain⟨its2,rv2,p2,_⟩:=I.tuple s2
    obtain⟨k1,k2⟩:=zfG h
    have he:=itm l1 l2 rv1 rv2 k1
    have eb:((List.range (min its1.toArray.size its2.toArray.size)).all (eqJ (eqF n) ds1 ds2)&&its1.toArray.size==its2.toArray.size)=b:=by
     rw[k2,zzF,zzF,<-rv1.length,<-rv2.length,l1.length,l2.length]
    have b1:=SeqAt.RcAt.tuples p1 p2 hu0 he
    have b2:=SeqAt.RcNeAt.tuples p1 p2 hu0 he
    rw[eb]at b1 b2
    refine⟨b1,b2, ?_⟩
    by_cases ha:a1=a2
    · have hb:=same rfl rfl ha
      subst ha
      rw[hb]
      exact SeqAt.EqAt.same _
    · exact SeqAt.EqAt.of_refs ha b1
   |lst s2 l2=>
    cases r2;cases h
    obtain⟨its,rv,p,_⟩:=I.list s2.sq
    exact⟨SeqAt.RcAt.tuple_list p1 p.isList hu0,SeqAt.RcNeAt.tuple_list p1 p.isList hu0,SeqAt.EqAt.tuple_list p1 p.isList hu0⟩
   |_=>cases h
  | @lst a1 vs1 ds1 s1 l1=>
   cases r1
   obtain⟨its1,rv1,p1,_⟩:=I.list s1.sq
   cases h2 with
   |non=>cases r2;cases h;exact⟨SeqAt.RcAt.list_none p1.isList hu0,SeqAt.RcNeAt.list_none p1.isList hu0,SeqAt.EqAt.list_none p1.isList hu0⟩
   |bl=>cases r2;cases h;exact⟨SeqAt.RcAt.list_bool _ p1.isList hu0,SeqAt.RcNeAt.list_bool _ p1.isList hu0,SeqAt.EqAt.list_bool _ p1.isList hu0⟩
   |int=>obtain⟨t,rfl⟩:=r2;cases h;exact⟨SeqAt.RcAt.list_int _ _ p1.isList hu0,SeqAt.RcNeAt.list_int _ _ p1.isList hu0,SeqAt.EqAt.list_int _ _ p1.isList hu0⟩
   |str=>obtain⟨t,rfl⟩:=r2;cases h;exact⟨SeqAt.RcAt.list_str _ _ p1.isList hu0,SeqAt.RcNeAt.list_str _ _ p1.isList hu0,SeqAt.EqAt.list_str _ _ p1.isList hu0⟩
   |tup r' s2 l2=>
    cases r2;cases h
    obtain⟨its2,rv2,p2,_⟩:=I.tuple s2
    exact⟨SeqAt.RcAt.list_tuple p1.isList p2 hu0,SeqAt.RcNeAt.list_tuple p1.isList p2 hu0,SeqAt.EqAt.list_tuple p1.isList p2 hu0⟩
   | @lst a2 vs2 ds2 s2 l2=>
    cases r2
    obtain⟨its2,rv2,p2,_⟩:=I.list s2.sq
    obtain⟨k1,k2⟩:=zfG h
    have he:=itm l1 l2 rv1 rv2 k1
    have ez1:its1.toArray.size=_:=zzF.trans (rv1.length.symm.trans l1.length)
    have ez2:its2.toArray.size=_:=zzF.trans (rv2.length.symm.trans l2.length)
    have both:SeqAt.RcAt A s (.ref a1) (.ref a2) b/\SeqAt.RcNeAt A s (.ref a1) (.ref a2) (!b):=by
     by_cases hz:its1.toArray.size=its2.toArray.size
     · have b1:=SeqAt.RcAt.lists p1.isList p2.isList hz hu0 he
       have b2:=SeqAt.RcNeAt.lists p1.isList p2.isList hz hu0 he
       have eb:(List.range its1.toArray.size).all (eqJ (eqF n) ds1 ds2)=b:=by
        rw[k2,<-ez1,<-ez2,<-hz,Nat.min_self]
        simp
       rw[eb]at b1 b2
       exact⟨b1,b2⟩
     · have hz':(its1.toArray.size != its2.toArray.size)=true:=by simpa using hz
       have eb:b=false:=by
        rw[k2,<-ez1,<-ez2]
        have:(its1.toArray.size==its2.toArray.size)=false:=by simpa using hz
        rw[this,Bool.and_false]
       rw[eb]
       exact⟨SeqAt.RcAt.lists_lengths p1.isList p2.isList hz' hu0,SeqAt.RcNeAt.lists_lengths p1.isList p2.isList hz' hu0⟩
    refine⟨both.1,both.2, ?_⟩
    by_cases ha:a1=a2
    · have hb:=same rfl rfl ha
      subst ha
      rw[hb]
      exact SeqAt.EqAt.same _
    · exact SeqAt.EqAt.of_refs ha both.1
   |_=>cases h
  |_=>cases h
end
structure DkAt(P:Program)(w:World)(h:Heap)(a:Addr)(kvs:List (Key×V)):Prop where
 le:kvs.length<=sizeLine
 ns:(a==sysModules)=false
 ex:∃vs,KV kvs vs/\h.DictOf (vJ P w) a vs
structure KdOk(X:Cx)(kd:KD):Prop where
 inj:∀a k k',kd a k->kd a k'->k=k'
 inK:∀a k,kd a k->∃o,X.K.lookup a=some o
 at_:∀a k h,kd a k->X.K.In h->DkAt X.prog X.w h a k
section
variable{X:Cx}{kd:KD}{pins:List (Addr×Obj)}{σ:St}{H:Hp}{s:Shared}{O:Addr->Prop}
theorem zfD(I:Inv X pins σ H s)(hk:KdOk X kd){a:Addr}{kvs:List (Key×V)}(h:Rd H a (.dK kvs)\/kd a kvs):DkAt X.prog X.w s.heap a kvs:=by
 rcases h with h|h
 · obtain⟨z,hd,vs,rel,dd⟩:=zvx I.hok h
   exact⟨z,hd,vs,rel,dd⟩
 · exact hk.at_ _ _ _ h I.kIn
theorem zpG(I:Inv X pins σ H s):∀(n:Nat) (v:V) (d e x:D) (b c:Bool),Vw X.K kd O H v d->Vw X.K kd O H v e->eqF n d x=some b->eqF n e x=some c->b=c
 |0,_,_,_,_,_,_,_,_,h,_=>by cases h
 |n+1,v,d,e,x,b,c,h1,h2,h,h'=>by
  have lst:∀(vs:List V) (ds es xs:List D) (b c:Bool),RpL X.K kd O H vs ds->RpL X.K kd O H vs es->eqL (eqF n) ds xs=some b->eqL (eqF n) es xs=some c->b=c:=by
   intro vs
   induction vs with
   |nil=>intro ds es xs b c r1 r2 h h';cases r1;cases r2;exact zzX (h.symm.trans h')
   |cons v vs ih=>
    intro ds es xs b c r1 r2 h h'
    cases r1 with
    |cons a1 r1=>
     cases r2 with
     |cons a2 r2=>
      cases xs with
      |nil=>cases h;cases h';rfl
      |cons x xs=>
       obtain⟨b1,k1,h⟩:=bS_ (show(eqF n _ _).bind _=_ from h)
       obtain⟨c1,k2,h⟩:=bS_ h
       obtain⟨b2,k3,h'⟩:=bS_ (show(eqF n _ _).bind _=_ from h')
       obtain⟨c2,k4,h'⟩:=bS_ h'
       cases h;cases h'
       rw[zpG I n _ _ _ _ _ _ a1.vw a2.vw k1 k3,ih _ _ _ _ _ r1 r2 k2 k4]
  cases h1 with
  |tup r1 s1 l1=>
   cases h2 with
   |tup r2 s2 l2=>
    have:=I.tuple_inj s1 s2
    subst this
    cases x with
    |tup xs=>exact lst _ _ _ _ _ _ l1 l2 h h'
    |_=>exact zzX (h.symm.trans h')
   |lst s2 l2=>exact(zna I s1 s2.sq).elim
   |_=>cases h'
  |lst s1 l1=>
   cases h2 with
   |tup r2 s2 l2=>exact(zna I s2 s1.sq).elim
   |lst s2 l2=>
    have:=I.list_inj s1.sq s2.sq
    subst this
    cases x with
    |lst xs=>exact lst _ _ _ _ _ _ l1 l2 h h'
    |_=>exact zzX (h.symm.trans h')
   |_=>cases h'
  |dct s1 l1=>cases h
  |cl=>cases h
  |ob=>cases h
  |_=>cases h2;exact zzX (h.symm.trans h')
end
def zpq:D->Option Key
 | .int i=>some (.inl i)
 | .str x=>some (.inr x)
 |_=>none
def zjk(kvs:List (Key×D))(k:Key):Option D:=(kvs.find? λkv=>decide (kv.1=k)).map (·.2)
theorem zjr{K:zD}{kd:KD}{O:Addr->Prop}{H:Hp}(k:Key){vs:List (Key×V)}{ds:List (Key×D)}(h:RpM K kd O H vs ds):(∃v d,zdA vs k=some v/\zjk ds k=some d/\Rp K kd O H v d)\/(zdA vs k=none/\zjk ds k=none):=
 RpM.ind (P:=λvs ds=>(∃v d,zdA vs k=some v/\zjk ds k=some d/\Rp K kd O H v d)\/(zdA vs k=none/\zjk ds k=none)) (.inr ⟨rfl,rfl⟩) (λ{k' v d vs ds} a _ ih=>by
  by_cases e:k'=k
  · left
    refine⟨_,_, ?_, ?_,a⟩
    · unfold zdA;simp[e]
    · unfold zjk;simp[e]
  · rcases ih with⟨v,d,h1,h2,h3⟩|⟨h1,h2⟩
    · left
      refine⟨v,d, ?_, ?_,h3⟩
      · unfold zdA at h1 ⊢;simpa[e]using h1
      · unfold zjk at h2 ⊢;simpa[e]using h2
    · right
      refine⟨?_, ?_⟩
      · unfold zdA at h1 ⊢;simpa[e]using h1
      · unfold zjk at h2 ⊢;simpa[e]using h2) h
def anyF(f:D->Option Bool):List D->Option Bool
 | []=>some false
 |x::r=>(f x).bind λb=>(anyF f r).bind λc=>some (b||c)
def blR(b:Bool):R0:=.im (.bl b)
def inP(x:D):D->Option Bool
 | .lst ys=>anyF (λy=>eqF 50 y x) ys
 | .tup ys=>anyF (λy=>eqF 50 y x) ys
 | .str y=>match x with | .str i=>some (!(Builtin.Str.occurrences y i 0 y.length 1).isEmpty)|_=>none
 | .dct kvs=>(zpq x).bind λk=>some (zjk kvs k).isSome
 |_=>none
def isP:D->D->Option Bool
 |d,.non=>some (match d with | .non=>true|_=>false)
 |d,.bl b=>match d with | .bl c=>some (c==b)|_=>some false
 |_,_=>none
def zou(f:Int->Int->Bool):D->D->Option R0:=onI λi j=>some (blR (f i j))
def zR(o:CmpOp)(d e:D):Option R0:=match o with
 | .Eq=>(eqF 60 d e).bind λb=>some (blR b)
 | .NotEq=>(eqF 60 d e).bind λb=>some (blR !b)
 | .Lt=>zou (λi j=>decide (i<j)) d e
 | .LtE=>zou (λi j=>decide (i<=j)) d e
 | .Gt=>zou (λi j=>decide (j<i)) d e
 | .GtE=>zou (λi j=>decide (j<=i)) d e
 | .In=>(inP d e).bind λb=>some (blR b)
 | .NotIn=>(inP d e).bind λb=>some (blR !b)
 | .Is=>(isP d e).bind λb=>some (blR b)
 | .IsNot=>(isP d e).bind λb=>some (blR !b)
theorem zbt{o:Option Bool}{f:Bool->Bool}{r:R0}(h:(o.bind λb=>some (blR (f b)))=some r):∃k,r = .im (.bl k):=by
 obtain⟨b,_,h⟩:=bS_ h
 cases h
 exact⟨_,rfl⟩
theorem zeZ{x y:D}{f:Int->Int->Bool}{r:R0}(h:zou f x y=some r):∃k,r = .im (.bl k):=by
 obtain⟨i,_,h⟩:=bS_ (show(asI x).bind _=_ from h)
 obtain⟨j,_,h⟩:=bS_ h
 cases h
 exact⟨_,rfl⟩
theorem zO(op:CmpOp)(x y:D)(r:R0)(h:zR op x y=some r):∃k,r = .im (.bl k):=by
 cases op with
 |Eq=>exact zbt (f:=id) h
 |NotEq=>exact zbt (f:=not) h
 |Lt=>exact zeZ h
 |LtE=>exact zeZ h
 |Gt=>exact zeZ h
 |GtE=>exact zeZ h
 |In=>exact zbt (f:=id) h
 |NotIn=>exact zbt (f:=not) h
 |Is=>exact zbt (f:=id) h
 |IsNot=>exact zbt (f:=not) h
section
variable{X:Cx}{kd:KD}{pins:List (Addr×Obj)}{σ:St}{H:Hp}{s:Shared}{O:Addr->Prop}
noncomputable def eqW(K:zD)(kd:KD)(O:Addr->Prop)(H:Hp)(n:Nat)(x:D)(u:Value):Bool:=@decide (∃v d,RelV v u/\Rp K kd O H v d/\eqF n d x=some true) (Classical.propDecidable _)
theorem zqh(I:Inv X pins σ H s)(hk:KdOk X kd){n:Nat}{x d:D}{v:V}{u:Value}{b:Bool}(r:RelV v u)(p:Rp X.K kd O H v d)(e:eqF n d x=some b):eqW X.K kd O H n x u=b:=by
 unfold eqW
 cases b with
 |true=>exact @zyM _ (Classical.propDecidable _) ⟨v,d,r,p,e⟩
 |false=>
  refine @zyE _ (Classical.propDecidable _) λ⟨v',d',r',p',e'⟩=>?_
  have:=r.inj r'
  subst this
  exact Bool.noConfusion (zpG I n _ _ _ _ _ _ p.vw p'.vw e e')
theorem zfa(I:Inv X pins σ H s)(hk:KdOk X kd){n:Nat}{x:D}{vs:List V}{us:List Value}{ds:List D}{b:Bool}(hv:Vals vs us)(h:RpL X.K kd O H vs ds)(e:anyF (λy=>eqF n y x) ds=some b):us.any (eqW X.K kd O H n x)=b:=
 RpL.ind (P:=λvs ds=>∀us b,Vals vs us->anyF (λy=>eqF n y x) ds=some b->us.any (eqW X.K kd O H n x)=b) (λus b hv e=>by cases e;cases hv;rfl) (λ{v d vs ds} a _ ih us b hv h=>by
  cases hv with
  |cons r t=>
   obtain⟨b1,h1,h⟩:=bS_ (show(eqF n _ x).bind _=_ from h)
   obtain⟨c1,h2,h⟩:=bS_ h
   cases h
   rw[List.any_cons,zqh I hk r a h1,ih _ _ t h2]) h us b hv e
theorem zaR{f:D->Option Bool}:∀{ds:List D}{b:Bool},anyF f ds=some b->∀d ∈ ds,∃c,f d=some c
 | [],_,_,d,hd=>by simp at hd
 |x::r,b,h,d,hd=>by
  obtain⟨b1,h1,h⟩:=bS_ (show(f x).bind _=_ from h)
  obtain⟨c1,h2,h⟩:=bS_ h
  rcases zzA.mp hd with e|e
  · subst e;exact⟨b1,h1⟩
  · exact zaR h2 d e
theorem zfd(I:Inv X pins σ H s)(hk:KdOk X kd){n:Nat}{A:Around}(hu:A.units+n<cLine){x:V}{v:Value}{d:D}(vx:Vw X.K kd O H x d)(rx:RelV x v){vs:List V}{us:List Value}{ds:List D}(hv:Vals vs us)(h:RpL X.K kd O H vs ds)(k:∀e ∈ ds,∃c,eqF n e d=some c):∀u ∈ us,SeqAt.EqAt A s u v (eqW X.K kd O H n d u):=
 RpL.ind (P:=λvs ds=>∀us,Vals vs us->(∀e ∈ ds,∃c,eqF n e d=some c)->∀u ∈ us,SeqAt.EqAt A s u v (eqW X.K kd O H n d u)) (λus hv _ u hu=>by cases hv;simp at hu) (λa q ih us hv h u hm=>by
  cases hv with
  |cons r t=>
   rcases zzA.mp hm with e|e
   · subst e
     obtain⟨c,hc⟩:=h _ zzD
     rw[zqh I hk r a hc]
     exact(ziE I n A _ _ _ _ _ _ _ hu a.vw vx r rx hc).eq
   · exact ih _ t (λe he=>h e (zzB _ he)) u e) h us hv k
theorem zfT{A:Around}{E:Value->Shared->Prop}{x:V}{v:Value}{b c:Bool}{d:D}{Q:Bool->Shared->Prop}(vx:Vw X.K kd O H x d)(rx:RelV x v)(e:isP d (.bl b)=some c)(h:Q c s):wpAny (model X.prog X.w) A (isSame v (.bool b)) Q E s:=by
 cases vx with
 |non=>cases rx;cases e;exact zxF h
 |bl k=>
  cases rx
  have e:some (k==b)=some c:=e
  cases e
  refine zxF ?_
  cases k<;>cases b<;>exact h
 |int=>obtain⟨t,rfl⟩:=rx;cases e;exact zxF h
 |str=>obtain⟨t,rfl⟩:=rx;cases e;exact zxF h
 |tup=>cases rx;cases e;exact zxF h
 |lst=>cases rx;cases e;exact zxF h
 |dct=>cases rx;cases e;exact zxF h
 |cl=>cases rx;cases e;exact zxF h
 |ob=>cases rx;cases e;exact zxF h
theorem zT(hk:KdOk X kd)(hu:X.A.units+100<cLine)(op:CmpOp):OpD X kd (compareOp op) (zR op):=by
 intro pins s σ H x y v u Q I rx ry h
 obtain⟨O,d,e,r,ht,vx,vy,he,q⟩:=h
 cases op with
 |Eq=>
  obtain⟨b,h1,he⟩:=bS_ (show(eqF 60 d e).bind _=_ from he)
  cases he
  exact(ziE I 60 X.A x y d e v u b (by omega) vx vy rx ry h1).rc _ _ _ _ (Za I (yN q (.bl _)) rfl)
 |NotEq=>
  obtain⟨b,h1,he⟩:=bS_ (show(eqF 60 d e).bind _=_ from he)
  cases he
  exact(ziE I 60 X.A x y d e v u b (by omega) vx vy rx ry h1).ne _ _ _ _ (Za I (yN q (.bl _)) rfl)
 |Lt=>
  obtain⟨i,j,rfl,rfl,he⟩:=Wk vx vy he
  cases he
  exact zvG pins s σ H _ _ v u Q I rx ry ⟨_,_,rfl,rfl,yN q (.bl _)⟩
 |LtE=>
  obtain⟨i,j,rfl,rfl,he⟩:=Wk vx vy he
  cases he
  exact zvu pins s σ H _ _ v u Q I rx ry ⟨_,_,rfl,rfl,yN q (.bl _)⟩
 |Gt=>
  obtain⟨i,j,rfl,rfl,he⟩:=Wk vx vy he
  cases he
  exact zuU pins s σ H _ _ v u Q I rx ry ⟨_,_,rfl,rfl,yN q (.bl _)⟩
 |GtE=>
  obtain⟨i,j,rfl,rfl,he⟩:=Wk vx vy he
  cases he
  exact zvb pins s σ H _ _ v u Q I rx ry ⟨_,_,rfl,rfl,yN q (.bl _)⟩
 |In=>
  obtain⟨b,h1,he⟩:=bS_ (show(inP d e).bind _=_ from he)
  cases he
  cases vy with
  |lst hs rl=>
   cases ry
   obtain⟨its,rv,p,_⟩:=I.list hs.sq
   refine SeqAt.in_listAt (eqW X.K kd O H 50 d) p.isList (λw hw=>zfd I hk (by show X.A.units+1+50<cLine;omega) vx rx rv rl (zaR h1) w (by simpa using hw)) ?_
   have:=zfa I hk rv rl h1
   rw[show its.toArray.any (eqW X.K kd O H 50 d)=b by rw[<-this];simp]
   exact Za (I) (yN q (.bl _)) rfl
  |tup rp hs rl=>
   cases ry
   obtain⟨its,rv,p,_⟩:=I.tuple hs
   refine SeqAt.in_tupleAt (eqW X.K kd O H 50 d) p (λw hw=>zfd I hk (by show X.A.units+1+50<cLine;omega) vx rx rv rl (zaR h1) w (by simpa using hw)) ?_
   have:=zfa I hk rv rl h1
   rw[show its.toArray.any (eqW X.K kd O H 50 d)=b by rw[<-this];simp]
   exact Za (I) (yN q (.bl _)) rfl
  |str z=>
   cases vx with
   |str i=>cases h1;exact znz pins s σ H _ _ v u Q I rx ry ⟨_,_,rfl,rfl,yN q (.bl _)⟩
   |_=>cases h1
  |dct hs rm=>
   cases ry
   obtain⟨k,k1,h1⟩:=bS_ h1
   cases h1
   obtain⟨z,hd,vs,rel,dd⟩:=zfD I hk hs
   have ek:x=kV k:=by
    cases vx with
    |int i=>cases k1;rfl
    |str i=>cases k1;rfl
    |_=>cases k1
   subst ek
   refine wpAny_in_of (zns rx) hd dd.mapOf ?_
   rw[<-(rel.val k).isSome_eq]
   rcases zjr k rm with⟨v1,d1,e1,e2,_⟩|⟨e1,e2⟩
   · rw[e1];rw[e2]at q;exact Za (I.tok _) (yN q (.bl _)) rfl
   · rw[e1];rw[e2]at q;exact Za (I.tok _) (yN q (.bl _)) rfl
  |_=>cases h1
 |NotIn=>
  obtain⟨b,h1,he⟩:=bS_ (show(inP d e).bind _=_ from he)
  cases he
  cases vy with
  |lst hs rl=>
   cases ry
   obtain⟨its,rv,p,_⟩:=I.list hs.sq
   refine SeqAt.notIn_listAt (eqW X.K kd O H 50 d) p.isList (λw hw=>zfd I hk (by show X.A.units+1+50<cLine;omega) vx rx rv rl (zaR h1) w (by simpa using hw)) ?_
   have:=zfa I hk rv rl h1
   rw[show its.toArray.any (eqW X.K kd O H 50 d)=b by rw[<-this];simp]
   exact Za (I) (yN q (.bl _)) rfl
  |tup rp hs rl=>
   cases ry
   obtain⟨its,rv,p,_⟩:=I.tuple hs
   refine SeqAt.notIn_tupleAt (eqW X.K kd O H 50 d) p (λw hw=>zfd I hk (by show X.A.units+1+50<cLine;omega) vx rx rv rl (zaR h1) w (by simpa using hw)) ?_
   have:=zfa I hk rv rl h1
   rw[show its.toArray.any (eqW X.K kd O H 50 d)=b by rw[<-this];simp]
   exact Za (I) (yN q (.bl _)) rfl
  |str z=>
   cases vx with
   |str i=>cases h1;exact ziu pins s σ H _ _ v u Q I rx ry ⟨_,_,rfl,rfl,yN q (.bl _)⟩
   |_=>cases h1
  |dct hs rm=>
   cases ry
   obtain⟨k,k1,h1⟩:=bS_ h1
   cases h1
   obtain⟨z,hd,vs,rel,dd⟩:=zfD I hk hs
   have ek:x=kV k:=by
    cases vx with
    |int i=>cases k1;rfl
    |str i=>cases k1;rfl
    |_=>cases k1
   subst ek
   refine wpAny_notIn_of (zns rx) hd dd.mapOf ?_
   rw[<-(rel.val k).isSome_eq]
   rcases zjr k rm with⟨v1,d1,e1,e2,_⟩|⟨e1,e2⟩
   · rw[e1];rw[e2]at q;exact Za (I.tok _) (yN q (.bl _)) rfl
   · rw[e1];rw[e2]at q;exact Za (I.tok _) (yN q (.bl _)) rfl
  |_=>cases h1
 |Is=>
  obtain⟨b,h1,he⟩:=bS_ (show(isP d e).bind _=_ from he)
  cases he
  cases vy with
  |non=>
   refine ztI pins s σ H _ _ v u Q I rx ry ⟨rfl, ?_⟩
   have:decide (x=V.non)=b:=by cases vx<;>(cases h1;rfl)
   rw[this]
   exact yN q (.bl b)
  |bl c=>
   cases ry
   exact zxE (zfT vx rx h1 (zxF (Za I (yN q (.bl _)) rfl)))
  |_=>cases h1
 |IsNot=>
  obtain⟨b,h1,he⟩:=bS_ (show(isP d e).bind _=_ from he)
  cases he
  cases vy with
  |non=>
   refine zqH pins s σ H _ _ v u Q I rx ry ⟨rfl, ?_⟩
   have:decide (x=V.non)=b:=by cases vx<;>(cases h1;rfl)
   rw[this]
   exact yN q (.bl _)
  |bl c=>
   cases ry
   exact zxE (zfT vx rx h1 (zxF (Za I (yN q (.bl _)) rfl)))
  |_=>cases h1
end
theorem zmX{K:zD}{kd:KD}{O:Addr->Prop}{H:Hp}{vs:List V}{ds:List D}{i:Int}{d:D}(r:RpL K kd O H vs ds)(h:atI ds i=some d):∃v,atI vs i=some v/\Rp K kd O H v d:=by
 unfold atI at h ⊢
 obtain⟨j,h1,h2⟩:=bS_ h
 rw[r.length,h1]
 exact r.get h2
def imR(o:Option D):Option R0:=o.bind λd=>some (.im d)
def ixP(x y:D):Option R0:=match x with
 | .lst xs=>(asI y).bind λi=>imR (atI xs i)
 | .tup xs=>(asI y).bind λi=>imR (atI xs i)
 | .str x=>(asI y).bind λi=>if x.length<=sizeLine then(atI x.cps.toList i).bind λc=>some (.im (.str ⟨#[c]⟩))else none
 | .dct kvs=>(zpq y).bind λk=>imR (zjk kvs k)
 |_=>none
theorem zgk{o:Option D}{r:R0}(h:imR o=some r):∃d,o=some d/\r = .im d:=by
 obtain⟨d,h1,h2⟩:=bS_ (show o.bind _=_ from h)
 cases h2
 exact⟨d,h1,rfl⟩
section
variable{X:Cx}{kd:KD}
theorem zpT{K:zD}{O:Addr->Prop}{H:Hp}{x:V}{d:D}{k:Key}(vx:Vw K kd O H x d)(e:zpq d=some k):x=kV k:=by
 cases vx with
 |int i=>cases e;rfl
 |str i=>cases e;rfl
 |_=>cases e
theorem zwq(hk:KdOk X kd):IxD X kd ixP:=by
 intro value slice pins s σ H x y v u Q I rx ry h hs
 obtain⟨O,d,e,r,ht,vx,vy,he,q⟩:=h
 cases vx with
 |lst hr rl=>
  obtain⟨i,h0,he⟩:=bS_ (show(asI e).bind _=_ from he)
  obtain⟨rfl,rfl⟩:=Vt vy h0
  obtain⟨d,h1,rfl⟩:=zgk he
  obtain⟨w,hw,rw'⟩:=zmX rl h1
  exact ziM value slice pins s σ H _ _ v u Q I rx ry ⟨_,_,_,w,rfl,rfl,hr.sq,hw,yN q rw'⟩ hs
 |tup rp hr rl=>
  obtain⟨i,h0,he⟩:=bS_ (show(asI e).bind _=_ from he)
  obtain⟨rfl,rfl⟩:=Vt vy h0
  obtain⟨d,h1,rfl⟩:=zgk he
  obtain⟨w,hw,rw'⟩:=zmX rl h1
  exact zuj value slice pins s σ H _ _ v u Q I rx ry ⟨_,_,_,w,rfl,rfl,hr,hw,yN q rw'⟩ hs
 |str z=>
  obtain⟨i,h0,he⟩:=bS_ (show(asI e).bind _=_ from he)
  obtain⟨rfl,rfl⟩:=Vt vy h0
  obtain⟨hz,he⟩:=ite_some' he
  obtain⟨c,h1,he⟩:=bS_ he
  cases he
  exact ztk value slice pins s σ H _ _ v u Q I rx ry ⟨_,_,c,rfl,rfl,hz,h1,yN q (.str _)⟩ hs
 |dct hr rm=>
  obtain⟨k,h1,he⟩:=bS_ (show(zpq e).bind _=_ from he)
  obtain⟨d,h2,rfl⟩:=zgk he
  cases rx
  obtain⟨z,hd,vs,rel,dd⟩:=zfD I hk hr
  have:=zpT vy h1
  subst this
  rcases zjr k rm with⟨v1,d1,e1,e2,rp⟩|⟨e1,e2⟩
  · rw[h2]at e2
    cases e2
    obtain⟨w',hw,rw'⟩:=zcS.some_of (v:=v1) (o:=valueAt vs k) (by rw[<-e1];exact rel.val k)
    exact tail_any dd.typeIs PySem.F.slot_dict_getitem.lookup (wpAny_getItem_of (zns ry) dd.mapOf hw ⟨v1,H,I.tok _,rw',yN q rp⟩) hs
  · rw[h2]at e2;cases e2
 |_=>cases he
def cutD(xs:List D)(lo hi:Option Int):List D:=(xs.drop (HT.sIx xs.length 0 lo)).take (HT.sIx xs.length xs.length hi-HT.sIx xs.length 0 lo)
theorem zmS{K:zD}{O:Addr->Prop}{H:Hp}{vs:List V}{ds:List D}(r:RpL K kd O H vs ds)(lo hi:Option Int):RpL K kd O H (zkJ vs lo hi) (cutD ds lo hi):=by
 unfold zkJ cutD
 rw[r.length]
 exact(r.drop _).take _
def slP(x:D)(lo hi:Option Int):Option R0:=match x with
 | .lst xs=>some (.fl (cutD xs lo hi))
 | .tup xs=>if HT.sIx xs.length 0 lo=0/\HT.sIx xs.length xs.length hi=xs.length then none else some (.im (.tup (cutD xs lo hi)))
 |_=>none
abbrev OF:=AS->Option (Option Int×AS)
def oN:OF:=λas=>some (none,as)
def oS(f:EF):OF:=λas=>(f as).bind λp=>(rvI p.1).bind λi=>some (some i,p.2)
def fSl(fa:EF)(fl fh:OF)(g:D->Option Int->Option Int->Option R0):EF:=λas=>(fa as).bind λp=>(fl p.2).bind λl=>(fh l.2).bind λh=>(p.1.frz.view h.2).bind λx=>(g x.1 l.1 h.1).bind λr=>(wrap x.2 r).bind λz=>some (z,h.2)
def alO(K:zD)(kd:KD)(f:OF):TO:=λσ H Q=>∃F B ad as o as',Rel K kd F B [] ad as σ H/\f as=some (o,as')/\
 ∀ad' H',Rel K kd F B [] ad' as' σ H'->Grow (Gw [] ad) H (Gw [] ad') H'->Q o H'
@[irreducible] def AO(X:Cx)(kd:KD)(e:Option Expr)(f:OF):Prop:=PO X e (alO X.K kd f)
theorem zqa{e:Option Expr}{t t':TO}(h:PO X e t)(k:∀σ H Q,t' σ H Q->t σ H Q):PO X e t':=λpins s σ H Q I q=>h pins s σ H Q I (k σ H Q q)
theorem Vk:AO X kd none oN:=by with_unfolding_all exact(zqa zqT λσ H Q h=>by
 obtain⟨F,B,ad,as,o,as',R,e,q⟩:=h
 cases e
 exact q ad H R Grow.refl)
theorem ztq{K:zD}{F B:Addr->Prop}{T:List Addr}{ad:Ad}{σ:St}{H:Hp}{v:V}{st:Bool}{c:Int}(h:v8 K kd F B T ad σ H v (.ow (.lf st (.int c)))):T=[]/\v = .int c:=by
 have h:RoS K kd F B (Gw T ad) H v (.lf st (.int c)) T:=h
 generalize hT:Gw T ad=G at h
 cases h with
 |lf rp=>cases rp;exact⟨rfl,rfl⟩
theorem ZS{a:Expr}{fa:EF}(ha:AE X kd a fa):AO X kd (some a) (oS fa):=by with_unfolding_all exact(zqa (zqR ha) λσ H Q h=>by
 obtain⟨F,B,ad,as,o,as',R,e,q⟩:=h
 obtain⟨⟨p,as1⟩,h1,e⟩:=bS_ (show(fa as).bind _=_ from e)
 obtain⟨i,e1,e⟩:=bS_ e
 obtain⟨st,rfl⟩:=zlC e1
 cases e
 refine⟨F,B,ad,as,_,_,R,h1,λv T' ad1 H1 R1 rv1 g1=>?_⟩
 obtain⟨rfl,rfl⟩:=ztq rv1
 exact⟨i,rfl,q ad1 H1 R1 g1⟩)
theorem zwo:SlR X (λx lo hi H Q=>∃O d r,(∀a,O a->H a≠none)/\Vw X.K kd O H x d/\slP d lo hi=some r/\RQ X.K kd O H Q r):=by
 intro pins s σ H x v vl vu lo hi sl Q I rx hs pl pu h
 obtain⟨O,d,r,ht,vx,he,q⟩:=h
 cases vx with
 |lst hr rl=>cases he;exact zqS pins s σ H _ v vl vu lo hi sl Q I rx hs pl pu ⟨_,_,rfl,hr.sq,ziZ q (zmS rl lo hi)⟩
 |tup rp hr rl=>
  have he:(if _ then none else some _:Option R0)=_:=he
  split at he
  · cases he
  · rename_i hw
    cases he
    exact ztd pins s σ H _ v vl vu lo hi sl Q I rx hs pl pu ⟨_,_,rfl,hr,by rw[rl.length];exact hw,zjE ht q (zmS rl lo hi)⟩
 |_=>cases he
theorem W3{a:Expr}{lo hi:Option Expr}{fa:EF}{fl fh:OF}{pos p2:Pos}(ha:AE X kd a fa)(hl:AO X kd lo fl)(hh:AO X kd hi fh):AE X kd (.Subscript a (.Slice lo hi none p2) pos) (fSl fa fl fh slP):=by with_unfolding_all exact(xF (zkW zwo ha hl hh) λσ H Q h=>by
 obtain⟨F,B,ad,as,r,as',R,e,q⟩:=h
 obtain⟨⟨p,as1⟩,h1,e⟩:=bS_ (show(fa as).bind _=_ from e)
 obtain⟨⟨l,as2⟩,h2,e⟩:=bS_ e
 obtain⟨⟨u,as3⟩,h3,e⟩:=bS_ e
 obtain⟨⟨d,lv⟩,h4,e⟩:=bS_ e
 obtain⟨r',h5,e⟩:=bS_ e
 obtain⟨z,h6,e⟩:=bS_ e
 cases e
 refine YK R h1 λv ad1 H1 R1 rv1 g1=>⟨F,B,ad1,as1,l,as2,R1,h2,λad2 H2 R2 g2=>⟨F,B,ad2,as2,u,_,R2,h3,λad3 H3 R3 g3=>?_⟩⟩
 exact⟨_,d,r',R3.tr _,v8.vw R3 ((rv1.grow g2).grow g3) h4,h5,VM R3 h6 λw T' H' R' rv' g'=>q w T' ad3 H' R' rv' (((g1.trans g2).trans g3).trans g')⟩)
def tyD:D->String
 | .non=>"NoneType" | .bl _=>"bool" | .int _=>"int" | .str _=>"str" | .tup _=>"tuple" | .lst _=>"list" | .dct _=>"dict"|_=>""
def zlp:D->Bool
 | .cl _=>false | .ob _ _ _=>false|_=>true
def zhG(t c:String):Bool:=t==c||(t=="bool"&&c=="int")
def zdg(c:String):Bool:=c=="int"||c=="bool"||c=="str"||c=="list"||c=="tuple"||c=="dict"
theorem ztx(K:zD)(d:D)(c:String)(h:zdg c=true)(ho:zlp d=true):PySem.W.kitOne K (.type (tyD d)) (.type c)=some (zhG (tyD d) c):=by
 have:c="int"\/c="bool"\/c="str"\/c="list"\/c="tuple"\/c="dict":=by
  unfold zdg at h
  simp only[Bool.or_eq_true,beq_iff_eq]at h
  rcases h with((((h|h)|h)|h)|h)|h<;>simp[h]
 rcases this with rfl|rfl|rfl|rfl|rfl|rfl<;>cases d<;>first|rfl|cases ho
theorem zub(hk:KdOk X kd){pins:List (Addr×Obj)}{σ:St}{H:Hp}{s:Shared}{O:Addr->Prop}{A:Around}{E:Value->Shared->Prop}{Q:Value->Shared->Prop}{c:String}{x:V}{u:Value}{d:D}(I:Inv X pins σ H s)(rx:RelV x u)(vx:Vw X.K kd O H x d)(hc:zdg c=true)(ho:zlp d=true)
 (h:∀tk,Q (.bool (zhG (tyD d) c)) {s with toks:=tk}):wpAny (model X.prog X.w) A (call (.builtin "isinstance") [u,.type c]) Q E s:=by
 have e:=ztx X.K d c hc ho
 cases vx with
 |non=>cases rx;exact PySem.W.kia_one PySem.W.kitx_none I.kIn True.intro e (λz=>nomatch z) h
 |bl y=>cases rx;exact PySem.W.kia_one PySem.W.kitx_bool I.kIn True.intro e (λz=>nomatch z) h
 |int i=>obtain⟨t,rfl⟩:=rx;exact PySem.W.kia_one PySem.W.kitx_int I.kIn True.intro e (λz=>nomatch z) h
 |str y=>obtain⟨t,rfl⟩:=rx;exact PySem.W.kia_one PySem.W.kitx_str I.kIn True.intro e (λz=>nomatch z) h
 |lst hr rl=>
  cases rx
  obtain⟨its,rv,⟨o,n,h1,h2,_⟩,_⟩:=I.list hr.sq
  exact PySem.W.kia_one PySem.W.kitx_list I.kIn ⟨o,h1,h2⟩ e (λz=>nomatch z) h
 |tup rp hr rl=>
  cases rx
  obtain⟨its,rv,⟨o,h1,h2,_⟩,_⟩:=I.tuple hr
  exact PySem.W.kia_one PySem.W.kitx_tuple I.kIn ⟨o,h1,h2⟩ e (λz=>nomatch z) h
 |dct hr rm=>
  cases rx
  obtain⟨z,hd,vs,rel,⟨o,es,ep,h1,h2,_⟩⟩:=zfD I hk hr
  exact PySem.W.kia_one PySem.W.kitx_dict I.kIn ⟨o,h1,h2.1⟩ e (λz=>nomatch z) h
 |cl=>cases ho
 |ob=>cases ho
end
def V8:List D->Option (List Int)
 | []=>some []
 | .int i::r=>(V8 r).bind λs=>some (i::s)
 |_::_=>none
def zuc:List Int->Int
 | []=>0
 |x::r=>r.foldl (λa b=>if a<b then b else a) x
theorem zhp:∀(r:List Int) (x:Int),r.foldl (λa b=>if a<b then b else a) x ∈ x::r/\∀a ∈ x::r,a<=r.foldl (λa b=>if a<b then b else a) x
 | [],x=>⟨by simp,by simp⟩
 |y::r,x=>by
  rw[List.foldl_cons]
  obtain⟨h1,h2⟩:=zhp r (if x<y then y else x)
  refine⟨?_,λa ha=>?_⟩
  · rcases zzA.mp h1 with e|e
    · rw[e];split<;>simp
    · exact zzB _ (zzB _ e)
  · have h3:=h2 _ zzD
    rcases zzA.mp ha with e|e
    · subst e;exact Int.le_trans (by split<;>omega) h3
    · rcases zzA.mp e with e|e
      · subst e;exact Int.le_trans (by split<;>omega) h3
      · exact h2 a (zzB _ e)
theorem zsf{ns:List Int}{M:Int}(h1:M ∈ ns)(h2:∀a ∈ ns,a<=M):zuc ns=M:=by
 cases ns with
 |nil=>simp at h1
 |cons x r=>
  obtain⟨k1,k2⟩:=zhp r x
  have a1:=k2 M h1
  have a2:=h2 _ k1
  show r.foldl _ x=M
  omega
def on1(f:D->Option R0)(ds:List D):Option R0:=match ds with
 | [x]=>f x
 |_=>none
theorem ziD{K:zD}{kd:KD}{O:Addr->Prop}{H:Hp}{f:D->Option R0}{xs:List V}{ds:List D}{r:R0}(vl:VwL K kd O H xs ds)(h:on1 f ds=some r):∃x d,xs=[x]/\Vw K kd O H x d/\f d=some r:=by
 cases vl with
 |nil=>cases h
 |cons a b=>
  cases b with
  |nil=>exact⟨_,_,rfl,a,h⟩
  |cons _ _=>cases h
def zwb:D->Option R0
 | .lst ds=>some (.im (.int ds.length))
 | .tup ds=>some (.im (.int ds.length))
 | .str x=>if x.length<=sizeLine then some (.im (.int x.length))else none
 | .dct kvs=>some (.im (.int kvs.length))
 |_=>none
def vZ:List D->Option R0:=on1 zwb
def zvY:D->Option R0
 | .int i=>some (.im (.int i))
 | .bl b=>some (.im (.int (if b then 1 else 0)))
 |_=>none
def tupP:List D->Option R0
 | [.lst ds]=>some (.im (.tup ds))
 | [.tup ds]=>some (.im (.tup ds))
 |_=>none
def dctP:List D->Option R0
 | [.dct kvs]=>some (.fd kvs)
 |_=>none
def zls(ds:List D):Option R0:=match ds with
 | [x,y]=>onI (λi j=>some (.im (.int (if j > i then j else i)))) x y
 | [x]=>(asL x).bind λds=>(V8 ds).bind λns=>if 0<ns.length then some (.im (.int (zuc ns)))else none
 |_=>none
def zqf:List D->Option R0
 | [.int i]=>some (.im (.int (if i<0 then -i else i)))
 |_=>none
theorem zde{K:zD}{kd:KD}{O:Addr->Prop}{H:Hp}{xs:List V}{d:D}(h:VwL K kd O H xs [d]):∃x,xs=[x]/\Vw K kd O H x d:=by
 cases h with
 |cons a b=>cases b;exact⟨_,rfl,a⟩
theorem zok{K:zD}{kd:KD}{O:Addr->Prop}{H:Hp}{vs:List V}{ds:List D}{ns:List Int}(h:RpL K kd O H vs ds)(e:V8 ds=some ns):vs=ns.map V.int:=
 RpL.ind (P:=λvs ds=>∀ns,V8 ds=some ns->vs=ns.map V.int) (λns e=>by cases e;rfl) (λ{v d vs ds} a _ ih ns e=>by
  cases d with
  |int i=>
   obtain⟨s,h1,h2⟩:=bS_ (show(V8 _).bind _=_ from e)
   cases h2
   cases a
   rw[ih _ h1]
   rfl
  |_=>cases e) h ns e
section
variable{X:Cx}{kd:KD}
theorem vA(hk:KdOk X kd):CallD X kd (.builtin "len") vZ:=by
 intro pins s σ H xs us Q I r h
 obtain⟨O,ds,z,ht,vl,he,q⟩:=h
 obtain⟨x,d,rfl,vx,he⟩:=ziD vl he
 cases vx with
 |lst hr rl=>cases he;exact zcV pins s σ H _ us Q I r ⟨_,_,rfl,.inl hr.sq,by rw[rl.length];exact yN q (.int _)⟩
 |tup rp hr rl=>cases he;exact zcV pins s σ H _ us Q I r ⟨_,_,rfl,.inr hr,by rw[rl.length];exact yN q (.int _)⟩
 |str y=>
  obtain⟨c,rfl⟩:=yg he
  exact ziS pins s σ H _ us Q I r ⟨_,rfl,c,yN q (.int _)⟩
 |dct hr rm=>
  cases he
  obtain⟨u,rfl,ru⟩:=vals1 r
  cases ru
  obtain⟨z,hd,vs,rel,dd⟩:=zfD I hk hr
  refine call_len_dict hd dd (by rw[<-rel.length];rw[sizeLine_eq]at z;omega) ?_
  rw[<-rel.length,rm.length]
  exact⟨.int _,H,I.tok _,⟨_,rfl⟩,yN q (.int _)⟩
 |_=>cases he
theorem Ve:CallD X kd (.type "tuple") tupP:=by
 intro pins s σ H xs us Q I r h
 obtain⟨O,ds,z,ht,vl,he,q⟩:=h
 unfold tupP at he
 split at he
 · cases he
   obtain⟨x,rfl,vx⟩:=zde vl
   cases vx with
   |lst hr rl=>exact zbE pins s σ H _ us Q I r ⟨_,_,rfl,.inl ⟨hr.sq,zjE ht q rl⟩⟩
 · cases he
   obtain⟨x,rfl,vx⟩:=zde vl
   cases vx with
   |tup rp hr rl=>exact zbE pins s σ H _ us Q I r ⟨_,_,rfl,.inr ⟨hr,yN q rp⟩⟩
 · cases he
theorem zob(hk:KdOk X kd):CallD X kd (.type "dict") dctP:=by
 intro pins s σ H xs us Q I r h
 obtain⟨O,ds,z,ht,vl,he,q⟩:=h
 unfold dctP at he
 split at he
 · cases he
   obtain⟨x,rfl,vx⟩:=zde vl
   cases vx with
   |dct hr rm=>
    obtain⟨u,rfl,ru⟩:=vals1 r
    cases ru
    obtain⟨z,hd,vs,rel,dd⟩:=zfD I hk hr
    refine kt_call_dict hd dd (by rw[<-rel.length];exact z) λh' dd' hs=>?_
    refine⟨.ref _,_,(I.laid (a:=s.heap.objs.size) (o:=.dK _) (t':=s.toks) (λb q hq=>?_) (zzL _) (zpk z (beq_eq_false_iff_ne.mpr (Ne.symm (zzO I.big))) rel dd')),rfl,zpz q rm _ (I.hok.fresh (zzL _))⟩
    exact(hs.2 b (zzO (zxH hq))).trans (zxG _ hq)
 · cases he
theorem znH:CallD X kd (.builtin "abs") zqf:=by
 intro pins s σ H xs us Q I r h
 obtain⟨O,ds,z,ht,vl,he,q⟩:=h
 unfold zqf at he
 split at he
 · cases he
   obtain⟨x,rfl,vx⟩:=zde vl
   cases vx
   exact zoF pins s σ H _ us Q I r ⟨_,rfl,yN q (.int _)⟩
 · cases he
theorem zdz(hc:X.calm=true):CallD X kd (.builtin "max") zls:=by
 intro pins s σ H xs us Q I r h
 obtain⟨O,ds,z,ht,vl,he,q⟩:=h
 cases vl with
 |nil=>cases he
 |cons vx vl=>
  cases vl with
  |nil=>
   obtain⟨ds,h0,he⟩:=bS_ (show(asL _).bind _=_ from he)
   cases ziL h0
   obtain⟨ns,h1,he⟩:=bS_ he
   obtain⟨c,rfl⟩:=yg he
   cases vx with
   |lst hr rl=>
    obtain⟨u,rfl,ru⟩:=vals1 r
    cases ru
    obtain⟨its,rv,p,_⟩:=I.list hr.sq
    rw[zok rl h1]at rv
    have hi:=intsAre_of rv
    obtain⟨ys,e⟩:=hi.allInts.items
    have hns:ns=ys.toList.map (·.1):=by rw[<-hi.numsOf,<-nums_intItems,<-e]
    have hsz:0<ys.size:=by
     have h3:=c;rw[hns,zS,zyR]at h3;exact h3
    have hl:=p.isList
    rw[e]at hl
    refine max_intList (I.ok.hd hc) hl hsz λv h' tk hv kp=>?_
    obtain⟨t,rfl⟩:=intItems_at hv
    obtain⟨k1,k2⟩:=argBest_gt (numAt ys) (ys.size-1)
    refine⟨.int (zuc ns),H,I.kept kp,⟨t, ?_⟩,yN q (.int _)⟩
    congr 1
    refine(zsf ?_ λa ha=>?_).symm
    · rw[hns,numAt_eq]
      have hlt:argBest (λi j=>decide (numAt ys i > numAt ys j)) (ys.size-1)<(ys.toList.map (·.1)).length:=by rw[zS,zyR];omega
      rw[zyD,zzC hlt]
      exact zyY hlt
    · rw[hns]at ha
      obtain⟨j,hj,rfl⟩:=List.getElem_of_mem ha
      have hj':=hj
      rw[zS,zyR]at hj
      have:=k2 j (by omega)
      rw[numAt_eq ys j,zyD,zzC hj']at this
      exact this
  |cons vy vl=>
   cases vl with
   |nil=>
    obtain⟨i,j,rfl,rfl,he⟩:=Wk vx vy he
    cases he
    exact znJ hc pins s σ H _ us Q I r ⟨_,_,rfl,yN q (.int _)⟩
   |cons _ _=>cases he
end
def v9(env:Env):List (Str×NameKind)->List (Str×Addr)->List (Str×Addr)
 | [],cs=>cs
 |(n,k)::r,cs=>v9 env r (if k == .free then((n,(env.cells.lookup n).getD 0)::cs)else cs)
theorem zbz{scope:Scope}{env:Env}(h:∀x ∈ scope.names,x.2 = .free->∃c,env.cells.lookup x.1=some c):closureFor scope env=pure (v9 env scope.names []):=by
 have go:∀(names:List (Str×NameKind)) (cs:List (Str×Addr)) (f:Str×NameKind->List (Str×Addr)->Sem (ForInStep (List (Str×Addr)))),
  (∀name kind cs,f (name,kind) cs=if kind == .free then(do let a <-cellOf env name;pure (.yield ((name,a)::cs)))else pure (.yield cs))->
  (∀x ∈ names,x.2 = .free->∃c,env.cells.lookup x.1=some c)->(forIn names cs f:Sem (List (Str×Addr)))=pure (v9 env names cs):=by
  intro names
  induction names with
  |nil=>intro cs f _ _;rfl
  |cons x r ih=>
   intro cs f hf hx
   obtain⟨n,k⟩:=x
   rw[List.forIn_cons,hf]
   unfold v9
   by_cases hk:(k == .free)=true
   · obtain⟨c,hc⟩:=hx (n,k) zzD (by simpa using hk)
     rw[if_pos hk,if_pos hk]
     have e:cellOf env n=pure c:=by unfold cellOf;rw[hc]
     rw[e,hc]
     exact ih _ f hf λy hy=>hx y (zzB _ hy)
   · rw[if_neg hk,if_neg hk]
     exact ih _ f hf λy hy=>hx y (zzB _ hy)
 simp only[closureFor]
 rw[go scope.names [] _ (λname kind cs=>?_) h]
 · rfl
 · rfl
theorem zim{env:Env}:∀(names:List (Str×NameKind)) (cs:List (Str×Addr)) (p:Str×Addr),p ∈ v9 env names cs->p ∈ cs\/((p.1,NameKind.free) ∈ names/\p.2=(env.cells.lookup p.1).getD 0)
 | [],_,_,h=>.inl h
 |(n,k)::r,cs,p,h=>by
  unfold v9 at h
  rcases zim r _ p h with h|h
  · by_cases hk:(k == .free)=true
    · rw[if_pos hk]at h
      rcases zzA.mp h with e|h
      · subst e
        have:k = .free:=by simpa using hk
        subst this
        exact .inr ⟨zzD,rfl⟩
      · exact .inl h
    · rw[if_neg hk]at h;exact .inl h
  · exact .inr ⟨zzB _ h.1,h.2⟩
theorem zfl{env:Env}:∀(names:List (Str×NameKind)) (cs:List (Str×Addr)) (p:Str×Addr),p ∈ cs->p ∈ v9 env names cs
 | [],_,_,h=>h
 |(n,k)::r,cs,p,h=>by
  unfold v9
  refine zfl r _ p ?_
  split
  · exact zzB _ h
  · exact h
theorem zhU{env:Env}:∀(names:List (Str×NameKind)) (cs:List (Str×Addr)) (x:Str),(x,NameKind.free) ∈ names->(x,(env.cells.lookup x).getD 0) ∈ v9 env names cs
 |(n,k)::r,cs,x,h=>by
  unfold v9
  rcases zzA.mp h with e|h
  · cases e
    exact zfl r _ _ (by simp)
  · exact zhU r _ x h
theorem WQ{α:Type}{x:Str}{a:α}:∀{l:List (Str×α)},(∀p ∈ l,p.1=x->p.2=a)->(∃b,(x,b) ∈ l)->l.lookup x=some a
 | [],_,h=>by obtain⟨_,h⟩:=h;cases h
 |(k,v)::r,u,h=>by
  rw[List.lookup_cons]
  cases hb:x==k with
  |true=>
   have:=u (k,v) zzD (beq_iff_eq.mp hb).symm
   exact congrArg some this
  |false=>
   refine WQ (λp hp=>u p (zzB _ hp)) ?_
   obtain⟨b,h⟩:=h
   rcases zzA.mp h with e|h
   · cases e;simp at hb
   · exact⟨b,h⟩
theorem zdv:∀(names:List (Str×NameKind)) (h:Heap) (acc:List (Str×Addr)) (p:Str×Addr),p ∈ cellsFrom h.objs.size names acc->
 p ∈ acc\/((p.1,NameKind.cell) ∈ names/\(pushCells h names).IsCell p.2 none/\h.objs.size<=p.2)
 | [],_,_,_,m=>.inl m
 |(n,k)::r,h,acc,p,m=>by
  unfold cellsFrom at m
  unfold pushCells
  split at m
  · rename_i hk
    rw[if_pos hk]
    have e:(h.push {cls:=.type "cell",data:=.cell none}).objs.size=h.objs.size+1:=zxP ..
    rw[<-e]at m
    rcases zdv r _ _ p m with m|⟨m1,m2,m3⟩
    · rcases zzA.mp m with e2|m
      · subst e2
        have:k = .cell:=by simpa using hk
        subst this
        refine .inr ⟨zzD, ?_,zzL _⟩
        have z:(h.push {cls:=.type "cell",data:=.cell none}).IsCell h.objs.size none:=⟨_,zxI _ rfl,rfl⟩
        exact z.keeps (pushCells_keeps r _)
      · exact .inl m
    · exact .inr ⟨zzB _ m1,m2,by rw[e]at m3;omega⟩
  · rename_i hk
    rw[if_neg hk]
    rcases zdv r h acc p m with m|⟨m1,m2,m3⟩
    · exact .inl m
    · exact .inr ⟨zzB _ m1,m2,m3⟩
theorem Vo:∀(names:List (Str×NameKind)) (n:Nat) (acc:List (Str×Addr)) (p:Str×Addr),p ∈ acc->p ∈ cellsFrom n names acc
 | [],_,_,_,m=>m
 |(_,k)::r,n,acc,p,m=>by
  unfold cellsFrom
  split
  · exact Vo r _ _ p (zzB _ m)
  · exact Vo r _ _ p m
theorem zdX:∀(names:List (Str×NameKind)) (n:Nat) (acc:List (Str×Addr)) (x:Str),(x,NameKind.cell) ∈ names->∃c,(x,c) ∈ cellsFrom n names acc
 |(y,k)::r,n,acc,x,m=>by
  unfold cellsFrom
  rcases zzA.mp m with e|m
  · cases e
    rw[if_pos (by decide)]
    exact⟨n,Vo r _ _ _ zzD⟩
  · split
    · exact zdX r _ _ x m
    · exact zdX r _ _ x m
theorem zdG:∀(names:List (Str×NameKind)) (n:Nat) (acc:List (Str×Addr)),(∀p ∈ acc,p.2<n)->(∀p ∈ acc,∀q ∈ acc,p.2=q.2->p.1=q.1)->∀p ∈ cellsFrom n names acc,∀q ∈ cellsFrom n names acc,p.2=q.2->p.1=q.1
 | [],_,_,_,h=>h
 |(y,k)::r,n,acc,lt,h=>by
  unfold cellsFrom
  split
  · refine zdG r (n+1) _ (λp m=>?_) (λp m q m' e=>?_)
    · rcases zzA.mp m with z|m
      · subst z;exact Nat.lt_succ_self _
      · exact zyZ (lt p m)
    · rcases zzA.mp m with z|m
      · rcases zzA.mp m' with z'|m'
        · rw[z,z']
        · subst z;have:=lt q m';rw[<-e]at this;exact absurd this (Nat.lt_irrefl _)
      · rcases zzA.mp m' with z'|m'
        · subst z';have:=lt p m;rw[e]at this;exact absurd this (Nat.lt_irrefl _)
        · exact h p m q m' e
  · exact zdG r n acc lt h
section
variable{M:Model}{A:Around}{E:Value->Shared->Prop}{s:Shared}
def zau(scope:Scope)(env:Env)(cl:List (Str×Addr))(L:Addr):Env:=
 {scope:=relabel scope env,locals:=L,globals:=env.globals,cells:=cellsFrom (L+1) scope.names cl,qual:=env.qual,func:=none,code:=env.code,frame:=env.frame,builtins:=env.builtins}
theorem zjB{scope:Scope}{env:Env}{cl:List (Str×Addr)}{Q:Env->Shared->Prop}
 (h:∀h' env',{env' with scope:=relabel scope env}=zau scope env cl s.heap.objs.size->env'.locals=s.heap.objs.size->(∀b o,s.heap.get? b=some o->h'.get? b=some o)->h'.Ns s.heap.objs.size (λ_=>none)->
  (∀p ∈ cellsFrom (s.heap.objs.size+1) scope.names cl,p ∈ cl\/((p.1,NameKind.cell) ∈ scope.names/\h'.IsCell p.2 none/\s.heap.objs.size+1<=p.2))->Q env' {s with heap:=h'}):
 wpAny M A (newFunctionEnv scope env.globals cl [] env.qual none .none (some env)) Q E s:=by
 simp only[newFunctionEnv,Option.isSome_some,if_true]
 refine zxE (wpAny_alloc ?_)
 refine zxE (wpAny_layCells _ (λname kind cells=>by cases hkc:kind==NameKind.cell<;>simp[hkc]) _ _ _ _ ?_)
 have e:(s.heap.push {cls:=.type "dict",data:=.dict #[]}).objs.size=s.heap.objs.size+1:=zxP ..
 refine zxE (zxF (zxF (h _ _ ?_ rfl (λb o q=>pushCells_keeps _ _ b o (zxG _ q)) ((Heap.Ns.new s.heap (.type "dict")).keeps (pushCells_keeps _ _)) λp m=>?_)))
 · unfold zau
   rw[<-e]
 · rw[<-e]at m
   rcases zdv _ _ _ p m with m|⟨m1,m2,m3⟩
   · exact .inl m
   · exact .inr ⟨m1,m2,by rw[e]at m3;exact m3⟩
end
abbrev vN(X:Cx)(N:List Str)(scope:Scope)(cl:List (Str×Addr))(s:Shared)(H:Hp)(fp:List Addr):Cx:=
 {X with N:=N,s₀:=s,H₀:=H,env:=zau scope X.env cl (s.heap.objs.size+1),outer:=X.stack,ex:=fp,fn:=λx=>scope.names.lookup x==some .cell,pn:=[],xe:=λ_ _=>False}
def zvc(σ:St):Option Nat->Option V
 |none=>none
 |some j=>(σ[j]?).getD none
def Yg(cap:List (Option Nat))(σ:St):St:=cap.map (zvc σ)
def YC(N XN:List Str)(names:List (Str×NameKind))(envNames:List (Str×NameKind))(cap:List (Option Nat)):Bool:=
 N.length==cap.length&&(N.zip cap).all (λp=>match p.2 with|none=>true|some j=>XN[j]? == some p.1&&names.contains (p.1,NameKind.free)) &&
 names.all (λp=>p.2 != .free||envNames.lookup p.1==some .cell||envNames.lookup p.1==some .free)&&decide (names.map (·.1)).Nodup
def PTs(X:Cx)(ifs:List Expr)(t:TT):Prop:=
 ∀(pins:List (Addr×Obj)) (s:Shared) (σ:St) (H:Hp) (Q:Bool->Hp->Prop),Inv X pins σ H s->t σ H Q->
  wpAny (model X.prog X.w) X.A (forIn ifs true λc r=>if r=true then do let ok <-isTrue c X.env (eval c X.env);pure (ForInStep.yield ok)else pure (ForInStep.yield r)) (TP X pins σ Q) X.xe s
theorem zrY{X:Cx}:PTs X [] (λ_ H Q=>Q true H):=λpins s σ H Q I h=>wpAny_tests_nil ⟨H,I,h⟩
theorem zse{X:Cx}{c:Expr}{t:TT}(h:PT X c t):PTs X [c] t:=λpins s σ H Q I q=>wpAny_tests_one (h pins s σ H Q I q)
def zpj(wi:TI)(cap:List (Option Nat))(g:TG)(tt:TT)(te:TE):TE:=λσ H Q=>wi σ H λJ H1=>∃W:Nat->Nat->List V->Hp->Prop,(∃m,W 0 m [] H1)/\∀i m ys H,W i m ys H->ys.length<=sizeLine/\
 ((J.stop i H/\∀p,H p=none->Q (.ref p) (upd H p (.lst ys)))\/(J.go i H/\∀x H',J.yld i H x H'->g x (Yg cap σ) H' λσ2 H2=>(∀(j:Nat) v,(Yg cap σ)[j]? = some (some v)->σ2[j]? = some (some v))/\
   tt σ2 H2 λb H3=>if b=true then ys.length<sizeLine/\te σ2 H3 λy H4=>∃m',m'<m/\W (i+1) m' (ys++[y]) H4 else ∃m',m'<m/\W (i+1) m' ys H3))
section
variable{prog:Program}{w:World}{A:Around}{E:Value->Shared->Prop}{R:Result->Shared->Prop}{s:Shared}
theorem zjh{elt target iter:Expr}{ifs:List Expr}{scope:Scope}{pos:Pos}{it acc:Value}{env:Env}(I:Nat->Shared->Prop)
 (turn:∀n s (E:Value->Shared->Prop),I n s->wpAny (model prog w) A (pyNext it) (λr s₁=>match r with
  |none=>R (.ok .next) s₁
  |some v=>wpAny (model prog w) A (letOwnedTupleGo target it v) (λ_ s₁=>wpAny (model prog w) A (assign target env v) (λ_ s₂=>
   wpAny (model prog w) A (forIn ifs true λc r=>if r=true then do let ok <-isTrue c env (eval c env);pure (ForInStep.yield ok)else pure (ForInStep.yield r)) (λok s₃=>
    if ok=true then wpAny (model prog w) A (eval elt env) (λx s₄=>
     wpAny (model prog w) A (call (.builtin "list.append") [acc,x]) (λ_ s₅=>∃m,m<n/\I m s₅) E s₄) E s₃
    else ∃m,m<n/\I m s₃) E s₂) E s₁) E s₁) E s)
 (n:Nat) (h:I n s):
 codeAny (model prog w) A (.compLoop (.ListComp elt [⟨target,iter,ifs,0⟩] scope pos) 0 it acc env) R s:=by
 refine codeAny_loop rfl I (λn s hI=>?_) n h
 show wpAny _ A ((compTurn (.ListComp elt [⟨target,iter,ifs,0⟩] scope pos) 0 it acc env).onRaise (λx=>do noteFrame x env;theTreesLotGoes x)) _ _ s
 refine wpAny_noted ?_
 rw[compTurn_list]
 refine zxE (wpAny_standAt (zxE (zxR (turn n s _ hI) (λr s₁ h₁=>?_) λ_ _ h'=>h')))
 cases r with
 |none=>exact zxF h₁
 |some v=>
  refine zxE (zxR h₁ (λ_ s₁ h₁=>?_) λ_ _ h'=>h')
  refine zxE (zxR h₁ (λ_ s₂ h₂=>zxE (zxR h₂ (λok s₃ h₃=>?_) λ_ _ h'=>h')) λ_ _ h'=>h')
  cases ok with
  |false=>exact zxF ⟨rfl,h₃⟩
  |true=>
   exact zxE (zxE (zxR h₃ (λx s₄ h₄=>zxE (zxR h₄ (λ_ s₅ h₅=>zxF (zxF ⟨rfl,h₅⟩)) λ_ _ h'=>h')) λ_ _ h'=>h'))
end
structure CapOk(N XN:List Str)(names:List (Str×NameKind))(envNames:List (Str×NameKind))(cap:List (Option Nat)):Prop where
 len:N.length=cap.length
 at_:∀(i:Nat) x (j:Nat),N[i]? = some x->cap[i]? = some (some j)->XN[j]? = some x/\(x,NameKind.free) ∈ names
 fr:∀p ∈ names,p.2 = .free->envNames.lookup p.1=some .cell\/envNames.lookup p.1=some .free
 nd:(names.map (·.1)).Nodup
theorem zke{N XN:List Str}{names envNames:List (Str×NameKind)}{cap:List (Option Nat)}(h:YC N XN names envNames cap=true):CapOk N XN names envNames cap:=by
 unfold YC at h
 simp only[zyA,beq_iff_eq,List.all_eq_true,decide_eq_true_eq]at h
 obtain⟨⟨⟨h1,h2⟩,h3⟩,h4⟩:=h
 refine⟨h1,λi x j e1 e2=>?_,λp hp e=>?_,h4⟩
 · have m:(x,some j) ∈ N.zip cap:=zzY (i:=i) (by rw[List.getElem?_zip_eq_some];exact⟨e1,e2⟩)
   have:=h2 _ m
   simp only[zyA,beq_iff_eq]at this
   exact⟨this.1,by simpa using this.2⟩
 · have:=h3 p hp
   rw[e]at this
   simpa using this
theorem zjq{names:List (Str×NameKind)}(h:(names.map (·.1)).Nodup){x:Str}{k k':NameKind}(m:(x,k) ∈ names)(m':(x,k') ∈ names):k=k':=by
 induction names with
 |nil=>cases m
 |cons p r ih=>
  obtain⟨h1,h2⟩:=zzU.mp (show(p.1::r.map (·.1)).Nodup from h)
  rcases zzA.mp m with e|m
  · rcases zzA.mp m' with e'|m'
    · rw[<-e]at e';cases e';rfl
    · exact absurd (zxC.mpr ⟨_,m',by rw[<-e]⟩) h1
  · rcases zzA.mp m' with e'|m'
    · exact absurd (zxC.mpr ⟨_,m,by rw[<-e']⟩) h1
    · exact ih h2 m m'
theorem zdW{names:List (Str×NameKind)}(h:(names.map (·.1)).Nodup){x:Str}{k:NameKind}(m:(x,k) ∈ names):names.lookup x=some k:=
 WQ (λp hp e=>by obtain⟨y,k'⟩:=p;cases(show y=x from e);exact zjq h hp m) ⟨k,m⟩
theorem zaf{env:Env}{scope:Scope}(x:Str):(relabel scope env).names.lookup x=(scope.names.lookup x).map λk=>if(k == .free&&env.scope.kind == .function&&env.kindOf x==some .cell)=true then NameKind.cell else k:=by
 unfold relabel
 show(scope.names.map _).lookup x=_
 generalize scope.names=names
 induction names with
 |nil=>rfl
 |cons p r ih=>
  obtain⟨n,k⟩:=p
  rw[zyQ,List.lookup_cons (k:=n) (as:=r)]
  cases hb:x==n with
  |true=>
   have e:x=n:=beq_iff_eq.mp hb
   subst e
   show List.lookup x ((if(k==NameKind.free&&env.scope.kind == .function&&env.kindOf x==some .cell)=true then(x,NameKind.cell)else(x,k))::_)=_
   show _=some (if(k==NameKind.free&&env.scope.kind == .function&&env.kindOf x==some .cell)=true then NameKind.cell else k)
   split
   · rw[List.lookup_cons,hb]
   · rw[List.lookup_cons,hb]
  |false=>
   show List.lookup x ((if(k==NameKind.free&&env.scope.kind == .function&&env.kindOf n==some .cell)=true then(n,NameKind.cell)else(n,k))::_)=_
   split
   · rw[List.lookup_cons,hb];exact ih
   · rw[List.lookup_cons,hb];exact ih
theorem zlA{X:Cx}{pins:List (Addr×Obj)}{σ:St}{H:Hp}{s:Shared}{N:List Str}{scope:Scope}{cap:List (Option Nat)}{fp:List Addr}{h':Heap}(I:Inv X pins σ H s)(C:CapOk N X.N scope.names X.env.scope.names cap)(hk:scope.kind = .function)
 (hf:∀b ∈ fp,zeO X pins H b) (ho:∀b ∈ fp,∃o,s.heap.get? b=some o)
 (old:∀b o,s.heap.get? b=some o->h'.get? b=some o) (ns:h'.Ns (s.heap.objs.size+1) (λ_=>none))
 (hc:∀p ∈ cellsFrom (s.heap.objs.size+1+1) scope.names (v9 X.env scope.names []),p ∈ v9 X.env scope.names []\/((p.1,NameKind.cell) ∈ scope.names/\h'.IsCell p.2 none/\s.heap.objs.size+1+1<=p.2)):
 Inv (vN X N scope (v9 X.env scope.names []) s H fp) [] (Yg cap σ) H {s with heap:=h'}:=by
 have has:∀x,(x,NameKind.free) ∈ scope.names->∃c,X.env.cells.lookup x=some c:=λx m=>I.ok.has x (C.fr _ m rfl)
 have clo:∀p ∈ v9 X.env scope.names [],X.env.cells.lookup p.1=some p.2/\(p.1,NameKind.free) ∈ scope.names:=λp m=>by
  rcases zim _ _ p m with z|⟨z1,z2⟩
  · cases z
  · obtain⟨c,e⟩:=has _ z1
    rw[e]at z2
    exact⟨by rw[e];exact congrArg some z2.symm,z1⟩
 have look:∀x c,(cellsFrom (s.heap.objs.size+1+1) scope.names (v9 X.env scope.names [])).lookup x=some c->(X.env.cells.lookup x=some c/\(x,NameKind.free) ∈ scope.names)\/((x,NameKind.cell) ∈ scope.names/\h'.IsCell c none/\s.heap.objs.size+1+1<=c):=λx c e=>by
  rcases hc _ (mem_of_lookup e)with m|m
  · exact .inl (clo _ m)
  · exact .inr m
 have lt:∀x c,X.env.cells.lookup x=some c->c<s.heap.objs.size:=λx c e=>by obtain⟨v,z⟩:=I.cell x c e;exact z.lt
 have lookF:∀x,(x,NameKind.free) ∈ scope.names->∃c,(cellsFrom (s.heap.objs.size+1+1) scope.names (v9 X.env scope.names [])).lookup x=some c/\X.env.cells.lookup x=some c:=λx m=>by
  obtain⟨c,e⟩:=has x m
  have m1:=Vo scope.names (s.heap.objs.size+1+1) _ _ (zhU (env:=X.env) scope.names [] x m)
  refine⟨c,WQ (λp hp ep=>?_) ⟨_,m1⟩,e⟩
  rcases hc p hp with z|z
  · have:=(clo p z).1
    rw[ep,e]at this
    exact(zzX this).symm
  · rw[ep]at z
    exact absurd (zjq C.nd z.1 m) (by decide)
 have kinds:∀x,((relabel scope X.env).names.lookup x=some .cell\/(relabel scope X.env).names.lookup x=some .free)->(x,NameKind.free) ∈ scope.names\/(x,NameKind.cell) ∈ scope.names:=λx h=>by
  rw[zaf]at h
  cases e:scope.names.lookup x with
  |none=>rw[e]at h;rcases h with h|h<;>cases h
  |some k=>
   have m:=mem_of_lookup e
   cases k with
   |free=>exact .inl m
   |cell=>exact .inr m
   |_=>rw[e]at h;rcases h with h|h<;>(simp at h)
 have lsz:s.heap.objs.size+1<h'.objs.size:=ns.lt
 refine⟨⟨I.ok.mod,hk,I.ok.glob,I.ok.blt,zyV _, ?_, ?_, ?_,I.ok.hd,I.ok.frames,.inl rfl, ?_,I.bs,zzM I.ok.bsz I.sz, ?_, ?_,I.stack,I.stkFree⟩,rfl,I.bare,(Un.kept old),⟨_,ns, ?_⟩, ?_,I.hok.fresh (zyV _), ?_,(λ_ z=>nomatch z),I.hok.kept old, ?_⟩
 · intro x y c e1 e2
   refine zdG scope.names (s.heap.objs.size+1+1) _ (λp m=>?_) (λp m q m' e=>?_) (x,c) (mem_of_lookup e1) (y,c) (mem_of_lookup e2) rfl
   · exact zyZ (zyZ (lt _ _ (clo p m).1))
   · refine I.ok.inj _ _ _ (clo p m).1 ?_
     rw[e];exact(clo q m').1
 · intro x h
   rcases kinds x h with m|m
   · obtain⟨c,e,_⟩:=lookF x m;exact⟨c,e⟩
   · obtain⟨c,e⟩:=zdX scope.names (s.heap.objs.size+1+1) (v9 X.env scope.names []) x m
     cases q:(cellsFrom (s.heap.objs.size+1+1) scope.names (v9 X.env scope.names [])).lookup x with
     |some c'=>exact⟨c',q⟩
     |none=>
      exfalso
      have:=List.lookup_eq_none_iff.mp q (x,c) e
      simp at this
 · intro x c hx e
   have hx:(scope.names.lookup x==some .cell)=true:=hx
   have m:=mem_of_lookup (beq_iff_eq.mp hx)
   rcases look x c e with z|z
   · exact absurd (zjq C.nd z.2 m) (by decide)
   · exact zzM (zzM (zyV _) (zyV _)) z.2.2
 · intro b hb
   obtain⟨o,e⟩:=ho b hb
   refine⟨zzO (zyZ (zxH e)),λx c ec=>?_⟩
   rcases look x c ec with z|z
   · exact(hf b hb).2.2.2.2.1 x c z.1
   · have:=zxH e
     intro q;subst q
     exact absurd (zzI this (zzM (zzM (zyV _) (zyV _)) z.2.2)) (Nat.lt_irrefl _)
 · intro b o e hb
   rcases(hf b hb).2.2.2.1 with z|z
   · exact I.ok.noex b o e z
   · exact absurd (zzI (zxH e) (zzM I.ok.bsz z)) (Nat.lt_irrefl _)
 · intro b hb hm
   rcases zzA.mp (I.stkSub b hm)with z|z
   · exact(hf b hb).2.1 z
   · exact(hf b hb).2.2.1 z
 · intro i x v e1 e2 e3
   have e2:(Yg cap σ)[i]? = some (some v):=e2
   unfold Yg at e2
   rw[zzG]at e2
   cases ec:cap[i]? with
   |none=>rw[ec]at e2;cases e2
   |some c=>
    cases c with
    |none=>rw[ec]at e2;cases e2
    |some j=>
     rw[ec]at e2
     have e2:(σ[j]?).getD none=some v:=zzX e2
     obtain⟨xn,m⟩:=C.at_ i x j e1 ec
     have es:σ[j]? = some (some v):=by
      cases q:σ[j]? with
      |none=>rw[q]at e2;cases e2
      |some y=>rw[q]at e2;exact congrArg some e2
     have kf:=C.fr _ m rfl
     obtain⟨mm,hn,hl⟩:=I.loc
     obtain⟨u,r,l⟩:=hl j x v xn es (by rcases kf with k|k;exact .inr (.inl k);exact .inr (.inr k))
     refine⟨u,r,.inr ⟨?_, ?_⟩⟩
     · show(relabel scope X.env).names.lookup x=some .cell\/(relabel scope X.env).names.lookup x=some .free
       rw[zaf,zdW C.nd m]
       show some (if _ then _ else _)=_\/some (if _ then _ else _)=_
       split
       · exact .inl rfl
       · exact .inr rfl
     · obtain⟨c,ec,eo⟩:=lookF x m
       refine⟨c,ec, ?_⟩
       rcases l with⟨k1,_⟩|⟨_,c2,e4,z⟩
       · have k1:X.env.scope.names.lookup x=some .local:=k1
         rcases kf with k|k<;>(rw[k1]at k;cases k)
       · rw[eo]at e4;cases e4
         exact z.keeps old
 · intro x c e
   rcases look x c e with z|z
   · obtain⟨v,q⟩:=I.cell x c z.1;exact⟨v,q.keeps old⟩
   · exact⟨none,z.2.1⟩
 · intro x c e
   rcases look x c e with z|z
   · exact I.freeC x c z.1
   · exact I.hok.fresh (zzM (zzM (zyV _) (zyV _)) z.2.2)
 · show(Yg cap σ).length=N.length
   unfold Yg
   rw[zS,C.len]
abbrev lobj(its:List Value):Obj:={cls:=.type "list",data:=.seq its.toArray its.length}
section
variable{X:Cx}{pins:List (Addr×Obj)}{σ:St}{H2:Hp}{s2:Shared}{elt tg iter:Expr}{ifs:List Expr}{scope:Scope}{pos:Pos}{N:List Str}{cap:List (Option Nat)}{g:TG}{tt:TT}{te:TE}{wi:TI}
set_option maxHeartbeats 1000000
theorem zgF{J:It}{it:Addr}{fp:List Addr}{tn:Nat->Heap->Prop}{Q:VK}{R:Value->Addr->Result->Shared->Prop}{E:Value->Shared->Prop}
 (hc:X.calm=true) (C:CapOk N X.N scope.names X.env.scope.names cap) (hk:scope.kind = .function)
 (hg:∀cl s H fp,PG (vN X N scope cl s H fp) tg g) (ht:∀cl s H fp,PTs (vN X N scope cl s H fp) ifs tt) (he:∀cl s H fp,PE (vN X N scope cl s H fp) elt te)
 (I2:Inv X pins σ H2 s2) (T:Turn X.prog X.w X.K tg J fp it tn) (st2:tn 0 s2.heap) (f2:∀b ∈ fp,zeO X pins H2 b)
 (W:Nat->Nat->List V->Hp->Prop) (m0:Nat) (w0:W 0 m0 [] H2)
 (turn:∀i m ys H,W i m ys H->ys.length<=sizeLine/\((J.stop i H/\∀p,H p=none->Q (.ref p) (upd H p (.lst ys)))\/(J.go i H/\∀x H',J.yld i H x H'->g x (Yg cap σ) H' λσ2 H2=>(∀(j:Nat) v,(Yg cap σ)[j]? = some (some v)->σ2[j]? = some (some v))/\
  tt σ2 H2 λb H3=>if b=true then ys.length<sizeLine/\te σ2 H3 λy H4=>∃m',m'<m/\W (i+1) m' (ys++[y]) H4 else ∃m',m'<m/\W (i+1) m' ys H3)))
 (fin:∀ys H3 s1 m,Inv X pins σ (upd H3 s2.heap.objs.size (.lst ys)) s1->s1.heap.Ns (s2.heap.objs.size+1) m->zeO X pins (upd H3 s2.heap.objs.size (.lst ys)) (s2.heap.objs.size+1)->
  Q (.ref s2.heap.objs.size) (upd H3 s2.heap.objs.size (.lst ys))->R (.ref s2.heap.objs.size) (s2.heap.objs.size+1) (.ok .next) s1):
 wpAny (model X.prog X.w) X.A (newList []) (λacc s₃=>wpAny (model X.prog X.w) X.A (newFunctionEnv scope X.env.globals (v9 X.env scope.names []) [] X.env.qual none .none (some X.env)) (λcenv s₄=>
  codeAny (model X.prog X.w) X.A (.compStart (.ListComp elt [⟨tg,iter,ifs,0⟩] scope pos) 0 (.ref it) acc {cenv with scope:=relabel scope X.env}) (R acc cenv.locals) s₄) E s₃) E s2:=by
 refine zxJ (zjB λh' env' eE eL old hns hcells=>?_)
 have e1:(s2.heap.push {cls:=.type "list",dict:=none,data:=.seq ([]:List Value).toArray}).objs.size=s2.heap.objs.size+1:=zxP ..
 dsimp only at eE eL old hns hcells
 rw[e1]at eE eL hns hcells
 have hD0:(s2.heap.push {cls:=.type "list",dict:=none,data:=.seq ([]:List Value).toArray}).get? s2.heap.objs.size=some (lobj []):=zxI _ rfl
 have hD:h'.get? s2.heap.objs.size=some (lobj []):=old _ _ hD0
 have old':∀b o,s2.heap.get? b=some o->h'.get? b=some o:=λb o q=>old b o (zxG _ q)
 have fex:∀b ∈ fp,∃o,s2.heap.get? b=some o:=λb hb=>by obtain⟨o,e,_⟩:=T.obj _ _ st2 b hb;exact⟨o,e⟩
 have flt:∀b ∈ fp,b<s2.heap.objs.size:=λb hb=>by obtain⟨o,e⟩:=fex b hb;exact zxH e
 have I':=zlA I2 C hk f2 fex old' hns hcells
 rw[eE,eL]
 generalize hX:vN X N scope (v9 X.env scope.names []) s2 H2 fp=X' at I'
 have xP:X'.prog=X.prog:=by rw[<-hX]
 have xw:X'.w=X.w:=by rw[<-hX]
 have xK:X'.K=X.K:=by rw[<-hX]
 have xA:X'.A=X.A:=by rw[<-hX]
 have xe:X'.env=zau scope X.env (v9 X.env scope.names []) (s2.heap.objs.size+1):=by rw[<-hX]
 have xL:X'.env.locals=s2.heap.objs.size+1:=by rw[xe];rfl
 have xfs:X'.fs=frs X.stack:=by rw[<-hX]
 have xex:X'.ex=fp:=by rw[<-hX]
 have xs:X'.s₀=s2:=by rw[<-hX]
 have xH:X'.H₀=H2:=by rw[<-hX]
 have xpn:X'.pn=[]:=by rw[<-hX]
 have xc:X'.calm=true:=by rw[<-hX];exact hc
 have xE:X'.xe=λ_ _=>False:=by rw[<-hX]
 have hg':PG X' tg g:=by rw[<-hX];exact hg _ _ _ _
 have ht':PTs X' ifs tt:=by rw[<-hX];exact ht _ _ _ _
 have he':PE X' elt te:=by rw[<-hX];exact he _ _ _ _
 have H2D:H2 s2.heap.objs.size=none:=I2.hok.fresh (zzL _)
 have Dfs:s2.heap.objs.size ∉ X'.fs:=by
  rw[xfs]
  intro hm
  rcases zzA.mp (I2.stkSub _ hm)with z|z
  · exact absurd I2.lt (by rw[<-z];exact Nat.lt_irrefl _)
  · exact I2.nofs (zzL _) z
 have DL:s2.heap.objs.size≠X'.env.locals:=by rw[xL];exact zzO (Nat.lt_succ_self _)
 have pinD:∀{σ':St}{H':Hp}{s':Shared}{its:List Value}{ps:List (Addr×Obj)},Inv X' ps σ' H' s'->s'.heap.get? s2.heap.objs.size=some (lobj its)->H' s2.heap.objs.size=none->Inv X' [(s2.heap.objs.size,lobj its)] σ' H' s':=λI e n=>
  I.pins_of λp hp=>by
   cases zzP.mp hp
   exact⟨e,n,DL,Dfs,λv z=>by cases z⟩
 have stat:∀{H':Hp}{its:List Value},(∀b ∈ fp,H' b=none)->∀b ∈ fp,zeO X' [(s2.heap.objs.size,lobj its)] H' b:=λhn b hb=>by
  refine⟨hn b hb, ?_, ?_,.inl (by rw[xex];exact hb),(I'.ok.exf b (by rw[xex];exact hb)).2,λp hp=>?_⟩
  · exact(I'.ok.exf b (by rw[xex];exact hb)).1
  · exact I'.ok.exfs b (by rw[xex];exact hb)
  · rw[xpn,List.nil_append]at hp
    cases zzP.mp hp
    exact Nat.ne_of_gt (flt b hb)
 have loop:∀(n:Nat) (s':Shared),(∃i ys its H3,Inv X' [(s2.heap.objs.size,lobj its)] (Yg cap σ) H3 s'/\tn i s'.heap/\(∀b ∈ fp,H3 b=none)/\Vals ys its/\W i n ys H3)->
  codeAny (model X.prog X.w) X.A (.compLoop (.ListComp elt [⟨tg,iter,ifs,0⟩] scope pos) 0 (.ref it) (.ref s2.heap.objs.size) (zau scope X.env (v9 X.env scope.names []) (s2.heap.objs.size+1)))
   (R (.ref s2.heap.objs.size) (s2.heap.objs.size+1)) s':=by
  intro n s' h0
  refine zjh (λn s'=>∃i ys its H3,Inv X' [(s2.heap.objs.size,lobj its)] (Yg cap σ) H3 s'/\tn i s'.heap/\(∀b ∈ fp,H3 b=none)/\Vals ys its/\W i n ys H3) ?_ n h0
  clear h0 n s'
  rintro n s3 E' ⟨i,ys,its,H3,I3,st3,fr3,rv3,w3⟩
  obtain⟨hz,hstep⟩:=turn i n ys H3 w3
  rcases hstep with⟨stop,qn⟩|⟨go,step⟩
  · have:=T.done X' xP xw xK xc i _ s3 _ H3 E' I3 (stat fr3) st3 stop
    rw[xA]at this
    refine zxR this (λr s4 ⟨hr,I4⟩=>?_) λ_ _ z=>z
    subst hr
    obtain⟨gD,nD,_⟩:=I4.pin (s2.heap.objs.size,lobj its) (by rw[xpn];simp)
    obtain⟨m,hn,_⟩:=I4.loc
    rw[xL]at hn
    have b4:=I4.base
    rw[xfs,xex,xH,xs]at b4
    have nL:H3 (s2.heap.objs.size+1)=none:=by have:=I4.free;rw[xL]at this;exact this
    have neD:∀b o,s2.heap.get? b=some o->b≠s2.heap.objs.size:=λb o e=>zzO (zxH e)
    have neH:∀b u,H2 b=some u->b≠s2.heap.objs.size:=λb u e z=>by rw[z,H2D]at e;cases e
    have ne3:∀b u,H3 b=some u->b≠s2.heap.objs.size:=λb u e z=>by rw[z,nD]at e;cases e
    have hok4:=I4.hok
    rw[xP,xw]at hok4
    refine fin ys H3 s4 m (I2.call' (ch:=fp) ?_ ⟨b4.keep,b4.slot,λb o e n hx=>?_,b4.there,λb xs e=>?_,λb o u e=>?_,λb ps e=>?_⟩ ?_ I4.bare λb hb=>?_) hn (I2.fpOk (zyV _) (by rw[yj (Nat.ne_of_gt (Nat.lt_succ_self _))];exact nL)) (qn _ nD)
    · have:=I4.os;rw[xs]at this;exact this
    · rw[yj (neD b o e)];exact b4.free b o e n hx
    · rw[yj (neH b _ e)];exact b4.tups b xs e
    · rw[yj (neH b _ e)];exact b4.frzs b o u e
    · rw[yj (neH b _ e)];exact b4.tbls b ps e
    · intro b u e
      by_cases hb:b=s2.heap.objs.size
      · subst hb
        rw[yP]at e
        cases e
        exact⟨hz,its,its.length,rv3,gD⟩
      · rw[yj hb]at e
        exact(hok4 b u e).stay (λc v _ q=>q) (λc q=>by rw[yj (ne3 c _ q)];exact q) λc xs q=>by rw[yj (ne3 c _ q)];exact q
    · obtain⟨f0,f1,f3,f4,f5,f6⟩:=f2 b hb
      exact⟨f4,f1,f5,f6⟩
  · have:=T.item X' xP xw xK xc i _ s3 _ H3 E' I3 (stat fr3) st3 go
    rw[xA]at this
    refine zxR this (λr s4 ⟨u,hr,h4⟩=>?_) λ_ _ z=>z
    subst hr
    refine zxR h4 (λ_ s5 ⟨x,H5,I5,r5,y5,st5,fr5⟩=>?_) λ_ _ z=>z
    have I5':=I5.pinned (stat fr5) (T.obj _ _ st5)
    have h6:=hg' _ s5 _ H5 x u _ I5' r5 (step x H5 y5)
    rw[xP,xw,xA,xe,xE]at h6
    refine zxR h6 (λ_ s6 ⟨σ6,H6,I6,cap6,q6⟩=>?_) λ_ _ z=>z.elim
    have h7:=ht' _ s6 σ6 H6 _ I6 q6
    rw[xP,xw,xA,xe,xE]at h7
    refine zxR h7 (λb s7 ⟨H7,I7,q7⟩=>?_) λ_ _ z=>z.elim
    have keep:∀{H8:Hp}{s8:Shared},Inv X' ([(s2.heap.objs.size,lobj its)]++zgJ fp s5.heap) σ6 H8 s8->Inv X' [(s2.heap.objs.size,lobj its)] (Yg cap σ) H8 s8/\tn (i+1) s8.heap/\∀b ∈ fp,H8 b=none:=λ{H8 s8} I8=>by
     refine⟨I8.unpinned.weak ?_ cap6,T.keep _ _ _ st5 λb hb o e=>(I8.pin (b,o) (zzJ _ (zzJ _ (VV hb e)))).1,λb hb=>?_⟩
     · rw[I3.len];exact I8.len.symm
     · obtain⟨o,e,d⟩:=T.obj _ _ st5 b hb
       exact(I8.pin (b,o) (zzJ _ (zzJ _ (VV hb e)))).2.1
    cases b with
    |false=>
     obtain⟨m',hm,w7⟩:=q7
     obtain⟨k1,k2,k3⟩:=keep I7
     exact⟨m',hm,i+1,ys,its,H7,k1,k2,k3,rv3,w7⟩
    |true=>
     obtain⟨hz2,q7⟩:=q7
     have h8:=he' _ s7 σ6 H7 _ I7 q7
     rw[xP,xw,xA,xe,xE]at h8
     show wpAny _ _ _ _ _ _
     refine zxR h8 (λyv s8 ⟨y,H8,I8,ry,m',hm,w8⟩=>?_) λ_ _ z=>z.elim
     obtain⟨k1,k2,k3⟩:=keep I8
     obtain⟨gD,nD,_⟩:=k1.pin (s2.heap.objs.size,lobj its) (by rw[xpn];simp)
     have hl:=rv3.length
     refine append_at gD (λh9 sb gD9=>?_) (by rw[zzF];omega)
     have I9:Inv X' [] (Yg cap σ) H8 {s8 with heap:=h9}:=(k1.pins_of (pins':=[]) (λ_ z=>nomatch z)).turned (t':=s8.toks) (it:=s2.heap.objs.size) (λb o hb e=>(sb.2 b hb).trans e) nD DL (.inr (by rw[xs];exact zzL _)) (λx c ec z=>by
      obtain⟨v,o,ho,hd⟩:=k1.cell x c ec
      rw[z,gD]at ho
      cases ho
      cases hd) (λp hp=>by rw[xpn]at hp;cases hp)
     have gD9':h9.get? s2.heap.objs.size=some (lobj (its++[yv])):=by
      rw[gD9]
      congr 1
      show({cls:=.type "list",data:=.seq (its.toArray.push yv) (its.length+1)}:Obj)={cls:=.type "list",data:=.seq (its++[yv]).toArray (its++[yv]).length}
      rw[zzH,List.length_singleton,List.push_toArray]
     refine⟨m',hm,i+1,ys++[y],its++[yv],H8,pinD I9 gD9' nD,T.keep _ _ _ k2 λb hb o e=>(sb.2 b (zzO (flt b hb))).trans e,k3,rv3.append (.cons ry .nil),w8⟩
 have start:∃i ys its H3,Inv X' [(s2.heap.objs.size,lobj its)] (Yg cap σ) H3 {s2 with heap:=h'}/\tn i h'/\(∀b ∈ fp,H3 b=none)/\Vals ys its/\W i m0 ys H3:=
  ⟨0,[],[],H2,pinD I' hD H2D,T.keep _ _ _ st2 λb hb o e=>old' b o e,λb hb=>(f2 b hb).1,.nil,w0⟩
 exact codeAny_compStart_list (loop m0 _ start) (T.self _ 0 _ _ _ (T.keep _ _ _ st2 λb hb o e=>old' b o e) (loop m0 _ start))
theorem zrP(hc:X.calm=true)(hi:PI X tg iter wi)(hk:scope.kind = .function)(hcap:YC N X.N scope.names X.env.scope.names cap=true)
 (hg:∀cl s H fp,PG (vN X N scope cl s H fp) tg g) (ht:∀cl s H fp,PTs (vN X N scope cl s H fp) ifs tt) (he:∀cl s H fp,PE (vN X N scope cl s H fp) elt te)
 (hs:∀x,foldedSetIterable iter X.env x=pure x):PE X (.ListComp elt [⟨tg,iter,ifs,0⟩] scope pos) (zpj wi cap g tt te):=by
 intro pins s σ H Q I h
 have C:=zke hcap
 rw[eval_ListComp]
 refine wpAny_comprehension_free (use:=none) rfl hs (zbz λx m e=>I.ok.has x.1 (C.fr x m e)) hk (λy m e=>zdW C.nd (by rw[<-e];exact m)) ?_
 refine thn (hi pins s σ H _ I h) λv s1 h1=>thn h1 λitv s2 h2=>?_
 obtain⟨it,fp,tn,J,H2,e,I2,T,st2,f2,W,⟨m0,w0⟩,turn⟩:=h2
 subst e
 refine zgF (R:=λacc C r s'=>compPost (model X.prog X.w) X.A X.xe none (EP X pins σ Q) acc C r s') hc C hk hg ht he I2 T st2 f2 W m0 w0 turn λys H3 s3 m I3 hn fl q=>?_
 refine⟨m,hn,λh' sb=>?_⟩
 obtain⟨f0,f1,f3,f4,f5,f6⟩:=fl
 exact⟨.ref s2.heap.objs.size,_,I3.turned (t':=s3.toks) (λb o hb e=>(sb.2 b hb).trans e) f0 f1 f4 f5 f6,rfl,q⟩
theorem zsj{i:Nat}{y:Str}{py spos:Pos}(hN:X.N.Nodup)(hiy:X.N[i]? = some y)(hy:Loc X.env.scope y)(hf:X.fn y=true\/X.env.scope.names.lookup y=some .local)
 (hsw:swapsWith (.ListComp elt [⟨tg,iter,ifs,0⟩] scope pos) (some (.Name y py)) spos.line X.env=pure true)
 (hc:X.calm=true) (hi:PI X tg iter wi) (hk:scope.kind = .function) (hcap:YC N X.N scope.names X.env.scope.names cap=true)
 (hg:∀cl s H fp,PG (vN X N scope cl s H fp) tg g) (ht:∀cl s H fp,PTs (vN X N scope cl s H fp) ifs tt) (he:∀cl s H fp,PE (vN X N scope cl s H fp) elt te)
 (hs:∀x,foldedSetIterable iter X.env x=pure x):PS X (.Assign [.Name y py] (.ListComp elt [⟨tg,iter,ifs,0⟩] scope pos) spos) (zuv (zpj wi cap g tt te) (zjL i)):=by
 intro pins s σ H D I h
 have C:=zke hcap
 rw[exec_Assign_Name_used _ _ _ _ hsw]
 refine zxE (wpAny_standAt (zxE ?_))
 show wpAny _ X.A (do let _ <-comprehension (.ListComp elt [⟨tg,iter,ifs,0⟩] scope pos) scope X.env _ (newList []) false (eval iter X.env) (some (assign (.Name y py) X.env))) _ _ s
 refine zxE (zxR (wpAny_comprehension_free (use:=some (assign (.Name y py) X.env)) (Q:=λ_ s'=>SP X pins D .next s') rfl hs (zbz λx m e=>I.ok.has x.1 (C.fr x m e)) hk (λy m e=>zdW C.nd (by rw[<-e];exact m)) ?_) (λ_ s' hq=>zxF (zxF hq)) λ_ _ e=>e)
 refine thn (hi pins s σ H _ I h) λv s1 h1=>thn h1 λitv s2 h2=>?_
 obtain⟨it,fp,tn,J,H2,e,I2,T,st2,f2,W,⟨m0,w0⟩,turn⟩:=h2
 subst e
 refine zgF (Q:=λx H1=>zjL i x σ H1 D.nx) (R:=λacc C r s'=>compPost (model X.prog X.w) X.A X.xe (some (assign (.Name y py) X.env)) (λ_ s'=>SP X pins D .next s') acc C r s') hc C hk hg ht he I2 T st2 f2 W m0 w0 turn λys H3 s3 m I3 hn fl q=>?_
 obtain⟨f0,f1,f3,f4,f5,f6⟩:=fl
 refine wpAny_assign_Name (zhM I3 hN hiy hy (v:=.ref s2.heap.objs.size) rfl (λs4 I4 ⟨a,sb,ha⟩=>?_) hf)
 refine⟨m,hn.sameBut sb (λz=>?_),λh' sb'=>?_⟩
 · rcases ha with ha|ha
   · exact f1 (z.trans ha)
   · exact f5 y a ha z.symm
 · exact⟨_,_,I4.turned (t':=s4.toks) (λb o hb e=>(sb'.2 b hb).trans e) f0 f1 f4 f5 f6,q⟩
end
structure ItC(K:zD)(kd:KD)(F:Addr->Prop)(H:Hp)(J:It)(ds:List It1):Prop where
 all:∀(H2:Hp) (T:Addr->Prop),(∀b u,H b=some u->H2 b=some u)->(∀a,T a->H a=none/\H2 a≠none)->∀i,(i<ds.length->J.go i H2)/\(ds.length<=i->J.stop i H2)/\
  ∀v H3,J.yld i H2 v H3->(∀b o,H2 b=some o->H3 b=some o)/\∀x,ds[i]? = some x->Rp K kd (λa=>x.1=true/\(F a\/T a)) H3 v x.2
def alC(K:zD)(kd:KD)(f:IF):TI:=λσ H R=>∃F B ad as ds as',Rel K kd F B [] ad as σ H/\f as=some (ds,as')/\
 ∀J ad' H',Rel K kd F B [] ad' as' σ H'->Grow (Gw [] ad) H (Gw [] ad') H'->ItC K kd (Lv F B (Gw [] ad') true) H' J ds->R J H'
@[irreducible] def AIc(X:Cx)(kd:KD)(tg iter:Expr)(f:IF):Prop:=PI X tg iter (alC X.K kd f)
def zdq(os:List O):List It1:=os.map λo=>match o with | .lf st d=>(st,d)|o=>(false,o.toD)
def zvQ(as:AS):RV->Option (List It1)
 | .ow o=>ziq (o.str,o.toD)
 | .bo i=>match as[i]? with
  |some (some (.nd .ls os))=>some (zdq os)
  |some (some (.nd .tp os))=>some (zdq os)
  |_=>none
def zcg(f:EF):IF:=λas=>(f as).bind λp=>(zvQ p.2 p.1).bind λds=>some (ds,p.2)
section
variable{K:zD}{kd:KD}{F B:Addr->Prop}{G:Addr->Prop}{T:List Addr}{ad:Ad}{as:AS}{σ:St}{H H':Hp}
inductive RpC(K:zD)(kd:KD)(F:Addr->Prop)(H:Hp):List V->List It1->Prop
 |nil:RpC K kd F H [] []
 |cons {v:V}{x:It1}{vs:List V}{ds:List It1}:Rp K kd (λa=>x.1=true/\F a) H v x.2->RpC K kd F H vs ds->RpC K kd F H (v::vs) (x::ds)
theorem RpC.length{vs:List V}{ds:List It1}(h:RpC K kd F H vs ds):vs.length=ds.length:=by
 induction h with
 |nil=>rfl
 |cons _ _ ih=>exact congrArg (· + 1) ih
theorem RpC.get{vs:List V}{ds:List It1}{i:Nat}{x:It1}(h:RpC K kd F H vs ds)(e:ds[i]? = some x):∃v,vs[i]? = some v/\Rp K kd (λa=>x.1=true/\F a) H v x.2:=by
 induction h generalizing i with
 |nil=>simp at e
 |cons h r ih=>
  cases i with
  |zero=>simp at e;subst e;exact⟨_,rfl,h⟩
  |succ i=>
   obtain⟨v,h1,h2⟩:=ih (i:=i) (by simpa using e)
   exact⟨v,by simpa using h1,h2⟩
theorem Rp.since{Ob:Addr->Prop}{v:V}{d:D}{T:Addr->Prop}(k:∀b u,H b=some u->H' b=some u)(hT:∀a,T a->H a=none)(h:Rp K kd Ob H v d):Rp K kd (Un2 Ob T) H' v d:=
 Rp.grow (F:=Ob) (W:=λ_=>False) (W':=T) (H':=H') ⟨λb u q _=>k b u q,λb z=>.inr (hT b z)⟩ (h.less λa z=>z.elim id False.elim)
theorem zgo{st:Bool}{vs:List V}{ds:List D}(h:RpL K kd (Lv F B G st) H vs ds):RpC K kd (Lv F B G true) H vs (kids st ds):=
 RpL.ind (P:=λvs ds=>RpC K kd (Lv F B G true) H vs (kids st ds)) .nil (λ{v d vs ds} h _ ih=>by
  refine .cons (x:=(yo d||st,d)) ?_ ih
  cases e:yo d with
  |true=>exact h.flat e
  |false=>
   refine h.less λa z=>?_
   have zs:st=true:=z.1
   rw[zs];exact z.2) h
theorem zst{vs:List V}{os:List O}{fp:List Addr}(h:Yh K kd F B G H vs os fp):RpC K kd (Lv F B G true) H vs (zdq os):=
 RoL.ind (P:=λvs os _=>RpC K kd (Lv F B G true) H vs (zdq os)) .nil (λ{v o vs os fp fq} h _ ih=>by
  have ha:=zjA h
  refine .cons ?_ ih
  cases h with
  |lf rp=>exact rp.less λa z=>(by have zs:=z.1;dsimp only at zs;rw[zs];exact z.2)
  |ls=>exact ha.less λa z=>nomatch z.1
  |dc=>exact ha.less λa z=>nomatch z.1
  |ob=>exact ha.less λa z=>nomatch z.1
  |tp=>exact ha.less λa z=>nomatch z.1) h
theorem zfq{a:Addr}{vs:List V}{ds:List It1}(h:SqL K H a vs)(r:RpC K kd F H vs ds):ItC K kd F H (Itl K a) ds:=⟨λH3 T k hT i=>by
 have hr3:SqL K H3 a vs:=by
  rcases h with(h|⟨o,h⟩)|h
  · exact .inl (.inl (k _ _ h))
  · exact .inl (.inr ⟨o,k _ _ h⟩)
  · exact .inr h
 refine⟨λhi=>?_,λhi=>⟨_,hr3,by rw[r.length];exact hi⟩,λv H4 hy=>?_⟩
 · obtain⟨u,hu,_⟩:=r.get (zzC hi)
   exact⟨_,u,hr3,hu⟩
 · obtain⟨rfl,hv⟩:=hy
   refine⟨λ_ _ z=>z,λd hd=>?_⟩
   obtain⟨u,hu,ru⟩:=r.get hd
   have:=hv _ hr3
   rw[hu]at this
   cases this
   exact(ru.since k λa z=>(hT a z).1).less λa z=>z.2.elim (λy=>.inl ⟨z.1,y⟩) .inr⟩
theorem zmp{a:Addr}{vs:List V}{ds:List It1}(h:SqT K H a vs)(r:RpC K kd F H vs ds):ItC K kd F H (Itt K a) ds:=⟨λH3 T k hT i=>by
 have hr3:SqT K H3 a vs:=by
  rcases h with(h|⟨o,h⟩)|h
  · exact .inl (.inl (k _ _ h))
  · exact .inl (.inr ⟨o,k _ _ h⟩)
  · exact .inr h
 refine⟨λhi=>?_,λhi=>⟨_,hr3,by rw[r.length];exact hi⟩,λv H4 hy=>?_⟩
 · obtain⟨u,hu,_⟩:=r.get (zzC hi)
   exact⟨_,u,hr3,hu⟩
 · obtain⟨rfl,hv⟩:=hy
   refine⟨λ_ _ z=>z,λd hd=>?_⟩
   obtain⟨u,hu,ru⟩:=r.get hd
   have:=hv _ hr3
   rw[hu]at this
   cases this
   exact(ru.since k λa z=>(hT a z).1).less λa z=>z.2.elim (λy=>.inl ⟨z.1,y⟩) .inr⟩
theorem zqE(lo:Int)(n:Nat):ItC K kd F H (Itr lo n) (wD lo n):=⟨λH2 T k hT i=>by
 have hl:(wD lo n).length=n:=by unfold wD;simp
 refine⟨λhi=>by rw[hl]at hi;exact hi,λhi=>by rw[hl]at hi;exact hi,λv H3 hy=>?_⟩
 obtain⟨rfl,rfl⟩:=hy
 refine⟨λ_ _ z=>z,λd hd=>?_⟩
 have hi:i<n:=by rw[<-hl];exact(zzE.mp hd).1
 unfold wD at hd
 rw[zzG,List.getElem?_range hi]at hd
 cases hd
 exact .int _⟩
end
theorem zfZ{X:Cx}{kd:KD}{tg e:Expr}{fa:EF}(he:AE X kd e fa):AIc X kd tg e (zcg fa):=by
 with_unfolding_all (
 intro pins s σ H R I h
 obtain⟨F,B,ad,as,ds,as',Rl,e,q⟩:=h
 obtain⟨⟨p,as1⟩,h1,e⟩:=bS_ (show(fa as).bind _=_ from e)
 obtain⟨ys,h2,e⟩:=bS_ e
 cases e
 cases p with
 |ow o=>
  have h2:ziq (o.str,o.toD)=some ds:=h2
  generalize hd:o.toD=d at h2
  cases d with
  |lst xs=>
   cases h2
   refine zix he pins s σ H R I ⟨F,B,ad,as,_,as1,Rl,h1,λv T1 ad1 H1 R1 rv1 g1=>?_⟩
   have rp:=zlu R1 rv1
   rw[hd]at rp
   cases rp with
   |lst hn hr rl=>exact⟨_,rfl,⟨_,.inl hr⟩,q _ ad1 H1 R1.drop (g1.trans (Grow.less Gw.drop)) (zfq (.inl hr) (zgo rl))⟩
   |lstK a b c rl=>exact⟨_,rfl,⟨_,.inr ⟨_,_,_,a,rfl,rfl,rfl,b,c⟩⟩,q _ ad1 H1 R1.drop (g1.trans (Grow.less Gw.drop)) (zfq (.inr ⟨_,_,_,a,rfl,rfl,rfl,b,c⟩) (zgo rl))⟩
  |tup xs=>
   cases h2
   refine zlJ he pins s σ H R I ⟨F,B,ad,as,_,as1,Rl,h1,λv T1 ad1 H1 R1 rv1 g1=>?_⟩
   have rp:=zlu R1 rv1
   rw[hd]at rp
   have go:∃a ys,v = .ref a/\SqT X.K H1 a ys/\RpL X.K kd (Lv F B (Gw [] ad1) o.str) H1 ys xs:=by
    cases rp with
    |tup n h r=>exact⟨_,_,rfl,.inl h,r⟩
    |tupK a b c e f r=>exact⟨_,_,rfl,.inr ⟨_,_,_,a,b,c,e,f⟩,r⟩
   obtain⟨a,ys,rfl,hs,rl⟩:=go
   exact⟨_,rfl,⟨_,hs⟩,q _ ad1 H1 R1.drop (g1.trans (Grow.less Gw.drop)) (zmp hs (zgo rl))⟩
  |_=>cases h2
 |bo i=>
  have h2:(match as1[i]? with|some (some (.nd .ls os))=>some (zdq os)|some (some (.nd .tp os))=>some (zdq os)|_=>none)=some ds:=h2
  cases k:as1[i]? with
  |none=>rw[k]at h2;cases h2
  |some s0=>
   rw[k]at h2
   match s0,h2,k with
   |some (.nd .ls os),h2,k=>
    cases h2
    refine zix he pins s σ H R I ⟨F,B,ad,as,_,as1,Rl,h1,λv T1 ad1 H1 R1 rv1 g1=>?_⟩
    obtain⟨rfl,hs⟩:=rv1
    obtain⟨w,hw,ro⟩:=R1.sl i _ k
    rw[hs]at hw
    cases hw
    generalize hfp:ad1 i=fp at ro
    cases ro with
    |ls hH rl=>exact⟨_,rfl,⟨_,.inl (.inl hH)⟩,q _ ad1 H1 R1 g1 (zfq (.inl (.inl hH)) (zst rl))⟩
   |some (.nd .tp os),h2,k=>
    cases h2
    refine zlJ he pins s σ H R I ⟨F,B,ad,as,_,as1,Rl,h1,λv T1 ad1 H1 R1 rv1 g1=>?_⟩
    obtain⟨rfl,hs⟩:=rv1
    obtain⟨w,hw,ro⟩:=R1.sl i _ k
    rw[hs]at hw
    cases hw
    generalize hfp:ad1 i=fp at ro
    cases ro with
    |tp n hH rl=>exact⟨_,rfl,⟨_,.inl (.inl hH)⟩,q _ ad1 H1 R1 g1 (zmp (.inl (.inl hH)) (zst rl))⟩)
theorem Xl{X:Cx}{kd:KD}{tg a:Expr}{pos:Pos}{fr:AF}{p:Pos}(hg:Gl X "range")(hm:X.mg "range"=none)(ha:AA X kd [a] fr)(hs:starEach [a] X.env=[(false,eval a X.env)]):AIc X kd tg (.Call (.Name "range" p) [a] [] pos) (xR fr xO):=by
 with_unfolding_all (
 intro pins s σ H R I h
 obtain⟨F,B,ad,as,ds,as',Rl,e,q⟩:=h
 obtain⟨⟨ps,as1⟩,h1,e⟩:=bS_ (show(fr as).bind _=_ from e)
 obtain⟨⟨xs,lv⟩,h2,e⟩:=bS_ e
 obtain⟨ys,h3,e⟩:=bS_ e
 cases e
 obtain⟨j,rfl,h3⟩:=zmM h3
 · obtain⟨hj,e3⟩:=yg h3
   cases e3
   refine zhK hg hm ha hs pins s σ H R I ⟨F,B,ad,as,ps,_,Rl,h1,λvs ad1 H1 R1 rv1 g1=>?_⟩
   have vl:=zcQ R1 rv1 h2
   cases vl with
   |cons v1 v2=>
    cases v2
    cases v1
    exact⟨j,rfl,hj.1,hj.2,q _ ad1 H1 R1 g1 (zqE 0 _)⟩)
def ztz(as:AS):Option Nat->Option O
 |none=>none
 |some j=>match as[j]? with
  |some (some (.lf st d))=>some (.lf st d)
  |some (some o)=>some (.lf false o.toD)
  |_=>none
def zbw(cap:List (Option Nat))(as:AS):AS:=cap.map (ztz as)
def vU(g:GF)(tt:TF)(fe:EF)(as0:AS):List It1->Option (List O)
 | []=>some []
 |x::r=>(g x as0).bind λas1=>(tt as1).bind λb=>if b.1=true then(fe b.2).bind λp=>(toO p.2 p.1).bind λq=>if q.1.str=true then(vU g tt fe as0 r).bind λos=>some (q.1::os)else none
  else vU g tt fe as0 r
def wu(fi:IF)(cap:List (Option Nat))(g:GF)(tt:TF)(fe:EF):EF:=λas=>(fi as).bind λp=>if p.1.length<=sizeLine then(vU g tt fe (zbw cap p.2) p.1).bind λos=>some (.ow (.nd .ls os),p.2)else none
def Yx:TF:=λas=>some (true,as)
section
variable{K:zD}{kd:KD}{F B:Addr->Prop}{T:List Addr}{ad:Ad}{as:AS}{σ:St}{H H':Hp}{cap:List (Option Nat)}
theorem zqW(R:Rel K kd F B [] ad as σ H)(k:∀b u,H b=some u->H' b=some u)(hT:∀a ∈ T,H a=none)(hT':∀a ∈ T,H' a≠none):
 Rel K kd (Un2 (Lv F B (Gw [] ad) true) (· ∈ T)) (λ_=>False) [] (λ_=>[]) (zbw cap as) (Yg cap σ) H':=by
 have no:∀a,¬Gw [] (λ_=>[]) a:=λa z=>z.elim (λy=>nomatch y) λ⟨_,y⟩=>nomatch y
 have kn:∀a,H a≠none->H' a≠none:=λa z=>by
  cases e:H a with
  |none=>exact absurd e z
  |some u=>rw[k a u e];simp
 have up:∀{st:Bool}{v:V}{d:D},Rp K kd (λa=>st=true/\Lv F B (Gw [] ad) true a) H v d->Rp K kd (Lv (Un2 (Lv F B (Gw [] ad) true) (· ∈ T)) (λ_=>False) (Gw [] λ_=>[]) st) H' v d:=λ{st v d} h=>by
  have:=Rp.grow (F:=λa=>st=true/\Lv F B (Gw [] ad) true a) (W:=λ_=>False) (W':=(· ∈ T)) (H':=H') ⟨λb u q _=>k b u q,λb z=>.inr (hT b z)⟩ (h.less λa z=>z.elim id False.elim)
  refine this.less λa z=>?_
  rcases z with(⟨z1,z2⟩|z)|z
  · rcases z2 with z2|z2
    · exact .inl ⟨z1,z2⟩
    · exact .inr z2
  · exact z.elim
  · exact(no a z).elim
 refine⟨by unfold zbw Yg;rw[zS,zS],λ_ _=>rfl,λ_=>zyH,(λ_ _ _ z=>nomatch z),zyH,(λ_ _ _ z=>nomatch z),λa z=>z.elim (λy=>kn a (R.trk true a y)) (hT' a),(λ_ z=>z.elim),λa z=>(no a z).elim,λi s e=>?_⟩
 unfold zbw at e
 rw[zzG]at e
 obtain⟨c,hc,rfl⟩:=zzV.mp e
 have es:(Yg cap σ)[i]? = some (zvc σ c):=by
  unfold Yg
  rw[zzG,hc]
  rfl
 rw[es]
 cases c with
 |none=>rfl
 |some j=>
  show zgr _ _ _ _ _ _ (match as[j]? with|some (some (.lf st d))=>some (.lf st d)|some (some o)=>some (.lf false o.toD)|_=>none) _ _
  cases k2:as[j]? with
  |none=>rfl
  |some s0=>
   cases s0 with
   |none=>rfl
   |some o=>
    obtain⟨v,hv,ro⟩:=R.sl j _ k2
    cases o with
    |lf st d=>
     have e0:ad j=[]:=by
      generalize hfp:ad j=fp at ro
      cases ro
      rfl
     rw[e0]at ro
     refine⟨v,by show some ((σ[j]?).getD none)=_;rw[hv];rfl,.lf (up ?_)⟩
     exact(ziI ro).less λa z=>by have zs:st=true:=z.1;show Lv F B (Gw [] ad) st a;rw[zs];exact z.2
    |nd kk os=>exact⟨v,by show some ((σ[j]?).getD none)=_;rw[hv];rfl,.lf (up ((zjA ro).less λa z=>nomatch z.1))⟩
theorem zpc{S:List Nat}{fi:IF}{g:GF}{tt:TF}{fe:EF}{Q:VK}(hS:∀i ∈ S,cap[i]? = some none)(h:al K kd (wu fi cap g tt fe) σ H Q):
 zpj (alC K kd fi) cap (alG K kd S g) (alT K kd tt) (al K kd fe) σ H Q:=by
 obtain⟨F,B,ad,as,r,as',R,e,q⟩:=h
 obtain⟨⟨ds,as1⟩,h1,e⟩:=bS_ (show(fi as).bind _=_ from e)
 by_cases hz:ds.length<=sizeLine
 · have e:(if ds.length<=sizeLine then(vU g tt fe (zbw cap as1) ds).bind λos=>some (RV.ow (.nd .ls os),as1)else none)=some (r,as'):=e
   rw[if_pos hz]at e
   obtain⟨os,h2,e⟩:=bS_ e
   cases e
   refine⟨F,B,ad,as,ds,as',R,h1,λJ ad1 H1 R1 g1 it=>?_⟩
   refine⟨λi m ys H3=>m+i=ds.length/\∃T os1 os2,os=os1++os2/\vU g tt fe (zbw cap as') (ds.drop i)=some os2/\os1.length<=i/\T.Nodup/\(∀a ∈ T,H1 a=none/\H3 a≠none)/\(∀b u,H1 b=some u->H3 b=some u)/\
    RoL (λ_ v d=>Rp K kd (Un2 (Lv F B (Gw [] ad1) true) (· ∈ T)) H3 v d) (λa=>¬Un2 (Lv F B (Gw [] ad1) true) (· ∈ T) a) H3 ys os1 T,⟨ds.length,rfl,[],[],os,rfl,h2,zzL _,zyH,(λ_ m=>nomatch m),(λ_ _ z=>z),.nil⟩, ?_⟩
   rintro i m ys H3 ⟨hm,T,os1,os2,eo,ec,hl,tnd,tf,k3,rl⟩
   obtain⟨i1,i2,i3⟩:=it.all H3 (· ∈ T) k3 tf i
   have yl:=rl.length
   refine⟨by omega, ?_⟩
   by_cases hi:i<ds.length
   · refine .inr ⟨i1 hi,λv H4 hy=>?_⟩
     obtain⟨k4,rp⟩:=i3 v H4 hy
     rw[zyO hi]at ec
     obtain⟨as2,e2,ec⟩:=bS_ (show(g _ _).bind _=_ from ec)
     obtain⟨⟨b,as3⟩,e3,ec⟩:=bS_ ec
     have k14:∀b u,H1 b=some u->H4 b=some u:=λb u h=>k4 b u (k3 b u h)
     have kn4:∀a,H3 a≠none->H4 a≠none:=λa z=>by
      cases e:H3 a with
      |none=>exact absurd e z
      |some u=>rw[k4 a u e];simp
     have R4:=zqW (cap:=cap) (T:=T) R1 k14 (λa z=>(tf a z).1) (λa z=>kn4 a (tf a z).2)
     have no:∀a,¬Gw [] (λ_=>[]) a:=λa z=>z.elim (λy=>nomatch y) λ⟨_,y⟩=>nomatch y
     refine⟨_,_,_,_,ds[i],as2,R4,(rp _ (zzC hi)).less λa z=>?_,e2,λσ5 ad5 H5 R5 g5 keep5=>⟨λj w hw=>?_,_,_,ad5,as2,b,as3,R5,e3,λad6 H6 R6 g6=>?_⟩⟩
     · rcases z with(z|z)|z
       · exact z
       · exact z.elim
       · exact(no a z).elim
     · rw[keep5 j λz=>?_]
       · exact hw
       · have:=hS j z
         unfold Yg at hw
         rw[zzG,this]at hw
         cases hw
     · -- what stood is kept
       have g46:=g5.trans g6
       have k46:∀b u,H4 b=some u->H6 b=some u:=λb u h=>g46.keep b u h (no b)
       have k36:∀b u,H3 b=some u->H6 b=some u:=λb u h=>k46 b u (k4 b u h)
       have kn6:∀a,H3 a≠none->H6 a≠none:=λa z=>by
        cases e:H3 a with
        |none=>exact absurd e z
        |some u=>rw[k36 a u e];simp
       have up:∀{H7:Hp}{T2:List Addr},(∀b u,H3 b=some u->H7 b=some u)->(∀a ∈ T2,H3 a=none)->RoL (λ_ v d=>Rp K kd (Un2 (Lv F B (Gw [] ad1) true) (· ∈ T++T2)) H7 v d) (λa=>¬Un2 (Lv F B (Gw [] ad1) true) (· ∈ T++T2) a) H7 ys os1 T:=λ{H7 T2} k7 f7=>
        RoL.mono (λst v d r=>(r.since k7 f7).less λa z=>z.elim (λy=>.inl (.inl y)) λy=>(zzK.mp y).elim (λx=>.inl (.inr x)) .inr)
         (λa vs n e=>⟨λz=>z.elim (λy=>n (.inl y)) λy=>(zzK.mp y).elim (λx=>n (.inr x)) λx=>(by have:=f7 a x;rw[this]at e;cases e),k7 _ _ e⟩) (λa _ u h=>k7 a u h) rl
       cases b with
       |false=>
        have:=up (T2:=[]) k36 (λ_ m=>nomatch m)
        rw[zyC]at this
        exact⟨m-1,by omega,by omega,T,os1,os2,eo,ec,Nat.le_succ_of_le hl,tnd,λa z=>⟨(tf a z).1,kn6 a (tf a z).2⟩,λb u h=>k36 b u (k3 b u h),this⟩
       |true=>
        rw[if_pos rfl]at ec
        obtain⟨⟨p,as7⟩,e7,ec⟩:=bS_ ec
        obtain⟨⟨o,as8⟩,e8,ec⟩:=bS_ ec
        by_cases hs:o.str=true
        · have ec:(if o.str=true then(vU g tt fe (zbw cap as') (ds.drop (i+1))).bind λos=>some (o::os)else none)=some os2:=ec
          rw[if_pos hs]at ec
          obtain⟨os3,e9,ec⟩:=bS_ ec
          cases ec
          refine⟨by omega,_,_,ad6,as3,p,as7,R6,e7,λy T2 ad7 H7 R7 rv7 g7=>?_⟩
          obtain⟨ad8,R8,ro8,le8⟩:=zgs R7 rv7 e8
          have g47:=g46.trans g7
          have k47:∀b u,H4 b=some u->H7 b=some u:=λb u h=>g47.keep b u h (no b)
          have k37:∀b u,H3 b=some u->H7 b=some u:=λb u h=>k47 b u (k4 b u h)
          have f42:∀a ∈ T2,H4 a=none:=λa z=>(g47.own a (.inl z)).resolve_left (no a)
          have f32:∀a ∈ T2,H3 a=none:=λa z=>by
             cases e:H3 a with
             |none=>rfl
             |some u=>have:=k4 a u e;rw[f42 a z]at this;cases this
          have rt:=zjm R8 R8.tnd (λa z=>.inl z) ro8 hs
          have ro9:Ro (λ_ v d=>Rp K kd (Un2 (Lv F B (Gw [] ad1) true) (· ∈ T++T2)) H7 v d) (λa=>¬Un2 (Lv F B (Gw [] ad1) true) (· ∈ T++T2) a) H7 y o T2:=
             Ro.mono (λst v d r=>r.less λa z=>z.elim (λy=>.inl (.inl y)) λy=>(zzK.mp y).elim (λx=>.inl (.inr x)) .inr)
              (λa vs n e=>⟨λz=>n (z.elim (λy=>.inl (.inl y)) λy=>(zzK.mp y).elim (λx=>.inl (.inr x)) .inr),e⟩) (λ_ _ _ h=>h) rt.ro
          refine⟨m-1,by omega,by omega,T++T2,os1++[o],os3,by rw[eo,zxB];rfl,e9,by rw[zzH,List.length_singleton];omega,zxD.mpr ⟨tnd,rt.nd,λa z b z' e=>?_⟩,λa z=>?_,λb u h=>k37 b u (k3 b u h),(up k37 f32).append (RoL.one ro9)⟩
          · subst e
            exact(tf a z).2 (f32 a z')
          · rcases zzK.mp z with z|z
            · refine⟨(tf a z).1, ?_⟩
              cases e:H3 a with
              |none=>exact absurd e (tf a z).2
              |some u=>rw[k37 a u e];simp
            · refine⟨?_,rt.tr a z⟩
              cases e:H1 a with
              |none=>rfl
              |some u=>have:=k3 a u e;rw[f32 a z]at this;cases this
        · have ec:(if o.str=true then(vU g tt fe (zbw cap as') (ds.drop (i+1))).bind λos=>some (o::os)else none)=some os2:=ec
          rw[if_neg hs]at ec
          cases ec
   · refine .inl ⟨i2 (by omega),λp hp=>?_⟩
     rw[List.drop_eq_nil_of_le (by omega)]at ec
     cases ec
     rw[zyC]at eo
     subst eo
     have pT:p ∉ T:=λz=>(tf p z).2 hp
     have H1p:H1 p=none:=by
      cases e:H1 p with
      |none=>rfl
      |some u=>have:=k3 p u e;rw[hp]at this;cases this
     have kp:∀b u,H3 b=some u->upd H3 p (.lst ys) b=some u:=λb u h=>by rw[yj (yJ h hp)];exact h
     obtain⟨R9,g9⟩:=R1.news (T':=p::T) (H':=upd H3 p (.lst ys)) (zzU.mpr ⟨pT,tnd⟩) (λa z=>(zzA.mp z).elim (λe=>by rw[e];exact H1p) λz=>(tf a z).1) (λb u h=>kp b u (k3 b u h)) (λa z=>by
      rcases zzA.mp z with e|z
      · rw[e,yP];simp
      · cases e:H3 a with
        |none=>exact absurd e (tf a z).2
        |some u=>rw[kp a u e];simp)
     refine q _ (p::T) ad1 _ R9 (.ls yP ?_) (g1.trans g9)
     have le:∀st a,Lv F B (Gw (p::T) ad1) st a->Un2 (Un2 (Lv F B (Gw [] ad1) true) (· ∈ T)) (· = p) a:=λst a z=>by
      rcases z with(z|z)|z|z
      · exact .inl (.inl (.inl (.inl ⟨rfl,z.2⟩)))
      · exact .inl (.inl (.inl (.inr z)))
      · exact(zzA.mp z).elim .inr λy=>.inl (.inr y)
      · exact .inl (.inl (.inr (.inr z)))
     exact RoL.mono (λst v d r=>(r.since kp (T:=(· = p)) λa z=>by rw[z];exact hp).less (le st)) (λa vs n e=>⟨λz=>(le true a z).elim n λy=>(by rw[y,hp]at e;cases e),kp _ _ e⟩) (λa _ u h=>kp a u h) rl
 · have e:(if ds.length<=sizeLine then(vU g tt fe (zbw cap as1) ds).bind λos=>some (RV.ow (.nd .ls os),as1)else none)=some (r,as'):=e
   rw[if_neg hz]at e
   cases e
end
section
variable{X:Cx}{kd:KD}{elt tg iter e a b c:Expr}{es ifs:List Expr}{scope:Scope}{pos:Pos}{N:List Str}{cap:List (Option Nat)}{g:GF}{tt:TF}{fe fa fb:EF}{fi:IF}{S:List Nat}{fr:AF}{fd:DF}
theorem Z6:PTs X [] (alT X.K kd Yx):=λpins s σ H Q I h=>by
 obtain⟨F,B,ad,as,b,as',R,e,q⟩:=h
 cases e
 exact zrY pins s σ H Q I (q ad H R Grow.refl)
theorem zri(h:AT X kd c tt):PTs X [c] (alT X.K kd tt):=by with_unfolding_all exact(zse h)
theorem Xf(hc:X.calm=true)(hi:AIc X kd tg iter fi)(hk:scope.kind = .function)(hcap:YC N X.N scope.names X.env.scope.names cap=true)(hS:S.all (λi=>cap[i]? == some none)=true)
 (hg:∀cl s H fp,AG (vN X N scope cl s H fp) kd tg S g) (ht:∀cl s H fp,PTs (vN X N scope cl s H fp) ifs (alT X.K kd tt)) (he:∀cl s H fp,AE (vN X N scope cl s H fp) kd elt fe)
 (hs:∀x,foldedSetIterable iter X.env x=pure x):AE X kd (.ListComp elt [⟨tg,iter,ifs,0⟩] scope pos) (wu fi cap g tt fe):=by with_unfolding_all exact(xF (zrP (g:=alG X.K kd S g) (te:=al X.K kd fe) hc hi hk hcap hg ht he hs) λσ H Q h=>zpc (λi m=>by simpa using List.all_eq_true.mp hS i m) h)
theorem ziK{z:Bool}{i:Nat}{y:Str}{py spos:Pos}(hN:X.N.Nodup)(hiy:X.N[i]? = some y)(hy:Loc X.env.scope y)(hf:X.fn y=true\/X.env.scope.names.lookup y=some .local)
 (hsw:swapsWith (.ListComp elt [⟨tg,iter,ifs,0⟩] scope pos) (some (.Name y py)) spos.line X.env=pure true)
 (hc:X.calm=true) (hi:AIc X kd tg iter fi) (hk:scope.kind = .function) (hcap:YC N X.N scope.names X.env.scope.names cap=true) (hS:S.all (λi=>cap[i]? == some none)=true)
 (hg:∀cl s H fp,AG (vN X N scope cl s H fp) kd tg S g) (ht:∀cl s H fp,PTs (vN X N scope cl s H fp) ifs (alT X.K kd tt)) (he:∀cl s H fp,AE (vN X N scope cl s H fp) kd elt fe)
 (hs:∀x,foldedSetIterable iter X.env x=pure x):ASt X kd (.Assign [.Name y py] (.ListComp elt [⟨tg,iter,ifs,0⟩] scope pos) spos) (zW z i (wu fi cap g tt fe)):=by with_unfolding_all exact(ZD (zsj (g:=alG X.K kd S g) (te:=al X.K kd fe) hN hiy hy hf hsw hc hi hk hcap hg ht he hs) λD σ H h=>by
 obtain⟨F,B,ad,as,o,R,e,q⟩:=h
 obtain⟨⟨p,as1⟩,h1,e⟩:=bS_ (show(wu fi cap g tt fe as).bind _=_ from e)
 obtain⟨⟨y,as2⟩,h2,e⟩:=bS_ e
 obtain⟨hl,e⟩:=yg e
 cases e
 refine zpc (Q:=λx H1=>zjL i x σ H1 D.nx) (λi m=>by simpa using List.all_eq_true.mp hS i m) ⟨F,B,ad,as,p,as1,R,h1,λv T' ad' H' R' rv g=>?_⟩
 obtain⟨ad2,R2,le⟩:=zln R' rv h2 hl
 exact q _ ad2 H' R2 (g.trans (Grow.less le)))
theorem zE{k:Nat}{f:Addr}{fdt:FuncData}{ps:List Str}{gg:List (Bool×D)->Option O}{x:Str}{p:Pos}(F:FnOk X.prog X.w X.K X.mg X.base CX0 k f fdt ps (spD X.K kd gg))(hr:Room k X.A)(hg:Gl X x)(hm:X.mg x=some (.ref f))(hk:PySem.W.keepIn X.K (.ref f)=true)
 (hb:Binds X.K fdt ps []) (hx:Yo CX0 X (λ_ _ _=>False)) (ha:AA X kd (e::es) fr) (hdb:(x==("__debug__":Str))=false) (he:starEach (e::es) X.env=(false,eval e X.env)::starEach es X.env) (hpl:(backTo pos (starEach es X.env)).any (·.1)=false):
 AE X kd (.Call (.Name x p) (e::es) [] pos) (zy fr gg):=by with_unfolding_all exact(xF (zmV F hr hg hm hk hb .nil hx ha hdb he hpl) λσ H Q h=>ztn h)
theorem ZC{id:String}{gg:List D->Option R0}{x:Str}{p:Pos}(hc:CallD X kd (.builtin id) gg)(hg:Gl X x)(hm:X.mg x=none)(hv:bootBuiltins x=some (.builtin id))(ha:AA X kd (e::es) fr)(hn:x≠"__name__")(hdb:(x==("__debug__":Str))=false)
 (he:starEach (e::es) X.env=(false,eval e X.env)::starEach es X.env) (hpl:(backTo pos (starEach es X.env)).any (·.1)=false):AE X kd (.Call (.Name x p) (e::es) [] pos) (fP fr gg):=by with_unfolding_all exact(xF (zjY hc hg hm hv ha hn hdb he hpl) λσ H Q h=>alP (λ_ _ _ z=>z) h)
theorem YF{T:String}{gg:List D->Option R0}{x:Str}{p:Pos}(hc:CallD X kd (.type T) gg)(hg:Gl X x)(hm:X.mg x=none)(hv:bootBuiltins x=some (.type T))(ha:AA X kd (e::es) fr)(hn:x≠"__name__")(hdb:(x==("__debug__":Str))=false)
 (he:starEach (e::es) X.env=(false,eval e X.env)::starEach es X.env) (hpl:(backTo pos (starEach es X.env)).any (·.1)=false):AE X kd (.Call (.Name x p) (e::es) [] pos) (fP fr gg):=by with_unfolding_all exact(xF (zoj hc hg hm hv ha hn hdb he hpl) λσ H Q h=>alP (λ_ _ _ z=>z) h)
def zdi(fa:EF)(c:String):EF:=λas=>(fa as).bind λp=>(p.1.frz.view p.2).bind λx=>if zlp x.1=true then some (.ow (.lf true (.bl (zhG (tyD x.1) c))),p.2)else none
theorem zoG(hk:KdOk X kd):zbN X (.builtin "isinstance") (λxs H Q=>∃x c O d,xs=[x,.ty c]/\zdg c=true/\Vw X.K kd O H x d/\zlp d=true/\Q (.bl (zhG (tyD d) c)) H):=by
 intro pins s σ H xs us Q I r h
 obtain⟨x,c,O,d,rfl,hc,vx,ho,q⟩:=h
 cases r with
 |cons r1 r2=>
  cases r2 with
  |cons r2 r3=>
   cases r3
   cases(show _=Value.type c from r2)
   exact zub hk I r1 vx hc ho λtk=>⟨.bl _,H,I.tok tk,rfl,q⟩
theorem zjF{c:String}{x y:Str}{p p2:Pos}(hkd:KdOk X kd)(hc:zdg c=true)(hg:Gl X x)(hm:X.mg x=none)(hv:bootBuiltins x=some (.builtin "isinstance"))(hg2:Gl X y)(hm2:X.mg y=none)(hv2:bootBuiltins y=some (.type c))(ha:AE X kd a fa)
 (hn:x≠"__name__") (hdb:(x==("__debug__":Str))=false) (hn2:y≠"__name__") (hdb2:(y==("__debug__":Str))=false)
 (he:starEach [a,.Name y p2] X.env=(false,eval a X.env)::starEach [.Name y p2] X.env) (he2:starEach [.Name y p2] X.env=(false,eval (.Name y p2) X.env)::starEach [] X.env) (hpl:(backTo pos (starEach [.Name y p2] X.env)).any (·.1)=false):
 AE X kd (.Call (.Name x p) [a,.Name y p2] [] pos) (zdi fa c):=by with_unfolding_all exact(xF (zjY (zoG hkd) hg hm hv (zcr ha (zcr (zqX (v:=.ty c) hg2 hm2 hv2 rfl hn2 hdb2) ziy he2) he) hn hdb he hpl) λσ H Q h=>by
 obtain⟨F,B,ad,as,r,as',R,e,q⟩:=h
 obtain⟨⟨p,as1⟩,h1,e⟩:=bS_ (show(fa as).bind _=_ from e)
 obtain⟨⟨d,lv⟩,h2,e⟩:=bS_ e
 obtain⟨ho,e⟩:=yg e
 cases e
 exact YK R h1 λv ad1 H1 R1 rv1 g1=>⟨v,c,_,d,rfl,hc,v8.vw R1 rv1 h2,ho,q _ [] ad1 H1 R1 (.lf (.bl _)) g1⟩)
def Zh:MG:=λos es=>match es with | [o]=>if os.length<sizeLine then some (os++[o],.lf true .non)else none|_=>none
def zax:MG:=λos es=>match es with | [.lf _ (.int i)]=>if -(2 ^ 63)<=i/\i<2 ^ 63 then(seqIndex? i os.length).bind λk=>(os[k]?).bind λo=>some (os.eraseIdx k,o)else none|_=>none
theorem zrT{l f fo g:List Addr}(h:l.Nodup)(e:l=f++(fo++g)):((f++g)++fo).Nodup/\∀a ∈ (f++g)++fo,a ∈ l:=by
 subst e
 have p:(f++(fo++g)).Perm ((f++g)++fo):=by
  rw[zxB]
  exact(List.perm_append_comm).append_left f
 exact⟨p.nodup_iff.mp h,λa m=>p.mem_iff.mpr m⟩
theorem zal:MuD X kd znj Zh:=by
 intro F B G l vs ws os es os' o fp fq H Q hH rl rw' hn e k
 unfold Zh at e
 split at e
 · obtain⟨hz,e⟩:=yg e
   cases e
   cases rw' with
   |cons h1 h2=>
    cases h2
    rw[zyC]at hn k
    exact⟨l,vs,_,rfl,rfl,hH,by rw[rl.length];exact hz,k _ _ _ [] (rl.append (RoL.one h1)) (.lf .non) (λa m=>by rwa [zyC]at m) (by rw[zyC];exact hn)⟩
 · cases e
theorem zon:MuD X kd zpg zax:=by
 intro F B G l vs ws os es os' o fp fq H Q hH rl rw' hn e k
 unfold zax at e
 split at e
 · rename_i st i
   split at e
   · rename_i hi
     obtain⟨j,hj,e⟩:=bS_ e
     obtain⟨o1,ho,e⟩:=bS_ e
     cases e
     obtain⟨v,f,fo,gg,hv,hf,ro,r1,r2⟩:=rl.at_ ho
     cases rw' with
     |cons h1 h2=>
      cases h2
      cases h1 with
      |lf rp=>
       cases rp
       rw[zyC,zyC]at hn k
       obtain⟨n1,n2⟩:=zrT hn hf
       refine⟨l,vs,i,j,v,rfl,rfl,hH,hi.1,hi.2,by rw[rl.length];exact hj,hv,k v _ (f++gg) fo ?_ ro n2 n1⟩
       rw[zeh,zeh]
       exact r1.append r2
   · cases e
 · cases e
theorem Vf{i:Nat}{x:Str}{gg:MG}{r:V->List V->Hp->VK->Prop}{name:Str}{id:String}{apos cpos p:Pos}(hm:MtM X id r)(hr:MuD X kd r gg)(slot:Slot "list" name id)(hty:typeOf (.builtin id)=pure (.type "method_descriptor"))(ho:PE X (.Name x p) (zhg i))(ha:AD X kd (e::es) fd)
 (hbase:attributeBase (.Name x p) name X.env (eval (.Name x p) X.env)=eval (.Name x p) X.env)
 (hfew:((backTo cpos (starEach (e::es) X.env)).all (λx=>!x.1)&&(backToKw cpos (keywordEach [] X.env)).all (λx=>x.1.isSome)
  && decide ((e::es).length+([]:List Keyword).length+(if([]:List Keyword).isEmpty then 0 else 1)<30))=true)
 (hline:(apos.endLine==cpos.line)=true) (hs:starEach (e::es) X.env=(false,eval e X.env)::starEach es X.env) (hplain:(backTo cpos (starEach es X.env)).any (·.1)=false):
 AE X kd (.Call (.Attribute (.Name x p) name apos) (e::es) [] cpos) (ZK i fd gg):=by with_unfolding_all exact(xF (zuT PySem.F.plainAttrs_list slot hty hm ho ha hbase hfew hline hs hplain) λσ H Q h=>zuS hr h)
end
inductive Ty where
 |str|lst|dct|int
def Ty.nm:Ty->String
 | .str=>"str" | .lst=>"list" | .dct=>"dict" | .int=>"int"
def zrS:Ty->D->Bool
 | .str,.str _=>true
 | .lst,.lst _=>true
 | .dct,.dct _=>true
 | .int,.int _=>true
 |_,_=>false
def tyS(X:Cx)(T:String)(x:V)(H:Hp):Prop:=∀(pins:List (Addr×Obj)) (σ:St) (s:Shared) (v:Value),Inv X pins σ H s->RelV x v->s.TypeIs v T/\∀a,v = .ref a->∃ob,s.heap.get? a=some ob/\ob.dict=none
def tMD(X:Cx)(T:String)(r:V->List V->Hp->VK->Prop)(to:TE)(t:TA):TE:=λσ H Q=>to σ H λx H1=>tyS X T x H1/\t σ H1 λxs H2=>r x xs H2 Q
section
variable{X:Cx}{kd:KD}{o e:Expr}{es:List Expr}{to:TE}{t:TA}{name:Str}{apos cpos:Pos}{T id:String}{r:V->List V->Hp->VK->Prop}
theorem zuX(pa:PlainAttrs T)(slot:Slot T name id)(hty:typeOf (.builtin id)=pure (.type "method_descriptor"))(hm:MtR X id r)(ho:PE X o to)(ha:PA X (e::es) t)
 (hbase:attributeBase o name X.env (eval o X.env)=eval o X.env)
 (hfew:((backTo cpos (starEach (e::es) X.env)).all (λx=>!x.1)&&(backToKw cpos (keywordEach [] X.env)).all (λx=>x.1.isSome)
  && decide ((e::es).length+([]:List Keyword).length+(if([]:List Keyword).isEmpty then 0 else 1)<30))=true)
 (hline:(apos.endLine==cpos.line)=true) (hs:starEach (e::es) X.env=(false,eval e X.env)::starEach es X.env) (hplain:(backTo cpos (starEach es X.env)).any (·.1)=false):
 PE X (.Call (.Attribute o name apos) (e::es) [] cpos) (tMD X T r to t):=by
 intro pins s σ H Q I h
 refine wpAny_Call_method_late hbase hfew hline rfl (thn (ho pins s σ H _ I h) λv s1 ⟨x,H1,I1,r1,ty,q1⟩=>?_)
 obtain⟨h1,h2⟩:=ty _ _ _ _ I1 r1
 refine⟨T,id,pa,slot,hty,h1,h2, ?_⟩
 have hA:=ha cpos pins s1 σ H1 _ I1 q1
 rw[hs]at hA ⊢
 refine Calls.callWith_builtin (by show(false||(backTo cpos (starEach es X.env)).any (·.1))=false;rw[hplain]<;>rfl) (Calls.evalArgs_plain ?_)
 exact thn hA λus s2 ⟨vs,H2,I2,r2,q2⟩=>hm pins s2 σ H2 x vs v us Q I2 r1 r2 q2
def MtD(X:Cx)(kd:KD)(id:String)(g:D->List D->Option R0):Prop:=
 MtR X id (λx xs H Q=>∃O d ds r,(∀a,O a->H a≠none)/\Vw X.K kd O H x d/\VwL X.K kd O H xs ds/\g d ds=some r/\RQ X.K kd O H Q r)
theorem zuL(hk:KdOk X kd){O:Addr->Prop}{H:Hp}{x:V}{d:D}{ty:Ty}(h:Vw X.K kd O H x d)(e:zrS ty d=true):tyS X ty.nm x H:=by
 intro pins σ s v I rx
 cases h with
 |str z=>
  obtain⟨t,rfl⟩:=rx
  cases ty<;>first|(cases e;done)|exact⟨typeIs_str s z t,λ_ e=>nomatch e⟩
 |int z=>
  obtain⟨t,rfl⟩:=rx
  cases ty<;>first|(cases e;done)|exact⟨typeIs_int s z t,λ_ e=>nomatch e⟩
 |lst hr rl=>
  cases rx
  obtain⟨its,_,pl,_⟩:=I.list hr.sq
  cases ty<;>first|(cases e;done)|skip
  refine⟨pl.isList.typeIs,λa e=>?_⟩
  cases e
  obtain⟨o,n,e,c,hd,_⟩:=pl
  exact⟨o,e,hd⟩
 |dct hr rm=>
  cases rx
  obtain⟨z,hd,vs,rel,dd⟩:=zfD I hk hr
  cases ty<;>first|(cases e;done)|skip
  refine⟨dd.typeIs,λb q=>?_⟩
  cases q
  obtain⟨ob,_,_,h1,h2,_⟩:=dd
  exact⟨ob,h1,h2.2.1⟩
 |non=>cases ty<;>cases e
 |bl=>cases ty<;>cases e
 |tup=>cases ty<;>cases e
 |cl=>cases ty<;>cases e
 |ob=>cases ty<;>cases e
def zho(ty:Ty)(fa:EF)(fr:AF)(g:D->List D->Option R0):EF:=λas=>(fa as).bind λp=>(p.1.frz.view p.2).bind λw=>if zrS ty w.1=true then(fr p.2).bind λq=>(p.1.frz.view q.2).bind λx=>(views q.2 q.1).bind λy=>(g x.1 y.1).bind λr=>(wrap (meet x.2 y.2) r).bind λz=>some (z,q.2)else none
theorem zsM(hk:KdOk X kd){ty:Ty}{fa:EF}{fr:AF}{g:D->List D->Option R0}{σ:St}{H:Hp}{Q:VK}(h:al X.K kd (zho ty fa fr g) σ H Q):
 tMD X ty.nm (λx xs H Q=>∃O d ds r,(∀a,O a->H a≠none)/\Vw X.K kd O H x d/\VwL X.K kd O H xs ds/\g d ds=some r/\RQ X.K kd O H Q r) (al X.K kd fa) (alA X.K kd fr) σ H Q:=by
 obtain⟨F,B,ad,as,r,as',R,e,q⟩:=h
 obtain⟨⟨p,as1⟩,h1,e⟩:=bS_ (show(fa as).bind _=_ from e)
 obtain⟨⟨d0,l0⟩,h0,e⟩:=bS_ e
 obtain⟨hty,e⟩:=ite_some' e
 obtain⟨⟨ps,as2⟩,h2,e⟩:=bS_ e
 obtain⟨⟨d,lv⟩,h3,e⟩:=bS_ e
 obtain⟨⟨ds,lv2⟩,h4,e⟩:=bS_ e
 obtain⟨r0,h5,e⟩:=bS_ e
 obtain⟨z,h6,e⟩:=bS_ e
 cases e
 refine YK R h1 λv ad1 H1 R1 rv1 g1=>⟨zuL hk (v8.vw R1 rv1 h0) hty,F,B,ad1,as1,ps,_,R1,h2,λvs ad2 H2 R2 rv2 g2=>?_⟩
 exact⟨_,d,ds,r0,R2.tr _,(v8.vw R2 (rv1.grow g2) h3).less Obl.meet1,(zcQ R2 rv2 h4).less Obl.meet2,h5,VM R2 h6 λw T' H' R' rv' g'=>q w T' ad2 H' R' rv' ((g1.trans g2).trans g')⟩
theorem zrH{ty:Ty}{a:Expr}{fa:EF}{fr:AF}{g:D->List D->Option R0}(hk:KdOk X kd)(hm:MtD X kd id g)(pa:PlainAttrs ty.nm)(slot:Slot ty.nm name id)(hty:typeOf (.builtin id)=pure (.type "method_descriptor"))(ho:AE X kd a fa)(ha:AA X kd (e::es) fr)
 (hbase:attributeBase a name X.env (eval a X.env)=eval a X.env)
 (hfew:((backTo cpos (starEach (e::es) X.env)).all (λx=>!x.1)&&(backToKw cpos (keywordEach [] X.env)).all (λx=>x.1.isSome)
  && decide ((e::es).length+([]:List Keyword).length+(if([]:List Keyword).isEmpty then 0 else 1)<30))=true)
 (hline:(apos.endLine==cpos.line)=true) (hs:starEach (e::es) X.env=(false,eval e X.env)::starEach es X.env) (hplain:(backTo cpos (starEach es X.env)).any (·.1)=false):
 AE X kd (.Call (.Attribute a name apos) (e::es) [] cpos) (zho ty fa fr g):=by with_unfolding_all exact(xF (zuX pa slot hty hm ho ha hbase hfew hline hs hplain) λσ H Q h=>zsM hk h)
end
section
variable{K:zD}{kd:KD}{F B G:Addr->Prop}{T:List Addr}{ad:Ad}{as:AS}{σ:St}{H H':Hp}
inductive RPs(K:zD)(kd:KD)(F B G:Addr->Prop)(H:Hp):List (V×V)->List (Key×O)->Prop
 |nil:RPs K kd F B G H [] []
 |cons {k:Key}{v:V}{o:O}{ps:List (V×V)}{kos:List (Key×O)}:RoS K kd F B G H v o []->RPs K kd F B G H ps kos->RPs K kd F B G H ((kV k,v)::ps) ((k,o)::kos)
end
abbrev Fn:=List (Bool×D)->Option O
section
variable{P:Program}{w:World}{K:zD}{mg:Str->Option Value}{base:Heap}{kd:KD}
theorem zeX{k:Nat}{f:Addr}{fd:FuncData}{ps:List Str}:FnOk P w K mg base CX0 k f fd ps (spD K kd λ_=>none):=
 ⟨λvs H Q E h=>(by obtain⟨_,_,_,_,_,e,_⟩:=h;cases e),λA outer s H args us vs Q E _ _ _ _ h=>(by obtain⟨_,_,_,_,_,e,_⟩:=h;cases e)⟩
theorem yf{A:Around}{k:Nat}(hr:Room k A):A.units+100<cLine:=by have:=hr.un;omega
def KD1(P:Program)(w:World)(K:zD)(kd:KD):Prop:=∀X:Cx,X.prog=P->X.w=w->X.K=K->KdOk X kd
theorem zar{O:Addr->Prop}{H:Hp}:∀ns:List Int,RpL K kd O H (ns.map V.int) (ns.map D.int)
 | []=>.nil
 |_::r=>.cons (.int _) (zar r)
theorem ztX{H:Hp}{a:Addr}{ns:List Int}{g:Fn}{E:XK}(hg:g [(true,.lst (ns.map D.int))]=some (.lf true (.bl true)))(hS:RdL K H a (ns.map V.int)):spD K kd g [.ref a] H (λv _=>v = .bl true) E:=by
 refine⟨λ_=>False,[(true,.lst (ns.map D.int))],.lf true (.bl true),(λ_ z=>z.elim),.cons ?_ .nil,hg,λv T H' _ _ _ _ ro=>?_⟩
 · rcases hS with h|⟨its,n,k,z,r⟩
   · exact .lst (λz=>z.2) h (zar ns)
   · exact .lstK k z r (zar ns)
 · cases ro with
   |lf rp=>cases rp;rfl
end
namespace Bt
theorem len:bootBuiltins "len"=some (.builtin "len"):=by decide +kernel
theorem max:bootBuiltins "max"=some (.builtin "max"):=by decide +kernel
theorem abs:bootBuiltins "abs"=some (.builtin "abs"):=by decide +kernel
theorem sorted:bootBuiltins "sorted"=some (.builtin "sorted"):=by decide +kernel
theorem isinstance:bootBuiltins "isinstance"=some (.builtin "isinstance"):=by decide +kernel
theorem int:bootBuiltins "int"=some (.type "int"):=by decide +kernel
theorem bool:bootBuiltins "bool"=some (.type "bool"):=by decide +kernel
theorem list:bootBuiltins "list"=some (.type "list"):=by decide +kernel
theorem tuple:bootBuiltins "tuple"=some (.type "tuple"):=by decide +kernel
theorem dict:bootBuiltins "dict"=some (.type "dict"):=by decide +kernel
theorem n(x:Str)(h:(x==("__name__":Str))=false):x≠"__name__":=λe=>by subst e;simp at h
end Bt
def WD(f:EF)(as:AS)(st:Bool)(d:D):Prop:=f as=some (.ow (.lf st d),as)
def WT(f:TF)(as:AS)(b:Bool):Prop:=f as=some (b,as)
def WA(f:AF)(as:AS)(rs:List (Bool×D)):Prop:=f as=some (rs.map (λx=>.ow (.lf x.1 x.2)),as)
def WO(f:DF)(as:AS)(os:List O):Prop:=f as=some (os,as)
section
variable{as:AS}{f a b:EF}{s t:Bool}{x y z:D}{i j:Int}
theorem zg:WD (fC x) as true x:=rfl
theorem zc{i:Nat}(h:as[i]? = some (some (.lf s x))):WD (fV i) as s x:=by unfold WD fV;rw[h]
theorem zsH{g:D->D->Option R0}(ha:WD a as s x)(hb:WD b as t y)(hg:g x y=some (.im z)):WD (f2 a b g) as (yo z||(s&&t)) z:=by
 unfold WD f2 at *
 rw[ha];show((b as).bind _)=_
 rw[hb];show((g x y).bind _)=_
 rw[hg]
 show(if(yo z||(meet (some s) (some t)).isSome)=true then _ else _:Option RV).bind _=_
 rw[if_pos (by unfold meet;simp)]
 rfl
theorem zuP{g:D->D->Option R0}{oa ob:O}(ha:a as=some (.ow oa,as))(hb:b as=some (.ow ob,as))(hg:g oa.toD ob.toD=some (.im z)):WD (f2 a b g) as (yo z||(oa.str&&ob.str)) z:=by
 unfold WD f2 at *
 rw[ha];show((b as).bind _)=_
 rw[hb];show((g oa.toD ob.toD).bind _)=_
 rw[hg]
 show(if(yo z||(meet (some oa.str) (some ob.str)).isSome)=true then _ else _:Option RV).bind _=_
 rw[if_pos (by unfold meet;simp)]
 rfl
theorem zZ{g:D->D->Option R0}(ha:WD a as s x)(hb:WD b as t y)(hg:g x y=some (.im z))(e:yo z=true):WD (f2 a b g) as true z:=by
 have:=zsH ha hb hg;rw[e]at this;exact this
theorem yC(ha:WD a as s (.int i))(hb:WD b as t (.int j)):WD (f2 a b (zp .Add)) as true (.int (i+j)):=zZ ha hb rfl rfl
theorem zdj(ha:WD a as s (.int i))(hb:WD b as t (.int j)):WD (f2 a b (zp .Sub)) as true (.int (i-j)):=zZ ha hb rfl rfl
theorem zbl(ha:WD a as s (.int i))(hb:WD b as t (.int j))(h:j.natAbs<2 ^ 64):WD (f2 a b (zp .Mult)) as true (.int (i*j)):=zZ ha hb (by show(if _ then _ else _)=_;rw[if_pos (.inr h)]) rfl
theorem Y4(ha:WD a as s (.int i))(hb:WD b as t (.int j))(h1:i.natAbs<big)(h2:j.natAbs<big):WD (f2 a b (zp .Mult)) as true (.int (i*j)):=zZ ha hb (by show(if _ then _ else _)=_;rw[if_pos (.inl ⟨h1,h2⟩)]) rfl
theorem Wq(ha:WD a as s (.int i))(hb:WD b as t (.int j))(h1:0<j)(h2:j.natAbs<big):WD (f2 a b (zp .FloorDiv)) as true (.int (i/j)):=zZ ha hb (by show(if _ then _ else _)=_;rw[if_pos ⟨h1,h2⟩]) rfl
theorem yD(ha:WD a as s (.int i))(hb:WD b as t (.int j))(h1:0<j):WD (f2 a b (zp .Mod)) as true (.int (i%j)):=zZ ha hb (by show(if _ then _ else _)=_;rw[if_pos h1]) rfl
theorem XD{c:Bool}(ha:WD a as s x)(hb:WD b as t y)(h:eqF 60 x y=some c):WD (f2 a b (zR .Eq)) as true (.bl c):=zZ ha hb (by show(eqF 60 x y).bind _=_;rw[h];rfl) rfl
theorem zhQ{c:Bool}(ha:WD a as s x)(hb:WD b as t y)(h:eqF 60 x y=some c):WD (f2 a b (zR .NotEq)) as true (.bl (!c)):=zZ ha hb (by show(eqF 60 x y).bind _=_;rw[h];rfl) rfl
theorem zql(ha:WD a as s (.int i))(hb:WD b as t (.int j)):WD (f2 a b (zR .Lt)) as true (.bl (decide (i<j))):=zZ ha hb rfl rfl
theorem zsz(ha:WD a as s (.int i))(hb:WD b as t (.int j)):WD (f2 a b (zR .Gt)) as true (.bl (decide (j<i))):=zZ ha hb rfl rfl
theorem zuN(ha:WD a as s (.int i))(hb:WD b as t (.int j)):WD (f2 a b (zR .GtE)) as true (.bl (decide (j<=i))):=zZ ha hb rfl rfl
theorem yz{c:Bool}(h:WD f as s x)(e:truth x=some c):WT (fT f) as c:=by
 unfold WT fT;unfold WD at h
 rw[h];show((truth x).bind _)=_
 rw[e];rfl
theorem Wl{c:TF}{k:Bool}(h:WT c as k):WT (Yw c) as (!k):=by unfold WT Yw at *;rw[h];rfl
theorem zlv{c e:TF}{k l:Bool}(h:WT c as k)(h2:k=true->WT e as l)(h3:k=false->l=false):WT (zcH c e) as l:=by
 unfold WT zcH at *;rw[h]
 cases k with
 |true=>exact h2 rfl
 |false=>rw[h3 rfl];rfl
theorem zaH{c e:TF}{k l:Bool}(h:WT c as k)(h2:k=false->WT e as l)(h3:k=true->l=true):WT (Xq c e) as l:=by
 unfold WT Xq at *;rw[h]
 cases k with
 |false=>exact h2 rfl
 |true=>rw[h3 rfl];rfl
theorem ztZ{c:TF}(h:WT c as true)(ha:WD a as s x):WD (fIf c a b) as s x:=by unfold WD fIf;unfold WT at h;rw[h];exact ha
theorem ztO{c:TF}(h:WT c as false)(hb:WD b as s x):WD (fIf c a b) as s x:=by unfold WD fIf;unfold WT at h;rw[h];exact hb
theorem zlj{k l:Bool}(h:WD a as s (.bl k))(h2:k=true->WD b as true (.bl l))(h3:k=false->l=false):WD (zlN a b) as true (.bl l):=by
 unfold WD zlN at *;rw[h]
 cases k with
 |true=>exact h2 rfl
 |false=>rw[h3 rfl];rfl
theorem ye:WA aN as []:=rfl
theorem zP{fr:AF}{rs:List (Bool×D)}(ha:WD a as s x)(hr:WA fr as rs):WA (aC a fr) as ((s,x)::rs):=by
 unfold WA aC at *;unfold WD at ha
 rw[ha];show((fr as).bind _)=_
 rw[hr];rfl
theorem zbe:∀rs:List (Bool×D),Wz as (rs.map (λx=>.ow (.lf x.1 x.2)))=some (rs.map λx=>(yo x.2||x.1,x.2))
 | []=>rfl
 |r::rs=>by
  show(zpF as (.ow (.lf r.1 r.2))).bind _=_
  show(Wz as (rs.map _)).bind _=_
  rw[zbe rs];rfl
theorem W4:∀rs:List (Bool×D),views as (rs.map (λx=>.ow (.lf x.1 x.2)))=some (rs.map (·.2),some (rs.all (·.1)))
 | []=>rfl
 |r::rs=>by
  show(views as (rs.map _)).bind _=_
  rw[W4 rs];rfl
theorem zbp{fr:AF}{rs:List (Bool×D)}{g:List (Bool×D)->Option O}(ha:WA fr as rs)(hg:g (rs.map λx=>(yo x.2||x.1,x.2))=some (.lf s x)):WD (zy fr g) as s x:=by
 unfold WD zy;unfold WA at ha
 rw[ha];show(Wz as _).bind _=_
 rw[zbe];show(g _).bind _=_
 rw[hg];rfl
theorem Wf{fr:AF}{rs:List (Bool×D)}{o:O}{g:List (Bool×D)->Option O}(ha:WA fr as rs)(hg:g (rs.map λx=>(yo x.2||x.1,x.2))=some o):zy fr g as=some (.ow o,as):=by
 unfold zy;unfold WA at ha
 rw[ha];show(Wz as _).bind _=_
 rw[zbe];show(g _).bind _=_
 rw[hg];rfl
theorem zmQ{fr:AF}{rs:List (Bool×D)}{g:List D->Option R0}(ha:WA fr as rs)(hg:g (rs.map (·.2))=some (.im x)):WD (fP fr g) as (yo x||rs.all (·.1)) x:=by
 unfold WD fP;unfold WA at ha
 rw[ha];show(views as _).bind _=_
 rw[W4];show(g _).bind _=_
 rw[hg]
 show(if(yo x||(some (rs.all (·.1))).isSome)=true then _ else _:Option RV).bind _=_
 rw[if_pos (by simp)];rfl
theorem xx{fr:AF}{rs:List (Bool×D)}{g:List D->Option R0}(ha:WA fr as rs)(hg:g (rs.map (·.2))=some (.im x))(e:yo x=true):WD (fP fr g) as true x:=by
 have:=zmQ ha hg;rw[e]at this;exact this
theorem yU:WO dN as []:=rfl
theorem yq{fr:DF}{os:List O}(ha:WD a as s x)(hr:WO fr as os):WO (dC a fr) as (.lf s x::os):=by
 unfold WO dC at *;unfold WD at ha
 rw[ha];show((fr as).bind _)=_
 rw[hr];rfl
theorem zaq{fr:DF}{os:List O}(h:WO fr as os)(hl:os.length<=sizeLine):wz fr as=some (.ow (.nd .ls os),as):=by
 unfold wz;unfold WO at h
 rw[h];show(if os.length<=sizeLine then _ else _)=_
 rw[if_pos hl]
theorem yG{f g:SF}{as1:AS}{o:Option Out}(h1:f as=some (.nx as1))(h2:g as1=o):zM f g as=o:=by unfold zM;rw[h1];exact h2
theorem VB{f g:SF}{o:O}(h1:f as=some (.rt o)):zM f g as=some (.rt o):=by unfold zM;rw[h1];rfl
theorem Z7{c:TF}{f g:SF}{o:Option Out}(h:WT c as true)(h1:f as=o):sIf c f g as=o:=by unfold sIf;unfold WT at h;rw[h];exact h1
theorem zV{c:TF}{f g:SF}{o:Option Out}(h:WT c as false)(h1:g as=o):sIf c f g as=o:=by unfold sIf;unfold WT at h;rw[h];exact h1
theorem yR{i:Nat}{st:Bool}(h:WD f as s x)(hi:i<as.length):zW st i f as=some (.nx (as.set i (some (.lf s x)))):=by
 unfold zW;unfold WD at h
 rw[h]
 cases st<;>exact if_pos hi
theorem Yc{i:Nat}{o:O}(h:f as=some (.ow o,as))(hi:i<as.length):zW false i f as=some (.nx (as.set i (some o))):=by
 unfold zW
 rw[h]
 exact if_pos hi
theorem zsg{i:Nat}{o:O}(h:f as=some (.ow o,as))(hi:i<as.length):zW true i f as=some (.nx (as.set i (some o.frz))):=by
 unfold zW
 rw[h]
 exact if_pos hi
theorem Wj(h:WD f as true x):yc f as=some (.rt (.lf true x)):=by unfold yc;unfold WD at h;rw[h];rfl
theorem Wg{n m:Nat}{c:SF}{ds:List (Bool×D)}{o:O}(hl:ds.length=m)(h:c (XF n ds)=some (.rt o)):fnR n m c ds=some o:=by unfold fnR;rw[if_pos hl,h];rfl
theorem Zg{g:GF}{f:SF}(I:Nat->AS->Prop):∀(xs:List It1) (k:Nat) (as:AS),(∀i x as,xs[i]? = some x->I (k+i) as->∃as1,g x as=some as1/\∃as2,f as1=some (.nx as2)/\I (k+i+1) as2)->I k as->∃as',forL g f xs as=some (.nx as')/\I (k+xs.length) as'
 | [],k,as,_,h=>⟨as,rfl,h⟩
 |x::r,k,as,st,h=>by
  obtain⟨as1,h1,as2,h2,h3⟩:=st 0 x as rfl h
  obtain⟨as',h4,h5⟩:=Zg I r (k+1) as2 (λi y as e q=>by
   obtain⟨u,k1,v,k2,k3⟩:=st (i+1) y as e (by rw[show k+(i+1)=k+1+i by omega];exact q)
   exact⟨u,k1,v,k2,by rw[show k+1+i+1=k+(i+1)+1 by omega];exact k3⟩) h3
  refine⟨as', ?_,by rw[zzR,show k+(r.length+1)=k+1+r.length by omega];exact h5⟩
  show(g x as).bind _=_
  rw[h1];show(f as1).bind _=_
  rw[h2];exact h4
theorem Ym{fi:IF}{g:GF}{f:SF}{xs:List It1}{as':AS}{o:Option Out}(h:fi as=some (xs,as'))(h2:forL g f xs as'=o):vh fi g f as=o:=by unfold vh;rw[h];exact h2
theorem Yz{lo:Int}{n i:Nat}{x:It1}(h:(wD lo n)[i]? = some x):x=(true,.int (lo+i))/\i<n:=by
 unfold wD at h
 rw[zzG]at h
 cases e:(List.range n)[i]? with
 |none=>rw[e]at h;cases h
 |some k=>
  rw[e]at h
  obtain⟨h1,h2⟩:=zzE.mp e
  rw[zyS]at h1
  rw[List.getElem_range]at h2
  subst h2
  exact⟨(zzX h).symm,h1⟩
theorem vd{fr:AF}{j:Int}{u:Bool}(h:WA fr as [(u,.int j)])(h0:0<=j)(h1:j<1000000):xR fr xO as=some (wD 0 j.toNat,as):=by
 unfold xR;unfold WA at h
 rw[h]
 simp only[zyJ,W4]
 show((if -(2 ^ 62)<=j/\j<2 ^ 62 then some (wD 0 j.toNat)else none).bind _)=_
 rw[if_pos ⟨by omega,by omega⟩];rfl
theorem zpE{fr:AF}{rs:List (Bool×D)}{o:O}(ha:a as=some (.ow o,as))(hr:WA fr as rs):WA (aC a fr) as ((o.str,o.toD)::rs):=by
 unfold WA aC at *
 rw[ha];show((fr as).bind _)=_
 rw[hr];rfl
theorem znh{i:Nat}{o:O}(h:as[i]? = some (some o)):RV.view as (.bo i)=some (o.toD,o.kl):=by simp only[RV.view,h]
theorem ztT{i:Nat}{o:O}(h:as[i]? = some (some o)):toO as (.bo i)=some (o.frz,as.set i (some o.frz)):=by simp only[toO,h]
theorem zrQ{i:Nat}{o:O}(h:as[i]? = some (some o))(hs:o.str=true):zqw as (.bo i)=some o:=by simp only[zqw,h,hs,if_true]
theorem znm{i:Nat}{k:Kind}{os:List O}(h:as[i]? = some (some (.nd k os))):fV i as=some (.bo i,as):=by unfold fV;rw[h]
theorem zwx{i:Nat}{os:List O}(h:as[i]? = some (some (.nd .ls os))):WD (fP (aC (fV i) aN) vZ) as true (.int os.length):=by
 have e:views as [.bo i]=some ([.lst (O.toDs os)],meet (O.nd .ls os).kl (some true)):=by
  show(RV.view as (.bo i)).bind _=_
  rw[znh h];rfl
 unfold WD fP aC
 rw[znm h]
 simp only[zyJ,aN,RV.frz,e]
 rw[show vZ [.lst (O.toDs os)]=some (.im (.int os.length)) by show some (R0.im (.int ((O.toDs os).length:Nat)))=_;rw[zeI]]
 rfl
theorem W6{g:GF}{f:SF}{d:It1}{r:List It1}{as1 as2:AS}{o:Option Out}(h1:g d as=some as1)(h2:f as1=some (.nx as2))(h3:forL g f r as2=o):forL g f (d::r) as=o:=by
 show(g d as).bind _=_
 rw[h1];show(f as1).bind _=_
 rw[h2];exact h3
theorem zpy{g:GF}{f:SF}{d:It1}{r:List It1}{as1:AS}{o:O}(h1:g d as=some as1)(h2:f as1=some (.rt o)):forL g f (d::r) as=some (.rt o):=by
 show(g d as).bind _=_
 rw[h1];show(f as1).bind _=_
 rw[h2];rfl
theorem zla{i:Nat}{os:List O}(h:as[i]? = some (some (.nd .ls os)))(hl:os.length<sizeLine)(ha:WD a as s x):wV (ZK i (dC a dN) Zh) as=some (.nx (as.set i (some (.nd .ls (os++[.lf s x]))))):=by
 unfold wV ZK;rw[h]
 have e:dC a dN as=some ([.lf s x],as):=yq ha yU
 show((dC a dN as).bind _).bind _=_
 rw[e];show(Option.bind (match as[i]? with|some (some (.nd .ls os))=>_|_=>none) _)=_
 rw[h];show((Zh os [.lf s x]).bind _).bind _=_
 have e2:Zh os [.lf s x]=some (os++[.lf s x],.lf true .non):=by unfold Zh;exact if_pos hl
 rw[e2];rfl
theorem zpi{i:Nat}{os:List O}{k:Int}{o:O}(h:as[i]? = some (some (.nd .ls os)))(ha:WD a as s (.int k))(h0:0<=k)(h1:k<os.length)(hs:os.length<2 ^ 60)(ho:os[k.toNat]? = some o):ZK i (dC a dN) zax as=some (.ow o,as.set i (some (.nd .ls (os.eraseIdx k.toNat)))):=by
 unfold ZK;rw[h]
 have e:dC a dN as=some ([.lf s (.int k)],as):=yq ha yU
 show((dC a dN as).bind _)=_
 rw[e];show(match as[i]? with|some (some (.nd .ls os))=>_|_=>none)=_
 rw[h];show((zax os [.lf s (.int k)]).bind _)=_
 have e2:zax os [.lf s (.int k)]=some (os.eraseIdx k.toNat,o):=by
  unfold zax
  show(if -(2 ^ 63)<=k/\k<2 ^ 63 then _ else _)=_
  rw[if_pos ⟨by omega,by omega⟩]
  have e3:seqIndex? k os.length=some k.toNat:=by unfold seqIndex?;simp;omega
  rw[e3];show((os[k.toNat]?).bind _)=_
  rw[ho];rfl
 rw[e2];rfl
theorem zbf{i:Nat}{o:O}(h:as[i]? = some (some o))(hs:o.str=true):yc (fV i) as=some (.rt o):=by
 cases o with
 |lf st d=>unfold yc fV;rw[h];have:st=true:=hs;subst this;rfl
 |nd k os=>
  unfold yc;rw[znm h];show(zqw as (.bo i)).bind _=_
  rw[zrQ h hs];rfl
theorem zte{g:D->D->Option R0}{oa ob:O}{zs:List D}{as1 as2:AS}(ha:a as=some (.ow oa,as1))(hb:b as1=some (.ow ob,as2))(hg:g oa.toD ob.toD=some (.fl zs)):f2 a b g as=some (.ow (.nd .ls (zs.map (lfs (oa.str&&ob.str)))),as2):=by
 unfold f2
 rw[ha];show((b as1).bind _)=_
 rw[hb];show((g oa.toD ob.toD).bind _)=_
 rw[hg]
 show(if(zs.all yo||(meet (some oa.str) (some ob.str)).isSome)=true then _ else _:Option RV).bind _=_
 rw[if_pos (by unfold meet;simp)]
 rfl
theorem ZX{g:D->D->Option R0}(ha:WD a as true x)(hb:WD b as true y)(hg:g x y=some (.im z)):WD (f2 a b g) as true z:=by
 have:=zsH ha hb hg
 rw[show(yo z||(true&&true))=true by simp]at this
 exact this
theorem zcB:∀zs:List D,zs.map (lfs true)=zs.map (O.lf true)
 | []=>rfl
 |z::r=>by
  show lfs true z::r.map (lfs true)=_
  rw[zcB r];unfold lfs;rw[zyB];rfl
theorem zqO{g:D->D->Option R0}{oa ob:O}{zs:List D}{as1 as2:AS}(ha:a as=some (.ow oa,as1))(hb:b as1=some (.ow ob,as2))(hg:g oa.toD ob.toD=some (.fl zs))(h1:oa.str=true)(h2:ob.str=true):f2 a b g as=some (.ow (.nd .ls (zs.map (O.lf true))),as2):=by
 have:=zte ha hb hg
 rw[h1,h2,show(true&&true)=true from rfl,zcB]at this
 exact this
theorem W5{fr:DF}{o:O}{os:List O}{as1 as2:AS}(ha:a as=some (.ow o,as1))(hr:fr as1=some (os,as2)):dC a fr as=some (o::os,as2):=by
 unfold dC
 rw[ha];show((fr as1).bind _)=_
 rw[hr];rfl
theorem add_lists{xs ys:List D}(h:xs.length+ys.length<=sizeLine):zp .Add (.lst xs) (.lst ys)=some (.fl (xs++ys)):=if_pos h
theorem zhS(lo:Int)(n:Nat):wD lo (n+1)=(true,.int lo)::wD (lo+1) n:=by
 unfold wD
 rw[List.range_succ_eq_map,zyQ,zzZ]
 congr 1
 · simp
 · apply List.map_congr_left
   intro i _
   show(true,D.int _)=(true,D.int _)
   congr 2
   show lo+((i+1:Nat):Int)=_
   omega
theorem zpv{fr:AF}{rs:List (Bool×D)}{g:List D->Option R0}(ha:WA fr as rs)(hg:g (rs.map (·.2))=some (.im x))(e:rs.all (·.1)=true):WD (fP fr g) as true x:=by
 have:=zmQ ha hg;rw[e,zyB]at this;exact this
theorem zre{ty:Ty}{fr:AF}{rs:List (Bool×D)}{g:D->List D->Option R0}(ha:WD a as s y)(ht:zrS ty y=true)(hr:WA fr as rs)(hg:g y (rs.map (·.2))=some (.im x))(e:yo x=true):WD (zho ty a fr g) as true x:=by
 unfold WD zho;unfold WD at ha;unfold WA at hr
 rw[ha]
 show(if zrS ty y=true then _ else _:Option (RV×AS))=_
 rw[if_pos ht,hr]
 simp only[zyJ,W4]
 show((g y (rs.map (·.2))).bind _)=_
 rw[hg]
 show(if(yo x||_)=true then _ else _:Option RV).bind _=_
 rw[if_pos (by rw[e];rfl)]
 show some (RV.ow (.lf (yo x||_) x),as)=_
 rw[e];rfl
theorem zpH{fl fh:OF}{lo hi:Option Int}{g:D->Option Int->Option Int->Option R0}(ha:WD a as s y)(hl:fl as=some (lo,as))(hh:fh as=some (hi,as))(hg:g y lo hi=some (.im x)):WD (fSl a fl fh g) as (yo x||s) x:=by
 unfold WD fSl;unfold WD at ha
 rw[ha];show((fl as).bind _)=_
 rw[hl];show((fh as).bind _)=_
 rw[hh];show((g y lo hi).bind _)=_
 rw[hg]
 show(if(yo x||(some s).isSome)=true then _ else _:Option RV).bind _=_
 rw[if_pos (by simp)];rfl
theorem zqG{fi:IF}{cap:List (Option Nat)}{g:GF}{tt:TF}{fe:EF}{xs:List It1}{os:List O}(h1:fi as=some (xs,as))(hl:xs.length<=sizeLine)(h2:vU g tt fe (zbw cap as) xs=some os):wu fi cap g tt fe as=some (.ow (.nd .ls os),as):=by
 unfold wu
 rw[h1];show(if xs.length<=sizeLine then _ else _)=_
 rw[if_pos hl];show(vU g tt fe (zbw cap as) xs).bind _=_
 rw[h2];rfl
end
theorem szl{n:Nat}(h:Nat.ble n 1000=true):n<=sizeLine:=Nat.le_of_lt (zbq (Nat.le_of_ble_eq_true h))
theorem zL{a b:Nat}(h:Nat.ble (a+1) b=true):a<b:=Nat.le_of_ble_eq_true h
theorem yV{i:Int}(h0 : -(10 ^ 200)<i)(h1:i<10 ^ 200):i.natAbs<big:=by
 have:(10:Nat) ^ 200<big:=by unfold big;decide +kernel
 have e:((10 ^ 200:Nat):Int)=(10:Int) ^ 200:=by norm_cast
 have:(i.natAbs:Int)<((10 ^ 200:Nat):Int):=by rw[e];omega
 omega
theorem zrl{ns:List Int}{k:Int}(h0:0<=k)(h1:k<ns.length):∃x,ixP (.lst (ns.map D.int)) (.int k)=some (.im (.int x)):=by
 have hk:k.toNat<ns.length:=by omega
 refine⟨ns[k.toNat], ?_⟩
 have h:=zbj (xs:=ns.map D.int) (j:=k.toNat) (v:=D.int ns[k.toNat]) (by rw[zzG,zzC hk];rfl)
 rw[show((k.toNat:Nat):Int)=k by omega]at h
 show imR (atI _ _)=_
 rw[h];rfl
section
variable{X:Cx}{kd:KD}{K:zD}{mg:Str->Option Value}
def spL(K:zD)(g:Fn):Sp:=λvs H Q E=>∀kd:KD,spD K kd g vs H Q E
end
inductive Ents(w:World):List DictEntry->List (Key×V)->Prop
 |nil:Ents w [] []
 |str {x:Str}{t:Tok}{v:V}{u:Value}{r:List DictEntry}{s:List (Key×V)}:RelV v u->Ents w r s->Ents w (⟨PyData.keyHash w.params x,.str x t,u⟩::r) ((.inr x,v)::s)
theorem Ents.keys{P:Program}{w:World}:∀{es:List DictEntry}{kvs:List (Key×V)},Ents w es kvs->∀e ∈ es,∃k,(vJ P w).is k e.key=true/\e.hash=(vJ P w).hash k
 |_,_,.nil,_,m=>nomatch m
 |_,_,.str (x:=x) (t:=t) _ r,e,m=>by
  rcases zzA.mp m with rfl|m
  · exact⟨.inr x,zaU P w x t,rfl⟩
  · exact r.keys e m
theorem Ents.pairs{P:Program}{w:World}:∀{es:List DictEntry}{kvs:List (Key×V)},Ents w es kvs->∃vs,KV kvs vs/\Pairs (vJ P w) es vs/\vs.map (·.1)=kvs.map (·.1)
 |_,_,.nil=>⟨[],.nil,.nil,rfl⟩
 |_,_,.str (x:=x) (t:=t) (u:=u) h r=>by
  obtain⟨vs,h1,h2,h3⟩:=r.pairs (P:=P)
  exact⟨(.inr x,u)::vs,.cons ⟨rfl,h⟩ h1,.cons (zaU P w x t) rfl h2,by rw[zyQ,zyQ,h3]⟩
structure DctAt(w:World)(K:zD)(a:Addr)(kvs:List (Key×V)):Prop where
 ex:∃es ep,K.lookup a=some {cls:=.type "dict",data:=.dict es ep}/\Ents w es.toList kvs
 nd:(kvs.map (·.1)).Nodup
 le:kvs.length<=sizeLine
 ns:(a==sysModules)=false
def kdL(l:List (Addr×List (Key×V)))(c:Str->Addr:=λ_=>0):KD:=⟨λa k=>l.lookup a=some k,c⟩
theorem lookup_mem{l:List (Addr×List (Key×V))}{a:Addr}{k:List (Key×V)}(h:l.lookup a=some k):(a,k) ∈ l:=by
 induction l with
 |nil=>cases h
 |cons p r ih=>
  rw[List.lookup_cons]at h
  by_cases e:a=p.1
  · subst e
    rw[beq_self_eq_true]at h
    cases h
    exact zzD
  · rw[show(a==p.1)=false from beq_eq_false_iff_ne.mpr e]at h
    exact zzB _ (ih h)
theorem zuw{P:Program}{w:World}{K:zD}{l:List (Addr×List (Key×V))}{c:Str->Addr}(h:∀p ∈ l,DctAt w K p.1 p.2):KD1 P w K (kdL l c):=λX e1 e2 e3=>by
 subst e1;subst e2;subst e3
 refine⟨λa k k' h1 h2=>zzX (h1.symm.trans h2),λa k h1=>?_,λa k hp h1 hin=>?_⟩
 · obtain⟨es,ep,e,_⟩:=(h _ (lookup_mem h1)).ex
   exact⟨_,e⟩
 · have q:=h _ (lookup_mem h1)
   obtain⟨es,ep,e,en⟩:=q.ex
   obtain⟨vs,h2,h3,h4⟩:=en.pairs (P:=X.prog)
   refine⟨q.le,q.ns,vs,h2,_,es,ep,hin _ _ e,⟨rfl,rfl,rfl⟩,rfl,λx m=>en.keys x (by simpa using m),h3,by rw[h4];exact q.nd⟩
def isStar:Expr->Bool
 | .Starred .. => true
 |_=>false
theorem za{a:Expr}{es:List Expr}{env:Env}(h:isStar a=false):starEach (a::es) env=(false,eval a env)::starEach es env:=by
 cases a<;>first|rfl|cases h
section
variable{as:AS}{f a b c:EF}{s t u:Bool}{x y z:D}{i j k:Int}
theorem zun{cl:String}(h:WD f as s x)(ho:zlp x=true:=by rfl):WD (zdi f cl) as true (.bl (zhG (tyD x) cl)):=by
 unfold WD zdi at *;rw[h];show(if zlp x=true then _ else _)=_;rw[if_pos ho];rfl
theorem zjx{cl:String}{q:Bool}(h:WD f as s x)(e:zhG (tyD x) cl=q)(ho:zlp x=true:=by rfl):WD (zdi f cl) as true (.bl q):=by subst e;exact zun h ho
theorem zdQ{fl fh:OF}{lo hi:Option Int}{g:D->Option Int->Option Int->Option R0}(ha:WD a as true y)(hl:fl as=some (lo,as))(hh:fh as=some (hi,as))(hg:g y lo hi=some (.im x)):WD (fSl a fl fh g) as true x:=by
 have:=zpH ha hl hh hg;rw[zyB]at this;exact this
theorem zlc{q:Bool}(h:WD f as s (.bl q)):WD (zpa f) as true (.bl (!q)):=by
 unfold WD zpa at *;rw[h];rfl
theorem znG{g:GF}{tt:TF}{fe:EF}{as0 as1:AS}{w:It1}{r:List It1}{o:Option (List O)}(h1:g w as0=some as1)(h2:WT tt as1 false)(h3:vU g tt fe as0 r=o):vU g tt fe as0 (w::r)=o:=by
 unfold WT at h2
 show(g w as0).bind _=_
 rw[h1];show(tt as1).bind _=_
 rw[h2];exact h3
def WE(f:EF)(as:AS)(x:D):Prop:=∃o,f as=some (.ow o,as)/\o.str=true/\o.toD=x
def RE(r:Option O)(x:D):Prop:=∃o,r=some o/\o.str=true/\o.toD=x
theorem WD.e(h:WD f as true x):WE f as x:=⟨_,h,rfl,rfl⟩
theorem vL{fr:DF}{os:List O}(h:WO fr as os)(hl:os.length<=sizeLine)(hs:O.strs os=true)(e:D.lst (O.toDs os)=x):WE (wz fr) as x:=⟨_,zaq h hl,hs,e⟩
theorem Yj{fr:AF}{rs:List (Bool×D)}(h:WE a as x)(hr:WA fr as rs):WA (aC a fr) as ((true,x)::rs):=by
 obtain⟨o,h1,h2,rfl⟩:=h
 have:=zpE h1 hr
 rw[h2]at this
 exact this
theorem Zb{g:List (Bool×D)->Option O}(ha:WE a as x)(hg:RE (g [(true,x)]) z):WE (zy (aC a aN) g) as z:=by
 obtain⟨o,h1,h2,h3⟩:=hg
 exact⟨o,Wf (Yj ha ye) (by show g [(yo x||true,x)]=_;rw[zyB];exact h1),h2,h3⟩
theorem xT{g:List (Bool×D)->Option O}(ha:WE a as x)(hb:WE b as y)(hg:RE (g [(true,x),(true,y)]) z):WE (zy (aC a (aC b aN)) g) as z:=by
 obtain⟨o,h1,h2,h3⟩:=hg
 exact⟨o,Wf (Yj ha (Yj hb ye)) (by show g [(yo x||true,x),(yo y||true,y)]=_;rw[zyB,zyB];exact h1),h2,h3⟩
theorem xf{w:D}{g:List (Bool×D)->Option O}(ha:WE a as x)(hb:WE b as y)(hc:WE c as w)(hg:RE (g [(true,x),(true,y),(true,w)]) z):WE (zy (aC a (aC b (aC c aN))) g) as z:=by
 obtain⟨o,h1,h2,h3⟩:=hg
 exact⟨o,Wf (Yj ha (Yj hb (Yj hc ye))) (by show g [(yo x||true,x),(yo y||true,y),(yo w||true,w)]=_;rw[zyB,zyB,zyB];exact h1),h2,h3⟩
theorem f2E{g:D->D->Option R0}(ha:WE a as x)(hb:WE b as y)(hg:g x y=some (.im z)):WD (f2 a b g) as true z:=by
 obtain⟨o,h1,h2,rfl⟩:=ha
 obtain⟨p,h3,h4,rfl⟩:=hb
 have:=zuP h1 h3 hg
 rw[h2,h4,Bool.and_true,zyB]at this
 exact this
theorem f2L{g:D->D->Option R0}{zs:List D}(ha:WE a as x)(hb:WE b as y)(hg:g x y=some (.fl zs)):f2 a b g as=some (.ow (.nd .ls (zs.map (O.lf true))),as):=by
 obtain⟨o,h1,h2,rfl⟩:=ha
 obtain⟨p,h3,h4,rfl⟩:=hb
 exact zqO h1 h3 hg h2 h4
theorem zic:∀zs:List D,O.strs (zs.map (O.lf true))=true
 | []=>rfl
 |_::r=>zic r
theorem zhD:∀zs:List D,O.toDs (zs.map (O.lf true))=zs
 | []=>rfl
 |z::r=>congrArg (z :: ·) (zhD r)
theorem ztb{g:D->D->Option R0}{zs:List D}(ha:WE a as x)(hb:WE b as y)(hg:g x y=some (.fl zs)):WE (f2 a b g) as (.lst zs):=⟨_,f2L ha hb hg,zic zs,congrArg D.lst (zhD zs)⟩
theorem vI{p:Nat}(h:WE f as x)(hi:p<as.length):zW true p f as=some (.nx (as.set p (some (.lf true x)))):=by
 obtain⟨o,h1,h2,rfl⟩:=h
 have:=zsg h1 hi
 rw[show o.frz = .lf true o.toD by unfold O.frz;rw[h2]]at this
 exact this
theorem zus{g:List D->Option R0}(ha:WE a as x)(hg:g [x]=some (.im z)):WD (fP (aC a aN) g) as true z:=zpv (Yj ha ye) hg rfl
theorem ziV{fr:DF}{o:O}{os:List O}(ha:a as=some (.ow o,as))(hr:WO fr as os):WO (dC a fr) as (o::os):=W5 ha hr
theorem zfi{fr:DF}{os:List O}(h:WO fr as os)(hl:os.length<=sizeLine):wU fr as=some (.ow (W8 os),as):=by
 unfold wU;unfold WO at h
 rw[h];show(if os.length<=sizeLine then some (RV.ow (W8 os),as)else _)=_
 rw[if_pos hl]
theorem zrt{fl fh:OF}{lo hi:Option Int}{g:D->Option Int->Option Int->Option R0}{zs:List D}(ha:WE a as y)(hl:fl as=some (lo,as))(hh:fh as=some (hi,as))(hg:g y lo hi=some (.fl zs)):WE (fSl a fl fh g) as (.lst zs):=by
 obtain⟨o,h1,h2,rfl⟩:=ha
 refine⟨.nd .ls (zs.map (O.lf true)), ?_,zic zs,congrArg D.lst (zhD zs)⟩
 unfold fSl
 rw[h1];show((fl as).bind _)=_
 rw[hl];show((fh as).bind _)=_
 rw[hh];show((g o.toD lo hi).bind _)=_
 rw[hg]
 show(if(zs.all yo||(some o.str).isSome)=true then some (RV.ow (.nd .ls (zs.map (lfs ((some o.str).getD false)))))else none:Option RV).bind _=_
 rw[if_pos (by simp),h2]
 show some (RV.ow (.nd .ls (zs.map (lfs true))),as)=_
 rw[zcB]
theorem zgS{xs ys:List D}:slP (.lst (xs++ys)) (some (xs.length:Int)) none=some (.fl ys):=by
 show some (R0.fl (cutD (xs++ys) (some (xs.length:Int)) none))=_
 congr 2
 unfold cutD
 rw[HT.zmC,HT.zkn,zzH,Nat.min_eq_left (by omega),List.drop_left,List.take_of_length_le (by omega)]
theorem zdk:∀ds:List D,kids true ds=ds.map λd=>(true,d)
 | []=>rfl
 |d::r=>by show(yo d||true,d)::kids true r=_;rw[zdk r,zyB];rfl
theorem zsG{ds:List D}(h:WE f as (.lst ds)):zcg f as=some (ds.map λd=>(true,d),as):=by
 obtain⟨o,h1,h2,h3⟩:=h
 unfold zcg
 rw[h1];show(ziq (o.str,o.toD)).bind _=_
 rw[h2,h3];show some (kids true ds,as)=_
 rw[zdk]
theorem zuV{ds:List D}(h:WD f as true (.lst ds)):zgZ f as=some (ds.map λd=>(true,d),as):=by
 unfold zgZ;unfold WD at h
 rw[h];show some (kids true ds,as)=_
 rw[zdk]
end
def zer:List D->Option (List Str)
 | []=>some []
 | .str x::r=>(zer r).bind λs=>some (x::s)
 |_::_=>none
theorem zrv{K:zD}{kd:KD}{O:Addr->Prop}{H:Hp}{vs:List V}{us:List Value}{ds:List D}{ns:List Str}(h:RpL K kd O H vs ds)(hv:Vals vs us)(e:zer ds=some ns):StrsAre us ns:=
 RpL.ind (P:=λvs ds=>∀us ns,Vals vs us->zer ds=some ns->StrsAre us ns) (λus ns hv e=>by cases e;cases hv;exact .nil) (λ{v d vs ds} a _ ih us ns hv e=>by
  cases hv with
  |cons b t=>
   cases a with
   |str x=>
    obtain⟨ys,h1,h2⟩:=bS_ (show(zer _).bind _=_ from e)
    cases h2
    obtain⟨tk,rfl⟩:=b
    exact .cons _ _ (ih _ _ t h1)
   |_=>cases e) h us ns hv e
def zmE:D->List D->Option R0
 | .str sep,[.lst ds]=>(zer ds).bind λys=>if(ys.map (·.length)).sum+ys.length*sep.length<=16777216 then some (.im (.str (Txt.join sep ys)))else none
 |_,_=>none
section
variable{X:Cx}{kd:KD}
theorem zsc:MtD X kd "str.join" zmE:=by
 intro pins s σ H x xs v us Q I rx r h
 obtain⟨O,d,ds,r0,ht,vx,vl,he,q⟩:=h
 unfold zmE at he
 split at he
 · rename_i sep es
   obtain⟨ys,h1,he⟩:=bS_ he
   obtain⟨hz,he⟩:=yg he
   cases he
   cases vx
   obtain⟨t,rfl⟩:=rx
   obtain⟨y,rfl,vy⟩:=zde vl
   cases vy with
   |lst hr rl=>
    obtain⟨u,rfl,ru⟩:=vals1 r
    cases ru
    obtain⟨its,rv,pl,_⟩:=I.list hr.sq
    exact join_list pl.isList (zrv rl (by simpa using rv) h1) hz λt' k=>⟨.str _,H,I.tok _,⟨t',rfl⟩,yN q (.str _)⟩
 · cases he
def zwt:D->Option R0
 | .str x=>if x.length<=640 then(PySem.intText? x).bind λn=>some (.im (.int n))else none
 |d=>zvY d
def V6:List D->Option R0:=on1 zwt
theorem XH:CallD X kd (.type "int") V6:=by
 intro pins s σ H xs us Q I r h
 obtain⟨O,ds,z,ht,vl,he,q⟩:=h
 obtain⟨x,d,rfl,vx,he⟩:=ziD vl he
 cases vx with
 |str y=>
  obtain⟨hl,he⟩:=ite_some' he
  obtain⟨n,hn,he⟩:=bS_ he
  cases he
  obtain⟨u,rfl,ru⟩:=vals1 r
  obtain⟨t,rfl⟩:=ru
  exact PySem.W.KIN.call_text hn hl ⟨.int _,H,I.tok _,⟨_,rfl⟩,yN q (.int _)⟩
 |int i=>cases he;exact zhZ pins s σ H _ us Q I r (.inl ⟨_,rfl,yN q (.int _)⟩)
 |bl b=>cases he;exact zhZ pins s σ H _ us Q I r (.inr ⟨_,rfl,yN q (.int _)⟩)
 |_=>cases he
end
section
variable{X:Cx}{pins:List (Addr×Obj)}{σ:List (Option V)}{H:Hp}{s:Shared}{h':Heap}
theorem ziC{t':Nat}{ch:List Addr}{T:Addr}{o:HO}(I:Inv X pins σ H s)(hf:∀b ∈ ch,zeO X pins H b)(k:∀b u,b ∉ ch->s.heap.get? b=some u->h'.get? b=some u)(hp:s.heap.objs.size<=T)
 (new:Zj X.prog X.w (upd H T o) h' T o):Inv X pins σ (upd H T o) {s with heap:=h',toks:=t'}:=by
 have hn:H T=none:=I.hok.fresh hp
 have nT:∀b u,s.heap.get? b=some u->b≠T:=λb u e z=>absurd (zzI (zxH e) (by rw[z];exact hp)) (Nat.lt_irrefl _)
 have nc:∀b u,H b=some u->b ∉ ch:=λb u e z=>by have:=(hf b z).1;rw[e]at this;cases this
 refine I.step (g':=s.gens) (d':=s.drawn) (ch:=ch) (λb hb=>?_) (λb o _ _ hc e _=>k b o hc e) (λb o _ _ hc e _=>⟨o.slots,k b o hc e⟩) (λb o _ e n=>by rw[yj (nT b o e)];exact n)
  (λb o hc e=>⟨o,k b o hc e⟩) (λb xs e=>by rw[yj (yJ e hn)];exact e) (λb o u e=>by rw[yj (yJ e hn)];exact e) (λb ps e=>⟨#[],by rw[yj (yJ e hn),e];simp⟩) (λm hm=>?_) (λb u e=>?_) I.bare
 · obtain⟨f0,f1,f2,f3,f4,f5⟩:=hf b hb
   exact⟨f3,f1,f4,f5⟩
 · obtain⟨o,es,ep,ho,r⟩:=hm
   exact⟨o,es,ep,k _ o (λz=>(hf _ z).2.1 rfl) ho,r⟩
 · by_cases hb:b=T
   · subst hb;rw[yP]at e;cases e;exact new
   · rw[yj hb]at e
     refine(I.hok b u e).stay (λc v hc q=>k c v ?_ q) (λc q=>by rw[yj (yJ q hn)];exact q) λc xs q=>by rw[yj (yJ q hn)];exact q
     rcases hc with z|z
     · rw[z];exact nc b u e
     · exact nc c _ z
end
theorem zos(sep:Str)(ys:List Str):Txt.join sep ys=Str.join sep ys:=StrLaws.glued_eq_join sep ys
section
variable{as:AS}{f a b:EF}{s t:Bool}{x y z:D}
theorem ztH{ds:List D}(h:WE f as (.tup ds)):zcg f as=some (ds.map λd=>(true,d),as):=by
 obtain⟨o,h1,h2,h3⟩:=h
 unfold zcg
 rw[h1];show(ziq (o.str,o.toD)).bind _=_
 rw[h2,h3];show some (kids true ds,as)=_
 rw[zdk]
theorem zps{xs ys:List D}:slP (.lst (xs++ys)) none (some (xs.length:Int))=some (.fl xs):=by
 show some (R0.fl (cutD (xs++ys) none (some (xs.length:Int))))=_
 congr 2
 unfold cutD
 rw[HT.zmC,HT.zkn,zzH,Nat.min_eq_left (by omega),List.drop_zero,Nat.sub_zero,List.take_left]
end
theorem zlD{X:Cx}{pins:List (Addr×Obj)}{σ:List (Option V)}{H:Hp}{s:Shared}{h':Heap}{t':Nat}{ch:List Addr}(I:Inv X pins σ H s)(hf:∀b ∈ ch,zeO X pins H b)(k:∀b u,b ∉ ch->s.heap.get? b=some u->h'.get? b=some u):Inv X pins σ H {s with heap:=h',toks:=t'}:=by
 have nc:∀b u,H b=some u->b ∉ ch:=λb u e z=>by have:=(hf b z).1;rw[e]at this;cases this
 refine I.step (g':=s.gens) (d':=s.drawn) (ch:=ch) (λb hb=>?_) (λb o _ _ hc e _=>k b o hc e) (λb o _ _ hc e _=>⟨o.slots,k b o hc e⟩) (λb o _ e n=>n)
  (λb o hc e=>⟨o,k b o hc e⟩) (λb xs e=>e) (λb o u e=>e) (λb ps e=>⟨#[],by rw[e];simp⟩) (λm hm=>?_) (λb u e=>?_) I.bare
 · obtain⟨f0,f1,f2,f3,f4,f5⟩:=hf b hb
   exact⟨f3,f1,f4,f5⟩
 · obtain⟨o,es,ep,ho,r⟩:=hm
   exact⟨o,es,ep,k _ o (λz=>(hf _ z).2.1 rfl) ho,r⟩
 · refine(I.hok b u e).stay (λc v hc q=>k c v ?_ q) (λc q=>q) λc xs q=>q
   rcases hc with z|z
   · rw[z];exact nc b u e
   · exact nc c _ z
section
variable{X:Cx}{tg:Expr}
theorem znO(I l1 l2:Nat)(h1:l1<I)(h2:l2<I):ZipApart (I+4) (I+2) (I+3) I (I+1) l1 l2:=by
 constructor<;>(show(_:Nat)≠_;omega)
end
section
variable{X:Cx}{kd:KD}{tg e:Expr}{fa:EF}
def zdt(st:Bool):List D->List D->List It1
 |x::r,y::t=>(st,.tup [x,y])::zdt st r t
 |_,_=>[]
theorem zkN(st:Bool):∀(xs ys:List D),(zdt st xs ys).length=min xs.length ys.length
 | [],_=>by simp[zdt]
 |_::_,[]=>by simp[zdt]
 |_::r,_::t=>by simp only[zdt,zzR,zkN st r t];omega
theorem zku{st:Bool}:∀{xs ys:List D}{i:Nat}{y:It1},(zdt st xs ys)[i]? = some y->∃d e,xs[i]? = some d/\ys[i]? = some e/\y=(st,.tup [d,e])
 | [],_,_,_,h=>by simp[zdt]at h
 |_::_,[],_,_,h=>by simp[zdt]at h
 |x::r,y::t,0,z,h=>by
  simp only[zdt,List.getElem?_cons_zero]at h
  cases h
  exact⟨x,y,rfl,rfl,rfl⟩
 |x::r,y::t,i+1,z,h=>by
  simp only[zdt,List.getElem?_cons_succ]at h
  obtain⟨d,e,h1,h2,h3⟩:=zku h
  exact⟨d,e,by simpa using h1,by simpa using h2,h3⟩
theorem zsn{K:zD}{F B:Addr->Prop}{ad:Ad}{H:Hp}{v:V}{st q:Bool}{ds:List D}(rp:Rp K kd (Lv F B (Gw [] ad) st) H v (.lst ds))(hq:q=true->st=true):∃a vs,v = .ref a/\(∀(ad3:Ad) (H3:Hp),Grow (Gw [] ad) H (Gw [] ad3) H3->SqL K H3 a vs)/\RpL K kd (Lv F B (Gw [] ad) q) H vs ds:=by
 have le:∀a,Lv F B (Gw [] ad) q a->Lv F B (Gw [] ad) st a:=λa z=>z.imp (λy=>y.imp (λx=>⟨hq x.1,x.2⟩) id) id
 cases rp with
 |lst hn hr rl=>exact⟨_,_,rfl,λad3 H3 g3=>.inl (zbh g3 (λz=>hn (.inr z)) hr),rl.less le⟩
 |lstK a b c rl=>exact⟨_,_,rfl,λad3 H3 g3=>.inr ⟨_,_,_,a,rfl,rfl,rfl,b,c⟩,rl.less le⟩
end
def insI(x:Int):List Int->List Int
 | []=>[x]
 |y::r=>if x<=y then x::y::r else y::insI x r
def sortI:List Int->List Int
 | []=>[]
 |x::r=>insI x (sortI r)
theorem insI_perm(x:Int):∀l:List Int,(insI x l).Perm (x::l)
 | []=>List.Perm.refl _
 |y::r=>by
  unfold insI
  split
  · exact List.Perm.refl _
  · exact((insI_perm x r).cons y).trans (List.Perm.swap x y r)
theorem sortI_perm:∀l:List Int,(sortI l).Perm l
 | []=>List.Perm.refl _
 |x::r=>(insI_perm x (sortI r)).trans ((sortI_perm r).cons x)
theorem zeu(x:Int):∀l:List Int,l.Pairwise (· <= ·)->(insI x l).Pairwise (· <= ·)
 | [],_=>by simp[insI]
 |y::r,h=>by
  unfold insI
  rw[List.pairwise_cons]at h
  split
  · rename_i hxy
    rw[List.pairwise_cons,List.pairwise_cons]
    refine⟨λz hz=>?_,h⟩
    rcases zzA.mp hz with rfl|hz
    · exact hxy
    · exact Int.le_trans hxy (h.1 z hz)
  · rename_i hxy
    rw[List.pairwise_cons]
    refine⟨λz hz=>?_,zeu x r h.2⟩
    rcases zzA.mp ((insI_perm x r).mem_iff.mp hz)with rfl|hz
    · omega
    · exact h.1 z hz
theorem VN:∀l:List Int,(sortI l).Pairwise (· <= ·)
 | []=>List.Pairwise.nil
 |x::r=>zeu x _ (VN r)
theorem zhB:∀(a b:List Int),a.Perm b->a.Pairwise (· <= ·)->b.Pairwise (· <= ·)->a=b
 | [],b,p,_,_=>by rw[List.nil_perm]at p;exact p.symm
 |x::r,[],p,_,_=>by rw[List.perm_nil]at p;cases p
 |x::r,y::t,p,ha,hb=>by
  rw[List.pairwise_cons]at ha hb
  have hxy:x=y:=by
   have h1:x ∈ y::t:=p.mem_iff.mp (zzD ..)
   have h2:y ∈ x::r:=p.mem_iff.mpr (zzD ..)
   rcases zzA.mp h1 with e|e
   · exact e
   · rcases zzA.mp h2 with e'|e'
     · exact e'.symm
     · have:=hb.1 x e
       have:=ha.1 y e'
       omega
  subst hxy
  rw[zhB r t (List.Perm.cons_inv p) ha.2 hb.2]
theorem ints_of{K:zD}{kd:KD}{O:Addr->Prop}{H:Hp}{vs:List V}{us:List Value}{ds:List D}{ns:List Int}(h:RpL K kd O H vs ds)(hv:Vals vs us)(e:V8 ds=some ns):IntsAre us ns:=
 RpL.ind (P:=λvs ds=>∀us ns,Vals vs us->V8 ds=some ns->IntsAre us ns) (λus ns hv e=>by cases e;cases hv;exact .nil) (λ{v d vs ds} a _ ih us ns hv e=>by
  cases hv with
  |cons b t=>
   cases a with
   |int x=>
    obtain⟨ys,h1,h2⟩:=bS_ (show(V8 _).bind _=_ from e)
    cases h2
    obtain⟨tk,rfl⟩:=b
    exact .cons _ _ (ih _ _ t h1)
   |_=>cases e) h us ns hv e
theorem W7:∀{us:List Value}{ns:List Int},IntsAre us ns->Vals (ns.map V.int) us
 |_,_,.nil=>.nil
 |_,_,.cons n t r=>.cons ⟨t,rfl⟩ (W7 r)
theorem zkD{K:zD}{kd:KD}{O:Addr->Prop}{H:Hp}:∀ns:List Int,RpL K kd O H (ns.map V.int) (ns.map D.int)
 | []=>.nil
 |y::r=>.cons (.int y) (zkD r)
def zmm:List D->Option R0:=on1 λx=>(asL x).bind λds=>(V8 ds).bind λns=>if ns.length<64 then some (.fl ((sortI ns).map .int))else none
section
variable{X:Cx}{kd:KD}
theorem zli:CallD X kd (.builtin "sorted") zmm:=by
 intro pins s σ H xs us Q I r h
 obtain⟨O,ds,z,ht,vl,he,q⟩:=h
 obtain⟨x,d,rfl,vx,he⟩:=ziD vl he
 obtain⟨ds,h0,he2⟩:=bS_ (show(asL d).bind _=_ from he)
 cases ziL h0
 · obtain⟨ns,h1,he⟩:=bS_ he2
   obtain⟨hz,he⟩:=yg he
   cases he
   cases vx with
   |lst hr rl=>
    obtain⟨u,rfl,ru⟩:=vals1 r
    cases ru
    obtain⟨its,rv,pl,_⟩:=I.list hr.sq
    have hI:=ints_of rl rv h1
    have hl:=hI.length
    refine sorted_ints pl.isList hI (by omega) λout ns' a1 a2 a3=>?_
    have e:ns'=sortI ns:=zhB _ _ (a2.trans (sortI_perm ns).symm) a3 (VN ns)
    subst e
    obtain⟨ee,hob⟩:=sortedAll_at s.heap its out
    have hn:H (s.heap.objs.size+1)=none:=I.hok.fresh (zyV _)
    refine⟨.ref (s.heap.objs.size+1),_,I.laid (t':=s.toks) (λb o e=>sortedAll_old e) (zyV _) (show Zj X.prog X.w _ _ _ (.lst ((sortI ns).map V.int))from⟨?_,out.toList,ee,W7 a1,by simpa[seqObj]using hob⟩),rfl,ziZ q (zkD _) _ hn⟩
    rw[zS,(sortI_perm ns).length_eq]
    exact Nat.le_of_lt (zbq (by omega))
end
theorem zef:∀{vs:List V}{us:List Value},vs.length=us.length->(∀(i:Nat) v u,vs[i]? = some v->us[i]? = some u->RelV v u)->Vals vs us
 | [],[],_,_=>.nil
 | [],_::_,h,_=>by simp at h
 |_::_,[],h,_=>by simp at h
 |v::vs,u::us,h,k=>.cons (k 0 v u rfl rfl) (zef (by simpa using h) λi a b x y=>k (i+1) a b (by simpa using x) (by simpa using y))
section
variable{X:Cx}{tg:Expr}
def zuZ(ta:TA):TE:=λσ H Q=>ta σ H λvs H1=>∃j:Int,vs=[.int j] /\ -(2 ^ 62)<=j/\j<2 ^ 62/\∀r,H1 r=none->Q (.ref r) (upd H1 r (.rng 0 j))
theorem zqA{a:Expr}{ta:TA}{p pos:Pos}(hg:Gl X "range")(hm:X.mg "range"=none)(ha:PA X [a] ta)(hs:starEach [a] X.env=[(false,eval a X.env)]):PE X (.Call (.Name "range" p) [a] [] pos) (zuZ ta):=by
 intro pins s σ H Q I h
 refine Call_ (zci I hg hm boot_range (PyProof.Rows.callWith_type1 (thn (ha pos pins s σ H _ I h) λus s1 ⟨vs,H1,I1,r1,q1⟩=>?_) hs rfl))
 obtain⟨j,e,b1,b2,q⟩:=q1
 subst e
 cases r1 with
 |cons r rr=>
  cases rr
  obtain⟨t,rfl⟩:=r
  exact call_range_1 ⟨.ref s1.heap.objs.size,_,I1.laid (λb o e=>zxG _ e) (zzL _) (show Zj X.prog X.w _ _ _ (.rng 0 j)from⟨_,_,_,zxI _ rfl⟩),rfl,q _ (I1.hok.fresh (zzL _))⟩
def tLR(ta:TA):TE:=λσ H Q=>zsr (zuZ ta) ztU σ H λvs H2=>∃r H1,∃j:Int,vs=[.ref r]/\H1 r=none/\H2=upd H1 r (.rng 0 j)/\0<=j/\j<=100000/\∀l,H2 l=none->Q (.ref l) (upd H2 l (.lst ((List.range j.toNat).map λ(i:Nat)=>V.int i)))
theorem znF{a:Expr}{ta:TA}{p p' pos pos':Pos}(hc:X.calm=true)(hg:Gl X "range")(hm:X.mg "range"=none)(hgl:Gl X "list")(hml:X.mg "list"=none)(ha:PA X [a] ta)(hs:starEach [a] X.env=[(false,eval a X.env)])
 (hs':starEach [.Call (.Name "range" p) [a] [] pos] X.env=[(false,eval (.Call (.Name "range" p) [a] [] pos) X.env)]):PE X (.Call (.Name "list" p') [.Call (.Name "range" p) [a] [] pos] [] pos') (tLR ta):=by
 intro pins s σ H Q I h
 refine Call_ (zci I hgl hml Bt.list (PyProof.Rows.callWith_type1 (thn ((zcr (zqA hg hm ha hs) ziy hs') pos' pins s σ H (λvs H2=>∃r H1,∃j:Int,vs=[.ref r]/\H1 r=none/\H2=upd H1 r (.rng 0 j)/\0<=j/\j<=100000/\∀l,H2 l=none->Q (.ref l) (upd H2 l (.lst ((List.range j.toNat).map λ(i:Nat)=>V.int i)))) I ?_) λus s1 ⟨vs,H2,I2,r1,q1⟩=>?_) hs' rfl))
 · exact h
 obtain⟨r,H1,j,rfl,hn,rfl,h0,h1,q⟩:=q1
 cases r1 with
 |cons rr rs=>
  cases rs
  cases rr
  obtain⟨t,u,v,ho⟩:=I2.hok r _ (yP ..)
  have hsz:Builtin.Range.rangeSize 0 j 1=(j.toNat:Nat):=by rw[rangeSize_one];split<;>omega
  refine call_list_range (I2.ok.hd hc) ho (small_one (by omega) (by omega) (by omega) (by omega)) (n:=j.toNat) (by exact_mod_cast hsz) (by omega) λh' tk acc c' hk hob hit=>?_
  refine⟨.ref s1.heap.objs.size,_,I2.laid hk (zzL _) (show Zj X.prog X.w _ _ _ (.lst ((List.range j.toNat).map λ(i:Nat)=>V.int i))from⟨?_,acc.toList,c', ?_,by simpa using hob⟩),rfl,q _ (I2.hok.fresh (zzL _))⟩
  · rw[zS,zyS];exact zzM (show j.toNat<=100000 by omega) (by decide)
  · refine zef (by rw[zS,zyS];simpa using hit.1.symm) λi x y hx hy=>?_
    rw[zzG]at hx
    obtain⟨tk',e⟩:=hit.2 i y (by simpa using hy)
    cases hr:(List.range j.toNat)[i]? with
    |none=>rw[hr]at hx;cases hx
    |some k=>
     rw[hr]at hx
     obtain⟨_,hk'⟩:=zzE.mp hr
     rw[List.getElem_range]at hk'
     subst hk'
     cases hx
     exact⟨tk',by rw[e];simp⟩
end
section
variable{X:Cx}{kd:KD}
def lrP:List D->Option R0
 | [.int j]=>if 0<=j/\j<=100000 then some (.fl ((List.range j.toNat).map λ(i:Nat)=>.int i))else none
 |_=>none
theorem zmz{K:zD}{O:Addr->Prop}{H:Hp}:∀l:List Nat,RpL K kd O H (l.map λ(i:Nat)=>V.int i) (l.map λ(i:Nat)=>D.int i)
 | []=>.nil
 |y::r=>.cons (.int y) (zmz r)
theorem znC{a:Expr}{fr:AF}{p p' pos pos':Pos}(hc:X.calm=true)(hg:Gl X "range")(hm:X.mg "range"=none)(hgl:Gl X "list")(hml:X.mg "list"=none)(ha:AA X kd [a] fr)(hs:starEach [a] X.env=[(false,eval a X.env)])
 (hs':starEach [.Call (.Name "range" p) [a] [] pos] X.env=[(false,eval (.Call (.Name "range" p) [a] [] pos) X.env)]):AE X kd (.Call (.Name "list" p') [.Call (.Name "range" p) [a] [] pos] [] pos') (fP fr lrP):=by
 with_unfolding_all exact(xF (znF hc hg hm hgl hml ha hs hs') λσ H Q h=>by
  obtain⟨F,B,ad,as,r,as',R,e,q⟩:=h
  obtain⟨⟨rs,as1⟩,h1,e⟩:=bS_ (show(fr as).bind _=_ from e)
  obtain⟨⟨ds,lv⟩,h2,e⟩:=bS_ e
  obtain⟨r0,h3,e⟩:=bS_ e
  obtain⟨z,h4,e⟩:=bS_ e
  cases e
  match ds,h3,h2 with
  | [.int j],h3,h2=>
   obtain⟨⟨b1,b2⟩,e3⟩:=yg (show(if 0<=j/\j<=100000 then some (R0.fl ((List.range j.toNat).map λ(i:Nat)=>.int i))else none)=some r0 from h3)
   cases e3
   refine(show alA X.K kd fr σ H _ from⟨F,B,ad,as,rs,as1,R,h1,λvs ad1 H1 R1 rv1 g1=>?_⟩)
   have vl:=zcQ R1 rv1 h2
   have rq:=VM R1 h4 (Q:=Q) λw T' H' R' rv' g'=>q w T' ad1 H' R' rv' (g1.trans g')
   cases vl with
   |cons v1 v2=>
    cases v2
    cases v1
    refine⟨j,rfl,by omega,by omega,λr hr=>⟨r,H1,j,rfl,hr,rfl,b1,b2,λl hl=>?_⟩⟩
    have hlr:l≠r:=λe=>by rw[e,yP]at hl;cases hl
    have hl1:H1 l=none:=by rw[yj hlr]at hl;exact hl
    exact rq l _ _ hl1 (λb o q=>Xv hl b o (Xv hr b o q)) yP (zmz _))
end
def zcq(n:Nat)(os:List O):AS:=os.map some++List.replicate (n-os.length) none
theorem znc{L:Bool->V->D->Prop}{N:Addr->Prop}{H:Hp}:∀(ls:List O) {vs:List V}{fp:List Addr},ls.all O.isLf=true->RoL L N H vs ls fp->fp=[]
 | [],_,_,_,r=>by cases r;rfl
 |o::ls,_,_,h,r=>by
  rw[List.all_cons,zyA]at h
  cases r with
  |cons a r=>
   cases a with
   |lf _=>rw[znc ls h.2 r];rfl
   |_=>exact absurd h.1 (by simp[O.isLf])
theorem zmT{L:Bool->V->D->Prop}{N:Addr->Prop}{H:Hp}{vs:List V}{ls:List O}{fp:List Addr}(h:RoL L N H vs ls fp):vs.length=ls.length:=RoL.length h
theorem znr{L:Bool->V->D->Prop}{N:Addr->Prop}{H:Hp}:∀(ls:List O) {vs:List V}{fp:List Addr}{i:Nat}{o:O},ls.all O.isLf=true->RoL L N H vs ls fp->ls[i]? = some o->∃v,vs[i]? = some v/\Ro L N H v o []
 | [],_,_,_,_,_,_,e=>by simp at e
 |o'::ls,_,_,i,o,h,r,e=>by
  rw[List.all_cons,zyA]at h
  cases r with
  |cons a r=>
   cases i with
   |zero=>
    simp at e
    subst e
    cases a with
    |lf z=>exact⟨_,rfl,.lf z⟩
    |_=>exact absurd h.1 (by simp[O.isLf])
   |succ i=>
    obtain⟨v,h1,h2⟩:=znr ls (i:=i) h.2 r (by simpa using e)
    exact⟨v,by simpa using h1,h2⟩
theorem zlZ{K:zD}{kd:KD}{F:Addr->Prop}{T:List Addr}{H:Hp}{N:List Str}{vs:List V}{o:O}{ls:List O}(ht:∀a,F a->H a≠none)(hn:T.Nodup)(hT:∀a ∈ T,H a≠none/\¬F a)(hl:ls.all O.isLf=true)(hN:(o::ls).length<=N.length)(ro:Yh K kd F (λ_=>False) (· ∈ T) H vs (o::ls) T):
 Rel K kd F (λ_=>False) [] (λi=>if i=0 then T else[]) (zcq N.length (o::ls)) (L2.start N vs) H:=by
 have hlen:=zmT ro
 have gw:∀a,Gw [] (λi=>if i=0 then T else[]) a ↔ a ∈ T:=λa=>⟨λz=>z.elim (λy=>nomatch y) λ⟨i,y⟩=>by
  by_cases e:i=0
  · subst e;simpa using y
  · simp[e]at y,λz=>.inr ⟨0,by simpa using z⟩⟩
 have lv:∀st a,Lv F (λ_=>False) (Gw [] (λi=>if i=0 then T else[])) st a->Lv F (λ_=>False) (· ∈ T) st a:=λst a z=>z.imp id (gw a).mp
 refine⟨by unfold zcq L2.start;simp[hlen];omega,λi hi=>?_,λi=>?_,λi j a x y=>?_,zyH,(λ_ _ _ z=>nomatch z),ht,(λ_ z=>z.elim),λa z=>hT a ((gw a).mp z),λi s e=>?_⟩
 · have:i≠0:=λz=>by subst z;unfold zcq at hi;simp at hi
   simp[this]
 · by_cases e:i=0
   · subst e;simpa using hn
   · simp[e]
 · have h1:i=0:=by
    by_cases e:i=0
    · exact e
    · simp[e]at x
   have h2:j=0:=by
    by_cases e:j=0
    · exact e
    · simp[e]at y
   rw[h1,h2]
 · unfold zcq at e
   unfold L2.start
   by_cases hi:i<(o::ls).length
   · rw[zyN (by rw[zS];exact hi),zzG]at e
     obtain⟨d,hd,ea⟩:=zzV.mp e
     subst ea
     rw[zyN (by rw[zS,hlen];exact hi),zzG]
     cases ro with
     |cons a r=>
      rename_i v vs' fp fq
      have e0:fq=[]:=znc ls hl r
      subst e0
      cases i with
      |zero=>
       simp at hd
       subst hd
       exact⟨v,rfl,by simpa using RoS.lv lv a⟩
      |succ i=>
       obtain⟨w,h1,h2⟩:=znr ls hl r (show ls[i]? = some d by simpa using hd)
       exact⟨w,by simp[h1],by simpa using RoS.lv lv h2⟩
   · rw[zyP (by rw[zS];omega)]at e
     have:=zzY e
     have ea:s=none:=(List.mem_replicate.mp this).2
     subst ea
     have hi0:i≠0:=λz=>by subst z;exact hi (by simp)
     show(if i=0 then T else[])=[]
     rw[if_neg hi0]
section
variable{K:zD}{kd:KD}{F B G:Addr->Prop}{H:Hp}
theorem zcK{p:Addr}{u:HO}(hp:G p):Grow G H G (upd H p u):=⟨λb w h n=>by rw[yj (λe=>n (by subst e;exact hp))];exact h,λb z=>.inl z⟩
theorem zmY:∀(os:List O) {vs:List V}{fp:List Addr}{n:Nat}{o:O},Yh K kd F B G H vs os fp->fp.Nodup->(∀a ∈ fp,G a)->os[n]? = some o->
 ∃v f,vs[n]? = some v/\RoS K kd F B G H v o f/\f.Nodup/\(∀a ∈ f,a ∈ fp)/\∀(p:Addr) (u:HO) (o':O),p ∈ f->RoS K kd F B G (upd H p u) v o' f->Yh K kd F B G (upd H p u) vs (os.set n o') fp
 | [],_,_,_,_,_,_,_,e=>by simp at e
 |o1::os,_,_,n,o,r,hn,hG,e=>by
  cases r with
  |cons a r=>
   rename_i v vs fp fq
   obtain⟨n1,n2,n3⟩:=zxD.mp hn
   cases n with
   |zero=>
    simp at e
    subst e
    exact⟨v,fp,rfl,a,n1,λx m=>zzN _ m,λp u o' hp ro=>.cons ro (Yh.grow (zcK (hG p (zzN _ hp))) (λx m w h=>by rw[yj (λe=>n3 p hp x m e.symm)];exact h) r)⟩
   |succ n=>
    obtain⟨v',f,h1,h2,h3,h4,h5⟩:=zmY os (n:=n) (o:=o) r n2 (λx m=>hG x (zzJ _ m)) (by simpa using e)
    exact⟨v',f,by simpa using h1,h2,h3,λx m=>zzJ _ (h4 x m),λp u o' hp ro=>.cons (RoS.grow (zcK (hG p (zzJ _ (h4 p hp)))) (λx m w h=>by rw[yj (λe=>n3 x m p (h4 p hp) e)];exact h) a) (h5 p u o' hp ro)⟩
theorem zib{L:Bool->V->D->Prop}{N:Addr->Prop}{v:V}{st':Bool}{d':D}(h:L st' v d'):∀(os:List O) {vs:List V}{fp:List Addr}{n:Nat}{st:Bool}{d:D},RoL L N H vs os fp->os[n]? = some (.lf st d)->RoL L N H (vs.set n v) (os.set n (.lf st' d')) fp
 | [],_,_,_,_,_,_,e=>by simp at e
 |o1::os,_,_,n,st,d,r,e=>by
  cases r with
  |cons a r=>
   cases n with
   |zero=>
    simp at e
    subst e
    cases a with
    |lf _=>exact .cons (.lf h) r
   |succ n=>exact .cons a (zib h os (n:=n) (st:=st) (d:=d) r (by simpa using e))
theorem zmo{v:V}{inner:List O}{fp:List Addr}{n:Nat}{st:Bool}{d:D}(c:Int)(r:RoS K kd F B G H v (.nd .ls inner) fp)(hn:fp.Nodup)(hG:∀a ∈ fp,G a)(e:inner[n]? = some (.lf st d)):
 ∃p ivs,v = .ref p/\p ∈ fp/\H p=some (.lst ivs)/\n<ivs.length/\RoS K kd F B G (upd H p (.lst (ivs.set n (.int c)))) v (.nd .ls (inner.set n (.lf true (.int c)))) fp:=by
 cases r with
 |ls hp ir=>
  rename_i p ivs ifp
  have hpfp:p ∉ ifp:=(zzU.mp hn).1
  refine⟨p,ivs,rfl,zzD ..,hp,by rw[zmT ir];exact(zzE.mp e).1,.ls yP (zib (.int c) inner (Yh.grow (zcK (hG p (zzD ..))) (λx m w h=>by rw[yj (λe=>hpfp (by subst e;exact m))];exact h) ir) e)⟩
theorem ztc{v:V}{os:List O}{fp:List Addr}{n:Nat}{o:O}(r:RoS K kd F B G H v (.nd .ls os) fp)(hn:fp.Nodup)(hG:∀a ∈ fp,G a)(e:os[n]? = some o):
 ∃l vs w f,v = .ref l/\H l=some (.lst vs)/\vs[n]? = some w/\RoS K kd F B G H w o f/\f.Nodup/\(∀a ∈ f,a ∈ fp)/\∀(p:Addr) (u:HO) (o':O),p ∈ f->RoS K kd F B G (upd H p u) w o' f->RoS K kd F B G (upd H p u) v (.nd .ls (os.set n o')) fp:=by
 cases r with
 |ls hp ir=>
  rename_i l vs ifp
  obtain⟨w,f,h1,h2,h3,h4,h5⟩:=zmY os ir (zzU.mp hn).2 (λa m=>hG a (zzB _ m)) e
  exact⟨l,vs,w,f,rfl,hp,h1,h2,h3,λa m=>zzB _ (h4 a m),λp u o' hpf ro=>.ls (by rw[yj (λe=>(zzU.mp hn).1 (by rw[e];exact h4 p hpf))];exact hp) (h5 p u o' hpf ro)⟩
end
section
variable{K:zD}{kd:KD}{F B:Addr->Prop}{ad:Ad}{as:AS}{σ:St}{H:Hp}{i:Nat}{o:O}
theorem Rel.slotU(R:Rel K kd F B [] ad as σ H)(k:as[i]? = some (some o)):
 ∃v,σ[i]? = some (some v)/\RoS K kd F B (Gw [] ad) H v o (ad i)/\(ad i).Nodup/\(∀a ∈ ad i,Gw [] ad a)/\
  ∀(p:Addr) (u:HO) (o':O),p ∈ ad i->RoS K kd F B (Gw [] ad) (upd H p u) v o' (ad i)->Rel K kd F B [] ad (as.set i (some o')) σ (upd H p u)/\Grow (Gw [] ad) H (Gw [] ad) (upd H p u):=by
 obtain⟨v,hv,ro⟩:=R.sl i _ k
 have hi:i<as.length:=(zzE.mp k).1
 refine⟨v,hv,ro,R.nd i,λa m=>.inr ⟨i,m⟩,λp u o' hp ro'=>?_⟩
 have g:Grow (Gw [] ad) H (Gw [] ad) (upd H p u):=zcK (.inr ⟨i,hp⟩)
 have kn:∀a,H a≠none->upd H p u a≠none:=λa z=>by
  by_cases e:a=p
  · subst e;rw[yP];simp
  · rw[yj e];exact z
 refine⟨⟨by rw[zzS];exact R.len,λj hj=>R.out j (by rw[zzS]at hj;exact hj),R.nd,R.inj,R.tnd,R.dis,λa z=>kn a (R.ftr a z),λa z=>⟨kn a (R.btr a z).1,(R.btr a z).2⟩,λa z=>⟨kn a (R.gtr a z).1,(R.gtr a z).2⟩,λj s e=>?_⟩,g⟩
 by_cases q:j=i
 · subst q
   rw[zyI hi]at e
   cases e
   exact⟨v,hv,ro'⟩
 · rw[zzW (Ne.symm q)]at e
   exact(R.sl j s e).grow g λa m u h=>by rw[yj (λe=>q (R.inj j i a m (by rw[e];exact hp)))];exact h
end
abbrev IXF:=AS->Option Int
def tSt(K:zD)(kd:KD)(f:IXF):TE:=λσ H Q=>∃F B ad as k,Rel K kd F B [] ad as σ H/\f as=some k/\Q (.int k) H
@[irreducible] def AK(X:Cx)(kd:KD)(e:Expr)(f:IXF):Prop:=PE X e (tSt X.K kd f)
def zgx:O->Option (List O)
 | .nd .ls os=>some os
 |_=>none
def zcn:O->Option D
 | .lf _ d=>some d
 |_=>none
def atO{α:Type}(f:O->Option α)(os:List O)(k:Nat):Option α:=os[k]?.bind f
def slO{α:Type}(f:O->Option α)(as:AS)(i:Nat):Option α:=as[i]?.bind λs=>s.bind f
theorem zng{o:O}{os:List O}(h:zgx o=some os):o = .nd .ls os:=by
 cases o with
 |lf s d=>cases h
 |nd k os=>cases k<;>cases h;rfl
theorem znt{o:O}{d:D}(h:zcn o=some d):∃st,o = .lf st d:=by
 cases o with
 |lf s d=>cases h;exact⟨s,rfl⟩
 |nd k os=>cases h
theorem zqz{α:Type}{f:O->Option α}{os:List O}{k:Nat}{a:α}(h:atO f os k=some a):∃o,os[k]? = some o/\f o=some a:=bS_ h
theorem zqb{α:Type}{f:O->Option α}{as:AS}{k:Nat}{a:α}(h:slO f as k=some a):∃o,as[k]? = some (some o)/\f o=some a:=by
 obtain⟨s,h1,h⟩:=bS_ h
 obtain⟨o,rfl,h⟩:=bS_ h
 exact⟨o,h1,h⟩
theorem zww{os inner:List O}{k:Nat}(h:atO zgx os k=some inner):os[k]? = some (.nd .ls inner):=by
 obtain⟨o,h1,h⟩:=zqz h
 cases zng h
 exact h1
theorem zvk{os:List O}{d:D}{k:Nat}(h:atO zcn os k=some d):∃st,os[k]? = some (.lf st d):=by
 obtain⟨o,h1,h⟩:=zqz h
 obtain⟨st,rfl⟩:=znt h
 exact⟨st,h1⟩
theorem zvt{as:AS}{inner:List O}{k:Nat}(h:slO zgx as k=some inner):as[k]? = some (some (.nd .ls inner)):=by
 obtain⟨o,h1,h⟩:=zqb h
 cases zng h
 exact h1
theorem zvE{as:AS}{d:D}{k:Nat}(h:slO zcn as k=some d):∃st,as[k]? = some (some (.lf st d)):=by
 obtain⟨o,h1,h⟩:=zqb h
 obtain⟨st,rfl⟩:=znt h
 exact⟨st,h1⟩
theorem zjp{α:Type}{f:O->Option α}{os:List O}{k:Nat}{o:O}{a:α}(h:os[k]? = some o)(e:f o=some a):atO f os k=some a:=by unfold atO;rw[h];exact e
theorem zjf{α:Type}{f:O->Option α}{as:AS}{k:Nat}{o:O}{a:α}(h:as[k]? = some (some o))(e:f o=some a):slO f as k=some a:=by unfold slO;rw[h];exact e
def xV(i:Nat):IXF:=λas=>(slO zcn as i).bind asI
def xAt(i:Nat)(f:IXF):IXF:=λas=>(f as).bind λk=>if 0<=k then(slO zcn as i).bind λd=>(asL d).bind λds=>ds[k.toNat]?.bind asI else none
section
variable{X:Cx}{kd:KD}{f g:IXF}{a b:Expr}
theorem zlr{i:Nat}{x:Str}{p:Pos}(hv:PE X (.Name x p) (zhg i)):AK X kd (.Name x p) (xV i):=by
 with_unfolding_all exact(xF hv λσ H Q h=>by
  obtain⟨F,B,ad,as,k,R,e,q⟩:=h
  obtain⟨d,e1,e⟩:=bS_ (show(slO zcn as i).bind _=_ from e)
  cases ziw e
  obtain⟨st,k1⟩:=zvE e1
  obtain⟨v,hv,ro⟩:=R.sl i _ k1
  generalize ad i=fp at ro
  cases ro with
  |lf rp=>cases rp;exact⟨_,hv,q⟩)
theorem zoZ{i:Nat}{x:Str}{p pos:Pos}(hv:PE X (.Name x p) (zhg i))(hb:AK X kd b f)(hs:zcM b):AK X kd (.Subscript (.Name x p) b pos) (xAt i f):=by
 with_unfolding_all exact(xF (zqj ziM hv hb hs) λσ H Q h=>by
  obtain⟨F,B,ad,as,c,R,e,q⟩:=h
  obtain⟨k,h1,e⟩:=bS_ (show(f as).bind _=_ from e)
  obtain⟨hk,e⟩:=ite_some' e
  obtain⟨d0,e1,e3⟩:=bS_ e
  obtain⟨ds,e2,e4⟩:=bS_ e3
  obtain⟨d,k2,e5⟩:=bS_ e4
  cases ziL e2
  cases ziw e5
  obtain⟨st,k1⟩:=zvE e1
  obtain⟨v,hv,ro⟩:=R.sl i _ k1
  generalize ad i=fp at ro
  cases ro with
  |lf rp=>
   obtain⟨l,vs,rfl,hq,rl⟩:=zsn (ad:=ad) (q:=st) rp (λz=>z)
   obtain⟨w,hw,rw'⟩:=rl.get k2
   cases rw'
   refine⟨_,hv,F,B,ad,as,k,R,h1,l,vs,k,_,rfl,rfl,hq ad H Grow.refl, ?_,q⟩
   have:=zbj hw
   rw[zyX hk]at this
   exact this)
end
def zmu(i:Nat)(f1 f2 fv:IXF):SF:=λas=>(f1 as).bind λk1=>(f2 as).bind λk2=>(fv as).bind λc=>if 0<=k1/\0<=k2 then(slO zgx as i).bind λos=>(atO zgx os k1.toNat).bind λinner=>(atO zcn inner k2.toNat).bind λ_=>some (.nx (as.set i (some (.nd .ls (os.set k1.toNat (.nd .ls (inner.set k2.toNat (.lf true (.int c)))))))))else none
theorem zrE{n j:Nat}(h:j<n):ixN n (j:Int)=some j:=by
 unfold ixN
 rw[if_pos (by omega),if_pos (by omega)];simp
theorem znd{n:Nat}{k:Int}(h0:0<=k)(h:k.toNat<n):ixN n k=some k.toNat:=by
 have:=zrE h
 rw[show((k.toNat:Nat):Int)=k by omega]at this
 exact this
theorem zqP{α:Type}{xs:List α}{k:Int}{v:α}(h0:0<=k)(h:xs[k.toNat]? = some v):atI xs k=some v:=by
 have:=zbj h
 rw[show((k.toNat:Nat):Int)=k by omega]at this
 exact this
section
variable{X:Cx}{kd:KD}
theorem ztj:SlR X (λx lo hi H Q=>∃z,x = .str z/\z.length<=sizeLine/\Q (.str (Txt.slice z lo hi)) H):=by
 intro pins s σ H x v vl vu lo hi sl Q I rx hs pl pu h
 obtain⟨z,rfl,hz,q⟩:=h
 obtain⟨t,rfl⟩:=rx
 refine⟨"str",_,F.slot_str_getitem.lookup,typeIs_str _ _ _, ?_⟩
 cases pl with
 |none=>
  cases pu with
  |none=>exact wpAny_getItem_str_slice (l:=none) (u:=none) (st:=none) hs rfl (post_val_or_str ⟨zzM (Txt.slice_le z _ _) hz,λt' k=>⟨.str _,H,I.kept (λ_ _ e=>e),⟨_,rfl⟩,q⟩⟩)
  |int j uj=>exact wpAny_getItem_str_slice (l:=none) (u:=some (j,uj)) (st:=none) hs rfl (post_val_or_str ⟨zzM (Txt.slice_le z _ _) hz,λt' k=>⟨.str _,H,I.kept (λ_ _ e=>e),⟨_,rfl⟩,q⟩⟩)
 |int i ui=>
  cases pu with
  |none=>exact wpAny_getItem_str_slice (l:=some (i,ui)) (u:=none) (st:=none) hs rfl (post_val_or_str ⟨zzM (Txt.slice_le z _ _) hz,λt' k=>⟨.str _,H,I.kept (λ_ _ e=>e),⟨_,rfl⟩,q⟩⟩)
  |int j uj=>exact wpAny_getItem_str_slice (l:=some (i,ui)) (u:=some (j,uj)) (st:=none) hs rfl (post_val_or_str ⟨zzM (Txt.slice_le z _ _) hz,λt' k=>⟨.str _,H,I.kept (λ_ _ e=>e),⟨_,rfl⟩,q⟩⟩)
def slS:D->Option Int->Option Int->Option R0
 | .str z,lo,hi=>if z.length<=sizeLine then some (.im (.str (Txt.slice z lo hi)))else none
 |_,_,_=>none
theorem zvy:SlR X (λx lo hi H Q=>∃O d r,(∀a,O a->H a≠none)/\Vw X.K kd O H x d/\slS d lo hi=some r/\RQ X.K kd O H Q r):=by
 intro pins s σ H x v vl vu lo hi sl Q I rx hs pl pu h
 obtain⟨O,d,r,ht,vx,he,q⟩:=h
 unfold slS at he
 split at he
 · obtain⟨c,rfl⟩:=yg he
   cases vx
   exact ztj pins s σ H _ v vl vu lo hi sl Q I rx hs pl pu ⟨_,rfl,c,yN q (.str _)⟩
 · cases he
theorem zdJ{a:Expr}{lo hi:Option Expr}{fa:EF}{fl fh:OF}{pos p2:Pos}(ha:AE X kd a fa)(hl:AO X kd lo fl)(hh:AO X kd hi fh):AE X kd (.Subscript a (.Slice lo hi none p2) pos) (fSl fa fl fh slS):=by with_unfolding_all exact(xF (zkW zvy ha hl hh) λσ H Q h=>by
 obtain⟨F,B,ad,as,r,as',R,e,q⟩:=h
 obtain⟨⟨p,as1⟩,h1,e⟩:=bS_ (show(fa as).bind _=_ from e)
 obtain⟨⟨l,as2⟩,h2,e⟩:=bS_ e
 obtain⟨⟨u,as3⟩,h3,e⟩:=bS_ e
 obtain⟨⟨d,lv⟩,h4,e⟩:=bS_ e
 obtain⟨r',h5,e⟩:=bS_ e
 obtain⟨z,h6,e⟩:=bS_ e
 cases e
 refine YK R h1 λv ad1 H1 R1 rv1 g1=>⟨F,B,ad1,as1,l,as2,R1,h2,λad2 H2 R2 g2=>⟨F,B,ad2,as2,u,_,R2,h3,λad3 H3 R3 g3=>?_⟩⟩
 exact⟨_,d,r',R3.tr _,v8.vw R3 ((rv1.grow g2).grow g3) h4,h5,VM R3 h6 λw T' H' R' rv' g'=>q w T' ad3 H' R' rv' (((g1.trans g2).trans g3).trans g')⟩)
end
theorem zja:typeLookup (.type "list") "keys"=pure none:=am_miss_of_fast (by decide +kernel)
theorem zlW{prog:Program}{w:World}{A:Around}{E:Value->Shared->Prop}{s:Shared}{a:Addr}{o:Obj}{xs:Array Value}{k:Nat}{Q:Option Value->Shared->Prop}
 (hx:s.heap.get? a=some o) (hc:o.cls = .type "list") (hdat:o.data = .seq xs k) (hd:o.dict=none) (hA:A.handled=none)
 (h:∀h' tk,(∀b o,s.heap.get? b=some o->h'.get? b=some o)->Q none {s with heap:=h',toks:=tk}):
 wpAny (model prog w) A (getAttr? (.ref a) "keys") Q E s:=by
 obtain⟨c,dct,dat,sl⟩:=o
 simp only at hc hdat hd
 subst hc hdat hd
 obtain⟨hp,g,d,tk,os⟩:=s
 have hT:∀tk',(⟨hp,g,d,tk',os⟩:Shared).TypeIs (.ref a) "list":=λ_=>⟨_,hx,rfl⟩
 have f1:=sub_AttributeError
 have f3:=F.slot_list_getattribute.lookup
 have f4:=F.slot_list_getattribute.bind (.ref a)
 have f5:=am_list_getattr_none
 unfold getAttr? getAttrBy? getAttrBy
 repeat (any_goals (first|assumption|exact hT _|((with_reducible show wpAny _ _ (call (Value.builtin "list.__getattribute__") _ _) _ _ _);refine call_meets F.slot_list_getattribute (hT _) am_entry_list_getattribute (F.args_list_getattribute_2 _ _) (meets_getattribute_miss_list a xs k sl "keys" _ zja (by decide +kernel)) ⟨hx,hA,λh' tk' e hx'=>?_⟩)|wp_step))
 obtain⟨t',u',he⟩:=hx'.there
 show wpAny _ _ (getattributeRaised _ _ _ _ _ _ _) _ _ _
 unfold getattributeRaised
 repeat (any_goals (first|assumption|wp_step))
 exact h _ _ hx'.keeps
theorem Z2:plainId "dict.update.loop"=true:=by decide +kernel
theorem zan:entryFor table "dict.update.loop"=some Builtin.«dict.update.loop» := entryFor_of_fast (by kernel_rfl)
section
variable{prog:Program}{w:World}{κ:Type}[DecidableEq κ]{knd:KeyKind prog w κ}{A:Around}{R:Result->Shared->Prop}{d I l:Addr}{items:Array Value}{N:Nat}
def putAll(kvs:List (κ×Value)):List (κ×Value)->List (κ×Value)
 | []=>kvs
 |p::r=>putAll (stored kvs p.1 p.2) r
theorem zlt(kvs:List (κ×Value))(k:κ)(v:Value):(stored kvs k v).length<=kvs.length+1:=by
 unfold stored
 split
 · rw[zS];omega
 · rw[zzH];exact zzL _
theorem zoY(hh:A.handled=none)(hdN:N<=d)(hIN:N<=I)(hdI:d≠I)(hlN:l<N):∀(rest:List (κ×Value)) (i:Nat) (s:Shared) (kvs:List (κ×Value)),s.heap.IsListIter I l i->s.heap.IsList l items->s.heap.DictOf knd d kvs->kvs.length+rest.length<=sizeLine->
 (∀j p,rest[j]? = some p->∃q key,items[i+j]? = some (.ref q)/\q<N/\IsTup s.heap q #[key,p.2]/\knd.is p.1 key=true)->items[i+rest.length]? = none->
 (∀h' tk,h'.DictOf knd d (putAll kvs rest)->(∀b o,b<N->s.heap.get? b=some o->h'.get? b=some o)->R (.ok (.ret .none)) {s with heap:=h',toks:=tk})->
 codeAny (model prog w) A (.builtin "dict.update.loop" ⟨[.ref d,.ref I,rawInt i,.none],[]⟩) R s:=by
 intro rest
 induction rest with
 |nil=>
  intro i s kvs hit hl hm hz hp he hR
  refine codeAny_builtin zan ?_
  rw[Around.under_plainId Z2 _]
  show wpAny _ A.in1 (pyNext (.ref I) >>= _) _ _ s
  refine zxE (wpAny_pyNext_list_end hh hit hl he λh' hx=>?_)
  show wpAny _ _ (Builtin.Dict.addKeywords d [] >>= _) _ _ _
  refine zxE (zxF (zxF ?_))
  obtain⟨o,es,ep,ho,r⟩:=hm
  exact hR h' s.toks ⟨o,es,ep,hx d o hdI ho,r⟩ λb o hb e=>hx b o (zzO (zzI hb hIN)) e
 |cons p rest ih=>
  intro i s kvs hit hl hm hz hp he hR
  obtain⟨q,key,hq,hqN,ht,hkey⟩:=hp 0 p rfl
  refine codeAny_builtin zan ?_
  rw[Around.under_plainId Z2 _]
  show wpAny _ A.in1 (pyNext (.ref I) >>= _) _ _ s
  refine zxE (wpAny_pyNext_list_item hit hl hq λh' hit' hs=>?_)
  have sm:∀b o,b≠I->s.heap.get? b=some o->h'.get? b=some o:=λb o hb e=>(hs.2 b hb).trans e
  obtain⟨oq,hoq,hcq,nq,hdq⟩:=ht
  have hoq':=sm q oq (zzO (zzI hqN hIN)) hoq
  have hm':h'.DictOf knd d kvs:=let⟨o,es,ep,ho,r⟩:=hm;⟨o,es,ep,sm d o hdI ho,r⟩
  have hl':h'.IsList l items:=let⟨o,ho,r⟩:=hl;⟨o,sm l o (zzO (zzI hlN hIN)) ho,r⟩
  have hT:({s with heap:=h'}:Shared).TypeIs (.ref q) "tuple":=⟨oq,hoq',hcq⟩
  show wpAny _ _ (holding [.ref q] _ >>= _) _ _ _
  refine zxE (zxL (zxE (wpAny_tryCatch ?_)))
  unfold Builtin.Dict.pairItems
  refine zxE (wpAny_typeOf hT ?_)
  show wpAny _ _ (if(Value.type "tuple"==Value.type "list"||Value.type "tuple"==Value.type "tuple")=true then _ else _) _ _ _
  rw[if_pos (by decide)]
  refine zxE (wpAny_seqItems hoq' hdq (zxF ?_))
  show wpAny _ _ (holding [key,p.2] (dictSet d key p.2)) _ _ _
  refine zxL (wpAny_dictSet_pairs (hsz:=by simp only[zzR]at hz;omega) hkey hm' λh'' hm'' hs''=>?_)
  have sm2:∀b o,b≠d->h'.get? b=some o->h''.get? b=some o:=λb o hb e=>(hs''.2 b hb).trans e
  refine zxF ⟨plainId_quiet Z2 _, ?_⟩
  have hit'':h''.IsListIter I l (i+1):=let⟨o,ho,r⟩:=hit';⟨o,sm2 I o (Ne.symm hdI) ho,r⟩
  have hl'':h''.IsList l items:=let⟨o,ho,r⟩:=hl';⟨o,sm2 l o (zzO (zzI hlN hdN)) ho,r⟩
  have keep:∀b o,b<N->s.heap.get? b=some o->h''.get? b=some o:=λb o hb e=>sm2 b o (zzO (zzI hb hdN)) (sm b o (zzO (zzI hb hIN)) e)
  have:=ih (i+1) {s with heap:=h'',toks:=s.toks+1} (stored kvs p.1 p.2) hit'' hl'' hm'' (by have:=zlt kvs p.1 p.2;simp only[zzR]at hz;omega)
   (λj p' hj=>by
    obtain⟨q',key',a1,a2,⟨o',a3,a4⟩,a5⟩:=hp (j+1) p' (by simpa using hj)
    exact⟨q',key',by rw[show i+1+j=i+(j+1) by omega];exact a1,a2,⟨o',keep q' o' a2 a3,a4⟩,a5⟩)
   (by rw[show i+1+rest.length=i+(p::rest).length by simp only[zzR];omega];exact he)
   (λh3 tk hm3 k3=>hR h3 tk hm3 λb o hb e=>k3 b o hb (keep b o hb e))
  exact this
end
theorem zgf{prog:Program}{w:World}{κ:Type}[DecidableEq κ]{knd:KeyKind prog w κ}{A:Around}{E:Value->Shared->Prop}{s:Shared}{l:Addr}{o:Obj}{items:Array Value}{n:Nat}{ps:List (κ×Value)}{Q:Value->Shared->Prop}(hh:A.handled=none)
 (ho:s.heap.get? l=some o) (hc:o.cls = .type "list") (hd:o.data = .seq items n) (hn:o.dict=none) (hsz:ps.length<=sizeLine)
 (hp:∀(j:Nat) (p:κ×Value),ps[j]? = some p->∃(q:Addr) (key:Value),items[j]? = some (Value.ref q)/\IsTup s.heap q #[key,p.2]/\knd.is p.1 key=true) (he:items[ps.length]? = none)
 (h:∀h' tk,h'.DictOf knd s.heap.objs.size (putAll [] ps)->(∀b o,s.heap.get? b=some o->h'.get? b=some o)->Q (.ref s.heap.objs.size) {s with heap:=h',toks:=tk}):wpAny (model prog w) A (call (.type "dict") [.ref l]) Q E s:=by
 refine callType_codes (Q₁:=λobj s₁=>obj = .ref s.heap.objs.size/\s₁={s with heap:=s.heap.push {cls:=.type "dict",data:=.dict #[]}}) F.kt_called_dict (F.kt_typeCall_dict_1 _) F.entry_dict_init (kt_code_dict_new _ ⟨rfl,rfl⟩) ?_
 rintro obj s₁ ⟨rfl,rfl⟩
 have hnew:(s.heap.push {cls:=.type "dict",data:=.dict #[]}).DictOf knd s.heap.objs.size []:=Heap.DictOf.new s.heap
 have k1:∀b o,s.heap.get? b=some o->(s.heap.push {cls:=.type "dict",data:=.dict #[]}).get? b=some o:=λb o e=>zxG _ e
 have hT:({s with heap:=s.heap.push {cls:=.type "dict",data:=.dict #[]}}:Shared).TypeIs (.ref l) "list":=⟨o,k1 l o ho,hc⟩
 refine⟨hnew.typeIs,F.args_dict_init_2 _ _, ?_⟩
 unfold Builtin.«dict.__init__»
 refine zxE ?_
 unfold Builtin.Dict.selfAndRest
 refine zxE (wpAny_notOrdered_dict hnew.typeIs ?_)
 show wpAny _ _ (pure (s.heap.objs.size,[Value.ref l])) _ _ _
 refine zxF ?_
 show wpAny _ _ (Builtin.Dict.updateFrom "dict.__init__" s.heap.objs.size (.ref l) [] .none) _ _ _
 unfold Builtin.Dict.updateFrom
 refine zxE (wpAny_typeOf hT ?_)
 rw[if_pos (by decide)]
 refine zxE (zlW (k1 l o ho) hc hd hn hh λh2 tk2 k2=>?_)
 rw[if_pos (by decide)]
 refine zxE (wpAny_rule ?_)
 have ho2:=k2 l o (k1 l o ho)
 have hl2:h2.IsList l items:=⟨o,ho2,hc,n,hd⟩
 refine zxE (wpAny_pyIter_list hl2 ?_)
 have k3:∀b o,h2.get? b=some o->(h2.push {cls:=.type "list_iterator",data:=.fields #[.ref l,.int 0 0]}).get? b=some o:=λb o e=>zxG _ e
 have hd2:s.heap.objs.size<h2.objs.size:=by
  obtain⟨o',_,_,ho',_⟩:=hnew
  exact zxH (k2 _ _ ho')
 refine zxF ⟨plainId_quiet Z2 _, ?_⟩
 refine zoY (A:=A.in1) (N:=s.heap.objs.size) (knd:=knd) (items:=items) hh (zzL _) (Nat.le_of_lt hd2) (zzO hd2) (zxH ho) ps 0 {s with heap:=h2.push {cls:=.type "list_iterator",data:=.fields #[.ref l,.int 0 0]},toks:=tk2} [] ⟨_,zxI _ rfl,rfl,rfl⟩ ⟨o,k3 l o ho2,hc,n,hd⟩ ?_ (by rw[List.length_nil];omega) (λj p hj=>?_) (by rw[zyW];exact he) (λh' tk dd kk=>?_)
 · obtain⟨o',es,ep,ho',r⟩:=hnew
   exact⟨o',es,ep,k3 _ _ (k2 _ _ ho'),r⟩
 · obtain⟨q,key,a1,⟨o',a3,a4⟩,a5⟩:=hp j p hj
   exact⟨q,key,by rw[zyW];exact a1,zxH a3,⟨o',k3 _ _ (k2 _ _ (k1 _ _ a3)),a4⟩,a5⟩
 · exact⟨rfl,h h' tk dd λb o e=>kk b o (zxH e) (k3 _ _ (k2 _ _ (k1 _ _ e)))⟩
def zcb:List D->Option (List (Key×D))
 | []=>some []
 |d::r=>(asT d).bind λl=>(zuh l).bind λp=>(zpq p.1).bind λk=>(zcb r).bind λt=>some ((k,p.2)::t)
def zwc:D->Option R0
 | .dct kvs=>some (.fd kvs)
 | .lst ds=>(zcb ds).bind λkvs=>if(kvs.map (·.1)).Nodup then some (.fd kvs)else none
 |_=>none
def zeG:List D->Option R0:=on1 zwc
theorem zfr{κ:Type}[DecidableEq κ]:∀(ps acc:List (κ×Value)),((acc++ps).map (·.1)).Nodup->putAll acc ps=acc++ps
 | [],acc,_=>(zyC acc).symm
 |p::r,acc,h=>by
  have hs:stored acc p.1 p.2=acc++[p]:=by
   unfold stored
   rw[if_neg]
   rw[zyK,zyQ]at h
   obtain⟨_,_,n3⟩:=zxD.mp h
   intro z
   obtain⟨q,m,e⟩:=List.any_eq_true.mp z
   exact n3 q.1 (List.mem_map_of_mem m) p.1 (zzD ..) (of_decide_eq_true e)
  show putAll (stored acc p.1 p.2) r=_
  rw[hs,zfr r (acc++[p]) (by rw[zxB];exact h),zxB];rfl
section
variable{X:Cx}{kd:KD}{O:Addr->Prop}{pins:List (Addr×Obj)}{σ:St}{H:Hp}{s:Shared}
theorem zgG(I:Inv X pins σ H s):∀{vs:List V}{us:List Value}{ds:List D}{dk:List (Key×D)},RpL X.K kd O H vs ds->Vals vs us->zcb ds=some dk->
 ∃(kvs:List (Key×V)) (ps:List (Key×Value)),KV kvs ps/\RpM X.K kd O H kvs dk/\ps.length=us.length/\ps.map (·.1)=dk.map (·.1)/\kvs.length=ps.length/\
  ∀(j:Nat) (p:Key×Value),ps[j]? = some p->∃(q:Addr) (key:Value),us[j]? = some (Value.ref q)/\IsTup s.heap q #[key,p.2]/\(vJ X.prog X.w).is p.1 key=true
 |_,_,[],_,rl,r,e=>by
  cases rl
  cases r
  cases e
  exact⟨[],[],.nil,.nil,rfl,rfl,rfl,λj p h=>by simp at h⟩
 |_,_,d::ds,dk,rl,r,e=>by
  cases rl with
  |cons rp rl=>
   rename_i v vs
   cases r with
   |cons r0 r=>
    rename_i u us
    obtain⟨l0,e0,e2⟩:=bS_ (show(asT d).bind _=_ from e)
    obtain⟨⟨k,dv⟩,e1,e3⟩:=bS_ e2
    cases zpR e0
    cases zmU e1
    · obtain⟨kk,h1,e⟩:=bS_ e3
      obtain⟨t,h2,e⟩:=bS_ e
      cases e
      obtain⟨kvs,ps,a1,a2,a3,a4,a5,a6⟩:=zgG I (ds:=ds) (dk:=t) rl r h2
      cases rp.vw with
      |tup rp' hq rl'=>
       rename_i q ws
       cases rl' with
       |cons k1 rl'=>
        cases rl' with
        |cons k2 rl'=>
         cases rl'
         rename_i kv' vv'
         have ek:=zpT k1.vw h1
         subst ek
         obtain⟨its,rv,ht,_⟩:=I.tuple hq
         obtain⟨u1,u2,rfl,r1,r2⟩:=vals2 rv
         cases r0
         refine⟨(kk,vv')::kvs,(kk,u2)::ps,.cons ⟨rfl,r2⟩ a1,.cons k2 a2,congrArg (· + 1) a3,congrArg (kk :: ·) a4,congrArg (· + 1) a5,λj p h=>?_⟩
         cases j with
         |zero=>
          simp at h
          subst h
          exact⟨q,u1,rfl,ht,zns r1⟩
         |succ j=>simpa using a6 j p (by simpa using h)
theorem zft(hc:X.calm=true)(hk:KdOk X kd):CallD X kd (.type "dict") zeG:=by
 intro pins s σ H xs us Q I r h
 obtain⟨O,ds,z,ht,vl,he,q⟩:=h
 obtain⟨x,d,rfl,vx,he⟩:=ziD vl he
 cases vx with
 |dct hr rm=>exact zob hk pins s σ H _ us Q I r ⟨O,[.dct _],z,ht,.cons (.dct hr rm) .nil,he,q⟩
 |lst hr rl=>
  obtain⟨dk,h1,he⟩:=bS_ (show(zcb _).bind _=_ from he)
  obtain⟨hn,he⟩:=yg he
  cases he
  obtain⟨u,rfl,ru⟩:=vals1 r
  cases ru
  obtain⟨its,rv,⟨o,n,ho,hcl,hdi,hda⟩,hz⟩:=I.list hr.sq
  obtain⟨kvs,ps,a1,a2,a3,a4,a5,a6⟩:=zgG I rl rv h1
  have hlen:=rv.length
  refine zgf (knd:=vJ X.prog X.w) (ps:=ps) (I.ok.hd hc) ho hcl hda hdi (by omega) (λj p hj=>?_) (by rw[a3];simp) λh' tk dd kp=>?_
  · obtain⟨q',key,b1,b2,b3⟩:=a6 j p hj
    exact⟨q',key,by simpa using b1,b2,b3⟩
  · rw[zfr ps [] (by rw[List.nil_append,a4];exact hn),List.nil_append]at dd
    exact⟨.ref _,_,I.laid (a:=s.heap.objs.size) (o:=.dK kvs) (t':=tk) kp (zzL _) (zpk (by omega) (beq_eq_false_iff_ne.mpr (Ne.symm (zzO I.big))) a1 dd),rfl,zpz q a2 _ (I.hok.fresh (zzL _))⟩
 |_=>cases he
end
theorem l1_{α:Type}{P:List α->Prop}(h:∀a,P [a]):∀us:List α,us.length=1->P us
 | [a],_=>h a
theorem l2_{α:Type}{P:List α->Prop}(h:∀a b,P [a,b]):∀us:List α,us.length=2->P us
 | [a,b],_=>h a b
theorem l3_{α:Type}{P:List α->Prop}(h:∀a b c,P [a,b,c]):∀us:List α,us.length=3->P us
 | [a,b,c],_=>h a b c
theorem l4_{α:Type}{P:List α->Prop}(h:∀a b c d,P [a,b,c,d]):∀us:List α,us.length=4->P us
 | [a,b,c,d],_=>h a b c d
theorem l5_{α:Type}{P:List α->Prop}(h:∀a b c d e,P [a,b,c,d,e]):∀us:List α,us.length=5->P us
 | [a,b,c,d,e],_=>h a b c d e
section
variable{X:Cx}{kd:KD}
theorem aI{c:Int}{j pos}:AE X kd (.Constant (.int c) j pos) (fC (.int c)):=ziP zsZ λ_ _=>.int _
theorem aS{c:Str}{j pos}:AE X kd (.Constant (.str c) j pos) (fC (.str c)):=ziP zuu λ_ _=>.str _
theorem aZ{j pos}:AE X kd (.Constant .none j pos) (fC .non):=ziP zsN λ_ _=>.non
theorem aB{c:Bool}{j pos}:AE X kd (.Constant (.bool c) j pos) (fC (.bl c)):=ziP zvN λ_ _=>.bl _
theorem ax{P:Program}{w:World}{K:zD}{a b:Expr}{fa fb:EF}{pos:Pos}(hkd:KD1 P w K kd)(ha:AE X kd a fa)(hb:AE X kd b fb)(h1:X.prog=P:=by rfl)(h2:X.w=w:=by rfl)(h3:X.K=K:=by rfl)(hm:zcM b:=by exact λ_ _=>rfl):AE X kd (.Subscript a b pos) (f2 fa fb ixP):=zuM (zwq (hkd _ h1 h2 h3)) ha hb hm
theorem sv(z:Bool)(i:Nat){x:Str}{pos pos':Pos}{e:Expr}{fa:EF}(hN:X.N.Nodup)(he:AE X kd e fa)(hi:X.N[i]? = some x:=by rfl)(hx:Loc X.env.scope x:=by first|exact Or.inl rfl|exact Or.inr rfl)(hs:swapsWith e (some (.Name x pos')) pos.line X.env=pure false:=by rfl)(hf:X.fn x=true\/X.env.scope.names.lookup x=some .local:=by first|exact Or.inl rfl|exact Or.inr rfl):
 ASt X kd (.Assign [.Name x pos'] e pos) (zW z i fa):=zth hN hi hx he hs hf
theorem an(i:Nat){x:Str}{pos:Pos}(hN:X.N.Nodup)(hi:X.N[i]? = some x:=by rfl)(hx:Loc X.env.scope x:=by first|exact Or.inl rfl|exact Or.inr rfl)(hf:X.fn x=true\/X.env.scope.names.lookup x=some .local:=by first|exact Or.inl rfl|exact Or.inr rfl):AG X kd (.Name x pos) [i] (gN i):=zrm hN hi hx hf
theorem av(i:Nat){x:Str}{pos:Pos}(hN:X.N[i]? = some x:=by rfl)(hv:Vis X.env.scope x:=by first|exact Or.inl rfl|exact Or.inr (Or.inl rfl)|exact Or.inr (Or.inr rfl))(hd:(x==("__debug__":Str))=false:=by decide)
 (hcd:(x==("__classdict__":Str))=false:=by decide):AE X kd (.Name x pos) (fV i):=ztP (zph hN hv hd hcd)
end
def lkp{α:Type}:List Str->List α->Str->Option α
 | [],_,_=>none
 |_,[],_=>none
 |n::ns,a::as,f=>if f=n then some a else lkp ns as f
theorem zcc(f:Str):∀(ns:List Str) (vs:List V),(ns.zip vs).lookup f=lkp ns vs f
 | [],_=>rfl
 |_::_,[]=>rfl
 |n::ns,v::vs=>by
  show List.lookup f ((n,v)::ns.zip vs)=if f=n then some v else lkp ns vs f
  rw[List.lookup_cons]
  by_cases h:f=n
  · rw[if_pos h,beq_iff_eq.mpr h]
  · rw[if_neg h,beq_eq_false_iff_ne.mpr h]
    exact zcc f ns vs
theorem zpD{K:zD}{kd:KD}{O:Addr->Prop}{H:Hp}{f:Str}{d:D}:∀{ns:List Str}{vs:List V}{ds:List D},RpL K kd O H vs ds->lkp ns ds f=some d->∃v,lkp ns vs f=some v/\Rp K kd O H v d
 | [],_,_,_,e=>by cases e
 |_::_,_,_,.nil,e=>by cases e
 |n::ns,_,_,.cons (v:=v) (d:=d') (vs:=vs) (ds:=ds) h r,e=>by
  have e:(if f=n then some d' else lkp ns ds f)=some d:=e
  show ∃w,(if f=n then some v else lkp ns vs f)=some w/\_
  by_cases q:f=n
  · rw[if_pos q]at e ⊢;cases e;exact⟨v,rfl,h⟩
  · rw[if_neg q]at e ⊢;exact zpD r e
theorem zkh{α:Type}{f:Str}:∀{ns:List Str}{vs:List α},f ∉ ns->lkp ns vs f=none
 | [],_,_=>rfl
 |_::_,[],_=>rfl
 |n::ns,v::vs,h=>by
  show(if f=n then some v else lkp ns vs f)=none
  rw[if_neg λe=>h (by rw[e];exact zzD)]
  exact zkh λm=>h (zzB _ m)
theorem zjJ{f:Str}{v:V}:∀{ns:List Str}{vs:List V},ns.length=vs.length->f ∉ ns->zae f v (ns.zip vs)=(ns++[f]).zip (vs++[v])
 | [],[],_,_=>rfl
 | [],_::_,h,_=>by cases h
 |_::_,[],h,_=>by cases h
 |n::ns,w::vs,h,hf=>by
  show(if n=f then(n,v)::ns.zip vs else(n,w)::zae f v (ns.zip vs))=(n,w)::(ns++[f]).zip (vs++[v])
  rw[if_neg λe=>hf (by rw[e];exact zzD),zjJ (Nat.succ.inj h) λm=>hf (zzB _ m)]
def yx(cs:List Str)(f:Str):D->Option R0
 | .ob c ns ds=>if c ∈ cs then(lkp ns ds f).bind λd=>some (.im d)else none
 |_=>none
def CF(K:zD)(kd:KD)(cs:List Str)(f:Str):Prop:=∀c ∈ cs,Cls K (kd.c c)/\wB K (kd.c c) f
section
variable{X:Cx}{kd:KD}{a e o:Expr}{es:List Expr}{fa fo fe:EF}{fr:AF}{pos pos' apos:Pos}{m f:Str}{cs:List Str}
theorem yd(hc:CF X.K kd cs f)(ha:AE X kd a fa)(hb:attributeBase a f X.env (eval a X.env)=eval a X.env):AE X kd (.Attribute a f pos) (f1 fa (yx cs f)):=by
 with_unfolding_all exact(xF (zur ha hb) λσ H Q h=>by
  obtain⟨F,B,ad,as,r,as',R,e,q⟩:=h
  obtain⟨⟨p,as1⟩,h1,e⟩:=bS_ (show(fa as).bind _=_ from e)
  obtain⟨⟨x,lv⟩,h2,e⟩:=bS_ e
  obtain⟨z,h3,e⟩:=bS_ e
  obtain⟨y,h4,e⟩:=bS_ e
  cases e
  refine YK R h1 λv ad1 H1 R1 rv1 g1=>?_
  have vw:=v8.vw R1 rv1 h2
  have rq:=VM R1 h4 λw T' H' R' rv' g'=>q w T' ad1 H' R' rv' (g1.trans g')
  cases vw with
  |ob hH hl rl=>
   obtain⟨hm,h3⟩:=ite_some' h3
   obtain⟨d,hd,h3⟩:=bS_ h3
   cases h3
   obtain⟨w,hw,rw'⟩:=zpD rl hd
   exact⟨_,_,_,_,w,rfl,hH,(hc _ hm).1,(hc _ hm).2,(zcc _ _ _).trans hw,rq w H1 (λ_ _ z=>z) rw'⟩
  |_=>cases h3)
def ztg(X:Cx)(m:Str)(ta:TE)(t:TA):TE:=λσ H Q=>ta σ H λx H1=>∃a C dx fs k f fd ps sp,x = .ref a/\H1 a=some (.ins C dx fs)/\Cls X.K C/\Meth X.K C m f/\fs.lookup m=none/\
 FnOk X.prog X.w X.K X.mg X.base CX0 k f fd ps sp/\Room k X.A/\Binds X.K fd ps []/\t σ H1 λvs H2=>sp (x::vs) H2 Q λ_ _ _=>False
theorem zsR{pl:Sem Bool}{ta:TE}{t:TA}(he:PE X o ta)(hx:Yo CX0 X λ_ _ _=>False)(ha:PA X (e::es) t)
 (hst:starEach (e::es) X.env=(false,eval e X.env)::starEach es X.env) (hpl:(backTo pos (starEach es X.env)).any (·.1)=false)
 (ht:eval (.Call (.Attribute o m apos) (e::es) [] pos) X.env=(do
  let ov <-eval o X.env
  standAt apos.atName
  let(f,first) <-holding [ov] (getMethod ov m pl)
  callWith pos f first (backTo pos (starEach (e::es) X.env)) (backToKw pos (keywordEach [] X.env)))):
 PE X (.Call (.Attribute o m apos) (e::es) [] pos) (ztg X m ta t):=by
 intro pins s σ H Q I h
 refine PySem.W.methodCall_KW (pl:=pl) (thn (he pins s σ H _ I h) λu s1 ⟨x,H1,I1,rx,a,C,dx,fs,k,f,fd,ps,sp,ex,ea,c,hm,l,F,hr,hb,q⟩=>?_) ht
 subst ex
 obtain rfl:u=Value.ref a:=rx
 refine zfv I1 ea c hm l ?_
 refine PySem.W.callWith_K (first:=[.ref a]) (h₀:=X.base) I.ok.mod.kin hm.kp (thn (ha pos pins s1 σ H1 _ I1 q) λus s2 ⟨vs,H2,I2,r,q2⟩=>⟨I2.kIn, ?_⟩) hst hpl
 refine zma (us:=.ref a::us) (vs:=.ref a::vs) F hr hb .nil hx I2 (.cons rfl r) ?_
 rw[zyC]
 exact q2
theorem zrJ{pl:Sem Bool}{ta:TE}(he:PE X o ta)(hx:Yo CX0 X λ_ _ _=>False)
 (ht:eval (.Call (.Attribute o m apos) [] [] pos) X.env=(do
  let ov <-eval o X.env
  standAt apos.atName
  let(f,first) <-holding [ov] (getMethod ov m pl)
  callWith pos f first (backTo pos (starEach [] X.env)) (backToKw pos (keywordEach [] X.env)))):
 PE X (.Call (.Attribute o m apos) [] [] pos) (ztg X m ta ztU):=by
 intro pins s σ H Q I h
 refine PySem.W.methodCall_KW (pl:=pl) (thn (he pins s σ H _ I h) λu s1 ⟨x,H1,I1,rx,a,C,dx,fs,k,f,fd,ps,sp,ex,ea,c,hm,l,F,hr,hb,q⟩=>?_) ht
 subst ex
 obtain rfl:u=Value.ref a:=rx
 refine zfv I1 ea c hm l ?_
 exact PySem.W.callWith_K0 (first:=[.ref a]) I1.kIn hm.kp (zma (us:=[.ref a]) (vs:=[.ref a]) F hr hb .nil hx I1 (.cons rfl .nil) q)
end
def lkT:List (Str×Fn)->Str->Option Fn
 | [],_=>none
 |p::r,c=>if c=p.1 then some p.2 else lkT r c
def MT(P:Program)(w:World)(K:zD)(mg:Str->Option Value)(base:Heap)(kd:KD)(m:Str)(k:Nat)(tbl:List (Str×Fn)):Prop:=
 ∀c g,lkT tbl c=some g->∃k' f fd ps,k'<=k/\Cls K (kd.c c)/\Meth K (kd.c c) m f/\FnOk P w K mg base CX0 k' f fd ps (spD K kd g)/\Binds K fd ps []
section
variable{P:Program}{w:World}{K:zD}{mg:Str->Option Value}{base:Heap}{kd:KD}{m:Str}{k:Nat}{tbl:List (Str×Fn)}
theorem zjz:MT P w K mg base kd m k []:=λc g h=>by cases h
theorem zqC{c:Str}{g:Fn}{k':Nat}{f:Addr}{fd:FuncData}{ps:List Str}(hk:k'<=k)(cl:Cls K (kd.c c))(me:Meth K (kd.c c) m f)(F:FnOk P w K mg base CX0 k' f fd ps (spD K kd g))(b:Binds K fd ps [])(h:MT P w K mg base kd m k tbl):MT P w K mg base kd m k ((c,g)::tbl):=λc' g' e=>by
 have e:(if c'=c then some g else lkT tbl c')=some g':=e
 by_cases q:c'=c
 · rw[if_pos q]at e;cases e;subst q;exact⟨k',f,fd,ps,hk,cl,me,F,b⟩
 · rw[if_neg q]at e;exact h c' g' e
end
def obC(m:Str):D->Option Str
 | .ob c ns _=>if m ∈ ns then none else some c
 |_=>none
def zay(tbl:List (Str×Fn))(m:Str)(fo:EF)(fr:AF):EF:=λas=>(fo as).bind λp=>(p.1.frz.view p.2).bind λw=>(obC m w.1).bind λc=>(lkT tbl c).bind λg=>(fr p.2).bind λq=>(Wz q.2 (p.1.frz::q.1)).bind λx=>(g x).bind λo=>some (.ow o,q.2)
section
variable{X:Cx}{kd:KD}{a e o:Expr}{es:List Expr}{fa fo fe:EF}{fr:AF}{pos pos' apos:Pos}{m f:Str}{cs:List Str}{tbl:List (Str×Fn)}{k:Nat}
theorem zsJ(hT:MT X.prog X.w X.K X.mg X.base kd m k tbl)(hr:Room k X.A){σ:St}{H:Hp}{Q:VK}{t:TA}(ht:∀σ H Q,alA X.K kd fr σ H Q->t σ H Q)(h:al X.K kd (zay tbl m fo fr) σ H Q):ztg X m (al X.K kd fo) t σ H Q:=by
 obtain⟨F,B,ad,as,r,as',R,e,q⟩:=h
 obtain⟨⟨p,as1⟩,h1,e⟩:=bS_ (show(fo as).bind _=_ from e)
 obtain⟨⟨w,lv⟩,h2,e⟩:=bS_ e
 obtain⟨c,h3,e⟩:=bS_ e
 obtain⟨g,h4,e⟩:=bS_ e
 obtain⟨⟨rs,as2⟩,h5,e⟩:=bS_ e
 obtain⟨ds,h6,e⟩:=bS_ e
 obtain⟨o,h7,e⟩:=bS_ e
 cases e
 refine YK R h1 λv ad1 H1 R1 rv1 g1=>?_
 have vw:=v8.vw R1 rv1 h2
 cases vw with
 | @ob a' dx c' ns vs0 ds0 hH hl rl=>
  have h3:(if m ∈ ns then none else some c')=some c:=h3
  by_cases hn:m ∈ ns
  · rw[if_pos hn]at h3;cases h3
  · rw[if_neg hn]at h3
    cases h3
    obtain⟨k',f,fd,ps,hk',cl,me,F1,b⟩:=hT _ _ h4
    refine⟨_,_,_,_,k',f,fd,ps,_,rfl,hH,cl,me,(zcc _ _ _).trans (zkh hn),F1,hr.mono hk',b,ht _ _ _ ⟨F,B,ad1,as1,rs,as2,R1,h5,λvs ad2 H2 R2 rv2 g2=>?_⟩⟩
    exact⟨_,ds,o,R2.trk true,zjo R2 (.cons (rv1.grow g2) rv2) h6,h7,zlS R2 λw T' H' R' rv' g'=>q w T' ad2 H' R' rv' ((g1.trans g2).trans g')⟩
 |_=>cases h3
theorem zdD{pl:Sem Bool}(hT:MT X.prog X.w X.K X.mg X.base kd m k tbl)(hr:Room k X.A)(hx:Yo CX0 X λ_ _ _=>False)(ho:AE X kd o fo)(ha:AA X kd (e::es) fr)
 (hst:starEach (e::es) X.env=(false,eval e X.env)::starEach es X.env) (hpl:(backTo pos (starEach es X.env)).any (·.1)=false)
 (ht:eval (.Call (.Attribute o m apos) (e::es) [] pos) X.env=(do
  let ov <-eval o X.env
  standAt apos.atName
  let(f,first) <-holding [ov] (getMethod ov m pl)
  callWith pos f first (backTo pos (starEach (e::es) X.env)) (backToKw pos (keywordEach [] X.env)))):
 AE X kd (.Call (.Attribute o m apos) (e::es) [] pos) (zay tbl m fo fr):=by
 with_unfolding_all exact(xF (zsR ho hx ha hst hpl ht) λσ H Q h=>zsJ hT hr (λ_ _ _ z=>z) h)
theorem zrF{pl:Sem Bool}(hT:MT X.prog X.w X.K X.mg X.base kd m k tbl)(hr:Room k X.A)(hx:Yo CX0 X λ_ _ _=>False)(ho:AE X kd o fo)
 (ht:eval (.Call (.Attribute o m apos) [] [] pos) X.env=(do
  let ov <-eval o X.env
  standAt apos.atName
  let(f,first) <-holding [ov] (getMethod ov m pl)
  callWith pos f first (backTo pos (starEach [] X.env)) (backToKw pos (keywordEach [] X.env)))):
 AE X kd (.Call (.Attribute o m apos) [] [] pos) (zay tbl m fo aN):=by
 with_unfolding_all exact(xF (zrJ ho hx ht) λσ H Q h=>zsJ hT hr (λσ H Q z=>by
  obtain⟨F,B,ad,as,rs,as',R,e,q⟩:=z
  cases e
  exact q [] ad H R .nil Grow.refl) h)
end
abbrev IFn:=AS->Option AS
def bf(K:zD)(kd:KD)(f:IFn):TS:=λD σ H=>∃F B ad as as',Rel K kd F B [] ad as σ H/\f as=some as'/\∀ad' H',Rel K kd F B [] ad' as' σ H'->Grow (Gw [] ad) H (Gw [] ad') H'->D.nx σ H'
@[irreducible] def AFs(X:Cx)(kd:KD)(st:List Stmt)(f:IFn):Prop:=PSs X st (bf X.K kd f)
@[irreducible] def AFt(X:Cx)(kd:KD)(st:Stmt)(f:IFn):Prop:=PS X st (bf X.K kd f)
def zaJ(i:Nat)(cs:List Str)(f:Str)(fe:EF):IFn:=λas=>(fe as).bind λp=>(ziW p.2 p.1).bind λx=>match x.2[i]? with
 |some (some (.nd (.ob c ns) os))=>if c ∈ cs/\f ∉ ns/\ns.length<1000 then some (x.2.set i (some (.nd (.ob c (ns++[f])) (os++[.lf x.1.1 x.1.2]))))else none
 |_=>none
def zqJ(fe:EF):IFn:=λas=>(fe as).bind λp=>some p.2
def Y8(f g:IFn):IFn:=λas=>(f as).bind g
section
variable{X:Cx}{kd:KD}{e o:Expr}{st:Stmt}{rest:List Stmt}{fe:EF}{f g:IFn}{pos pos':Pos}{cs:List Str}{n:Str}
theorem zrd(he:AE X kd e fe)(hs:swapsWith e none pos.line X.env=pure false):AFt X kd (.Expr e pos) (zqJ fe):=by
 with_unfolding_all exact(ZD (zfg he hs) λD σ H h=>by
  obtain⟨F,B,ad,as,o,R,e,q⟩:=h
  obtain⟨⟨p,as1⟩,h1,e⟩:=bS_ (show(fe as).bind _=_ from e)
  cases e
  exact⟨F,B,ad,as,p,as1,R,h1,λv T' ad' H' R' rv g=>q ad' H' R'.drop (g.trans (Grow.less Gw.drop))⟩)
theorem vK{j:Nat}(hc:CF X.K kd cs n)(ho:PE X o (zhg j))(he:AE X kd e fe)(hs:swapsWith e (some (.Attribute o n pos')) pos.line X.env=pure false):AFt X kd (.Assign [.Attribute o n pos'] e pos) (zaJ j cs n fe):=by
 with_unfolding_all exact(ZD (zuE ho he hs) λD σ H h=>by
  obtain⟨F,B,ad,as,o,R,e,q⟩:=h
  obtain⟨⟨p,as1⟩,h1,e⟩:=bS_ (show(fe as).bind _=_ from e)
  obtain⟨⟨⟨st,d⟩,as2⟩,h2,e⟩:=bS_ e
  cases k1:as2[j]? with
  |none=>rw[k1]at e;cases e
  |some a0=>
   rw[k1]at e
   match a0,e,k1 with
   |some (.nd (.ob c ns) os),e,k1=>
    obtain⟨⟨hm,hf,hz⟩,e⟩:=yg e
    cases e
    refine⟨F,B,ad,as,p,as1,R,h1,λv T1 ad1 H1 R1 rv1 g1=>?_⟩
    obtain⟨ad2,R2,rp,le⟩:=zdm R1 rv1 h2
    obtain⟨v0,hs0,ro0⟩:=R2.sl j _ k1
    refine⟨v0,hs0, ?_⟩
    generalize hfp:ad2 j=fp1 at ro0
    cases ro0 with
    |ob hC hH hl rl=>
     rename_i l dx C vs fp
     have ec:C=kd.c c:=hC.cl_eq
     subst ec
     have hnd:=R2.nd j
     rw[hfp]at hnd
     have rl':Yh X.K kd F B (Gw [] ad2) H1 (vs++[v]) (os++[.lf st d]) fp:=by
      have:=rl.append (RoL.one (Ro.lf (N:=Nf F B (Gw [] ad2)) (H:=H1) rp))
      rw[zyC]at this
      exact this
     refine⟨l,_,dx,_,rfl,hH,(hc _ hm).1,(hc _ hm).2,by rw[List.length_zip,hl,Nat.min_self,<-hl];exact hz, ?_⟩
     rw[zjJ hl hf]
     obtain⟨R4,g4⟩:=R2.mut (fo:=[]) (n:=.nd (.ob c (ns++[n])) (os++[.lf st d])) (u:=.ins (kd.c c) dx ((ns++[n]).zip (vs++[v]))) (zzE.mp k1).1 hfp hs0 (fp':=fp) (λa m=>by
      rw[zyC]at m ⊢;exact m) (by rw[zyC];exact(zzU.mp hnd).2) (by rw[hH];simp) λH' G' hl' gr kp=>.ob (.cl c) hl' (by rw[zzH,zzH,hl];rfl) (Yh.grow gr kp rl')
     exact q _ _ R4 ((g1.trans (Grow.less le)).trans g4))
theorem znu(h:AFt X kd st f):AFs X kd [st] f:=by
 with_unfolding_all exact(zfc h)
theorem wL(h1:AFt X kd st f)(h2:AFs X kd rest g):AFs X kd (st::rest) (Y8 f g):=by
 with_unfolding_all exact(zcy (zao h1 h2) λD σ H h=>by
  obtain⟨F,B,ad,as,o,R,e,q⟩:=h
  obtain⟨o1,e1,e⟩:=bS_ (show(f as).bind _=_ from e)
  exact⟨F,B,ad,as,o1,R,e1,λad' H' R' g'=>⟨F,B,ad',o1,o,R',e,λad2 H2 R2 g2=>q ad2 H2 R2 (g'.trans g2)⟩⟩)
end
def ob0(c:Str):O:=.nd (.ob c []) []
def lfD(x:Bool×D):O:=.lf x.1 x.2
def slot0:AS->Option O
 |some o::_=>if o.str=true then some o else none
 |_=>none
def fnI(c:Str)(n m:Nat)(f:IFn)(ds:List (Bool×D)):Option O:=if ds.length+1=m then(f (zcq n (ob0 c::ds.map lfD))).bind slot0 else none
def spI(K:zD)(kd:KD)(c:Str)(g:Fn):Sp:=λvs H Q _=>∃F x dx vs' ds o,vs = .ref x::vs'/\H x=some (.ins (kd.c c) dx [])/\(∀a,F a->H a≠none)/\¬F x/\RpI K kd F (λ_=>False) (· = x) H vs' ds/\g ds=some o/\
 ∀T H',T.Nodup->(∀a ∈ T,a=x\/H a=none)->(∀b u,H b=some u->b≠x->H' b=some u)->(∀a ∈ T,H' a≠none)->Ro (λ_ v d=>Rp K kd (Un2 F (· ∈ T)) H' v d) (λa=>¬Un2 F (· ∈ T) a) H' (.ref x) o T->Q .non H'
theorem zuy{K:zD}{kd:KD}{F B G:Addr->Prop}{H:Hp}{vs:List V}{ds:List (Bool×D)}(h:RpI K kd F B G H vs ds):Yh K kd F B G H vs (ds.map lfD) []:=by
 induction h with
 |nil=>exact .nil
 |cons a _ ih=>exact RoL.cons (Ro.lf a) ih
theorem zqD(ds:List (Bool×D)):(ds.map lfD).all O.isLf=true:=by
 induction ds with
 |nil=>rfl
 |cons x r ih=>exact ih
section
variable{P:Program}{w:World}{K:zD}{mg:Str->Option Value}{base:Heap}
theorem zqk{kd:KD}{x qual:Str}{st:Stmt}{f:Addr}{fd:FuncData}{N ps:List Str}{k:Nat}{c:Str}{b:IFn}(Fn:Fun K x qual st f fd)(S:FnScope N ps (zG st))(hps:ps.length<=N.length)
 (hb:∀(cdv:Value) (A:Around) (outer:List Env) (s:Shared) (H:Hp) (E:XK),Room k (A.deeper (envOfC qual (zG st) s.heap.objs.size f cdv))->AFs (zji CX0 P w K mg base N qual (zG st) f cdv A outer s H E).nox kd (V0 st) b):
 FnOk P w K mg base CX0 (k+1) f fd ps (spI K kd c (fnI c N.length ps.length b)):=by
 with_unfolding_all (
 refine Fn.ok S (λvs H Q E h=>?_) (λcdv A outer s H vs Q E hr h=>⟨_,hb cdv A outer s H E hr, ?_⟩)
 · obtain⟨F,x,dx,vs',ds,o,rfl,_,_,_,rp,e,_⟩:=h
   obtain⟨hl,_⟩:=ite_some' (show(if ds.length+1=ps.length then _ else none)=_ from e)
   rw[zzR,rp.length,hl]
 · obtain⟨F,x,dx,vs',ds,o,rfl,hx,ht,hF,rp,e,q⟩:=h
   obtain⟨hl,e⟩:=ite_some' (show(if ds.length+1=ps.length then _ else none)=_ from e)
   obtain⟨as',e1,e2⟩:=bS_ e
   have ro:Yh K kd F (λ_=>False) (· ∈ [x]) H (V.ref x::vs') (ob0 c::ds.map lfD) [x]:=by
    have e0:(λa=>a ∈ [x])=(λa=>a=x):=by funext a;exact propext zzP
    rw[e0]
    exact RoL.cons (fq:=[]) (Ro.ob (C:=kd.c c) (vs:=[]) (.cl c) hx rfl .nil) (zuy rp)
   have R0:=zlZ (N:=N) ht (T:=[x]) (by simp) (λa m=>by rw[zzP.mp m,hx];exact⟨by simp,hF⟩) (zqD ds) (by rw[zzR,zS];omega) ro
   have gw:∀a,Gw [] (λi=>if i=0 then[x]else[]) a->a=x:=λa z=>z.elim (λy=>nomatch y) λ⟨i,y⟩=>by
    by_cases e:i=0
    · subst e;simpa using y
    · simp[e]at y
   refine⟨F,λ_=>False,_,_,as',R0,e1,λad' H' R' g'=>?_⟩
   match as',e2,R' with
   |some o'::r,e2,R'=>
    obtain⟨hs,e2⟩:=yg (show(if o'.str=true then some o' else none)=some o from e2)
    subst e2
    obtain⟨v,hv,ro'⟩:=R'.sl 0 (some o') rfl
    have hv0:(L2.start N (V.ref x::vs'))[0]? = some (some (V.ref x)):=rfl
    rw[hv0]at hv
    cases hv
    have rt:=zjm R' (R'.nd 0) (λa m=>.inr ⟨0,m⟩) ro' hs
    exact q (ad' 0) H' rt.nd (λa m=>(g'.own a (.inr ⟨0,m⟩)).imp (gw a) id) (λb u h hb=>g'.keep b u h λz=>hb (gw b z)) rt.tr rt.ro)
end
section
variable{X:Cx}{kd:KD}{e:Expr}{es:List Expr}{fr:AF}{pos p:Pos}{g:Fn}
theorem zuf{c:Str}{σ:St}{H:Hp}{Q:VK}{E:XK}(h:al X.K kd (zy fr g) σ H Q):zsD (kd.c c) (spI X.K kd c g) [] E (alA X.K kd fr) σ H Q:=by
 obtain⟨F,B,ad,as,r,as',R,e,q⟩:=h
 obtain⟨⟨p,as1⟩,h1,e⟩:=bS_ (show(fr as).bind _=_ from e)
 obtain⟨ds,h2,e⟩:=bS_ e
 obtain⟨o,h3,e⟩:=bS_ e
 cases e
 refine⟨F,B,ad,as,p,_,R,h1,λvs ad1 H1 R1 rv1 g1 x dx hx hdx hne=>?_⟩
 rw[zyC]
 have k:∀b u,H1 b=some u->upd (upd H1 dx (.own x)) x (.ins (kd.c c) dx []) b=some u:=λb u h=>by rw[yj (yJ h hx),yj (yJ h hdx)];exact h
 have kn:∀b,upd (upd H1 dx (.own x)) x (.ins (kd.c c) dx []) b=none->H1 b=none:=λb h=>by
  cases e:H1 b with
  |none=>rfl
  |some u=>rw[k b u e]at h;cases h
 refine⟨Lv F B (Gw [] ad1) true,x,dx,vs,ds,o,rfl,yP,λa z y=>R1.trk true a z (kn a y),λz=>R1.trk true x z hx, ?_,h3,λT H' hn hl kp ht ro=>⟨rfl, ?_⟩⟩
 · have ra:=zjo R1 rv1 h2
   clear e h3 h2 rv1
   induction ra with
   |nil=>exact .nil
   |cons h _ ih=>
    refine .cons ?_ ih
    exact Rp.grow (W:=λ_=>False) (W':=(· = x)) ⟨λb u h _=>k b u h,λb e=>.inr (by rw[e];exact hx)⟩ (h.less λa z=>z.elim (λy=>y.elim id λy=>y.elim) λy=>y.elim)
 · exact zlS R1 (λw T' H' R' rv' g'=>q w T' ad1 H' R' rv' (g1.trans g')) (.ref x) T H' hn (λa m=>(hl a m).elim (λe=>by rw[e];exact hx) (kn a)) (λb u h=>kp b u (k b u h) (yJ h hx)) ht ro
theorem zdd{c x:Str}{k:Nat}{f C:Addr}{fdt:FuncData}{ps:List Str}(hC:kd.c c=C)(M:Mk X.K C f)(F:FnOk X.prog X.w X.K X.mg X.base CX0 k f fdt ps (spI X.K kd c g))(hr:Room (k+1) X.A)(hg:Gl X x)(hm:X.mg x=some (.ref C))(hb:Binds X.K fdt ps [])(hx:Yo CX0 X λ_ _ _=>False)
 (ha:AA X kd (e::es) fr) (hdb:(x==("__debug__":Str))=false) (he:starEach (e::es) X.env=(false,eval e X.env)::starEach es X.env) (hpl:(backTo pos (starEach es X.env)).any (·.1)=false):
 AE X kd (.Call (.Name x p) (e::es) [] pos) (zy fr g):=by
 subst hC
 with_unfolding_all exact(xF (zrO M F hr hg hm hb .nil hx ha hdb he hpl) λσ H Q h=>zuf h)
end
def zso(mg:Str->Option Value):Str->Addr:=λx=>match mg x with
 |some (.ref a)=>a
 |_=>0
theorem zmr{mg:Str->Option Value}{x:Str}{a:Addr}(h:mg x=some (.ref a)):zso mg x=a:=by
 unfold zso;rw[h]
structure CI(K:zD)(kd:KD)(mg:Str->Option Value)(c:Str)(C:Addr):Prop where
 eq:kd.c c=C
 cl:Cls K C
 mks:PySem.W.makesIn K C=true
 kp:PySem.W.keepIn K (.ref C)=true
 mg:mg c=some (.ref C)
section
variable{P:Program}{w:World}{K:zD}{mg:Str->Option Value}{base:Heap}{kd:KD}{m f:Str}{k:Nat}{tbl:List (Str×Fn)}{cs:List Str}{c:Str}{C:Addr}
theorem zjt{g:Fn}{k':Nat}{f:Addr}{fd:FuncData}{ps:List Str}(ci:CI K kd mg c C)(me:Meth K C m f)(F:FnOk P w K mg base CX0 k' f fd ps (spD K kd g))(hk:k'<=k)(b:Binds K fd ps [])(h:MT P w K mg base kd m k tbl):MT P w K mg base kd m k ((c,g)::tbl):=by
 have e:=ci.eq
 subst e
 exact zqC hk ci.cl me F b h
theorem Yl:CF K kd [] f:=λc h=>nomatch h
theorem Z4(ci:CI K kd mg c C)(n:wB K C f)(h:CF K kd cs f):CF K kd (c::cs) f:=λc' hm=>by
 have e:=ci.eq
 subst e
 rcases zzA.mp hm with rfl|hm
 · exact⟨ci.cl,n⟩
 · exact h c' hm
theorem CI.mk'{f:Addr}(ci:CI K kd mg c C)(me:Meth K C "__init__" f):Mk K C f:=⟨ci.mks,me.at_,me.fn,ci.kp⟩
end
theorem zcx{prog:Program}{w:World}{A:Around}{E:Value->Shared->Prop}{s:Shared}{it l:Addr}{i:Nat}{items:Array Value}{x:Value}{Q:Value->Shared->Prop}(hit:s.heap.IsTupleIter it l i)(hl:s.heap.IsTuple l items)(hx:items[i]? = some x)
 (h:∀h':Heap,h'.IsTupleIter it l (i+1)->Heap.SameBut it s.heap h'->Q x {s with heap:=h'}):wpAny (model prog w) A (Builtin.SmallTypes.nextOf (.ref it)) Q E s:=by
 obtain⟨o,ho,hc,hd⟩:=id hit
 obtain⟨ol,hol,hcl,nl,hdl⟩:=hl
 refine zxE (wpAny_callSpecial?_slot hit.typeIs F.slot_tuple_iterator_next (zxS F.slot_tuple_iterator_next hit.typeIs F.entry_tuple_iterator_next ?_))
 unfold Builtin.«tuple_iterator.__next__»
 wp_walk using wpAny_field ho hd rfl,wpAny_seqItems hol hdl
 rw[hdl]
 wp_walk
 rw[zyG,hx]
 refine zxE (wpAny_setField ho hd (by simp) ?_)
 refine zxF ⟨x,rfl,zxF (h _ ⟨_,Heap.get?_update_self _ ho (Obj.isFreed_of_fields (Obj.data_mapFields hd _)),(Obj.cls_mapFields o _).trans hc,(Obj.data_mapFields hd _).trans (by simp[rawInt])⟩ (Heap.SameBut.update _ _ _))⟩
theorem zdS{prog:Program}{w:World}{A:Around}{E:Value->Shared->Prop}{s:Shared}{it l:Addr}{i:Nat}{items:Array Value}{Q:Value->Shared->Prop}(hh:A.handled=none)(hit:s.heap.IsTupleIter it l i)(hl:s.heap.IsTuple l items)(hx:items[i]? = none)
 (h:∀(h':Heap) (e:Addr),Heap.ExtBut it s.heap h'->(∃o,h'.get? e=some o/\o.cls = .type "StopIteration")->E (.ref e) {s with heap:=h'}):wpAny (model prog w) A (Builtin.SmallTypes.nextOf (.ref it)) Q E s:=by
 obtain⟨o,ho,hc,hd⟩:=id hit
 obtain⟨ol,hol,hcl,nl,hdl⟩:=hl
 refine zxE (wpAny_callSpecial?_slot hit.typeIs F.slot_tuple_iterator_next (zxS F.slot_tuple_iterator_next hit.typeIs F.entry_tuple_iterator_next ?_))
 unfold Builtin.«tuple_iterator.__next__»
 wp_walk using wpAny_field ho hd rfl,wpAny_seqItems hol hdl
 rw[hdl]
 wp_walk
 rw[zyG,hx]
 refine zxE (wpAny_rule (zxE (wpAny_setField ho hd (by simp) ?_)))
 wp_walk
 refine wpAny_raiseNew_none hh (h _ _ (((Heap.SameBut.update _ _ _).extBut.push _).push _) ⟨_,zxI _ rfl,rfl⟩)
def SIt(b:Bool)(h:Heap)(it l:Addr)(k:Nat):Prop:=if b=true then h.IsTupleIter it l k else h.IsListIter it l k
def SSq(b:Bool)(h:Heap)(l:Addr)(xs:Array Value):Prop:=if b=true then h.IsTuple l xs else h.IsList l xs
theorem ZP{prog:Program}{w:World}{A:Around}{E:Value->Shared->Prop}{s:Shared}{it l:Addr}{i:Nat}{items:Array Value}{x:Value}{Q:Value->Shared->Prop}:∀{b:Bool},SIt b s.heap it l i->SSq b s.heap l items->items[i]? = some x->
 (∀h':Heap,SIt b h' it l (i+1)->Heap.SameBut it s.heap h'->Q x {s with heap:=h'})->wpAny (model prog w) A (Builtin.SmallTypes.nextOf (.ref it)) Q E s
 |true,h1,h2,h3,h4=>zcx h1 h2 h3 h4
 |false,h1,h2,h3,h4=>wpAny_nextOf_list_item h1 h2 h3 h4
theorem Vq{prog:Program}{w:World}{A:Around}{E:Value->Shared->Prop}{s:Shared}{it l:Addr}{i:Nat}{items:Array Value}{Q:Value->Shared->Prop}(hh:A.handled=none):∀{b:Bool},SIt b s.heap it l i->SSq b s.heap l items->items[i]? = none->
 (∀(h':Heap) (e:Addr),Heap.ExtBut it s.heap h'->(∃o,h'.get? e=some o/\o.cls = .type "StopIteration")->E (.ref e) {s with heap:=h'})->wpAny (model prog w) A (Builtin.SmallTypes.nextOf (.ref it)) Q E s
 |true,h1,h2,h3,h4=>zdS hh h1 h2 h3 h4
 |false,h1,h2,h3,h4=>wpAny_nextOf_list_end hh h1 h2 h3 h4
theorem SIt.ext{a:Addr}{h h':Heap}{it l:Addr}{k:Nat}:∀{b:Bool},SIt b h it l k->Heap.ExtBut a h h'->it≠a->SIt b h' it l k
 |true,x,e,n=>Heap.IsTupleIter.extBut x e n
 |false,x,e,n=>Heap.IsListIter.extBut x e n
theorem SSq.ext{a:Addr}{h h':Heap}{l:Addr}{xs:Array Value}:∀{b:Bool},SSq b h l xs->Heap.ExtBut a h h'->l≠a->SSq b h' l xs
 |true,x,e,n=>Heap.IsTuple.extBut x e n
 |false,x,e,n=>Heap.IsList.extBut x e n
theorem SIt.at{h h':Heap}{it l:Addr}{k:Nat}(k':∀o,h.get? it=some o->h'.get? it=some o):∀{b:Bool},SIt b h it l k->SIt b h' it l k
 |true,⟨o,e,c⟩=>⟨o,k' o e,c⟩
 |false,⟨o,e,c⟩=>⟨o,k' o e,c⟩
theorem SIt.push{h:Heap}{it l:Addr}{k:Nat}{o:Obj}{b:Bool}(x:SIt b h it l k):SIt b (h.push o) it l k:=x.at λ_ e=>zxG _ e
theorem zgV{M:Model}{A:Around}{E:Value->Shared->Prop}{s:Shared}{a:Addr}{Q:Option Obj->Shared->Prop}(h:Q (s.heap.get? a) s):wpAny M A (loadIfAlive a) Q E s:=λΓ p hΓ=>by
 unfold loadIfAlive
 rw[Sem.wp_loadIfAlive]
 exact zxF (M:=M) (A:=A) (E:=E) h Γ p hΓ
def IsZ(h:Heap)(z TI TO:Addr)(f0:Value)(f1:Bool):Prop:=h.get? z=some {cls:=.type "zip",data:=.fields #[f0,.bool f1,.bool false,.ref TI,.ref TO]}
def Zf(f0:Value):Prop:=f0 = .none\/∃n:Int,f0=rawInt n
theorem zmN{prog:Program}{w:World}{A:Around}{E:Value->Shared->Prop}{s:Shared}{z TI TO:Addr}{f0:Value}{f1:Bool}{Q:Bool->Shared->Prop}(hz:IsZ s.heap z TI TO f0 f1)(hf:Zf f0)(h1:Q true s)(h2:∀h' f1',IsZ h' z TI TO f0 f1'->Heap.SameBut z s.heap h'->Q false {s with heap:=h'}):
 wpAny (model prog w) A (Builtin.SmallTypes.ownedTupleIsFree (.ref z)) Q E s:=by
 rcases hf with rfl|⟨n,rfl⟩
 · exact zxE (wpAny_field hz rfl rfl (zxF h1))
 · refine zxE (wpAny_field hz rfl rfl ?_)
   change wpAny (model prog w) A (bind (loadIfAlive n.toNat) _) Q E s
   refine zxE (zgV ?_)
   cases e:s.heap.get? n.toNat with
   |none=>exact zxF h1
   |some o=>
    rw[if_neg (by simp)]
    refine zxE (wpAny_field hz rfl rfl ?_)
    cases f1 with
    |true=>exact zxF (h2 s.heap true hz (Heap.SameBut.refl _ _))
    |false=>exact zxE (wpAny_setField_rec hz (by simp) λh' hz' hs=>zxF (h2 h' true hz' hs))
theorem zpO{b1 b2:Bool}{prog:Program}{w:World}{A:Around}{E:Value->Shared->Prop}{s:Shared}{z TI TO i1 i2 l1 l2:Addr}{k1 k2:Nat}{xs ys:Array Value}{x y a b f0:Value}{f1:Bool}{Q:Value->Shared->Prop}(D:ZipApart z TI TO i1 i2 l1 l2)
 (hz:IsZ s.heap z TI TO f0 f1) (hf:Zf f0) (hTI:IsPair s.heap TI (.ref i1) (.ref i2)) (hTO:IsPair s.heap TO a b) (h1:SIt b1 s.heap i1 l1 k1) (h2:SIt b2 s.heap i2 l2 k2) (q1:SSq b1 s.heap l1 xs) (q2:SSq b2 s.heap l2 ys) (hx:xs[k1]? = some x) (hy:ys[k2]? = some y)
 (h:∀(h':Heap) (g0:Value) (g1:Bool),IsZ h' z TI TO g0 g1->Zf g0->(∃p q,IsPair h' TO p q)->SIt b1 h' i1 l1 (k1+1)->SIt b2 h' i2 l2 (k2+1)->IsPair h' s.heap.objs.size x y->(∀c o,c≠z->c≠TO->c≠i1->c≠i2->s.heap.get? c=some o->h'.get? c=some o)->Q (.ref s.heap.objs.size) {s with heap:=h'}):
 wpAny (model prog w) A (Builtin.«zip.__next__» {pos:=[.ref z]}) (λfin s'=>∃v,fin=Fin.done (Flow.ret v)/\Q v s') E s:=by
 change wpAny (model prog w) A (bind (field (.ref z) 2) _) _ E s
 refine zxE (wpAny_field hz rfl rfl ?_)
 change wpAny (model prog w) A (bind (field (.ref z) 3) _) _ E s
 refine zxE (wpAny_field hz rfl rfl (zxE (wpAny_seqItems hTI rfl ?_)))
 change wpAny (model prog w) A (bind (Builtin.SmallTypes.ownedTupleIsFree (.ref z)) _) _ E s
 refine zxE (zmN hz hf ?_ λh₁ g1 z1 hs₁=>?_)
 · rw[if_pos rfl]
   refine zxE (wpAny_rule (zxE (wpAny_field hz rfl rfl ?_)))
   refine zxE (wpAny_setField_rec hz (by simp) λh₁ hz₁ hs₁=>?_)
   refine zxE ?_
   rw[show(#[Value.ref i1,Value.ref i2].toList.zipIdx)=[(Value.ref i1,0),(Value.ref i2,1)]from rfl,List.forIn_cons]
   have x1:=h1.ext hs₁.extBut D.i1z
   have y1:=q1.ext hs₁.extBut D.l1z
   refine zxE (zxE (wpAny_onRaise ?_))
   change wpAny (model prog w) A (bind (Builtin.SmallTypes.nextOf (.ref i1)) _) _ _ _
   refine zxE (ZP x1 y1 hx λh₂ x2 hs₂=>zxF ?_)
   have t2:IsPair h₂ TO a b:=hs₂.extBut TO _ D.TOi1 (hs₁.extBut TO _ D.TOz hTO)
   refine zxE (wpAny_seqItems t2 rfl (zxE (wpAny_updateSeq_pair t2 λh₃ t3 hs₃=>?_)))
   refine zxE (wpAny_letGo (zxF ?_))
   have x3:=((h2.ext hs₁.extBut D.i2z).ext hs₂.extBut D.i12.symm).ext hs₃.extBut D.TOi2.symm
   have y3:=((q2.ext hs₁.extBut D.l2z).ext hs₂.extBut D.l2i1).ext hs₃.extBut D.l2TO
   change wpAny (model prog w) A (forIn [(Value.ref i2,1)] _ _) _ E _
   rw[List.forIn_cons]
   refine zxE (zxE (wpAny_onRaise ?_))
   change wpAny (model prog w) A (bind (Builtin.SmallTypes.nextOf (.ref i2)) _) _ _ _
   refine zxE (ZP x3 y3 hy λh₄ x4 hs₄=>zxF ?_)
   have t4:IsPair h₄ TO x b:=hs₄.extBut TO _ D.TOi2 t3
   refine zxE (wpAny_seqItems t4 rfl (zxE (wpAny_updateSeq_pair t4 λh₅ t5 hs₅=>?_)))
   refine zxE (wpAny_letGo (zxF ?_))
   change wpAny (model prog w) A (forIn [] _ _) _ E _
   rw[List.forIn_nil]
   refine zxF ?_
   have t5:IsPair h₅ TO x y:=t5
   refine zxE (wpAny_seqItems t5 rfl (zxE (wpAny_newTuple ?_)))
   have e5:h₅.objs.size=s.heap.objs.size:=hs₅.1.trans (hs₄.1.trans (hs₃.1.trans (hs₂.1.trans hs₁.1)))
   have z1:IsZ h₁ z TI TO .ellipsis f1:=hz₁
   have z5:IsZ h₅ z TI TO .ellipsis f1:=hs₅.extBut z _ D.TOz.symm (hs₄.extBut z _ D.i2z.symm (hs₃.extBut z _ D.TOz.symm (hs₂.extBut z _ D.i1z.symm z1)))
   refine zxE ?_
   change wpAny (model prog w) A (bind (setField (.ref z) 0 (rawInt (h₅.objs.size:Int))) λ_=>setField (.ref z) 1 (.bool false)) _ E {s with heap:=h₅.push {cls:=.type "tuple",data:=.seq #[x,y]}}
   refine zxE (wpAny_setField_rec (s:={s with heap:=h₅.push {cls:=.type "tuple",data:=.seq #[x,y]}}) (zxG _ z5) (by simp) λh₇ z7 hs₇=>?_)
   refine wpAny_setField_rec z7 (by simp) λh₆ z6 hs₆'=>zxF ⟨_,rfl, ?_⟩
   have hs₆:=hs₇.trans hs₆'
   have lt:∀c o,h₅.get? c=some o->c≠z->h₆.get? c=some o:=λc o q n=>hs₆.extBut c o n (zxG _ q)
   have nz:h₅.objs.size≠z:=λe=>by
    have:=zxH z5
    rw[<-e]at this
    exact Nat.lt_irrefl _ this
   show Q (.ref h₅.objs.size) {s with heap:=h₆}
   rw[e5]
   refine h h₆ (rawInt (h₅.objs.size:Int)) false z6 (.inr ⟨_,rfl⟩) ⟨_,_,lt TO _ t5 D.TOz⟩ ?_ ?_ ?_ λc o c1 c2 c3 c4 q=>?_
   · have:=((x2.ext hs₃.extBut D.TOi1.symm).ext hs₄.extBut D.i12).ext hs₅.extBut D.TOi1.symm
     exact(SIt.push this).ext hs₆.extBut D.i1z
   · exact(SIt.push (x4.ext hs₅.extBut D.TOi2.symm)).ext hs₆.extBut D.i2z
   · rw[<-e5]
     exact hs₆.extBut _ _ nz (zxI _ rfl)
   · exact lt c o (hs₅.extBut c o c2 (hs₄.extBut c o c4 (hs₃.extBut c o c2 (hs₂.extBut c o c3 (hs₁.extBut c o c1 q))))) c1
 · rw[if_neg (by simp)]
   change wpAny (model prog w) A (bind (forIn #[Value.ref i1,Value.ref i2] _ _) _) _ E _
   rw[<-Array.forIn_toList,show #[Value.ref i1,Value.ref i2].toList=[Value.ref i1,Value.ref i2]from rfl,List.forIn_cons]
   have x1:=h1.ext hs₁.extBut D.i1z
   have y1:=q1.ext hs₁.extBut D.l1z
   refine zxE (zxE (zxE (zxL ?_)))
   change wpAny (model prog w) A (bind (Builtin.SmallTypes.nextOf (.ref i1)) _) _ _ _
   refine zxE (ZP x1 y1 hx λh₂ x2 hs₂=>zxF (zxF ?_))
   change wpAny (model prog w) A (forIn [Value.ref i2] _ _) _ E _
   rw[List.forIn_cons]
   have x3:=(h2.ext hs₁.extBut D.i2z).ext hs₂.extBut D.i12.symm
   have y3:=(q2.ext hs₁.extBut D.l2z).ext hs₂.extBut D.l2i1
   refine zxE (zxE (zxL ?_))
   change wpAny (model prog w) A (bind (Builtin.SmallTypes.nextOf (.ref i2)) _) _ _ _
   refine zxE (ZP x3 y3 hy λh₄ x4 hs₄=>zxF (zxF ?_))
   change wpAny (model prog w) A (forIn [] _ _) _ E _
   rw[List.forIn_nil]
   refine zxF (zxE (wpAny_newTuple ?_ (show 2<=sizeLine by decide)))
   refine zxF ⟨_,rfl, ?_⟩
   have e4:h₄.objs.size=s.heap.objs.size:=hs₄.1.trans (hs₂.1.trans hs₁.1)
   show Q (.ref h₄.objs.size) {s with heap:=h₄.push {cls:=.type "tuple",data:=.seq #[x,y]}}
   have z4:IsZ h₄ z TI TO f0 g1:=hs₄.extBut z _ D.i2z.symm (hs₂.extBut z _ D.i1z.symm z1)
   have t4:IsPair h₄ TO a b:=hs₄.extBut TO _ D.TOi2 (hs₂.extBut TO _ D.TOi1 (hs₁.extBut TO _ D.TOz hTO))
   rw[e4]
   refine h _ f0 g1 (zxG _ z4) hf ⟨_,_,zxG _ t4⟩ (SIt.push (x2.ext hs₄.extBut D.i12)) (SIt.push x4) ?_ λc o c1 c2 c3 c4 q=>zxG _ (hs₄.extBut c o c4 (hs₂.extBut c o c3 (hs₁.extBut c o c1 q)))
   rw[<-e4]
   exact zxI _ rfl
theorem zqM{b1 b2:Bool}{prog:Program}{w:World}{A:Around}{E:Value->Shared->Prop}{s:Shared}{z TI TO i1 i2 l1 l2:Addr}{k1 k2:Nat}{xs ys:Array Value}{a b f0:Value}{f1:Bool}{Q:PySem.Fin->Shared->Prop}(hh:A.handled=none)(D:ZipApart z TI TO i1 i2 l1 l2)
 (hz:IsZ s.heap z TI TO f0 f1) (hf:Zf f0) (hTI:IsPair s.heap TI (.ref i1) (.ref i2)) (hTO:IsPair s.heap TO a b) (h1:SIt b1 s.heap i1 l1 k1) (h2:SIt b2 s.heap i2 l2 k2) (q1:SSq b1 s.heap l1 xs) (q2:SSq b2 s.heap l2 ys) (hx:xs[k1]? = none\/ys[k2]? = none)
 (h:∀(h':Heap) (e:Addr),(∀c o,c≠z->c≠TO->c≠i1->c≠i2->s.heap.get? c=some o->h'.get? c=some o)->(∃o,h'.get? e=some o/\o.cls = .type "StopIteration")->E (.ref e) {s with heap:=h'}):
 wpAny (model prog w) A (Builtin.«zip.__next__» {pos:=[.ref z]}) Q E s:=by
 have fin:∀(h':Heap) (e:Addr),(∃f g,IsZ h' z TI TO f g)->(∀c o,c≠z->c≠TO->c≠i1->c≠i2->s.heap.get? c=some o->h'.get? c=some o)->(∃o,h'.get? e=some o/\o.cls = .type "StopIteration")->
  wpAny (model prog w) A (setField (.ref z) 0 Value.none) (λ_ s''=>E (.ref e) s'') E {s with heap:=h'}:=λh' e ⟨f,g,hf⟩ kk ⟨o,ho,hc⟩=>by
  refine wpAny_setField_rec (s:={s with heap:=h'}) hf (by simp) λh'' z'' hs=>?_
  have ne:e≠z:=λe'=>by
   subst e'
   have:=(show h'.get? e=some _ from hf).symm.trans ho
   cases this
   exact absurd (show Value.type "zip"=Value.type "StopIteration" from hc) (by decide)
  exact h h'' e (λc o c1 c2 c3 c4 q=>hs.extBut c o c1 (kk c o c1 c2 c3 c4 q)) ⟨o,hs.extBut e o ne ho,hc⟩
 change wpAny (model prog w) A (bind (field (.ref z) 2) _) _ E s
 refine zxE (wpAny_field hz rfl rfl ?_)
 change wpAny (model prog w) A (bind (field (.ref z) 3) _) _ E s
 refine zxE (wpAny_field hz rfl rfl (zxE (wpAny_seqItems hTI rfl ?_)))
 change wpAny (model prog w) A (bind (Builtin.SmallTypes.ownedTupleIsFree (.ref z)) _) _ E s
 refine zxE (zmN hz hf ?_ λh₁ g1 z1 hs₁=>?_)
 · rw[if_pos rfl]
   refine zxE (wpAny_rule (zxE (wpAny_field hz rfl rfl ?_)))
   refine zxE (wpAny_setField_rec hz (by simp) λh₁ hz₁ hs₁=>?_)
   refine zxE ?_
   rw[show(#[Value.ref i1,Value.ref i2].toList.zipIdx)=[(Value.ref i1,0),(Value.ref i2,1)]from rfl,List.forIn_cons]
   have z1:IsZ h₁ z TI TO .ellipsis f1:=hz₁
   have x1:=h1.ext hs₁.extBut D.i1z
   have y1:=q1.ext hs₁.extBut D.l1z
   refine zxE (zxE (wpAny_onRaise ?_))
   change wpAny (model prog w) A (bind (Builtin.SmallTypes.nextOf (.ref i1)) _) _ _ _
   cases e1:xs[k1]? with
   |none=>exact zxE (Vq hh x1 y1 e1 λh' e ex ho=>fin h' e ⟨_,_,ex z _ D.i1z.symm z1⟩ (λc o c1 c2 c3 c4 q=>ex c o c3 (hs₁.extBut c o c1 q)) ho)
   |some x=>
    have hy:ys[k2]? = none:=hx.resolve_left (by rw[e1];simp)
    refine zxE (ZP x1 y1 e1 λh₂ x2 hs₂=>zxF ?_)
    have t2:IsPair h₂ TO a b:=hs₂.extBut TO _ D.TOi1 (hs₁.extBut TO _ D.TOz hTO)
    refine zxE (wpAny_seqItems t2 rfl (zxE (wpAny_updateSeq_pair t2 λh₃ t3 hs₃=>?_)))
    refine zxE (wpAny_letGo (zxF ?_))
    have x3:=((h2.ext hs₁.extBut D.i2z).ext hs₂.extBut D.i12.symm).ext hs₃.extBut D.TOi2.symm
    have y3:=((q2.ext hs₁.extBut D.l2z).ext hs₂.extBut D.l2i1).ext hs₃.extBut D.l2TO
    change wpAny (model prog w) A (forIn [(Value.ref i2,1)] _ _) _ E _
    rw[List.forIn_cons]
    refine zxE (zxE (wpAny_onRaise ?_))
    change wpAny (model prog w) A (bind (Builtin.SmallTypes.nextOf (.ref i2)) _) _ _ _
    exact zxE (Vq hh x3 y3 hy λh' e ex ho=>fin h' e ⟨_,_,ex z _ D.i2z.symm (hs₃.extBut z _ D.TOz.symm (hs₂.extBut z _ D.i1z.symm z1))⟩
     (λc o c1 c2 c3 c4 q=>ex c o c4 (hs₃.extBut c o c2 (hs₂.extBut c o c3 (hs₁.extBut c o c1 q)))) ho)
 · rw[if_neg (by simp)]
   change wpAny (model prog w) A (bind (forIn #[Value.ref i1,Value.ref i2] _ _) _) _ E _
   rw[<-Array.forIn_toList,show #[Value.ref i1,Value.ref i2].toList=[Value.ref i1,Value.ref i2]from rfl,List.forIn_cons]
   have x1:=h1.ext hs₁.extBut D.i1z
   have y1:=q1.ext hs₁.extBut D.l1z
   refine zxE (zxE (zxE (zxL ?_)))
   change wpAny (model prog w) A (bind (Builtin.SmallTypes.nextOf (.ref i1)) _) _ _ _
   cases e1:xs[k1]? with
   |none=>exact zxE (Vq hh x1 y1 e1 λh' e ex ho=>h h' e (λc o c1 c2 c3 c4 q=>ex c o c3 (hs₁.extBut c o c1 q)) ho)
   |some x=>
    have hy:ys[k2]? = none:=hx.resolve_left (by rw[e1];simp)
    refine zxE (ZP x1 y1 e1 λh₂ x2 hs₂=>zxF (zxF ?_))
    change wpAny (model prog w) A (forIn [Value.ref i2] _ _) _ E _
    rw[List.forIn_cons]
    have x3:=(h2.ext hs₁.extBut D.i2z).ext hs₂.extBut D.i12.symm
    have y3:=(q2.ext hs₁.extBut D.l2z).ext hs₂.extBut D.l2i1
    refine zxE (zxE (zxL ?_))
    change wpAny (model prog w) A (bind (Builtin.SmallTypes.nextOf (.ref i2)) _) _ _ _
    exact zxE (Vq hh x3 y3 hy λh' e ex ho=>h h' e (λc o c1 c2 c3 c4 q=>ex c o c4 (hs₂.extBut c o c3 (hs₁.extBut c o c1 q))) ho)
theorem zkz{b1 b2:Bool}{prog:Program}{w:World}{A:Around}{E:Value->Shared->Prop}{s:Shared}{z TI TO i1 i2 l1 l2:Addr}{k1 k2:Nat}{xs ys:Array Value}{x y a b f0:Value}{f1:Bool}{Q:Option Value->Shared->Prop}(D:ZipApart z TI TO i1 i2 l1 l2)
 (hz:IsZ s.heap z TI TO f0 f1) (hf:Zf f0) (hTI:IsPair s.heap TI (.ref i1) (.ref i2)) (hTO:IsPair s.heap TO a b) (h1:SIt b1 s.heap i1 l1 k1) (h2:SIt b2 s.heap i2 l2 k2) (q1:SSq b1 s.heap l1 xs) (q2:SSq b2 s.heap l2 ys) (hx:xs[k1]? = some x) (hy:ys[k2]? = some y)
 (h:∀(h':Heap) (g0:Value) (g1:Bool),IsZ h' z TI TO g0 g1->Zf g0->(∃p q,IsPair h' TO p q)->SIt b1 h' i1 l1 (k1+1)->SIt b2 h' i2 l2 (k2+1)->IsPair h' s.heap.objs.size x y->(∀c o,c≠z->c≠TO->c≠i1->c≠i2->s.heap.get? c=some o->h'.get? c=some o)->Q (some (.ref s.heap.objs.size)) {s with heap:=h'}):
 wpAny (model prog w) A (pyNext (.ref z)) Q E s:=by
 have hT:s.TypeIs (.ref z) "zip":=⟨_,hz,rfl⟩
 exact zxE (wpAny_attempt (wpAny_callSpecial?_slot hT F.slot_zip_next (zxS F.slot_zip_next hT F.entry_zip_next (zpO D hz hf hTI hTO h1 h2 q1 q2 hx hy λh' g0 g1 a1 a2 a3 a4 a5 a6 a7=>zxF (h h' g0 g1 a1 a2 a3 a4 a5 a6 a7)) (F.args_zip_next_1 _))))
theorem zjH{b1 b2:Bool}{prog:Program}{w:World}{A:Around}{E:Value->Shared->Prop}{s:Shared}{z TI TO i1 i2 l1 l2:Addr}{k1 k2:Nat}{xs ys:Array Value}{a b f0:Value}{f1:Bool}{Q:Option Value->Shared->Prop}(hh:A.handled=none)(D:ZipApart z TI TO i1 i2 l1 l2)
 (hz:IsZ s.heap z TI TO f0 f1) (hf:Zf f0) (hTI:IsPair s.heap TI (.ref i1) (.ref i2)) (hTO:IsPair s.heap TO a b) (h1:SIt b1 s.heap i1 l1 k1) (h2:SIt b2 s.heap i2 l2 k2) (q1:SSq b1 s.heap l1 xs) (q2:SSq b2 s.heap l2 ys) (hx:xs[k1]? = none\/ys[k2]? = none)
 (h:∀h':Heap,(∀c o,c≠z->c≠TO->c≠i1->c≠i2->s.heap.get? c=some o->h'.get? c=some o)->Q none {s with heap:=h'}):wpAny (model prog w) A (pyNext (.ref z)) Q E s:=by
 have hT:s.TypeIs (.ref z) "zip":=⟨_,hz,rfl⟩
 exact zxE (wpAny_attempt (wpAny_callSpecial?_slot hT F.slot_zip_next (zxS F.slot_zip_next hT F.entry_zip_next (zqM hh D hz hf hTI hTO h1 h2 q1 q2 hx λh' e hk ⟨o,ho,hc⟩=>zxE (wpAny_isInstance ⟨o,ho,hc⟩ isSubtype_stop (zxF (h h' hk)))) (F.args_zip_next_1 _))))
theorem zoe{prog:Program}{w:World}{A:Around}{E:Value->Shared->Prop}{s:Shared}{z TI TO T:Addr}{f0:Value}{f1:Bool}{Q:Unit->Shared->Prop}(tg:Expr)(hz:IsZ s.heap z TI TO f0 f1)(hf:Zf f0)
 (h:∀(h':Heap) (g0:Value),IsZ h' z TI TO g0 f1->Zf g0->Heap.SameBut z s.heap h'->Q () {s with heap:=h'}):wpAny (model prog w) A (letOwnedTupleGo tg (.ref z) (.ref T)) Q E s:=by
 have no:wpAny (model prog w) A (pure ()) Q E s:=zxF (h s.heap f0 hz hf (Heap.SameBut.refl _ _))
 have go:wpAny (model prog w) A (bind (load z) λo=>match o.cls,o.data with
  |Value.type n,Data.fields vs=>if(["enumerate","zip","dict_itemiterator","dict_reverseitemiterator","odict_iterator","itertools.zip_longest","itertools.pairwise"].contains n&&vs[0]? == some (rawInt (T:Int)))=true then(do rule "for.unpacks-the-owned-tuple";updateField z 0 Value.none)else pure ()
  |_,_=>pure ()) Q E s:=by
  refine zxE (wpAny_load hz ?_)
  show wpAny (model prog w) A (if _ then _ else _) Q E s
  split
  · refine zxE (wpAny_rule ?_)
    exact wpAny_setField_rec hz (by simp) λh' z' hs=>h h' .none z' (.inl rfl) hs
  · exact no
 cases tg with
 |Tuple elts k pos=>exact go
 |List elts pos=>exact go
 |_=>exact no
def X5(b:Bool)(l:Addr):Obj:={cls:=.type (if b=true then "tuple_iterator" else "list_iterator"),data:=.fields #[.ref l,.int 0 0]}
theorem zjW{prog:Program}{w:World}{A:Around}{E:Value->Shared->Prop}{s:Shared}{l:Addr}{xs:Array Value}{Q:Value->Shared->Prop}:∀{b:Bool},SSq b s.heap l xs->Q (.ref s.heap.objs.size) {s with heap:=s.heap.push (X5 b l)}->wpAny (model prog w) A (pyIter (.ref l)) Q E s
 |true,h1,h2=>wpAny_pyIter_tuple h1 h2
 |false,h1,h2=>wpAny_pyIter_list h1 h2
theorem SSq.at{h h':Heap}{l:Addr}{xs:Array Value}(k:∀o,h.get? l=some o->h'.get? l=some o):∀{b:Bool},SSq b h l xs->SSq b h' l xs
 |true,⟨o,e,c⟩=>⟨o,k o e,c⟩
 |false,⟨o,e,c⟩=>⟨o,k o e,c⟩
theorem zpu{b1 b2:Bool}(l1 l2:Addr)(xs ys:Array Value):Meets (Builtin.«zip.__new__» {pos:=[.type "zip",.ref l1,.ref l2]}) λ_ R s=>SSq b1 s.heap l1 xs/\SSq b2 s.heap l2 ys/\
 ∀h':Heap,IsZ h' (s.heap.objs.size+4) (s.heap.objs.size+2) (s.heap.objs.size+3) .none false->IsPair h' (s.heap.objs.size+2) (.ref s.heap.objs.size) (.ref (s.heap.objs.size+1))->IsPair h' (s.heap.objs.size+3) .none .none->SIt b1 h' s.heap.objs.size l1 0->SIt b2 h' (s.heap.objs.size+1) l2 0->
  (∀c o,s.heap.get? c=some o->h'.get? c=some o)->R (.ok (.ret (.ref (s.heap.objs.size+4)))) {s with heap:=h'}:=
 .of_wp λprog w A R s h=>by
  obtain⟨hp,g,d,tk,os⟩:=s;obtain⟨hl1,hl2,h⟩:=h
  have hsub:=sub_zip
  have p1:∀{Q:Value->Shared->Prop}{E:Value->Shared->Prop}{A:Around},Q (.ref hp.objs.size) ⟨hp.push (X5 b1 l1),g,d,tk,os⟩->wpAny (model prog w) A (pyIter (.ref l1)) Q E ⟨hp,g,d,tk,os⟩:=λh=>zjW hl1 h
  have p2:∀{Q:Value->Shared->Prop}{E:Value->Shared->Prop}{A:Around},Q (.ref (hp.push (X5 b1 l1)).objs.size) ⟨(hp.push (X5 b1 l1)).push (X5 b2 l2),g,d,tk,os⟩->wpAny (model prog w) A (pyIter (.ref l2)) Q E ⟨hp.push (X5 b1 l1),g,d,tk,os⟩:=λh=>zjW (s:=⟨hp.push (X5 b1 l1),g,d,tk,os⟩) (hl2.at λo e=>zxG _ e) h
  wp_walk using p1,p2
  refine⟨_,rfl, ?_⟩
  have s1:(hp.push (X5 b1 l1)).objs.size=hp.objs.size+1:=zxP _ _
  have s2:((hp.push (X5 b1 l1)).push (X5 b2 l2)).objs.size=hp.objs.size+2:=(zxP _ _).trans (congrArg (· + 1) s1)
  generalize hh2:(hp.push (X5 b1 l1)).push (X5 b2 l2)=h2 at s2 ⊢
  have i1:SIt b1 h2 hp.objs.size l1 0:=by
   have:h2.get? hp.objs.size=some (X5 b1 l1):=by rw[<-hh2];exact zxG _ (zxI _ rfl)
   cases b1<;>exact⟨_,this,rfl,rfl⟩
  have i2:SIt b2 h2 (hp.objs.size+1) l2 0:=by
   have:h2.get? (hp.objs.size+1)=some (X5 b2 l2):=by rw[<-hh2,<-s1];exact zxI _ rfl
   cases b2<;>exact⟨_,this,rfl,rfl⟩
  have kp:∀c o,hp.get? c=some o->h2.get? c=some o:=λc o q=>by rw[<-hh2];exact zxG _ (zxG _ q)
  rw[s1]
  change R (.ok (.ret (.ref ((h2.push {cls:=.type "tuple",data:=.seq #[.ref hp.objs.size,.ref (hp.objs.size+1)]}).push {cls:=.type "tuple",data:=.seq #[.none,.none]}).objs.size)))
   ⟨((h2.push {cls:=.type "tuple",data:=.seq #[.ref hp.objs.size,.ref (hp.objs.size+1)]}).push {cls:=.type "tuple",data:=.seq #[.none,.none]}).push {cls:=.type "zip",data:=.fields #[.none,.bool false,.bool false,.ref h2.objs.size,.ref (h2.push {cls:=.type "tuple",data:=.seq #[.ref hp.objs.size,.ref (hp.objs.size+1)]}).objs.size]},g,d,tk,os⟩
  have g3:=zxI h2 (o:={cls:=.type "tuple",data:=.seq #[.ref hp.objs.size,.ref (hp.objs.size+1)]}) rfl
  have s3:(h2.push {cls:=.type "tuple",data:=.seq #[.ref hp.objs.size,.ref (hp.objs.size+1)]}).objs.size=hp.objs.size+3:=(zxP _ _).trans (congrArg (· + 1) s2)
  rw[s2]at g3
  rw[s2,s3]
  have k3:∀c o,h2.get? c=some o->(h2.push {cls:=.type "tuple",data:=.seq #[.ref hp.objs.size,.ref (hp.objs.size+1)]}).get? c=some o:=λc o q=>zxG _ q
  generalize (h2.push {cls:=.type "tuple",data:=.seq #[.ref hp.objs.size,.ref (hp.objs.size+1)]})=h3 at *
  have g4:=zxI h3 (o:={cls:=.type "tuple",data:=.seq #[.none,.none]}) rfl
  have s4:(h3.push {cls:=.type "tuple",data:=.seq #[.none,.none]}).objs.size=hp.objs.size+4:=(zxP _ _).trans (congrArg (· + 1) s3)
  have k4:∀c o,h3.get? c=some o->(h3.push {cls:=.type "tuple",data:=.seq #[.none,.none]}).get? c=some o:=λc o q=>zxG _ q
  rw[s3]at g4
  rw[s4]
  generalize (h3.push {cls:=.type "tuple",data:=.seq #[.none,.none]})=h4 at *
  have g5:=zxI h4 (o:={cls:=.type "zip",data:=.fields #[.none,.bool false,.bool false,.ref (hp.objs.size+2),.ref (hp.objs.size+3)]}) rfl
  rw[s4]at g5
  exact h _ g5 (zxG _ (k4 _ _ g3)) (zxG _ g4) (i1.at λo e=>zxG _ (k4 _ _ (k3 _ _ e))) (i2.at λo e=>zxG _ (k4 _ _ (k3 _ _ e))) λc o q=>zxG _ (k4 _ _ (k3 _ _ (kp c o q)))
theorem znV{b1 b2:Bool}{prog:Program}{w:World}{A:Around}{E:Value->Shared->Prop}{s:Shared}{l1 l2:Addr}{xs ys:Array Value}{Q:Value->Shared->Prop}(hl1:SSq b1 s.heap l1 xs)(hl2:SSq b2 s.heap l2 ys)
 (h:∀h':Heap,IsZ h' (s.heap.objs.size+4) (s.heap.objs.size+2) (s.heap.objs.size+3) .none false->IsPair h' (s.heap.objs.size+2) (.ref s.heap.objs.size) (.ref (s.heap.objs.size+1))->IsPair h' (s.heap.objs.size+3) .none .none->SIt b1 h' s.heap.objs.size l1 0->SIt b2 h' (s.heap.objs.size+1) l2 0->
  (∀c o,s.heap.get? c=some o->h'.get? c=some o)->Q (.ref (s.heap.objs.size+4)) {s with heap:=h'}):wpAny (model prog w) A (call (.type "zip") [.ref l1,.ref l2]) Q E s:=
 callType_new F.called_zip (by decide) (F.typeCall_zip_2 _ _) (F.newCall_zip_2 _ _) (λobj=>F.args_object_init_3 obj _ _) F.entry_zip_new (zpu (b1:=b1) (b2:=b2) l1 l2 xs ys)
  ⟨hl1,hl2,λh' a1 a2 a3 a4 a5 a6=>⟨⟨_,a1,rfl⟩,h h' a1 a2 a3 a4 a5 a6⟩⟩
theorem zez{prog:Program}{w:World}{A:Around}{E:Value->Shared->Prop}{s:Shared}{z TI TO:Addr}{f0:Value}{f1:Bool}{Q:Value->Shared->Prop}(hz:IsZ s.heap z TI TO f0 f1)(h:Q (.ref z) s):wpAny (model prog w) A (pyIter (.ref z)) Q E s:=by
 have hT:s.TypeIs (.ref z) "zip":=⟨_,hz,rfl⟩
 exact wpAny_pyIter_slot hT F.slot_zip_iter (zxS F.slot_zip_iter hT F.entry_zip_iter (zxF ⟨.ref z,rfl,"zip",.builtin "zip.__next__",hT,F.slot_zip_next.lookup,h⟩) (F.args_zip_iter_1 _))
def SqB(K:zD)(H:Hp):Bool->Addr->List V->Prop
 |true,a,xs=>SqT K H a xs
 |false,a,xs=>SqL K H a xs
theorem SqB.ok{X:Cx}{pins:List (Addr×Obj)}{σ:St}{H:Hp}{s:Shared}(I:Inv X pins σ H s):∀{b:Bool}{a:Addr}{xs:List V},SqB X.K H b a xs->∃its:List Value,Vals xs its/\SSq b s.heap a its.toArray
 |true,a,xs,h=>by obtain⟨its,rv,p,_⟩:=I.tuple h;exact⟨its,rv,p⟩
 |false,a,xs,h=>by obtain⟨its,rv,p,_⟩:=I.list h;exact⟨its,rv,p.isList⟩
theorem SqB.inj{X:Cx}{pins:List (Addr×Obj)}{σ:St}{H:Hp}{s:Shared}(I:Inv X pins σ H s):∀{b:Bool}{a:Addr}{xs ys:List V},SqB X.K H b a xs->SqB X.K H b a ys->xs=ys
 |true,_,_,_,h,h'=>I.tuple_inj h h'
 |false,_,_,_,h,h'=>I.list_inj h h'
theorem SSq.ex{h:Heap}{l:Addr}{xs:Array Value}:∀{b:Bool},SSq b h l xs->∃o,h.get? l=some o
 |true,⟨o,e,_⟩=>⟨o,e⟩
 |false,⟨o,e,_⟩=>⟨o,e⟩
theorem SIt.ex{h:Heap}{it l:Addr}{k:Nat}:∀{b:Bool},SIt b h it l k->∃o,h.get? it=some o/\∀v,o.data ≠ .cell v
 |true,⟨o,e,_,d⟩=>⟨o,e,λv z=>by rw[d]at z;cases z⟩
 |false,⟨o,e,_,d⟩=>⟨o,e,λv z=>by rw[d]at z;cases z⟩
def ztl(K:zD)(b1 b2:Bool)(a b:Addr):It:=
 ⟨λi H=>∃xs ys x y,SqB K H b1 a xs/\SqB K H b2 b ys/\xs[i]? = some x/\ys[i]? = some y,
  λi H v H'=>∃T x y,H T=none/\v = .ref T/\H'=upd H T (.tup [x,y])/\(∀xs,SqB K H b1 a xs->xs[i]? = some x)/\∀ys,SqB K H b2 b ys->ys[i]? = some y,
  λi H=>∃xs ys,SqB K H b1 a xs/\SqB K H b2 b ys/\(xs.length<=i\/ys.length<=i)⟩
theorem znT{P:Program}{w:World}{K:zD}{tg:Expr}{b1 b2:Bool}(a b z TI TO i1 i2:Addr)(D:ZipApart z TI TO i1 i2 a b):Turn P w K tg (ztl K b1 b2 a b) [z,TI,TO,i1,i2] z
 (λi h=>(∃f0 f1,IsZ h z TI TO f0 f1/\Zf f0)/\IsPair h TI (.ref i1) (.ref i2)/\(∃p q,IsPair h TO p q)/\SIt b1 h i1 a i/\SIt b2 h i2 b i)where
 mem:=by simp
 obj:=λi h st c hc=>by
  obtain⟨⟨f0,f1,hz,_⟩,hTI,⟨p,q,hTO⟩,h1,h2⟩:=st
  simp only[zzA,zxA,or_false]at hc
  rcases hc with rfl|rfl|rfl|rfl|rfl
  · exact⟨_,hz,λv z=>by cases z⟩
  · exact⟨_,hTI,λv z=>by cases z⟩
  · exact⟨_,hTO,λv z=>by cases z⟩
  · exact h1.ex
  · exact h2.ex
 keep:=λi h h' st kk=>by
  obtain⟨⟨f0,f1,hz,hf⟩,hTI,⟨p,q,hTO⟩,h1,h2⟩:=st
  exact⟨⟨f0,f1,kk z (by simp) _ hz,hf⟩,kk TI (by simp) _ hTI,⟨p,q,kk TO (by simp) _ hTO⟩,h1.at λo e=>kk i1 (by simp) o e,h2.at λo e=>kk i2 (by simp) o e⟩
 item:=by
  intro X hP hw hK hc i pins s σ H E I hf st hg
  subst hP hw hK
  obtain⟨xs,ys,x,y,hq,hr,hx,hy⟩:=hg
  obtain⟨its,rv,p⟩:=hq.ok I
  obtain⟨jts,rw',p'⟩:=hr.ok I
  obtain⟨u,hu,ru⟩:=rv.get hx
  obtain⟨u',hu',ru'⟩:=rw'.get hy
  obtain⟨⟨f0,f1,hz,zf⟩,hTI,⟨pp,qq,hTO⟩,h1,h2⟩:=st
  refine zkz D hz zf hTI hTO h1 h2 p p' (x:=u) (y:=u') (by simpa using hu) (by simpa using hu') λh' g0 g1 z' zf' to' i1' i2' pr kk=>⟨_,rfl,zoe tg z' zf' λh9 e0 z2 zf2 hs=>?_⟩
  have hn:H s.heap.objs.size=none:=I.hok.fresh (zzL _)
  have fr:∀c o,s.heap.get? c=some o->c≠s.heap.objs.size:=λc o e z=>by
   have:=zxH e
   rw[z]at this
   exact Nat.lt_irrefl _ this
  have nz:s.heap.objs.size≠z:=(fr z _ hz).symm
  have k2:∀c o,c ∉ [z,TI,TO,i1,i2]->s.heap.get? c=some o->h9.get? c=some o:=λc o hb q=>by
   simp only[zzA,zxA,or_false,not_or]at hb
   exact hs.extBut c o hb.1 (kk c o hb.1 hb.2.2.1 hb.2.2.2.1 hb.2.2.2.2 q)
  have hTI2:IsPair h9 TI (.ref i1) (.ref i2):=hs.extBut TI _ D.TIz (kk TI _ D.TIz D.TITO D.TIi1 D.TIi2 hTI)
  obtain⟨p1,q1,to1⟩:=to'
  refine⟨.ref s.heap.objs.size,upd H s.heap.objs.size (.tup [x,y]),ziC (s:=s) (t':=s.toks) (ch:=[z,TI,TO,i1,i2]) I hf k2 (zzL _) ⟨by show 2<=sizeLine;decide,[u,u'],.cons ru (.cons ru' .nil),⟨_,hs.extBut _ _ nz pr,rfl,_,rfl⟩⟩,rfl,
   ⟨_,x,y,hn,rfl,rfl,λq hq'=>by rw[SqB.inj I hq' hq];exact hx,λq hq'=>by rw[SqB.inj I hq' hr];exact hy⟩,⟨⟨e0,g1,z2,zf2⟩,hTI2,⟨p1,q1,hs.extBut TO _ D.TOz to1⟩,i1'.ext hs.extBut D.i1z,i2'.ext hs.extBut D.i2z⟩,λc hc=>?_⟩
  have hcT:c≠s.heap.objs.size:=by
   simp only[zzA,zxA,or_false]at hc
   rcases hc with rfl|rfl|rfl|rfl|rfl
   · exact fr _ _ hz
   · exact fr _ _ hTI
   · exact fr _ _ hTO
   · obtain⟨o,e,_⟩:=h1.ex;exact fr _ _ e
   · obtain⟨o,e,_⟩:=h2.ex;exact fr _ _ e
  rw[yj hcT]
  exact(hf c hc).1
 done:=by
  intro X hP hw hK hc i pins s σ H E I hf st hg
  subst hP hw hK
  obtain⟨xs,ys,hq,hr,hx⟩:=hg
  obtain⟨its,rv,p⟩:=hq.ok I
  obtain⟨jts,rw',p'⟩:=hr.ok I
  have hl:=rv.length
  have hl':=rw'.length
  obtain⟨⟨f0,f1,hz,zf⟩,hTI,⟨pp,qq,hTO⟩,h1,h2⟩:=st
  refine zjH (I.ok.hd hc) D hz zf hTI hTO h1 h2 p p' (hx.imp (λh=>by simp;omega) (λh=>by simp;omega)) λh' eb=>⟨rfl,zlD (t':=s.toks) (ch:=[z,TI,TO,i1,i2]) I hf λc o hc q=>?_⟩
  simp only[zzA,zxA,or_false,not_or]at hc
  exact eb c o hc.1 hc.2.2.1 hc.2.2.2.1 hc.2.2.2.2 q
 self:=λ_ _ _ _ _ st h=>let⟨⟨_,_,hz,_⟩,_⟩:=st;zez hz h
section
variable{X:Cx}{tg:Expr}
def zts(K:zD)(ta:TA):TI:=λσ H R=>ta σ H λvs H1=>∃a b b1 b2,vs=[.ref a,.ref b]/\(∃xs,SqB K H1 b1 a xs)/\(∃ys,SqB K H1 b2 b ys)/\R (ztl K b1 b2 a b) H1
theorem zrN{l l':Expr}{ta:TA}{p pos:Pos}(hg:Gl X "zip")(hm:X.mg "zip"=none)(ha:PA X [l,l'] ta)(hs:starEach [l,l'] X.env=[(false,eval l X.env),(false,eval l' X.env)])(hs2:starEach [l'] X.env=[(false,eval l' X.env)]):
 PI X tg (.Call (.Name "zip" p) [l,l'] [] pos) (zts X.K ta):=by
 intro pins s σ H R I h
 refine Call_ (zci I hg hm boot_zip (PyProof.Rows.callWith_type1 (thn (ha pos pins s σ H _ I h) λus s1 ⟨vs,H1,I1,r1,q1⟩=>?_) (by rw[hs,hs2]) (by rw[hs2];rfl)))
 obtain⟨a,b,b1,b2,rfl,⟨xs,hq⟩,⟨ys,hr⟩,q⟩:=q1
 cases r1 with
 |cons r rr=>
  cases rr with
  |cons r' rr=>
   cases rr
   cases r
   cases r'
   obtain⟨its,rv,pl⟩:=hq.ok I1
   obtain⟨jts,rw',pl'⟩:=hr.ok I1
   obtain⟨o1,ho1⟩:=pl.ex
   obtain⟨o2,ho2⟩:=pl'.ex
   refine znV pl pl' λh' hZ hTI hTO hi1 hi2 hk=>?_
   refine zez hZ ⟨s1.heap.objs.size+4,[s1.heap.objs.size+4,s1.heap.objs.size+2,s1.heap.objs.size+3,s1.heap.objs.size,s1.heap.objs.size+1],_,_,H1,rfl,I1.kept (t':=s1.toks) hk,znT a b _ _ _ _ _ (znO _ _ _ (zxH ho1) (zxH ho2)),⟨⟨_,_,hZ,.inl rfl⟩,hTI,⟨_,_,hTO⟩,hi1,hi2⟩,λc hc=>?_,q⟩
   have hb':s1.heap.objs.size<=c:=by
    simp only[zzA,zxA,or_false]at hc
    rcases hc with rfl|rfl|rfl|rfl|rfl<;>first|exact zzL _|exact Nat.le_add_right _ _
   exact I1.fpOk hb' (I1.hok.fresh hb')
end
section
variable{X:Cx}{kd:KD}{tg e:Expr}{fa:EF}
theorem zqL{K:zD}{F:Addr->Prop}{H:Hp}{a b:Addr}{b1 b2:Bool}{vs ws:List V}{st:Bool}{ds es:List D}(ft:∀a,F a->H a≠none)(hs:∀H3:Hp,(∀b u,H b=some u->H3 b=some u)->SqB K H3 b1 a vs)(hs':∀H3:Hp,(∀b u,H b=some u->H3 b=some u)->SqB K H3 b2 b ws)
 (r:RpL K kd (λa=>st=true/\F a) H vs ds) (r':RpL K kd (λa=>st=true/\F a) H ws es):ItC K kd F H (ztl K b1 b2 a b) (zdt st ds es):=⟨λH3 T k hT i=>by
 have hr3:=hs H3 k
 have hr4:=hs' H3 k
 have hlen:=zkN st ds es
 have l1:vs.length=ds.length:=r.length
 have l2:ws.length=es.length:=r'.length
 refine⟨λhi=>?_,λhi=>⟨_,_,hr3,hr4,by omega⟩,λv H4 hy=>?_⟩
 · obtain⟨u,hu,_⟩:=r.get (zzC (show i<ds.length by omega))
   obtain⟨u',hu',_⟩:=r'.get (zzC (show i<es.length by omega))
   exact⟨_,_,u,u',hr3,hr4,hu,hu'⟩
 · obtain⟨A,x,y,hn,rfl,rfl,hv,hv'⟩:=hy
   have hnH:H A=none:=by
    cases e:H A with
    |none=>rfl
    |some u=>rw[k A u e]at hn;cases hn
   refine⟨Xv hn,λq hq=>?_⟩
   obtain⟨d,e,hd,he,rfl⟩:=zku hq
   obtain⟨u,hu,ru⟩:=r.get hd
   obtain⟨u',hu',ru'⟩:=r'.get he
   have:=hv _ hr3
   rw[hu]at this
   cases this
   have:=hv' _ hr4
   rw[hu']at this
   cases this
   have up:∀{v:V}{d:D},Rp K kd (λa=>st=true/\F a) H v d->Rp K kd (λa=>st=true/\(F a\/T a)) (upd H3 A (.tup [x,y])) v d:=λrp=>
    (rp.since (λb o q=>Xv hn b o (k b o q)) λa z=>(hT a z).1).less λa z=>z.2.elim (λy=>.inl ⟨z.1,y⟩) .inr
   exact .tup (λz=>z.2.elim (λy=>ft A y hnH) λy=>(hT A y).2 hn) (.inl yP) (.cons (up ru) (.cons (up ru') .nil))⟩
def zto:RV->Option (Bool×Bool×List D)
 | .ow (.lf s (.lst l))=>some (s,false,l)
 | .ow (.lf s (.tup l))=>some (s,true,l)
 |_=>none
def zhF(fr:AF):IF:=λas=>(fr as).bind λp=>(zuh p.1).bind λo=>(zto o.1).bind λa=>(zto o.2).bind λb=>some (zdt (a.1&&b.1) a.2.2 b.2.2,p.2)
theorem zmJ{K:zD}{F B:Addr->Prop}{ad:Ad}{σ:St}{H:Hp}{v:V}{r:RV}{x:Bool×Bool×List D}(e:zto r=some x)(rv:v8 K kd F B [] ad σ H v r):∃a vs,v = .ref a/\SqB K H x.2.1 a vs/\(∀H3:Hp,(∀b u,¬Gw [] ad b->H b=some u->H3 b=some u)->SqB K H3 x.2.1 a vs)/\RpL K kd (Lv F B (Gw [] ad) x.1) H vs x.2.2:=by
 cases r with
 |bo i=>cases e
 |ow o=>
  cases o with
  |nd k os=>cases e
  |lf s d=>
   cases rv with
   |lf rp=>
    cases rp with
    |lst hn hr rl=>
     cases e
     refine⟨_,_,rfl,.inl hr,λH3 k=>?_,rl⟩
     rcases hr with hr|⟨o,hr⟩
     · exact .inl (.inl (k _ _ (λz=>hn (.inr z)) hr))
     · exact .inl (.inr ⟨o,k _ _ (λz=>hn (.inr z)) hr⟩)
    |lstK a b c rl=>cases e;exact⟨_,_,rfl,.inr ⟨_,_,_,a,rfl,rfl,rfl,b,c⟩,λH3 k=>.inr ⟨_,_,_,a,rfl,rfl,rfl,b,c⟩,rl⟩
    |tup hn hr rl=>
     cases e
     refine⟨_,_,rfl,.inl hr,λH3 k=>?_,rl⟩
     rcases hr with hr|⟨o,hr⟩
     · exact .inl (.inl (k _ _ (λz=>hn (.inr z)) hr))
     · exact .inl (.inr ⟨o,k _ _ (λz=>hn (.inr z)) hr⟩)
    |tupK a b c e' f rl=>cases e;exact⟨_,_,rfl,.inr ⟨_,_,_,a,b,c,e',f⟩,λH3 k=>.inr ⟨_,_,_,a,b,c,e',f⟩,rl⟩
    |_=>cases e
theorem zsb{l l':Expr}{fr:AF}{p pos:Pos}(hg:Gl X "zip")(hm:X.mg "zip"=none)(ha:AA X kd [l,l'] fr)(hs:starEach [l,l'] X.env=[(false,eval l X.env),(false,eval l' X.env)])(hs2:starEach [l'] X.env=[(false,eval l' X.env)]):
 AIc X kd tg (.Call (.Name "zip" p) [l,l'] [] pos) (zhF fr):=by
 with_unfolding_all (
 intro pins s σ H R I h
 obtain⟨F,B,ad,as,ds,as',Rl,e',q⟩:=h
 obtain⟨⟨rs,as1⟩,h1,e'⟩:=bS_ (show(fr as).bind _=_ from e')
 obtain⟨⟨o1,o2⟩,e1,e'⟩:=bS_ e'
 obtain⟨x1,e2,e'⟩:=bS_ e'
 obtain⟨x2,e3,e'⟩:=bS_ e'
 cases zmU e1
 cases e'
 refine zrN hg hm ha hs hs2 pins s σ H R I ⟨F,B,ad,as,_,as1,Rl,h1,λvs ad1 H1 R1 rv1 g1=>?_⟩
 cases rv1 with
 |cons r1 rr=>
  cases rr with
  |cons r2 rr=>
   cases rr
   obtain⟨a,vs,rfl,sa,ka,ra⟩:=zmJ e2 r1
   obtain⟨b,ws,rfl,sb,kb,rb⟩:=zmJ e3 r2
   refine⟨a,b,_,_,rfl,⟨_,sa⟩,⟨_,sb⟩,q _ ad1 H1 R1 g1 (zqL (R1.trk true) (λH3 k=>ka H3 λb u n h=>k b u h) (λH3 k=>kb H3 λb u n h=>k b u h) (ra.less λa z=>?_) (rb.less λa z=>?_))⟩
   · have z1:=(Bool.and_eq_true_iff.mp z.1).1
     rw[z1];exact z.2
   · have z1:=(Bool.and_eq_true_iff.mp z.1).2
     rw[z1];exact z.2)
end
theorem szs{n:Nat}(h:n<=1000000):n<=sizeLine:=zzM h (by decide)
section
variable{as:AS}{f fo a b:EF}{fr:AF}{s t:Bool}{x y z d:D}{c m:Str}{ns cs:List Str}{ds:List D}{tbl:List (Str×Fn)}{g:Fn}{o:O}
theorem zmv{n:Str}(h:WD fo as s (.ob c ns ds))(hc:c ∈ cs)(hl:lkp ns ds n=some d):WD (f1 fo (yx cs n)) as (yo d||s) d:=by
 unfold WD f1 at *
 rw[h]
 show(if c ∈ cs then(lkp ns ds n).bind λd=>some (R0.im d)else none:Option R0).bind _=_
 rw[if_pos hc,hl]
 show(if(yo d||(some s).isSome)=true then _ else _:Option RV).bind _=_
 rw[if_pos (by simp)];rfl
theorem ziJ{rs:List (Bool×D)}(ho:WD fo as s (.ob c ns ds))(hm:m ∉ ns)(ht:lkT tbl c=some g)(hr:WA fr as rs)(hg:g ((s,.ob c ns ds)::rs.map λx=>(yo x.2||x.1,x.2))=some o):zay tbl m fo fr as=some (.ow o,as):=by
 unfold zay;unfold WD at ho;unfold WA at hr
 rw[ho]
 show(if m ∈ ns then none else some c:Option Str).bind _=_
 rw[if_neg hm]
 show(lkT tbl c).bind _=_
 rw[ht]
 show(fr as).bind _=_
 rw[hr]
 show(Wz as (.ow (.lf s (.ob c ns ds))::rs.map _)).bind _=_
 show((Wz as (rs.map _)).bind _:Option (List (Bool×D))).bind _=_
 rw[zbe]
 show(g ((s,.ob c ns ds)::_)).bind _=_
 rw[hg];rfl
theorem zuQ(ho:WD fo as true (.ob c ns ds))(hm:m ∉ ns)(ht:lkT tbl c=some g)(hg:RE (g [(true,.ob c ns ds)]) z):WE (zay tbl m fo aN) as z:=by
 obtain⟨o,h1,h2,h3⟩:=hg
 exact⟨o,ziJ ho hm ht ye h1,h2,h3⟩
theorem zpL(ho:WD fo as true (.ob c ns ds))(hm:m ∉ ns)(ht:lkT tbl c=some g)(ha:WE a as x)(hb:WE b as y)(hg:RE (g [(true,.ob c ns ds),(true,x),(true,y)]) z):WE (zay tbl m fo (aC a (aC b aN))) as z:=by
 obtain⟨o,h1,h2,h3⟩:=hg
 exact⟨o,ziJ ho hm ht (Yj ha (Yj hb ye)) (by show g [_,(yo x||true,x),(yo y||true,y)]=_;rw[zyB,zyB];exact h1),h2,h3⟩
theorem zsv{e:EF}{w:D}(ho:WD fo as true (.ob c ns ds))(hm:m ∉ ns)(ht:lkT tbl c=some g)(ha:WE a as x)(hb:WE b as y)(he:WE e as w)(hg:RE (g [(true,.ob c ns ds),(true,x),(true,y),(true,w)]) z):WE (zay tbl m fo (aC a (aC b (aC e aN)))) as z:=by
 obtain⟨o,h1,h2,h3⟩:=hg
 exact⟨o,ziJ ho hm ht (Yj ha (Yj hb (Yj he ye))) (by show g [_,(yo x||true,x),(yo y||true,y),(yo w||true,w)]=_;rw[zyB,zyB,zyB];exact h1),h2,h3⟩
inductive SqD:D->List D->Prop
 |l (ds:List D):SqD (.lst ds) ds
 |t (ds:List D):SqD (.tup ds) ds
theorem zkj(st:Bool):∀(xs ys:List D),zdt st xs ys=(xs.zip ys).map λq=>(st,.tup [q.1,q.2])
 | [],_=>rfl
 |_::_,[]=>rfl
 |x::r,y::t=>congrArg (_ :: ·) (zkj st r t)
theorem zox{xs ys:List D}(ha:WE a as x)(hb:WE b as y)(hx:SqD x xs)(hy:SqD y ys):zhF (aC a (aC b aN)) as=some ((xs.zip ys).map λq=>(true,.tup [q.1,q.2]),as):=by
 have h:WA (aC a (aC b aN)) as [(true,x),(true,y)]:=Yj ha (Yj hb ye)
 unfold WA at h
 unfold zhF
 rw[h,<-zkj]
 cases hx<;>cases hy<;>rfl
theorem zio{α:Type}{h:α->D}{it:α->It1}{gg:GF}{fe:EF}{as0:AS}:∀(l:List α),(∀q ∈ l,∃as1,gg (it q) as0=some as1/\WE fe as1 (h q))->∃os,vU gg Yx fe as0 (l.map it)=some os/\O.strs os=true/\O.toDs os=l.map h
 | [],_=>⟨[],rfl,rfl,rfl⟩
 |q::l,H=>by
  obtain⟨os,e1,e2,e3⟩:=zio l λp m=>H p (zzB _ m)
  obtain⟨as1,h1,o,h2,h3,h4⟩:=H q zzD
  refine⟨o::os, ?_,by show(o.str&&O.strs os)=true;rw[h3,e2];rfl,by show o.toD::O.toDs os=_;rw[h4,e3];rfl⟩
  show vU gg Yx fe as0 (it q::l.map it)=_
  unfold vU
  rw[h1];show((fe as1).bind _)=_
  rw[h2];show(if o.str=true then _ else _)=_
  rw[if_pos h3,e1];rfl
theorem zhs{α:Type}{h:α->D}{p:α->Bool}{it:α->It1}{gg:GF}{tt:TF}{fe:EF}{as0:AS}:∀(l:List α),(∀q ∈ l,∃as1,gg (it q) as0=some as1/\WT tt as1 (p q)/\(p q=true->WE fe as1 (h q)))->∃os,vU gg tt fe as0 (l.map it)=some os/\O.strs os=true/\O.toDs os=(l.filter p).map h
 | [],_=>⟨[],rfl,rfl,rfl⟩
 |q::l,H=>by
  obtain⟨os,e1,e2,e3⟩:=zhs l λp m=>H p (zzB _ m)
  obtain⟨as1,h1,h2,h3⟩:=H q zzD
  cases hp:p q with
  |false=>
   rw[hp]at h2
   refine⟨os,znG h1 h2 e1,e2, ?_⟩
   rw[List.filter_cons_of_neg (by simp[hp])];exact e3
  |true=>
   rw[hp]at h2
   obtain⟨o,k1,k2,k3⟩:=h3 hp
   refine⟨o::os, ?_,by show(o.str&&O.strs os)=true;rw[k2,e2];rfl, ?_⟩
   · unfold WT at h2
     show vU gg tt fe as0 (it q::l.map it)=_
     unfold vU
     rw[h1];show(tt as1).bind _=_
     rw[h2];show((fe as1).bind _)=_
     rw[k1];show(if o.str=true then _ else _)=_
     rw[if_pos k2,e1];rfl
   · rw[List.filter_cons_of_pos hp]
     show o.toD::O.toDs os=_
     rw[k3,e3];rfl
theorem zkM{fi:IF}{cap:List (Option Nat)}{gg:GF}{tt:TF}{fe:EF}{xs:List It1}{os:List O}{zs:List D}(h1:fi as=some (xs,as))(hl:xs.length<=1000000)(h2:vU gg tt fe (zbw cap as) xs=some os)(hs:O.strs os=true)(e:O.toDs os=zs):WE (wu fi cap gg tt fe) as (.lst zs):=by
 refine⟨.nd .ls os, ?_,hs,congrArg D.lst e⟩
 unfold wu
 rw[h1];show(if xs.length<=sizeLine then _ else _)=_
 rw[if_pos (szs hl),h2];rfl
theorem Wo{α:Type}{h:α->D}{it:α->It1}{fi:IF}{cap:List (Option Nat)}{gg:GF}{fe:EF}(l:List α)(h1:fi as=some (l.map it,as))(hl:l.length<=1000000)(H:∀q ∈ l,∃as1,gg (it q) (zbw cap as)=some as1/\WE fe as1 (h q)):WE (wu fi cap gg Yx fe) as (.lst (l.map h)):=by
 obtain⟨os,e1,e2,e3⟩:=zio l H
 exact zkM h1 (by rw[zS];exact hl) e1 e2 e3
theorem ztw{α:Type}{h:α->D}{p:α->Bool}{it:α->It1}{fi:IF}{cap:List (Option Nat)}{gg:GF}{tt:TF}{fe:EF}(l:List α)(h1:fi as=some (l.map it,as))(hl:l.length<=1000000)(H:∀q ∈ l,∃as1,gg (it q) (zbw cap as)=some as1/\WT tt as1 (p q)/\(p q=true->WE fe as1 (h q))):WE (wu fi cap gg tt fe) as (.lst ((l.filter p).map h)):=by
 obtain⟨os,e1,e2,e3⟩:=zhs l H
 exact zkM h1 (by rw[zS];exact hl) e1 e2 e3
def Rt(r:Option Out)(x:D):Prop:=∃o,r=some (.rt o)/\o.str=true/\o.toD=x
theorem yH{n m:Nat}{c:SF}{ds:List (Bool×D)}{x:D}(hl:ds.length=m)(h:Rt (c (XF n ds)) x):RE (fnR n m c ds) x:=by
 obtain⟨o,h1,h2,h3⟩:=h
 exact⟨o,Wg hl h1,h2,h3⟩
theorem zF{f g:SF}{as as1:AS}{x:D}(h1:f as=some (.nx as1))(h2:Rt (g as1) x):Rt (zM f g as) x:=by
 obtain⟨o,e,h⟩:=h2
 exact⟨o,yG h1 e,h⟩
theorem yX{f g:SF}{as:AS}{x:D}(h1:Rt (f as) x):Rt (zM f g as) x:=by
 obtain⟨o,e,h⟩:=h1
 exact⟨o,VB e,h⟩
theorem xW{c:TF}{f g:SF}{as:AS}{x:D}(h:WT c as true)(h1:Rt (f as) x):Rt (sIf c f g as) x:=by
 obtain⟨o,e,h2⟩:=h1
 exact⟨o,Z7 h e,h2⟩
theorem yh{f:EF}{as:AS}{x:D}(h:WE f as x):Rt (yc f as) x:=by
 obtain⟨o,h1,h2,h3⟩:=h
 refine⟨o, ?_,h2,h3⟩
 unfold yc;rw[h1]
 show((if o.str=true then some o else none).bind _)=_
 rw[if_pos h2];rfl
theorem RE.lf{r:Option O}{x:D}(h:r=some (.lf true x)):RE r x:=⟨_,h,rfl,rfl⟩
theorem zgA{c:TF}(h:WT c as true)(ha:WE a as x):WE (fIf c a b) as x:=by
 obtain⟨o,h1,h2,h3⟩:=ha
 exact⟨o,by unfold fIf;unfold WT at h;rw[h];exact h1,h2,h3⟩
theorem zfn{c:TF}(h:WT c as false)(hb:WE b as x):WE (fIf c a b) as x:=by
 obtain⟨o,h1,h2,h3⟩:=hb
 exact⟨o,by unfold fIf;unfold WT at h;rw[h];exact h1,h2,h3⟩
theorem zda{g:List D->Option R0}(ha:WE a as x)(hg:g [x]=some (.im z)):WE (fP (aC a aN) g) as z:=WD.e (zus ha hg)
theorem zpC{fd:DF}{os:List O}{zs:List D}(h:WO fd as os)(hl:os.length<=1000000)(hs:O.strs os=true)(e:O.toDs os=zs):WE (wU fd) as (.tup zs):=by
 refine⟨W8 os,zfi h (szs hl), ?_, ?_⟩
 · unfold W8;split
   · exact hs
   · exact hs
 · subst e
   unfold W8;split
   · rfl
   · rfl
theorem zuD{fd:DF}{os:List O}(h:WE a as x)(hr:WO fd as os):∃o,o.str=true/\o.toD=x/\WO (dC a fd) as (o::os):=by
 obtain⟨o,h1,h2,h3⟩:=h
 exact⟨o,h2,h3,ziV h1 hr⟩
theorem zsq(ha:WE a as x):WE (wU (dC a dN)) as (.tup [x]):=by
 obtain⟨o,h1,rfl,h3⟩:=zuD ha yU
 exact zpC h3 (by show 1<=_;omega) (by show(o.str&&true)=true;rw[h1];rfl) rfl
theorem Ys(ha:WE a as x)(hb:WE b as y):WE (wU (dC a (dC b dN))) as (.tup [x,y]):=by
 obtain⟨p,k1,rfl,k3⟩:=zuD hb yU
 obtain⟨o,h1,rfl,h3⟩:=zuD ha k3
 exact zpC h3 (by show 2<=_;omega) (by show(o.str&&(p.str&&true))=true;rw[h1,k1];rfl) rfl
theorem zcC{g:D->D->Option R0}(ha:WE a as x)(hb:WE b as y)(hg:g x y=some (.im z)):WE (f2 a b g) as z:=WD.e (f2E ha hb hg)
end
open AutoSeq1 (wpAny_loadPart')
section
variable{X:Cx}{kd:KD}
def zty(x y:D):Option R0:=onI (λi j=>if 0<=j/\j<=1000000/\i.natAbs<2 ^ 64 then some (.im (.int (i*2 ^ j.toNat)))else none) x y
theorem zrK:OpD X kd (binaryOp .LShift) zty:=by
 intro pins s σ H x y v u Q I rx ry h
 obtain⟨O,d,e,r,ht,vx,vy,he,q⟩:=h
 obtain⟨i,j,rfl,rfl,he⟩:=Wk vx vy he
 obtain⟨c,rfl⟩:=yg he
 exact ztG pins s σ H _ _ v u Q I rx ry ⟨_,_,rfl,rfl,c,yN q (.int _)⟩
end
def zrn(n:Nat)(K:zD)(kd:KD)(F B:Addr->Prop)(ad:Ad)(σ:St)(H:Hp)(D:Ends):Out->Prop
 | .nx as'=>∀σ' ad' H',(∀i,i<n->σ'[i]? = σ[i]?)->Rel K kd F B [] ad' as' σ' H'->Grow (Gw [] ad) H (Gw [] ad') H'->D.nx σ' H'
 | .bk as'=>∀σ' ad' H',(∀i,i<n->σ'[i]? = σ[i]?)->Rel K kd F B [] ad' as' σ' H'->Grow (Gw [] ad) H (Gw [] ad') H'->D.bk σ' H'
 | .ct as'=>∀σ' ad' H',(∀i,i<n->σ'[i]? = σ[i]?)->Rel K kd F B [] ad' as' σ' H'->Grow (Gw [] ad) H (Gw [] ad') H'->D.ct σ' H'
 | .rt _=>False
def bp(n:Nat)(K:zD)(kd:KD)(f:SF):TS:=λD σ H=>∃F B ad as o,Rel K kd F B [] ad as σ H/\f as=some o/\zrn n K kd F B ad σ H D o
@[irreducible] def AP(X:Cx)(kd:KD)(n:Nat)(st:Stmt)(f:SF):Prop:=PS X st (bp n X.K kd f)
@[irreducible] def APs(X:Cx)(kd:KD)(n:Nat)(st:List Stmt)(f:SF):Prop:=PSs X st (bp n X.K kd f)
theorem zrn.pre{n:Nat}{K:zD}{kd:KD}{F B:Addr->Prop}{ad ad1:Ad}{σ σ1:St}{H H1:Hp}{D:Ends}{o:Out}(s:∀i,i<n->σ1[i]? = σ[i]?)(g:Grow (Gw [] ad) H (Gw [] ad1) H1)(h:zrn n K kd F B ad σ H D o):zrn n K kd F B ad1 σ1 H1 D o:=by
 cases o with
 |nx as=>exact λσ' ad' H' s' R g'=>h σ' ad' H' (λi hi=>(s' i hi).trans (s i hi)) R (g.trans g')
 |bk as=>exact λσ' ad' H' s' R g'=>h σ' ad' H' (λi hi=>(s' i hi).trans (s i hi)) R (g.trans g')
 |ct as=>exact λσ' ad' H' s' R g'=>h σ' ad' H' (λi hi=>(s' i hi).trans (s i hi)) R (g.trans g')
 |rt _=>exact h
section
variable{X:Cx}{kd:KD}{n:Nat}{e c tg iter:Expr}{st:Stmt}{rest sts body:List Stmt}{fa:EF}{ta:TF}{f g:SF}{pos pos':Pos}
theorem zfs(h1:AP X kd n st f)(h2:APs X kd n rest g):APs X kd n (st::rest) (zM f g):=by with_unfolding_all exact(zcy (zao h1 h2) λD σ H h=>by
 obtain⟨F,B,ad,as,o,R,e,q⟩:=h
 obtain⟨o1,e1,e⟩:=bS_ (show(f as).bind _=_ from e)
 refine⟨F,B,ad,as,o1,R,e1, ?_⟩
 cases o1 with
 |nx as1=>exact λσ' ad' H' s' R' g'=>⟨F,B,ad',as1,o,R',e,q.pre s' g'⟩
 |bk as1=>cases e;exact q
 |ct as1=>cases e;exact q
 |rt r=>cases e;exact q)
theorem zms(h1:AP X kd n st f):APs X kd n [st] f:=by with_unfolding_all exact(zfc h1)
theorem zrb(he:AE X kd e fa)(hs:swapsWith e none pos.line X.env=pure false):AP X kd n (.Expr e pos) (wV fa):=by with_unfolding_all exact(ZD (zfg he hs) λD σ H h=>by
 obtain⟨F,B,ad,as,o,R,e,q⟩:=h
 obtain⟨⟨p,as1⟩,h1,e⟩:=bS_ (show(fa as).bind _=_ from e)
 cases e
 exact⟨F,B,ad,as,p,as1,R,h1,λv T' ad' H' R' rv g=>q σ ad' H' (λ_ _=>rfl) R'.drop (g.trans (Grow.less Gw.drop))⟩)
theorem zuq{z:Bool}{i:Nat}{x:Str}(hn:n<=i)(hN:X.N.Nodup)(hi:X.N[i]? = some x)(hx:Loc X.env.scope x)(he:AE X kd e fa)(hs:swapsWith e (some (.Name x pos')) pos.line X.env=pure false)(hf:X.fn x=true\/X.env.scope.names.lookup x=some .local):
 AP X kd n (.Assign [.Name x pos'] e pos) (zW z i fa):=by with_unfolding_all exact(ZD (zoE hN hi hx he hs hf) λD σ H h=>by
 obtain⟨F,B,ad,as,o,R,e,q⟩:=h
 obtain⟨⟨p,as1⟩,h1,e⟩:=bS_ (show(fa as).bind _=_ from e)
 obtain⟨⟨y,as2⟩,h2,e⟩:=bS_ e
 obtain⟨hl,e⟩:=yg e
 cases e
 refine⟨F,B,ad,as,p,as1,R,h1,λv T' ad' H' R' rv g=>?_⟩
 obtain⟨ad2,R2,le⟩:=zln R' rv h2 hl
 exact q _ ad2 H' (λk hk=>zzW (by omega)) R2 (g.trans (Grow.less le)))
theorem ztA{fi:IF}{S:List Nat}{gt:GF}(hS:∀i,i<n->i ∉ S)(hp:PassesOwn (model X.prog X.w) X.A X.env X.xe)(hc:X.calm=true)(hi:AI X kd tg iter fi)(hg:AG X kd tg S gt)(hb:APs X kd n body f)(hs:∀x,foldedSetIterable iter X.env x=pure x):
 AP X kd n (.For tg iter body [] pos) (vh fi gt f):=by with_unfolding_all exact(ZD (zqn hp hc hi hg hb hs) λD σ H h=>by
 obtain⟨F,B,ad,as,o,R,e,q⟩:=h
 obtain⟨⟨ds,as1⟩,h1,e⟩:=bS_ (show(fi as).bind _=_ from e)
 refine⟨F,B,ad,as,ds,as1,R,h1,λJ ad1 H1 R1 g1 it=>?_⟩
 refine⟨λi m σ2 H2=>m+i=ds.length/\∃ad2 as2,(∀k,k<n->σ2[k]? = σ[k]?)/\Rel X.K kd F B [] ad2 as2 σ2 H2/\Grow (Gw [] ad1) H1 (Gw [] ad2) H2/\forL gt f (ds.drop i) as2=some o,⟨ds.length,rfl,ad1,as1,λ_ _=>rfl,R1,Grow.refl,e⟩, ?_⟩
 rintro i m σ2 H2 ⟨hm,ad2,as2,s2,R2,g2,e2⟩
 obtain⟨k1,k2,k3⟩:=it.all ad2 H2 g2 R2.trk i
 by_cases hi:i<ds.length
 · refine .inr ⟨k1 hi,λσ3 H3=>∃ad3 as3,(∀k,k<n->σ3[k]? = σ[k]?)/\Rel X.K kd F B [] ad3 as3 σ3 H3/\Grow (Gw [] ad1) H1 (Gw [] ad3) H3/\forL gt f (ds.drop (i+1)) as3=some o,λσ3 H3 ⟨ad3,as3,s3,R3,g3,e3⟩=>⟨m-1,by omega,by omega,ad3,as3,s3,R3,g3,e3⟩,λv H3 hy=>?_⟩
   obtain⟨kp,rp⟩:=k3 v H3 hy
   rw[zyO hi]at e2
   obtain⟨as3,e3,e2⟩:=bS_ (show(gt _ as2).bind _=_ from e2)
   obtain⟨o3,e4,e2⟩:=bS_ e2
   obtain⟨R3,g3⟩:=R2.more kp
   refine⟨F,B,ad2,as2,_,as3,R3,rp _ (zzC hi),e3,λσ4 ad4 H4 R4 g4 s4=>?_⟩
   refine⟨F,B,ad4,as3,o3,R4,e4, ?_⟩
   have gg:=(g2.trans g3).trans g4
   have s4':∀k,k<n->σ4[k]? = σ[k]? := λk hk=>(s4 k (hS k hk)).trans (s2 k hk)
   cases o3 with
   |nx as5=>exact λσ5 ad5 H5 s5 R5 g5=>⟨ad5,as5,λk hk=>(s5 k hk).trans (s4' k hk),R5,gg.trans g5,e2⟩
   |ct as5=>exact λσ5 ad5 H5 s5 R5 g5=>⟨ad5,as5,λk hk=>(s5 k hk).trans (s4' k hk),R5,gg.trans g5,e2⟩
   |bk as5=>
    cases e2
    exact λσ5 ad5 H5 s5 R5 g5=>q σ5 ad5 H5 (λk hk=>(s5 k hk).trans (s4' k hk)) R5 (g1.trans (gg.trans g5))
   |rt r=>cases e2;exact q.elim
 · refine .inl ⟨k2 (by omega), ?_⟩
   rw[List.drop_eq_nil_of_le (by omega)]at e2
   cases e2
   exact q σ2 ad2 H2 s2 R2 (g1.trans g2))
end
section
variable{K:zD}{kd:KD}{F B:Addr->Prop}{ad:Ad}{as:AS}{σ:St}{H H':Hp}
def G1(G:Addr->Prop)(T T':List Addr):Addr->Prop:=λa=>(G a/\a ∉ T)\/a ∈ T'
theorem Rel.chg1{i:Nat}{o0:O}{v0:V}{T0:List Addr}(R:Rel K kd F B [] ad as σ H)(hi:i<as.length)(s0:σ[i]? = some (some v0))(nd:T0.Nodup)
 (sub:∀a ∈ T0,a ∈ ad i\/H a=none) (kp:∀c u,H c=some u->c ∉ ad i->H' c=some u) (al:∀a ∈ T0,H' a≠none)
 (r0:RoS K kd F B (G1 (Gw [] ad) (ad i) T0) H' v0 o0 T0):
 Rel K kd F B [] (Yi ad i T0) (as.set i (some o0)) σ H'/\Grow (Gw [] ad) H (Gw [] (Yi ad i T0)) H':=by
 have ai:Yi ad i T0 i=T0:=yK
 have ak:∀k,k≠i->Yi ad i T0 k=ad k:=λk h=>yL h
 have off:∀k a,k≠i->a ∈ ad k->a ∉ ad i:=λk a h m z=>h (R.inj k i a m z)
 have gw:∀a,Gw [] (Yi ad i T0) a->G1 (Gw [] ad) (ad i) T0 a:=λa z=>by
  rcases z with z|⟨k,z⟩
  · exact nomatch z
  · by_cases e:k=i
    · subst e;rw[ai]at z;exact .inr z
    · rw[ak k e]at z;exact .inl ⟨.inr ⟨k,z⟩,off k a e z⟩
 have nin:∀k a,k≠i->a ∈ ad k->a ∉ T0:=λk a h m z=>(sub a z).elim (off k a h m) λy=>(R.gtr a (.inr ⟨k,m⟩)).1 y
 have g:Grow (Gw [] ad) H (Gw [] (Yi ad i T0)) H':=⟨λb o h n=>kp b o h λz=>n (.inr ⟨i,z⟩),λb z=>(gw b z).elim (λy=>.inl y.1) λy=>(sub b y).elim (λx=>.inl (.inr ⟨i,x⟩)) .inr⟩
 have kn:∀a,H a≠none->a ∉ ad i->H' a≠none:=λa h n=>by
  cases e:H a with
  |none=>exact absurd e h
  |some u=>rw[kp a u e n];simp
 have own:∀a,a ∈ ad i->Gw [] ad a:=λa z=>.inr ⟨i,z⟩
 refine⟨⟨by rw[zzS];exact R.len,λk hk=>?_,λk=>?_,λk l a h1 h2=>?_,zyH,(λ_ _ _ z=>nomatch z),λa z=>kn a (R.ftr a z) λy=>(R.gtr a (own a y)).2 z,λa z=>?_,λa z=>?_,λk s e=>?_⟩,g⟩
 · rw[zzS]at hk
   rw[ak k (by omega)];exact R.out k hk
 · by_cases e:k=i
   · subst e;rw[ai];exact nd
   · rw[ak k e];exact R.nd k
 · by_cases e:k=i
   · subst e;rw[ai]at h1
     by_cases e':l=k
     · exact e'.symm
     · rw[ak l e']at h2;exact absurd h1 (nin l a e' h2)
   · rw[ak k e]at h1
     by_cases e2:l=i
     · subst e2;rw[ai]at h2;exact absurd h2 (nin k a e h1)
     · rw[ak l e2]at h2;exact R.inj k l a h1 h2
 · obtain⟨h1,h2,h3⟩:=R.btr a z
   refine⟨kn a h1 λy=>h3 (own a y),h2,λy=>(gw a y).elim (λx=>h3 x.1) λx=>(sub a x).elim (λw=>h3 (own a w)) h1⟩
 · rcases gw a z with⟨y,n⟩|y
   · exact⟨kn a (R.gtr a y).1 n,(R.gtr a y).2⟩
   · exact⟨al a y,(sub a y).elim (λw=>(R.gtr a (own a w)).2) λw f=>R.ftr a f w⟩
 · by_cases e2:k=i
   · subst e2
     rw[zyI hi]at e
     cases e
     rw[ai]
     exact⟨v0,s0,RoS.lv (λst a z=>z.imp id (gw a)) r0⟩
   · rw[zzW (λz=>e2 z.symm)]at e
     rw[ak k e2]
     exact(R.sl k s e).grow g λa m u h=>kp a u h (off k a e2 m)
end
def zny(K:zD)(kd:KD)(g:List It1->O->Option O):Sp:=λvs H Q _=>∃(F B G:Addr->Prop) (T:List Addr) (ws:List V) (v:V) (xs:List It1) (o r:O),vs=ws++[v]/\(∀a,F a->H a≠none)/\(∀a,B a->H a≠none/\¬F a/\¬G a)/\(∀a,G a->H a≠none/\¬F a)/\
 T.Nodup/\(∀a ∈ T,G a)/\RpI K kd F B G H ws xs/\RoS K kd F B G H v o T/\g xs o=some r/\
 ∀(H':Hp) (T':List Addr),(∀c u,H c=some u->c ∉ T->H' c=some u)->T'.Nodup->(∀a ∈ T',a ∈ T\/H a=none)->(∀a ∈ T',H' a≠none)->RoS K kd F B (G1 G T T') H' v r T'->Q .non H'
def zhH(i:Nat):List RV->Option (List It1)
 | []=>none
 |r::rs=>match r with
  | .bo j=>if j=i/\rs.isEmpty=true then some []else none
  | .ow (.lf st d)=>(zhH i rs).bind λxs=>some ((st,d)::xs)
  | .ow (.nd _ _)=>none
theorem zkG{K:zD}{kd:KD}{F B:Addr->Prop}{ad:Ad}{σ:St}{H:Hp}{i:Nat}:∀{rs:List RV}{vs:List V}{xs:List It1},RVs K kd F B ad σ H vs rs->zhH i rs=some xs->∃ws v,vs=ws++[v]/\RpI K kd F B (Gw [] ad) H ws xs/\σ[i]? = some (some v)
 | [],_,_,_,e=>by cases e
 |r::rs,_,xs,h,e=>by
  cases h with
  |cons hv hr=>
   rename_i v vs
   cases r with
   |bo j=>
    have e:(if j=i/\rs.isEmpty=true then some ([]:List It1)else none)=some xs:=e
    obtain⟨⟨e1,e2⟩,e3⟩:=yg e
    cases e3
    rw[List.isEmpty_iff]at e2
    subst e1 e2
    cases hr
    exact⟨[],v,rfl,.nil,hv.2⟩
   |ow o=>
    cases o with
    |lf st d=>
     obtain⟨ys,e1,e⟩:=bS_ (show(zhH i rs).bind _=_ from e)
     cases e
     obtain⟨ws,w,rfl,h1,h2⟩:=zkG hr e1
     have hv:RoS K kd F B (Gw [] ad) H v (.lf st d) []:=hv
     cases hv with
     |lf rp=>exact⟨v::ws,w,rfl,.cons rp h1,h2⟩
    |nd k os=>cases e
def Vi(i:Nat)(fr:AF)(g:List It1->O->Option O):SF:=λas=>(fr as).bind λp=>(zhH i p.1).bind λxs=>(p.2[i]?).bind λa=>a.bind λo=>(g xs o).bind λr=>some (.nx (p.2.set i (some r)))
section
variable{X:Cx}{kd:KD}{e:Expr}{es:List Expr}{fr:AF}{pos pos':Pos}
theorem zkw{n i k:Nat}{f:Addr}{fdt:FuncData}{ps:List Str}{g:List It1->O->Option O}{x:Str}{p:Pos}(F:FnOk X.prog X.w X.K X.mg X.base CX0 k f fdt ps (zny X.K kd g))(hr:Room k X.A)(hg:Gl X x)(hm:X.mg x=some (.ref f))(hk:PySem.W.keepIn X.K (.ref f)=true)
 (hb:Binds X.K fdt ps []) (hx:Yo CX0 X (λ_ _ _=>False)) (ha:AA X kd (e::es) fr) (hdb:(x==("__debug__":Str))=false) (he:starEach (e::es) X.env=(false,eval e X.env)::starEach es X.env) (hpl:(backTo pos (starEach es X.env)).any (·.1)=false)
 (hs:swapsWith (.Call (.Name x p) (e::es) [] pos) none pos'.line X.env=pure false):
 AP X kd n (.Expr (.Call (.Name x p) (e::es) [] pos) pos') (Vi i fr g):=by
 with_unfolding_all exact(ZD (zfg (zmV F hr hg hm hk hb .nil hx ha hdb he hpl) hs) λD σ H h=>by
  obtain⟨F,B,ad,as,o,R,e,q⟩:=h
  obtain⟨⟨rs,as1⟩,h1,e1⟩:=bS_ (show(fr as).bind _=_ from e)
  obtain⟨xs,h2,e2⟩:=bS_ e1
  obtain⟨a,ka,e3⟩:=bS_ e2
  obtain⟨o0,qa,e4⟩:=bS_ e3
  obtain⟨r,hgr,e5⟩:=bS_ e4
  subst qa
  have e12:=zzX e5
  refine(show alA X.K kd fr σ H _ from⟨F,B,ad,as,rs,as1,R,h1,λvs ad1 H1 R1 rvs g1=>?_⟩)
  obtain⟨ws,v,rfl,rpi,s0⟩:=zkG rvs h2
  obtain⟨w0,t0,ro0⟩:=R1.sl i _ ka
  rw[s0]at t0
  cases t0
  show zny X.K kd g ((ws++[v])++[]) H1 _ _
  rw[zyC]
  refine⟨F,B,Gw [] ad1,ad1 i,ws,v,xs,o0,r,rfl,R1.ftr,R1.btr,R1.gtr,R1.nd i,λa m=>.inr ⟨i,m⟩,rpi,ro0,hgr,λH' T' kp nd sub al r0=>?_⟩
  obtain⟨R3,g3⟩:=R1.chg1 (zzE.mp ka).1 s0 nd sub kp al r0
  subst e12
  exact q σ _ _ (λ_ _=>rfl) R3 (g1.trans g3))
theorem zpf{i k:Nat}{f:Addr}{fdt:FuncData}{ps:List Str}{g:List It1->O->Option O}{x:Str}{p:Pos}(F:FnOk X.prog X.w X.K X.mg X.base CX0 k f fdt ps (zny X.K kd g))(hr:Room k X.A)(hg:Gl X x)(hm:X.mg x=some (.ref f))(hk:PySem.W.keepIn X.K (.ref f)=true)
 (hb:Binds X.K fdt ps []) (hx:Yo CX0 X (λ_ _ _=>False)) (ha:AA X kd (e::es) fr) (hdb:(x==("__debug__":Str))=false) (he:starEach (e::es) X.env=(false,eval e X.env)::starEach es X.env) (hpl:(backTo pos (starEach es X.env)).any (·.1)=false)
 (hs:swapsWith (.Call (.Name x p) (e::es) [] pos) none pos'.line X.env=pure false):
 ASt X kd (.Expr (.Call (.Name x p) (e::es) [] pos) pos') (Vi i fr g):=by
 have h:=zkw (n:=0) (i:=i) F hr hg hm hk hb hx ha hdb he hpl hs
 with_unfolding_all exact(ZD h λD σ H h=>by
  obtain⟨F,B,ad,as,o,R,e,q⟩:=h
  refine⟨F,B,ad,as,o,R,e, ?_⟩
  cases o with
  |nx as'=>exact λσ' ad' H' _ R' g'=>q σ' ad' H' R' g'
  |bk as'=>exact λσ' ad' H' _ R' g'=>q σ' ad' H' R' g'
  |ct as'=>exact λσ' ad' H' _ R' g'=>q σ' ad' H' R' g'
  |rt r=>
   obtain⟨⟨rs,as1⟩,h1,e1⟩:=bS_ (show(fr as).bind _=_ from e)
   obtain⟨xs,h2,e2⟩:=bS_ e1
   obtain⟨a,ka,e3⟩:=bS_ e2
   obtain⟨o0,qa,e4⟩:=bS_ e3
   obtain⟨r,hgr,e5⟩:=bS_ e4
   cases e5)
end
def br(n:Nat)(K:zD)(kd:KD)(f:SF):TS:=λD σ H=>∃F B ad as as',Rel K kd F B [] ad as σ H/\f as=some (.nx as')/\∀σ' ad' H',(∀i,i<n->σ'[i]? = σ[i]?)->Rel K kd F B [] ad' as' σ' H'->Grow (Gw [] ad) H (Gw [] ad') H'->D.nx σ' H'/\D.rt .non H'
@[irreducible] def ARs(X:Cx)(kd:KD)(n:Nat)(st:List Stmt)(f:SF):Prop:=PSs X st (br n X.K kd f)
section
variable{X:Cx}{kd:KD}{n:Nat}{c:Expr}{st:Stmt}{rest:List Stmt}{ta:TF}{f g:SF}{pos pos':Pos}
theorem znx(hc:AT X kd c ta)(ha:AP X kd n st f)(hb:APs X kd n rest g):ARs X kd n (.If c [st,.Return none pos'] [] pos::rest) (sIf ta f g):=by
 with_unfolding_all exact(zcy (zao (zsx hc (zao ha (zfc zrj)) znf) hb) λD σ H h=>by
  obtain⟨F,B,ad,as,as',R,e,q⟩:=h
  obtain⟨⟨p,as1⟩,h1,e⟩:=bS_ (show(ta as).bind _=_ from e)
  refine⟨F,B,ad,as,p,as1,R,h1,λad' H' R' g1=>?_⟩
  cases p with
  |true=>exact⟨F,B,ad',as1,_,R',e,λσ2 ad2 H2 s2 R2 g2=>(q σ2 ad2 H2 s2 R2 (g1.trans g2)).2⟩
  |false=>exact⟨F,B,ad',as1,_,R',e,λσ2 ad2 H2 s2 R2 g2=>(q σ2 ad2 H2 s2 R2 (g1.trans g2)).1⟩)
end
def zbO(n:Nat)(xs:List It1)(o:O):AS:=(xs.map λx=>some (O.lf x.1 x.2))++some o::List.replicate (n-(xs.length+1)) none
def gL(n m:Nat)(c:SF)(xs:List It1)(o:O):Option O:=if xs.length+1=m then(c (zbO n xs o)).bind λout=>match out with
 | .nx as=>(as[xs.length]?).bind id
 |_=>none
 else none
def adL(k:Nat)(T:List Addr):Ad:=λi=>if i=k then T else[]
theorem zdw{k:Nat}{T:List Addr}{a:Addr}:Gw [] (adL k T) a ↔ a ∈ T:=by
 constructor
 · rintro(z|⟨i,z⟩)
   · exact nomatch z
   · unfold adL at z
     by_cases e:i=k
     · rw[if_pos e]at z;exact z
     · rw[if_neg e]at z;exact nomatch z
 · intro z
   exact .inr ⟨k,by unfold adL;rw[if_pos rfl];exact z⟩
theorem zfh{K:zD}{kd:KD}{F B G:Addr->Prop}{H:Hp}:∀{vs:List V}{xs:List It1},RpI K kd F B G H vs xs->vs.length=xs.length
 |_,_,.nil=>rfl
 |_,_,.cons _ h=>congrArg Nat.succ (zfh h)
theorem zmO{K:zD}{kd:KD}{F B G:Addr->Prop}{H:Hp}:∀{vs:List V}{xs:List It1}{i:Nat}{x:It1},RpI K kd F B G H vs xs->xs[i]? = some x->∃v,vs[i]? = some v/\Rp K kd (Lv F B G x.1) H v x.2
 |_,_,i,x,.nil,e=>by cases e
 |_,_,0,x,.cons r h,e=>by cases e;exact⟨_,rfl,r⟩
 |_,_,i+1,x,.cons r h,e=>zmO (i:=i) h e
theorem zlV{K:zD}{kd:KD}{F B G:Addr->Prop}{T:List Addr}{H:Hp}{N:List Str}{ws:List V}{v:V}{xs:List It1}{o:O}(hN:xs.length+1<=N.length)(ht:∀a,F a->H a≠none)(hB:∀a,B a->H a≠none/\¬F a/\¬G a)(hG:∀a,G a->H a≠none/\¬F a)(nd:T.Nodup)(hT:∀a ∈ T,G a)
 (rpi:RpI K kd F B G H ws xs) (r0:RoS K kd F B G H v o T):Rel K kd F (λa=>B a\/(G a/\a ∉ T)) [] (adL xs.length T) (zbO N.length xs o) (L2.start N (ws++[v])) H:=by
 have wl:=zfh rpi
 have lv:∀st a,Lv F (λa=>B a\/(G a/\a ∉ T)) (Gw [] (adL xs.length T)) st a->Lv F B G st a:=λst a z=>by
  rcases z with(z|z|z)|z
  · exact .inl (.inl z)
  · exact .inl (.inr z)
  · exact .inr z.1
  · exact .inr (hT a (zdw.mp z))
 have ad0:∀i,i≠xs.length->adL xs.length T i=[]:=λi h=>if_neg h
 have ad1:adL xs.length T xs.length=T:=if_pos rfl
 have sl:(zbO N.length xs o).length=N.length:=by unfold zbO;simp;omega
 have st:L2.start N (ws++[v])=ws.map some++some v::List.replicate (N.length-(xs.length+1)) none:=by
  unfold L2.start
  simp[wl]
 refine⟨by rw[sl,st];simp[wl];omega,λi hi=>ad0 i (by omega),λi=>?_,λi j a x y=>?_,zyH,(λ_ _ _ z=>nomatch z),ht,λa z=>?_,λa z=>hG a (hT a (zdw.mp z)),λi s e=>?_⟩
 · by_cases h:i=xs.length
   · subst h;rw[ad1];exact nd
   · rw[ad0 i h];exact zyH
 · by_cases h:i=xs.length
   · by_cases h':j=xs.length
     · rw[h,h']
     · rw[ad0 j h']at y;exact nomatch y
   · rw[ad0 i h]at x;exact nomatch x
 · rcases z with z|z
   · exact⟨(hB a z).1,(hB a z).2.1,λy=>(hB a z).2.2 (hT a (zdw.mp y))⟩
   · exact⟨(hG a z.1).1,(hG a z.1).2,λy=>z.2 (zdw.mp y)⟩
 · rw[st]
   unfold zbO at e
   by_cases h:i<xs.length
   · rw[zyN (by rw[zS];exact h),zzG]at e
     obtain⟨x,hx,rfl⟩:=zzV.mp e
     obtain⟨u,hu,rp⟩:=zmO rpi hx
     rw[ad0 i (by omega),zyN (by rw[zS,wl];exact h),zzG,hu]
     exact⟨u,rfl,.lf (rp.less (lv x.1))⟩
   · rw[zyP (by rw[zS];omega),zS]at e
     rw[zyP (by rw[zS,wl];omega),zS,wl]
     by_cases h':i=xs.length
     · subst h'
       rw[Nat.sub_self]at e ⊢
       cases e
       rw[ad1]
       exact⟨v,rfl,RoS.lv lv r0⟩
     · rw[ad0 i h']
       obtain⟨j,hj⟩:∃j,i-xs.length=j+1:=⟨i-xs.length-1,by omega⟩
       rw[hj]at e
       have e:(List.replicate (N.length-(xs.length+1)) (none:Option O))[j]? = some s:=e
       have ea:s=none:=(List.mem_replicate.mp (zzY e)).2
       subst ea
       rfl
section
variable{P:Program}{w:World}{K:zD}{mg:Str->Option Value}{base:Heap}
theorem zsQ{kd:KD}{x qual:Str}{st:Stmt}{f:Addr}{fd:FuncData}{N ps:List Str}{k:Nat}{c:SF}(Fn:Fun K x qual st f fd)(S:FnScope N ps (zG st))(hN:ps.length<=N.length)
 (hb:∀(cdv:Value) (A:Around) (outer:List Env) (s:Shared) (H:Hp) (E:XK),Room k (A.deeper (envOfC qual (zG st) s.heap.objs.size f cdv))->ARs (zji CX0 P w K mg base N qual (zG st) f cdv A outer s H E).nox kd ps.length (V0 st) c):
 FnOk P w K mg base CX0 (k+1) f fd ps (zny K kd (gL N.length ps.length c)):=by
 with_unfolding_all (
 refine Fn.ok S (λvs H Q E h=>?_) (λcdv A outer s H vs Q E hr h=>⟨_,hb cdv A outer s H E hr, ?_⟩)
 · obtain⟨F,B,G,T,ws,v,xs,o,r,rfl,ht,hB,hG,nd,hT,rpi,r0,e,q⟩:=h
   unfold gL at e
   by_cases hl:xs.length+1=ps.length
   · rw[zzH,zfh rpi];exact hl
   · rw[if_neg hl]at e;cases e
 · obtain⟨F,B,G,T,ws,v,xs,o,r,rfl,ht,hB,hG,nd,hT,rpi,r0,e,q⟩:=h
   unfold gL at e
   by_cases hl:xs.length+1=ps.length
   · rw[if_pos hl]at e
     obtain⟨out,e1,e2⟩:=bS_ e
     cases out with
     |nx as=>
      obtain⟨a,k0,e3⟩:=bS_ e2
      have e4:a=some r:=e3
      subst e4
      refine⟨F,_,_,zbO N.length xs o,as,zlV (by omega) ht hB hG nd hT rpi r0,e1,λσ' ad' H' sp R g=>?_⟩
      obtain⟨u0,s0,t0⟩:=R.sl xs.length _ k0
      rw[sp xs.length (by omega)]at s0
      have sv:(L2.start N (ws++[v]))[xs.length]? = some (some v):=by
       have wl:=zfh rpi
       unfold L2.start
       rw[<-wl]
       simp
      cases(show some (some v)=some (some u0)from sv.symm.trans s0)
      have own:∀a,a ∈ ad' xs.length->Gw [] ad' a:=λa z=>.inr ⟨_,z⟩
      have lv:∀st a,Lv F B (G1 G T (ad' xs.length)) st a->Lv F (λa=>B a\/(G a/\a ∉ T)) (Gw [] ad') st a:=λst a z=>by
       rcases z with(z|z)|z|z
       · exact .inl (.inl z)
       · exact .inl (.inr (.inl z))
       · exact .inl (.inr (.inr z))
       · exact .inr (own a z)
      have fin:=q H' (ad' xs.length) (λc u h n=>g.keep c u h λz=>n (zdw.mp z)) (R.nd _) (λa m=>(g.own a (own a m)).imp zdw.mp id) (λa m=>(R.gtr a (own a m)).1) (RoS.lv lv t0)
      exact⟨fin,fin⟩
     |_=>cases e2
   · rw[if_neg hl]at e;cases e)
end
def zgD(i:Nat)(f:IXF)(fv:EF):SF:=λas=>(fv as).bind λp=>(rvI p.1).bind λc=>(f p.2).bind λk=>if 0<=k then(slO zgx p.2 i).bind λos=>(atO zcn os k.toNat).bind λ_=>some (.nx (p.2.set i (some (.nd .ls (os.set k.toNat (.lf true (.int c)))))))else none
def zbT(i:Nat)(f1 f2:IXF)(fv:EF):SF:=λas=>(fv as).bind λp=>(rvI p.1).bind λc=>(f1 p.2).bind λk1=>(f2 p.2).bind λk2=>if 0<=k1/\0<=k2 then(slO zgx p.2 i).bind λos=>(atO zgx os k1.toNat).bind λinner=>(atO zcn inner k2.toNat).bind λ_=>some (.nx (p.2.set i (some (.nd .ls (os.set k1.toNat (.nd .ls (inner.set k2.toNat (.lf true (.int c)))))))))else none
section
variable{X:Cx}{kd:KD}{f f1 f2:IXF}{fv:EF}{e1 e2 ev:Expr}{i:Nat}
theorem zro{x:Str}{p tpos pos:Pos}(ho:PE X (.Name x p) (zhg i))(h1:AK X kd e1 f)(hv:AE X kd ev fv)
 (ha:∀v,assign (.Subscript (.Name x p) e1 tpos) X.env v=(do
  let ov <-holding [v] (eval (.Name x p) X.env)
  let iv <-holding [v,ov] (eval e1 X.env)
  standAt tpos
  holding [v,ov,iv] (setItem ov iv v)
  release [v,ov,iv] []))
 (hs:swapsWithSole [.Subscript (.Name x p) e1 tpos] ev pos.line X.env=pure false) (hw:swappedStores [.Subscript (.Name x p) e1 tpos] ev X.env=pure none)
 (hm:(assignEach [.Subscript (.Name x p) e1 tpos] X.env).map (·.2)=[assign (.Subscript (.Name x p) e1 tpos) X.env]):
 ASt X kd (.Assign [.Subscript (.Name x p) e1 tpos] ev pos) (zgD i f fv):=by
 with_unfolding_all exact(ZD (zpo hv (zpp ho h1 set_list ha) hs hw hm) λD σ H h=>by
  obtain⟨F,B,ad,as,o,R,e,q⟩:=h
  obtain⟨⟨pv,as1⟩,h1,e1⟩:=bS_ (show(fv as).bind _=_ from e)
  obtain⟨c,j2,e2⟩:=bS_ e1
  obtain⟨k,j1,e3⟩:=bS_ e2
  obtain⟨hk,e4⟩:=ite_some' e3
  obtain⟨os,e5,e6⟩:=bS_ e4
  obtain⟨d,e7,e8⟩:=bS_ e6
  have k1:=zvt e5
  obtain⟨st,k2⟩:=zvk e7
  cases e8
  obtain⟨st',rfl⟩:=zlC j2
  refine YK R h1 λu ad1 H1 R1 rv1 g1=>?_
  have hv:RoS X.K kd F B (Gw [] ad1) H1 u (.lf st' (.int c)) []:=rv1
  cases hv with
  |lf rp=>
   cases rp
   obtain⟨v,sv,ro,hn,hG,up⟩:=R1.slotU k1
   obtain⟨p,ivs,rfl,hp,hH,hl,ro'⟩:=zmo c ro hn hG k2
   obtain⟨R2,g2⟩:=up p _ _ hp ro'
   exact⟨_,sv,F,B,ad1,as1,k,R1,j1,p,ivs,k,k.toNat,rfl,rfl,hH,znd hk hl,q σ ad1 _ R2 (g1.trans g2)⟩)
theorem zqy{x:Str}{p p1 tpos pos:Pos}(ho:PE X (.Name x p) (zhg i))(h1:AK X kd e1 f1)(hp1:zcM e1)(h2:AK X kd e2 f2)(hv:AE X kd ev fv)
 (ha:∀v,assign (.Subscript (.Subscript (.Name x p) e1 p1) e2 tpos) X.env v=(do
  let ov <-holding [v] (eval (.Subscript (.Name x p) e1 p1) X.env)
  let iv <-holding [v,ov] (eval e2 X.env)
  standAt tpos
  holding [v,ov,iv] (setItem ov iv v)
  release [v,ov,iv] []))
 (hs:swapsWithSole [.Subscript (.Subscript (.Name x p) e1 p1) e2 tpos] ev pos.line X.env=pure false) (hw:swappedStores [.Subscript (.Subscript (.Name x p) e1 p1) e2 tpos] ev X.env=pure none)
 (hm:(assignEach [.Subscript (.Subscript (.Name x p) e1 p1) e2 tpos] X.env).map (·.2)=[assign (.Subscript (.Subscript (.Name x p) e1 p1) e2 tpos) X.env]):
 ASt X kd (.Assign [.Subscript (.Subscript (.Name x p) e1 p1) e2 tpos] ev pos) (zbT i f1 f2 fv):=by
 with_unfolding_all exact(ZD (zpo hv (zpp (zqj ziM ho h1 hp1) h2 set_list ha) hs hw hm) λD σ H h=>by
  obtain⟨F,B,ad,as,o,R,e,q⟩:=h
  obtain⟨⟨pv,as1⟩,h1,e1⟩:=bS_ (show(fv as).bind _=_ from e)
  obtain⟨c,j3,e2⟩:=bS_ e1
  obtain⟨n1,j1,e3⟩:=bS_ e2
  obtain⟨n2,j2,e4⟩:=bS_ e3
  obtain⟨⟨hk1,hk2⟩,e5⟩:=ite_some' e4
  obtain⟨os,e6,e7⟩:=bS_ e5
  obtain⟨inner,e8,e9⟩:=bS_ e7
  obtain⟨d,e10,e11⟩:=bS_ e9
  have k1:=zvt e6
  have k2:=zww e8
  obtain⟨st,k3⟩:=zvk e10
  cases e11
  obtain⟨st',rfl⟩:=zlC j3
  refine YK R h1 λu ad1 H1 R1 rv1 g1=>?_
  have hv:RoS X.K kd F B (Gw [] ad1) H1 u (.lf st' (.int c)) []:=rv1
  cases hv with
  |lf rp=>
   cases rp
   obtain⟨v,sv,ro,hn,hG,up⟩:=R1.slotU k1
   obtain⟨l,vs,w,fw,rfl,hH,hvs,rw1,fn,fs,up1⟩:=ztc ro hn hG k2
   obtain⟨p,ivs,rfl,hp,hHp,hl,ro'⟩:=zmo c rw1 fn (λa m=>hG a (fs a m)) k3
   obtain⟨R2,g2⟩:=up p _ _ (fs p hp) (up1 p _ _ hp ro')
   exact⟨_,sv,F,B,ad1,as1,n1,R1,j1,l,vs,n1,_,rfl,rfl,.inl (.inl hH),zqP hk1 hvs,F,B,ad1,as1,n2,R1,j2,p,ivs,n2,n2.toNat,rfl,rfl,hHp,znd hk2 hl,q σ ad1 _ R2 (g1.trans g2)⟩)
end
section
variable{X:Cx}{kd:KD}{n:Nat}
theorem svP(z:Bool)(i:Nat){x:Str}{pos pos':Pos}{e:Expr}{fa:EF}(hn:n<=i)(hN:X.N.Nodup)(he:AE X kd e fa)(hi:X.N[i]? = some x:=by rfl)(hx:Loc X.env.scope x:=by first|exact Or.inl rfl|exact Or.inr rfl)(hs:swapsWith e (some (.Name x pos')) pos.line X.env=pure false:=by rfl)(hf:X.fn x=true\/X.env.scope.names.lookup x=some .local:=by first|exact Or.inl rfl|exact Or.inr rfl):
 AP X kd n (.Assign [.Name x pos'] e pos) (zW z i fa):=zuq hn hN hi hx he hs hf
end
section
variable{P:Program}{w:World}{K:zD}{mg:Str->Option Value}{base:Heap}{kd:KD}
theorem zoW{k:Nat}{f:Addr}{fd:FuncData}{ps:List Str}:FnOk P w K mg base CX0 k f fd ps (zny K kd λ_ _=>none):=
 ⟨λvs H Q E h=>(by obtain⟨_,_,_,_,_,_,_,_,_,_,_,_,_,_,_,_,_,e,_⟩:=h;cases e),λA outer s H args us vs Q E _ _ _ _ h=>(by obtain⟨_,_,_,_,_,_,_,_,_,_,_,_,_,_,_,_,_,e,_⟩:=h;cases e)⟩
end
abbrev InR(n:Nat)(x:Int):Prop:=0<=x/\x<(n:Int)
structure LJ(n:Nat)(j:Int->Int->Int)(e:Int):Prop where
 cl:∀a b,InR n a->InR n b->InR n (j a b)
 ce:InR n e
 ul:∀a,InR n a->j e a=a
 ur:∀a,InR n a->j a e=a
 as:∀a b c,InR n a->InR n b->InR n c->j (j a b) c=j a (j b c)
structure LD(n m:Nat)(j:Int->Int->Int)(e:Int)(d:Int->Int->Int):Prop where
 cl:∀c a,InR m c->InR n a->InR n (d c a)
 em:d 0 e=e
 dn:∀a i b k,InR n a->InR m i->InR n b->InR m k->d ((i+k)%m) (j a b)=j (d i a) (d k b)
theorem zca{x:Int}{n:Nat}(hn:0<n):InR n (x%n):=⟨zyL _ (by omega),zyF _ (by omega)⟩
theorem LD.congr{n m:Nat}{j j':Int->Int->Int}{e:Int}{d d':Int->Int->Int}(hm:0<m)(hj:LJ n j e)(h:LD n m j e d)(q:∀a b,InR n a->InR n b->j' a b=j a b)(p:∀c a,InR m c->InR n a->d' c a=d c a):LD n m j' e d':=by
 refine⟨λc a hc ha=>by rw[p c a hc ha];exact h.cl c a hc ha,by rw[p 0 e ⟨by omega,by omega⟩ hj.ce];exact h.em,λa i b k ha hi hb hk=>?_⟩
 rw[q a b ha hb,p _ _ (zca hm) (hj.cl a b ha hb),p i a hi ha,p k b hk hb,q _ _ (h.cl i a hi ha) (h.cl k b hk hb)]
 exact h.dn a i b k ha hi hb hk
def jS(n:Nat)(a b:Int):Int:=(a+b)%n
def jM(a b:Int):Int:=if b > a then b else a
def jL(a b:Int):Int:=if b=0 then a else b
theorem ljS{n:Nat}(hn:0<n):LJ n (jS n) 0:=by
 refine⟨λa b _ _=>zca hn,⟨by omega,by omega⟩,λa ha=>?_,λa ha=>?_,λa b c _ _ _=>?_⟩
 · unfold jS;rw[Int.zero_add,Int.emod_eq_of_lt ha.1 ha.2]
 · unfold jS;rw[Int.add_zero,Int.emod_eq_of_lt ha.1 ha.2]
 · unfold jS;rw[Int.emod_add_emod,Int.add_emod_emod,Int.add_assoc]
theorem ljM{n:Nat}(hn:0<n):LJ n jM 0:=by
 refine⟨λa b ha hb=>?_,⟨by omega,by omega⟩,λa ha=>?_,λa ha=>?_,λa b c _ _ _=>?_⟩<;>unfold jM<;>(try unfold jM)<;>grind
theorem ljL{n:Nat}(hn:0<n):LJ n jL 0:=by
 refine⟨λa b ha hb=>?_,⟨by omega,by omega⟩,λa ha=>?_,λa ha=>?_,λa b c _ _ _=>?_⟩<;>unfold jL<;>grind
theorem four{P:Int->Prop}(h0:P 0)(h1:P 1)(h2:P 2)(h3:P 3){a:Int}(h:InR 4 a):P a:=by
 rcases(show a=0\/a=1\/a=2\/a=3 by have:=h.1;have:=h.2;omega)with rfl|rfl|rfl|rfl<;>assumption
theorem f4{P:Int->Prop}(h:∀a ∈ ([0,1,2,3]:List Int),P a){a:Int}(ha:InR 4 a):P a:=four (h 0 (by decide)) (h 1 (by decide)) (h 2 (by decide)) (h 3 (by decide)) ha
theorem ldS{n m:Nat}{g x0 x1:Int}(hn:0<n)(hm:0<m)(g0:0<g)(gn:g ∣ n)(gm:g ∣ m):LD n m (jS n) 0 (λc a=>(a*x0+c*((n:Int)/g)*x1)%n):=by
 refine⟨λc a _ _=>zca hn,by simp,λa i b k _ _ _ _=>?_⟩
 obtain⟨t,ht⟩:=gm
 have h:(m:Int)*((n:Int)/g)=n*t:=by
  obtain⟨s,hs⟩:=gn
  rw[hs,Int.mul_ediv_cancel_left _ (by omega),ht];grind
 show(_:Int)=jS n _ _
 unfold jS
 rw[<-Int.add_emod]
 generalize (n:Int)/g=st at h
 rw[Int.emod_def (i+k) m,Int.emod_def (a+b) n]
 generalize (i+k)/(m:Int)=q
 generalize (a+b)/(n:Int)=p
 rw[show((a+b)-(n:Int)*p)*x0+((i+k)-(m:Int)*q)*st*x1=(a*x0+i*st*x1+(b*x0+k*st*x1))+(n:Int)*(-(p*x0)-t*q*x1) by grind,Int.add_mul_emod_self_left]
theorem ldM{n m:Nat}{r:Int->Int}(hm:0<m)(h0:r 0=0)(hc:∀a,InR n a->InR n (r a))(hr:∀a b,InR n a->InR n b->a<=b->r a<=r b):LD n m jM 0 (λ_ a=>r a):=by
 refine⟨λc a _ ha=>hc a ha,h0,λa i b k ha _ hb _=>?_⟩
 show r (jM a b)=jM (r a) (r b)
 unfold jM
 have h1:=hr a b ha hb
 have h2:=hr b a hb ha
 split<;>split<;>grind
theorem ldL{n m:Nat}{r:Int->Int}(h0:r 0=0)(hc:∀a,InR n a->InR n (r a))(hr:∀a,InR n a->a≠0->r a≠0):LD n m jL 0 (λ_ a=>r a):=by
 refine⟨λc a _ ha=>hc a ha,h0,λa i b k ha _ hb _=>?_⟩
 show r (jL a b)=jL (r a) (r b)
 unfold jL
 have h2:=hr b hb
 split<;>split<;>grind
theorem ztK{n1 n2:Nat}{x y:Int}(hx:InR n1 x)(hy:InR n2 y):InR (n1*n2) (x*n2+y):=by
 have h1:0<=x*n2:=Int.mul_nonneg hx.1 (by omega)
 have h2:x*n2<=((n1:Int)-1)*n2:=Int.mul_le_mul_of_nonneg_right (by have:=hx.2;omega) (by omega)
 rw[Int.sub_mul,Int.one_mul]at h2
 refine⟨by have:=hy.1;omega, ?_⟩
 rw[zzT]
 have:=hy.2
 omega
theorem yM{n1 n2:Nat}{p:Int}(h2:0<n2)(h:InR (n1*n2) p):InR n1 (p/n2)/\InR n2 (p%n2):=
 ⟨⟨Int.ediv_nonneg h.1 (by omega),Int.ediv_lt_of_lt_mul (by omega) (by have:=h.2;rw[zzT]at this;exact this)⟩,zca h2⟩
theorem zbx{n2:Nat}{x y:Int}(hy:InR n2 y):(x*n2+y)/n2=x/\(x*n2+y)%n2=y:=by
 have h0:(n2:Int)≠0:=by have:=hy.1;have:=hy.2;omega
 constructor
 · rw[Int.add_comm,Int.add_mul_ediv_right _ _ h0,Int.ediv_eq_zero_of_lt hy.1 hy.2,Int.zero_add]
 · rw[Int.add_comm,Int.add_mul_emod_self_right,Int.emod_eq_of_lt hy.1 hy.2]
theorem zvw{n2:Nat}{p:Int}:(p/n2)*n2+p%n2=p:=by rw[Int.mul_comm];exact Int.mul_ediv_add_emod p n2
def jB(n2:Nat)(j1 j2:Int->Int->Int)(p q:Int):Int:=j1 (p/n2) (q/n2)*n2+j2 (p%n2) (q%n2)
def dB(n2:Nat)(d1 d2:Int->Int->Int)(c p:Int):Int:=d1 c (p/n2)*n2+d2 c (p%n2)
theorem leN{n k:Nat}(h:n<=8)(hk:8<=k:=by decide):n<=k:=zzM h hk
theorem np1{n:Nat}(h:1<=n):(0:Int)<n:=Int.natCast_pos.mpr h
theorem tS{a:Int}{n:Nat}(h0:0<=a)(h1:a<n):a.toNat<n:=Int.ofNat_lt.mp (by rw[zyX h0];exact h1)
theorem mU{n:Nat}{k:Int}(h:n<=8)(hk:8<k:=by decide):(n:Int)<k:=Int.lt_of_le_of_lt (Int.ofNat_le.mpr h) hk
theorem iT{n:Nat}{x:Int}(h:InR n x):x.toNat<n:=Int.ofNat_lt.mp (by rw[zyX h.1];exact h.2)
theorem iC{n:Nat}{x:Int}(h:InR n x):((x.toNat:Nat):Int)=x:=zyX h.1
def rAt(r:List Int)(v:Int):Int:=(r[v.toNat]?).getD 0
def jAt(J:List (List Int))(w v:Int):Int:=rAt ((J[w.toNat]?).getD []) v
def jnA(J:List (List Int))(e:Int):List Int->Int
 | []=>e
 |x::t=>t.foldl (jAt J) x
section
variable{n m:Nat}{J T:List (List Int)}{e:Int}
theorem zki(h:LJ n (jAt J) e):∀(t:List Int) (w:Int),InR n w->(∀x ∈ t,InR n x)->InR n (t.foldl (jAt J) w)
 | [],w,hw,_=>hw
 |v::t,w,hw,k=>zki h t (jAt J w v) (h.cl w v hw (k v (zzD ..))) λx m=>k x (zzB _ m)
theorem WP(h:LJ n (jAt J) e){r:List Int}(k:∀x ∈ r,InR n x):InR n (jnA J e r):=by
 cases r with
 |nil=>exact h.ce
 |cons x t=>exact zki h t x (k x (zzD ..)) λy m=>k y (zzB _ m)
theorem zcs(h:LJ n (jAt J) e):∀(t:List Int) (w:Int),InR n w->(∀x ∈ t,InR n x)->t.foldl (jAt J) w=jAt J w (jnA J e t)
 | [],w,hw,_=>(h.ur w hw).symm
 |x::t,w,hw,k=>by
  have hx:=k x (zzD ..)
  have ht:∀y ∈ t,InR n y:=λy m=>k y (zzB _ m)
  show t.foldl (jAt J) (jAt J w x)=jAt J w (t.foldl (jAt J) x)
  rw[zcs h t _ (h.cl w x hw hx) ht,zcs h t x hx ht,h.as _ _ _ hw hx (WP h ht)]
theorem zoB(h:LJ n (jAt J) e){l l':List Int}(k:∀x ∈ l,InR n x)(k':∀x ∈ l',InR n x):jnA J e (l++l')=jAt J (jnA J e l) (jnA J e l'):=by
 cases l with
 |nil=>exact(h.ul _ (WP h k')).symm
 |cons x t=>
  show(t++l').foldl (jAt J) x=_
  rw[List.foldl_append]
  exact zcs h l' _ (WP h k) k'
theorem ziX(hm:0<m)(h:LJ n (jAt J) e)(d:LD n m (jAt J) e (jAt T)):∀r:List Int,(∀x ∈ r,InR n x)->jnA J e (r.map (jAt T (1%(m:Int))))=jAt T ((r.length:Int)%m) (jnA J e r)
 | [],_=>by
  show e=jAt T ((0:Int)%m) e
  rw[Int.zero_emod,d.em]
 |x::t,k=>by
  have hx:=k x (zzD ..)
  have ht:∀y ∈ t,InR n y:=λy m=>k y (zzB _ m)
  have i1:InR m (1%(m:Int)):=zca hm
  have hd:∀y ∈ t.map (jAt T (1%(m:Int))),InR n y:=λy my=>by
   obtain⟨z,mz,rfl⟩:=zxC.mp my
   exact d.cl _ _ i1 (ht z mz)
  have e1:jnA J e (x::t)=jAt J x (jnA J e t):=zcs h t x hx ht
  have e2:jnA J e ((x::t).map (jAt T (1%(m:Int))))=jAt J (jAt T (1%(m:Int)) x) (jnA J e (t.map (jAt T (1%(m:Int))))):=zcs h _ _ (d.cl _ _ i1 hx) hd
  rw[e2,ziX hm h d t ht,e1,<-d.dn _ _ _ _ hx i1 (WP h ht) (zca hm),<-Int.add_emod,zzR,Int.natCast_add,Int.add_comm (t.length:Int)]
  rfl
end
local macro_rules | `(tactic| trivial)=>`(tactic| first|with_reducible first|assumption|exact Int.natCast_nonneg _|exact Nat.le_refl _|exact Int.le_refl _|exact rfl|exact leN (by assumption)|exact np1 (by assumption)|exact np2 (by assumption)|exact nq1 (by assumption)|exact nq2 (by assumption)|exact Int.natCast_pos.mpr (by assumption)|exact Nat.le_trans (by assumption) (by decide)|exact bgL _|exact bgU (by assumption)|exact mU (by assumption)|exact zI _|exact bL0 (by assumption)|exact bU0 (by assumption) (by assumption)|exact iL (by assumption)|exact iU (by assumption) (by assumption)|exact iC (by assumption)|exact iT (by assumption)|exact stL (by assumption)|exact stU (by assumption)|exact lnK (by assumption) (by assumption) (by assumption)|exact zi1 _|exact lnE (by assumption)|exact ltL (by assumption)|exact Int.toNat_of_nonneg (by assumption)|exact tS (by assumption) (by assumption)|exact b6 (by assumption)|exact Int.emod_nonneg _ (by decide)|exact Int.emod_lt_of_pos _ (by decide)|decide|omega)
abbrev lfI(x:Int):O:=.lf true (.int x)
abbrev sI(x:Int):Option O:=some (lfI x)
abbrev sT(d:D):Option O:=some (.lf true d)
abbrev sN(os:List O):Option O:=some (.nd .ls os)
abbrev TZ:Type:=List (List Int)
abbrev DD:Type:=List (Str×TZ)
abbrev SS:Type:=List (Str×List Int)
theorem zmK{f:EF}{as as1:AS}{o:O}(h:f as=some (.ow o,as1))(hs:o.str=true):yc f as=some (.rt o):=by
 unfold yc;rw[h]
 show((if o.str=true then some o else none).bind _)=_
 rw[if_pos hs];rfl
theorem ZV:∀xs:List Int,(xs.map lfI).all O.isLf=true/\O.strs (xs.map lfI)=true/\O.toDs (xs.map lfI)=xs.map D.int
 | []=>⟨rfl,rfl,rfl⟩
 |x::r=>⟨(ZV r).1,(ZV r).2.1,congrArg (D.int x :: ·) (ZV r).2.2⟩
theorem zmw(xs:List Int):(xs.map D.int).map (O.lf true)=xs.map lfI:=by rw[zzZ];rfl
theorem zqp(ys:List Int)(w:Int):(ys++[w]).map lfI=ys.map lfI++[O.lf true (.int w)]:=by rw[zyK];rfl
theorem Vc(xs:List Int):(O.nd .ls (xs.map lfI)).str=true/\(O.nd .ls (xs.map lfI)).toD = .lst (xs.map D.int):=⟨(ZV xs).2.1,congrArg D.lst (ZV xs).2.2⟩
abbrev xm(r:List Int):O:=.nd .ls (r.map lfI)
abbrev zQ(r:List Int):D:=.lst (r.map D.int)
theorem zfe:∀T:TZ,O.strs (T.map xm)=true/\O.toDs (T.map xm)=T.map zQ
 | []=>⟨rfl,rfl⟩
 |r::T=>⟨by show(O.strs (r.map lfI)&&O.strs (T.map xm))=true;rw[(ZV r).2.1,(zfe T).1];rfl,by
  show D.lst (O.toDs (r.map lfI))::O.toDs (T.map xm)=_
  rw[(ZV r).2.2,(zfe T).2];rfl⟩
theorem zpw{g:GF}{fe:EF}{as0 as1:AS}{y:It1}{r:List It1}{o:O}{os:List O}(h1:g y as0=some as1)(h2:fe as1=some (.ow o,as1))(hs:o.str=true)(h3:vU g Yx fe as0 r=some os):vU g Yx fe as0 (y::r)=some (o::os):=by
 unfold vU
 rw[h1];show((fe as1).bind _)=_
 rw[h2];show(if o.str=true then _ else _)=_
 rw[if_pos hs,h3];rfl
theorem Z0:∀(n:Nat) (k:Int),(wD k n).length=n
 |0,_=>rfl
 |n+1,k=>by rw[zhS];exact congrArg (· + 1) (Z0 n (k+1))
theorem zpK{f:EF}{as:AS}{x:D}(h:WE f as x):∃o,yc f as=some (.rt o)/\o.str=true/\o.toD=x:=by
 obtain⟨o,h1,h2,h3⟩:=h
 exact⟨o,zmK h1 h2,h2,h3⟩
theorem zfb:∀{n:Nat}{k:Int}{y:It1},y ∈ wD k n->∃b:Int,y=(true,.int b)/\k<=b/\b<k+n
 |0,_,_,h=>nomatch h
 |n+1,k,y,h=>by
  rw[zhS]at h
  rcases zzA.mp h with rfl|h
  · exact⟨k,rfl,by trivial,by trivial⟩
  · obtain⟨b,e,h1,h2⟩:=zfb h
    exact⟨b,e,by trivial,by trivial⟩
def Row(n:Nat)(r:List Int):Prop:=r.length=n/\∀x ∈ r,0<=x/\x<(n:Int)
def Tab(k n:Nat)(T:TZ):Prop:=T.length=k/\∀r ∈ T,Row n r
abbrev wM(T:TZ):D:=.lst (T.map zQ)
theorem zfC{α:Type}{f:α->D}{l:List α}{i:Nat}{p:α}(h:l[i]? = some p):ixP (.lst (l.map f)) (.int (i:Int))=some (.im (f p)):=by
 have h:=zbj (xs:=l.map f) (j:=i) (v:=f p) (by rw[zzG,h];rfl)
 show imR (atI _ _)=_
 rw[h];rfl
theorem ztr{n k:Nat}{r:List Int}{v:Int}(hl:r.length=k)(hr:∀x ∈ r,InR n x)(hv:InR k v):ixP (zQ r) (.int v)=some (.im (.int (rAt r v)))/\InR n (rAt r v):=by
 have hk:v.toNat<r.length:=by rw[hl];have:=hv.1;have:=hv.2;trivial
 have g:=zzC hk
 have e:rAt r v=r[v.toNat]:=by unfold rAt;rw[g];rfl
 rw[e]
 refine⟨?_,hr _ (zyY hk)⟩
 have:=zfC (f:=D.int) g
 rw[show((v.toNat:Nat):Int)=v by have:=hv.1;trivial]at this
 exact this
abbrev zaD(T:TZ)(w:Int):List Int:=(T[w.toNat]?).getD []
theorem YS{k n:Nat}{T:TZ}{w:Int}(hT:Tab k n T)(hw:InR k w):ixP (wM T) (.int w)=some (.im (zQ (zaD T w)))/\Row n (zaD T w):=by
 have hk:w.toNat<T.length:=by rw[hT.1];have:=hw.1;have:=hw.2;trivial
 have g:=zzC hk
 unfold zaD
 rw[g]
 refine⟨?_,hT.2 _ (zyY hk)⟩
 have:=zfC (f:=zQ) g
 rw[show((w.toNat:Nat):Int)=w by have:=hw.1;trivial]at this
 exact this
theorem rowAt{n:Nat}{r:List Int}{v:Int}(hr:Row n r)(hv:InR n v):ixP (zQ r) (.int v)=some (.im (.int (rAt r v)))/\InR n (rAt r v):=ztr hr.1 hr.2 hv
theorem strs_snoc:∀(os:List O) (o:O),O.strs os=true->o.str=true->O.strs (os++[o])=true
 | [],o,_,h=>by show(o.str&&true)=true;rw[h];rfl
 |p::r,o,h,h'=>by
  have h:=(zyA _ _).mp (show(p.str&&O.strs r)=true from h)
  show(p.str&&O.strs (r++[o]))=true
  rw[h.1,strs_snoc r o h.2 h'];rfl
theorem zhY:∀(os:List O) (o:O),O.toDs (os++[o])=O.toDs os++[o.toD]
 | [],o=>rfl
 |p::r,o=>congrArg (p.toD :: ·) (zhY r o)
structure Ows{α:Type}(toD:α->D)(Q:α->Prop)(os:List O)(l:List α):Prop where
 st:O.strs os=true
 ds:O.toDs os=l.map toD
 al:∀a ∈ l,Q a
 ln:os.length=l.length
theorem Ows.nil{α:Type}{toD:α->D}{Q:α->Prop}:Ows toD Q [] []:=⟨rfl,rfl,(λ_ m=>nomatch m),rfl⟩
theorem Ows.snoc{α:Type}{toD:α->D}{Q:α->Prop}{os:List O}{l:List α}{o:O}{a:α}(h:Ows toD Q os l)(h1:o.str=true)(h2:o.toD=toD a)(h3:Q a):Ows toD Q (os++[o]) (l++[a]):=
 ⟨strs_snoc os o h.st h1,(by rw[zhY,h.ds,h2,zyK];rfl),(λb m=>(zzK.mp m).elim (h.al b) λm=>(by rw[zzP.mp m];exact h3)),(by rw[zzH,zzH,h.ln];rfl)⟩
theorem znl{as as1:AS}{a:EF}{i:Nat}{os0 os:List O}{o:O}(h:as[i]? = some (sN os0))(ha:a as=some (.ow o,as1))(h1:as1[i]? = some (sN os))(hl:os.length<sizeLine):wV (ZK i (dC a dN) Zh) as=some (.nx (as1.set i (sN (os++[o])))):=by
 unfold wV ZK;rw[h]
 have e:dC a dN as=some ([o],as1):=W5 ha rfl
 show((dC a dN as).bind _).bind _=_
 rw[e];show(Option.bind (match as1[i]? with|some (some (.nd .ls os))=>_|_=>none) _)=_
 rw[h1];show((Zh os [o]).bind _).bind _=_
 have e2:Zh os [o]=some (os++[o],.lf true .non):=by unfold Zh;exact if_pos hl
 rw[e2];rfl
theorem zvs{α:Type}{toD:α->D}{Q:α->Prop}{as:AS}{a:EF}{i:Nat}{os:List O}{l:List α}{x:α}(h:as[i]? = some (sN os))(ho:Ows toD Q os l)(hl:l.length<1000)(ha:WE a as (toD x))(hx:Q x):
 ∃os',Ows toD Q os' (l++[x])/\wV (ZK i (dC a dN) Zh) as=some (.nx (as.set i (sN os'))):=by
 obtain⟨o,h1,h2,h3⟩:=ha
 exact⟨os++[o],ho.snoc h2 h3 hx,znl h h1 h (by rw[ho.ln];exact zbq (by trivial))⟩
theorem Ows.retB{α:Type}{toD:α->D}{Q:α->Prop}{as:AS}{i:Nat}{os:List O}{l:List α}(h:as[i]? = some (sN os))(ho:Ows toD Q os l):Rt (yc (fV i) as) (.lst (l.map toD)):=
 ⟨_,zbf h ho.st,ho.st,congrArg D.lst ho.ds⟩
structure OwsX{α:Type}(toD:α->D)(Q:Nat->α->Prop)(os:List O)(l:List α):Prop where
 st:O.strs os=true
 ds:O.toDs os=l.map toD
 al:∀i a,l[i]? = some a->Q i a
 ln:os.length=l.length
theorem zvi{fr:AF}{as:AS}{rs:List (Bool×D)}{g:List D->Option R0}{zs:List D}(ha:WA fr as rs)(hg:g (rs.map (·.2))=some (.fl zs)):fP fr g as=some (.ow (.nd .ls (zs.map (lfs (rs.all (·.1))))),as):=by
 unfold fP;unfold WA at ha
 rw[ha];show(views as _).bind _=_
 rw[W4];show(g _).bind _=_
 rw[hg]
 show(if(zs.all yo||(some (rs.all (·.1))).isSome)=true then _ else _:Option RV).bind _=_
 rw[if_pos (by simp)];rfl
theorem zpA{a:EF}{as:AS}{x:D}{g:List D->Option R0}{zs:List D}(ha:WE a as x)(hg:g [x]=some (.fl zs)):fP (aC a aN) g as=some (.ow (.nd .ls (zs.map (O.lf true))),as):=by
 have:=zvi (g:=g) (Yj ha (ye (as:=as))) hg
 rw[show([(true,x)].all (·.1))=true from rfl,zcB]at this
 exact this
theorem zbP{a b c d:EF}{as:AS}{x y z u w:D}{g:List (Bool×D)->Option O}(ha:WE a as x)(hb:WE b as y)(hc:WE c as z)(hd:WE d as u)(hg:RE (g [(true,x),(true,y),(true,z),(true,u)]) w):WE (zy (aC a (aC b (aC c (aC d aN)))) g) as w:=by
 obtain⟨o,h1,h2⟩:=hg
 exact⟨o,Wf (Yj ha (Yj hb (Yj hc (Yj hd ye)))) (by show g [(yo x||true,x),(yo y||true,y),(yo z||true,z),(yo u||true,u)]=_;rw[zyB,zyB,zyB,zyB];exact h1),h2⟩
theorem zuB{fr:DF}{as:AS}{os:List O}{x:D}(h:WO fr as os)(hl:os.length<=sizeLine)(hs:O.strs os=true)(e:D.tup (O.toDs os)=x):WE (wU fr) as x:=by
 refine⟨_,zfi h hl, ?_, ?_⟩
 · unfold W8
   split
   · exact hs
   · exact hs
 · unfold W8
   split
   · exact e
   · exact e
theorem zoc{l:List Int}(h:l.Pairwise (· <= ·)){i j:Nat}(hij:i<j)(hj:j<l.length):l[i]<=l[j]:=List.pairwise_iff_getElem.mp h i j (by trivial) hj hij
theorem Y9{r:List Int}{a:Int}(h:a.toNat<r.length):rAt r a=r[a.toNat]:=by unfold rAt;rw[zzC h];rfl
theorem zkI:∀l:List Int,V8 (l.map D.int)=some l
 | []=>rfl
 |x::r=>by
  show(V8 (r.map D.int)).bind _=_
  rw[zkI r];rfl
theorem Ows.frz{α:Type}{toD:α->D}{Q:α->Prop}{os:List O}{l:List α}(h:Ows toD Q os l):(O.nd .ls os).frz = .lf true (.lst (l.map toD)):=by
 show O.lf (O.strs os) (.lst (O.toDs os))=_
 rw[h.st,h.ds]
theorem zmj{as as2:AS}{j:Nat}{ps:List O}{fr:DF}{os:List O}(hj:as[j]? = some (sN ps))(hr:fr (as.set j (some (O.nd .ls ps).frz))=some (os,as2)):dC (fV j) fr as=some ((O.nd .ls ps).frz::os,as2):=by
 unfold dC
 rw[znm hj]
 show((toO as (.bo j)).bind _)=_
 rw[ztT hj]
 show(fr (as.set j (some (O.nd .ls ps).frz))).bind _=_
 rw[hr];rfl
theorem zrB{as as1:AS}{fr:DF}{os:List O}(h:fr as=some (os,as1))(hl:os.length<=sizeLine):wU fr as=some (.ow (W8 os),as1):=by
 unfold wU
 rw[h];show(if os.length<=sizeLine then _ else _)=_
 rw[if_pos hl]
theorem zfX:∀(l:List Int) (k:Nat) (h:k<l.length),(l[k]::l.eraseIdx k).Perm l
 |x::r,0,_=>List.Perm.refl _
 |x::r,k+1,h=>(List.Perm.swap _ _ _).trans ((zfX r k (by simpa using h)).cons x)
abbrev zeW(n:Nat):List Int:=(List.range n).map λ(i:Nat)=>(i:Int)
abbrev zgc(p:Str×List Int):D:=.tup [.str p.1,zQ p.2]
theorem znk{x y:Int}{c:Bool}:ixP (.lst [.int x,.int y]) (.int (if c=true then 1 else 0))=some (.im (.int (if c=true then y else x))):=by cases c<;>rfl
abbrev abc:Str:="abcdefghijklmnopqrstuvwxyz"
theorem zrp:∀k,k<26->abc.cps.toList[k]? = some (97+k):=by decide +kernel
theorem zpt{i:Int}(h0:0<=i)(h1:i<26):ixP (.str abc) (.int i)=some (.im (.str ⟨#[97+i.toNat]⟩)):=by
 show(if abc.length<=sizeLine then(atI abc.cps.toList i).bind (λc=>some (R0.im (.str ⟨#[c]⟩)))else none)=_
 rw[if_pos (show abc.length<=sizeLine by decide +kernel)]
 have:=zbj (zrp i.toNat (by trivial))
 rw[show((i.toNat:Nat):Int)=i by trivial]at this
 rw[this];rfl
theorem zkF:∀l:List Str,zer (l.map D.str)=some l
 | []=>rfl
 |x::r=>by
  show(zer (r.map D.str)).bind _=_
  rw[zkF r];rfl
theorem zvB:∀l:List Str,(∀s ∈ l,s.length=1)->(l.map (·.length)).sum=l.length
 | [],_=>rfl
 |x::r,h=>by
  show x.length+(r.map (·.length)).sum=r.length+1
  rw[h x (zzD ..),zvB r λs m=>h s (zzB _ m)];trivial
theorem zoK(a b:Str):(a++b).length=a.length+b.length:=by
 show(a++b).cps.size=a.cps.size+b.cps.size
 rw[Str.cps_append,Array.size_append]
theorem zgm{F:List Int}{n:Nat}(h:F.Perm (zeW n)):Row n F/\∀b:Int,0<=b->b<n->b ∈ F:=by
 refine⟨⟨by rw[h.length_eq,zS,zyS],λx m=>?_⟩,λb b0 b1=>h.mem_iff.mpr ?_⟩
 · obtain⟨i,hi,rfl⟩:=zxC.mp (h.mem_iff.mp m)
   have:=List.mem_range.mp hi
   trivial
 · exact zxC.mpr ⟨b.toNat,List.mem_range.mpr (by trivial),by trivial⟩
theorem zkt{F:List Int}{n:Nat}(h:F.Perm (zeW n)){v w:Int}(hv:InR n v)(hw:InR n w)(e:rAt F v=rAt F w):v=w:=by
 have hl:=(zgm h).1.1
 have v0:=hv.1
 have v1:=hv.2
 have w0:=hw.1
 have w1:=hw.2
 have nd:F.Nodup:=by
  refine h.nodup_iff.mpr (List.pairwise_map.mpr (List.nodup_range.imp λz q=>z (by trivial)))
 rw[Y9 (by trivial),Y9 (by trivial)]at e
 have:=(List.getElem_inj nd).mp e
 trivial
abbrev zeq(p:Str×TZ):D:=.tup [.str p.1,wM p.2]
structure Alg(n m:Nat)(J:TZ)(e:Int)(Ds:DD):Prop where
 n1:1<=n
 n8:n<=8
 m1:1<=m
 m6:m<=6
 j:Tab n n J
 e0:0<=e
 en:e<n
 dl:Ds.length<=6
 ds:∀p ∈ Ds,Tab m n p.2
 nd:(Ds.map (·.1)).Nodup
structure LawA(n m:Nat)(J:TZ)(e:Int)(Ds:DD):Prop where
 lj:LJ n (jAt J) e
 ld:∀p ∈ Ds,LD n m (jAt J) e (jAt p.2)
abbrev ww(n m:Nat)(J:TZ)(e:Int)(Ds:DD)(S:SS):D:=.tup [.int n,.int m,wM J,.int e,.lst (Ds.map zeq),.lst (S.map zgc)]
abbrev Xg(T:TZ):O:=.nd .ls (T.map xm)
theorem zlR{as:AS}{i:Nat}{k:Int}{s:Bool}(h:as[i]? = some (some (.lf s (.int k)))):xV i as=some k:=by
 unfold xV;rw[zjf (f:=zcn) h rfl];rfl
theorem ztm{r:List Int}{k:Int}(h:k.toNat<r.length):(r.map lfI)[k.toNat]? = sT (.int r[k.toNat]):=by
 rw[zzG,zzC h];rfl
theorem znZ{as:AS}{i:Nat}{f1 f2 fv:IXF}{k1 k2 c:Int}{T:TZ}{r:List Int}(h1:f1 as=some k1)(h2:f2 as=some k2)(hv:fv as=some c)(p1:0<=k1)(p2:0<=k2)(hi:as[i]? = some (some (Xg T)))(hr:T[k1.toNat]? = some r)(hk:k2.toNat<r.length):
 zmu i f1 f2 fv as=some (.nx (as.set i (some (Xg (T.set k1.toNat (r.set k2.toNat c)))))):=by
 have e1:(T.map xm)[k1.toNat]? = sN (r.map lfI):=by rw[zzG,hr];rfl
 have e2:=ztm hk
 have e3:(T.map xm).set k1.toNat (.nd .ls ((r.map lfI).set k2.toNat (.lf true (.int c))))=(T.set k1.toNat (r.set k2.toNat c)).map xm:=by
  rw[List.map_set]
  show _=(T.map xm).set k1.toNat (.nd .ls ((r.set k2.toNat c).map lfI))
  rw[List.map_set]
 unfold zmu
 simp only[h1,h2,hv,zyJ,if_pos (show 0<=k1/\0<=k2 from⟨p1,p2⟩),(zjf hi rfl:slO zgx as i=some (T.map xm)),(zjp e1 rfl:atO zgx _ _=some (r.map lfI)),(zjp e2 rfl:atO zcn _ _=some (.int r[k2.toNat])),e3]
theorem zqU{n i:Nat}{r:List Int}{c:Int}(hr:Row n r)(hc:InR n c):Row n (r.set i c):=by
 refine⟨by rw[zzS];exact hr.1,λx m=>?_⟩
 rcases List.mem_or_eq_of_mem_set m with m|rfl
 · exact hr.2 x m
 · exact hc
theorem zrs{k n i:Nat}{T:TZ}{r:List Int}(hT:Tab k n T)(hr:Row n r):Tab k n (T.set i r):=by
 refine⟨by rw[zzS];exact hT.1,λx m=>?_⟩
 rcases List.mem_or_eq_of_mem_set m with m|rfl
 · exact hT.2 x m
 · exact hr
theorem zjg{n:Nat}{J:TZ}{w v:Int}(hJ:Tab n n J)(hw:InR n w)(hv:InR n v):InR n (jAt J w v):=(rowAt (YS hJ hw).2 hv).2
theorem Vp{a b c:EF}{as:AS}{n:Nat}{J:TZ}{w v:Int}(hJ:Tab n n J)(hw:InR n w)(hv:InR n v)(ha:WD a as true (wM J))(hb:WD b as true (.int w))(hc:WD c as true (.int v)):WD (f2 (f2 a b ixP) c ixP) as true (.int (jAt J w v)):=
 zZ (ZX ha hb (YS hJ hw).1) hc (rowAt (YS hJ hw).2 hv).1 rfl
theorem zvC{fr:AF}{as:AS}{rs:List (Bool×D)}{g:List D->Option R0}{kvs:List (Key×D)}(ha:WA fr as rs)(hg:g (rs.map (·.2))=some (.fd kvs)):fP fr g as=some (.ow (.nd (.dc (kvs.map (·.1))) ((kvs.map (·.2)).map (lfs (rs.all (·.1))))),as):=by
 unfold fP;unfold WA at ha
 rw[ha];show(views as _).bind _=_
 rw[W4];show(g _).bind _=_
 rw[hg]
 show(if((kvs.map (·.2)).all yo||(some (rs.all (·.1))).isSome)=true then _ else _:Option RV).bind _=_
 rw[if_pos (by simp)];rfl
abbrev RT(o:O):Prop:=o.str=true/\∃ds,o.toD = .tup ds
theorem zmF{g:GF}{f:SF}(I:AS->Prop)(P:It1->Prop):∀(xs:List It1) (as:AS),(∀x ∈ xs,∀as,I as->∃as1,g x as=some as1/\((∃as2,f as1=some (.nx as2)/\I as2/\P x)\/∃o,f as1=some (.rt o)/\RT o/\¬P x))->I as->
 (∃as',forL g f xs as=some (.nx as')/\I as'/\∀x ∈ xs,P x)\/∃o,forL g f xs as=some (.rt o)/\RT o/\¬ ∀x ∈ xs,P x
 | [],as,_,h=>.inl ⟨as,rfl,h,λ_ m=>nomatch m⟩
 |x::r,as,H,h=>by
  obtain⟨as1,h1,h2⟩:=H x (zzD ..) as h
  rcases h2 with⟨as2,h2,h3,h4⟩|⟨o,h2,h3,h4⟩
  · rcases zmF I P r as2 (λy m=>H y (zzB _ m)) h3 with⟨as',k1,k2,k3⟩|⟨o,k1,k2,k3⟩
    · refine .inl ⟨as',W6 h1 h2 k1,k2,λy m=>?_⟩
      rcases zzA.mp m with rfl|m
      · exact h4
      · exact k3 y m
    · exact .inr ⟨o,W6 h1 h2 k1,k2,λz=>k3 λy m=>z y (zzB _ m)⟩
  · exact .inr ⟨o,zpy h1 h2,h3,λz=>h4 (z x (zzD ..))⟩
abbrev zeQ(r:Option Out)(I:AS->Prop)(P:Prop):Prop:=(∃as',r=some (.nx as')/\I as'/\P)\/∃o,r=some (.rt o)/\RT o/\¬P
theorem zeQ.imp{r:Option Out}{I:AS->Prop}{P Q:Prop}(h:zeQ r I P)(k:P ↔ Q):zeQ r I Q:=by
 rcases h with⟨a,b,c,d⟩|⟨a,b,c,d⟩
 · exact .inl ⟨a,b,c,k.mp d⟩
 · exact .inr ⟨a,b,c,λz=>d (k.mpr z)⟩
theorem zaj{v n:Nat}{f fr:SF}(I:AS->Prop)(P:Int->Prop)(H:∀b,InR n b->∀as,I as->∃as1,gN v (true,.int b) as=some as1/\zeQ (f as1) I (P b)){as:AS}(h:I as):zeQ (forL (gN v) f (wD 0 n) as) I (∀b,InR n b->P b):=by
 have k:=zmF (g:=gN v) (f:=f) I (λx=>∀b,x=(true,.int b)->P b) (wD 0 n) as (λx m as hI=>by
  obtain⟨b,rfl,b0,b1⟩:=zfb m
  obtain⟨as1,h1,h2⟩:=H b ⟨b0,by trivial⟩ as hI
  exact⟨as1,h1,h2.imp ⟨λp c e=>by cases e;exact p,λp=>p b rfl⟩⟩) h
 refine zeQ.imp k ⟨λp b hb=>p (true,.int b) ?_ b rfl,λp x m b e=>?_⟩
 · have hb0:=hb.1
   have hb1:=hb.2
   refine zzY (i:=b.toNat) ?_
   unfold wD
   rw[zzG,List.getElem?_range (by trivial)]
   show some (true,D.int (0+(b.toNat:Int)))=_
   rw[show(0:Int)+(b.toNat:Int)=b by trivial]
 · subst e
   obtain⟨c,e,c0,c1⟩:=zfb m
   cases e
   exact p b ⟨c0,by trivial⟩
theorem XX{v n:Nat}{g:GF}{f:SF}{as:AS}{s:Bool}(h:as[v]? = some (some (.lf s (.int n))))(hn:n<=1000):vh (xR (aC (fV v) aN) xO) g f as=forL g f (wD 0 n) as:=
 Ym (vd (zP (zc h) ye) (by trivial) (by trivial)) (by rw[zyG])
theorem zlk{c:TF}{f:EF}{as:AS}{P:Prop}{q:Bool}{ds:List D}{I:AS->Prop}(ht:WT c as q)(hq:q=true ↔ ¬P)(hf:WE f as (.tup ds))(hI:I as):zeQ (sIf c (yc f) sNx as) I P:=by
 cases q with
 |false=>exact .inl ⟨as,zV ht rfl,hI,Classical.byContradiction λz=>nomatch hq.mpr z⟩
 |true=>
  obtain⟨o,h1,h2,h3⟩:=zpK hf
  exact .inr ⟨o,Z7 ht h1,⟨h2,ds,h3⟩,hq.mp rfl⟩
theorem zlf{a b:EF}{as:AS}{x y:Int}{s t:Bool}(ha:WD a as s (.int x))(hb:WD b as t (.int y)):WT (fT (f2 a b (zR .NotEq))) as (!(x==y)):=yz (zhQ (c:=x==y) ha hb rfl) rfl
theorem zmA{x y:Int}:(!(x==y))=true ↔ ¬x=y:=by simp
abbrev UnA(n:Nat)(J:TZ)(e:Int):Prop:=∀a,InR n a->jAt J e a=a/\jAt J a e=a
abbrev As(n:Nat)(J:TZ):Prop:=∀a,InR n a->∀b,InR n b->∀c,InR n c->jAt J (jAt J a b) c=jAt J a (jAt J b c)
section
variable{S:Option O->Option O->Option O->AS}{vj vn ve:Nat}{J:TZ}{n:Nat}{e:Int}
theorem zsY{x y z:Option O}(hJ:Tab n n J)(he:InR n e)(hj:∀x y z,(S x y z)[vj]? = some (sT (wM J)))(hv:∀x y z,(S x y z)[ve]? = some (sI e))(h3:∀x y z,(S x y z)[3]? = some x)(g3:∀d x y z,gN 3 (true,d) (S x y z)=some (S (sT d) y z)):
 zeQ (forL (gN 3) (sIf (Xq (fT (f2 (f2 (f2 (fV vj) (fV ve) ixP) (fV 3) ixP) (fV 3) (zR .NotEq))) (fT (f2 (f2 (f2 (fV vj) (fV 3) ixP) (fV ve) ixP) (fV 3) (zR .NotEq)))) (yc (wU (dC (fC (.str "nothing")) (dC (fV 3) dN)))) sNx) (wD 0 n) (S x y z)) (λas=>∃x,as=S x y z) (UnA n J e):=by
 refine zaj (fr:=sNx) (λas=>∃x,as=S x y z) (λa=>jAt J e a=a/\jAt J a e=a) (λa ha as hI=>?_) ⟨x,rfl⟩
 obtain⟨x,rfl⟩:=hI
 have w3:WD (fV 3) (S (sI a) y z) true (.int a):=zc (h3 _ _ _)
 have t1:=zlf (Vp hJ he ha (zc (hj (sI a) y z)) (zc (hv (sI a) y z)) w3) w3
 have t2:=zlf (Vp hJ ha he (zc (hj (sI a) y z)) w3 (zc (hv (sI a) y z))) w3
 refine⟨S (sI a) y z,g3 _ _ _ _,zlk (q:=!(jAt J e a==a) || !(jAt J a e==a)) (ds:=[.str "nothing",.int a]) (zaH t1 (λh=>by rw[h,Bool.false_or];exact t2) (λh=>by rw[h];rfl)) (by simp;grind) (zuB (os:=[.lf true (.str "nothing"),lfI a]) (yq zg (yq w3 yU)) (szl rfl) rfl rfl) ⟨_,rfl⟩⟩
abbrev ztD(vj vn:Nat):SF:=vh (xR (aC (fV vn) aN) xO) (gN 4) (vh (xR (aC (fV vn) aN) xO) (gN 5) (sIf (fT (f2 (f2 (f2 (fV vj) (f2 (f2 (fV vj) (fV 3) ixP) (fV 4) ixP) ixP) (fV 5) ixP) (f2 (f2 (fV vj) (fV 3) ixP) (f2 (f2 (fV vj) (fV 4) ixP) (fV 5) ixP) ixP) (zR .NotEq))) (yc (wU (dC (fC (.str "parting")) (dC (fV 3) (dC (fV 4) (dC (fV 5) dN)))))) sNx))
theorem zrw{x y z:Option O}(n8:n<=8)(hJ:Tab n n J)(hj:∀x y z,(S x y z)[vj]? = some (sT (wM J)))(hn:∀x y z,(S x y z)[vn]? = some (sI n))(h3:∀x y z,(S x y z)[3]? = some x)(h4:∀x y z,(S x y z)[4]? = some y)(h5:∀x y z,(S x y z)[5]? = some z)
 (g3:∀d x y z,gN 3 (true,d) (S x y z)=some (S (sT d) y z)) (g4:∀d x y z,gN 4 (true,d) (S x y z)=some (S x (sT d) z)) (g5:∀d x y z,gN 5 (true,d) (S x y z)=some (S x y (sT d))):
 zeQ (forL (gN 3) (ztD vj vn) (wD 0 n) (S x y z)) (λas=>∃x y z,as=S x y z) (As n J):=by
 refine zaj (fr:=sNx) (λas=>∃x y z,as=S x y z) (λa=>∀b,InR n b->∀c,InR n c->jAt J (jAt J a b) c=jAt J a (jAt J b c)) (λa ha as hI=>?_) ⟨x,y,z,rfl⟩
 obtain⟨x,y,z,rfl⟩:=hI
 refine⟨_,g3 _ _ _ _, ?_⟩
 unfold ztD
 rw[XX (hn _ _ _) (by trivial)]
 have k:=zaj (v:=4) (n:=n) (fr:=sNx) (f:=vh (xR (aC (fV vn) aN) xO) (gN 5) (sIf (fT (f2 (f2 (f2 (fV vj) (f2 (f2 (fV vj) (fV 3) ixP) (fV 4) ixP) ixP) (fV 5) ixP) (f2 (f2 (fV vj) (fV 3) ixP) (f2 (f2 (fV vj) (fV 4) ixP) (fV 5) ixP) ixP) (zR .NotEq))) (yc (wU (dC (fC (.str "parting")) (dC (fV 3) (dC (fV 4) (dC (fV 5) dN)))))) sNx)) (λas=>∃y z,as=S (sI a) y z) (λb=>∀c,InR n c->jAt J (jAt J a b) c=jAt J a (jAt J b c)) (λb hb as hI=>by
  obtain⟨y,z,rfl⟩:=hI
  refine⟨_,g4 _ _ _ _, ?_⟩
  rw[XX (hn _ _ _) (by trivial)]
  have k:=zaj (v:=5) (n:=n) (fr:=sNx) (f:=sIf (fT (f2 (f2 (f2 (fV vj) (f2 (f2 (fV vj) (fV 3) ixP) (fV 4) ixP) ixP) (fV 5) ixP) (f2 (f2 (fV vj) (fV 3) ixP) (f2 (f2 (fV vj) (fV 4) ixP) (fV 5) ixP) ixP) (zR .NotEq))) (yc (wU (dC (fC (.str "parting")) (dC (fV 3) (dC (fV 4) (dC (fV 5) dN)))))) sNx) (λas=>∃z,as=S (sI a) (sI b) z) (λc=>jAt J (jAt J a b) c=jAt J a (jAt J b c)) (λc hc as hI=>by
   obtain⟨z,rfl⟩:=hI
   have w3:WD (fV 3) (S (sI a) (sI b) (sI c)) true (.int a):=zc (h3 _ _ _)
   have w4:WD (fV 4) (S (sI a) (sI b) (sI c)) true (.int b):=zc (h4 _ _ _)
   have w5:WD (fV 5) (S (sI a) (sI b) (sI c)) true (.int c):=zc (h5 _ _ _)
   have wj:WD (fV vj) (S (sI a) (sI b) (sI c)) true (wM J):=zc (hj _ _ _)
   have ab:=zjg hJ ha hb
   have bc:=zjg hJ hb hc
   exact⟨_,g5 _ _ _ _,zlk (ds:=[.str "parting",.int a,.int b,.int c]) (zlf (Vp hJ ab hc wj (Vp hJ ha hb wj w3 w4) w5) (Vp hJ ha bc wj w3 (Vp hJ hb hc wj w4 w5))) zmA (zuB (os:=[.lf true (.str "parting"),lfI a,lfI b,lfI c]) (yq zg (yq w3 (yq w4 (yq w5 yU)))) (szl rfl) rfl rfl) ⟨_,rfl⟩⟩) ⟨z,rfl⟩
  rcases k with⟨as',k1,⟨z',rfl⟩,k3⟩|k
  · exact .inl ⟨_,k1,⟨_,_,rfl⟩,k3⟩
  · exact .inr k) ⟨y,z,rfl⟩
 rcases k with⟨as',k1,⟨y',z',rfl⟩,k3⟩|k
 · exact .inl ⟨_,k1,⟨_,_,_,rfl⟩,k3⟩
 · exact .inr k
end
abbrev Flt(r:Option O)(P:Prop):Prop:=(RE r .non/\P)\/((∃ds,RE r (.tup ds))/\¬P)
theorem zlq{n m:Nat}{c:SF}{ds:List (Bool×D)}{P:Prop}(hl:ds.length=m)(h:(Rt (c (XF n ds)) .non/\P)\/((∃es,Rt (c (XF n ds)) (.tup es))/\¬P)):Flt (fnR n m c ds) P:=by
 rcases h with⟨h,p⟩|⟨⟨es,h⟩,p⟩
 · exact .inl ⟨yH hl h,p⟩
 · exact .inr ⟨⟨es,yH hl h⟩,p⟩
theorem ziA{f g:SF}{as:AS}{I:AS->Prop}{P Q:Prop}(h:zeQ (f as) I P)(k:∀as',I as'->P->(Rt (g as') .non/\Q)\/((∃es,Rt (g as') (.tup es))/\¬Q)):(Rt (zM f g as) .non/\P/\Q)\/((∃es,Rt (zM f g as) (.tup es))/\¬(P/\Q)):=by
 rcases h with⟨as',h1,h2,p⟩|⟨o,h1,⟨h2,es,h3⟩,p⟩
 · rcases k as' h2 p with⟨k1,q⟩|⟨⟨es,k1⟩,q⟩
   · exact .inl ⟨zF h1 k1,p,q⟩
   · exact .inr ⟨⟨es,zF h1 k1⟩,λz=>q z.2⟩
 · exact .inr ⟨⟨es,o,VB h1,h2,h3⟩,λz=>p z.1⟩
theorem ziH{as:AS}:(Rt (yc (fC .non) as) .non/\True)\/((∃es,Rt (yc (fC .non) as) (.tup es))/\¬True):=.inl ⟨yh (WD.e zg),trivial⟩
theorem Flt.imp{r:Option O}{P Q:Prop}(h:Flt r P)(k:P ↔ Q):Flt r Q:=by
 rcases h with⟨h,p⟩|⟨h,p⟩
 · exact .inl ⟨h,k.mp p⟩
 · exact .inr ⟨h,λz=>p (k.mpr z)⟩
section
variable{n m:Nat}{J T:TZ}{e:Int}{Ds:DD}{S:SS}
abbrev Dn(n m:Nat)(J T:TZ):Prop:=∀a,InR n a->∀i,InR m i->∀b,InR n b->∀k,InR m k->jAt T ((i+k)%m) (jAt J a b)=jAt J (jAt T i a) (jAt T k b)
theorem ziO{a b c:EF}{as:AS}{w v:Int}(hT:Tab m n T)(hw:InR m w)(hv:InR n v)(ha:WD a as true (wM T))(hb:WD b as true (.int w))(hc:WD c as true (.int v)):WD (f2 (f2 a b ixP) c ixP) as true (.int (jAt T w v))/\InR n (jAt T w v):=
 ⟨zZ (ZX ha hb (YS hT hw).1) hc (rowAt (YS hT hw).2 hv).1 rfl,(rowAt (YS hT hw).2 hv).2⟩
abbrev dfI:SF:=(sIf (fT (f2 (f2 (f2 (fV 2) (f2 (f2 (fV 7) (fV 9) (zp .Add)) (fV 4) (zp .Mod)) ixP) (f2 (f2 (fV 5) (fV 6) ixP) (fV 8) ixP) ixP) (f2 (f2 (fV 5) (f2 (f2 (fV 2) (fV 7) ixP) (fV 6) ixP) ixP) (f2 (f2 (fV 2) (fV 9) ixP) (fV 8) ixP) ixP) (zR .NotEq))) (yc (wU (dC (fC (.str "doing")) (dC (fV 1) (dC (fV 6) (dC (fV 7) (dC (fV 8) (dC (fV 9) dN)))))))) sNx)
abbrev D10(n m:Nat)(J T:TZ)(e:Int)(Ds:DD)(S:SS)(s:Str)(x y z w:Option O):AS:=[sT (ww n m J e Ds S),sT (.str s),sT (wM T),sI n,sI m,sT (wM J),x,y,z,w]
theorem df4{s:Str}{a i b:Int}{w:Option O}(hJ:Tab n n J)(hT:Tab m n T)(m1:1<=m)(ha:InR n a)(hi:InR m i)(hb:InR n b):zeQ (forL (gN 9) dfI (wD 0 m) (D10 n m J T e Ds S s (sI a) (sI i) (sI b) w)) (λas=>∃w,as=D10 n m J T e Ds S s (sI a) (sI i) (sI b) w) (∀k,InR m k->jAt T ((i+k)%m) (jAt J a b)=jAt J (jAt T i a) (jAt T k b)):=by
 refine zaj (fr:=sNx) (λas=>∃w,as=D10 n m J T e Ds S s (sI a) (sI i) (sI b) w) (λk=>jAt T ((i+k)%m) (jAt J a b)=jAt J (jAt T i a) (jAt T k b)) (λk hk as hI=>?_) ⟨w,rfl⟩
 obtain⟨w,rfl⟩:=hI
 have w2:WD (fV 2) (D10 n m J T e Ds S s (sI a) (sI i) (sI b) (sI k)) true (wM T):=zc rfl
 have w5:WD (fV 5) (D10 n m J T e Ds S s (sI a) (sI i) (sI b) (sI k)) true (wM J):=zc rfl
 have w6:WD (fV 6) (D10 n m J T e Ds S s (sI a) (sI i) (sI b) (sI k)) true (.int a):=zc rfl
 have w7:WD (fV 7) (D10 n m J T e Ds S s (sI a) (sI i) (sI b) (sI k)) true (.int i):=zc rfl
 have w8:WD (fV 8) (D10 n m J T e Ds S s (sI a) (sI i) (sI b) (sI k)) true (.int b):=zc rfl
 have w9:WD (fV 9) (D10 n m J T e Ds S s (sI a) (sI i) (sI b) (sI k)) true (.int k):=zc rfl
 obtain⟨q1,q2⟩:=ziO hT hi ha w2 w7 w6
 obtain⟨q3,q4⟩:=ziO hT hk hb w2 w9 w8
 have ab:=zjg hJ ha hb
 obtain⟨q5,q6⟩:=ziO hT (w:=(i+k)%m) (zca m1) ab w2 (yD (yC w7 w9) (zc (i:=4) (x:=.int m) (s:=true) rfl) (by trivial)) (Vp hJ ha hb w5 w6 w8)
 exact⟨_,rfl,zlk (ds:=[.str "doing",.str s,.int a,.int i,.int b,.int k]) (zlf q5 (Vp hJ q2 q4 w5 q1 q3)) zmA (zuB (os:=[.lf true (.str "doing"),.lf true (.str s),lfI a,lfI i,lfI b,lfI k]) (yq zg (yq (zc (i:=1) rfl) (yq w6 (yq w7 (yq w8 (yq w9 yU)))))) (szl rfl) rfl rfl) ⟨_,rfl⟩⟩
theorem Flt.none{r:Option O}{P:Prop}(h:Flt r P)(p:P):RE r .non:=by
 rcases h with⟨h,_⟩|⟨_,h⟩
 · exact h
 · exact absurd p h
theorem LawA.un(L:LawA n m J e Ds):UnA n J e:=λa ha=>⟨L.lj.ul a ha,L.lj.ur a ha⟩
theorem LawA.as(L:LawA n m J e Ds):As n J:=λa ha b hb c hc=>L.lj.as a b c ha hb hc
theorem LawA.dn(L:LawA n m J e Ds){p:Str×TZ}(hp:p ∈ Ds):Dn n m J p.2:=λa ha i hi b hb k hk=>(L.ld p hp).dn a i b k ha hi hb hk
end
def iP(b k:Int):Int:=if k=0 then b/2 else b%2
def jP(a b:Int):Int:=2*iP b (a/2)+iP b (a%2)
def sP(a:Int):Int:=2*(1-a%2)+1-a/2
theorem ljP:LJ 4 jP 1:=by
 refine⟨λa b ha hb=>?_,⟨by decide,by decide⟩,λa ha=>?_,λa ha=>?_,λa b c ha hb hc=>?_⟩
 · revert b;refine f4 (P:=λa=>∀b,InR 4 b->InR 4 (jP a b)) ?_ ha
   have:∀a ∈ ([0,1,2,3]:List Int),∀b ∈ ([0,1,2,3]:List Int),InR 4 (jP a b):=by decide
   exact λa m b hb=>f4 (P:=λb=>InR 4 (jP a b)) (this a m) hb
 · exact f4 (P:=λa=>jP 1 a=a) (by decide) ha
 · exact f4 (P:=λa=>jP a 1=a) (by decide) ha
 · have:∀a ∈ ([0,1,2,3]:List Int),∀b ∈ ([0,1,2,3]:List Int),∀c ∈ ([0,1,2,3]:List Int),jP (jP a b) c=jP a (jP b c):=by decide
   refine f4 (P:=λa=>jP (jP a b) c=jP a (jP b c)) (λa m=>f4 (P:=λb=>jP (jP a b) c=jP a (jP b c)) (λb m'=>f4 (P:=λc=>jP (jP a b) c=jP a (jP b c)) (this a m b m') hc) hb) ha
theorem ldP{m:Nat}{r:Int->Int}(h:(∀a,InR 4 a->r a=a)\/(∀a,InR 4 a->r a=sP a)):LD 4 m jP 1 (λ_ a=>r a):=by
 rcases h with h|h
 · refine⟨λc a _ ha=>by show InR 4 (r a);rw[h a ha];exact ha,h 1 ⟨by decide,by decide⟩,λa i b k ha _ hb _=>?_⟩
   show r (jP a b)=jP (r a) (r b)
   rw[h a ha,h b hb,h _ (ljP.cl a b ha hb)]
 · refine⟨λc a _ ha=>by show InR 4 (r a);rw[h a ha];exact f4 (P:=λa=>InR 4 (sP a)) (by decide) ha,h 1 ⟨by decide,by decide⟩,λa i b k ha _ hb _=>?_⟩
   show r (jP a b)=jP (r a) (r b)
   rw[h a ha,h b hb,h _ (ljP.cl a b ha hb)]
   have:∀a ∈ ([0,1,2,3]:List Int),∀b ∈ ([0,1,2,3]:List Int),sP (jP a b)=jP (sP a) (sP b):=by decide
   exact f4 (P:=λa=>sP (jP a b)=jP (sP a) (sP b)) (λa m=>f4 (P:=λb=>sP (jP a b)=jP (sP a) (sP b)) (this a m) hb) ha
theorem ljB{n1 n2:Nat}{j1 j2:Int->Int->Int}{e1 e2:Int}(h1:LJ n1 j1 e1)(h2:LJ n2 j2 e2)(p2:0<n2):LJ (n1*n2) (jB n2 j1 j2) (e1*n2+e2):=by
 refine⟨λa b ha hb=>?_,ztK h1.ce h2.ce,λa ha=>?_,λa ha=>?_,λa b c ha hb hc=>?_⟩
 · exact ztK (h1.cl _ _ (yM p2 ha).1 (yM p2 hb).1) (h2.cl _ _ (yM p2 ha).2 (yM p2 hb).2)
 · unfold jB
   rw[(zbx h2.ce).1,(zbx h2.ce).2,h1.ul _ (yM p2 ha).1,h2.ul _ (yM p2 ha).2,zvw]
 · unfold jB
   rw[(zbx h2.ce).1,(zbx h2.ce).2,h1.ur _ (yM p2 ha).1,h2.ur _ (yM p2 ha).2,zvw]
 · unfold jB
   rw[(zbx (h2.cl _ _ (yM p2 ha).2 (yM p2 hb).2)).1,(zbx (h2.cl _ _ (yM p2 ha).2 (yM p2 hb).2)).2,(zbx (h2.cl _ _ (yM p2 hb).2 (yM p2 hc).2)).1,(zbx (h2.cl _ _ (yM p2 hb).2 (yM p2 hc).2)).2,h1.as _ _ _ (yM p2 ha).1 (yM p2 hb).1 (yM p2 hc).1,h2.as _ _ _ (yM p2 ha).2 (yM p2 hb).2 (yM p2 hc).2]
theorem ldB{n1 n2 m:Nat}{j1 j2 d1 d2:Int->Int->Int}{u1 u2:Int}(h1:LJ n1 j1 u1)(h2:LJ n2 j2 u2)(p2:0<n2)(e1:LD n1 m j1 u1 d1)(e2:LD n2 m j2 u2 d2):LD (n1*n2) m (jB n2 j1 j2) (u1*n2+u2) (dB n2 d1 d2):=by
 refine⟨λc a hc ha=>ztK (e1.cl _ _ hc (yM p2 ha).1) (e2.cl _ _ hc (yM p2 ha).2), ?_,λa i b k ha hi hb hk=>?_⟩
 · unfold dB
   rw[(zbx h2.ce).1,(zbx h2.ce).2,e1.em,e2.em]
 · unfold jB dB
   rw[(zbx (h2.cl _ _ (yM p2 ha).2 (yM p2 hb).2)).1,(zbx (h2.cl _ _ (yM p2 ha).2 (yM p2 hb).2)).2,(zbx (e2.cl i _ hi (yM p2 ha).2)).1,(zbx (e2.cl i _ hi (yM p2 ha).2)).2,(zbx (e2.cl k _ hk (yM p2 hb).2)).1,(zbx (e2.cl k _ hk (yM p2 hb).2)).2,e1.dn _ _ _ _ (yM p2 ha).1 hi (yM p2 hb).1 hk,e2.dn _ _ _ _ (yM p2 ha).2 hi (yM p2 hb).2 hk]
theorem ljT{n:Nat}{j j':Int->Int->Int}{e:Int}{F B:Int->Int}(h:LJ n j e)(hF:∀a,InR n a->InR n (F a))(hB:∀a,InR n a->InR n (B a))(hFB:∀a,InR n a->F (B a)=a)(q:∀a b,InR n a->InR n b->j' (F a) (F b)=F (j a b)):LJ n j' (F e):=by
 have q':∀a b,InR n a->InR n b->j' a b=F (j (B a) (B b)):=λa b ha hb=>by
  have:=q (B a) (B b) (hB a ha) (hB b hb)
  rw[hFB a ha,hFB b hb]at this
  exact this
 refine⟨λa b ha hb=>by rw[q' a b ha hb];exact hF _ (h.cl _ _ (hB a ha) (hB b hb)),hF e h.ce,λa ha=>?_,λa ha=>?_,λa b c ha hb hc=>?_⟩
 · have:=q e (B a) h.ce (hB a ha)
   rw[hFB a ha,h.ul _ (hB a ha),hFB a ha]at this
   exact this
 · have:=q (B a) e (hB a ha) h.ce
   rw[hFB a ha,h.ur _ (hB a ha),hFB a ha]at this
   exact this
 · have a':=hB a ha
   have b':=hB b hb
   have c':=hB c hc
   rw[q' a b ha hb,q' b c hb hc]
   have x:=q (j (B a) (B b)) (B c) (h.cl _ _ a' b') c'
   have y:=q (B a) (j (B b) (B c)) a' (h.cl _ _ b' c')
   rw[hFB c hc]at x
   rw[hFB a ha]at y
   rw[x,y,h.as _ _ _ a' b' c']
theorem ldT{n m:Nat}{j j' d d':Int->Int->Int}{e:Int}{F B:Int->Int}(hm:0<m)(h:LJ n j e)(k:LD n m j e d)(hF:∀a,InR n a->InR n (F a))(hB:∀a,InR n a->InR n (B a))(hFB:∀a,InR n a->F (B a)=a)
 (q:∀a b,InR n a->InR n b->j' (F a) (F b)=F (j a b)) (p:∀c a,InR m c->InR n a->d' c (F a)=F (d c a)):LD n m j' (F e) d':=by
 refine⟨λc a hc ha=>?_, ?_,λa i b l ha hi hb hl=>?_⟩
 · have:=p c (B a) hc (hB a ha)
   rw[hFB a ha]at this
   rw[this];exact hF _ (k.cl _ _ hc (hB a ha))
 · rw[p 0 e ⟨by omega,by omega⟩ h.ce,k.em]
 · have a':=hB a ha
   have b':=hB b hb
   have x:=q (B a) (B b) a' b'
   have y:=p i (B a) hi a'
   have z:=p l (B b) hl b'
   rw[hFB a ha]at x y
   rw[hFB b hb]at x z
   rw[x,y,z,p _ _ (zca hm) (h.cl _ _ a' b'),q _ _ (k.cl _ _ hi a') (k.cl _ _ hl b'),k.dn _ _ _ _ a' hi b' hl]
def jK(k:Int)(n:Nat):Int->Int->Int:=if k=0 then jS n else if k=1 then jM else if k=2 then jL else jP
def put(T:TZ)(p q c:Int):TZ:=T.set p.toNat ((zaD T p).set q.toNat c)
theorem zrh{k n:Nat}{T:TZ}{p q c:Int}(hT:Tab k n T)(hp:InR k p)(hc:InR n c):Tab k n (put T p q c):=zrs hT (zqU (YS hT hp).2 hc)
theorem zmI{k n:Nat}{T:TZ}{p q c a b:Int}(hT:Tab k n T)(hp:InR k p)(hq:InR n q)(ha:InR k a)(hb:InR n b):jAt (put T p q c) a b=if a=p/\b=q then c else jAt T a b:=by
 have hp':=iT hp
 have ha':=iT ha
 have hq':=iT hq
 have hb':=iT hb
 have hl:=(YS hT hp).2.1
 unfold jAt put
 by_cases e:a=p
 · subst e
   rw[zyI (by rw[hT.1];exact hp')]
   show rAt ((zaD T a).set q.toNat c) b=_
   unfold rAt
   by_cases e2:b=q
   · subst e2
     rw[zyI (by rw[hl];exact hq'),if_pos ⟨rfl,rfl⟩];rfl
   · rw[zzW (λz=>e2 (by have:=hb.1;have:=hq.1;omega)),if_neg (λz=>e2 z.2)]
 · rw[zzW (λz=>e (by have:=ha.1;have:=hp.1;omega)),if_neg (λz=>e z.1)]
theorem ztC{v K n L:Nat}{f:SF}{S:TZ->Option O->Option O->AS}{p:Int}{g w:Int->Int}(hp:InR K p)(hg:∀b,InR L b->InR n (g b))(gi:∀b b',InR L b->InR L b'->g b=g b'->b=b')(hw:∀b,InR L b->InR n (w b))
 (h1:∀T d x y,gN v (true,d) (S T x y)=some (S T (sT d) y)) (h2:∀T b y,Tab K n T->InR L b->∃y',f (S T (sI b) y)=some (.nx (S (put T p (g b) (w b)) (sI b) y'))) {T0:TZ}{x0 y0:Option O}(hT:Tab K n T0):
 ∃T' x y,forL (gN v) f (wD 0 L) (S T0 x0 y0)=some (.nx (S T' x y))/\Tab K n T'/\(∀b,InR L b->jAt T' p (g b)=w b)/\(∀a b,InR K a->InR n b->a≠p->jAt T' a b=jAt T0 a b):=by
 obtain⟨as',hf,T',x,y,rfl,t1,t2,t3⟩:=Zg (g:=gN v) (f:=f)
  (λi as=>∃(T:TZ) (x y:Option O),as=S T x y/\Tab K n T/\(∀b,InR L b->b<i->jAt T p (g b)=w b)/\(∀a b,InR K a->InR n b->a≠p->jAt T a b=jAt T0 a b))
  (wD 0 L) 0 (S T0 x0 y0) (λi y as hx hI=>by
   obtain⟨T,x,z,rfl,t1,t2,t3⟩:=hI
   obtain⟨rfl,hi⟩:=Yz hx
   have hb:InR L (0+(i:Int)):=⟨by omega,by omega⟩
   obtain⟨y',h⟩:=h2 T (0+i) z t1 hb
   refine⟨_,h1 _ _ _ _,_,h,_,_,_,rfl,zrh t1 hp (hw _ hb),λb hb' hlt=>?_,λa b ha hb' hne=>?_⟩
   · rw[zmI t1 hp (hg _ hb) hp (hg _ hb')]
     by_cases e:g b=g (0+i)
     · have:=gi _ _ hb' hb e
       subst this
       rw[if_pos ⟨rfl,rfl⟩]
     · rw[if_neg (λz=>e z.2)]
       refine t2 b hb' ?_
       have:b≠0+i:=λz=>e (by rw[z])
       omega
   · rw[zmI t1 hp (hg _ hb) ha hb',if_neg (λz=>hne z.1)]
     exact t3 a b ha hb' hne)
  ⟨T0,x0,y0,rfl,hT,λb hb h=>absurd h (by have:=hb.1;omega),λ_ _ _ _ _=>rfl⟩
 rw[Z0]at t2
 exact⟨T',x,y,hf,t1,λb hb=>t2 b hb (by have:=hb.2;omega),t3⟩
theorem zrR{v K n L M:Nat}{F:SF}{S:TZ->Option O->Option O->Option O->AS}{f g:Int->Int}{w:Int->Int->Int}(hf':∀a,InR M a->InR K (f a))(fi:∀a a',InR M a->InR M a'->f a=f a'->a=a')(hg:∀b,InR L b->InR n (g b))
 (h1:∀T d x y z,gN v (true,d) (S T x y z)=some (S T (sT d) y z)) (h2:∀T a y z,Tab K n T->InR M a->∃T' y' z',F (S T (sI a) y z)=some (.nx (S T' (sI a) y' z'))/\Tab K n T'/\(∀b,InR L b->jAt T' (f a) (g b)=w a b)/\(∀a' b,InR K a'->InR n b->a'≠f a->jAt T' a' b=jAt T a' b)) {T0:TZ}{x0 y0 z0:Option O}(hT:Tab K n T0):
 ∃T' x y z,forL (gN v) F (wD 0 M) (S T0 x0 y0 z0)=some (.nx (S T' x y z))/\Tab K n T'/\∀a b,InR M a->InR L b->jAt T' (f a) (g b)=w a b:=by
 obtain⟨as',hf,T',x,y,z,rfl,t1,t2⟩:=Zg (g:=gN v) (f:=F)
  (λi as=>∃(T:TZ) (x y z:Option O),as=S T x y z/\Tab K n T/\∀a b,InR M a->a<i->InR L b->jAt T (f a) (g b)=w a b)
  (wD 0 M) 0 (S T0 x0 y0 z0) (λi y as hx hI=>by
   obtain⟨T,x,y,z,rfl,t1,t2⟩:=hI
   obtain⟨rfl,hi⟩:=Yz hx
   have ha:InR M (0+(i:Int)):=⟨by omega,by omega⟩
   obtain⟨T',y',z',h,q1,q2,q3⟩:=h2 T (0+i) y z t1 ha
   refine⟨_,h1 _ _ _ _ _,_,h,_,_,_,_,rfl,q1,λa b ha' hlt hb=>?_⟩
   by_cases e:a=0+i
   · subst e;exact q2 b hb
   · rw[q3 (f a) (g b) (hf' a ha') (hg b hb) (λz=>e (fi _ _ ha' ha z))]
     exact t2 a b ha' (by omega) hb)
  ⟨T0,x0,y0,z0,rfl,hT,λa b ha h=>absurd h (by have:=ha.1;omega)⟩
 rw[Z0]at t2
 exact⟨T',x,y,z,hf,t1,λa b ha hb=>t2 a b ha (by have:=ha.2;omega) hb⟩
theorem ztf{as:AS}{i:Nat}{f:IXF}{n:Nat}{r:List Int}{k:Int}{s:Bool}(h:as[i]? = some (some (.lf s (zQ r))))(hf:f as=some k)(hr:Row n r)(hk:InR n k):xAt i f as=some (rAt r k):=by
 have e:=(rowAt hr hk).1
 unfold xAt
 rw[hf]
 show(if 0<=k then(slO zcn as i).bind λd=>(asL d).bind λds=>ds[k.toNat]?.bind asI else none)=_
 rw[if_pos hk.1]
 have e1:slO zcn as i=some (zQ r):=by unfold slO;rw[h];rfl
 rw[e1]
 show((r.map D.int)[k.toNat]?).bind asI=_
 have hl:=iT hk
 rw[zzG,zzC (by rw[hr.1];exact hl),Y9 (by rw[hr.1];exact hl)]
 rfl
theorem zrD{as:AS}{i k n:Nat}{f1 f2 fv:IXF}{p q c:Int}{T:TZ}(hT:Tab k n T)(hp:InR k p)(hq:InR n q)(h1:f1 as=some p)(h2:f2 as=some q)(hv:fv as=some c)(hi:as[i]? = some (some (Xg T))):zmu i f1 f2 fv as=some (.nx (as.set i (some (Xg (put T p q c))))):=by
 have hl:=iT hp
 have hq':=iT hq
 refine znZ h1 h2 hv hp.1 hq.1 hi (r:=zaD T p) ?_ (by rw[(YS hT hp).2.1];exact hq')
 unfold zaD
 rw[zzC (by rw[hT.1];exact hl)];rfl
theorem zkU{g:GF}{fe:EF}{as0:AS}{r:List Int}:∀(xs:List It1),(∀y ∈ xs,∃as1,g y as0=some as1/\fe as1=some (.ow (xm r),as1))->vU g Yx fe as0 xs=some ((List.replicate xs.length r).map xm)
 | [],_=>rfl
 |y::xs,H=>by
  obtain⟨as1,h1,h2⟩:=H y (zzD ..)
  exact zpw h1 h2 (Vc r).1 (zkU xs λz m=>H z (zzB _ m))
theorem zoM{k n:Nat}(hn:1<=n):Tab k n (List.replicate k (List.replicate n (0:Int))):=
 ⟨List.length_replicate ..,λr m=>by rw[List.eq_of_mem_replicate m];exact⟨List.length_replicate ..,λx m=>by rw[List.eq_of_mem_replicate m];omega⟩⟩
abbrev XS(r:List Int):D:=.tup (r.map D.int)
abbrev ZR(T:TZ):D:=.tup (T.map XS)
theorem znn{α:Type}{f:α->D}{l:List α}{i:Nat}{p:α}(h:l[i]? = some p):ixP (.tup (l.map f)) (.int (i:Int))=some (.im (f p)):=by
 have h:=zbj (xs:=l.map f) (j:=i) (v:=f p) (by rw[zzG,h];rfl)
 show imR (atI _ _)=_
 rw[h];rfl
theorem zvX{k n:Nat}{T:TZ}{w:Int}(hT:Tab k n T)(hw:InR k w):ixP (ZR T) (.int w)=some (.im (XS (zaD T w))):=by
 have hk:w.toNat<T.length:=by rw[hT.1];exact iT hw
 have g:=zzC hk
 unfold zaD
 rw[g]
 have:=znn (f:=XS) g
 rw[iC hw]at this
 exact this
theorem zvI{n:Nat}{r:List Int}{v:Int}(hr:Row n r)(hv:InR n v):ixP (XS r) (.int v)=some (.im (.int (rAt r v))):=by
 have hk:v.toNat<r.length:=by rw[hr.1];exact iT hv
 have g:=zzC hk
 rw[Y9 hk]
 have:=znn (f:=D.int) g
 rw[iC hv]at this
 exact this
theorem zpd{a b c:EF}{as:AS}{m n:Nat}{T:TZ}{w v:Int}(hT:Tab m n T)(hw:InR m w)(hv:InR n v)(ha:WD a as true (ZR T))(hb:WD b as true (.int w))(hc:WD c as true (.int v)):WD (f2 (f2 a b ixP) c ixP) as true (.int (jAt T w v)):=
 zZ (ZX ha hb (zvX hT hw)) hc (zvI (YS hT hw).2 hv) rfl
section
variable{α:Type}{kf:α->Str}{vf:α->D}
theorem zii:∀l:List α,zcb (l.map λp=>.tup [.str (kf p),vf p])=some (l.map λp=>(.inr (kf p),vf p))
 | []=>rfl
 |p::l=>by
  show(zcb (l.map λp=>.tup [.str (kf p),vf p])).bind _=_
  rw[zii l];rfl
theorem zqg:∀(kvs:List (Key×D)),(kvs.map (·.1)).zip (kvs.map (·.2))=kvs
 | []=>rfl
 |p::r=>congrArg (p :: ·) (zqg r)
theorem zvf{a:EF}{as:AS}{l:List α}(nd:(l.map kf).Nodup)(h:WE a as (.lst (l.map λp=>.tup [.str (kf p),vf p]))):WE (fP (aC a aN) zeG) as (.dct (l.map λp=>(.inr (kf p),vf p))):=by
 have hg:zeG [.lst (l.map λp=>.tup [.str (kf p),vf p])]=some (.fd (l.map λp=>(.inr (kf p),vf p))):=by
  show(zcb (l.map λp=>.tup [.str (kf p),vf p])).bind _=_
  rw[zii]
  refine if_pos ?_
  rw[zzZ]
  exact List.pairwise_map.mpr ((List.pairwise_map.mp nd).imp λh e=>h (Sum.inr.inj e))
 have k:=zvC (g:=zeG) (Yj h (ye (as:=as))) hg
 rw[show([(true,D.lst (l.map λp=>.tup [.str (kf p),vf p]))].all (·.1))=true from rfl,zcB]at k
 generalize (l.map λp=>((.inr (kf p),vf p):Key×D))=kvs at k
 refine⟨_,k,zic _, ?_⟩
 show D.dct ((kvs.map (·.1)).zip (O.toDs ((kvs.map (·.2)).map (O.lf true))))=_
 rw[zhD,zqg]
end
theorem wG{as:AS}{i:Nat}{cs:List Str}{f c:Str}{fe:EF}{d:D}{ns:List Str}{os:List O}(h:WE fe as d)(hi:as[i]? = some (some (.nd (.ob c ns) os)))(hc:c ∈ cs)(hn:f ∉ ns)(hl:ns.length<1000):zaJ i cs f fe as=some (as.set i (some (.nd (.ob c (ns++[f])) (os++[.lf true d])))):=by
 obtain⟨o,h1,h2,h3⟩:=h
 unfold zaJ
 have e:ziW as (.ow o)=some ((o.str,o.toD),as):=rfl
 simp only[h1,zyJ,e,hi,if_pos (⟨hc,hn,hl⟩:c ∈ cs/\f ∉ ns/\ns.length<1000),h2,h3]
theorem wg{f g:IFn}{as as1:AS}{o:Option AS}(h:f as=some as1)(h2:g as1=o):Y8 f g as=o:=by
 unfold Y8
 rw[h];exact h2
theorem zoU{fe:EF}{as:AS}{d:D}(h:WE fe as d):zqJ fe as=some as:=by
 obtain⟨o,h1,_,_⟩:=h
 unfold zqJ
 rw[h1];rfl
theorem zsO{as:AS}{i:Nat}{cs ns:List Str}{f c:Str}{ds:List D}{d:D}(h:as[i]? = some (sT (.ob c ns ds)))(hc:c ∈ cs)(hl:lkp ns ds f=some d):WD (f1 (fV i) (yx cs f)) as true d:=by
 have:=zmv (zc h) hc hl
 rw[zyB]at this
 exact this
def bh(A B:TZ):TZ:=(A.zip B).map λp=>p.1.map (rAt p.2)
theorem zsW{m n:Nat}{A B:TZ}(hA:Tab m n A)(hB:Tab m n B){i:Nat}(hi:i<m):(bh A B)[i]? = some ((zaD A i).map (rAt (zaD B i))):=by
 have h1:=zzC (l:=A) (i:=i) (by rw[hA.1];exact hi)
 have h2:=zzC (l:=B) (i:=i) (by rw[hB.1];exact hi)
 unfold bh zaD
 rw[zzG,zyG,h1,h2]
 have:(A.zip B)[i]? = some (A[i]'(by rw[hA.1];exact hi),B[i]'(by rw[hB.1];exact hi)):=List.getElem?_zip_eq_some.mpr ⟨h1,h2⟩
 rw[this];rfl
theorem zup{m n:Nat}{A B:TZ}(hA:Tab m n A)(hB:Tab m n B):Tab m n (bh A B):=by
 refine⟨by unfold bh;rw[zS,List.length_zip,hA.1,hB.1,Nat.min_self],λr h=>?_⟩
 obtain⟨p,hp,rfl⟩:=zxC.mp h
 obtain⟨h1,h2⟩:=List.of_mem_zip hp
 have r1:=hA.2 _ h1
 have r2:=hB.2 _ h2
 exact⟨by rw[zS];exact r1.1,λx mx=>by
  obtain⟨y,my,rfl⟩:=zxC.mp mx
  exact(rowAt r2 (r1.2 y my)).2⟩
theorem zvJ{m n:Nat}{A B:TZ}(hA:Tab m n A)(hB:Tab m n B){c a:Int}(hc:InR m c)(ha:InR n a):jAt (bh A B) c a=jAt B c (jAt A c a):=by
 have hk:=iT hc
 have g:=zsW hA hB hk
 have e:((c.toNat:Nat):Int)=c:=iC hc
 rw[e]at g
 have r1:=(YS hA hc).2
 have r2:=(YS hB hc).2
 show rAt (((bh A B)[c.toNat]?).getD []) a=rAt (zaD B c) (rAt (zaD A c) a)
 rw[g]
 show rAt ((zaD A c).map (rAt (zaD B c))) a=_
 have hl:a.toNat<(zaD A c).length:=by rw[r1.1];exact iT ha
 rw[Y9 (by rw[zS];exact hl),List.getElem_map,Y9 hl]
end PF
end
section
namespace G31
open PySem PySem.Spec PyProof.Rows L2 PF
def wF:List Str:=["Knot"]
def VR:List Str:=["Knot"]
def vY:List Str:=["Knot"]
def Wc:List Str:=["Knot"]
def Vu:List Str:=["Knot"]
def Ye:List Str:=["Knot"]
def yQ:List Str:=["Knot"]
def Zy:List Str:=["Knot","Ways"]
def zfp:List Str:=["Ways"]
def zco:List Str:=["Ways"]
def zbb:List Str:=["Ways"]
def zko:List Str:=["Ways"]
def zge:List Str:=["Ways"]
abbrev V9:List Str:=["self","whole","back","wait","turn","one","other"]
theorem zdZ:FnScope V9 ["self","whole","back","wait","turn","one","other"] (zG Zu):=⟨rfl,rfl,rfl,by decide +kernel,rfl,by decide +kernel,by decide +kernel⟩
def Y7:IFn:=
 (Y8 (zaJ 0 wF "whole" (fV 1))
  (Y8 (zaJ 0 VR "back" (fV 2))
  (Y8 (zaJ 0 vY "wait" (fV 3))
  (Y8 (zaJ 0 Wc "turn" (fV 4))
  (Y8 (zaJ 0 Vu "one" (fV 5))
  (Y8 (zaJ 0 Ye "other" (fV 6))
  (Y8 (zaJ 0 yQ "deep" (fIf (fT (f2 (fV 5) (fC .non) (zR .Is))) (fC (.int 0)) (f2 (fC (.int 1)) (fP (aC (f1 (fV 5) (yx yQ "deep")) (aC (f1 (fV 6) (yx yQ "deep")) aN)) zls) (zp .Add))))
  (zaJ 0 Zy "size" (fIf (fT (f2 (fV 5) (fC .non) (zR .Is))) (fC (.int 1)) (f2 (f1 (fV 5) (yx Zy "size")) (f1 (fV 6) (yx Zy "size")) (zp .Add)))))))))))
def yS(c:Str):Fn:=fnI c 7 7 Y7
abbrev zhv:List Str:=["value"]
theorem zle:FnScope zhv ["value"] (zG zbi):=⟨rfl,rfl,rfl,by decide +kernel,rfl,by decide +kernel,by decide +kernel⟩
def zil:SF:=
 (yc (zy (aC (fV 0) (aC (fV 0) (aC (fC .non) (aC (fC (.bl false)) (aC (fC .non) (aC (fC .non) aN)))))) (yS "Knot")))
def Yk:Fn:=fnR 1 1 zil
abbrev zeD:List Str:=["self","one","other"]
theorem ziY:FnScope zeD ["self","one","other"] (zG Wd):=⟨rfl,rfl,rfl,by decide +kernel,rfl,by decide +kernel,by decide +kernel⟩
def zes:SF:=
 (yc (f2 (f2 (f1 (fV 0) (yx zfp "table")) (fV 1) ixP) (fV 2) ixP))
def zaY:Fn:=fnR 3 3 zes
def zdb:List (Str×Fn):=[("Ways",zaY)]
abbrev zhL:List Str:=["way","one","other"]
theorem zlE:FnScope zhL ["way","one","other"] (zG zbd):=⟨rfl,rfl,rfl,by decide +kernel,rfl,by decide +kernel,by decide +kernel⟩
def zia:SF:=
 (yc (zy (aC (zay zdb "join" (fV 0) (aC (f1 (fV 1) (yx wF "whole")) (aC (f1 (fV 2) (yx wF "whole")) aN))) (aC (zay zdb "join" (fV 0) (aC (f1 (fV 2) (yx VR "back")) (aC (f1 (fV 1) (yx VR "back")) aN))) (aC (fC .non) (aC (fC (.bl false)) (aC (fV 1) (aC (fV 2) aN)))))) (yS "Knot")))
def ym:Fn:=fnR 3 3 zia
abbrev zih:List Str:=["way","row","half"]
theorem zfI:FnScope zih ["way","row"] (zG zbm):=⟨rfl,rfl,rfl,by decide +kernel,rfl,by decide +kernel,by decide +kernel⟩
def zhN(self:Fn):SF:=
 (zM (sIf (fT (f2 (fP (aC (fV 1) aN) vZ) (fC (.int 0)) (zR .Eq))) (yc (fC .non)) sNx)
  (zM (sIf (fT (f2 (fP (aC (fV 1) aN) vZ) (fC (.int 1)) (zR .Eq))) (yc (zy (aC (f2 (fV 1) (fC (.int 0)) ixP) aN) Yk)) sNx)
  (zM (zW true 2 (f2 (fP (aC (fV 1) aN) vZ) (fC (.int 2)) (zp .FloorDiv)))
  (yc (zy (aC (fV 0) (aC (zy (aC (fV 0) (aC (fSl (fV 1) oN (oS (fV 2)) slP) aN)) self) (aC (zy (aC (fV 0) (aC (fSl (fV 1) (oS (fV 2)) oN slP) aN)) self) aN))) ym)))))
def xN:Nat->Fn
 |0=>λ_=>none
 |n+1=>fnR 3 2 (zhN (xN n))
abbrev zhu:List Str:=["tree"]
theorem zmf:FnScope zhu ["tree"] (zG zbu):=⟨rfl,rfl,rfl,by decide +kernel,rfl,by decide +kernel,by decide +kernel⟩
def zhr:SF:=
 (yc (fIf (fT (f2 (fV 0) (fC .non) (zR .Is))) (fC (.int 0)) (f1 (fV 0) (yx Zy "size"))))
def vC:Fn:=fnR 1 1 zhr
abbrev zak:List Str:=["self"]
theorem zeJ:FnScope zak ["self"] (zG ZW):=⟨rfl,rfl,rfl,by decide +kernel,rfl,by decide +kernel,by decide +kernel⟩
def zaA:SF:=
 (yc (f1 (fV 0) (yx zco "neutral")))
def XM:Fn:=fnR 1 1 zaA
def zgu:List (Str×Fn):=[("Ways",XM)]
abbrev zgv:List Str:=["way","tree"]
theorem zjX:FnScope zgv ["way","tree"] (zG Vr):=⟨rfl,rfl,rfl,by decide +kernel,rfl,by decide +kernel,by decide +kernel⟩
def zfj:SF:=
 (yc (fIf (fT (f2 (fV 1) (fC .non) (zR .Is))) (zay zgu "nothing" (fV 0) aN) (f1 (fV 1) (yx wF "whole"))))
def ZG:Fn:=fnR 2 2 zfj
abbrev Wm:List Str:=["self","one","other"]
theorem zgy:FnScope Wm ["self","one","other"] (zG Zm):=⟨rfl,rfl,rfl,by decide +kernel,rfl,by decide +kernel,by decide +kernel⟩
theorem W0:(["row","then"]:List Str).Nodup:=by decide +kernel
theorem zdL:(["a","then"]:List Str).Nodup:=by decide +kernel
def zbF:SF:=
 (yc (fP (aC (wu (zhF (aC (fV 1) (aC (fV 2) aN))) [none,none] (gT 2 (gsC (gN 0) (gsC (gN 1) gsN))) Yx (fP (aC (wu (zcg (fV 0)) [none,some 1] (gN 0) Yx (f2 (fV 1) (fV 0) ixP)) aN) tupP)) aN) tupP))
def WN:Fn:=fnR 3 3 zbF
def zhR:List (Str×Fn):=[("Ways",WN)]
abbrev zcE:List Str:=["way","one","other"]
theorem zhc:FnScope zcE ["way","one","other"] (zG Xd):=⟨rfl,rfl,rfl,by decide +kernel,rfl,by decide +kernel,by decide +kernel⟩
def zcN:SF:=
 (zM (sIf (fT (f2 (fV 1) (fC .non) (zR .Is))) (yc (fV 2)) sNx)
  (zM (sIf (fT (f2 (fV 2) (fC .non) (zR .Is))) (yc (fV 1)) sNx)
  (yc (zay zhR "behind" (fV 0) (aC (fV 1) (aC (fV 2) aN))))))
def wX:Fn:=fnR 3 3 zcN
abbrev zey:List Str:=["self","wait","value","many"]
theorem zjc:FnScope zey ["self","wait","value","many"] (zG X6):=⟨rfl,rfl,rfl,by decide +kernel,rfl,by decide +kernel,by decide +kernel⟩
def zeg:SF:=
 (yc (f2 (f2 (fV 1) (f2 (fV 3) (f1 (fV 0) (yx zbb "around")) (zp .Mod)) ixP) (fV 2) ixP))
def zaT:Fn:=fnR 4 4 zeg
def zbr:List (Str×Fn):=[("Ways",zaT)]
abbrev zfz:List Str:=["way","tree","wait","whole","back"]
theorem zaW:FnScope zfz ["way","tree","wait"] (zG V1):=⟨rfl,rfl,rfl,by decide +kernel,rfl,by decide +kernel,by decide +kernel⟩
def zfN:SF:=
 (zM (sIf (fT (f2 (fV 1) (fC .non) (zR .Is))) (yc (fC .non)) sNx)
  (zM (zW true 3 (zay zbr "made" (fV 0) (aC (fV 2) (aC (f1 (fV 1) (yx wF "whole")) (aC (f1 (fV 1) (yx Zy "size")) aN)))))
  (zM (sIf (fT (f2 (f1 (fV 1) (yx yQ "deep")) (fC (.int 0)) (zR .Eq))) (yc (zy (aC (fV 3) aN) Yk)) sNx)
  (zM (zW true 4 (zay zbr "made" (fV 0) (aC (fV 2) (aC (f1 (fV 1) (yx VR "back")) (aC (f1 (fV 1) (yx Zy "size")) aN)))))
  (yc (zy (aC (fV 3) (aC (fV 4) (aC (zy (aC (fV 0) (aC (f1 (fV 1) (yx vY "wait")) (aC (fV 2) aN))) wX) (aC (f1 (fV 1) (yx Wc "turn")) (aC (f1 (fV 1) (yx Vu "one")) (aC (f1 (fV 1) (yx Ye "other")) aN)))))) (yS "Knot")))))))
def vg:Fn:=fnR 5 3 zfN
abbrev zcZ:List Str:=["way","tree"]
theorem zhe:FnScope zcZ ["way","tree"] (zG Xa):=⟨rfl,rfl,rfl,by decide +kernel,rfl,by decide +kernel,by decide +kernel⟩
def zcP:SF:=
 (zM (sIf (fT (f2 (fV 1) (fC .non) (zR .Is))) (yc (fC .non)) sNx)
  (yc (zy (aC (f1 (fV 1) (yx VR "back")) (aC (f1 (fV 1) (yx wF "whole")) (aC (f1 (fV 1) (yx vY "wait")) (aC (zpa (f1 (fV 1) (yx Wc "turn"))) (aC (f1 (fV 1) (yx Vu "one")) (aC (f1 (fV 1) (yx Ye "other")) aN)))))) (yS "Knot"))))
def wY:Fn:=fnR 2 2 zcP
abbrev zfP:List Str:=["way","knot","one","other"]
theorem YB:FnScope zfP ["way","knot"] (zG Vg):=⟨rfl,rfl,rfl,by decide +kernel,rfl,by decide +kernel,by decide +kernel⟩
def zgH:SF:=
 (zM (zW true 2 (f1 (fV 1) (yx Vu "one")))
  (zM (zW true 3 (f1 (fV 1) (yx Ye "other")))
  (zM (sIf (fT (f2 (f1 (fV 1) (yx vY "wait")) (fC .non) (zR .IsNot))) (zM (zW true 2 (zy (aC (fV 0) (aC (fV 2) (aC (f1 (fV 1) (yx vY "wait")) aN))) vg))
  (zW true 3 (zy (aC (fV 0) (aC (fV 3) (aC (f1 (fV 1) (yx vY "wait")) aN))) vg))) sNx)
  (zM (sIf (fT (f1 (fV 1) (yx Wc "turn"))) (yc (wU (dC (zy (aC (fV 0) (aC (fV 3) aN)) wY) (dC (zy (aC (fV 0) (aC (fV 2) aN)) wY) dN)))) sNx)
  (yc (wU (dC (fV 2) (dC (fV 3) dN))))))))
def yO:Fn:=fnR 4 2 zgH
abbrev zkA:List Str:=["way","tree","wait","turn","row","owed","contrary","parts","part"]
theorem Va:FnScope zkA ["way","tree","wait","turn","row"] (zG zcO):=⟨rfl,rfl,rfl,by decide +kernel,rfl,by decide +kernel,by decide +kernel⟩
def zct(self:List It1->O->Option O):SF:=
 (sIf (fT (f2 (f1 (fV 1) (yx yQ "deep")) (fC (.int 0)) (zR .Eq))) (wV (ZK 4 (dC (fIf (fT (f2 (fV 2) (fC .non) (zR .Is))) (f1 (fV 1) (yx wF "whole")) (zay zbr "made" (fV 0) (aC (fV 2) (aC (f1 (fV 1) (yx wF "whole")) (aC (fC (.int 1)) aN))))) dN) Zh))
  (zM (zW true 5 (zy (aC (fV 0) (aC (f1 (fV 1) (yx vY "wait")) (aC (fV 2) aN))) wX))
  (zM (zW true 6 (f2 (f1 (fV 1) (yx Wc "turn")) (fV 3) (zR .NotEq)))
  (zM (zW true 7 (fIf (fT (fV 6)) (wU (dC (f1 (fV 1) (yx Ye "other")) (dC (f1 (fV 1) (yx Vu "one")) dN))) (wU (dC (f1 (fV 1) (yx Vu "one")) (dC (f1 (fV 1) (yx Ye "other")) dN)))))
  (vh (zgZ (fV 7)) (gN 8) (Vi 4 (aC (fV 0) (aC (fV 8) (aC (fV 5) (aC (fV 6) (aC (fV 4) aN))))) self))))))
def wK:Nat->List It1->O->Option O
 |0=>λ_ _=>none
 |n+1=>gL 9 5 (zct (wK n))
abbrev zjI:List Str:=["way","tree","row"]
theorem zhX:FnScope zjI ["way","tree"] (zG zcT):=⟨rfl,rfl,rfl,by decide +kernel,rfl,by decide +kernel,by decide +kernel⟩
def zjS:SF:=
 (zM (zW false 2 (wz dN))
  (zM (sIf (fT (f2 (fV 1) (fC .non) (zR .IsNot))) (Vi 2 (aC (fV 0) (aC (fV 1) (aC (fC .non) (aC (fC (.bl false)) (aC (fV 2) aN))))) (wK 20)) sNx)
  (yc (fV 2))))
def vm:Fn:=fnR 3 2 zjS
abbrev zht:List Str:=["way","tree","parts"]
theorem zfO:FnScope zht ["way","tree"] (zG zbg):=⟨rfl,rfl,rfl,by decide +kernel,rfl,by decide +kernel,by decide +kernel⟩
def zhC(self:Fn):SF:=
 (zM (sIf (fT (f2 (fV 1) (fC .non) (zR .Is))) (yc (wU dN)) sNx)
  (zM (sIf (fT (f2 (f1 (fV 1) (yx yQ "deep")) (fC (.int 0)) (zR .Eq))) (yc (wU (dC (f1 (fV 1) (yx wF "whole")) dN))) sNx)
  (zM (zW true 2 (zy (aC (fV 0) (aC (fV 1) aN)) yO))
  (yc (wU (dC (f1 (fV 1) (yx wF "whole")) (dC (zy (aC (fV 0) (aC (f2 (fV 2) (fC (.int 0)) ixP) aN)) self) (dC (zy (aC (fV 0) (aC (f2 (fV 2) (fC (.int 1)) ixP) aN)) self) dN))))))))
def vq:Nat->Fn
 |0=>λ_=>none
 |n+1=>fnR 3 2 (zhC (vq n))
abbrev zbD:List Str:=["way","one","other","parts","inner"]
theorem Xr:FnScope zbD ["way","one","other"] (zG Yq):=⟨rfl,rfl,rfl,by decide +kernel,rfl,by decide +kernel,by decide +kernel⟩
def zbA:SF:=
 (zM (zW true 3 (zy (aC (fV 0) (aC (fV 1) aN)) yO))
  (zM (sIf (fT (f2 (f1 (f2 (fV 3) (fC (.int 0)) ixP) (yx yQ "deep")) (f1 (f2 (fV 3) (fC (.int 1)) ixP) (yx yQ "deep")) (zR .GtE))) (yc (zy (aC (fV 0) (aC (f2 (fV 3) (fC (.int 0)) ixP) (aC (zy (aC (fV 0) (aC (f2 (fV 3) (fC (.int 1)) ixP) (aC (fV 2) aN))) ym) aN))) ym)) sNx)
  (zM (zW true 4 (zy (aC (fV 0) (aC (f2 (fV 3) (fC (.int 1)) ixP) aN)) yO))
  (yc (zy (aC (fV 0) (aC (zy (aC (fV 0) (aC (f2 (fV 3) (fC (.int 0)) ixP) (aC (f2 (fV 4) (fC (.int 0)) ixP) aN))) ym) (aC (zy (aC (fV 0) (aC (f2 (fV 4) (fC (.int 1)) ixP) (aC (fV 2) aN))) ym) aN))) ym)))))
def Zk:Fn:=fnR 5 3 zbA
abbrev zaB:List Str:=["way","one","other","parts","inner"]
theorem YM:FnScope zaB ["way","one","other"] (zG Z5):=⟨rfl,rfl,rfl,by decide +kernel,rfl,by decide +kernel,by decide +kernel⟩
def zaM:SF:=
 (zM (zW true 3 (zy (aC (fV 0) (aC (fV 2) aN)) yO))
  (zM (sIf (fT (f2 (f1 (f2 (fV 3) (fC (.int 1)) ixP) (yx yQ "deep")) (f1 (f2 (fV 3) (fC (.int 0)) ixP) (yx yQ "deep")) (zR .GtE))) (yc (zy (aC (fV 0) (aC (zy (aC (fV 0) (aC (fV 1) (aC (f2 (fV 3) (fC (.int 0)) ixP) aN))) ym) (aC (f2 (fV 3) (fC (.int 1)) ixP) aN))) ym)) sNx)
  (zM (zW true 4 (zy (aC (fV 0) (aC (f2 (fV 3) (fC (.int 0)) ixP) aN)) yO))
  (yc (zy (aC (fV 0) (aC (zy (aC (fV 0) (aC (fV 1) (aC (f2 (fV 4) (fC (.int 0)) ixP) aN))) ym) (aC (zy (aC (fV 0) (aC (f2 (fV 4) (fC (.int 1)) ixP) (aC (f2 (fV 3) (fC (.int 1)) ixP) aN))) ym) aN))) ym)))))
def vV:Fn:=fnR 5 3 zaM
abbrev zjZ:List Str:=["way","one","other"]
theorem znN:FnScope zjZ ["way","one","other"] (zG zcF):=⟨rfl,rfl,rfl,by decide +kernel,rfl,by decide +kernel,by decide +kernel⟩
def zjT:SF:=
 (zM (sIf (fT (f2 (f1 (fV 1) (yx yQ "deep")) (f2 (f1 (fV 2) (yx yQ "deep")) (fC (.int 1)) (zp .Add)) (zR .Gt))) (yc (zy (aC (fV 0) (aC (fV 1) (aC (fV 2) aN))) Zk)) sNx)
  (zM (sIf (fT (f2 (f1 (fV 2) (yx yQ "deep")) (f2 (f1 (fV 1) (yx yQ "deep")) (fC (.int 1)) (zp .Add)) (zR .Gt))) (yc (zy (aC (fV 0) (aC (fV 1) (aC (fV 2) aN))) vV)) sNx)
  (yc (zy (aC (fV 0) (aC (fV 1) (aC (fV 2) aN))) ym))))
def Xn:Fn:=fnR 3 3 zjT
abbrev zah:List Str:=["way","one","other","parts"]
theorem Y0:FnScope zah ["way","one","other"] (zG Yd):=⟨rfl,rfl,rfl,by decide +kernel,rfl,by decide +kernel,by decide +kernel⟩
def zaz(self:Fn):SF:=
 (zM (sIf (fT (f2 (fV 1) (fC .non) (zR .Is))) (yc (fV 2)) sNx)
  (zM (sIf (fT (f2 (fV 2) (fC .non) (zR .Is))) (yc (fV 1)) sNx)
  (zM (sIf (fT (f2 (f1 (fV 1) (yx yQ "deep")) (f2 (f1 (fV 2) (yx yQ "deep")) (fC (.int 1)) (zp .Add)) (zR .Gt))) (zM (zW true 3 (zy (aC (fV 0) (aC (fV 1) aN)) yO))
  (yc (zy (aC (fV 0) (aC (f2 (fV 3) (fC (.int 0)) ixP) (aC (zy (aC (fV 0) (aC (f2 (fV 3) (fC (.int 1)) ixP) (aC (fV 2) aN))) self) aN))) Xn))) sNx)
  (zM (sIf (fT (f2 (f1 (fV 2) (yx yQ "deep")) (f2 (f1 (fV 1) (yx yQ "deep")) (fC (.int 1)) (zp .Add)) (zR .Gt))) (zM (zW true 3 (zy (aC (fV 0) (aC (fV 2) aN)) yO))
  (yc (zy (aC (fV 0) (aC (zy (aC (fV 0) (aC (fV 1) (aC (f2 (fV 3) (fC (.int 0)) ixP) aN))) self) (aC (f2 (fV 3) (fC (.int 1)) ixP) aN))) Xn))) sNx)
  (yc (zy (aC (fV 0) (aC (fV 1) (aC (fV 2) aN))) ym))))))
def yw:Nat->Fn
 |0=>λ_=>none
 |n+1=>fnR 4 3 (zaz (yw n))
abbrev V7:List Str:=["algebra","join","nothing","a"]
theorem vW:FnScope V7 ["algebra"] (zG Zv):=⟨rfl,rfl,rfl,by decide +kernel,rfl,by decide +kernel,by decide +kernel⟩
def Zo:SF:=
 (zM (zW true 1 (f2 (fV 0) (fC (.int 2)) ixP))
  (zM (zW true 2 (f2 (fV 0) (fC (.int 3)) ixP))
  (zM (vh (xR (aC (f2 (fV 0) (fC (.int 0)) ixP) aN) xO) (gN 3) (sIf (Xq (fT (f2 (f2 (f2 (fV 1) (fV 2) ixP) (fV 3) ixP) (fV 3) (zR .NotEq))) (fT (f2 (f2 (f2 (fV 1) (fV 3) ixP) (fV 2) ixP) (fV 3) (zR .NotEq)))) (yc (wU (dC (fC (.str "nothing")) (dC (fV 3) dN)))) sNx))
  (yc (fC .non)))))
def vp:Fn:=fnR 4 1 Zo
abbrev zac:List Str:=["algebra","n","join","a","b","c"]
theorem xZ:FnScope zac ["algebra"] (zG Zt):=⟨rfl,rfl,rfl,by decide +kernel,rfl,by decide +kernel,by decide +kernel⟩
def YJ:SF:=
 (zM (zW true 1 (f2 (fV 0) (fC (.int 0)) ixP))
  (zM (zW true 2 (f2 (fV 0) (fC (.int 2)) ixP))
  (zM (vh (xR (aC (fV 1) aN) xO) (gN 3) (vh (xR (aC (fV 1) aN) xO) (gN 4) (vh (xR (aC (fV 1) aN) xO) (gN 5) (sIf (fT (f2 (f2 (f2 (fV 2) (f2 (f2 (fV 2) (fV 3) ixP) (fV 4) ixP) ixP) (fV 5) ixP) (f2 (f2 (fV 2) (fV 3) ixP) (f2 (f2 (fV 2) (fV 4) ixP) (fV 5) ixP) ixP) (zR .NotEq))) (yc (wU (dC (fC (.str "parting")) (dC (fV 3) (dC (fV 4) (dC (fV 5) dN)))))) sNx))))
  (yc (fC .non)))))
def vo:Fn:=fnR 6 1 YJ
abbrev zby:List Str:=["algebra","name","rows","n","m","join","a","i","b","j"]
theorem xG:FnScope zby ["algebra","name","rows"] (zG Yu):=⟨rfl,rfl,rfl,by decide +kernel,rfl,by decide +kernel,by decide +kernel⟩
def Wy:SF:=
 (zM (zW true 3 (f2 (fV 0) (fC (.int 0)) ixP))
  (zM (zW true 4 (f2 (fV 0) (fC (.int 1)) ixP))
  (zM (zW true 5 (f2 (fV 0) (fC (.int 2)) ixP))
  (zM (vh (xR (aC (fV 3) aN) xO) (gN 6) (vh (xR (aC (fV 4) aN) xO) (gN 7) (vh (xR (aC (fV 3) aN) xO) (gN 8) (vh (xR (aC (fV 4) aN) xO) (gN 9) (sIf (fT (f2 (f2 (f2 (fV 2) (f2 (f2 (fV 7) (fV 9) (zp .Add)) (fV 4) (zp .Mod)) ixP) (f2 (f2 (fV 5) (fV 6) ixP) (fV 8) ixP) ixP) (f2 (f2 (fV 5) (f2 (f2 (fV 2) (fV 7) ixP) (fV 6) ixP) ixP) (f2 (f2 (fV 2) (fV 9) ixP) (fV 8) ixP) ixP) (zR .NotEq))) (yc (wU (dC (fC (.str "doing")) (dC (fV 1) (dC (fV 6) (dC (fV 7) (dC (fV 8) (dC (fV 9) dN)))))))) sNx)))))
  (yc (fC .non))))))
def vz:Fn:=fnR 10 3 Wy
abbrev zcU:List Str:=["algebra","nothing","name","rows","fault"]
theorem Zc:FnScope zcU ["algebra"] (zG Xb):=⟨rfl,rfl,rfl,by decide +kernel,rfl,by decide +kernel,by decide +kernel⟩
def zcA:SF:=
 (zM (zW true 1 (f2 (fV 0) (fC (.int 3)) ixP))
  (zM (vh (zgZ (f2 (fV 0) (fC (.int 4)) ixP)) (gT 2 (gsC (gN 2) (gsC (gN 3) gsN))) (zM (sIf (fT (f2 (f2 (f2 (fV 3) (fC (.int 0)) ixP) (fV 1) ixP) (fV 1) (zR .NotEq))) (yc (wU (dC (fC (.str "empty")) (dC (fV 2) dN)))) sNx)
  (zM (zW true 4 (zy (aC (fV 0) (aC (fV 2) (aC (fV 3) aN))) vz))
  (sIf (fT (f2 (fV 4) (fC .non) (zR .IsNot))) (yc (fV 4)) sNx))))
  (yc (fC .non))))
def Yb:Fn:=fnR 5 1 zcA
abbrev zcD:List Str:=["algebra","fault"]
theorem Yv:FnScope zcD ["algebra"] (zG Xc):=⟨rfl,rfl,rfl,by decide +kernel,rfl,by decide +kernel,by decide +kernel⟩
def zcz:SF:=
 (zM (zW true 1 (zy (aC (fV 0) aN) vp))
  (zM (sIf (fT (f2 (fV 1) (fC .non) (zR .Is))) (zW true 1 (zy (aC (fV 0) aN) vo)) sNx)
  (zM (sIf (fT (f2 (fV 1) (fC .non) (zR .Is))) (zW true 1 (zy (aC (fV 0) aN) Yb)) sNx)
  (yc (fV 1)))))
def ZZ:Fn:=fnR 2 1 zcz
abbrev zaP:List Str:=["algebra","fault"]
theorem zad:FnScope zaP ["algebra"] (zG Z9):=⟨rfl,rfl,rfl,by decide +kernel,rfl,by decide +kernel,by decide +kernel⟩
def Xp:SF:=
 (zM (zW true 1 (zy (aC (fV 0) aN) ZZ))
  (sIf (fT (f2 (fV 1) (fC .non) (zR .IsNot))) sNo sNx))
def wR:Fn:=fnR 2 1 Xp
abbrev zlY:List Str:=["rows"]
theorem zqN:FnScope zlY ["rows"] (zG zfY):=⟨rfl,rfl,rfl,by decide +kernel,rfl,by decide +kernel,by decide +kernel⟩
theorem zog:(["row"]:List Str).Nodup:=by decide +kernel
def zoR:SF:=
 (yc (fP (aC (wu (zcg (fV 0)) [none] (gN 0) Yx (fP (aC (fV 0) aN) tupP)) aN) tupP))
def zaN:Fn:=fnR 1 1 zoR
abbrev zbH:List Str:=["_law_script","_law_k"]
theorem zfJ:FnScope zbH ["_law_script","_law_k"] (zG Yp):=⟨rfl,rfl,rfl,by decide +kernel,rfl,by decide +kernel,by decide +kernel⟩
def zbL:SF:=
 (zM (sIf (fT (f2 (fV 1) (fP (aC (fV 0) aN) vZ) (zR .Lt))) (yc (f2 (fV 0) (fV 1) ixP)) sNx)
  (yc (fC (.int 0))))
def zN:Fn:=fnR 2 2 zbL
abbrev zet:List Str:=["_law_cell","_law_k","_law_number"]
theorem Vy:FnScope zet ["_law_cell","_law_k"] (zG X8):=⟨rfl,rfl,rfl,by decide +kernel,rfl,by decide +kernel,by decide +kernel⟩
def zew:SF:=
 (zM (sIf (fT (f2 (f2 (fV 0) (fC (.int 2)) (zp .Mod)) (fC (.int 0)) (zR .Eq))) (yc (f2 (fV 0) (f2 (fC (.int 2)) (f2 (fC (.int 8)) (fV 1) (zp .Mult)) zty) (zp .FloorDiv))) sNx)
  (zM (zW true 2 (f2 (f2 (f2 (f2 (f2 (fV 0) (fC (.int 2147483647)) (zp .Mod)) (f2 (fC (.int 69621)) (fV 1) (zp .Mult)) (zp .Add)) (fC (.int 7919)) (zp .Add)) (fC (.int 48271)) (zp .Mult)) (fC (.int 2147483647)) (zp .Mod)))
  (zM (zW true 2 (f2 (f2 (fV 2) (fV 2) (zp .Mult)) (fC (.int 2147483629)) (zp .Mod)))
  (yc (f2 (f2 (f2 (fV 2) (fV 2) (zp .Mult)) (f2 (fC (.int 16807)) (fV 1) (zp .Mult)) (zp .Add)) (fC (.int 2147483587)) (zp .Mod))))))
def zu:Fn:=fnR 3 2 zew
abbrev X7:List Str:=["_law_cell","_law_many","_law_letters","_law_word","_law_long","_law_at","_law_step","_law_names_here","_law_k","_law_turn"]
theorem xU:FnScope X7 ["_law_cell","_law_many"] (zG ZQ):=⟨rfl,rfl,rfl,by decide +kernel,rfl,by decide +kernel,by decide +kernel⟩
theorem zfo:(["_law_j","_law_letters","_law_cell"]:List Str).Nodup:=by decide +kernel
theorem zfE:(["_law_k","_law_word","_law_cell"]:List Str).Nodup:=by decide +kernel
def zed:SF:=
 (zM (zW true 2 (fC (.str "abcdefghijklmnopqrstuvwxyz")))
  (zM (zW true 3 (zho .str (fC (.str "")) (aC (wu (xR (aC (fC (.int 8)) aN) xO) [none,some 2,some 0] (gN 0) Yx (f2 (fV 1) (f2 (zy (aC (fV 2) (aC (f2 (fC (.int 200)) (fV 0) (zp .Add)) aN)) zu) (fC (.int 26)) (zp .Mod)) ixP)) aN) zmE))
  (zM (sIf (fT (f2 (f2 (fV 0) (fC (.int 3)) (zp .Mod)) (fC (.int 0)) (zR .Eq))) (yc (wu (xR (aC (fV 1) aN) xO) [none,some 3,some 0] (gN 0) Yx (fSl (fV 1) oN (oS (f2 (fC (.int 1)) (f2 (f2 (fV 0) (f2 (fV 2) (fC (.int 3)) (zp .FloorDiv)) (zp .Add)) (fC (.int 8)) (zp .Mod)) (zp .Add))) slS))) sNx)
  (zM (zW true 4 (f2 (fC (.int 1)) (f2 (f2 (fV 0) (fC (.int 3)) (zp .FloorDiv)) (fC (.int 8)) (zp .Mod)) (zp .Add)))
  (zM (zW true 5 (f2 (f2 (fV 0) (fC (.int 24)) (zp .FloorDiv)) (fV 4) (zp .Mod)))
  (zM (zW true 6 (f2 (fC (.int 1)) (f2 (f2 (fV 0) (fC (.int 192)) (zp .FloorDiv)) (fC (.int 5)) (zp .Mod)) (zp .Add)))
  (zM (zW false 7 (wz dN))
  (zM (vh (xR (aC (fV 1) aN) xO) (gN 8) (zM (zW true 9 (f2 (fV 2) (f2 (f2 (zy (aC (fV 0) (aC (f2 (fC (.int 200)) (fV 5) (zp .Add)) aN)) zu) (f2 (fV 6) (fV 8) (zp .Mult)) (zp .Add)) (fC (.int 26)) (zp .Mod)) ixP))
  (wV (ZK 7 (dC (f2 (f2 (fSl (fV 3) oN (oS (fV 5)) slS) (fV 9) (zp .Add)) (fSl (fV 3) (oS (f2 (fV 5) (fC (.int 1)) (zp .Add))) (oS (fV 4)) slS) (zp .Add)) dN) Zh))))
  (yc (fV 7))))))))))
def vR:Fn:=fnR 10 2 zed
abbrev zhx:List Str:=["_law_kind","_law_n","_law_a","_law_b","_law_images"]
theorem zgw:FnScope zhx ["_law_kind","_law_n","_law_a","_law_b"] (zG zbk):=⟨rfl,rfl,rfl,by decide +kernel,rfl,by decide +kernel,by decide +kernel⟩
def zhy:SF:=
 (zM (sIf (fT (f2 (fV 0) (fC (.int 0)) (zR .Eq))) (yc (f2 (f2 (fV 2) (fV 3) (zp .Add)) (fV 1) (zp .Mod))) sNx)
  (zM (sIf (fT (f2 (fV 0) (fC (.int 1)) (zR .Eq))) (yc (fP (aC (fV 2) (aC (fV 3) aN)) zls)) sNx)
  (zM (sIf (fT (f2 (fV 0) (fC (.int 2)) (zR .Eq))) (yc (f2 (wz (dC (fV 3) (dC (fV 2) dN))) (fP (aC (f2 (fV 3) (fC (.int 0)) (zR .Eq)) aN) V6) ixP)) sNx)
  (zM (sIf (fT (f2 (fV 0) (fC (.int 3)) (zR .Eq))) (zM (zW true 4 (wz (dC (f2 (fV 3) (fC (.int 2)) (zp .FloorDiv)) (dC (f2 (fV 3) (fC (.int 2)) (zp .Mod)) dN))))
  (yc (f2 (f2 (fC (.int 2)) (f2 (fV 4) (f2 (fV 2) (fC (.int 2)) (zp .FloorDiv)) ixP) (zp .Mult)) (f2 (fV 4) (f2 (fV 2) (fC (.int 2)) (zp .Mod)) ixP) (zp .Add)))) sNx)
  (yc (f2 (f2 (fC (.int 3)) (f2 (f2 (f2 (fV 2) (fC (.int 3)) (zp .FloorDiv)) (f2 (fV 3) (fC (.int 3)) (zp .FloorDiv)) (zp .Add)) (fC (.int 2)) (zp .Mod)) (zp .Mult)) (f2 (wz (dC (f2 (fV 3) (fC (.int 3)) (zp .Mod)) (dC (f2 (fV 2) (fC (.int 3)) (zp .Mod)) dN))) (fP (aC (f2 (f2 (fV 3) (fC (.int 3)) (zp .Mod)) (fC (.int 0)) (zR .Eq)) aN) V6) ixP) (zp .Add)))))))
def xq:Fn:=fnR 5 4 zhy
abbrev zdI:List Str:=["_law_kind","_law_n","_law_cell","_law_c","_law_a","_law_k","_law_t","_law_images"]
theorem V3:FnScope zdI ["_law_kind","_law_n","_law_cell","_law_c","_law_a"] (zG Vd):=⟨rfl,rfl,rfl,by decide +kernel,rfl,by decide +kernel,by decide +kernel⟩
theorem ziQ:(["_law_j","_law_n","_law_cell"]:List Str).Nodup:=by decide +kernel
def zik:SF:=
 (zM (zW true 5 (zy (aC (fV 2) (aC (fC (.int 40)) aN)) zu))
  (zM (zW true 6 (zy (aC (fV 2) (aC (fC (.int 41)) aN)) zu))
  (zM (sIf (fT (f2 (fV 0) (fC (.int 0)) (zR .Eq))) (yc (f2 (f2 (f2 (fV 5) (fV 4) (zp .Mult)) (f2 (fV 6) (fV 3) (zp .Mult)) (zp .Add)) (fV 1) (zp .Mod))) sNx)
  (zM (sIf (fT (f2 (fV 0) (fC (.int 1)) (zR .Eq))) (zM (zW true 7 (fP (aC (wu (xR (aC (f2 (fV 1) (fC (.int 1)) (zp .Sub)) aN) xO) [none,some 1,some 2] (gN 0) Yx (f2 (zy (aC (fV 2) (aC (f2 (fC (.int 42)) (fV 0) (zp .Add)) aN)) zu) (fV 1) (zp .Mod))) aN) zmm))
  (yc (f2 (f2 (wz (dC (fC (.int 0)) dN)) (fV 7) (zp .Add)) (fV 4) ixP))) sNx)
  (zM (sIf (fT (f2 (fV 0) (fC (.int 2)) (zR .Eq))) (yc (f2 (wz (dC (f2 (fC (.int 1)) (f2 (zy (aC (fV 2) (aC (f2 (fC (.int 42)) (fV 4) (zp .Add)) aN)) zu) (f2 (fV 1) (fC (.int 1)) (zp .Sub)) (zp .Mod)) (zp .Add)) (dC (fC (.int 0)) dN))) (fP (aC (f2 (fV 4) (fC (.int 0)) (zR .Eq)) aN) V6) ixP)) sNx)
  (zM (sIf (fT (f2 (fV 0) (fC (.int 3)) (zR .Eq))) (yc (f2 (wz (dC (fV 4) (dC (f2 (f2 (f2 (fC (.int 2)) (f2 (fC (.int 1)) (f2 (fV 4) (fC (.int 2)) (zp .Mod)) (zp .Sub)) (zp .Mult)) (fC (.int 1)) (zp .Add)) (f2 (fV 4) (fC (.int 2)) (zp .FloorDiv)) (zp .Sub)) dN))) (f2 (fV 5) (fC (.int 2)) (zp .Mod)) ixP)) sNx)
  (yc (f2 (f2 (fC (.int 3)) (f2 (f2 (f2 (fV 5) (f2 (fV 4) (fC (.int 3)) (zp .FloorDiv)) (zp .Mult)) (f2 (fV 6) (fV 3) (zp .Mult)) (zp .Add)) (fC (.int 2)) (zp .Mod)) (zp .Mult)) (f2 (wz (dC (f2 (fC (.int 1)) (f2 (zy (aC (fV 2) (aC (f2 (fC (.int 42)) (f2 (fV 4) (fC (.int 3)) (zp .Mod)) (zp .Add)) aN)) zu) (fC (.int 2)) (zp .Mod)) (zp .Add)) (dC (fC (.int 0)) dN))) (fP (aC (f2 (f2 (fV 4) (fC (.int 3)) (zp .Mod)) (fC (.int 0)) (zR .Eq)) aN) V6) ixP) (zp .Add)))))))))
def vX:Fn:=fnR 8 5 zik
abbrev zep:List Str:=["_law_cell","_law_n","_law_left","_law_order_here","_law_k"]
theorem Xe:FnScope zep ["_law_cell","_law_n"] (zG X4):=⟨rfl,rfl,rfl,by decide +kernel,rfl,by decide +kernel,by decide +kernel⟩
def zeA:SF:=
 (zM (zW false 2 (fP (aC (fV 1) aN) lrP))
  (zM (zW false 3 (wz dN))
  (zM (vh (xR (aC (fV 1) aN) xO) (gN 4) (wV (ZK 3 (dC (ZK 2 (dC (f2 (zy (aC (fV 0) (aC (f2 (fC (.int 30)) (fV 4) (zp .Add)) aN)) zu) (fP (aC (fV 2) aN) vZ) (zp .Mod)) dN) zax) dN) Zh)))
  (yc (fV 3)))))
def ZM:Fn:=fnR 5 2 zeA
abbrev zfS:List Str:=["_law_kind","_law_n","_law_m","_law_cell","_law_order_here","_law_rows_here","_law_c","_law_row","_law_a"]
theorem YD:FnScope zfS ["_law_kind","_law_n","_law_m","_law_cell","_law_order_here"] (zG Vh):=⟨rfl,rfl,rfl,by decide +kernel,rfl,by decide +kernel,by decide +kernel⟩
def zgI:SF:=
 (zM (zW false 5 (wz dN))
  (zM (vh (xR (aC (fV 2) aN) xO) (gN 6) (zM (zW false 7 (f2 (wz (dC (fC (.int 0)) dN)) (fV 1) (zp .Mult)))
  (zM (vh (xR (aC (fV 1) aN) xO) (gN 8) (zgD 7 (xAt 4 (xV 8)) (f2 (fV 4) (zy (aC (fV 0) (aC (fV 1) (aC (fV 3) (aC (fV 6) (aC (fV 8) aN))))) vX) ixP)))
  (wV (ZK 5 (dC (fV 7) dN) Zh)))))
  (yc (fV 5))))
def vQ:Fn:=fnR 9 5 zgI
abbrev Zi:List Str:=["_law_cell","_law_kind","_law_n","_law_m","_law_order_here","_law_join","_law_a","_law_b","_law_many","_law_names_here","_law_deeds","_law_signs","_law_k"]
theorem yE:FnScope Zi ["_law_cell"] (zG wI):=⟨rfl,rfl,rfl,by decide +kernel,rfl,by decide +kernel,by decide +kernel⟩
theorem zdR:(["_law_a","_law_n"]:List Str).Nodup:=by decide +kernel
theorem zdK:(["_law_k","_law_names_here","_law_kind","_law_n","_law_m","_law_order_here","_law_cell"]:List Str).Nodup:=by decide +kernel
theorem zdV:(["_law_v","_law_cell","_law_k"]:List Str).Nodup:=by decide +kernel
def zbG:SF:=
 (zM (zW true 1 (f2 (zy (aC (fV 0) (aC (fC (.int 0)) aN)) zu) (fC (.int 5)) (zp .Mod)))
  (zM (zW true 2 (f2 (wz (dC (f2 (fC (.int 2)) (f2 (zy (aC (fV 0) (aC (fC (.int 1)) aN)) zu) (fC (.int 5)) (zp .Mod)) (zp .Add)) (dC (f2 (fC (.int 2)) (f2 (zy (aC (fV 0) (aC (fC (.int 1)) aN)) zu) (fC (.int 7)) (zp .Mod)) (zp .Add)) (dC (f2 (fC (.int 2)) (f2 (zy (aC (fV 0) (aC (fC (.int 1)) aN)) zu) (fC (.int 4)) (zp .Mod)) (zp .Add)) (dC (fC (.int 4)) (dC (fC (.int 6)) dN)))))) (fV 1) ixP))
  (zM (zW true 3 (f2 (wz (dC (fV 2) (dC (f2 (fC (.int 1)) (f2 (zy (aC (fV 0) (aC (fC (.int 2)) aN)) zu) (fC (.int 6)) (zp .Mod)) (zp .Add)) (dC (f2 (fC (.int 1)) (f2 (zy (aC (fV 0) (aC (fC (.int 2)) aN)) zu) (fC (.int 4)) (zp .Mod)) (zp .Add)) (dC (f2 (fC (.int 1)) (f2 (zy (aC (fV 0) (aC (fC (.int 2)) aN)) zu) (fC (.int 3)) (zp .Mod)) (zp .Add)) (dC (fC (.int 2)) dN)))))) (fV 1) ixP))
  (zM (zW true 4 (zy (aC (fV 0) (aC (fV 2) aN)) ZM))
  (zM (zW false 5 (wu (xR (aC (fV 2) aN) xO) [none,some 2] (gN 0) Yx (f2 (wz (dC (fC (.int 0)) dN)) (fV 1) (zp .Mult))))
  (zM (vh (xR (aC (fV 2) aN) xO) (gN 6) (vh (xR (aC (fV 2) aN) xO) (gN 7) (zbT 5 (xAt 4 (xV 6)) (xAt 4 (xV 7)) (f2 (fV 4) (zy (aC (fV 1) (aC (fV 2) (aC (fV 6) (aC (fV 7) aN)))) xq) ixP))))
  (zM (zW true 8 (f2 (fC (.int 1)) (f2 (zy (aC (fV 0) (aC (fC (.int 3)) aN)) zu) (fC (.int 3)) (zp .Mod)) (zp .Add)))
  (zM (zW true 9 (zy (aC (f2 (fV 0) (fC (.int 2147483647)) (zp .Mod)) (aC (fC (.int 3)) aN)) vR))
  (zM (zW true 10 (wu (xR (aC (fV 8) aN) xO) [none,some 9,some 1,some 2,some 3,some 4,some 0] (gN 0) Yx (wU (dC (f2 (fV 1) (fV 0) ixP) (dC (zy (aC (fV 2) (aC (fV 3) (aC (fV 4) (aC (f2 (fV 6) (f2 (fC (.int 7)) (fV 0) (zp .Mult)) (zp .Add)) (aC (fV 5) aN))))) vQ) dN)))))
  (zM (zW false 11 (wz dN))
  (zM (vh (xR (aC (f2 (fC (.int 1)) (f2 (zy (aC (fV 0) (aC (fC (.int 4)) aN)) zu) (fC (.int 2)) (zp .Mod)) (zp .Add)) aN) xO) (gN 12) (wV (ZK 11 (dC (wU (dC (f2 (fV 9) (f2 (fC (.int 2)) (fV 12) (zp .Sub)) ixP) (dC (wu (xR (aC (fV 2) aN) xO) [none,some 0,some 12] (gN 0) (fT (f2 (f2 (zy (aC (fV 1) (aC (f2 (f2 (fC (.int 80)) (f2 (fC (.int 9)) (fV 2) (zp .Mult)) (zp .Add)) (fV 0) (zp .Add)) aN)) zu) (fC (.int 3)) (zp .Mod)) (fC (.int 1)) (zR .Eq))) (fV 0)) dN))) dN) Zh)))
  (yc (wU (dC (fV 2) (dC (fV 3) (dC (fV 5) (dC (f2 (fV 4) (fP (aC (f2 (fV 1) (fC (.int 3)) (zR .Eq)) aN) V6) ixP) (dC (fV 10) (dC (fV 11) dN)))))))))))))))))))
def vB:Fn:=fnR 13 1 zbG
abbrev zgz:List Str:=["_law_algebra_here","_law_row","_law_value","_law_other"]
theorem Wb:FnScope zgz ["_law_algebra_here","_law_row"] (zG VH):=⟨rfl,rfl,rfl,by decide +kernel,rfl,by decide +kernel,by decide +kernel⟩
def zgj:SF:=
 (zM (sIf (fT (f2 (fV 1) (wz dN) (zR .Eq))) (yc (f2 (fV 0) (fC (.int 3)) ixP)) sNx)
  (zM (zW true 2 (f2 (fV 1) (fC (.int 0)) ixP))
  (zM (vh (zgZ (fSl (fV 1) (oS (fC (.int 1))) oN slP)) (gN 3) (zW true 2 (f2 (f2 (f2 (fV 0) (fC (.int 2)) ixP) (fV 2) ixP) (fV 3) ixP)))
  (yc (fV 2)))))
def xQ:Fn:=fnR 4 2 zgj
abbrev zej:List Str:=["_law_found"]
theorem zjd:FnScope zej ["_law_found"] (zG Wa):=⟨rfl,rfl,rfl,by decide +kernel,rfl,by decide +kernel,by decide +kernel⟩
def zek:SF:=
 (yc (zlN (zdi (fV 0) "int") (zpa (zdi (fV 0) "bool"))))
def xJ:Fn:=fnR 1 1 zek
abbrev zfW:List Str:=["_law_algebra_here","_law_found","_law_one_here","_law_other","_law_row"]
theorem We:FnScope zfW ["_law_algebra_here","_law_found"] (zG VF):=⟨rfl,rfl,rfl,by decide +kernel,rfl,by decide +kernel,by decide +kernel⟩
def zgB(self:Fn):SF:=
 (zM (sIf (Xq (Yw (fT (zdi (fV 1) "tuple"))) (Xq (zcH (fT (f2 (fP (aC (fV 1) aN) vZ) (fC (.int 1)) (zR .NotEq))) (fT (f2 (fP (aC (fV 1) aN) vZ) (fC (.int 3)) (zR .NotEq)))) (Yw (fT (zy (aC (f2 (fV 1) (fC (.int 0)) ixP) aN) xJ))))) (yc (fC .non)) sNx)
  (zM (sIf (fT (f2 (fP (aC (fV 1) aN) vZ) (fC (.int 1)) (zR .Eq))) (yc (wU (dC (fC (.int 0)) (dC (wz (dC (f2 (fV 1) (fC (.int 0)) ixP) dN)) dN)))) sNx)
  (zM (zW true 2 (zy (aC (fV 0) (aC (f2 (fV 1) (fC (.int 1)) ixP) aN)) self))
  (zM (zW true 3 (zy (aC (fV 0) (aC (f2 (fV 1) (fC (.int 2)) ixP) aN)) self))
  (zM (sIf (Xq (fT (f2 (fV 2) (fC .non) (zR .Is))) (Xq (fT (f2 (fV 3) (fC .non) (zR .Is))) (fT (f2 (fP (aC (f2 (f2 (fV 2) (fC (.int 0)) ixP) (f2 (fV 3) (fC (.int 0)) ixP) (zp .Sub)) aN) zqf) (fC (.int 1)) (zR .Gt))))) (yc (fC .non)) sNx)
  (zM (zW true 4 (f2 (f2 (fV 2) (fC (.int 1)) ixP) (f2 (fV 3) (fC (.int 1)) ixP) (zp .Add)))
  (zM (sIf (fT (f2 (f2 (fV 1) (fC (.int 0)) ixP) (zy (aC (fV 0) (aC (fV 4) aN)) xQ) (zR .NotEq))) (yc (fC .non)) sNx)
  (yc (wU (dC (f2 (fC (.int 1)) (fP (aC (f2 (fV 2) (fC (.int 0)) ixP) (aC (f2 (fV 3) (fC (.int 0)) ixP) aN)) zls) (zp .Add)) (dC (fV 4) dN)))))))))))
def wJ:Nat->Fn
 |0=>λ_=>none
 |n+1=>fnR 5 2 (zgB (wJ n))
abbrev zbJ:List Str:=["_law_way","_law_algebra_here","_law_tree","_law_row","_law_found","_law_walk","_law_gone_here"]
theorem Z1:FnScope zbJ ["_law_way","_law_algebra_here","_law_tree","_law_row"] (zG Yt):=⟨rfl,rfl,rfl,by decide +kernel,rfl,by decide +kernel,by decide +kernel⟩
def zbM:SF:=
 (zM (sIf (Xq (fT (f2 (zy (aC (fV 2) aN) vC) (fP (aC (fV 3) aN) vZ) (zR .NotEq))) (Yw (fT (zy (aC (zy (aC (fV 2) aN) vC) aN) xJ)))) (yc (fC (.bl false))) sNx)
  (zM (zW false 4 (zy (aC (fV 0) (aC (fV 2) aN)) vm))
  (zM (sIf (Xq (Yw (fT (zdi (fV 4) "list"))) (Xq (fT (f2 (fV 4) (fV 3) (zR .NotEq))) (fT (f2 (zy (aC (fV 0) (aC (fV 2) aN)) ZG) (zy (aC (fV 1) (aC (fV 3) aN)) xQ) (zR .NotEq))))) (yc (fC (.bl false))) sNx)
  (zM (wV (ZK 4 (dC (fC (.int 0)) dN) Zh))
  (zM (sIf (fT (f2 (zy (aC (fV 0) (aC (fV 2) aN)) vm) (fV 3) (zR .NotEq))) (yc (fC (.bl false))) sNx)
  (zM (zW true 5 (zy (aC (fV 0) (aC (fV 2) aN)) (vq 20)))
  (zM (sIf (fT (f2 (fV 3) (wz dN) (zR .Eq))) (yc (f2 (fV 5) (wU dN) (zR .Eq))) sNx)
  (zM (zW true 6 (zy (aC (fV 1) (aC (fV 5) aN)) (wJ 20)))
  (yc (zlN (f2 (fV 6) (fC .non) (zR .IsNot)) (f2 (f2 (fV 6) (fC (.int 1)) ixP) (fV 3) (zR .Eq))))))))))))
def yF:Fn:=fnR 7 4 zbM
abbrev zem:List Str:=["_law_cell","_law_many","_law_n","_law_row","_law_number","_law_k"]
theorem v4:FnScope zem ["_law_cell","_law_many","_law_n"] (zG X3):=⟨rfl,rfl,rfl,by decide +kernel,rfl,by decide +kernel,by decide +kernel⟩
def zen:SF:=
 (zM (zW false 3 (wz dN))
  (zM (zW true 4 (zy (aC (fV 0) (aC (fC (.int 0)) aN)) zu))
  (zM (vh (xR (aC (fV 1) aN) xO) (gN 5) (sIf (zcH (fT (f2 (f2 (fV 0) (fC (.int 2)) (zp .Mod)) (fC (.int 0)) (zR .Eq))) (fT (f2 (fV 5) (fC (.int 60)) (zR .Lt)))) (zM (wV (ZK 3 (dC (f2 (fV 4) (fV 2) (zp .Mod)) dN) Zh))
  (zW true 4 (f2 (fV 4) (fV 2) (zp .FloorDiv)))) (zM (zW true 4 (f2 (f2 (f2 (f2 (f2 (fV 4) (fC (.int 2147483647)) (zp .Mod)) (fC (.int 48271)) (zp .Mult)) (f2 (fV 5) (fV 5) (zp .Mult)) (zp .Add)) (fC (.int 7919)) (zp .Add)) (fC (.int 2147483629)) (zp .Mod)))
  (wV (ZK 3 (dC (f2 (f2 (f2 (f2 (fV 4) (fV 4) (zp .Mult)) (fC (.int 2147483647)) (zp .Mod)) (fC (.int 64)) (zp .FloorDiv)) (fV 2) (zp .Mod)) dN) Zh)))))
  (yc (fV 3)))))
def wW:Fn:=fnR 6 3 zen
abbrev zex:List Str:=["_law_way","_law_algebra_here","_law_one_here","_law_other","_law_first","_law_second"]
theorem VJ:FnScope zex ["_law_way","_law_algebra_here","_law_one_here","_law_other"] (zG Wh):=⟨rfl,rfl,rfl,by decide +kernel,rfl,by decide +kernel,by decide +kernel⟩
def zee:SF:=
 (zM (zW true 4 (zy (aC (fV 0) (aC (fV 2) aN)) (xN 20)))
  (zM (zW true 5 (zy (aC (fV 0) (aC (fV 3) aN)) (xN 20)))
  (zM (sIf (Yw (fT (zy (aC (fV 0) (aC (fV 1) (aC (zy (aC (fV 0) (aC (fV 4) (aC (fV 5) aN))) (yw 20)) (aC (f2 (fV 2) (fV 3) (zp .Add)) aN)))) yF))) (yc (fC (.bl false))) sNx)
  (zM (sIf (Yw (fT (zy (aC (fV 0) (aC (fV 1) (aC (zy (aC (fV 0) (aC (fV 5) (aC (fV 4) aN))) (yw 20)) (aC (f2 (fV 3) (fV 2) (zp .Add)) aN)))) yF))) (yc (fC (.bl false))) sNx)
  (yc (zlN (zy (aC (fV 0) (aC (fV 1) (aC (fV 4) (aC (fV 2) aN)))) yF) (zy (aC (fV 0) (aC (fV 1) (aC (fV 5) (aC (fV 3) aN)))) yF)))))))
def vO:Fn:=fnR 6 4 zee
abbrev Zn:List Str:=["self","algebra"]
theorem zdF:FnScope Zn ["self","algebra"] (zG wC):=⟨rfl,rfl,rfl,by decide +kernel,rfl,by decide +kernel,by decide +kernel⟩
theorem XQ:(["name","rows"]:List Str).Nodup:=by decide +kernel
theorem Xo:(["name","values"]:List Str).Nodup:=by decide +kernel
def YZ:IFn:=
 (Y8 (zqJ (zy (aC (fV 1) aN) wR))
  (Y8 (zaJ 0 Zy "size" (f2 (fV 1) (fC (.int 0)) ixP))
  (Y8 (zaJ 0 zbb "around" (f2 (fV 1) (fC (.int 1)) ixP))
  (Y8 (zaJ 0 zfp "table" (zy (aC (f2 (fV 1) (fC (.int 2)) ixP) aN) zaN))
  (Y8 (zaJ 0 zco "neutral" (f2 (fV 1) (fC (.int 3)) ixP))
  (Y8 (zaJ 0 zko "waits" (fP (aC (wu (zcg (f2 (fV 1) (fC (.int 4)) ixP)) [none,none] (gT 2 (gsC (gN 0) (gsC (gN 1) gsN))) Yx (wU (dC (fV 0) (dC (zy (aC (fV 1) aN) zaN) dN)))) aN) zeG))
  (zaJ 0 zge "holders" (fP (aC (wu (zcg (f2 (fV 1) (fC (.int 5)) ixP)) [none,none] (gT 2 (gsC (gN 0) (gsC (gN 1) gsN))) Yx (wU (dC (fV 0) (dC (fP (aC (fV 1) aN) tupP) dN)))) aN) zeG))))))))
def Zw(c:Str):Fn:=fnI c 2 2 YZ
abbrev zpQ:List Str:=["_law_script","_law_algebra_here","_law_way","_law_many","_law_one_here","_law_other","_law_row","_law_at","_law_tree"]
theorem WF:FnScope zpQ ["_law_script"] (zG zkE):=⟨rfl,rfl,rfl,by decide +kernel,rfl,by decide +kernel,by decide +kernel⟩
theorem zoz:(["_law_cell","_law_algebra_here"]:List Str).Nodup:=by decide +kernel
def zsA:SF:=
 (zM (zW true 1 (zy (aC (zy (aC (fV 0) (aC (fC (.int 0)) aN)) zN) aN) vB))
  (zM (zW true 2 (zy (aC (fV 1) aN) (Zw "Ways")))
  (zM (zW true 3 (wz (dC (f2 (zy (aC (fV 0) (aC (fC (.int 1)) aN)) zN) (fC (.int 151)) (zp .Mod)) (dC (f2 (zy (aC (fV 0) (aC (fC (.int 2)) aN)) zN) (fC (.int 151)) (zp .Mod)) dN))))
  (zM (sIf (fT (f2 (f2 (zy (aC (fV 0) (aC (fC (.int 3)) aN)) zN) (fC (.int 4)) (zp .Mod)) (fC (.int 1)) (zR .Eq))) (zW true 3 (wz (dC (f2 (zy (aC (fV 0) (aC (fC (.int 1)) aN)) zN) (fC (.int 3)) (zp .Mod)) (dC (f2 (zy (aC (fV 0) (aC (fC (.int 2)) aN)) zN) (fC (.int 298)) (zp .Mod)) dN)))) sNx)
  (zM (zW true 4 (zy (aC (zy (aC (fV 0) (aC (fC (.int 4)) aN)) zN) (aC (f2 (fV 3) (fC (.int 0)) ixP) (aC (f2 (fV 1) (fC (.int 0)) ixP) aN))) wW))
  (zM (zW true 5 (zy (aC (zy (aC (fV 0) (aC (fC (.int 5)) aN)) zN) (aC (f2 (fV 3) (fC (.int 1)) ixP) (aC (f2 (fV 1) (fC (.int 0)) ixP) aN))) wW))
  (zM (zW true 6 (wu (zcg (fSl (fV 0) (oS (fC (.int 8))) (oS (fC (.int 63))) slP)) [none,some 1] (gN 0) Yx (f2 (fV 0) (f2 (fV 1) (fC (.int 0)) ixP) (zp .Mod))))
  (zM (zW true 7 (f2 (zy (aC (fV 0) (aC (fC (.int 6)) aN)) zN) (f2 (fP (aC (fV 6) aN) vZ) (fC (.int 1)) (zp .Add)) (zp .Mod)))
  (zM (sIf (Xq (Yw (fT (zy (aC (fV 2) (aC (fV 1) (aC (fV 4) (aC (fV 5) aN)))) vO))) (Yw (fT (zy (aC (fV 2) (aC (fV 1) (aC (fSl (fV 6) oN (oS (fV 7)) slP) (aC (fSl (fV 6) (oS (fV 7)) oN slP) aN)))) vO)))) (yc (fC (.bl false))) sNx)
  (zM (zW true 8 (zy (aC (fV 2) (aC (fV 6) aN)) (xN 20)))
  (yc (zy (aC (fV 2) (aC (fV 1) (aC (zy (aC (fV 2) (aC (fV 8) (aC (fV 8) aN))) (yw 20)) (aC (f2 (fV 6) (fV 6) (zp .Add)) aN)))) yF))))))))))))
def zgK:Fn:=fnR 9 1 zsA
set_option genInjectivity false in
set_option genSizeOf false in
structure Adr where
 YT:Addr
 Y5:FuncData
 zdr:Addr
 zdT:FuncData
 zav:Addr
 zag:FuncData
 zdH:Addr
 zdx:FuncData
 zdh:Addr
 zdC:FuncData
 zdu:Addr
 zdP:FuncData
 XC:Addr
 XJ:FuncData
 zbV:Addr
 zcp:FuncData
 WM:Addr
 Ww:FuncData
 V2:Addr
 Vx:FuncData
 zaZ:Addr
 zai:FuncData
 zbW:Addr
 zcl:FuncData
 Vz:Addr
 Vs:FuncData
 zcf:Addr
 zbS:FuncData
 zgd:Addr
 zgn:FuncData
 zfV:Addr
 zgQ:FuncData
 zdo:Addr
 zdM:FuncData
 Wn:Addr
 WX:FuncData
 Xu:Addr
 Xy:FuncData
 zgP:Addr
 zgi:FuncData
 Xw:Addr
 XR:FuncData
 YQ:Addr
 YG:FuncData
 YH:Addr
 YW:FuncData
 Ws:Addr
 Wi:FuncData
 V4:Addr
 VG:FuncData
 Vn:Addr
 VP:FuncData
 Xz:Addr
 Xx:FuncData
 zmb:Addr
 zmg:FuncData
 Wr:Addr
 WL:FuncData
 zaw:Addr
 zaI:FuncData
 zat:Addr
 zaC:FuncData
 zdl:Addr
 zdY:FuncData
 zdN:Addr
 zdn:FuncData
 zap:Addr
 zaK:FuncData
 zch:Addr
 zcj:FuncData
 Wv:Addr
 Wt:FuncData
 zbQ:Addr
 zbZ:FuncData
 zaX:Addr
 zaV:FuncData
 zcd:Addr
 zbU:FuncData
 WW:Addr
 Wx:FuncData
 zam:Addr
 zas:FuncData
 zaG:Addr
 zaF:FuncData
 Y6:Addr
 YX:FuncData
 zom:Addr
 zow:FuncData
 WR:Addr
 YL:Addr
structure Txt(K:zD)(kd:KD)(mg:Str->Option Value)(t:Adr):Prop where
 zeU:Fun K "__init__" "Knot.__init__" Zu t.YT t.Y5
 Zx:Binds K t.Y5 ["self","whole","back","wait","turn","one","other"] []
 zdy:Fun K "leaf_of" "leaf_of" zbi t.zdr t.zdT
 zhz:Binds K t.zdT ["value"] []
 Yk:mg "leaf_of"=some (.ref t.zdr)
 zkv:Fun K "join" "Ways.join" Wd t.zav t.zag
 zkx:Binds K t.zag ["self","one","other"] []
 xM:Fun K "knot_of" "knot_of" zbd t.zdH t.zdx
 xX:Binds K t.zdx ["way","one","other"] []
 ym:mg "knot_of"=some (.ref t.zdH)
 Xk:Fun K "tree_of" "tree_of" zbm t.zdh t.zdC
 Vb:Binds K t.zdC ["way","row"] []
 xN:mg "tree_of"=some (.ref t.zdh)
 zdU:Fun K "size_of" "size_of" zbu t.zdu t.zdP
 zhT:Binds K t.zdP ["tree"] []
 vC:mg "size_of"=some (.ref t.zdu)
 zgl:Fun K "nothing" "Ways.nothing" ZW t.XC t.XJ
 zfy:Binds K t.XJ ["self"] []
 zfm:Fun K "whole_of" "whole_of" Vr t.zbV t.zcp
 zkY:Binds K t.zcp ["way","tree"] []
 ZG:mg "whole_of"=some (.ref t.zbV)
 zgW:Fun K "behind" "Ways.behind" Zm t.WM t.Ww
 zhh:Binds K t.Ww ["self","one","other"] []
 VL:Fun K "both_waits" "both_waits" Xd t.V2 t.Vx
 zdc:Binds K t.Vx ["way","one","other"] []
 wX:mg "both_waits"=some (.ref t.V2)
 zkp:Fun K "made" "Ways.made" X6 t.zaZ t.zai
 zkk:Binds K t.zai ["self","wait","value","many"] []
 zbR:Fun K "done_all" "done_all" V1 t.zbW t.zcl
 zfL:Binds K t.zcl ["way","tree","wait"] []
 vg:mg "done_all"=some (.ref t.zbW)
 V5:Fun K "turned_all" "turned_all" Xa t.Vz t.Vs
 zcW:Binds K t.Vs ["way","tree"] []
 wY:mg "turned_all"=some (.ref t.Vz)
 vM:Fun K "parts_of" "parts_of" Vg t.zcf t.zbS
 ZF:Binds K t.zbS ["way","knot"] []
 yO:mg "parts_of"=some (.ref t.zcf)
 zgg:Fun K "gather" "gather" zcO t.zgd t.zgn
 zkr:Binds K t.zgn ["way","tree","wait","turn","row"] []
 wK:mg "gather"=some (.ref t.zgd)
 zfM:Fun K "row_of" "row_of" zcT t.zfV t.zgQ
 zkC:Binds K t.zgQ ["way","tree"] []
 vm:mg "row_of"=some (.ref t.zfV)
 zbv:Fun K "walk_of" "walk_of" zbg t.zdo t.zdM
 zdE:Binds K t.zdM ["way","tree"] []
 vq:mg "walk_of"=some (.ref t.zdo)
 zbK:Fun K "leaned_left" "leaned_left" Yq t.Wn t.WX
 zhi:Binds K t.WX ["way","one","other"] []
 Zk:mg "leaned_left"=some (.ref t.Wn)
 zaS:Fun K "leaned_right" "leaned_right" Z5 t.Xu t.Xy
 zgT:Binds K t.Xy ["way","one","other"] []
 vV:mg "leaned_right"=some (.ref t.Xu)
 zfK:Fun K "evened" "evened" zcF t.zgP t.zgi
 zjQ:Binds K t.zgi ["way","one","other"] []
 Xn:mg "evened"=some (.ref t.zgP)
 wO:Fun K "put_together" "put_together" Yd t.Xw t.XR
 vP:Binds K t.XR ["way","one","other"] []
 yw:mg "put_together"=some (.ref t.Xw)
 zaa:Fun K "nothing_fails" "nothing_fails" Zv t.YQ t.YG
 zeT:Binds K t.YG ["algebra"] []
 vp:mg "nothing_fails"=some (.ref t.YQ)
 zab:Fun K "parting_fails" "parting_fails" Zt t.YH t.YW
 zeM:Binds K t.YW ["algebra"] []
 vo:mg "parting_fails"=some (.ref t.YH)
 zbB:Fun K "doing_fails" "doing_fails" Yu t.Ws t.Wi
 zgU:Binds K t.Wi ["algebra","name","rows"] []
 vz:mg "doing_fails"=some (.ref t.Ws)
 zcR:Fun K "deeds_fail" "deeds_fail" Xb t.V4 t.VG
 ziv:Binds K t.VG ["algebra"] []
 Yb:mg "deeds_fail"=some (.ref t.V4)
 zcY:Fun K "what_fails" "what_fails" Xc t.Vn t.VP
 zjD:Binds K t.VP ["algebra"] []
 ZZ:mg "what_fails"=some (.ref t.Vn)
 zba:Fun K "check_let_by" "check_let_by" Z9 t.Xz t.Xx
 zgq:Binds K t.Xx ["algebra"] []
 wR:mg "check_let_by"=some (.ref t.Xz)
 zkZ:Fun K "firm" "firm" zfY t.zmb t.zmg
 zqr:Binds K t.zmg ["rows"] []
 zaN:mg "firm"=some (.ref t.zmb)
 yZ:Fun K "_law_cell_at" "_law_cell_at" Yp t.Wr t.WL
 xu:Binds K t.WL ["_law_script","_law_k"] []
 zN:mg "_law_cell_at"=some (.ref t.Wr)
 yr:Fun K "_law_mixed" "_law_mixed" X8 t.zaw t.zaI
 yu:Binds K t.zaI ["_law_cell","_law_k"] []
 zu:mg "_law_mixed"=some (.ref t.zaw)
 zeo:Fun K "_law_names" "_law_names" ZQ t.zat t.zaC
 zks:Binds K t.zaC ["_law_cell","_law_many"] []
 vR:mg "_law_names"=some (.ref t.zat)
 zhw:Fun K "_law_two" "_law_two" zbk t.zdl t.zdY
 znI:Binds K t.zdY ["_law_kind","_law_n","_law_a","_law_b"] []
 xq:mg "_law_two"=some (.ref t.zdl)
 zij:Fun K "_law_one" "_law_one" Vd t.zdN t.zdn
 znS:Binds K t.zdn ["_law_kind","_law_n","_law_cell","_law_c","_law_a"] []
 vX:mg "_law_one"=some (.ref t.zdN)
 zeC:Fun K "_law_order" "_law_order" X4 t.zap t.zaK
 zkL:Binds K t.zaK ["_law_cell","_law_n"] []
 ZM:mg "_law_order"=some (.ref t.zap)
 zfH:Fun K "_law_rows" "_law_rows" Vh t.zch t.zcj
 zlG:Binds K t.zcj ["_law_kind","_law_n","_law_m","_law_cell","_law_order_here"] []
 vQ:mg "_law_rows"=some (.ref t.zch)
 zbI:Fun K "_law_algebra" "_law_algebra" wI t.Wv t.Wt
 zhk:Binds K t.Wt ["_law_cell"] []
 vB:mg "_law_algebra"=some (.ref t.Wv)
 zcm:Fun K "_law_come" "_law_come" VH t.zbQ t.zbZ
 zgM:Binds K t.zbZ ["_law_algebra_here","_law_row"] []
 xQ:mg "_law_come"=some (.ref t.zbQ)
 zaE:Fun K "_law_whole" "_law_whole" Wa t.zaX t.zaV
 zei:Binds K t.zaV ["_law_found"] []
 xJ:mg "_law_whole"=some (.ref t.zaX)
 Vl:Fun K "_law_gone" "_law_gone" VF t.zcd t.zbU
 zbX:Binds K t.zbU ["_law_algebra_here","_law_found"] []
 wJ:mg "_law_gone"=some (.ref t.zcd)
 vD:Fun K "_law_is_tree" "_law_is_tree" Yt t.WW t.Wx
 Ze:Binds K t.Wx ["_law_way","_law_algebra_here","_law_tree","_law_row"] []
 yF:mg "_law_is_tree"=some (.ref t.WW)
 zaQ:Fun K "_law_drawn" "_law_drawn" X3 t.zam t.zas
 zeH:Binds K t.zas ["_law_cell","_law_many","_law_n"] []
 wW:mg "_law_drawn"=some (.ref t.zam)
 zaO:Fun K "_law_right" "_law_right" Wh t.zaG t.zaF
 zeb:Binds K t.zaF ["_law_way","_law_algebra_here","_law_one_here","_law_other"] []
 vO:mg "_law_right"=some (.ref t.zaG)
 zeL:Fun K "__init__" "Ways.__init__" wC t.Y6 t.YX
 zeV:Binds K t.YX ["self","algebra"] []
 zvK:Fun K "law" "law" zkE t.zom t.zow
 zwE:Binds K t.zow ["_law_script"] []
 zgK:mg "law"=some (.ref t.zom)
 wQ:CI K kd mg "Knot" t.WR
 Yn:CI K kd mg "Ways" t.YL
 Zr:Meth K t.WR "__init__" t.YT
 zeS:Meth K t.YL "__init__" t.Y6
 zjO:Meth K t.YL "join" t.zav
 zgR:Meth K t.YL "nothing" t.XC
 zgX:Meth K t.YL "behind" t.WM
 zkd:Meth K t.YL "made" t.zaZ
 zit:wB K t.WR "whole"
 zky:wB K t.WR "back"
 zkT:wB K t.WR "wait"
 zjN:wB K t.WR "turn"
 zmk:wB K t.WR "one"
 zju:wB K t.WR "other"
 zjV:wB K t.WR "deep"
 zkg:wB K t.WR "size"
 zkm:wB K t.YL "size"
 ziG:wB K t.YL "table"
 zgE:wB K t.YL "neutral"
 zgY:wB K t.YL "around"
 zjs:wB K t.YL "waits"
 zfQ:wB K t.YL "holders"
 zvM:mg "abs"=none
 zua:mg "bool"=none
 zpY:mg "dict"=none
 zid:mg "int"=none
 Xh:mg "isinstance"=none
 zbC:mg "len"=none
 zqx:mg "list"=none
 zoq:mg "max"=none
 xg:mg "range"=none
 zpV:mg "sorted"=none
 zbn:mg "tuple"=none
 zvA:mg "zip"=none
set_option maxHeartbeats 8000000
section
variable{P:Program}{w:World}{K:zD}{mg:Str->Option Value}{base:Heap}{kd:KD}{t:Adr}
theorem Yr(T:Txt K kd mg t):CF K kd wF "whole":=(Z4 T.wQ T.zit Yl)
theorem zfB(T:Txt K kd mg t):CF K kd VR "back":=(Z4 T.wQ T.zky Yl)
theorem zce(T:Txt K kd mg t):CF K kd vY "wait":=(Z4 T.wQ T.zkT Yl)
theorem zfF(T:Txt K kd mg t):CF K kd Wc "turn":=(Z4 T.wQ T.zjN Yl)
theorem zhq(T:Txt K kd mg t):CF K kd Vu "one":=(Z4 T.wQ T.zmk Yl)
theorem zbs(T:Txt K kd mg t):CF K kd Ye "other":=(Z4 T.wQ T.zju Yl)
theorem vG(T:Txt K kd mg t):CF K kd yQ "deep":=(Z4 T.wQ T.zjV Yl)
theorem zbY(T:Txt K kd mg t):CF K kd Zy "size":=(Z4 T.wQ T.zkg (Z4 T.Yn T.zkm Yl))
theorem zmG(T:Txt K kd mg t):CF K kd zfp "table":=(Z4 T.Yn T.ziG Yl)
theorem zhP(T:Txt K kd mg t):CF K kd zco "neutral":=(Z4 T.Yn T.zgE Yl)
theorem zjG(T:Txt K kd mg t):CF K kd zbb "around":=(Z4 T.Yn T.zgY Yl)
theorem zrV(T:Txt K kd mg t):CF K kd zko "waits":=(Z4 T.Yn T.zjs Yl)
theorem znw(T:Txt K kd mg t):CF K kd zge "holders":=(Z4 T.Yn T.zfQ Yl)
theorem Zq(T:Txt K kd mg t)(hkd:KD1 P w K kd)(c:Str):FnOk P w K mg base CX0 1 t.YT t.Y5 ["self","whole","back","wait","turn","one","other"] (spI K kd c (yS c)):=by
 refine zqk (N:=V9) (ps:=["self","whole","back","wait","turn","one","other"]) (k:=0) (b:=Y7) T.zeU zdZ (by decide) λcdv A outer s H E hr=>?_
 exact(wL (vK (Yr T) (pv 0) (av 1) rfl) (wL (vK (zfB T) (pv 0) (av 2) rfl) (wL (vK (zce T) (pv 0) (av 3) rfl) (wL (vK (zfF T) (pv 0) (av 4) rfl) (wL (vK (zhq T) (pv 0) (av 5) rfl) (wL (vK (zbs T) (pv 0) (av 6) rfl) (wL (vK (vG T) (pv 0) (zhI (zY (zT (hkd _ rfl rfl rfl) (yf hr) .Is) (zO .Is) (av 5) aZ (zU _)) aI (zq (zr .Add) aI (ZC (zdz rfl) rfl T.zoq Bt.max (zb (yd (vG T) (av 5) rfl) (zb (yd (vG T) (av 6) rfl) zm (za rfl)) (za rfl)) (Bt.n _ rfl) (by decide) rfl rfl))) rfl) (znu (vK (zbY T) (pv 0) (zhI (zY (zT (hkd _ rfl rfl rfl) (yf hr) .Is) (zO .Is) (av 5) aZ (zU _)) aI (zq (zr .Add) (yd (zbY T) (av 5) rfl) (yd (zbY T) (av 6) rfl))) rfl)))))))))
theorem zif(T:Txt K kd mg t)(hkd:KD1 P w K kd):FnOk P w K mg base CX0 3 t.zdr t.zdT ["value"] (spD K kd Yk):=by
 refine yW (N:=zhv) (ps:=["value"]) (k:=2) (c:=zil) T.zdy zle λcdv A outer s H E hr=>?_
 exact(zx (zK (zdd T.wQ.eq (T.wQ.mk' T.Zr) (Zq T hkd "Knot") (hr.mono (by omega)) rfl T.wQ.mg T.Zx zJ (by refine zb ?_ ?_ ?_;exact(av 0);refine zb ?_ ?_ ?_;exact(av 0);refine zb ?_ ?_ ?_;exact aZ;refine zb ?_ ?_ ?_;exact aB;refine zb ?_ ?_ ?_;exact aZ;refine zb ?_ ?_ ?_;exact aZ;exact zm;exact za rfl;exact za rfl;exact za rfl;exact za rfl;exact za rfl;exact za rfl) (by decide) rfl rfl)))
theorem zjM(T:Txt K kd mg t)(hkd:KD1 P w K kd):FnOk P w K mg base CX0 1 t.zav t.zag ["self","one","other"] (spD K kd zaY):=by
 refine yW (N:=zeD) (ps:=["self","one","other"]) (k:=0) (c:=zes) T.zkv ziY λcdv A outer s H E hr=>?_
 exact(zx (zK (ax hkd (ax hkd (yd (zmG T) (av 0) rfl) (av 1)) (av 2))))
theorem zpB(T:Txt K kd mg t)(hkd:KD1 P w K kd):MT P w K mg base kd "join" 1 zdb:=(zjt T.Yn T.zjO (zjM T hkd) (by decide) T.zkx zjz)
theorem xY(T:Txt K kd mg t)(hkd:KD1 P w K kd):FnOk P w K mg base CX0 3 t.zdH t.zdx ["way","one","other"] (spD K kd ym):=by
 refine yW (N:=zhL) (ps:=["way","one","other"]) (k:=2) (c:=zia) T.xM zlE λcdv A outer s H E hr=>?_
 exact(zx (zK (zdd T.wQ.eq (T.wQ.mk' T.Zr) (Zq T hkd "Knot") (hr.mono (by omega)) rfl T.wQ.mg T.Zx zJ (by refine zb ?_ ?_ ?_;exact(zdD (zpB T hkd) (hr.mono (by omega)) zJ (av 0) (zb (yd (Yr T) (av 1) rfl) (zb (yd (Yr T) (av 2) rfl) zm (za rfl)) (za rfl)) rfl rfl rfl);refine zb ?_ ?_ ?_;exact(zdD (zpB T hkd) (hr.mono (by omega)) zJ (av 0) (zb (yd (zfB T) (av 2) rfl) (zb (yd (zfB T) (av 1) rfl) zm (za rfl)) (za rfl)) rfl rfl rfl);refine zb ?_ ?_ ?_;exact aZ;refine zb ?_ ?_ ?_;exact aB;refine zb ?_ ?_ ?_;exact(av 1);refine zb ?_ ?_ ?_;exact(av 2);exact zm;exact za rfl;exact za rfl;exact za rfl;exact za rfl;exact za rfl;exact za rfl) (by decide) rfl rfl)))
theorem zbc(T:Txt K kd mg t)(hkd:KD1 P w K kd):∀n:Nat,FnOk P w K mg base CX0 (3+n) t.zdh t.zdC ["way","row"] (spD K kd (xN n))
 |0=>zeX
 |n+1=>by
  have G:=zbc T hkd n
  refine yW (N:=zih) (ps:=["way","row"]) (k:=3+n) (c:=zhN (xN n)) T.Xk zfI λcdv A outer s H E hr=>?_
  exact(by
  refine zj ?_ ?_;exact(yI (zY (zT (hkd _ rfl rfl rfl) (yf hr) .Eq) (zO .Eq) (ZC (vA (hkd _ rfl rfl rfl)) rfl T.zbC Bt.len (zb (av 1) zm (za rfl)) (Bt.n _ rfl) (by decide) rfl rfl) aI (zU _)) (zx (zK aZ)) zX)
  refine zj ?_ ?_;exact(yI (zY (zT (hkd _ rfl rfl rfl) (yf hr) .Eq) (zO .Eq) (ZC (vA (hkd _ rfl rfl rfl)) rfl T.zbC Bt.len (zb (av 1) zm (za rfl)) (Bt.n _ rfl) (by decide) rfl rfl) aI (zU _)) (zx (zK (zE (zif T hkd) (hr.mono (by omega)) rfl T.Yk T.zdy.kp T.zhz zJ (zb (ax hkd (av 1) aI) zm (za rfl)) (by decide) rfl rfl))) zX)
  refine zj ?_ ?_;exact(by refine sv true 2 zfI.nd ?_;exact(zq (zr .FloorDiv) (ZC (vA (hkd _ rfl rfl rfl)) rfl T.zbC Bt.len (zb (av 1) zm (za rfl)) (Bt.n _ rfl) (by decide) rfl rfl) aI))
  exact zx (zK (zE (xY T hkd) (hr.mono (by omega)) rfl T.ym T.xM.kp T.xX zJ (by refine zb ?_ ?_ ?_;exact(av 0);refine zb ?_ ?_ ?_;exact(zE G (hr.mono (by omega)) rfl T.xN T.Xk.kp T.Vb zJ (zb (av 0) (zb (W3 (av 1) Vk (ZS (av 2))) zm (za rfl)) (za rfl)) (by decide) rfl rfl);refine zb ?_ ?_ ?_;exact(zE G (hr.mono (by omega)) rfl T.xN T.Xk.kp T.Vb zJ (zb (av 0) (zb (W3 (av 1) (ZS (av 2)) Vk) zm (za rfl)) (za rfl)) (by decide) rfl rfl);exact zm;exact za rfl;exact za rfl;exact za rfl) (by decide) rfl rfl)))
theorem zhJ(T:Txt K kd mg t)(hkd:KD1 P w K kd):FnOk P w K mg base CX0 1 t.zdu t.zdP ["tree"] (spD K kd vC):=by
 refine yW (N:=zhu) (ps:=["tree"]) (k:=0) (c:=zhr) T.zdU zmf λcdv A outer s H E hr=>?_
 exact(zx (zK (zhI (zY (zT (hkd _ rfl rfl rfl) (yf hr) .Is) (zO .Is) (av 0) aZ (zU _)) aI (yd (zbY T) (av 0) rfl))))
theorem zfA(T:Txt K kd mg t)(hkd:KD1 P w K kd):FnOk P w K mg base CX0 1 t.XC t.XJ ["self"] (spD K kd XM):=by
 refine yW (N:=zak) (ps:=["self"]) (k:=0) (c:=zaA) T.zgl zeJ λcdv A outer s H E hr=>?_
 exact(zx (zK (yd (zhP T) (av 0) rfl)))
theorem znD(T:Txt K kd mg t)(hkd:KD1 P w K kd):MT P w K mg base kd "nothing" 1 zgu:=(zjt T.Yn T.zgR (zfA T hkd) (by decide) T.zfy zjz)
theorem zmh(T:Txt K kd mg t)(hkd:KD1 P w K kd):FnOk P w K mg base CX0 2 t.zbV t.zcp ["way","tree"] (spD K kd ZG):=by
 refine yW (N:=zgv) (ps:=["way","tree"]) (k:=1) (c:=zfj) T.zfm zjX λcdv A outer s H E hr=>?_
 exact(zx (zK (zhI (zY (zT (hkd _ rfl rfl rfl) (yf hr) .Is) (zO .Is) (av 1) aZ (zU _)) (zrF (znD T hkd) (hr.mono (by omega)) zJ (av 0) rfl) (yd (Yr T) (av 1) rfl))))
theorem zha(T:Txt K kd mg t)(hkd:KD1 P w K kd):FnOk P w K mg base CX0 1 t.WM t.Ww ["self","one","other"] (spD K kd WN):=by
 refine yW (N:=Wm) (ps:=["self","one","other"]) (k:=0) (c:=zbF) T.zgW zgy λcdv A outer s H E hr=>?_
 exact(zx (zK (YF Ve rfl T.zbn Bt.tuple (zb (Xf (N:=["row","then"]) (cap:=[none,none]) (S:=[0,1]) rfl (zsb rfl T.zvA (zb (av 1) (zb (av 2) zm (za rfl)) (za rfl)) rfl rfl) rfl (by change YC _ Wm _ (zG Zm).names _=true;decide +kernel) (by decide) (λcl s H fp=>(zje rfl (Yy (an 0 W0) (Yy (an 1 W0) zeY rfl) rfl) rfl rfl)) (λcl s H fp=>Z6) (λcl s H fp=>(YF Ve rfl T.zbn Bt.tuple (zb (Xf (N:=["a","then"]) (cap:=[none,some 1]) (S:=[0]) rfl (zfZ (av 0)) rfl (by with_unfolding_all rfl) (by decide) (λcl s H fp=>(an 0 zdL)) (λcl s H fp=>Z6) (λcl s H fp=>(ax hkd (av 1) (av 0))) (λ_=>rfl)) zm (za rfl)) (Bt.n _ rfl) (by decide) rfl rfl)) (λ_=>rfl)) zm (za rfl)) (Bt.n _ rfl) (by decide) rfl rfl)))
theorem zpl(T:Txt K kd mg t)(hkd:KD1 P w K kd):MT P w K mg base kd "behind" 1 zhR:=(zjt T.Yn T.zgX (zha T hkd) (by decide) T.zhh zjz)
theorem zcX(T:Txt K kd mg t)(hkd:KD1 P w K kd):FnOk P w K mg base CX0 2 t.V2 t.Vx ["way","one","other"] (spD K kd wX):=by
 refine yW (N:=zcE) (ps:=["way","one","other"]) (k:=1) (c:=zcN) T.VL zhc λcdv A outer s H E hr=>?_
 exact(by
  refine zj ?_ ?_;exact(yI (zY (zT (hkd _ rfl rfl rfl) (yf hr) .Is) (zO .Is) (av 1) aZ (zU _)) (zx (zK (av 2))) zX)
  refine zj ?_ ?_;exact(yI (zY (zT (hkd _ rfl rfl rfl) (yf hr) .Is) (zO .Is) (av 2) aZ (zU _)) (zx (zK (av 1))) zX)
  exact zx (zK (zdD (zpl T hkd) (hr.mono (by omega)) zJ (av 0) (zb (av 1) (zb (av 2) zm (za rfl)) (za rfl)) rfl rfl rfl)))
theorem zkc(T:Txt K kd mg t)(hkd:KD1 P w K kd):FnOk P w K mg base CX0 1 t.zaZ t.zai ["self","wait","value","many"] (spD K kd zaT):=by
 refine yW (N:=zey) (ps:=["self","wait","value","many"]) (k:=0) (c:=zeg) T.zkp zjc λcdv A outer s H E hr=>?_
 exact(zx (zK (ax hkd (ax hkd (av 1) (zq (zr .Mod) (av 3) (yd (zjG T) (av 0) rfl))) (av 2))))
theorem zmc(T:Txt K kd mg t)(hkd:KD1 P w K kd):MT P w K mg base kd "made" 1 zbr:=(zjt T.Yn T.zkd (zkc T hkd) (by decide) T.zkk zjz)
theorem zfR(T:Txt K kd mg t)(hkd:KD1 P w K kd):FnOk P w K mg base CX0 4 t.zbW t.zcl ["way","tree","wait"] (spD K kd vg):=by
 refine yW (N:=zfz) (ps:=["way","tree","wait"]) (k:=3) (c:=zfN) T.zbR zaW λcdv A outer s H E hr=>?_
 exact(by
  refine zj ?_ ?_;exact(yI (zY (zT (hkd _ rfl rfl rfl) (yf hr) .Is) (zO .Is) (av 1) aZ (zU _)) (zx (zK aZ)) zX)
  refine zj ?_ ?_;exact(by refine sv true 3 zaW.nd ?_;exact(zdD (zmc T hkd) (hr.mono (by omega)) zJ (av 0) (by refine zb ?_ ?_ ?_;exact(av 2);refine zb ?_ ?_ ?_;exact(yd (Yr T) (av 1) rfl);refine zb ?_ ?_ ?_;exact(yd (zbY T) (av 1) rfl);exact zm;exact za rfl;exact za rfl;exact za rfl) rfl rfl rfl))
  refine zj ?_ ?_;exact(yI (zY (zT (hkd _ rfl rfl rfl) (yf hr) .Eq) (zO .Eq) (yd (vG T) (av 1) rfl) aI (zU _)) (zx (zK (zE (zif T hkd) (hr.mono (by omega)) rfl T.Yk T.zdy.kp T.zhz zJ (zb (av 3) zm (za rfl)) (by decide) rfl rfl))) zX)
  refine zj ?_ ?_;exact(by refine sv true 4 zaW.nd ?_;exact(zdD (zmc T hkd) (hr.mono (by omega)) zJ (av 0) (by refine zb ?_ ?_ ?_;exact(av 2);refine zb ?_ ?_ ?_;exact(yd (zfB T) (av 1) rfl);refine zb ?_ ?_ ?_;exact(yd (zbY T) (av 1) rfl);exact zm;exact za rfl;exact za rfl;exact za rfl) rfl rfl rfl))
  exact zx (zK (zdd T.wQ.eq (T.wQ.mk' T.Zr) (Zq T hkd "Knot") (hr.mono (by omega)) rfl T.wQ.mg T.Zx zJ (by refine zb ?_ ?_ ?_;exact(av 3);refine zb ?_ ?_ ?_;exact(av 4);refine zb ?_ ?_ ?_;exact(zE (zcX T hkd) (hr.mono (by omega)) rfl T.wX T.VL.kp T.zdc zJ (by refine zb ?_ ?_ ?_;exact(av 0);refine zb ?_ ?_ ?_;exact(yd (zce T) (av 1) rfl);refine zb ?_ ?_ ?_;exact(av 2);exact zm;exact za rfl;exact za rfl;exact za rfl) (by decide) rfl rfl);refine zb ?_ ?_ ?_;exact(yd (zfF T) (av 1) rfl);refine zb ?_ ?_ ?_;exact(yd (zhq T) (av 1) rfl);refine zb ?_ ?_ ?_;exact(yd (zbs T) (av 1) rfl);exact zm;exact za rfl;exact za rfl;exact za rfl;exact za rfl;exact za rfl;exact za rfl) (by decide) rfl rfl)))
theorem zcw(T:Txt K kd mg t)(hkd:KD1 P w K kd):FnOk P w K mg base CX0 3 t.Vz t.Vs ["way","tree"] (spD K kd wY):=by
 refine yW (N:=zcZ) (ps:=["way","tree"]) (k:=2) (c:=zcP) T.V5 zhe λcdv A outer s H E hr=>?_
 exact(by
  refine zj ?_ ?_;exact(yI (zY (zT (hkd _ rfl rfl rfl) (yf hr) .Is) (zO .Is) (av 1) aZ (zU _)) (zx (zK aZ)) zX)
  exact zx (zK (zdd T.wQ.eq (T.wQ.mk' T.Zr) (Zq T hkd "Knot") (hr.mono (by omega)) rfl T.wQ.mg T.Zx zJ (by refine zb ?_ ?_ ?_;exact(yd (zfB T) (av 1) rfl);refine zb ?_ ?_ ?_;exact(yd (Yr T) (av 1) rfl);refine zb ?_ ?_ ?_;exact(yd (zce T) (av 1) rfl);refine zb ?_ ?_ ?_;exact(zoA (yd (zfF T) (av 1) rfl));refine zb ?_ ?_ ?_;exact(yd (zhq T) (av 1) rfl);refine zb ?_ ?_ ?_;exact(yd (zbs T) (av 1) rfl);exact zm;exact za rfl;exact za rfl;exact za rfl;exact za rfl;exact za rfl;exact za rfl) (by decide) rfl rfl)))
theorem ZJ(T:Txt K kd mg t)(hkd:KD1 P w K kd):FnOk P w K mg base CX0 5 t.zcf t.zbS ["way","knot"] (spD K kd yO):=by
 refine yW (N:=zfP) (ps:=["way","knot"]) (k:=4) (c:=zgH) T.vM YB λcdv A outer s H E hr=>?_
 exact(by
  refine zj ?_ ?_;exact(by refine sv true 2 YB.nd ?_;exact(yd (zhq T) (av 1) rfl))
  refine zj ?_ ?_;exact(by refine sv true 3 YB.nd ?_;exact(yd (zbs T) (av 1) rfl))
  refine zj ?_ ?_;exact(yI (zY (zT (hkd _ rfl rfl rfl) (yf hr) .IsNot) (zO .IsNot) (yd (zce T) (av 1) rfl) aZ (zU _)) (by
  refine zj ?_ ?_;exact(by refine sv true 2 YB.nd ?_;exact(zE (zfR T hkd) (hr.mono (by omega)) rfl T.vg T.zbR.kp T.zfL zJ (by refine zb ?_ ?_ ?_;exact(av 0);refine zb ?_ ?_ ?_;exact(av 2);refine zb ?_ ?_ ?_;exact(yd (zce T) (av 1) rfl);exact zm;exact za rfl;exact za rfl;exact za rfl) (by decide) rfl rfl))
  exact zx (by refine sv true 3 YB.nd ?_;exact(zE (zfR T hkd) (hr.mono (by omega)) rfl T.vg T.zbR.kp T.zfL zJ (by refine zb ?_ ?_ ?_;exact(av 0);refine zb ?_ ?_ ?_;exact(av 3);refine zb ?_ ?_ ?_;exact(yd (zce T) (av 1) rfl);exact zm;exact za rfl;exact za rfl;exact za rfl) (by decide) rfl rfl))) zX)
  refine zj ?_ ?_;exact(yI (WY (yd (zfF T) (av 1) rfl) (λ_=>rfl)) (zx (zK (wZ (zH (zE (zcw T hkd) (hr.mono (by omega)) rfl T.wY T.V5.kp T.zcW zJ (zb (av 0) (zb (av 3) zm (za rfl)) (za rfl)) (by decide) rfl rfl) (zH (zE (zcw T hkd) (hr.mono (by omega)) rfl T.wY T.V5.kp T.zcW zJ (zb (av 0) (zb (av 2) zm (za rfl)) (za rfl)) (by decide) rfl rfl) yp (za rfl)) (za rfl))))) zX)
  exact zx (zK (wZ (zH (av 2) (zH (av 3) yp (za rfl)) (za rfl)))))
theorem zkq(T:Txt K kd mg t)(hkd:KD1 P w K kd):∀n:Nat,FnOk P w K mg base CX0 (2+n) t.zgd t.zgn ["way","tree","wait","turn","row"] (zny K kd (wK n))
 |0=>zoW
 |n+1=>by
  have G:=zkq T hkd n
  refine zsQ (N:=zkA) (ps:=["way","tree","wait","turn","row"]) (k:=2+n) (c:=zct (wK n)) T.zgg Va (by decide) λcdv A outer s H E hr=>?_
  exact(znx (zY (zT (hkd _ rfl rfl rfl) (yf hr) .Eq) (zO .Eq) (yd (vG T) (av 1) rfl) aI (zU _)) (zrb (Vf ZL zal PySem.F.slot_list_append PySem.F.type_list_append (pv 4) (zH (zhI (zY (zT (hkd _ rfl rfl rfl) (yf hr) .Is) (zO .Is) (av 2) aZ (zU _)) (yd (Yr T) (av 1) rfl) (zdD (zmc T hkd) (hr.mono (by omega)) zJ (av 0) (by refine zb ?_ ?_ ?_;exact(av 2);refine zb ?_ ?_ ?_;exact(yd (Yr T) (av 1) rfl);refine zb ?_ ?_ ?_;exact aI;exact zm;exact za rfl;exact za rfl;exact za rfl) rfl rfl rfl)) yp (za rfl)) rfl rfl rfl rfl rfl) rfl) (by
  refine zfs ?_ ?_;exact(by refine svP true 5 (by decide) Va.nd ?_;exact(zE (zcX T hkd) (hr.mono (by omega)) rfl T.wX T.VL.kp T.zdc zJ (by refine zb ?_ ?_ ?_;exact(av 0);refine zb ?_ ?_ ?_;exact(yd (zce T) (av 1) rfl);refine zb ?_ ?_ ?_;exact(av 2);exact zm;exact za rfl;exact za rfl;exact za rfl) (by decide) rfl rfl))
  refine zfs ?_ ?_;exact(by refine svP true 6 (by decide) Va.nd ?_;exact(Vm (zT (hkd _ rfl rfl rfl) (yf hr) .NotEq) (yd (zfF T) (av 1) rfl) (av 3) (zU _)))
  refine zfs ?_ ?_;exact(by refine svP true 7 (by decide) Va.nd ?_;exact(zhI (WY (av 6) (λ_=>rfl)) (wZ (zH (yd (zbs T) (av 1) rfl) (zH (yd (zhq T) (av 1) rfl) yp (za rfl)) (za rfl))) (wZ (zH (yd (zhq T) (av 1) rfl) (zH (yd (zbs T) (av 1) rfl) yp (za rfl)) (za rfl)))))
  exact zms (ztA (by decide) PassesOwn.never rfl (zlz (av 7)) (an 8 Va.nd) (zms (zkw (i:=4) G (hr.mono (by omega)) rfl T.wK T.zgg.kp T.zkr zJ (by refine zb ?_ ?_ ?_;exact(av 0);refine zb ?_ ?_ ?_;exact(av 8);refine zb ?_ ?_ ?_;exact(av 5);refine zb ?_ ?_ ?_;exact(av 6);refine zb ?_ ?_ ?_;exact(av 4);exact zm;exact za rfl;exact za rfl;exact za rfl;exact za rfl;exact za rfl) (by decide) rfl rfl rfl)) (λ_=>rfl))))
theorem zkS(T:Txt K kd mg t)(hkd:KD1 P w K kd):FnOk P w K mg base CX0 23 t.zfV t.zgQ ["way","tree"] (spD K kd vm):=by
 refine yW (N:=zjI) (ps:=["way","tree"]) (k:=22) (c:=zjS) T.zfM zhX λcdv A outer s H E hr=>?_
 exact(by
  refine zj ?_ ?_;exact(by refine sv false 2 zhX.nd ?_;exact(wA yp))
  refine zj ?_ ?_;exact(yI (zY (zT (hkd _ rfl rfl rfl) (yf hr) .IsNot) (zO .IsNot) (av 1) aZ (zU _)) (zx (zpf (i:=2) (zkq T hkd 20) (hr.mono (by omega)) rfl T.wK T.zgg.kp T.zkr zJ (by refine zb ?_ ?_ ?_;exact(av 0);refine zb ?_ ?_ ?_;exact(av 1);refine zb ?_ ?_ ?_;exact aZ;refine zb ?_ ?_ ?_;exact aB;refine zb ?_ ?_ ?_;exact(av 2);exact zm;exact za rfl;exact za rfl;exact za rfl;exact za rfl;exact za rfl) (by decide) rfl rfl rfl)) zX)
  exact zx (zK (av 2)))
theorem zie(T:Txt K kd mg t)(hkd:KD1 P w K kd):∀n:Nat,FnOk P w K mg base CX0 (5+n) t.zdo t.zdM ["way","tree"] (spD K kd (vq n))
 |0=>zeX
 |n+1=>by
  have G:=zie T hkd n
  refine yW (N:=zht) (ps:=["way","tree"]) (k:=5+n) (c:=zhC (vq n)) T.zbv zfO λcdv A outer s H E hr=>?_
  exact(by
  refine zj ?_ ?_;exact(yI (zY (zT (hkd _ rfl rfl rfl) (yf hr) .Is) (zO .Is) (av 1) aZ (zU _)) (zx (zK (wZ yp))) zX)
  refine zj ?_ ?_;exact(yI (zY (zT (hkd _ rfl rfl rfl) (yf hr) .Eq) (zO .Eq) (yd (vG T) (av 1) rfl) aI (zU _)) (zx (zK (wZ (zH (yd (Yr T) (av 1) rfl) yp (za rfl))))) zX)
  refine zj ?_ ?_;exact(by refine sv true 2 zfO.nd ?_;exact(zE (ZJ T hkd) (hr.mono (by omega)) rfl T.yO T.vM.kp T.ZF zJ (zb (av 0) (zb (av 1) zm (za rfl)) (za rfl)) (by decide) rfl rfl))
  exact zx (zK (wZ (by refine zH ?_ ?_ ?_;exact(yd (Yr T) (av 1) rfl);refine zH ?_ ?_ ?_;exact(zE G (hr.mono (by omega)) rfl T.vq T.zbv.kp T.zdE zJ (zb (av 0) (zb (ax hkd (av 2) aI) zm (za rfl)) (za rfl)) (by decide) rfl rfl);refine zH ?_ ?_ ?_;exact(zE G (hr.mono (by omega)) rfl T.vq T.zbv.kp T.zdE zJ (zb (av 0) (zb (ax hkd (av 2) aI) zm (za rfl)) (za rfl)) (by decide) rfl rfl);exact yp;exact za rfl;exact za rfl;exact za rfl))))
theorem zhj(T:Txt K kd mg t)(hkd:KD1 P w K kd):FnOk P w K mg base CX0 6 t.Wn t.WX ["way","one","other"] (spD K kd Zk):=by
 refine yW (N:=zbD) (ps:=["way","one","other"]) (k:=5) (c:=zbA) T.zbK Xr λcdv A outer s H E hr=>?_
 exact(by
  refine zj ?_ ?_;exact(by refine sv true 3 Xr.nd ?_;exact(zE (ZJ T hkd) (hr.mono (by omega)) rfl T.yO T.vM.kp T.ZF zJ (zb (av 0) (zb (av 1) zm (za rfl)) (za rfl)) (by decide) rfl rfl))
  refine zj ?_ ?_;exact(yI (zY (zT (hkd _ rfl rfl rfl) (yf hr) .GtE) (zO .GtE) (yd (vG T) (ax hkd (av 3) aI) rfl) (yd (vG T) (ax hkd (av 3) aI) rfl) (zU _)) (zx (zK (zE (xY T hkd) (hr.mono (by omega)) rfl T.ym T.xM.kp T.xX zJ (by refine zb ?_ ?_ ?_;exact(av 0);refine zb ?_ ?_ ?_;exact(ax hkd (av 3) aI);refine zb ?_ ?_ ?_;exact(zE (xY T hkd) (hr.mono (by omega)) rfl T.ym T.xM.kp T.xX zJ (by refine zb ?_ ?_ ?_;exact(av 0);refine zb ?_ ?_ ?_;exact(ax hkd (av 3) aI);refine zb ?_ ?_ ?_;exact(av 2);exact zm;exact za rfl;exact za rfl;exact za rfl) (by decide) rfl rfl);exact zm;exact za rfl;exact za rfl;exact za rfl) (by decide) rfl rfl))) zX)
  refine zj ?_ ?_;exact(by refine sv true 4 Xr.nd ?_;exact(zE (ZJ T hkd) (hr.mono (by omega)) rfl T.yO T.vM.kp T.ZF zJ (zb (av 0) (zb (ax hkd (av 3) aI) zm (za rfl)) (za rfl)) (by decide) rfl rfl))
  exact zx (zK (zE (xY T hkd) (hr.mono (by omega)) rfl T.ym T.xM.kp T.xX zJ (by refine zb ?_ ?_ ?_;exact(av 0);refine zb ?_ ?_ ?_;exact(zE (xY T hkd) (hr.mono (by omega)) rfl T.ym T.xM.kp T.xX zJ (by refine zb ?_ ?_ ?_;exact(av 0);refine zb ?_ ?_ ?_;exact(ax hkd (av 3) aI);refine zb ?_ ?_ ?_;exact(ax hkd (av 4) aI);exact zm;exact za rfl;exact za rfl;exact za rfl) (by decide) rfl rfl);refine zb ?_ ?_ ?_;exact(zE (xY T hkd) (hr.mono (by omega)) rfl T.ym T.xM.kp T.xX zJ (by refine zb ?_ ?_ ?_;exact(av 0);refine zb ?_ ?_ ?_;exact(ax hkd (av 4) aI);refine zb ?_ ?_ ?_;exact(av 2);exact zm;exact za rfl;exact za rfl;exact za rfl) (by decide) rfl rfl);exact zm;exact za rfl;exact za rfl;exact za rfl) (by decide) rfl rfl)))
theorem zga(T:Txt K kd mg t)(hkd:KD1 P w K kd):FnOk P w K mg base CX0 6 t.Xu t.Xy ["way","one","other"] (spD K kd vV):=by
 refine yW (N:=zaB) (ps:=["way","one","other"]) (k:=5) (c:=zaM) T.zaS YM λcdv A outer s H E hr=>?_
 exact(by
  refine zj ?_ ?_;exact(by refine sv true 3 YM.nd ?_;exact(zE (ZJ T hkd) (hr.mono (by omega)) rfl T.yO T.vM.kp T.ZF zJ (zb (av 0) (zb (av 2) zm (za rfl)) (za rfl)) (by decide) rfl rfl))
  refine zj ?_ ?_;exact(yI (zY (zT (hkd _ rfl rfl rfl) (yf hr) .GtE) (zO .GtE) (yd (vG T) (ax hkd (av 3) aI) rfl) (yd (vG T) (ax hkd (av 3) aI) rfl) (zU _)) (zx (zK (zE (xY T hkd) (hr.mono (by omega)) rfl T.ym T.xM.kp T.xX zJ (by refine zb ?_ ?_ ?_;exact(av 0);refine zb ?_ ?_ ?_;exact(zE (xY T hkd) (hr.mono (by omega)) rfl T.ym T.xM.kp T.xX zJ (by refine zb ?_ ?_ ?_;exact(av 0);refine zb ?_ ?_ ?_;exact(av 1);refine zb ?_ ?_ ?_;exact(ax hkd (av 3) aI);exact zm;exact za rfl;exact za rfl;exact za rfl) (by decide) rfl rfl);refine zb ?_ ?_ ?_;exact(ax hkd (av 3) aI);exact zm;exact za rfl;exact za rfl;exact za rfl) (by decide) rfl rfl))) zX)
  refine zj ?_ ?_;exact(by refine sv true 4 YM.nd ?_;exact(zE (ZJ T hkd) (hr.mono (by omega)) rfl T.yO T.vM.kp T.ZF zJ (zb (av 0) (zb (ax hkd (av 3) aI) zm (za rfl)) (za rfl)) (by decide) rfl rfl))
  exact zx (zK (zE (xY T hkd) (hr.mono (by omega)) rfl T.ym T.xM.kp T.xX zJ (by refine zb ?_ ?_ ?_;exact(av 0);refine zb ?_ ?_ ?_;exact(zE (xY T hkd) (hr.mono (by omega)) rfl T.ym T.xM.kp T.xX zJ (by refine zb ?_ ?_ ?_;exact(av 0);refine zb ?_ ?_ ?_;exact(av 1);refine zb ?_ ?_ ?_;exact(ax hkd (av 4) aI);exact zm;exact za rfl;exact za rfl;exact za rfl) (by decide) rfl rfl);refine zb ?_ ?_ ?_;exact(zE (xY T hkd) (hr.mono (by omega)) rfl T.ym T.xM.kp T.xX zJ (by refine zb ?_ ?_ ?_;exact(av 0);refine zb ?_ ?_ ?_;exact(ax hkd (av 4) aI);refine zb ?_ ?_ ?_;exact(ax hkd (av 3) aI);exact zm;exact za rfl;exact za rfl;exact za rfl) (by decide) rfl rfl);exact zm;exact za rfl;exact za rfl;exact za rfl) (by decide) rfl rfl)))
theorem zkO(T:Txt K kd mg t)(hkd:KD1 P w K kd):FnOk P w K mg base CX0 7 t.zgP t.zgi ["way","one","other"] (spD K kd Xn):=by
 refine yW (N:=zjZ) (ps:=["way","one","other"]) (k:=6) (c:=zjT) T.zfK znN λcdv A outer s H E hr=>?_
 exact(by
  refine zj ?_ ?_;exact(yI (zY (zT (hkd _ rfl rfl rfl) (yf hr) .Gt) (zO .Gt) (yd (vG T) (av 1) rfl) (zq (zr .Add) (yd (vG T) (av 2) rfl) aI) (zU _)) (zx (zK (zE (zhj T hkd) (hr.mono (by omega)) rfl T.Zk T.zbK.kp T.zhi zJ (by refine zb ?_ ?_ ?_;exact(av 0);refine zb ?_ ?_ ?_;exact(av 1);refine zb ?_ ?_ ?_;exact(av 2);exact zm;exact za rfl;exact za rfl;exact za rfl) (by decide) rfl rfl))) zX)
  refine zj ?_ ?_;exact(yI (zY (zT (hkd _ rfl rfl rfl) (yf hr) .Gt) (zO .Gt) (yd (vG T) (av 2) rfl) (zq (zr .Add) (yd (vG T) (av 1) rfl) aI) (zU _)) (zx (zK (zE (zga T hkd) (hr.mono (by omega)) rfl T.vV T.zaS.kp T.zgT zJ (by refine zb ?_ ?_ ?_;exact(av 0);refine zb ?_ ?_ ?_;exact(av 1);refine zb ?_ ?_ ?_;exact(av 2);exact zm;exact za rfl;exact za rfl;exact za rfl) (by decide) rfl rfl))) zX)
  exact zx (zK (zE (xY T hkd) (hr.mono (by omega)) rfl T.ym T.xM.kp T.xX zJ (by refine zb ?_ ?_ ?_;exact(av 0);refine zb ?_ ?_ ?_;exact(av 1);refine zb ?_ ?_ ?_;exact(av 2);exact zm;exact za rfl;exact za rfl;exact za rfl) (by decide) rfl rfl)))
theorem Z8(T:Txt K kd mg t)(hkd:KD1 P w K kd):∀n:Nat,FnOk P w K mg base CX0 (7+n) t.Xw t.XR ["way","one","other"] (spD K kd (yw n))
 |0=>zeX
 |n+1=>by
  have G:=Z8 T hkd n
  refine yW (N:=zah) (ps:=["way","one","other"]) (k:=7+n) (c:=zaz (yw n)) T.wO Y0 λcdv A outer s H E hr=>?_
  exact(by
  refine zj ?_ ?_;exact(yI (zY (zT (hkd _ rfl rfl rfl) (yf hr) .Is) (zO .Is) (av 1) aZ (zU _)) (zx (zK (av 2))) zX)
  refine zj ?_ ?_;exact(yI (zY (zT (hkd _ rfl rfl rfl) (yf hr) .Is) (zO .Is) (av 2) aZ (zU _)) (zx (zK (av 1))) zX)
  refine zj ?_ ?_;exact(yI (zY (zT (hkd _ rfl rfl rfl) (yf hr) .Gt) (zO .Gt) (yd (vG T) (av 1) rfl) (zq (zr .Add) (yd (vG T) (av 2) rfl) aI) (zU _)) (by
  refine zj ?_ ?_;exact(by refine sv true 3 Y0.nd ?_;exact(zE (ZJ T hkd) (hr.mono (by omega)) rfl T.yO T.vM.kp T.ZF zJ (zb (av 0) (zb (av 1) zm (za rfl)) (za rfl)) (by decide) rfl rfl))
  exact zx (zK (zE (zkO T hkd) (hr.mono (by omega)) rfl T.Xn T.zfK.kp T.zjQ zJ (by refine zb ?_ ?_ ?_;exact(av 0);refine zb ?_ ?_ ?_;exact(ax hkd (av 3) aI);refine zb ?_ ?_ ?_;exact(zE G (hr.mono (by omega)) rfl T.yw T.wO.kp T.vP zJ (by refine zb ?_ ?_ ?_;exact(av 0);refine zb ?_ ?_ ?_;exact(ax hkd (av 3) aI);refine zb ?_ ?_ ?_;exact(av 2);exact zm;exact za rfl;exact za rfl;exact za rfl) (by decide) rfl rfl);exact zm;exact za rfl;exact za rfl;exact za rfl) (by decide) rfl rfl))) zX)
  refine zj ?_ ?_;exact(yI (zY (zT (hkd _ rfl rfl rfl) (yf hr) .Gt) (zO .Gt) (yd (vG T) (av 2) rfl) (zq (zr .Add) (yd (vG T) (av 1) rfl) aI) (zU _)) (by
  refine zj ?_ ?_;exact(by refine sv true 3 Y0.nd ?_;exact(zE (ZJ T hkd) (hr.mono (by omega)) rfl T.yO T.vM.kp T.ZF zJ (zb (av 0) (zb (av 2) zm (za rfl)) (za rfl)) (by decide) rfl rfl))
  exact zx (zK (zE (zkO T hkd) (hr.mono (by omega)) rfl T.Xn T.zfK.kp T.zjQ zJ (by refine zb ?_ ?_ ?_;exact(av 0);refine zb ?_ ?_ ?_;exact(zE G (hr.mono (by omega)) rfl T.yw T.wO.kp T.vP zJ (by refine zb ?_ ?_ ?_;exact(av 0);refine zb ?_ ?_ ?_;exact(av 1);refine zb ?_ ?_ ?_;exact(ax hkd (av 3) aI);exact zm;exact za rfl;exact za rfl;exact za rfl) (by decide) rfl rfl);refine zb ?_ ?_ ?_;exact(ax hkd (av 3) aI);exact zm;exact za rfl;exact za rfl;exact za rfl) (by decide) rfl rfl))) zX)
  exact zx (zK (zE (xY T hkd) (hr.mono (by omega)) rfl T.ym T.xM.kp T.xX zJ (by refine zb ?_ ?_ ?_;exact(av 0);refine zb ?_ ?_ ?_;exact(av 1);refine zb ?_ ?_ ?_;exact(av 2);exact zm;exact za rfl;exact za rfl;exact za rfl) (by decide) rfl rfl)))
theorem zeP(T:Txt K kd mg t)(hkd:KD1 P w K kd):FnOk P w K mg base CX0 1 t.YQ t.YG ["algebra"] (spD K kd vp):=by
 refine yW (N:=V7) (ps:=["algebra"]) (k:=0) (c:=Zo) T.zaa vW λcdv A outer s H E hr=>?_
 exact(by
  refine zj ?_ ?_;exact(by refine sv true 1 vW.nd ?_;exact(ax hkd (av 0) aI))
  refine zj ?_ ?_;exact(by refine sv true 2 vW.nd ?_;exact(ax hkd (av 0) aI))
  refine zj ?_ ?_;exact(vH PassesOwn.never rfl (xj rfl T.xg (zb (ax hkd (av 0) aI) zm (za rfl)) rfl) (an 3 vW.nd) (zx (yI (AW.at_ (zcG (zY (zT (hkd _ rfl rfl rfl) (yf hr) .NotEq) (zO .NotEq) (ax hkd (ax hkd (av 1) (av 2)) (av 3)) (av 3) (zU _)) (Xj (zY (zT (hkd _ rfl rfl rfl) (yf hr) .NotEq) (zO .NotEq) (ax hkd (ax hkd (av 1) (av 3)) (av 2)) (av 3) (zU _))))) (zx (zK (wZ (zH aS (zH (av 3) yp (za rfl)) (za rfl))))) zX)) (λ_=>rfl))
  exact zx (zK aZ))
theorem zeK(T:Txt K kd mg t)(hkd:KD1 P w K kd):FnOk P w K mg base CX0 1 t.YH t.YW ["algebra"] (spD K kd vo):=by
 refine yW (N:=zac) (ps:=["algebra"]) (k:=0) (c:=YJ) T.zab xZ λcdv A outer s H E hr=>?_
 exact(by
  refine zj ?_ ?_;exact(by refine sv true 1 xZ.nd ?_;exact(ax hkd (av 0) aI))
  refine zj ?_ ?_;exact(by refine sv true 2 xZ.nd ?_;exact(ax hkd (av 0) aI))
  refine zj ?_ ?_;exact(vH PassesOwn.never rfl (xj rfl T.xg (zb (av 1) zm (za rfl)) rfl) (an 3 xZ.nd) (zx (vH PassesOwn.never rfl (xj rfl T.xg (zb (av 1) zm (za rfl)) rfl) (an 4 xZ.nd) (zx (vH PassesOwn.never rfl (xj rfl T.xg (zb (av 1) zm (za rfl)) rfl) (an 5 xZ.nd) (zx (yI (zY (zT (hkd _ rfl rfl rfl) (yf hr) .NotEq) (zO .NotEq) (ax hkd (ax hkd (av 2) (ax hkd (ax hkd (av 2) (av 3)) (av 4))) (av 5)) (ax hkd (ax hkd (av 2) (av 3)) (ax hkd (ax hkd (av 2) (av 4)) (av 5))) (zU _)) (zx (zK (wZ (by refine zH ?_ ?_ ?_;exact aS;refine zH ?_ ?_ ?_;exact(av 3);refine zH ?_ ?_ ?_;exact(av 4);refine zH ?_ ?_ ?_;exact(av 5);exact yp;exact za rfl;exact za rfl;exact za rfl;exact za rfl)))) zX)) (λ_=>rfl))) (λ_=>rfl))) (λ_=>rfl))
  exact zx (zK aZ))
theorem zhd(T:Txt K kd mg t)(hkd:KD1 P w K kd):FnOk P w K mg base CX0 1 t.Ws t.Wi ["algebra","name","rows"] (spD K kd vz):=by
 refine yW (N:=zby) (ps:=["algebra","name","rows"]) (k:=0) (c:=Wy) T.zbB xG λcdv A outer s H E hr=>?_
 exact(by
  refine zj ?_ ?_;exact(by refine sv true 3 xG.nd ?_;exact(ax hkd (av 0) aI))
  refine zj ?_ ?_;exact(by refine sv true 4 xG.nd ?_;exact(ax hkd (av 0) aI))
  refine zj ?_ ?_;exact(by refine sv true 5 xG.nd ?_;exact(ax hkd (av 0) aI))
  refine zj ?_ ?_;exact(vH PassesOwn.never rfl (xj rfl T.xg (zb (av 3) zm (za rfl)) rfl) (an 6 xG.nd) (zx (vH PassesOwn.never rfl (xj rfl T.xg (zb (av 4) zm (za rfl)) rfl) (an 7 xG.nd) (zx (vH PassesOwn.never rfl (xj rfl T.xg (zb (av 3) zm (za rfl)) rfl) (an 8 xG.nd) (zx (vH PassesOwn.never rfl (xj rfl T.xg (zb (av 4) zm (za rfl)) rfl) (an 9 xG.nd) (zx (yI (zY (zT (hkd _ rfl rfl rfl) (yf hr) .NotEq) (zO .NotEq) (ax hkd (ax hkd (av 2) (zq (zr .Mod) (zq (zr .Add) (av 7) (av 9)) (av 4))) (ax hkd (ax hkd (av 5) (av 6)) (av 8))) (ax hkd (ax hkd (av 5) (ax hkd (ax hkd (av 2) (av 7)) (av 6))) (ax hkd (ax hkd (av 2) (av 9)) (av 8))) (zU _)) (zx (zK (wZ (by refine zH ?_ ?_ ?_;exact aS;refine zH ?_ ?_ ?_;exact(av 1);refine zH ?_ ?_ ?_;exact(av 6);refine zH ?_ ?_ ?_;exact(av 7);refine zH ?_ ?_ ?_;exact(av 8);refine zH ?_ ?_ ?_;exact(av 9);exact yp;exact za rfl;exact za rfl;exact za rfl;exact za rfl;exact za rfl;exact za rfl)))) zX)) (λ_=>rfl))) (λ_=>rfl))) (λ_=>rfl))) (λ_=>rfl))
  exact zx (zK aZ))
theorem zjC(T:Txt K kd mg t)(hkd:KD1 P w K kd):FnOk P w K mg base CX0 2 t.V4 t.VG ["algebra"] (spD K kd Yb):=by
 refine yW (N:=zcU) (ps:=["algebra"]) (k:=1) (c:=zcA) T.zcR Zc λcdv A outer s H E hr=>?_
 exact(by
  refine zj ?_ ?_;exact(by refine sv true 1 Zc.nd ?_;exact(ax hkd (av 0) aI))
  refine zj ?_ ?_;exact(vH PassesOwn.never rfl (zlz (ax hkd (av 0) aI)) (zje rfl (Yy (an 2 Zc.nd) (Yy (an 3 Zc.nd) zeY rfl) rfl) rfl rfl) (by
  refine zj ?_ ?_;exact(yI (zY (zT (hkd _ rfl rfl rfl) (yf hr) .NotEq) (zO .NotEq) (ax hkd (ax hkd (av 3) aI) (av 1)) (av 1) (zU _)) (zx (zK (wZ (zH aS (zH (av 2) yp (za rfl)) (za rfl))))) zX)
  refine zj ?_ ?_;exact(by refine sv true 4 Zc.nd ?_;exact(zE (zhd T hkd) (hr.mono (by omega)) rfl T.vz T.zbB.kp T.zgU zJ (by refine zb ?_ ?_ ?_;exact(av 0);refine zb ?_ ?_ ?_;exact(av 2);refine zb ?_ ?_ ?_;exact(av 3);exact zm;exact za rfl;exact za rfl;exact za rfl) (by decide) rfl rfl))
  exact zx (yI (zY (zT (hkd _ rfl rfl rfl) (yf hr) .IsNot) (zO .IsNot) (av 4) aZ (zU _)) (zx (zK (av 4))) zX)) (λ_=>rfl))
  exact zx (zK aZ))
theorem zjl(T:Txt K kd mg t)(hkd:KD1 P w K kd):FnOk P w K mg base CX0 3 t.Vn t.VP ["algebra"] (spD K kd ZZ):=by
 refine yW (N:=zcD) (ps:=["algebra"]) (k:=2) (c:=zcz) T.zcY Yv λcdv A outer s H E hr=>?_
 exact(by
  refine zj ?_ ?_;exact(by refine sv true 1 Yv.nd ?_;exact(zE (zeP T hkd) (hr.mono (by omega)) rfl T.vp T.zaa.kp T.zeT zJ (zb (av 0) zm (za rfl)) (by decide) rfl rfl))
  refine zj ?_ ?_;exact(yI (zY (zT (hkd _ rfl rfl rfl) (yf hr) .Is) (zO .Is) (av 1) aZ (zU _)) (zx (by refine sv true 1 Yv.nd ?_;exact(zE (zeK T hkd) (hr.mono (by omega)) rfl T.vo T.zab.kp T.zeM zJ (zb (av 0) zm (za rfl)) (by decide) rfl rfl))) zX)
  refine zj ?_ ?_;exact(yI (zY (zT (hkd _ rfl rfl rfl) (yf hr) .Is) (zO .Is) (av 1) aZ (zU _)) (zx (by refine sv true 1 Yv.nd ?_;exact(zE (zjC T hkd) (hr.mono (by omega)) rfl T.Yb T.zcR.kp T.ziv zJ (zb (av 0) zm (za rfl)) (by decide) rfl rfl))) zX)
  exact zx (zK (av 1)))
theorem zgp(T:Txt K kd mg t)(hkd:KD1 P w K kd):FnOk P w K mg base CX0 4 t.Xz t.Xx ["algebra"] (spD K kd wR):=by
 refine yW (N:=zaP) (ps:=["algebra"]) (k:=3) (c:=Xp) T.zba zad λcdv A outer s H E hr=>?_
 exact(by
  refine zj ?_ ?_;exact(by refine sv true 1 zad.nd ?_;exact(zE (zjl T hkd) (hr.mono (by omega)) rfl T.ZZ T.zcY.kp T.zjD zJ (zb (av 0) zm (za rfl)) (by decide) rfl rfl))
  exact zx (yI (zY (zT (hkd _ rfl rfl rfl) (yf hr) .IsNot) (zO .IsNot) (av 1) aZ (zU _)) (zx zvD) zX))
theorem zpX(T:Txt K kd mg t)(hkd:KD1 P w K kd):FnOk P w K mg base CX0 1 t.zmb t.zmg ["rows"] (spD K kd zaN):=by
 refine yW (N:=zlY) (ps:=["rows"]) (k:=0) (c:=zoR) T.zkZ zqN λcdv A outer s H E hr=>?_
 exact(zx (zK (YF Ve rfl T.zbn Bt.tuple (zb (Xf (N:=["row"]) (cap:=[none]) (S:=[0]) rfl (zfZ (av 0)) rfl (by change YC _ zlY _ (zG zfY).names _=true;decide +kernel) (by decide) (λcl s H fp=>(an 0 zog)) (λcl s H fp=>Z6) (λcl s H fp=>(YF Ve rfl T.zbn Bt.tuple (zb (av 0) zm (za rfl)) (Bt.n _ rfl) (by decide) rfl rfl)) (λ_=>rfl)) zm (za rfl)) (Bt.n _ rfl) (by decide) rfl rfl)))
theorem xr(T:Txt K kd mg t)(hkd:KD1 P w K kd):FnOk P w K mg base CX0 1 t.Wr t.WL ["_law_script","_law_k"] (spD K kd zN):=by
 refine yW (N:=zbH) (ps:=["_law_script","_law_k"]) (k:=0) (c:=zbL) T.yZ zfJ λcdv A outer s H E hr=>?_
 exact(by
  refine zj ?_ ?_;exact(yI (zY (zT (hkd _ rfl rfl rfl) (yf hr) .Lt) (zO .Lt) (av 1) (ZC (vA (hkd _ rfl rfl rfl)) rfl T.zbC Bt.len (zb (av 0) zm (za rfl)) (Bt.n _ rfl) (by decide) rfl rfl) (zU _)) (zx (zK (ax hkd (av 0) (av 1)))) zX)
  exact zx (zK aI))
theorem yt(T:Txt K kd mg t)(hkd:KD1 P w K kd):FnOk P w K mg base CX0 1 t.zaw t.zaI ["_law_cell","_law_k"] (spD K kd zu):=by
 refine yW (N:=zet) (ps:=["_law_cell","_law_k"]) (k:=0) (c:=zew) T.yr Vy λcdv A outer s H E hr=>?_
 exact(by
  refine zj ?_ ?_;exact(yI (zY (zT (hkd _ rfl rfl rfl) (yf hr) .Eq) (zO .Eq) (zq (zr .Mod) (av 0) aI) aI (zU _)) (zx (zK (zq (zr .FloorDiv) (av 0) (zq zrK aI (zq (zr .Mult) aI (av 1)))))) zX)
  refine zj ?_ ?_;exact(by refine sv true 2 Vy.nd ?_;exact(zq (zr .Mod) (zq (zr .Mult) (zq (zr .Add) (zq (zr .Add) (zq (zr .Mod) (av 0) aI) (zq (zr .Mult) aI (av 1))) aI) aI) aI))
  refine zj ?_ ?_;exact(by refine sv true 2 Vy.nd ?_;exact(zq (zr .Mod) (zq (zr .Mult) (av 2) (av 2)) aI))
  exact zx (zK (zq (zr .Mod) (zq (zr .Add) (zq (zr .Mult) (av 2) (av 2)) (zq (zr .Mult) aI (av 1))) aI)))
theorem zkf(T:Txt K kd mg t)(hkd:KD1 P w K kd):FnOk P w K mg base CX0 2 t.zat t.zaC ["_law_cell","_law_many"] (spD K kd vR):=by
 refine yW (N:=X7) (ps:=["_law_cell","_law_many"]) (k:=1) (c:=zed) T.zeo xU λcdv A outer s H E hr=>?_
 exact(by
  refine zj ?_ ?_;exact(by refine sv true 2 xU.nd ?_;exact aS)
  refine zj ?_ ?_;exact(by refine sv true 3 xU.nd ?_;exact(zrH (ty:=.str) (hkd _ rfl rfl rfl) zsc PySem.F.plainAttrs_str PySem.F.slot_str_join PySem.F.type_str_join aS (zb (Xf (N:=["_law_j","_law_letters","_law_cell"]) (cap:=[none,some 2,some 0]) (S:=[0]) rfl (Xl rfl T.xg (zb aI zm (za rfl)) rfl) rfl (by change YC _ X7 _ (zG ZQ).names _=true;decide +kernel) (by decide) (λcl s H fp=>(an 0 zfo)) (λcl s H fp=>Z6) (λcl s H fp=>(ax hkd (av 1) (zq (zr .Mod) (zE (yt T hkd) (hr.mono (by omega)) rfl T.zu T.yr.kp T.yu zJ (zb (av 2) (zb (zq (zr .Add) aI (av 0)) zm (za rfl)) (za rfl)) (by decide) rfl rfl) aI))) (λ_=>rfl)) zm (za rfl)) rfl rfl rfl rfl rfl))
  refine zj ?_ ?_;exact(yI (zY (zT (hkd _ rfl rfl rfl) (yf hr) .Eq) (zO .Eq) (zq (zr .Mod) (av 0) aI) aI (zU _)) (zx (zK (Xf (N:=["_law_k","_law_word","_law_cell"]) (cap:=[none,some 3,some 0]) (S:=[0]) rfl (Xl rfl T.xg (zb (av 1) zm (za rfl)) rfl) rfl (by change YC _ X7 _ (zG ZQ).names _=true;decide +kernel) (by decide) (λcl s H fp=>(an 0 zfE)) (λcl s H fp=>Z6) (λcl s H fp=>(zdJ (av 1) Vk (ZS (zq (zr .Add) aI (zq (zr .Mod) (zq (zr .Add) (av 0) (zq (zr .FloorDiv) (av 2) aI)) aI))))) (λ_=>rfl)))) zX)
  refine zj ?_ ?_;exact(by refine sv true 4 xU.nd ?_;exact(zq (zr .Add) aI (zq (zr .Mod) (zq (zr .FloorDiv) (av 0) aI) aI)))
  refine zj ?_ ?_;exact(by refine sv true 5 xU.nd ?_;exact(zq (zr .Mod) (zq (zr .FloorDiv) (av 0) aI) (av 4)))
  refine zj ?_ ?_;exact(by refine sv true 6 xU.nd ?_;exact(zq (zr .Add) aI (zq (zr .Mod) (zq (zr .FloorDiv) (av 0) aI) aI)))
  refine zj ?_ ?_;exact(by refine sv false 7 xU.nd ?_;exact(wA yp))
  refine zj ?_ ?_;exact(vH PassesOwn.never rfl (xj rfl T.xg (zb (av 1) zm (za rfl)) rfl) (an 8 xU.nd) (by
  refine zj ?_ ?_;exact(by refine sv true 9 xU.nd ?_;exact(ax hkd (av 2) (zq (zr .Mod) (zq (zr .Add) (zE (yt T hkd) (hr.mono (by omega)) rfl T.zu T.yr.kp T.yu zJ (zb (av 0) (zb (zq (zr .Add) aI (av 5)) zm (za rfl)) (za rfl)) (by decide) rfl rfl) (zq (zr .Mult) (av 6) (av 8))) aI)))
  exact zx (Vj (Vf ZL zal PySem.F.slot_list_append PySem.F.type_list_append (pv 7) (zH (zq (zr .Add) (zq (zr .Add) (zdJ (av 3) Vk (ZS (av 5))) (av 9)) (zdJ (av 3) (ZS (zq (zr .Add) (av 5) aI)) (ZS (av 4)))) yp (za rfl)) rfl rfl rfl rfl rfl) rfl)) (λ_=>rfl))
  exact zx (zK (av 7)))
theorem znY(T:Txt K kd mg t)(hkd:KD1 P w K kd):FnOk P w K mg base CX0 1 t.zdl t.zdY ["_law_kind","_law_n","_law_a","_law_b"] (spD K kd xq):=by
 refine yW (N:=zhx) (ps:=["_law_kind","_law_n","_law_a","_law_b"]) (k:=0) (c:=zhy) T.zhw zgw λcdv A outer s H E hr=>?_
 exact(by
  refine zj ?_ ?_;exact(yI (zY (zT (hkd _ rfl rfl rfl) (yf hr) .Eq) (zO .Eq) (av 0) aI (zU _)) (zx (zK (zq (zr .Mod) (zq (zr .Add) (av 2) (av 3)) (av 1)))) zX)
  refine zj ?_ ?_;exact(yI (zY (zT (hkd _ rfl rfl rfl) (yf hr) .Eq) (zO .Eq) (av 0) aI (zU _)) (zx (zK (ZC (zdz rfl) rfl T.zoq Bt.max (zb (av 2) (zb (av 3) zm (za rfl)) (za rfl)) (Bt.n _ rfl) (by decide) rfl rfl))) zX)
  refine zj ?_ ?_;exact(yI (zY (zT (hkd _ rfl rfl rfl) (yf hr) .Eq) (zO .Eq) (av 0) aI (zU _)) (zx (zK (ax hkd (wA (zH (av 3) (zH (av 2) yp (za rfl)) (za rfl))) (YF XH rfl T.zid Bt.int (zb (Vm (zT (hkd _ rfl rfl rfl) (yf hr) .Eq) (av 3) aI (zU _)) zm (za rfl)) (Bt.n _ rfl) (by decide) rfl rfl)))) zX)
  refine zj ?_ ?_;exact(yI (zY (zT (hkd _ rfl rfl rfl) (yf hr) .Eq) (zO .Eq) (av 0) aI (zU _)) (by
  refine zj ?_ ?_;exact(by refine sv true 4 zgw.nd ?_;exact(wA (zH (zq (zr .FloorDiv) (av 3) aI) (zH (zq (zr .Mod) (av 3) aI) yp (za rfl)) (za rfl))))
  exact zx (zK (zq (zr .Add) (zq (zr .Mult) aI (ax hkd (av 4) (zq (zr .FloorDiv) (av 2) aI))) (ax hkd (av 4) (zq (zr .Mod) (av 2) aI))))) zX)
  exact zx (zK (zq (zr .Add) (zq (zr .Mult) aI (zq (zr .Mod) (zq (zr .Add) (zq (zr .FloorDiv) (av 2) aI) (zq (zr .FloorDiv) (av 3) aI)) aI)) (ax hkd (wA (zH (zq (zr .Mod) (av 3) aI) (zH (zq (zr .Mod) (av 2) aI) yp (za rfl)) (za rfl))) (YF XH rfl T.zid Bt.int (zb (Vm (zT (hkd _ rfl rfl rfl) (yf hr) .Eq) (zq (zr .Mod) (av 3) aI) aI (zU _)) zm (za rfl)) (Bt.n _ rfl) (by decide) rfl rfl)))))
theorem znU(T:Txt K kd mg t)(hkd:KD1 P w K kd):FnOk P w K mg base CX0 2 t.zdN t.zdn ["_law_kind","_law_n","_law_cell","_law_c","_law_a"] (spD K kd vX):=by
 refine yW (N:=zdI) (ps:=["_law_kind","_law_n","_law_cell","_law_c","_law_a"]) (k:=1) (c:=zik) T.zij V3 λcdv A outer s H E hr=>?_
 exact(by
  refine zj ?_ ?_;exact(by refine sv true 5 V3.nd ?_;exact(zE (yt T hkd) (hr.mono (by omega)) rfl T.zu T.yr.kp T.yu zJ (zb (av 2) (zb aI zm (za rfl)) (za rfl)) (by decide) rfl rfl))
  refine zj ?_ ?_;exact(by refine sv true 6 V3.nd ?_;exact(zE (yt T hkd) (hr.mono (by omega)) rfl T.zu T.yr.kp T.yu zJ (zb (av 2) (zb aI zm (za rfl)) (za rfl)) (by decide) rfl rfl))
  refine zj ?_ ?_;exact(yI (zY (zT (hkd _ rfl rfl rfl) (yf hr) .Eq) (zO .Eq) (av 0) aI (zU _)) (zx (zK (zq (zr .Mod) (zq (zr .Add) (zq (zr .Mult) (av 5) (av 4)) (zq (zr .Mult) (av 6) (av 3))) (av 1)))) zX)
  refine zj ?_ ?_;exact(yI (zY (zT (hkd _ rfl rfl rfl) (yf hr) .Eq) (zO .Eq) (av 0) aI (zU _)) (by
  refine zj ?_ ?_;exact(by refine sv true 7 V3.nd ?_;exact(ZC zli rfl T.zpV Bt.sorted (zb (Xf (N:=["_law_j","_law_n","_law_cell"]) (cap:=[none,some 1,some 2]) (S:=[0]) rfl (Xl rfl T.xg (zb (zq (zr .Sub) (av 1) aI) zm (za rfl)) rfl) rfl (by change YC _ zdI _ (zG Vd).names _=true;decide +kernel) (by decide) (λcl s H fp=>(an 0 ziQ)) (λcl s H fp=>Z6) (λcl s H fp=>(zq (zr .Mod) (zE (yt T hkd) (hr.mono (by omega)) rfl T.zu T.yr.kp T.yu zJ (zb (av 2) (zb (zq (zr .Add) aI (av 0)) zm (za rfl)) (za rfl)) (by decide) rfl rfl) (av 1))) (λ_=>rfl)) zm (za rfl)) (Bt.n _ rfl) (by decide) rfl rfl))
  exact zx (zK (ax hkd (zq (zr .Add) (wA (zH aI yp (za rfl))) (av 7)) (av 4)))) zX)
  refine zj ?_ ?_;exact(yI (zY (zT (hkd _ rfl rfl rfl) (yf hr) .Eq) (zO .Eq) (av 0) aI (zU _)) (zx (zK (ax hkd (wA (zH (zq (zr .Add) aI (zq (zr .Mod) (zE (yt T hkd) (hr.mono (by omega)) rfl T.zu T.yr.kp T.yu zJ (zb (av 2) (zb (zq (zr .Add) aI (av 4)) zm (za rfl)) (za rfl)) (by decide) rfl rfl) (zq (zr .Sub) (av 1) aI))) (zH aI yp (za rfl)) (za rfl))) (YF XH rfl T.zid Bt.int (zb (Vm (zT (hkd _ rfl rfl rfl) (yf hr) .Eq) (av 4) aI (zU _)) zm (za rfl)) (Bt.n _ rfl) (by decide) rfl rfl)))) zX)
  refine zj ?_ ?_;exact(yI (zY (zT (hkd _ rfl rfl rfl) (yf hr) .Eq) (zO .Eq) (av 0) aI (zU _)) (zx (zK (ax hkd (wA (zH (av 4) (zH (zq (zr .Sub) (zq (zr .Add) (zq (zr .Mult) aI (zq (zr .Sub) aI (zq (zr .Mod) (av 4) aI))) aI) (zq (zr .FloorDiv) (av 4) aI)) yp (za rfl)) (za rfl))) (zq (zr .Mod) (av 5) aI)))) zX)
  exact zx (zK (zq (zr .Add) (zq (zr .Mult) aI (zq (zr .Mod) (zq (zr .Add) (zq (zr .Mult) (av 5) (zq (zr .FloorDiv) (av 4) aI)) (zq (zr .Mult) (av 6) (av 3))) aI)) (ax hkd (wA (zH (zq (zr .Add) aI (zq (zr .Mod) (zE (yt T hkd) (hr.mono (by omega)) rfl T.zu T.yr.kp T.yu zJ (zb (av 2) (zb (zq (zr .Add) aI (zq (zr .Mod) (av 4) aI)) zm (za rfl)) (za rfl)) (by decide) rfl rfl) aI)) (zH aI yp (za rfl)) (za rfl))) (YF XH rfl T.zid Bt.int (zb (Vm (zT (hkd _ rfl rfl rfl) (yf hr) .Eq) (zq (zr .Mod) (av 4) aI) aI (zU _)) zm (za rfl)) (Bt.n _ rfl) (by decide) rfl rfl)))))
theorem zkK(T:Txt K kd mg t)(hkd:KD1 P w K kd):FnOk P w K mg base CX0 2 t.zap t.zaK ["_law_cell","_law_n"] (spD K kd ZM):=by
 refine yW (N:=zep) (ps:=["_law_cell","_law_n"]) (k:=1) (c:=zeA) T.zeC Xe λcdv A outer s H E hr=>?_
 exact(by
  refine zj ?_ ?_;exact(by refine sv false 2 Xe.nd ?_;exact(znC rfl rfl T.xg rfl T.zqx (zb (av 1) zm (za rfl)) rfl rfl))
  refine zj ?_ ?_;exact(by refine sv false 3 Xe.nd ?_;exact(wA yp))
  refine zj ?_ ?_;exact(vH PassesOwn.never rfl (xj rfl T.xg (zb (av 1) zm (za rfl)) rfl) (an 4 Xe.nd) (zx (Vj (Vf ZL zal PySem.F.slot_list_append PySem.F.type_list_append (pv 3) (zH (Vf zpx zon PySem.F.slot_list_pop PySem.F.type_list_pop (pv 2) (zH (zq (zr .Mod) (zE (yt T hkd) (hr.mono (by omega)) rfl T.zu T.yr.kp T.yu zJ (zb (av 0) (zb (zq (zr .Add) aI (av 4)) zm (za rfl)) (za rfl)) (by decide) rfl rfl) (ZC (vA (hkd _ rfl rfl rfl)) rfl T.zbC Bt.len (zb (av 2) zm (za rfl)) (Bt.n _ rfl) (by decide) rfl rfl)) yp (za rfl)) rfl rfl rfl rfl rfl) yp (za rfl)) rfl rfl rfl rfl rfl) rfl)) (λ_=>rfl))
  exact zx (zK (av 3)))
theorem zlX(T:Txt K kd mg t)(hkd:KD1 P w K kd):FnOk P w K mg base CX0 3 t.zch t.zcj ["_law_kind","_law_n","_law_m","_law_cell","_law_order_here"] (spD K kd vQ):=by
 refine yW (N:=zfS) (ps:=["_law_kind","_law_n","_law_m","_law_cell","_law_order_here"]) (k:=2) (c:=zgI) T.zfH YD λcdv A outer s H E hr=>?_
 exact(by
  refine zj ?_ ?_;exact(by refine sv false 5 YD.nd ?_;exact(wA yp))
  refine zj ?_ ?_;exact(vH PassesOwn.never rfl (xj rfl T.xg (zb (av 2) zm (za rfl)) rfl) (an 6 YD.nd) (by
  refine zj ?_ ?_;exact(by refine sv false 7 YD.nd ?_;exact(zq (zr .Mult) (wA (zH aI yp (za rfl))) (av 1)))
  refine zj ?_ ?_;exact(vH PassesOwn.never rfl (xj rfl T.xg (zb (av 1) zm (za rfl)) rfl) (an 8 YD.nd) (zx (zro (pv 7) (zoZ (pv 4) (zlr (pv 8)) (λ_ _=>rfl)) (ax hkd (av 4) (zE (znU T hkd) (hr.mono (by omega)) rfl T.vX T.zij.kp T.znS zJ (by refine zb ?_ ?_ ?_;exact(av 0);refine zb ?_ ?_ ?_;exact(av 1);refine zb ?_ ?_ ?_;exact(av 3);refine zb ?_ ?_ ?_;exact(av 6);refine zb ?_ ?_ ?_;exact(av 8);exact zm;exact za rfl;exact za rfl;exact za rfl;exact za rfl;exact za rfl) (by decide) rfl rfl)) (λ_=>rfl) rfl rfl rfl)) (λ_=>rfl))
  exact zx (Vj (Vf ZL zal PySem.F.slot_list_append PySem.F.type_list_append (pv 5) (zH (av 7) yp (za rfl)) rfl rfl rfl rfl rfl) rfl)) (λ_=>rfl))
  exact zx (zK (av 5)))
theorem zhb(T:Txt K kd mg t)(hkd:KD1 P w K kd):FnOk P w K mg base CX0 4 t.Wv t.Wt ["_law_cell"] (spD K kd vB):=by
 refine yW (N:=Zi) (ps:=["_law_cell"]) (k:=3) (c:=zbG) T.zbI yE λcdv A outer s H E hr=>?_
 exact(by
  refine zj ?_ ?_;exact(by refine sv true 1 yE.nd ?_;exact(zq (zr .Mod) (zE (yt T hkd) (hr.mono (by omega)) rfl T.zu T.yr.kp T.yu zJ (zb (av 0) (zb aI zm (za rfl)) (za rfl)) (by decide) rfl rfl) aI))
  refine zj ?_ ?_;exact(by refine sv true 2 yE.nd ?_;exact(ax hkd (wA (by refine zH ?_ ?_ ?_;exact(zq (zr .Add) aI (zq (zr .Mod) (zE (yt T hkd) (hr.mono (by omega)) rfl T.zu T.yr.kp T.yu zJ (zb (av 0) (zb aI zm (za rfl)) (za rfl)) (by decide) rfl rfl) aI));refine zH ?_ ?_ ?_;exact(zq (zr .Add) aI (zq (zr .Mod) (zE (yt T hkd) (hr.mono (by omega)) rfl T.zu T.yr.kp T.yu zJ (zb (av 0) (zb aI zm (za rfl)) (za rfl)) (by decide) rfl rfl) aI));refine zH ?_ ?_ ?_;exact(zq (zr .Add) aI (zq (zr .Mod) (zE (yt T hkd) (hr.mono (by omega)) rfl T.zu T.yr.kp T.yu zJ (zb (av 0) (zb aI zm (za rfl)) (za rfl)) (by decide) rfl rfl) aI));refine zH ?_ ?_ ?_;exact aI;refine zH ?_ ?_ ?_;exact aI;exact yp;exact za rfl;exact za rfl;exact za rfl;exact za rfl;exact za rfl)) (av 1)))
  refine zj ?_ ?_;exact(by refine sv true 3 yE.nd ?_;exact(ax hkd (wA (by refine zH ?_ ?_ ?_;exact(av 2);refine zH ?_ ?_ ?_;exact(zq (zr .Add) aI (zq (zr .Mod) (zE (yt T hkd) (hr.mono (by omega)) rfl T.zu T.yr.kp T.yu zJ (zb (av 0) (zb aI zm (za rfl)) (za rfl)) (by decide) rfl rfl) aI));refine zH ?_ ?_ ?_;exact(zq (zr .Add) aI (zq (zr .Mod) (zE (yt T hkd) (hr.mono (by omega)) rfl T.zu T.yr.kp T.yu zJ (zb (av 0) (zb aI zm (za rfl)) (za rfl)) (by decide) rfl rfl) aI));refine zH ?_ ?_ ?_;exact(zq (zr .Add) aI (zq (zr .Mod) (zE (yt T hkd) (hr.mono (by omega)) rfl T.zu T.yr.kp T.yu zJ (zb (av 0) (zb aI zm (za rfl)) (za rfl)) (by decide) rfl rfl) aI));refine zH ?_ ?_ ?_;exact aI;exact yp;exact za rfl;exact za rfl;exact za rfl;exact za rfl;exact za rfl)) (av 1)))
  refine zj ?_ ?_;exact(by refine sv true 4 yE.nd ?_;exact(zE (zkK T hkd) (hr.mono (by omega)) rfl T.ZM T.zeC.kp T.zkL zJ (zb (av 0) (zb (av 2) zm (za rfl)) (za rfl)) (by decide) rfl rfl))
  refine zj ?_ ?_;exact(ziK (z:=false) (i:=5) (N:=["_law_a","_law_n"]) (cap:=[none,some 2]) (S:=[0]) yE.nd rfl (by exact Or.inl rfl) (by exact Or.inr rfl) rfl rfl (Xl rfl T.xg (zb (av 2) zm (za rfl)) rfl) rfl (by change YC _ Zi _ (zG wI).names _=true;decide +kernel) (by decide) (λcl s H fp=>(an 0 zdR)) (λcl s H fp=>Z6) (λcl s H fp=>(zq (zr .Mult) (wA (zH aI yp (za rfl))) (av 1))) (λ_=>rfl))
  refine zj ?_ ?_;exact(vH PassesOwn.never rfl (xj rfl T.xg (zb (av 2) zm (za rfl)) rfl) (an 6 yE.nd) (zx (vH PassesOwn.never rfl (xj rfl T.xg (zb (av 2) zm (za rfl)) rfl) (an 7 yE.nd) (zx (zqy (pv 5) (zoZ (pv 4) (zlr (pv 6)) (λ_ _=>rfl)) (λ_ _=>rfl) (zoZ (pv 4) (zlr (pv 7)) (λ_ _=>rfl)) (ax hkd (av 4) (zE (znY T hkd) (hr.mono (by omega)) rfl T.xq T.zhw.kp T.znI zJ (by refine zb ?_ ?_ ?_;exact(av 1);refine zb ?_ ?_ ?_;exact(av 2);refine zb ?_ ?_ ?_;exact(av 6);refine zb ?_ ?_ ?_;exact(av 7);exact zm;exact za rfl;exact za rfl;exact za rfl;exact za rfl) (by decide) rfl rfl)) (λ_=>rfl) rfl rfl rfl)) (λ_=>rfl))) (λ_=>rfl))
  refine zj ?_ ?_;exact(by refine sv true 8 yE.nd ?_;exact(zq (zr .Add) aI (zq (zr .Mod) (zE (yt T hkd) (hr.mono (by omega)) rfl T.zu T.yr.kp T.yu zJ (zb (av 0) (zb aI zm (za rfl)) (za rfl)) (by decide) rfl rfl) aI)))
  refine zj ?_ ?_;exact(by refine sv true 9 yE.nd ?_;exact(zE (zkf T hkd) (hr.mono (by omega)) rfl T.vR T.zeo.kp T.zks zJ (zb (zq (zr .Mod) (av 0) aI) (zb aI zm (za rfl)) (za rfl)) (by decide) rfl rfl))
  refine zj ?_ ?_;exact(ziK (z:=true) (i:=10) (N:=["_law_k","_law_names_here","_law_kind","_law_n","_law_m","_law_order_here","_law_cell"]) (cap:=[none,some 9,some 1,some 2,some 3,some 4,some 0]) (S:=[0]) yE.nd rfl (by exact Or.inl rfl) (by exact Or.inr rfl) rfl rfl (Xl rfl T.xg (zb (av 8) zm (za rfl)) rfl) rfl (by change YC _ Zi _ (zG wI).names _=true;decide +kernel) (by decide) (λcl s H fp=>(an 0 zdK)) (λcl s H fp=>Z6) (λcl s H fp=>(wZ (zH (ax hkd (av 1) (av 0)) (zH (zE (zlX T hkd) (hr.mono (by omega)) rfl T.vQ T.zfH.kp T.zlG zJ (by refine zb ?_ ?_ ?_;exact(av 2);refine zb ?_ ?_ ?_;exact(av 3);refine zb ?_ ?_ ?_;exact(av 4);refine zb ?_ ?_ ?_;exact(zq (zr .Add) (av 6) (zq (zr .Mult) aI (av 0)));refine zb ?_ ?_ ?_;exact(av 5);exact zm;exact za rfl;exact za rfl;exact za rfl;exact za rfl;exact za rfl) (by decide) rfl rfl) yp (za rfl)) (za rfl)))) (λ_=>rfl))
  refine zj ?_ ?_;exact(by refine sv false 11 yE.nd ?_;exact(wA yp))
  refine zj ?_ ?_;exact(vH PassesOwn.never rfl (xj rfl T.xg (zb (zq (zr .Add) aI (zq (zr .Mod) (zE (yt T hkd) (hr.mono (by omega)) rfl T.zu T.yr.kp T.yu zJ (zb (av 0) (zb aI zm (za rfl)) (za rfl)) (by decide) rfl rfl) aI)) zm (za rfl)) rfl) (an 12 yE.nd) (zx (Vj (Vf ZL zal PySem.F.slot_list_append PySem.F.type_list_append (pv 11) (by refine zH ?_ ?_ ?_;exact(wZ (zH (ax hkd (av 9) (zq (zr .Sub) aI (av 12))) (zH (Xf (N:=["_law_v","_law_cell","_law_k"]) (cap:=[none,some 0,some 12]) (S:=[0]) rfl (Xl rfl T.xg (zb (av 2) zm (za rfl)) rfl) rfl (by change YC _ Zi _ (zG wI).names _=true;decide +kernel) (by decide) (λcl s H fp=>(an 0 zdV)) (λcl s H fp=>(zri (zY (zT (hkd _ rfl rfl rfl) (yf hr) .Eq) (zO .Eq) (zq (zr .Mod) (zE (yt T hkd) (hr.mono (by omega)) rfl T.zu T.yr.kp T.yu zJ (zb (av 1) (zb (zq (zr .Add) (zq (zr .Add) aI (zq (zr .Mult) aI (av 2))) (av 0)) zm (za rfl)) (za rfl)) (by decide) rfl rfl) aI) aI (zU _)))) (λcl s H fp=>(av 0)) (λ_=>rfl)) yp (za rfl)) (za rfl)));exact yp;exact za rfl) rfl rfl rfl rfl rfl) rfl)) (λ_=>rfl))
  exact zx (zK (wZ (by refine zH ?_ ?_ ?_;exact(av 2);refine zH ?_ ?_ ?_;exact(av 3);refine zH ?_ ?_ ?_;exact(av 5);refine zH ?_ ?_ ?_;exact(ax hkd (av 4) (YF XH rfl T.zid Bt.int (zb (Vm (zT (hkd _ rfl rfl rfl) (yf hr) .Eq) (av 1) aI (zU _)) zm (za rfl)) (Bt.n _ rfl) (by decide) rfl rfl));refine zH ?_ ?_ ?_;exact(av 10);refine zH ?_ ?_ ?_;exact(av 11);exact yp;exact za rfl;exact za rfl;exact za rfl;exact za rfl;exact za rfl;exact za rfl))))
theorem zgh(T:Txt K kd mg t)(hkd:KD1 P w K kd):FnOk P w K mg base CX0 1 t.zbQ t.zbZ ["_law_algebra_here","_law_row"] (spD K kd xQ):=by
 refine yW (N:=zgz) (ps:=["_law_algebra_here","_law_row"]) (k:=0) (c:=zgj) T.zcm Wb λcdv A outer s H E hr=>?_
 exact(by
  refine zj ?_ ?_;exact(yI (zY (zT (hkd _ rfl rfl rfl) (yf hr) .Eq) (zO .Eq) (av 1) (wA yp) (zU _)) (zx (zK (ax hkd (av 0) aI))) zX)
  refine zj ?_ ?_;exact(by refine sv true 2 Wb.nd ?_;exact(ax hkd (av 1) aI))
  refine zj ?_ ?_;exact(vH PassesOwn.never rfl (zlz (W3 (av 1) (ZS aI) Vk)) (an 3 Wb.nd) (zx (by refine sv true 2 Wb.nd ?_;exact(ax hkd (ax hkd (ax hkd (av 0) aI) (av 2)) (av 3)))) (λ_=>rfl))
  exact zx (zK (av 2)))
theorem zec(T:Txt K kd mg t)(hkd:KD1 P w K kd):FnOk P w K mg base CX0 1 t.zaX t.zaV ["_law_found"] (spD K kd xJ):=by
 refine yW (N:=zej) (ps:=["_law_found"]) (k:=0) (c:=zek) T.zaE zjd λcdv A outer s H E hr=>?_
 exact(zx (zK (zly (zjF (hkd _ rfl rfl rfl) rfl rfl T.Xh Bt.isinstance rfl T.zid Bt.int (av 0) (Bt.n _ rfl) (by decide) (Bt.n _ rfl) (by decide) rfl rfl rfl) (zlg (zoA (zjF (hkd _ rfl rfl rfl) rfl rfl T.Xh Bt.isinstance rfl T.zua Bt.bool (av 0) (Bt.n _ rfl) (by decide) (Bt.n _ rfl) (by decide) rfl rfl rfl))))))
theorem zgN(T:Txt K kd mg t)(hkd:KD1 P w K kd):∀n:Nat,FnOk P w K mg base CX0 (1+n) t.zcd t.zbU ["_law_algebra_here","_law_found"] (spD K kd (wJ n))
 |0=>zeX
 |n+1=>by
  have G:=zgN T hkd n
  refine yW (N:=zfW) (ps:=["_law_algebra_here","_law_found"]) (k:=1+n) (c:=zgB (wJ n)) T.Vl We λcdv A outer s H E hr=>?_
  exact(by
  refine zj ?_ ?_;exact(yI (AW.at_ (zcG (zaL (WY (zjF (hkd _ rfl rfl rfl) rfl rfl T.Xh Bt.isinstance rfl T.zbn Bt.tuple (av 1) (Bt.n _ rfl) (by decide) (Bt.n _ rfl) (by decide) rfl rfl rfl) (λ_=>rfl))) (zcG (AW.at_ (zor (zY (zT (hkd _ rfl rfl rfl) (yf hr) .NotEq) (zO .NotEq) (ZC (vA (hkd _ rfl rfl rfl)) rfl T.zbC Bt.len (zb (av 1) zm (za rfl)) (Bt.n _ rfl) (by decide) rfl rfl) aI (zU _)) (zgC (zY (zT (hkd _ rfl rfl rfl) (yf hr) .NotEq) (zO .NotEq) (ZC (vA (hkd _ rfl rfl rfl)) rfl T.zbC Bt.len (zb (av 1) zm (za rfl)) (Bt.n _ rfl) (by decide) rfl rfl) aI (zU _))))) (Xj (zaL (WY (zE (zec T hkd) (hr.mono (by omega)) rfl T.xJ T.zaE.kp T.zei zJ (zb (ax hkd (av 1) aI) zm (za rfl)) (by decide) rfl rfl) (λ_=>rfl))))))) (zx (zK aZ)) zX)
  refine zj ?_ ?_;exact(yI (zY (zT (hkd _ rfl rfl rfl) (yf hr) .Eq) (zO .Eq) (ZC (vA (hkd _ rfl rfl rfl)) rfl T.zbC Bt.len (zb (av 1) zm (za rfl)) (Bt.n _ rfl) (by decide) rfl rfl) aI (zU _)) (zx (zK (wZ (by refine zH ?_ ?_ ?_;exact aI;refine zH ?_ ?_ ?_;exact(wA (zH (ax hkd (av 1) aI) yp (za rfl)));exact yp;exact za rfl;exact za rfl)))) zX)
  refine zj ?_ ?_;exact(by refine sv true 2 We.nd ?_;exact(zE G (hr.mono (by omega)) rfl T.wJ T.Vl.kp T.zbX zJ (zb (av 0) (zb (ax hkd (av 1) aI) zm (za rfl)) (za rfl)) (by decide) rfl rfl))
  refine zj ?_ ?_;exact(by refine sv true 3 We.nd ?_;exact(zE G (hr.mono (by omega)) rfl T.wJ T.Vl.kp T.zbX zJ (zb (av 0) (zb (ax hkd (av 1) aI) zm (za rfl)) (za rfl)) (by decide) rfl rfl))
  refine zj ?_ ?_;exact(yI (AW.at_ (zcG (zY (zT (hkd _ rfl rfl rfl) (yf hr) .Is) (zO .Is) (av 2) aZ (zU _)) (zcG (zY (zT (hkd _ rfl rfl rfl) (yf hr) .Is) (zO .Is) (av 3) aZ (zU _)) (Xj (zY (zT (hkd _ rfl rfl rfl) (yf hr) .Gt) (zO .Gt) (ZC znH rfl T.zvM Bt.abs (zb (zq (zr .Sub) (ax hkd (av 2) aI) (ax hkd (av 3) aI)) zm (za rfl)) (Bt.n _ rfl) (by decide) rfl rfl) aI (zU _)))))) (zx (zK aZ)) zX)
  refine zj ?_ ?_;exact(by refine sv true 4 We.nd ?_;exact(zq (zr .Add) (ax hkd (av 2) aI) (ax hkd (av 3) aI)))
  refine zj ?_ ?_;exact(yI (zY (zT (hkd _ rfl rfl rfl) (yf hr) .NotEq) (zO .NotEq) (ax hkd (av 1) aI) (zE (zgh T hkd) (hr.mono (by omega)) rfl T.xQ T.zcm.kp T.zgM zJ (zb (av 0) (zb (av 4) zm (za rfl)) (za rfl)) (by decide) rfl rfl) (zU _)) (zx (zK aZ)) zX)
  exact zx (zK (wZ (zH (zq (zr .Add) aI (ZC (zdz rfl) rfl T.zoq Bt.max (zb (ax hkd (av 2) aI) (zb (ax hkd (av 3) aI) zm (za rfl)) (za rfl)) (Bt.n _ rfl) (by decide) rfl rfl)) (zH (av 4) yp (za rfl)) (za rfl)))))
theorem Zd(T:Txt K kd mg t)(hkd:KD1 P w K kd):FnOk P w K mg base CX0 26 t.WW t.Wx ["_law_way","_law_algebra_here","_law_tree","_law_row"] (spD K kd yF):=by
 refine yW (N:=zbJ) (ps:=["_law_way","_law_algebra_here","_law_tree","_law_row"]) (k:=25) (c:=zbM) T.vD Z1 λcdv A outer s H E hr=>?_
 exact(by
  refine zj ?_ ?_;exact(yI (AW.at_ (zcG (zY (zT (hkd _ rfl rfl rfl) (yf hr) .NotEq) (zO .NotEq) (zE (zhJ T hkd) (hr.mono (by omega)) rfl T.vC T.zdU.kp T.zhT zJ (zb (av 2) zm (za rfl)) (by decide) rfl rfl) (ZC (vA (hkd _ rfl rfl rfl)) rfl T.zbC Bt.len (zb (av 3) zm (za rfl)) (Bt.n _ rfl) (by decide) rfl rfl) (zU _)) (Xj (zaL (WY (zE (zec T hkd) (hr.mono (by omega)) rfl T.xJ T.zaE.kp T.zei zJ (zb (zE (zhJ T hkd) (hr.mono (by omega)) rfl T.vC T.zdU.kp T.zhT zJ (zb (av 2) zm (za rfl)) (by decide) rfl rfl) zm (za rfl)) (by decide) rfl rfl) (λ_=>rfl)))))) (zx (zK aB)) zX)
  refine zj ?_ ?_;exact(by refine sv false 4 Z1.nd ?_;exact(zE (zkS T hkd) (hr.mono (by omega)) rfl T.vm T.zfM.kp T.zkC zJ (zb (av 0) (zb (av 2) zm (za rfl)) (za rfl)) (by decide) rfl rfl))
  refine zj ?_ ?_;exact(yI (AW.at_ (zcG (zaL (WY (zjF (hkd _ rfl rfl rfl) rfl rfl T.Xh Bt.isinstance rfl T.zqx Bt.list (av 4) (Bt.n _ rfl) (by decide) (Bt.n _ rfl) (by decide) rfl rfl rfl) (λ_=>rfl))) (zcG (zY (zT (hkd _ rfl rfl rfl) (yf hr) .NotEq) (zO .NotEq) (av 4) (av 3) (zU _)) (Xj (zY (zT (hkd _ rfl rfl rfl) (yf hr) .NotEq) (zO .NotEq) (zE (zmh T hkd) (hr.mono (by omega)) rfl T.ZG T.zfm.kp T.zkY zJ (zb (av 0) (zb (av 2) zm (za rfl)) (za rfl)) (by decide) rfl rfl) (zE (zgh T hkd) (hr.mono (by omega)) rfl T.xQ T.zcm.kp T.zgM zJ (zb (av 1) (zb (av 3) zm (za rfl)) (za rfl)) (by decide) rfl rfl) (zU _)))))) (zx (zK aB)) zX)
  refine zj ?_ ?_;exact(Vj (Vf ZL zal PySem.F.slot_list_append PySem.F.type_list_append (pv 4) (zH aI yp (za rfl)) rfl rfl rfl rfl rfl) rfl)
  refine zj ?_ ?_;exact(yI (zY (zT (hkd _ rfl rfl rfl) (yf hr) .NotEq) (zO .NotEq) (zE (zkS T hkd) (hr.mono (by omega)) rfl T.vm T.zfM.kp T.zkC zJ (zb (av 0) (zb (av 2) zm (za rfl)) (za rfl)) (by decide) rfl rfl) (av 3) (zU _)) (zx (zK aB)) zX)
  refine zj ?_ ?_;exact(by refine sv true 5 Z1.nd ?_;exact(zE (zie T hkd 20) (hr.mono (by omega)) rfl T.vq T.zbv.kp T.zdE zJ (zb (av 0) (zb (av 2) zm (za rfl)) (za rfl)) (by decide) rfl rfl))
  refine zj ?_ ?_;exact(yI (zY (zT (hkd _ rfl rfl rfl) (yf hr) .Eq) (zO .Eq) (av 3) (wA yp) (zU _)) (zx (zK (Vm (zT (hkd _ rfl rfl rfl) (yf hr) .Eq) (av 5) (wZ yp) (zU _)))) zX)
  refine zj ?_ ?_;exact(by refine sv true 6 Z1.nd ?_;exact(zE (zgN T hkd 20) (hr.mono (by omega)) rfl T.wJ T.Vl.kp T.zbX zJ (zb (av 1) (zb (av 5) zm (za rfl)) (za rfl)) (by decide) rfl rfl))
  exact zx (zK (zly (Vm (zT (hkd _ rfl rfl rfl) (yf hr) .IsNot) (av 6) aZ (zU _)) (zlg (Vm (zT (hkd _ rfl rfl rfl) (yf hr) .Eq) (ax hkd (av 6) aI) (av 3) (zU _))))))
theorem zeB(T:Txt K kd mg t)(hkd:KD1 P w K kd):FnOk P w K mg base CX0 2 t.zam t.zas ["_law_cell","_law_many","_law_n"] (spD K kd wW):=by
 refine yW (N:=zem) (ps:=["_law_cell","_law_many","_law_n"]) (k:=1) (c:=zen) T.zaQ v4 λcdv A outer s H E hr=>?_
 exact(by
  refine zj ?_ ?_;exact(by refine sv false 3 v4.nd ?_;exact(wA yp))
  refine zj ?_ ?_;exact(by refine sv true 4 v4.nd ?_;exact(zE (yt T hkd) (hr.mono (by omega)) rfl T.zu T.yr.kp T.yu zJ (zb (av 0) (zb aI zm (za rfl)) (za rfl)) (by decide) rfl rfl))
  refine zj ?_ ?_;exact(vH PassesOwn.never rfl (xj rfl T.xg (zb (av 1) zm (za rfl)) rfl) (an 5 v4.nd) (zx (yI (AW.at_ (zor (zY (zT (hkd _ rfl rfl rfl) (yf hr) .Eq) (zO .Eq) (zq (zr .Mod) (av 0) aI) aI (zU _)) (zgC (zY (zT (hkd _ rfl rfl rfl) (yf hr) .Lt) (zO .Lt) (av 5) aI (zU _))))) (by
  refine zj ?_ ?_;exact(Vj (Vf ZL zal PySem.F.slot_list_append PySem.F.type_list_append (pv 3) (zH (zq (zr .Mod) (av 4) (av 2)) yp (za rfl)) rfl rfl rfl rfl rfl) rfl)
  exact zx (by refine sv true 4 v4.nd ?_;exact(zq (zr .FloorDiv) (av 4) (av 2)))) (by
  refine zj ?_ ?_;exact(by refine sv true 4 v4.nd ?_;exact(zq (zr .Mod) (zq (zr .Add) (zq (zr .Add) (zq (zr .Mult) (zq (zr .Mod) (av 4) aI) aI) (zq (zr .Mult) (av 5) (av 5))) aI) aI))
  exact zx (Vj (Vf ZL zal PySem.F.slot_list_append PySem.F.type_list_append (pv 3) (zH (zq (zr .Mod) (zq (zr .FloorDiv) (zq (zr .Mod) (zq (zr .Mult) (av 4) (av 4)) aI) aI) (av 2)) yp (za rfl)) rfl rfl rfl rfl rfl) rfl)))) (λ_=>rfl))
  exact zx (zK (av 3)))
theorem zea(T:Txt K kd mg t)(hkd:KD1 P w K kd):FnOk P w K mg base CX0 28 t.zaG t.zaF ["_law_way","_law_algebra_here","_law_one_here","_law_other"] (spD K kd vO):=by
 refine yW (N:=zex) (ps:=["_law_way","_law_algebra_here","_law_one_here","_law_other"]) (k:=27) (c:=zee) T.zaO VJ λcdv A outer s H E hr=>?_
 exact(by
  refine zj ?_ ?_;exact(by refine sv true 4 VJ.nd ?_;exact(zE (zbc T hkd 20) (hr.mono (by omega)) rfl T.xN T.Xk.kp T.Vb zJ (zb (av 0) (zb (av 2) zm (za rfl)) (za rfl)) (by decide) rfl rfl))
  refine zj ?_ ?_;exact(by refine sv true 5 VJ.nd ?_;exact(zE (zbc T hkd 20) (hr.mono (by omega)) rfl T.xN T.Xk.kp T.Vb zJ (zb (av 0) (zb (av 3) zm (za rfl)) (za rfl)) (by decide) rfl rfl))
  refine zj ?_ ?_;exact(yI (zaL (WY (zE (Zd T hkd) (hr.mono (by omega)) rfl T.yF T.vD.kp T.Ze zJ (by refine zb ?_ ?_ ?_;exact(av 0);refine zb ?_ ?_ ?_;exact(av 1);refine zb ?_ ?_ ?_;exact(zE (Z8 T hkd 20) (hr.mono (by omega)) rfl T.yw T.wO.kp T.vP zJ (by refine zb ?_ ?_ ?_;exact(av 0);refine zb ?_ ?_ ?_;exact(av 4);refine zb ?_ ?_ ?_;exact(av 5);exact zm;exact za rfl;exact za rfl;exact za rfl) (by decide) rfl rfl);refine zb ?_ ?_ ?_;exact(zq (zr .Add) (av 2) (av 3));exact zm;exact za rfl;exact za rfl;exact za rfl;exact za rfl) (by decide) rfl rfl) (λ_=>rfl))) (zx (zK aB)) zX)
  refine zj ?_ ?_;exact(yI (zaL (WY (zE (Zd T hkd) (hr.mono (by omega)) rfl T.yF T.vD.kp T.Ze zJ (by refine zb ?_ ?_ ?_;exact(av 0);refine zb ?_ ?_ ?_;exact(av 1);refine zb ?_ ?_ ?_;exact(zE (Z8 T hkd 20) (hr.mono (by omega)) rfl T.yw T.wO.kp T.vP zJ (by refine zb ?_ ?_ ?_;exact(av 0);refine zb ?_ ?_ ?_;exact(av 5);refine zb ?_ ?_ ?_;exact(av 4);exact zm;exact za rfl;exact za rfl;exact za rfl) (by decide) rfl rfl);refine zb ?_ ?_ ?_;exact(zq (zr .Add) (av 3) (av 2));exact zm;exact za rfl;exact za rfl;exact za rfl;exact za rfl) (by decide) rfl rfl) (λ_=>rfl))) (zx (zK aB)) zX)
  exact zx (zK (zly (zE (Zd T hkd) (hr.mono (by omega)) rfl T.yF T.vD.kp T.Ze zJ (by refine zb ?_ ?_ ?_;exact(av 0);refine zb ?_ ?_ ?_;exact(av 1);refine zb ?_ ?_ ?_;exact(av 4);refine zb ?_ ?_ ?_;exact(av 2);exact zm;exact za rfl;exact za rfl;exact za rfl;exact za rfl) (by decide) rfl rfl) (zlg (zE (Zd T hkd) (hr.mono (by omega)) rfl T.yF T.vD.kp T.Ze zJ (by refine zb ?_ ?_ ?_;exact(av 0);refine zb ?_ ?_ ?_;exact(av 1);refine zb ?_ ?_ ?_;exact(av 5);refine zb ?_ ?_ ?_;exact(av 3);exact zm;exact za rfl;exact za rfl;exact za rfl;exact za rfl) (by decide) rfl rfl)))))
theorem zeR(T:Txt K kd mg t)(hkd:KD1 P w K kd)(c:Str):FnOk P w K mg base CX0 5 t.Y6 t.YX ["self","algebra"] (spI K kd c (Zw c)):=by
 refine zqk (N:=Zn) (ps:=["self","algebra"]) (k:=4) (b:=YZ) T.zeL zdF (by decide) λcdv A outer s H E hr=>?_
 exact(wL (zrd (zE (zgp T hkd) (hr.mono (by omega)) rfl T.wR T.zba.kp T.zgq zJ (zb (av 1) zm (za rfl)) (by decide) rfl rfl) rfl) (wL (vK (zbY T) (pv 0) (ax hkd (av 1) aI) rfl) (wL (vK (zjG T) (pv 0) (ax hkd (av 1) aI) rfl) (wL (vK (zmG T) (pv 0) (zE (zpX T hkd) (hr.mono (by omega)) rfl T.zaN T.zkZ.kp T.zqr zJ (zb (ax hkd (av 1) aI) zm (za rfl)) (by decide) rfl rfl) rfl) (wL (vK (zhP T) (pv 0) (ax hkd (av 1) aI) rfl) (wL (vK (zrV T) (pv 0) (YF (zft rfl (hkd _ rfl rfl rfl)) rfl T.zpY Bt.dict (zb (Xf (N:=["name","rows"]) (cap:=[none,none]) (S:=[0,1]) rfl (zfZ (ax hkd (av 1) aI)) rfl (by change YC _ Zn _ (zG wC).names _=true;decide +kernel) (by decide) (λcl s H fp=>(zje rfl (Yy (an 0 XQ) (Yy (an 1 XQ) zeY rfl) rfl) rfl rfl)) (λcl s H fp=>Z6) (λcl s H fp=>(wZ (zH (av 0) (zH (zE (zpX T hkd) (hr.mono (by omega)) rfl T.zaN T.zkZ.kp T.zqr zJ (zb (av 1) zm (za rfl)) (by decide) rfl rfl) yp (za rfl)) (za rfl)))) (λ_=>rfl)) zm (za rfl)) (Bt.n _ rfl) (by decide) rfl rfl) rfl) (znu (vK (znw T) (pv 0) (YF (zft rfl (hkd _ rfl rfl rfl)) rfl T.zpY Bt.dict (zb (Xf (N:=["name","values"]) (cap:=[none,none]) (S:=[0,1]) rfl (zfZ (ax hkd (av 1) aI)) rfl (by change YC _ Zn _ (zG wC).names _=true;decide +kernel) (by decide) (λcl s H fp=>(zje rfl (Yy (an 0 Xo) (Yy (an 1 Xo) zeY rfl) rfl) rfl rfl)) (λcl s H fp=>Z6) (λcl s H fp=>(wZ (zH (av 0) (zH (YF Ve rfl T.zbn Bt.tuple (zb (av 1) zm (za rfl)) (Bt.n _ rfl) (by decide) rfl rfl) yp (za rfl)) (za rfl)))) (λ_=>rfl)) zm (za rfl)) (Bt.n _ rfl) (by decide) rfl rfl) rfl))))))))
theorem o_law(T:Txt K kd mg t)(hkd:KD1 P w K kd):FnOk P w K mg base CX0 29 t.zom t.zow ["_law_script"] (spD K kd zgK):=by
 refine yW (N:=zpQ) (ps:=["_law_script"]) (k:=28) (c:=zsA) T.zvK WF λcdv A outer s H E hr=>?_
 exact(by
  refine zj ?_ ?_;exact(by refine sv true 1 WF.nd ?_;exact(zE (zhb T hkd) (hr.mono (by omega)) rfl T.vB T.zbI.kp T.zhk zJ (zb (zE (xr T hkd) (hr.mono (by omega)) rfl T.zN T.yZ.kp T.xu zJ (zb (av 0) (zb aI zm (za rfl)) (za rfl)) (by decide) rfl rfl) zm (za rfl)) (by decide) rfl rfl))
  refine zj ?_ ?_;exact(by refine sv true 2 WF.nd ?_;exact(zdd T.Yn.eq (T.Yn.mk' T.zeS) (zeR T hkd "Ways") (hr.mono (by omega)) rfl T.Yn.mg T.zeV zJ (zb (av 1) zm (za rfl)) (by decide) rfl rfl))
  refine zj ?_ ?_;exact(by refine sv true 3 WF.nd ?_;exact(wA (zH (zq (zr .Mod) (zE (xr T hkd) (hr.mono (by omega)) rfl T.zN T.yZ.kp T.xu zJ (zb (av 0) (zb aI zm (za rfl)) (za rfl)) (by decide) rfl rfl) aI) (zH (zq (zr .Mod) (zE (xr T hkd) (hr.mono (by omega)) rfl T.zN T.yZ.kp T.xu zJ (zb (av 0) (zb aI zm (za rfl)) (za rfl)) (by decide) rfl rfl) aI) yp (za rfl)) (za rfl))))
  refine zj ?_ ?_;exact(yI (zY (zT (hkd _ rfl rfl rfl) (yf hr) .Eq) (zO .Eq) (zq (zr .Mod) (zE (xr T hkd) (hr.mono (by omega)) rfl T.zN T.yZ.kp T.xu zJ (zb (av 0) (zb aI zm (za rfl)) (za rfl)) (by decide) rfl rfl) aI) aI (zU _)) (zx (by refine sv true 3 WF.nd ?_;exact(wA (zH (zq (zr .Mod) (zE (xr T hkd) (hr.mono (by omega)) rfl T.zN T.yZ.kp T.xu zJ (zb (av 0) (zb aI zm (za rfl)) (za rfl)) (by decide) rfl rfl) aI) (zH (zq (zr .Mod) (zE (xr T hkd) (hr.mono (by omega)) rfl T.zN T.yZ.kp T.xu zJ (zb (av 0) (zb aI zm (za rfl)) (za rfl)) (by decide) rfl rfl) aI) yp (za rfl)) (za rfl))))) zX)
  refine zj ?_ ?_;exact(by refine sv true 4 WF.nd ?_;exact(zE (zeB T hkd) (hr.mono (by omega)) rfl T.wW T.zaQ.kp T.zeH zJ (by refine zb ?_ ?_ ?_;exact(zE (xr T hkd) (hr.mono (by omega)) rfl T.zN T.yZ.kp T.xu zJ (zb (av 0) (zb aI zm (za rfl)) (za rfl)) (by decide) rfl rfl);refine zb ?_ ?_ ?_;exact(ax hkd (av 3) aI);refine zb ?_ ?_ ?_;exact(ax hkd (av 1) aI);exact zm;exact za rfl;exact za rfl;exact za rfl) (by decide) rfl rfl))
  refine zj ?_ ?_;exact(by refine sv true 5 WF.nd ?_;exact(zE (zeB T hkd) (hr.mono (by omega)) rfl T.wW T.zaQ.kp T.zeH zJ (by refine zb ?_ ?_ ?_;exact(zE (xr T hkd) (hr.mono (by omega)) rfl T.zN T.yZ.kp T.xu zJ (zb (av 0) (zb aI zm (za rfl)) (za rfl)) (by decide) rfl rfl);refine zb ?_ ?_ ?_;exact(ax hkd (av 3) aI);refine zb ?_ ?_ ?_;exact(ax hkd (av 1) aI);exact zm;exact za rfl;exact za rfl;exact za rfl) (by decide) rfl rfl))
  refine zj ?_ ?_;exact(ziK (z:=true) (i:=6) (N:=["_law_cell","_law_algebra_here"]) (cap:=[none,some 1]) (S:=[0]) WF.nd rfl (by exact Or.inl rfl) (by exact Or.inr rfl) rfl rfl (zfZ (W3 (av 0) (ZS aI) (ZS aI))) rfl (by change YC _ zpQ _ (zG zkE).names _=true;decide +kernel) (by decide) (λcl s H fp=>(an 0 zoz)) (λcl s H fp=>Z6) (λcl s H fp=>(zq (zr .Mod) (av 0) (ax hkd (av 1) aI))) (λ_=>rfl))
  refine zj ?_ ?_;exact(by refine sv true 7 WF.nd ?_;exact(zq (zr .Mod) (zE (xr T hkd) (hr.mono (by omega)) rfl T.zN T.yZ.kp T.xu zJ (zb (av 0) (zb aI zm (za rfl)) (za rfl)) (by decide) rfl rfl) (zq (zr .Add) (ZC (vA (hkd _ rfl rfl rfl)) rfl T.zbC Bt.len (zb (av 6) zm (za rfl)) (Bt.n _ rfl) (by decide) rfl rfl) aI)))
  refine zj ?_ ?_;exact(yI (AW.at_ (zcG (zaL (WY (zE (zea T hkd) (hr.mono (by omega)) rfl T.vO T.zaO.kp T.zeb zJ (by refine zb ?_ ?_ ?_;exact(av 2);refine zb ?_ ?_ ?_;exact(av 1);refine zb ?_ ?_ ?_;exact(av 4);refine zb ?_ ?_ ?_;exact(av 5);exact zm;exact za rfl;exact za rfl;exact za rfl;exact za rfl) (by decide) rfl rfl) (λ_=>rfl))) (Xj (zaL (WY (zE (zea T hkd) (hr.mono (by omega)) rfl T.vO T.zaO.kp T.zeb zJ (by refine zb ?_ ?_ ?_;exact(av 2);refine zb ?_ ?_ ?_;exact(av 1);refine zb ?_ ?_ ?_;exact(W3 (av 6) Vk (ZS (av 7)));refine zb ?_ ?_ ?_;exact(W3 (av 6) (ZS (av 7)) Vk);exact zm;exact za rfl;exact za rfl;exact za rfl;exact za rfl) (by decide) rfl rfl) (λ_=>rfl)))))) (zx (zK aB)) zX)
  refine zj ?_ ?_;exact(by refine sv true 8 WF.nd ?_;exact(zE (zbc T hkd 20) (hr.mono (by omega)) rfl T.xN T.Xk.kp T.Vb zJ (zb (av 2) (zb (av 6) zm (za rfl)) (za rfl)) (by decide) rfl rfl))
  exact zx (zK (zE (Zd T hkd) (hr.mono (by omega)) rfl T.yF T.vD.kp T.Ze zJ (by refine zb ?_ ?_ ?_;exact(av 2);refine zb ?_ ?_ ?_;exact(av 1);refine zb ?_ ?_ ?_;exact(zE (Z8 T hkd 20) (hr.mono (by omega)) rfl T.yw T.wO.kp T.vP zJ (by refine zb ?_ ?_ ?_;exact(av 2);refine zb ?_ ?_ ?_;exact(av 8);refine zb ?_ ?_ ?_;exact(av 8);exact zm;exact za rfl;exact za rfl;exact za rfl) (by decide) rfl rfl);refine zb ?_ ?_ ?_;exact(zq (zr .Add) (av 6) (av 6));exact zm;exact za rfl;exact za rfl;exact za rfl;exact za rfl) (by decide) rfl rfl)))
end
abbrev NsR(K:zD)(x:Str)(f:Addr):Prop:=PySem.W.nsIn K mainGlobals x=some (some (.ref f))
abbrev FnAt(K:zD)(x q:Str)(s:Stmt)(f:Addr):Prop:=∃d,Fun K x q s f d
theorem ztR{l:PySem.W.OpenLaw}{w:World}{K:zD}{h:Heap}{mg:Str->Option Value}{fa:Addr}(X:K.In h)(G:h.Ns mainGlobals mg)(hfa:mg "law"=some (.ref fa))
 {f0 f1 f2 f3 f4 f5 f6 f7 f8 f9 f10 f11 f12 f13 f14 f15 f16 f17 f18 f19 f20 f21 f22 f23 f24 f25 f26 f27 f28 f29 f30 f31 f32 f33 f34 f35 f36 f37 f38 f39 f40 f41 f42 f43 C0 C1:Addr}
 (aC0:PySem.W.nsIn K mainGlobals "Knot"=some (some (.ref C0)))
 (aC1:PySem.W.nsIn K mainGlobals "Ways"=some (some (.ref C1)))
 (e0:PySem.W.findIn K (.ref C0) "__init__"=some (some (.ref f0))) (ei0:PySem.W.isFn K (.ref f0)=true) (ek0:PySem.W.keepIn K (.ref f0)=true)
 (e1:PySem.W.findIn K (.ref C1) "__init__"=some (some (.ref f42))) (ei1:PySem.W.isFn K (.ref f42)=true) (ek1:PySem.W.keepIn K (.ref f42)=true)
 (e2:PySem.W.findIn K (.ref C1) "join"=some (some (.ref f2))) (ei2:PySem.W.isFn K (.ref f2)=true) (ek2:PySem.W.keepIn K (.ref f2)=true)
 (e3:PySem.W.findIn K (.ref C1) "nothing"=some (some (.ref f6))) (ei3:PySem.W.isFn K (.ref f6)=true) (ek3:PySem.W.keepIn K (.ref f6)=true)
 (e4:PySem.W.findIn K (.ref C1) "behind"=some (some (.ref f8))) (ei4:PySem.W.isFn K (.ref f8)=true) (ek4:PySem.W.keepIn K (.ref f8)=true)
 (e5:PySem.W.findIn K (.ref C1) "made"=some (some (.ref f10))) (ei5:PySem.W.isFn K (.ref f10)=true) (ek5:PySem.W.keepIn K (.ref f10)=true)
 (pg0:PySem.W.plainGet K C0 Str.empty=true) (hd0:PySem.W.hasDictIn K C0=true) (po0:PySem.W.plainOver K C0=true) (sa0:PySem.W.findIn K (.ref C0) "__setattr__"=some (some (.builtin "object.__setattr__"))) (mk0:PySem.W.makesIn K C0=true) (kc0:PySem.W.keepIn K (.ref C0)=true)
 (pg1:PySem.W.plainGet K C1 Str.empty=true) (hd1:PySem.W.hasDictIn K C1=true) (po1:PySem.W.plainOver K C1=true) (sa1:PySem.W.findIn K (.ref C1) "__setattr__"=some (some (.builtin "object.__setattr__"))) (mk1:PySem.W.makesIn K C1=true) (kc1:PySem.W.keepIn K (.ref C1)=true)
 (na0:PySem.W.findIn K (.ref C0) "whole"=some none)
 (na1:PySem.W.findIn K (.ref C0) "back"=some none)
 (na2:PySem.W.findIn K (.ref C0) "wait"=some none)
 (na3:PySem.W.findIn K (.ref C0) "turn"=some none)
 (na4:PySem.W.findIn K (.ref C0) "one"=some none)
 (na5:PySem.W.findIn K (.ref C0) "other"=some none)
 (na6:PySem.W.findIn K (.ref C0) "deep"=some none)
 (na7:PySem.W.findIn K (.ref C0) "size"=some none)
 (na8:PySem.W.findIn K (.ref C1) "size"=some none)
 (na9:PySem.W.findIn K (.ref C1) "table"=some none)
 (na10:PySem.W.findIn K (.ref C1) "neutral"=some none)
 (na11:PySem.W.findIn K (.ref C1) "around"=some none)
 (na12:PySem.W.findIn K (.ref C1) "waits"=some none)
 (na13:PySem.W.findIn K (.ref C1) "holders"=some none)
 (l0:FnAt K "__init__" "Knot.__init__" Zu f0)
 (a1:NsR K "leaf_of" f1) (l1:FnAt K "leaf_of" "leaf_of" zbi f1)
 (l2:FnAt K "join" "Ways.join" Wd f2)
 (a3:NsR K "knot_of" f3) (l3:FnAt K "knot_of" "knot_of" zbd f3)
 (a4:NsR K "tree_of" f4) (l4:FnAt K "tree_of" "tree_of" zbm f4)
 (a5:NsR K "size_of" f5) (l5:FnAt K "size_of" "size_of" zbu f5)
 (l6:FnAt K "nothing" "Ways.nothing" ZW f6)
 (a7:NsR K "whole_of" f7) (l7:FnAt K "whole_of" "whole_of" Vr f7)
 (l8:FnAt K "behind" "Ways.behind" Zm f8)
 (a9:NsR K "both_waits" f9) (l9:FnAt K "both_waits" "both_waits" Xd f9)
 (l10:FnAt K "made" "Ways.made" X6 f10)
 (a11:NsR K "done_all" f11) (l11:FnAt K "done_all" "done_all" V1 f11)
 (a12:NsR K "turned_all" f12) (l12:FnAt K "turned_all" "turned_all" Xa f12)
 (a13:NsR K "parts_of" f13) (l13:FnAt K "parts_of" "parts_of" Vg f13)
 (a14:NsR K "gather" f14) (l14:FnAt K "gather" "gather" zcO f14)
 (a15:NsR K "row_of" f15) (l15:FnAt K "row_of" "row_of" zcT f15)
 (a16:NsR K "walk_of" f16) (l16:FnAt K "walk_of" "walk_of" zbg f16)
 (a17:NsR K "leaned_left" f17) (l17:FnAt K "leaned_left" "leaned_left" Yq f17)
 (a18:NsR K "leaned_right" f18) (l18:FnAt K "leaned_right" "leaned_right" Z5 f18)
 (a19:NsR K "evened" f19) (l19:FnAt K "evened" "evened" zcF f19)
 (a20:NsR K "put_together" f20) (l20:FnAt K "put_together" "put_together" Yd f20)
 (a21:NsR K "nothing_fails" f21) (l21:FnAt K "nothing_fails" "nothing_fails" Zv f21)
 (a22:NsR K "parting_fails" f22) (l22:FnAt K "parting_fails" "parting_fails" Zt f22)
 (a23:NsR K "doing_fails" f23) (l23:FnAt K "doing_fails" "doing_fails" Yu f23)
 (a24:NsR K "deeds_fail" f24) (l24:FnAt K "deeds_fail" "deeds_fail" Xb f24)
 (a25:NsR K "what_fails" f25) (l25:FnAt K "what_fails" "what_fails" Xc f25)
 (a26:NsR K "check_let_by" f26) (l26:FnAt K "check_let_by" "check_let_by" Z9 f26)
 (a27:NsR K "firm" f27) (l27:FnAt K "firm" "firm" zfY f27)
 (a28:NsR K "_law_cell_at" f28) (l28:FnAt K "_law_cell_at" "_law_cell_at" Yp f28)
 (a29:NsR K "_law_mixed" f29) (l29:FnAt K "_law_mixed" "_law_mixed" X8 f29)
 (a30:NsR K "_law_names" f30) (l30:FnAt K "_law_names" "_law_names" ZQ f30)
 (a31:NsR K "_law_two" f31) (l31:FnAt K "_law_two" "_law_two" zbk f31)
 (a32:NsR K "_law_one" f32) (l32:FnAt K "_law_one" "_law_one" Vd f32)
 (a33:NsR K "_law_order" f33) (l33:FnAt K "_law_order" "_law_order" X4 f33)
 (a34:NsR K "_law_rows" f34) (l34:FnAt K "_law_rows" "_law_rows" Vh f34)
 (a35:NsR K "_law_algebra" f35) (l35:FnAt K "_law_algebra" "_law_algebra" wI f35)
 (a36:NsR K "_law_come" f36) (l36:FnAt K "_law_come" "_law_come" VH f36)
 (a37:NsR K "_law_whole" f37) (l37:FnAt K "_law_whole" "_law_whole" Wa f37)
 (a38:NsR K "_law_gone" f38) (l38:FnAt K "_law_gone" "_law_gone" VF f38)
 (a39:NsR K "_law_is_tree" f39) (l39:FnAt K "_law_is_tree" "_law_is_tree" Yt f39)
 (a40:NsR K "_law_drawn" f40) (l40:FnAt K "_law_drawn" "_law_drawn" X3 f40)
 (a41:NsR K "_law_right" f41) (l41:FnAt K "_law_right" "_law_right" Wh f41)
 (l42:FnAt K "__init__" "Ways.__init__" wC f42)
 (a43:NsR K "law" f43) (l43:FnAt K "law" "law" zkE f43)
 (z0:PySem.W.nsIn K mainGlobals "abs"=some none) (z1:PySem.W.nsIn K mainGlobals "bool"=some none) (z2:PySem.W.nsIn K mainGlobals "dict"=some none) (z3:PySem.W.nsIn K mainGlobals "int"=some none) (z4:PySem.W.nsIn K mainGlobals "isinstance"=some none) (z5:PySem.W.nsIn K mainGlobals "len"=some none) (z6:PySem.W.nsIn K mainGlobals "list"=some none) (z7:PySem.W.nsIn K mainGlobals "max"=some none) (z8:PySem.W.nsIn K mainGlobals "range"=some none) (z9:PySem.W.nsIn K mainGlobals "sorted"=some none) (z10:PySem.W.nsIn K mainGlobals "tuple"=some none) (z11:PySem.W.nsIn K mainGlobals "zip"=some none):
 ∃fd:FuncData,(∀(s:Shared) (v:Value),BindsTo s fd ⟨[v],[]⟩ [("_law_script",v)])/\∀base:Heap,K.In base->base.Ns mainGlobals mg->FnOk l.prog w K mg base CX0 29 fa fd ["_law_script"] (spL K zgK):=by
 have e:=hfa.symm.trans (PySem.W.mg_of X G a43)
 cases e
 obtain⟨_,F0⟩:=l0
 have b0:=F0.binds (ps:=["self","whole","back","wait","turn","one","other"]) λ_ _ _ _ _ _ us hl=>match us,hl with | [_,_,_,_,_,_,_],_=>rfl
 obtain⟨_,F1⟩:=l1
 have b1:=F1.binds (ps:=["value"]) λ_ _ _ _ _ _=>l1_ λ_=>rfl
 obtain⟨_,F2⟩:=l2
 have b2:=F2.binds (ps:=["self","one","other"]) λ_ _ _ _ _ _=>l3_ λ_ _ _=>rfl
 obtain⟨_,F3⟩:=l3
 have b3:=F3.binds (ps:=["way","one","other"]) λ_ _ _ _ _ _=>l3_ λ_ _ _=>rfl
 obtain⟨_,F4⟩:=l4
 have b4:=F4.binds (ps:=["way","row"]) λ_ _ _ _ _ _=>l2_ λ_ _=>rfl
 obtain⟨_,F5⟩:=l5
 have b5:=F5.binds (ps:=["tree"]) λ_ _ _ _ _ _=>l1_ λ_=>rfl
 obtain⟨_,F6⟩:=l6
 have b6:=F6.binds (ps:=["self"]) λ_ _ _ _ _ _=>l1_ λ_=>rfl
 obtain⟨_,F7⟩:=l7
 have b7:=F7.binds (ps:=["way","tree"]) λ_ _ _ _ _ _=>l2_ λ_ _=>rfl
 obtain⟨_,F8⟩:=l8
 have b8:=F8.binds (ps:=["self","one","other"]) λ_ _ _ _ _ _=>l3_ λ_ _ _=>rfl
 obtain⟨_,F9⟩:=l9
 have b9:=F9.binds (ps:=["way","one","other"]) λ_ _ _ _ _ _=>l3_ λ_ _ _=>rfl
 obtain⟨_,F10⟩:=l10
 have b10:=F10.binds (ps:=["self","wait","value","many"]) λ_ _ _ _ _ _=>l4_ λ_ _ _ _=>rfl
 obtain⟨_,F11⟩:=l11
 have b11:=F11.binds (ps:=["way","tree","wait"]) λ_ _ _ _ _ _=>l3_ λ_ _ _=>rfl
 obtain⟨_,F12⟩:=l12
 have b12:=F12.binds (ps:=["way","tree"]) λ_ _ _ _ _ _=>l2_ λ_ _=>rfl
 obtain⟨_,F13⟩:=l13
 have b13:=F13.binds (ps:=["way","knot"]) λ_ _ _ _ _ _=>l2_ λ_ _=>rfl
 obtain⟨_,F14⟩:=l14
 have b14:=F14.binds (ps:=["way","tree","wait","turn","row"]) λ_ _ _ _ _ _=>l5_ λ_ _ _ _ _=>rfl
 obtain⟨_,F15⟩:=l15
 have b15:=F15.binds (ps:=["way","tree"]) λ_ _ _ _ _ _=>l2_ λ_ _=>rfl
 obtain⟨_,F16⟩:=l16
 have b16:=F16.binds (ps:=["way","tree"]) λ_ _ _ _ _ _=>l2_ λ_ _=>rfl
 obtain⟨_,F17⟩:=l17
 have b17:=F17.binds (ps:=["way","one","other"]) λ_ _ _ _ _ _=>l3_ λ_ _ _=>rfl
 obtain⟨_,F18⟩:=l18
 have b18:=F18.binds (ps:=["way","one","other"]) λ_ _ _ _ _ _=>l3_ λ_ _ _=>rfl
 obtain⟨_,F19⟩:=l19
 have b19:=F19.binds (ps:=["way","one","other"]) λ_ _ _ _ _ _=>l3_ λ_ _ _=>rfl
 obtain⟨_,F20⟩:=l20
 have b20:=F20.binds (ps:=["way","one","other"]) λ_ _ _ _ _ _=>l3_ λ_ _ _=>rfl
 obtain⟨_,F21⟩:=l21
 have b21:=F21.binds (ps:=["algebra"]) λ_ _ _ _ _ _=>l1_ λ_=>rfl
 obtain⟨_,F22⟩:=l22
 have b22:=F22.binds (ps:=["algebra"]) λ_ _ _ _ _ _=>l1_ λ_=>rfl
 obtain⟨_,F23⟩:=l23
 have b23:=F23.binds (ps:=["algebra","name","rows"]) λ_ _ _ _ _ _=>l3_ λ_ _ _=>rfl
 obtain⟨_,F24⟩:=l24
 have b24:=F24.binds (ps:=["algebra"]) λ_ _ _ _ _ _=>l1_ λ_=>rfl
 obtain⟨_,F25⟩:=l25
 have b25:=F25.binds (ps:=["algebra"]) λ_ _ _ _ _ _=>l1_ λ_=>rfl
 obtain⟨_,F26⟩:=l26
 have b26:=F26.binds (ps:=["algebra"]) λ_ _ _ _ _ _=>l1_ λ_=>rfl
 obtain⟨_,F27⟩:=l27
 have b27:=F27.binds (ps:=["rows"]) λ_ _ _ _ _ _=>l1_ λ_=>rfl
 obtain⟨_,F28⟩:=l28
 have b28:=F28.binds (ps:=["_law_script","_law_k"]) λ_ _ _ _ _ _=>l2_ λ_ _=>rfl
 obtain⟨_,F29⟩:=l29
 have b29:=F29.binds (ps:=["_law_cell","_law_k"]) λ_ _ _ _ _ _=>l2_ λ_ _=>rfl
 obtain⟨_,F30⟩:=l30
 have b30:=F30.binds (ps:=["_law_cell","_law_many"]) λ_ _ _ _ _ _=>l2_ λ_ _=>rfl
 obtain⟨_,F31⟩:=l31
 have b31:=F31.binds (ps:=["_law_kind","_law_n","_law_a","_law_b"]) λ_ _ _ _ _ _=>l4_ λ_ _ _ _=>rfl
 obtain⟨_,F32⟩:=l32
 have b32:=F32.binds (ps:=["_law_kind","_law_n","_law_cell","_law_c","_law_a"]) λ_ _ _ _ _ _=>l5_ λ_ _ _ _ _=>rfl
 obtain⟨_,F33⟩:=l33
 have b33:=F33.binds (ps:=["_law_cell","_law_n"]) λ_ _ _ _ _ _=>l2_ λ_ _=>rfl
 obtain⟨_,F34⟩:=l34
 have b34:=F34.binds (ps:=["_law_kind","_law_n","_law_m","_law_cell","_law_order_here"]) λ_ _ _ _ _ _=>l5_ λ_ _ _ _ _=>rfl
 obtain⟨_,F35⟩:=l35
 have b35:=F35.binds (ps:=["_law_cell"]) λ_ _ _ _ _ _=>l1_ λ_=>rfl
 obtain⟨_,F36⟩:=l36
 have b36:=F36.binds (ps:=["_law_algebra_here","_law_row"]) λ_ _ _ _ _ _=>l2_ λ_ _=>rfl
 obtain⟨_,F37⟩:=l37
 have b37:=F37.binds (ps:=["_law_found"]) λ_ _ _ _ _ _=>l1_ λ_=>rfl
 obtain⟨_,F38⟩:=l38
 have b38:=F38.binds (ps:=["_law_algebra_here","_law_found"]) λ_ _ _ _ _ _=>l2_ λ_ _=>rfl
 obtain⟨_,F39⟩:=l39
 have b39:=F39.binds (ps:=["_law_way","_law_algebra_here","_law_tree","_law_row"]) λ_ _ _ _ _ _=>l4_ λ_ _ _ _=>rfl
 obtain⟨_,F40⟩:=l40
 have b40:=F40.binds (ps:=["_law_cell","_law_many","_law_n"]) λ_ _ _ _ _ _=>l3_ λ_ _ _=>rfl
 obtain⟨_,F41⟩:=l41
 have b41:=F41.binds (ps:=["_law_way","_law_algebra_here","_law_one_here","_law_other"]) λ_ _ _ _ _ _=>l4_ λ_ _ _ _=>rfl
 obtain⟨_,F42⟩:=l42
 have b42:=F42.binds (ps:=["self","algebra"]) λ_ _ _ _ _ _=>l2_ λ_ _=>rfl
 obtain⟨_,F43⟩:=l43
 obtain⟨_,_,_,_,_,_,_,_,_,rfl,_,_⟩:=F43.ex
 have b43:=F43.binds (ps:=["_law_script"]) λ_ _ _ _ _ _=>l1_ λ_=>rfl
 let KL:List (Addr×List (Key×V)):=[]
 have hkd:KD1 l.prog w K (kdL KL (zso mg)):=zuw λp m=>by
  exact absurd (show p ∈ ([]:List (Addr×List (Key×V)))from m) zxA
 have T:Txt K (kdL KL (zso mg)) mg ⟨_,_,_,_,_,_,_,_,_,_,_,_,_,_,_,_,_,_,_,_,_,_,_,_,_,_,_,_,_,_,_,_,_,_,_,_,_,_,_,_,_,_,_,_,_,_,_,_,_,_,_,_,_,_,_,_,_,_,_,_,_,_,_,_,_,_,_,_,_,_,_,_,_,_,_,_,_,_,_,_,_,_,_,_,_,_,_,_,_,_⟩:=⟨F0,b0,F1,b1,PySem.W.mg_of X G a1,F2,b2,F3,b3,PySem.W.mg_of X G a3,F4,b4,PySem.W.mg_of X G a4,F5,b5,PySem.W.mg_of X G a5,F6,b6,F7,b7,PySem.W.mg_of X G a7,F8,b8,F9,b9,PySem.W.mg_of X G a9,F10,b10,F11,b11,PySem.W.mg_of X G a11,F12,b12,PySem.W.mg_of X G a12,F13,b13,PySem.W.mg_of X G a13,F14,b14,PySem.W.mg_of X G a14,F15,b15,PySem.W.mg_of X G a15,F16,b16,PySem.W.mg_of X G a16,F17,b17,PySem.W.mg_of X G a17,F18,b18,PySem.W.mg_of X G a18,F19,b19,PySem.W.mg_of X G a19,F20,b20,PySem.W.mg_of X G a20,F21,b21,PySem.W.mg_of X G a21,F22,b22,PySem.W.mg_of X G a22,F23,b23,PySem.W.mg_of X G a23,F24,b24,PySem.W.mg_of X G a24,F25,b25,PySem.W.mg_of X G a25,F26,b26,PySem.W.mg_of X G a26,F27,b27,PySem.W.mg_of X G a27,F28,b28,PySem.W.mg_of X G a28,F29,b29,PySem.W.mg_of X G a29,F30,b30,PySem.W.mg_of X G a30,F31,b31,PySem.W.mg_of X G a31,F32,b32,PySem.W.mg_of X G a32,F33,b33,PySem.W.mg_of X G a33,F34,b34,PySem.W.mg_of X G a34,F35,b35,PySem.W.mg_of X G a35,F36,b36,PySem.W.mg_of X G a36,F37,b37,PySem.W.mg_of X G a37,F38,b38,PySem.W.mg_of X G a38,F39,b39,PySem.W.mg_of X G a39,F40,b40,PySem.W.mg_of X G a40,F41,b41,PySem.W.mg_of X G a41,F42,b42,F43,b43,PySem.W.mg_of X G a43,⟨zmr (PySem.W.mg_of X G aC0),⟨pg0,hd0,po0,sa0⟩,mk0,kc0,PySem.W.mg_of X G aC0⟩,⟨zmr (PySem.W.mg_of X G aC1),⟨pg1,hd1,po1,sa1⟩,mk1,kc1,PySem.W.mg_of X G aC1⟩,⟨e0,ei0,ek0⟩,⟨e1,ei1,ek1⟩,⟨e2,ei2,ek2⟩,⟨e3,ei3,ek3⟩,⟨e4,ei4,ek4⟩,⟨e5,ei5,ek5⟩,na0,na1,na2,na3,na4,na5,na6,na7,na8,na9,na10,na11,na12,na13,PySem.W.mg_none_of X G z0,PySem.W.mg_none_of X G z1,PySem.W.mg_none_of X G z2,PySem.W.mg_none_of X G z3,PySem.W.mg_none_of X G z4,PySem.W.mg_none_of X G z5,PySem.W.mg_none_of X G z6,PySem.W.mg_none_of X G z7,PySem.W.mg_none_of X G z8,PySem.W.mg_none_of X G z9,PySem.W.mg_none_of X G z10,PySem.W.mg_none_of X G z11⟩
 exact⟨_,λs v=>.of_eq rfl,λbase _ _=>(o_law T hkd).imp λvs H Q E h=>h _⟩
theorem walk{l:PySem.W.OpenLaw}{q:Program}{loose:List Str}{XP:(Str->Option Value)->Heap->Prop}{YP:World->Heap->Prop}{d:DefRec}{K:Params->zD}(hn:l.most=some 63)(hdf:d.params.defaults=[])
 (hY:∀(w:World) (h:Heap),YP w h->(K w.params).In h) (hm:∀ns:List Int,ns.length<=63->zgK [(true,.lst (ns.map D.int))]=some (.lf true (.bl true)))
 (F:∀(w:World) (mg:Str->Option Value) (fa:Addr) (h:Heap),(K w.params).In h->h.Ns mainGlobals mg->mg d.name=some (.ref fa)->
  ∃fd:FuncData,(∀(s:Shared) (u:Value),BindsTo s fd ⟨[u],[]⟩ [("_law_script",u)])/\∀base:Heap,(K w.params).In base->base.Ns mainGlobals mg->FnOk l.prog w (K w.params) mg base CX0 29 fa fd ["_law_script"] (spL (K w.params) zgK)):
 PySem.W.WalkO q loose XP YP l.row.toRowW d [] (λf vs=>PySem.call f vs):=
 L2.walk_of (n:=63) (k:=29) (x:="_law_script") (CX:=λ_=>CX0) (sp:=λw=>spL (K w.params) zgK) hn (by decide) hdf ⟨rfl,by decide,by decide,rfl⟩ hY F (λ_ _ a ns hl _ hS kd=>ztX (hm ns hl) hS) λ_ _ _ _ _ z=>z
local macro_rules | `(tactic| trivial)=>`(tactic| first|with_reducible first|assumption|exact Int.natCast_nonneg _|exact Nat.le_refl _|exact Int.le_refl _|exact rfl|exact leN (by assumption)|exact np1 (by assumption)|exact np2 (by assumption)|exact nq1 (by assumption)|exact nq2 (by assumption)|exact Int.natCast_pos.mpr (by assumption)|exact Nat.le_trans (by assumption) (by decide)|exact bgL _|exact bgU (by assumption)|exact mU (by assumption)|exact zI _|exact bL0 (by assumption)|exact bU0 (by assumption) (by assumption)|exact iL (by assumption)|exact iU (by assumption) (by assumption)|exact iC (by assumption)|exact iT (by assumption)|exact stL (by assumption)|exact stU (by assumption)|exact lnK (by assumption) (by assumption) (by assumption)|exact zi1 _|exact lnE (by assumption)|exact ltL (by assumption)|exact Int.toNat_of_nonneg (by assumption)|exact tS (by assumption) (by assumption)|exact b6 (by assumption)|exact Int.emod_nonneg _ (by decide)|exact Int.emod_lt_of_pos _ (by decide)|decide|omega)
section
variable{n m:Nat}{J T:TZ}{e:Int}{Ds:DD}{S:SS}
theorem zlM(n8:n<=8)(hJ:Tab n n J)(he:InR n e):Flt (vp [(true,ww n m J e Ds S)]) (UnA n J e):=by
 refine Flt.imp (P:=UnA n J e/\True) (zlq (n:=4) (m:=1) (c:=Zo) rfl ?_) ⟨λz=>z.1,λz=>⟨z,trivial⟩⟩
 have s1:zW true 1 (f2 (fV 0) (fC (.int 2)) ixP) [sT (ww n m J e Ds S),none,none,none]=some (.nx [sT (ww n m J e Ds S),sT (wM J),none,none]):=yR (i:=1) (ZX (zc (i:=0) rfl) zg rfl) (zL rfl)
 have s2:zW true 2 (f2 (fV 0) (fC (.int 3)) ixP) [sT (ww n m J e Ds S),sT (wM J),none,none]=some (.nx [sT (ww n m J e Ds S),sT (wM J),sI e,none]):=yR (i:=2) (ZX (zc (i:=0) rfl) zg rfl) (zL rfl)
 have k:=ziA (as:=[sT (ww n m J e Ds S),sT (wM J),sI e,none]) (g:=yc (fC .non)) (Q:=True) (zsY (S:=λx y z=>[sT (ww n m J e Ds S),sT (wM J),sI e,x]) (x:=none) (y:=none) (z:=none) (vj:=1) (ve:=2) hJ he (λ_ _ _=>rfl) (λ_ _ _=>rfl) (λ_ _ _=>rfl) (λ_ _ _ _=>rfl)) λ_ _ _=>ziH
 have hf:∀f:SF,vh (xR (aC (f2 (fV 0) (fC (.int 0)) ixP) aN) xO) (gN 3) f [sT (ww n m J e Ds S),sT (wM J),sI e,none]=forL (gN 3) f (wD 0 n) [sT (ww n m J e Ds S),sT (wM J),sI e,none]:=λf=>Ym (vd (j:=(n:Int)) (zP (zZ (zc (i:=0) rfl) zg rfl rfl) ye) (by trivial) (by trivial)) (by rw[zyG])
 have fin:∀x,Rt (zM (λas=>forL (gN 3) (sIf (Xq (fT (f2 (f2 (f2 (fV 1) (fV 2) ixP) (fV 3) ixP) (fV 3) (zR .NotEq))) (fT (f2 (f2 (f2 (fV 1) (fV 3) ixP) (fV 2) ixP) (fV 3) (zR .NotEq)))) (yc (wU (dC (fC (.str "nothing")) (dC (fV 3) dN)))) sNx) (wD 0 n) as) (yc (fC .non)) [sT (ww n m J e Ds S),sT (wM J),sI e,none]) x->Rt (Zo (XF 4 [(true,ww n m J e Ds S)])) x:=λx h=>by
  refine zF s1 (zF s2 ?_)
  obtain⟨o,a,b⟩:=h
  refine⟨o, ?_,b⟩
  unfold zM at a ⊢
  rw[hf]
  exact a
 rcases k with⟨k,p⟩|⟨⟨es,k⟩,p⟩
 · exact .inl ⟨fin _ k,p⟩
 · exact .inr ⟨⟨es,fin _ k⟩,p⟩
theorem zmd(n8:n<=8)(hJ:Tab n n J):Flt (vo [(true,ww n m J e Ds S)]) (As n J):=by
 have s1:zW true 1 (f2 (fV 0) (fC (.int 0)) ixP) [sT (ww n m J e Ds S),none,none,none,none,none]=some (.nx [sT (ww n m J e Ds S),sI n,none,none,none,none]):=yR (i:=1) (ZX (zc (i:=0) rfl) zg rfl) (zL rfl)
 have s2:zW true 2 (f2 (fV 0) (fC (.int 2)) ixP) [sT (ww n m J e Ds S),sI n,none,none,none,none]=some (.nx [sT (ww n m J e Ds S),sI n,sT (wM J),none,none,none]):=yR (i:=2) (ZX (zc (i:=0) rfl) zg rfl) (zL rfl)
 have k:=zrw (S:=λx y z=>[sT (ww n m J e Ds S),sI n,sT (wM J),x,y,z]) (x:=none) (y:=none) (z:=none) (vj:=2) (vn:=1) n8 hJ (λ_ _ _=>rfl) (λ_ _ _=>rfl) (λ_ _ _=>rfl) (λ_ _ _=>rfl) (λ_ _ _=>rfl) (λ_ _ _ _=>rfl) (λ_ _ _ _=>rfl) (λ_ _ _ _=>rfl)
 rw[<-XX (v:=1) (n:=n) (g:=gN 3) (f:=ztD 2 1) (as:=[sT (ww n m J e Ds S),sI n,sT (wM J),none,none,none]) rfl (by trivial)]at k
 refine Flt.imp (P:=As n J/\True) (zlq (n:=6) (m:=1) (c:=YJ) rfl ?_) ⟨λz=>z.1,λz=>⟨z,trivial⟩⟩
 rcases ziA (g:=yc (fC .non)) (Q:=True) k λ_ _ _=>ziH with⟨k,p⟩|⟨⟨es,k⟩,p⟩
 · exact .inl ⟨zF s1 (zF s2 k),p⟩
 · exact .inr ⟨⟨es,zF s1 (zF s2 k)⟩,p⟩
theorem zpe{s:Str}(n8:n<=8)(m1:1<=m)(m6:m<=6)(hJ:Tab n n J)(hT:Tab m n T):Flt (vz [(true,ww n m J e Ds S),(true,.str s),(true,wM T)]) (Dn n m J T):=by
 have k:zeQ (forL (gN 6) (vh (xR (aC (fV 4) aN) xO) (gN 7) (vh (xR (aC (fV 3) aN) xO) (gN 8) (vh (xR (aC (fV 4) aN) xO) (gN 9) dfI))) (wD 0 n) (D10 n m J T e Ds S s none none none none)) (λas=>∃x y z w,as=D10 n m J T e Ds S s x y z w) (Dn n m J T):=by
  refine zaj (fr:=sNx) (λas=>∃x y z w,as=D10 n m J T e Ds S s x y z w) _ (λa ha as hI=>?_) ⟨_,_,_,_,rfl⟩
  obtain⟨x,y,z,w,rfl⟩:=hI
  refine⟨D10 n m J T e Ds S s (sI a) y z w,rfl, ?_⟩
  rw[XX (v:=4) (n:=m) rfl (by trivial)]
  have k:=zaj (v:=7) (n:=m) (fr:=sNx) (f:=vh (xR (aC (fV 3) aN) xO) (gN 8) (vh (xR (aC (fV 4) aN) xO) (gN 9) dfI)) (as:=D10 n m J T e Ds S s (sI a) y z w) (λas=>∃y z w,as=D10 n m J T e Ds S s (sI a) y z w) (λi=>∀b,InR n b->∀k,InR m k->jAt T ((i+k)%m) (jAt J a b)=jAt J (jAt T i a) (jAt T k b)) (λi hi as hI=>by
   obtain⟨y,z,w,rfl⟩:=hI
   refine⟨D10 n m J T e Ds S s (sI a) (sI i) z w,rfl, ?_⟩
   rw[XX (v:=3) (n:=n) rfl (by trivial)]
   have k:=zaj (v:=8) (n:=n) (fr:=sNx) (f:=vh (xR (aC (fV 4) aN) xO) (gN 9) dfI) (as:=D10 n m J T e Ds S s (sI a) (sI i) z w) (λas=>∃z w,as=D10 n m J T e Ds S s (sI a) (sI i) z w) (λb=>∀k,InR m k->jAt T ((i+k)%m) (jAt J a b)=jAt J (jAt T i a) (jAt T k b)) (λb hb as hI=>by
    obtain⟨z,w,rfl⟩:=hI
    refine⟨D10 n m J T e Ds S s (sI a) (sI i) (sI b) w,rfl, ?_⟩
    rw[XX (v:=4) (n:=m) rfl (by trivial)]
    rcases df4 (s:=s) (w:=w) (e:=e) (Ds:=Ds) (S:=S) hJ hT m1 ha hi hb with⟨as',k1,⟨w',rfl⟩,k3⟩|k
    · exact .inl ⟨_,k1,⟨_,_,rfl⟩,k3⟩
    · exact .inr k) ⟨_,_,rfl⟩
   rcases k with⟨as',k1,⟨z',w',rfl⟩,k3⟩|k
   · exact .inl ⟨_,k1,⟨_,_,_,rfl⟩,k3⟩
   · exact .inr k) ⟨_,_,_,rfl⟩
  rcases k with⟨as',k1,⟨y',z',w',rfl⟩,k3⟩|k
  · exact .inl ⟨_,k1,⟨_,_,_,_,rfl⟩,k3⟩
  · exact .inr k
 rw[<-XX (v:=3) (n:=n) (as:=D10 n m J T e Ds S s none none none none) rfl (by trivial)]at k
 have s3:zW true 3 (f2 (fV 0) (fC (.int 0)) ixP) [sT (ww n m J e Ds S),sT (.str s),sT (wM T),none,none,none,none,none,none,none]=some (.nx [sT (ww n m J e Ds S),sT (.str s),sT (wM T),sI n,none,none,none,none,none,none]):=yR (i:=3) (ZX (zc (i:=0) rfl) zg rfl) (zL rfl)
 have s4:zW true 4 (f2 (fV 0) (fC (.int 1)) ixP) [sT (ww n m J e Ds S),sT (.str s),sT (wM T),sI n,none,none,none,none,none,none]=some (.nx [sT (ww n m J e Ds S),sT (.str s),sT (wM T),sI n,sI m,none,none,none,none,none]):=yR (i:=4) (ZX (zc (i:=0) rfl) zg rfl) (zL rfl)
 have s5:zW true 5 (f2 (fV 0) (fC (.int 2)) ixP) [sT (ww n m J e Ds S),sT (.str s),sT (wM T),sI n,sI m,none,none,none,none,none]=some (.nx (D10 n m J T e Ds S s none none none none)):=yR (i:=5) (ZX (zc (i:=0) rfl) zg rfl) (zL rfl)
 refine Flt.imp (P:=Dn n m J T/\True) (zlq (n:=10) (m:=3) (c:=Wy) rfl ?_) ⟨λz=>z.1,λz=>⟨z,trivial⟩⟩
 rcases ziA (g:=yc (fC .non)) (Q:=True) k λ_ _ _=>ziH with⟨k,p⟩|⟨⟨es,k⟩,p⟩
 · exact .inl ⟨zF s3 (zF s4 (zF s5 k)),p⟩
 · exact .inr ⟨⟨es,zF s3 (zF s4 (zF s5 k))⟩,p⟩
theorem zlK(A:Alg n m J e Ds)(L:LawA n m J e Ds):RE (Yb [(true,ww n m J e Ds S)]) .non:=by
 have n8:=A.n8
 have m1:=A.m1
 have s1:zW true 1 (f2 (fV 0) (fC (.int 3)) ixP) [sT (ww n m J e Ds S),none,none,none,none]=some (.nx [sT (ww n m J e Ds S),sI e,none,none,none]):=yR (i:=1) (ZX (zc (i:=0) rfl) zg rfl) (zL rfl)
 obtain⟨as',hf,x,y,z,rfl⟩:=Zg (g:=gT 2 (gsC (gN 2) (gsC (gN 3) gsN))) (f:=(zM (sIf (fT (f2 (f2 (f2 (fV 3) (fC (.int 0)) ixP) (fV 1) ixP) (fV 1) (zR .NotEq))) (yc (wU (dC (fC (.str "empty")) (dC (fV 2) dN)))) sNx)
  (zM (zW true 4 (zy (aC (fV 0) (aC (fV 2) (aC (fV 3) aN))) vz))
  (sIf (fT (f2 (fV 4) (fC .non) (zR .IsNot))) (yc (fV 4)) sNx))))
  (λi as=>∃(x y z:Option O),as=[sT (ww n m J e Ds S),sI e,x,y,z])
  ((Ds.map zeq).map λd=>(true,d)) 0 [sT (ww n m J e Ds S),sI e,none,none,none] (λi x as hx' hI=>by
    obtain⟨x,y,z,rfl⟩:=hI
    rw[zzZ,zzG]at hx'
    obtain⟨p,hp,rfl⟩:=zzV.mp hx'
    have mp:=zzY hp
    have hT:=A.ds p mp
    obtain⟨q1,_⟩:=ziO (as:=[sT (ww n m J e Ds S),sI e,sT (.str p.1),sT (wM p.2),z]) hT (w:=0) (v:=e) ⟨by trivial,by trivial⟩ ⟨A.e0,A.en⟩ (zc (i:=3) rfl) (zg (x:=.int 0)) (zc (i:=1) rfl)
    have t1:=zlf q1 (zc (i:=1) (x:=.int e) (s:=true) rfl)
    rw[(L.ld p mp).em,show(!(e==e))=false by simp]at t1
    have d:=(zpe (s:=p.1) (e:=e) (Ds:=Ds) (S:=S) n8 m1 A.m6 A.j hT).none (L.dn mp)
    exact⟨[sT (ww n m J e Ds S),sI e,sT (.str p.1),sT (wM p.2),z],rfl,_,yG (zV t1 rfl) (yG (vI (p:=4) (xf (WD.e (zc (i:=0) rfl)) (WD.e (zc (i:=2) rfl)) (WD.e (zc (i:=3) rfl)) d) (zL rfl)) (zV (yz (zZ (zc (i:=4) rfl) zg rfl rfl) rfl) rfl)),_,_,_,rfl⟩)
  ⟨_,_,_,rfl⟩
 exact yH rfl (zF s1 (zF (Ym (zuV (ZX (zc (i:=0) rfl) zg rfl)) hf) (yh (WD.e zg))))
theorem zof(A:Alg n m J e Ds)(L:LawA n m J e Ds):RE (ZZ [(true,ww n m J e Ds S)]) .non:=by
 have r1:=(zlM (m:=m) (Ds:=Ds) (S:=S) A.n8 A.j ⟨A.e0,A.en⟩).none L.un
 have r2:=(zmd (m:=m) (e:=e) (Ds:=Ds) (S:=S) A.n8 A.j).none L.as
 have r3:=zlK (S:=S) A L
 have tt:WT (fT (f2 (fV 1) (fC .non) (zR .Is))) [sT (ww n m J e Ds S),sT .non] true:=yz (zZ (zc (i:=1) rfl) zg rfl rfl) rfl
 exact yH rfl (zF (vI (p:=1) (Zb (WD.e (zc (i:=0) rfl)) r1) (zL rfl)) (zF (Z7 tt (vI (p:=1) (Zb (WD.e (zc (i:=0) rfl)) r2) (zL rfl))) (zF (Z7 tt (vI (p:=1) (Zb (WD.e (zc (i:=0) rfl)) r3) (zL rfl))) (yh (WD.e (zc (i:=1) rfl))))))
end
open L2 (zbq)
abbrev kvW(p:Str×TZ):L2.Key×D:=(Sum.inr p.1,ZR p.2)
abbrev kvS(p:Str×List Int):L2.Key×D:=(Sum.inr p.1,XS p.2)
abbrev znL:List Str:=["size","around","table","neutral","waits","holders"]
abbrev zoa(n m:Nat)(J:TZ)(e:Int)(Ds:DD)(S:SS):D:=.ob "Ways" znL [.int n,.int m,ZR J,.int e,.dct (Ds.map kvW),.dct (S.map kvS)]
theorem zoy{α:Type}{f:EF}{as:AS}{g:α->D}{l:List α}(h:WE f as (.lst (l.map g))):zcg f as=some (l.map λa=>(true,g a),as):=by
 have:=zsG h
 rw[zzZ]at this
 exact this
theorem zml{T:TZ}(hl:T.length<=1000):RE (zaN [(true,wM T)]) (ZR T):=
 yH rfl (yh (zda (Wo (h:=XS) (it:=λr=>(true,zQ r)) T (zoy (WD.e (zc (i:=0) rfl))) (by omega) λr _=>⟨[sT (zQ r)],rfl,zda (WD.e (zc (i:=0) rfl)) rfl⟩) rfl))
section
variable{n m:Nat}{J:TZ}{e:Int}{Ds:DD}{S:SS}
theorem zpW(A:Alg n m J e Ds)(L:LawA n m J e Ds):RE (wR [(true,ww n m J e Ds S)]) .non:=by
 have h:Xp (XF 2 [(true,ww n m J e Ds S)])=some (.nx [sT (ww n m J e Ds S),sT .non]):=yG (vI (p:=1) (Zb (WD.e (zc (i:=0) rfl)) (zof A L)) (zL rfl)) (zV (yz (zZ (zc (i:=1) rfl) zg rfl rfl) rfl) rfl)
 refine⟨.lf true .non, ?_,rfl,rfl⟩
 unfold wR fnR
 rw[if_pos (by rfl),h];rfl
theorem zsm(A:Alg n m J e Ds)(L:LawA n m J e Ds)(sl:S.length<=3)(sn:(S.map (·.1)).Nodup):RE (Zw "Ways" [(true,ww n m J e Ds S)]) (zoa n m J e Ds S):=by
 have dl:=A.dl
 have n8:=A.n8
 have m6:=A.m6
 have w1:∀o,WD (fV 1) [o,sT (ww n m J e Ds S)] true (ww n m J e Ds S):=λo=>zc (i:=1) rfl
 have h4:∀o,WE (fP (aC (wu (zcg (f2 (fV 1) (fC (.int 4)) ixP)) [none,none] (gT 2 (gsC (gN 0) (gsC (gN 1) gsN))) Yx (wU (dC (fV 0) (dC (zy (aC (fV 1) aN) zaN) dN)))) aN) zeG) [o,sT (ww n m J e Ds S)] (.dct (Ds.map kvW)):=λo=>
  zvf (kf:=λp:Str×TZ=>p.1) (vf:=λp=>ZR p.2) A.nd (Wo (h:=λp:Str×TZ=>.tup [.str p.1,ZR p.2]) (it:=λp=>(true,zeq p)) Ds (zoy (g:=zeq) (zcC (WD.e (w1 o)) (WD.e zg) rfl)) (by omega) λp mp=>⟨[sT (.str p.1),sT (wM p.2)],rfl,Ys (WD.e (zc (i:=0) rfl)) (Zb (WD.e (zc (i:=1) rfl)) (zml (by rw[(A.ds p mp).1];omega)))⟩)
 have h5:∀o,WE (fP (aC (wu (zcg (f2 (fV 1) (fC (.int 5)) ixP)) [none,none] (gT 2 (gsC (gN 0) (gsC (gN 1) gsN))) Yx (wU (dC (fV 0) (dC (fP (aC (fV 1) aN) tupP) dN)))) aN) zeG) [o,sT (ww n m J e Ds S)] (.dct (S.map kvS)):=λo=>
  zvf (kf:=λp:Str×List Int=>p.1) (vf:=λp=>XS p.2) sn (Wo (h:=λp:Str×List Int=>.tup [.str p.1,XS p.2]) (it:=λp=>(true,zgc p)) S (zoy (g:=zgc) (zcC (WD.e (w1 o)) (WD.e zg) rfl)) (by omega) λp mp=>⟨[sT (.str p.1),sT (zQ p.2)],rfl,Ys (WD.e (zc (i:=0) rfl)) (zda (WD.e (zc (i:=1) rfl)) rfl)⟩)
 have h:YZ (zcq 2 (ob0 "Ways"::[(true,ww n m J e Ds S)].map lfD))=some [some (.nd (.ob "Ways" znL) [.lf true (.int n),.lf true (.int m),.lf true (ZR J),.lf true (.int e),.lf true (.dct (Ds.map kvW)),.lf true (.dct (S.map kvS))]),sT (ww n m J e Ds S)]:=
  wg (zoU (Zb (WD.e (w1 _)) (zpW A L))) (wg (wG (c:="Ways") (i:=0) (ns:=[]) (os:=[]) (zcC (WD.e (w1 _)) (WD.e zg) rfl) rfl (by decide +kernel) (by decide +kernel) (by decide)) (wg (wG (c:="Ways") (i:=0) (zcC (WD.e (w1 _)) (WD.e zg) rfl) rfl (by decide +kernel) (by decide +kernel) (by decide)) (wg (wG (c:="Ways") (i:=0) (Zb (zcC (WD.e (w1 _)) (WD.e zg) rfl) (zml (by rw[A.j.1];omega))) rfl (by decide +kernel) (by decide +kernel) (by decide)) (wg (wG (c:="Ways") (i:=0) (zcC (WD.e (w1 _)) (WD.e zg) rfl) rfl (by decide +kernel) (by decide +kernel) (by decide)) (wg (wG (c:="Ways") (i:=0) (h4 _) rfl (by decide +kernel) (by decide +kernel) (by decide)) (wG (c:="Ways") (i:=0) (h5 _) rfl (by decide +kernel) (by decide +kernel) (by decide)))))))
 refine⟨.nd (.ob "Ways" znL) [.lf true (.int n),.lf true (.int m),.lf true (ZR J),.lf true (.int e),.lf true (.dct (Ds.map kvW)),.lf true (.dct (S.map kvS))], ?_,rfl,rfl⟩
 unfold Zw fnI
 rw[if_pos (by rfl),h];rfl
theorem znP:RE (XM [(true,zoa n m J e Ds S)]) (.int e):=yH rfl (yh (WD.e (zsO (c:="Ways") (ns:=znL) rfl (by decide +kernel) rfl)))
theorem zpZ{a b:Int}(hJ:Tab n n J)(ha:InR n a)(hb:InR n b):RE (zaY [(true,zoa n m J e Ds S),(true,.int a),(true,.int b)]) (.int (jAt J a b)):=
 yH rfl (yh (WD.e (zpd hJ ha hb (zsO (c:="Ways") (ns:=znL) rfl (by decide +kernel) rfl) (zc (i:=1) rfl) (zc (i:=2) rfl))))
end
structure Cx where
 n:Nat
 m:Nat
 J:TZ
 e:Int
 Ds:DD
 S:SS
abbrev Cx.w(c:Cx):D:=zoa c.n c.m c.J c.e c.Ds c.S
abbrev Cx.g(c:Cx):D:=ww c.n c.m c.J c.e c.Ds c.S
abbrev Cx.h(c:Cx):List Int->Int:=jnA c.J c.e
abbrev Cx.In(c:Cx)(r:List Int):Prop:=∀x ∈ r,InR c.n x
structure Cx.Ok(c:Cx):Prop where
 A:Alg c.n c.m c.J c.e c.Ds
 L:LawA c.n c.m c.J c.e c.Ds
structure Cx.W(c:Cx)(T:TZ):Prop where
 t:Tab c.m c.n T
 l:LD c.n c.m (jAt c.J) c.e (jAt T)
def wtD:Option TZ->D
 |none=>.non
 |some T=>ZR T
def Cx.wok(c:Cx):Option TZ->Prop
 |none=>True
 |some T=>c.W T
def Cx.ap(c:Cx):Option TZ->List Int->List Int
 |none,r=>r
 |some T,r=>r.map (jAt T (1%(c.m:Int)))
def tn:Bool->List Int->List Int
 |false,r=>r
 |true,r=>r.reverse
abbrev knN:List Str:=["whole","back","wait","turn","one","other","deep","size"]
abbrev kn(w b:Int)(q:D)(t:Bool)(x y:D)(p s:Int):D:=.ob "Knot" knN [.int w,.int b,q,.bl t,x,y,.int p,.int s]
inductive TK(c:Cx):D->List Int->Nat->Prop
 |lf (v:Int) (t:Bool):InR c.n v->TK c (kn v v .non t .non .non 0 1) [v] 0
 |nd (w:Option TZ) (t:Bool) {x y:D}{r s:List Int}{p q:Nat}{R:List Int}:TK c x r p->TK c y s q->p<=q+1->q<=p+1->c.wok w->R=tn t (c.ap w (r++s))->TK c (kn (c.h R) (c.h R.reverse) (wtD w) t x y ((1+max p q:Nat):Int) (R.length:Int)) R (1+max p q)
section
variable{c:Cx}{d:D}{R:List Int}{p:Nat}
theorem ziF(w:Option TZ)(r:List Int):(c.ap w r).length=r.length:=by cases w with
 |none=>rfl
 |some T=>exact zS ..
theorem ziU(t:Bool)(r:List Int):(tn t r).length=r.length:=by cases t with
 |false=>rfl
 |true=>exact List.length_reverse ..
theorem zlF(w:Option TZ)(r s:List Int):c.ap w (r++s)=c.ap w r++c.ap w s:=by cases w with
 |none=>rfl
 |some T=>exact zyK ..
theorem zsu(w:Option TZ)(t:Bool)(r:List Int):c.ap w (tn t r)=tn t (c.ap w r):=by cases w with
 |none=>rfl
 |some T=>cases t with
  |false=>rfl
  |true=>exact List.map_reverse ..
theorem zuY(t u:Bool)(r:List Int):tn t (tn u r)=tn (u != t) r:=by cases t<;>cases u<;>first|rfl|exact List.reverse_reverse r
theorem Cx.Ok.m1(h:c.Ok):InR c.m (1%(c.m:Int)):=zca h.A.m1
theorem zvF(h:c.Ok){w:Option TZ}(hw:c.wok w){r:List Int}(k:c.In r):c.In (c.ap w r):=by cases w with
 |none=>exact k
 |some T=>
  intro x mx
  obtain⟨z,mz,rfl⟩:=zxC.mp mx
  exact hw.l.cl _ _ h.m1 (k z mz)
theorem zsw{t:Bool}{r:List Int}(k:c.In r):c.In (tn t r):=by cases t with
 |false=>exact k
 |true=>exact λx mx=>k x (List.mem_reverse.mp mx)
theorem zjn{r s:List Int}(k:c.In r)(l:c.In s):c.In (r++s):=λx mx=>(zzK.mp mx).elim (k x) (l x)
theorem TK.in(h:c.Ok):TK c d R p->c.In R:=λk=>by
 induction k with
 |lf v t hv=>exact λx mx=>by rcases zzA.mp mx with rfl|mx;exact hv;exact nomatch mx
 |nd w t a b _ _ hw e i j=>subst e;exact zsw (zvF h hw (zjn i j))
theorem TK.rev(h:c.Ok)(k:TK c d R p):c.In R.reverse:=zsw (t:=true) (k.in h)
def fb:Nat->Nat
 |0=>1
 |1=>2
 |k+2=>fb (k+1)+fb k
theorem zvp:∀k,fb k<=fb (k+1)
 |0=>by decide
 |k+1=>by show _<=fb (k+1)+fb k;omega
theorem zsI{a b:Nat}(h:a<=b):fb a<=fb b:=by
 induction h with
 |refl=>exact zzL _
 |step _ i=>exact zzM i (zvp _)
theorem TK.fb(k:TK c d R p):fb p<=R.length:=by
 induction k with
 |lf=>exact zzL _
 | @nd w t x y r s p q R a b h1 h2 hw e i j=>
  subst e
  rw[ziU,ziF,zzH]
  by_cases h:q<=p
  · rw[Nat.max_eq_left h,Nat.add_comm 1 p]
    cases p with
    |zero=>rw[show q=0 by omega]at j;exact Nat.add_le_add i j
    |succ p=>
     have:G31.fb p<=G31.fb q:=zsI (by omega)
     show G31.fb (p+1)+G31.fb p<=_
     omega
  · rw[Nat.max_eq_right (by omega),Nat.add_comm 1 q,show q=p+1 by omega]
    rw[show q=p+1 by omega]at j
    show G31.fb (p+1)+G31.fb p<=_
    omega
theorem TK.lt(k:TK c d R p)(hl:R.length<=1000):p<20:=by
 refine Nat.lt_of_not_le λh=>?_
 have h1:=k.fb
 have h2:=zsI h
 have:G31.fb 20=17711:=by decide
 omega
theorem TK.gt(k:TK c d R p):∃q t x y,d=kn (c.h R) (c.h R.reverse) q t x y p R.length:=by
 cases k with
 |lf v t _=>exact⟨_,_,_,_,rfl⟩
 |nd w t=>exact⟨_,_,_,_,rfl⟩
theorem Vv{a:EF}{as:AS}{w b:Int}{q x y:D}{t:Bool}{p s:Int}{cs:List Str}{f:Str}{v:D}(h:WD a as true (kn w b q t x y p s))(hc:("Knot":Str) ∈ cs)(hl:lkp knN [.int w,.int b,q,.bl t,x,y,.int p,.int s] f=some v):WD (f1 a (yx cs f)) as true v:=by
 have:=zmv h hc hl
 rw[zyB]at this;exact this
variable{a:EF}{as:AS}
theorem TK.whole(k:TK c d R p)(ha:WD a as true d):WD (f1 a (yx wF "whole")) as true (.int (c.h R)):=by
 obtain⟨q,t,x,y,rfl⟩:=k.gt
 exact Vv ha (by decide +kernel) rfl
theorem TK.back(k:TK c d R p)(ha:WD a as true d):WD (f1 a (yx VR "back")) as true (.int (c.h R.reverse)):=by
 obtain⟨q,t,x,y,rfl⟩:=k.gt
 exact Vv ha (by decide +kernel) rfl
theorem TK.deep(k:TK c d R p)(ha:WD a as true d):WD (f1 a (yx yQ "deep")) as true (.int p):=by
 obtain⟨q,t,x,y,rfl⟩:=k.gt
 exact Vv ha (by decide +kernel) rfl
theorem TK.size(k:TK c d R p)(ha:WD a as true d):WD (f1 a (yx Zy "size")) as true (.int R.length):=by
 obtain⟨q,t,x,y,rfl⟩:=k.gt
 exact Vv ha (by decide +kernel) rfl
theorem TK.isN(k:TK c d R p)(ha:WD a as true d):WT (fT (f2 a (fC .non) (zR .Is))) as false:=by
 obtain⟨q,t,x,y,rfl⟩:=k.gt
 exact yz (zZ (z:=.bl false) ha zg rfl rfl) rfl
theorem TK.isS(k:TK c d R p)(ha:WD a as true d):WT (fT (f2 a (fC .non) (zR .IsNot))) as true:=by
 obtain⟨q,t,x,y,rfl⟩:=k.gt
 exact yz (zZ (z:=.bl true) ha zg rfl rfl) rfl
theorem TK.zero(k:TK c d R p)(ha:WD a as true d):WT (fT (f2 (f1 a (yx yQ "deep")) (fC (.int 0)) (zR .Eq))) as (decide (p=0)):=yz (XD (c:=decide (p=0)) (k.deep ha) zg (by
 show some ((p:Int)==0)=_
 by_cases h:p=0
 · subst h;rfl
 · rw[zyE h,beq_eq_false_iff_ne.mpr (by omega)])) rfl
end
section
variable{n m:Nat}{J:TZ}{e:Int}{Ds:DD}{S:SS}
theorem znK{W1 W2:TZ}{x:D}(h1:Tab m n W1)(h2:Tab m n W2)(m6:m<=6)(n8:n<=8):RE (WN [(true,x),(true,ZR W1),(true,ZR W2)]) (ZR (bh W1 W2)):=by
 have hz:zhF (aC (fV 1) (aC (fV 2) aN)) [sT x,sT (ZR W1),sT (ZR W2)]=some ((W1.zip W2).map λq=>(true,.tup [XS q.1,XS q.2]),[sT x,sT (ZR W1),sT (ZR W2)]):=by
  have:=zox (as:=[sT x,sT (ZR W1),sT (ZR W2)]) (WD.e (zc (i:=1) rfl)) (WD.e (zc (i:=2) rfl)) (xs:=W1.map XS) (ys:=W2.map XS) (.t _) (.t _)
  rw[this,List.zip_map,zzZ];rfl
 have:=Wo (as:=[sT x,sT (ZR W1),sT (ZR W2)]) (h:=λq:List Int×List Int=>XS (q.1.map (rAt q.2))) (it:=λq=>(true,.tup [XS q.1,XS q.2])) (fi:=zhF (aC (fV 1) (aC (fV 2) aN))) (cap:=[none,none]) (gg:=gT 2 (gsC (gN 0) (gsC (gN 1) gsN))) (fe:=fP (aC (wu (zcg (fV 0)) [none,some 1] (gN 0) Yx (f2 (fV 1) (fV 0) ixP)) aN) tupP) (W1.zip W2) hz (by rw[List.length_zip,h1.1];omega) (λq mq=>by
  obtain⟨q1,q2⟩:=List.of_mem_zip mq
  have r1:=h1.2 _ q1
  have r2:=h2.2 _ q2
  refine⟨[sT (XS q.1),sT (XS q.2)],rfl,zda (Wo (h:=λa=>D.int (rAt q.2 a)) (it:=λa=>(true,D.int a)) q.1 ?_ (by rw[r1.1];omega) λa ma=>⟨[sI a,sT (XS q.2)],rfl,WD.e (zZ (zc (i:=1) rfl) (zc (i:=0) rfl) (zvI r2 (r1.2 a ma)) rfl)⟩) ?_⟩
  · have:=ztH (as:=[sT (XS q.1),sT (XS q.2)]) (WD.e (zc (i:=0) rfl)) (ds:=q.1.map D.int)
    rw[zzZ]at this
    exact this
  · show some (R0.im (.tup (q.1.map λa=>D.int (rAt q.2 a))))=some (R0.im (.tup ((q.1.map (rAt q.2)).map D.int)))
    rw[zzZ];rfl)
 refine yH rfl (yh (zda this ?_))
 show some (R0.im (.tup ((W1.zip W2).map λq:List Int×List Int=>XS (q.1.map (rAt q.2)))))=some (R0.im (.tup (((W1.zip W2).map λp=>p.1.map (rAt p.2)).map XS)))
 rw[zzZ];rfl
theorem zmL{W:TZ}{v k:Int}(m1:1<=m)(h1:Tab m n W)(hv:InR n v):zaT [(true,zoa n m J e Ds S),(true,ZR W),(true,.int v),(true,.int k)]=sI (jAt W (k%m) v):=by
 have wa:WD (f1 (fV 0) (yx zbb "around")) [sT (zoa n m J e Ds S),sT (ZR W),sI v,sI k] true (.int m):=zsO (c:="Ways") (ns:=znL) rfl (by decide +kernel) rfl
 exact Wg rfl (Wj (zpd h1 (zca m1) hv (zc (i:=1) rfl) (yD (zc (i:=3) rfl) wa (by omega)) (zc (i:=2) rfl)))
end
theorem zgO{a b c d e f:EF}{as:AS}{x y z u v w o:D}{g:List (Bool×D)->Option O}(ha:WE a as x)(hb:WE b as y)(hc:WE c as z)(hd:WE d as u)(he:WE e as v)(hf:WE f as w)(hg:RE (g [(true,x),(true,y),(true,z),(true,u),(true,v),(true,w)]) o):WE (zy (aC a (aC b (aC c (aC d (aC e (aC f aN)))))) g) as o:=by
 obtain⟨o,h1,h2⟩:=hg
 exact⟨o,Wf (Yj ha (Yj hb (Yj hc (Yj hd (Yj he (Yj hf ye)))))) (by show g [(yo x||true,x),(yo y||true,y),(yo z||true,z),(yo u||true,u),(yo v||true,v),(yo w||true,w)]=_;simp only[zyB];exact h1),h2⟩
abbrev k7(ns:List Str)(os:List O)(w b:Int)(a:D)(t:Bool)(x y:D):AS:=[some (.nd (.ob "Knot" ns) os),sI w,sI b,sT a,sT (.bl t),sT x,sT y]
theorem zsF{w b:Int}{a x y:D}{t:Bool}{p s:Int}(hd:∀ns os,WE (fIf (fT (f2 (fV 5) (fC .non) (zR .Is))) (fC (.int 0)) (f2 (fC (.int 1)) (fP (aC (f1 (fV 5) (yx yQ "deep")) (aC (f1 (fV 6) (yx yQ "deep")) aN)) zls) (zp .Add))) (k7 ns os w b a t x y) (.int p))
 (hz:∀ns os,WE (fIf (fT (f2 (fV 5) (fC .non) (zR .Is))) (fC (.int 1)) (f2 (f1 (fV 5) (yx Zy "size")) (f1 (fV 6) (yx Zy "size")) (zp .Add))) (k7 ns os w b a t x y) (.int s)):
 RE (yS "Knot" [(true,.int w),(true,.int b),(true,a),(true,.bl t),(true,x),(true,y)]) (kn w b a t x y p s):=by
 have v:∀(i:Nat) (d:D) ns os,(k7 ns os w b a t x y)[i]? = some (sT d)->WE (fV i) (k7 ns os w b a t x y) d:=λi d ns os h=>WD.e (zc h)
 have h:Y7 (zcq 7 (ob0 "Knot"::[(true,.int w),(true,.int b),(true,a),(true,.bl t),(true,x),(true,y)].map lfD))=some (k7 knN [.lf true (.int w),.lf true (.int b),.lf true a,.lf true (.bl t),.lf true x,.lf true y,.lf true (.int p),.lf true (.int s)] w b a t x y):=
  wg (wG (c:="Knot") (i:=0) (ns:=[]) (os:=[]) (v 1 _ _ _ rfl) rfl (by decide +kernel) (by decide +kernel) (by decide))
  (wg (wG (c:="Knot") (i:=0) (v 2 _ _ _ rfl) rfl (by decide +kernel) (by decide +kernel) (by decide))
  (wg (wG (c:="Knot") (i:=0) (v 3 _ _ _ rfl) rfl (by decide +kernel) (by decide +kernel) (by decide))
  (wg (wG (c:="Knot") (i:=0) (v 4 _ _ _ rfl) rfl (by decide +kernel) (by decide +kernel) (by decide))
  (wg (wG (c:="Knot") (i:=0) (v 5 _ _ _ rfl) rfl (by decide +kernel) (by decide +kernel) (by decide))
  (wg (wG (c:="Knot") (i:=0) (v 6 _ _ _ rfl) rfl (by decide +kernel) (by decide +kernel) (by decide))
  (wg (wG (c:="Knot") (i:=0) (hd _ _) rfl (by decide +kernel) (by decide +kernel) (by decide))
  (wG (c:="Knot") (i:=0) (hz _ _) rfl (by decide +kernel) (by decide +kernel) (by decide))))))))
 refine⟨.nd (.ob "Knot" knN) [.lf true (.int w),.lf true (.int b),.lf true a,.lf true (.bl t),.lf true x,.lf true y,.lf true (.int p),.lf true (.int s)], ?_,rfl,rfl⟩
 unfold yS fnI
 rw[if_pos (by rfl),h];rfl
theorem zkl{w b:Int}{a:D}{t:Bool}:RE (yS "Knot" [(true,.int w),(true,.int b),(true,a),(true,.bl t),(true,.non),(true,.non)]) (kn w b a t .non .non 0 1):=
 zsF (λ_ _=>zgA (yz (zZ (zc (i:=5) rfl) zg rfl rfl) rfl) (WD.e zg)) λ_ _=>zgA (yz (zZ (zc (i:=5) rfl) zg rfl rfl) rfl) (WD.e zg)
section
variable{c:Cx}{x y d:D}{r s R:List Int}{p q:Nat}
theorem zfk{w b:Int}{a:D}{t:Bool}(k:TK c x r p)(l:TK c y s q):RE (yS "Knot" [(true,.int w),(true,.int b),(true,a),(true,.bl t),(true,x),(true,y)]) (kn w b a t x y ((1+max p q:Nat):Int) ((r.length+s.length:Nat):Int)):=by
 have v5:∀ns os,WD (fV 5) (k7 ns os w b a t x y) true x:=λ_ _=>zc (i:=5) rfl
 have v6:∀ns os,WD (fV 6) (k7 ns os w b a t x y) true y:=λ_ _=>zc (i:=6) rfl
 refine zsF (λns os=>zfn (k.isN (v5 _ _)) ?_) λns os=>zfn (k.isN (v5 _ _)) ?_
 · have h:=yC (zg (x:=.int 1)) (xx (x:=.int (if(q:Int) > p then(q:Int)else p)) (g:=zls) (zP (k.deep (v5 ns os)) (zP (l.deep (v6 ns os)) ye)) rfl rfl)
   rw[show((1+max p q:Nat):Int)=1+(if(q:Int) > p then(q:Int)else p) by split<;>omega]
   exact WD.e h
 · have h:=yC (k.size (v5 ns os)) (l.size (v6 ns os))
   rw[show((r.length+s.length:Nat):Int)=(r.length:Int)+s.length by omega]
   exact WD.e h
theorem zmZ{v:Int}:RE (Yk [(true,.int v)]) (kn v v .non false .non .non 0 1):=
 yH rfl (yh (zgO (WD.e (zc (i:=0) rfl)) (WD.e (zc (i:=0) rfl)) (WD.e zg) (WD.e zg) (WD.e zg) (WD.e zg) zkl))
theorem TK.mk(h:c.Ok)(w:Option TZ)(t:Bool)(hw:c.wok w)(k:TK c x r p)(l:TK c y s q)(h1:p<=q+1)(h2:q<=p+1){u v:Int}(hu:u=c.h (tn t (c.ap w (r++s))))(hv:v=c.h (tn t (c.ap w (r++s))).reverse):TK c (kn u v (wtD w) t x y ((1+max p q:Nat):Int) ((r.length+s.length:Nat):Int)) (tn t (c.ap w (r++s))) (1+max p q):=by
 have:=TK.nd w t k l h1 h2 hw rfl
 rw[ziU,ziF,zzH]at this
 rw[hu,hv];exact this
theorem v7(h:c.Ok)(k:TK c x r p)(l:TK c y s q)(h1:p<=q+1)(h2:q<=p+1):∃d,RE (ym [(true,c.w),(true,x),(true,y)]) d/\TK c d (r++s) (1+max p q):=by
 have v1:WD (fV 1) [sT c.w,sT x,sT y] true x:=zc (i:=1) rfl
 have v2:WD (fV 2) [sT c.w,sT x,sT y] true y:=zc (i:=2) rfl
 have wy:WD (fV 0) [sT c.w,sT x,sT y] true c.w:=zc (i:=0) rfl
 have w1:=zpL (tbl:=zdb) (m:="join") wy (by decide +kernel) rfl (WD.e (k.whole v1)) (WD.e (l.whole v2)) (zpZ (m:=c.m) (e:=c.e) (Ds:=c.Ds) (S:=c.S) h.A.j (WP h.L.lj (k.in h)) (WP h.L.lj (l.in h)))
 have w2:=zpL (tbl:=zdb) (m:="join") wy (by decide +kernel) rfl (WD.e (l.back v2)) (WD.e (k.back v1)) (zpZ (m:=c.m) (e:=c.e) (Ds:=c.Ds) (S:=c.S) h.A.j (WP h.L.lj (l.rev h)) (WP h.L.lj (k.rev h)))
 refine⟨_,yH rfl (yh (zgO w1 w2 (WD.e zg) (WD.e zg) (WD.e v1) (WD.e v2) (zfk k l))),TK.mk h none false trivial k l h1 h2 ?_ ?_⟩
 · exact(zoB h.L.lj (k.in h) (l.in h)).symm
 · show _=c.h (r++s).reverse
   rw[List.reverse_append]
   exact(zoB h.L.lj (l.rev h) (k.rev h)).symm
theorem zmR(h:c.Ok){w u:Option TZ}(hw:c.wok w)(hu:c.wok u):∃v,RE (wX [(true,c.w),(true,wtD w),(true,wtD u)]) (wtD v)/\c.wok v/\∀r,c.In r->c.ap v r=c.ap u (c.ap w r):=by
 cases w with
 |none=>exact⟨u,yH rfl (yX (xW (yz (zZ (zc (i:=1) rfl) zg rfl rfl) rfl) (yh (WD.e (zc (i:=2) rfl))))),hu,λ_ _=>rfl⟩
 |some A=>
  have t1:∀z,WT (fT (f2 (fV 1) (fC .non) (zR .Is))) [sT c.w,sT (ZR A),z] false:=λz=>yz (zZ (z:=.bl false) (zc (i:=1) rfl) zg rfl rfl) rfl
  cases u with
  |none=>exact⟨some A,yH rfl (zF (zV (t1 _) rfl) (yX (xW (yz (zZ (zc (i:=2) rfl) zg rfl rfl) rfl) (yh (WD.e (zc (i:=1) rfl)))))),hw,λ_ _=>rfl⟩
  |some B=>
   have m1:=h.m1
   have at':∀{i a:Int},InR c.m i->InR c.n a->jAt (bh A B) i a=jAt B i (jAt A i a):=λhi ha=>zvJ hw.t hu.t hi ha
   refine⟨some (bh A B),yH rfl (zF (zV (t1 _) rfl) (zF (zV (yz (zZ (z:=.bl false) (zc (i:=2) rfl) zg rfl rfl) rfl) rfl) (yh (zpL (zc (i:=0) rfl) (by decide +kernel) rfl (WD.e (zc (i:=1) rfl)) (WD.e (zc (i:=2) rfl)) (znK hw.t hu.t h.A.m6 h.A.n8))))),⟨zup hw.t hu.t, ?_⟩,λr hr=>?_⟩
   · have he:=h.L.lj.ce
     have h0:InR c.m 0:=⟨Int.le_refl _,Int.natCast_pos.mpr h.A.m1⟩
     refine⟨λi a hi ha=>?_, ?_,λa i b k ha hi hb hk=>?_⟩
     · rw[at' hi ha];exact hu.l.cl _ _ hi (hw.l.cl _ _ hi ha)
     · rw[at' h0 he,hw.l.em,hu.l.em]
     · rw[at' (zca h.A.m1) (h.L.lj.cl _ _ ha hb),at' hi ha,at' hk hb,hw.l.dn a i b k ha hi hb hk,hu.l.dn _ i _ k (hw.l.cl _ _ hi ha) hi (hw.l.cl _ _ hk hb) hk]
   · show r.map _=(r.map _).map _
     rw[zzZ]
     exact List.map_congr_left λa ma=>at' m1 (hr a ma)
theorem zmH(h:c.Ok){T:TZ}(hT:c.W T)(k:TK c d R p):∃d',RE (vg [(true,c.w),(true,d),(true,ZR T)]) d'/\TK c d' (c.ap (some T) R) p:=by
 have v1:∀a b,WD (fV 1) [sT c.w,sT d,sT (ZR T),a,b] true d:=λ_ _=>zc (i:=1) rfl
 have mk:∀{v:Int}{j:EF}{a b:Option O},InR c.n v->WE j [sT c.w,sT d,sT (ZR T),a,b] (.int v)->WE (zay zbr "made" (fV 0) (aC (fV 2) (aC j (aC (f1 (fV 1) (yx Zy "size")) aN)))) [sT c.w,sT d,sT (ZR T),a,b] (.int (jAt T ((R.length:Int)%c.m) v)):=λhv hj=>
  zsv (zc (i:=0) rfl) (by decide +kernel) rfl (WD.e (zc (i:=2) rfl)) hj (WD.e (k.size (v1 _ _))) (RE.lf (zmL h.A.m1 hT.t hv))
 have e1:=ziX (T:=T) h.A.m1 h.L.lj hT.l R (k.in h)
 have e2:=ziX (T:=T) h.A.m1 h.L.lj hT.l R.reverse (k.rev h)
 rw[List.length_reverse]at e2
 have s3:=vI (p:=3) (mk (a:=none) (b:=none) (WP h.L.lj (k.in h)) (WD.e (k.whole (v1 _ _)))) (zL rfl)
 rw[<-e1]at s3
 have s4:=vI (p:=4) (mk (a:=sI (jnA c.J c.e (R.map (jAt T (1%(c.m:Int)))))) (b:=none) (WP h.L.lj (k.rev h)) (WD.e (k.back (v1 _ _)))) (zL rfl)
 rw[<-e2]at s4
 have t0:=k.zero (v1 (sI (jnA c.J c.e (R.map (jAt T (1%(c.m:Int)))))) none)
 cases k with
 |lf v t hv=>
  exact⟨_,yH rfl (zF (zV ((TK.lf v t hv).isN (zc (i:=1) rfl)) rfl) (zF s3 (yX (xW t0 (yh (Zb (WD.e (zc (i:=3) rfl)) zmZ)))))),TK.lf _ false (hT.l.cl _ _ h.m1 hv)⟩
 | @nd w t x y r s p q R k l h1 h2 hw e=>
  obtain⟨v,b1,b2,b3⟩:=zmR h hw (show c.wok (some T)from hT)
  have kk:=TK.nd w t k l h1 h2 hw e
  rw[zyE (by omega)]at t0
  have f:∀{cs:List Str}{n:Str}{z:D}(a b:Option O),("Knot":Str) ∈ cs->lkp knN [.int (c.h R),.int (c.h R.reverse),wtD w,.bl t,x,y,.int ((1+max p q:Nat):Int),.int (R.length:Int)] n=some z->WE (f1 (fV 1) (yx cs n)) [sT c.w,sT (kn (c.h R) (c.h R.reverse) (wtD w) t x y ((1+max p q:Nat):Int) (R.length:Int)),sT (ZR T),a,b] z:=λa b hc hl=>WD.e (Vv (v1 a b) hc hl)
  have eR:c.ap (some T) R=tn t (c.ap v (r++s)):=by rw[e,zsu,b3 _ (zjn (k.in h) (l.in h))]
  refine⟨_,yH rfl (zF (zV (kk.isN (zc (i:=1) rfl)) rfl) (zF s3 (zF (zV t0 rfl) (zF s4 (yh (zgO (WD.e (zc (i:=3) rfl)) (WD.e (zc (i:=4) rfl)) (xf (WD.e (zc (i:=0) rfl)) (f _ _ (by decide +kernel) rfl) (WD.e (zc (i:=2) rfl)) b1) (f _ _ (by decide +kernel) rfl) (f _ _ (by decide +kernel) rfl) (f _ _ (by decide +kernel) rfl) (zfk k l))))))), ?_⟩
  have:=TK.mk h v t b2 k l h1 h2 (u:=jnA c.J c.e (R.map (jAt T (1%(c.m:Int))))) (v:=jnA c.J c.e (R.reverse.map (jAt T (1%(c.m:Int))))) (by rw[<-eR];rfl) (by rw[<-eR,List.map_reverse];rfl)
  rw[<-eR]at this
  exact this
theorem zig(h:c.Ok)(k:TK c d R p):∃d',RE (wY [(true,c.w),(true,d)]) d'/\TK c d' R.reverse p:=by
 have v1:WD (fV 1) [sT c.w,sT d] true d:=zc (i:=1) rfl
 have w1:=WD.e (k.back v1)
 have w2:=WD.e (k.whole v1)
 have n0:=k.isN v1
 cases k with
 |lf v t hv=>
  exact⟨_,yH rfl (zF (zV n0 rfl) (yh (zgO w1 w2 (WD.e (Vv v1 (by decide +kernel) rfl)) (WD.e (zlc (Vv v1 (by decide +kernel) rfl))) (WD.e (Vv v1 (by decide +kernel) rfl)) (WD.e (Vv v1 (by decide +kernel) rfl)) zkl))),TK.lf _ _ hv⟩
 | @nd w t x y r s p q R k l h1 h2 hw e=>
  refine⟨_,yH rfl (zF (zV n0 rfl) (yh (zgO w1 w2 (WD.e (Vv v1 (by decide +kernel) rfl)) (WD.e (zlc (Vv v1 (by decide +kernel) rfl))) (WD.e (Vv v1 (by decide +kernel) rfl)) (WD.e (Vv v1 (by decide +kernel) rfl)) (zfk k l)))), ?_⟩
  have eR:R.reverse=tn (!t) (c.ap w (r++s)):=by
   rw[e]
   cases t with
   |false=>rfl
   |true=>exact List.reverse_reverse _
  have:=TK.mk h w (!t) hw k l h1 h2 (u:=c.h R.reverse) (v:=c.h R) (by rw[<-eR]) (by rw[<-eR,List.reverse_reverse])
  rw[<-eR]at this
  exact this
theorem Xm(h:c.Ok)(k:TK c d R p)(hp:p≠0):∃x y r s u v,RE (yO [(true,c.w),(true,d)]) (.tup [x,y])/\TK c x r u/\TK c y s v/\u<=v+1/\v<=u+1/\p=1+max u v/\R=r++s:=by
 cases k with
 |lf=>exact absurd rfl hp
 | @nd w t x y r s p q R k l h1 h2 hw e=>
  have v1:∀a b,WD (fV 1) [sT c.w,sT (kn (c.h R) (c.h R.reverse) (wtD w) t x y ((1+max p q:Nat):Int) (R.length:Int)),a,b] true (kn (c.h R) (c.h R.reverse) (wtD w) t x y ((1+max p q:Nat):Int) (R.length:Int)):=λ_ _=>zc (i:=1) rfl
  have s2:=yR (i:=2) (st:=true) (Vv (cs:=Vu) (f:="one") (v1 none none) (by decide +kernel) rfl) (zL rfl)
  have s3:=yR (i:=3) (st:=true) (Vv (cs:=Ye) (f:="other") (v1 (sT x) none) (by decide +kernel) rfl) (zL rfl)
  obtain⟨x',y',q1,q2,q3⟩:∃x' y',sIf (fT (f2 (f1 (fV 1) (yx vY "wait")) (fC .non) (zR .IsNot))) (zM (zW true 2 (zy (aC (fV 0) (aC (fV 2) (aC (f1 (fV 1) (yx vY "wait")) aN))) vg)) (zW true 3 (zy (aC (fV 0) (aC (fV 3) (aC (f1 (fV 1) (yx vY "wait")) aN))) vg))) sNx [sT c.w,sT (kn (c.h R) (c.h R.reverse) (wtD w) t x y ((1+max p q:Nat):Int) (R.length:Int)),sT x,sT y]=some (.nx [sT c.w,sT (kn (c.h R) (c.h R.reverse) (wtD w) t x y ((1+max p q:Nat):Int) (R.length:Int)),sT x',sT y'])/\TK c x' (c.ap w r) p/\TK c y' (c.ap w s) q:=by
   cases w with
   |none=>exact⟨x,y,zV (yz (zZ (x:=.non) (z:=.bl false) (Vv (v1 _ _) (by decide +kernel) rfl) zg rfl rfl) rfl) rfl,k,l⟩
   |some T=>
    obtain⟨x',a1,a2⟩:=zmH h hw k
    obtain⟨y',b1,b2⟩:=zmH h hw l
    have wt:∀a b,WE (f1 (fV 1) (yx vY "wait")) [sT c.w,sT (kn (c.h R) (c.h R.reverse) (wtD (some T)) t x y ((1+max p q:Nat):Int) (R.length:Int)),a,b] (ZR T):=λa b=>WD.e (Vv (v1 a b) (by decide +kernel) rfl)
    exact⟨x',y',Z7 (yz (x:=.bl true) (f2E (wt _ _) (WD.e zg) rfl) rfl) (yG (vI (p:=2) (xf (WD.e (zc (i:=0) rfl)) (WD.e (zc (i:=2) rfl)) (wt _ _) a1) (zL rfl)) (vI (p:=3) (xf (WD.e (zc (i:=0) rfl)) (WD.e (zc (i:=3) rfl)) (wt _ _) b1) (zL rfl))),a2,b2⟩
  have tt:WT (fT (f1 (fV 1) (yx Wc "turn"))) [sT c.w,sT (kn (c.h R) (c.h R.reverse) (wtD w) t x y ((1+max p q:Nat):Int) (R.length:Int)),sT x',sT y'] t:=yz (x:=.bl t) (Vv (v1 _ _) (by decide +kernel) rfl) rfl
  cases t with
  |false=>exact⟨x',y',_,_,p,q,yH rfl (zF s2 (zF s3 (zF q1 (zF (zV tt rfl) (yh (Ys (WD.e (zc (i:=2) rfl)) (WD.e (zc (i:=3) rfl)))))))),q2,q3,h1,h2,rfl,by rw[e,zlF];rfl⟩
  |true=>
   obtain⟨x'',a1,a2⟩:=zig h q2
   obtain⟨y'',b1,b2⟩:=zig h q3
   exact⟨y'',x'',_,_,q,p,yH rfl (zF s2 (zF s3 (zF q1 (yX (xW tt (yh (Ys (xT (WD.e (zc (i:=0) rfl)) (WD.e (zc (i:=3) rfl)) b1) (xT (WD.e (zc (i:=0) rfl)) (WD.e (zc (i:=2) rfl)) a1)))))))),b2,a2,h2,h1,by rw[Nat.max_comm],by rw[e,zlF];exact List.reverse_append⟩
end
theorem zsK{f:EF}{as:AS}{ds:List D}(h:WD f as true (.tup ds)):zgZ f as=some (ds.map λd=>(true,d),as):=by
 unfold zgZ
 unfold WD at h
 rw[h]
 show some (kids true ds,as)=_
 rw[zdk]
theorem zhn{as:AS}{i:Nat}{fr:AF}{g:List It1->O->Option O}{rs:List RV}{xs:List It1}{o r:O}(h1:fr as=some (rs,as))(h2:zhH i rs=some xs)(h3:as[i]? = some (some o))(h4:g xs o=some r):Vi i fr g as=some (.nx (as.set i (some r))):=by
 unfold Vi
 rw[h1];show(zhH i rs).bind _=_
 rw[h2];show(as[i]?).bind _=_
 rw[h3];show(g xs o).bind _=_
 rw[h4];rfl
theorem weF{f:EF}{as:AS}{d:D}(hd:yo d=true)(h:WE f as d):WD f as true d:=by
 obtain⟨o,h,h1,h2⟩:=h
 cases o with
 |lf s x=>subst h2;rw[show s=true from h1]at h;exact h
 |nd k os=>subst h2;cases k<;>cases hd
theorem wtE{f:EF}{as:AS}{k:Bool}(h:WE f as (.bl k)):WT (fT f) as k:=yz (weF rfl h) rfl
theorem zrL{a b c:EF}{as:AS}{x y z:D}(ha:WE a as x)(hb:WE b as y)(hc:WE c as z):WE (wU (dC a (dC b (dC c dN)))) as (.tup [x,y,z]):=by
 obtain⟨o1,a1,a2,a3⟩:=ha
 obtain⟨o2,b1,b2,b3⟩:=hb
 obtain⟨o3,c1,c2,c3⟩:=hc
 have h:=zfi (os:=[o1,o2,o3]) (ziV a1 (ziV b1 (ziV c1 yU))) (szl rfl)
 have hs:O.strs [o1,o2,o3]=true:=by show(o1.str&&(o2.str&&(o3.str&&true)))=true;rw[a2,b2,c2];rfl
 refine⟨_,h, ?_, ?_⟩
 · unfold W8
   split
   · exact hs
   · exact hs
 · unfold W8
   split
   · show D.tup [o1.toD,o2.toD,o3.toD]=_;rw[a3,b3,c3]
   · show D.tup [o1.toD,o2.toD,o3.toD]=_;rw[a3,b3,c3]
section
variable{c:Cx}{x y d:D}{r s R:List Int}{p q:Nat}
abbrev g9(c:Cx)(d:D)(w:Option TZ)(t:Bool)(acc:List Int)(a b e f:Option O):AS:=[sT c.w,sT d,sT (wtD w),sT (.bl t),some (xm acc),a,b,e,f]
theorem zve(acc:List Int)(v:Int):acc.map lfI++[lfI v]=(acc++[v]).map lfI:=by rw[zyK];rfl
theorem zhl(h:c.Ok):∀(k:Nat) {d:D}{R:List Int}{p:Nat}(w:Option TZ) (t:Bool) (acc:List Int),TK c d R p->c.wok w->p<k->acc.length+R.length<=1000->wK k [(true,c.w),(true,d),(true,wtD w),(true,.bl t)] (xm acc)=some (xm (acc++tn t (c.ap w R)))
 |0,_,_,_,_,_,_,_,_,h,_=>absurd h (Nat.not_lt_zero _)
 |n+1,d,R,p,w,t,acc,k,hw,hp,hl=>by
  obtain⟨a',b',e',f',run⟩:∃a b e f,zct (wK n) (g9 c d w t acc none none none none)=some (.nx (g9 c d w t (acc++tn t (c.ap w R)) a b e f)):=by
   have v1:∀a b e f,WD (fV 1) (g9 c d w t acc a b e f) true d:=λ_ _ _ _=>zc (i:=1) rfl
   have t0:=k.zero (v1 none none none none)
   have wh:=k.whole (v1 none none none none)
   have al:acc.length<1001:=by omega
   cases k with
   |lf v b hv=>
    have wv:∃u,[u]=tn t (c.ap w [v])/\WD (fIf (fT (f2 (fV 2) (fC .non) (zR .Is))) (f1 (fV 1) (yx wF "whole")) (zay zbr "made" (fV 0) (aC (fV 2) (aC (f1 (fV 1) (yx wF "whole")) (aC (fC (.int 1)) aN))))) (g9 c (kn v v .non b .non .non 0 1) w t acc none none none none) true (.int u):=by
     cases w with
     |none=>exact⟨v,by cases t<;>rfl,ztZ (yz (zZ (a:=fV 2) (b:=fC .non) (g:=zR .Is) (z:=.bl true) (zc (i:=2) rfl) zg rfl rfl) rfl) wh⟩
     |some T=>exact⟨jAt T (1%(c.m:Int)) v,by cases t<;>rfl,ztO (yz (zZ (a:=fV 2) (b:=fC .non) (g:=zR .Is) (z:=.bl false) (zc (i:=2) rfl) zg rfl rfl) rfl) (weF rfl (zsv (zc (i:=0) rfl) (by decide +kernel) rfl (WD.e (zc (i:=2) rfl)) (WD.e wh) (WD.e zg) (RE.lf (zmL (k:=1) h.A.m1 hw.t hv))))⟩
    obtain⟨u,e,wv⟩:=wv
    refine⟨none,none,none,none,Z7 t0 ?_⟩
    rw[zla (i:=4) (os:=acc.map lfI) rfl (by rw[zS];exact zzI al (szs (by decide))) wv,<-e]
    show some (Out.nx [_,_,_,_,some (O.nd .ls (acc.map lfI++[lfI u])),_,_,_,_])=_
    rw[zve]
   | @nd u b x y r s p q R k l h1 h2 hu e=>
    rw[zyE (by omega)]at t0
    obtain⟨v,b1,b2,b3⟩:=zmR h hu hw
    have hR:R.length=r.length+s.length:=by rw[e,ziU,ziF,zzH]
    have eR:tn t (c.ap w R)=tn (b != t) (c.ap v r++c.ap v s):=by rw[e,zsu,zuY,<-b3 _ (zjn (k.in h) (l.in h)),zlF]
    rw[eR]
    have f:∀{cs:List Str}{n:Str}{z:D}(a b' e f:Option O),("Knot":Str) ∈ cs->lkp knN [.int (c.h R),.int (c.h R.reverse),wtD u,.bl b,x,y,.int ((1+max p q:Nat):Int),.int (R.length:Int)] n=some z->WD (f1 (fV 1) (yx cs n)) (g9 c (kn (c.h R) (c.h R.reverse) (wtD u) b x y ((1+max p q:Nat):Int) (R.length:Int)) w t acc a b' e f) true z:=λa b e f hc hl=>Vv (v1 a b e f) hc hl
    have s5:=vI (p:=5) (xf (WD.e (zc (i:=0) rfl)) (WD.e (f (cs:=vY) (n:="wait") none none none none (by decide +kernel) rfl)) (WD.e (zc (i:=2) rfl)) b1) (zL rfl)
    have s6:=yR (i:=6) (st:=true) (zhQ (c:=b==t) (f (cs:=Wc) (n:="turn") (sT (wtD v)) none none none (by decide +kernel) rfl) (zc (i:=3) rfl) (by cases b<;>cases t<;>rfl)) (zL rfl)
    rw[show(!(b==t))=(b != t)from rfl]at s6
    have fx:=WD.e (f (cs:=Vu) (n:="one") (sT (wtD v)) (sT (.bl (b != t))) none none (by decide +kernel) rfl)
    have fy:=WD.e (f (cs:=Ye) (n:="other") (sT (wtD v)) (sT (.bl (b != t))) none none (by decide +kernel) rfl)
    have w6:WT (fT (fV 6)) (g9 c (kn (c.h R) (c.h R.reverse) (wtD u) b x y ((1+max p q:Nat):Int) (R.length:Int)) w t acc (sT (wtD v)) (sT (.bl (b != t))) none none) (b != t):=yz (zc (i:=6) rfl) rfl
    have cl:∀{z:D}{r':List Int}{p':Nat}(a:List Int) (o f:Option O),TK c z r' p'->p'<n->a.length+r'.length<=1000->Vi 4 (aC (fV 0) (aC (fV 8) (aC (fV 5) (aC (fV 6) (aC (fV 4) aN))))) (wK n) [sT c.w,f,sT (wtD w),sT (.bl t),some (xm a),sT (wtD v),sT (.bl (b != t)),o,sT z]=some (.nx [sT c.w,f,sT (wtD w),sT (.bl t),some (xm (a++tn (b != t) (c.ap v r'))),sT (wtD v),sT (.bl (b != t)),o,sT z]):=λ{z r' p'} a o f k' hp' ha=>zhn (rs:=[.ow (.lf true c.w),.ow (.lf true z),.ow (.lf true (wtD v)),.ow (.lf true (.bl (b != t))),.bo 4]) (xs:=[(true,c.w),(true,z),(true,wtD v),(true,.bl (b != t))]) rfl rfl rfl (zhl h n v (b != t) a k' b2 hp' ha)
    have lp:∀{z z':D}{r1 r2:List Int}{p1 p2:Nat}(o:Option O),TK c z r1 p1->TK c z' r2 p2->p1<n->p2<n->acc.length+r1.length+r2.length<=1000->forL (gN 8) (Vi 4 (aC (fV 0) (aC (fV 8) (aC (fV 5) (aC (fV 6) (aC (fV 4) aN))))) (wK n)) [(true,z),(true,z')] (g9 c (kn (c.h R) (c.h R.reverse) (wtD u) b x y ((1+max p q:Nat):Int) (R.length:Int)) w t acc (sT (wtD v)) (sT (.bl (b != t))) o none)=some (.nx (g9 c (kn (c.h R) (c.h R.reverse) (wtD u) b x y ((1+max p q:Nat):Int) (R.length:Int)) w t (acc++tn (b != t) (c.ap v r1)++tn (b != t) (c.ap v r2)) (sT (wtD v)) (sT (.bl (b != t))) o (sT z'))):=λ{z z' r1 r2 p1 p2} o k1 k2 l1 l2 hl=>W6 (as1:=g9 c _ w t acc (sT (wtD v)) (sT (.bl (b != t))) o (sT z)) rfl (cl acc o _ k1 l1 (by omega)) (W6 (as1:=g9 c _ w t (acc++tn (b != t) (c.ap v r1)) (sT (wtD v)) (sT (.bl (b != t))) o (sT z')) rfl (cl (acc++tn (b != t) (c.ap v r1)) o _ k2 l2 (by rw[zzH,ziU,ziF];exact hl)) rfl)
    cases hc:(b != t)with
    |false=>
     rw[hc]at w6 s6 lp fx fy
     have:=lp (sT (.tup [x,y])) k l (by omega) (by omega) (by omega)
     rw[zxB]at this
     exact⟨_,_,_,_,zV t0 (yG s5 (yG s6 (yG (vI (p:=7) (zfn w6 (Ys fx fy)) (zL rfl)) (Ym (zsK (zc (i:=7) rfl)) this))))⟩
    |true=>
     rw[hc]at w6 s6 lp fx fy
     have:=lp (sT (.tup [y,x])) l k (by omega) (by omega) (by omega)
     rw[zxB,show tn true (c.ap v s)++tn true (c.ap v r)=tn true (c.ap v r++c.ap v s)from List.reverse_append.symm]at this
     exact⟨_,_,_,_,zV t0 (yG s5 (yG s6 (yG (vI (p:=7) (zgA w6 (Ys fy fx)) (zL rfl)) (Ym (zsK (zc (i:=7) rfl)) this))))⟩
  show gL 9 5 (zct (wK n)) [(true,c.w),(true,d),(true,wtD w),(true,.bl t)] (xm acc)=_
  unfold gL
  rw[if_pos (by rfl),show zbO 9 [(true,c.w),(true,d),(true,wtD w),(true,.bl t)] (xm acc)=g9 c d w t acc none none none none from rfl,run]
  rfl
theorem zue(h:c.Ok)(k:TK c d R p)(hl:R.length<=1000):vm [(true,c.w),(true,d)]=some (xm R):=by
 have g:=zhl h 20 none false [] k trivial (k.lt hl) (by show 0+_<=_;omega)
 have cl:Vi 2 (aC (fV 0) (aC (fV 1) (aC (fC .non) (aC (fC (.bl false)) (aC (fV 2) aN))))) (wK 20) [sT c.w,sT d,some (xm [])]=some (.nx [sT c.w,sT d,some (xm R)]):=zhn (rs:=[.ow (.lf true c.w),.ow (.lf true d),.ow (.lf true .non),.ow (.lf true (.bl false)),.bo 2]) (xs:=[(true,c.w),(true,d),(true,.non),(true,.bl false)]) rfl rfl rfl g
 exact Wg rfl (yG (Yc (i:=2) (zaq yU (szl rfl)) (zL rfl)) (yG (Z7 (k.isS (zc (i:=1) rfl)) cl) (zbf (i:=2) rfl (Vc R).1)))
theorem zrz:vm [(true,c.w),(true,.non)]=some (xm []):=
 Wg rfl (yG (Yc (i:=2) (zaq yU (szl rfl)) (zL rfl)) (yG (zV (yz (zZ (z:=.bl false) (zc (i:=1) rfl) zg rfl rfl) rfl) rfl) (zbf (i:=2) rfl (Vc []).1)))
def OT(c:Cx)(d:D)(R:List Int):Prop:=(d = .non/\R=[])\/∃p,TK c d R p
theorem TK.o(k:TK c d R p):OT c d R:=.inr ⟨p,k⟩
theorem OT.n:OT c .non []:=.inl ⟨rfl,rfl⟩
theorem zmW(k:OT c d R):RE (vC [(true,d)]) (.int R.length):=by
 rcases k with⟨rfl,rfl⟩|⟨p,k⟩
 · exact yH rfl (yh (zgA (yz (zZ (z:=.bl true) (zc (i:=0) rfl) zg rfl rfl) rfl) (WD.e zg)))
 · exact yH rfl (yh (zfn (k.isN (zc (i:=0) rfl)) (WD.e (k.size (zc (i:=0) rfl)))))
theorem zno(k:OT c d R):RE (ZG [(true,c.w),(true,d)]) (.int (c.h R)):=by
 rcases k with⟨rfl,rfl⟩|⟨p,k⟩
 · exact yH rfl (yh (zgA (yz (zZ (z:=.bl true) (zc (i:=1) rfl) zg rfl rfl) rfl) (zuQ (zc (i:=0) rfl) (by decide +kernel) rfl znP)))
 · exact yH rfl (yh (zfn (k.isN (zc (i:=1) rfl)) (WD.e (k.whole (zc (i:=1) rfl)))))
inductive WK(c:Cx):D->List Int->Nat->Prop
 |lf (v:Int):InR c.n v->WK c (.tup [.int v]) [v] 0
 |nd {x y:D}{r s:List Int}{p q:Nat}:WK c x r p->WK c y s q->p<=q+1->q<=p+1->WK c (.tup [.int (c.h (r++s)),x,y]) (r++s) (1+max p q)
theorem Wu{as:AS}{j:Nat}{i:Int}{ds:List D}{z:D}(h:as[j]? = some (sT (.tup ds)))(hz:ixP (.tup ds) (.int i)=some (.im z)):WD (f2 (fV j) (fC (.int i)) ixP) as true z:=ZX (zc h) zg hz
theorem zjv(h:c.Ok):∀(k:Nat) {d:D}{R:List Int}{p:Nat},TK c d R p->p<k->∃w,RE (vq k [(true,c.w),(true,d)]) w/\WK c w R p
 |0,_,_,_,_,h=>absurd h (Nat.not_lt_zero _)
 |n+1,d,R,p,k,hp=>by
  have v1:∀a,WD (fV 1) [sT c.w,sT d,a] true d:=λ_=>zc (i:=1) rfl
  have t0:=k.zero (v1 none)
  by_cases h0:p=0
  · rw[zyM h0]at t0
    have wv:=k.whole (v1 none)
    have n0:=k.isN (v1 none)
    cases k with
    |lf v t hv=>exact⟨_,yH rfl (zF (zV n0 rfl) (yX (xW t0 (yh (zsq (WD.e wv)))))),.lf v hv⟩
    |nd=>exact absurd h0 (by omega)
  · rw[zyE h0]at t0
    obtain⟨x,y,r,s,u,v,q1,q2,q3,q4,q5,rfl,rfl⟩:=Xm h k h0
    obtain⟨a,a1,a2⟩:=zjv h n q2 (by omega)
    obtain⟨b,b1,b2⟩:=zjv h n q3 (by omega)
    exact⟨_,yH rfl (zF (zV (k.isN (v1 _)) rfl) (zF (zV t0 rfl) (zF (vI (p:=2) (xT (WD.e (zc (i:=0) rfl)) (WD.e (v1 _)) q1) (zL rfl)) (yh (zrL (WD.e (k.whole (v1 _))) (xT (WD.e (zc (i:=0) rfl)) (WD.e (Wu (j:=2) rfl rfl)) a1) (xT (WD.e (zc (i:=0) rfl)) (WD.e (Wu (j:=2) rfl rfl)) b1)))))),.nd a2 b2 q4 q5⟩
end
section
theorem zgL{f:EF}{as:AS}{s:Bool}{y:D}{fl fh:OF}{lo hi:Option Int}{r:List Int}(ha:WD f as s y)(hl:fl as=some (lo,as))(hh:fh as=some (hi,as))(hg:slP y lo hi=some (.fl (r.map D.int))):WE (fSl f fl fh slP) as (zQ r):=by
 refine⟨xm r, ?_,Vc r⟩
 unfold WD at ha
 unfold fSl
 rw[ha];show((fl as).bind _)=_
 rw[hl];show((fh as).bind _)=_
 rw[hh];show((slP y lo hi).bind _)=_
 rw[hg]
 show(if((r.map D.int).all yo||(some s).isSome)=true then some (RV.ow (.nd .ls ((r.map D.int).map (lfs s))))else none:Option RV).bind _=_
 rw[if_pos (by simp),zzZ];rfl
variable{c:Cx}
theorem zrk{r:List Int}(hJ:Tab c.n c.n c.J)(h:∀x ∈ r,InR c.n x)(hr:r≠[]):RE (xQ [(true,c.g),(true,zQ r)]) (.int (c.h r)):=by
 match r,hr with
 |v::q,_=>
  have t0:WT (fT (f2 (fV 1) (wz dN) (zR .Eq))) [sT (c.g),sT (zQ (v::q)),none,none] false:=yz (f2E (g:=zR .Eq) (z:=.bl false) (WD.e (zc (i:=1) rfl)) (vL yU (szl rfl) rfl rfl) rfl) rfl
  have s2:zW true 2 (f2 (fV 1) (fC (.int 0)) ixP) [sT (c.g),sT (zQ (v::q)),none,none]=some (.nx [sT (c.g),sT (zQ (v::q)),sI v,none]):=yR (i:=2) (zZ (z:=.int v) (zc (i:=1) rfl) zg (zfC (f:=D.int) (l:=v::q) (i:=0) rfl) rfl) (zL rfl)
  have c1:=zgS (xs:=[D.int v]) (ys:=q.map D.int)
  have w1:WE (fSl (fV 1) (oS (fC (.int 1))) oN slP) [sT (c.g),sT (zQ (v::q)),sI v,none] (zQ q):=zgL (zc (i:=1) rfl) rfl rfl c1
  have it:zgZ (fSl (fV 1) (oS (fC (.int 1))) oN slP) [sT (c.g),sT (zQ (v::q)),sI v,none]=some (q.map λx=>(true,D.int x),[sT (c.g),sT (zQ (v::q)),sI v,none]):=by
   obtain⟨o,a1,a2,a3⟩:=w1
   unfold zgZ
   rw[a1]
   show(ziq (o.str,o.toD)).bind _=_
   rw[a2,a3]
   show some (kids true (q.map D.int),_)=_
   rw[zdk,zzZ];rfl
  have lp:∀(q':List Int) (u:Int) (z:Option O),InR c.n u->(∀x ∈ q',InR c.n x)->∃z',forL (gN 3) (zW true 2 (f2 (f2 (f2 (fV 0) (fC (.int 2)) ixP) (fV 2) ixP) (fV 3) ixP)) (q'.map λx=>(true,D.int x)) [sT (c.g),sT (zQ (v::q)),sI u,z]=some (.nx [sT (c.g),sT (zQ (v::q)),sI (q'.foldl (jAt c.J) u),z']):=λq'=>by
   induction q' with
   |nil=>exact λu z _ _=>⟨z,rfl⟩
   |cons x q' ih=>
    intro u z hu hq
    have hx:=hq x zzD
    obtain⟨z',hz⟩:=ih (jAt c.J u x) (sI x) (zjg hJ hu hx) λy my=>hq y (zzB _ my)
    exact⟨z',W6 (as1:=[sT (c.g),sT (zQ (v::q)),sI u,sI x]) rfl (yR (i:=2) (Vp hJ hu hx (ZX (z:=wM c.J) (zc (i:=0) rfl) zg rfl) (zc (i:=2) rfl) (zc (i:=3) rfl)) (zL rfl)) hz⟩
  obtain⟨z',hz⟩:=lp q v none (h v zzD) λy my=>h y (zzB _ my)
  exact yH rfl (zF (zV t0 rfl) (zF s2 (zF (Ym it hz) (yh (WD.e (zc (i:=2) rfl))))))
theorem zjU:RE (xQ [(true,c.g),(true,zQ [])]) (.int (c.h [])):=
 yH rfl (yX (xW (yz (f2E (g:=zR .Eq) (z:=.bl true) (WD.e (zc (i:=1) rfl)) (vL yU (szl rfl) rfl rfl) rfl) rfl) (yh (WD.e (zZ (z:=.int c.e) (zc (i:=0) rfl) zg rfl rfl)))))
theorem zqq{s:Bool}{x:Int}:xJ [(s,.int x)]=sT (.bl true):=
 Wg rfl (Wj (zlj (k:=true) (zjx (zc rfl) rfl) (λ_=>zlc (zjx (q:=false) (zc rfl) rfl)) (λh=>nomatch h)))
theorem ziR{x:Int}:RE (xJ [(true,.int x)]) (.bl true):=⟨_,zqq,rfl,rfl⟩
theorem ne0{x y:Int}(h:x=y):(!(x==y))=false:=by subst h;simp
theorem zvq{f:D->D->Option Bool}:∀xs:List D,(∀x ∈ xs,f x x=some true)->eqL f xs xs=some true
 | [],_=>rfl
 |x::r,h=>by
  show((f x x).bind λb=>(eqL f r r).bind λc=>some (b&&c))=_
  rw[h x zzD,zvq r λy my=>h y (zzB _ my)];rfl
theorem zlb{k:Nat}(r:List Int):eqF (k+2) (zQ r) (zQ r)=some true:=zvq _ λx mx=>by
 obtain⟨i,_,rfl⟩:=zxC.mp mx
 show some (i==i)=_
 rw[beq_self_eq_true]
theorem zmx{r:List Int}(h:c.Ok)(k:c.In r):RE (xQ [(true,c.g),(true,zQ r)]) (.int (c.h r)):=by
 by_cases e:r=[]
 · subst e;exact zjU
 · exact zrk h.A.j k e
abbrev gnD(p:Nat)(r:List Int):D:=.tup [.int p,zQ r]
theorem WK.in{w:D}{R:List Int}{p:Nat}(k:WK c w R p):c.In R:=by
 induction k with
 |lf v hv=>exact λx mx=>by rcases zzA.mp mx with rfl|mx;exact hv;exact nomatch mx
 |nd _ _ _ _ i j=>exact zjn i j
theorem WK.ne{w:D}{R:List Int}{p:Nat}(k:WK c w R p):R≠[]:=by
 induction k with
 |lf v hv=>exact List.cons_ne_nil _ _
 |nd _ _ _ _ i j=>exact λz=>i (List.append_eq_nil_iff.mp z).1
theorem zjy(h:c.Ok):∀(n:Nat) {w:D}{R:List Int}{p:Nat},WK c w R p->p<n->R.length<=1000->RE (wJ n [(true,c.g),(true,w)]) (gnD p R)
 |0,_,_,_,_,h,_=>absurd h (Nat.not_lt_zero _)
 |n+1,w,R,p,k,hp,hl=>by
  cases k with
  |lf v hv=>
   have t1:WT (Xq (Yw (fT (zdi (fV 1) "tuple"))) (Xq (zcH (fT (f2 (fP (aC (fV 1) aN) vZ) (fC (.int 1)) (zR .NotEq))) (fT (f2 (fP (aC (fV 1) aN) vZ) (fC (.int 3)) (zR .NotEq)))) (Yw (fT (zy (aC (f2 (fV 1) (fC (.int 0)) ixP) aN) xJ))))) [sT c.g,sT (.tup [.int v]),none,none,none] false:=
    zaH (k:=false) (Wl (k:=true) (yz (zjx (q:=true) (zc (i:=1) rfl) rfl) rfl)) (λ_=>zaH (k:=false) (zlv (k:=false) (yz (zhQ (c:=true) (xx (x:=.int 1) (g:=vZ) (zP (zc (i:=1) rfl) ye) rfl rfl) zg rfl) rfl) (λq=>nomatch q) (λ_=>rfl)) (λ_=>Wl (k:=true) (wtE (Zb (WD.e (zZ (z:=.int v) (zc (i:=1) rfl) zg rfl rfl)) ziR))) (λq=>nomatch q)) (λq=>nomatch q)
   exact yH rfl (zF (zV t1 rfl) (yX (xW (yz (XD (c:=true) (xx (x:=.int 1) (g:=vZ) (zP (zc (i:=1) rfl) ye) rfl rfl) zg rfl) rfl) (yh (Ys (WD.e zg) (vL (os:=[lfI v]) (yq (zZ (z:=.int v) (zc (i:=1) rfl) zg rfl rfl) yU) (szl rfl) rfl rfl))))))
  | @nd x y r s p q k l b1 b2=>
   have hR:=WK.nd k l b1 b2
   rw[zzH]at hl
   have i1:=zjy h n k (by omega) (by omega)
   have i2:=zjy h n l (by omega) (by omega)
   generalize hw:D.tup [.int (c.h (r++s)),x,y]=w
   have w0:∀a b e,WD (f2 (fV 1) (fC (.int 0)) ixP) [sT c.g,sT w,a,b,e] true (.int (c.h (r++s))):=λa b e=>by subst hw;exact zZ (zc (i:=1) rfl) zg rfl rfl
   have wl:WD (fP (aC (fV 1) aN) vZ) [sT c.g,sT w,none,none,none] true (.int 3):=by subst hw;exact xx (x:=.int 3) (g:=vZ) (zP (zc (i:=1) rfl) ye) rfl rfl
   have t1:WT (Xq (Yw (fT (zdi (fV 1) "tuple"))) (Xq (zcH (fT (f2 (fP (aC (fV 1) aN) vZ) (fC (.int 1)) (zR .NotEq))) (fT (f2 (fP (aC (fV 1) aN) vZ) (fC (.int 3)) (zR .NotEq)))) (Yw (fT (zy (aC (f2 (fV 1) (fC (.int 0)) ixP) aN) xJ))))) [sT c.g,sT w,none,none,none] false:=
    zaH (k:=false) (Wl (k:=true) (yz (by subst hw;exact zjx (q:=true) (zc (i:=1) rfl) rfl) rfl)) (λ_=>zaH (k:=false) (zlv (k:=true) (yz (zhQ (c:=false) wl zg rfl) rfl) (λ_=>yz (zhQ (c:=true) wl zg rfl) rfl) (λq=>nomatch q)) (λ_=>Wl (k:=true) (wtE (Zb (WD.e (w0 _ _ _)) ziR))) (λq=>nomatch q)) (λq=>nomatch q)
   have t2:WT (fT (f2 (fP (aC (fV 1) aN) vZ) (fC (.int 1)) (zR .Eq))) [sT c.g,sT w,none,none,none] false:=yz (XD (c:=false) wl zg rfl) rfl
   have s2:=vI (p:=2) (as:=[sT c.g,sT w,none,none,none]) (xT (WD.e (zc (i:=0) rfl)) (by subst hw;exact WD.e (Wu (j:=1) (i:=1) rfl rfl)) i1) (zL rfl)
   have s3:=vI (p:=3) (as:=[sT c.g,sT w,sT (gnD p r),none,none]) (xT (WD.e (zc (i:=0) rfl)) (by subst hw;exact WD.e (Wu (j:=1) (i:=2) rfl rfl)) i2) (zL rfl)
   have w20:∀z,WD (f2 (fV 2) (fC (.int 0)) ixP) [sT c.g,sT w,sT (gnD p r),sT (gnD q s),z] true (.int p):=λz=>Wu (j:=2) rfl rfl
   have w30:∀z,WD (f2 (fV 3) (fC (.int 0)) ixP) [sT c.g,sT w,sT (gnD p r),sT (gnD q s),z] true (.int q):=λz=>Wu (j:=3) rfl rfl
   have t4:WT (Xq (fT (f2 (fV 2) (fC .non) (zR .Is))) (Xq (fT (f2 (fV 3) (fC .non) (zR .Is))) (fT (f2 (fP (aC (f2 (f2 (fV 2) (fC (.int 0)) ixP) (f2 (fV 3) (fC (.int 0)) ixP) (zp .Sub)) aN) zqf) (fC (.int 1)) (zR .Gt))))) [sT c.g,sT w,sT (gnD p r),sT (gnD q s),none] false:=
    zaH (k:=false) (yz (zZ (z:=.bl false) (zc (i:=2) rfl) zg rfl rfl) rfl) (λ_=>zaH (k:=false) (yz (zZ (z:=.bl false) (zc (i:=3) rfl) zg rfl rfl) rfl) (λ_=>by
     have:=zsz (xx (x:=.int (if(p:Int)-q<0 then -((p:Int)-q)else(p:Int)-q)) (g:=zqf) (zP (zdj (w20 none) (w30 none)) ye) rfl rfl) (zg (x:=.int 1))
     rw[zyE (by split<;>omega)]at this
     exact yz this rfl) (λq=>nomatch q)) (λq=>nomatch q)
   have w5:WE (f2 (f2 (fV 2) (fC (.int 1)) ixP) (f2 (fV 3) (fC (.int 1)) ixP) (zp .Add)) [sT c.g,sT w,sT (gnD p r),sT (gnD q s),none] (zQ (r++s)):=by
    have:=ztb (as:=[sT c.g,sT w,sT (gnD p r),sT (gnD q s),none]) (WD.e (Wu (j:=2) (i:=1) (z:=zQ r) rfl rfl)) (WD.e (Wu (j:=3) (i:=1) (z:=zQ s) rfl rfl)) (add_lists (xs:=r.map D.int) (ys:=s.map D.int) (by rw[zS,zS];exact szs (by omega)))
    rw[<-zyK]at this;exact this
   have s5:=vI (p:=4) w5 (zL rfl)
   have t6:WT (fT (f2 (f2 (fV 1) (fC (.int 0)) ixP) (zy (aC (fV 0) (aC (fV 4) aN)) xQ) (zR .NotEq))) [sT c.g,sT w,sT (gnD p r),sT (gnD q s),sT (zQ (r++s))] false:=
    yz (zhQ (c:=true) (w0 _ _ _) (weF rfl (xT (WD.e (zc (i:=0) rfl)) (WD.e (zc (i:=4) rfl)) (zmx h hR.in))) (congrArg some (beq_self_eq_true (c.h (r++s))))) rfl
   have w7:=yC (as:=[sT c.g,sT w,sT (gnD p r),sT (gnD q s),sT (zQ (r++s))]) (zg (x:=.int 1)) (xx (x:=.int (if(q:Int) > p then(q:Int)else p)) (g:=zls) (zP (w20 _) (zP (w30 _) ye)) rfl rfl)
   rw[show 1+(if(q:Int) > p then(q:Int)else p)=((1+max p q:Nat):Int) by split<;>omega]at w7
   exact yH rfl (zF (zV t1 rfl) (zF (zV t2 rfl) (zF s2 (zF s3 (zF (zV t4 rfl) (zF s5 (zF (zV t6 rfl) (yh (Ys (WD.e w7) (WD.e (zc (i:=4) rfl)))))))))))
theorem zvr{as:AS}{i:Nat}{r:List Int}(h:as[i]? = some (some (xm r))):fV i as=some (.bo i,as)/\RV.view as (.bo i)=some (zQ r,some true):=
 ⟨znm h,by
  rw[znh h,(Vc r).2]
  show some (zQ r,if(r.map lfI).all O.isLf=true then some (O.strs (r.map lfI))else none)=_
  rw[if_pos (ZV r).1,(ZV r).2.1]⟩
theorem zvV{as:AS}{i:Nat}{r:List Int}(h:as[i]? = some (some (xm r))):WD (zdi (fV i) "list") as true (.bl true):=by
 obtain⟨h1,h2⟩:=zvr h
 unfold WD zdi
 rw[h1];show(RV.view as (.bo i)).bind _=_
 rw[h2];rfl
theorem neR{as:AS}{i:Nat}{r:List Int}{b:EF}(h:as[i]? = some (some (xm r)))(hb:WD b as true (zQ r)):WT (fT (f2 (fV i) b (zR .NotEq))) as false:=by
 obtain⟨h1,h2⟩:=zvr h
 refine yz (s:=true) (x:=.bl false) ?_ rfl
 unfold WD at hb ⊢
 unfold f2
 rw[h1];show(b as).bind _=_
 rw[hb];show(RV.view as (.bo i)).bind _=_
 rw[h2]
 show((eqF 60 (zQ r) (zQ r)).bind _ |>.bind _)=_
 rw[zlb r];rfl
theorem zuC{f:EF}{as:AS}{r:List Int}(h:f as=some (.ow (xm r),as)):WE f as (zQ r):=⟨_,h,Vc r⟩
abbrev T7(c:Cx)(t:D)(r:List Int)(a b e:Option O):AS:=[sT (c.w),sT (c.g),sT t,sT (zQ r),a,b,e]
theorem zvZ{t:D}{r:List Int}{a b e:Option O}:WD (fP (aC (fV 3) aN) vZ) (T7 c t r a b e) true (.int r.length):=by
 have:=xx (as:=T7 c t r a b e) (g:=vZ) (x:=.int ((r.map D.int).length:Nat)) (zP (zc (i:=3) (x:=zQ r) (s:=true) rfl) ye) rfl rfl
 rw[zS]at this;exact this
theorem zjK{t w:D}{r:List Int}{v:Int}(hl:r.length<=900)(h1:RE (vC [(true,t)]) (.int r.length))(h2:vm [(true,c.w),(true,t)]=some (xm r))
 (h3:RE (ZG [(true,c.w),(true,t)]) (.int v)) (h4:RE (xQ [(true,c.g),(true,zQ r)]) (.int v)) (h5:RE (vq 20 [(true,c.w),(true,t)]) w)
 (h6:Rt ((zM (sIf (fT (f2 (fV 3) (wz dN) (zR .Eq))) (yc (f2 (fV 5) (wU dN) (zR .Eq))) sNx)
 (zM (zW true 6 (zy (aC (fV 1) (aC (fV 5) aN)) (wJ 20)))
 (yc (zlN (f2 (fV 6) (fC .non) (zR .IsNot)) (f2 (f2 (fV 6) (fC (.int 1)) ixP) (fV 3) (zR .Eq)))))) (T7 c t r (some (xm (r++[0]))) (sT w) none)) (.bl true)):
 RE (yF [(true,c.w),(true,c.g),(true,t),(true,zQ r)]) (.bl true):=by
 have wt:∀a b e,WE (fV 2) (T7 c t r a b e) t:=λ_ _ _=>WD.e (zc (i:=2) rfl)
 have wy:∀a b e,WE (fV 0) (T7 c t r a b e) (c.w):=λ_ _ _=>WD.e (zc (i:=0) rfl)
 have t1:WT (Xq (fT (f2 (zy (aC (fV 2) aN) vC) (fP (aC (fV 3) aN) vZ) (zR .NotEq))) (Yw (fT (zy (aC (zy (aC (fV 2) aN) vC) aN) xJ)))) (T7 c t r none none none) false:=
  zaH (k:=false) (by have:=zlf (weF rfl (Zb (wt none none none) h1)) (zvZ (t:=t) (r:=r) (a:=none) (b:=none) (e:=none));rw[ne0 rfl]at this;exact this) (λ_=>Wl (k:=true) (wtE (Zb (Zb (wt _ _ _) h1) ziR))) (λq=>nomatch q)
 have rr:∀a b e,zy (aC (fV 0) (aC (fV 2) aN)) vm (T7 c t r a b e)=some (.ow (xm r),T7 c t r a b e):=λa b e=>Wf (zP (zc (i:=0) rfl) (zP (zc (i:=2) rfl) ye)) (by show vm [(true,c.w),(yo t||true,t)]=_;rw[zyB];exact h2)
 have s4:=Yc (i:=4) (rr none none none) (zL rfl)
 have w3:∀a b e,WD (fV 3) (T7 c t r a b e) true (zQ r):=λ_ _ _=>zc (i:=3) rfl
 have t2:WT (Xq (Yw (fT (zdi (fV 4) "list"))) (Xq (fT (f2 (fV 4) (fV 3) (zR .NotEq))) (fT (f2 (zy (aC (fV 0) (aC (fV 2) aN)) ZG) (zy (aC (fV 1) (aC (fV 3) aN)) xQ) (zR .NotEq))))) (T7 c t r (some (xm r)) none none) false:=
  zaH (k:=false) (Wl (k:=true) (yz (zvV (i:=4) (r:=r) rfl) rfl)) (λ_=>zaH (k:=false) (neR (i:=4) rfl (w3 _ _ _)) (λ_=>by have:=zlf (weF rfl (xT (wy (some (xm r)) none none) (wt _ _ _) h3)) (weF rfl (xT (WD.e (zc (i:=1) rfl)) (WD.e (w3 _ _ _)) h4));rw[ne0 rfl]at this;exact this) (λq=>nomatch q)) (λq=>nomatch q)
 have s5:wV (ZK 4 (dC (fC (.int 0)) dN) Zh) (T7 c t r (some (xm r)) none none)=some (.nx (T7 c t r (some (xm (r++[0]))) none none)):=by
  have:=zla (as:=T7 c t r (some (xm r)) none none) (i:=4) (os:=r.map lfI) rfl (by rw[zS];exact zzI (show r.length<1000 by omega) (szs (by decide))) (zg (x:=.int 0))
  rw[this]
  show some (Out.nx [_,_,_,_,some (O.nd .ls (r.map lfI++[lfI 0])),_,_])=_
  rw[show r.map lfI++[lfI 0]=(r++[0]).map lfI by rw[zyK];rfl]
 have t3:WT (fT (f2 (zy (aC (fV 0) (aC (fV 2) aN)) vm) (fV 3) (zR .NotEq))) (T7 c t r (some (xm (r++[0]))) none none) false:=yz (f2E (g:=zR .NotEq) (z:=.bl false) (zuC (rr _ _ _)) (WD.e (w3 _ _ _)) (by show(eqF 60 (zQ r) (zQ r)).bind _=_;rw[zlb r];rfl)) rfl
 have s6:=vI (p:=5) (xT (wy (some (xm (r++[0]))) none none) (wt _ _ _) h5) (zL rfl)
 exact yH rfl (zF (zV t1 rfl) (zF s4 (zF (zV t2 rfl) (zF s5 (zF (zV t3 rfl) (zF s6 h6))))))
theorem zcv(h:c.Ok){d:D}{R:List Int}(k:OT c d R)(hl:R.length<=900):RE (yF [(true,c.w),(true,c.g),(true,d),(true,zQ R)]) (.bl true):=by
 rcases k with⟨rfl,rfl⟩|⟨p,k⟩
 · refine zjK (w:=.tup []) (by decide) (zmW (c:=c) .n) zrz (zno .n) zjU (yH rfl (yX (xW (yz (zZ (z:=.bl true) (zc (i:=1) rfl) zg rfl rfl) rfl) (yh ⟨_,zfi yU (szl rfl),rfl,rfl⟩)))) ?_
   exact yX (xW (yz (f2E (g:=zR .Eq) (z:=.bl true) (WD.e (zc (i:=3) rfl)) (vL yU (szl rfl) rfl rfl) rfl) rfl) (yh (WD.e (f2E (g:=zR .Eq) (z:=.bl true) (WD.e (zc (i:=5) rfl)) ⟨_,zfi yU (szl rfl),rfl,rfl⟩ rfl))))
 · have hd:=k.lt (by omega)
   obtain⟨w,w1,w2⟩:=zjv h 20 k hd
   refine zjK hl (zmW k.o) (zue h k (by omega)) (zno k.o) (zmx h (k.in h)) w1 ?_
   have t4:WT (fT (f2 (fV 3) (wz dN) (zR .Eq))) (T7 c d R (some (xm (R++[0]))) (sT w) none) false:=yz (f2E (g:=zR .Eq) (z:=.bl false) (WD.e (zc (i:=3) rfl)) (vL yU (szl rfl) rfl rfl) (by
    obtain⟨v,r,e⟩:=List.exists_cons_of_ne_nil w2.ne
    rw[e];rfl)) rfl
   have s7:=vI (p:=6) (as:=T7 c d R (some (xm (R++[0]))) (sT w) none) (xT (WD.e (zc (i:=1) rfl)) (WD.e (zc (i:=5) rfl)) (zjy h 20 w2 hd (by omega))) (zL rfl)
   exact zF (zV t4 rfl) (zF s7 (yh (WD.e (zlj (k:=true) (zZ (z:=.bl true) (zc (i:=6) rfl) zg rfl rfl) (λ_=>XD (c:=true) (Wu (j:=6) (i:=1) (z:=zQ R) rfl rfl) (zc (i:=3) rfl) (zlb R)) (λq=>nomatch q)))))
end
def Lg(p n:Nat):Prop:=n<=2 ^ p/\(p=0\/2 ^ (p-1)<n)
theorem ztW{p q a b:Nat}(ha:1<=a)(h1:a<=b)(h2:b<=a+1)(hp:Lg p a)(hq:Lg q b):p<=q/\q<=p+1/\Lg (1+max p q) (a+b):=by
 obtain⟨p1,p2⟩:=hp
 obtain⟨q1,q2⟩:=hq
 have e1:p<=q:=by
  rcases p2 with p2|p2
  · omega
  · refine Nat.le_of_not_lt λh=>?_
    have:=Nat.pow_le_pow_right (n:=2) (by decide) (show q<=p-1 by omega)
    omega
 have e2:q<=p+1:=by
  rcases q2 with q2|q2
  · omega
  · refine Nat.le_of_not_lt λh=>?_
    have:=Nat.pow_le_pow_right (n:=2) (by decide) (show p+1<=q-1 by omega)
    rw[Nat.pow_succ]at this
    omega
 refine⟨e1,e2, ?_⟩
 rw[Nat.max_eq_right e1]
 refine⟨?_,.inr ?_⟩
 · rw[Nat.add_comm 1 q,Nat.pow_succ];omega
 · rw[show 1+q-1=q by omega]
   rcases q2 with q2|q2
   · subst q2
     show 1<a+b
     omega
   · obtain⟨r,rfl⟩:∃r,q=r+1:=⟨q-1,by
      have:q≠0:=λz=>by subst z;have:(2:Nat) ^ (0-1)=1:=rfl;have z1:b<=1:=q1;omega
      omega⟩
     rw[Nat.add_sub_cancel]at q2
     rw[Nat.pow_succ];omega
section
variable{c:Cx}{x y d:D}{r s R:List Int}{p q:Nat}
theorem zjb(h:c.Ok):∀(k:Nat) (r:List Int),1<=r.length->r.length<=2 ^ k->r.length<=1000->c.In r->∀s:Bool,∃d p,RE (xN (k+1) [(true,c.w),(s,zQ r)]) d/\TK c d r p/\Lg p r.length
 |k,r,h1,h2,hk,hv,s=>by
  have wl:∀z,WD (fP (aC (fV 1) aN) vZ) [sT c.w,some (.lf s (zQ r)),z] true (.int r.length):=λz=>by
   have:=xx (as:=[sT c.w,some (.lf s (zQ r)),z]) (g:=vZ) (x:=.int ((r.map D.int).length:Nat)) (zP (zc (i:=1) (x:=zQ r) (s:=s) rfl) ye) rfl rfl
   rw[zS]at this;exact this
  have t0:WT (fT (f2 (fP (aC (fV 1) aN) vZ) (fC (.int 0)) (zR .Eq))) [sT c.w,some (.lf s (zQ r)),none] false:=yz (XD (c:=false) (wl _) zg (by show some ((r.length:Int)==0)=_;rw[beq_eq_false_iff_ne.mpr (by omega)])) rfl
  have t1:WT (fT (f2 (fP (aC (fV 1) aN) vZ) (fC (.int 1)) (zR .Eq))) [sT c.w,some (.lf s (zQ r)),none] (decide (r.length=1)):=yz (XD (c:=decide (r.length=1)) (wl _) zg (by
   show some ((r.length:Int)==1)=_
   by_cases h:r.length=1
   · rw[h];rfl
   · rw[beq_eq_false_iff_ne.mpr (by omega),zyE h])) rfl
  by_cases hr:r.length=1
  · rw[zyM hr]at t1
    match r,hr with
    | [v],_=>
     exact⟨_,0,yH rfl (zF (zV t0 rfl) (yX (xW t1 (yh (Zb (WD.e (zZ (z:=.int v) (zc (i:=1) rfl) zg rfl rfl)) zmZ))))),.lf v false (hv v zzD),⟨zzL _,.inl rfl⟩⟩
  · rw[zyE hr]at t1
    cases k with
    |zero=>exact absurd (show r.length<=1 from h2) (by omega)
    |succ k=>
     rw[Nat.pow_succ]at h2
     have s3:zW true 2 (f2 (fP (aC (fV 1) aN) vZ) (fC (.int 2)) (zp .FloorDiv)) [sT c.w,some (.lf s (zQ r)),none]=some (.nx [sT c.w,some (.lf s (zQ r)),sI ((r.length/2:Nat):Int)]):=yR (i:=2) (Wq (wl none) (zg (x:=.int 2)) (by decide) (yV (by decide) (by decide))) (zL rfl)
     have l1:(r.take (r.length/2)).length=r.length/2:=by rw[zzQ];omega
     have l2:(r.drop (r.length/2)).length=r.length-r.length/2:=List.length_drop
     obtain⟨x,p,a1,a2,a3⟩:=zjb h k (r.take (r.length/2)) (by omega) (by omega) (by omega) (λv mv=>hv v (List.mem_of_mem_take mv)) true
     obtain⟨y,q,b1,b2,b3⟩:=zjb h k (r.drop (r.length/2)) (by omega) (by omega) (by omega) (λv mv=>hv v (List.mem_of_mem_drop mv)) true
     rw[l1]at a3
     rw[l2]at b3
     obtain⟨q1,q2,q3⟩:=ztW (by omega) (by omega) (by omega) a3 b3
     obtain⟨d,d1,d2⟩:=v7 h a2 b2 (by omega) (by omega)
     have sp:(r.map D.int)=(r.take (r.length/2)).map D.int++(r.drop (r.length/2)).map D.int:=by rw[<-zyK,List.take_append_drop]
     have c1:=zps (xs:=(r.take (r.length/2)).map D.int) (ys:=(r.drop (r.length/2)).map D.int)
     have c2:=zgS (xs:=(r.take (r.length/2)).map D.int) (ys:=(r.drop (r.length/2)).map D.int)
     rw[<-sp,zS,l1]at c1 c2
     have w1:WE (fSl (fV 1) oN (oS (fV 2)) slP) [sT c.w,some (.lf s (zQ r)),sI ((r.length/2:Nat):Int)] (zQ (r.take (r.length/2))):=zgL (zc (i:=1) rfl) rfl rfl c1
     have w2:WE (fSl (fV 1) (oS (fV 2)) oN slP) [sT c.w,some (.lf s (zQ r)),sI ((r.length/2:Nat):Int)] (zQ (r.drop (r.length/2))):=zgL (zc (i:=1) rfl) rfl rfl c2
     have wy:WE (fV 0) [sT c.w,some (.lf s (zQ r)),sI ((r.length/2:Nat):Int)] c.w:=WD.e (zc (i:=0) rfl)
     rw[List.take_append_drop]at d2
     exact⟨d,_,yH rfl (zF (zV t0 rfl) (zF (zV t1 rfl) (zF s3 (yh (xf wy (xT wy w1 a1) (xT wy w2 b1) d1))))),d2,by rw[show r.length/2+(r.length-r.length/2)=r.length by omega]at q3;exact q3⟩
theorem zlh(h:c.Ok)(hl:r.length<=1000)(hv:c.In r)(s:Bool):∃d,RE (xN 20 [(true,c.w),(s,zQ r)]) d/\OT c d r:=by
 by_cases e:r=[]
 · subst e
   exact⟨.non,yH rfl (yX (xW (yz (XD (c:=true) (xx (x:=.int 0) (g:=vZ) (zP (zc (i:=1) rfl) ye) rfl rfl) zg rfl) rfl) (yh (WD.e zg)))),.n⟩
 · obtain⟨d,p,a,b,_⟩:=zjb h 19 r (List.length_pos_iff.mpr e) (zzM hl (by decide)) hl hv s
   exact⟨d,a,b.o⟩
theorem gtD{a b:EF}{as:AS}(k:TK c x r p)(l:TK c y s q)(ha:WD a as true x)(hb:WD b as true y):WT (fT (f2 (f1 a (yx yQ "deep")) (f2 (f1 b (yx yQ "deep")) (fC (.int 1)) (zp .Add)) (zR .Gt))) as (decide (q+1<p)):=by
 have:=yz (zsz (k.deep ha) (yC (l.deep hb) (zg (x:=.int 1)))) rfl
 rw[show decide ((q:Int)+1<p)=decide (q+1<p)from decide_eq_decide.mpr (by omega)]at this
 exact this
theorem geD{a b:EF}{as:AS}(k:TK c x r p)(l:TK c y s q)(ha:WD a as true x)(hb:WD b as true y):WT (fT (f2 (f1 a (yx yQ "deep")) (f1 b (yx yQ "deep")) (zR .GtE))) as (decide (q<=p)):=by
 have:=yz (zuN (k.deep ha) (l.deep hb)) rfl
 rw[show decide ((q:Int)<=p)=decide (q<=p)from decide_eq_decide.mpr (by omega)]at this
 exact this
theorem zrM(h:c.Ok)(k:TK c x r p)(l:TK c y s q)(e:p=q+2):∃d u,RE (Zk [(true,c.w),(true,x),(true,y)]) d/\TK c d (r++s) u/\p<=u/\u<=p+1:=by
 obtain⟨x1,x2,r1,r2,p1,p2,k0,k1,k2,k3,k4,k5,rfl⟩:=Xm h k (by omega)
 have wy:∀a b,WE (fV 0) [sT c.w,sT x,sT y,a,b] c.w:=λ_ _=>WD.e (zc (i:=0) rfl)
 have v2:∀a b,WE (fV 2) [sT c.w,sT x,sT y,a,b] y:=λ_ _=>WD.e (zc (i:=2) rfl)
 have s3:=vI (p:=3) (xT (wy none none) (WD.e (zc (i:=1) rfl)) k0) (zL rfl)
 have u0:∀b,WD (f2 (fV 3) (fC (.int 0)) ixP) [sT c.w,sT x,sT y,sT (.tup [x1,x2]),b] true x1:=λ_=>Wu (j:=3) rfl rfl
 have u1:∀b,WD (f2 (fV 3) (fC (.int 1)) ixP) [sT c.w,sT x,sT y,sT (.tup [x1,x2]),b] true x2:=λ_=>Wu (j:=3) rfl rfl
 have t:=geD k1 k2 (u0 none) (u1 none)
 by_cases g:p2<=p1
 · rw[zyM g]at t
   obtain⟨d1,a1,a2⟩:=v7 h k2 l (by omega) (by omega)
   obtain⟨d2,b1,b2⟩:=v7 h k1 a2 (by omega) (by omega)
   rw[<-zxB]at b2
   exact⟨d2,_,yH rfl (zF s3 (yX (xW t (yh (xf (wy _ _) (WD.e (u0 _)) (xf (wy _ _) (WD.e (u1 _)) (v2 _ _) a1) b1))))),b2,by omega,by omega⟩
 · rw[zyE g]at t
   obtain⟨z1,z2,s1,s2,q1,q2,l0,l1,l2,l3,l4,l5,rfl⟩:=Xm h k2 (by omega)
   obtain⟨d1,a1,a2⟩:=v7 h k1 l1 (by omega) (by omega)
   obtain⟨d2,b1,b2⟩:=v7 h l2 l (by omega) (by omega)
   obtain⟨d3,c1,c2⟩:=v7 h a2 b2 (by omega) (by omega)
   have s4:=vI (p:=4) (xT (wy _ _) (WD.e (u1 none)) l0) (zL rfl)
   rw[show r1++s1++(s2++s)=r1++(s1++s2)++s by simp only[zxB]]at c2
   exact⟨d3,_,yH rfl (zF s3 (zF (zV t rfl) (zF s4 (yh (xf (wy _ _) (xf (wy _ _) (WD.e (u0 _)) (WD.e (Wu (j:=4) rfl rfl)) a1) (xf (wy _ _) (WD.e (Wu (j:=4) rfl rfl)) (v2 _ _) b1) c1))))),c2,by omega,by omega⟩
theorem zpJ(h:c.Ok)(k:TK c x r p)(l:TK c y s q)(e:q=p+2):∃d u,RE (vV [(true,c.w),(true,x),(true,y)]) d/\TK c d (r++s) u/\q<=u/\u<=q+1:=by
 obtain⟨x1,x2,r1,r2,p1,p2,k0,k1,k2,k3,k4,k5,rfl⟩:=Xm h l (by omega)
 have wy:∀a b,WE (fV 0) [sT c.w,sT x,sT y,a,b] c.w:=λ_ _=>WD.e (zc (i:=0) rfl)
 have v1:∀a b,WE (fV 1) [sT c.w,sT x,sT y,a,b] x:=λ_ _=>WD.e (zc (i:=1) rfl)
 have s3:=vI (p:=3) (xT (wy none none) (WD.e (zc (i:=2) rfl)) k0) (zL rfl)
 have u0:∀b,WD (f2 (fV 3) (fC (.int 0)) ixP) [sT c.w,sT x,sT y,sT (.tup [x1,x2]),b] true x1:=λ_=>Wu (j:=3) rfl rfl
 have u1:∀b,WD (f2 (fV 3) (fC (.int 1)) ixP) [sT c.w,sT x,sT y,sT (.tup [x1,x2]),b] true x2:=λ_=>Wu (j:=3) rfl rfl
 have t:=geD k2 k1 (u1 none) (u0 none)
 by_cases g:p1<=p2
 · rw[zyM g]at t
   obtain⟨d1,a1,a2⟩:=v7 h k k1 (by omega) (by omega)
   obtain⟨d2,b1,b2⟩:=v7 h a2 k2 (by omega) (by omega)
   rw[zxB]at b2
   exact⟨d2,_,yH rfl (zF s3 (yX (xW t (yh (xf (wy _ _) (xf (wy _ _) (v1 _ _) (WD.e (u0 _)) a1) (WD.e (u1 _)) b1))))),b2,by omega,by omega⟩
 · rw[zyE g]at t
   obtain⟨z1,z2,s1,s2,q1,q2,l0,l1,l2,l3,l4,l5,rfl⟩:=Xm h k1 (by omega)
   obtain⟨d1,a1,a2⟩:=v7 h k l1 (by omega) (by omega)
   obtain⟨d2,b1,b2⟩:=v7 h l2 k2 (by omega) (by omega)
   obtain⟨d3,c1,c2⟩:=v7 h a2 b2 (by omega) (by omega)
   have s4:=vI (p:=4) (xT (wy _ _) (WD.e (u0 none)) l0) (zL rfl)
   rw[show r++s1++(s2++r2)=r++(s1++s2++r2) by simp only[zxB]]at c2
   exact⟨d3,_,yH rfl (zF s3 (zF (zV t rfl) (zF s4 (yh (xf (wy _ _) (xf (wy _ _) (v1 _ _) (WD.e (Wu (j:=4) rfl rfl)) a1) (xf (wy _ _) (WD.e (Wu (j:=4) rfl rfl)) (WD.e (u1 _)) b1) c1))))),c2,by omega,by omega⟩
theorem zmD(h:c.Ok)(k:TK c x r p)(l:TK c y s q)(h1:p<=q+2)(h2:q<=p+2):∃d u,RE (Xn [(true,c.w),(true,x),(true,y)]) d/\TK c d (r++s) u/\max p q<=u/\u<=1+max p q/\(p<=q+1->q<=p+1->u=1+max p q):=by
 have v1:WD (fV 1) [sT c.w,sT x,sT y] true x:=zc (i:=1) rfl
 have v2:WD (fV 2) [sT c.w,sT x,sT y] true y:=zc (i:=2) rfl
 have wy:WE (fV 0) [sT c.w,sT x,sT y] c.w:=WD.e (zc (i:=0) rfl)
 have t1:=gtD k l v1 v2
 have t2:=gtD l k v2 v1
 by_cases g:q+1<p
 · rw[zyM g]at t1
   obtain⟨d,u,a,b,b1,b2⟩:=zrM h k l (by omega)
   exact⟨d,u,yH rfl (yX (xW t1 (yh (xf wy (WD.e v1) (WD.e v2) a)))),b,by omega,by omega,by omega⟩
 · rw[zyE g]at t1
   by_cases g2:p+1<q
   · rw[zyM g2]at t2
     obtain⟨d,u,a,b,b1,b2⟩:=zpJ h k l (by omega)
     exact⟨d,u,yH rfl (zF (zV t1 rfl) (yX (xW t2 (yh (xf wy (WD.e v1) (WD.e v2) a))))),b,by omega,by omega,by omega⟩
   · rw[zyE g2]at t2
     obtain⟨d,a,b⟩:=v7 h k l (by omega) (by omega)
     exact⟨d,_,yH rfl (zF (zV t1 rfl) (zF (zV t2 rfl) (yh (xf wy (WD.e v1) (WD.e v2) a)))),b,by omega,by omega,λ_ _=>rfl⟩
theorem zlI(h:c.Ok):∀(n:Nat) {x y:D}{r s:List Int}{p q:Nat},TK c x r p->TK c y s q->p<n->q<n->∃d u,RE (yw n [(true,c.w),(true,x),(true,y)]) d/\TK c d (r++s) u/\max p q<=u/\u<=1+max p q
 |0,_,_,_,_,_,_,_,_,h,_=>absurd h (Nat.not_lt_zero _)
 |n+1,x,y,r,s,p,q,k,l,hp,hq=>by
  have v1:∀a,WD (fV 1) [sT c.w,sT x,sT y,a] true x:=λ_=>zc (i:=1) rfl
  have v2:∀a,WD (fV 2) [sT c.w,sT x,sT y,a] true y:=λ_=>zc (i:=2) rfl
  have wy:∀a,WE (fV 0) [sT c.w,sT x,sT y,a] c.w:=λ_=>WD.e (zc (i:=0) rfl)
  have t1:=gtD k l (v1 none) (v2 none)
  have t2:=gtD l k (v2 none) (v1 none)
  have n1:=k.isN (v1 none)
  have n2:=l.isN (v2 none)
  by_cases g:q+1<p
  · rw[zyM g]at t1
    obtain⟨x1,x2,r1,r2,p1,p2,k0,k1,k2,k3,k4,k5,rfl⟩:=Xm h k (by omega)
    obtain⟨d,u,a1,a2,a3,a4⟩:=zlI h n k2 l (by omega) (by omega)
    obtain⟨d',u',b1,b2,b3,b4,b5⟩:=zmD h k1 a2 (by omega) (by omega)
    have s3:=vI (p:=3) (xT (wy none) (WD.e (v1 _)) k0) (zL rfl)
    rw[<-zxB]at b2
    exact⟨d',u',yH rfl (zF (zV n1 rfl) (zF (zV n2 rfl) (yX (xW t1 (zF s3 (yh (xf (wy _) (WD.e (Wu (j:=3) rfl rfl)) (xf (wy _) (WD.e (Wu (j:=3) rfl rfl)) (WD.e (v2 _)) a1) b1))))))),b2,by omega,by omega⟩
  · rw[zyE g]at t1
    by_cases g2:p+1<q
    · rw[zyM g2]at t2
      obtain⟨x1,x2,r1,r2,p1,p2,k0,k1,k2,k3,k4,k5,rfl⟩:=Xm h l (by omega)
      obtain⟨d,u,a1,a2,a3,a4⟩:=zlI h n k k1 (by omega) (by omega)
      obtain⟨d',u',b1,b2,b3,b4,b5⟩:=zmD h a2 k2 (by omega) (by omega)
      have s3:=vI (p:=3) (xT (wy none) (WD.e (v2 _)) k0) (zL rfl)
      rw[zxB]at b2
      exact⟨d',u',yH rfl (zF (zV n1 rfl) (zF (zV n2 rfl) (zF (zV t1 rfl) (yX (xW t2 (zF s3 (yh (xf (wy _) (xf (wy _) (WD.e (v1 _)) (WD.e (Wu (j:=3) rfl rfl)) a1) (WD.e (Wu (j:=3) rfl rfl)) b1)))))))),b2,by omega,by omega⟩
    · rw[zyE g2]at t2
      obtain⟨d,a,b⟩:=v7 h k l (by omega) (by omega)
      exact⟨d,_,yH rfl (zF (zV n1 rfl) (zF (zV n2 rfl) (zF (zV t1 rfl) (zF (zV t2 rfl) (yh (xf (wy _) (WD.e (v1 _)) (WD.e (v2 _)) a)))))),b,by omega,by omega⟩
theorem zpb(h:c.Ok)(k:OT c x r)(l:OT c y s)(h1:r.length<=1000)(h2:s.length<=1000):∃d,RE (yw 20 [(true,c.w),(true,x),(true,y)]) d/\OT c d (r++s):=by
 have wN:WT (fT (f2 (fV 1) (fC .non) (zR .Is))) [sT c.w,sT .non,sT y,none] true:=yz (zZ (zc (i:=1) rfl) zg rfl rfl) rfl
 rcases k with⟨rfl,rfl⟩|⟨p,k⟩
 · exact⟨y,yH rfl (yX (xW wN (yh (WD.e (zc (i:=2) rfl))))),l⟩
 rcases l with⟨rfl,rfl⟩|⟨q,l⟩
 · refine⟨x,yH rfl (zF (zV (k.isN (zc (i:=1) rfl)) rfl) (yX (xW (yz (zZ (zc (i:=2) rfl) zg rfl rfl) rfl) (yh (WD.e (zc (i:=1) rfl)))))), ?_⟩
   rw[zyC];exact k.o
 · obtain⟨d,u,a,b,_⟩:=zlI h 20 k l (k.lt h1) (l.lt h2)
   exact⟨d,a,b.o⟩
end
theorem zrA{k:Int}(k0:0<=k)(k1:k<=300):(0:Int)<2*2 ^ (8*k).toNat/\(2*2 ^ (8*k).toNat:Int).natAbs<big:=by
 have p:(0:Int)<2 ^ (8*k).toNat:=Int.pow_pos (by decide)
 refine⟨by omega, ?_⟩
 have e:(2*2 ^ (8*k).toNat:Int).natAbs=2 ^ ((8*k).toNat+1):=by
  rw[Int.natAbs_mul,Int.natAbs_pow,Nat.pow_succ,Nat.mul_comm];rfl
 rw[e]
 unfold big
 exact Nat.pow_lt_pow_right (by decide) (by omega)
def mx(c k:Int):Int:=if c%2=0 then c/(2*2 ^ (8*k).toNat)else
 let x:=(c%2147483647+69621*k+7919)*48271%2147483647
 let y:=x*x%2147483629
 (y*y+16807*k)%2147483587
theorem zcI{c k:Int}{s t:Bool}(k0:0<=k)(k1:k<=300):zu [(s,.int c),(t,.int k)]=sI (mx c k):=by
 have b8:(8:Int).natAbs<big:=yV (by decide) (by decide)
 have bk:k.natAbs<big:=yV (by omega) (by omega)
 have t0:WT (fT (f2 (f2 (fV 0) (fC (.int 2)) (zp .Mod)) (fC (.int 0)) (zR .Eq))) [some (.lf s (.int c)),some (.lf t (.int k)),none] (c%2==0):=yz (XD (c:=c%2==0) (yD (zc (i:=0) rfl) zg (by decide)) zg rfl) rfl
 by_cases h:c%2=0
 · rw[show(c%2==0)=true by simp[h]]at t0
   obtain⟨p0,p1⟩:=zrA k0 k1
   have w:=zZ (as:=[some (.lf s (.int c)),some (.lf t (.int k)),none]) (g:=zty) (z:=.int (2*2 ^ (8*k).toNat)) (zg (x:=.int 2)) (Y4 (zg (x:=.int 8)) (zc (i:=1) (x:=.int k) (s:=t) rfl) b8 bk) (by
    show(if(0:Int)<=8*k/\8*k<=1000000/\(2:Int).natAbs<2 ^ 64 then _ else _)=_
    rw[if_pos ⟨by omega,by omega,by decide⟩]) rfl
   unfold mx
   rw[if_pos h]
   exact Wg rfl (VB (Z7 t0 (Wj (Wq (zc (i:=0) rfl) w p0 p1))))
 · rw[show(c%2==0)=false by simp[h]]at t0
   unfold mx
   rw[if_neg h]
   have c0:=zyL c (show(2147483647:Int)≠0 by decide)
   have c1:=zyF c (show(0:Int)<2147483647 by decide)
   have w1:=yD (as:=[some (.lf s (.int c)),some (.lf t (.int k)),none]) (Y4 (yC (yC (yD (zc (i:=0) (x:=.int c) (s:=s) rfl) (zg (x:=.int 2147483647)) (by decide)) (Y4 (zg (x:=.int 69621)) (zc (i:=1) (x:=.int k) (s:=t) rfl) (yV (by decide) (by decide)) bk)) (zg (x:=.int 7919))) (zg (x:=.int 48271)) (yV (by omega) (by omega)) (yV (by decide) (by decide))) (zg (x:=.int 2147483647)) (by decide)
   have u0:=zyL ((c%2147483647+69621*k+7919)*48271) (show(2147483647:Int)≠0 by decide)
   have u1:=zyF ((c%2147483647+69621*k+7919)*48271) (show(0:Int)<2147483647 by decide)
   generalize (c%2147483647+69621*k+7919)*48271%2147483647=x at w1 u0 u1
   have w2:=yD (as:=[some (.lf s (.int c)),some (.lf t (.int k)),sI x]) (Y4 (zc (i:=2) (x:=.int x) (s:=true) rfl) (zc (i:=2) (x:=.int x) (s:=true) rfl) (yV (by omega) (by omega)) (yV (by omega) (by omega))) (zg (x:=.int 2147483629)) (by decide)
   have v0:=zyL (x*x) (show(2147483629:Int)≠0 by decide)
   have v1:=zyF (x*x) (show(0:Int)<2147483629 by decide)
   show _=sI ((x*x%2147483629*(x*x%2147483629)+16807*k)%2147483587)
   generalize x*x%2147483629=y at w2 v0 v1
   have w3:=yD (as:=[some (.lf s (.int c)),some (.lf t (.int k)),sI y]) (yC (Y4 (zc (i:=2) (x:=.int y) (s:=true) rfl) (zc (i:=2) (x:=.int y) (s:=true) rfl) (yV (by omega) (by omega)) (yV (by omega) (by omega))) (Y4 (zg (x:=.int 16807)) (zc (i:=1) (x:=.int k) (s:=t) rfl) (yV (by decide) (by decide)) bk)) (zg (x:=.int 2147483587)) (by decide)
   exact Wg rfl (yG (zV t0 rfl) (yG (yR (i:=2) w1 (zL rfl)) (yG (yR (i:=2) w2 (zL rfl)) (Wj w3))))
abbrev d6(c:Int)(w n:Nat)(r:List Int)(x:Int)(z:Option O):AS:=[sI c,sI w,sI n,some (xm r),sI x,z]
abbrev drB:SF:=(sIf (zcH (fT (f2 (f2 (fV 0) (fC (.int 2)) (zp .Mod)) (fC (.int 0)) (zR .Eq))) (fT (f2 (fV 5) (fC (.int 60)) (zR .Lt)))) (zM (wV (ZK 3 (dC (f2 (fV 4) (fV 2) (zp .Mod)) dN) Zh))
 (zW true 4 (f2 (fV 4) (fV 2) (zp .FloorDiv)))) (zM (zW true 4 (f2 (f2 (f2 (f2 (f2 (fV 4) (fC (.int 2147483647)) (zp .Mod)) (fC (.int 48271)) (zp .Mult)) (f2 (fV 5) (fV 5) (zp .Mult)) (zp .Add)) (fC (.int 7919)) (zp .Add)) (fC (.int 2147483629)) (zp .Mod)))
 (wV (ZK 3 (dC (f2 (f2 (f2 (f2 (fV 4) (fV 4) (zp .Mult)) (fC (.int 2147483647)) (zp .Mod)) (fC (.int 64)) (zp .FloorDiv)) (fV 2) (zp .Mod)) dN) Zh))))
theorem zsB{c:Int}{w n:Nat}{r:List Int}{x:Int}{z:Option O}{a:EF}{v:Int}(hl:r.length<=900)(h:WD a (d6 c w n r x z) true (.int v)):wV (ZK 3 (dC a dN) Zh) (d6 c w n r x z)=some (.nx (d6 c w n (r++[v]) x z)):=by
 rw[zla (i:=3) (os:=r.map lfI) rfl (by rw[zS];exact zzI (show r.length<1000 by omega) (szs (by decide))) h]
 show some (Out.nx [_,_,_,some (O.nd .ls (r.map lfI++[lfI v])),_,_])=_
 rw[show r.map lfI++[lfI v]=(r++[v]).map lfI by rw[zyK];rfl]
theorem zud{c:Int}{w n:Nat}{r:List Int}{x:Int}{k:Nat}(hn:1<=n)(n8:n<=8)(hk:k<=300)(hl:r.length<=900):∃v x',InR n v/\drB (d6 c w n r x (sI k))=some (.nx (d6 c w n (r++[v]) x' (sI k))):=by
 have nb:((n:Int)).natAbs<big:=yV (by omega) (by omega)
 have t0:WT (zcH (fT (f2 (f2 (fV 0) (fC (.int 2)) (zp .Mod)) (fC (.int 0)) (zR .Eq))) (fT (f2 (fV 5) (fC (.int 60)) (zR .Lt)))) (d6 c w n r x (sI k)) ((c%2==0)&&decide ((k:Int)<60)):=zlv (k:=c%2==0) (yz (XD (c:=c%2==0) (yD (zc (i:=0) rfl) zg (by decide)) zg rfl) rfl) (λq=>by rw[q,Bool.true_and];exact yz (zql (zc (i:=5) rfl) zg) rfl) (λq=>by rw[q];rfl)
 cases hq:((c%2==0)&&decide ((k:Int)<60))with
 |true=>
  rw[hq]at t0
  refine⟨x%n,x/n,zca hn,Z7 t0 (yG (zsB hl (yD (zc (i:=4) rfl) (zc (i:=2) (x:=.int n) (s:=true) rfl) (by omega))) (yR (i:=4) (Wq (zc (i:=4) rfl) (zc (i:=2) (x:=.int n) (s:=true) rfl) (by omega) nb) (zL rfl)))⟩
 |false=>
  rw[hq]at t0
  have c0:=zyL x (show(2147483647:Int)≠0 by decide)
  have c1:=zyF x (show(0:Int)<2147483647 by decide)
  have w1:=yD (as:=d6 c w n r x (sI k)) (yC (yC (Y4 (yD (zc (i:=4) (x:=.int x) (s:=true) rfl) (zg (x:=.int 2147483647)) (by decide)) (zg (x:=.int 48271)) (yV (by omega) (by omega)) (yV (by decide) (by decide))) (Y4 (zc (i:=5) (x:=.int k) (s:=true) rfl) (zc (i:=5) (x:=.int k) (s:=true) rfl) (yV (by omega) (by omega)) (yV (by omega) (by omega)))) (zg (x:=.int 7919))) (zg (x:=.int 2147483629)) (by decide)
  have u0:=zyL (x%2147483647*48271+(k:Int)*k+7919) (show(2147483629:Int)≠0 by decide)
  have u1:=zyF (x%2147483647*48271+(k:Int)*k+7919) (show(0:Int)<2147483629 by decide)
  generalize (x%2147483647*48271+(k:Int)*k+7919)%2147483629=y at w1 u0 u1
  have w2:=yD (as:=d6 c w n r y (sI k)) (Wq (yD (Y4 (zc (i:=4) (x:=.int y) (s:=true) rfl) (zc (i:=4) (x:=.int y) (s:=true) rfl) (yV (by omega) (by omega)) (yV (by omega) (by omega))) (zg (x:=.int 2147483647)) (by decide)) (zg (x:=.int 64)) (by decide) (yV (by decide) (by decide))) (zc (i:=2) (x:=.int n) (s:=true) rfl) (by omega)
  exact⟨_,y,zca hn,zV t0 (yG (yR (i:=4) w1 (zL rfl)) (zsB hl w2))⟩
theorem zoX{c:Int}{w n:Nat}(hn:1<=n)(n8:n<=8)(hw:w<=300):∃r,r.length=w/\(∀v ∈ r,InR n v)/\wW [(true,.int c),(true,.int w),(true,.int n)]=some (xm r):=by
 have s3:zW false 3 (wz dN) [sI c,sI w,sI n,none,none,none]=some (.nx [sI c,sI w,sI n,some (xm []),none,none]):=Yc (i:=3) (zaq yU (szl rfl)) (zL rfl)
 have s4:zW true 4 (zy (aC (fV 0) (aC (fC (.int 0)) aN)) zu) [sI c,sI w,sI n,some (xm []),none,none]=some (.nx (d6 c w n [] (mx c 0) none)):=yR (i:=4) (zbp (zP (zc (i:=0) rfl) (zP zg ye)) (zcI (by decide) (by decide))) (zL rfl)
 obtain⟨as',hf,r,x,z,rfl,h1,h2⟩:=Zg (g:=gN 5) (f:=drB) (λi as=>∃r x z,as=d6 c w n r x z/\r.length=i/\∀v ∈ r,InR n v) (wD 0 w) 0 (d6 c w n [] (mx c 0) none) (λi y as hy hI=>by
  obtain⟨r,x,z,rfl,h1,h2⟩:=hI
  obtain⟨rfl,hi⟩:=Yz hy
  rw[zyW]at h1 ⊢
  obtain⟨v,x',hv,hb⟩:=zud (c:=c) (w:=w) (n:=n) (r:=r) (x:=x) (k:=i) hn n8 (by omega) (by omega)
  refine⟨d6 c w n r x (sI i),by rw[Int.zero_add];rfl,_,hb,r++[v],x',_,rfl,by rw[zzH,h1];rfl,λu mu=>?_⟩
  rcases zzK.mp mu with m|m
  · exact h2 u m
  · rcases zzA.mp m with rfl|m
    · exact hv
    · exact nomatch m) ⟨[],_,_,rfl,rfl,λ_ m=>nomatch m⟩
 rw[Z0,zyW]at h1
 refine⟨r,h1,h2, ?_⟩
 have hr:=vd (as:=d6 c w n [] (mx c 0) none) (zP (zc (i:=1) (x:=.int w) (s:=true) rfl) ye) (by omega) (by omega)
 rw[zyG]at hr
 exact Wg rfl (yG s3 (yG s4 (yG (Ym hr hf) (zbf (i:=3) rfl (Vc r).1))))
theorem zrX{ns:List Int}{k:Int}{s t:Bool}(hk:0<=k):∃x,zN [(s,.lst (ns.map .int)),(t,.int k)]=sT (.int x):=by
 by_cases h:k<((ns.map D.int).length:Int)
 · obtain⟨x,hx⟩:=zrl (ns:=ns) hk (by rw[zS]at h;exact h)
   exact⟨x,Wg rfl (VB (Z7 (yz (zql (zc rfl) (xx (zP (zc rfl) ye) rfl rfl)) (congrArg some (zyM h))) (Wj (zZ (zc rfl) (zc rfl) hx rfl))))⟩
 · exact⟨0,Wg rfl (yG (zV (yz (zql (zc rfl) (xx (zP (zc rfl) ye) rfl rfl)) (congrArg some (zyE h))) rfl) (Wj zg))⟩
theorem zqI{α:Type}(f:α->D)(l:List α)(lo hi:Option Int):∃l':List α,l'.length<=l.length/\PF.cutD (l.map f) lo hi=l'.map f:=by
 unfold PF.cutD
 rw[zS,<-List.map_drop,<-List.map_take]
 exact⟨_,by rw[zzQ,List.length_drop];omega,rfl⟩
theorem oS1{f:EF}{as:AS}{k:Int}(h:WD f as true (.int k)):oS f as=some (some k,as):=by
 unfold oS
 unfold WD at h
 rw[h];rfl
theorem zwy{a b:EF}{as:AS}{s:Bool}{r:List Int}{k:Nat}(ha:WD a as s (zQ r))(hb:WD b as true (.int k))(hk:k<=r.length):WE (fSl a oN (oS b) slP) as (zQ (r.take k)):=by
 have c1:=zps (xs:=(r.take k).map D.int) (ys:=(r.drop k).map D.int)
 rw[<-zyK,List.take_append_drop,zS,zzQ,Nat.min_eq_left hk]at c1
 exact zgL ha rfl (oS1 hb) c1
theorem ztY{a b:EF}{as:AS}{s:Bool}{r:List Int}{k:Nat}(ha:WD a as s (zQ r))(hb:WD b as true (.int k))(hk:k<=r.length):WE (fSl a (oS b) oN slP) as (zQ (r.drop k)):=by
 have c1:=zgS (xs:=(r.take k).map D.int) (ys:=(r.drop k).map D.int)
 rw[<-zyK,List.take_append_drop,zS,zzQ,Nat.min_eq_left hk]at c1
 exact zgL ha (oS1 hb) rfl c1
theorem zlL{a b:EF}{as:AS}{r s:List Int}(ha:WE a as (zQ r))(hb:WE b as (zQ s))(hl:r.length+s.length<=1000):WE (f2 a b (zp .Add)) as (zQ (r++s)):=by
 have:=ztb ha hb (add_lists (xs:=r.map D.int) (ys:=s.map D.int) (by rw[zS,zS];exact szs (by omega)))
 rw[<-zyK]at this;exact this
theorem zwr{a:EF}{as:AS}{s:Bool}{r:List Int}(ha:WD a as s (zQ r)):WD (fP (aC a aN) vZ) as true (.int r.length):=by
 have:=xx (g:=vZ) (x:=.int ((r.map D.int).length:Nat)) (zP ha ye) rfl rfl
 rw[zS]at this;exact this
theorem zlo(ns:List Int){k:Int}(hk:0<=k):∃x,∀as:AS,as[0]? = some (sT (.lst (ns.map .int)))->WD (zy (aC (fV 0) (aC (fC (.int k)) aN)) zN) as true (.int x):=by
 obtain⟨x,e⟩:=zrX (ns:=ns) (s:=true) (t:=true) hk
 exact⟨x,λas h=>zbp (zP (zc h) (zP zg ye)) e⟩
theorem eqT{a b:EF}{as:AS}{x y:Int}{s t q:Bool}(ha:WD a as s (.int x))(hb:WD b as t (.int y))(e:(x==y)=q):WT (fT (f2 a b (zR .Eq))) as q:=yz (XD (c:=q) ha hb (congrArg some e)) rfl
def KT(k:Int)(n:Nat):Prop:=(k=0/\2<=n)\/(k=1/\2<=n)\/(k=2/\2<=n)\/(k=3/\n=4)\/(k=4/\n=6)
def jT(k:Int)(n:Nat):Int->Int->Int:=if k=4 then jB 3 (jS 2) jL else jK k n
def eT(k:Int):Int:=if k=3 then 1 else 0
theorem f6{P:Int->Prop}(h:∀a ∈ ([0,1,2,3,4,5]:List Int),P a){a:Int}(ha:InR 6 a):P a:=by
 obtain⟨h0,h1⟩:=ha
 have:a=0\/a=1\/a=2\/a=3\/a=4\/a=5:=by omega
 rcases this with rfl|rfl|rfl|rfl|rfl|rfl
 · exact h 0 (by decide)
 · exact h 1 (by decide)
 · exact h 2 (by decide)
 · exact h 3 (by decide)
 · exact h 4 (by decide)
 · exact h 5 (by decide)
theorem zsp{k:Int}{n:Nat}(h:KT k n):LJ n (jT k n) (eT k):=by
 rcases h with⟨rfl,h⟩|⟨rfl,h⟩|⟨rfl,h⟩|⟨rfl,rfl⟩|⟨rfl,rfl⟩
 · exact ljS (by omega)
 · exact ljM (by omega)
 · exact ljL (by omega)
 · exact ljP
 · have:=ljB (n1:=2) (n2:=3) (ljS (n:=2) (by decide)) (ljL (n:=3) (by decide)) (by decide)
   exact this
theorem ztt{k:Int}{n:Nat}{a b:Int}(h:KT k n)(ha:InR n a)(hb:InR n b):xq [(true,.int k),(true,.int n),(true,.int a),(true,.int b)]=sI (jT k n a b):=by
 rcases h with⟨rfl,hn⟩|⟨rfl,hn⟩|⟨rfl,hn⟩|⟨rfl,rfl⟩|⟨rfl,rfl⟩
 · exact Wg rfl (VB (Z7 (eqT (zc (i:=0) rfl) zg rfl) (Wj (yD (yC (zc (i:=2) rfl) (zc (i:=3) rfl)) (zc (i:=1) rfl) (by omega)))))
 · exact Wg rfl (yG (zV (eqT (zc (i:=0) rfl) zg rfl) rfl) (VB (Z7 (eqT (zc (i:=0) rfl) zg rfl) (Wj (xx (zP (zc (i:=2) rfl) (zP (zc (i:=3) rfl) ye)) rfl rfl)))))
 · exact Wg rfl (yG (zV (eqT (zc (i:=0) rfl) zg rfl) rfl) (yG (zV (eqT (zc (i:=0) rfl) zg rfl) rfl) (VB (Z7 (eqT (zc (i:=0) rfl) zg rfl) (Wj (f2E (vL (os:=[lfI b,lfI a]) (yq (zc (i:=3) rfl) (yq (zc (i:=2) rfl) yU)) (szl rfl) rfl rfl) (WD.e (xx (zP (XD (zc (i:=3) rfl) zg rfl) ye) rfl rfl)) (znk.trans (by show _=some (R0.im (.int (jL a b)));unfold jL;by_cases h:b=0<;>simp[h]))))))))
 · have P:∀a ∈ ([0,1,2,3]:List Int),∀b ∈ ([0,1,2,3]:List Int),xq [(true,.int 3),(true,.int (4:Nat)),(true,.int a),(true,.int b)]=sI (jT 3 4 a b):=by
    intro a ma b mb
    simp only[zzA,zxA,or_false]at ma mb
    rcases ma with rfl|rfl|rfl|rfl<;>rcases mb with rfl|rfl|rfl|rfl<;>rfl
   exact f4 (P:=λa=>xq [(true,.int 3),(true,.int (4:Nat)),(true,.int a),(true,.int b)]=sI (jT 3 4 a b)) (λa m=>f4 (P:=λb=>xq [(true,.int 3),(true,.int (4:Nat)),(true,.int a),(true,.int b)]=sI (jT 3 4 a b)) (P a m) hb) ha
 · have P:∀a ∈ ([0,1,2,3,4,5]:List Int),∀b ∈ ([0,1,2,3,4,5]:List Int),xq [(true,.int 4),(true,.int (6:Nat)),(true,.int a),(true,.int b)]=sI (jT 4 6 a b):=by
    intro a ma b mb
    simp only[zzA,zxA,or_false]at ma mb
    rcases ma with rfl|rfl|rfl|rfl|rfl|rfl<;>rcases mb with rfl|rfl|rfl|rfl|rfl|rfl<;>rfl
   exact f6 (P:=λa=>xq [(true,.int 4),(true,.int (6:Nat)),(true,.int a),(true,.int b)]=sI (jT 4 6 a b)) (λa m=>f6 (P:=λb=>xq [(true,.int 4),(true,.int (6:Nat)),(true,.int a),(true,.int b)]=sI (jT 4 6 a b)) (P a m) hb) ha
def KM(k:Int)(n m:Nat):Prop:=1<=m/\m<=6/\(k=0->m=n)/\(k=4->m=2)
def nzr(cell:Int)(n:Nat)(a:Int):Int:=if a=0 then 0 else 1+mx cell (42+a)%((n:Int)-1)
theorem zol{cell:Int}{n:Nat}(hn:2<=n)(a:Int):InR n (nzr cell n a)/\(a≠0->nzr cell n a≠0):=by
 have h0:=zyL (mx cell (42+a)) (show((n:Int)-1)≠0 by omega)
 have h1:=zyF (mx cell (42+a)) (show(0:Int)<(n:Int)-1 by omega)
 unfold nzr
 by_cases h:a=0
 · rw[if_pos h];exact⟨⟨by omega,by omega⟩,λz=>absurd h z⟩
 · rw[if_neg h];exact⟨⟨by omega,by omega⟩,λ_=>by omega⟩
theorem ldN{cell:Int}{n m:Nat}(hn:2<=n):LD n m jL 0 (λ_ a=>nzr cell n a):=ldL (if_pos rfl) (λa _=>(zol hn a).1) λa _ h=>(zol hn a).2 h
theorem ldZ{n:Nat}{x y:Int}(hn:1<=n):LD n n (jS n) 0 (λc a=>(x*a+y*c)%n):=
 LD.congr (j:=jS n) (by omega) (ljS (by omega)) (ldS (n:=n) (m:=n) (g:=(n:Int)) (x0:=x) (x1:=y) (by omega) (by omega) (by omega) (Int.dvd_refl _) (Int.dvd_refl _)) (λ_ _ _ _=>rfl) λc a _ _=>by
  rw[Int.ediv_self (by omega),Int.mul_one,Int.mul_comm x,Int.mul_comm y]
theorem zme{a:Int}{n:Nat}(h:InR n a)(hn:n<=8):a.natAbs<2 ^ 64:=by
 obtain⟨h0,h1⟩:=h
 have:a.natAbs<8:=by omega
 exact zzI this (by decide)
abbrev O8(k:Int)(n:Nat)(cell c a x y:Int)(z:Option O):AS:=[sI k,sI n,sI cell,sI c,sI a,sI x,sI y,z]
theorem zcJ{k:Int}{n:Nat}{cell c a v:Int}(h:∀x y,x=mx cell 40->y=mx cell 41->Rt ((zM (sIf (fT (f2 (fV 0) (fC (.int 0)) (zR .Eq))) (yc (f2 (f2 (f2 (fV 5) (fV 4) (zp .Mult)) (f2 (fV 6) (fV 3) (zp .Mult)) (zp .Add)) (fV 1) (zp .Mod))) sNx)
 (zM (sIf (fT (f2 (fV 0) (fC (.int 1)) (zR .Eq))) (zM (zW true 7 (fP (aC (wu (xR (aC (f2 (fV 1) (fC (.int 1)) (zp .Sub)) aN) xO) [none,some 1,some 2] (gN 0) Yx (f2 (zy (aC (fV 2) (aC (f2 (fC (.int 42)) (fV 0) (zp .Add)) aN)) zu) (fV 1) (zp .Mod))) aN) zmm))
 (yc (f2 (f2 (wz (dC (fC (.int 0)) dN)) (fV 7) (zp .Add)) (fV 4) ixP))) sNx)
 (zM (sIf (fT (f2 (fV 0) (fC (.int 2)) (zR .Eq))) (yc (f2 (wz (dC (f2 (fC (.int 1)) (f2 (zy (aC (fV 2) (aC (f2 (fC (.int 42)) (fV 4) (zp .Add)) aN)) zu) (f2 (fV 1) (fC (.int 1)) (zp .Sub)) (zp .Mod)) (zp .Add)) (dC (fC (.int 0)) dN))) (fP (aC (f2 (fV 4) (fC (.int 0)) (zR .Eq)) aN) V6) ixP)) sNx)
 (zM (sIf (fT (f2 (fV 0) (fC (.int 3)) (zR .Eq))) (yc (f2 (wz (dC (fV 4) (dC (f2 (f2 (f2 (fC (.int 2)) (f2 (fC (.int 1)) (f2 (fV 4) (fC (.int 2)) (zp .Mod)) (zp .Sub)) (zp .Mult)) (fC (.int 1)) (zp .Add)) (f2 (fV 4) (fC (.int 2)) (zp .FloorDiv)) (zp .Sub)) dN))) (f2 (fV 5) (fC (.int 2)) (zp .Mod)) ixP)) sNx)
 (yc (f2 (f2 (fC (.int 3)) (f2 (f2 (f2 (fV 5) (f2 (fV 4) (fC (.int 3)) (zp .FloorDiv)) (zp .Mult)) (f2 (fV 6) (fV 3) (zp .Mult)) (zp .Add)) (fC (.int 2)) (zp .Mod)) (zp .Mult)) (f2 (wz (dC (f2 (fC (.int 1)) (f2 (zy (aC (fV 2) (aC (f2 (fC (.int 42)) (f2 (fV 4) (fC (.int 3)) (zp .Mod)) (zp .Add)) aN)) zu) (fC (.int 2)) (zp .Mod)) (zp .Add)) (dC (fC (.int 0)) dN))) (fP (aC (f2 (f2 (fV 4) (fC (.int 3)) (zp .Mod)) (fC (.int 0)) (zR .Eq)) aN) V6) ixP) (zp .Add))))))) (O8 k n cell c a x y none)) (.int v)):RE (vX [(true,.int k),(true,.int n),(true,.int cell),(true,.int c),(true,.int a)]) (.int v):=by
 have s5:zW true 5 (zy (aC (fV 2) (aC (fC (.int 40)) aN)) zu) [sI k,sI n,sI cell,sI c,sI a,none,none,none]=some (.nx [sI k,sI n,sI cell,sI c,sI a,sI (mx cell 40),none,none]):=yR (i:=5) (zbp (zP (zc (i:=2) rfl) (zP zg ye)) (zcI (by decide) (by decide))) (zL rfl)
 have s6:zW true 6 (zy (aC (fV 2) (aC (fC (.int 41)) aN)) zu) [sI k,sI n,sI cell,sI c,sI a,sI (mx cell 40),none,none]=some (.nx (O8 k n cell c a (mx cell 40) (mx cell 41) none)):=yR (i:=6) (zbp (zP (zc (i:=2) rfl) (zP zg ye)) (zcI (by decide) (by decide))) (zL rfl)
 exact yH rfl (zF s5 (zF s6 (h _ _ rfl rfl)))
theorem zfU{as:AS}{f g:EF}{c k:Int}{s t:Bool}(hf:WD f as s (.int c))(hg:WD g as t (.int k))(k0:0<=k)(k1:k<=300):WD (zy (aC f (aC g aN)) zu) as true (.int (mx c k)):=zbp (zP hf (zP hg ye)) (zcI k0 k1)
theorem ztL{k:Int}{n m:Nat}(cell:Int)(h:KT k n)(n8:n<=8)(hm:KM k n m):∃d:Int->Int->Int,LD n m (jT k n) (eT k) d/\∀c a,InR m c->InR n a->RE (vX [(true,.int k),(true,.int n),(true,.int cell),(true,.int c),(true,.int a)]) (.int (d c a)):=by
 obtain⟨m1,m6,hm0,hm4⟩:=hm
 rcases h with⟨rfl,hn⟩|⟨rfl,hn⟩|⟨rfl,hn⟩|⟨rfl,rfl⟩|⟨rfl,rfl⟩
 · have e:=hm0 rfl
   subst e
   refine⟨λc a=>(mx cell 40*a+mx cell 41*c)%m,ldZ (by omega),λc a hc ha=>zcJ λx y hx hy=>?_⟩
   subst hx hy
   exact yX (xW (eqT (zc (i:=0) rfl) zg rfl) (yh (WD.e (yD (yC (zbl (zc (i:=5) rfl) (zc (i:=4) rfl) (zme ha n8)) (zbl (zc (i:=6) rfl) (zc (i:=3) rfl) (zme hc n8))) (zc (i:=1) rfl) (by omega)))))
 · -- a rising row
   let ys:List Int:=(List.range (n-1)).map λi:Nat=>mx cell (42+(i:Int))%n
   have ly:ys.length=n-1:=by rw[zS,zyS]
   have iy:∀y ∈ ys,InR n y:=λy my=>by
    obtain⟨i,_,rfl⟩:=zxC.mp my
    exact zca (by omega)
   have hp:=sortI_perm ys
   have hlen:(sortI ys).length=n-1:=by rw[hp.length_eq,ly]
   have hr:Row n (0::sortI ys):=⟨by rw[zzR,hlen];omega,λy m=>by
    rcases zzA.mp m with rfl|m
    · omega
    · exact iy y (hp.mem_iff.mp m)⟩
   refine⟨λ_ a=>rAt (0::sortI ys) a,ldM (by omega) rfl (λa ha=>(rowAt hr ha).2) λa b ha hb hab=>?_,λc a hc ha=>zcJ λx y hx hy=>?_⟩
   · by_cases he:a=b
     · rw[he];exact Int.le_refl _
     have a0:=ha.1
     have b1:=hb.2
     have hs:(0::sortI ys).Pairwise (· <= ·):=List.pairwise_cons.mpr ⟨λy m=>(iy y (hp.mem_iff.mp m)).1,VN ys⟩
     rw[Y9 (by rw[hr.1];omega),Y9 (by rw[hr.1];omega)]
     exact zoc hs (by omega) (by rw[hr.1];omega)
   · have hrg:=vd (as:=O8 1 n cell c a x y none) (zP (zdj (zc (i:=1) (x:=.int n) (s:=true) rfl) (zg (x:=.int 1))) ye) (by omega) (by omega)
     rw[show((n:Int)-1).toNat=n-1 by omega]at hrg
     have wm:=Wo (as:=O8 1 n cell c a x y none) (h:=λi:Nat=>D.int (mx cell (42+(i:Int))%n)) (it:=λi:Nat=>(true,D.int (0+(i:Int)))) (fi:=xR (aC (f2 (fV 1) (fC (.int 1)) (zp .Sub)) aN) xO) (cap:=[none,some 1,some 2]) (gg:=gN 0) (fe:=f2 (zy (aC (fV 2) (aC (f2 (fC (.int 42)) (fV 0) (zp .Add)) aN)) zu) (fV 1) (zp .Mod)) (List.range (n-1)) hrg (by rw[zyS];omega) (λi mi=>by
      have hi:=List.mem_range.mp mi
      rw[Int.zero_add]
      exact⟨[sI i,sI n,sI cell],rfl,WD.e (yD (zfU (zc (i:=2) rfl) (yC (zg (x:=.int 42)) (zc (i:=0) (x:=.int i) (s:=true) rfl)) (by omega) (by omega)) (zc (i:=1) (x:=.int n) (s:=true) rfl) (by omega))⟩)
     have e1:(List.range (n-1)).map (λi:Nat=>D.int (mx cell (42+(i:Int))%n))=ys.map D.int:=by rw[zzZ];rfl
     rw[e1]at wm
     have wsr:=zpA (g:=zmm) (zs:=(sortI ys).map D.int) wm (by
      show(V8 (ys.map D.int)).bind _=_
      rw[zkI]
      show(if ys.length<64 then _ else _)=_
      rw[if_pos (by omega)])
     have s7:=vI (p:=7) (⟨_,wsr,zic _,congrArg D.lst (zhD _)⟩:WE _ _ (.lst ((sortI ys).map D.int))) (zL rfl)
     have wl:=ztb (as:=O8 1 n cell c a x y (sT (.lst ((sortI ys).map D.int)))) (vL (os:=[lfI 0]) (yq zg yU) (szl rfl) rfl rfl) (WD.e (zc (i:=7) rfl)) (add_lists (xs:=[.int 0]) (ys:=(sortI ys).map D.int) (by rw[zS,hlen];exact szs (by show 1+_<=_;omega)))
     exact zF (zV (eqT (zc (i:=0) rfl) zg rfl) rfl) (yX (xW (eqT (zc (i:=0) rfl) zg rfl) (zF s7 (yh (zcC wl (WD.e (zc (i:=4) rfl)) (rowAt hr ha).1)))))
 · refine⟨λ_ a=>nzr cell n a,ldN hn,λc a hc ha=>zcJ λx y hx hy=>?_⟩
   have a0:=ha.1
   have a1:=ha.2
   exact zF (zV (eqT (zc (i:=0) rfl) zg rfl) rfl) (zF (zV (eqT (zc (i:=0) rfl) zg rfl) rfl) (yX (xW (eqT (zc (i:=0) rfl) zg rfl) (yh (zcC (vL (os:=[lfI (1+mx cell (42+a)%((n:Int)-1)),lfI 0]) (yq (yC zg (yD (zfU (zc (i:=2) rfl) (yC (zg (x:=.int 42)) (zc (i:=4) rfl)) (by omega) (by omega)) (zdj (zc (i:=1) (x:=.int n) (s:=true) rfl) zg) (by omega))) (yq zg yU)) (szl rfl) rfl rfl) (WD.e (xx (zP (XD (zc (i:=4) rfl) zg rfl) ye) rfl rfl)) (znk.trans (by show _=some (R0.im (.int (nzr cell n a)));unfold nzr;by_cases h:a=0<;>simp[h])))))))
 · let r:Int->Int:=λa=>if(mx cell 40%2==1)=true then sP a else a
   have hr:(∀a,InR 4 a->r a=a)\/(∀a,InR 4 a->r a=sP a):=by
    by_cases h:(mx cell 40%2==1)=true
    · exact .inr λa _=>if_pos h
    · exact .inl λa _=>if_neg h
   refine⟨λ_ a=>r a,ldP hr,λc a hc ha=>zcJ λx y hx hy=>?_⟩
   subst hx
   have a0:=zyL a (show(2:Int)≠0 by decide)
   have a1:=zyF a (show(0:Int)<2 by decide)
   have x0:=zyL (mx cell 40) (show(2:Int)≠0 by decide)
   have x1:=zyF (mx cell 40) (show(0:Int)<2 by decide)
   have wi:=yD (as:=O8 3 4 cell c a (mx cell 40) y none) (zc (i:=5) (x:=.int (mx cell 40)) (s:=true) rfl) (zg (x:=.int 2)) (by decide)
   have ex:mx cell 40%2=if(mx cell 40%2==1)=true then 1 else 0:=by
    rcases(show mx cell 40%2=0\/mx cell 40%2=1 by omega)with h|h<;>rw[h]<;>rfl
   have pk:=znk (x:=a) (y:=sP a) (c:=mx cell 40%2==1)
   rw[<-ex]at pk
   have wsp:WD (f2 (f2 (f2 (fC (.int 2)) (f2 (fC (.int 1)) (f2 (fV 4) (fC (.int 2)) (zp .Mod)) (zp .Sub)) (zp .Mult)) (fC (.int 1)) (zp .Add)) (f2 (fV 4) (fC (.int 2)) (zp .FloorDiv)) (zp .Sub)) (O8 3 4 cell c a (mx cell 40) y none) true (.int (sP a)):=zdj (yC (zbl zg (zdj (zg (x:=.int 1)) (yD (zc (i:=4) (x:=.int a) (s:=true) rfl) zg (by decide))) (zzI (show(1-a%2).natAbs<8 by omega) (by decide))) zg) (Wq (zc (i:=4) rfl) zg (by decide) (yV (by decide) (by decide)))
   exact zF (zV (eqT (zc (i:=0) rfl) zg rfl) rfl) (zF (zV (eqT (zc (i:=0) rfl) zg rfl) rfl) (zF (zV (eqT (zc (i:=0) rfl) zg rfl) rfl) (yX (xW (eqT (zc (i:=0) rfl) zg rfl) (yh (zcC (vL (os:=[lfI a,lfI (sP a)]) (yq (zc (i:=4) rfl) (yq wsp yU)) (szl rfl) rfl rfl) (WD.e wi) pk))))))
 · have e:=hm4 rfl
   subst e
   have ld:=ldB (m:=2) (ljS (n:=2) (by decide)) (ljL (n:=3) (by decide)) (by decide) (ldZ (n:=2) (x:=mx cell 40) (y:=mx cell 41) (by decide)) (ldN (cell:=cell) (n:=3) (m:=2) (by decide))
   refine⟨_,ld,λc a hc ha=>zcJ λx y hx hy=>?_⟩
   subst hx hy
   have a0:=zyL a (show(3:Int)≠0 by decide)
   have a1:=zyF a (show(0:Int)<3 by decide)
   have b0:=ha.1
   have b1:=ha.2
   have d0:0<=a/3/\a/3<2:=by omega
   have wa3:WD (f2 (fV 4) (fC (.int 3)) (zp .Mod)) (O8 4 6 cell c a (mx cell 40) (mx cell 41) none) true (.int (a%3)):=yD (zc (i:=4) rfl) zg (by decide)
   have w1:WD (f2 (f2 (f2 (fV 5) (f2 (fV 4) (fC (.int 3)) (zp .FloorDiv)) (zp .Mult)) (f2 (fV 6) (fV 3) (zp .Mult)) (zp .Add)) (fC (.int 2)) (zp .Mod)) (O8 4 6 cell c a (mx cell 40) (mx cell 41) none) true (.int ((mx cell 40*(a/3)+mx cell 41*c)%2)):=yD (yC (zbl (zc (i:=5) rfl) (Wq (zc (i:=4) rfl) zg (by decide) (yV (by decide) (by decide))) (zzI (show(a/3).natAbs<8 by omega) (by decide))) (zbl (zc (i:=6) rfl) (zc (i:=3) rfl) (zme hc (by decide)))) zg (by decide)
   have u0:=zyL (mx cell 40*(a/3)+mx cell 41*c) (show(2:Int)≠0 by decide)
   have u1:=zyF (mx cell 40*(a/3)+mx cell 41*c) (show(0:Int)<2 by decide)
   have w2:WD (f2 (wz (dC (f2 (fC (.int 1)) (f2 (zy (aC (fV 2) (aC (f2 (fC (.int 42)) (f2 (fV 4) (fC (.int 3)) (zp .Mod)) (zp .Add)) aN)) zu) (fC (.int 2)) (zp .Mod)) (zp .Add)) (dC (fC (.int 0)) dN))) (fP (aC (f2 (f2 (fV 4) (fC (.int 3)) (zp .Mod)) (fC (.int 0)) (zR .Eq)) aN) V6) ixP) (O8 4 6 cell c a (mx cell 40) (mx cell 41) none) true (.int (nzr cell 3 (a%3))):=
    f2E (vL (os:=[lfI (1+mx cell (42+a%3)%2),lfI 0]) (yq (yC zg (yD (zfU (zc (i:=2) rfl) (yC (zg (x:=.int 42)) wa3) (by omega) (by omega)) zg (by decide))) (yq zg yU)) (szl rfl) rfl rfl) (WD.e (xx (zP (XD wa3 zg rfl) ye) rfl rfl)) (znk.trans (by show _=some (R0.im (.int (nzr cell 3 (a%3))));unfold nzr;by_cases h:a%3=0<;>simp[h]))
   have w3:=yC (zbl (zg (x:=.int 3)) w1 (zzI (show((mx cell 40*(a/3)+mx cell 41*c)%2).natAbs<8 by omega) (by decide))) w2
   rw[Int.mul_comm 3]at w3
   exact zF (zV (eqT (zc (i:=0) rfl) zg rfl) rfl) (zF (zV (eqT (zc (i:=0) rfl) zg rfl) rfl) (zF (zV (eqT (zc (i:=0) rfl) zg rfl) rfl) (zF (zV (eqT (zc (i:=0) rfl) zg rfl) rfl) (yh (WD.e w3)))))
abbrev R5(cell:Int)(n:Nat)(l f k:Option O):AS:=[sI cell,sI n,l,f,k]
abbrev orB:SF:=wV (ZK 3 (dC (ZK 2 (dC (f2 (zy (aC (fV 0) (aC (f2 (fC (.int 30)) (fV 4) (zp .Add)) aN)) zu) (fP (aC (fV 2) aN) vZ) (zp .Mod)) dN) zax) dN) Zh)
theorem zoQ{cell:Int}{n:Nat}(n8:n<=8):∃F,F.Perm (zeW n)/\RE (ZM [(true,.int cell),(true,.int n)]) (zQ F):=by
 obtain⟨as',hf,L,F,e13,rfl,hp,hlen⟩:=Zg (g:=gN 4) (f:=orB)
  (λi as=>∃(L F:List Int) (e13:Option O),as=R5 cell n (sN (L.map lfI)) (sN (F.map lfI)) e13/\(L++F).Perm (zeW n)/\L.length+i=n)
  (wD 0 n) 0 (R5 cell n (sN ((zeW n).map lfI)) (sN []) none) (λi x as hx' hI=>by
   obtain⟨L,F,e13,rfl,hp,hlen⟩:=hI
   obtain⟨rfl,hi⟩:=Yz hx'
   have hL0:0<L.length:=by omega
   have hL8:L.length<=8:=by omega
   have l0:(0:Int)<((L.map lfI).length:Int):=by rw[zS];omega
   have wy:=zfU (as:=R5 cell n (sN (L.map lfI)) (sN (F.map lfI)) (sI (0+i))) (zc (i:=0) (x:=.int cell) (s:=true) rfl) (yC (zg (x:=.int 30)) (zc (i:=4) (x:=.int (0+i)) (s:=true) rfl)) (by omega) (by omega)
   generalize mx cell (30+(0+(i:Int)))=y at wy
   have z0:=zyL y (show((L.map lfI).length:Int)≠0 by omega)
   have z1:=zyF y l0
   have hk:(y%((L.map lfI).length:Int)).toNat<L.length:=by rw[zS]at z0 z1 ⊢;omega
   generalize hkk:(y%((L.map lfI).length:Int)).toNat=k at hk
   have pop:=zpi (as:=R5 cell n (sN (L.map lfI)) (sN (F.map lfI)) (sI (0+i))) (i:=2) (os:=L.map lfI) (o:=lfI L[k]) rfl (yD wy (zwx (i:=2) rfl) l0) z0 z1 (by rw[zS];exact Nat.lt_of_le_of_lt hL8 (by decide)) (by rw[hkk,zzG,zzC hk];rfl)
   rw[hkk,show(L.map lfI).eraseIdx k=(L.eraseIdx k).map lfI by rw[List.eraseIdx_eq_take_drop_succ,List.eraseIdx_eq_take_drop_succ,zyK,List.map_take,List.map_drop]]at pop
   have hF:F.length<=8:=by
    have e:=hp.length_eq
    rw[zzH,zS,zyS]at e
    omega
   have ap:=znl (i:=3) (os:=F.map lfI) (as:=R5 cell n (sN (L.map lfI)) (sN (F.map lfI)) (sI (0+i))) rfl pop rfl (by rw[zS];exact zzI (show F.length<1000 by omega) (szs (by decide)))
   rw[<-zqp]at ap
   refine⟨R5 cell n (sN (L.map lfI)) (sN (F.map lfI)) (sI (0+i)),rfl,_,ap,L.eraseIdx k,F++[L[k]],_,rfl, ?_,by rw[List.length_eraseIdx_of_lt hk];omega⟩
   rw[<-zxB]
   refine(List.perm_append_singleton _ _).trans ?_
   rw[<-List.cons_append]
   exact((zfX L k hk).append_right F).trans hp)
  ⟨zeW n,[],none,rfl,by rw[zyC],by rw[zS,zyS];rfl⟩
 rw[Z0]at hlen
 have hL:L=[]:=List.eq_nil_of_length_eq_zero (by omega)
 subst hL
 have s2:=Yc (i:=2) (as:=R5 cell n none none none) (zpA (a:=fV 1) (x:=.int n) (g:=lrP) (zs:=(zeW n).map D.int) (WD.e (zc (i:=1) rfl)) (by
  show(if(0:Int)<=n/\(n:Int)<=100000 then _ else _)=_
  rw[if_pos ⟨by omega,by omega⟩,zzZ];rfl)) (zL rfl)
 rw[zmw]at s2
 refine⟨F,hp,yH rfl (zF s2 (zF (Yc (i:=3) (zaq yU (szl rfl)) (zL rfl)) (zF (Ym (vd (zP (zc (i:=1) rfl) ye) (by omega) (by omega)) (by rw[zyG];exact hf)) ⟨_,zbf (i:=3) rfl (Vc F).1,Vc F⟩)))⟩
theorem zop{r:List Int}{p v:Int}(h:p.toNat<r.length):rAt (r.set p.toNat v) p=v:=by
 unfold rAt
 rw[zyI h];rfl
theorem zoI{r:List Int}{p q v:Int}(hp:0<=p)(hq:0<=q)(h:p≠q):rAt (r.set p.toNat v) q=rAt r q:=by
 unfold rAt
 rw[zzW (by omega)]
theorem zoP{n:Nat}{r:List Int}{p v:Int}(hr:Row n r)(hv:InR n v):Row n (r.set p.toNat v):=⟨by rw[zzS];exact hr.1,λx mx=>by
 rcases List.mem_or_eq_of_mem_set mx with m|rfl
 · exact hr.2 x m
 · exact hv⟩
theorem zqi{as:AS}{i n:Nat}{f:IXF}{fv:EF}{p c:Int}{r:List Int}(hr:Row n r)(hp:InR n p)(hv:WD fv as true (.int c))(h1:f as=some p)(hi:as[i]? = some (some (xm r))):zgD i f fv as=some (.nx (as.set i (some (xm (r.set p.toNat c))))):=by
 unfold zgD
 unfold WD at hv
 rw[hv]
 show((f as).bind _)=_
 rw[h1]
 show(if 0<=p then _ else _)=_
 have hl:p.toNat<r.length:=by rw[hr.1];exact iT hp
 rw[if_pos hp.1,zjf hi (show zgx (xm r)=some (r.map lfI)from rfl)]
 show(atO zcn (r.map lfI) p.toNat).bind _=_
 rw[(zjp (f:=zcn) (a:=.int r[p.toNat]) (show(r.map lfI)[p.toNat]? = some (lfI r[p.toNat]) by rw[zzG,zzC hl];rfl) rfl)]
 show some (Out.nx (as.set i (some (.nd .ls ((r.map lfI).set p.toNat (lfI c))))))=_
 rw[<-List.map_set]
theorem zpN{v n i:Nat}{f:IXF}{fv:EF}{S:List Int->Option O->AS}{g w:Int->Int}(hg:∀b,InR n b->InR n (g b))(gi:∀b b',InR n b->InR n b'->g b=g b'->b=b')(hw:∀b,InR n b->InR n (w b))
 (hs:∀r z b,gN v (true,.int b) (S r z)=some (S r (sI b))) (hx:∀r z,(S r z)[i]? = some (some (xm r))) (hset:∀r z r',(S r z).set i (some (xm r'))=S r' z)
 (hf:∀r b,InR n b->f (S r (sI b))=some (g b)) (hv:∀r b,InR n b->WD fv (S r (sI b)) true (.int (w b))) {r:List Int}{z:Option O}(hr:Row n r):
 ∃r' z',Row n r'/\(∀b,InR n b->rAt r' (g b)=w b)/\forL (gN v) (zgD i f fv) (wD 0 n) (S r z)=some (.nx (S r' z')):=by
 obtain⟨as',h1,r',z',rfl,h2,h3⟩:=Zg (g:=gN v) (f:=zgD i f fv) (λk as=>∃r z,as=S r z/\Row n r/\∀b:Int,0<=b->b<(k:Int)->b<(n:Int)->rAt r (g b)=w b) (wD 0 n) 0 (S r z) (λk x as hx' hI=>by
  obtain⟨r,z,rfl,h1,h2⟩:=hI
  obtain⟨rfl,hk⟩:=Yz hx'
  rw[zyW]at h2 ⊢
  rw[Int.zero_add]
  have hb:InR n ((k:Nat):Int):=⟨by omega,by omega⟩
  refine⟨S r (sI k),hs _ _ _,_,zqi h1 (hg _ hb) (hv r _ hb) (hf r _ hb) (hx _ _),r.set (g k).toNat (w k),sI k,hset _ _ _,zoP h1 (hw _ hb),λb b0 b1 b2=>?_⟩
  by_cases e:b=(k:Int)
  · subst e
    exact zop (by rw[h1.1];exact iT (hg _ hb))
  · have hb':InR n b:=⟨b0,b2⟩
    rw[zoI (hg _ hb).1 (hg _ hb').1 (λz=>e (gi _ _ hb' hb z.symm))]
    exact h2 b b0 (by omega) b2) ⟨r,z,rfl,hr,λb b0 b1 _=>by omega⟩
 rw[Z0,zyW]at h3
 exact⟨r',z',h2,λb hb=>h3 b hb.1 hb.2 hb.2,h1⟩
theorem zsa{xs:List D}{k:Int}(h : -(2 ^ 63)<=k/\k<2 ^ 63/\xs.length*k.toNat<=sizeLine):zp .Mult (.lst xs) (.int k)=some (.fl (List.replicate k.toNat xs).flatten):=if_pos h
theorem zA{n:Nat}(n8:n<=8) : -(2 ^ 63)<=(n:Int)/\(n:Int)<2 ^ 63:=⟨by omega,by omega⟩
theorem zB{n:Nat}(n8:n<=8) : [D.int 0].length*(n:Int).toNat<=sizeLine:=szs (by rw[List.length_singleton];omega)
theorem zC{n:Nat}:(List.replicate (n:Int).toNat [D.int 0]).flatten=(List.replicate n (0:Int)).map D.int:=by rw[zyG,List.flatten_replicate_singleton,List.map_replicate]
theorem zeros{n:Nat}(n8:n<=8){as:AS}{g:EF}(hg:WE g as (.int n)):f2 (wz (dC (fC (.int 0)) dN)) g (zp .Mult) as=some (.ow (xm (List.replicate n 0)),as):=by
 have:=f2L (g:=zp .Mult) (zs:=(List.replicate n (0:Int)).map D.int) (vL (as:=as) (os:=[lfI 0]) (yq (zg (x:=.int 0)) yU) (szl rfl) rfl rfl) hg (by show zp .Mult (.lst [D.int 0]) (.int n)=_;rw[zsa (xs:=[D.int 0]) ⟨(zA n8).1,(zA n8).2,zB n8⟩,zC])
 rw[zmw]at this
 exact this
theorem zvW{as:AS}{i j:Nat}{os ps:List O}(h:as[i]? = some (sN os))(hj:as[j]? = some (sN ps))(hij:j≠i)(hl:os.length<1000):wV (ZK i (dC (fV j) dN) Zh) as=some (.nx ((as.set j (some (O.nd .ls ps).frz)).set i (sN (os++[(O.nd .ls ps).frz])))):=by
 unfold wV ZK;rw[h]
 have e:dC (fV j) dN as=some ([(O.nd .ls ps).frz],as.set j (some (O.nd .ls ps).frz)):=zmj hj rfl
 have h1:(as.set j (some (O.nd .ls ps).frz))[i]? = some (sN os):=by rw[zzW hij];exact h
 show((dC (fV j) dN as).bind _).bind _=_
 rw[e];show(Option.bind (match(as.set j (some (O.nd .ls ps).frz))[i]? with|some (some (.nd .ls os))=>_|_=>none) _)=_
 rw[h1];show((Zh os [(O.nd .ls ps).frz]).bind _).bind _=_
 have e2:Zh os [(O.nd .ls ps).frz]=some (os++[(O.nd .ls ps).frz],.lf true .non):=by unfold Zh;exact if_pos (zzI hl (szs (by decide)))
 rw[e2];rfl
abbrev W9(k:Int)(n m:Nat)(cell:Int)(F:List Int)(os:List O)(c r a:Option O):AS:=[sI k,sI n,sI m,sI cell,sT (zQ F),sN os,c,r,a]
theorem zjj{F:List Int}{n:Nat}(hF:F.Perm (zeW n)):Row n F:=(zgm hF).1
theorem zrc{k cell:Int}{n m:Nat}{F:List Int}{d:Int->Int->Int}(hF:F.Perm (zeW n))(n1:1<=n)(n8:n<=8)(m6:m<=6)(dc:∀c a,InR m c->InR n a->InR n (d c a))
 (hd:∀c a,InR m c->InR n a->RE (vX [(true,.int k),(true,.int n),(true,.int cell),(true,.int c),(true,.int a)]) (.int (d c a))):∃T,Tab m n T/\(∀c a,InR m c->InR n a->jAt T c (rAt F a)=rAt F (d c a))/\RE (vQ [(true,.int k),(true,.int n),(true,.int m),(true,.int cell),(true,zQ F)]) (wM T):=by
 have hR:=zjj hF
 have pN:∀a,InR n a->InR n (rAt F a):=λa ha=>(rowAt hR ha).2
 have pi:∀a a',InR n a->InR n a'->rAt F a=rAt F a'->a=a':=λa a' ha ha' e=>zkt hF ha ha' e
 obtain⟨as',hf,T,c',r',a',rfl,h1,h2,h3⟩:=Zg (g:=gN 6) (f:=(zM (zW false 7 (f2 (wz (dC (fC (.int 0)) dN)) (fV 1) (zp .Mult)))
  (zM (vh (xR (aC (fV 1) aN) xO) (gN 8) (zgD 7 (xAt 4 (xV 8)) (f2 (fV 4) (zy (aC (fV 0) (aC (fV 1) (aC (fV 3) (aC (fV 6) (aC (fV 8) aN))))) vX) ixP)))
  (wV (ZK 5 (dC (fV 7) dN) Zh)))))
  (λi as=>∃(T:TZ) (c r a:Option O),as=W9 k n m cell F (T.map λr=>O.lf true (zQ r)) c r a/\T.length=i/\(∀r ∈ T,Row n r)/\∀j:Nat,j<i->∀a,InR n a->rAt ((T[j]?).getD []) (rAt F a)=rAt F (d j a))
  (wD 0 m) 0 (W9 k n m cell F [] none none none) (λi x as hx hI=>by
   obtain⟨T,c,r,a,rfl,h1,h2,h3⟩:=hI
   obtain⟨rfl,hi⟩:=Yz hx
   rw[zyW]at h1 h3 ⊢
   rw[Int.zero_add]
   have hc:InR m ((i:Nat):Int):=⟨by omega,by omega⟩
   have s7:zW false 7 (f2 (wz (dC (fC (.int 0)) dN)) (fV 1) (zp .Mult)) (W9 k n m cell F (T.map λr=>O.lf true (zQ r)) (sI i) r a)=some (.nx (W9 k n m cell F (T.map λr=>O.lf true (zQ r)) (sI i) (some (xm (List.replicate n 0))) a)):=Yc (i:=7) (zeros n8 (WD.e (zc (i:=1) rfl))) (zL rfl)
   obtain⟨q,z,q1,q2,q3⟩:=zpN (v:=8) (n:=n) (i:=7) (f:=xAt 4 (xV 8)) (fv:=f2 (fV 4) (zy (aC (fV 0) (aC (fV 1) (aC (fV 3) (aC (fV 6) (aC (fV 8) aN))))) vX) ixP) (S:=λr z=>W9 k n m cell F (T.map λr=>O.lf true (zQ r)) (sI i) (some (xm r)) z) (g:=rAt F) (w:=λa=>rAt F (d i a)) pN pi (λb hb=>pN _ (dc _ _ hc hb)) (λ_ _ _=>rfl) (λ_ _=>rfl) (λ_ _ _=>rfl) (λr b hb=>ztf (i:=4) rfl (zlR (i:=8) rfl) hR hb) (λr b hb=>by
    obtain⟨o,g1,g2,g3⟩:=hd i b hc hb
    exact zZ (zc (i:=4) (x:=zQ F) (s:=true) rfl) (weF rfl ⟨o,Wf (zP (zc (i:=0) rfl) (zP (zc (i:=1) rfl) (zP (zc (i:=3) rfl) (zP (zc (i:=6) rfl) (zP (zc (i:=8) rfl) ye))))) g1,g2,g3⟩) (rowAt hR (dc _ _ hc hb)).1 rfl) (r:=List.replicate n 0) (z:=a) ⟨List.length_replicate ..,λx mx=>by rw[List.eq_of_mem_replicate mx];omega⟩
   have hfz:(O.nd .ls (q.map lfI)).frz = .lf true (zQ q):=by
    show O.lf (O.nd .ls (q.map lfI)).str (O.nd .ls (q.map lfI)).toD=_
    rw[(Vc q).1,(Vc q).2]
   have ap:=zvW (as:=W9 k n m cell F (T.map λr=>O.lf true (zQ r)) (sI i) (some (xm q)) z) (i:=5) (j:=7) (os:=T.map λr=>O.lf true (zQ r)) (ps:=q.map lfI) rfl rfl (by decide) (by rw[zS];omega)
   rw[hfz]at ap
   have ap:wV (ZK 5 (dC (fV 7) dN) Zh) (W9 k n m cell F (T.map λr=>O.lf true (zQ r)) (sI i) (some (xm q)) z)=some (.nx (W9 k n m cell F ((T++[q]).map λr=>O.lf true (zQ r)) (sI i) (sT (zQ q)) z)):=by
    rw[zyK];exact ap
   refine⟨W9 k n m cell F (T.map λr=>O.lf true (zQ r)) (sI i) r a,rfl,_,yG s7 (yG (Ym (vd (zP (zc (i:=1) (x:=.int n) (s:=true) rfl) ye) (by omega) (by omega)) (by rw[zyG];exact q3)) ap),T++[q],_,_,_,rfl,by rw[zzH,h1];rfl,λx mx=>?_,λj hj a ha=>?_⟩
   · rcases zzK.mp mx with mm|mm
     · exact h2 x mm
     · rw[zzP.mp mm];exact q1
   · by_cases e:j=i
     · subst e
       rw[zyP (by omega),h1,Nat.sub_self]
       exact q2 a ha
     · rw[zyN (by omega)]
       exact h3 j (by omega) a ha) ⟨[],none,none,none,rfl,rfl,(λ_ z=>nomatch z),λ_ h=>absurd h (Nat.not_lt_zero _)⟩
 rw[Z0,zyW]at h1 h3
 have ts:O.strs (T.map λr=>O.lf true (zQ r))=true/\O.toDs (T.map λr=>O.lf true (zQ r))=T.map zQ:=by
  rw[show(T.map λr=>O.lf true (zQ r))=(T.map zQ).map (O.lf true) by rw[zzZ];rfl]
  exact⟨zic _,zhD _⟩
 refine⟨T,⟨h1,h2⟩,λc a hc ha=>?_,yH rfl (zF (Yc (i:=5) (zaq yU (szl rfl)) (zL rfl)) (zF (Ym (vd (zP (zc (i:=2) (x:=.int m) (s:=true) rfl) ye) (by omega) (by omega)) (by rw[zyG];exact hf)) ⟨.nd .ls (T.map λr=>O.lf true (zQ r)),zbf (i:=5) rfl (show(O.nd .ls (T.map λr=>O.lf true (zQ r))).str=true from ts.1),ts.1,congrArg D.lst ts.2⟩))⟩
 have:=h3 c.toNat (iT hc) a ha
 rw[iC hc]at this
 exact this
theorem zsC{a0 a1 a2 a3 a4 k:Int}(h:k=0\/k=1\/k=2\/k=3\/k=4):ixP (.lst [.int a0,.int a1,.int a2,.int a3,.int a4]) (.int k)=some (.im (.int (if k=0 then a0 else if k=1 then a1 else if k=2 then a2 else if k=3 then a3 else a4))):=by
 rcases h with rfl|rfl|rfl|rfl|rfl<;>rfl
abbrev Z3(c:Int)(x y z:Option O):AS:=[sI c,x,y,z,none,none,none,none,none,none,none,none,none]
theorem zrZ(c:Int):∃(k:Int) (n m:Nat),KT k n/\n<=8/\KM k n m/\
 zW true 1 (f2 (zy (aC (fV 0) (aC (fC (.int 0)) aN)) zu) (fC (.int 5)) (zp .Mod)) (Z3 c none none none)=some (.nx (Z3 c (sI k) none none))/\
 zW true 2 (f2 (wz (dC (f2 (fC (.int 2)) (f2 (zy (aC (fV 0) (aC (fC (.int 1)) aN)) zu) (fC (.int 5)) (zp .Mod)) (zp .Add)) (dC (f2 (fC (.int 2)) (f2 (zy (aC (fV 0) (aC (fC (.int 1)) aN)) zu) (fC (.int 7)) (zp .Mod)) (zp .Add)) (dC (f2 (fC (.int 2)) (f2 (zy (aC (fV 0) (aC (fC (.int 1)) aN)) zu) (fC (.int 4)) (zp .Mod)) (zp .Add)) (dC (fC (.int 4)) (dC (fC (.int 6)) dN)))))) (fV 1) ixP) (Z3 c (sI k) none none)=some (.nx (Z3 c (sI k) (sI n) none))/\
 zW true 3 (f2 (wz (dC (fV 2) (dC (f2 (fC (.int 1)) (f2 (zy (aC (fV 0) (aC (fC (.int 2)) aN)) zu) (fC (.int 6)) (zp .Mod)) (zp .Add)) (dC (f2 (fC (.int 1)) (f2 (zy (aC (fV 0) (aC (fC (.int 2)) aN)) zu) (fC (.int 4)) (zp .Mod)) (zp .Add)) (dC (f2 (fC (.int 1)) (f2 (zy (aC (fV 0) (aC (fC (.int 2)) aN)) zu) (fC (.int 3)) (zp .Mod)) (zp .Add)) (dC (fC (.int 2)) dN)))))) (fV 1) ixP) (Z3 c (sI k) (sI n) none)=some (.nx (Z3 c (sI k) (sI n) (sI m))):=by
 have k0:=zyL (mx c 0) (show(5:Int)≠0 by decide)
 have k1:=zyF (mx c 0) (show(0:Int)<5 by decide)
 have hk:mx c 0%5=0\/mx c 0%5=1\/mx c 0%5=2\/mx c 0%5=3\/mx c 0%5=4:=by omega
 have s1:zW true 1 (f2 (zy (aC (fV 0) (aC (fC (.int 0)) aN)) zu) (fC (.int 5)) (zp .Mod)) (Z3 c none none none)=some (.nx (Z3 c (sI (mx c 0%5)) none none)):=yR (i:=1) (yD (zfU (zc (i:=0) rfl) zg (by decide) (by decide)) zg (by decide)) (zL rfl)
 generalize mx c 0%5=k at hk s1
 have mv:∀(y z:Option O) (j q:Int),0<=j->j<=300->0<q->WD (f2 (zy (aC (fV 0) (aC (fC (.int j)) aN)) zu) (fC (.int q)) (zp .Mod)) (Z3 c (sI k) y z) true (.int (mx c j%q)):=λy z j q h1 h2 h3=>yD (zfU (zc (i:=0) rfl) zg h1 h2) zg h3
 have a5:=zyL (mx c 1) (show(5:Int)≠0 by decide)
 have b5:=zyF (mx c 1) (show(0:Int)<5 by decide)
 have a7:=zyL (mx c 1) (show(7:Int)≠0 by decide)
 have b7:=zyF (mx c 1) (show(0:Int)<7 by decide)
 have a4:=zyL (mx c 1) (show(4:Int)≠0 by decide)
 have b4:=zyF (mx c 1) (show(0:Int)<4 by decide)
 have c6:=zyL (mx c 2) (show(6:Int)≠0 by decide)
 have d6:=zyF (mx c 2) (show(0:Int)<6 by decide)
 have c4:=zyL (mx c 2) (show(4:Int)≠0 by decide)
 have d4:=zyF (mx c 2) (show(0:Int)<4 by decide)
 have c3:=zyL (mx c 2) (show(3:Int)≠0 by decide)
 have d3:=zyF (mx c 2) (show(0:Int)<3 by decide)
 have wn:=f2E (as:=Z3 c (sI k) none none) (vL (os:=[lfI (2+mx c 1%5),lfI (2+mx c 1%7),lfI (2+mx c 1%4),lfI 4,lfI 6]) (yq (yC zg (mv none none 1 5 (by decide) (by decide) (by decide))) (yq (yC zg (mv none none 1 7 (by decide) (by decide) (by decide))) (yq (yC zg (mv none none 1 4 (by decide) (by decide) (by decide))) (yq zg (yq zg yU))))) (szl rfl) rfl rfl) (WD.e (zc (i:=1) (x:=.int k) rfl)) (zsC hk)
 obtain⟨n,en⟩:∃n:Nat,(n:Int)=(if k=0 then 2+mx c 1%5 else if k=1 then 2+mx c 1%7 else if k=2 then 2+mx c 1%4 else if k=3 then 4 else 6):=⟨(if k=0 then 2+mx c 1%5 else if k=1 then 2+mx c 1%7 else if k=2 then 2+mx c 1%4 else if k=3 then 4 else 6:Int).toNat,by
  rcases hk with rfl|rfl|rfl|rfl|rfl<;>simp<;>omega⟩
 rw[<-en]at wn
 have wm:=f2E (as:=Z3 c (sI k) (sI n) none) (vL (os:=[lfI n,lfI (1+mx c 2%6),lfI (1+mx c 2%4),lfI (1+mx c 2%3),lfI 2]) (yq (zc (i:=2) rfl) (yq (yC zg (mv (sI n) none 2 6 (by decide) (by decide) (by decide))) (yq (yC zg (mv (sI n) none 2 4 (by decide) (by decide) (by decide))) (yq (yC zg (mv (sI n) none 2 3 (by decide) (by decide) (by decide))) (yq zg yU))))) (szl rfl) rfl rfl) (WD.e (zc (i:=1) (x:=.int k) rfl)) (zsC hk)
 obtain⟨m,em⟩:∃m:Nat,(m:Int)=(if k=0 then(n:Int)else if k=1 then 1+mx c 2%6 else if k=2 then 1+mx c 2%4 else if k=3 then 1+mx c 2%3 else 2):=⟨(if k=0 then(n:Int)else if k=1 then 1+mx c 2%6 else if k=2 then 1+mx c 2%4 else if k=3 then 1+mx c 2%3 else 2:Int).toNat,by
  rcases hk with rfl|rfl|rfl|rfl|rfl<;>simp<;>omega⟩
 rw[<-em]at wm
 refine⟨k,n,m, ?_, ?_, ?_,s1,yR (i:=2) wn (zL rfl),yR (i:=3) wm (zL rfl)⟩
 · rcases hk with rfl|rfl|rfl|rfl|rfl<;>simp at en
   · exact .inl ⟨rfl,by omega⟩
   · exact .inr (.inl ⟨rfl,by omega⟩)
   · exact .inr (.inr (.inl ⟨rfl,by omega⟩))
   · exact .inr (.inr (.inr (.inl ⟨rfl,by omega⟩)))
   · exact .inr (.inr (.inr (.inr ⟨rfl,by omega⟩)))
 · rcases hk with rfl|rfl|rfl|rfl|rfl<;>simp at en<;>omega
 · rcases hk with rfl|rfl|rfl|rfl|rfl<;>simp at en em
   · exact⟨by omega,by omega,λ_=>by omega,λh=>by omega⟩
   · exact⟨by omega,by omega,λh=>by omega,λh=>by omega⟩
   · exact⟨by omega,by omega,λh=>by omega,λh=>by omega⟩
   · exact⟨by omega,by omega,λh=>by omega,λh=>by omega⟩
   · exact⟨by omega,by omega,λh=>by omega,λ_=>by omega⟩
theorem zqt{as:AS}{i k n:Nat}{f1 f2:IXF}{fv:EF}{p q c:Int}{T:TZ}(hT:Tab k n T)(hp:InR k p)(hq:InR n q)(h1:f1 as=some p)(h2:f2 as=some q)(hv:WD fv as true (.int c))(hi:as[i]? = some (some (Xg T))):zbT i f1 f2 fv as=some (.nx (as.set i (some (Xg (put T p q c))))):=by
 have e:=zrD (fv:=λ_=>some c) hT hp hq h1 h2 rfl hi
 unfold zbT
 unfold WD at hv
 rw[hv]
 unfold zmu at e
 rw[h1,h2]at e
 show((f1 as).bind _)=_
 rw[h1]
 show((f2 as).bind _)=_
 rw[h2]
 exact e
abbrev Z13(c k:Int)(n m:Nat)(F:List Int)(j a b w s d g x:Option O):AS:=[sI c,sI k,sI n,sI m,sT (zQ F),j,a,b,w,s,d,g,x]
theorem zru{c k:Int}{n m:Nat}{F:List Int}(h:KT k n)(n1:1<=n)(n8:n<=8)(hF:F.Perm (zeW n)):∃J a b,Tab n n J/\(∀a b,InR n a->InR n b->jAt J (rAt F a) (rAt F b)=rAt F (jT k n a b))/\
 zW false 5 (wu (xR (aC (fV 2) aN) xO) [none,some 2] (gN 0) Yx (f2 (wz (dC (fC (.int 0)) dN)) (fV 1) (zp .Mult))) (Z13 c k n m F none none none none none none none none)=some (.nx (Z13 c k n m F (some (Xg (List.replicate n (List.replicate n 0)))) none none none none none none none))/\
 vh (xR (aC (fV 2) aN) xO) (gN 6) (vh (xR (aC (fV 2) aN) xO) (gN 7) (zbT 5 (xAt 4 (xV 6)) (xAt 4 (xV 7)) (f2 (fV 4) (zy (aC (fV 1) (aC (fV 2) (aC (fV 6) (aC (fV 7) aN)))) xq) ixP))) (Z13 c k n m F (some (Xg (List.replicate n (List.replicate n 0)))) none none none none none none none)=some (.nx (Z13 c k n m F (some (Xg J)) a b none none none none none)):=by
 have hR:=zjj hF
 have lj:=zsp h
 have pN:∀a,InR n a->InR n (rAt F a):=λa ha=>(rowAt hR ha).2
 have pi:∀a a',InR n a->InR n a'->rAt F a=rAt F a'->a=a':=λa a' ha ha' e=>zkt hF ha ha' e
 have hz:wu (xR (aC (fV 2) aN) xO) [none,some 2] (gN 0) Yx (f2 (wz (dC (fC (.int 0)) dN)) (fV 1) (zp .Mult)) (Z13 c k n m F none none none none none none none none)=some (.ow (Xg (List.replicate n (List.replicate n (0:Int)))),Z13 c k n m F none none none none none none none none):=by
  have hr:=vd (as:=Z13 c k n m F none none none none none none none none) (zP (zc (i:=2) (x:=.int n) (s:=true) rfl) ye) (by omega) (by omega)
  rw[zyG]at hr
  have ow:=zkU (g:=gN 0) (fe:=f2 (wz (dC (fC (.int 0)) dN)) (fV 1) (zp .Mult)) (as0:=zbw [none,some 2] (Z13 c k n m F none none none none none none none none)) (r:=List.replicate n 0) (wD 0 n) (λy my=>by
   obtain⟨b,rfl,_,_⟩:=zfb my
   exact⟨[sI b,sI n],rfl,zeros n8 (WD.e (zc (i:=1) rfl))⟩)
  rw[show(wD 0 n).length=n by unfold wD;rw[zS,zyS]]at ow
  exact zqG hr (by unfold wD;rw[zS,zyS];exact szs (by omega)) ow
 obtain⟨J,e15,e16,e17,hf,t1,t2⟩:=zrR (v:=6) (K:=n) (n:=n) (L:=n) (M:=n) (S:=λT x y _=>Z13 c k n m F (some (Xg T)) x y none none none none none) (f:=rAt F) (g:=rAt F) (w:=λa b=>rAt F (jT k n a b)) (F:=vh (xR (aC (fV 2) aN) xO) (gN 7) (zbT 5 (xAt 4 (xV 6)) (xAt 4 (xV 7)) (f2 (fV 4) (zy (aC (fV 1) (aC (fV 2) (aC (fV 6) (aC (fV 7) aN)))) xq) ixP))) (x0:=none) (y0:=none) (z0:=none) pN pi pN (λ_ _ _ _ _=>rfl) (λT a y z hT ha=>by
  obtain⟨T',y',z',k1,k2,k3,k4⟩:=ztC (v:=7) (K:=n) (n:=n) (L:=n) (S:=λT y _=>Z13 c k n m F (some (Xg T)) (sI a) y none none none none none) (p:=rAt F a) (g:=rAt F) (w:=λb=>rAt F (jT k n a b)) (f:=zbT 5 (xAt 4 (xV 6)) (xAt 4 (xV 7)) (f2 (fV 4) (zy (aC (fV 1) (aC (fV 2) (aC (fV 6) (aC (fV 7) aN)))) xq) ixP)) (x0:=y) (y0:=z) (pN a ha) pN pi (λb hb=>pN _ (lj.cl a b ha hb)) (λ_ _ _ _=>rfl) (λT b z hT hb=>by
   have w2:WD (zy (aC (fV 1) (aC (fV 2) (aC (fV 6) (aC (fV 7) aN)))) xq) (Z13 c k n m F (some (Xg T)) (sI a) (sI b) none none none none none) true (.int (jT k n a b)):=zbp (zP (zc (i:=1) rfl) (zP (zc (i:=2) rfl) (zP (zc (i:=6) rfl) (zP (zc (i:=7) rfl) ye)))) (ztt h ha hb)
   exact⟨z,zqt (i:=5) (T:=T) hT (pN a ha) (pN b hb) (ztf (i:=4) rfl (zlR (i:=6) rfl) hR ha) (ztf (i:=4) rfl (zlR (i:=7) rfl) hR hb) (zZ (zc (i:=4) (x:=zQ F) (s:=true) rfl) w2 (rowAt hR (lj.cl a b ha hb)).1 rfl) rfl⟩) hT
  refine⟨T',y',z', ?_,k2,k3,k4⟩
  rw[XX (v:=2) (n:=n) rfl (by omega)]
  exact k1) (zoM n1)
 exact⟨J,e15,e16,t1,t2,Yc (i:=5) hz (zL rfl),Ym (vd (zP (zc (i:=2) (x:=.int n) (s:=true) rfl) ye) (by omega) (by omega)) (by rw[zyG];exact hf)⟩
theorem perm_back{F:List Int}{n:Nat}(h:F.Perm (zeW n)):∃B:Int->Int,(∀a,InR n a->InR n (B a))/\∀a,InR n a->rAt F (B a)=a:=by
 obtain⟨hR,hm⟩:=zgm h
 refine⟨λa=>(F.idxOf a:Nat),λa ha=>?_,λa ha=>?_⟩
 · have:=List.idxOf_lt_length_of_mem (hm a ha.1 ha.2)
   rw[hR.1]at this
   exact⟨Int.natCast_nonneg _,Int.ofNat_lt.mpr this⟩
 · have hl:=List.idxOf_lt_length_of_mem (hm a ha.1 ha.2)
   rw[Y9 (by rw[zyG];exact hl)]
   simp only[zyG]
   exact List.getElem_idxOf hl
theorem zoJ{ss:List Str}(nd:ss.Nodup){i j:Nat}(hi:i<ss.length)(hj:j<ss.length)(e:ss[i]=ss[j]):i=j:=by
 have p:=List.pairwise_iff_getElem.mp nd
 rcases Nat.lt_trichotomy i j with h|h|h
 · exact absurd e (p i j hi hj h)
 · exact h
 · exact absurd e.symm (p j i hj hi h)
theorem zpP{c k:Int}{n m:Nat}{F:List Int}{J:TZ}(h:KT k n)(n1:1<=n)(n8:n<=8)(hm:KM k n m)(hF:F.Perm (zeW n))(hJ:∀a b,InR n a->InR n b->jAt J (rAt F a) (rAt F b)=rAt F (jT k n a b)):∃f:Nat->TZ,∀i:Nat,Tab m n (f i)/\LD n m (jAt J) (rAt F (eT k)) (jAt (f i))/\RE (vQ [(true,.int k),(true,.int n),(true,.int m),(true,.int (c+7*i)),(true,zQ F)]) (wM (f i)):=by
 have hR:=zjj hF
 obtain⟨B,b1,b2⟩:=perm_back hF
 refine Classical.axiomOfChoice (r:=λ(i:Nat) (T:TZ)=>Tab m n T/\LD n m (jAt J) (rAt F (eT k)) (jAt T)/\RE (vQ [(true,.int k),(true,.int n),(true,.int m),(true,.int (c+7*i)),(true,zQ F)]) (wM T)) λi=>?_
 obtain⟨d,d1,d2⟩:=ztL (c+7*i) h n8 hm
 obtain⟨T,t1,t2,t3⟩:=zrc (k:=k) (cell:=c+7*i) (m:=m) hF n1 n8 hm.2.1 (λc a hc ha=>d1.cl c a hc ha) d2
 exact⟨T,t1,ldT (by have:=hm.1;omega) (zsp h) d1 (λa ha=>(rowAt hR ha).2) b1 b2 hJ t2,t3⟩
theorem zld(hnm:∀c:Int,0<=c->∃ss:List Str,ss.length=3/\ss.Nodup/\RE (vR [(true,.int c),(true,.int (3:Nat))]) (.lst (ss.map D.str)))(c:Int):∃n m J e Ds,∃S:SS,Alg n m J e Ds/\LawA n m J e Ds/\S.length<=3/\(S.map (·.1)).Nodup/\RE (vB [(true,.int c)]) (ww n m J e Ds S):=by
 obtain⟨k,n,m,hk,n8,hm,s1,s2,s3⟩:=zrZ c
 have n1:1<=n:=by rcases hk with⟨_,h⟩|⟨_,h⟩|⟨_,h⟩|⟨_,h⟩|⟨_,h⟩<;>omega
 have n2:2<=n:=by rcases hk with⟨_,h⟩|⟨_,h⟩|⟨_,h⟩|⟨_,h⟩|⟨_,h⟩<;>omega
 have m1:=hm.1
 have m6:=hm.2.1
 obtain⟨F,hF,hor⟩:=zoQ (cell:=c) (n:=n) n8
 have hR:=zjj hF
 have s4:zW true 4 (zy (aC (fV 0) (aC (fV 2) aN)) ZM) (Z3 c (sI k) (sI n) (sI m))=some (.nx (Z13 c k n m F none none none none none none none none)):=vI (p:=4) (xT (WD.e (zc (i:=0) rfl)) (WD.e (zc (i:=2) rfl)) hor) (zL rfl)
 obtain⟨J,a6,b7,tJ,hJ,s5,s6⟩:=zru (c:=c) (m:=m) hk n1 n8 hF
 obtain⟨f,hf⟩:=zpP (c:=c) hk n1 n8 hm hF hJ
 have w0:=zyL (mx c 3) (show(3:Int)≠0 by decide)
 have w1:=zyF (mx c 3) (show(0:Int)<3 by decide)
 obtain⟨w,ew⟩:∃w:Nat,(w:Int)=1+mx c 3%3:=⟨(1+mx c 3%3).toNat,by omega⟩
 have s8:zW true 8 (f2 (fC (.int 1)) (f2 (zy (aC (fV 0) (aC (fC (.int 3)) aN)) zu) (fC (.int 3)) (zp .Mod)) (zp .Add)) (Z13 c k n m F (some (Xg J)) a6 b7 none none none none none)=some (.nx (Z13 c k n m F (some (Xg J)) a6 b7 (sI w) none none none none)):=by
  rw[ew]
  exact yR (i:=8) (yC zg (yD (zfU (zc (i:=0) rfl) zg (by decide) (by decide)) zg (by decide))) (zL rfl)
 obtain⟨ss,l3,nd,hs⟩:=hnm (c%2147483647) (zyL _ (by decide))
 have s9:zW true 9 (zy (aC (f2 (fV 0) (fC (.int 2147483647)) (zp .Mod)) (aC (fC (.int 3)) aN)) vR) (Z13 c k n m F (some (Xg J)) a6 b7 (sI w) none none none none)=some (.nx (Z13 c k n m F (some (Xg J)) a6 b7 (sI w) (sT (.lst (ss.map D.str))) none none none)):=vI (p:=9) (xT (WD.e (yD (zc (i:=0) rfl) zg (by decide))) (WD.e zg) hs) (zL rfl)
 have hw:w<=3:=by omega
 have wl:=vd (as:=Z13 c k n m F (some (Xg J)) a6 b7 (sI w) (sT (.lst (ss.map D.str))) none none none) (zP (zc (i:=8) (x:=.int w) (s:=true) rfl) ye) (by omega) (by omega)
 rw[zyG]at wl
 have sg:∀i:Nat,i<3->ss[i]? = some ((ss[i]?).getD ("":Str)):=λi hi=>by rw[zzC (by omega)];rfl
 have wd:=Wo (as:=Z13 c k n m F (some (Xg J)) a6 b7 (sI w) (sT (.lst (ss.map D.str))) none none none) (h:=λi:Nat=>zeq ((ss[i]?).getD ("":Str),f i)) (it:=λi:Nat=>(true,D.int (0+(i:Int)))) (fi:=xR (aC (fV 8) aN) xO) (cap:=[none,some 9,some 1,some 2,some 3,some 4,some 0]) (gg:=gN 0) (fe:=wU (dC (f2 (fV 1) (fV 0) ixP) (dC (zy (aC (fV 2) (aC (fV 3) (aC (fV 4) (aC (f2 (fV 6) (f2 (fC (.int 7)) (fV 0) (zp .Mult)) (zp .Add)) (aC (fV 5) aN))))) vQ) dN))) (List.range w) wl (by rw[zyS];omega) (λi mi=>by
  have hi:=List.mem_range.mp mi
  rw[Int.zero_add]
  obtain⟨o,g1,g2,g3⟩:=(hf i).2.2
  have wc:WD (f2 (fV 6) (f2 (fC (.int 7)) (fV 0) (zp .Mult)) (zp .Add)) [sI i,sT (.lst (ss.map D.str)),sI k,sI n,sI m,sT (zQ F),sI c] true (.int (c+7*i)):=yC (zc (i:=6) rfl) (Y4 (zg (x:=.int 7)) (zc (i:=0) (x:=.int i) (s:=true) rfl) (yV (by decide) (by decide)) (yV (by omega) (by omega)))
  exact⟨[sI i,sT (.lst (ss.map D.str)),sI k,sI n,sI m,sT (zQ F),sI c],rfl,Ys (WD.e (zZ (zc (i:=1) rfl) (zc (i:=0) rfl) (zfC (sg i (by omega))) rfl)) ⟨o,Wf (zP (zc (i:=2) rfl) (zP (zc (i:=3) rfl) (zP (zc (i:=4) rfl) (zP wc (zP (zc (i:=5) rfl) ye))))) g1,g2,g3⟩⟩)
 have s10:=vI (p:=10) wd (zL rfl)
 have g0:=zyL (mx c 4) (show(2:Int)≠0 by decide)
 have g1:=zyF (mx c 4) (show(0:Int)<2 by decide)
 obtain⟨g,eg⟩:∃g:Nat,(g:Int)=1+mx c 4%2:=⟨(1+mx c 4%2).toNat,by omega⟩
 let DL:D:=.lst ((List.range w).map λi:Nat=>zeq ((ss[i]?).getD ("":Str),f i))
 let Zs:List O->Option O->AS:=λos x=>Z13 c k n m F (some (Xg J)) a6 b7 (sI w) (sT (.lst (ss.map D.str))) (sT DL) (sN os) x
 have s11:zW false 11 (wz dN) (Z13 c k n m F (some (Xg J)) a6 b7 (sI w) (sT (.lst (ss.map D.str))) (sT DL) none none)=some (.nx (Zs [] none)):=Yc (i:=11) (zaq yU (szl rfl)) (zL rfl)
 obtain⟨as',hl,os,S,x,rfl,hO,hN⟩:=Zg (g:=gN 12) (f:=wV (ZK 11 (dC (wU (dC (f2 (fV 9) (f2 (fC (.int 2)) (fV 12) (zp .Sub)) ixP) (dC (wu (xR (aC (fV 2) aN) xO) [none,some 0,some 12] (gN 0) (fT (f2 (f2 (zy (aC (fV 1) (aC (f2 (f2 (fC (.int 80)) (f2 (fC (.int 9)) (fV 2) (zp .Mult)) (zp .Add)) (fV 0) (zp .Add)) aN)) zu) (fC (.int 3)) (zp .Mod)) (fC (.int 1)) (zR .Eq))) (fV 0)) dN))) dN) Zh))
  (λi as=>∃(os:List O) (S:SS) (x:Option O),as=Zs os x/\Ows zgc (λ_=>True) os S/\S.map (·.1)=(List.range i).map λj=>(ss[2-j]?).getD ("":Str)) (wD 0 g) 0 (Zs [] none) (λi y as hy hI=>by
   obtain⟨os,S,x,rfl,hO,hN⟩:=hI
   obtain⟨rfl,hi⟩:=Yz hy
   rw[zyW]at hN ⊢
   rw[Int.zero_add]
   have hi2:i<2:=by omega
   have hrg:=vd (as:=Zs os (sI i)) (zP (zc (i:=2) (x:=.int n) (s:=true) rfl) ye) (by omega) (by omega)
   rw[zyG]at hrg
   have wf:=ztw (as:=Zs os (sI i)) (h:=λ(q:Nat)=>D.int q) (p:=λq:Nat=>mx c (80+9*i+q)%3==1) (it:=λ(q:Nat)=>(true,D.int (0+(q:Int)))) (fi:=xR (aC (fV 2) aN) xO) (cap:=[none,some 0,some 12]) (gg:=gN 0) (tt:=fT (f2 (f2 (zy (aC (fV 1) (aC (f2 (f2 (fC (.int 80)) (f2 (fC (.int 9)) (fV 2) (zp .Mult)) (zp .Add)) (fV 0) (zp .Add)) aN)) zu) (fC (.int 3)) (zp .Mod)) (fC (.int 1)) (zR .Eq))) (fe:=fV 0) (List.range n) hrg (by rw[zyS];omega) (λq mq=>by
    have hq:=List.mem_range.mp mq
    rw[Int.zero_add]
    exact⟨[sI q,sI c,sI i],rfl,eqT (yD (zfU (zc (i:=1) rfl) (yC (yC (zg (x:=.int 80)) (Y4 (zg (x:=.int 9)) (zc (i:=2) (x:=.int i) (s:=true) rfl) (yV (by decide) (by decide)) (yV (by omega) (by omega)))) (zc (i:=0) (x:=.int q) (s:=true) rfl)) (by omega) (by omega)) zg (by decide)) zg rfl,λ_=>WD.e (zc (i:=0) rfl)⟩)
   rw[show D.lst (((List.range n).filter λq:Nat=>mx c (80+9*i+q)%3==1).map λ(q:Nat)=>D.int q)=zQ (((List.range n).filter λq:Nat=>mx c (80+9*i+q)%3==1).map λ(q:Nat)=>(q:Int)) by show _=D.lst _;rw[zzZ];rfl]at wf
   have wn:WD (f2 (fV 9) (f2 (fC (.int 2)) (fV 12) (zp .Sub)) ixP) (Zs os (sI i)) true (.str ((ss[2-i]?).getD ("":Str))):=by
    have w:=zdj (as:=Zs os (sI i)) (zg (x:=.int 2)) (zc (i:=12) (x:=.int i) (s:=true) rfl)
    rw[show(2:Int)-i=((2-i:Nat):Int) by omega]at w
    exact zZ (zc (i:=9) (x:=.lst (ss.map D.str)) (s:=true) rfl) w (zfC (sg (2-i) (by omega))) rfl
   have hS:S.length<=2:=by
    have:=congrArg List.length hN
    rw[zS,zS,zyS]at this
    omega
   obtain⟨os',o1,o2⟩:=zvs (as:=Zs os (sI i)) (i:=11) (os:=os) (l:=S) (x:=((ss[2-i]?).getD ("":Str),((List.range n).filter λq:Nat=>mx c (80+9*i+q)%3==1).map λ(q:Nat)=>(q:Int))) rfl hO (by omega) (Ys (WD.e wn) wf) True.intro
   exact⟨Zs os (sI i),rfl,_,o2,os',_,_,rfl,o1,by rw[zyK,hN,List.range_succ,zyK];rfl⟩)
  ⟨[],[],none,rfl,Ows.nil,rfl⟩
 rw[Z0,zyW]at hN
 have hr12:=vd (as:=Zs [] none) (zP (yC (zg (x:=.int 1)) (yD (zfU (zc (i:=0) (x:=.int c) (s:=true) rfl) (zg (x:=.int 4)) (by decide) (by decide)) (zg (x:=.int 2)) (by decide))) ye) (by omega) (by omega)
 rw[<-eg,zyG]at hr12
 have sl:S.length=g:=by
  have:=congrArg List.length hN
  rw[zS,zS,zyS]at this
  exact this
 have e0:InR n (eT k):=(zsp hk).ce
 have wE:WD (f2 (fV 4) (fP (aC (f2 (fV 1) (fC (.int 3)) (zR .Eq)) aN) V6) ixP) ((Zs os x).set 5 (some (Xg J).frz)) true (.int (rAt F (eT k))):=by
  have w:=xx (as:=(Zs os x).set 5 (some (Xg J).frz)) (x:=.int (if(k==3)=true then 1 else 0)) (g:=V6) (zP (XD (c:=k==3) (zc (i:=1) (x:=.int k) (s:=true) rfl) (zg (x:=.int 3)) rfl) ye) rfl rfl
  rw[show(if(k==3)=true then(1:Int)else 0)=eT k by unfold eT;by_cases h:k=3<;>simp[h]]at w
  exact zZ (zc (i:=4) (x:=zQ F) (s:=true) rfl) w (rowAt hR e0).1 rfl
 have hfJ:(Xg J).frz = .lf true (wM J):=by
  show O.lf (O.strs (J.map xm)) (.lst (O.toDs (J.map xm)))=_
  rw[(zfe J).1,(zfe J).2]
 have hfS:=hO.frz
 have wr:(dC (fV 2) (dC (fV 3) (dC (fV 5) (dC (f2 (fV 4) (fP (aC (f2 (fV 1) (fC (.int 3)) (zR .Eq)) aN) V6) ixP) (dC (fV 10) (dC (fV 11) dN)))))) (Zs os x)=some (_,_):=
  W5 (zc (i:=2) rfl) (W5 (zc (i:=3) rfl) (zmj (j:=5) (ps:=J.map xm) rfl (W5 wE (W5 (zc (i:=10) rfl) (zmj (j:=11) (ps:=os) rfl rfl)))))
 have hfin:=zrB wr (szl rfl)
 rw[hfJ,hfS]at hfin
 have rt:=zmK hfin rfl
 have nd2:(S.map (·.1)).Nodup:=by
  rw[hN]
  have g2:g=1\/g=2:=by omega
  have ne:(ss[2]?).getD ("":Str)≠(ss[1]?).getD ("":Str):=λz=>by
   rw[zzC (show 2<ss.length by omega),zzC (show 1<ss.length by omega)]at z
   exact absurd (zoJ nd (show 2<ss.length by omega) (show 1<ss.length by omega) z) (by decide)
  rcases g2 with rfl|rfl
  · exact zzU.mpr ⟨zxA,zyH⟩
  · exact zzU.mpr ⟨λz=>ne (zzP.mp z),zzU.mpr ⟨zxA,zyH⟩⟩
 have Bk:=perm_back hF
 obtain⟨B,b1,b2⟩:=Bk
 refine⟨n,m,J,rAt F (eT k),(List.range w).map λi:Nat=>((ss[i]?).getD ("":Str),f i),S,⟨n1,n8,m1,m6,tJ,(rowAt hR e0).2.1,(rowAt hR e0).2.2,by rw[zS,zyS];omega,λp mp=>?_, ?_⟩,⟨ljT (zsp hk) (λa ha=>(rowAt hR ha).2) b1 b2 hJ,λp mp=>?_⟩,by omega,nd2,yH rfl (zF s1 (zF s2 (zF s3 (zF s4 (zF s5 (zF s6 (zF s8 (zF s9 (zF s10 (zF s11 (zF (Ym hr12 hl) ⟨_,rt,rfl, ?_⟩)))))))))))⟩
 · obtain⟨i,_,rfl⟩:=zxC.mp mp
   exact(hf i).1
 · rw[zzZ]
   refine List.pairwise_map.mpr ((List.nodup_range (n:=w)).imp_of_mem λ{a b} ma mb hne he=>hne ?_)
   have ha:=List.mem_range.mp ma
   have hb:=List.mem_range.mp mb
   have he:(ss[a]?).getD ("":Str)=(ss[b]?).getD ("":Str):=he
   rw[zzC (show a<ss.length by omega),zzC (show b<ss.length by omega)]at he
   exact zoJ nd _ _ he
 · obtain⟨i,_,rfl⟩:=zxC.mp mp
   exact(hf i).2.1
 · show D.tup [.int n,.int m,wM J,.int (rAt F (eT k)),DL,.lst (S.map zgc)]=_
   show D.tup [.int n,.int m,wM J,.int (rAt F (eT k)),.lst ((List.range w).map λi:Nat=>zeq ((ss[i]?).getD ("":Str),f i)),.lst (S.map zgc)]=D.tup [.int n,.int m,wM J,.int (rAt F (eT k)),.lst (((List.range w).map λi:Nat=>((ss[i]?).getD ("":Str),f i)).map zeq),.lst (S.map zgc)]
   rw[zzZ];rfl
abbrev ch(c:Nat):Str:=⟨#[c]⟩
theorem znb:∀cs:List Nat,(Str.join "" (cs.map ch)).cps.toList=cs
 | []=>rfl
 | [x]=>rfl
 |x::y::r=>by
  show(ch x++""++Str.join "" ((y::r).map ch)).cps.toList=_
  rw[Str.cps_append,Str.cps_append,Array.toList_append,Array.toList_append,znb (y::r)]
  rfl
abbrev nmS(A B:Str)(x st:Int)(k:Nat):Str:=A++⟨#[97+((x+st*(k:Int))%26).toNat]⟩++B
theorem zrC{A B:Str}{x st:Int}{k j:Nat}(s1:1<=st)(s5:st<=5)(hk:k<3)(hj:j<3)(h:nmS A B x st k=nmS A B x st j):k=j:=by
 have h:=congrArg (λs:Str=>s.cps.toList) h
 simp only[Str.cps_append,Array.toList_append,zxB,List.append_cancel_left_eq]at h
 have h:=(List.append_cancel_right h)
 injection h with h
 have e:st=1\/st=2\/st=3\/st=4\/st=5:=by omega
 rcases e with rfl|rfl|rfl|rfl|rfl<;>omega
def l8(c:Int)(i:Nat):Nat:=97+(mx c (200+(i:Int))%26).toNat
@[irreducible] def wd8(c:Int):Str:=Str.join "" (((List.range 8).map (l8 c)).map ch)
theorem zsk(c:Int):(wd8 c).length=8:=by
 have e:=znb ((List.range 8).map (l8 c))
 show(wd8 c).cps.size=8
 rw[<-zyR]
 unfold wd8
 rw[e];rfl
theorem zrx{c:Int}{as:AS}(h0:as[0]? = some (sI c))(h2:∀d:D,gN 0 (true,d) (zbw [none,some 2,some 0] as)=some [sT d,sT (.str abc),sI c]):WD (zho .str (fC (.str "")) (aC (wu (xR (aC (fC (.int 8)) aN) xO) [none,some 2,some 0] (gN 0) Yx (f2 (fV 1) (f2 (zy (aC (fV 2) (aC (f2 (fC (.int 200)) (fV 0) (zp .Add)) aN)) zu) (fC (.int 26)) (zp .Mod)) ixP)) aN) zmE) as true (.str (wd8 c)):=by
 have hr:=vd (as:=as) (zP (zg (x:=.int 8)) ye) (by decide) (by decide)
 have wm:=Wo (as:=as) (h:=λi:Nat=>D.str (ch (l8 c i))) (it:=λi:Nat=>(true,D.int (0+(i:Int)))) (fi:=xR (aC (fC (.int 8)) aN) xO) (cap:=[none,some 2,some 0]) (gg:=gN 0) (fe:=f2 (fV 1) (f2 (zy (aC (fV 2) (aC (f2 (fC (.int 200)) (fV 0) (zp .Add)) aN)) zu) (fC (.int 26)) (zp .Mod)) ixP) (List.range 8) hr (by rw[zyS];decide) (λi mi=>by
  have hi:=List.mem_range.mp mi
  rw[Int.zero_add]
  have q0:=zyL (mx c (200+(i:Int))) (show(26:Int)≠0 by decide)
  have q1:=zyF (mx c (200+(i:Int))) (show(0:Int)<26 by decide)
  exact⟨[sI i,sT (.str abc),sI c],h2 _,WD.e (zZ (zc (i:=1) rfl) (yD (zfU (zc (i:=2) rfl) (yC (zg (x:=.int 200)) (zc (i:=0) (x:=.int i) (s:=true) rfl)) (by omega) (by omega)) zg (by decide)) (zpt q0 q1) rfl)⟩)
 have e1:(List.range 8).map (λi:Nat=>D.str (ch (l8 c i)))=(((List.range 8).map (l8 c)).map ch).map D.str:=by rw[zzZ,zzZ];rfl
 rw[e1]at wm
 have e2:=zvB (((List.range 8).map (l8 c)).map ch) λs m=>by
  obtain⟨a,_,rfl⟩:=zxC.mp m
  rfl
 have e3:(((List.range 8).map (l8 c)).map ch).length=8:=by rw[zS,zS,zyS]
 unfold wd8
 generalize ((List.range 8).map (l8 c)).map ch=L at wm e2 e3
 refine zre zg rfl (Yj wm ye) ?_ rfl
 show(zer (L.map D.str)).bind _=_
 rw[zkF]
 show(if(L.map (·.length)).sum+L.length*0<=16777216 then some (R0.im (.str (Txt.join "" L)))else none)=_
 rw[if_pos (by rw[e2,e3];decide),zos]
theorem zqu{x:Str}(hx:x.length=8){j:Int}(h1:1<=j)(h8:j<=8):((PySem.Txt.slice x none (some j)).length:Int)=j:=by
 obtain⟨⟨l⟩⟩:=x
 have hl:l.length=8:=hx
 match l,hl with
 | [a0,a1,a2,a3,a4,a5,a6,a7],_=>
  have e:j=1\/j=2\/j=3\/j=4\/j=5\/j=6\/j=7\/j=8:=by omega
  rcases e with rfl|rfl|rfl|rfl|rfl|rfl|rfl|rfl<;>rfl
abbrev N10(c:Int)(x4 x5 x6 x7 x8 x9:Option O):AS:=[sI c,sI (3:Nat),sT (.str abc),sT (.str (wd8 c)),x4,x5,x6,x7,x8,x9]
theorem zoC{x y:Str}(h:x.length+y.length<=sizeLine):zp .Add (.str x) (.str y)=some (.im (.str (x++y))):=if_pos h
theorem zqm(c:Int)(hc:0<=c):∃ss:List Str,ss.length=3/\ss.Nodup/\RE (vR [(true,.int c),(true,.int (3:Nat))]) (.lst (ss.map D.str)):=by
 have wl:=zsk c
 have lz:(wd8 c).length<=sizeLine:=szs (by omega)
 have s2:zW true 2 (fC (.str "abcdefghijklmnopqrstuvwxyz")) [sI c,sI (3:Nat),none,none,none,none,none,none,none,none]=some (.nx [sI c,sI (3:Nat),sT (.str abc),none,none,none,none,none,none,none]):=yR (i:=2) zg (zL rfl)
 have s3:=yR (st:=true) (i:=3) (as:=[sI c,sI (3:Nat),sT (.str abc),none,none,none,none,none,none,none]) (zrx (c:=c) rfl (λ_=>rfl)) (zL rfl)
 have t0:WT (fT (f2 (f2 (fV 0) (fC (.int 3)) (zp .Mod)) (fC (.int 0)) (zR .Eq))) (N10 c none none none none none none) (c%3==0):=eqT (yD (zc (i:=0) rfl) zg (by decide)) zg rfl
 cases hq:(c%3==0)with
 |true=>
  rw[hq]at t0
  have hr:=vd (as:=N10 c none none none none none none) (zP (zc (i:=1) (x:=.int (3:Nat)) (s:=true) rfl) ye) (by decide) (by decide)
  have wm:=Wo (as:=N10 c none none none none none none) (h:=λi:Nat=>D.str (PySem.Txt.slice (wd8 c) none (some (1+((i:Int)+c/3)%8)))) (it:=λi:Nat=>(true,D.int (0+(i:Int)))) (fi:=xR (aC (fV 1) aN) xO) (cap:=[none,some 3,some 0]) (gg:=gN 0) (fe:=fSl (fV 1) oN (oS (f2 (fC (.int 1)) (f2 (f2 (fV 0) (f2 (fV 2) (fC (.int 3)) (zp .FloorDiv)) (zp .Add)) (fC (.int 8)) (zp .Mod)) (zp .Add))) slS) (List.range 3) hr (by rw[zyS];decide) (λi mi=>by
   rw[Int.zero_add]
   exact⟨[sI i,sT (.str (wd8 c)),sI c],rfl,WD.e (zdQ (zc (i:=1) rfl) rfl (oS1 (yC (zg (x:=.int 1)) (yD (yC (zc (i:=0) rfl) (Wq (zc (i:=2) rfl) zg (by decide) (yV (by decide) (by decide)))) zg (by decide)))) (show slS (.str (wd8 c)) none (some (1+((i:Int)+c/3)%8))=_ from if_pos lz))⟩)
  refine⟨(List.range 3).map λi:Nat=>PySem.Txt.slice (wd8 c) none (some (1+((i:Int)+c/3)%8)),by rw[zS,zyS], ?_,yH rfl (zF s2 (zF s3 (yX (xW t0 (yh ?_)))))⟩
  · refine List.pairwise_map.mpr ((List.nodup_range (n:=3)).imp_of_mem λ{a b} ma mb hne he=>hne ?_)
    have ha:=List.mem_range.mp ma
    have hb:=List.mem_range.mp mb
    have e1:=zqu wl (j:=1+((a:Int)+c/3)%8) (by omega) (by omega)
    have e2:=zqu wl (j:=1+((b:Int)+c/3)%8) (by omega) (by omega)
    have he:PySem.Txt.slice (wd8 c) none (some (1+((a:Int)+c/3)%8))=PySem.Txt.slice (wd8 c) none (some (1+((b:Int)+c/3)%8)):=he
    rw[he,e2]at e1
    omega
  · rw[zzZ];exact wm
 |false=>
  rw[hq]at t0
  have g0:=zyL (c/3) (show(8:Int)≠0 by decide)
  have g1:=zyF (c/3) (show(0:Int)<8 by decide)
  have s4:zW true 4 (f2 (fC (.int 1)) (f2 (f2 (fV 0) (fC (.int 3)) (zp .FloorDiv)) (fC (.int 8)) (zp .Mod)) (zp .Add)) (N10 c none none none none none none)=some (.nx (N10 c (sI (1+c/3%8)) none none none none none)):=yR (i:=4) (yC zg (yD (Wq (zc (i:=0) rfl) zg (by decide) (yV (by decide) (by decide))) zg (by decide))) (zL rfl)
  generalize hlg:1+c/3%8=lg at s4
  have a0:=zyL (c/24) (show lg≠0 by omega)
  have a1:=zyF (c/24) (show(0:Int)<lg by omega)
  have s5:zW true 5 (f2 (f2 (fV 0) (fC (.int 24)) (zp .FloorDiv)) (fV 4) (zp .Mod)) (N10 c (sI lg) none none none none none)=some (.nx (N10 c (sI lg) (sI (c/24%lg)) none none none none)):=yR (i:=5) (yD (Wq (zc (i:=0) rfl) zg (by decide) (yV (by decide) (by decide))) (zc (i:=4) (x:=.int lg) (s:=true) rfl) (by omega)) (zL rfl)
  generalize c/24%lg=at_ at s5 a0 a1
  have e0:=zyL (c/192) (show(5:Int)≠0 by decide)
  have e1:=zyF (c/192) (show(0:Int)<5 by decide)
  have s6:zW true 6 (f2 (fC (.int 1)) (f2 (f2 (fV 0) (fC (.int 192)) (zp .FloorDiv)) (fC (.int 5)) (zp .Mod)) (zp .Add)) (N10 c (sI lg) (sI at_) none none none none)=some (.nx (N10 c (sI lg) (sI at_) (sI (1+c/192%5)) none none none)):=yR (i:=6) (yC zg (yD (Wq (zc (i:=0) rfl) zg (by decide) (yV (by decide) (by decide))) zg (by decide))) (zL rfl)
  generalize hst:1+c/192%5=st at s6
  have lA:=Txt.slice_le (wd8 c) none (some at_)
  have lB:=Txt.slice_le (wd8 c) (some (at_+1)) (some lg)
  have eA:slS (.str (wd8 c)) none (some at_)=some (.im (.str (Txt.slice (wd8 c) none (some at_)))):=if_pos lz
  have eB:slS (.str (wd8 c)) (some (at_+1)) (some lg)=some (.im (.str (Txt.slice (wd8 c) (some (at_+1)) (some lg)))):=if_pos lz
  generalize Txt.slice (wd8 c) none (some at_)=A at lA eA
  generalize Txt.slice (wd8 c) (some (at_+1)) (some lg)=B at lB eB
  rw[wl]at lA lB
  obtain⟨as',hf,os,x8,x9,rfl,ho⟩:=Zg (g:=gN 8) (f:=(zM (zW true 9 (f2 (fV 2) (f2 (f2 (zy (aC (fV 0) (aC (f2 (fC (.int 200)) (fV 5) (zp .Add)) aN)) zu) (f2 (fV 6) (fV 8) (zp .Mult)) (zp .Add)) (fC (.int 26)) (zp .Mod)) ixP))
  (wV (ZK 7 (dC (f2 (f2 (fSl (fV 3) oN (oS (fV 5)) slS) (fV 9) (zp .Add)) (fSl (fV 3) (oS (f2 (fV 5) (fC (.int 1)) (zp .Add))) (oS (fV 4)) slS) (zp .Add)) dN) Zh))))
   (λi as=>∃(os:List O) (x8 x9:Option O),as=N10 c (sI lg) (sI at_) (sI st) (sN os) x8 x9/\Ows D.str (λ_=>True) os ((List.range i).map (nmS A B (mx c (200+at_)) st)))
   (wD 0 3) 0 (N10 c (sI lg) (sI at_) (sI st) (sN []) none none) (λi x as hx hI=>by
    obtain⟨os,x8,x9,rfl,ho⟩:=hI
    obtain⟨rfl,hi⟩:=Yz hx
    rw[zyW]at ho ⊢
    rw[Int.zero_add]
    have q0:=zyL (mx c (200+at_)+st*(i:Int)) (show(26:Int)≠0 by decide)
    have q1:=zyF (mx c (200+at_)+st*(i:Int)) (show(0:Int)<26 by decide)
    have s9:=yR (st:=true) (i:=9) (as:=N10 c (sI lg) (sI at_) (sI st) (sN os) (sI i) x9) (zZ (zc (i:=2) (x:=.str abc) (s:=true) rfl) (yD (yC (zfU (zc (i:=0) rfl) (yC (zg (x:=.int 200)) (zc (i:=5) (x:=.int at_) (s:=true) rfl)) (by omega) (by omega)) (Y4 (zc (i:=6) (x:=.int st) (s:=true) rfl) (zc (i:=8) (x:=.int i) (s:=true) rfl) (yV (by omega) (by omega)) (yV (by omega) (by omega)))) (zg (x:=.int 26)) (by decide)) (zpt q0 q1) rfl) (zL rfl)
    obtain⟨os',o1,o2⟩:=zvs (as:=N10 c (sI lg) (sI at_) (sI st) (sN os) (sI i) (sT (.str ⟨#[97+((mx c (200+at_)+st*(i:Int))%26).toNat]⟩))) (x:=nmS A B (mx c (200+at_)) st i) (i:=7) (toD:=D.str) (Q:=λ_=>True) (a:=f2 (f2 (fSl (fV 3) oN (oS (fV 5)) slS) (fV 9) (zp .Add)) (fSl (fV 3) (oS (f2 (fV 5) (fC (.int 1)) (zp .Add))) (oS (fV 4)) slS) (zp .Add)) rfl ho (by rw[zS,zyS];omega)
     (WD.e (zZ (zZ (zdQ (zc (i:=3) rfl) rfl (oS1 (zc (i:=5) rfl)) eA) (zc (i:=9) rfl) (zoC (szs (by show A.length+1<=_;omega))) rfl) (zdQ (zc (i:=3) rfl) (oS1 (yC (zc (i:=5) rfl) zg)) (oS1 (zc (i:=4) rfl)) eB) (zoC (szs (by rw[zoK];show A.length+1+B.length<=_;omega))) rfl)) True.intro
    exact⟨N10 c (sI lg) (sI at_) (sI st) (sN os) (sI i) x9,rfl,_,yG s9 o2,os',_,_,rfl,by rw[List.range_succ,zyK];exact o1⟩)
   ⟨[],none,none,rfl,Ows.nil⟩
  rw[Z0,zyW]at ho
  refine⟨(List.range 3).map (nmS A B (mx c (200+at_)) st),by rw[zS,zyS], ?_,yH rfl (zF s2 (zF s3 (zF (zV t0 rfl) (zF s4 (zF s5 (zF s6 (zF (Yc (i:=7) (zaq yU (szl rfl)) (zL rfl)) (zF (Ym (vd (zP (zc (i:=1) (x:=.int (3:Nat)) (s:=true) rfl) ye) (by decide) (by decide)) hf) (Ows.retB (i:=7) rfl ho)))))))))⟩
  exact List.pairwise_map.mpr ((List.nodup_range (n:=3)).imp_of_mem λha hb hne he=>hne (zrC (by omega) (by omega) (List.mem_range.mp ha) (List.mem_range.mp hb) he))
theorem ztu(x:Int):∃c:Cx,c.Ok/\c.S.length<=3/\(c.S.map (·.1)).Nodup/\RE (vB [(true,.int x)]) c.g:=by
 obtain⟨n,m,J,e,Ds,S,A,L,sl,sn,h⟩:=zld zqm x
 exact⟨⟨n,m,J,e,Ds,S⟩,⟨A,L⟩,sl,sn,h⟩
section
variable{c:Cx}{r s:List Int}
theorem zuI(h:c.Ok)(a:c.In r)(b:c.In s)(hl:r.length+s.length<=900):RE (vO [(true,c.w),(true,c.g),(true,zQ r),(true,zQ s)]) (.bl true):=by
 obtain⟨x,x1,x2⟩:=zlh h (r:=r) (by omega) a true
 obtain⟨y,y1,y2⟩:=zlh h (r:=s) (by omega) b true
 obtain⟨u,u1,u2⟩:=zpb h x2 y2 (by omega) (by omega)
 obtain⟨v,v1,v2⟩:=zpb h y2 x2 (by omega) (by omega)
 have p0:∀i j,WE (fV 0) [sT c.w,sT c.g,sT (zQ r),sT (zQ s),i,j] c.w:=λ_ _=>WD.e (zc (i:=0) rfl)
 have p1:∀i j,WE (fV 1) [sT c.w,sT c.g,sT (zQ r),sT (zQ s),i,j] c.g:=λ_ _=>WD.e (zc (i:=1) rfl)
 have p2:∀i j,WE (fV 2) [sT c.w,sT c.g,sT (zQ r),sT (zQ s),i,j] (zQ r):=λ_ _=>WD.e (zc (i:=2) rfl)
 have p3:∀i j,WE (fV 3) [sT c.w,sT c.g,sT (zQ r),sT (zQ s),i,j] (zQ s):=λ_ _=>WD.e (zc (i:=3) rfl)
 have p4:∀j,WE (fV 4) [sT c.w,sT c.g,sT (zQ r),sT (zQ s),sT x,j] x:=λ_=>WD.e (zc (i:=4) rfl)
 have p5:WE (fV 5) [sT c.w,sT c.g,sT (zQ r),sT (zQ s),sT x,sT y] y:=WD.e (zc (i:=5) rfl)
 have s4:=vI (p:=4) (xT (p0 none none) (p2 _ _) x1) (zL rfl)
 have s5:=vI (p:=5) (xT (p0 (sT x) none) (p3 _ _) y1) (zL rfl)
 have t1:=Wl (wtE (zbP (p0 _ _) (p1 _ _) (xf (p0 _ _) (p4 _) p5 u1) (zlL (p2 _ _) (p3 _ _) (by omega)) (zcv h u2 (by rw[zzH];omega))))
 have t2:=Wl (wtE (zbP (p0 _ _) (p1 _ _) (xf (p0 _ _) p5 (p4 _) v1) (zlL (p3 _ _) (p2 _ _) (by omega)) (zcv h v2 (by rw[zzH];omega))))
 exact yH rfl (zF s4 (zF s5 (zF (zV t1 rfl) (zF (zV t2 rfl) (yh (WD.e (zlj (k:=true) (weF rfl (zbP (p0 _ _) (p1 _ _) (p4 _) (p2 _ _) (zcv h x2 (by omega)))) (λ_=>weF rfl (zbP (p0 _ _) (p1 _ _) p5 (p3 _ _) (zcv h y2 (by omega)))) (λq=>nomatch q))))))))
end
theorem zpn{x:Int}{w n:Nat}(hn:1<=n)(n8:n<=8)(hw:w<=300):∃r:List Int,r.length=w/\(∀v ∈ r,InR n v)/\RE (wW [(true,.int x),(true,.int w),(true,.int n)]) (zQ r):=by
 obtain⟨r,a,b,d⟩:=zoX (c:=x) (w:=w) hn n8 hw
 exact⟨r,a,b,_,d,(Vc r).1,(Vc r).2⟩
theorem zta(x:Int)(k:Nat)(hk:0<k):∃w:Nat,x%(k:Int)=w/\w<k:=by
 have h0:=zyL x (show(k:Int)≠0 by omega)
 have h1:=zyF x (show(0:Int)<k by omega)
 exact⟨(x%(k:Int)).toNat,by omega,by omega⟩
theorem zpU{c:Cx}(h:c.Ok){ns:List Int}(hns:ns.length<=63){as:AS}{a b:Int}(h0:as[0]? = some (sT (.lst (ns.map .int))))(h1:as[1]? = some (sT c.g)):∃r:List Int,r.length<=63/\c.In r/\WE (wu (zcg (fSl (fV 0) (oS (fC (.int a))) (oS (fC (.int b))) slP)) [none,some 1] (gN 0) Yx (f2 (fV 0) (f2 (fV 1) (fC (.int 0)) ixP) (zp .Mod))) as (zQ r):=by
 obtain⟨xs,xl,ex⟩:=zqI D.int ns (some a) (some b)
 have ib:=zsG (zrt (WD.e (zc h0)) (oS1 (zg (x:=.int a))) (oS1 (zg (x:=.int b))) (g:=slP) (zs:=xs.map D.int) (by rw[<-ex];rfl))
 rw[zzZ]at ib
 have n1:=h.A.n1
 have wm:=Wo (as:=as) (h:=λx:Int=>D.int (x%c.n)) (it:=λx=>(true,D.int x)) (cap:=[none,some 1]) (gg:=gN 0) (fe:=f2 (fV 0) (f2 (fV 1) (fC (.int 0)) ixP) (zp .Mod)) xs ib (by omega) (λx _=>⟨[sI x,sT c.g],by show some [_,ztz as (some 1)]=_;unfold ztz;simp only[h1],WD.e (yD (zc (i:=0) rfl) (zZ (z:=.int c.n) (zc (i:=1) rfl) zg rfl rfl) (by omega))⟩)
 refine⟨xs.map (· % (c.n:Int)),by rw[zS];omega,λv mv=>?_, ?_⟩
 · obtain⟨x,_,rfl⟩:=zxC.mp mv
   exact zca n1
 · show WE _ _ (.lst ((xs.map (· % (c.n:Int))).map D.int))
   rw[zzZ];exact wm
theorem zoT(ns:List Int)(hns:ns.length<=63):zgK [(true,.lst (ns.map .int))]=some (.lf true (.bl true)):=by
 obtain⟨c0,h0⟩:=zlo ns (k:=0) (by decide)
 obtain⟨c1,h1⟩:=zlo ns (k:=1) (by decide)
 obtain⟨c2,h2⟩:=zlo ns (k:=2) (by decide)
 obtain⟨c3,h3⟩:=zlo ns (k:=3) (by decide)
 obtain⟨c4,h4⟩:=zlo ns (k:=4) (by decide)
 obtain⟨c5,h5⟩:=zlo ns (k:=5) (by decide)
 obtain⟨c6,h6⟩:=zlo ns (k:=6) (by decide)
 obtain⟨c,h,sl,sn,ha⟩:=ztu c0
 have s1:=vI (p:=1) (as:=[sT (.lst (ns.map .int)),none,none,none,none,none,none,none,none]) (Zb (WD.e (h0 _ rfl)) ha) (zL rfl)
 have s2:=vI (p:=2) (as:=[sT (.lst (ns.map .int)),sT c.g,none,none,none,none,none,none,none]) (Zb (WD.e (zc (i:=1) rfl)) (zsm h.A h.L sl sn)) (zL rfl)
 have two:∀(as:AS) (a b:Nat),as[0]? = some (sT (.lst (ns.map .int)))->3<as.length->0<a->0<b->∃u v:Nat,u<a/\v<b/\zW true 3 (wz (dC (f2 (zy (aC (fV 0) (aC (fC (.int 1)) aN)) zN) (fC (.int (a:Nat))) (zp .Mod)) (dC (f2 (zy (aC (fV 0) (aC (fC (.int 2)) aN)) zN) (fC (.int (b:Nat))) (zp .Mod)) dN))) as=some (.nx (as.set 3 (sT (zQ [(u:Int),(v:Int)])))):=λas a b hz hl ha hb=>by
  obtain⟨u,eu,lu⟩:=zta c1 a ha
  obtain⟨v,ev,lv⟩:=zta c2 b hb
  have e1:=yD (h1 as hz) (zg (x:=.int (a:Nat))) (by omega)
  have e2:=yD (h2 as hz) (zg (x:=.int (b:Nat))) (by omega)
  rw[eu]at e1
  rw[ev]at e2
  exact⟨u,v,lu,lv,vI (p:=3) (vL (os:=[lfI u,lfI v]) (yq e1 (yq e2 yU)) (szl rfl) rfl rfl) hl⟩
 obtain⟨u,v,lu,lv,s3⟩:=two [sT (.lst (ns.map .int)),sT c.g,sT c.w,none,none,none,none,none,none] 151 151 rfl (zL rfl) (by decide) (by decide)
 have t4:∀z,WT (fT (f2 (f2 (zy (aC (fV 0) (aC (fC (.int 3)) aN)) zN) (fC (.int 4)) (zp .Mod)) (fC (.int 1)) (zR .Eq))) [sT (.lst (ns.map .int)),sT c.g,sT c.w,z,none,none,none,none,none] (c3%4==1):=λz=>yz (XD (c:=c3%4==1) (yD (h3 _ rfl) zg (by decide)) zg rfl) rfl
 obtain⟨w,w',hw,s4⟩:∃w w':Nat,w+w'<=300/\sIf (fT (f2 (f2 (zy (aC (fV 0) (aC (fC (.int 3)) aN)) zN) (fC (.int 4)) (zp .Mod)) (fC (.int 1)) (zR .Eq))) (zW true 3 (wz (dC (f2 (zy (aC (fV 0) (aC (fC (.int 1)) aN)) zN) (fC (.int 3)) (zp .Mod)) (dC (f2 (zy (aC (fV 0) (aC (fC (.int 2)) aN)) zN) (fC (.int 298)) (zp .Mod)) dN)))) sNx [sT (.lst (ns.map .int)),sT c.g,sT c.w,sT (zQ [(u:Int),(v:Int)]),none,none,none,none,none]=some (.nx [sT (.lst (ns.map .int)),sT c.g,sT c.w,sT (zQ [(w:Int),(w':Int)]),none,none,none,none,none]):=by
  have t:=t4 (sT (zQ [(u:Int),(v:Int)]))
  cases q:(c3%4==1)with
  |true=>
   rw[q]at t
   obtain⟨a,b,la,lb,s⟩:=two [sT (.lst (ns.map .int)),sT c.g,sT c.w,sT (zQ [(u:Int),(v:Int)]),none,none,none,none,none] 3 298 rfl (zL rfl) (by decide) (by decide)
   exact⟨a,b,by omega,Z7 t s⟩
  |false=>
   rw[q]at t
   exact⟨u,v,by omega,zV t rfl⟩
 obtain⟨r,r1,r2,r3⟩:=zpn (x:=c4) (w:=w) h.A.n1 h.A.n8 (by omega)
 obtain⟨s,q1,q2,q3⟩:=zpn (x:=c5) (w:=w') h.A.n1 h.A.n8 (by omega)
 have gn:∀as:AS,as[1]? = some (sT c.g)->WD (f2 (fV 1) (fC (.int 0)) ixP) as true (.int c.n):=λas hz=>zZ (zc hz) zg rfl rfl
 have s5:=vI (p:=4) (as:=[sT (.lst (ns.map .int)),sT c.g,sT c.w,sT (zQ [(w:Int),(w':Int)]),none,none,none,none,none]) (xf (WD.e (h4 _ rfl)) (WD.e (zZ (g:=ixP) (z:=.int w) (zc (i:=3) rfl) (zg (x:=.int 0)) rfl rfl)) (WD.e (gn _ rfl)) r3) (zL rfl)
 have s6:=vI (p:=5) (as:=[sT (.lst (ns.map .int)),sT c.g,sT c.w,sT (zQ [(w:Int),(w':Int)]),sT (zQ r),none,none,none,none]) (xf (WD.e (h5 _ rfl)) (WD.e (zZ (g:=ixP) (z:=.int w') (zc (i:=3) rfl) (zg (x:=.int 1)) rfl rfl)) (WD.e (gn _ rfl)) q3) (zL rfl)
 obtain⟨R,R1,R2,R3⟩:=zpU h hns (a:=8) (b:=63) (as:=[sT (.lst (ns.map .int)),sT c.g,sT c.w,sT (zQ [(w:Int),(w':Int)]),sT (zQ r),sT (zQ s),none,none,none]) rfl rfl
 have s7:=vI (p:=6) R3 (zL rfl)
 obtain⟨k,ek,lk⟩:=zta c6 (R.length+1) (by omega)
 have wk:=yD (h6 [sT (.lst (ns.map .int)),sT c.g,sT c.w,sT (zQ [(w:Int),(w':Int)]),sT (zQ r),sT (zQ s),sT (zQ R),none,none] rfl) (yC (zwr (zc (i:=6) (s:=true) rfl)) (zg (x:=.int 1))) (by omega)
 rw[show(R.length:Int)+1=((R.length+1:Nat):Int)from rfl,ek]at wk
 have s8:=yR (st:=true) (i:=7) wk (zL rfl)
 have p2:∀z,WE (fV 2) [sT (.lst (ns.map .int)),sT c.g,sT c.w,sT (zQ [(w:Int),(w':Int)]),sT (zQ r),sT (zQ s),sT (zQ R),sI k,z] c.w:=λ_=>WD.e (zc (i:=2) rfl)
 have p1:∀z,WE (fV 1) [sT (.lst (ns.map .int)),sT c.g,sT c.w,sT (zQ [(w:Int),(w':Int)]),sT (zQ r),sT (zQ s),sT (zQ R),sI k,z] c.g:=λ_=>WD.e (zc (i:=1) rfl)
 have p6:∀z,WD (fV 6) [sT (.lst (ns.map .int)),sT c.g,sT c.w,sT (zQ [(w:Int),(w':Int)]),sT (zQ r),sT (zQ s),sT (zQ R),sI k,z] true (zQ R):=λ_=>zc (i:=6) rfl
 have t9:=zaH (l:=false) (Wl (wtE (zbP (p2 none) (p1 _) (WD.e (zc (i:=4) rfl)) (WD.e (zc (i:=5) rfl)) (zuI h r2 q2 (by omega))))) (λ_=>Wl (k:=true) (wtE (zbP (p2 none) (p1 _) (zwy (p6 _) (zc (i:=7) rfl) (Nat.le_of_lt_succ lk)) (ztY (p6 _) (zc (i:=7) rfl) (Nat.le_of_lt_succ lk)) (zuI h (λv mv=>R2 v (List.mem_of_mem_take mv)) (λv mv=>R2 v (List.mem_of_mem_drop mv)) (by rw[zzQ,List.length_drop];omega))))) (λq=>nomatch q)
 obtain⟨d,d1,d2⟩:=zlh h (r:=R) (by omega) R2 true
 obtain⟨f,f1,f2⟩:=zpb h d2 d2 (by omega) (by omega)
 have s9:=vI (p:=8) (xT (p2 none) (WD.e (p6 _)) d1) (zL rfl)
 have w8:WE (fV 8) [sT (.lst (ns.map .int)),sT c.g,sT c.w,sT (zQ [(w:Int),(w':Int)]),sT (zQ r),sT (zQ s),sT (zQ R),sI k,sT d] d:=WD.e (zc (i:=8) rfl)
 exact Wg rfl (yG s1 (yG s2 (yG s3 (yG s4 (yG s5 (yG s6 (yG s7 (yG s8 (yG (zV t9 rfl) (yG s9 (Wj (weF rfl (zbP (p2 _) (p1 _) (xf (p2 _) w8 w8 f1) (zlL (WD.e (p6 _)) (WD.e (p6 _)) (by omega)) (zcv h f2 (by rw[zzH];omega)))))))))))))))
end G31
end
open PySem PySem.W PyProof.Rows
set_option maxRecDepth 100000 in
set_option maxHeartbeats 0 in
theorem PySem.Challenge.cw_stretchdeeds_k31_put_together_holds : PySem.Challenge.rw_stretchdeeds_k31_put_together.Holds := by
 w_on;refine holds_law G31.ws λsaid=>?_
 refine holds_open (q:=G31.qv) (loose:=[]) (Xt:=G31.Xt) (XP:=XL G31.qv []) (Yf:=Hook.obs (kHook G31.K G31.kA G31.kAe)) (Ya:=Hook.val (kHook G31.K G31.kA G31.kAe)) (YP:=Hook.says (kHook G31.K G31.kA G31.kAe)) (N:=6000) G31.hl (Hook.of (kHook G31.K G31.kA G31.kAe)) (Hook.keeps (kHook G31.K G31.kA G31.kAe)) (λs e=>xl_of s (Bool.and_eq_true_iff.mp e).1) XL.keeps (by rfl) (by rfl) (by rfl) (λs e=>recFacts_of (Bool.and_eq_true_iff.mp e).2) (by rfl) (by first|assumption|decide +kernel) (by decide +kernel) ⟨rfl,rfl,rfl,rfl,rfl,by decide +kernel⟩ ?hw ?hc
 (case hw=>w_witness2)
 k_fill
 refine G31.walk (l:=PySem.Challenge.rw_stretchdeeds_k31_put_together) rfl rfl (λw h Y=>PySem.W.kIn_of Y) G31.zoT ?F
 case F=>
  intro w mg fa h KX G hmg
  refine' G31.ztR KX G hmg ?_ ?_ ?_ ?_ ?_ ?_ ?_ ?_ ?_ ?_ ?_ ?_ ?_ ?_ ?_ ?_ ?_ ?_ ?_ ?_ ?_ ?_ ?_ ?_ ?_ ?_ ?_ ?_ ?_ ?_ ?_ ?_ ?_ ?_ ?_ ?_ ?_ ?_ ?_ ?_ ?_ ?_ ?_ ?_ ?_ ?_ ?_ ?_ ?_ ?_ ?_ ?_ ?_ ?_ ?_ ?_ ?_ ?_ ?_ ?_ ?_ ?_ ?_ ?_ ?_ ?_ ?_ ?_ ?_ ?_ ?_ ?_ ?_ ?_ ?_ ?_ ?_ ?_ ?_ ?_ ?_ ?_ ?_ ?_ ?_ ?_ ?_ ?_ ?_ ?_ ?_ ?_ ?_ ?_ ?_ ?_ ?_ ?_ ?_ ?_ ?_ ?_ ?_ ?_ ?_ ?_ ?_ ?_ ?_ ?_ ?_ ?_ ?_ ?_ ?_ ?_ ?_ ?_ ?_ ?_ ?_ ?_ ?_ ?_ ?_ ?_ ?_ ?_ ?_ ?_ ?_ ?_ ?_ ?_ ?_ ?_ ?_ ?_ ?_ ?_
  all_goals try first|k_is|(change _=_;k_is)|exact⟨_,⟨_,_,_,_,_,_,_,_,_,rfl,by k_is,by k_is⟩,by k_is⟩|rfl
#print axioms PySem.Challenge.cw_stretchdeeds_k31_put_together_holds
