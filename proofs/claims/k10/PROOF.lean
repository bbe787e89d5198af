import PyProof.Rows.All
import Wide.All
import OpenK.AllK
import Wide.FinOn
import PyProof.EqAt
import PyProof.EqKinds
import PyProof.TupleCall
import PyProof.NeKinds
import PyProof.AutoSeq1
import KE.LcSums
import PyProof.Rows.StrWeight2
import PyProof.StrBlockG
import KE.KIntText
import PyProof.CallStr
import PyProof.WalksEnum
import PyProof.Rows.EnumRows
import PyProof.Rows.FactsT2
import KE.KRevIter
import PyProof.StrWalks
import PyProof.ReprRoads
import PyProof.StrLawsTight
import PyProof.Rows.StrItems
import PyProof.Rows.ReprOcc
import PyProof.Rows.StrJoinMade
import PyProof.ReprLen
import PyProof.ZipIter
import PyProof.Rows.SortWalk
import PyProof.ListRange
import PyProof.AttrMissHeap
import PyProof.Rows.SumAny
import PyProof.Rows.SetFrom
import PyProof.SetRoads
import Lean
import PySem.Challenge.RW_stretchdeeds_k10_what_is_an_algebra
set_option Elab.async false
set_option linter.all false
set_option maxRecDepth 100000
abbrev zD := PySem.W.Frag
abbrev zI := @List.length_map
abbrev zzA := @List.mem_cons
abbrev zzB := @List.mem_cons_of_mem
abbrev zzC := @List.getElem?_eq_getElem
abbrev zzD := @List.mem_cons_self
abbrev zzE := @List.getElem?_eq_some_iff
abbrev zzF := @List.size_toArray
abbrev zzG := @List.getElem?_map
abbrev zzH := @List.length_append
abbrev zzI := @Nat.lt_of_lt_of_le
abbrev zzJ := @List.mem_append_right
abbrev zzK := @List.mem_append
abbrev zzL := @Nat.le_refl
abbrev zzM := @Nat.le_trans
abbrev zzN := @List.mem_append_left
abbrev zzO := @Nat.ne_of_lt
abbrev zzP := @List.mem_singleton
abbrev zzQ := @List.length_take
abbrev zzR := @List.length_cons
abbrev zzS := @List.length_set
abbrev zzT := @Int.natCast_mul
abbrev zzU := @List.nodup_cons
abbrev zzV := @Option.map_eq_some_iff
abbrev zzW := @List.getElem?_set_ne
section
namespace L2
open PySem PySem.Spec PyProof.Rows
abbrev Key := Sum Int Str
def zgP : Key -> Value -> Bool
 | .inl k, v => Value.isInt k v
 | .inr x, v => Value.isStrOf x v
def ztq (w : World) : Key -> Int
 | .inl k => hashInt k
 | .inr x => hashStr w x
theorem vp : ∀ {k : Key} {v : Value}, zgP k v = true -> (∃ i t, k = Sum.inl i /\ v = Value.int i t) \/ (∃ x t, k = Sum.inr x /\ v = Value.str x t)
 | .inl i, v, h => by
  obtain ⟨t, e⟩ := Value.isInt_shape (k := i) (v := v) h
  exact .inl ⟨i, t, rfl, e⟩
 | .inr x, v, h => by
  obtain ⟨t, e⟩ := Value.isStrOf_shape (x := x) (v := v) h
  exact .inr ⟨x, t, rfl, e⟩
theorem zlG (i : Int) (t : Tok) : zgP (.inl i) (.int i t) = true := by simp [zgP, Value.isInt]
theorem zlK (x : Str) (t : Tok) : zgP (.inr x) (.str x t) = true := by simp [zgP, Value.isStrOf]
theorem zqr (a b : Int) : decide ((Sum.inl a : Key) = Sum.inl b) = (a == b) := by
 by_cases e : a = b
 · subst e; simp
 · have h : ¬ (Sum.inl a : Key) = Sum.inl b := λ q => e (Sum.inl.inj q)
   rw [decide_eq_false h]
   exact (beq_eq_false_iff_ne.mpr e).symm
theorem zrt (a b : Str) : decide ((Sum.inr a : Key) = Sum.inr b) = decide (a = b) := by
 by_cases e : a = b
 · subst e; simp
 · have h : ¬ (Sum.inr a : Key) = Sum.inr b := λ q => e (Sum.inr.inj q)
   rw [decide_eq_false h, decide_eq_false e]
theorem zqb (a : Int) (b : Str) : decide ((Sum.inl a : Key) = Sum.inr b) = false := decide_eq_false (λ q => nomatch q)
theorem zqQ (a : Str) (b : Int) : decide ((Sum.inr a : Key) = Sum.inl b) = false := decide_eq_false (λ q => nomatch q)
def Yj (prog : Program) (w : World) : PySem.KeyKind prog w Key where
 is := zgP
 hash := ztq w
 inj := λ v a b ha hb => by
  rcases vp ha with ⟨i, t, rfl, rfl⟩ | ⟨x, t, rfl, rfl⟩
  · rcases vp hb with ⟨j, u, rfl, e⟩ | ⟨y, u, rfl, e⟩
    · injection e with e1 _; rw [e1]
    · exact nomatch e
  · rcases vp hb with ⟨j, u, rfl, e⟩ | ⟨y, u, rfl, e⟩
    · exact nomatch e
    · injection e with e1 _; rw [e1]
 byValue := λ k v h => by
  rcases vp h with ⟨i, t, rfl, rfl⟩ | ⟨x, t, rfl, rfl⟩ <;> rfl
 pyHash := λ hv h => by
  rcases vp hv with ⟨i, t, rfl, rfl⟩ | ⟨x, t, rfl, rfl⟩
  · exact wpAny_pyHash_int h
  · exact wpAny_pyHash_str h
 eqBool := λ hu hv h => by
  rcases vp hu with ⟨i, t, rfl, rfl⟩ | ⟨x, t, rfl, rfl⟩
  · rcases vp hv with ⟨j, u, rfl, rfl⟩ | ⟨y, u, rfl, rfl⟩
    · rw [zqr] at h; exact wpAny_eqBool_int h
    · rw [zqb] at h; exact SeqAt.EqAt.int_str i t y u _ _ _ _ h
  · rcases vp hv with ⟨j, u, rfl, rfl⟩ | ⟨y, u, rfl, rfl⟩
    · rw [zqQ] at h; exact SeqAt.EqAt.str_int x t j u _ _ _ _ h
    · rw [zrt] at h; exact wpAny_eqBool_str h
 «strs» := λ k x t v h => by
  rcases vp h with ⟨i, u, rfl, e⟩ | ⟨y, u, rfl, e⟩
  · exact nomatch e
  · injection e with e1 _
    subst e1
    cases v <;> rfl
theorem zic (prog : Program) (w : World) (i : Int) (t : Tok) : (Yj prog w).is (.inl i) (.int i t) = true := zlG i t
theorem VV (prog : Program) (w : World) (x : Str) (t : Tok) : (Yj prog w).is (.inr x) (.str x t) = true := zlK x t
end L2
namespace L2
open PySem PySem.Spec PyProof.Rows
inductive V where
 | non | bl (b : Bool) | int (i : Int) | str (x : Str) | byt (b : Array UInt8) | flt (b : UInt64) | ref (a : Addr) | ty (n : String)
 deriving DecidableEq
def RelV : V -> Value -> Prop
 | .non, u => u = Value.none
 | .bl b, u => u = Value.bool b
 | .int i, u => ∃ t, u = Value.int i t
 | .str x, u => ∃ t, u = Value.str x t
 | .byt b, u => ∃ t, u = Value.bytes b t
 | .flt b, u => ∃ t, u = Value.float b t
 | .ref a, u => u = Value.ref a
 | .ty n, u => u = Value.type n
abbrev Vals : List V -> List Value -> Prop := Paired RelV
theorem Vals.length (r : Vals xs us) : xs.length = us.length := Paired.length r
theorem Vals.get : ∀ {xs : List V} {us : List Value} {i : Nat} {x : V}, Vals xs us -> xs[i]? = some x -> ∃ u, us[i]? = some u /\ RelV x u
 | _, _, _, _, .nil, e => by simp at e
 | _, _, 0, _, .cons r _, e => by simp at e; subst e; exact ⟨_, rfl, r⟩
 | _, _, i + 1, x, .cons _ t, e => by
  obtain ⟨u, h1, h2⟩ := Vals.get (i := i) (x := x) t (by simpa using e)
  exact ⟨u, by simpa using h1, h2⟩
theorem Vals.set (r : RelV x u) : ∀ {xs : List V} {us : List Value} (i : Nat), Vals xs us -> Vals (xs.set i x) (us.set i u)
 | _, _, _, .nil => .nil
 | _, _, 0, .cons _ t => .cons r t
 | _, _, i + 1, .cons q t => .cons q (Vals.set r i t)
theorem Vals.append : ∀ {xs ys : List V} {us ws : List Value}, Vals xs us -> Vals ys ws -> Vals (xs ++ ys) (us ++ ws)
 | _, _, _, _, .nil, s => s
 | _, _, _, _, .cons r t, s => .cons r (Vals.append t s)
theorem Vals.take : ∀ {xs : List V} {us : List Value} (n : Nat), Vals xs us -> Vals (xs.take n) (us.take n)
 | _, _, 0, _ => .nil
 | _, _, _ + 1, .nil => .nil
 | _, _, n + 1, .cons r t => .cons r (Vals.take n t)
theorem Vals.drop : ∀ {xs : List V} {us : List Value} (n : Nat), Vals xs us -> Vals (xs.drop n) (us.drop n)
 | _, _, 0, r => r
 | _, _, _ + 1, .nil => .nil
 | _, _, n + 1, .cons _ t => Vals.drop n t
def zii : Option V -> Option Value -> Prop
 | some v, some u => RelV v u
 | none, none => True
 | _, _ => False
def KV {κ : Type} : List (κ × V) -> List (κ × Value) -> Prop := Paired λ (p : κ × V) (q : κ × Value) => p.1 = q.1 /\ RelV p.2 q.2
def kV : Key -> V
 | .inl i => .int i
 | .inr x => .str x
inductive HO where
 | lst (xs : List V)
 | tup (xs : List V)
 | dK (kvs : List (Key × V)) | dT (kvs : List (List Key × V))
 | set (S : Int -> Bool) (n : Nat)
 | ins (C dx : Addr) (fs : List (Str × V))
 | own (x : Addr)
 | xd (fs : List (Str × V))
 | met (f x : Addr)
 | rng (lo hi : Int)
 | frz (o : Obj) (u : HO)
 | tbl (ps : Array Value)
 | ext (φ : Heap -> Prop)
abbrev Hp := Addr -> Option HO
def upd (H : Hp) (a : Addr) (o : HO) : Hp := λ b => if b = a then some o else H b
theorem xQ : upd H a o a = some o := by unfold upd; rw [if_pos rfl]
theorem yO (h : b ≠ a) : upd H a o b = H b := by unfold upd; rw [if_neg h]
theorem xU {H : Hp} {a b : Addr} {o : HO} (h : H a = some o) (h' : H b = none) : a ≠ b := by
 intro e; subst e; rw [h] at h'; cases h'
section
variable (P : Program) (w : World)
def ZC (H : Hp) (h : Heap) (a : Addr) : HO -> Prop
 | .lst xs => xs.length <= sizeLine /\ ∃ (its : List Value) (n : Nat), Vals xs its /\ h.get? a = some { cls := .type "list", data := .seq its.toArray n }
 | .tup xs => xs.length <= sizeLine /\ ∃ its : List Value, Vals xs its /\ IsTup h a its.toArray
 | .dK kvs => kvs.length <= sizeLine /\ (a == sysModules) = false /\ ∃ vs, KV kvs vs /\ h.DictOf (Yj P w) a vs
 | .dT kvs => kvs.length <= sizeLine /\ (a == sysModules) = false /\ ∃ xs : List (List Key × Addr × Value),
  Paired (λ (p : List Key × V) (q : List Key × Addr × Value) => p.1 = q.1 /\ H q.2.1 = some (.tup (p.1.map kV)) /\ RelV p.2 q.2.2) kvs xs /\
  ∃ o es ep, h.get? a = some o /\ o.ExactDict /\ o.data = .dict es ep /\ es.toList = xs.map (entryOfKey (tupleKind (Yj P w))) /\ (xs.map (·.1)).Nodup
 | .set S n => h.SetOf (intKind P w) a S n
 | .ins C dx fs => H dx = some (.own a) /\ fs.length <= 1000 /\ dx ≠ a /\ h.get? a = some (PySem.W.instObj C dx) /\
  ∃ mA, h.Ns1 dx mA /\ (∀ f, zii (fs.lookup f) (mA f)) /\ PySem.Within mA (fs.map (·.1))
 | .own _ => ∃ o, h.get? a = some o
 | .xd fs => ∃ mA, h.Ns1 a mA /\ ∀ f, zii (fs.lookup f) (mA f)
 | .rng lo hi => ∃ t u v, h.get? a = some { cls := .type "range", data := .fields #[.int lo t, .int hi u, .int 1 v] }
 | .frz o u => h.get? a = some o /\ ZC H h a u
 | .tbl ps => h.get? a = some { cls := .none, data := .fields ps }
 | .met f x => h.get? a = some (PySem.W.methodObj (.ref f) (.ref x))
 | .ext φ => φ h /\ (∃ o, h.get? a = some o) /\ ∀ h1 h2 : Heap, φ h1 -> (∀ o, h1.get? a = some o -> h2.get? a = some o) -> φ h2
def HOk (H : Hp) (h : Heap) : Prop := ∀ a o, H a = some o -> ZC P w H h a o
end
section
variable {P : Program} {w : World} {H H' : Hp} {h h' : Heap} {a : Addr} {o : HO}
theorem ZC.lt (x : ZC P w H h a o) : a < h.objs.size := by
 cases o with
 | lst xs => obtain ⟨_, _, _, _, e⟩ := x; exact Heap.lt_size e
 | tup xs => obtain ⟨_, _, _, p⟩ := x; exact p.lt
 | dK kvs => obtain ⟨_, _, _, _, o, _, _, e, _⟩ := x; exact Heap.lt_size e
 | dT kvs => obtain ⟨_, _, _, _, o, _, _, e, _⟩ := x; exact Heap.lt_size e
 | set S n => obtain ⟨o, _, _, _, e, _⟩ := x; exact Heap.lt_size e
 | ins C dx fs => obtain ⟨_, _, _, e, _⟩ := x; exact Heap.lt_size e
 | own y => obtain ⟨_, e⟩ := x; exact Heap.lt_size e
 | xd fs => obtain ⟨_, ⟨_, _, _, e, _⟩, _⟩ := x; exact Heap.lt_size e
 | rng lo hi => obtain ⟨_, _, _, e⟩ := x; exact Heap.lt_size e
 | frz ob u => obtain ⟨e, _⟩ := x; exact Heap.lt_size e
 | tbl ps => exact Heap.lt_size (show h.get? a = some _ from x)
 | met f y => exact Heap.lt_size (show h.get? a = some _ from x)
 | ext φ => obtain ⟨_, ⟨_, e⟩, _⟩ := x; exact Heap.lt_size e
theorem Paired.mapP : ∀ {l₁ : List α} {l₂ : List β}, Paired F l₁ l₂ -> (∀ a b, F a b -> G a b) -> Paired G l₁ l₂
 | _, _, .nil, _ => .nil
 | _, _, .cons r t, f => .cons (f _ _ r) (Paired.mapP t f)
theorem ZC.stay (x : ZC P w H h a o) (k : ∀ b u, (b = a \/ H b = some (.own a)) -> h.get? b = some u -> h'.get? b = some u)
 (ho : ∀ b, H b = some (.own a) -> H' b = some (.own a)) (ht : ∀ b xs, H b = some (.tup xs) -> H' b = some (.tup xs)) : ZC P w H' h' a o := by
 induction o with
 | lst xs => obtain ⟨z, its, n, r, e⟩ := x; exact ⟨z, its, n, r, k _ _ (.inl rfl) e⟩
 | tup xs => obtain ⟨z, its, r, ob, e, c⟩ := x; exact ⟨z, its, r, ob, k _ _ (.inl rfl) e, c⟩
 | dK kvs => obtain ⟨z, y, vs, r, ob, es, ep, e, c⟩ := x; exact ⟨z, y, vs, r, ob, es, ep, k _ _ (.inl rfl) e, c⟩
 | dT kvs =>
  obtain ⟨z, y, xs, r, ob, es, ep, e, c⟩ := x
  exact ⟨z, y, xs, Paired.mapP r λ p q z => ⟨z.1, ht _ _ z.2.1, z.2.2⟩, ob, es, ep, k _ _ (.inl rfl) e, c⟩
 | set S n => obtain ⟨ob, es, ep, t, e, c⟩ := x; exact ⟨ob, es, ep, t, k _ _ (.inl rfl) e, c⟩
 | ins C dx fs =>
  obtain ⟨d, z, ne, e, mA, ⟨od, es, ep, e2, c⟩, r⟩ := x
  exact ⟨ho _ d, z, ne, k _ _ (.inl rfl) e, mA, ⟨od, es, ep, k _ _ (.inr d) e2, c⟩, r⟩
 | own y => obtain ⟨ob, e⟩ := x; exact ⟨ob, k _ _ (.inl rfl) e⟩
 | xd fs => obtain ⟨mA, ⟨od, es, ep, e, c⟩, r⟩ := x; exact ⟨mA, ⟨od, es, ep, k _ _ (.inl rfl) e, c⟩, r⟩
 | rng lo hi => obtain ⟨t, u, v, e⟩ := x; exact ⟨t, u, v, k _ _ (.inl rfl) e⟩
 | frz ob u ih => obtain ⟨e, q⟩ := x; exact ⟨k _ _ (.inl rfl) e, ih q⟩
 | tbl ps =>
  have e : h.get? a = some { cls := .none, data := .fields ps } := x
  show h'.get? a = some { cls := .none, data := .fields ps }
  exact k a _ (.inl rfl) e
 | met f y =>
  have e : h.get? a = some (PySem.W.methodObj (.ref f) (.ref y)) := x
  show h'.get? a = some (PySem.W.methodObj (.ref f) (.ref y))
  exact k a _ (.inl rfl) e
 | ext φ => obtain ⟨p, ⟨o, e⟩, st⟩ := x; exact ⟨st _ _ p λ o q => k _ _ (.inl rfl) q, ⟨o, k _ _ (.inl rfl) e⟩, st⟩
theorem HOk.lt (x : HOk P w H h) (e : H a = some o) : a < h.objs.size := (x a o e).lt
theorem HOk.fresh (x : HOk P w H h) (e : h.objs.size <= a) : H a = none := by
 cases q : H a with
 | none => rfl
 | some u => exact absurd (zzI (x.lt q) e) (Nat.lt_irrefl _)
theorem HOk.kept (x : HOk P w H h) (k : ∀ b u, h.get? b = some u -> h'.get? b = some u) : HOk P w H h' := λ a o e =>
 (x a o e).stay (λ b u _ q => k b u q) (λ _ q => q) λ _ _ q => q
theorem HOk.laid (x : HOk P w H h) (k : ∀ b u, h.get? b = some u -> h'.get? b = some u) (hp : h.objs.size <= a) (new : ZC P w (upd H a o) h' a o) : HOk P w (upd H a o) h' := λ b u e => by
 have hn := x.fresh hp
 by_cases hb : b = a
 · subst hb; rw [xQ] at e; cases e; exact new
 · rw [yO hb] at e
   exact (x b u e).stay (λ c v _ q => k c v q) (λ c q => by rw [yO (xU q hn)]; exact q) λ c xs q => by rw [yO (xU q hn)]; exact q
end
def Rd (H : Hp) (a : Addr) (u : HO) : Prop := H a = some u \/ ∃ o, H a = some (.frz o u)
theorem Rd.ok (r : Rd H a u) (x : HOk P w H h) : ZC P w H h a u := by
 rcases r with r | ⟨o, r⟩
 · exact x a u r
 · obtain ⟨_, q⟩ := x a _ r
   exact q
def Mut : Option HO -> Prop
 | some (.lst _) => True
 | some (.dK _) => True
 | some (.dT _) => True
 | some (.set _ _) => True
 | some (.ins _ _ _) => True
 | some (.ext _) => True
 | _ => False
section
variable {P : Program} {w : World} {H : Hp} {h h' : Heap} {x e : Addr} {o' : HO}
theorem HOk.write (ok : HOk P w H h) (mu : Mut (H x)) (he : e = x \/ H e = some (.own x)) (k : ∀ b u, b ≠ e -> h.get? b = some u -> h'.get? b = some u) (heo : ∃ u, h'.get? e = some u)
 (new : ZC P w (upd H x o') h' x o') : HOk P w (upd H x o') h' := λ b u q => by
 have nown : ∀ c y, H c = some (.own y) -> c ≠ x := λ c y r z => by subst z; rw [r] at mu; exact mu
 have ntup : ∀ c xs, H c = some (.tup xs) -> c ≠ x := λ c xs r z => by subst z; rw [r] at mu; exact mu
 by_cases hb : b = x
 · subst hb; rw [xQ] at q; cases q; exact new
 · rw [yO hb] at q
   by_cases hbe : b = e
   · have q' : H b = some (.own x) := by
      rcases he with z | z
      · exact absurd (hbe.trans z) hb
      · rw [hbe]; exact z
     rw [q] at q'; cases q'
     obtain ⟨v, hv⟩ := heo
     exact ⟨v, by rw [hbe]; exact hv⟩
   · refine (ok b u q).stay (λ c v hc r => k c v ?_ r) (λ c r => by rw [yO (nown c b r)]; exact r) λ c xs r => by rw [yO (ntup c xs r)]; exact r
     rcases hc with rfl | hc
     · exact hbe
     · rintro rfl
       rcases he with z | z
       · exact nown c b hc z
       · rw [hc] at z; cases z; exact hb rfl
end
structure Un (fs ex : List Addr) (H H' : Hp) (h h' : Heap) : Prop where
 keep : ∀ b o, h.get? b = some o -> H b = none -> b ∉ fs -> b ∉ ex -> h'.get? b = some o
 slot : ∀ b o, h.get? b = some o -> H b = none -> b ∈ fs -> b ∉ ex -> ∃ sl, h'.get? b = some { o with slots := sl }
 free : ∀ b o, h.get? b = some o -> H b = none -> b ∉ ex -> H' b = none
 there : ∀ b o, h.get? b = some o -> b ∉ ex -> ∃ o', h'.get? b = some o'
 tups : ∀ b xs, H b = some (.tup xs) -> H' b = some (.tup xs)
 frzs : ∀ b o u, H b = some (.frz o u) -> H' b = some (.frz o u)
 tbls : ∀ b ps, H b = some (.tbl ps) -> ∃ more, H' b = some (.tbl (ps ++ more))
section
variable {fs fs' ex ex' : List Addr} {H H1 H2 : Hp} {h h1 h2 h' : Heap} {a x e : Addr} {o : HO}
theorem Un.any (u : Un fs ex H H1 h h1) (q : h.get? b = some ob) (n : H b = none) (hx : b ∉ ex) : ∃ sl, h1.get? b = some { ob with slots := sl } := by
 by_cases hb : b ∈ fs
 · exact u.slot b ob q n hb hx
 · exact ⟨ob.slots, u.keep b ob q n hb hx⟩
theorem Un.kept (k : ∀ b u, h.get? b = some u -> h'.get? b = some u) : Un fs ex H H h h' :=
 ⟨λ b ob q _ _ _ => k b ob q, λ b ob q _ _ _ => ⟨ob.slots, k b ob q⟩, λ _ _ _ n _ => n, λ b ob q _ => ⟨ob, k b ob q⟩, λ _ _ q => q, λ _ _ _ q => q, λ _ ps q => ⟨#[], by rw [q]; simp⟩⟩
theorem Un.refl : Un fs ex H H h h := Un.kept λ _ _ q => q
theorem Un.laid (k : ∀ b u, h.get? b = some u -> h'.get? b = some u) (hp : h.objs.size <= a) (hn : H a = none) : Un fs ex H (upd H a o) h h' where
 keep := λ b u q _ _ _ => k b u q
 slot := λ b u q _ _ _ => ⟨u.slots, k b u q⟩
 free := λ b u q n _ => by rw [yO (zzO (zzI (Heap.lt_size q) hp))]; exact n
 there := λ b u q _ => ⟨u, k b u q⟩
 tups := λ b xs q => by rw [yO (xU q hn)]; exact q
 frzs := λ b u xs q => by rw [yO (xU q hn)]; exact q
 tbls := λ b ps q => ⟨#[], by rw [yO (xU q hn), q]; simp⟩
theorem Un.write (mu : Mut (H x)) (he : e = x \/ H e = some (.own x)) (k : ∀ b u, b ≠ e -> h.get? b = some u -> h'.get? b = some u) (heo : ∃ u, h'.get? e = some u) : Un fs ex H (upd H x o) h h' := by
 have hx : ∀ b, H b = none -> b ≠ x := λ b n z => by subst z; rw [n] at mu; exact mu
 have hb : ∀ b, H b = none -> b ≠ e := λ b n z => by
  subst z
  rcases he with r | r
  · exact hx b n r
  · rw [n] at r; cases r
 have hm : ∀ b u, H b = some u -> ¬ Mut (some u) -> b ≠ x := λ b u q nm z => by subst z; rw [q] at mu; exact nm mu
 refine ⟨λ b u q n _ _ => k b u (hb b n) q, λ b u q n _ _ => ⟨u.slots, k b u (hb b n) q⟩, λ b u q n _ => by rw [yO (hx b n)]; exact n, λ b u q _ => ?_,
  λ b xs q => by rw [yO (hm b _ q λ z => z)]; exact q, λ b u xs q => by rw [yO (hm b _ q λ z => z)]; exact q, λ b ps q => ⟨#[], by rw [yO (hm b _ q λ z => z), q]; simp⟩⟩
 by_cases hbe : b = e
 · subst hbe; exact heo
 · exact ⟨u, k b u hbe q⟩
end
def trk (h : Heap) (H : Hp) : List Addr := (List.range h.objs.size).filter λ a => (H a).isSome
def zhx (h : Heap) (H : Hp) : Heap := PySem.W.hideAll h (trk h H)
theorem zlq (h : Heap) (H : Hp) : (zhx h H).objs.size = h.objs.size := PySem.W.hideAll_size _ _
theorem znv (e : h.get? b = some o) (n : H b = none) : (zhx h H).get? b = some o :=
 PySem.W.hideAll_get _ e λ hm => by
  have q : (H b).isSome = true := (List.mem_filter.mp hm).2
  rw [n] at q; simp at q
theorem zox (e : (zhx h H).get? b = some o) : h.get? b = some o /\ H b = none := by
 have e' : h.get? b = some o := PySem.W.of_hideAll (trk h H) e
 refine ⟨e', ?_⟩
 cases q : H b with
 | none => rfl
 | some x =>
  have hm : b ∈ trk h H := List.mem_filter.mpr ⟨List.mem_range.mpr (Heap.lt_size e'), by simp [q]⟩
  have z : (zhx h H).get? b = none := PySem.W.hideAll_none (trk h H) hm
  rw [z] at e; cases e
end L2
namespace L2
open PySem PySem.Spec PyProof.Rows
structure Mod (K : zD) (mg : Str -> Option Value) (base : Heap) : Prop where
 kin : K.In base
 glob : base.Ns mainGlobals mg
 blt : ∃ mb, base.Ns builtinsNs mb /\ ∀ x : Str, x ≠ "__name__" -> mb x = bootBuiltins x
 nolimit : base.NoLimit
structure Cx where
 prog : Program
 w : World
 K : zD
 mg : Str -> Option Value
 base : Heap
 A : Around
 N : List Str
 s₀ : Shared
 H₀ : Hp
 env : Env
 outer : List Env
 stack : List Env
 ex : List Addr
 fn : Str -> Bool
 calm : Bool
 pn : List (Addr × Obj)
 xe : Value -> Shared -> Prop
def frs (l : List Env) : List Addr := l.filterMap (·.frame)
abbrev Cx.fs (X : Cx) : List Addr := frs X.outer
def Vis (sc : Scope) (x : Str) : Prop := sc.names.lookup x = some .local \/ sc.names.lookup x = some .cell \/ sc.names.lookup x = some .free
def Loc (sc : Scope) (x : Str) : Prop := sc.names.lookup x = some .local \/ sc.names.lookup x = some .cell
def Look (env : Env) (h : Heap) (m : Str -> Option Value) (x : Str) (u : Value) : Prop :=
 (env.kindOf x = some .local /\ m x = some u) \/ ((env.kindOf x = some .cell \/ env.kindOf x = some .free) /\ ∃ c, env.cells.lookup x = some c /\ h.IsCell c (some u))
structure Cx.Ok (X : Cx) : Prop where
 mod : Mod X.K X.mg X.base
 kind : X.env.scope.kind = .function
 glob : X.env.globals = mainGlobals
 blt : X.env.builtins = builtinsNs
 above : X.s₀.heap.objs.size <= X.env.locals
 inj : ∀ x y c, X.env.cells.lookup x = some c -> X.env.cells.lookup y = some c -> x = y
 has : ∀ x, (X.env.kindOf x = some .cell \/ X.env.kindOf x = some .free) -> ∃ c, X.env.cells.lookup x = some c
 cab : ∀ x c, X.fn x = true -> X.env.cells.lookup x = some c -> X.s₀.heap.objs.size <= c
 hd : X.calm = true -> X.A.handled = none
 frames : X.A.frames = some X.stack
 stk : X.stack = X.outer \/ (X.stack = X.env :: X.outer /\ X.env.frame = some X.env.locals)
 exf : ∀ b ∈ X.ex, b ≠ X.env.locals /\ ∀ x c, X.env.cells.lookup x = some c -> c ≠ b
 bs : ∀ b o, X.base.get? b = some o -> X.s₀.heap.get? b = some o /\ X.H₀ b = none
 bsz : X.base.objs.size <= X.s₀.heap.objs.size
 noex : ∀ b o, X.base.get? b = some o -> b ∉ X.ex
 exfs : ∀ b ∈ X.ex, b ∉ X.fs
 funs : X.s₀.heap.FunFrames X.base X.outer
 frf : ∀ b ∈ X.fs, X.H₀ b = none
structure Inv (X : Cx) (pins : List (Addr × Obj)) (σ : List (Option V)) (H : Hp) (s : Shared) : Prop where
 ok : X.Ok
 os : s.os = X.s₀.os
 bare : AllBare s.gens
 base : Un X.fs X.ex X.H₀ H X.s₀.heap s.heap
 loc : ∃ m, s.heap.Ns X.env.locals m /\ ∀ (i : Nat) (x : Str) (v : V), X.N[i]? = some x -> σ[i]? = some (some v) -> Vis X.env.scope x -> ∃ u, RelV v u /\ Look X.env s.heap m x u
 cell : ∀ x c, X.env.cells.lookup x = some c -> ∃ v, s.heap.IsCell c v
 free : H X.env.locals = none
 freeC : ∀ x c, X.env.cells.lookup x = some c -> H c = none
 pin : ∀ p ∈ X.pn ++ pins, s.heap.get? p.1 = some p.2 /\ H p.1 = none /\ p.1 ≠ X.env.locals /\ p.1 ∉ X.fs /\ ∀ v, p.2.data ≠ .cell v
 hok : HOk X.prog X.w H s.heap
 len : σ.length = X.N.length
section
variable {X : Cx} {pins : List (Addr × Obj)} {σ : List (Option V)} {H H' : Hp} {s : Shared} {h' : Heap}
theorem Cx.Ok.nofr (ok : X.Ok) (e : X.base.get? b = some o) : b ∉ X.fs := λ hb => by
 have := (ok.funs.mem hb).1
 rw [e] at this; cases this
theorem Inv.bs (I : Inv X pins σ H s) : ∀ b o, X.base.get? b = some o -> s.heap.get? b = some o /\ H b = none := λ b o e =>
 ⟨I.base.keep b o (I.ok.bs b o e).1 (I.ok.bs b o e).2 (I.ok.nofr e) (I.ok.noex b o e), I.base.free b o (I.ok.bs b o e).1 (I.ok.bs b o e).2 (I.ok.noex b o e)⟩
theorem Inv.bk (I : Inv X pins σ H s) : ∀ b o, X.base.get? b = some o -> s.heap.get? b = some o := λ b o e => (I.bs b o e).1
theorem Inv.mod (I : Inv X pins σ H s) : Mod X.K X.mg X.base := I.ok.mod
theorem Inv.kIn (I : Inv X pins σ H s) : X.K.In s.heap := I.ok.mod.kin.keeps I.bk
theorem Inv.lt (I : Inv X pins σ H s) : X.env.locals < s.heap.objs.size := let ⟨_, hn, _⟩ := I.loc; hn.lt
theorem Inv.sz (I : Inv X pins σ H s) : X.s₀.heap.objs.size <= s.heap.objs.size := zzM I.ok.above (Nat.le_of_lt I.lt)
theorem Inv.nofs (I : Inv X pins σ H s) (h : s.heap.objs.size <= a) : a ∉ X.fs := λ hb => by
 obtain ⟨_, o, ho, _⟩ := I.ok.funs.mem hb
 exact absurd (zzI (Heap.lt_size ho) (zzM I.sz h)) (Nat.lt_irrefl _)
theorem Inv.cne (I : Inv X pins σ H s) : ∀ x c, X.env.cells.lookup x = some c -> c ≠ X.env.locals := λ x c e z => by
 obtain ⟨v, o, ho, hd⟩ := I.cell x c e
 obtain ⟨m, ⟨o', es, ep, ho', hd', _⟩, _⟩ := I.loc
 rw [z, ho'] at ho; cases ho; rw [hd'] at hd; cases hd
theorem Inv.funs (I : Inv X pins σ H s) : s.heap.FunFrames X.base X.outer := by
 have all : ∀ (l : List Env), (∀ b ∈ frs l, b ∈ X.fs) -> X.s₀.heap.FunFrames X.base l -> s.heap.FunFrames X.base l := by
  intro l
  induction l with
  | nil => intro _ _; trivial
  | cons env r ih =>
   intro hs hl
   obtain ⟨hk, ⟨L, o, hf, hn, ho, hd⟩, hr⟩ := hl
   have hL : L ∈ X.fs := hs L (by unfold frs; rw [List.filterMap_cons, hf]; exact zzD)
   obtain ⟨sl, e⟩ := I.base.slot L o ho (I.ok.frf L hL) hL λ z => I.ok.exfs L z hL
   exact ⟨hk, ⟨L, _, hf, hn, e, hd⟩, ih (λ b hb => hs b (by unfold frs; rw [List.filterMap_cons, hf]; exact zzB _ hb)) hr⟩
 exact all X.outer (λ _ hb => hb) I.ok.funs
theorem Inv.stack (I : Inv X pins σ H s) : s.heap.FunFrames X.base X.stack := by
 rcases I.ok.stk with e | ⟨e, hf⟩
 · rw [e]; exact I.funs
 · rw [e]
   obtain ⟨m, hn, _⟩ := I.loc
   refine .cons (by rw [I.ok.kind]; decide) hf hn ?_ I.funs
   exact Heap.get?_none_of_le (zzM I.ok.bsz I.ok.above)
theorem Inv.stkSub (I : Inv X pins σ H s) : ∀ b ∈ frs X.stack, b ∈ X.env.locals :: X.fs := λ b hb => by
 rcases I.ok.stk with e | ⟨e, hf⟩
 · rw [e] at hb; exact zzB _ hb
 · rw [e] at hb
   unfold frs at hb
   rw [List.filterMap_cons, hf] at hb
   exact hb
theorem Inv.stkFree (I : Inv X pins σ H s) : ∀ b ∈ frs X.stack, H b = none := λ b hb => by
 rcases zzA.mp (I.stkSub b hb) with e | hb
 · rw [e]; exact I.free
 · obtain ⟨_, o, ho, _⟩ := I.ok.funs.mem hb
   exact I.base.free b o ho (I.ok.frf b hb) λ z => I.ok.exfs b z hb
theorem Inv.step {g' : Array GenState} {t' : Nat} {d' : Drawn} {ch : List Addr} (I : Inv X pins σ H s)
 (hch : ∀ b ∈ ch, (b ∈ X.ex \/ X.s₀.heap.objs.size <= b) /\ b ≠ X.env.locals /\ (∀ x c, X.env.cells.lookup x = some c -> c ≠ b) /\ ∀ p ∈ X.pn ++ pins, p.1 ≠ b)
 (keep : ∀ b o, b ≠ X.env.locals -> b ∉ X.fs -> b ∉ ch -> s.heap.get? b = some o -> H b = none -> h'.get? b = some o)
 (slot : ∀ b o, b ≠ X.env.locals -> b ∈ X.fs -> b ∉ ch -> s.heap.get? b = some o -> H b = none -> ∃ sl, h'.get? b = some { o with slots := sl }) (free : ∀ b o, b ∉ ch -> s.heap.get? b = some o -> H b = none -> H' b = none)
 (there : ∀ b o, b ∉ ch -> s.heap.get? b = some o -> ∃ o', h'.get? b = some o')
 (tups : ∀ b xs, H b = some (.tup xs) -> H' b = some (.tup xs)) (frzs : ∀ b o u, H b = some (.frz o u) -> H' b = some (.frz o u)) (tbls : ∀ b ps, H b = some (.tbl ps) -> ∃ more, H' b = some (.tbl (ps ++ more)))
 (ns : ∀ m, s.heap.Ns X.env.locals m -> h'.Ns X.env.locals m) (hok : HOk X.prog X.w H' h') (hg : AllBare g') :
 Inv X pins σ H' { s with heap := h', gens := g', drawn := d', toks := t' } := by
 have neL : ∀ b o, X.s₀.heap.get? b = some o -> b ≠ X.env.locals := λ b o e => zzO (zzI (Heap.lt_size e) I.ok.above)
 have neC : ∀ b o, X.s₀.heap.get? b = some o -> b ∉ X.ex -> b ∉ ch := λ b o e hx hb => by
  rcases (hch b hb).1 with z | z
  · exact hx z
  · exact absurd (zzI (Heap.lt_size e) z) (Nat.lt_irrefl _)
 have cellK : ∀ x c, X.env.cells.lookup x = some c -> ∀ v, s.heap.IsCell c v -> h'.IsCell c v := λ x c e v ⟨o, ho, hd⟩ => by
  have nch : c ∉ ch := λ z => (hch c z).2.2.1 x c e rfl
  by_cases hc : c ∈ X.fs
  · obtain ⟨sl, q⟩ := slot c o (I.cne x c e) hc nch ho (I.freeC x c e)
    exact ⟨_, q, hd⟩
  · exact ⟨o, keep c o (I.cne x c e) hc nch ho (I.freeC x c e), hd⟩
 refine ⟨I.ok, I.os, hg, ⟨λ b o e n hb hx => ?_, λ b o e n hb hx => ?_, λ b o e n hx => ?_, λ b o e hx => ?_, λ b xs e => tups b xs (I.base.tups b xs e), λ b o xs e => frzs b o xs (I.base.frzs b o xs e), λ b ps e => ?_⟩, ?_, λ x c e => ?_, ?_, λ x c e => ?_, λ p hp => ?_, hok, I.len⟩
 · exact keep b o (neL b o e) hb (neC b o e hx) (I.base.keep b o e n hb hx) (I.base.free b o e n hx)
 · obtain ⟨sl, e1⟩ := I.base.slot b o e n hb hx
   obtain ⟨sl', e2⟩ := slot b _ (neL b o e) hb (neC b o e hx) e1 (I.base.free b o e n hx)
   exact ⟨sl', e2⟩
 · obtain ⟨o', e1⟩ := I.base.there b o e hx
   exact free b o' (neC b o e hx) e1 (I.base.free b o e n hx)
 · obtain ⟨o', e1⟩ := I.base.there b o e hx
   exact there b o' (neC b o e hx) e1
 · obtain ⟨m1, e1⟩ := I.base.tbls b ps e
   obtain ⟨m2, e2⟩ := tbls b _ e1
   exact ⟨m1 ++ m2, by rw [e2, Array.append_assoc]⟩
 · obtain ⟨m, hn, hl⟩ := I.loc
   refine ⟨m, ns m hn, λ i x v e1 e2 e3 => ?_⟩
   obtain ⟨u, r, l⟩ := hl i x v e1 e2 e3
   refine ⟨u, r, ?_⟩
   rcases l with l | ⟨k, c, e, z⟩
   · exact .inl l
   · exact .inr ⟨k, c, e, cellK x c e _ z⟩
 · obtain ⟨v, z⟩ := I.cell x c e
   exact ⟨v, cellK x c e v z⟩
 · obtain ⟨m, ⟨o, _, _, ho, _⟩, _⟩ := I.loc
   exact free _ o (λ z => (hch _ z).2.1 rfl) ho I.free
 · obtain ⟨v, o, ho, hd⟩ := I.cell x c e
   exact free c o (λ z => (hch c z).2.2.1 x c e rfl) ho (I.freeC x c e)
 · obtain ⟨e, n, ne, nf, d⟩ := I.pin p hp
   have nch : p.1 ∉ ch := λ z => (hch p.1 z).2.2.2 p hp rfl
   exact ⟨keep p.1 p.2 ne nf nch e n, free p.1 p.2 nch e n, ne, nf, d⟩
theorem Inv.un {t' : Nat} (I : Inv X pins σ H s) (u : Un X.fs [] H H' s.heap h') (hok : HOk X.prog X.w H' h') : Inv X pins σ H' { s with heap := h', toks := t' } := by
 obtain ⟨m, ⟨o, es, ep, ho, r⟩, _⟩ := id I.loc
 obtain ⟨sl, hL⟩ := u.any ho I.free (by simp)
 exact I.step (g' := s.gens) (d' := s.drawn) (ch := []) (λ _ z => nomatch z) (λ b o _ hb _ e n => u.keep b o e n hb (by simp)) (λ b o _ hb _ e n => u.slot b o e n hb (by simp)) (λ b o _ e n => u.free b o e n (by simp)) (λ b o _ e => u.there b o e (by simp)) u.tups u.frzs u.tbls (λ m' hm => by
  obtain ⟨o', es', ep', ho', r'⟩ := hm
  rw [ho] at ho'; cases ho'
  exact ⟨_, es', ep', hL, r'⟩) hok I.bare
theorem Inv.call {g' : Array GenState} {t' : Nat} {d' : Drawn} {ch : List Addr} (I : Inv X pins σ H s) (u : Un (frs X.stack) ch H H' s.heap h') (hok : HOk X.prog X.w H' h') (hg : AllBare g')
 (hch : ∀ b ∈ ch, (b ∈ X.ex \/ X.s₀.heap.objs.size <= b) /\ b ≠ X.env.locals /\ (∀ x c, X.env.cells.lookup x = some c -> c ≠ b) /\ ∀ p ∈ X.pn ++ pins, p.1 ≠ b) :
 Inv X pins σ H' { s with heap := h', gens := g', drawn := d', toks := t' } := by
 obtain ⟨m, ⟨o, es, ep, ho, r⟩, _⟩ := id I.loc
 obtain ⟨sl, hL⟩ := u.any ho I.free λ z => (hch _ z).2.1 rfl
 exact I.step (ch := ch) hch (λ b o hL hb hc e n => u.keep b o e n (λ z => (zzA.mp (I.stkSub b z)).elim hL hb) hc) (λ b o _ _ hc e n => u.any e n hc) (λ b o hc e n => u.free b o e n hc) (λ b o hc e => u.there b o e hc) u.tups u.frzs u.tbls (λ m' hm => by
  obtain ⟨o', es', ep', ho', r'⟩ := hm
  rw [ho] at ho'; cases ho'
  exact ⟨_, es', ep', hL, r'⟩) hok hg
theorem Inv.turned {t' : Nat} {it : Addr} (I : Inv X pins σ H s) (k : ∀ b o, b ≠ it -> s.heap.get? b = some o -> h'.get? b = some o) (hn : H it = none) (hL : it ≠ X.env.locals)
 (h1 : it ∈ X.ex \/ X.s₀.heap.objs.size <= it) (h2 : ∀ x c, X.env.cells.lookup x = some c -> c ≠ it) (h3 : ∀ p ∈ X.pn ++ pins, p.1 ≠ it) : Inv X pins σ H { s with heap := h', toks := t' } := by
 have nit : ∀ b u, H b = some u -> b ≠ it := λ b u e z => by rw [z, hn] at e; cases e
 refine I.step (g' := s.gens) (d' := s.drawn) (ch := [it]) (λ b hb => ?_) (λ b o _ _ hc e _ => k b o (λ z => hc (by simp [z])) e) (λ b o _ _ hc e _ => ⟨o.slots, k b o (λ z => hc (by simp [z])) e⟩) (λ _ _ _ _ n => n)
  (λ b o hc e => ⟨o, k b o (λ z => hc (by simp [z])) e⟩) (λ _ _ e => e) (λ _ _ _ e => e) (λ b ps e => ⟨#[], by rw [e]; simp⟩) (λ m hm => ?_) (λ b u e => ?_) I.bare
 · have e : b = it := by simpa using hb
   subst e
   exact ⟨h1, hL, h2, h3⟩
 · obtain ⟨o, es, ep, ho, r⟩ := hm
   exact ⟨o, es, ep, k _ o (Ne.symm hL) ho, r⟩
 · refine (I.hok b u e).stay (λ c v hc q => k c v ?_ q) (λ _ q => q) λ _ _ q => q
   rcases hc with z | z
   · rw [z]; exact nit b u e
   · exact nit c _ z
theorem Inv.tok (I : Inv X pins σ H s) (t : Nat) : Inv X pins σ H { s with toks := t } := I.un (h' := s.heap) (t' := t) Un.refl I.hok
theorem Inv.kept (I : Inv X pins σ H s) (k : ∀ b u, s.heap.get? b = some u -> h'.get? b = some u) : Inv X pins σ H { s with heap := h', toks := t' } := I.un (Un.kept k) (I.hok.kept k)
theorem Inv.laid (I : Inv X pins σ H s) (k : ∀ b u, s.heap.get? b = some u -> h'.get? b = some u) (hp : s.heap.objs.size <= a) (new : ZC X.prog X.w (upd H a o) h' a o) :
 Inv X pins σ (upd H a o) { s with heap := h', toks := t' } := I.un (Un.laid k hp (I.hok.fresh hp)) (I.hok.laid k hp new)
theorem Inv.write (I : Inv X pins σ H s) (mu : Mut (H x)) (he : e = x \/ H e = some (.own x)) (k : ∀ b u, b ≠ e -> s.heap.get? b = some u -> h'.get? b = some u) (heo : ∃ u, h'.get? e = some u)
 (new : ZC X.prog X.w (upd H x o) h' x o) : Inv X pins σ (upd H x o) { s with heap := h', toks := t' } := I.un (Un.write mu he k heo) (I.hok.write mu he k heo new)
theorem Inv.weak (I : Inv X pins σ H s) (hl : σ'.length = σ.length) (w : ∀ (i : Nat) v, σ'[i]? = some (some v) -> σ[i]? = some (some v)) : Inv X pins σ' H s :=
 ⟨I.ok, I.os, I.bare, I.base, let ⟨m, hn, hl'⟩ := I.loc; ⟨m, hn, λ i x v e1 e2 e3 => hl' i x v e1 (w i v e2) e3⟩, I.cell, I.free, I.freeC, I.pin, I.hok, hl.trans I.len⟩
theorem Inv.pins_of (I : Inv X pins σ H s) (h : ∀ p ∈ pins', s.heap.get? p.1 = some p.2 /\ H p.1 = none /\ p.1 ≠ X.env.locals /\ p.1 ∉ X.fs /\ ∀ v, p.2.data ≠ .cell v) : Inv X pins' σ H s :=
 ⟨I.ok, I.os, I.bare, I.base, I.loc, I.cell, I.free, I.freeC, λ p hp => (zzK.mp hp).elim (λ z => I.pin p (zzN _ z)) (h p), I.hok, I.len⟩
theorem ziX {N : List Str} (hN : N.Nodup) {i j : Nat} {x : Str} (a : N[i]? = some x) (b : N[j]? = some x) : i = j := by
 obtain ⟨h1, e1⟩ := zzE.mp a
 obtain ⟨h2, e2⟩ := zzE.mp b
 exact (List.getElem_inj hN).mp (e1.trans e2.symm)
theorem zgr {M : Model} {A : Around} {E : Value -> Shared -> Prop} {i : Nat} {x : Str} {v : V} {u : Value} {Q : Unit -> Shared -> Prop} (I : Inv X pins σ H s) (hN : X.N.Nodup) (hi : X.N[i]? = some x) (hx : Loc X.env.scope x) (r : RelV v u)
 (h : ∀ s', Inv X pins (σ.set i (some v)) H s' -> (∃ a, Heap.SameBut a s.heap s'.heap /\ (a = X.env.locals \/ X.env.cells.lookup x = some a)) -> Q () s') (hf : X.fn x = true \/ X.env.scope.names.lookup x = some .local := by first | exact .inl rfl | exact .inr rfl | assumption) : wpAny M A (storeName X.env x u) Q E s := by
 obtain ⟨m, hn, hl⟩ := id I.loc
 have hcls : (X.env.scope.kind == .class || (X.env.scope.kind == .module && X.env.locals != X.env.globals)) = false := by rw [I.ok.kind]; rfl
 have hiσ : i < σ.length := by rw [I.len]; exact (zzE.mp hi).1
 have cne := I.cne
 have tracked : ∀ {a : Addr} {h' : Heap}, (∃ o, s.heap.get? a = some o /\ H a = none) -> Heap.SameBut a s.heap h' -> HOk X.prog X.w H h' := λ {a h'} ha hs b ob e => by
  obtain ⟨_, _, hfree⟩ := ha
  refine (I.hok b ob e).stay (λ c w' hc q => (hs.2 c ?_).trans q) (λ _ q => q) λ _ _ q => q
  rintro rfl
  rcases hc with rfl | hc
  · rw [hfree] at e; cases e
  · rw [hfree] at hc; cases hc
 rcases hx with hk | hk
 · refine wpAny_storeName_local hk hn (λ h' hn' hs => ?_) hcls
   obtain ⟨oL, _, _, hoL, _⟩ := id hn
   refine h _ ⟨I.ok, I.os, I.bare, ⟨λ b o e n hb hx => ?_, λ b o e n hb hx => ?_, I.base.free, λ b o e hx => ?_, I.base.tups, I.base.frzs, I.base.tbls⟩, ⟨_, hn', λ j y v' e1 e2 e3 => ?_⟩, λ y c e => ?_, I.free, I.freeC, λ p hp => ?_, tracked ⟨oL, hoL, I.free⟩ hs, by simpa using I.len⟩ ⟨_, hs, .inl rfl⟩
   · exact (hs.2 b (zzO (zzI (Heap.lt_size e) I.ok.above))).trans (I.base.keep b o e n hb hx)
   · obtain ⟨sl, e1⟩ := I.base.slot b o e n hb hx
     exact ⟨sl, (hs.2 b (zzO (zzI (Heap.lt_size e) I.ok.above))).trans e1⟩
   · obtain ⟨o', e1⟩ := I.base.there b o e hx
     exact ⟨o', (hs.2 b (zzO (zzI (Heap.lt_size e) I.ok.above))).trans e1⟩
   · by_cases hj : j = i
     · subst hj
       rw [hi] at e1; cases e1
       rw [List.getElem?_set_self hiσ] at e2
       cases e2
       exact ⟨u, r, .inl ⟨hk, by simp⟩⟩
     · rw [zzW (Ne.symm hj)] at e2
       obtain ⟨u', r', q⟩ := hl j y v' e1 e2 e3
       refine ⟨u', r', ?_⟩
       rcases q with ⟨k, e⟩ | ⟨k, c, e, z⟩
       · refine .inl ⟨k, ?_⟩
         have : y ≠ x := λ e => hj (ziX hN e1 (e ▸ hi))
         simp [this, e]
       · exact .inr ⟨k, c, e, z.sameBut hs (cne y c e)⟩
   · obtain ⟨w', z⟩ := I.cell y c e
     exact ⟨w', z.sameBut hs (cne y c e)⟩
   · obtain ⟨e, n, ne, nf, d⟩ := I.pin p hp
     exact ⟨(hs.2 p.1 ne).trans e, n, ne, nf, d⟩
 · have hfn : X.fn x = true := by
    rcases hf with z | z
    · exact z
    · rw [z] at hk; cases hk
   obtain ⟨c, hc⟩ := I.ok.has x (.inl hk)
   obtain ⟨w', z⟩ := I.cell x c hc
   refine wpAny_storeName_cell I.ok.kind hk hc z (λ h' hc' hs => ?_)
   obtain ⟨oc, hoc, hocd⟩ := id z
   refine h { s with heap := h' } ⟨I.ok, I.os, I.bare, ⟨λ b o e n hb hx => ?_, λ b o e n hb hx => ?_, I.base.free, λ b o e hx => ?_, I.base.tups, I.base.frzs, I.base.tbls⟩, ⟨m, hn.sameBut hs (Ne.symm (cne x c hc)), λ j y v' e1 e2 e3 => ?_⟩, λ y c' e => ?_, I.free, I.freeC, λ p hp => ?_, tracked ⟨oc, hoc, I.freeC x c hc⟩ hs, by simpa using I.len⟩ ⟨c, hs, .inr hc⟩
   · exact (hs.2 b (zzO (zzI (Heap.lt_size e) (I.ok.cab x c hfn hc)))).trans (I.base.keep b o e n hb hx)
   · obtain ⟨sl, e1⟩ := I.base.slot b o e n hb hx
     exact ⟨sl, (hs.2 b (zzO (zzI (Heap.lt_size e) (I.ok.cab x c hfn hc)))).trans e1⟩
   · obtain ⟨o', e1⟩ := I.base.there b o e hx
     exact ⟨o', (hs.2 b (zzO (zzI (Heap.lt_size e) (I.ok.cab x c hfn hc)))).trans e1⟩
   · by_cases hj : j = i
     · subst hj
       rw [hi] at e1; cases e1
       rw [List.getElem?_set_self hiσ] at e2
       cases e2
       exact ⟨u, r, .inr ⟨.inl hk, c, hc, hc'⟩⟩
     · rw [zzW (Ne.symm hj)] at e2
       obtain ⟨u', r', q⟩ := hl j y v' e1 e2 e3
       refine ⟨u', r', ?_⟩
       rcases q with q | ⟨k, c', e, z'⟩
       · exact .inl q
       · refine .inr ⟨k, c', e, z'.sameBut hs ?_⟩
         rintro rfl
         exact hj (ziX hN e1 (I.ok.inj _ _ _ e hc ▸ hi))
   · by_cases hcc : c' = c
     · subst hcc; exact ⟨_, hc'⟩
     · obtain ⟨w2, z2⟩ := I.cell y c' e
       exact ⟨w2, z2.sameBut hs hcc⟩
   · obtain ⟨e, n, ne, nf, d⟩ := I.pin p hp
     refine ⟨(hs.2 p.1 ?_).trans e, n, ne, nf, d⟩
     intro q
     rw [q, hoc] at e
     have q' : oc = p.2 := Option.some.inj e
     exact d w' (by rw [<- q']; exact hocd)
theorem zcl (I : Inv X pins σ H s) (hN : X.N.Nodup) (hi : X.N[i]? = some x) (hx : Loc X.env.scope x) (r : RelV v u)
 (h : ∀ s', Inv X pins (σ.set i (some v)) H s' -> Q () s') (hf : X.fn x = true \/ X.env.scope.names.lookup x = some .local := by first | exact .inl rfl | exact .inr rfl | assumption) : wpAny M A (storeName X.env x u) Q E s :=
 zgr I hN hi hx r (λ s' I' _ => h s' I') hf
theorem Inv.call' (I : Inv X pins σ H s) (ho : s'.os = s.os) (u : Un (frs X.stack) ch H H' s.heap s'.heap) (hok : HOk X.prog X.w H' s'.heap) (hg : AllBare s'.gens)
 (hch : ∀ b ∈ ch, (b ∈ X.ex \/ X.s₀.heap.objs.size <= b) /\ b ≠ X.env.locals /\ (∀ x c, X.env.cells.lookup x = some c -> c ≠ b) /\ ∀ p ∈ X.pn ++ pins, p.1 ≠ b) : Inv X pins σ H' s' := by
 obtain ⟨h', g', d', t', o'⟩ := s'
 have e : o' = s.os := ho
 subst e
 exact I.call (g' := g') (t' := t') (d' := d') u hok hg hch
end
abbrev XK := Value -> Option Addr -> Hp -> Prop
abbrev St := List (Option V)
abbrev VK := V -> Hp -> Prop
abbrev TE := St -> Hp -> VK -> Prop
abbrev TT := St -> Hp -> (Bool -> Hp -> Prop) -> Prop
abbrev TA := St -> Hp -> (List V -> Hp -> Prop) -> Prop
structure Ends where
 nx : St -> Hp -> Prop
 rt : VK
 bk : St -> Hp -> Prop := λ _ _ => False
 ct : St -> Hp -> Prop := λ _ _ => False
abbrev TS := Ends -> St -> Hp -> Prop
def EP (X : Cx) (pins : List (Addr × Obj)) (σ : St) (Q : VK) (u : Value) (s' : Shared) : Prop := ∃ v H', Inv X pins σ H' s' /\ RelV v u /\ Q v H'
def TP (X : Cx) (pins : List (Addr × Obj)) (σ : St) (Q : Bool -> Hp -> Prop) (b : Bool) (s' : Shared) : Prop := ∃ H', Inv X pins σ H' s' /\ Q b H'
def AP (X : Cx) (pins : List (Addr × Obj)) (σ : St) (Q : List V -> Hp -> Prop) (us : List Value) (s' : Shared) : Prop := ∃ vs H', Inv X pins σ H' s' /\ Vals vs us /\ Q vs H'
def SP (X : Cx) (pins : List (Addr × Obj)) (D : Ends) (f : Flow) (s' : Shared) : Prop :=
 match f with
 | .next => ∃ σ' H', Inv X pins σ' H' s' /\ D.nx σ' H'
 | .brk => ∃ σ' H', Inv X pins σ' H' s' /\ D.bk σ' H'
 | .cont => ∃ σ' H', Inv X pins σ' H' s' /\ D.ct σ' H'
 | .ret u => ∃ v σ' H', Inv X pins σ' H' s' /\ RelV v u /\ D.rt v H'
def PE (X : Cx) (e : Expr) (t : TE) : Prop :=
 ∀ (pins : List (Addr × Obj)) (s : Shared) (σ : St) (H : Hp) (Q : VK), Inv X pins σ H s -> t σ H Q -> wpAny (model X.prog X.w) X.A (eval e X.env) (EP X pins σ Q) X.xe s
def PT (X : Cx) (e : Expr) (t : TT) : Prop :=
 ∀ (pins : List (Addr × Obj)) (s : Shared) (σ : St) (H : Hp) (Q : Bool -> Hp -> Prop), Inv X pins σ H s -> t σ H Q -> wpAny (model X.prog X.w) X.A (isTrue e X.env (eval e X.env)) (TP X pins σ Q) X.xe s
def PW (X : Cx) (e : Expr) (t : TT) : Prop :=
 ∀ (whole : Sem Value) (pins : List (Addr × Obj)) (s : Shared) (σ : St) (H : Hp) (Q : Bool -> Hp -> Prop), Inv X pins σ H s -> t σ H Q -> wpAny (model X.prog X.w) X.A (isTrue e X.env whole) (TP X pins σ Q) X.xe s
theorem PW.pt (h : PW X e t) : PT X e t := h _
def PA (X : Cx) (es : List Expr) (t : TA) : Prop :=
 ∀ (pos : Pos) (pins : List (Addr × Obj)) (s : Shared) (σ : St) (H : Hp) (Q : List V -> Hp -> Prop), Inv X pins σ H s -> t σ H Q -> wpAny (model X.prog X.w) X.A (spliced (backTo pos (starEach es X.env))) (AP X pins σ Q) X.xe s
def PS (X : Cx) (st : Stmt) (t : TS) : Prop :=
 ∀ (pins : List (Addr × Obj)) (s : Shared) (σ : St) (H : Hp) (D : Ends), Inv X pins σ H s -> t D σ H -> wpAny (model X.prog X.w) X.A (exec st X.env) (SP X pins D) X.xe s
def PSs (X : Cx) (st : List Stmt) (t : TS) : Prop :=
 ∀ (pins : List (Addr × Obj)) (s : Shared) (σ : St) (H : Hp) (D : Ends), Inv X pins σ H s -> t D σ H -> wpAny (model X.prog X.w) X.A (execs st X.env) (SP X pins D) X.xe s
theorem thn (h : wpAny M A t Q E s) (hQ : ∀ a s, Q a s -> Q' a s) : wpAny M A t Q' E s := wpAny_mono h hQ λ _ _ x => x
end L2
namespace L2
open PySem PySem.Spec PyProof.Rows
section
variable {X : Cx}
def zlt (i : Nat) : TE := λ σ H Q => ∃ v, σ[i]? = some (some v) /\ Q v H
def tC (v : V) : TE := λ _ H Q => Q v H
theorem zmq (hN : X.N[i]? = some x) (hv : Vis X.env.scope x) (hd : (x == ("__debug__" : Str)) = false := by decide) (hcd : (x == ("__classdict__" : Str)) = false := by decide) : PE X (.Name x pos) (zlt i) := by
 intro pins s σ H Q I h
 obtain ⟨v, e, h⟩ := h
 obtain ⟨m, hn, hl⟩ := I.loc
 obtain ⟨u, r, l⟩ := hl i x v hN e hv
 have fin : EP X pins σ Q u s := ⟨v, H, I, r, h⟩
 rcases l with ⟨hk, hm⟩ | ⟨hk, c, hc, hcell⟩
 · exact wpAny_Name (wpAny_loadName_local I.ok.kind hk hn hm fin) hd
 · rcases hk with hk | hk
   · exact wpAny_Name (wpAny_loadName_cell I.ok.kind hk hc hcell fin) hd
   · exact wpAny_Name (wpAny_loadName_free I.ok.kind hk hc hcell fin hcd) hd
theorem zmH : PE X (.Constant (.int i) j pos) (tC (.int i)) := λ _ _ _ H _ I h => wpAny_Constant_int ⟨.int i, H, I.tok _, ⟨_, rfl⟩, h⟩
theorem zsI : PE X (.Constant (.bool b) j pos) (tC (.bl b)) := λ _ _ _ H _ I h => Constant_bool ⟨.bl b, H, I, rfl, h⟩
theorem zrF : PE X (.Constant .none j pos) (tC .non) := λ _ _ _ H _ I h => Constant_none ⟨.non, H, I, rfl, h⟩
theorem zqc : PE X (.Constant (.str x) j pos) (tC (.str x)) := λ _ _ _ H _ I h => Calls.Constant_str ⟨.str x, H, I.tok _, ⟨_, rfl⟩, h⟩
def Gl (X : Cx) (x : Str) : Prop := X.env.kindOf x = some .globalImplicit
theorem zkU (I : Inv X pins σ H s) (hg : Gl X x) (hm : X.mg x = some u) (h : Q u s)
 (hd : (x == ("__debug__" : Str)) = false := by decide) : wpAny (model X.prog X.w) X.A (eval (.Name x pos) X.env) Q E s :=
 Calls.Name_function_global I.ok.kind hg (Calls.loadGlobal_global (by rw [I.ok.glob]; exact I.mod.glob.keeps I.bk) hm h) hd
theorem W8 (I : Inv X pins σ H s) (hg : Gl X x) (hm : X.mg x = none) (hv : bootBuiltins x = some u) (h : Q u s)
 (hn : x ≠ "__name__" := by decide) (hd : (x == ("__debug__" : Str)) = false := by decide) : wpAny (model X.prog X.w) X.A (eval (.Name x pos) X.env) Q E s := by
 obtain ⟨mb, h1, h2⟩ := I.mod.blt
 exact Calls.Name_function_global I.ok.kind hg (Calls.loadGlobal_builtin (by rw [I.ok.glob]; exact I.mod.glob.keeps I.bk) hm (by rw [I.ok.blt]; exact h1.keeps I.bk) ((h2 x hn).trans hv) h) hd
theorem zoU (hg : Gl X x) (hm : X.mg x = some u) (r : RelV v u) (hd : (x == ("__debug__" : Str)) = false := by decide) : PE X (.Name x pos) (tC v) :=
 λ _ _ _ H _ I h => zkU I hg hm ⟨v, H, I, r, h⟩ hd
theorem zor (hg : Gl X x) (hm : X.mg x = none) (hv : bootBuiltins x = some u) (r : RelV v u) (hn : x ≠ "__name__" := by decide) (hd : (x == ("__debug__" : Str)) = false := by decide) : PE X (.Name x pos) (tC v) :=
 λ _ _ _ H _ I h => W8 I hg hm hv ⟨v, H, I, r, h⟩ hn hd
variable {a b : Expr} {ta tb : TE} {pos : Pos}
variable {tA tB' : TT} {rest : List Expr}
def ztw (t u : TT) : TT := λ σ H Q => t σ H λ c H1 => if c = true then u σ H1 Q else Q false H1
def tOr (t u : TT) : TT := λ σ H Q => t σ H λ c H1 => if c = true then Q true H1 else u σ H1 Q
def ztk (t : TT) : TT := λ σ H Q => t σ H λ c H1 => Q (!c) H1
theorem zoL (ha : PT X a tA) : PW X (.BoolOp .And [a] pos) tA := by
 intro wh pins s σ H Q I h
 refine isTrue_and (thn (ha pins s σ H Q I h) λ c s1 e => ?_)
 cases c with
 | true => exact isTrue_and_nil e
 | false => exact e
theorem zqK (ha : PT X a tA) : PW X (.BoolOp .Or [a] pos) tA := by
 intro wh pins s σ H Q I h
 refine isTrue_or (thn (ha pins s σ H Q I h) λ c s1 e => ?_)
 cases c with
 | false => exact isTrue_or_nil e
 | true => exact e
theorem zqq (ha : PT X a tA) (hb : PW X (.BoolOp .And (b :: rest) pos) tB') : PW X (.BoolOp .And (a :: b :: rest) pos) (ztw tA tB') := by
 intro wh pins s σ H Q I h
 refine isTrue_and (thn (ha pins s σ H _ I h) λ c s1 ⟨H1, I1, q1⟩ => ?_)
 cases c with
 | true => exact hb wh pins s1 σ H1 Q I1 q1
 | false => exact ⟨H1, I1, q1⟩
theorem zsf (ha : PT X a tA) (hb : PW X (.BoolOp .Or (b :: rest) pos) tB') : PW X (.BoolOp .Or (a :: b :: rest) pos) (tOr tA tB') := by
 intro wh pins s σ H Q I h
 refine isTrue_or (thn (ha pins s σ H _ I h) λ c s1 ⟨H1, I1, q1⟩ => ?_)
 cases c with
 | true => exact ⟨H1, I1, q1⟩
 | false => exact hb wh pins s1 σ H1 Q I1 q1
theorem zqZ (ha : PT X a tA) : PT X (.UnaryOp .Not a pos) (ztk tA) := by
 intro pins s σ H Q I h
 exact isTrue_not (ha pins s σ H (λ c H1 => Q (!c) H1) I h)
def zsh (ta tb : TE) : TE := λ σ H Q => ta σ H λ x H1 => ∃ c, x = .bl c /\ if c = true then tb σ H1 Q else Q (.bl false) H1
def zsK (ta : TE) : TE := λ σ H Q => ta σ H λ x H1 => ∃ c, x = .bl c /\ Q (.bl (!c)) H1
theorem zrC (h : PE X a t) : PE X (.BoolOp op [a] pos) t := λ pins s σ H Q I hw => BoolOp_one (h pins s σ H Q I hw)
theorem zqv (ha : PE X a ta) (hb : PE X (.BoolOp .And (b :: rest) pos) tb) : PE X (.BoolOp .And (a :: b :: rest) pos) (zsh ta tb) := by
 intro pins s σ H Q I h
 refine BoolOp_and (thn (ha pins s σ H _ I h) λ v s1 ⟨x, H1, I1, r1, q1⟩ => ?_)
 obtain ⟨c, rfl, q1⟩ := q1
 cases r1
 refine wpAny_truthy_bool ?_
 cases c with
 | true => exact hb pins s1 σ H1 Q I1 q1
 | false => exact ⟨.bl false, H1, I1, rfl, q1⟩
theorem zqJ (ha : PE X a ta) : PE X (.UnaryOp .Not a pos) (zsK ta) := by
 intro pins s σ H Q I h
 refine UnaryOp_ (thn (ha pins s σ H _ I h) λ v s1 ⟨x, H1, I1, r1, q1⟩ => ?_)
 obtain ⟨c, rfl, q1⟩ := q1
 cases r1
 exact not_of (wpAny_truthy_bool ⟨.bl (!c), H1, I1, rfl, q1⟩)
end
end L2
namespace L2
open PySem PySem.Spec PyProof.Rows
def SqL (K : zD) (H : Hp) (a : Addr) (xs : List V) : Prop :=
 Rd H a (.lst xs) \/
  ∃ (o : Obj) (its : Array Value) (n : Nat), K.lookup a = some o /\ o.cls = .type "list" /\ o.dict = none /\ o.data = .seq its n /\ its.size <= sizeLine /\ Vals xs its.toList
def RdL (K : zD) (H : Hp) (a : Addr) (xs : List V) : Prop :=
 Rd H a (.lst xs) \/ ∃ (its : Array Value) (n : Nat), K.lookup a = some { cls := .type "list", data := .seq its n } /\ its.size <= sizeLine /\ Vals xs its.toList
def SqT (K : zD) (H : Hp) (a : Addr) (xs : List V) : Prop :=
 Rd H a (.tup xs) \/
  ∃ (o : Obj) (its : Array Value) (n : Nat), K.lookup a = some o /\ o.cls = .type "tuple" /\ o.data = .seq its n /\ its.size <= sizeLine /\ Vals xs its.toList
def ztD : Value -> Option V
 | .none => some .non
 | .bool b => some (.bl b)
 | .int i _ => some (.int i)
 | .str x _ => some (.str x)
 | .bytes b _ => some (.byt b)
 | .float b _ => some (.flt b)
 | .ref a => some (.ref a)
 | .type n => some (.ty n)
 | _ => none
theorem RelV.abs (r : RelV x u) : ztD u = some x := by
 cases x with
 | non => cases r; rfl
 | bl _ => cases r; rfl
 | int _ => obtain ⟨t, rfl⟩ := r; rfl
 | str _ => obtain ⟨t, rfl⟩ := r; rfl
 | byt _ => obtain ⟨t, rfl⟩ := r; rfl
 | flt _ => obtain ⟨t, rfl⟩ := r; rfl
 | ref _ => cases r; rfl
 | ty _ => cases r; rfl
theorem RelV.inj (r : RelV x u) (q : RelV y u) : x = y := Option.some.inj (r.abs.symm.trans q.abs)
theorem Vals.inj : ∀ {xs ys : List V} {us : List Value}, Vals xs us -> Vals ys us -> xs = ys
 | _, _, _, .nil, .nil => rfl
 | _, _, _, .cons r t, .cons r' t' => by rw [r.inj r', Vals.inj t t']
section
variable {X : Cx} {pins : List (Addr × Obj)} {σ : St} {H : Hp} {s : Shared} {a : Addr} {xs ys : List V}
theorem Inv.list (I : Inv X pins σ H s) (h : SqL X.K H a xs) : ∃ its : List Value, Vals xs its /\ PlainL s.heap a its.toArray /\ xs.length <= sizeLine := by
 rcases h with h | ⟨o, its, n, hk, hc, hd, hs, hz, r⟩
 · obtain ⟨z, its, n, r, e⟩ := h.ok I.hok
   exact ⟨its, r, ⟨_, n, e, rfl, rfl, rfl⟩, z⟩
 · refine ⟨its.toList, r, ⟨o, n, I.kIn a o hk, hc, hd, by simpa using hs⟩, ?_⟩
   have e := r.length
   simp only [Array.length_toList] at e
   omega
theorem Inv.tuple (I : Inv X pins σ H s) (h : SqT X.K H a xs) : ∃ its : List Value, Vals xs its /\ IsTup s.heap a its.toArray /\ xs.length <= sizeLine := by
 rcases h with h | ⟨o, its, n, hk, hc, hs, hz, r⟩
 · obtain ⟨z, its, r, p⟩ := h.ok I.hok
   exact ⟨its, r, p, z⟩
 · refine ⟨its.toList, r, ⟨o, I.kIn a o hk, hc, n, by simpa using hs⟩, ?_⟩
   have e := r.length
   simp only [Array.length_toList] at e
   omega
theorem Inv.list_inj (I : Inv X pins σ H s) (h : SqL X.K H a xs) (h' : SqL X.K H a ys) : xs = ys := by
 obtain ⟨its, r, ⟨o, n, e, _, _, d⟩, _⟩ := I.list h
 obtain ⟨its', r', ⟨o', n', e', _, _, d'⟩, _⟩ := I.list h'
 rw [e] at e'; cases e'
 rw [d] at d'
 injection d' with d1 _
 have : its = its' := by simpa using congrArg Array.toList d1
 subst this
 exact r.inj r'
theorem Inv.tuple_inj (I : Inv X pins σ H s) (h : SqT X.K H a xs) (h' : SqT X.K H a ys) : xs = ys := by
 obtain ⟨its, r, ⟨o, e, _, n, d⟩, _⟩ := I.tuple h
 obtain ⟨its', r', ⟨o', e', _, n', d'⟩, _⟩ := I.tuple h'
 rw [e] at e'; cases e'
 rw [d] at d'
 injection d' with d1 _
 have : its = its' := by simpa using congrArg Array.toList d1
 subst this
 exact r.inj r'
end
abbrev Cx.wish (X : Cx) (E : Value -> Shared -> Prop) : Cx := { X with xe := E }
abbrev Cx.nox (X : Cx) : Cx := X.wish λ _ _ => False
theorem Cx.Ok.wish {X : Cx} (ok : X.Ok) (E : Value -> Shared -> Prop) : (X.wish E).Ok :=
 ⟨ok.mod, ok.kind, ok.glob, ok.blt, ok.above, ok.inj, ok.has, ok.cab, ok.hd, ok.frames, ok.stk, ok.exf, ok.bs, ok.bsz, ok.noex, ok.exfs, ok.funs, ok.frf⟩
theorem Cx.Ok.unwish {X : Cx} {E : Value -> Shared -> Prop} (ok : (X.wish E).Ok) : X.Ok :=
 ⟨ok.mod, ok.kind, ok.glob, ok.blt, ok.above, ok.inj, ok.has, ok.cab, ok.hd, ok.frames, ok.stk, ok.exf, ok.bs, ok.bsz, ok.noex, ok.exfs, ok.funs, ok.frf⟩
section
variable {X : Cx} {pins : List (Addr × Obj)} {σ : St} {H : Hp} {s : Shared} {E : Value -> Shared -> Prop}
theorem Inv.wish (I : Inv X pins σ H s) (E : Value -> Shared -> Prop) : Inv (X.wish E) pins σ H s := ⟨I.ok.wish E, I.os, I.bare, I.base, I.loc, I.cell, I.free, I.freeC, I.pin, I.hok, I.len⟩
theorem Inv.unwish (I : Inv (X.wish E) pins σ H s) : Inv X pins σ H s := ⟨I.ok.unwish, I.os, I.bare, I.base, I.loc, I.cell, I.free, I.freeC, I.pin, I.hok, I.len⟩
theorem SP.unwish (h : SP (X.wish E) pins D f s') : SP X pins D f s' := by
 cases f with
 | next => obtain ⟨σ', H', I, q⟩ := h; exact ⟨σ', H', I.unwish, q⟩
 | brk => obtain ⟨σ', H', I, q⟩ := h; exact ⟨σ', H', I.unwish, q⟩
 | cont => obtain ⟨σ', H', I, q⟩ := h; exact ⟨σ', H', I.unwish, q⟩
 | ret u => obtain ⟨v, σ', H', I, r, q⟩ := h; exact ⟨v, σ', H', I.unwish, r, q⟩
theorem PSs.nox {st : List Stmt} {t : TS} (h : PSs X.nox st t) : PSs X st t := λ pins s σ H D I hw =>
 wpAny_mono (h pins s σ H D (I.wish _) hw) (λ _ _ q => q.unwish) λ _ _ z => False.elim z
end
section
variable {X : Cx} {st : Stmt} {rest : List Stmt} {t u : TS} {e : Expr} {te : TE} {pos : Pos}
def zss : TS := λ D σ H => D.nx σ H
def zsX (t u : TS) : TS := λ D σ H => t { D with nx := u D } σ H
theorem zoW : PSs X [] zss := λ _ _ σ H _ I h => wpAny_execs_nil ⟨σ, H, I, h⟩
theorem zlZ (h1 : PS X st t) (h2 : PSs X rest u) : PSs X (st :: rest) (zsX t u) := by
 intro pins s σ H D I h
 refine wpAny_execs_cons (thn (h1 pins s σ H { D with nx := u D } I h) λ f s1 q => ?_)
 cases f with
 | next =>
  obtain ⟨σ', H', I', q⟩ := q
  exact h2 pins s1 σ' H' D I' q
 | ret v => exact q
 | brk => exact q
 | cont => exact q
theorem zoO (h1 : PS X st t) : PSs X [st] t := by
 intro pins s σ H D I h
 refine wpAny_execs_cons (thn (h1 pins s σ H D I h) λ f s1 q => ?_)
 cases f with
 | next => exact wpAny_execs_nil q
 | ret v => exact q
 | brk => exact q
 | cont => exact q
theorem Inv.quiet (I : Inv X pins σ H s) : interactive X.env = false := by simp [interactive, I.ok.kind]
def zsy (te : TE) : TS := λ D σ H => te σ H λ _ H1 => D.nx σ H1
theorem zoi (he : PE X e te) (hs : swapsWith e none pos.line X.env = pure false := by rfl) : PS X (.Expr e pos) (zsy te) := by
 intro pins s σ H D I h
 exact wpAny_Expr_any (thn (he pins s σ H _ I h) λ v s1 ⟨x, H1, I1, r1, q1⟩ => ⟨σ, H1, I1, q1⟩) I.quiet hs
def ztE (te : TE) : TS := λ D σ H => te σ H D.rt
theorem zpZ (he : PE X e te) : PS X (.Return (some e) pos) (ztE te) := by
 intro pins s σ H D I h
 exact wpAny_Return_some (thn (he pins s σ H _ I h) λ v s1 ⟨x, H1, I1, r1, q1⟩ => ⟨x, σ, H1, I1, r1, q1⟩)
def ztg (c : TT) (t u : TS) : TS := λ D σ H => c σ H λ b H1 => if b = true then t D σ H1 else u D σ H1
theorem zsL (hc : PT X c tc) (ha : PSs X a t) (hb : PSs X b u) : PS X (.If c a b pos) (ztg tc t u) := by
 intro pins s σ H D I h
 refine wpAny_If (thn (hc pins s σ H _ I h) λ d s1 ⟨H1, I1, q1⟩ => ?_)
 cases d with
 | true => exact ha pins s1 σ H1 D I1 q1
 | false => exact hb pins s1 σ H1 D I1 q1
end
abbrev TG := V -> St -> Hp -> (St -> Hp -> Prop) -> Prop
abbrev TGs := List V -> St -> Hp -> (St -> Hp -> Prop) -> Prop
def PG (X : Cx) (target : Expr) (t : TG) : Prop :=
 ∀ (pins : List (Addr × Obj)) (s : Shared) (σ : St) (H : Hp) (v : V) (u : Value) (Q : St -> Hp -> Prop), Inv X pins σ H s -> RelV v u -> t v σ H Q ->
  wpAny (model X.prog X.w) X.A (assign target X.env u) (λ _ s' => ∃ σ' H', Inv X pins σ' H' s' /\ Q σ' H') X.xe s
def PGs (X : Cx) (ts : List Expr) (t : TGs) : Prop :=
 ∀ (pins : List (Addr × Obj)) (s : Shared) (σ : St) (H : Hp) (vs : List V) (us : List Value) (Q : St -> Hp -> Prop), Inv X pins σ H s -> Vals vs us -> t vs σ H Q ->
  wpAny (model X.prog X.w) X.A (assignInOrder ((assignEach ts X.env).map (·.2)) us) (λ _ s' => ∃ σ' H', Inv X pins σ' H' s' /\ Q σ' H') X.xe s
abbrev zrH := V -> V -> V -> Hp -> (Hp -> Prop) -> Prop
def zrL (X : Cx) (t : zrH) : Prop :=
 ∀ (pins : List (Addr × Obj)) (s : Shared) (σ : St) (H : Hp) (o i v : V) (ov iv u : Value) (Q : Hp -> Prop), Inv X pins σ H s -> RelV o ov -> RelV i iv -> RelV v u -> t o i v H Q ->
  wpAny (model X.prog X.w) X.A (setItem ov iv u) (λ _ s' => ∃ H', Inv X pins σ H' s' /\ Q H') X.xe s
section
variable {X : Cx} {pos : Pos}
def zhW (i : Nat) : TG := λ v σ H Q => Q (σ.set i (some v)) H
theorem zoe (hN : X.N.Nodup) (hi : X.N[i]? = some x) (hx : Loc X.env.scope x) (hf : X.fn x = true \/ X.env.scope.names.lookup x = some .local := by first | exact .inl rfl | exact .inr rfl | assumption) : PG X (.Name x pos) (zhW i) := by
 intro pins s σ H v u Q I r h
 exact wpAny_assign_Name (zcl I hN hi hx r (λ s' I' => ⟨_, H, I', h⟩) hf)
def zsU : TGs := λ vs σ H Q => vs = [] /\ Q σ H
def zsG (t : TG) (u : TGs) : TGs := λ vs σ H Q => ∃ v r, vs = v :: r /\ t v σ H λ σ' H' => u r σ' H' Q
theorem znV : PGs X [] zsU := by
 intro pins s σ H vs us Q I r h
 obtain ⟨e, h⟩ := h
 subst e
 cases r
 exact assignInOrder_nil ⟨σ, H, I, h⟩
theorem znp (h1 : PG X e t) (h2 : PGs X es u)
 (hs : (assignEach (e :: es) X.env).map (·.2) = assign e X.env :: (assignEach es X.env).map (·.2) := by rfl) : PGs X (e :: es) (zsG t u) := by
 intro pins s σ H vs us Q I r h
 obtain ⟨v, vr, e1, h⟩ := h
 subst e1
 cases r with
 | cons r rr =>
  rw [hs]
  refine assignInOrder_cons (thn (h1 pins s σ H _ _ _ I r h) λ _ s1 ⟨σ1, H1, I1, q1⟩ => ?_)
  exact h2 pins s1 σ1 H1 _ _ Q I1 rr q1
def zsT (K : zD) (n : Nat) (t : TGs) : TG := λ v σ H Q => ∃ a xs, v = .ref a /\ SqT K H a xs /\ xs.length = n /\ t xs σ H Q
theorem zrD (hc : X.calm = true) (h : PGs X es t)
 (hn : (assignEach es X.env).length = n := by rfl) (hst : (assignEach es X.env).findIdx? (·.1) = none := by rfl) : PG X (.Tuple es k pos) (zsT X.K n t) := by
 intro pins s σ H v u Q I r hw
 obtain ⟨a, xs, e1, hq, hl, hw⟩ := hw
 subst e1
 cases r
 obtain ⟨its, rv, ht, hz⟩ := I.tuple hq
 refine assign_Tuple_tuple (I.ok.hd hc) ht (by simp [hn, <- hl, rv.length]) hst λ h' hx => ?_
 have I1 : Inv X pins σ H { s with heap := h' } := I.kept (t' := s.toks) λ b o e => hx b o (zzO (Heap.lt_size e)) e
 exact h pins _ σ H xs _ Q I1 (by simpa using rv) hw
def zts (to ti : TE) (t : zrH) : TG := λ v σ H Q => to σ H λ o H1 => ti σ H1 λ i H2 => t o i v H2 λ H3 => Q σ H3
theorem zrh (ho : PE X o to) (hi : PE X i ti) (hs : zrL X t)
 (ha : ∀ v, assign (.Subscript o i pos) X.env v = (do
  let ov <- holding [v] (eval o X.env)
  let iv <- holding [v, ov] (eval i X.env)
  standAt pos
  holding [v, ov, iv] (setItem ov iv v)
  release [v, ov, iv] []) := by intro _; rfl) : PG X (.Subscript o i pos) (zts to ti t) := by
 intro pins s σ H v u Q I r h
 rw [ha]
 refine wpAny_bind (wpAny_holding (thn (ho pins s σ H _ I h) λ ov s1 ⟨x, H1, I1, r1, q1⟩ => ?_))
 refine wpAny_bind (wpAny_holding (thn (hi pins s1 σ H1 _ I1 q1) λ iv s2 ⟨y, H2, I2, r2, q2⟩ => ?_))
 refine wpAny_bind (wpAny_standAt (wpAny_bind (wpAny_holding (thn (hs pins s2 σ H2 x y v ov iv u _ I2 r1 r2 r q2) λ _ s3 ⟨H3, I3, q3⟩ => ?_))))
 exact wpAny_release ⟨σ, H3, I3, q3⟩
def zql (te : TE) (g : TG) : TS := λ D σ H => te σ H λ x H1 => g x σ H1 D.nx
theorem zmg (he : PE X e te) (hg : PG X tg g) (hs : swapsWithSole [tg] e pos.line X.env = pure false := by rfl) (hw : swappedStores [tg] e X.env = pure none := by rfl)
 (h1 : (assignEach [tg] X.env).map (·.2) = [assign tg X.env] := by rfl) : PS X (.Assign [tg] e pos) (zql te g) := by
 intro pins s σ H D I h
 refine wpAny_Assign_stores (thn (he pins s σ H _ I h) λ v s1 ⟨x, H1, I1, r1, q1⟩ => ?_) hs hw
 rw [h1]
 exact thn (hg pins s1 σ H1 x v _ I1 r1 q1) λ _ s2 q => q
theorem zqM (hN : X.N.Nodup) (hi : X.N[i]? = some x) (hx : Loc X.env.scope x) (he : PE X e te) (hs : swapsWith e (some (.Name x pos')) pos.line X.env = pure false := by rfl) (hf : X.fn x = true \/ X.env.scope.names.lookup x = some .local := by first | exact .inl rfl | exact .inr rfl | assumption) :
 PS X (.Assign [.Name x pos'] e pos) (zql te (zhW i)) := by
 intro pins s σ H D I h
 refine wpAny_Assign_Name (thn (he pins s σ H _ I h) λ v s1 ⟨y, H1, I1, r1, q1⟩ => ?_) hs
 exact zcl I1 hN hi hx r1 (λ s2 I2 => ⟨_, H1, I2, q1⟩) hf
def zte (i j : Nat) (ta : TA) : TS := λ D σ H => ta σ H λ vs H1 => ∃ v w, vs = [v, w] /\ D.nx ((σ.set i (some v)).set j (some w)) H1
theorem zqt (hc : X.calm = true) (hN : X.N.Nodup) (hi : X.N[i]? = some x) (hj : X.N[j]? = some y) (hij : i ≠ j)
 (hx : X.env.scope.names.lookup x = some .local) (hy : X.env.scope.names.lookup y = some .local) (ha : PA X [a, b] ta)
 (hw : swappedStores [.Tuple [.Name x px, .Name y py] kt pt] (.Tuple [a, b] k2 pt2) X.env = pure (some [x, y]))
 (hs : swapsWithSole [.Tuple [.Name x px, .Name y py] kt pt] (.Tuple [a, b] k2 pt2) pos.line X.env = pure false := by rfl) :
 PS X (.Assign [.Tuple [.Name x px, .Name y py] kt pt] (.Tuple [a, b] k2 pt2) pos) (zte i j ta) := by
 intro pins s σ H D I h
 rw [exec_Assign_arm]
 refine wpAny_bind (wpAny_standAt ?_)
 rw [hs]
 refine wpAny_bind (wpAny_pure ?_)
 rw [if_neg (by decide)]
 refine wpAny_bind (Tuple_ (thn (ha _ pins s σ H _ I h) λ us s1 ⟨vs, H1, I1, r1, q1⟩ => ?_))
 obtain ⟨v, w, e1, q1⟩ := q1
 subst e1
 obtain ⟨u1, u2, rfl, rv, rw'⟩ : ∃ u1 u2, us = [u1, u2] /\ RelV v u1 /\ RelV w u2 := by
  cases r1 with
  | cons p q =>
   cases q with
   | cons p' q' =>
    cases q'
    exact ⟨_, _, rfl, p, p'⟩
 refine wpAny_newObj_type ?_ (by show 2 <= sizeLine; decide)
 have I2 : Inv X pins σ H1 { s1 with heap := s1.heap.push { cls := .type "tuple", data := .seq [u1, u2].toArray } } := I1.kept (t' := s1.toks) λ b o e => Heap.get?_push_of_some _ e
 rw [hw]
 refine wpAny_bind (wpAny_pure ?_)
 show wpAny (model X.prog X.w) X.A (do rule "assign.swapped-stores"; let items <- unpackItems (.ref s1.heap.objs.size) 2 none; assignInOrder [λ v => bindName X.env y v, λ v => bindName X.env x v] items.reverse; pure Flow.next) _ _ _
 refine wpAny_bind (wpAny_rule (wpAny_bind (unpackItems_tuple (items := #[u1, u2]) (I.ok.hd hc) (IsTup.new s1.heap _) λ h' hx' => ?_)))
 have I3 := I2.kept (h' := h') (t' := s1.toks) λ b o e => hx' b o (zzO (Heap.lt_size e)) e
 show wpAny _ _ (assignInOrder [λ v => bindName X.env y v, λ v => bindName X.env x v] [u2, u1] >>= λ _ => pure Flow.next) _ _ _
 refine wpAny_bind (assignInOrder_cons (wpAny_bindName (zcl I3 hN hj (.inl hy) rw' (λ s2 I4 => ?_) (.inr hy))))
 refine assignInOrder_cons (wpAny_bindName (zcl I4 hN hi (.inl hx) rv (λ s3 I5 => assignInOrder_nil (wpAny_pure ?_)) (.inr hx)))
 rw [List.set_comm _ _ (Ne.symm hij)] at I5
 exact ⟨_, H1, I5, q1⟩
end
section
variable {X : Cx} {pos : Pos}
def zqg (c : TT) (tb : TS) : TS := λ D σ H => ∃ W : Nat -> St -> Hp -> Prop, (∃ m, W m σ H) /\ ∀ m σ H, W m σ H ->
 c σ H λ b H1 => if b = true then ∃ N : St -> Hp -> Prop, (∀ σ' H', N σ' H' -> ∃ m', m' < m /\ W m' σ' H') /\ tb { D with nx := N, ct := N, bk := D.nx } σ H1 else D.nx σ H1
theorem zmW (hp : PassesOwn (model X.prog X.w) X.A X.env X.xe) (hc : PT X c tc) (hb : PSs X body tb) : PS X (.While c body [] pos) (zqg tc tb) := by
 intro pins s σ H D I h
 obtain ⟨W, ⟨m0, w0⟩, turn⟩ := h
 refine wpAny_While (codeAny_whileLoop (λ n s' => ∃ σ' H', Inv X pins σ' H' s' /\ W n σ' H') ?_ m0 ⟨σ, H, I, w0⟩)
 rintro n s1 ⟨σ1, H1, I1, w1⟩
 refine wpAny_passesOwn hp (thn (hc pins s1 σ1 H1 _ I1 (turn n σ1 H1 w1)) λ b s2 ⟨H2, I2, q2⟩ => ?_)
 cases b with
 | true =>
  obtain ⟨N, hN, q2⟩ := q2
  rw [if_pos rfl]
  refine wpAny_passesOwn hp (thn (hb pins s2 σ1 H2 _ I2 q2) λ f s3 q3 => ?_)
  cases f with
  | next =>
   obtain ⟨σ3, H3, I3, n3⟩ := q3
   obtain ⟨m', hm, w3⟩ := hN σ3 H3 n3
   exact ⟨m', hm, σ3, H3, I3, w3⟩
  | cont =>
   obtain ⟨σ3, H3, I3, n3⟩ := q3
   obtain ⟨m', hm, w3⟩ := hN σ3 H3 n3
   exact ⟨m', hm, σ3, H3, I3, w3⟩
  | brk => exact q3
  | ret v => exact q3
 | false =>
  rw [if_neg Bool.false_ne_true]
  exact wpAny_execs_nil ⟨σ1, H2, I2, q2⟩
end
structure It where
 go : Nat -> Hp -> Prop
 yld : Nat -> Hp -> V -> Hp -> Prop
 stop : Nat -> Hp -> Prop
def zdf (X : Cx) (pins : List (Addr × Obj)) (H : Hp) (b : Addr) : Prop :=
 H b = none /\ b ≠ X.env.locals /\ b ∉ X.fs /\ (b ∈ X.ex \/ X.s₀.heap.objs.size <= b) /\ (∀ x c, X.env.cells.lookup x = some c -> c ≠ b) /\ ∀ p ∈ X.pn ++ pins, p.1 ≠ b
theorem Inv.fpOk (I : Inv X pins σ H s) (hb : s.heap.objs.size <= b) (hn : H' b = none) : zdf X pins H' b := by
 refine ⟨hn, Nat.ne_of_gt (zzI I.lt hb), I.nofs hb, .inr (zzM I.sz hb), λ x c e z => ?_, λ p hp z => ?_⟩
 · obtain ⟨v, q⟩ := I.cell x c e
   exact absurd (zzI q.lt (by rw [z]; exact hb)) (Nat.lt_irrefl _)
 · exact absurd (zzI (Heap.lt_size (I.pin p hp).1) (by rw [z]; exact hb)) (Nat.lt_irrefl _)
structure Turn (P : Program) (w : World) (K : zD) (tg : Expr) (J : It) (fp : List Addr) (it : Addr) (tn : Nat -> Heap -> Prop) : Prop where
 mem : it ∈ fp
 obj : ∀ i h, tn i h -> ∀ b ∈ fp, ∃ o, h.get? b = some o /\ ∀ v, o.data ≠ .cell v
 keep : ∀ i h h', tn i h -> (∀ b ∈ fp, ∀ o, h.get? b = some o -> h'.get? b = some o) -> tn i h'
 item : ∀ (X : Cx), X.prog = P -> X.w = w -> X.K = K -> X.calm = true -> ∀ (i : Nat) (pins : List (Addr × Obj)) (s : Shared) (σ : St) (H : Hp) (E : Value -> Shared -> Prop), Inv X pins σ H s -> (∀ b ∈ fp, zdf X pins H b) -> tn i s.heap -> J.go i H ->
  wpAny (model P w) X.A (pyNext (.ref it)) (λ r s1 => ∃ u, r = some u /\
   wpAny (model P w) X.A (letOwnedTupleGo tg (.ref it) u) (λ _ s2 => ∃ x H', Inv X pins σ H' s2 /\ RelV x u /\ J.yld i H x H' /\ tn (i + 1) s2.heap /\ ∀ b ∈ fp, H' b = none) E s1) E s
 done : ∀ (X : Cx), X.prog = P -> X.w = w -> X.K = K -> X.calm = true -> ∀ (i : Nat) (pins : List (Addr × Obj)) (s : Shared) (σ : St) (H : Hp) (E : Value -> Shared -> Prop), Inv X pins σ H s -> (∀ b ∈ fp, zdf X pins H b) -> tn i s.heap -> J.stop i H ->
  wpAny (model P w) X.A (pyNext (.ref it)) (λ r s1 => r = none /\ Inv X pins σ H s1) E s
 self : ∀ (A : Around) (i : Nat) (s : Shared) (Q : Value -> Shared -> Prop) (E : Value -> Shared -> Prop), tn i s.heap -> Q (.ref it) s -> wpAny (model P w) A (pyIter (.ref it)) Q E s
abbrev TI := St -> Hp -> (It -> Hp -> Prop) -> Prop
def PIE (X : Cx) (pins : List (Addr × Obj)) (σ : St) (tg : Expr) (R : It -> Hp -> Prop) (itv : Value) (s2 : Shared) : Prop :=
 ∃ (it : Addr) (fp : List Addr) (tn : Nat -> Heap -> Prop) (J : It) (H' : Hp), itv = .ref it /\ Inv X pins σ H' s2 /\ Turn X.prog X.w X.K tg J fp it tn /\ tn 0 s2.heap /\ (∀ b ∈ fp, zdf X pins H' b) /\ R J H'
def PI (X : Cx) (tg iter : Expr) (wi : TI) : Prop :=
 ∀ (pins : List (Addr × Obj)) (s : Shared) (σ : St) (H : Hp) (R : It -> Hp -> Prop), Inv X pins σ H s -> wi σ H R ->
  wpAny (model X.prog X.w) X.A (eval iter X.env) (λ v s1 => wpAny (model X.prog X.w) X.A (pyIter v) (PIE X pins σ tg R) X.xe s1) X.xe s
theorem zlb (ho : s.heap.get? it = some o) (hc : o.cls = .type n) (hd : o.data = .fields vs)
 (hn : ["enumerate", "zip", "dict_itemiterator", "dict_reverseitemiterator", "odict_iterator", "itertools.zip_longest", "itertools.pairwise"].contains n = false) (hQ : Q () s) : wpAny M A (letOwnedTupleGo tg (.ref it) u) Q E s := by
 unfold letOwnedTupleGo
 cases tg <;> first
  | exact wpAny_pure hQ
  | (cases u <;> first
   | exact wpAny_pure hQ
   | (refine wpAny_bind (wpAny_load ho ?_)
      rw [hc, hd]
      show wpAny M A (if (["enumerate", "zip", "dict_itemiterator", "dict_reverseitemiterator", "odict_iterator", "itertools.zip_longest", "itertools.pairwise"].contains n && vs[0]? == some (rawInt _)) = true then _ else _) Q E s
      rw [if_neg (by intro h; rw [hn, Bool.false_and] at h; cases h)]
      exact wpAny_pure hQ))
def Itl (K : zD) (a : Addr) : It :=
 ⟨λ i H => ∃ xs x, SqL K H a xs /\ xs[i]? = some x, λ i H x H' => H' = H /\ ∀ xs, SqL K H a xs -> xs[i]? = some x, λ i H => ∃ xs, SqL K H a xs /\ xs.length <= i⟩
def Itt (K : zD) (a : Addr) : It :=
 ⟨λ i H => ∃ xs x, SqT K H a xs /\ xs[i]? = some x, λ i H x H' => H' = H /\ ∀ xs, SqT K H a xs -> xs[i]? = some x, λ i H => ∃ xs, SqT K H a xs /\ xs.length <= i⟩
def Itr (lo : Int) (n : Nat) : It := ⟨λ i _ => i < n, λ i H x H' => H' = H /\ x = .int (lo + i), λ i _ => n <= i⟩
theorem zlD {P : Program} {w : World} {K : zD} {tg : Expr} (a it : Addr) : Turn P w K tg (Itl K a) [it] it (λ i h => h.IsListIter it a i) where
 mem := by simp
 obj := λ i h st b hb => by
  have e : b = it := by simpa using hb
  subst e
  obtain ⟨o, e, c, d⟩ := st
  exact ⟨o, e, λ v z => by rw [d] at z; cases z⟩
 keep := λ i h h' st k => st.at λ o e => k it (by simp) o e
 item := by
  intro X hP hw hK hc i pins s σ H E I hf st hg
  subst hP hw hK
  obtain ⟨xs, x, hq, hx⟩ := hg
  obtain ⟨its, rv, p, hz⟩ := I.list hq
  obtain ⟨u, hu, ru⟩ := rv.get hx
  obtain ⟨f0, f1, f2, f3, f4, f5⟩ := hf it (by simp)
  refine wpAny_pyNext_list_item st p.isList (x := u) (by simpa using hu) λ h' st' sb => ?_
  have I1 : Inv X pins σ H { s with heap := h' } := I.turned (t' := s.toks) (λ b o hb e => (sb.2 b hb).trans e) f0 f1 f3 f4 f5
  obtain ⟨o, e, c, d⟩ := id st'
  exact ⟨u, rfl, zlb (s := { s with heap := h' }) e c d (by decide) ⟨x, H, I1, ru, ⟨rfl, λ ys hy => by rw [I.list_inj hy hq]; exact hx⟩, st', λ b hb => (hf b hb).1⟩⟩
 done := by
  intro X hP hw hK hc i pins s σ H E I hf st hg
  subst hP hw hK
  obtain ⟨xs, hq, hx⟩ := hg
  obtain ⟨its, rv, p, hz⟩ := I.list hq
  obtain ⟨f0, f1, f2, f3, f4, f5⟩ := hf it (by simp)
  have hl := rv.length
  exact wpAny_pyNext_list_end (I.ok.hd hc) st p.isList (by simp; omega) λ h' eb => ⟨rfl, I.turned (t' := s.toks) (λ b o hb e => eb b o hb e) f0 f1 f3 f4 f5⟩
 self := λ _ _ _ _ _ st h => wpAny_pyIter_listiter st h
theorem zjZ {P : Program} {w : World} {K : zD} {tg : Expr} (a it : Addr) : Turn P w K tg (Itt K a) [it] it (λ i h => h.IsTupleIter it a i) where
 mem := by simp
 obj := λ i h st b hb => by
  have e : b = it := by simpa using hb
  subst e
  obtain ⟨o, e, c, d⟩ := st
  exact ⟨o, e, λ v z => by rw [d] at z; cases z⟩
 keep := λ i h h' st k => st.at λ o e => k it (by simp) o e
 item := by
  intro X hP hw hK hc i pins s σ H E I hf st hg
  subst hP hw hK
  obtain ⟨xs, x, hq, hx⟩ := hg
  obtain ⟨its, rv, p, hz⟩ := I.tuple hq
  obtain ⟨u, hu, ru⟩ := rv.get hx
  obtain ⟨f0, f1, f2, f3, f4, f5⟩ := hf it (by simp)
  refine wpAny_pyNext_tuple_item st (show s.heap.IsTuple a its.toArray from p) (x := u) (by simpa using hu) λ h' st' sb => ?_
  have I1 : Inv X pins σ H { s with heap := h' } := I.turned (t' := s.toks) (λ b o hb e => (sb.2 b hb).trans e) f0 f1 f3 f4 f5
  obtain ⟨o, e, c, d⟩ := id st'
  exact ⟨u, rfl, zlb (s := { s with heap := h' }) e c d (by decide) ⟨x, H, I1, ru, ⟨rfl, λ ys hy => by rw [I.tuple_inj hy hq]; exact hx⟩, st', λ b hb => (hf b hb).1⟩⟩
 done := by
  intro X hP hw hK hc i pins s σ H E I hf st hg
  subst hP hw hK
  obtain ⟨xs, hq, hx⟩ := hg
  obtain ⟨its, rv, p, hz⟩ := I.tuple hq
  obtain ⟨f0, f1, f2, f3, f4, f5⟩ := hf it (by simp)
  have hl := rv.length
  exact wpAny_pyNext_tuple_end (I.ok.hd hc) st (show s.heap.IsTuple a its.toArray from p) (by simp; omega) λ h' eb => ⟨rfl, I.turned (t' := s.toks) (λ b o hb e => eb b o hb e) f0 f1 f3 f4 f5⟩
 self := λ _ _ _ _ _ st h => wpAny_pyIter_tupleiter st h
theorem zjq {P : Program} {w : World} {K : zD} {tg : Expr} (it : Addr) (lo : Int) (n : Nat) : Turn P w K tg (Itr lo n) [it] it (λ i h => IsRangeIter h it (lo + (i : Nat) * 1) ((n : Int) - (i : Nat)) 1) where
 mem := by simp
 obj := λ i h st b hb => by
  have e : b = it := by simpa using hb
  subst e
  exact ⟨_, st, λ v z => by
   have z' : Data.fields _ = Data.cell v := z
   cases z'⟩
 keep := λ i h h' st k => k it (by simp) _ st
 item := by
  intro X hP hw hK hc i pins s σ H E I hf st hg
  subst hP hw hK
  obtain ⟨f0, f1, f2, f3, f4, f5⟩ := hf it (by simp)
  have W := Walks.range (prog := X.prog) (w := X.w) (I.ok.hd hc) it lo 1 n
  refine W.item i s _ _ hg st λ v h' tk hv st' kk => ?_
  obtain ⟨t, rfl⟩ := hv
  have I1 : Inv X pins σ H { s with heap := h', toks := tk } := I.turned (λ b o hb e => kk b o (by simpa using hb) e) f0 f1 f3 f4 f5
  refine ⟨_, rfl, zlb (s := { s with heap := h', toks := tk }) (n := "range_iterator") st' rfl rfl (by decide) ⟨.int (lo + i), H, I1, ⟨t, ?_⟩, ⟨rfl, rfl⟩, st', λ b hb => (hf b hb).1⟩⟩
  rw [Int.mul_one]
 done := by
  intro X hP hw hK hc i pins s σ H E I hf st hg
  subst hP hw hK
  obtain ⟨f0, f1, f2, f3, f4, f5⟩ := hf it (by simp)
  exact wpAny_pyNext_range_end (I.ok.hd hc) st (by have : n <= i := hg; omega) λ h' eb => ⟨rfl, I.turned (t' := s.toks) (λ b o hb e => eb b o hb e) f0 f1 f3 f4 f5⟩
 self := λ _ _ _ _ _ st h => wpAny_pyIter_rangeiter st h
end L2
namespace L2
open PySem PySem.Spec PyProof.Rows
section
variable {X : Cx} {tg : Expr}
def zrZ (K : zD) (tl : TE) : TI := λ σ H R => tl σ H λ x H1 => ∃ a, x = .ref a /\ (∃ xs, SqL K H1 a xs) /\ R (Itl K a) H1
def ztA (K : zD) (tl : TE) : TI := λ σ H R => tl σ H λ x H1 => ∃ a, x = .ref a /\ (∃ xs, SqT K H1 a xs) /\ R (Itt K a) H1
theorem zhn {l : Expr} {tl : TE} (hl : PE X l tl) : PI X tg l (zrZ X.K tl) := by
 intro pins s σ H R I h
 refine thn (hl pins s σ H _ I h) λ v s1 ⟨x, H1, I1, r1, q1⟩ => ?_
 obtain ⟨a, e, ⟨xs, hq⟩, q⟩ := q1
 subst e
 cases r1
 obtain ⟨its, rv, p, hz⟩ := I1.list hq
 refine wpAny_pyIter_list p.isList ?_
 refine ⟨s1.heap.objs.size, [s1.heap.objs.size], _, _, H1, rfl, I1.kept (t' := s1.toks) λ b o e => Heap.get?_push_of_some _ e, zlD a _, ⟨_, Heap.get?_push_size _ rfl, rfl, rfl⟩, λ b hb => ?_, q⟩
 have e : b = s1.heap.objs.size := by simpa using hb
 subst e
 exact I1.fpOk (zzL _) (I1.hok.fresh (zzL _))
theorem zjT {l : Expr} {tl : TE} (hl : PE X l tl) : PI X tg l (ztA X.K tl) := by
 intro pins s σ H R I h
 refine thn (hl pins s σ H _ I h) λ v s1 ⟨x, H1, I1, r1, q1⟩ => ?_
 obtain ⟨a, e, ⟨xs, hq⟩, q⟩ := q1
 subst e
 cases r1
 obtain ⟨its, rv, p, hz⟩ := I1.tuple hq
 refine wpAny_pyIter_tuple (show s1.heap.IsTuple a its.toArray from p) ?_
 refine ⟨s1.heap.objs.size, [s1.heap.objs.size], _, _, H1, rfl, I1.kept (t' := s1.toks) λ b o e => Heap.get?_push_of_some _ e, zjZ a _, ⟨_, Heap.get?_push_size _ rfl, rfl, rfl⟩, λ b hb => ?_, q⟩
 have e : b = s1.heap.objs.size := by simpa using hb
 subst e
 exact I1.fpOk (zzL _) (I1.hok.fresh (zzL _))
theorem zmE {pins : List (Addr × Obj)} {σ : St} {H : Hp} {s : Shared} {R : It -> Hp -> Prop} {E : Value -> Shared -> Prop} {lo hi : Int} {t u v : Tok} {tk : Nat} (I : Inv X pins σ H s) (h1 : -(2 ^ 62) <= lo) (h2 : lo < 2 ^ 62) (h3 : -(2 ^ 62) <= hi) (h4 : hi < 2 ^ 62)
 (q : R (Itr lo (hi - lo).toNat) H) : wpAny (model X.prog X.w) X.A (pyIter (.ref s.heap.objs.size)) (PIE X pins σ tg R) E { s with heap := s.heap.push { cls := .type "range", data := .fields #[.int lo t, .int hi u, .int 1 v] }, toks := tk } := by
 refine wpAny_pyIter_range (IsRange.new ..) (small_one h1 h2 h3 h4) ?_
 have I1 : Inv X pins σ H { s with heap := s.heap.push { cls := .type "range", data := .fields #[.int lo t, .int hi u, .int 1 v] }, toks := tk } := I.kept λ b o e => Heap.get?_push_of_some _ e
 refine ⟨(s.heap.push { cls := .type "range", data := .fields #[.int lo t, .int hi u, .int 1 v] }).objs.size, [(s.heap.push { cls := .type "range", data := .fields #[.int lo t, .int hi u, .int 1 v] }).objs.size], _, _, H, rfl,
  I1.kept (t' := tk) λ b o e => Heap.get?_push_of_some _ e, zjq _ lo (hi - lo).toNat, ?_, λ b hb => ?_, q⟩
 · have e1 : lo + ((0 : Nat) : Int) * 1 = lo := by simp
   have e2 : (((hi - lo).toNat : Nat) : Int) - ((0 : Nat) : Int) = Builtin.Range.rangeSize lo hi 1 := by rw [rangeSize_one]; split <;> omega
   show IsRangeIter _ _ (lo + ((0 : Nat) : Int) * 1) ((((hi - lo).toNat : Nat) : Int) - ((0 : Nat) : Int)) 1
   rw [e1, e2]
   exact Heap.get?_push_size _ rfl
 · have e : b = (s.heap.push { cls := .type "range", data := .fields #[.int lo t, .int hi u, .int 1 v] }).objs.size := by simpa using hb
   subst e
   exact I1.fpOk (zzL _) (I1.hok.fresh (zzL _))
def zsn (ta : TA) : TI := λ σ H R => ta σ H λ vs H1 => ∃ j : Int, vs = [.int j] /\ -(2 ^ 62) <= j /\ j < 2 ^ 62 /\ R (Itr 0 j.toNat) H1
theorem zgt {a : Expr} {ta : TA} {p pos : Pos} (hg : Gl X "range") (hm : X.mg "range" = none) (ha : PA X [a] ta) (hs : starEach [a] X.env = [(false, eval a X.env)] := by rfl) : PI X tg (.Call (.Name "range" p) [a] [] pos) (zsn ta) := by
 intro pins s σ H R I h
 refine Call_ (W8 I hg hm boot_range (PyProof.Rows.callWith_type1 (thn (ha pos pins s σ H _ I h) λ us s1 ⟨vs, H1, I1, r1, q1⟩ => ?_) hs rfl))
 obtain ⟨j, e, q1, q2, q⟩ := q1
 subst e
 cases r1 with
 | cons r rr =>
  cases rr
  obtain ⟨t, rfl⟩ := r
  exact call_range_1 (zmE I1 (by omega) (by omega) q1 q2 (by simpa using q))
def ztj (wi : TI) (g : TG) (tb : TS) : TS := λ D σ H => wi σ H λ J H1 => ∃ W : Nat -> Nat -> St -> Hp -> Prop, (∃ m, W 0 m σ H1) /\ ∀ i m σ H, W i m σ H ->
 (J.stop i H /\ D.nx σ H) \/ (J.go i H /\ ∃ N : St -> Hp -> Prop, (∀ σ' H', N σ' H' -> ∃ m', m' < m /\ W (i + 1) m' σ' H') /\ ∀ x H', J.yld i H x H' -> g x σ H' λ σ2 H2 => tb { D with nx := N, ct := N, bk := D.nx } σ2 H2)
def zeF (fp : List Addr) (h : Heap) : List (Addr × Obj) := fp.filterMap λ b => (h.get? b).map λ o => (b, o)
theorem Vp (hb : b ∈ fp) (e : h.get? b = some o) : (b, o) ∈ zeF fp h := List.mem_filterMap.mpr ⟨b, hb, by rw [e]; rfl⟩
theorem zlw (hp : p ∈ zeF fp h) : p.1 ∈ fp /\ h.get? p.1 = some p.2 := by
 obtain ⟨b, hb, e⟩ := List.mem_filterMap.mp hp
 cases q : h.get? b with
 | none => rw [q] at e; cases e
 | some o =>
  rw [q] at e
  have e' : (b, o) = p := Option.some.inj e
  subst e'
  exact ⟨hb, q⟩
theorem Inv.pinned (I : Inv X pins σ H s) (hf : ∀ b ∈ fp, zdf X pins H b) (ho : ∀ b ∈ fp, ∃ o, s.heap.get? b = some o /\ ∀ v, o.data ≠ .cell v) : Inv X (pins ++ zeF fp s.heap) σ H s :=
 I.pins_of λ p hp => (zzK.mp hp).elim (λ z => I.pin p (zzJ _ z)) λ z => by
  obtain ⟨hb, e⟩ := zlw z
  obtain ⟨f0, f1, f2, _⟩ := hf p.1 hb
  obtain ⟨o, e', d⟩ := ho p.1 hb
  rw [e] at e'; cases e'
  exact ⟨e, f0, f1, f2, d⟩
theorem Inv.unpinned (I : Inv X (pins ++ pl) σ H s) : Inv X pins σ H s := I.pins_of λ p hp => I.pin p (zzJ _ (zzN _ hp))
theorem zqN (hp : PassesOwn (model X.prog X.w) X.A X.env X.xe) (hc : X.calm = true) (hi : PI X tg iter wi) (hg : PG X tg g) (hb : PSs X body tb)
 (hs : ∀ x, foldedSetIterable iter X.env x = pure x := by intro _; rfl) : PS X (.For tg iter body [] pos) (ztj wi g tb) := by
 intro pins s σ H D I h
 refine wpAny_For (thn (hi pins s σ H _ I h) λ v s1 h1 => thn h1 λ itv s2 h2 => ?_) hs
 obtain ⟨it, fp, tn, J, H2, e, I2, T, st2, f2, W, ⟨m0, w0⟩, turn⟩ := h2
 subst e
 have stat : ∀ {H' : Hp}, (∀ b ∈ fp, H' b = none) -> ∀ b ∈ fp, zdf X pins H' b := λ hn b hb => ⟨hn b hb, (f2 b hb).2⟩
 refine codeAny_forLoop_any (λ n s' => ∃ i σ' H', Inv X pins σ' H' s' /\ tn i s'.heap /\ (∀ b ∈ fp, H' b = none) /\ W i n σ' H') ?_ m0 ⟨0, σ, H2, I2, st2, λ b hb => (f2 b hb).1, w0⟩
 rintro n s3 ⟨i, σ3, H3, I3, st3, fr3, w3⟩
 rcases turn i n σ3 H3 w3 with ⟨stop, qn⟩ | ⟨go, N, hN, step⟩
 · refine wpAny_passesOwn hp (thn (T.done X rfl rfl rfl hc i pins s3 σ3 H3 X.xe I3 (stat fr3) st3 stop) λ r s4 ⟨hr, I4⟩ => ?_)
   subst hr
   exact wpAny_execs_nil ⟨σ3, H3, I4, qn⟩
 · refine wpAny_passesOwn hp (thn (T.item X rfl rfl rfl hc i pins s3 σ3 H3 X.xe I3 (stat fr3) st3 go) λ r s4 ⟨u, hr, h4⟩ => ?_)
   subst hr
   refine wpAny_passesOwn hp (thn h4 λ _ s5 ⟨x, H5, I5, r5, y5, st5, fr5⟩ => ?_)
   have I5' := I5.pinned (stat fr5) (T.obj _ _ st5)
   refine wpAny_passesOwn hp (thn (hg _ s5 σ3 H5 x u _ I5' r5 (step x H5 y5)) λ _ s6 ⟨σ6, H6, I6, q6⟩ => ?_)
   refine wpAny_passesOwn hp (thn (hb _ s6 σ6 H6 _ I6 q6) λ f s7 q7 => ?_)
   have again : ∀ {σ7 : St} {H7 : Hp}, Inv X (pins ++ zeF fp s5.heap) σ7 H7 s7 -> N σ7 H7 -> ∃ m, m < n /\ ∃ i σ' H', Inv X pins σ' H' s7 /\ tn i s7.heap /\ (∀ b ∈ fp, H' b = none) /\ W i m σ' H' := λ {σ7 H7} I7 n7 => by
    obtain ⟨m', hm, w7⟩ := hN σ7 H7 n7
    refine ⟨m', hm, i + 1, σ7, H7, I7.unpinned, T.keep _ _ _ st5 λ b hb o e => (I7.pin (b, o) (zzJ _ (zzJ _ (Vp hb e)))).1, λ b hb => ?_, w7⟩
    obtain ⟨o, e, d⟩ := T.obj _ _ st5 b hb
    exact (I7.pin (b, o) (zzJ _ (zzJ _ (Vp hb e)))).2.1
   cases f with
   | next => obtain ⟨σ7, H7, I7, n7⟩ := q7; exact again I7 n7
   | cont => obtain ⟨σ7, H7, I7, n7⟩ := q7; exact again I7 n7
   | brk => obtain ⟨σ7, H7, I7, q7⟩ := q7; exact ⟨σ7, H7, I7.unpinned, q7⟩
   | ret v => obtain ⟨x7, σ7, H7, I7, r7, q7⟩ := q7; exact ⟨x7, σ7, H7, I7.unpinned, r7, q7⟩
end
end L2
namespace L2
open PySem PySem.Spec PyProof.Rows
abbrev R2 := V -> V -> Hp -> VK -> Prop
def OpR (X : Cx) (f : Value -> Value -> Sem Value) (r : R2) : Prop :=
 ∀ (pins : List (Addr × Obj)) (s : Shared) (σ : St) (H : Hp) (x y : V) (v u : Value) (Q : VK), Inv X pins σ H s -> RelV x v -> RelV y u -> r x y H Q ->
  wpAny (model X.prog X.w) X.A (f v u) (EP X pins σ Q) X.xe s
def UnR (X : Cx) (f : Value -> Sem Value) (r : V -> Hp -> VK -> Prop) : Prop :=
 ∀ (pins : List (Addr × Obj)) (s : Shared) (σ : St) (H : Hp) (x : V) (v : Value) (Q : VK), Inv X pins σ H s -> RelV x v -> r x H Q ->
  wpAny (model X.prog X.w) X.A (f v) (EP X pins σ Q) X.xe s
def V3 (X : Cx) (f : Value) (r : List V -> Hp -> VK -> Prop) : Prop :=
 ∀ (pins : List (Addr × Obj)) (s : Shared) (σ : St) (H : Hp) (xs : List V) (us : List Value) (Q : VK), Inv X pins σ H s -> Vals xs us -> r xs H Q ->
  wpAny (model X.prog X.w) X.A (call f us) (EP X pins σ Q) X.xe s
def zti (X : Cx) (r : V -> Hp -> (Bool -> Hp -> Prop) -> Prop) : Prop :=
 ∀ (pins : List (Addr × Obj)) (s : Shared) (σ : St) (H : Hp) (x : V) (v : Value) (Q : Bool -> Hp -> Prop), Inv X pins σ H s -> RelV x v -> r x H Q ->
  wpAny (model X.prog X.w) X.A (truthy v) (TP X pins σ Q) X.xe s
def tOp (r : R2) (ta tb : TE) : TE := λ σ H Q => ta σ H λ x H1 => tb σ H1 λ y H2 => r x y H2 Q
def tUn (r : V -> Hp -> VK -> Prop) (ta : TE) : TE := λ σ H Q => ta σ H λ x H1 => r x H1 Q
def rI (C : Int -> Int -> Prop) (g : Int -> Int -> V) : R2 := λ x y H Q => ∃ i j, x = .int i /\ y = .int j /\ C i j /\ Q (g i j) H
def rI0 (g : Int -> Int -> V) : R2 := λ x y H Q => ∃ i j, x = .int i /\ y = .int j /\ Q (g i j) H
def rU (g : Int -> V) : V -> Hp -> VK -> Prop := λ x H Q => ∃ i, x = .int i /\ Q (g i) H
section
variable {X : Cx} {a b c : Expr} {ta tb tc : TE} {pos : Pos}
theorem zqa (ha : PE X a ta) (hb : PE X b tb) {pins : List (Addr × Obj)} {s : Shared} {σ : St} {H : Hp} {R : V -> V -> Hp -> Prop} (I : Inv X pins σ H s)
 (h : ta σ H λ x H1 => tb σ H1 λ y H2 => R x y H2) {Q : Value -> Shared -> Prop} {f : Value -> Value -> Sem Value}
 (hf : ∀ v u s2 x y H2, Inv X pins σ H2 s2 -> RelV x v -> RelV y u -> R x y H2 -> wpAny (model X.prog X.w) X.A (f v u) Q X.xe s2) :
 wpAny (model X.prog X.w) X.A (eval a X.env) (λ v s₁ => wpAny (model X.prog X.w) X.A (eval b X.env) (λ u s₂ => wpAny (model X.prog X.w) X.A (f v u) Q X.xe s₂) X.xe s₁) X.xe s := by
 refine thn (ha pins s σ H _ I h) λ v s1 ⟨x, H1, I1, r1, q1⟩ => ?_
 refine thn (hb pins s1 σ H1 _ I1 q1) λ u s2 ⟨y, H2, I2, r2, q2⟩ => ?_
 exact hf v u s2 x y H2 I2 r1 r2 q2
theorem zsv {op : Operator} {r : R2} (ho : OpR X (binaryOp op) r) (ha : PE X a ta) (hb : PE X b tb) : PE X (.BinOp a op b pos) (tOp r ta tb) := by
 intro pins s σ H Q I h
 exact wpAny_BinOp (zqa ha hb I h λ v u s2 x y H2 I2 rx ry q => ho pins s2 σ H2 x y v u Q I2 rx ry q)
theorem zsj (ho : UnR X (unaryOp op) r) (ha : PE X a ta) : PE X (.UnaryOp op a pos) (tUn r ta) := by
 intro pins s σ H Q I h
 exact UnaryOp_ (thn (ha pins s σ H _ I h) λ v s1 ⟨x, H1, I1, r1, q1⟩ => ho pins s1 σ H1 x v Q I1 r1 q1)
theorem opI {f : Value -> Value -> Sem Value} {C : Int -> Int -> Prop} {g : Int -> Int -> Int}
 (rule : ∀ (i j : Int) (t u : Tok) (s : Shared) (Q : Value -> Shared -> Prop) (E : Value -> Shared -> Prop), C i j -> Q (.int (g i j) s.toks) { s with toks := s.toks + 1 } -> wpAny (model X.prog X.w) X.A (f (.int i t) (.int j u)) Q E s) :
 OpR X f (rI C λ i j => .int (g i j)) := by
 intro pins s σ H x y v u Q I rx ry h
 obtain ⟨i, j, rfl, rfl, hc, q⟩ := h
 obtain ⟨t, rfl⟩ := rx
 obtain ⟨t', rfl⟩ := ry
 exact rule i j t t' s _ _ hc ⟨.int (g i j), H, I.tok _, ⟨_, rfl⟩, q⟩
theorem zrM {f : Value -> Value -> Sem Value} {g : Int -> Int -> Int}
 (rule : ∀ (i j : Int) (t u : Tok) (s : Shared) (Q : Value -> Shared -> Prop) (E : Value -> Shared -> Prop), Q (.int (g i j) s.toks) { s with toks := s.toks + 1 } -> wpAny (model X.prog X.w) X.A (f (.int i t) (.int j u)) Q E s) :
 OpR X f (rI0 λ i j => .int (g i j)) := by
 intro pins s σ H x y v u Q I rx ry h
 obtain ⟨i, j, rfl, rfl, q⟩ := h
 obtain ⟨t, rfl⟩ := rx
 obtain ⟨t', rfl⟩ := ry
 exact rule i j t t' s _ _ ⟨.int (g i j), H, I.tok _, ⟨_, rfl⟩, q⟩
theorem zoY {f : Value -> Value -> Sem Value} {g : Int -> Int -> Bool}
 (rule : ∀ (i j : Int) (t u : Tok) (s : Shared) (Q : Value -> Shared -> Prop) (E : Value -> Shared -> Prop), Q (.bool (g i j)) s -> wpAny (model X.prog X.w) X.A (f (.int i t) (.int j u)) Q E s) :
 OpR X f (rI0 λ i j => .bl (g i j)) := by
 intro pins s σ H x y v u Q I rx ry h
 obtain ⟨i, j, rfl, rfl, q⟩ := h
 obtain ⟨t, rfl⟩ := rx
 obtain ⟨t', rfl⟩ := ry
 exact rule i j t t' s _ _ ⟨.bl (g i j), H, I, rfl, q⟩
def ztl (i j : Int) : Prop := 0 <= j /\ j <= 1000000 /\ i.natAbs < 2 ^ 64
theorem zqG : OpR X (binaryOp .Add) (rI0 λ i j => .int (i + j)) := zrM λ _ _ _ _ _ _ _ q => add_int q
theorem zrd : OpR X (binaryOp .Sub) (rI0 λ i j => .int (i - j)) := zrM λ _ _ _ _ _ _ _ q => sub_int q
theorem zpU : OpR X (binaryOp .Mod) (rI (λ _ j => 0 < j) λ i j => .int (i % j)) := opI λ i j _ _ _ _ _ hc q => by
 have h1 : (0 : Int) < j := hc
 exact mod_int' (by omega) (by rw [Int.fmod_eq_emod_of_nonneg i (by omega)]; exact q)
theorem zrn : OpR X (binaryOp .Pow) (rI ztl λ i j => .int (i ^ j.toNat)) := opI λ _ _ _ _ _ _ _ hc q => pow_int_small hc.1 hc.2.1 hc.2.2 q
theorem unI {f : Value -> Sem Value} {g : Int -> Int}
 (rule : ∀ (i : Int) (t : Tok) (s : Shared) (Q : Value -> Shared -> Prop) (E : Value -> Shared -> Prop), Q (.int (g i) s.toks) { s with toks := s.toks + 1 } -> wpAny (model X.prog X.w) X.A (f (.int i t)) Q E s) :
 UnR X f (rU λ i => .int (g i)) := by
 intro pins s σ H x v Q I rx h
 obtain ⟨i, rfl, q⟩ := h
 obtain ⟨t, rfl⟩ := rx
 exact rule i t s _ _ ⟨.int (g i), H, I.tok _, ⟨_, rfl⟩, q⟩
theorem zpV : UnR X (unaryOp .USub) (rU λ i => .int (-i)) := unI λ _ _ _ _ _ q => neg_int q
end
section
variable {X : Cx} {a b c : Expr} {ta tb tc : TE} {pos : Pos}
theorem Zu (I : Inv X pins σ H s) (q : Q (.bl k) H) (e : k = k') : EP X pins σ Q (.bool k') s := by
 subst e
 exact ⟨.bl k, H, I, rfl, q⟩
theorem zrQ : OpR X (compareOp .Lt) (rI0 λ i j => .bl (decide (i < j))) := zoY λ _ _ _ _ _ _ _ q => lt_int q
theorem zsC : OpR X (compareOp .LtE) (rI0 λ i j => .bl (decide (i <= j))) := zoY λ _ _ _ _ _ _ _ q => le_int q
theorem zsc : OpR X (compareOp .Gt) (rI0 λ i j => .bl (decide (j < i))) := zoY λ _ _ _ _ _ _ _ q => gt_int q
theorem zsJ : OpR X (compareOp .GtE) (rI0 λ i j => .bl (decide (j <= i))) := zoY λ _ _ _ _ _ _ _ q => ge_int q
theorem zll : OpR X (compareOp .In) (λ x y H Q => ∃ i j, x = .str i /\ y = .str j /\ Q (.bl (!(Builtin.Str.occurrences j i 0 j.length 1).isEmpty)) H) := by
 intro pins s σ H x y v u Q I rx ry h
 obtain ⟨i, j, rfl, rfl, q⟩ := h
 obtain ⟨t, rfl⟩ := rx
 obtain ⟨t', rfl⟩ := ry
 exact in_str (Zu I q rfl)
theorem zqs : OpR X (compareOp .Is) (λ x y H Q => y = .non /\ Q (.bl (decide (x = .non))) H) := by
 intro pins s σ H x y v u Q I rx ry h
 obtain ⟨rfl, q⟩ := h
 cases ry
 refine is_none_gen (Zu I q ?_)
 cases x <;> first
  | (cases rx; rfl)
  | (obtain ⟨t, rfl⟩ := rx; rfl)
theorem zoz : OpR X (compareOp .IsNot) (λ x y H Q => y = .non /\ Q (.bl (!decide (x = .non))) H) := by
 intro pins s σ H x y v u Q I rx ry h
 obtain ⟨rfl, q⟩ := h
 cases ry
 refine isnot_none_gen (Zu I q ?_)
 cases x <;> first
  | (cases rx; rfl)
  | (obtain ⟨t, rfl⟩ := rx; rfl)
theorem zhw : OpR X (compareOp .NotIn) (λ x y H Q => ∃ i j, x = .str i /\ y = .str j /\ Q (.bl (!(!(Builtin.Str.occurrences j i 0 j.length 1).isEmpty))) H) := by
 intro pins s σ H x y v u Q I rx ry h
 obtain ⟨i, j, rfl, rfl, q⟩ := h
 obtain ⟨t, rfl⟩ := rx
 obtain ⟨t', rfl⟩ := ry
 exact notIn_str (Zu I q rfl)
theorem xf (b : Expr) (h : op ≠ .In := by decide) (h2 : op ≠ .NotIn := by decide) : behindInMarks op b = false := by
 have e1 : (op == CmpOp.In) = false := by cases op <;> first | rfl | exact absurd rfl h
 have e2 : (op == CmpOp.NotIn) = false := by cases op <;> first | rfl | exact absurd rfl h2
 cases b <;> simp [behindInMarks, e1, e2]
theorem zok {op : CmpOp} {r : R2} (ho : OpR X (compareOp op) r) (ha : PE X a ta) (hb : PE X b tb) (hm : behindInMarks op b = false) : PE X (.Compare a [op] [b] pos) (tOp r ta tb) := by
 intro pins s σ H Q I h
 exact wpAny_Compare1 (zqa ha hb I h λ v u s2 x y H2 I2 rx ry q => ho pins s2 σ H2 x y v u Q I2 rx ry q) hm
def zrR (t : TE) : TT := λ σ H Q => t σ H λ x H' => ∃ k, x = .bl k /\ Q k H'
theorem znZ (ho : OpR X (compareOp op) r) (ha : PE X a ta) (hb : PE X b tb) (hm : behindInMarks op b = false) : PT X (.Compare a [op] [b] pos) (zrR (tOp r ta tb)) := by
 intro pins s σ H Q I h
 refine wpAny_isTrue_Compare1 (thn (ha pins s σ H _ I h) λ v s1 ⟨x, H1, I1, r1, q1⟩ => thn (hb pins s1 σ H1 _ I1 q1) λ u s2 ⟨y, H2, I2, r2, q2⟩ =>
  thn (ho pins s2 σ H2 x y v u _ I2 r1 r2 q2) λ c s3 ⟨z, H3, I3, r3, k, e, q3⟩ => ?_) hm
 subst e
 cases r3
 exact wpAny_truthy_bool ⟨H3, I3, q3⟩
def zqf (r r' : R2) (ta tb tc : TE) : TE := λ σ H Q => ta σ H λ x H1 => tb σ H1 λ y H2 => r x y H2 λ z H3 => ∃ k, z = .bl k /\
 (if k = true then tc σ H3 λ w' H4 => r' y w' H4 Q else Q (.bl false) H3)
theorem zmP (ho : OpR X (compareOp op) r) (ho' : OpR X (compareOp op') r') (ha : PE X a ta) (hb : PE X b tb) (hc : PE X c tc)
 (hm : lastMarks [op, op'] [b, c] = false := by with_unfolding_all rfl) : PE X (.Compare a [op, op'] [b, c] pos) (zqf r r' ta tb tc) := by
 intro pins s σ H Q I h
 refine Compare_chain (thn (ha pins s σ H _ I h) λ v s1 ⟨x, H1, I1, r1, q1⟩ => chain_link (thn (hb pins s1 σ H1 _ I1 q1) λ u s2 ⟨y, H2, I2, r2, q2⟩ =>
  thn (ho pins s2 σ H2 x y v u _ I2 r1 r2 q2) λ d s3 ⟨z, H3, I3, r3, k, e, q3⟩ => ?_)) hm
 subst e
 cases r3
 refine wpAny_truthy_bool ?_
 cases k with
 | false => exact ite_ff ⟨.bl false, H3, I3, rfl, q3⟩
 | true => exact ite_tt (chain_last (thn (hc pins s3 σ H3 _ I3 q3) λ w' s4 ⟨z', H4, I4, r4, q4⟩ => ho' pins s4 σ H4 y z' u w' Q I4 r2 r4 q4))
def zrw (K : zD) (x : V) (H : Hp) (k : Bool) : Prop :=
 match x with
 | .non => k = false
 | .bl b => k = b
 | .int i => k = (i != 0)
 | .str y => y.length <= sizeLine /\ k = ((y.length : Int) != 0)
 | .byt y => y.size <= sizeLine /\ k = ((y.size : Int) != 0)
 | .ref p => (∃ xs, SqL K H p xs /\ k = !xs.isEmpty) \/ (∃ xs, SqT K H p xs /\ k = !xs.isEmpty) \/ ∃ kvs, H p = some (.dK kvs) /\ k = !kvs.isEmpty
 | _ => False
theorem zjz (r : KV kvs vs) : (!vs.isEmpty) = !kvs.isEmpty := by
 cases r <;> rfl
theorem zfy (r : Vals xs its) : (!its.toArray.isEmpty) = !xs.isEmpty := by
 cases r <;> simp
theorem zbR : (sizeLine : Nat) < 2 ^ 63 := by rw [sizeLine_eq]; decide
theorem zrB : zti X (λ x H Q => ∃ k, zrw X.K x H k /\ Q k H) := by
 intro pins s σ H x v Q I rx h
 obtain ⟨k, e, q⟩ := h
 have hl := zbR
 have hs : sizeLine = 16777216 := sizeLine_eq
 cases x with
 | non =>
  cases rx
  have e' : k = false := e
  subst e'
  exact truthy_none ⟨H, I, q⟩
 | bl b =>
  cases rx
  have e' : k = b := e
  subst e'
  exact wpAny_truthy_bool ⟨H, I, q⟩
 | int i =>
  obtain ⟨t, rfl⟩ := rx
  have e' : k = (i != 0) := e
  subst e'
  exact PySem.P.truthy_int ⟨H, I, q⟩
 | str y =>
  obtain ⟨t, rfl⟩ := rx
  obtain ⟨hy, e'⟩ : y.length <= sizeLine /\ k = ((y.length : Int) != 0) := e
  subst e'
  exact PySem.P.truthy_str (by omega) ⟨H, I.tok _, q⟩
 | byt y =>
  obtain ⟨t, rfl⟩ := rx
  obtain ⟨hy, e'⟩ : y.size <= sizeLine /\ k = ((y.size : Int) != 0) := e
  subst e'
  exact PySem.W.truthy_bytes (by omega) ⟨H, I.tok _, q⟩
 | ref p =>
  cases rx
  have e' : (∃ xs, SqL X.K H p xs /\ k = !xs.isEmpty) \/ (∃ xs, SqT X.K H p xs /\ k = !xs.isEmpty) \/ ∃ kvs, H p = some (.dK kvs) /\ k = !kvs.isEmpty := e
  rcases e' with ⟨xs, hx, e'⟩ | ⟨xs, hx, e'⟩ | ⟨kvs, hx, e'⟩
  · subst e'
    obtain ⟨its, r, pl, hz⟩ := I.list hx
    have hlen := r.length
    exact wpAny_truthy_list pl.isList (by simp only [zzF]; omega) ⟨H, I.tok _, by rw [zfy r]; exact q⟩
  · subst e'
    obtain ⟨its, r, pl, hz⟩ := I.tuple hx
    have hlen := r.length
    exact truthy_tuple pl (by simp only [zzF]; omega) ⟨H, I.tok _, by rw [zfy r]; exact q⟩
  · subst e'
    obtain ⟨hz, hS, vs, r, m⟩ : kvs.length <= sizeLine /\ (p == sysModules) = false /\ ∃ vs, KV kvs vs /\ s.heap.DictOf (Yj X.prog X.w) p vs := I.hok p _ hx
    have hlen : kvs.length = vs.length := Paired.length r
    exact wpAny_truthy_dict hS m (by omega) ⟨H, I.tok _, by rw [zjz r]; exact q⟩
 | _ => exact (show False from e).elim
theorem znK (ha : PE X a ta) (he : ∀ whole, isTrue a X.env whole = (do let v <- whole; standAt a.pos; holding [v] (truthy v))) :
 PT X a (λ σ H Q => ta σ H λ x H' => ∃ k, zrw X.K x H' k /\ Q k H') := by
 intro pins s σ H Q I h
 exact isTrue_plain (thn (ha pins s σ H _ I h) λ v s1 ⟨x, H1, I1, r1, q1⟩ => zrB pins s1 σ H1 x v Q I1 r1 q1) (he _)
theorem zjI : OpR X (binaryOp .Add) (λ x y H Q => ∃ i j, x = .str i /\ y = .str j /\ i.length + j.length <= sizeLine /\ Q (.str (i ++ j)) H) := by
 intro pins s σ H x y v u Q I rx ry h
 obtain ⟨i, j, rfl, rfl, hz, q⟩ := h
 obtain ⟨t, rfl⟩ := rx
 obtain ⟨t', rfl⟩ := ry
 exact add_str (λ t' tk => ⟨.str (i ++ j), H, I.tok _, ⟨_, rfl⟩, q⟩) hz
theorem vals1 (r : Vals [x] us) : ∃ u, us = [u] /\ RelV x u := by
 cases r with
 | cons r1 r2 => cases r2; exact ⟨_, rfl, r1⟩
theorem vals2 (r : Vals [x, y] us) : ∃ u w', us = [u, w'] /\ RelV x u /\ RelV y w' := by
 cases r with
 | cons r1 r2 =>
  cases r2 with
  | cons r3 r4 => cases r4; exact ⟨_, _, rfl, r1, r3⟩
theorem zlj (hc : X.calm = true) : V3 X (.builtin "max") (λ xs H Q => ∃ i j, xs = [.int i, .int j] /\ Q (.int (if j > i then j else i)) H) := by
 intro pins s σ H xs us Q I r h
 obtain ⟨i, j, rfl, q⟩ := h
 obtain ⟨u, w', rfl, ⟨t, rfl⟩, ⟨t', rfl⟩⟩ := vals2 r
 refine max_two_ints (I.ok.hd hc) λ h' tk k => ⟨_, H, I.kept k, ?_, q⟩
 by_cases hj : j > i
 · rw [if_pos hj, if_pos hj]; exact ⟨_, rfl⟩
 · rw [if_neg hj, if_neg hj]; exact ⟨_, rfl⟩
theorem zgl : V3 X (.type "int") (λ xs H Q => (∃ i, xs = [.int i] /\ Q (.int i) H) \/ ∃ k, xs = [.bl k] /\ Q (.int (if k then 1 else 0)) H) := by
 intro pins s σ H xs us Q I r h
 rcases h with ⟨i, rfl, q⟩ | ⟨k, rfl, q⟩
 · obtain ⟨u, rfl, t, rfl⟩ := vals1 r
   exact call_int_int ⟨.int i, H, I, ⟨_, rfl⟩, q⟩
 · obtain ⟨u, rfl, r1⟩ := vals1 r
   cases r1
   exact call_int_bool ⟨.int (if k then 1 else 0), H, I.tok _, ⟨_, rfl⟩, q⟩
theorem zhC : V3 X (.type "str") (λ xs H Q => ∃ i, xs = [.int i] /\ i.natAbs.log2 < 1920 /\ Q (.str (toString i)) H) := by
 intro pins s σ H xs us Q I r h
 obtain ⟨i, rfl, hz, q⟩ := h
 obtain ⟨u, rfl, t, rfl⟩ := vals1 r
 exact PySem.P.str_of_int hz ⟨.str _, H, I.tok _, ⟨_, rfl⟩, q⟩
end
end L2
namespace L2
open PySem PySem.Spec PyProof.Rows
structure ObjM (h : Heap) (x dx C : Addr) (mA : Str -> Option Value) : Prop where
 obj : h.get? x = some (PySem.W.instObj C dx)
 ns : h.Ns1 dx mA
 ne : dx ≠ x
theorem zii.some_of (r : zii (some v) o) : ∃ u, o = some u /\ RelV v u := by
 cases o with
 | none => exact (show False from r).elim
 | some u => exact ⟨u, rfl, r⟩
structure Cls (K : zD) (C : Addr) : Prop where
 pg : PySem.W.plainGet K C Str.empty = true
 hd : PySem.W.hasDictIn K C = true
 po : PySem.W.plainOver K C = true
 sa : PySem.W.findIn K (.ref C) "__setattr__" = some (some (.builtin "object.__setattr__"))
structure Con (K : zD) (C : Addr) (f : Str) (v : V) (u : Value) : Prop where
 at_ : PySem.W.findIn K (.ref C) f = some (some u)
 rel : RelV v u
 get : PySem.W.specialIn K u "__get__" = some none
 cp : PySem.W.copiedNames.contains f = false
structure Meth (K : zD) (C : Addr) (m : Str) (f : Addr) : Prop where
 at_ : PySem.W.findIn K (.ref C) m = some (some (.ref f))
 fn : PySem.W.isFn K (.ref f) = true
 kp : PySem.W.keepIn K (.ref f) = true
section
variable {X : Cx} {pins : List (Addr × Obj)} {σ : St} {H : Hp} {s : Shared} {A : Around} {E : Value -> Shared -> Prop} {Q : Value -> Shared -> Prop} {c : Value} {b : Bool}
inductive TyOf (K : zD) (H : Hp) : V -> Value -> Prop where
 | non : TyOf K H .non (.type "NoneType")
 | bl (x : Bool) : TyOf K H (.bl x) (.type "bool")
 | int (i : Int) : TyOf K H (.int i) (.type "int")
 | str (x : Str) : TyOf K H (.str x) (.type "str")
 | flt (x : UInt64) : TyOf K H (.flt x) (.type "float")
 | lst {a : Addr} {xs : List V} (e : H a = some (.lst xs)) : TyOf K H (.ref a) (.type "list")
 | frz {a : Addr} {o : Obj} {xs : List V} (e : H a = some (.frz o (.lst xs))) : TyOf K H (.ref a) (.type "list")
 | tup {a : Addr} {xs : List V} (e : H a = some (.tup xs)) : TyOf K H (.ref a) (.type "tuple")
 | dK {a : Addr} {kvs : List (Key × V)} (e : H a = some (.dK kvs)) : TyOf K H (.ref a) (.type "dict")
 | dT {a : Addr} {kvs : List (List Key × V)} (e : H a = some (.dT kvs)) : TyOf K H (.ref a) (.type "dict")
 | ins {a C dx : Addr} {fs : List (Str × V)} (e : H a = some (.ins C dx fs)) (cl : Cls K C) (ha : PySem.W.findIn K (.ref C) "__class__" = some (some (.builtin "object.__class__")))
  (hn : PySem.W.specialIn K (.builtin "object.__class__") "__get__" = some (some (.builtin "getset_descriptor.__get__"))) (htk : PySem.W.takesIn K (.builtin "object.__class__") = some true)
  (hm : PySem.W.mroIn K C (.type "object") = some true) : TyOf K H (.ref a) (.ref C)
end
end L2
namespace L2
open PySem PySem.Spec PyProof.Rows
structure Room (k : Nat) (A : Around) : Prop where
 hd : A.handled = none
 dp : A.depth + 3 * k + 5 < recursionLimit
 un : A.units + 16 * k + 200 < cLine
 gd : A.guards = some []
theorem Room.mono (r : Room k A) (h : j <= k) : Room j A := ⟨r.hd, by have := r.dp; omega, by have := r.un; omega, r.gd⟩
theorem Room.deeper (r : Room (k + 1) A) (env : Env) : Room k (A.deeper env) :=
 ⟨r.hd, by have := r.dp; show A.depth + 1 + 3 * k + 5 < _; omega, by have := r.un; show A.units + 3 + 16 * k + 200 < _; omega, r.gd⟩
theorem Room.depth (r : Room k A) : A.depth < recursionLimit := by have := r.dp; omega
def zsA : TA := λ _ H Q => Q [] H
def zpE (ta : TE) (tr : TA) : TA := λ σ H Q => ta σ H λ x H1 => tr σ H1 λ xs H2 => Q (x :: xs) H2
section
variable {X : Cx} {e : Expr} {es : List Expr} {te : TE} {t : TA} {pos : Pos}
theorem zhb : PA X [] zsA := λ _ _ _ _ H Q I h => Calls.spliced_nil ⟨[], H, I, .nil, h⟩
theorem zbX (ha : PE X e te) (hr : PA X es t) (hs : starEach (e :: es) X.env = (false, eval e X.env) :: starEach es X.env := by rfl) : PA X (e :: es) (zpE te t) := by
 intro pos pins s σ H Q I h
 rw [hs]
 show wpAny _ _ (spliced ((false, eval e X.env) :: backTo pos (starEach es X.env))) _ _ s
 refine Calls.spliced_cons (thn (ha pins s σ H _ I h) λ u s1 ⟨x, H1, I1, r1, q1⟩ => ?_)
 exact thn (hr pos pins s1 σ H1 _ I1 q1) λ us s2 ⟨xs, H2, I2, r2, q2⟩ => ⟨x :: xs, H2, I2, .cons r1 r2, q2⟩
def zsM (t : TA) : TE := λ σ H Q => t σ H λ xs H1 => xs.length <= sizeLine /\ ∀ p, H1 p = none -> Q (.ref p) (upd H1 p (.tup xs))
def ztn (t : TA) : TE := λ σ H Q => t σ H λ xs H1 => xs.length <= sizeLine /\ ∀ p, H1 p = none -> Q (.ref p) (upd H1 p (.lst xs))
theorem zqI (h : PA X es t) : PE X (.Tuple es x1 pos) (zsM t) := by
 intro pins s σ H Q I hq
 refine wpAny_Tuple_spliced (thn (h pos pins s σ H _ I hq) λ us s1 ⟨xs, H1, I1, r, z, q⟩ => ⟨by rw [<- r.length]; exact z, ?_⟩)
 have hf : H1 s1.heap.objs.size = none := I1.hok.fresh (zzL _)
 refine ⟨.ref s1.heap.objs.size, upd H1 s1.heap.objs.size (.tup xs), I1.laid (t' := s1.toks) (λ b u e => Heap.get?_push_of_some _ e) (zzL _) ?_, rfl, q _ hf⟩
 exact ⟨z, us, r, ⟨_, Heap.get?_push_size _ rfl, rfl, _, rfl⟩⟩
theorem zqk (h : PA X es t) : PE X (.List es pos) (ztn t) := by
 intro pins s σ H Q I hq
 refine wpAny_List_spliced (thn (h pos pins s σ H _ I hq) λ us s1 ⟨xs, H1, I1, r, z, q⟩ => ⟨by rw [<- r.length]; exact z, ?_⟩)
 have hf : H1 s1.heap.objs.size = none := I1.hok.fresh (zzL _)
 refine ⟨.ref s1.heap.objs.size, upd H1 s1.heap.objs.size (.lst xs), I1.laid (t' := s1.toks) (λ b u e => Heap.get?_push_of_some _ e) (zzL _) ?_, rfl, q _ hf⟩
 exact ⟨z, us, 0, r, Heap.get?_push_size _ rfl⟩
end
abbrev Sp := List V -> Hp -> VK -> XK -> Prop
abbrev CXT := List Env -> Hp -> Shared -> XK -> Value -> Shared -> Prop
structure Env0 (P : Program) (w : World) (K : zD) (mg : Str -> Option Value) (base : Heap) (A : Around) (outer : List Env) (s : Shared) (H : Hp) : Prop where
 frames : A.frames = some outer
 mod : Mod K mg base
 bs : ∀ b o, base.get? b = some o -> s.heap.get? b = some o /\ H b = none
 bsz : base.objs.size <= s.heap.objs.size
 funs : s.heap.FunFrames base outer
 frf : ∀ b ∈ frs outer, H b = none
 hok : HOk P w H s.heap
 bare : AllBare s.gens
def CE (outer : List Env) (P : Program) (w : World) (H : Hp) (s : Shared) (Q : VK) (u : Value) (s' : Shared) : Prop :=
 ∃ v H', s'.os = s.os /\ AllBare s'.gens /\ Un (frs outer) [] H H' s.heap s'.heap /\ HOk P w H' s'.heap /\ RelV v u /\ Q v H'
def CR (CX : CXT) (outer : List Env) (P : Program) (w : World) (H : Hp) (s : Shared) (Q : VK) (E : XK) (r : Result) (s' : Shared) : Prop :=
 match r with
 | .ok (.ret u) => CE outer P w H s Q u s'
 | .ok _ => False
 | .error e => CX outer H s E e s'
structure FnOk (P : Program) (w : World) (K : zD) (mg : Str -> Option Value) (base : Heap) (CX : CXT) (k : Nat) (f : Addr) (fd : FuncData) (ps : List Str) (sp : Sp) : Prop where
 len : ∀ vs H Q E, sp vs H Q E -> vs.length = ps.length
 run : ∀ (A : Around) (outer : List Env) (s : Shared) (H : Hp) (args : Args) (us : List Value) (vs : List V) (Q : VK) (E : XK), Room k A -> Env0 P w K mg base A outer s H -> BindsTo s fd args (ps.zip us) -> Vals vs us -> sp vs H Q E ->
  codeAny (model P w) A (.call (.ref f) args) (CR CX outer P w H s Q E) s
theorem FnOk.imp {P : Program} {w : World} {K : zD} {mg : Str -> Option Value} {base : Heap} {CX : CXT} {k : Nat} {f : Addr} {fd : FuncData} {ps : List Str} {sp sp' : Sp} (F : FnOk P w K mg base CX k f fd ps sp)
 (h : ∀ vs H Q E, sp' vs H Q E -> sp vs H Q E) : FnOk P w K mg base CX k f fd ps sp' :=
 ⟨λ vs H Q E q => F.len vs H Q E (h _ _ _ _ q), λ A outer s H args us vs Q E hr he hb hv hs => F.run A outer s H args us vs Q E hr he hb hv (h _ _ _ _ hs)⟩
section
variable {X : Cx} {pins : List (Addr × Obj)} {σ : St} {H : Hp} {s s' : Shared}
theorem Inv.env0 (I : Inv X pins σ H s) : Env0 X.prog X.w X.K X.mg X.base X.A X.stack s H :=
 ⟨I.ok.frames, I.ok.mod, I.bs, zzM I.ok.bsz I.sz, I.stack, I.stkFree, I.hok, I.bare⟩
theorem Inv.after (I : Inv X pins σ H s) (h : CE X.stack X.prog X.w H s Q u s') : EP X pins σ Q u s' := by
 obtain ⟨v, H', os, bare, un, hok, r, q⟩ := h
 obtain ⟨hh, g, d, t, os'⟩ := s'
 obtain rfl : os' = s.os := os
 exact ⟨v, H', I.call (h' := hh) (g' := g) (d' := d) (t' := t) (ch := []) un hok bare (λ b z => absurd z (by simp)), r, q⟩
end
def zpK (sp : Sp) (dvs : List V) (E : XK) (t : TA) : TE := λ σ H Q => t σ H λ vs H1 => sp (vs ++ dvs) H1 Q E
def Binds (K : zD) (fd : FuncData) (ps : List Str) (ds : List Value) : Prop :=
 ∀ (s : Shared) (us : List Value), K.In s.heap -> (us ++ ds).length = ps.length -> BindsTo s fd ⟨us, []⟩ (ps.zip (us ++ ds))
theorem Binds.all {K : zD} {fd : FuncData} {ps : List Str} (h : ∀ us : List Value, us.length = ps.length -> bindArgs fd ⟨us, []⟩ = pure (ps.zip us)) : Binds K fd ps [] := λ s us _ hl => by
 rw [List.append_nil] at hl ⊢
 exact .of_eq (h us hl)
def zhf (CX : CXT) (X : Cx) (E : XK) : Prop := ∀ (pins : List (Addr × Obj)) (σ : St) (H : Hp) (s : Shared) (e : Value) (s' : Shared), Inv X pins σ H s -> CX X.stack H s E e s' -> X.xe e s'
section
variable {X : Cx} {CX : CXT} {k : Nat} {f C : Addr} {fd : FuncData} {ps : List Str} {sp : Sp} {dvs : List V} {ds : List Value} {E : XK} {x m : Str} {p pos apos : Pos} {e o : Expr} {es : List Expr} {ta : TE} {t : TA}
theorem zqo (F : FnOk X.prog X.w X.K X.mg X.base CX k f fd ps sp) (hr : Room k X.A) (hb : Binds X.K fd ps ds) (hd : Vals dvs ds) (hx : zhf CX X E)
 (I : Inv X pins σ H s) (r : Vals vs us) (h : sp (vs ++ dvs) H Q E) : wpAny (model X.prog X.w) X.A (call (.ref f) us) (EP X pins σ Q) X.xe s := by
 have r2 : Vals (vs ++ dvs) (us ++ ds) := r.append hd
 have hl : (us ++ ds).length = ps.length := by rw [<- r2.length]; exact F.len _ _ _ _ h
 refine wpAny_call (codeAny_mono (F.run X.A X.stack s H ⟨us, []⟩ (us ++ ds) (vs ++ dvs) Q E hr I.env0 (hb s us I.kIn hl) r2 h) λ r s' hq => ?_)
 cases r with
 | error e => exact hx pins σ H s e s' I hq
 | ok fl =>
  cases fl with
  | ret u => exact I.after hq
  | next => exact False.elim hq
  | brk => exact False.elim hq
  | cont => exact False.elim hq
theorem zoV (F : FnOk X.prog X.w X.K X.mg X.base CX k f fd ps sp) (hr : Room k X.A) (hg : Gl X x) (hm : X.mg x = some (.ref f)) (hk : PySem.W.keepIn X.K (.ref f) = true) (hb : Binds X.K fd ps ds) (hd : Vals dvs ds) (hx : zhf CX X E)
 (ha : PA X (e :: es) t) (hdb : (x == ("__debug__" : Str)) = false := by decide) (he : starEach (e :: es) X.env = (false, eval e X.env) :: starEach es X.env := by rfl) (hpl : (backTo pos (starEach es X.env)).any (·.1) = false := by rfl) :
 PE X (.Call (.Name x p) (e :: es) [] pos) (zpK sp dvs E t) := by
 intro pins s σ H Q I h
 refine wpAny_Call_Name_kw (zkU I hg hm ?_ hdb)
 refine PySem.W.callWith_K (h₀ := X.base) I.ok.mod.kin hk (thn (ha pos pins s σ H _ I h) λ us s1 ⟨vs, H1, I1, r, q⟩ => ⟨I1.kIn, ?_⟩) he hpl
 exact zqo F hr hb hd hx I1 r q
structure Mk (K : zD) (C f : Addr) : Prop where
 makes : PySem.W.makesIn K C = true
 init : PySem.W.findIn K (.ref C) "__init__" = some (some (.ref f))
 fn : PySem.W.isFn K (.ref f) = true
 kp : PySem.W.keepIn K (.ref C) = true
end
section
variable {X : Cx} {CX : CXT} {k : Nat} {f C : Addr} {fd : FuncData} {ps ks : List Str} {sp : Sp} {E : XK} {x m : Str} {p pos apos kpos : Pos} {e o : Expr} {es : List Expr} {kws : List Keyword} {te ta : TE} {t tk : TA} {nm : Option Str}
structure KBinds (K : zD) (fd : FuncData) (ps ks : List Str) (g : List Value -> List Value -> List Value) (gV : List V -> List V -> List V) : Prop where
 to : ∀ (s : Shared) (us ws : List Value), K.In s.heap -> (g us ws).length = ps.length -> BindsTo s fd ⟨us, ks.zip ws⟩ (ps.zip (g us ws))
 rel : ∀ {vs : List V} {us : List Value} {zs : List V} {ws : List Value}, Vals vs us -> Vals zs ws -> Vals (gV vs zs) (g us ws)
variable {g : List Value -> List Value -> List Value} {gV : List V -> List V -> List V}
end
structure FnScope (N P : List Str) (sc : Scope) : Prop where
 kind : sc.kind = .function
 co : sc.isCoroutine = false
 gen : sc.isGenerator = false
 nd : N.Nodup
 pre : N.take P.length = P
 par : ∀ x ∈ P, sc.names.lookup x = some .local \/ sc.names.lookup x = some .cell
 nofree : ∀ y ∈ sc.names, y.2 ≠ .free
theorem zgQ {kindOf : Str -> Option NameKind} {x : Str} : ∀ {binds : List (Str × Value)} {m : Str -> Option Value}, (∀ v, (x, v) ∉ binds) -> bindL kindOf binds m x = m x
 | [], _, _ => rfl
 | (n, v) :: r, m, h => by
  unfold bindL
  rw [zgQ λ w hw => h w (zzB _ hw)]
  split
  · have : x ≠ n := by rintro rfl; exact h v zzD
    simp [this]
  · rfl
theorem zgA {kindOf : Str -> Option NameKind} {x : Str} : ∀ {binds : List (Str × Value)} {m : Str -> Option Value}, (∀ v, (x, v) ∉ binds) -> bindC kindOf binds m x = m x
 | [], _, _ => rfl
 | (n, v) :: r, m, h => by
  unfold bindC
  rw [zgA λ w hw => h w (zzB _ hw)]
  split
  · rfl
  · have : x ≠ n := by rintro rfl; exact h v zzD
    simp [this]
theorem zgR {kindOf : Str -> Option NameKind} {x : Str} {v : Value} : ∀ {P : List Str} {vs : List Value} {i : Nat} {m : Str -> Option Value}, P.Nodup -> P[i]? = some x -> vs[i]? = some v -> kindOf x = some .local ->
 bindL kindOf (P.zip vs) m x = some v
 | [], _, _, _, _, h, _, _ => by simp at h
 | _ :: _, [], _, _, _, _, h, _ => by simp at h
 | p :: P, w :: vs, 0, m, nd, h1, h2, hk => by
  simp at h1 h2; subst h1; subst h2
  show bindL kindOf ((p, w) :: P.zip vs) m p = _
  unfold bindL
  rw [zgQ λ v hv => (zzU.mp nd).1 (List.of_mem_zip hv).1, if_pos hk]
  simp
 | p :: P, w :: vs, i + 1, m, nd, h1, h2, hk => by
  show bindL kindOf ((p, w) :: P.zip vs) m x = _
  unfold bindL
  exact zgR (i := i) (zzU.mp nd).2 (by simpa using h1) (by simpa using h2) hk
theorem zgB {kindOf : Str -> Option NameKind} {x : Str} {v : Value} : ∀ {P : List Str} {vs : List Value} {i : Nat} {m : Str -> Option Value}, P.Nodup -> P[i]? = some x -> vs[i]? = some v -> kindOf x ≠ some .local ->
 bindC kindOf (P.zip vs) m x = some v
 | [], _, _, _, _, h, _, _ => by simp at h
 | _ :: _, [], _, _, _, _, h, _ => by simp at h
 | p :: P, w :: vs, 0, m, nd, h1, h2, hk => by
  simp at h1 h2; subst h1; subst h2
  show bindC kindOf ((p, w) :: P.zip vs) m p = _
  unfold bindC
  rw [zgA λ v hv => (zzU.mp nd).1 (List.of_mem_zip hv).1, if_neg hk]
  simp
 | p :: P, w :: vs, i + 1, m, nd, h1, h2, hk => by
  show bindC kindOf ((p, w) :: P.zip vs) m x = _
  unfold bindC
  exact zgB (i := i) (zzU.mp nd).2 (by simpa using h1) (by simpa using h2) hk
def start (N : List Str) (vs : List V) : St := vs.map some ++ List.replicate (N.length - vs.length) none
def zji (CX : CXT) (P : Program) (w : World) (K : zD) (mg : Str -> Option Value) (base : Heap) (N : List Str) (qual : Str) (scope : Scope) (f : Addr) (cd : Value) (A : Around) (outer : List Env) (s : Shared) (H : Hp) (E : XK) : Cx where
 prog := P
 w := w
 K := K
 mg := mg
 base := base
 A := A.deeper (envOfC qual scope s.heap.objs.size f cd)
 N := N
 s₀ := s
 H₀ := H
 env := envOfC qual scope s.heap.objs.size f cd
 outer := outer
 stack := envOfC qual scope s.heap.objs.size f cd :: outer
 ex := []
 calm := true
 fn := λ _ => true
 pn := []
 xe := λ e s' => wpAny (model P w) (A.deeper (envOfC qual scope s.heap.objs.size f cd)) (leaving (envOfC qual scope s.heap.objs.size f cd) e) (λ _ s'' => CX outer H s E e s'') (λ e' s'' => CX outer H s E e' s'') s'
theorem zif {sc : Scope} {n : Nat} {x : Str} (h : sc.names.lookup x = some .cell) : ∃ c, (cellsFrom n sc.names []).lookup x = some c := by
 have q := PySem.W.cellsFrom_some sc.names n [] (.inl h)
 exact Option.isSome_iff_exists.mp q
theorem zlp {CX : CXT} {P : Program} {w : World} {K : zD} {mg : Str -> Option Value} {base : Heap} {N ps : List Str} {qual : Str} {scope : Scope} {f : Addr} {cd : Value} {A : Around} {outer : List Env} {s s1 : Shared} {H : Hp} {E : XK} {us : List Value} {vs : List V}
 (S : FnScope N ps scope) (hd : A.handled = none) (e0 : Env0 P w K mg base A outer s H) (hl : vs.length = ps.length) (r : Vals vs us)
 (x : InCallC s s.heap.objs.size (bindL (envOfC qual scope s.heap.objs.size f cd).kindOf (ps.zip us) λ _ => none) (cellsFrom (s.heap.objs.size + 1) scope.names []) (bindC (envOfC qual scope s.heap.objs.size f cd).kindOf (ps.zip us) λ _ => none) s1) :
 Inv (zji CX P w K mg base N qual scope f cd A outer s H E) [] (start N vs) H s1 := by
 have hpl : ps.length <= N.length := by have := congrArg List.length S.pre; rw [zzQ] at this; omega
 obtain ⟨h1, tk, rfl, hk⟩ := x.done
 have noA : ∀ b : Addr, b ∉ (zji CX P w K mg base N qual scope f cd A outer s H E).ex := λ b z => absurd (show b ∈ ([] : List Addr) from z) (by simp)
 refine ⟨⟨e0.mod, S.kind, rfl, rfl, zzL _, λ y z c h1 h2 => ?_, λ y hy => ?_, λ y c _ h => ?_, λ _ => hd, Around.frames_deeper e0.frames, .inr ⟨rfl, rfl⟩, λ b z => absurd z (noA b), e0.bs, e0.bsz, λ b _ _ => noA b, λ b z => absurd z (noA b), e0.funs, e0.frf⟩,
  rfl, e0.bare, Un.kept hk, ⟨_, x.toInCall.ns, λ i y v h1 h2 h3 => ?_⟩, λ y c h => ⟨_, x.cell y c h⟩, e0.hok.fresh (zzL _), λ y c h => ?_, λ p hp => absurd (show p ∈ ([] : List (Addr × Obj)) from hp) (by simp), e0.hok.kept hk, ?_⟩
 · exact name_of_addr x.apart (PySem.mem_of_lookup h1) (PySem.mem_of_lookup h2)
 · have hy : scope.names.lookup y = some .cell \/ scope.names.lookup y = some .free := hy
   rcases hy with hy | hy
   · exact zif hy
   · exact absurd rfl (S.nofree _ (PySem.mem_of_lookup hy))
 · exact Nat.le_of_lt (x.above y c (PySem.mem_of_lookup h))
 · have hi : i < vs.length := by
    unfold start at h2
    by_cases hi : i < vs.length
    · exact hi
    · rw [List.getElem?_append_right (by simpa using hi)] at h2
      rw [List.getElem?_replicate] at h2
      split at h2 <;> cases h2
   have ha : vs[i]? = some v := by
    unfold start at h2
    rw [List.getElem?_append_left (by simpa using hi), zzG] at h2
    cases e : vs[i]? with
    | none => rw [e] at h2; cases h2
    | some a => rw [e] at h2; cases h2; rfl
   obtain ⟨u, hu, rv⟩ := r.get ha
   have hp : ps[i]? = some y := by
    rw [<- S.pre, List.getElem?_take_of_lt (by omega)]; exact h1
   have ndP : ps.Nodup := by rw [<- S.pre]; exact S.nd.sublist (List.take_sublist _ _)
   refine ⟨u, rv, ?_⟩
   rcases S.par y (List.mem_of_getElem? hp) with k | k
   · exact .inl ⟨k, zgR ndP hp hu k⟩
   · obtain ⟨c, e⟩ := zif (n := s.heap.objs.size + 1) k
     refine .inr ⟨.inl k, c, e, ?_⟩
     have q := x.cell y c e
     rw [zgB ndP hp hu (by show scope.names.lookup y ≠ _; rw [k]; decide)] at q
     exact q
 · exact e0.hok.fresh (Nat.le_of_lt (x.above y c (PySem.mem_of_lookup h)))
 · unfold start
   show _ = N.length
   rw [zzH, zI, List.length_replicate]
   omega
theorem zsb {CX : CXT} {P : Program} {w : World} {K : zD} {mg : Str -> Option Value} {base : Heap} {k : Nat} {f : Addr} {name qual : Str} {params : Arguments} {body : List Stmt} {scope : Scope} {dV kV doc pm cdv ct oc : Value} {an od : Option Addr}
 {osl : Array (Option Value)} {N ps : List Str} {sp : Sp} (lk : K.lookup f = some ⟨oc, od, .func (PySem.W.fnOf name qual params body scope dV kV doc pm an cdv ct), osl⟩) (hcd : PySem.W.codeIn K cdv qual = true) (S : FnScope N ps scope)
 (len : ∀ vs H Q E, sp vs H Q E -> vs.length = ps.length)
 (hbody : ∀ (A : Around) (outer : List Env) (s : Shared) (H : Hp) (vs : List V) (Q : VK) (E : XK), Room k (A.deeper (envOfC qual scope s.heap.objs.size f cdv)) -> sp vs H Q E ->
  ∃ t, PSs (zji CX P w K mg base N qual scope f cdv A outer s H E) body t /\ t { nx := λ _ H' => Q .non H', rt := Q } (start N vs) H) :
 FnOk P w K mg base CX (k + 1) f (PySem.W.fnOf name qual params body scope dV kV doc pm an cdv ct) ps sp := by
 refine ⟨len, λ A outer s H args us vs Q E hr e0 hb r hsp => ?_⟩
 have hl := len _ _ _ _ hsp
 have KX : K.In s.heap := e0.mod.kin.keeps λ b o e => (e0.bs b o e).1
 have lim : s.heap.NoLimit := e0.mod.nolimit.keeps λ b o e => (e0.bs b o e).1
 have hkind : ∀ y ∈ ps.zip us, scope.names.lookup y.1 = some .local \/ (scope.names.lookup y.1 = some .cell /\ ((cellsFrom (s.heap.objs.size + 1) scope.names []).lookup y.1).isSome = true) := λ ⟨n, v⟩ hy => by
  rcases S.par n (List.of_mem_zip hy).1 with q | q
  · exact .inl q
  · exact .inr ⟨q, PySem.W.cellsFrom_some _ _ _ (.inl q)⟩
 refine codeAny_call_function hr.depth (KX _ _ lk) rfl S.co S.gen rfl (PySem.W.codeRec_of KX hcd) (hb _ _ _ _ ?_)
 refine wpAny_newFunctionEnv_cells S.kind hkind λ env he s1 x => ?_
 subst he
 refine ⟨lim.keeps x.toInCall.keep, codeAny_func ?_⟩
 obtain ⟨t, ht, hq⟩ := hbody A outer s H vs Q E (hr.deeper _) hsp
 have I : Inv (zji CX P w K mg base N qual scope f cdv A outer s H E) [] (start N vs) H s1 := zlp S hr.hd e0 hl r x
 refine wpAny_mono (ht [] s1 (start N vs) H _ I hq) (λ fl s' hs => ?_) λ e s' hs => hs
 have fin : ∀ {σ' : St} {H' : Hp} {v : V} {u : Value}, Inv (zji CX P w K mg base N qual scope f cdv A outer s H E) [] σ' H' s' -> RelV v u -> Q v H' -> CE outer P w H s Q u s' :=
  λ {σ' H' v u} J rv q => ⟨v, H', J.os, J.bare, J.base, J.hok, rv, q⟩
 cases fl with
 | ret u =>
  obtain ⟨v, σ', H', J, rv, q⟩ := hs
  exact fin J rv q
 | next =>
  obtain ⟨σ', H', J, q⟩ := hs
  exact fin (v := V.non) (u := Value.none) J rfl q
 | brk =>
  obtain ⟨_, _, _, q⟩ := hs
  exact False.elim q
 | cont =>
  obtain ⟨_, _, _, q⟩ := hs
  exact False.elim q
end L2
namespace L2
open PySem PySem.Spec PyProof.Rows
section
variable {X : Cx} {x : Str} {p pos : Pos} {e : Expr} {es : List Expr} {t : TA} {id T : String} {r : List V -> Hp -> VK -> Prop}
def tCB (r : List V -> Hp -> VK -> Prop) (t : TA) : TE := λ σ H Q => t σ H λ vs H1 => r vs H1 Q
theorem zil (hc : V3 X (.builtin id) r) (hg : Gl X x) (hm : X.mg x = none) (hv : bootBuiltins x = some (.builtin id)) (ha : PA X (e :: es) t) (hn : x ≠ "__name__" := by decide) (hdb : (x == ("__debug__" : Str)) = false := by decide)
 (he : starEach (e :: es) X.env = (false, eval e X.env) :: starEach es X.env := by rfl) (hpl : (backTo pos (starEach es X.env)).any (·.1) = false := by rfl) : PE X (.Call (.Name x p) (e :: es) [] pos) (tCB r t) := by
 intro pins s σ H Q I h
 refine wpAny_Call_Name_kw (W8 I hg hm hv ?_ hn hdb)
 exact PyProof.Rows.callWith_builtin1 (thn (ha pos pins s σ H _ I h) λ us s1 ⟨vs, H1, I1, r1, q1⟩ => hc pins s1 σ H1 vs us Q I1 r1 q1) he hpl
theorem zlP (hc : V3 X (.type T) r) (hg : Gl X x) (hm : X.mg x = none) (hv : bootBuiltins x = some (.type T)) (ha : PA X (e :: es) t) (hn : x ≠ "__name__" := by decide) (hdb : (x == ("__debug__" : Str)) = false := by decide)
 (he : starEach (e :: es) X.env = (false, eval e X.env) :: starEach es X.env := by rfl) (hpl : (backTo pos (starEach es X.env)).any (·.1) = false := by rfl) : PE X (.Call (.Name x p) (e :: es) [] pos) (tCB r t) := by
 intro pins s σ H Q I h
 refine wpAny_Call_Name_kw (W8 I hg hm hv ?_ hn hdb)
 exact PyProof.Rows.callWith_type1 (thn (ha pos pins s σ H _ I h) λ us s1 ⟨vs, H1, I1, r1, q1⟩ => hc pins s1 σ H1 vs us Q I1 r1 q1) he hpl
end
end L2
namespace L2
open PySem PySem.Spec PyProof.Rows
section
variable {κ : Type} [DecidableEq κ]
def zcG (kvs : List (κ × V)) (k : κ) : Option V := (kvs.find? λ kv => decide (kv.1 = k)).map (·.2)
theorem znD {p : κ × V} {r : List (κ × V)} {k : κ} (e : p.1 = k) : zcG (p :: r) k = some p.2 := by simp [zcG, List.find?_cons, e]
theorem znC {p : κ × V} {r : List (κ × V)} {k : κ} (e : ¬ p.1 = k) : zcG (p :: r) k = zcG r k := by simp [zcG, List.find?_cons, e]
theorem zii.isSome_eq (r : zii o u) : o.isSome = u.isSome := by
 cases o with
 | none => cases u with
  | none => rfl
  | some _ => exact (show False from r).elim
 | some _ => cases u with
  | none => exact (show False from r).elim
  | some _ => rfl
theorem KV.val {kvs : List (κ × V)} {vs : List (κ × Value)} (r : KV kvs vs) (k : κ) : zii (zcG kvs k) (valueAt vs k) := by
 unfold KV at r
 induction r with
 | nil => exact True.intro
 | @cons p q ps qs h t ih =>
  obtain ⟨h1, h2⟩ := h
  by_cases e : p.1 = k
  · have e' : q.1 = k := h1.symm.trans e
    have b : valueAt (q :: qs) k = some q.2 := by simp [valueAt, List.find?_cons, e']
    rw [znD e, b]; exact h2
  · have e' : ¬ q.1 = k := λ z => e (h1.trans z)
    have b : valueAt (q :: qs) k = valueAt qs k := by simp [valueAt, List.find?_cons, e']
    rw [znC e, b]; exact ih
theorem KV.length (r : KV kvs vs) : kvs.length = vs.length := Paired.length r
end
theorem zng (r : RelV (kV k) u) : (Yj P w).is k u = true := by
 cases k with
 | inl i => obtain ⟨t, e⟩ := (show ∃ t, u = Value.int i t from r); subst e; exact zic P w i t
 | inr x => obtain ⟨t, e⟩ := (show ∃ t, u = Value.str x t from r); subst e; exact VV P w x t
section
variable {P : Program} {w : World} {H : Hp} {h : Heap} {a : Addr}
theorem zsD (ok : HOk P w H h) (e : Rd H a u) : ZC P w H h a u := e.ok ok
theorem zsp (ok : HOk P w H h) (e : Rd H a (.dK kvs)) : kvs.length <= sizeLine /\ (a == sysModules) = false /\ ∃ vs, KV kvs vs /\ h.DictOf (Yj P w) a vs :=
 show ZC P w H h a (.dK kvs) from zsD ok e
end
section
variable {X : Cx} {pins : List (Addr × Obj)} {σ : St} {H : Hp} {s : Shared} {a : Addr} {y v : V} {u r : Value} {o : Option V} {A : Around} {E : Value -> Shared -> Prop}
theorem Inv.big (I : Inv X pins σ H s) : sysModules < s.heap.objs.size := by
 have h : mainGlobals < s.heap.objs.size := (I.mod.glob.keeps I.bk).lt
 exact Nat.lt_trans (by decide) h
end
theorem znj (h : Heap) (hb : sysModules < h.objs.size) : ZC P w H (h.push { cls := .type "dict", data := .dict #[] }) h.objs.size (.dK []) :=
 ⟨Nat.zero_le _, beq_eq_false_iff_ne.mpr (Ne.symm (zzO hb)), [], .nil, Heap.DictOf.new h⟩
def zpS : TE := λ _ H Q => ∀ p, H p = none -> Q (.ref p) (upd H p (.dK []))
section
variable {X : Cx} {pos : Pos}
theorem znn : PE X (.Dict [] [] pos) zpS := λ pins s σ H Q I h =>
 wpAny_Dict_empty ⟨.ref s.heap.objs.size, _, I.laid (a := s.heap.objs.size) (o := .dK []) (t' := s.toks) (λ _ _ q => Heap.get?_push_of_some _ q) (zzL _) (znj s.heap I.big), rfl, h _ (I.hok.fresh (zzL _))⟩
end
structure M1 (X : Cx) (o : Expr) (m : Str) (apos : Pos) (e : Expr) (cpos : Pos) : Prop where
 base : attributeBase o m X.env (eval o X.env) = eval o X.env
 few : ((backTo cpos (starEach [e] X.env)).all (λ x => !x.1) && (backToKw cpos (keywordEach [] X.env)).all (λ x => x.1.isSome)
  && decide (([e] : List Expr).length + ([] : List Keyword).length + (if ([] : List Keyword).isEmpty then 0 else 1) < 30)) = true
 line : (apos.endLine == cpos.line) = true
 trees : backTo cpos (starEach [e] X.env) = [(false, eval e X.env)]
structure M2 (X : Cx) (o : Expr) (m : Str) (apos : Pos) (e f : Expr) (cpos : Pos) : Prop where
 base : attributeBase o m X.env (eval o X.env) = eval o X.env
 few : ((backTo cpos (starEach [e, f] X.env)).all (λ x => !x.1) && (backToKw cpos (keywordEach [] X.env)).all (λ x => x.1.isSome)
  && decide (([e, f] : List Expr).length + ([] : List Keyword).length + (if ([] : List Keyword).isEmpty then 0 else 1) < 30)) = true
 line : (apos.endLine == cpos.line) = true
 trees : backTo cpos (starEach [e, f] X.env) = [(false, eval e X.env), (false, eval f X.env)]
end L2
namespace HT
open PySem PyProof.Rows
section
variable {prog : Program} {w : World} {A : Around} {E : Value -> Shared -> Prop} {s : Shared}
theorem znT (ht : IsTup s.heap t vs.toArray) (hb : IsTup s.heap b ws.toArray) (hv : vs ≠ [])
 (h1 : ws = [] -> Q (.ref t) s) (h2 : ws ≠ [] -> Q (.ref s.heap.objs.size) { s with heap := s.heap.push { cls := .type "tuple", data := .seq (vs ++ ws).toArray } })
 (hsz : vs.length + ws.length <= sizeLine) : wpAny (model prog w) A (binaryOp .Add (.ref t) (.ref b)) Q E s := by
 obtain ⟨⟨cls, dd, data, sl⟩, ho, hc, n, hd⟩ := id ht
 obtain ⟨⟨cls2, dd2, data2, sl2⟩, ho2, hc2, n2, hd2⟩ := id hb
 simp only at hc hd hc2 hd2
 subst hc hd hc2 hd2
 have e : vs.toArray ++ ws.toArray = (vs ++ ws).toArray := by simp
 by_cases hw : ws = []
 · exact concat_meets ⟨_, ho, rfl⟩ ⟨_, ho2, rfl⟩ noFill_tuple_add seq_tuple_add PySem.F.slot_tuple_add PySem.F.entry_tuple_add (PySem.F.args_tuple_add_2 _ _)
    (tuple_addW1 t b vs.toArray ws.toArray n n2 dd dd2 sl sl2 (by simpa using hv) (by simp [hw])) ⟨ho, ho2, h1 hw⟩
 · refine concat_meets ⟨_, ho, rfl⟩ ⟨_, ho2, rfl⟩ noFill_tuple_add seq_tuple_add PySem.F.slot_tuple_add PySem.F.entry_tuple_add (PySem.F.args_tuple_add_2 _ _)
    (tuple_addW2 t b vs.toArray ws.toArray n n2 dd dd2 sl sl2 (by simpa using hv) (by simpa using hw) (by rw [zzF, zzF]; exact hsz)) ⟨ho, ho2, ?_⟩
   rw [e]
   exact h2 hw
def sIx (n d : Nat) : Option Int -> Nat
 | none => d
 | some v => if v < 0 then (v + (n : Int)).toNat else min v.toNat n
theorem zcj (n d : Nat) : sIx n d none = d := rfl
theorem zcm (n d k : Nat) : sIx n d (some (k : Int)) = min k n := by
 show (if (k : Int) < 0 then ((k : Int) + (n : Int)).toNat else min (k : Int).toNat n) = min k n
 rw [if_neg (by omega), Int.toNat_natCast]
theorem zra (n d : Nat) (hd : d <= n) (o : Option Int) : sIx n d o <= n := by
 cases o with
 | none => exact hd
 | some v =>
  show (if v < 0 then (v + (n : Int)).toNat else min v.toNat n) <= n
  by_cases hv : v < 0
  · rw [if_pos hv]; omega
  · rw [if_neg hv]; exact Nat.min_le_right _ _
theorem zkq (v : Int) (n d : Nat) : (if v < 0 then max (v + (n : Int)) 0 else min v (n : Int)) = ((sIx n d (some v) : Nat) : Int) := by
 show (if v < 0 then max (v + (n : Int)) 0 else min v (n : Int)) = (((if v < 0 then (v + (n : Int)).toNat else min v.toNat n) : Nat) : Int)
 by_cases hv : v < 0
 · simp only [if_pos hv]; omega
 · simp only [if_neg hv]; omega
theorem zjt (lo hi : Option Int) (n : Nat) : Builtin.Slice.sliceAdjust lo hi 1 (n : Int) = (((sIx n 0 lo : Nat) : Int), ((sIx n n hi : Nat) : Int)) := by
 have h1 : ¬ ((1 : Int) < 0) := by omega
 unfold Builtin.Slice.sliceAdjust
 simp only [h1, if_false]
 refine Prod.ext ?_ ?_
 · cases lo with
   | none => rfl
   | some v => exact zkq v n 0
 · cases hi with
   | none => rfl
   | some v => exact zkq v n n
theorem zjm (i j : Nat) : Builtin.Slice.slicePlaces (i : Int) (j : Int) 1 = j - i := by
 unfold Builtin.Slice.slicePlaces
 have h1 : (1 : Int) > 0 := by omega
 simp only [h1, if_true, Int.ediv_one]
 split <;> omega
theorem zfk (p : IsPart v o) (h : Q o s) : wpAny (model prog w) A (Builtin.Slice.slicePartIndex v) Q E s := by
 cases p with
 | none => exact slicePart_none h
 | int i t => exact slicePart_int h
theorem zda {sl : Addr} {vl vu : Value} {lo hi : Option Int} {n : Nat} {Q : Int × Int × Nat -> Shared -> Prop} (hs : s.heap.IsSliceOf sl vl vu .none) (pl : IsPart vl lo) (pu : IsPart vu hi)
 (h : Q (((sIx n 0 lo : Nat) : Int), 1, sIx n n hi - sIx n 0 lo) s) : wpAny (model prog w) A (Builtin.Slice.sliceApplied (.ref sl) (pure (n : Int))) Q E s := by
 obtain ⟨os, hos, hcs, hds⟩ := id hs
 unfold Builtin.Slice.sliceApplied Builtin.Slice.sliceFields
 refine wpAny_bind (wpAny_bind (wpAny_field hos hds (x := vl) rfl (wpAny_bind (wpAny_field hos hds (x := vu) rfl (wpAny_bind (wpAny_field hos hds (x := .none) rfl (wpAny_pure ?_)))))))
 refine wpAny_bind (slicePart_none ?_)
 show wpAny _ _ (if ((1 : Int) == 0) = true then _ else _) _ _ s
 rw [if_neg (by decide)]
 refine wpAny_bind (zfk pl (wpAny_bind (zfk pu (wpAny_bind (wpAny_pure ?_)))))
 show wpAny _ _ (match Builtin.Slice.sliceAdjust lo hi 1 (n : Int) with | (lo, hi) => pure (lo, (1 : Int), Builtin.Slice.slicePlaces lo hi 1)) _ _ s
 rw [zjt lo hi n]
 show wpAny _ _ (pure (((sIx n 0 lo : Nat) : Int), (1 : Int), Builtin.Slice.slicePlaces ((sIx n 0 lo : Nat) : Int) ((sIx n n hi : Nat) : Int) 1)) _ _ s
 rw [zjm]
 exact wpAny_pure h
theorem zmT (xs : Array Value) (i k : Nat) : ((List.range k).filterMap λ (m : Nat) => xs[((i : Int) + (m : Int) * 1).toNat]?).toArray = ((xs.toList.drop i).take k).toArray := by
 have e : (λ (m : Nat) => xs[((i : Int) + (m : Int) * 1).toNat]?) = λ m => xs[i + m]? := by
  funext m
  have : ((i : Int) + (m : Int) * 1).toNat = i + m := by omega
  rw [this]
 rw [e]
 have := pick_run xs i k
 rw [List.filterMap_map] at this
 have e2 : ((λ x => xs[x]?) ∘ λ x => i + x) = λ m => xs[i + m]? := rfl
 rw [e2] at this
 rw [this]
theorem zci {t sl : Addr} {items : Array Value} {vl vu : Value} {lo hi : Option Int} {Q : Value -> Shared -> Prop} (ht : IsTup s.heap t items) (hs : s.heap.IsSliceOf sl vl vu .none) (pl : IsPart vl lo) (pu : IsPart vu hi)
 (hw : ¬ (sIx items.size 0 lo = 0 /\ sIx items.size items.size hi = items.size))
 (h : Q (.ref s.heap.objs.size) { s with heap := s.heap.push { cls := .type "tuple", data := .seq ((items.toList.drop (sIx items.size 0 lo)).take (sIx items.size items.size hi - sIx items.size 0 lo)).toArray } })
 (hsz : items.size <= sizeLine) : wpAny (model prog w) A (getItem (.ref t) (.ref sl)) Q E s := by
 have htake : sizeOk (.seq ((items.toList.drop (sIx items.size 0 lo)).take (sIx items.size items.size hi - sIx items.size 0 lo)).toArray) := by
  show ((items.toList.drop (sIx items.size 0 lo)).take (sIx items.size items.size hi - sIx items.size 0 lo)).toArray.size <= sizeLine
  rw [zzF, zzQ, List.length_drop, Array.length_toList]
  omega
 have hj : sIx items.size items.size hi <= items.size := zra _ _ (zzL _) hi
 obtain ⟨os, hos, hcs, hds⟩ := id hs
 have hTs : s.TypeIs (.ref sl) "slice" := ⟨os, hos, hcs⟩
 unfold getItem
 try with_reducible refine wpAny_holding ?_
 first | refine wpAny_bind (wpAny_pure ?_) | skip
 refine wpAny_bind (wpAny_sequenceKey ht.typeIs (by decide) ?_)
 refine wpAny_bind (wpAny_callSpecial?_slot (name := Str.ofString "__getitem__") ht.typeIs PyProof.Rows.slot_tuple_getitem
  (wpAny_call_entry PyProof.Rows.slot_tuple_getitem ht.typeIs entry_tuple_getitem ?_ (args_tuple_getitem _ _)))
 show wpAny _ _ (Builtin.Tuple.tupleItemsOf (.ref t) >>= _) _ _ s
 refine wpAny_bind (tupleItemsOf_ ht ?_)
 refine wpAny_bind (wpAny_typeOf hTs ?_)
 rw [if_pos (by decide)]
 refine wpAny_bind (zda hs pl pu ?_)
 have hno : ¬ ((((sIx items.size 0 lo : Nat) : Int) == 0 && (1 : Int) == 1 && (sIx items.size items.size hi - sIx items.size 0 lo) == items.size) = true) := by
  intro q
  rw [Bool.and_eq_true, Bool.and_eq_true] at q
  have q1 : ((sIx items.size 0 lo : Nat) : Int) = 0 := eq_of_beq q.1.1
  have q2 : sIx items.size items.size hi - sIx items.size 0 lo = items.size := eq_of_beq q.2
  exact hw ⟨by omega, by omega⟩
 show wpAny _ _ (if (((sIx items.size 0 lo : Nat) : Int) == 0 && (1 : Int) == 1 && (sIx items.size items.size hi - sIx items.size 0 lo) == items.size) = true then _ else _) _ _ s
 rw [if_neg hno, zmT]
 first
  | exact wpAny_bind (m := Builtin.Tuple.tupleExact _) (wpAny_newObj_type (wpAny_pure ⟨_, rfl, wpAny_pure h⟩) htake)
  | exact wpAny_bind (m := Builtin.Tuple.tupleExact _) (wpAny_newObj_type (wpAny_bind (wpAny_pure (wpAny_pure ⟨_, rfl, wpAny_pure h⟩))) htake)
  | exact wpAny_bind (wpAny_bind (m := Builtin.Tuple.tupleExact _) (wpAny_newObj_type (wpAny_pure (wpAny_pure ⟨_, rfl, wpAny_pure h⟩)) htake))
  | exact wpAny_bind (wpAny_bind (m := Builtin.Tuple.tupleExact _) (wpAny_newObj_type (wpAny_pure ⟨_, rfl, wpAny_pure h⟩) htake))
end
end HT
namespace L2
open PySem PySem.Spec PyProof.Rows
abbrev TO := St -> Hp -> (Option Int -> Hp -> Prop) -> Prop
def PO (X : Cx) (e : Option Expr) (t : TO) : Prop :=
 ∀ (pins : List (Addr × Obj)) (s : Shared) (σ : St) (H : Hp) (Q : Option Int -> Hp -> Prop), Inv X pins σ H s -> t σ H Q ->
  wpAny (model X.prog X.w) X.A (evalPart e X.env) (λ u s' => ∃ o H', Inv X pins σ H' s' /\ IsPart u o /\ Q o H') X.xe s
def zoA : TO := λ _ H Q => Q none H
def zrK (t : TE) : TO := λ σ H Q => t σ H λ x H1 => ∃ i, x = .int i /\ Q (some i) H1
theorem intsAre_of : ∀ {us : List Value}, Vals (ns.map V.int) us -> IntsAre us ns := by
 induction ns with
 | nil => intro us r; rw [List.map_nil] at r; cases r; exact .nil
 | cons n ns ih =>
  intro us r
  rw [List.map_cons] at r
  cases r with
  | cons r1 r2 =>
   obtain ⟨t, e⟩ := r1
   subst e
   exact .cons n t (ih r2)
section
variable {X : Cx} {e : Expr} {te : TE} {lo hi : Option Expr} {tl th : TO} {pos p2 : Pos}
theorem zoG : PO X none zoA := by
 intro pins s σ H Q I h
 rw [evalPart_none]
 exact wpAny_pure ⟨none, H, I, .none, h⟩
theorem zoR (h : PE X e te) : PO X (some e) (zrK te) := by
 intro pins s σ H Q I hw
 rw [evalPart_some]
 refine thn (h pins s σ H _ I hw) λ u s1 ⟨x, H1, I1, r1, q1⟩ => ?_
 obtain ⟨i, rfl, q⟩ := q1
 obtain ⟨t, rfl⟩ := r1
 exact ⟨some i, H1, I1, .int i t, q⟩
def SlR (X : Cx) (r : V -> Option Int -> Option Int -> Hp -> VK -> Prop) : Prop :=
 ∀ (pins : List (Addr × Obj)) (s : Shared) (σ : St) (H : Hp) (x : V) (v vl vu : Value) (lo hi : Option Int) (sl : Addr) (Q : VK), Inv X pins σ H s -> RelV x v -> s.heap.IsSliceOf sl vl vu .none -> IsPart vl lo -> IsPart vu hi -> r x lo hi H Q ->
  ∃ T id, typeLookup (.type T) "__getitem__" = pure (some (.builtin id)) /\ s.TypeIs v T /\ wpAny (model X.prog X.w) X.A (getItem v (.ref sl)) (EP X pins σ Q) X.xe s
def tSl (r : V -> Option Int -> Option Int -> Hp -> VK -> Prop) (te : TE) (tl th : TO) : TE := λ σ H Q => te σ H λ x H1 => tl σ H1 λ l H2 => th σ H2 λ u H3 => r x l u H3 Q
theorem zij (hr : SlR X r) (he : PE X e te) (hl : PO X lo tl) (hu : PO X hi th) : PE X (.Subscript e (.Slice lo hi none p2) pos) (tSl r te tl th) := by
 intro pins s σ H Q I h
 refine Subscript_ (thn (he pins s σ H _ I h) λ v s1 ⟨x, H1, I1, r1, q1⟩ => ?_)
 refine wpAny_Slice (thn (hl pins s1 σ H1 _ I1 q1) λ vl s2 ⟨l, H2, I2, pl, q2⟩ => thn (hu pins s2 σ H2 _ I2 q2) λ vu s3 ⟨u, H3, I3, pu, q3⟩ => ?_)
 rw [evalPart_none]
 refine wpAny_pure ?_
 have I4 : Inv X pins σ H3 { s3 with heap := s3.heap.push { cls := .type "slice", data := .fields #[vl, vu, .none] } } := I3.kept (t' := s3.toks) λ b ob q => Heap.get?_push_of_some _ q
 obtain ⟨T, id, hT, ht, hg⟩ := hr pins { s3 with heap := s3.heap.push { cls := .type "slice", data := .fields #[vl, vu, .none] } } σ H3 x v vl vu l u s3.heap.objs.size Q I4 r1 (Heap.IsSliceOf.new ..) pl pu q3
 show wpAny (model X.prog X.w) X.A (subscriptTail e (.Slice lo hi none p2) v (.ref s3.heap.objs.size)) (EP X pins σ Q) X.xe { s3 with heap := s3.heap.push { cls := .type "slice", data := .fields #[vl, vu, .none] } }
 exact tail_any (ops := [.ref s3.heap.objs.size, v]) ht hT hg (by with_unfolding_all rfl)
def ziJ (xs : List V) (lo hi : Option Int) : List V := (xs.drop (HT.sIx xs.length 0 lo)).take (HT.sIx xs.length xs.length hi - HT.sIx xs.length 0 lo)
theorem zdL (xs : List V) (lo hi : Option Int) : (ziJ xs lo hi).length <= xs.length := by
 unfold ziJ
 rw [zzQ, List.length_drop]
 omega
def zsP (K : zD) : V -> Option Int -> Option Int -> Hp -> VK -> Prop := λ x lo hi H Q => ∃ a xs, x = .ref a /\ SqT K H a xs /\
 ¬ (HT.sIx xs.length 0 lo = 0 /\ HT.sIx xs.length xs.length hi = xs.length) /\ ∀ p, H p = none -> Q (.ref p) (upd H p (.tup (ziJ xs lo hi)))
theorem zqR : SlR X (zsP X.K) := by
 intro pins s σ H x v vl vu lo hi sl Q I rx hs pl pu h
 obtain ⟨a, xs, rfl, hx, hw, q⟩ := h
 cases rx
 obtain ⟨its, r, ht, hz⟩ := I.tuple hx
 have hlen : its.toArray.size = xs.length := by rw [zzF]; exact r.length.symm
 refine ⟨"tuple", _, PyProof.Rows.slot_tuple_getitem.lookup, ht.typeIs, ?_⟩
 refine HT.zci ht hs pl pu (by rw [hlen]; exact hw) ?_ (by rw [hlen]; exact hz)
 rw [hlen]
 refine ⟨.ref s.heap.objs.size, _, I.laid (t' := s.toks) (o := .tup (ziJ xs lo hi)) (λ b ob q => Heap.get?_push_of_some _ q) (zzL _) ?_, rfl, q _ (I.hok.fresh (zzL _))⟩
 exact ⟨zzM (zdL xs lo hi) hz, _, (r.drop (HT.sIx xs.length 0 lo)).take (HT.sIx xs.length xs.length hi - HT.sIx xs.length 0 lo), IsTup.new _ _⟩
def zsF (K : zD) : R2 := λ x y H Q => ∃ a b xs ys, x = .ref a /\ y = .ref b /\ SqT K H a xs /\ SqT K H b ys /\ xs ≠ [] /\ xs.length + ys.length <= sizeLine /\
 (ys = [] -> Q (.ref a) H) /\ (ys ≠ [] -> ∀ p, H p = none -> Q (.ref p) (upd H p (.tup (xs ++ ys))))
theorem Vals.nil_iff (r : Vals xs us) : us = [] ↔ xs = [] := by
 cases r with
 | nil => simp
 | cons _ _ => simp
theorem zpq : OpR X (binaryOp .Add) (zsF X.K) := by
 intro pins s σ H x y v u Q I rx ry h
 obtain ⟨a, b, xs, ys, rfl, rfl, ha, hb, hx, hz, q1, q2⟩ := h
 cases rx
 cases ry
 obtain ⟨its, r1, p1, _⟩ := I.tuple ha
 obtain ⟨its2, r2, p2, _⟩ := I.tuple hb
 refine HT.znT p1 p2 (λ z => hx (r1.nil_iff.mp z)) (λ z => ⟨.ref a, H, I, rfl, q1 (r2.nil_iff.mp z)⟩) (λ z => ?_) (by rw [<- r1.length, <- r2.length]; exact hz)
 refine ⟨.ref s.heap.objs.size, _, I.laid (t' := s.toks) (o := .tup (xs ++ ys)) (λ b ob q => Heap.get?_push_of_some _ q) (zzL _) ?_, rfl, q2 (λ w => z (r2.nil_iff.mpr w)) _ (I.hok.fresh (zzL _))⟩
 exact ⟨by rw [zzH]; exact hz, _, r1.append r2, IsTup.new _ _⟩
end
end L2
namespace L2
open PySem PySem.Spec PyProof.Rows
def ixN (n : Nat) (i : Int) : Option Nat := if 0 <= i then (if i < n then some i.toNat else none) else if -(n : Int) <= i then some (i + n).toNat else none
def atI {α : Type} (xs : List α) (i : Int) : Option α := (ixN xs.length i).bind λ j => xs[j]?
theorem zkN (h : ixN n i = some j) : seqIndex? i n = some j /\ j < n /\ -(n : Int) <= i /\ i < n := by
 unfold ixN at h
 by_cases h0 : 0 <= i
 · rw [if_pos h0] at h
   by_cases h1 : i < n
   · rw [if_pos h1] at h
     have e : i.toNat = j := Option.some.inj h
     exact ⟨by rw [seqIndex_of h0 h1, e], by omega, by omega, h1⟩
   · rw [if_neg h1] at h; cases h
 · rw [if_neg h0] at h
   by_cases h1 : -(n : Int) <= i
   · rw [if_pos h1] at h
     have e : (i + n).toNat = j := Option.some.inj h
     exact ⟨by rw [seqIndex_neg (by omega) h1, e], by omega, h1, by omega⟩
   · rw [if_neg h1] at h; cases h
theorem zhz (h : atI xs i = some v) : ∃ j, seqIndex? i xs.length = some j /\ xs[j]? = some v /\ j < xs.length /\ -(xs.length : Int) <= i /\ i < xs.length := by
 unfold atI at h
 cases e : ixN xs.length i with
 | none => rw [e] at h; cases h
 | some j =>
  rw [e] at h
  obtain ⟨h1, h2, h3, h4⟩ := zkN e
  exact ⟨j, h1, h, h2, h3, h4⟩
theorem Xd {α : Type} {xs : List α} {j : Nat} {v : α} (h : xs[j]? = some v) : atI xs (j : Int) = some v := by
 have hj : j < xs.length := (zzE.mp h).1
 have e : ixN xs.length (j : Int) = some j := by
  unfold ixN
  rw [if_pos (by omega), if_pos (by omega)]; simp
 unfold atI; rw [e]; exact h
def zhc (b : Expr) : Prop := ∀ o i, subscripted b false o i = operate [o, i] (getItem o i)
def IxR (X : Cx) (r : R2) : Prop :=
 ∀ (value slice : Expr) (pins : List (Addr × Obj)) (s : Shared) (σ : St) (H : Hp) (x y : V) (v u : Value) (Q : VK), Inv X pins σ H s -> RelV x v -> RelV y u -> r x y H Q ->
  subscripted slice false v u = operate [v, u] (getItem v u) -> wpAny (model X.prog X.w) X.A (subscriptTail value slice v u) (EP X pins σ Q) X.xe s
def MtR (X : Cx) (id : String) (r : V -> List V -> Hp -> VK -> Prop) : Prop :=
 ∀ (pins : List (Addr × Obj)) (s : Shared) (σ : St) (H : Hp) (x : V) (xs : List V) (v : Value) (us : List Value) (Q : VK), Inv X pins σ H s -> RelV x v -> Vals xs us -> r x xs H Q ->
  wpAny (model X.prog X.w) X.A (call (.builtin id) (v :: us)) (EP X pins σ Q) X.xe s
section
variable {X : Cx} {a b : Expr} {ta tb : TE} {pos : Pos}
theorem zrO (hr : IxR X r) (ha : PE X a ta) (hb : PE X b tb) (hs : zhc b) : PE X (.Subscript a b pos) (tOp r ta tb) := by
 intro pins s σ H Q I h
 exact Subscript_ (zqa ha hb I h λ v u s2 x y H2 I2 rx ry q => hr a b pins s2 σ H2 x y v u Q I2 rx ry q (hs _ _))
def zto (K : zD) : R2 := λ x y H Q => ∃ p xs i v, x = .ref p /\ y = .int i /\ SqL K H p xs /\ atI xs i = some v /\ Q v H
def zta (K : zD) : R2 := λ x y H Q => ∃ p xs i v, x = .ref p /\ y = .int i /\ SqT K H p xs /\ atI xs i = some v /\ Q v H
def zsO : R2 := λ x y H Q => ∃ z i c, x = .str z /\ y = .int i /\ z.length <= sizeLine /\ atI z.cps.toList i = some c /\ Q (.str ⟨#[c]⟩) H
theorem zoM : IxR X (zto X.K) := by
 intro value slice pins s σ H x y v u Q I rx ry h hs
 obtain ⟨p, xs, i, z, rfl, rfl, hq, he, q⟩ := h
 cases rx
 obtain ⟨t, rfl⟩ := ry
 obtain ⟨its, r, pl, hz⟩ := I.list hq
 obtain ⟨j, h1, h2, h3, h4, h5⟩ := zhz he
 obtain ⟨w, ew, rw'⟩ := r.get h2
 have hl := r.length
 have hn := zbR
 have fin : EP X pins σ Q w s := ⟨z, H, I, rw', q⟩
 by_cases h0 : 0 <= i
 · have hj : i.toNat = j := by
    rw [seqIndex_of h0 h5] at h1
    exact Option.some.inj h1
   exact item_listR pl.isList h0 (by omega) (by rw [hj]; simpa using ew) fin hs
 · have hj : (i + (its.toArray.size : Int)).toNat = j := by
    rw [seqIndex_neg (by omega) h4] at h1
    rw [zzF, <- hl]
    exact Option.some.inj h1
   exact subscriptTail_builtinR (x := w) pl.isList.typeIs slot_list_getitem.lookup
    (wpAny_getItem_list_neg (Q := λ r s' => r = w /\ EP X pins σ Q r s') pl.isList (by omega) (by rw [zzF] <;> omega) (by omega) (by rw [hj]; simpa using ew) ⟨rfl, fin⟩) hs
theorem zqF : IxR X (zta X.K) := by
 intro value slice pins s σ H x y v u Q I rx ry h hs
 obtain ⟨p, xs, i, z, rfl, rfl, hq, he, q⟩ := h
 cases rx
 obtain ⟨t, rfl⟩ := ry
 obtain ⟨its, r, pl, hz⟩ := I.tuple hq
 obtain ⟨j, h1, h2, h3, h4, h5⟩ := zhz he
 obtain ⟨w, ew, rw'⟩ := r.get h2
 have hl := r.length
 have hn := zbR
 have fin : EP X pins σ Q w s := ⟨z, H, I, rw', q⟩
 exact subscriptTail_builtinR (x := w) pl.typeIs slot_tuple_getitem.lookup
  (getItem_tuple (j := j) (Q := λ r s' => r = w /\ EP X pins σ Q r s') pl (by omega) (by omega) (by rw [zzF, <- hl]; exact h1) (by simpa using ew) ⟨rfl, fin⟩) hs
theorem zqu : IxR X zsO := by
 intro value slice pins s σ H x y v u Q I rx ry h hs
 obtain ⟨z, i, c, rfl, rfl, hz, he, q⟩ := h
 obtain ⟨t, rfl⟩ := rx
 obtain ⟨t', rfl⟩ := ry
 obtain ⟨j, h1, h2, h3, h4, h5⟩ := zhz he
 have hl : z.cps.toList.length = z.length := by simp [Str.length]
 rw [hl] at h1 h4 h5
 have hn := zbR
 exact tail_any (typeIs_str s z t) slot_str_getitem.lookup (getItem_str (c := c) (by
  have e1 : decide (i < -(2 ^ 63 : Int)) = false := decide_eq_false (by omega)
  have e2 : decide (i ≥ 2 ^ 63) = false := decide_eq_false (by omega)
  rw [e1, e2, Bool.or_false]) (by rw [h1]; simpa using h2) ⟨.str ⟨#[c]⟩, H, I.tok _, ⟨_, rfl⟩, q⟩) hs
theorem zkc (its : List Value) (n j : Nat) (u : Value) : Obj.mapSeq (·.setIfInBounds j u) { cls := .type "list", data := .seq its.toArray n } = { cls := .type "list", data := .seq (its.set j u).toArray n } := by
 simp [Obj.mapSeq]
theorem Inv.lst (I : Inv X pins σ H s) (h : H p = some (.lst xs)) :
 ∃ (its : List Value) (n : Nat), Vals xs its /\ s.heap.get? p = some { cls := .type "list", data := .seq its.toArray n } /\ xs.length <= sizeLine := by
 obtain ⟨z, its, n, r, e⟩ := I.hok p _ h
 exact ⟨its, n, r, e, z⟩
theorem Inv.lstUpd {pins : List (Addr × Obj)} {σ : St} {H : Hp} {s : Shared} {p : Addr} {xs ys : List V} {its its' : List Value} {n n' : Nat} {f : Obj -> Obj} (I : Inv X pins σ H s) (h : H p = some (.lst xs))
 (ho : s.heap.get? p = some { cls := .type "list", data := .seq its.toArray n }) (hf : f { cls := .type "list", data := .seq its.toArray n } = { cls := .type "list", data := .seq its'.toArray n' }) (r : Vals ys its') (hz : ys.length <= sizeLine) (t : Nat) :
 Inv X pins σ (upd H p (.lst ys)) { s with heap := s.heap.update p f, toks := t } := by
 have e : (s.heap.update p f).get? p = some { cls := .type "list", data := .seq its'.toArray n' } := by
  rw [Heap.get?_update_self f ho (by rw [hf] <;> rfl), hf]
 refine I.write (x := p) (e := p) (by rw [h]; trivial) (.inl rfl) (λ b u hb q => (Heap.get?_update_other _ _ (Ne.symm hb)).trans q) ⟨_, e⟩ ?_
 exact ⟨hz, its', n', r, e⟩
def zsk : V -> V -> V -> Hp -> (Hp -> Prop) -> Prop := λ o i v H Q => ∃ p xs k j, o = .ref p /\ i = .int k /\ H p = some (.lst xs) /\ ixN xs.length k = some j /\ Q (upd H p (.lst (xs.set j v)))
theorem set_list : zrL X zsk := by
 intro pins s σ H o i v ov iv u Q I ro ri rv h
 obtain ⟨p, xs, k, j, rfl, rfl, hp, hj, q⟩ := h
 cases ro
 obtain ⟨t, rfl⟩ := ri
 obtain ⟨its, n, r, ho, hz⟩ := I.lst hp
 obtain ⟨h1, h2, h3, h4⟩ := zkN hj
 have hl := r.length
 have hn := zbR
 have I' : Inv X pins σ (upd H p (.lst (xs.set j v))) { s with heap := s.heap.update p (Obj.mapSeq (·.setIfInBounds j u)) } :=
  I.lstUpd hp ho (zkc its n j u) (r.set rv j) (by rw [zzS]; exact hz) s.toks
 by_cases h0 : 0 <= k
 · have hk : k.toNat = j := by
    rw [seqIndex_of h0 h4] at h1
    exact Option.some.inj h1
   exact PySem.W.ki_setAt ho h0 (by omega) (by rw [zzF, <- hl]; exact h4) (by rw [hk]; exact ⟨_, I', q⟩)
 · have hk : (k + (its.toArray.size : Int)).toNat = j := by
    rw [seqIndex_neg (by omega) h3] at h1
    rw [zzF, <- hl]
    exact Option.some.inj h1
   exact PySem.W.ki_setBack ho (by omega) (by rw [zzF, <- hl]; exact h3) (by omega) (by rw [hk]; exact ⟨_, I', q⟩)
theorem zhq (lo hi : Option Int) (n : Nat) : (sliceBounds lo hi none n).1 = ((HT.sIx n 0 lo : Nat) : Int) /\ (sliceBounds lo hi none n).2.1 = ((HT.sIx n n hi : Nat) : Int) /\ (sliceBounds lo hi none n).2.2 = 1 := by
 refine ⟨?_, ?_, rfl⟩
 · cases lo with
   | none => simp [sliceBounds, HT.sIx]
   | some i =>
    simp only [sliceBounds, HT.sIx, Option.getD_none, show (1 : Int) > 0 by decide, if_true]
    by_cases h : i < 0
    · simp only [h, if_true] <;> omega
    · simp only [h, if_false] <;> omega
 · cases hi with
   | none => simp [sliceBounds, HT.sIx]
   | some i =>
    simp only [sliceBounds, HT.sIx, Option.getD_none, show (1 : Int) > 0 by decide, if_true]
    by_cases h : i < 0
    · simp only [h, if_true] <;> omega
    · simp only [h, if_false] <;> omega
theorem zga (its : List Value) (lo hi : Option Int) : slicePick its.toArray lo hi none = ((its.drop (HT.sIx its.length 0 lo)).take (HT.sIx its.length its.length hi - HT.sIx its.length 0 lo)).toArray := by
 obtain ⟨h1, h2, h3⟩ := zhq lo hi its.toArray.size
 unfold slicePick
 rw [h1, h2, h3]
 simp only [sliceRange_one, pick_run, zzF] <;> rfl
def ztr (K : zD) : V -> Option Int -> Option Int -> Hp -> VK -> Prop := λ x lo hi H Q => ∃ a xs, x = .ref a /\ SqL K H a xs /\ ∀ p, H p = none -> Q (.ref p) (upd H p (.lst (ziJ xs lo hi)))
theorem zpp : SlR X (ztr X.K) := by
 intro pins s σ H x v vl vu lo hi sl Q I rx hs pl pu h
 obtain ⟨a, xs, rfl, hx, q⟩ := h
 cases rx
 obtain ⟨its, r, ht, hz⟩ := I.list hx
 have hlen := r.length
 refine ⟨"list", _, slot_list_getitem.lookup, ht.isList.typeIs, ?_⟩
 refine wpAny_getItem_list_slice ht.isList hs pl pu .none (by simp) ?_ (by rw [zzF] <;> omega)
 rw [zga, <- hlen]
 refine ⟨.ref s.heap.objs.size, _, I.laid (t' := s.toks) (o := .lst (ziJ xs lo hi)) (λ b ob q => Heap.get?_push_of_some _ q) (zzL _) ?_, rfl, q _ (I.hok.fresh (zzL _))⟩
 exact ⟨zzM (zdL xs lo hi) hz, _, 0, (r.drop (HT.sIx xs.length 0 lo)).take (HT.sIx xs.length xs.length hi - HT.sIx xs.length 0 lo), Heap.get?_push_size _ rfl⟩
theorem zcs : V3 X (.builtin "len") (λ xs H Q => ∃ p ys, xs = [.ref p] /\ (SqL X.K H p ys \/ SqT X.K H p ys) /\ Q (.int ys.length) H) := by
 intro pins s σ H xs us Q I r h
 obtain ⟨p, ys, rfl, hq, q⟩ := h
 obtain ⟨u, rfl, rx⟩ := vals1 r
 cases rx
 have hn := zbR
 rcases hq with hq | hq
 · obtain ⟨its, r', pl, hz⟩ := I.list hq
   have hlen := r'.length
   exact Calls.call_len_list pl.isList (by simp only [zzF] <;> omega) ⟨.int ys.length, H, I.tok _, ⟨s.toks + 1, by rw [zzF, hlen]⟩, q⟩
 · obtain ⟨its, r', pl, hz⟩ := I.tuple hq
   have hlen := r'.length
   exact len_tuple pl (by simp only [zzF] <;> omega) ⟨.int ys.length, H, I.tok _, ⟨s.toks + 1, by rw [zzF, hlen]⟩, q⟩
theorem zhp : V3 X (.builtin "len") (λ xs H Q => ∃ z, xs = [.str z] /\ z.length <= sizeLine /\ Q (.int z.length) H) := by
 intro pins s σ H xs us Q I r h
 obtain ⟨z, rfl, hz, q⟩ := h
 obtain ⟨u, rfl, t, rfl⟩ := vals1 r
 have hn := zbR
 exact len_str (by omega) ⟨.int z.length, H, I.tok _, ⟨_, rfl⟩, q⟩
theorem zcq : V3 X (.type "list") (λ xs H Q => ∃ p ys, xs = [.ref p] /\ (SqL X.K H p ys \/ SqT X.K H p ys) /\ ∀ l, H l = none -> Q (.ref l) (upd H l (.lst ys))) := by
 intro pins s σ H xs us Q I r h
 obtain ⟨p, ys, rfl, hq, q⟩ := h
 obtain ⟨u, rfl, rx⟩ := vals1 r
 cases rx
 have fin : ∀ (its : List Value), Vals ys its -> ys.length <= sizeLine -> ∀ (h' : Heap) (c' : Nat), (∀ b o', s.heap.get? b = some o' -> h'.get? b = some o') ->
  h'.get? s.heap.objs.size = some { cls := .type "list", dict := none, data := .seq its.toArray c', slots := #[] } -> EP X pins σ Q (.ref s.heap.objs.size) { s with heap := h' } := λ its r' hz h' c' kp e =>
  ⟨.ref s.heap.objs.size, _, I.laid (t' := s.toks) kp (zzL _) (show ZC X.prog X.w _ h' _ (.lst ys) from ⟨hz, its, c', r', e⟩), rfl, q _ (I.hok.fresh (zzL _))⟩
 rcases hq with hq | hq
 · obtain ⟨its, r', pl, hz⟩ := I.list hq
   have hlen := r'.length
   obtain ⟨o, ho, hc, n, hd⟩ := pl.isList
   exact call_list_seq p (.inl rfl) ho hc hd (λ h' c' kp e => fin its r' hz h' c' kp e) (by simp only [zzF] <;> omega)
 · obtain ⟨its, r', pl, hz⟩ := I.tuple hq
   have hlen := r'.length
   obtain ⟨o, ho, hc, n, hd⟩ := pl
   exact call_list_seq p (.inr rfl) ho hc hd (λ h' c' kp e => fin its r' hz h' c' kp e) (by simp only [zzF] <;> omega)
theorem zaR : V3 X (.type "tuple") (λ xs H Q => ∃ p ys, xs = [.ref p] /\ ((SqL X.K H p ys /\ ∀ l, H l = none -> Q (.ref l) (upd H l (.tup ys))) \/ (SqT X.K H p ys /\ Q (.ref p) H))) := by
 intro pins s σ H xs us Q I r h
 obtain ⟨p, ys, rfl, h⟩ := h
 obtain ⟨u, rfl, rx⟩ := vals1 r
 cases rx
 rcases h with ⟨hq, q⟩ | ⟨hq, q⟩
 · obtain ⟨its, r', pl, hz⟩ := I.list hq
   have hlen := r'.length
   refine call_tuple_list pl.isList (λ h' kp => ?_) (by simp only [zzF] <;> omega)
   have I1 : Inv X pins σ H { s with heap := h' } := I.kept (t' := s.toks) kp
   have I2 : Inv X pins σ (upd H h'.objs.size (.tup ys)) { s with heap := h'.push { cls := .type "tuple", data := .seq its.toArray } } :=
    I1.laid (t' := s.toks) (λ b o e => Heap.get?_push_of_some _ e) (zzL _) (show ZC X.prog X.w _ _ _ (.tup ys) from ⟨hz, its, r', IsTup.new _ _⟩)
   exact ⟨.ref h'.objs.size, _, I2, rfl, q _ (I1.hok.fresh (zzL _))⟩
 · obtain ⟨its, r', pl, hz⟩ := I.tuple hq
   exact call_tuple_same pl ⟨.ref p, H, I, rfl, q⟩
def tyV (K : zD) (T : String) (x : V) (H : Hp) : Prop := match x with
 | .str _ => T = "str"
 | .int _ => T = "int"
 | .ref p => (T = "list" /\ ∃ xs, SqL K H p xs) \/ (T = "tuple" /\ ∃ o, K.lookup p = some o /\ o.cls = .type "tuple" /\ o.dict = none) \/
  (T = "dict" /\ ((∃ kvs, H p = some (.dK kvs)) \/ ∃ kvs, H p = some (.dT kvs))) \/ (T = "set" /\ ∃ S n, H p = some (.set S n))
 | _ => False
theorem zqS (I : Inv X pins σ H s) (r : RelV x v) (ty : tyV X.K T x H) :
 s.TypeIs v T /\ ∀ a, v = .ref a -> ∃ ob, s.heap.get? a = some ob /\ ob.dict = none := by
 cases x with
 | str z =>
  obtain ⟨t, rfl⟩ := r
  cases (show T = "str" from ty)
  exact ⟨typeIs_str s z t, λ _ e => nomatch e⟩
 | int i =>
  obtain ⟨t, rfl⟩ := r
  cases (show T = "int" from ty)
  exact ⟨typeIs_int s i t, λ _ e => nomatch e⟩
 | ref p =>
  cases r
  rcases ty with ⟨rfl, xs, hq⟩ | ⟨rfl, o, hk, hc, hd⟩ | ⟨rfl, hk⟩ | ⟨rfl, S, n, hk⟩
  · obtain ⟨its, _, pl, _⟩ := I.list hq
    refine ⟨pl.isList.typeIs, λ a e => ?_⟩
    cases e
    obtain ⟨o, n, e, c, hd, _⟩ := pl
    exact ⟨o, e, hd⟩
  · refine ⟨⟨o, I.kIn p o hk, hc⟩, λ a e => ?_⟩
    cases e
    exact ⟨o, I.kIn _ o hk, hd⟩
  · have z : ∃ o, s.heap.get? p = some o /\ o.ExactDict := by
     rcases hk with ⟨kvs, hk⟩ | ⟨kvs, hk⟩
     · obtain ⟨_, _, _, _, o, _, _, e, ex, _⟩ := I.hok p _ hk
       exact ⟨o, e, ex⟩
     · obtain ⟨_, _, _, _, o, _, _, e, ex, _⟩ := I.hok p _ hk
       exact ⟨o, e, ex⟩
    obtain ⟨o, e, ex⟩ := z
    refine ⟨⟨o, e, ex.1⟩, λ a e2 => ?_⟩
    cases e2
    exact ⟨o, e, ex.2.1⟩
  · obtain ⟨o, _, _, _, e, ex, _⟩ := I.hok p _ hk
    refine ⟨⟨o, e, ex.1⟩, λ a e2 => ?_⟩
    cases e2
    exact ⟨o, e, ex.2.1⟩
 | _ => exact False.elim ty
def tBM (K : zD) (T : String) (r : V -> List V -> Hp -> VK -> Prop) (to : TE) (t : TA) : TE := λ σ H Q => to σ H λ x H1 => tyV K T x H1 /\ t σ H1 λ xs H2 => r x xs H2 Q
variable {o e : Expr} {es : List Expr} {to : TE} {t : TA} {name : Str} {apos cpos : Pos} {T id : String} {r : V -> List V -> Hp -> VK -> Prop}
theorem zrW (pa : PlainAttrs T) (slot : Slot T name id) (hty : typeOf (.builtin id) = pure (.type "method_descriptor")) (hm : MtR X id r) (ho : PE X o to) (ha : PA X (e :: es) t)
 (hbase : attributeBase o name X.env (eval o X.env) = eval o X.env := by rfl)
 (hfew : ((backTo cpos (starEach (e :: es) X.env)).all (λ x => !x.1) && (backToKw cpos (keywordEach [] X.env)).all (λ x => x.1.isSome)
  && decide ((e :: es).length + ([] : List Keyword).length + (if ([] : List Keyword).isEmpty then 0 else 1) < 30)) = true := by rfl)
 (hline : (apos.endLine == cpos.line) = true := by rfl) (hs : starEach (e :: es) X.env = (false, eval e X.env) :: starEach es X.env := by rfl) (hplain : (backTo cpos (starEach es X.env)).any (·.1) = false := by rfl) :
 PE X (.Call (.Attribute o name apos) (e :: es) [] cpos) (tBM X.K T r to t) := by
 intro pins s σ H Q I h
 refine wpAny_Call_method_late hbase hfew hline rfl (thn (ho pins s σ H _ I h) λ v s1 ⟨x, H1, I1, r1, ty, q1⟩ => ?_)
 obtain ⟨h1, h2⟩ := zqS I1 r1 ty
 refine ⟨T, id, pa, slot, hty, h1, h2, ?_⟩
 have hA := ha cpos pins s1 σ H1 _ I1 q1
 rw [hs] at hA ⊢
 refine Calls.callWith_builtin (by show (false || (backTo cpos (starEach es X.env)).any (·.1)) = false; rw [hplain] <;> rfl) (Calls.evalArgs_plain ?_)
 exact thn hA λ us s2 ⟨vs, H2, I2, r2, q2⟩ => hm pins s2 σ H2 x vs v us Q I2 r1 r2 q2
end
end L2
namespace L2
open PySem PySem.Spec PyProof.Rows
def MtM (X : Cx) (id : String) (r : V -> List V -> Hp -> VK -> Prop) : Prop :=
 ∀ (pins : List (Addr × Obj)) (s : Shared) (σ : St) (H : Hp) (x : V) (xs : List V) (v : Value) (us : List Value) (Q : VK), Inv X pins σ H s -> RelV x v -> Vals xs us -> r x xs H Q ->
  wpAny (model X.prog X.w) X.A (call (.builtin id) (v :: us)) (EP X pins σ Q) X.xe s
theorem Vals.one : ∀ {x : V} {us : List Value}, Vals [x] us -> ∃ u, us = [u] /\ RelV x u
 | _, _, .cons r .nil => ⟨_, rfl, r⟩
theorem Vals.eraseIdx : ∀ {xs : List V} {us : List Value} (i : Nat), Vals xs us -> Vals (xs.eraseIdx i) (us.eraseIdx i)
 | _, _, _, .nil => .nil
 | _, _, 0, .cons _ t => t
 | _, _, i + 1, .cons r t => .cons r (Vals.eraseIdx i t)
theorem Vals.rep (h : Vals xs us) : ∀ k : Nat, Vals (List.replicate k xs).flatten (List.replicate k us).flatten
 | 0 => .nil
 | k + 1 => by
  rw [List.replicate_succ, List.replicate_succ, List.flatten_cons, List.flatten_cons]
  exact Vals.append h (Vals.rep h k)
theorem zgL : ∀ (l : List α) (i : Nat), (l.eraseIdx i).length <= l.length
 | [], _ => zzL _
 | _ :: _, 0 => Nat.le_succ _
 | _ :: r, i + 1 => Nat.succ_le_succ (zgL r i)
theorem foldl_rep (its : List Value) : ∀ (k : Nat) (acc : List Value),
 List.foldl (λ x1 x2 => x1 ++ x2) acc.toArray (List.replicate k its.toArray) = (acc ++ (List.replicate k its).flatten).toArray
 | 0, acc => by simp
 | k + 1, acc => by
  have e : acc.toArray ++ its.toArray = (acc ++ its).toArray := by simp
  have e2 : (acc ++ its) ++ (List.replicate k its).flatten = acc ++ (List.replicate (k + 1) its).flatten := by
   rw [List.replicate_succ, List.flatten_cons, List.append_assoc]
  rw [<- e2, <- foldl_rep its k (acc ++ its), <- e, List.replicate_succ, List.foldl_cons]
section
variable {X : Cx} {pins : List (Addr × Obj)} {σ : St} {H : Hp} {s : Shared} {l b : Addr} {xs ys zs : List V}
theorem Inv.lset {its its' : List Value} {n : Nat} {f : Array Value -> Array Value} {t' : Nat} (I : Inv X pins σ H s) (hH : H l = some (.lst xs))
 (e : s.heap.get? l = some { cls := .type "list", data := .seq its.toArray n }) (hf : f its.toArray = its'.toArray) (hv : Vals ys its') (hz : ys.length <= sizeLine) :
 Inv X pins σ (upd H l (.lst ys)) { s with heap := s.heap.update l (Obj.mapSeq f), toks := t' } := by
 have q := PySem.IsL.update e f
 rw [hf] at q
 refine I.write (x := l) (e := l) (by rw [hH]; exact trivial) (.inl rfl) (λ b' u hb hu => (Heap.get?_update_other s.heap (Obj.mapSeq f) (Ne.symm hb)).trans hu) ⟨_, q⟩ ?_
 exact ⟨hz, its', _, hv, q⟩
theorem Inv.lnew (I : Inv X pins σ H s) (hv : Vals ys its) (hz : ys.length <= sizeLine) :
 Inv X pins σ (upd H s.heap.objs.size (.lst ys)) { s with heap := s.heap.push { cls := .type "list", data := .seq its.toArray }, toks := t' } :=
 I.laid (λ _ _ q => Heap.get?_push_of_some _ q) (zzL _) ⟨hz, its, 0, hv, Heap.get?_push_size _ rfl⟩
theorem Inv.fresh (I : Inv X pins σ H s) : H s.heap.objs.size = none := I.hok.fresh (zzL _)
theorem Inv.lstM (I : Inv X pins σ H s) (hH : H l = some (.lst xs)) : xs.length <= sizeLine /\ ∃ (its : List Value) (n : Nat), Vals xs its /\ xs.length = its.length /\ s.heap.get? l = some { cls := .type "list", data := .seq its.toArray n } := by
 obtain ⟨z, its, n, r, e⟩ := I.hok l _ hH
 exact ⟨z, its, n, r, r.length, e⟩
theorem znk (h : n <= sizeLine) : Builtin.List.listTooLong n = false := by
 unfold Builtin.List.listTooLong
 exact decide_eq_false (by omega)
end
section
variable {X : Cx}
def zkB : V -> List V -> Hp -> VK -> Prop := λ x vs H Q => ∃ l xs y, x = .ref l /\ vs = [y] /\ H l = some (.lst xs) /\ xs.length < sizeLine /\ Q .non (upd H l (.lst (xs ++ [y])))
theorem vg : MtM X "list.append" zkB := by
 intro pins s σ H x vs v us Q I rx rv h
 obtain ⟨l, xs, y, rfl, rfl, hH, hz, q⟩ := h
 cases rx
 obtain ⟨u, rfl, ru⟩ := rv.one
 obtain ⟨z, its, n, r, hl, e⟩ := I.lstM hH
 refine call_meets F.slot_list_append ⟨_, e, rfl⟩ F.entry_list_append (F.args_list_append_2 _ _) (PySem.list_append l its.toArray n u (by rw [zzF]; omega)) ⟨e, ?_⟩
 refine ⟨.non, _, I.lset (its' := its ++ [u]) hH e (by simp) (r.append (.cons ru .nil)) ?_, rfl, q⟩
 rw [zzH, List.length_singleton]
 omega
def znc : V -> List V -> Hp -> VK -> Prop := λ x vs H Q => ∃ l xs i k y, x = .ref l /\ vs = [.int i] /\ H l = some (.lst xs) /\ -(2 ^ 63) <= i /\ i < 2 ^ 63 /\ seqIndex? i xs.length = some k /\ xs[k]? = some y /\ Q y (upd H l (.lst (xs.eraseIdx k)))
theorem zmS : MtM X "list.pop" znc := by
 intro pins s σ H x vs v us Q I rx rv h
 obtain ⟨l, xs, i, k, y, rfl, rfl, hH, h1, h2, hk, hy, q⟩ := h
 cases rx
 obtain ⟨u, rfl, ru⟩ := rv.one
 obtain ⟨t, rfl⟩ := ru
 obtain ⟨z, its, n, r, hl, e⟩ := I.lstM hH
 obtain ⟨w, hw, rw'⟩ := r.get hy
 refine call_meets F.slot_list_pop ⟨_, e, rfl⟩ F.entry_list_pop (F.args_list_pop_2 _ _)
  (MeetsSeq.list_pop_at l its.toArray n i t k w (fitsIndex_both h1 h2) (by rw [zzF, <- hl]; exact hk) (by rw [<- Array.getElem?_toList]; exact hw) (by rw [zzF]; omega)) ⟨e, ?_⟩
 refine ⟨y, _, I.lset (its' := its.eraseIdx k) hH e ?_ (r.eraseIdx k) ?_, rw', q⟩
 · show its.toArray.eraseIdxIfInBounds k = (its.eraseIdx k).toArray
   rw [List.eraseIdxIfInBounds_toArray]
 · have := zgL xs k
   omega
theorem len_rep (xs : List α) (k : Nat) : (List.replicate k xs).flatten.length = k * xs.length := by
 induction k with
 | zero => simp
 | succ k ih => rw [List.replicate_succ, List.flatten_cons, zzH, ih, Nat.succ_mul, Nat.add_comm]
end
end L2
namespace Att
open PySem PySem.W PySem.Calls PyProof.Rows
theorem zdT : ∀ (ns : List Int) (vs : List Value), WellAll P h vs (ns.map WData.int) -> IntsAre vs ns := by
 intro ns
 induction ns with
 | nil =>
  intro vs w
  rw [List.map_nil] at w
  cases w
  exact .nil
 | cons n ns ih =>
  intro vs w
  rw [List.map_cons] at w
  cases w with
  | cons a b =>
   cases a
   exact .cons _ _ (ih _ b)
theorem zlm {l : OpenLaw} {n : Nat} (hn : l.most = some n) {P : Params} {h : Heap} {args : List WData} {vals : List Value}
 (hpre : l.row.toRowW.claim.pre args = true) (hwl : WellAll P h vals args) :
 ∃ a vs ns, vals = [Value.ref a] /\ args = [WData.list (ns.map WData.int)] /\ h.get? a = some { cls := .type "list", data := .seq vs.toArray } /\ IntsAre vs ns /\ ns.length <= n := by
 have hsh : WShape.hasAll [] args [.list .int] = true := (pre_splitW hpre).1
 have hc : l.pre.holds [] { args := args } = true := (pre_splitW hpre).2
 obtain ⟨d, r, rfl, h1, h2⟩ := hasAllW_cons hsh
 obtain rfl := hasAllW_nil h2
 obtain ⟨xs, rfl, h3⟩ := hasW_list h1
 obtain ⟨ns, rfl⟩ := items_int h3
 have hlen : ns.length <= n := by
  unfold OpenLaw.pre at hc
  have h4 : (WTm.not (.lt (.lit (.int (n : Int))) (.len (.arg 0)))).holds [] { args := [.list (ns.map .int)] } = true := by
   have h4 := (holds_andW hc).1
   rw [hn] at h4
   exact h4
  have h5 := condW_of h4 (w_not (w_lt w_lit (w_len_list (w_arg rfl))))
  rw [zI] at h5
  refine Nat.le_of_not_lt λ q => ?_
  have q' : (n : Int) < ((ns.length : Nat) : Int) := by omega
  first
   | (rw [decide_eq_true q'] at h5; exact absurd h5 (by decide))
   | (simp at h5; omega)
 cases hwl with
 | cons w1 w2 =>
  cases w2
  cases w1 with
  | list ho hall => exact ⟨_, _, ns, rfl, rfl, ho, zdT ns _ hall, hlen⟩
theorem zlr (l : OpenLaw) (args : List WData) : l.row.toRowW.claim.post args (.bool true) args = true :=
 postW_of (r := l.row.toRowW) (X := (true == true))
  (show WShape.has [] (.bool true) .bool = true by first | rfl | decide | simp [WShape.has, WShape.arms, WShape.armsAll])
  (show (WTm.eq .res (.lit (.bool true))).value [] { args := args, res := some (.bool true), after := args } = some (.bool (true == true)) from w_eq_bool (w_res rfl) w_lit) rfl
theorem zit {l : OpenLaw} {n : Nat} {q : Program} {loose : List Str} {XP : (Str -> Option Value) -> Heap -> Prop} {YP : World -> Heap -> Prop} {d : DefRec}
 (hn : l.most = some n) (hdf : d.params.defaults = [])
 (call : ∀ (w : World) (s₀ s₁ : Shared) (mg mb : Str -> Option Value) (fa : Addr) (o : Obj) (pm cd doc : Value) (a : Addr) (vs : List Value) (ns : List Int),
  Ground q loose [] XP w s₀ mg mb s₁.heap -> YP w s₁.heap ->
  s₁.heap.get? fa = some o -> o.data = .func (docDef d.name d.params d.body d.scope pm cd doc) -> s₁.heap.CodeRec cd d.name -> mg d.name = some (.ref fa) ->
  s₁.heap.get? a = some { cls := .type "list", data := .seq vs.toArray } -> IntsAre vs ns -> ns.length <= n -> s₁.gens = #[] ->
  codeAny (model l.prog w) callerA (.call (.ref fa) ⟨[.ref a], []⟩) (λ r s' => r = .ok (.ret (.bool true)) /\ OldK s₁.heap s'.heap /\ s'.os = s₁.os /\ AllBare s'.gens) s₁) :
 WalkO q loose XP YP l.row.toRowW d [] (λ f vs => PySem.call f vs) := by
 intro w s₀ s₁ mg mb G Y fa o pm cd doc dV kV ho hd hcd hD hmg hg args vals as hpre hlay hrd hwl hlo
 obtain rfl : dV = .none := Dflts.none hD hdf
 obtain rfl : kV = .none := Dflts.noKw hD
 obtain ⟨a, vs, ns, rfl, rfl, hobj, hints, hlen⟩ := zlm hn hpre hwl
 refine enter_call (codeAny_mono (call w s₀ s₁ mg mb fa o pm cd doc a vs ns G Y ho (fd_plain hd) hcd hmg hobj hints hlen hg) λ r s' hq => ?_)
 obtain ⟨rfl, h2, h3, h4⟩ := hq
 exact ⟨.inl ⟨.bool true, .bool true, [], rfl, λ _ => rfl, .bool true, zlr l _, λ _ => ⟨List.Pairwise.nil, λ _ hm => (nomatch hm)⟩⟩, h2, h3, h4⟩
end Att
namespace L2
open PySem PySem.Spec PyProof.Rows
theorem WQ : ∀ {vs : List Value} {ns : List Int}, IntsAre vs ns -> Vals (ns.map V.int) vs
 | _, _, .nil => .nil
 | _, _, .cons n t h => .cons ⟨t, rfl⟩ (WQ h)
def Only (H : Hp) : Prop := ∀ b, H b = none \/ ∃ o xs, H b = some (.frz o (.lst xs))
theorem zmr {P : Program} {w : World} {K : zD} {mg mb : Str -> Option Value} {CX : CXT} {k : Nat} {fa a : Addr} {fd : FuncData} {x : Str} {sp : Sp} {s₁ : Shared} {vs : List Value} {ns : List Int}
 (KX : K.In s₁.heap) (hns : s₁.heap.Ns mainGlobals mg) (hb : s₁.heap.Ns builtinsNs mb) (hbb : ∀ x : Str, x ≠ "__name__" -> mb x = bootBuiltins x) (hlim : s₁.heap.NoLimit) (hg : s₁.gens = #[])
 (ha : s₁.heap.get? a = some { cls := .type "list", data := .seq vs.toArray }) (hi : IntsAre vs ns) (hl : ns.length <= sizeLine) (hr : Room k callerA)
 (F : ∀ base : Heap, K.In base -> base.Ns mainGlobals mg -> FnOk P w K mg base CX k fa fd [x] sp) (hbind : ∀ (s : Shared) (u : Value), BindsTo s fd ⟨[u], []⟩ [(x, u)])
 (hsp : ∀ H : Hp, Only H -> RdL K H a (ns.map V.int) -> sp [.ref a] H (λ v _ => v = .bl true) λ _ _ _ => False)
 (hCX : ∀ H e s', CX [] H s₁ (λ _ _ _ => False) e s' -> False) :
 codeAny (model P w) callerA (.call (.ref fa) ⟨[.ref a], []⟩) (λ r s' => r = .ok (.ret (.bool true)) /\ OldK s₁.heap s'.heap /\ s'.os = s₁.os /\ AllBare s'.gens) s₁ := by
 have rv := WQ hi
 have lenV := hi.length
 have core : ∀ H : Hp, Only H -> RdL K H a (ns.map V.int) -> HOk P w H s₁.heap -> (∀ b, H b ≠ none -> b = a) -> (H a ≠ none -> K.lookup a = none) ->
  codeAny (model P w) callerA (.call (.ref fa) ⟨[.ref a], []⟩) (λ r s' => r = .ok (.ret (.bool true)) /\ OldK s₁.heap s'.heap /\ s'.os = s₁.os /\ AllBare s'.gens) s₁ := by
  intro H hO hS hok hA hK
  have base_of : ∀ {b : Addr} {o : Obj}, s₁.heap.get? b = some o -> H b = none -> (zhx s₁.heap H).get? b = some o := λ e n => znv e n
  have noA : ∀ {b : Addr} {o : Obj} {es : Array DictEntry} {ep : Nat}, s₁.heap.get? b = some o -> o.data = .dict es ep -> H b = none := λ {b o es ep} e d => by
   cases q : H b with
   | none => rfl
   | some u =>
    have e' : b = a := hA b (by rw [q]; simp)
    subst e'
    rw [ha] at e; cases e
    have d' : Data.seq vs.toArray _ = Data.dict es ep := d
    cases d'
  have nsK : ∀ {b : Addr} {m : Str -> Option Value}, s₁.heap.Ns b m -> (zhx s₁.heap H).Ns b m := λ {b m} ⟨o, es, ep, e, d, r⟩ => ⟨o, es, ep, base_of e (noA e d), d, r⟩
  have hKb : K.In (zhx s₁.heap H) := λ b o e => base_of (KX b o e) (by
   cases q : H b with
   | none => rfl
   | some u =>
    have e' : b = a := hA b (by rw [q]; simp)
    subst e'
    rw [hK (by rw [q]; simp)] at e; cases e)
  have hM : Mod K mg (zhx s₁.heap H) := ⟨hKb, nsK hns, ⟨mb, nsK hb, hbb⟩, let ⟨mc, h1, h2⟩ := hlim; ⟨mc, nsK h1, h2⟩⟩
  have e0 : Env0 P w K mg (zhx s₁.heap H) callerA [] s₁ H := ⟨rfl, hM, λ b o e => zox e, Nat.le_of_eq (zlq _ _), trivial, λ b hb => absurd (show b ∈ ([] : List Addr) from hb) (by simp), hok, .of_eq hg⟩
  refine codeAny_mono ((F _ hKb (nsK hns)).run callerA [] s₁ H ⟨[.ref a], []⟩ [.ref a] [.ref a] _ _ hr e0 (hbind s₁ (.ref a)) (.cons rfl .nil) (hsp H hO hS)) λ r s' h => ?_
  cases r with
  | error e => exact (hCX H e s' h).elim
  | ok fl =>
   cases fl with
   | next => exact False.elim h
   | brk => exact False.elim h
   | cont => exact False.elim h
   | ret u =>
    obtain ⟨v, H', os, bare, un, hok', r', q⟩ := h
    have q' : v = .bl true := q
    subst q'
    obtain rfl : u = Value.bool true := r'
    refine ⟨rfl, OldK.of_keep λ b o e => ?_, os, bare⟩
    cases q : H b with
    | none => exact un.keep b o e q (by intro z; exact absurd (show b ∈ ([] : List Addr) from z) (by simp)) (by simp)
    | some u =>
     rcases hO b with z | ⟨ob, xs, z⟩
     · rw [q] at z; cases z
     · have z2 := un.frzs b ob _ z
       obtain ⟨e1, _⟩ := hok b _ z
       obtain ⟨e2, _⟩ := hok' b _ z2
       rw [e] at e1; cases e1
       exact e2
 cases hk : K.lookup a with
 | some o =>
  have e := KX a o hk
  rw [ha] at e
  cases e
  refine core (λ _ => none) (λ _ => .inl rfl) (.inr ⟨vs.toArray, _, hk, by rw [zzF, lenV]; exact hl, by simpa using rv⟩) (λ b u z => by have z' : (none : Option HO) = some u := z; cases z') (λ b z => absurd rfl z) λ z => absurd rfl z
 | none =>
  refine core (λ b => if b = a then some (.frz { cls := .type "list", data := .seq vs.toArray } (.lst (ns.map V.int))) else none) (λ b => ?_) (.inl (.inr ⟨{ cls := .type "list", data := .seq vs.toArray }, if_pos rfl⟩)) (λ b u z => ?_) (λ b z => ?_) λ _ => hk
  · by_cases hb : b = a
    · exact .inr ⟨_, _, if_pos hb⟩
    · exact .inl (if_neg hb)
  · by_cases hb : b = a
    · have z' := (if_pos hb).symm.trans z
      cases z'
      subst hb
      exact ⟨ha, by rw [zI]; exact hl, vs, _, rv, ha⟩
    · have z' := (if_neg hb).symm.trans z
      cases z'
  · by_cases hb : b = a
    · exact hb
    · exact absurd (if_neg hb) z
end L2
namespace L2
open PySem PySem.Spec PyProof.Rows
theorem walk_of {l : PySem.W.OpenLaw} {n k : Nat} {q : Program} {loose : List Str} {XP : (Str -> Option Value) -> Heap -> Prop} {YP : World -> Heap -> Prop} {d : DefRec} {K : Params -> zD} {CX : World -> CXT} {sp : World -> Sp} {x : Str}
 (hn : l.most = some n) (hn2 : n <= sizeLine) (hdf : d.params.defaults = []) (hr : Room k callerA)
 (hY : ∀ (w : World) (h : Heap), YP w h -> (K w.params).In h)
 (F : ∀ (w : World) (mg : Str -> Option Value) (fa : Addr) (h : Heap), (K w.params).In h -> h.Ns mainGlobals mg -> mg d.name = some (.ref fa) ->
  ∃ fd : FuncData, (∀ (s : Shared) (u : Value), BindsTo s fd ⟨[u], []⟩ [(x, u)]) /\
   ∀ base : Heap, (K w.params).In base -> base.Ns mainGlobals mg -> FnOk l.prog w (K w.params) mg base (CX w) k fa fd [x] (sp w))
 (hsp : ∀ (w : World) (H : Hp) (a : Addr) (ns : List Int), ns.length <= n -> Only H -> RdL (K w.params) H a (ns.map V.int) -> sp w [.ref a] H (λ v _ => v = .bl true) λ _ _ _ => False)
 (hCX : ∀ (w : World) (H : Hp) (s : Shared) (e : Value) (s' : Shared), CX w [] H s (λ _ _ _ => False) e s' -> False) :
 PySem.W.WalkO q loose XP YP l.row.toRowW d [] (λ f vs => PySem.call f vs) := by
 refine Att.zit hn hdf λ w s₀ s₁ mg mb fa o pm cd doc a vs ns G Y ho hd hcd hmg hobj hints hlen hg => ?_
 have KX := hY w _ Y
 obtain ⟨fd, hb, hF⟩ := F w mg fa _ KX G.T.g hmg
 exact zmr KX G.T.g G.T.b G.T.builtins G.T.nolimit hg hobj hints (zzM hlen hn2) hr hF hb (λ H hO hS => hsp w H a ns hlen hO hS) λ H e s' => hCX w H s₁ e s'
end L2
namespace L2
open PySem PySem.Spec PyProof.Rows
def zhA (s : Stmt) : Arguments := match s with
 | .FunctionDef _ a _ _ _ _ _ _ _ _ => a
 | _ => { posonlyargs := [], args := [], vararg := none, kwonlyargs := [], kw_defaults := [], kwarg := none, defaults := [] }
def zct (s : Stmt) : List Stmt := match s with
 | .FunctionDef _ _ b _ _ _ _ _ _ _ => b
 | _ => []
def zy (s : Stmt) : Scope := match s with
 | .FunctionDef _ _ _ _ _ _ sc _ _ _ => sc
 | _ => { kind := .function, names := [], isGenerator := false, isCoroutine := false }
abbrev CX0 : CXT := λ _ _ _ _ _ _ => False
abbrev E0 : XK := λ _ _ _ => False
theorem yM : zhf CX0 X E0 := λ _ _ _ _ _ _ _ h => h.elim
structure Fun (K : zD) (x qual : Str) (st : Stmt) (f : Addr) (fd : FuncData) : Prop where
 ex : ∃ (oc : Value) (od : Option Addr) (kV doc pm : Value) (an : Option Addr) (cdv ct : Value) (osl : Array (Option Value)),
  fd = PySem.W.fnOf x qual (zhA st) (zct st) (zy st) .none kV doc pm an cdv ct /\ K.lookup f = some ⟨oc, od, .func fd, osl⟩ /\ PySem.W.codeIn K cdv qual = true
 kp : PySem.W.keepIn K (.ref f) = true
section
variable {P : Program} {w : World} {K : zD} {mg : Str -> Option Value} {base : Heap}
theorem Fun.ok {x qual : Str} {st : Stmt} {f : Addr} {fd : FuncData} {N ps : List Str} {k : Nat} {sp : Sp} (F : Fun K x qual st f fd) (S : FnScope N ps (zy st)) (len : ∀ vs H Q E, sp vs H Q E -> vs.length = ps.length)
 (hbody : ∀ (cdv : Value) (A : Around) (outer : List Env) (s : Shared) (H : Hp) (vs : List V) (Q : VK) (E : XK), Room k (A.deeper (envOfC qual (zy st) s.heap.objs.size f cdv)) -> sp vs H Q E ->
  ∃ t, PSs (zji CX0 P w K mg base N qual (zy st) f cdv A outer s H E).nox (zct st) t /\ t { nx := λ _ H' => Q .non H', rt := Q } (start N vs) H) : FnOk P w K mg base CX0 (k + 1) f fd ps sp := by
 obtain ⟨oc, od, kV, doc, pm, an, cdv, ct, osl, rfl, lk, hcd⟩ := F.ex
 refine zsb lk hcd S len λ A outer s H vs Q E hr hsp => ?_
 obtain ⟨t, h, q⟩ := hbody cdv A outer s H vs Q E hr hsp
 exact ⟨t, h.nox, q⟩
theorem Fun.binds {x qual : Str} {st : Stmt} {f : Addr} {fd : FuncData} {ps : List Str} (F : Fun K x qual st f fd)
 (h : ∀ (kV doc pm : Value) (an : Option Addr) (cdv ct : Value) (us : List Value), us.length = ps.length -> bindArgs (PySem.W.fnOf x qual (zhA st) (zct st) (zy st) .none kV doc pm an cdv ct) ⟨us, []⟩ = pure (ps.zip us)) : Binds K fd ps [] := by
 obtain ⟨oc, od, kV, doc, pm, an, cdv, ct, osl, rfl, lk, hcd⟩ := F.ex
 exact .all (h kV doc pm an cdv ct)
end
theorem Yp (h : n <= 1000) : n < sizeLine := Nat.lt_of_le_of_lt h (by decide)
section
variable {X : Cx}
theorem pv (i : Nat) (hN : X.N[i]? = some x := by rfl) (hv : Vis X.env.scope x := by first | exact Or.inl rfl | exact Or.inr (Or.inl rfl) | exact Or.inr (Or.inr rfl)) (hd : (x == ("__debug__" : Str)) = false := by decide)
 (hcd : (x == ("__classdict__" : Str)) = false := by decide) : PE X (.Name x pos) (zlt i) := zmq hN hv hd hcd
end
end L2
end
section
namespace PF
open PySem PySem.Spec PyProof.Rows L2
abbrev St := L2.St
structure KD where
 d : Addr -> List (Key × V) -> Prop
 c : Str -> Addr
instance : CoeFun KD (λ _ => Addr -> List (Key × V) -> Prop) := ⟨KD.d⟩
inductive D where
 | non | bl (b : Bool) | int (i : Int) | str (x : Str) | tup (ds : List D) | lst (ds : List D) | dct (kvs : List (Key × D)) | cl (c : Str) | ob (c : Str) (ns : List Str) (ds : List D)
mutual
inductive Rp (K : zD) (kd : KD) (O : Addr -> Prop) (H : Hp) : V -> D -> Prop
 | non : Rp K kd O H .non .non
 | bl (b : Bool) : Rp K kd O H (.bl b) (.bl b)
 | int (i : Int) : Rp K kd O H (.int i) (.int i)
 | str (x : Str) : Rp K kd O H (.str x) (.str x)
 | tup {a : Addr} {vs : List V} {ds : List D} : ¬ O a -> Rd H a (.tup vs) -> RpL K kd O H vs ds -> Rp K kd O H (.ref a) (.tup ds)
 | tupK {a : Addr} {o : Obj} {its : Array Value} {n : Nat} {vs : List V} {ds : List D} : K.lookup a = some o -> o.cls = .type "tuple" -> o.data = .seq its n -> its.size <= sizeLine -> Vals vs its.toList -> RpL K kd O H vs ds -> Rp K kd O H (.ref a) (.tup ds)
 | lst {a : Addr} {vs : List V} {ds : List D} : ¬ O a -> Rd H a (.lst vs) -> RpL K kd O H vs ds -> Rp K kd O H (.ref a) (.lst ds)
 | lstK {a : Addr} {its : Array Value} {n : Nat} {vs : List V} {ds : List D} : K.lookup a = some { cls := .type "list", data := .seq its n } -> its.size <= sizeLine -> Vals vs its.toList -> RpL K kd O H vs ds -> Rp K kd O H (.ref a) (.lst ds)
 | dct {a : Addr} {kvs : List (Key × V)} {ds : List (Key × D)} : ¬ O a -> Rd H a (.dK kvs) -> RpM K kd O H kvs ds -> Rp K kd O H (.ref a) (.dct ds)
 | dctK {a : Addr} {kvs : List (Key × V)} {ds : List (Key × D)} : kd a kvs -> RpM K kd O H kvs ds -> Rp K kd O H (.ref a) (.dct ds)
 | cl (c : Str) : Rp K kd O H (.ref (kd.c c)) (.cl c)
 | ob {a dx : Addr} {c : Str} {ns : List Str} {vs : List V} {ds : List D} : ¬ O a -> H a = some (.ins (kd.c c) dx (ns.zip vs)) -> ns.length = vs.length -> RpL K kd O H vs ds -> Rp K kd O H (.ref a) (.ob c ns ds)
inductive RpL (K : zD) (kd : KD) (O : Addr -> Prop) (H : Hp) : List V -> List D -> Prop
 | nil : RpL K kd O H [] []
 | cons {v : V} {d : D} {vs : List V} {ds : List D} : Rp K kd O H v d -> RpL K kd O H vs ds -> RpL K kd O H (v :: vs) (d :: ds)
inductive RpM (K : zD) (kd : KD) (O : Addr -> Prop) (H : Hp) : List (Key × V) -> List (Key × D) -> Prop
 | nil : RpM K kd O H [] []
 | cons {k : Key} {v : V} {d : D} {vs : List (Key × V)} {ds : List (Key × D)} : Rp K kd O H v d -> RpM K kd O H vs ds -> RpM K kd O H ((k, v) :: vs) ((k, d) :: ds)
end
structure Grow (W : Addr -> Prop) (H : Hp) (W' : Addr -> Prop) (H' : Hp) : Prop where
 keep : ∀ b o, H b = some o -> ¬ W b -> H' b = some o
 own : ∀ b, W' b -> W b \/ H b = none
theorem Grow.refl {W : Addr -> Prop} {H : Hp} : Grow W H W H := ⟨λ _ _ h _ => h, λ _ h => .inl h⟩
theorem Grow.trans {W W1 W2 : Addr -> Prop} {H H1 H2 : Hp} (a : Grow W H W1 H1) (b : Grow W1 H1 W2 H2) : Grow W H W2 H2 where
 keep := λ x o h n => b.keep x o (a.keep x o h n) λ q => (a.own x q).elim n λ z => by rw [z] at h; cases h
 own := λ x q => by
  rcases b.own x q with h | h
  · exact a.own x h
  · cases e : H x with
    | none => exact .inr rfl
    | some o =>
     refine .inl (Classical.byContradiction λ n => ?_)
     rw [a.keep x o e n] at h
     cases h
theorem Grow.less {W W' : Addr -> Prop} {H : Hp} (h : ∀ a, W' a -> W a) : Grow W H W' H := ⟨λ _ _ q _ => q, λ b q => .inl (h b q)⟩
abbrev Un2 (F W : Addr -> Prop) : Addr -> Prop := λ a => F a \/ W a
section
variable {K : zD} {kd : KD} {F W W' : Addr -> Prop} {H H' : Hp}
theorem zaN {a : Addr} {u : HO} (g : Grow W H W' H') (n : ¬ W a) (h : Rd H a u) : Rd H' a u := by
 rcases h with h | ⟨o, h⟩
 · exact .inl (g.keep _ _ h n)
 · exact .inr ⟨o, g.keep _ _ h n⟩
theorem zom {a : Addr} {u : HO} (h : Rd H a u) : H a ≠ none := by
 rcases h with h | ⟨o, h⟩ <;> (rw [h]; simp)
theorem zcz {a : Addr} {u : HO} (g : Grow W H W' H') (n : ¬ Un2 F W a) (h : Rd H a u) : ¬ Un2 F W' a := λ q =>
 q.elim (λ z => n (.inl z)) λ z => (g.own a z).elim (λ y => n (.inr y)) λ y => zom h y
theorem Rp.grow (g : Grow W H W' H') {v : V} {d : D} (h : Rp K kd (Un2 F W) H v d) : Rp K kd (Un2 F W') H' v d :=
 Rp.rec (motive_1 := λ v d _ => Rp K kd (Un2 F W') H' v d) (motive_2 := λ vs ds _ => RpL K kd (Un2 F W') H' vs ds) (motive_3 := λ vs ds _ => RpM K kd (Un2 F W') H' vs ds) .non .bl .int .str (λ n h _ r => .tup (zcz g n h) (zaN g (λ z => n (.inr z)) h) r) (λ a b c e f _ r => .tupK a b c e f r) (λ n h _ r => .lst (zcz g n h) (zaN g (λ z => n (.inr z)) h) r) (λ a e f _ r => .lstK a e f r) (λ n h _ r => .dct (zcz g n h) (zaN g (λ z => n (.inr z)) h) r) (λ h _ r => .dctK h r) .cl (λ n h l _ r => .ob (zcz g n (.inl h)) (g.keep _ _ h λ z => n (.inr z)) l r) .nil (λ _ _ h r => .cons h r) .nil (λ _ _ h r => .cons h r) h
theorem RpL.ind {O : Addr -> Prop} {P : List V -> List D -> Prop} (h0 : P [] []) (h1 : ∀ {v d vs ds}, Rp K kd O H v d -> RpL K kd O H vs ds -> P vs ds -> P (v :: vs) (d :: ds)) {vs : List V} {ds : List D} (h : RpL K kd O H vs ds) : P vs ds :=
 RpL.rec (motive_1 := λ _ _ _ => True) (motive_2 := λ vs ds _ => P vs ds) (motive_3 := λ _ _ _ => True) ⟨⟩ (λ _ => ⟨⟩) (λ _ => ⟨⟩) (λ _ => ⟨⟩) (λ _ _ _ _ => ⟨⟩) (λ _ _ _ _ _ _ _ => ⟨⟩) (λ _ _ _ _ => ⟨⟩) (λ _ _ _ _ _ => ⟨⟩) (λ _ _ _ _ => ⟨⟩) (λ _ _ _ => ⟨⟩) (λ _ => ⟨⟩) (λ _ _ _ _ _ => ⟨⟩) h0 (λ a r _ ih => h1 a r ih) ⟨⟩ (λ _ _ _ _ => ⟨⟩) h
theorem RpM.ind {O : Addr -> Prop} {P : List (Key × V) -> List (Key × D) -> Prop} (h0 : P [] []) (h1 : ∀ {k v d vs ds}, Rp K kd O H v d -> RpM K kd O H vs ds -> P vs ds -> P ((k, v) :: vs) ((k, d) :: ds)) {vs : List (Key × V)} {ds : List (Key × D)} (h : RpM K kd O H vs ds) : P vs ds :=
 RpM.rec (motive_1 := λ _ _ _ => True) (motive_2 := λ _ _ _ => True) (motive_3 := λ vs ds _ => P vs ds) ⟨⟩ (λ _ => ⟨⟩) (λ _ => ⟨⟩) (λ _ => ⟨⟩) (λ _ _ _ _ => ⟨⟩) (λ _ _ _ _ _ _ _ => ⟨⟩) (λ _ _ _ _ => ⟨⟩) (λ _ _ _ _ _ => ⟨⟩) (λ _ _ _ _ => ⟨⟩) (λ _ _ _ => ⟨⟩) (λ _ => ⟨⟩) (λ _ _ _ _ _ => ⟨⟩) ⟨⟩ (λ _ _ _ _ => ⟨⟩) h0 (λ a r _ ih => h1 a r ih) h
theorem RpL.grow (g : Grow W H W' H') {vs : List V} {ds : List D} (h : RpL K kd (Un2 F W) H vs ds) : RpL K kd (Un2 F W') H' vs ds := RpL.ind .nil (λ a _ r => .cons (Rp.grow g a) r) h
theorem Rp.less {O O' : Addr -> Prop} (g : ∀ a, O' a -> O a) {v : V} {d : D} (h : Rp K kd O H v d) : Rp K kd O' H v d :=
 Rp.rec (motive_1 := λ v d _ => Rp K kd O' H v d) (motive_2 := λ vs ds _ => RpL K kd O' H vs ds) (motive_3 := λ vs ds _ => RpM K kd O' H vs ds) .non .bl .int .str (λ n h _ r => .tup (λ z => n (g _ z)) h r) (λ a b c e f _ r => .tupK a b c e f r) (λ n h _ r => .lst (λ z => n (g _ z)) h r) (λ a e f _ r => .lstK a e f r) (λ n h _ r => .dct (λ z => n (g _ z)) h r) (λ h _ r => .dctK h r) .cl (λ n h l _ r => .ob (λ z => n (g _ z)) h l r) .nil (λ _ _ h r => .cons h r) .nil (λ _ _ h r => .cons h r) h
theorem RpL.less {O O' : Addr -> Prop} (g : ∀ a, O' a -> O a) {vs : List V} {ds : List D} (h : RpL K kd O H vs ds) : RpL K kd O' H vs ds := RpL.ind .nil (λ a _ r => .cons (Rp.less g a) r) h
theorem RpM.less {O O' : Addr -> Prop} (g : ∀ a, O' a -> O a) {vs : List (Key × V)} {ds : List (Key × D)} (h : RpM K kd O H vs ds) : RpM K kd O' H vs ds := RpM.ind .nil (λ a _ r => .cons (Rp.less g a) r) h
theorem RpL.length {O : Addr -> Prop} {vs : List V} {ds : List D} (h : RpL K kd O H vs ds) : vs.length = ds.length := RpL.ind (P := λ vs ds => vs.length = ds.length) rfl (λ _ _ r => congrArg (· + 1) r) h
theorem RpM.length {O : Addr -> Prop} {vs : List (Key × V)} {ds : List (Key × D)} (h : RpM K kd O H vs ds) : vs.length = ds.length := RpM.ind (P := λ vs ds => vs.length = ds.length) rfl (λ _ _ r => congrArg (· + 1) r) h
theorem RpL.get {O : Addr -> Prop} {vs : List V} {ds : List D} {i : Nat} {d : D} (h : RpL K kd O H vs ds) (e : ds[i]? = some d) : ∃ v, vs[i]? = some v /\ Rp K kd O H v d :=
 RpL.ind (P := λ vs ds => ∀ i, ds[i]? = some d -> ∃ v, vs[i]? = some v /\ Rp K kd O H v d) (λ i e => by rw [List.getElem?_nil] at e; cases e) (λ a _ ih i e => by
  cases i with
  | zero => cases e; exact ⟨_, rfl, a⟩
  | succ i => exact ih i e) h i e
theorem RpL.append {O : Addr -> Prop} {vs ws : List V} {ds es : List D} (h : RpL K kd O H vs ds) (r : RpL K kd O H ws es) : RpL K kd O H (vs ++ ws) (ds ++ es) := RpL.ind (P := λ vs ds => RpL K kd O H (vs ++ ws) (ds ++ es)) r (λ a _ t => .cons a t) h
theorem RpL.take {O : Addr -> Prop} {vs : List V} {ds : List D} (n : Nat) (h : RpL K kd O H vs ds) : RpL K kd O H (vs.take n) (ds.take n) :=
 RpL.ind (P := λ vs ds => ∀ n, RpL K kd O H (vs.take n) (ds.take n)) (λ n => by rw [List.take_nil, List.take_nil]; exact .nil) (λ a _ ih n => by
  cases n with
  | zero => exact .nil
  | succ n => exact .cons a (ih n)) h n
theorem RpL.drop {O : Addr -> Prop} {vs : List V} {ds : List D} (n : Nat) (h : RpL K kd O H vs ds) : RpL K kd O H (vs.drop n) (ds.drop n) :=
 RpL.ind (P := λ vs ds => ∀ n, RpL K kd O H (vs.drop n) (ds.drop n)) (λ n => by rw [List.drop_nil, List.drop_nil]; exact .nil) (λ a b ih n => by
  cases n with
  | zero => exact .cons a b
  | succ n => exact ih n) h n
theorem RpL.rep {O : Addr -> Prop} {vs : List V} {ds : List D} (h : RpL K kd O H vs ds) : ∀ k : Nat, RpL K kd O H (List.replicate k vs).flatten (List.replicate k ds).flatten
 | 0 => .nil
 | k + 1 => by
  rw [List.replicate_succ, List.replicate_succ, List.flatten_cons, List.flatten_cons]
  exact h.append (RpL.rep h k)
end
inductive Vw (K : zD) (kd : KD) (O : Addr -> Prop) (H : Hp) : V -> D -> Prop
 | non : Vw K kd O H .non .non
 | bl (b : Bool) : Vw K kd O H (.bl b) (.bl b)
 | int (i : Int) : Vw K kd O H (.int i) (.int i)
 | str (x : Str) : Vw K kd O H (.str x) (.str x)
 | tup {a : Addr} {vs : List V} {ds : List D} : Rp K kd O H (.ref a) (.tup ds) -> SqT K H a vs -> RpL K kd O H vs ds -> Vw K kd O H (.ref a) (.tup ds)
 | lst {a : Addr} {vs : List V} {ds : List D} : RdL K H a vs -> RpL K kd O H vs ds -> Vw K kd O H (.ref a) (.lst ds)
 | dct {a : Addr} {kvs : List (Key × V)} {ds : List (Key × D)} : (Rd H a (.dK kvs) \/ kd a kvs) -> RpM K kd O H kvs ds -> Vw K kd O H (.ref a) (.dct ds)
 | cl (c : Str) : Vw K kd O H (.ref (kd.c c)) (.cl c)
 | ob {a dx : Addr} {c : Str} {ns : List Str} {vs : List V} {ds : List D} : H a = some (.ins (kd.c c) dx (ns.zip vs)) -> ns.length = vs.length -> RpL K kd O H vs ds -> Vw K kd O H (.ref a) (.ob c ns ds)
theorem Rp.vw {K : zD} {kd : KD} {O : Addr -> Prop} {H : Hp} {v : V} {d : D} (h : Rp K kd O H v d) : Vw K kd O H v d := by
 cases h with
 | non => exact .non
 | bl b => exact .bl b
 | int i => exact .int i
 | str x => exact .str x
 | tup n h r => exact .tup (.tup n h r) (.inl h) r
 | tupK a b c e f r => exact .tup (.tupK a b c e f r) (.inr ⟨_, _, _, a, b, c, e, f⟩) r
 | lst n h r => exact .lst (.inl h) r
 | lstK a e f r => exact .lst (.inr ⟨_, _, a, e, f⟩) r
 | dct n h r => exact .dct (.inl h) r
 | dctK h r => exact .dct (.inr h) r
 | cl c => exact .cl c
 | ob n h l r => exact .ob h l r
theorem _root_.L2.RdL.sq {K : zD} {H : Hp} {a : Addr} {xs : List V} (h : RdL K H a xs) : SqL K H a xs := by
 rcases h with h | ⟨its, n, k, z, r⟩
 · exact .inl h
 · exact .inr ⟨_, its, n, k, rfl, rfl, rfl, z, r⟩
theorem zjo {X : Cx} {pins : List (Addr × Obj)} {σ : St} {H : Hp} {s : Shared} {a : Addr} {xs : List V} (I : Inv X pins σ H s) (h : RdL X.K H a xs) :
 xs.length <= sizeLine /\ ∃ (its : List Value) (n : Nat), Vals xs its /\ s.heap.get? a = some { cls := .type "list", data := .seq its.toArray n } := by
 rcases h with h | ⟨its, n, k, z, r⟩
 · exact h.ok I.hok
 · refine ⟨by rw [r.length]; simpa using z, its.toList, n, r, by simpa using I.kIn _ _ k⟩
theorem Rp.cl_eq {K : zD} {kd : KD} {O : Addr -> Prop} {H : Hp} {C : Addr} {c : Str} (h : Rp K kd O H (.ref C) (.cl c)) : C = kd.c c := by
 cases h; rfl
def yF : D -> Bool
 | .non => true | .bl _ => true | .int _ => true | .str _ => true | _ => false
theorem Rp.flat {K : zD} {kd : KD} {O O' : Addr -> Prop} {H H' : Hp} {v : V} {d : D} (h : Rp K kd O H v d) (e : yF d = true) : Rp K kd O' H' v d := by
 cases h with
 | non => exact .non
 | bl b => exact .bl b
 | int i => exact .int i
 | str x => exact .str x
 | _ => cases e
inductive Kind where
 | ls | tp | dc (ks : List Key) | ob (c : Str) (ns : List Str)
inductive O where
 | lf (st : Bool) (d : D) | nd (k : Kind) (os : List O)
abbrev lfs (st : Bool) (d : D) : O := .lf (yF d || st) d
mutual
inductive Ro (L : Bool -> V -> D -> Prop) (N : Addr -> Prop) (H : Hp) : V -> O -> List Addr -> Prop
 | lf {st : Bool} {v : V} {d : D} : L st v d -> Ro L N H v (.lf st d) []
 | ls {a : Addr} {vs : List V} {os : List O} {fp : List Addr} : H a = some (.lst vs) -> RoL L N H vs os fp -> Ro L N H (.ref a) (.nd .ls os) (a :: fp)
 | dc {a : Addr} {ks : List Key} {vs : List V} {os : List O} {fp : List Addr} : H a = some (.dK (ks.zip vs)) -> ks.length = vs.length -> RoL L N H vs os fp -> Ro L N H (.ref a) (.nd (.dc ks) os) (a :: fp)
 | ob {a dx C : Addr} {c : Str} {ns : List Str} {vs : List V} {os : List O} {fp : List Addr} : L true (.ref C) (.cl c) -> H a = some (.ins C dx (ns.zip vs)) -> ns.length = vs.length -> RoL L N H vs os fp -> Ro L N H (.ref a) (.nd (.ob c ns) os) (a :: fp)
 | tp {a : Addr} {vs : List V} {os : List O} {fp : List Addr} : N a -> H a = some (.tup vs) -> RoL L N H vs os fp -> Ro L N H (.ref a) (.nd .tp os) fp
inductive RoL (L : Bool -> V -> D -> Prop) (N : Addr -> Prop) (H : Hp) : List V -> List O -> List Addr -> Prop
 | nil : RoL L N H [] [] []
 | cons {v : V} {o : O} {vs : List V} {os : List O} {fp fq : List Addr} : Ro L N H v o fp -> RoL L N H vs os fq -> RoL L N H (v :: vs) (o :: os) (fp ++ fq)
end
mutual
def O.toD : O -> D
 | .lf _ d => d
 | .nd .ls os => .lst (O.toDs os)
 | .nd .tp os => .tup (O.toDs os)
 | .nd (.dc ks) os => .dct (ks.zip (O.toDs os))
 | .nd (.ob c ns) os => .ob c ns (O.toDs os)
def O.toDs : List O -> List D
 | [] => []
 | o :: r => o.toD :: O.toDs r
end
mutual
def O.str : O -> Bool
 | .lf st _ => st
 | .nd _ os => O.strs os
def O.strs : List O -> Bool
 | [] => true
 | o :: r => o.str && O.strs r
end
section
variable {L L' : Bool -> V -> D -> Prop} {N N' : Addr -> Prop} {H H' : Hp} {K : zD} {kd : KD} {Ob : Addr -> Prop}
theorem Ro.mono (hL : ∀ st v d, L st v d -> L' st v d) (hN : ∀ a vs, N a -> H a = some (.tup vs) -> N' a /\ H' a = some (.tup vs)) {v : V} {o : O} {fp : List Addr} (k : ∀ a ∈ fp, ∀ u, H a = some u -> H' a = some u) (h : Ro L N H v o fp) : Ro L' N' H' v o fp :=
 Ro.rec (motive_1 := λ v o fp _ => (∀ a ∈ fp, ∀ u, H a = some u -> H' a = some u) -> Ro L' N' H' v o fp) (motive_2 := λ vs os fp _ => (∀ a ∈ fp, ∀ u, H a = some u -> H' a = some u) -> RoL L' N' H' vs os fp)
  (λ h _ => .lf (hL _ _ _ h)) (λ h _ r k => .ls (k _ zzD _ h) (r λ a m => k a (zzB _ m))) (λ h l _ r k => .dc (k _ zzD _ h) l (r λ a m => k a (zzB _ m))) (λ c h l _ r k => .ob (hL _ _ _ c) (k _ zzD _ h) l (r λ a m => k a (zzB _ m))) (λ n h _ r k => .tp (hN _ _ n h).1 (hN _ _ n h).2 (r k))
  (λ _ => .nil) (λ _ _ h r k => .cons (h λ a m => k a (zzN _ m)) (r λ a m => k a (zzJ _ m))) h k
theorem RoL.ind {P : List V -> List O -> List Addr -> Prop} (h0 : P [] [] []) (h1 : ∀ {v o vs os fp fq}, Ro L N H v o fp -> RoL L N H vs os fq -> P vs os fq -> P (v :: vs) (o :: os) (fp ++ fq)) {vs : List V} {os : List O} {fp : List Addr} (h : RoL L N H vs os fp) : P vs os fp :=
 RoL.rec (motive_1 := λ _ _ _ _ => True) (motive_2 := λ vs os fp _ => P vs os fp) (λ _ => ⟨⟩) (λ _ _ _ => ⟨⟩) (λ _ _ _ _ => ⟨⟩) (λ _ _ _ _ _ => ⟨⟩) (λ _ _ _ _ => ⟨⟩) h0 (λ a r _ ih => h1 a r ih) h
theorem RoL.mono (hL : ∀ st v d, L st v d -> L' st v d) (hN : ∀ a vs, N a -> H a = some (.tup vs) -> N' a /\ H' a = some (.tup vs)) {vs : List V} {os : List O} {fp : List Addr} (k : ∀ a ∈ fp, ∀ u, H a = some u -> H' a = some u) (h : RoL L N H vs os fp) : RoL L' N' H' vs os fp :=
 RoL.ind (P := λ vs os fp => (∀ a ∈ fp, ∀ u, H a = some u -> H' a = some u) -> RoL L' N' H' vs os fp) (λ _ => .nil) (λ h _ r k => .cons (Ro.mono hL hN (λ a m => k a (zzN _ m)) h) (r λ a m => k a (zzJ _ m))) h k
theorem zef : ∀ {ks : List Key} {vs : List V} {ds : List D}, RpL K kd Ob H vs ds -> ks.length = vs.length -> RpM K kd Ob H (ks.zip vs) (ks.zip ds)
 | [], _, _, _, _ => .nil
 | _ :: _, _, _, .nil, e => by simp at e
 | _ :: _, _, _, .cons h r, e => .cons h (zef r (by simpa using e))
theorem Ro.rp (b : Bool) (hL : ∀ st v d, (b = true -> st = true) -> L st v d -> Rp K kd Ob H v d) (hN : ∀ a, N a -> ¬ Ob a) {v : V} {o : O} {fp : List Addr} (s : b = true -> o.str = true) (k : ∀ a ∈ fp, ¬ Ob a) (h : Ro L N H v o fp) : Rp K kd Ob H v o.toD :=
 Ro.rec (motive_1 := λ v o fp _ => (b = true -> o.str = true) -> (∀ a ∈ fp, ¬ Ob a) -> Rp K kd Ob H v o.toD) (motive_2 := λ vs os fp _ => (b = true -> O.strs os = true) -> (∀ a ∈ fp, ¬ Ob a) -> RpL K kd Ob H vs (O.toDs os))
  (λ h s _ => hL _ _ _ s h) (λ h _ r s k => .lst (k _ zzD) (.inl h) (r s λ a m => k a (zzB _ m))) (λ h l _ r s k => .dct (k _ zzD) (.inl h) (zef (r s λ a m => k a (zzB _ m)) l)) (λ c h l _ r s k => by
   have e := (hL _ _ _ (λ _ => rfl) c).cl_eq
   subst e
   exact .ob (k _ zzD) h l (r s λ a m => k a (zzB _ m))) (λ n h _ r s k => .tup (hN _ n) (.inl h) (r s k))
  (λ _ _ => .nil) (λ _ _ h r s k => .cons (h (λ z => ((Bool.and_eq_true _ _).mp (s z)).1) λ a m => k a (zzN _ m)) (r (λ z => ((Bool.and_eq_true _ _).mp (s z)).2) λ a m => k a (zzJ _ m))) h s k
theorem RoL.rp (b : Bool) (hL : ∀ st v d, (b = true -> st = true) -> L st v d -> Rp K kd Ob H v d) (hN : ∀ a, N a -> ¬ Ob a) {vs : List V} {os : List O} {fp : List Addr} (s : b = true -> O.strs os = true) (k : ∀ a ∈ fp, ¬ Ob a) (h : RoL L N H vs os fp) : RpL K kd Ob H vs (O.toDs os) :=
 RoL.ind (P := λ vs os fp => (b = true -> O.strs os = true) -> (∀ a ∈ fp, ¬ Ob a) -> RpL K kd Ob H vs (O.toDs os)) (λ _ _ => .nil) (λ h _ r s k => .cons (Ro.rp b hL hN (λ z => ((Bool.and_eq_true _ _).mp (s z)).1) (λ a m => k a (zzN _ m)) h) (r (λ z => ((Bool.and_eq_true _ _).mp (s z)).2) λ a m => k a (zzJ _ m))) h s k
theorem RoL.length {vs : List V} {os : List O} {fp : List Addr} (h : RoL L N H vs os fp) : vs.length = os.length := RoL.ind (P := λ vs os _ => vs.length = os.length) rfl (λ _ _ r => congrArg (· + 1) r) h
theorem zdF : ∀ os : List O, (O.toDs os).length = os.length
 | [] => rfl
 | _ :: r => congrArg (· + 1) (zdF r)
theorem RoL.append {vs ws : List V} {os ps : List O} {f g : List Addr} (h : RoL L N H vs os f) (r : RoL L N H ws ps g) : RoL L N H (vs ++ ws) (os ++ ps) (f ++ g) := RoL.ind (P := λ vs os f => RoL L N H (vs ++ ws) (os ++ ps) (f ++ g)) r (λ h _ t => by rw [List.append_assoc]; exact .cons h t) h
theorem RoL.one {v : V} {o : O} {f : List Addr} (h : Ro L N H v o f) : RoL L N H [v] [o] f := by
 have := RoL.cons h (RoL.nil (L := L) (N := N) (H := H))
 rw [List.append_nil] at this
 exact this
theorem RoL.at_ {k : Nat} {o : O} : ∀ {vs : List V} {os : List O} {fp : List Addr}, RoL L N H vs os fp -> os[k]? = some o -> ∃ v f fo g, vs[k]? = some v /\ fp = f ++ (fo ++ g) /\ Ro L N H v o fo /\ RoL L N H (vs.take k) (os.take k) f /\ RoL L N H (vs.drop (k + 1)) (os.drop (k + 1)) g := by
 induction k with
 | zero =>
  intro vs os fp h e
  cases h with
  | nil => cases e
  | cons h r =>
   rw [List.getElem?_cons_zero] at e
   cases e
   exact ⟨_, [], _, _, rfl, rfl, h, .nil, r⟩
 | succ k ih =>
  intro vs os fp h e
  cases h with
  | nil => cases e
  | cons h r =>
   rw [List.getElem?_cons_succ] at e
   obtain ⟨v, f, fo, g, e1, e2, h1, h2, h3⟩ := ih r e
   subst e2
   exact ⟨v, _, fo, g, by rw [List.getElem?_cons_succ]; exact e1, (List.append_assoc _ _ _).symm, h1, .cons h h2, h3⟩
theorem zdn {α : Type} (l : List α) (k : Nat) : l.eraseIdx k = l.take k ++ l.drop (k + 1) := List.eraseIdx_eq_take_drop_succ l k
end
abbrev AS := List (Option O)
abbrev Ad := Nat -> List Addr
def Gw (T : List Addr) (ad : Ad) : Addr -> Prop := λ a => a ∈ T \/ ∃ i, a ∈ ad i
abbrev Lv (F B G : Addr -> Prop) (st : Bool) : Addr -> Prop := Un2 (λ a => (st = true /\ F a) \/ B a) G
abbrev Lf (K : zD) (kd : KD) (F B G : Addr -> Prop) (H : Hp) : Bool -> V -> D -> Prop := λ st v d => Rp K kd (Lv F B G st) H v d
abbrev Nf (F B G : Addr -> Prop) : Addr -> Prop := λ a => ¬ Lv F B G true a
abbrev RoS (K : zD) (kd : KD) (F B G : Addr -> Prop) (H : Hp) : V -> O -> List Addr -> Prop := Ro (Lf K kd F B G H) (Nf F B G) H
abbrev WW (K : zD) (kd : KD) (F B G : Addr -> Prop) (H : Hp) : List V -> List O -> List Addr -> Prop := RoL (Lf K kd F B G H) (Nf F B G) H
def zer (K : zD) (kd : KD) (F B G : Addr -> Prop) (H : Hp) : Option O -> Option (Option V) -> List Addr -> Prop
 | none, _, fp => fp = []
 | some o, s, fp => ∃ v, s = some (some v) /\ RoS K kd F B G H v o fp
structure Rel (K : zD) (kd : KD) (F B : Addr -> Prop) (T : List Addr) (ad : Ad) (as : AS) (σ : St) (H : Hp) : Prop where
 len : as.length = σ.length
 out : ∀ i, as.length <= i -> ad i = []
 nd : ∀ i, (ad i).Nodup
 inj : ∀ i j a, a ∈ ad i -> a ∈ ad j -> i = j
 tnd : T.Nodup
 dis : ∀ i a, a ∈ ad i -> a ∉ T
 ftr : ∀ a, F a -> H a ≠ none
 btr : ∀ a, B a -> H a ≠ none /\ ¬ F a /\ ¬ Gw T ad a
 gtr : ∀ a, Gw T ad a -> H a ≠ none /\ ¬ F a
 sl : ∀ i s, as[i]? = some s -> zer K kd F B (Gw T ad) H s σ[i]? (ad i)
inductive RV where
 | ow (o : O) | bo (i : Nat)
def Za (K : zD) (kd : KD) (F B : Addr -> Prop) (T : List Addr) (ad : Ad) (σ : St) (H : Hp) (v : V) : RV -> Prop
 | .ow o => RoS K kd F B (Gw T ad) H v o T
 | .bo i => T = [] /\ σ[i]? = some (some v)
def O.frz (o : O) : O := .lf o.str o.toD
def RV.frz : RV -> RV
 | .ow o => .ow o.frz
 | .bo i => .bo i
def O.isLf : O -> Bool
 | .lf _ _ => true
 | _ => false
def O.kl : O -> Option Bool
 | .lf st _ => some st
 | .nd _ os => if os.all O.isLf = true then some (O.strs os) else none
def RV.view (as : AS) : RV -> Option (D × Option Bool)
 | .ow o => some (o.toD, some o.str)
 | .bo i => match as[i]? with
  | some (some o) => some (o.toD, o.kl)
  | _ => none
def Obl (F B G : Addr -> Prop) : Option Bool -> Addr -> Prop
 | some st => Lv F B G st
 | none => λ _ => False
section
variable {K : zD} {kd : KD} {F B F' B' : Addr -> Prop} {G G' : Addr -> Prop} {T T' : List Addr} {ad ad1 : Ad} {as as1 : AS} {σ : St} {H H1 H' : Hp} {v : V} {r : RV} {o : O} {fp : List Addr} {vs : List V} {os : List O}
theorem RoS.grow (g : Grow G H G' H') (k : ∀ a ∈ fp, ∀ u, H a = some u -> H' a = some u) (h : RoS K kd F B G H v o fp) : RoS K kd F B G' H' v o fp :=
 Ro.mono (λ st v d r => Rp.grow g r) (λ a vs n e => ⟨λ z => z.elim (λ y => n (.inl y)) λ y => (g.own a y).elim (λ w => n (.inr w)) λ w => (by rw [w] at e; cases e), g.keep a _ e (λ w => n (.inr w))⟩) k h
theorem WW.grow (g : Grow G H G' H') (k : ∀ a ∈ fp, ∀ u, H a = some u -> H' a = some u) (h : WW K kd F B G H vs os fp) : WW K kd F B G' H' vs os fp :=
 RoL.mono (λ st v d r => Rp.grow g r) (λ a vs n e => ⟨λ z => z.elim (λ y => n (.inl y)) λ y => (g.own a y).elim (λ w => n (.inr w)) λ w => (by rw [w] at e; cases e), g.keep a _ e (λ w => n (.inr w))⟩) k h
theorem RoS.lv (g : ∀ st a, Lv F' B' G' st a -> Lv F B G st a) (h : RoS K kd F B G H v o fp) : RoS K kd F' B' G' H v o fp :=
 Ro.mono (λ st v d r => r.less (g st)) (λ a vs n e => ⟨λ z => n (g true a z), e⟩) (λ _ _ _ e => e) h
theorem WW.lv (g : ∀ st a, Lv F' B' G' st a -> Lv F B G st a) (h : WW K kd F B G H vs os fp) : WW K kd F' B' G' H vs os fp :=
 RoL.mono (λ st v d r => r.less (g st)) (λ a vs n e => ⟨λ z => n (g true a z), e⟩) (λ _ _ _ e => e) h
theorem RoS.less (g : ∀ a, G' a -> G a) (h : RoS K kd F B G H v o fp) : RoS K kd F B G' H v o fp := RoS.lv (λ _ a z => z.elim .inl λ y => .inr (g a y)) h
theorem Gw.drop : ∀ a, Gw [] ad a -> Gw T ad a := λ _ h => h.elim (λ z => nomatch z) .inr
theorem Rel.trk (R : Rel K kd F B T ad as σ H) (st : Bool) : ∀ a, Lv F B (Gw T ad) st a -> H a ≠ none := λ a h => by
 rcases h with (h | h) | h
 · exact R.ftr a h.2
 · exact (R.btr a h).1
 · exact (R.gtr a h).1
theorem Rel.tr (R : Rel K kd F B T ad as σ H) (lv : Option Bool) : ∀ a, Obl F B (Gw T ad) lv a -> H a ≠ none := λ a h => by
 cases lv with
 | none => exact h.elim
 | some st => exact R.trk st a h
theorem zer.lv {s : Option O} {x : Option (Option V)} (g : ∀ st a, Lv F' B' G' st a -> Lv F B G st a) (h : zer K kd F B G H s x fp) : zer K kd F' B' G' H s x fp := by
 cases s with
 | none => exact h
 | some o => obtain ⟨v, e, r⟩ := h; exact ⟨v, e, RoS.lv g r⟩
theorem zer.less {s : Option O} {x : Option (Option V)} (g : ∀ a, G' a -> G a) (h : zer K kd F B G H s x fp) : zer K kd F B G' H s x fp := h.lv (λ _ a z => z.elim .inl λ y => .inr (g a y))
theorem zer.grow {s : Option O} {x : Option (Option V)} (g : Grow G H G' H') (k : ∀ a ∈ fp, ∀ u, H a = some u -> H' a = some u) (h : zer K kd F B G H s x fp) : zer K kd F B G' H' s x fp := by
 cases s with
 | none => exact h
 | some o => obtain ⟨v, e, r⟩ := h; exact ⟨v, e, RoS.grow g k r⟩
theorem Rel.drop (R : Rel K kd F B T ad as σ H) : Rel K kd F B [] ad as σ H where
 len := R.len
 out := R.out
 nd := R.nd
 inj := R.inj
 tnd := List.nodup_nil
 dis := λ _ _ _ z => nomatch z
 ftr := R.ftr
 btr := λ a h => let ⟨h1, h2, h3⟩ := R.btr a h; ⟨h1, h2, λ z => h3 (Gw.drop a z)⟩
 gtr := λ a h => R.gtr a (Gw.drop a h)
 sl := λ i s e => (R.sl i s e).less Gw.drop
theorem zhi (R : Rel K kd F B T ad as σ H) (h : RoS K kd F B (Gw T ad) H v o T) : Rp K kd (Lv F B (Gw [] ad) o.str) H v o.toD :=
 Ro.rp o.str (λ st v d hs r => r.less λ a z => z.elim (λ y => .inl (y.elim (λ x => .inl ⟨hs x.1, x.2⟩) .inr)) λ y => .inr (Gw.drop a y))
  (λ a n z => n (z.elim (λ y => .inl (y.elim (λ x => .inl ⟨rfl, x.2⟩) .inr)) λ y => .inr (Gw.drop a y))) id
  (λ a m z => by
   rcases z with (z | z) | z | ⟨i, z⟩
   · exact (R.gtr a (.inl m)).2 z.2
   · exact (R.btr a z).2.2 (.inl m)
   · cases z
   · exact R.dis i a z m) h
theorem Za.drop (R : Rel K kd F B T ad as σ H) (h : Za K kd F B T ad σ H v r) : Za K kd F B [] ad σ H v r.frz := by
 cases r with
 | ow o => exact .lf (zhi R h)
 | bo i => exact ⟨rfl, h.2⟩
theorem Za.grow (g : Grow (Gw [] ad) H (Gw [] ad1) H1) (h : Za K kd F B [] ad σ H v r) : Za K kd F B [] ad1 σ H1 v r := by
 cases r with
 | ow o => exact RoS.grow g (λ _ m => nomatch m) h
 | bo i => exact h
theorem zmp {vs : List V} {os : List O} {fp : List Addr} (h : WW K kd F B G H vs os fp) : os.all O.isLf = true -> fp = [] :=
 RoL.ind (P := λ _ os fp => os.all O.isLf = true -> fp = []) (λ _ => rfl) (λ h _ ih e => by
  rw [List.all_cons, Bool.and_eq_true] at e
  rw [ih e.2, List.append_nil]
  cases h with
  | lf => rfl
  | ls => cases e.1
  | dc => cases e.1
  | ob => cases e.1
  | tp => cases e.1) h
theorem zeS {st : Bool} {b : Bool} (hs : b = true -> st = true) : ∀ a, Lv F B G b a -> Lv F B G st a := λ a z => z.elim (λ y => .inl (y.elim (λ x => .inl ⟨hs x.1, x.2⟩) .inr)) .inr
theorem zfd (h : WW K kd F B G H vs os fp) (e : os.all O.isLf = true) : RpL K kd (Lv F B G (O.strs os)) H vs (O.toDs os) := by
 have := zmp h e
 subst this
 exact RoL.rp (O.strs os) (λ st v d hs r => r.less (zeS hs)) (λ a n z => n (zeS (λ _ => rfl) a z)) id (by intro a m; cases m) h
theorem zcp (h : WW K kd F B G H vs os fp) : RpL K kd (λ _ => False) H vs (O.toDs os) := RoL.rp false (λ st v d _ r => r.less λ _ z => z.elim) (λ _ _ z => z) (λ z => Bool.noConfusion z) (λ _ _ z => z) h
theorem zhm (h : RoS K kd F B G H v o fp) : Rp K kd (λ _ => False) H v o.toD := Ro.rp false (λ st v d _ r => r.less λ _ z => z.elim) (λ _ _ z => z) (λ z => Bool.noConfusion z) (λ _ _ z => z) h
theorem zhH (h : RoS K kd F B G H v o []) : Rp K kd (Lv F B G o.str) H v o.toD :=
 Ro.rp o.str (λ st v d hs r => r.less (zeS hs)) (λ a n z => n (zeS (λ _ => rfl) a z)) id (by intro a m; cases m) h
theorem RoS.vw (h : RoS K kd F B G H v o fp) : Vw K kd (Obl F B G o.kl) H v o.toD := by
 cases h with
 | lf h => exact h.vw
 | ls hH r =>
  rename_i a vs' os' fp'
  show Vw K kd (Obl F B G (if os'.all O.isLf = true then some (O.strs os') else none)) H _ (.lst (O.toDs os'))
  by_cases e : os'.all O.isLf = true
  · rw [if_pos e]; exact .lst (.inl (.inl hH)) (zfd r e)
  · rw [if_neg e]; exact .lst (.inl (.inl hH)) (zcp r)
 | dc hH l r =>
  rename_i a ks vs' os' fp'
  show Vw K kd (Obl F B G (if os'.all O.isLf = true then some (O.strs os') else none)) H _ (.dct (ks.zip (O.toDs os')))
  by_cases e : os'.all O.isLf = true
  · rw [if_pos e]; exact .dct (.inl (.inl hH)) (zef (zfd r e) l)
  · rw [if_neg e]; exact .dct (.inl (.inl hH)) (zef (zcp r) l)
 | ob hc hH l r =>
  rename_i a dx C c ns vs' os' fp'
  have ec : C = kd.c c := hc.cl_eq
  subst ec
  show Vw K kd (Obl F B G (if os'.all O.isLf = true then some (O.strs os') else none)) H _ (.ob c ns (O.toDs os'))
  by_cases e : os'.all O.isLf = true
  · rw [if_pos e]; exact .ob hH l (zfd r e)
  · rw [if_neg e]; exact .ob hH l (zcp r)
 | tp n hH r =>
  rename_i a vs' os'
  show Vw K kd (Obl F B G (if os'.all O.isLf = true then some (O.strs os') else none)) H _ (.tup (O.toDs os'))
  by_cases e : os'.all O.isLf = true
  · rw [if_pos e]
    have rl := zfd r e
    exact .tup (.tup (λ z => n (zeS (λ _ => rfl) _ z)) (.inl hH) rl) (.inl (.inl hH)) rl
  · rw [if_neg e]; exact .tup (.tup (λ z => z) (.inl hH) (zcp r)) (.inl (.inl hH)) (zcp r)
theorem Za.vw (R : Rel K kd F B [] ad as σ H) (h : Za K kd F B [] ad σ H v r) {d : D} {lv : Option Bool} (e : r.view as = some (d, lv)) : Vw K kd (Obl F B (Gw [] ad) lv) H v d := by
 cases r with
 | ow o =>
  cases e
  exact (zhH h).vw
 | bo i =>
  have e : (match as[i]? with | some (some o) => some (o.toD, o.kl) | _ => none) = some (d, lv) := e
  cases k : as[i]? with
  | none => rw [k] at e; cases e
  | some s =>
   cases s with
   | none => rw [k] at e; cases e
   | some o =>
    rw [k] at e
    cases e
    obtain ⟨w, hw, ro⟩ := R.sl i _ k
    rw [h.2] at hw
    cases hw
    exact ro.vw
theorem Rel.add {N : List Addr} (R : Rel K kd F B T ad as σ H) (hn : N.Nodup) (hl : ∀ a ∈ N, H a = none) (k : ∀ b u, H b = some u -> H' b = some u) (h1 : ∀ a ∈ N, H' a ≠ none) : Rel K kd F B (N ++ T) ad as σ H' /\ Grow (Gw T ad) H (Gw (N ++ T) ad) H' := by
 have g : Grow (Gw T ad) H (Gw (N ++ T) ad) H' := ⟨λ b u h _ => k b u h, λ b h => by
  rcases h with h | h
  · rcases zzK.mp h with h | h
    · exact .inr (hl b h)
    · exact .inl (.inl h)
  · exact .inl (.inr h)⟩
 have kn : ∀ a, H a ≠ none -> H' a ≠ none := λ a z => by
  cases e : H a with
  | none => exact absurd e z
  | some u => rw [k a u e]; simp
 refine ⟨⟨R.len, R.out, R.nd, R.inj, ?_, λ i a m z => ?_, λ a z => kn a (R.ftr a z), λ a z => ?_, λ a z => ?_, λ i s e => (R.sl i s e).grow g λ a _ u h => k a u h⟩, g⟩
 · refine List.nodup_append.mpr ⟨hn, R.tnd, λ a m b m' e => ?_⟩
   subst e
   exact (R.gtr a (.inl m')).1 (hl a m)
 · rcases zzK.mp z with z | z
   · exact (R.gtr a (.inr ⟨i, m⟩)).1 (hl a z)
   · exact R.dis i a m z
 · obtain ⟨b1, b2, b3⟩ := R.btr a z
   refine ⟨kn a b1, b2, λ y => ?_⟩
   rcases y with y | y
   · rcases zzK.mp y with y | y
     · exact b1 (hl a y)
     · exact b3 (.inl y)
   · exact b3 (.inr y)
 · rcases z with z | z
   · rcases zzK.mp z with z | z
     · exact ⟨h1 a z, λ f => R.ftr a f (hl a z)⟩
     · exact ⟨kn a (R.gtr a (.inl z)).1, (R.gtr a (.inl z)).2⟩
   · exact ⟨kn a (R.gtr a (.inr z)).1, (R.gtr a (.inr z)).2⟩
theorem Rel.more (R : Rel K kd F B T ad as σ H) (k : ∀ b u, H b = some u -> H' b = some u) : Rel K kd F B T ad as σ H' /\ Grow (Gw T ad) H (Gw T ad) H' :=
 R.add (N := []) List.nodup_nil (λ _ m => nomatch m) k (λ _ m => nomatch m)
theorem Rel.news (R : Rel K kd F B [] ad as σ H) (hn : T'.Nodup) (hl : ∀ a ∈ T', H a = none) (k : ∀ b u, H b = some u -> H' b = some u) (h1 : ∀ a ∈ T', H' a ≠ none) : Rel K kd F B T' ad as σ H' /\ Grow (Gw [] ad) H (Gw T' ad) H' := by
 have := R.add hn hl k h1
 rw [List.append_nil] at this
 exact this
end
inductive R0 where
 | im (d : D) | fl (ds : List D) | fd (kvs : List (Key × D))
def RQ (K : zD) (kd : KD) (O : Addr -> Prop) (H : Hp) (Q : VK) : R0 -> Prop
 | .im d => ∀ v H', (∀ b o, H b = some o -> H' b = some o) -> Rp K kd O H' v d -> Q v H'
 | .fl ds => ∀ l vs H', H l = none -> (∀ b o, H b = some o -> H' b = some o) -> H' l = some (.lst vs) -> RpL K kd (Un2 O (· = l)) H' vs ds -> Q (.ref l) H'
 | .fd ds => ∀ l vs H', H l = none -> (∀ b o, H b = some o -> H' b = some o) -> H' l = some (.dK vs) -> RpM K kd (Un2 O (· = l)) H' vs ds -> Q (.ref l) H'
def wrap (lv : Option Bool) : R0 -> Option RV
 | .im d => if (yF d || lv.isSome) = true then some (.ow (lfs (lv.getD false) d)) else none
 | .fl ds => if (ds.all yF || lv.isSome) = true then some (.ow (.nd .ls (ds.map (lfs (lv.getD false))))) else none
 | .fd kvs => if ((kvs.map (·.2)).all yF || lv.isSome) = true then some (.ow (.nd (.dc (kvs.map (·.1))) ((kvs.map (·.2)).map (lfs (lv.getD false))))) else none
theorem bS_ {α β : Type} {o : Option α} {f : α -> Option β} {b : β} (h : o.bind f = some b) : ∃ a, o = some a /\ f a = some b := by
 cases o with
 | none => cases h
 | some a => exact ⟨a, rfl, h⟩
theorem ite_some' {α : Type} {c : Prop} [Decidable c] {a : Option α} {b : α} (h : (if c then a else none) = some b) : c /\ a = some b := by
 by_cases hc : c
 · rw [if_pos hc] at h; exact ⟨hc, h⟩
 · rw [if_neg hc] at h; cases h
theorem yD {α : Type} {c : Prop} [Decidable c] {a b : α} (h : (if c then some a else none) = some b) : c /\ a = b := by
 by_cases hc : c
 · rw [if_pos hc] at h; cases h; exact ⟨hc, rfl⟩
 · rw [if_neg hc] at h; cases h
section
variable {K : zD} {kd : KD} {F B : Addr -> Prop} {G : Addr -> Prop} {ad : Ad} {as : AS} {σ : St} {H H' : Hp} {v : V} {r : R0} {rv : RV} {Q : VK} {lv : Option Bool}
theorem zpG {Ob : Addr -> Prop} {d : D} (h : yF d = true \/ lv.isSome = true) (hO : ∀ st, lv = some st -> ∀ a, Lv F B G st a -> Ob a) (rp : Rp K kd Ob H v d) : Lf K kd F B G H (yF d || lv.getD false) v d := by
 cases e : yF d with
 | true => exact rp.flat e
 | false =>
  rw [e] at h
  cases lv with
  | none => rcases h with h | h <;> cases h
  | some st => exact rp.less (hO st rfl)
theorem zmd {Ob : Addr -> Prop} {N : Addr -> Prop} (hO : ∀ st, lv = some st -> ∀ a, Lv F B G st a -> Ob a) {vs : List V} {ds : List D} (e : (ds.all yF || lv.isSome) = true) (h : RpL K kd Ob H vs ds) : RoL (Lf K kd F B G H) N H vs (ds.map (lfs (lv.getD false))) [] :=
 RpL.ind (P := λ vs ds => (ds.all yF || lv.isSome) = true -> RoL (Lf K kd F B G H) N H vs (ds.map (lfs (lv.getD false))) []) (λ _ => .nil) (λ {v d vs ds} h _ ih e => by
  rw [List.all_cons] at e
  have e1 : yF d = true \/ lv.isSome = true := by
   cases h1 : lv.isSome <;> cases h2 : yF d <;> simp [h1, h2] at e ⊢
  have e2 : (ds.all yF || lv.isSome) = true := by
   cases h1 : lv.isSome with
   | true => simp
   | false =>
    rw [h1, Bool.or_false, Bool.and_eq_true] at e
    rw [Bool.or_false]; exact e.2
  exact RoL.cons (.lf (zpG e1 hO h)) (ih e2)) h e
theorem zlC {O : Addr -> Prop} {vs : List (Key × V)} {ds : List (Key × D)} (h : RpM K kd O H vs ds) : vs = (ds.map (·.1)).zip (vs.map (·.2)) /\ RpL K kd O H (vs.map (·.2)) (ds.map (·.2)) :=
 RpM.ind (P := λ vs ds => vs = (ds.map (·.1)).zip (vs.map (·.2)) /\ RpL K kd O H (vs.map (·.2)) (ds.map (·.2))) ⟨rfl, .nil⟩ (λ h _ ih => by
  obtain ⟨h1, h2⟩ := ih
  refine ⟨?_, .cons h h2⟩
  conv => lhs; rw [h1]
  rfl) h
theorem Xg (R : Rel K kd F B [] ad as σ H) (e : wrap lv r = some rv) (q : ∀ v T' H', Rel K kd F B T' ad as σ H' -> Za K kd F B T' ad σ H' v rv -> Grow (Gw [] ad) H (Gw T' ad) H' -> Q v H') : RQ K kd (Obl F B (Gw [] ad) lv) H Q r := by
 have hO : ∀ (l : List Addr) st, lv = some st -> ∀ a, Lv F B (Gw l ad) st a -> Un2 (Obl F B (Gw [] ad) lv) (· ∈ l) a := by
  intro l st e a z
  subst e
  rcases z with z | z | z
  · exact .inl (.inl z)
  · exact .inr z
  · exact .inl (.inr (.inr z))
 cases r with
 | im d =>
  obtain ⟨c, rfl⟩ := yD e
  intro v H' k rp
  obtain ⟨R', g⟩ := R.more k
  refine q v [] H' R' (.lf (zpG ((Bool.or_eq_true _ _).mp c) (λ st e a z => ?_) rp)) g
  exact (hO [] st e a z).elim id λ m => nomatch m
 | fl ds =>
  obtain ⟨c, rfl⟩ := yD e
  intro l vs H' hl k hl' rp
  obtain ⟨R', g⟩ := R.news (T' := [l]) (by simp) (λ a m => by rw [zzP.mp m]; exact hl) k (λ a m => by rw [zzP.mp m, hl']; simp)
  exact q _ [l] H' R' (.ls hl' (zmd (λ st e a z => (hO [l] st e a z).elim .inl λ m => .inr (zzP.mp m)) c rp)) g
 | fd ds =>
  obtain ⟨c, rfl⟩ := yD e
  intro l vs H' hl k hl' rp
  obtain ⟨R', g⟩ := R.news (T' := [l]) (by simp) (λ a m => by rw [zzP.mp m]; exact hl) k (λ a m => by rw [zzP.mp m, hl']; simp)
  obtain ⟨e1, r1⟩ := zlC rp
  refine q _ [l] H' R' (.dc (vs := vs.map (·.2)) (by rw [hl', <- e1]) (by rw [zI, zI, rp.length]) (zmd (λ st e a z => (hO [l] st e a z).elim .inl λ m => .inr (zzP.mp m)) c r1)) g
end
abbrev EF := AS -> Option (RV × AS)
def al (K : zD) (kd : KD) (f : EF) : TE := λ σ H Q => ∃ F B ad as r as', Rel K kd F B [] ad as σ H /\ f as = some (r, as') /\
 ∀ v T' ad' H', Rel K kd F B T' ad' as' σ H' -> Za K kd F B T' ad' σ H' v r -> Grow (Gw [] ad) H (Gw T' ad') H' -> Q v H'
@[irreducible] def AE (X : Cx) (kd : KD) (e : Expr) (f : EF) : Prop := PE X e (al X.K kd f)
theorem wU {X : Cx} {e : Expr} {t t' : TE} (h : PE X e t) (k : ∀ σ H Q, t' σ H Q -> t σ H Q) : PE X e t' := λ pins s σ H Q I q => h pins s σ H Q I (k σ H Q q)
section
variable {K : zD} {kd : KD} {F B : Addr -> Prop} {ad : Ad} {as as1 : AS} {σ : St} {H : Hp} {r : RV} {f : EF} {P : VK}
theorem Y9 (R : Rel K kd F B [] ad as σ H) (e : f as = some (r, as1)) (k : ∀ v ad1 H1, Rel K kd F B [] ad1 as1 σ H1 -> Za K kd F B [] ad1 σ H1 v r.frz -> Grow (Gw [] ad) H (Gw [] ad1) H1 -> P v H1) : al K kd f σ H P :=
 ⟨F, B, ad, as, r, as1, R, e, λ v T' ad' H' R' rv g => k v ad' H' R'.drop (Za.drop R' rv) (g.trans (Grow.less Gw.drop))⟩
end
def OpD (X : Cx) (kd : KD) (f : Value -> Value -> Sem Value) (g : D -> D -> Option R0) : Prop :=
 OpR X f (λ x y H Q => ∃ O d e r, (∀ a, O a -> H a ≠ none) /\ Vw X.K kd O H x d /\ Vw X.K kd O H y e /\ g d e = some r /\ RQ X.K kd O H Q r)
def UnD (X : Cx) (kd : KD) (f : Value -> Sem Value) (g : D -> Option R0) : Prop :=
 UnR X f (λ x H Q => ∃ O d r, (∀ a, O a -> H a ≠ none) /\ Vw X.K kd O H x d /\ g d = some r /\ RQ X.K kd O H Q r)
inductive VwL (K : zD) (kd : KD) (O : Addr -> Prop) (H : Hp) : List V -> List D -> Prop
 | nil : VwL K kd O H [] []
 | cons {v : V} {d : D} {vs : List V} {ds : List D} : Vw K kd O H v d -> VwL K kd O H vs ds -> VwL K kd O H (v :: vs) (d :: ds)
def CallD (X : Cx) (kd : KD) (f : Value) (g : List D -> Option R0) : Prop :=
 V3 X f (λ xs H Q => ∃ O ds r, (∀ a, O a -> H a ≠ none) /\ VwL X.K kd O H xs ds /\ g ds = some r /\ RQ X.K kd O H Q r)
def IxD (X : Cx) (kd : KD) (g : D -> D -> Option R0) : Prop :=
 IxR X (λ x y H Q => ∃ O d e r, (∀ a, O a -> H a ≠ none) /\ Vw X.K kd O H x d /\ Vw X.K kd O H y e /\ g d e = some r /\ RQ X.K kd O H Q r)
def meet : Option Bool -> Option Bool -> Option Bool
 | some a, some b => some (a && b)
 | _, _ => none
theorem Obl.meet1 {F B G : Addr -> Prop} {a b : Option Bool} : ∀ x, Obl F B G (meet a b) x -> Obl F B G a x := λ x h => by
 cases a with
 | none => cases b <;> exact h.elim
 | some p =>
  cases b with
  | none => exact h.elim
  | some q => exact zeS (λ z => ((Bool.and_eq_true _ _).mp z).1) x h
theorem Obl.meet2 {F B G : Addr -> Prop} {a b : Option Bool} : ∀ x, Obl F B G (meet a b) x -> Obl F B G b x := λ x h => by
 cases a with
 | none => cases b <;> exact h.elim
 | some p =>
  cases b with
  | none => exact h.elim
  | some q => exact zeS (λ z => ((Bool.and_eq_true _ _).mp z).2) x h
theorem Vw.less {K : zD} {kd : KD} {O O' : Addr -> Prop} {H : Hp} {v : V} {d : D} (g : ∀ a, O' a -> O a) (h : Vw K kd O H v d) : Vw K kd O' H v d := by
 cases h with
 | non => exact .non
 | bl b => exact .bl b
 | int i => exact .int i
 | str x => exact .str x
 | tup r s l => exact .tup (r.less g) s (l.less g)
 | lst h l => exact .lst h (l.less g)
 | dct h l => exact .dct h (l.less g)
 | cl c => exact .cl c
 | ob h k l => exact .ob h k (l.less g)
def f2 (fa fb : EF) (g : D -> D -> Option R0) : EF := λ as => (fa as).bind λ p => (fb p.2).bind λ q => (p.1.frz.view q.2).bind λ x => (q.1.frz.view q.2).bind λ y => (g x.1 y.1).bind λ r => (wrap (meet x.2 y.2) r).bind λ z => some (z, q.2)
theorem zkv {fa fb : EF} {g : D -> D -> Option R0} {as as' : AS} {rv : RV} (h : f2 fa fb g as = some (rv, as')) :
 ∃ p as1 q x y lx ly r, fa as = some (p, as1) /\ fb as1 = some (q, as') /\ p.frz.view as' = some (x, lx) /\ q.frz.view as' = some (y, ly) /\ g x y = some r /\ wrap (meet lx ly) r = some rv := by
 unfold f2 at h
 obtain ⟨⟨p, as1⟩, h1, h⟩ := bS_ h
 obtain ⟨⟨q, as2⟩, h2, h⟩ := bS_ h
 obtain ⟨⟨x, lx⟩, h3, h⟩ := bS_ h
 obtain ⟨⟨y, ly⟩, h4, h⟩ := bS_ h
 obtain ⟨r, h5, h⟩ := bS_ h
 obtain ⟨z, h6, h⟩ := bS_ h
 cases h
 exact ⟨p, as1, q, x, y, lx, ly, r, h1, h2, h3, h4, h5, h6⟩
section
variable {X : Cx} {kd : KD} {a b c : Expr} {fa fb fc : EF} {pos : Pos}
theorem al2 {g : D -> D -> Option R0} {R2' : R2} (hr : ∀ x y H Q, (∃ O d e r, (∀ a, O a -> H a ≠ none) /\ Vw X.K kd O H x d /\ Vw X.K kd O H y e /\ g d e = some r /\ RQ X.K kd O H Q r) -> R2' x y H Q)
 {σ : St} {H : Hp} {Q : VK} (h : al X.K kd (f2 fa fb g) σ H Q) : tOp R2' (al X.K kd fa) (al X.K kd fb) σ H Q := by
 obtain ⟨F, B, ad, as, r, as', R, e, q⟩ := h
 obtain ⟨p, as1, z, x, y, lx, ly, r0, h1, h2, h3, h4, h5, h6⟩ := zkv e
 refine Y9 R h1 λ v ad1 H1 R1 rv1 g1 => Y9 R1 h2 λ u ad2 H2 R2 rv2 g2 => hr _ _ _ _ ?_
 exact ⟨_, x, y, r0, R2.tr _, (Za.vw R2 (rv1.grow g2) h3).less Obl.meet1, (Za.vw R2 rv2 h4).less Obl.meet2, h5, Xg R2 h6 λ w T' H' R' rv' g' => q w T' ad2 H' R' rv' ((g1.trans g2).trans g')⟩
theorem zr {op : Operator} {g : D -> D -> Option R0} (ho : OpD X kd (binaryOp op) g) (ha : AE X kd a fa) (hb' : AE X kd b fb) : AE X kd (.BinOp a op b pos) (f2 fa fb g) := by with_unfolding_all exact (wU (zsv ho ha hb') λ σ H Q h => al2 (λ _ _ _ _ z => z) h)
theorem zac {op : CmpOp} {g : D -> D -> Option R0} (ho : OpD X kd (compareOp op) g) (ha : AE X kd a fa) (hb' : AE X kd b fb) (hm : behindInMarks op b = false) : AE X kd (.Compare a [op] [b] pos) (f2 fa fb g) := by with_unfolding_all exact (wU (zok ho ha hb' hm) λ σ H Q h => al2 (λ _ _ _ _ z => z) h)
theorem zrU {g : D -> D -> Option R0} (ho : IxD X kd g) (ha : AE X kd a fa) (hb' : AE X kd b fb) (hm : zhc b) : AE X kd (.Subscript a b pos) (f2 fa fb g) := by with_unfolding_all exact (wU (zrO ho ha hb' hm) λ σ H Q h => al2 (λ _ _ _ _ z => z) h)
def fC (d : D) : EF := λ as => some (.ow (.lf true d), as)
def fV (i : Nat) : EF := λ as => match as[i]? with
 | some (some (.lf st d)) => some (.ow (.lf st d), as)
 | some (some (.nd _ _)) => some (.bo i, as)
 | _ => none
theorem zfl {v : V} {d : D} (h : PE X a (tC v)) (hr : ∀ O H, Rp X.K kd O H v d) : AE X kd a (fC d) := by with_unfolding_all exact (wU h λ σ H Q h => by
 obtain ⟨F, B, ad, as, r, as', R, e, q⟩ := h
 cases e
 exact q v [] ad H R (.lf (hr _ _)) Grow.refl)
theorem zpY {i : Nat} (h : PE X a (zlt i)) : AE X kd a (fV i) := by with_unfolding_all exact (wU h λ σ H Q h => by
 obtain ⟨F, B, ad, as, r, as', R, e, q⟩ := h
 unfold fV at e
 cases k : as[i]? with
 | none => rw [k] at e; cases e
 | some s =>
  rw [k] at e
  cases s with
  | none => cases e
  | some o =>
   obtain ⟨v, h1, h2⟩ := R.sl i _ k
   cases o with
   | lf st d =>
    cases e
    have e0 : ad i = [] := by
     generalize hfp : ad i = fp at h2
     cases h2
     rfl
    rw [e0] at h2
    exact ⟨v, h1, q v [] ad H R h2 Grow.refl⟩
   | nd kk os =>
    cases e
    exact ⟨_, h1, q _ [] ad H R ⟨rfl, h1⟩ Grow.refl⟩)
end
def Wh (ad : Ad) (i : Nat) (x : List Addr) : Ad := λ j => if j = i then x else ad j
section
variable {K : zD} {kd : KD} {F B : Addr -> Prop} {T T1 T2 : List Addr} {ad ad1 : Ad} {as as1 : AS} {σ : St} {H H1 : Hp} {v : V} {r : RV} {o : O} {i : Nat}
theorem xx {x : List Addr} : Wh ad i x i = x := if_pos rfl
theorem xN {j : Nat} {x : List Addr} (h : j ≠ i) : Wh ad i x j = ad j := if_neg h
theorem wY : ∀ a, Gw T (Wh ad i []) a -> Gw T ad a := λ a h => by
 rcases h with h | ⟨j, h⟩
 · exact .inl h
 · by_cases e : j = i
   · subst e; rw [xx] at h; cases h
   · rw [xN e] at h; exact .inr ⟨j, h⟩
theorem Ve : ∀ a, Gw [] (Wh ad i T) a -> Gw T ad a := λ a h => by
 rcases h with h | ⟨j, h⟩
 · cases h
 · by_cases e : j = i
   · subst e; rw [xx] at h; exact .inl h
   · rw [xN e] at h; exact .inr ⟨j, h⟩
theorem zkx : ∀ st a, Lv F (λ a => B a \/ a ∈ T) (Gw [] ad) st a -> Lv F B (Gw T ad) st a := λ st a z => by
 rcases z with (z | z | z) | z
 · exact .inl (.inl z)
 · exact .inl (.inr z)
 · exact .inr (.inl z)
 · exact .inr (Gw.drop a z)
theorem zcB : ∀ st a, Lv F B (Gw (T1 ++ T2) ad) st a -> Lv F (λ a => B a \/ a ∈ T1) (Gw T2 ad) st a := λ st a z => by
 rcases z with (z | z) | z | z
 · exact .inl (.inl z)
 · exact .inl (.inr (.inl z))
 · rcases zzK.mp z with z | z
   · exact .inl (.inr (.inr z))
   · exact .inr (.inl z)
 · exact .inr (.inr z)
theorem Rel.hide (R : Rel K kd F B T ad as σ H) : Rel K kd F (λ a => B a \/ a ∈ T) [] ad as σ H where
 len := R.len
 out := R.out
 nd := R.nd
 inj := R.inj
 tnd := List.nodup_nil
 dis := λ _ _ _ z => nomatch z
 ftr := R.ftr
 btr := λ a h => by
  rcases h with h | h
  · obtain ⟨h1, h2, h3⟩ := R.btr a h
    exact ⟨h1, h2, λ z => h3 (Gw.drop a z)⟩
  · exact ⟨(R.gtr a (.inl h)).1, (R.gtr a (.inl h)).2, λ z => z.elim (λ m => nomatch m) λ ⟨j, y⟩ => R.dis j a y h⟩
 gtr := λ a h => R.gtr a (Gw.drop a h)
 sl := λ i s e => (R.sl i s e).lv zkx
theorem Rel.unhide (hn : T1.Nodup) (hb : ∀ a ∈ T1, ¬ B a) (R : Rel K kd F (λ a => B a \/ a ∈ T1) T2 ad as σ H) : Rel K kd F B (T1 ++ T2) ad as σ H where
 len := R.len
 out := R.out
 nd := R.nd
 inj := R.inj
 tnd := List.nodup_append.mpr ⟨hn, R.tnd, λ a m b m' e => by subst e; exact (R.btr a (.inr m)).2.2 (.inl m')⟩
 dis := λ i a m z => by
  rcases zzK.mp z with z | z
  · exact (R.btr a (.inr z)).2.2 (.inr ⟨i, m⟩)
  · exact R.dis i a m z
 ftr := R.ftr
 btr := λ a h => by
  obtain ⟨h1, h2, h3⟩ := R.btr a (.inl h)
  refine ⟨h1, h2, λ z => ?_⟩
  rcases z with z | z
  · rcases zzK.mp z with z | z
    · exact hb a z h
    · exact h3 (.inl z)
  · exact h3 (.inr z)
 gtr := λ a h => by
  rcases h with h | h
  · rcases zzK.mp h with h | h
    · exact ⟨(R.btr a (.inr h)).1, (R.btr a (.inr h)).2.1⟩
    · exact R.gtr a (.inl h)
  · exact R.gtr a (.inr h)
 sl := λ i s e => (R.sl i s e).lv zcB
theorem Rel.frz (R : Rel K kd F B T ad as σ H) (h : as[i]? = some (some o)) :
 Rel K kd F B T (Wh ad i []) (as.set i (some o.frz)) σ H /\ ∃ v, σ[i]? = some (some v) /\ Rp K kd (Lv F B (Gw T (Wh ad i [])) o.str) H v o.toD := by
 obtain ⟨v, hv, ro⟩ := R.sl i _ h
 have rp : Rp K kd (Lv F B (Gw T (Wh ad i [])) o.str) H v o.toD :=
  Ro.rp o.str (λ st v d hs r => r.less λ a z => z.elim (λ y => .inl (y.elim (λ x => .inl ⟨hs x.1, x.2⟩) .inr)) λ y => .inr (wY a y))
   (λ a n z => n (z.elim (λ y => .inl (y.elim (λ x => .inl ⟨rfl, x.2⟩) .inr)) λ y => .inr (wY a y))) id
   (λ a m z => by
    rcases z with (z | z) | z | ⟨j, z⟩
    · exact (R.gtr a (.inr ⟨i, m⟩)).2 z.2
    · exact (R.btr a z).2.2 (.inr ⟨i, m⟩)
    · exact R.dis i a m z
    · by_cases e : j = i
      · subst e; rw [xx] at z; cases z
      · rw [xN e] at z; exact e (R.inj j i a z m)) ro
 have hi : i < as.length := (zzE.mp h).1
 refine ⟨⟨by rw [zzS]; exact R.len, λ j hj => ?_, λ j => ?_, λ j k a h1 h2 => ?_, R.tnd, λ j a h1 => ?_, R.ftr, λ a h1 => ?_, λ a h1 => R.gtr a (wY a h1), λ j s e => ?_⟩, v, hv, rp⟩
 · rw [zzS] at hj
   rw [xN (by omega)]; exact R.out j hj
 · by_cases e : j = i
   · subst e; rw [xx]; exact List.nodup_nil
   · rw [xN e]; exact R.nd j
 · by_cases e : j = i
   · subst e; rw [xx] at h1; cases h1
   · by_cases e' : k = i
     · subst e'; rw [xx] at h2; cases h2
     · rw [xN e] at h1; rw [xN e'] at h2; exact R.inj j k a h1 h2
 · by_cases e : j = i
   · subst e; rw [xx] at h1; cases h1
   · rw [xN e] at h1; exact R.dis j a h1
 · obtain ⟨b1, b2, b3⟩ := R.btr a h1
   exact ⟨b1, b2, λ z => b3 (wY a z)⟩
 · by_cases q : j = i
   · subst q
     rw [List.getElem?_set_self hi] at e
     cases e
     rw [xx]
     exact ⟨v, hv, .lf rp⟩
   · rw [zzW (Ne.symm q)] at e
     rw [xN q]
     exact (R.sl j s e).less wY
theorem Rel.put (R : Rel K kd F B T ad as σ H) (hi : i < as.length) (h : RoS K kd F B (Gw T ad) H v o T) : Rel K kd F B [] (Wh ad i T) (as.set i (some o)) (σ.set i (some v)) H := by
 have hi' : i < σ.length := by rw [<- R.len]; exact hi
 refine ⟨by rw [zzS, zzS]; exact R.len, λ j hj => ?_, λ j => ?_, λ j k a h1 h2 => ?_, List.nodup_nil, (λ _ _ _ z => nomatch z), R.ftr, λ a h1 => ?_, λ a h1 => R.gtr a (Ve a h1), λ j s e => ?_⟩
 · rw [zzS] at hj
   rw [xN (by omega)]; exact R.out j hj
 · by_cases e : j = i
   · subst e; rw [xx]; exact R.tnd
   · rw [xN e]; exact R.nd j
 · by_cases e : j = i
   · subst e
     rw [xx] at h1
     by_cases e' : k = j
     · exact e'.symm
     · rw [xN e'] at h2
       exact (R.dis k a h2 h1).elim
   · rw [xN e] at h1
     by_cases e' : k = i
     · subst e'
       rw [xx] at h2
       exact (R.dis j a h1 h2).elim
     · rw [xN e'] at h2
       exact R.inj j k a h1 h2
 · obtain ⟨b1, b2, b3⟩ := R.btr a h1
   exact ⟨b1, b2, λ z => b3 (Ve a z)⟩
 · by_cases q : j = i
   · subst q
     rw [List.getElem?_set_self hi] at e
     cases e
     rw [xx, List.getElem?_set_self hi']
     exact ⟨v, rfl, h.less Ve⟩
   · rw [zzW (Ne.symm q)] at e
     rw [xN q, zzW (Ne.symm q)]
     exact (R.sl j s e).less Ve
def toO (as : AS) : RV -> Option (O × AS)
 | .ow o => some (o, as)
 | .bo i => match as[i]? with
  | some (some o) => some (o.frz, as.set i (some o.frz))
  | _ => none
theorem zex {as' : AS} (R : Rel K kd F B T ad as σ H) (h : Za K kd F B T ad σ H v r) (e : toO as r = some (o, as')) : ∃ ad', Rel K kd F B T ad' as' σ H /\ RoS K kd F B (Gw T ad') H v o T /\ ∀ a, Gw T ad' a -> Gw T ad a := by
 cases r with
 | ow o' => cases e; exact ⟨ad, R, h, λ _ z => z⟩
 | bo i =>
  have e : (match as[i]? with | some (some o) => some (o.frz, as.set i (some o.frz)) | _ => none) = some (o, as') := e
  cases k : as[i]? with
  | none => rw [k] at e; cases e
  | some s =>
   cases s with
   | none => rw [k] at e; cases e
   | some o1 =>
    rw [k] at e
    cases e
    obtain ⟨hT, hs⟩ := h
    subst hT
    obtain ⟨R', w, hw, rp⟩ := R.frz k
    rw [hs] at hw
    cases hw
    exact ⟨_, R', .lf rp, wY⟩
end
abbrev TF := AS -> Option (Bool × AS)
def alT (K : zD) (kd : KD) (f : TF) : TT := λ σ H Q => ∃ F B ad as b as', Rel K kd F B [] ad as σ H /\ f as = some (b, as') /\
 ∀ ad' H', Rel K kd F B [] ad' as' σ H' -> Grow (Gw [] ad) H (Gw [] ad') H' -> Q b H'
@[irreducible] def AT (X : Cx) (kd : KD) (e : Expr) (f : TF) : Prop := PT X e (alT X.K kd f)
@[irreducible] def AW (X : Cx) (kd : KD) (e : Expr) (f : TF) : Prop := PW X e (alT X.K kd f)
def truth : D -> Option Bool
 | .non => some false
 | .bl b => some b
 | .int i => some (i != 0)
 | .str x => if x.length <= sizeLine then some ((x.length : Int) != 0) else none
 | .tup ds => some (!ds.isEmpty)
 | .lst ds => some (!ds.isEmpty)
 | _ => none
def fT (f : EF) : TF := λ as => (f as).bind λ p => (p.1.frz.view p.2).bind λ x => (truth x.1).bind λ b => some (b, p.2)
def zgn (f g : TF) : TF := λ as => (f as).bind λ p => if p.1 = true then g p.2 else some (false, p.2)
def Xi (f g : TF) : TF := λ as => (f as).bind λ p => if p.1 = true then some (true, p.2) else g p.2
def wQ (f : TF) : TF := λ as => (f as).bind λ p => some (!p.1, p.2)
def asI : D -> Option Int
 | .int i => some i
 | _ => none
def asS : D -> Option Str
 | .str i => some i
 | _ => none
def asL : D -> Option (List D)
 | .lst i => some i
 | _ => none
def asT : D -> Option (List D)
 | .tup i => some i
 | _ => none
theorem zcF {d : D} {i : List D} (e : asL d = some i) : d = .lst i := by
 cases d with
 | lst j => cases e; rfl
 | _ => cases e
theorem zrl {d : D} {i : List D} (e : asT d = some i) : d = .tup i := by
 cases d with
 | tup j => cases e; rfl
 | _ => cases e
theorem znQ {d : D} {c : Int} (h : asI d = some c) : d = .int c := by
 cases d with
 | int i => cases h; rfl
 | _ => cases h
def asB : D -> Option Bool
 | .bl i => some i
 | _ => none
theorem zqe {d : D} {c : Bool} (h : asB d = some c) : d = .bl c := by
 cases d with
 | bl i => cases h; rfl
 | _ => cases h
def rvD : RV -> Option D
 | .ow (.lf _ d) => some d
 | _ => none
theorem zny {r : RV} {d : D} (h : rvD r = some d) : ∃ st, r = .ow (.lf st d) := by
 cases r with
 | bo i => cases h
 | ow o =>
  cases o with
  | nd k os => cases h
  | lf st d => cases h; exact ⟨st, rfl⟩
def rvB (r : RV) : Option Bool := (rvD r).bind asB
theorem zmy {r : RV} {c : Bool} (h : rvB r = some c) : ∃ st, r = .ow (.lf st (.bl c)) := by
 obtain ⟨d, h1, h⟩ := bS_ h
 cases zqe h
 exact zny h1
def rvI (r : RV) : Option Int := (rvD r).bind asI
theorem zqO {r : RV} {c : Int} (h : rvI r = some c) : ∃ st, r = .ow (.lf st (.int c)) := by
 obtain ⟨d, h1, h⟩ := bS_ h
 cases znQ h
 exact zny h1
def zqL {α : Type} : List α -> Option (α × α)
 | [a, b] => some (a, b)
 | _ => none
theorem zkT {α : Type} {os : List α} {p : α × α} (h : zqL os = some p) : os = [p.1, p.2] := by
 cases os with
 | nil => cases h
 | cons x r =>
  cases r with
  | nil => cases h
  | cons y r =>
   cases r with
   | nil => cases h; rfl
   | cons _ _ => cases h
def rvL (r : RV) : Option (Bool × List D) := match r with
 | .ow (.lf s d) => (asL d).bind λ l => some (s, l)
 | _ => none
theorem znb {r : RV} {p : Bool × List D} (h : rvL r = some p) : r = .ow (.lf p.1 (.lst p.2)) := by
 cases r with
 | bo i => cases h
 | ow o =>
  cases o with
  | nd k os => cases h
  | lf st d =>
   obtain ⟨l, h1, h⟩ := bS_ (show (asL d).bind _ = _ from h)
   cases h
   cases zcF h1
   rfl
def zeB (f g : EF) : EF := λ as => (f as).bind λ p => (rvB p.1).bind λ c => if c = true then g p.2 else some (.ow (.lf true (.bl false)), p.2)
def zoa (f : EF) : EF := λ as => (f as).bind λ p => (rvB p.1).bind λ c => some (.ow (.lf true (.bl (!c))), p.2)
def f1 (fa : EF) (g : D -> Option R0) : EF := λ as => (fa as).bind λ p => (p.1.frz.view p.2).bind λ x => (g x.1).bind λ r => (wrap x.2 r).bind λ z => some (z, p.2)
section
variable {X : Cx} {kd : KD} {a b c : Expr} {fa fb : EF} {ta tb : TF} {pos : Pos} {es rest : List Expr}
theorem zjr {e : Expr} {t t' : TT} (h : PT X e t) (k : ∀ σ H Q, t' σ H Q -> t σ H Q) : PT X e t' := λ pins s σ H Q I q => h pins s σ H Q I (k σ H Q q)
theorem zmJ {e : Expr} {t t' : TT} (h : PW X e t) (k : ∀ σ H Q, t' σ H Q -> t σ H Q) : PW X e t' := λ w pins s σ H Q I q => h w pins s σ H Q I (k σ H Q q)
theorem zqz {O : Addr -> Prop} {H : Hp} {v : V} {d : D} {k : Bool} (h : Vw X.K kd O H v d) (e : truth d = some k) : zrw X.K v H k := by
 cases h with
 | non => cases e; rfl
 | bl b => cases e; rfl
 | int i => cases e; rfl
 | str x =>
  have e : (if x.length <= sizeLine then some ((x.length : Int) != 0) else none) = some k := e
  by_cases hl : x.length <= sizeLine
  · rw [if_pos hl] at e; cases e; exact ⟨hl, rfl⟩
  · rw [if_neg hl] at e; cases e
 | tup r hs hr =>
  cases e
  refine .inr (.inl ⟨_, hs, ?_⟩)
  cases hr <;> rfl
 | lst hs hr =>
  cases e
  refine .inl ⟨_, hs.sq, ?_⟩
  cases hr <;> rfl
 | dct => cases e
 | cl => cases e
 | ob => cases e
theorem Zo (ha : AE X kd a fa) (he : ∀ whole, isTrue a X.env whole = (do let v <- whole; standAt a.pos; holding [v] (truthy v))) : AT X kd a (fT fa) := by with_unfolding_all exact (zjr (znK ha he) λ σ H Q h => by
 obtain ⟨F, B, ad, as, bb, as', R, e, q⟩ := h
 obtain ⟨⟨p, as1⟩, h1, e⟩ := bS_ (show (fa as).bind _ = _ from e)
 obtain ⟨⟨d, lv⟩, h2, e⟩ := bS_ e
 obtain ⟨k, h3, e⟩ := bS_ e
 cases e
 exact Y9 R h1 λ v ad1 H1 R1 rv1 g1 => ⟨_, zqz (Za.vw R1 rv1 h2) h3, q ad1 H1 R1 g1⟩)
theorem xZ {op : CmpOp} {g : D -> D -> Option R0} (ho : OpD X kd (compareOp op) g) (hg : ∀ x y r, g x y = some r -> ∃ k, r = .im (.bl k)) (ha : AE X kd a fa) (hb : AE X kd b fb) (hm : behindInMarks op b = false) :
 AT X kd (.Compare a [op] [b] pos) (fT (f2 fa fb g)) := by with_unfolding_all exact (zjr (znZ ho ha hb hm) λ σ H Q h => by
 obtain ⟨F, B, ad, as, bb, as', R, e, q⟩ := h
 obtain ⟨⟨p, as1⟩, h1, e⟩ := bS_ (show (f2 fa fb g as).bind _ = _ from e)
 obtain ⟨⟨d, lv⟩, h2, e⟩ := bS_ e
 obtain ⟨k, h3, e⟩ := bS_ e
 cases e
 obtain ⟨_, _, _, x, y, _, _, r0, _, _, _, _, hp, hw⟩ := zkv h1
 obtain ⟨k', rfl⟩ := hg _ _ _ hp
 cases hw
 cases h2
 cases h3
 refine al2 (λ _ _ _ _ z => z) ⟨F, B, ad, as, _, _, R, h1, λ v T' ad' H' R' rv g' => ?_⟩
 generalize hT : T' = T2 at rv R' g'
 cases rv with
 | lf rp =>
  cases rp
  exact ⟨_, rfl, q ad' H' R' g'⟩)
theorem Zt (ha : AT X kd a ta) : AT X kd (.UnaryOp .Not a pos) (wQ ta) := by with_unfolding_all exact (zjr (zqZ ha) λ σ H Q h => by
 obtain ⟨F, B, ad, as, bb, as', R, e, q⟩ := h
 obtain ⟨⟨p, as1⟩, h1, e⟩ := bS_ (show (ta as).bind _ = _ from e)
 cases e
 exact ⟨F, B, ad, as, p, _, R, h1, λ ad' H' R' g => q ad' H' R' g⟩)
theorem zfg (ha : AT X kd a ta) : AW X kd (.BoolOp .And [a] pos) ta := by with_unfolding_all exact (zoL ha)
theorem Zj (ha : AT X kd a ta) : AW X kd (.BoolOp .Or [a] pos) ta := by with_unfolding_all exact (zqK ha)
theorem zmz (ha : AT X kd a ta) (hb : AW X kd (.BoolOp .And (b :: rest) pos) tb) : AW X kd (.BoolOp .And (a :: b :: rest) pos) (zgn ta tb) := by with_unfolding_all exact (zmJ (zqq ha hb) λ σ H Q h => by
 obtain ⟨F, B, ad, as, bb, as', R, e, q⟩ := h
 obtain ⟨⟨p, as1⟩, h1, e⟩ := bS_ (show (ta as).bind _ = _ from e)
 refine ⟨F, B, ad, as, p, as1, R, h1, λ ad' H' R' g => ?_⟩
 cases p with
 | true => exact ⟨F, B, ad', as1, bb, as', R', e, λ ad2 H2 R2 g2 => q ad2 H2 R2 (g.trans g2)⟩
 | false => cases e; exact q ad' H' R' g)
theorem V0 (ha : AT X kd a ta) (hb : AW X kd (.BoolOp .Or (b :: rest) pos) tb) : AW X kd (.BoolOp .Or (a :: b :: rest) pos) (Xi ta tb) := by with_unfolding_all exact (zmJ (zsf ha hb) λ σ H Q h => by
 obtain ⟨F, B, ad, as, bb, as', R, e, q⟩ := h
 obtain ⟨⟨p, as1⟩, h1, e⟩ := bS_ (show (ta as).bind _ = _ from e)
 refine ⟨F, B, ad, as, p, as1, R, h1, λ ad' H' R' g => ?_⟩
 cases p with
 | false => exact ⟨F, B, ad', as1, bb, as', R', e, λ ad2 H2 R2 g2 => q ad2 H2 R2 (g.trans g2)⟩
 | true => cases e; exact q ad' H' R' g)
theorem AW.at_ {e : Expr} (h : AW X kd e ta) : AT X kd e ta := by with_unfolding_all exact (PW.pt h)
theorem zpD {K : zD} {F B : Addr -> Prop} {T : List Addr} {ad : Ad} {σ : St} {H : Hp} {v : V} {st c : Bool} (h : Za K kd F B T ad σ H v (.ow (.lf st (.bl c)))) : T = [] /\ v = .bl c := by
 have h : RoS K kd F B (Gw T ad) H v (.lf st (.bl c)) T := h
 generalize hT : Gw T ad = G at h
 cases h with
 | lf rp => cases rp; exact ⟨rfl, rfl⟩
theorem zbo {op} (ha : AE X kd a fa) : AE X kd (.BoolOp op [a] pos) fa := by with_unfolding_all exact (zrC ha)
theorem zaw (ha : AE X kd a fa) (hb : AE X kd (.BoolOp .And (b :: rest) pos) fb) : AE X kd (.BoolOp .And (a :: b :: rest) pos) (zeB fa fb) := by with_unfolding_all exact (wU (zqv ha hb) λ σ H Q h => by
 obtain ⟨F, B, ad, as, r, as', R, e, q⟩ := h
 obtain ⟨⟨p, as1⟩, h1, e⟩ := bS_ (show (fa as).bind _ = _ from e)
 refine ⟨F, B, ad, as, p, as1, R, h1, λ v T' ad' H' R' rv g => ?_⟩
 obtain ⟨k, e1, e⟩ := bS_ e
 obtain ⟨st, rfl⟩ := zmy e1
 obtain ⟨rfl, rfl⟩ := zpD rv
 cases k with
 | true => exact ⟨true, rfl, ⟨F, B, ad', as1, r, as', R', e, λ v T2 ad2 H2 R2 rv g2 => q v T2 ad2 H2 R2 rv (g.trans g2)⟩⟩
 | false =>
  cases e
  exact ⟨false, rfl, q _ [] ad' H' R' (.lf (.bl false)) g⟩)
theorem zqi (ha : AE X kd a fa) : AE X kd (.UnaryOp .Not a pos) (zoa fa) := by with_unfolding_all exact (wU (zqJ ha) λ σ H Q h => by
 obtain ⟨F, B, ad, as, r, as', R, e, q⟩ := h
 obtain ⟨⟨p, as1⟩, h1, e⟩ := bS_ (show (fa as).bind _ = _ from e)
 refine ⟨F, B, ad, as, p, as1, R, h1, λ v T' ad' H' R' rv g => ?_⟩
 obtain ⟨k, e1, e⟩ := bS_ e
 obtain ⟨st, rfl⟩ := zmy e1
 obtain ⟨rfl, rfl⟩ := zpD rv
 cases e
 exact ⟨k, rfl, q _ [] ad' H' R' (.lf (.bl _)) g⟩)
theorem zeR {op : UnaryOp} {g : D -> Option R0} (ho : UnD X kd (unaryOp op) g) (ha : AE X kd a fa) : AE X kd (.UnaryOp op a pos) (f1 fa g) := by with_unfolding_all exact (wU (zsj ho ha) λ σ H Q h => by
 obtain ⟨F, B, ad, as, r, as', R, e, q⟩ := h
 obtain ⟨⟨p, as1⟩, h1, e⟩ := bS_ (show (fa as).bind _ = _ from e)
 obtain ⟨⟨x, lv⟩, h2, e⟩ := bS_ e
 obtain ⟨z, h3, e⟩ := bS_ e
 obtain ⟨y, h4, e⟩ := bS_ e
 cases e
 refine Y9 R h1 λ v ad1 H1 R1 rv1 g1 => ⟨_, x, z, R1.tr _, Za.vw R1 rv1 h2, h3, Xg R1 h4 λ w T' H' R' rv' g' => q w T' ad1 H' R' rv' (g1.trans g')⟩)
end
abbrev AF := AS -> Option (List RV × AS)
inductive RVs (K : zD) (kd : KD) (F B : Addr -> Prop) (ad : Ad) (σ : St) (H : Hp) : List V -> List RV -> Prop
 | nil : RVs K kd F B ad σ H [] []
 | cons {v : V} {r : RV} {vs : List V} {rs : List RV} : Za K kd F B [] ad σ H v r -> RVs K kd F B ad σ H vs rs -> RVs K kd F B ad σ H (v :: vs) (r :: rs)
def alA (K : zD) (kd : KD) (f : AF) : TA := λ σ H Q => ∃ F B ad as rs as', Rel K kd F B [] ad as σ H /\ f as = some (rs, as') /\
 ∀ vs ad' H', Rel K kd F B [] ad' as' σ H' -> RVs K kd F B ad' σ H' vs rs -> Grow (Gw [] ad) H (Gw [] ad') H' -> Q vs H'
@[irreducible] def AA (X : Cx) (kd : KD) (es : List Expr) (f : AF) : Prop := PA X es (alA X.K kd f)
def aN : AF := λ as => some ([], as)
def aC (fa : EF) (fr : AF) : AF := λ as => (fa as).bind λ p => (fr p.2).bind λ q => some (p.1.frz :: q.1, q.2)
theorem zht {X : Cx} {e : List Expr} {t t' : TA} (h : PA X e t) (k : ∀ σ H Q, t' σ H Q -> t σ H Q) : PA X e t' := λ pos pins s σ H Q I q => h pos pins s σ H Q I (k σ H Q q)
abbrev DF := AS -> Option (List O × AS)
def alD (K : zD) (kd : KD) (f : DF) : TA := λ σ H Q => ∃ F B ad as os as', Rel K kd F B [] ad as σ H /\ f as = some (os, as') /\
 ∀ vs T' ad' H', Rel K kd F B T' ad' as' σ H' -> WW K kd F B (Gw T' ad') H' vs os T' -> Grow (Gw [] ad) H (Gw T' ad') H' -> Q vs H'
@[irreducible] def AD (X : Cx) (kd : KD) (es : List Expr) (f : DF) : Prop := PA X es (alD X.K kd f)
def dN : DF := λ as => some ([], as)
def dC (fa : EF) (fr : DF) : DF := λ as => (fa as).bind λ p => (toO p.2 p.1).bind λ x => (fr x.2).bind λ q => some (x.1 :: q.1, q.2)
def views (as : AS) : List RV -> Option (List D × Option Bool)
 | [] => some ([], some true)
 | r :: rs => (r.view as).bind λ x => (views as rs).bind λ y => some (x.1 :: y.1, meet x.2 y.2)
def fP (fr : AF) (g : List D -> Option R0) : EF := λ as => (fr as).bind λ p => (views p.2 p.1).bind λ x => (g x.1).bind λ r => (wrap x.2 r).bind λ z => some (z, p.2)
def zmY (as : AS) : RV -> Option (Bool × D)
 | .ow o => some (yF o.toD || o.str, o.toD)
 | .bo i => match as[i]? with
  | some (some o) => some (false, o.toD)
  | _ => none
def zbn (as : AS) : List RV -> Option (List (Bool × D))
 | [] => some []
 | r :: rs => (zmY as r).bind λ x => (zbn as rs).bind λ y => some (x :: y)
def zX (fr : AF) (g : List (Bool × D) -> Option O) : EF := λ as => (fr as).bind λ p => (zbn p.2 p.1).bind λ x => (g x).bind λ o => some (.ow o, p.2)
def RQO (K : zD) (kd : KD) (F : Addr -> Prop) (H : Hp) (Q : VK) (o : O) : Prop :=
 ∀ v T H', T.Nodup -> (∀ a ∈ T, H a = none) -> (∀ b u, H b = some u -> H' b = some u) -> (∀ a ∈ T, H' a ≠ none) -> Ro (λ _ v d => Rp K kd (Un2 F (· ∈ T)) H' v d) (λ a => ¬ Un2 F (· ∈ T) a) H' v o T -> Q v H'
inductive RpA (K : zD) (kd : KD) (F : Addr -> Prop) (H : Hp) : List V -> List (Bool × D) -> Prop
 | nil : RpA K kd F H [] []
 | cons {v : V} {st : Bool} {d : D} {vs : List V} {ds : List (Bool × D)} : Rp K kd (λ a => st = true /\ F a) H v d -> RpA K kd F H vs ds -> RpA K kd F H (v :: vs) ((st, d) :: ds)
def spD (K : zD) (kd : KD) (g : List (Bool × D) -> Option O) : Sp := λ vs H Q _ => ∃ F ds o, (∀ a, F a -> H a ≠ none) /\ RpA K kd F H vs ds /\ g ds = some o /\ RQO K kd F H Q o
def WN (os : List O) : O := if os.all O.isLf = true then .lf (O.strs os) (.tup (O.toDs os)) else .nd .tp os
def yw (fr : DF) : EF := λ as => (fr as).bind λ p => if p.1.length <= sizeLine then some (.ow (WN p.1), p.2) else none
def zZ (fr : DF) : EF := λ as => (fr as).bind λ p => if p.1.length <= sizeLine then some (.ow (.nd .ls p.1), p.2) else none
section
variable {X : Cx} {kd : KD} {a b c : Expr} {fa fb : EF} {ta tb : TF} {pos : Pos} {es rest : List Expr} {fr : AF} {fd : DF}
theorem RpA.length {K : zD} {F : Addr -> Prop} {H : Hp} {vs : List V} {ds : List (Bool × D)} (h : RpA K kd F H vs ds) : vs.length = ds.length := by
 induction h with
 | nil => rfl
 | cons _ _ ih => exact congrArg (· + 1) ih
theorem zu : AA X kd [] aN := by with_unfolding_all exact (zht zhb λ σ H Q h => by
 obtain ⟨F, B, ad, as, rs, as', R, e, q⟩ := h
 cases e
 exact q [] ad H R .nil Grow.refl)
theorem zf (ha : AE X kd a fa) (hr : AA X kd es fr) (hs : starEach (a :: es) X.env = (false, eval a X.env) :: starEach es X.env) : AA X kd (a :: es) (aC fa fr) := by with_unfolding_all exact (zht (zbX ha hr hs) λ σ H Q h => by
 obtain ⟨F, B, ad, as, rs, as', R, e, q⟩ := h
 obtain ⟨⟨p, as1⟩, h1, e⟩ := bS_ (show (fa as).bind _ = _ from e)
 obtain ⟨⟨z, as2⟩, h2, e⟩ := bS_ e
 cases e
 refine Y9 R h1 λ v ad1 H1 R1 rv1 g1 => ⟨F, B, ad1, as1, z, _, R1, h2, λ vs ad2 H2 R2 rv2 g2 => ?_⟩
 exact q _ ad2 H2 R2 (.cons (rv1.grow g2) rv2) (g1.trans g2))
theorem zp : AD X kd [] dN := by with_unfolding_all exact (zht zhb λ σ H Q h => by
 obtain ⟨F, B, ad, as, rs, as', R, e, q⟩ := h
 cases e
 exact q [] [] ad H R .nil Grow.refl)
theorem zb (ha : AE X kd a fa) (hr : AD X kd es fd) (hs : starEach (a :: es) X.env = (false, eval a X.env) :: starEach es X.env) : AD X kd (a :: es) (dC fa fd) := by with_unfolding_all exact (zht (zbX ha hr hs) λ σ H Q h => by
 obtain ⟨F, B, ad, as, rs, as', R, e, q⟩ := h
 obtain ⟨⟨p, as1⟩, h1, e⟩ := bS_ (show (fa as).bind _ = _ from e)
 obtain ⟨⟨o, as2⟩, h2, e⟩ := bS_ e
 obtain ⟨⟨os, as3⟩, h3, e⟩ := bS_ e
 cases e
 refine ⟨F, B, ad, as, p, as1, R, h1, λ v T1 ad1 H1 R1 rv1 g1 => ?_⟩
 obtain ⟨ad2, R2, ro2, le2⟩ := zex R1 rv1 h2
 refine ⟨F, _, ad2, as2, os, _, R2.hide, h3, λ vs T3 ad3 H3 R3 ro3 g3 => ?_⟩
 have kT : ∀ a ∈ T1, ∀ u, H1 a = some u -> H3 a = some u := λ a m u e => g3.keep a u e λ z => z.elim (λ y => nomatch y) λ ⟨i, y⟩ => R2.dis i a y m
 have r1 : RoS X.K kd F B (Gw (T1 ++ T3) ad3) H3 v o T1 := RoS.lv zcB (RoS.grow g3 kT (RoS.lv zkx ro2))
 have r3 : WW X.K kd F B (Gw (T1 ++ T3) ad3) H3 vs os T3 := WW.lv zcB ro3
 refine q _ (T1 ++ T3) ad3 H3 (R3.unhide R2.tnd λ a m z => (R2.btr a z).2.2 (.inl m)) (.cons r1 r3) ((g1.trans (Grow.less le2)).trans ⟨λ b u e n => g3.keep b u e λ z => n (Gw.drop b z), λ b z => ?_⟩)
 rcases z with z | z
 · rcases zzK.mp z with z | z
   · exact .inl (.inl z)
   · exact (g3.own b (.inl z)).elim (λ y => .inl (Gw.drop b y)) .inr
 · exact (g3.own b (.inr z)).elim (λ y => .inl (Gw.drop b y)) .inr)
theorem yf {x1} (h : AD X kd es fd) : AE X kd (.Tuple es x1 pos) (yw fd) := by with_unfolding_all exact (wU (zqI h) λ σ H Q h => by
 obtain ⟨F, B, ad, as, r, as', R, e, q⟩ := h
 obtain ⟨⟨os, as1⟩, h1, e⟩ := bS_ (show (fd as).bind _ = _ from e)
 obtain ⟨hz, e⟩ := yD e
 cases e
 refine ⟨F, B, ad, as, os, _, R, h1, λ vs T1 ad1 H1 R1 ro1 g1 => ⟨by rw [ro1.length]; exact hz, λ p hp => ?_⟩⟩
 have k : ∀ b o, H1 b = some o -> upd H1 p (.tup vs) b = some o := λ b o hb => by rw [yO (xU hb hp)]; exact hb
 obtain ⟨R2, g2⟩ := R1.more k
 have ro2 := WW.grow g2 (λ a _ u h => k a u h) ro1
 have np : ∀ st, ¬ Lv F B (Gw T1 ad1) st p := λ st z => R1.trk st p z hp
 refine q _ T1 ad1 _ R2 ?_ (g1.trans g2)
 show RoS X.K kd F B (Gw T1 ad1) _ _ (WN os) T1
 unfold WN
 by_cases hl : os.all O.isLf = true
 · rw [if_pos hl]
   have := zmp ro2 hl
   subst this
   exact .lf (.tup (np _) (.inl xQ) (zfd ro2 hl))
 · rw [if_neg hl]
   exact .tp (np _) xQ ro2)
theorem zK (h : AD X kd es fd) : AE X kd (.List es pos) (zZ fd) := by with_unfolding_all exact (wU (zqk h) λ σ H Q h => by
 obtain ⟨F, B, ad, as, r, as', R, e, q⟩ := h
 obtain ⟨⟨os, as1⟩, h1, e⟩ := bS_ (show (fd as).bind _ = _ from e)
 obtain ⟨hz, e⟩ := yD e
 cases e
 refine ⟨F, B, ad, as, os, _, R, h1, λ vs T1 ad1 H1 R1 ro1 g1 => ⟨by rw [ro1.length]; exact hz, λ p hp => ?_⟩⟩
 have k : ∀ b o, H1 b = some o -> upd H1 p (.lst vs) b = some o := λ b o hb => by rw [yO (xU hb hp)]; exact hb
 obtain ⟨R2, g2⟩ := R1.add (N := [p]) (by simp) (λ a m => by rw [zzP.mp m]; exact hp) k (λ a m => by rw [zzP.mp m, xQ]; simp)
 exact q _ _ ad1 _ R2 (.ls xQ (WW.grow g2 (λ a _ u h => k a u h) ro1)) (g1.trans g2))
theorem VwL.less {K : zD} {O O' : Addr -> Prop} {H : Hp} (g : ∀ a, O' a -> O a) {vs : List V} {ds : List D} (h : VwL K kd O H vs ds) : VwL K kd O' H vs ds := by
 induction h with
 | nil => exact .nil
 | cons h _ ih => exact .cons (h.less g) ih
theorem zaG {K : zD} {F B : Addr -> Prop} {ad : Ad} {as : AS} {σ : St} {H : Hp} (R : Rel K kd F B [] ad as σ H) {vs : List V} {rs : List RV} {ds : List D} {lv : Option Bool} (h : RVs K kd F B ad σ H vs rs) (e : views as rs = some (ds, lv)) : VwL K kd (Obl F B (Gw [] ad) lv) H vs ds := by
 induction h generalizing ds lv with
 | nil => cases e; exact .nil
 | cons h t ih =>
  obtain ⟨⟨d, l⟩, h1, e⟩ := bS_ (show (RV.view as _).bind _ = _ from e)
  obtain ⟨⟨ds, l2⟩, h2, e⟩ := bS_ e
  cases e
  exact .cons ((Za.vw R h h1).less Obl.meet1) ((ih h2).less Obl.meet2)
theorem alP {g : List D -> Option R0} {σ : St} {H : Hp} {Q : VK} {R' : List V -> Hp -> VK -> Prop} (hr : ∀ vs H Q, (∃ O ds r, (∀ a, O a -> H a ≠ none) /\ VwL X.K kd O H vs ds /\ g ds = some r /\ RQ X.K kd O H Q r) -> R' vs H Q)
 (h : al X.K kd (fP fr g) σ H Q) : alA X.K kd fr σ H λ vs H1 => R' vs H1 Q := by
 obtain ⟨F, B, ad, as, r, as', R, e, q⟩ := h
 obtain ⟨⟨p, as1⟩, h1, e⟩ := bS_ (show (fr as).bind _ = _ from e)
 obtain ⟨⟨ds, lv⟩, h2, e⟩ := bS_ e
 obtain ⟨z, h3, e⟩ := bS_ e
 obtain ⟨y, h4, e⟩ := bS_ e
 cases e
 exact ⟨F, B, ad, as, p, _, R, h1, λ vs ad1 H1 R1 rv1 g1 => hr _ _ _ ⟨_, ds, z, R1.tr _, zaG R1 rv1 h2, h3, Xg R1 h4 λ w T' H' R' rv' g' => q w T' ad1 H' R' rv' (g1.trans g')⟩⟩
theorem zpo {K : zD} {F B : Addr -> Prop} {ad : Ad} {as : AS} {σ : St} {H : Hp} (R : Rel K kd F B [] ad as σ H) {vs : List V} {rs : List RV} {ds : List (Bool × D)} (h : RVs K kd F B ad σ H vs rs) (e : zbn as rs = some ds) : RpA K kd (Lv F B (Gw [] ad) true) H vs ds := by
 induction h generalizing ds with
 | nil => cases e; exact .nil
 | cons h t ih =>
  rename_i v r vs rs
  obtain ⟨⟨st, d⟩, h1, e⟩ := bS_ (show (zmY as r).bind _ = _ from e)
  obtain ⟨ds, h2, e⟩ := bS_ e
  cases e
  refine .cons ?_ (ih h2)
  cases r with
  | ow o =>
   cases h1
   cases hf : yF o.toD with
   | true => exact (zhm h).flat hf
   | false =>
    refine (zhH h).less λ a z => ?_
    have zs : o.str = true := z.1
    rw [zs]
    exact z.2
  | bo i =>
   have e : (match as[i]? with | some (some o) => some (false, o.toD) | _ => none) = some (st, d) := h1
   cases k : as[i]? with
   | none => rw [k] at e; cases e
   | some s =>
    cases s with
    | none => rw [k] at e; cases e
    | some o =>
     rw [k] at e
     cases e
     obtain ⟨w, hw, ro⟩ := R.sl i _ k
     rw [h.2] at hw
     cases hw
     exact (zhm ro).less λ a z => nomatch z.1
theorem zri {K : zD} {F B : Addr -> Prop} {ad : Ad} {as : AS} {σ : St} {H : Hp} {Q : VK} {o : O} (R : Rel K kd F B [] ad as σ H) (q : ∀ v T' H', Rel K kd F B T' ad as σ H' -> Za K kd F B T' ad σ H' v (.ow o) -> Grow (Gw [] ad) H (Gw T' ad) H' -> Q v H') :
 RQO K kd (Lv F B (Gw [] ad) true) H Q o := λ v T H' hn hl k h1 ro => by
 obtain ⟨R', g⟩ := R.news hn hl k h1
 have le : ∀ st a, Lv F B (Gw T ad) st a -> Un2 (Lv F B (Gw [] ad) true) (· ∈ T) a := λ st a z => by
  rcases z with (z | z) | z | z
  · exact .inl (.inl (.inl ⟨rfl, z.2⟩))
  · exact .inl (.inl (.inr z))
  · exact .inr z
  · exact .inl (.inr (.inr z))
 exact q v T H' R' (Ro.mono (λ st v d r => r.less (le st)) (λ a vs n e => ⟨λ z => n (le true a z), e⟩) (λ _ _ _ e => e) ro) g
theorem zqY {g : List (Bool × D) -> Option O} {σ : St} {H : Hp} {Q : VK} {E : XK} (h : al X.K kd (zX fr g) σ H Q) : zpK (spD X.K kd g) [] E (alA X.K kd fr) σ H Q := by
 obtain ⟨F, B, ad, as, r, as', R, e, q⟩ := h
 obtain ⟨⟨p, as1⟩, h1, e⟩ := bS_ (show (fr as).bind _ = _ from e)
 obtain ⟨ds, h2, e⟩ := bS_ e
 obtain ⟨o, h3, e⟩ := bS_ e
 cases e
 refine ⟨F, B, ad, as, p, _, R, h1, λ vs ad1 H1 R1 rv1 g1 => ?_⟩
 show spD X.K kd g (vs ++ []) H1 Q E
 rw [List.append_nil]
 exact ⟨_, ds, o, R1.trk true, zpo R1 rv1 h2, h3, zri R1 λ w T' H' R' rv' g' => q w T' ad1 H' R' rv' (g1.trans g')⟩
end
inductive Out where
 | nx (as : AS) | rt (o : O) | bk (as : AS) | ct (as : AS)
abbrev SF := AS -> Option Out
structure RetOk (K : zD) (kd : KD) (F : Addr -> Prop) (T : List Addr) (H : Hp) (v : V) (o : O) : Prop where
 nd : T.Nodup
 tr : ∀ a ∈ T, H a ≠ none
 ro : Ro (λ _ v d => Rp K kd (Un2 F (· ∈ T)) H v d) (λ a => ¬ Un2 F (· ∈ T) a) H v o T
def zgC (K : zD) (kd : KD) (F B : Addr -> Prop) (ad : Ad) (H : Hp) (D : Ends) : Out -> Prop
 | .nx as' => ∀ σ' ad' H', Rel K kd F B [] ad' as' σ' H' -> Grow (Gw [] ad) H (Gw [] ad') H' -> D.nx σ' H'
 | .bk as' => ∀ σ' ad' H', Rel K kd F B [] ad' as' σ' H' -> Grow (Gw [] ad) H (Gw [] ad') H' -> D.bk σ' H'
 | .ct as' => ∀ σ' ad' H', Rel K kd F B [] ad' as' σ' H' -> Grow (Gw [] ad) H (Gw [] ad') H' -> D.ct σ' H'
 | .rt o => ∀ v T H', RetOk K kd F T H' v o -> Grow (Gw [] ad) H (· ∈ T) H' -> D.rt v H'
def be (K : zD) (kd : KD) (f : SF) : TS := λ D σ H => ∃ F B ad as o, Rel K kd F B [] ad as σ H /\ f as = some o /\ zgC K kd F B ad H D o
@[irreducible] def ASt (X : Cx) (kd : KD) (st : Stmt) (f : SF) : Prop := PS X st (be X.K kd f)
@[irreducible] def ASs (X : Cx) (kd : KD) (st : List Stmt) (f : SF) : Prop := PSs X st (be X.K kd f)
theorem Wl {X : Cx} {e : Stmt} {t t' : TS} (h : PS X e t) (k : ∀ D σ H, t' D σ H -> t D σ H) : PS X e t' := λ pins s σ H D I q => h pins s σ H D I (k D σ H q)
theorem zhR {X : Cx} {e : List Stmt} {t t' : TS} (h : PSs X e t) (k : ∀ D σ H, t' D σ H -> t D σ H) : PSs X e t' := λ pins s σ H D I q => h pins s σ H D I (k D σ H q)
theorem zgC.pre {K : zD} {kd : KD} {F B : Addr -> Prop} {ad ad1 : Ad} {H H1 : Hp} {D : Ends} {o : Out} (g : Grow (Gw [] ad) H (Gw [] ad1) H1) (h : zgC K kd F B ad H D o) : zgC K kd F B ad1 H1 D o := by
 cases o with
 | nx as => exact λ σ' ad' H' R g' => h σ' ad' H' R (g.trans g')
 | bk as => exact λ σ' ad' H' R g' => h σ' ad' H' R (g.trans g')
 | ct as => exact λ σ' ad' H' R g' => h σ' ad' H' R (g.trans g')
 | rt r => exact λ v T H' R g' => h v T H' R (g.trans g')
def sNx : SF := λ as => some (.nx as)
def zR (f g : SF) : SF := λ as => (f as).bind λ o => match o with | .nx as' => g as' | o => some o
def sIf (c : TF) (f g : SF) : SF := λ as => (c as).bind λ p => if p.1 = true then f p.2 else g p.2
def wM (f : EF) : SF := λ as => (f as).bind λ p => some (.nx p.2)
def zmk (as : AS) : RV -> Option O
 | .ow o => if o.str = true then some o else none
 | .bo i => match as[i]? with
  | some (some o) => if o.str = true then some o else none
  | _ => none
def yX (f : EF) : SF := λ as => (f as).bind λ p => (zmk p.2 p.1).bind λ o => some (.rt o)
def yq (z : Bool) (i : Nat) (f : EF) : SF := λ as => (f as).bind λ p => (toO p.2 (if z = true then p.1.frz else p.1)).bind λ x => if i < x.2.length then some (.nx (x.2.set i (some x.1))) else none
theorem Ro.strong {L : Bool -> V -> D -> Prop} {N : Addr -> Prop} {H : Hp} {v : V} {o : O} {fp : List Addr} (h : Ro L N H v o fp) (e : o.str = true) : Ro (λ st v d => st = true /\ L st v d) N H v o fp :=
 Ro.rec (motive_1 := λ v o fp _ => o.str = true -> Ro (λ st v d => st = true /\ L st v d) N H v o fp) (motive_2 := λ vs os fp _ => O.strs os = true -> RoL (λ st v d => st = true /\ L st v d) N H vs os fp)
  (λ h e => .lf ⟨e, h⟩) (λ h _ r e => .ls h (r e)) (λ h l _ r e => .dc h l (r e)) (λ c h l _ r e => .ob ⟨rfl, c⟩ h l (r e)) (λ n h _ r e => .tp n h (r e)) (λ _ => .nil) (λ _ _ h r e => .cons (h ((Bool.and_eq_true _ _).mp e).1) (r ((Bool.and_eq_true _ _).mp e).2)) h e
section
variable {K : zD} {kd : KD} {F B : Addr -> Prop} {T : List Addr} {ad ad1 : Ad} {as as1 : AS} {σ : St} {H H1 : Hp} {v : V} {r : RV} {o : O}
theorem zjE {T' : List Addr} (R : Rel K kd F B T ad as σ H) (hn : T'.Nodup) (hs : ∀ a ∈ T', Gw T ad a) (h : RoS K kd F B (Gw T ad) H v o T') (e : o.str = true) : RetOk K kd F T' H v o := by
 have le : ∀ a, Un2 F (· ∈ T') a -> Lv F B (Gw T ad) true a := λ a z => z.elim (λ y => .inl (.inl ⟨rfl, y⟩)) λ y => .inr (hs a y)
 exact ⟨hn, λ a m => (R.gtr a (hs a m)).1, Ro.mono (λ st v d r => by obtain ⟨rfl, r⟩ := r; exact r.less le) (λ a vs n e => ⟨λ z => n (le a z), e⟩) (λ _ _ _ e => e) (Ro.strong h e)⟩
theorem Rel.ret (R : Rel K kd F B T ad as σ H) (hr : Za K kd F B T ad σ H v r) (e : zmk as r = some o) : ∃ T', RetOk K kd F T' H v o /\ ∀ b ∈ T', Gw T ad b := by
 cases r with
 | ow o' =>
  obtain ⟨hs, rfl⟩ := yD e
  exact ⟨T, zjE R R.tnd (λ a m => .inl m) hr hs, λ a m => .inl m⟩
 | bo i =>
  have e : (match as[i]? with | some (some o) => if o.str = true then some o else none | _ => none) = some o := e
  cases k : as[i]? with
  | none => rw [k] at e; cases e
  | some s =>
   cases s with
   | none => rw [k] at e; cases e
   | some o1 =>
    rw [k] at e
    obtain ⟨hs, rfl⟩ := yD e
    obtain ⟨w, hw, ro⟩ := R.sl i _ k
    rw [hr.2] at hw
    cases hw
    exact ⟨ad i, zjE R (R.nd i) (λ a m => .inr ⟨i, m⟩) ro hs, λ a m => .inr ⟨i, m⟩⟩
end
section
variable {X : Cx} {kd : KD} {st : Stmt} {sts rest : List Stmt} {a b c e : Expr} {fa fb : EF} {ta : TF} {pos : Pos} {f g : SF}
theorem yS : ASs X kd [] sNx := by with_unfolding_all exact (zhR zoW λ D σ H h => by
 obtain ⟨F, B, ad, as, o, R, e, q⟩ := h
 cases e
 exact q σ ad H R Grow.refl)
theorem zm (h1 : ASt X kd st f) (h2 : ASs X kd rest g) : ASs X kd (st :: rest) (zR f g) := by with_unfolding_all exact (zhR (zlZ h1 h2) λ D σ H h => by
 obtain ⟨F, B, ad, as, o, R, e, q⟩ := h
 obtain ⟨o1, e1, e⟩ := bS_ (show (f as).bind _ = _ from e)
 refine ⟨F, B, ad, as, o1, R, e1, ?_⟩
 cases o1 with
 | nx as1 => exact λ σ' ad' H' R' g' => ⟨F, B, ad', as1, o, R', e, q.pre g'⟩
 | bk as1 => cases e; exact q
 | ct as1 => cases e; exact q
 | rt r => cases e; exact q)
theorem zH (h1 : ASt X kd st f) : ASs X kd [st] f := by with_unfolding_all exact (zoO h1)
theorem wO (hc : AT X kd c ta) (ha : ASs X kd sts f) (hb : ASs X kd rest g) : ASt X kd (.If c sts rest pos) (sIf ta f g) := by with_unfolding_all exact (Wl (zsL hc ha hb) λ D σ H h => by
 obtain ⟨F, B, ad, as, o, R, e, q⟩ := h
 obtain ⟨⟨p, as1⟩, h1, e⟩ := bS_ (show (ta as).bind _ = _ from e)
 refine ⟨F, B, ad, as, p, as1, R, h1, λ ad' H' R' g => ?_⟩
 cases p with
 | true => exact ⟨F, B, ad', as1, o, R', e, q.pre g⟩
 | false => exact ⟨F, B, ad', as1, o, R', e, q.pre g⟩)
theorem ZL (he : AE X kd e fa) (hs : swapsWith e none pos.line X.env = pure false) : ASt X kd (.Expr e pos) (wM fa) := by with_unfolding_all exact (Wl (zoi he hs) λ D σ H h => by
 obtain ⟨F, B, ad, as, o, R, e, q⟩ := h
 obtain ⟨⟨p, as1⟩, h1, e⟩ := bS_ (show (fa as).bind _ = _ from e)
 cases e
 exact ⟨F, B, ad, as, p, as1, R, h1, λ v T' ad' H' R' rv g => q σ ad' H' R'.drop (g.trans (Grow.less Gw.drop))⟩)
theorem ym (he : AE X kd e fa) : ASt X kd (.Return (some e) pos) (yX fa) := by with_unfolding_all exact (Wl (zpZ he) λ D σ H h => by
 obtain ⟨F, B, ad, as, o, R, e, q⟩ := h
 obtain ⟨⟨p, as1⟩, h1, e⟩ := bS_ (show (fa as).bind _ = _ from e)
 obtain ⟨r, h2, e⟩ := bS_ e
 cases e
 refine ⟨F, B, ad, as, p, as1, R, h1, λ v T' ad' H' R' rv g => ?_⟩
 obtain ⟨T2, ro, le⟩ := R'.ret rv h2
 exact q v T2 H' ro (g.trans (Grow.less le)))
theorem zme {K : zD} {F B : Addr -> Prop} {T : List Addr} {ad : Ad} {as as2 : AS} {σ : St} {H : Hp} {v : V} {r : RV} {z : Bool} {o : O} {i : Nat} (R : Rel K kd F B T ad as σ H) (rv : Za K kd F B T ad σ H v r)
 (h2 : toO as (if z = true then r.frz else r) = some (o, as2)) (hl : i < as2.length) : ∃ ad', Rel K kd F B [] ad' (as2.set i (some o)) (σ.set i (some v)) H /\ ∀ a, Gw [] ad' a -> Gw T ad a := by
 cases z with
 | true =>
  obtain ⟨ad1, R1, ro, le⟩ := zex R.drop (Za.drop R rv) h2
  exact ⟨_, R1.put hl ro, λ a y => Gw.drop a (le a (Ve a y))⟩
 | false =>
  obtain ⟨ad1, R1, ro, le⟩ := zex R rv h2
  exact ⟨_, R1.put hl ro, λ a y => le a (Ve a y)⟩
theorem zqU {z : Bool} {i : Nat} {x : Str} {pos' : Pos} (hN : X.N.Nodup) (hi : X.N[i]? = some x) (hx : Loc X.env.scope x) (he : AE X kd e fa) (hs : swapsWith e (some (.Name x pos')) pos.line X.env = pure false) (hf : X.fn x = true \/ X.env.scope.names.lookup x = some .local) :
 ASt X kd (.Assign [.Name x pos'] e pos) (yq z i fa) := by with_unfolding_all exact (Wl (zqM hN hi hx he hs hf) λ D σ H h => by
 obtain ⟨F, B, ad, as, o, R, e, q⟩ := h
 obtain ⟨⟨p, as1⟩, h1, e⟩ := bS_ (show (fa as).bind _ = _ from e)
 obtain ⟨⟨y, as2⟩, h2, e⟩ := bS_ e
 obtain ⟨hl, e⟩ := yD e
 cases e
 refine ⟨F, B, ad, as, p, as1, R, h1, λ v T' ad' H' R' rv g => ?_⟩
 obtain ⟨ad2, R2, le⟩ := zme R' rv h2 hl
 exact q _ ad2 H' R2 (g.trans (Grow.less le)))
end
def Yo (n : Nat) (ds : List (Bool × D)) : AS := ds.map (λ x => some (.lf x.1 x.2)) ++ List.replicate (n - ds.length) none
def zsS : Out -> Option O
 | .nx _ => some (.lf true .non)
 | .rt o => some o
 | _ => none
def fnR (n m : Nat) (f : SF) (ds : List (Bool × D)) : Option O := if ds.length = m then (f (Yo n ds)).bind zsS else none
theorem RpA.get {K : zD} {kd : KD} {F : Addr -> Prop} {H : Hp} : ∀ {vs : List V} {ds : List (Bool × D)} {i : Nat} {x : Bool × D}, RpA K kd F H vs ds -> ds[i]? = some x -> ∃ v, vs[i]? = some v /\ Rp K kd (λ a => x.1 = true /\ F a) H v x.2
 | _, _, _, _, .nil, e => by simp at e
 | _, _, 0, _, .cons h _, e => by simp at e; subst e; exact ⟨_, rfl, h⟩
 | _, _, i + 1, _, .cons _ r, e => by
  obtain ⟨v, h1, h2⟩ := RpA.get (i := i) r (by simpa using e)
  exact ⟨v, by simpa using h1, h2⟩
theorem zlg {K : zD} {kd : KD} {F : Addr -> Prop} {H : Hp} {N : List Str} {vs : List V} {ds : List (Bool × D)} (ht : ∀ a, F a -> H a ≠ none) (rp : RpA K kd F H vs ds) :
 Rel K kd F (λ _ => False) [] (λ _ => []) (Yo N.length ds) (L2.start N vs) H := by
 have hl := rp.length
 have no : ∀ a, ¬ Gw [] (λ _ => []) a := λ a z => z.elim (λ y => nomatch y) λ ⟨_, y⟩ => nomatch y
 refine ⟨by unfold Yo L2.start; simp [hl], λ _ _ => rfl, λ _ => List.nodup_nil, (λ _ _ _ z => nomatch z), List.nodup_nil, (λ _ _ _ z => nomatch z), ht, (λ _ z => z.elim), λ a z => (no a z).elim, λ i s e => ?_⟩
 unfold Yo at e
 unfold L2.start
 by_cases hi : i < ds.length
 · rw [List.getElem?_append_left (by rw [zI]; exact hi), zzG] at e
   obtain ⟨d, hd, ea⟩ := zzV.mp e
   subst ea
   obtain ⟨v, hv, rv⟩ := rp.get hd
   rw [List.getElem?_append_left (by rw [zI, hl]; exact hi), zzG, hv]
   refine ⟨v, rfl, .lf (rv.less λ a z => ?_)⟩
   rcases z with (z | z) | z
   · exact z
   · exact z.elim
   · exact (no a z).elim
 · rw [List.getElem?_append_right (by rw [zI]; omega)] at e
   have := List.mem_of_getElem? e
   have ea : s = none := (List.mem_replicate.mp this).2
   subst ea
   rfl
section
variable {P : Program} {w : World} {K : zD} {mg : Str -> Option Value} {base : Heap}
theorem znB {kd : KD} {F : Addr -> Prop} {H H' : Hp} {Q : VK} {o : O} {v : V} {T : List Addr} (q : RQO K kd F H Q o) (ro : RetOk K kd F T H' v o) (g : Grow (Gw [] λ _ => []) H (· ∈ T) H') : Q v H' := by
 have no : ∀ a, ¬ Gw [] (λ _ => []) a := λ a z => z.elim (λ y => nomatch y) λ ⟨_, y⟩ => nomatch y
 exact q v T H' ro.nd (λ a m => (g.own a m).resolve_left (no a)) (λ b u h => g.keep b u h (no b)) ro.tr ro.ro
theorem wL {kd : KD} {x qual : Str} {st : Stmt} {f : Addr} {fd : FuncData} {N ps : List Str} {k : Nat} {c : SF} (Fn : Fun K x qual st f fd) (S : FnScope N ps (zy st))
 (hb : ∀ (cdv : Value) (A : Around) (outer : List Env) (s : Shared) (H : Hp) (E : XK), Room k (A.deeper (envOfC qual (zy st) s.heap.objs.size f cdv)) -> ASs (zji CX0 P w K mg base N qual (zy st) f cdv A outer s H E).nox kd (zct st) c) :
 FnOk P w K mg base CX0 (k + 1) f fd ps (spD K kd (fnR N.length ps.length c)) := by
 with_unfolding_all (
 refine Fn.ok S (λ vs H Q E h => ?_) (λ cdv A outer s H vs Q E hr h => ⟨_, hb cdv A outer s H E hr, ?_⟩)
 · obtain ⟨F, ds, r, _, rp, e, _⟩ := h
   unfold fnR at e
   by_cases hl : ds.length = ps.length
   · rw [rp.length, hl]
   · rw [if_neg hl] at e; cases e
 · obtain ⟨F, ds, r, ht, rp, e, q⟩ := h
   unfold fnR at e
   by_cases hl : ds.length = ps.length
   · rw [if_pos hl] at e
     obtain ⟨o, e1, e⟩ := bS_ e
     refine ⟨F, λ _ => False, λ _ => [], Yo N.length ds, o, zlg ht rp, e1, ?_⟩
     cases o with
     | nx as => cases e; exact λ σ' ad' H' R g => znB q (T := []) ⟨List.nodup_nil, (λ _ m => nomatch m), .lf .non⟩ (g.trans (Grow.less (λ _ z => nomatch z)))
     | rt o => cases e; exact λ v T H' ro g => znB q ro g
     | bk => cases e
     | ct => cases e
   · rw [if_neg hl] at e; cases e)
end
abbrev It1 := Bool × D
abbrev GF := It1 -> AS -> Option AS
abbrev GFs := List It1 -> AS -> Option AS
def kids (st : Bool) (ds : List D) : List It1 := ds.map λ d => (yF d || st, d)
inductive RpI (K : zD) (kd : KD) (F B G : Addr -> Prop) (H : Hp) : List V -> List It1 -> Prop
 | nil : RpI K kd F B G H [] []
 | cons {v : V} {x : It1} {vs : List V} {ds : List It1} : Rp K kd (Lv F B G x.1) H v x.2 -> RpI K kd F B G H vs ds -> RpI K kd F B G H (v :: vs) (x :: ds)
def alG (K : zD) (kd : KD) (S : List Nat) (g : GF) : TG := λ v σ H Q => ∃ F B ad as x as', Rel K kd F B [] ad as σ H /\ Rp K kd (Lv F B (Gw [] ad) x.1) H v x.2 /\ g x as = some as' /\
 ∀ σ' ad' H', Rel K kd F B [] ad' as' σ' H' -> Grow (Gw [] ad) H (Gw [] ad') H' -> (∀ j, j ∉ S -> σ'[j]? = σ[j]?) -> Q σ' H'
def ztu (K : zD) (kd : KD) (S : List Nat) (g : GFs) : TGs := λ vs σ H Q => ∃ F B ad as ds as', Rel K kd F B [] ad as σ H /\ RpI K kd F B (Gw [] ad) H vs ds /\ g ds as = some as' /\
 ∀ σ' ad' H', Rel K kd F B [] ad' as' σ' H' -> Grow (Gw [] ad) H (Gw [] ad') H' -> (∀ j, j ∉ S -> σ'[j]? = σ[j]?) -> Q σ' H'
@[irreducible] def AG (X : Cx) (kd : KD) (tg : Expr) (S : List Nat) (g : GF) : Prop := PG X tg (alG X.K kd S g)
@[irreducible] def AGs (X : Cx) (kd : KD) (tg : List Expr) (S : List Nat) (g : GFs) : Prop := PGs X tg (ztu X.K kd S g)
theorem zqw {X : Cx} {e : Expr} {t t' : TG} (h : PG X e t) (k : ∀ v σ H Q, t' v σ H Q -> t v σ H Q) : PG X e t' := λ pins s σ H v u Q I r q => h pins s σ H v u Q I r (k v σ H Q q)
theorem zkm {X : Cx} {e : List Expr} {t t' : TGs} (h : PGs X e t) (k : ∀ v σ H Q, t' v σ H Q -> t v σ H Q) : PGs X e t' := λ pins s σ H v u Q I r q => h pins s σ H v u Q I r (k v σ H Q q)
def gN (i : Nat) : GF := λ x as => if i < as.length then some (as.set i (some (.lf x.1 x.2))) else none
def gsN : GFs := λ ds as => match ds with | [] => some as | _ :: _ => none
def gsC (g : GF) (gs : GFs) : GFs := λ ds as => match ds with | [] => none | d :: r => (g d as).bind λ as1 => gs r as1
def gT (n : Nat) (gs : GFs) : GF := λ x as => match x.2 with
 | .tup ds => if ds.length = n then gs (kids x.1 ds) as else none
 | .lst ds => if ds.length = n then gs (kids x.1 ds) as else none
 | _ => none
section
variable {K : zD} {kd : KD} {F B G G' : Addr -> Prop} {H H' : Hp}
theorem RpI.length {vs : List V} {ds : List It1} (h : RpI K kd F B G H vs ds) : vs.length = ds.length := by
 induction h with
 | nil => rfl
 | cons _ _ ih => exact congrArg (· + 1) ih
theorem RpI.grow (g : Grow G H G' H') {vs : List V} {ds : List It1} (h : RpI K kd F B G H vs ds) : RpI K kd F B G' H' vs ds := by
 induction h with
 | nil => exact .nil
 | cons h _ ih => exact .cons (Rp.grow g h) ih
theorem RpI.get {vs : List V} {ds : List It1} {i : Nat} {x : It1} (h : RpI K kd F B G H vs ds) (e : ds[i]? = some x) : ∃ v, vs[i]? = some v /\ Rp K kd (Lv F B G x.1) H v x.2 := by
 induction h generalizing i with
 | nil => simp at e
 | cons h r ih =>
  cases i with
  | zero => simp at e; subst e; exact ⟨_, rfl, h⟩
  | succ i =>
   obtain ⟨v, h1, h2⟩ := ih (i := i) (by simpa using e)
   exact ⟨v, by simpa using h1, h2⟩
theorem zaK {st : Bool} {vs : List V} {ds : List D} (h : RpL K kd (Lv F B G st) H vs ds) : RpI K kd F B G H vs (kids st ds) :=
 RpL.ind (P := λ vs ds => RpI K kd F B G H vs (kids st ds)) .nil (λ {v d vs ds} h _ ih => by
  refine .cons (x := (yF d || st, d)) ?_ ih
  cases e : yF d with
  | true => exact h.flat e
  | false => exact h) h
end
section
variable {prog : Program} {w : World} {A : Around} {E : Value -> Shared -> Prop} {s : Shared}
theorem zgS {it l : Addr} {items : Array Value} (hne : l ≠ it) : ∀ (n i : Nat) (s : Shared) (Q : List Value -> Shared -> Prop), s.heap.IsListIter it l i -> s.heap.IsList l items -> i + n <= items.size ->
 (∀ h', h'.IsListIter it l (i + n) -> Heap.SameBut it s.heap h' -> Q ((items.toList.drop i).take n) { s with heap := h' }) -> wpAny (model prog w) A (draw (.ref it) n) Q E s
 | 0, i, s, Q, hit, _, _, hQ => by
  show wpAny _ _ (pure []) Q E s
  exact wpAny_pure (by simpa using hQ s.heap hit (Heap.SameBut.refl ..))
 | n + 1, i, s, Q, hit, ht, hle, hQ => by
  have hlt : i < items.size := by omega
  show wpAny _ _ (pyNext (.ref it) >>= _) Q E s
  refine wpAny_bind (wpAny_pyNext_list_item hit ht (x := items[i]) (by simp [hlt]) λ h₁ hit₁ hs₁ => ?_)
  refine wpAny_bind (wpAny_holding (zgS hne n (i + 1) _ _ hit₁ (ht.extBut hs₁.extBut hne) (by omega) λ h₂ hit₂ hs₂ => wpAny_pure ?_))
  have hd : items.toList.drop i = items[i] :: items.toList.drop (i + 1) := by simp [List.drop_eq_getElem_cons, hlt]
  have := hQ h₂ (by rw [show i + (n + 1) = i + 1 + n by omega]; exact hit₂) (hs₁.trans hs₂)
  rw [hd, List.take_succ_cons] at this
  exact this
theorem ziC {l : Addr} {items : Array Value} {targets : List (Bool × (Value -> Sem Unit))} {Q : Unit -> Shared -> Prop} (hh : A.handled = none) (ht : s.heap.IsList l items)
 (hn : targets.length = items.size) (hstar : targets.findIdx? (·.1) = none)
 (h : ∀ h', Heap.ExtBut s.heap.objs.size s.heap h' -> wpAny (model prog w) A (assignInOrder (targets.map (·.2)) items.toList) Q E { s with heap := h' }) :
 wpAny (model prog w) A (unpack (.ref l) targets) Q E s := by
 unfold unpack
 rw [hn, hstar]
 refine wpAny_bind (wpAny_holding ?_)
 have hlt : l ≠ s.heap.objs.size := by obtain ⟨o, ho, _⟩ := ht; exact zzO (Heap.lt_size ho)
 unfold unpackItems
 refine wpAny_bind ?_
 unfold notIterableAtAll
 refine wpAny_bind (wpAny_specialOf ht.typeIs PySem.F.slot_list_iter.lookup ?_)
 refine wpAny_pure ?_
 simp only [Bool.false_eq_true, if_false]
 refine wpAny_bind (wpAny_holding (wpAny_pyIter_list ht ?_))
 refine wpAny_bind (wpAny_holding (zgS hlt items.size 0 _ _ ⟨_, Heap.get?_push_size _ rfl, rfl, rfl⟩ (ht.push _) (by omega) λ h₁ hit₁ hs₁ => ?_))
 have hall : List.take items.size (List.drop 0 items.toList) = items.toList := by
  rw [List.drop_zero]; exact List.take_of_length_le (by simp)
 rw [hall]
 rw [if_neg (by simp)]
 have ht₁ : h₁.IsList l items := (ht.push _).extBut hs₁.extBut hlt
 refine wpAny_bind (wpAny_holding (wpAny_pyNext_list_end hh hit₁ ht₁ (by simp) λ h₂ he₂ => ?_))
 simp only [Option.isSome_none, Bool.false_eq_true, if_false]
 exact wpAny_pure (h h₂ λ b o hb e => he₂ b o hb (hs₁.extBut b o hb (Heap.get?_push_of_some _ e)))
end
section
variable {X : Cx} {kd : KD} {a b c e tg iter : Expr} {es : List Expr} {body : List Stmt} {fa fb : EF} {pos : Pos} {g : GF} {gs : GFs} {f : SF} {ta : TF} {S S1 S2 : List Nat}
def zsW (K : zD) (n : Nat) (t : TGs) : TG := λ v σ H Q => ∃ a xs, v = .ref a /\ SqL K H a xs /\ xs.length = n /\ t xs σ H Q
theorem zmO {es : List Expr} {k : Nat} {t : TGs} {n : Nat} (hc : X.calm = true) (h : PGs X es t) (hn : (assignEach es X.env).length = n) (hst : (assignEach es X.env).findIdx? (·.1) = none) : PG X (.Tuple es k pos) (zsW X.K n t) := by
 intro pins s σ H v u Q I r hw
 obtain ⟨a, xs, e1, hq, hl, hw⟩ := hw
 subst e1
 cases r
 obtain ⟨its, rv, ht, hz⟩ := I.list hq
 rw [assign_Tuple]
 refine wpAny_bind (wpAny_standAt (ziC (I.ok.hd hc) ht.isList (by simp [hn, <- hl, rv.length]) hst λ h' hx => ?_))
 have I1 : Inv X pins σ H { s with heap := h' } := I.kept (t' := s.toks) λ b o e => hx b o (zzO (Heap.lt_size e)) e
 exact h pins _ σ H xs _ Q I1 (by simpa using rv) hw
theorem zoK {i : Nat} {x : Str} (hN : X.N.Nodup) (hi : X.N[i]? = some x) (hx : Loc X.env.scope x) (hf : X.fn x = true \/ X.env.scope.names.lookup x = some .local) : AG X kd (.Name x pos) [i] (gN i) := by with_unfolding_all exact (zqw (zoe hN hi hx hf) λ v σ H Q h => by
 obtain ⟨F, B, ad, as, y, as', R, rp, e, q⟩ := h
 obtain ⟨hl, e⟩ := yD e
 cases e
 exact q _ _ H (R.put hl (o := .lf y.1 y.2) (.lf rp)) (Grow.less Ve) λ j hj => zzW (λ z => hj (by rw [z]; simp)))
theorem ZK : AGs X kd [] [] gsN := by with_unfolding_all exact (zkm znV λ vs σ H Q h => by
 obtain ⟨F, B, ad, as, ds, as', R, rp, e, q⟩ := h
 cases rp with
 | nil => cases e; exact ⟨rfl, q σ ad H R Grow.refl λ _ _ => rfl⟩
 | cons => cases e)
theorem zW (h1 : AG X kd a S1 g) (h2 : AGs X kd es S2 gs) (hs : (assignEach (a :: es) X.env).map (·.2) = assign a X.env :: (assignEach es X.env).map (·.2)) : AGs X kd (a :: es) (S1 ++ S2) (gsC g gs) := by with_unfolding_all exact (zkm (znp h1 h2 hs) λ vs σ H Q h => by
 obtain ⟨F, B, ad, as, ds, as', R, rp, e, q⟩ := h
 cases rp with
 | nil => cases e
 | cons r rr =>
  obtain ⟨as1, e1, e⟩ := bS_ (show (g _ as).bind _ = _ from e)
  refine ⟨_, _, rfl, F, B, ad, as, _, as1, R, r, e1, λ σ' ad' H' R' g' k' => ?_⟩
  exact ⟨F, B, ad', as1, _, as', R', rr.grow g', e, λ σ2 ad2 H2 R2 g2 k2 => q σ2 ad2 H2 R2 (g'.trans g2) λ j hj => (k2 j λ z => hj (zzJ _ z)).trans (k' j λ z => hj (zzN _ z))⟩)
theorem Y8 {k n : Nat} (hc : X.calm = true) (h : AGs X kd es S gs) (hn : (assignEach es X.env).length = n) (hst : (assignEach es X.env).findIdx? (·.1) = none) : AG X kd (.Tuple es k pos) S (gT n gs) := by
 with_unfolding_all (
 intro pins s σ H v u Q I r hw
 obtain ⟨F, B, ad, as, ⟨st, d⟩, as', R, rp, e, q⟩ := hw
 cases d with
 | tup ds =>
  have e : (if ds.length = n then gs (kids st ds) as else none) = some as' := e
  by_cases hl : ds.length = n
  · rw [if_pos hl] at e
    have go : ∃ a xs, v = .ref a /\ SqT X.K H a xs /\ RpL X.K kd (Lv F B (Gw [] ad) st) H xs ds := by
     cases rp with
     | tup n h r => exact ⟨_, _, rfl, .inl h, r⟩
     | tupK a b c e f r => exact ⟨_, _, rfl, .inr ⟨_, _, _, a, b, c, e, f⟩, r⟩
    obtain ⟨a, xs, rfl, hs, rl⟩ := go
    exact zrD hc h hn hst pins s σ H _ u Q I r ⟨a, xs, rfl, hs, by rw [rl.length, hl], F, B, ad, as, _, as', R, zaK rl, e, q⟩
  · rw [if_neg hl] at e; cases e
 | lst ds =>
  have e : (if ds.length = n then gs (kids st ds) as else none) = some as' := e
  by_cases hl : ds.length = n
  · rw [if_pos hl] at e
    cases rp with
    | lstK a b c r' => exact zmO hc h hn hst pins s σ H _ u Q I r ⟨_, _, rfl, .inr ⟨_, _, _, a, rfl, rfl, rfl, b, c⟩, by rw [r'.length, hl], F, B, ad, as, _, as', R, zaK r', e, q⟩
    | lst n h' r' => exact zmO hc h hn hst pins s σ H _ u Q I r ⟨_, _, rfl, .inl h', by rw [r'.length, hl], F, B, ad, as, _, as', R, zaK r', e, q⟩
  · rw [if_neg hl] at e; cases e
 | _ => cases e)
def zfq (as : AS) (r : RV) : Option (It1 × AS) := (toO as r.frz).bind λ x => match x.1 with | .lf st d => some ((st, d), x.2) | _ => none
theorem zcC {K : zD} {F B : Addr -> Prop} {T : List Addr} {ad : Ad} {as as' : AS} {σ : St} {H : Hp} {v : V} {r : RV} {x : It1} (R : Rel K kd F B T ad as σ H) (h : Za K kd F B T ad σ H v r) (e : zfq as r = some (x, as')) :
 ∃ ad', Rel K kd F B [] ad' as' σ H /\ Rp K kd (Lv F B (Gw [] ad') x.1) H v x.2 /\ ∀ a, Gw [] ad' a -> Gw T ad a := by
 obtain ⟨⟨o, as1⟩, h1, e⟩ := bS_ e
 obtain ⟨ad1, R1, ro, le⟩ := zex R.drop (Za.drop R h) h1
 cases o with
 | lf st d =>
  cases e
  refine ⟨ad1, R1, ?_, λ a y => Gw.drop a (le a y)⟩
  have := zhH ro
  exact this
 | nd k os => cases e
def zdg (f : EF) (g : GF) : SF := λ as => (f as).bind λ p => (zfq p.2 p.1).bind λ q => (g q.1 q.2).bind λ as' => some (.nx as')
theorem zbv (he : AE X kd e fa) (hg : AG X kd tg S g) (hs : swapsWithSole [tg] e pos.line X.env = pure false) (hw : swappedStores [tg] e X.env = pure none) (h1 : (assignEach [tg] X.env).map (·.2) = [assign tg X.env]) :
 ASt X kd (.Assign [tg] e pos) (zdg fa g) := by with_unfolding_all exact (Wl (zmg he hg hs hw h1) λ D σ H h => by
 obtain ⟨F, B, ad, as, o, R, e, q⟩ := h
 obtain ⟨⟨p, as1⟩, h1, e⟩ := bS_ (show (fa as).bind _ = _ from e)
 obtain ⟨⟨x, as2⟩, h2, e⟩ := bS_ e
 obtain ⟨as3, h3, e⟩ := bS_ e
 cases e
 refine ⟨F, B, ad, as, p, as1, R, h1, λ v T' ad' H' R' rv g1 => ?_⟩
 obtain ⟨ad2, R2, rp, le⟩ := zcC R' rv h2
 exact ⟨F, B, ad2, as2, _, as3, R2, rp, h3, λ σ' ad' H' R' g' _ => q σ' ad' H' R' ((g1.trans (Grow.less le)).trans g')⟩)
structure ItOk (K : zD) (kd : KD) (F B : Addr -> Prop) (ad : Ad) (H : Hp) (J : It) (ds : List It1) : Prop where
 all : ∀ (ad2 : Ad) (H2 : Hp), Grow (Gw [] ad) H (Gw [] ad2) H2 -> (∀ st a, Lv F B (Gw [] ad2) st a -> H2 a ≠ none) -> ∀ i, (i < ds.length -> J.go i H2) /\ (ds.length <= i -> J.stop i H2) /\
  ∀ v H3, J.yld i H2 v H3 -> (∀ b o, H2 b = some o -> H3 b = some o) /\ ∀ x, ds[i]? = some x -> Rp K kd (Lv F B (Gw [] ad2) x.1) H3 v x.2
abbrev IF := AS -> Option (List It1 × AS)
def alI (K : zD) (kd : KD) (f : IF) : TI := λ σ H R => ∃ F B ad as ds as', Rel K kd F B [] ad as σ H /\ f as = some (ds, as') /\
 ∀ J ad' H', Rel K kd F B [] ad' as' σ H' -> Grow (Gw [] ad) H (Gw [] ad') H' -> ItOk K kd F B ad' H' J ds -> R J H'
@[irreducible] def AI (X : Cx) (kd : KD) (tg iter : Expr) (f : IF) : Prop := PI X tg iter (alI X.K kd f)
def forL (g : GF) (f : SF) : List It1 -> AS -> Option Out
 | [], as => some (.nx as)
 | d :: r, as => (g d as).bind λ as1 => (f as1).bind λ o => match o with
  | .nx as' => forL g f r as'
  | .ct as' => forL g f r as'
  | .bk as' => some (.nx as')
  | .rt r => some (.rt r)
def Wx (fi : IF) (g : GF) (f : SF) : SF := λ as => (fi as).bind λ p => forL g f p.1 p.2
theorem ZS {fi : IF} (hp : PassesOwn (model X.prog X.w) X.A X.env X.xe) (hc : X.calm = true) (hi : AI X kd tg iter fi) (hg : AG X kd tg S g) (hb : ASs X kd body f) (hs : ∀ x, foldedSetIterable iter X.env x = pure x) :
 ASt X kd (.For tg iter body [] pos) (Wx fi g f) := by with_unfolding_all exact (Wl (zqN hp hc hi hg hb hs) λ D σ H h => by
 obtain ⟨F, B, ad, as, o, R, e, q⟩ := h
 obtain ⟨⟨ds, as1⟩, h1, e⟩ := bS_ (show (fi as).bind _ = _ from e)
 refine ⟨F, B, ad, as, ds, as1, R, h1, λ J ad1 H1 R1 g1 it => ?_⟩
 refine ⟨λ i m σ2 H2 => m + i = ds.length /\ ∃ ad2 as2, Rel X.K kd F B [] ad2 as2 σ2 H2 /\ Grow (Gw [] ad1) H1 (Gw [] ad2) H2 /\ forL g f (ds.drop i) as2 = some o, ⟨ds.length, rfl, ad1, as1, R1, Grow.refl, e⟩, ?_⟩
 rintro i m σ2 H2 ⟨hm, ad2, as2, R2, g2, e2⟩
 obtain ⟨k1, k2, k3⟩ := it.all ad2 H2 g2 R2.trk i
 by_cases hi : i < ds.length
 · refine .inr ⟨k1 hi, λ σ3 H3 => ∃ ad3 as3, Rel X.K kd F B [] ad3 as3 σ3 H3 /\ Grow (Gw [] ad1) H1 (Gw [] ad3) H3 /\ forL g f (ds.drop (i + 1)) as3 = some o, λ σ3 H3 ⟨ad3, as3, R3, g3, e3⟩ => ⟨m - 1, by omega, by omega, ad3, as3, R3, g3, e3⟩, λ v H3 hy => ?_⟩
   obtain ⟨kp, rp⟩ := k3 v H3 hy
   rw [List.drop_eq_getElem_cons hi] at e2
   obtain ⟨as3, e3, e2⟩ := bS_ (show (g _ as2).bind _ = _ from e2)
   obtain ⟨o3, e4, e2⟩ := bS_ e2
   obtain ⟨R3, g3⟩ := R2.more kp
   refine ⟨F, B, ad2, as2, _, as3, R3, rp _ (zzC hi), e3, λ σ4 ad4 H4 R4 g4 _ => ?_⟩
   refine ⟨F, B, ad4, as3, o3, R4, e4, ?_⟩
   have gg := (g2.trans g3).trans g4
   cases o3 with
   | nx as5 => exact λ σ5 ad5 H5 R5 g5 => ⟨ad5, as5, R5, gg.trans g5, e2⟩
   | ct as5 => exact λ σ5 ad5 H5 R5 g5 => ⟨ad5, as5, R5, gg.trans g5, e2⟩
   | bk as5 =>
    cases e2
    exact λ σ5 ad5 H5 R5 g5 => q σ5 ad5 H5 R5 (g1.trans (gg.trans g5))
   | rt r =>
    cases e2
    exact λ v T H5 ro g5 => q v T H5 ro (g1.trans (gg.trans g5))
 · refine .inl ⟨k2 (by omega), ?_⟩
   rw [List.drop_eq_nil_of_le (by omega)] at e2
   cases e2
   exact q σ2 ad2 H2 R2 (g1.trans g2))
def whL (c : TF) (f : SF) : Nat -> AS -> Option Out
 | 0, _ => none
 | n + 1, as => (c as).bind λ p => if p.1 = true then (f p.2).bind λ o => match o with
  | .nx as' => whL c f n as'
  | .ct as' => whL c f n as'
  | .bk as' => some (.nx as')
  | .rt r => some (.rt r) else some (.nx p.2)
theorem znh {n : Nat} (hp : PassesOwn (model X.prog X.w) X.A X.env X.xe) (hc : AT X kd c ta) (hb : ASs X kd body f) : ASt X kd (.While c body [] pos) (whL ta f n) := by with_unfolding_all exact (Wl (zmW hp hc hb) λ D σ H h => by
 obtain ⟨F, B, ad, as, o, R, e, q⟩ := h
 refine ⟨λ m σ2 H2 => ∃ ad2 as2, Rel X.K kd F B [] ad2 as2 σ2 H2 /\ Grow (Gw [] ad) H (Gw [] ad2) H2 /\ whL ta f m as2 = some o, ⟨n, ad, as, R, Grow.refl, e⟩, ?_⟩
 rintro m σ2 H2 ⟨ad2, as2, R2, g2, e2⟩
 cases m with
 | zero => cases e2
 | succ m =>
  obtain ⟨⟨p, as3⟩, e3, e2⟩ := bS_ (show (ta as2).bind _ = _ from e2)
  refine ⟨F, B, ad2, as2, p, as3, R2, e3, λ ad3 H3 R3 g3 => ?_⟩
  cases p with
  | true =>
   rw [if_pos rfl] at e2 ⊢
   obtain ⟨o3, e4, e2⟩ := bS_ e2
   refine ⟨λ σ3 H3 => ∃ ad3 as3, Rel X.K kd F B [] ad3 as3 σ3 H3 /\ Grow (Gw [] ad) H (Gw [] ad3) H3 /\ whL ta f m as3 = some o, λ σ3 H3 h => ⟨m, by omega, h⟩, F, B, ad3, as3, o3, R3, e4, ?_⟩
   have gg := g2.trans g3
   cases o3 with
   | nx as5 => exact λ σ5 ad5 H5 R5 g5 => ⟨ad5, as5, R5, gg.trans g5, e2⟩
   | ct as5 => exact λ σ5 ad5 H5 R5 g5 => ⟨ad5, as5, R5, gg.trans g5, e2⟩
   | bk as5 =>
    cases e2
    exact λ σ5 ad5 H5 R5 g5 => q σ5 ad5 H5 R5 (gg.trans g5)
   | rt r =>
    cases e2
    exact λ v T H5 ro g5 => q v T H5 ro (gg.trans g5)
  | false =>
   rw [if_neg Bool.false_ne_true] at e2 ⊢
   cases e2
   exact q σ2 ad3 H3 R3 (g2.trans g3))
def zhT : It1 -> Option (List It1)
 | (st, .lst ds) => some (kids st ds)
 | (st, .tup ds) => some (kids st ds)
 | _ => none
def ziO (f : EF) : IF := λ as => (f as).bind λ p => (zfq p.2 p.1).bind λ q => (zhT q.1).bind λ ds => some (ds, q.2)
theorem zkt {K : zD} {F B : Addr -> Prop} {ad : Ad} {H : Hp} {a : Addr} {vs : List V} {ds : List It1} (hs : ∀ (ad3 : Ad) (H3 : Hp), Grow (Gw [] ad) H (Gw [] ad3) H3 -> SqL K H3 a vs) (r : RpI K kd F B (Gw [] ad) H vs ds) : ItOk K kd F B ad H (Itl K a) ds := ⟨λ ad3 H3 g3 _ i => by
 have hr3 := hs ad3 H3 g3
 have rl3 := r.grow g3
 refine ⟨λ hi => ?_, λ hi => ⟨_, hr3, by rw [r.length]; exact hi⟩, λ v H4 hy => ?_⟩
 · obtain ⟨u, hu, _⟩ := r.get (zzC hi)
   exact ⟨_, u, hr3, hu⟩
 · obtain ⟨rfl, hv⟩ := hy
   refine ⟨λ _ _ z => z, λ d hd => ?_⟩
   obtain ⟨u, hu, ru⟩ := rl3.get hd
   have := hv _ hr3
   rw [hu] at this
   cases this
   exact ru⟩
theorem zqA {K : zD} {F B : Addr -> Prop} {ad : Ad} {H : Hp} {a : Addr} {vs : List V} {ds : List It1} (hs : ∀ (ad3 : Ad) (H3 : Hp), Grow (Gw [] ad) H (Gw [] ad3) H3 -> SqT K H3 a vs) (r : RpI K kd F B (Gw [] ad) H vs ds) : ItOk K kd F B ad H (Itt K a) ds := ⟨λ ad3 H3 g3 _ i => by
 have hr3 := hs ad3 H3 g3
 have rl3 := r.grow g3
 refine ⟨λ hi => ?_, λ hi => ⟨_, hr3, by rw [r.length]; exact hi⟩, λ v H4 hy => ?_⟩
 · obtain ⟨u, hu, _⟩ := r.get (zzC hi)
   exact ⟨_, u, hr3, hu⟩
 · obtain ⟨rfl, hv⟩ := hy
   refine ⟨λ _ _ z => z, λ d hd => ?_⟩
   obtain ⟨u, hu, ru⟩ := rl3.get hd
   have := hv _ hr3
   rw [hu] at this
   cases this
   exact ru⟩
theorem zhB (he : AE X kd e fa) : AI X kd tg e (ziO fa) := by
 with_unfolding_all (
 intro pins s σ H R I h
 obtain ⟨F, B, ad, as, ds, as', Rl, e, q⟩ := h
 obtain ⟨⟨p, as1⟩, h1, e⟩ := bS_ (show (fa as).bind _ = _ from e)
 obtain ⟨⟨⟨st, x⟩, as2⟩, h2, e⟩ := bS_ e
 obtain ⟨ys, h3, e⟩ := bS_ e
 cases e
 cases x with
 | lst xs =>
  cases h3
  refine zhn he pins s σ H R I ⟨F, B, ad, as, p, as1, Rl, h1, λ v T1 ad1 H1 R1 rv1 g1 => ?_⟩
  obtain ⟨ad2, R2, rp, le⟩ := zcC R1 rv1 h2
  cases rp with
  | lst hn hr rl => exact ⟨_, rfl, ⟨_, .inl hr⟩, q _ ad2 H1 R2 (g1.trans (Grow.less le)) (zkt (λ ad3 H3 g3 => .inl (zaN g3 (λ z => hn (.inr z)) hr)) (zaK rl))⟩
  | lstK a b c rl => exact ⟨_, rfl, ⟨_, .inr ⟨_, _, _, a, rfl, rfl, rfl, b, c⟩⟩, q _ ad2 H1 R2 (g1.trans (Grow.less le)) (zkt (λ ad3 H3 g3 => .inr ⟨_, _, _, a, rfl, rfl, rfl, b, c⟩) (zaK rl))⟩
 | tup xs =>
  cases h3
  refine zjT he pins s σ H R I ⟨F, B, ad, as, p, as1, Rl, h1, λ v T1 ad1 H1 R1 rv1 g1 => ?_⟩
  obtain ⟨ad2, R2, rp, le⟩ := zcC R1 rv1 h2
  have go : ∃ a ys, v = .ref a /\ (∀ (ad3 : Ad) (H3 : Hp), Grow (Gw [] ad2) H1 (Gw [] ad3) H3 -> SqT X.K H3 a ys) /\ RpL X.K kd (Lv F B (Gw [] ad2) st) H1 ys xs := by
   cases rp with
   | tup n h r => exact ⟨_, _, rfl, λ ad3 H3 g3 => .inl (zaN g3 (λ z => n (.inr z)) h), r⟩
   | tupK a b c e f r => exact ⟨_, _, rfl, λ ad3 H3 g3 => .inr ⟨_, _, _, a, b, c, e, f⟩, r⟩
  obtain ⟨a, ys, rfl, hs, rl⟩ := go
  exact ⟨_, rfl, ⟨_, hs ad2 H1 Grow.refl⟩, q _ ad2 H1 R2 (g1.trans (Grow.less le)) (zqA hs (zaK rl))⟩
 | _ => cases h3)
def v6 (lo : Int) (n : Nat) : List It1 := (List.range n).map λ (i : Nat) => (true, D.int (lo + (i : Int)))
theorem zqm {K : zD} {F B : Addr -> Prop} {ad : Ad} {H : Hp} (lo : Int) (n : Nat) : ItOk K kd F B ad H (Itr lo n) (v6 lo n) := ⟨λ ad2 H2 g _ i => by
 have hl : (v6 lo n).length = n := by unfold v6; simp
 refine ⟨λ hi => by rw [hl] at hi; exact hi, λ hi => by rw [hl] at hi; exact hi, λ v H3 hy => ?_⟩
 obtain ⟨rfl, rfl⟩ := hy
 refine ⟨λ _ _ z => z, λ d hd => ?_⟩
 have hi : i < n := by rw [<- hl]; exact (zzE.mp hd).1
 unfold v6 at hd
 rw [zzG, List.getElem?_range hi] at hd
 cases hd
 exact .int _⟩
def zsq : List D -> Option D
 | [x] => some x
 | _ => none
theorem zoH {ds : List D} {d : D} (h : zsq ds = some d) : ds = [d] := by
 cases ds with
 | nil => cases h
 | cons x r =>
  cases r with
  | nil => cases h; rfl
  | cons _ _ => cases h
def xW (ds : List D) : Option (List It1) := ((zsq ds).bind asI).bind λ j => if -(2 ^ 62) <= j /\ j < 2 ^ 62 then some (v6 0 j.toNat) else none
theorem zkz {ds : List D} {xs : List It1} (h : xW ds = some xs) : ∃ j, ds = [.int j] /\ (if -(2 ^ 62) <= j /\ j < 2 ^ 62 then some (v6 0 j.toNat) else none) = some xs := by
 obtain ⟨j, h1, h⟩ := bS_ h
 obtain ⟨d, h2, h1⟩ := bS_ h1
 cases znQ h1
 exact ⟨j, zoH h2, h⟩
def xR (fr : AF) (h : List D -> Option (List It1)) : IF := λ as => (fr as).bind λ p => (views p.2 p.1).bind λ ds => (h ds.1).bind λ xs => some (xs, p.2)
theorem ZV {fr : AF} {p : Pos} (hg : Gl X "range") (hm : X.mg "range" = none) (ha : AA X kd [a] fr) (hs : starEach [a] X.env = [(false, eval a X.env)]) : AI X kd tg (.Call (.Name "range" p) [a] [] pos) (xR fr xW) := by
 with_unfolding_all (
 intro pins s σ H R I h
 obtain ⟨F, B, ad, as, ds, as', Rl, e, q⟩ := h
 obtain ⟨⟨ps, as1⟩, h1, e⟩ := bS_ (show (fr as).bind _ = _ from e)
 obtain ⟨⟨xs, lv⟩, h2, e⟩ := bS_ e
 obtain ⟨ys, h3, e⟩ := bS_ e
 cases e
 obtain ⟨j, rfl, h3⟩ := zkz h3
 · obtain ⟨hj, e3⟩ := yD h3
   cases e3
   refine zgt hg hm ha hs pins s σ H R I ⟨F, B, ad, as, ps, _, Rl, h1, λ vs ad1 H1 R1 rv1 g1 => ?_⟩
   have vl := zaG R1 rv1 h2
   cases vl with
   | cons v1 v2 =>
    cases v2
    cases v1
    exact ⟨j, rfl, hj.1, hj.2, q _ ad1 H1 R1 g1 (zqm 0 _)⟩)
theorem Rel.mut {K : zD} {F B : Addr -> Prop} {T fo : List Addr} {ad : Ad} {as : AS} {σ : St} {H : Hp} {i : Nat} {l : Addr} {fp fp' : List Addr} {n : O} {u : HO} (R : Rel K kd F B T ad as σ H) (hi : i < as.length) (hl : ad i = l :: fp) (hs : σ[i]? = some (some (.ref l)))
 (hsub : ∀ a ∈ fp' ++ fo, a ∈ fp ++ T) (hnd : (fp' ++ fo).Nodup) (hu : H l ≠ none)
 (ro : ∀ (H' : Hp) (G' : Addr -> Prop), H' l = some u -> Grow (Gw T ad) H G' H' -> (∀ a ∈ fp', ∀ w, H a = some w -> H' a = some w) -> RoS K kd F B G' H' (.ref l) n (l :: fp')) :
 Rel K kd F B fo (Wh ad i (l :: fp')) (as.set i (some n)) σ (upd H l u) /\ Grow (Gw T ad) H (Gw fo (Wh ad i (l :: fp'))) (upd H l u) := by
 have hli : l ∈ ad i := by rw [hl]; exact zzD
 have lT : l ∉ T := R.dis i l hli
 have lfp : l ∉ fp := by have := R.nd i; rw [hl] at this; exact (zzU.mp this).1
 have lsub : ∀ a ∈ fp' ++ fo, a ≠ l := λ a m e => by
  subst e
  rcases zzK.mp (hsub _ m) with z | z
  · exact lfp z
  · exact lT z
 have sub : ∀ a ∈ fp' ++ fo, Gw T ad a := λ a m => by
  rcases zzK.mp (hsub a m) with z | z
  · exact .inr ⟨i, by rw [hl]; exact zzB _ z⟩
  · exact .inl z
 have gsub : ∀ a, Gw fo (Wh ad i (l :: fp')) a -> Gw T ad a := λ a z => by
  rcases z with z | ⟨j, z⟩
  · exact sub a (zzJ _ z)
  · by_cases e : j = i
    · subst e
      rw [xx] at z
      rcases zzA.mp z with z | z
      · subst z; exact .inr ⟨j, hli⟩
      · exact sub a (zzN _ z)
    · rw [xN e] at z; exact .inr ⟨j, z⟩
 have g : Grow (Gw T ad) H (Gw fo (Wh ad i (l :: fp'))) (upd H l u) := ⟨λ b w h n => by rw [yO (λ e => n (by subst e; exact .inr ⟨i, hli⟩))]; exact h, λ b z => .inl (gsub b z)⟩
 have kn : ∀ a, H a ≠ none -> upd H l u a ≠ none := λ a z => by
  by_cases e : a = l
  · subst e; rw [xQ]; simp
  · rw [yO e]; exact z
 obtain ⟨hnd1, hnd2, hnd3⟩ := List.nodup_append.mp hnd
 have inT : ∀ j a, j ≠ i -> a ∈ ad j -> a ∈ fp' ++ fo -> False := λ j a hj m m' => by
  rcases zzK.mp (hsub a m') with z | z
  · exact hj (R.inj j i a m (by rw [hl]; exact zzB _ z))
  · exact R.dis j a m z
 refine ⟨⟨by rw [zzS]; exact R.len, λ j hj => ?_, λ j => ?_, λ j k a h1 h2 => ?_, hnd2, λ j a h1 h2 => ?_, λ a z => kn a (R.ftr a z), λ a z => ?_, λ a z => ⟨kn a (R.gtr a (gsub a z)).1, (R.gtr a (gsub a z)).2⟩, λ j s e => ?_⟩, g⟩
 · rw [zzS] at hj
   rw [xN (by omega)]; exact R.out j hj
 · by_cases e : j = i
   · subst e; rw [xx]
     exact zzU.mpr ⟨λ m => lsub l (zzN _ m) rfl, hnd1⟩
   · rw [xN e]; exact R.nd j
 · by_cases e : j = i
   · subst e
     by_cases e' : k = j
     · exact e'.symm
     · rw [xx] at h1
       rw [xN e'] at h2
       rcases zzA.mp h1 with z | z
       · subst z; exact R.inj j k a hli h2
       · exact (inT k a e' h2 (zzN _ z)).elim
   · rw [xN e] at h1
     by_cases e' : k = i
     · subst e'
       rw [xx] at h2
       rcases zzA.mp h2 with z | z
       · subst z; exact R.inj j k a h1 hli
       · exact (inT j a e h1 (zzN _ z)).elim
     · rw [xN e'] at h2
       exact R.inj j k a h1 h2
 · by_cases e : j = i
   · subst e
     rw [xx] at h1
     rcases zzA.mp h1 with z | z
     · subst z; exact lsub a (zzJ _ h2) rfl
     · exact hnd3 a z a h2 rfl
   · rw [xN e] at h1
     exact inT j a e h1 (zzJ _ h2)
 · obtain ⟨b1, b2, b3⟩ := R.btr a z
   exact ⟨kn a b1, b2, λ y => b3 (gsub a y)⟩
 · by_cases q : j = i
   · subst q
     rw [List.getElem?_set_self hi] at e
     cases e
     rw [xx]
     refine ⟨_, hs, ro _ _ xQ g λ a m w h => ?_⟩
     rw [yO (lsub a (zzN _ m))]; exact h
   · rw [zzW (Ne.symm q)] at e
     rw [xN q]
     refine (R.sl j s e).grow g λ a m w h => ?_
     rw [yO (λ z => q (R.inj j i l (by rw [<- z]; exact m) hli))]; exact h
abbrev MG := List O -> List O -> Option (List O × O)
def vL (i : Nat) (fr : DF) (g : MG) : EF := λ as => match as[i]? with
 | some (some (.nd .ls _)) => (fr as).bind λ p => match p.2[i]? with
  | some (some (.nd .ls os)) => (g os p.1).bind λ z => some (.ow z.2, p.2.set i (some (.nd .ls z.1)))
  | _ => none
 | _ => none
def MuD (X : Cx) (kd : KD) (r : V -> List V -> Hp -> VK -> Prop) (g : MG) : Prop :=
 ∀ (F B G : Addr -> Prop) (l : Addr) (vs ws : List V) (os es os' : List O) (o : O) (fp fq : List Addr) (H : Hp) (Q : VK), H l = some (.lst vs) -> WW X.K kd F B G H vs os fp -> WW X.K kd F B G H ws es fq -> (fp ++ fq).Nodup -> g os es = some (os', o) ->
  (∀ v vs' fp' fo, WW X.K kd F B G H vs' os' fp' -> RoS X.K kd F B G H v o fo -> (∀ a ∈ fp' ++ fo, a ∈ fp ++ fq) -> (fp' ++ fo).Nodup -> Q v (upd H l (.lst vs'))) -> r (.ref l) ws H Q
theorem zrP {i : Nat} {fr : DF} {g : MG} {r : V -> List V -> Hp -> VK -> Prop} (hr : MuD X kd r g)
 {σ : St} {H : Hp} {Q : VK} (h : al X.K kd (vL i fr g) σ H Q) : tBM X.K "list" r (zlt i) (alD X.K kd fr) σ H Q := by
 obtain ⟨F, B, ad, as, z, as', R, e, q⟩ := h
 unfold vL at e
 cases k : as[i]? with
 | none => rw [k] at e; cases e
 | some a0 =>
  rw [k] at e
  match a0, e, k with
  | some (.nd .ls os0), e, k =>
   obtain ⟨⟨es, as1⟩, h1, e⟩ := bS_ (show (fr as).bind _ = _ from e)
   obtain ⟨v0, hs0, ro0⟩ := R.sl i _ k
   generalize hfp0 : ad i = fp0 at ro0
   cases ro0 with
   | ls hH0 rl0 =>
   rename_i l vs0 fp00
   refine ⟨_, hs0, .inl ⟨rfl, _, .inl (.inl hH0)⟩, F, B, ad, as, es, as1, R, h1, λ ws T1 ad1 H1 R1 ro1 g1 => ?_⟩
   cases k2 : as1[i]? with
   | none => rw [k2] at e; cases e
   | some a2 =>
    rw [k2] at e
    match a2, e, k2 with
    | some (.nd .ls os), e, k2 =>
     obtain ⟨⟨os', o⟩, h3, e⟩ := bS_ (show (g os es).bind _ = _ from e)
     cases e
     obtain ⟨v1, hs1, ro2⟩ := R1.sl i _ k2
     rw [hs0] at hs1
     cases hs1
     generalize hfp : ad1 i = fp1 at ro2
     cases ro2 with
     | ls hH rl =>
     rename_i vs fp
     have hnd : (fp ++ T1).Nodup := List.nodup_append.mpr ⟨by have := R1.nd i; rw [hfp] at this; exact (zzU.mp this).2, R1.tnd, λ a m b m' e => by
          subst e; exact R1.dis i a (by rw [hfp]; exact zzB _ m) m'⟩
     refine hr F B (Gw T1 ad1) _ vs ws os es os' o fp T1 H1 Q hH rl ro1 hnd h3 λ v vs' fp' fo rl' ro' hsub hnd' => ?_
     obtain ⟨R3, g3⟩ := R1.mut (n := .nd .ls os') (u := .lst vs') (zzE.mp k2).1 hfp hs0 hsub hnd' (by rw [hH]; simp) λ H' G' hl' gr kp => .ls hl' (WW.grow gr kp rl')
     have lno : ∀ a ∈ fo, ∀ w, H1 a = some w -> upd H1 l (.lst vs') a = some w := λ a m w h => by
          rw [yO (λ e => ?_)]
          · exact h
          · subst e
            rcases zzK.mp (hsub _ (zzJ _ m)) with z | z
            · have := R1.nd i; rw [hfp] at this; exact (zzU.mp this).1 z
            · exact R1.dis i _ (by rw [hfp]; exact zzD) z
     exact q v fo _ _ R3 (RoS.grow g3 lno ro') (g1.trans g3)
end
end PF
end
section
set_option exponentiation.threshold 5000
namespace PF
open PySem PySem.Spec PyProof.Rows L2
section
variable {K : zD} {kd : KD} {O : Addr -> Prop} {H : Hp} {Q : VK}
theorem xj {d : D} {v : V} (q : RQ K kd O H Q (.im d)) (r : Rp K kd O H v d) : Q v H := q v H (λ _ _ z => z) r
theorem zkW {vs : List V} {ds : List D} {p : Addr} {o : HO} (hp : H p = none) (r : RpL K kd O H vs ds) : RpL K kd (Un2 O (· = p)) (upd H p o) vs ds :=
 RpL.grow (F := O) (W := λ _ => False) ⟨λ b u q _ => by rw [yO (xU q hp)]; exact q, λ b z => .inr (by rw [z]; exact hp)⟩ (r.less λ a z => z.elim id False.elim)
theorem Xo {p : Addr} {o : HO} (hp : H p = none) : ∀ b u, H b = some u -> upd H p o b = some u := λ b u q => by rw [yO (xU q hp)]; exact q
theorem zdh {vs : List V} {ds : List D} (q : RQ K kd O H Q (.fl ds)) (r : RpL K kd O H vs ds) : ∀ p, H p = none -> Q (.ref p) (upd H p (.lst vs)) := λ p hp =>
 q p vs _ hp (Xo hp) xQ (zkW hp r)
theorem zhg {vs : List V} {ds : List D} (ht : ∀ a, O a -> H a ≠ none) (q : RQ K kd O H Q (.im (.tup ds))) (r : RpL K kd O H vs ds) : ∀ p, H p = none -> Q (.ref p) (upd H p (.tup vs)) := λ p hp =>
 q _ _ (Xo hp) (.tup (λ z => ht p z hp) (.inl xQ) ((zkW hp r).less λ a z => .inl z))
end
def big : Nat := 2 ^ 4000
theorem ziR {i : Int} (h : i.natAbs < big) : Builtin.Int.intBits i <= 2 ^ 20 := by
 unfold Builtin.Int.intBits
 split
 · exact Nat.zero_le _
 · have : i.natAbs.log2 < 4000 := by
    rcases Nat.eq_zero_or_pos i.natAbs with h0 | hp
    · rw [h0]; decide
    · exact (Nat.log2_lt (Nat.ne_of_gt hp)).mpr h
   have e : (2 : Nat) ^ 20 = 1048576 := by decide
   omega
def onI (f : Int -> Int -> Option R0) (x y : D) : Option R0 := (asI x).bind λ i => (asI y).bind λ j => f i j
def zsR (x y : D) : Option R0 := match x with
 | .int i => (asI y).bind λ j => some (.im (.int (i + j)))
 | .str x => (asS y).bind λ y => if x.length + y.length <= sizeLine then some (.im (.str (x ++ y))) else none
 | .lst xs => (asL y).bind λ ys => if xs.length + ys.length <= sizeLine then some (.fl (xs ++ ys)) else none
 | .tup xs => (asT y).bind λ ys => if xs.length + ys.length <= sizeLine then some (.im (.tup (xs ++ ys))) else none
 | _ => none
def zsV (x y : D) : Option R0 := match x with
 | .int i => (asI y).bind λ j => if i.natAbs < big /\ j.natAbs < big then some (.im (.int (i * j))) else none
 | .lst xs => (asI y).bind λ k => if -(2 ^ 63) <= k /\ k < 2 ^ 63 /\ xs.length * k.toNat <= sizeLine then some (.fl (List.replicate k.toNat xs).flatten) else none
 | .tup xs => (asI y).bind λ k => if 1 <= k /\ k < 2 ^ 63 /\ xs.length ≠ 0 /\ xs.length * k.toNat <= sizeLine then some (.im (.tup (List.replicate k.toNat xs).flatten)) else none
 | _ => none
def Z3 (o : Operator) (x y : D) : Option R0 := match o with
 | .Add => zsR x y
 | .Sub => onI (λ i j => some (.im (.int (i - j)))) x y
 | .Mult => zsV x y
 | .FloorDiv => onI (λ i j => if 0 < j /\ j.natAbs < big then some (.im (.int (i / j))) else none) x y
 | .Mod => onI (λ i j => if 0 < j then some (.im (.int (i % j))) else none) x y
 | .Pow => onI (λ i j => if 0 <= j /\ j <= 1000000 /\ i.natAbs < 2 ^ 64 then some (.im (.int (i ^ j.toNat))) else none) x y
 | _ => none
theorem Vh {K : zD} {kd : KD} {O : Addr -> Prop} {H : Hp} {v : V} {d : D} {i : Int} (h : Vw K kd O H v d) (e : asI d = some i) : d = .int i /\ v = .int i := by
 cases h with
 | int j => cases e; exact ⟨rfl, rfl⟩
 | _ => cases e
theorem zqx {K : zD} {kd : KD} {O : Addr -> Prop} {H : Hp} {v : V} {d : D} {i : Str} (h : Vw K kd O H v d) (e : asS d = some i) : d = .str i /\ v = .str i := by
 cases h with
 | str j => cases e; exact ⟨rfl, rfl⟩
 | _ => cases e
theorem Vq {K : zD} {kd : KD} {O : Addr -> Prop} {H : Hp} {v w : V} {d e : D} {f : Int -> Int -> Option R0} {r : R0} (vx : Vw K kd O H v d) (vy : Vw K kd O H w e) (h : onI f d e = some r) : ∃ i j, v = .int i /\ w = .int j /\ f i j = some r := by
 obtain ⟨i, h1, h⟩ := bS_ (show (asI d).bind _ = _ from h)
 obtain ⟨j, h2, h⟩ := bS_ h
 exact ⟨i, j, (Vh vx h1).2, (Vh vy h2).2, h⟩
section
variable {X : Cx} {kd : KD}
theorem zod : OpR X (binaryOp .Add) (λ x y H Q => ∃ l b xs zs, x = .ref l /\ y = .ref b /\ RdL X.K H l xs /\ RdL X.K H b zs /\ xs.length + zs.length <= sizeLine /\ ∀ p, H p = none -> Q (.ref p) (upd H p (.lst (xs ++ zs)))) := by
 intro pins s σ H x y v u Q I rx ry h
 obtain ⟨l, b, xs, zs, rfl, rfl, hH, hB, hz, q⟩ := h
 cases rx
 cases ry
 obtain ⟨z, its, n, r, e⟩ := zjo I hH
 obtain ⟨z2, its2, n2, r2, e2⟩ := zjo I hB
 have hl := r.length
 have hl2 := r2.length
 refine PySem.P.add_list e e2 ?_ (by rw [zzF, zzF]; omega)
 have ea : its.toArray ++ its2.toArray = (its ++ its2).toArray := by simp
 rw [ea]
 exact ⟨.ref _, _, I.lnew (t' := s.toks) (r.append r2) (by rw [zzH]; omega), rfl, q _ I.fresh⟩
theorem zob : OpR X (binaryOp .Mult) (λ x y H Q => ∃ l k xs, x = .ref l /\ y = .int k /\ RdL X.K H l xs /\ -(2 ^ 63) <= k /\ k < 2 ^ 63 /\ xs.length * k.toNat <= sizeLine /\
 ∀ p, H p = none -> Q (.ref p) (upd H p (.lst (List.replicate k.toNat xs).flatten))) := by
 intro pins s σ H x y v u Q I rx ry h
 obtain ⟨l, k, xs, rfl, rfl, hH, h1, h2, hz, q⟩ := h
 cases rx
 obtain ⟨t, rfl⟩ := ry
 obtain ⟨z, its, n, r, e⟩ := zjo I hH
 have hl := r.length
 have hlen : its.toArray.size * k.toNat <= sizeLine := by rw [zzF, <- hl]; exact hz
 have hcap : ¬ its.toArray.size * k.toNat > (2 ^ 63 - 1) / 8 := by
  have : (sizeLine : Nat) <= (2 ^ 63 - 1) / 8 := by decide
  omega
 have hfit : ¬ (!Builtin.List.listFitsIndex k) = true := by
  rw [fitsIndex_both h1 h2]
  exact Bool.false_ne_true
 have hlong : ¬ Builtin.List.listTooLong (its.toArray.size * k.toNat) = true := by
  rw [znk hlen]
  exact Bool.false_ne_true
 have hnew : List.foldl (λ x1 x2 => x1 ++ x2) #[] (List.replicate (if its.toArray.isEmpty = true then 0 else k.toNat) its.toArray) = (List.replicate k.toNat its).flatten.toArray := by
  have f0 : ∀ m : Nat, List.foldl (λ x1 x2 => x1 ++ x2) #[] (List.replicate m its.toArray) = (List.replicate m its).flatten.toArray := λ m => by
   have := foldl_rep its m []
   rw [List.nil_append] at this
   exact this
  rw [f0]
  cases its with
  | nil => simp
  | cons a r' => rw [if_neg (by simp)]
 refine wpAny_binaryOp_repeat_ref (T := "list") (U := "int") (by decide) ⟨_, e, rfl⟩ (λ s' => typeIs_int s' k t) noFill_list_mul F.fills_int_mul F.slot_int_rmul repeat_list F.slot_int_index.lookup
  (call_meets F.slot_int_rmul (typeIs_int s k t) F.entry_int_rmul (F.args_int_rmul_2 _ _) (int___rmul___int_list k t l its.toArray n)
   ⟨e, rfl, ⟨_, e, rfl⟩, call_meets F.slot_list_mul ⟨_, e, rfl⟩ F.entry_list_mul (F.args_list_mul_2 _ _) (AutoListH.list___mul___list_int_3 l its.toArray n k t hfit hcap hlong) ⟨e, ?_⟩⟩)
 rw [hnew]
 refine ⟨.ref _, _, I.lnew (t' := s.toks) (r.rep k.toNat) ?_, rfl, q _ I.fresh⟩
 rw [len_rep, Nat.mul_comm]
 exact hz
theorem tuple_addW0 (l b : Addr) (items items2 : Array Value) (n n2 : Nat) (dd dd2 : Option Addr) (sl sl2 : Array (Option Value)) (h0 : items.isEmpty = true) :
 Meets (Builtin.«tuple.__add__» { pos := [.ref l, .ref b] }) (λ _ R s => s.heap.get? l = some { cls := .type "tuple", dict := dd, data := .seq items n, slots := sl } /\ s.heap.get? b = some { cls := .type "tuple", dict := dd2, data := .seq items2 n2, slots := sl2 } /\ R (.ok (.ret (.ref b))) s) :=
 .of_wp λ prog w A R s h => by
  obtain ⟨hp, g, d, tk, os⟩ := s; obtain ⟨hl, hb, h⟩ := h
  have f2 := AutoSeq1.sub_tuple_tuple
  wp_walk using wpAny_loadPart' hl, wpAny_loadPart' hb
  exact ⟨_, rfl, h⟩
theorem ziZ (l : Addr) (items : Array Value) (n : Nat) (dd : Option Addr) (sl : Array (Option Value)) (u : Tok) :
 Meets (Builtin.«tuple.__mul__» { pos := [.ref l, .int 1 u] }) (λ _ R s => s.heap.get? l = some { cls := .type "tuple", dict := dd, data := .seq items n, slots := sl } /\ R (.ok (.ret (.ref l))) s) :=
 .of_wp λ prog w A R s h => by
  obtain ⟨hp, g, d, tk, os⟩ := s; obtain ⟨hl, h⟩ := h
  have f2 := AutoSeq1.sub_tuple_tuple
  wp_walk using wpAny_loadPart' hl
  exact ⟨_, rfl, h⟩
theorem zig (l : Addr) (items its2 : Array Value) (n : Nat) (dd : Option Addr) (sl : Array (Option Value)) (x : Int) (u : Tok) (c1 : ¬ (decide (x < -2 ^ 63) || decide (x ≥ 2 ^ 63)) = true) (c2 : ¬ (items.isEmpty || x == 1) = true) (c3 : ¬ (decide (x <= 0) || items.isEmpty) = true)
 (hcap : ¬ (items.size : Int) * x > (2 ^ 63 - 1) / 8) (ht : ¬ Builtin.Tuple.tupleTooMany (items.size * x) = true) (hz : ¬ (List.foldl (λ x1 x2 => x1 ++ x2) #[] (List.replicate x.toNat items)).size > sizeLine) :
 Meets (Builtin.«tuple.__mul__» { pos := [.ref l, .int x u] }) (λ _ R s => s.heap.get? l = some { cls := .type "tuple", dict := dd, data := .seq items n, slots := sl } /\ R (.ok (.ret (.ref s.heap.objs.size))) { s with heap := s.heap.push { cls := .type "tuple", data := .seq (List.foldl (λ x1 x2 => x1 ++ x2) #[] (List.replicate x.toNat items)) } }) :=
 .of_wp λ prog w A R s h => by
  obtain ⟨hp, g, d, tk, os⟩ := s; obtain ⟨hl, h⟩ := h
  have f2 := AutoSeq1.sub_tuple_tuple
  wp_walk using wpAny_loadPart' hl
  rw [if_neg c1]
  wp_walk using wpAny_loadPart' hl
  rw [if_neg hcap]
  wp_walk
  exact ⟨_, rfl, h⟩
theorem zdj : fillsNumberSlot (Value.type "tuple") "mul" = pure false := PySem.fillsNumberSlot_seq rfl rfl rfl rfl
theorem zgZ : seqRepeat? (Value.type "tuple") = pure (some (Value.builtin "tuple.__mul__")) := W.of_pureOf rfl
theorem zel (a : Int) (t : Tok) (l : Addr) (items : Array Value) (n : Nat) (dd : Option Addr) (sl : Array (Option Value)) :
 Meets (Builtin.«int.__rmul__» { pos := [.int a t, .ref l] }) (λ _ R s => s.heap.get? l = some { cls := .type "tuple", dict := dd, data := .seq items n, slots := sl } /\ R (.ok (.ret .notImplemented)) s) :=
 .of_wp λ prog w A R s h => by
  obtain ⟨hp, g, d, tk, os⟩ := s; obtain ⟨hl, h⟩ := h
  wp_walk using wpAny_load' hl, wpAny_loadPart' hl
  exact ⟨_, rfl, h⟩
theorem znW : OpR X (binaryOp .Add) (λ x y H Q => ∃ a b ys, x = .ref a /\ y = .ref b /\ SqT X.K H a [] /\ SqT X.K H b ys /\ Q (.ref b) H) := by
 intro pins s σ H x y v u Q I rx ry h
 obtain ⟨a, b, ys, rfl, rfl, ha, hb, q⟩ := h
 cases rx
 cases ry
 obtain ⟨its, r1, p1, _⟩ := I.tuple ha
 obtain ⟨its2, r2, p2, _⟩ := I.tuple hb
 cases r1
 obtain ⟨⟨cls, dd, data, sl⟩, ho, hc, n, hd⟩ := id p1
 obtain ⟨⟨cls2, dd2, data2, sl2⟩, ho2, hc2, n2, hd2⟩ := id p2
 simp only at hc hd hc2 hd2
 subst hc hd hc2 hd2
 exact concat_meets ⟨_, ho, rfl⟩ ⟨_, ho2, rfl⟩ noFill_tuple_add seq_tuple_add PySem.F.slot_tuple_add PySem.F.entry_tuple_add (PySem.F.args_tuple_add_2 _ _) (tuple_addW0 a b _ _ n n2 dd dd2 sl sl2 rfl) ⟨ho, ho2, ⟨.ref b, H, I, rfl, q⟩⟩
theorem znR : OpR X (binaryOp .Mult) (λ x y H Q => ∃ l k xs, x = .ref l /\ y = .int k /\ SqT X.K H l xs /\ xs ≠ [] /\ 1 <= k /\ k < 2 ^ 63 /\ xs.length * k.toNat <= sizeLine /\ (k = 1 -> Q (.ref l) H) /\
 (2 <= k -> ∀ p, H p = none -> Q (.ref p) (upd H p (.tup (List.replicate k.toNat xs).flatten)))) := by
 intro pins s σ H x y v u Q I rx ry h
 obtain ⟨l, k, xs, rfl, rfl, hH, hne, h1, h2, hz, q1, q2⟩ := h
 cases rx
 obtain ⟨t, rfl⟩ := ry
 obtain ⟨its, r, p, _⟩ := I.tuple hH
 have hl := r.length
 have hlen : its.toArray.size * k.toNat <= sizeLine := by rw [zzF, <- hl]; exact hz
 have hki : ((its.toArray.size : Int) * k) = ((its.toArray.size * k.toNat : Nat) : Int) := by
  rw [zzT, Int.toNat_of_nonneg (by omega)]
 have he : its.toArray.isEmpty = false := by
  cases its with
  | nil => rw [List.length_nil] at hl; exact absurd (List.length_eq_zero_iff.mp hl) hne
  | cons a r' => rfl
 have hnew : List.foldl (λ x1 x2 => x1 ++ x2) #[] (List.replicate k.toNat its.toArray) = (List.replicate k.toNat its).flatten.toArray := by
  have := foldl_rep its k.toNat []
  rw [List.nil_append] at this
  exact this
 obtain ⟨⟨cls, dd, data, sl⟩, ho, hc, n, hd⟩ := id p
 simp only at hc hd
 subst hc hd
 refine wpAny_binaryOp_repeat_ref (T := "tuple") (U := "int") (by decide) ⟨_, ho, rfl⟩ (λ s' => typeIs_int s' k t) zdj F.fills_int_mul F.slot_int_rmul zgZ F.slot_int_index.lookup
  (call_meets F.slot_int_rmul (typeIs_int s k t) F.entry_int_rmul (F.args_int_rmul_2 _ _) (zel k t l its.toArray n dd sl) ⟨ho, rfl, ⟨_, ho, rfl⟩, ?_⟩)
 by_cases hk : k = 1
 · subst hk
   exact call_meets F.slot_tuple_mul ⟨_, ho, rfl⟩ F.entry_tuple_mul (F.args_tuple_mul_2 _ _) (ziZ l its.toArray n dd sl t) ⟨ho, ⟨.ref l, H, I, rfl, q1 rfl⟩⟩
 · have hfl : (List.replicate k.toNat xs).flatten.length <= sizeLine := by rw [len_rep, Nat.mul_comm]; exact hz
   refine call_meets F.slot_tuple_mul ⟨_, ho, rfl⟩ F.entry_tuple_mul (F.args_tuple_mul_2 _ _) (zig l its.toArray #[] n dd sl k t (by simp; omega) (by rw [he]; simpa using hk) (by rw [he]; simp; omega) ?_ ?_ ?_) ⟨ho, ?_⟩
   · rw [hki]
     have : ((sizeLine : Nat) : Int) <= (2 ^ 63 - 1) / 8 := by decide
     omega
   · unfold Builtin.Tuple.tupleTooMany
     rw [hki]
     simp only [gt_iff_lt, decide_eq_true_eq]
     omega
   · rw [hnew, zzF, len_rep, Nat.mul_comm]
     rw [zzF] at hlen
     omega
   · rw [hnew]
     refine ⟨.ref s.heap.objs.size, _, I.laid (t' := s.toks) (o := .tup (List.replicate k.toNat xs).flatten) (λ b ob q => Heap.get?_push_of_some _ q) (zzL _) ?_, rfl, q2 (by omega) _ (I.hok.fresh (zzL _))⟩
     exact ⟨hfl, _, r.rep k.toNat, IsTup.new _ _⟩
theorem zq (op : Operator) : OpD X kd (binaryOp op) (Z3 op) := by
 intro pins s σ H x y v u Q I rx ry h
 obtain ⟨O, d, e, r, ht, vx, vy, he, q⟩ := h
 cases op with
 | Add =>
  cases vx with
  | int i =>
   obtain ⟨j, h1, he⟩ := bS_ (show (asI e).bind _ = _ from he)
   obtain ⟨rfl, rfl⟩ := Vh vy h1
   cases he
   exact zqG pins s σ H _ _ v u Q I rx ry ⟨_, _, rfl, rfl, xj q (.int _)⟩
  | str i =>
   obtain ⟨j, h1, he⟩ := bS_ (show (asS e).bind _ = _ from he)
   obtain ⟨rfl, rfl⟩ := zqx vy h1
   obtain ⟨c, rfl⟩ := yD he
   exact zjI pins s σ H _ _ v u Q I rx ry ⟨_, _, rfl, rfl, c, xj q (.str _)⟩
  | lst hx rx' =>
   obtain ⟨j, h1, he⟩ := bS_ (show (asL e).bind _ = _ from he)
   cases zcF h1
   obtain ⟨c, rfl⟩ := yD he
   cases vy with
   | lst hy ry' => exact zod pins s σ H _ _ v u Q I rx ry ⟨_, _, _, _, rfl, rfl, hx, hy, by rw [rx'.length, ry'.length]; exact c, zdh q (rx'.append ry')⟩
  | @tup a1 vs1 ds1 r1 hx rx' =>
   obtain ⟨j, h1, he⟩ := bS_ (show (asT e).bind _ = _ from he)
   cases zrl h1
   obtain ⟨c, rfl⟩ := yD he
   cases vy with
   | tup r2 hy ry' =>
    by_cases h0 : vs1 = ([] : List V)
    · subst h0
      cases rx'
      exact znW pins s σ H _ _ v u Q I rx ry ⟨_, _, _, rfl, rfl, hx, hy, xj q r2⟩
    refine zpq pins s σ H _ _ v u Q I rx ry ⟨_, _, _, _, rfl, rfl, hx, hy, h0, by rw [rx'.length, ry'.length]; exact c, λ hn => ?_, λ hn => zhg ht q (rx'.append ry')⟩
    · subst hn
      cases ry'
      rw [List.append_nil] at q
      exact xj q r1
  | _ => cases he
 | Sub =>
  obtain ⟨i, j, rfl, rfl, he⟩ := Vq vx vy he
  cases he
  exact zrd pins s σ H _ _ v u Q I rx ry ⟨_, _, rfl, rfl, xj q (.int _)⟩
 | Mult =>
  cases vx with
  | int i =>
   obtain ⟨j, h1, he⟩ := bS_ (show (asI e).bind _ = _ from he)
   obtain ⟨rfl, rfl⟩ := Vh vy h1
   obtain ⟨c, rfl⟩ := yD he
   obtain ⟨t, rfl⟩ := rx
   obtain ⟨t', rfl⟩ := ry
   exact mul_int ⟨.int _, H, I.tok _, ⟨_, rfl⟩, xj q (.int _)⟩ (IntMulOk.of_bits (ziR c.1) (ziR c.2))
  | lst hx rx' =>
   obtain ⟨j, h1, he⟩ := bS_ (show (asI e).bind _ = _ from he)
   obtain ⟨rfl, rfl⟩ := Vh vy h1
   obtain ⟨c, rfl⟩ := yD he
   exact zob pins s σ H _ _ v u Q I rx ry ⟨_, _, _, rfl, rfl, hx, c.1, c.2.1, by rw [rx'.length]; exact c.2.2, zdh q (rx'.rep _)⟩
  | tup r1 hx rx' =>
   obtain ⟨j, h1, he⟩ := bS_ (show (asI e).bind _ = _ from he)
   obtain ⟨rfl, rfl⟩ := Vh vy h1
   obtain ⟨c, rfl⟩ := yD he
   refine znR pins s σ H _ _ v u Q I rx ry ⟨_, _, _, rfl, rfl, hx, λ e => ?_, c.1, c.2.1, by rw [rx'.length]; exact c.2.2.2, λ e => ?_, λ _ => zhg ht q (rx'.rep _)⟩
   · have := rx'.length
     rw [e] at this
     exact c.2.2.1 this.symm
   · subst e
     refine xj q ?_
     rw [show (1 : Int).toNat = 1 from rfl, List.replicate_one, List.flatten_cons, List.flatten_nil, List.append_nil]
     exact r1
  | _ => cases he
 | FloorDiv =>
  obtain ⟨i, j, rfl, rfl, he⟩ := Vq vx vy he
  obtain ⟨c, rfl⟩ := yD he
  obtain ⟨t, rfl⟩ := rx
  obtain ⟨t', rfl⟩ := ry
  refine floordiv_int (by omega) ?_ (.inl (PyProof.noPylong_of_log2 ?_))
  · rw [Int.fdiv_eq_ediv_of_nonneg _ (by omega)]
    exact ⟨.int _, H, I.tok _, ⟨_, rfl⟩, xj q (.int _)⟩
  · exact zzI ((Nat.log2_lt (by have := c.1; omega)).mpr (show _ < 2 ^ 4000 from c.2)) (by decide)
 | Mod =>
  obtain ⟨i, j, rfl, rfl, he⟩ := Vq vx vy he
  obtain ⟨c, rfl⟩ := yD he
  exact zpU pins s σ H _ _ v u Q I rx ry ⟨_, _, rfl, rfl, c, xj q (.int _)⟩
 | Pow =>
  obtain ⟨i, j, rfl, rfl, he⟩ := Vq vx vy he
  obtain ⟨c, rfl⟩ := yD he
  exact zrn pins s σ H _ _ v u Q I rx ry ⟨_, _, rfl, rfl, c, xj q (.int _)⟩
 | _ => cases he
end
def eqL (f : D -> D -> Option Bool) : List D -> List D -> Option Bool
 | [], [] => some true
 | x :: r, y :: t => (f x y).bind λ b => (eqL f r t).bind λ c => some (b && c)
 | _, _ => some false
def eqF : Nat -> D -> D -> Option Bool
 | 0, _, _ => none
 | _ + 1, .non, .non => some true
 | _ + 1, .bl a, .bl b => some (a == b)
 | _ + 1, .int a, .int b => some (a == b)
 | _ + 1, .str a, .str b => some (a == b)
 | _ + 1, .bl a, .int b => some ((if a then 1 else 0) == b)
 | _ + 1, .int a, .bl b => some (a == (if b then 1 else 0))
 | n + 1, .lst xs, .lst ys => eqL (eqF n) xs ys
 | n + 1, .tup xs, .tup ys => eqL (eqF n) xs ys
 | _ + 1, .dct _, _ => none
 | _ + 1, .cl _, _ => none
 | _ + 1, .ob _ _ _, _ => none
 | _ + 1, _, .dct _ => none
 | _ + 1, _, .cl _ => none
 | _ + 1, _, .ob _ _ _ => none
 | _ + 1, _, _ => some false
def eqJ (f : D -> D -> Option Bool) (xs ys : List D) (j : Nat) : Bool := match xs[j]?, ys[j]? with
 | some d, some e => (f d e).getD false
 | _, _ => false
theorem zei {f : D -> D -> Option Bool} : ∀ {xs ys : List D} {b : Bool}, eqL f xs ys = some b -> (∀ (j : Nat) d e, xs[j]? = some d -> ys[j]? = some e -> ∃ c, f d e = some c) /\
 b = ((List.range (min xs.length ys.length)).all (eqJ f xs ys) && xs.length == ys.length)
 | [], [], b, h => by cases h; exact ⟨λ j d e h => by simp at h, by simp⟩
 | [], y :: t, b, h => by cases h; exact ⟨λ j d e h => by simp at h, by simp⟩
 | x :: r, [], b, h => by cases h; exact ⟨λ j d e _ h => by simp at h, by simp⟩
 | x :: r, y :: t, b, h => by
  obtain ⟨b1, h1, h⟩ := bS_ (show (f x y).bind _ = _ from h)
  obtain ⟨c1, h2, h⟩ := bS_ h
  cases h
  obtain ⟨k1, k2⟩ := zei h2
  refine ⟨λ j d e hd he => ?_, ?_⟩
  · cases j with
    | zero => simp at hd he; subst hd he; exact ⟨b1, h1⟩
    | succ j => exact k1 j d e (by simpa using hd) (by simpa using he)
  · have e0 : min (x :: r).length (y :: t).length = min r.length t.length + 1 := by simp only [zzR]; omega
    rw [e0, List.range_succ_eq_map, List.all_cons, List.all_map, k2]
    have e1 : eqJ f (x :: r) (y :: t) 0 = b1 := by show (f x y).getD false = b1; rw [h1]; rfl
    have e2 : (eqJ f (x :: r) (y :: t) ∘ Nat.succ) = eqJ f r t := by
     funext j
     show eqJ f (x :: r) (y :: t) (j + 1) = _
     unfold eqJ
     simp
    have e3 : ((x :: r).length == (y :: t).length) = (r.length == t.length) := by
     by_cases hh : r.length = t.length <;> simp [hh]
    rw [e1, e2, e3, Bool.and_assoc]
structure EqAll (A : Around) (s : Shared) (u v : Value) (b : Bool) : Prop where
 rc : SeqAt.RcAt A s u v b
 ne : SeqAt.RcNeAt A s u v (!b)
 eq : SeqAt.EqAt A s u v b
section
variable {X : Cx} {kd : KD} {pins : List (Addr × Obj)} {σ : St} {H : Hp} {s : Shared} {O : Addr -> Prop}
theorem zkR (I : Inv X pins σ H s) {a : Addr} {xs ys : List V} (h : SqT X.K H a xs) (h' : SqL X.K H a ys) : False := by
 obtain ⟨_, _, ⟨o, e, c, _⟩, _⟩ := I.tuple h
 obtain ⟨_, _, ⟨o', n, e', c', _⟩, _⟩ := I.list h'
 rw [e] at e'
 cases e'
 rw [c] at c'
 exact absurd c' (by decide)
theorem zla (I : Inv X pins σ H s) : ∀ (n : Nat) (v : V) (d e : D) (b : Bool), Vw X.K kd O H v d -> Vw X.K kd O H v e -> eqF n d e = some b -> b = true
 | 0, _, _, _, _, _, _, h => by cases h
 | n + 1, v, d, e, b, h1, h2, h => by
  have lst : ∀ (vs : List V) (ds es : List D) (b : Bool), RpL X.K kd O H vs ds -> RpL X.K kd O H vs es -> eqL (eqF n) ds es = some b -> b = true := by
   intro vs
   induction vs with
   | nil => intro ds es b r1 r2 h; cases r1; cases r2; cases h; rfl
   | cons v vs ih =>
    intro ds es b r1 r2 h
    cases r1 with
    | cons a1 r1 =>
     cases r2 with
     | cons a2 r2 =>
      obtain ⟨b1, k1, h⟩ := bS_ (show (eqF n _ _).bind _ = _ from h)
      obtain ⟨c1, k2, h⟩ := bS_ h
      cases h
      rw [zla I n _ _ _ _ a1.vw a2.vw k1, ih _ _ _ r1 r2 k2]
      rfl
  cases h1 with
  | non => cases h2; cases h; rfl
  | bl x => cases h2; cases h; simp
  | int x => cases h2; cases h; simp
  | str x => cases h2; cases h; simp
  | tup r1 s1 l1 =>
   cases h2 with
   | tup r2 s2 l2 =>
    have := I.tuple_inj s1 s2
    subst this
    exact lst _ _ _ _ l1 l2 h
   | lst s2 l2 => exact (zkR I s1 s2.sq).elim
   | _ => cases h
  | lst s1 l1 =>
   cases h2 with
   | tup r2 s2 l2 => exact (zkR I s2 s1.sq).elim
   | lst s2 l2 =>
    have := I.list_inj s1.sq s2.sq
    subst this
    exact lst _ _ _ _ l1 l2 h
   | _ => cases h
  | _ => cases h
theorem zhO (I : Inv X pins σ H s) : ∀ (n : Nat) (A : Around) (x y : V) (d e : D) (u v : Value) (b : Bool), A.units + n < cLine -> Vw X.K kd O H x d -> Vw X.K kd O H y e -> RelV x u -> RelV y v -> eqF n d e = some b -> EqAll A s u v b
 | 0, _, _, _, _, _, _, _, _, _, _, _, _, _, h => by cases h
 | n + 1, A, x, y, d, e, u, v, b, hu, h1, h2, r1, r2, h => by
  have hu0 : A.units < cLine := by omega
  have itm : ∀ {vs ws : List V} {its its2 : List Value} {ds es : List D}, RpL X.K kd O H vs ds -> RpL X.K kd O H ws es -> Vals vs its -> Vals ws its2 -> (∀ (j : Nat) d e, ds[j]? = some d -> es[j]? = some e -> ∃ c, eqF n d e = some c) ->
   ∀ j (h1 : j < its.toArray.size) (h2 : j < its2.toArray.size), SeqAt.EqAt A.in1 s its.toArray[j] its2.toArray[j] (eqJ (eqF n) ds es j) := by
   intro vs ws its its2 ds es l1 l2 v1 v2 hd j j1 j2
   have q1 : j < ds.length := by rw [<- l1.length, v1.length]; simpa using j1
   have q2 : j < es.length := by rw [<- l2.length, v2.length]; simpa using j2
   obtain ⟨a1, ha1, ra1⟩ := l1.get (zzC q1)
   obtain ⟨a2, ha2, ra2⟩ := l2.get (zzC q2)
   obtain ⟨u1, hu1, ru1⟩ := v1.get ha1
   obtain ⟨u2, hu2, ru2⟩ := v2.get ha2
   obtain ⟨c, hc⟩ := hd j _ _ (zzC q1) (zzC q2)
   have e1 : its.toArray[j] = u1 := by
    have := (zzE.mp hu1).2
    simpa using this
   have e2 : its2.toArray[j] = u2 := by
    have := (zzE.mp hu2).2
    simpa using this
   rw [e1, e2]
   have e3 : eqJ (eqF n) ds es j = c := by
    unfold eqJ
    rw [zzC q1, zzC q2]
    show (eqF n _ _).getD false = c
    rw [hc]; rfl
   rw [e3]
   exact (zhO I n A.in1 a1 a2 _ _ u1 u2 c (by show A.units + 1 + n < cLine; omega) ra1.vw ra2.vw ru1 ru2 hc).eq
  have same : ∀ {a a' : Addr}, x = .ref a -> y = .ref a' -> a = a' -> b = true := by
   intro a a' e1 e2 e3
   subst e1 e2 e3
   exact zla I (n + 1) _ _ _ _ h1 h2 h
  cases h1 with
  | non =>
   cases r1
   cases h2 with
   | non => cases r2; cases h; exact ⟨SeqAt.RcAt.none_none, SeqAt.RcNeAt.none_none, SeqAt.EqAt.same _⟩
   | bl => cases r2; cases h; exact ⟨SeqAt.RcAt.none_bool _, SeqAt.RcNeAt.none_bool _, SeqAt.EqAt.none_bool _⟩
   | int => obtain ⟨t, rfl⟩ := r2; cases h; exact ⟨SeqAt.RcAt.none_int _ _, SeqAt.RcNeAt.none_int _ _, SeqAt.EqAt.none_int _ _⟩
   | str => obtain ⟨t, rfl⟩ := r2; cases h; exact ⟨SeqAt.RcAt.none_str _ _, SeqAt.RcNeAt.none_str _ _, SeqAt.EqAt.none_str _ _⟩
   | tup r s2 l2 =>
    cases r2; cases h
    obtain ⟨its, rv, p, _⟩ := I.tuple s2
    exact ⟨SeqAt.RcAt.none_tuple p hu0, SeqAt.RcNeAt.none_tuple p hu0, SeqAt.EqAt.none_tuple p hu0⟩
   | lst s2 l2 =>
    cases r2; cases h
    obtain ⟨its, rv, p, _⟩ := I.list s2.sq
    exact ⟨SeqAt.RcAt.none_list p.isList hu0, SeqAt.RcNeAt.none_list p.isList hu0, SeqAt.EqAt.none_list p.isList hu0⟩
   | _ => cases h
  | bl c =>
   cases r1
   cases h2 with
   | non => cases r2; cases h; exact ⟨SeqAt.RcAt.bool_none _, SeqAt.RcNeAt.bool_none _, SeqAt.EqAt.bool_none _⟩
   | bl => cases r2; cases h; exact ⟨SeqAt.RcAt.bool_bool _ _, SeqAt.RcNeAt.bool_bool _ _, SeqAt.EqAt.bool_bool _ _⟩
   | int => obtain ⟨t, rfl⟩ := r2; cases h; exact ⟨SeqAt.RcAt.bool_int _ _ _, SeqAt.RcNeAt.bool_int _ _ _, SeqAt.EqAt.bool_int _ _ _⟩
   | str => obtain ⟨t, rfl⟩ := r2; cases h; exact ⟨SeqAt.RcAt.bool_str _ _ _, SeqAt.RcNeAt.bool_str _ _ _, SeqAt.EqAt.bool_str _ _ _⟩
   | tup r s2 l2 =>
    cases r2; cases h
    obtain ⟨its, rv, p, _⟩ := I.tuple s2
    exact ⟨SeqAt.RcAt.bool_tuple _ p hu0, SeqAt.RcNeAt.bool_tuple _ p hu0, SeqAt.EqAt.bool_tuple _ p hu0⟩
   | lst s2 l2 =>
    cases r2; cases h
    obtain ⟨its, rv, p, _⟩ := I.list s2.sq
    exact ⟨SeqAt.RcAt.bool_list _ p.isList hu0, SeqAt.RcNeAt.bool_list _ p.isList hu0, SeqAt.EqAt.bool_list _ p.isList hu0⟩
   | _ => cases h
  | int c =>
   obtain ⟨t0, rfl⟩ := r1
   cases h2 with
   | non => cases r2; cases h; exact ⟨SeqAt.RcAt.int_none _ _, SeqAt.RcNeAt.int_none _ _, SeqAt.EqAt.int_none _ _⟩
   | bl => cases r2; cases h; exact ⟨SeqAt.RcAt.int_bool _ _ _, SeqAt.RcNeAt.int_bool _ _ _, SeqAt.EqAt.int_bool _ _ _⟩
   | int => obtain ⟨t, rfl⟩ := r2; cases h; exact ⟨SeqAt.RcAt.int_int _ _ _ _, SeqAt.RcNeAt.int_int _ _ _ _, SeqAt.EqAt.int_int _ _ _ _⟩
   | str => obtain ⟨t, rfl⟩ := r2; cases h; exact ⟨SeqAt.RcAt.int_str _ _ _ _, SeqAt.RcNeAt.int_str _ _ _ _, SeqAt.EqAt.int_str _ _ _ _⟩
   | tup r s2 l2 =>
    cases r2; cases h
    obtain ⟨its, rv, p, _⟩ := I.tuple s2
    exact ⟨SeqAt.RcAt.int_tuple _ _ p hu0, SeqAt.RcNeAt.int_tuple _ _ p hu0, SeqAt.EqAt.int_tuple _ _ p hu0⟩
   | lst s2 l2 =>
    cases r2; cases h
    obtain ⟨its, rv, p, _⟩ := I.list s2.sq
    exact ⟨SeqAt.RcAt.int_list _ _ p.isList hu0, SeqAt.RcNeAt.int_list _ _ p.isList hu0, SeqAt.EqAt.int_list _ _ p.isList hu0⟩
   | _ => cases h
  | str c =>
   obtain ⟨t0, rfl⟩ := r1
   cases h2 with
   | non => cases r2; cases h; exact ⟨SeqAt.RcAt.str_none _ _, SeqAt.RcNeAt.str_none _ _, SeqAt.EqAt.str_none _ _⟩
   | bl => cases r2; cases h; exact ⟨SeqAt.RcAt.str_bool _ _ _, SeqAt.RcNeAt.str_bool _ _ _, SeqAt.EqAt.str_bool _ _ _⟩
   | int => obtain ⟨t, rfl⟩ := r2; cases h; exact ⟨SeqAt.RcAt.str_int _ _ _ _, SeqAt.RcNeAt.str_int _ _ _ _, SeqAt.EqAt.str_int _ _ _ _⟩
   | str => obtain ⟨t, rfl⟩ := r2; cases h; exact ⟨SeqAt.RcAt.str_str _ _ _ _, SeqAt.RcNeAt.str_str _ _ _ _, SeqAt.EqAt.str_str _ _ _ _⟩
   | tup r s2 l2 =>
    cases r2; cases h
    obtain ⟨its, rv, p, _⟩ := I.tuple s2
    exact ⟨SeqAt.RcAt.str_tuple _ _ p hu0, SeqAt.RcNeAt.str_tuple _ _ p hu0, SeqAt.EqAt.str_tuple _ _ p hu0⟩
   | lst s2 l2 =>
    cases r2; cases h
    obtain ⟨its, rv, p, _⟩ := I.list s2.sq
    exact ⟨SeqAt.RcAt.str_list _ _ p.isList hu0, SeqAt.RcNeAt.str_list _ _ p.isList hu0, SeqAt.EqAt.str_list _ _ p.isList hu0⟩
   | _ => cases h
  | @tup a1 vs1 ds1 r s1 l1 =>
   cases r1
   obtain ⟨its1, rv1, p1, _⟩ := I.tuple s1
   cases h2 with
   | non => cases r2; cases h; exact ⟨SeqAt.RcAt.tuple_none p1 hu0, SeqAt.RcNeAt.tuple_none p1 hu0, SeqAt.EqAt.tuple_none p1 hu0⟩
   | bl => cases r2; cases h; exact ⟨SeqAt.RcAt.tuple_bool _ p1 hu0, SeqAt.RcNeAt.tuple_bool _ p1 hu0, SeqAt.EqAt.tuple_bool _ p1 hu0⟩
   | int => obtain ⟨t, rfl⟩ := r2; cases h; exact ⟨SeqAt.RcAt.tuple_int _ _ p1 hu0, SeqAt.RcNeAt.tuple_int _ _ p1 hu0, SeqAt.EqAt.tuple_int _ _ p1 hu0⟩
   | str => obtain ⟨t, rfl⟩ := r2; cases h; exact ⟨SeqAt.RcAt.tuple_str _ _ p1 hu0, SeqAt.RcNeAt.tuple_str _ _ p1 hu0, SeqAt.EqAt.tuple_str _ _ p1 hu0⟩
   | @tup a2 vs2 ds2 r' s2 l2 =>
    cases r2
    obtain ⟨its2, rv2, p2, _⟩ := I.tuple s2
    obtain ⟨k1, k2⟩ := zei h
    have he := itm l1 l2 rv1 rv2 k1
    have eb : ((List.range (min its1.toArray.size its2.toArray.size)).all (eqJ (eqF n) ds1 ds2) && its1.toArray.size == its2.toArray.size) = b := by
     rw [k2, zzF, zzF, <- rv1.length, <- rv2.length, l1.length, l2.length]
    have b1 := SeqAt.RcAt.tuples p1 p2 hu0 he
    have b2 := SeqAt.RcNeAt.tuples p1 p2 hu0 he
    rw [eb] at b1 b2
    refine ⟨b1, b2, ?_⟩
    by_cases ha : a1 = a2
    · have hb := same rfl rfl ha
      subst ha
      rw [hb]
      exact SeqAt.EqAt.same _
    · exact SeqAt.EqAt.of_refs ha b1
   | lst s2 l2 =>
    cases r2; cases h
    obtain ⟨its, rv, p, _⟩ := I.list s2.sq
    exact ⟨SeqAt.RcAt.tuple_list p1 p.isList hu0, SeqAt.RcNeAt.tuple_list p1 p.isList hu0, SeqAt.EqAt.tuple_list p1 p.isList hu0⟩
   | _ => cases h
  | @lst a1 vs1 ds1 s1 l1 =>
   cases r1
   obtain ⟨its1, rv1, p1, _⟩ := I.list s1.sq
   cases h2 with
   | non => cases r2; cases h; exact ⟨SeqAt.RcAt.list_none p1.isList hu0, SeqAt.RcNeAt.list_none p1.isList hu0, SeqAt.EqAt.list_none p1.isList hu0⟩
   | bl => cases r2; cases h; exact ⟨SeqAt.RcAt.list_bool _ p1.isList hu0, SeqAt.RcNeAt.list_bool _ p1.isList hu0, SeqAt.EqAt.list_bool _ p1.isList hu0⟩
   | int => obtain ⟨t, rfl⟩ := r2; cases h; exact ⟨SeqAt.RcAt.list_int _ _ p1.isList hu0, SeqAt.RcNeAt.list_int _ _ p1.isList hu0, SeqAt.EqAt.list_int _ _ p1.isList hu0⟩
   | str => obtain ⟨t, rfl⟩ := r2; cases h; exact ⟨SeqAt.RcAt.list_str _ _ p1.isList hu0, SeqAt.RcNeAt.list_str _ _ p1.isList hu0, SeqAt.EqAt.list_str _ _ p1.isList hu0⟩
   | tup r' s2 l2 =>
    cases r2; cases h
    obtain ⟨its2, rv2, p2, _⟩ := I.tuple s2
    exact ⟨SeqAt.RcAt.list_tuple p1.isList p2 hu0, SeqAt.RcNeAt.list_tuple p1.isList p2 hu0, SeqAt.EqAt.list_tuple p1.isList p2 hu0⟩
   | @lst a2 vs2 ds2 s2 l2 =>
    cases r2
    obtain ⟨its2, rv2, p2, _⟩ := I.list s2.sq
    obtain ⟨k1, k2⟩ := zei h
    have he := itm l1 l2 rv1 rv2 k1
    have ez1 : its1.toArray.size = _ := zzF.trans (rv1.length.symm.trans l1.length)
    have ez2 : its2.toArray.size = _ := zzF.trans (rv2.length.symm.trans l2.length)
    have both : SeqAt.RcAt A s (.ref a1) (.ref a2) b /\ SeqAt.RcNeAt A s (.ref a1) (.ref a2) (!b) := by
     by_cases hz : its1.toArray.size = its2.toArray.size
     · have b1 := SeqAt.RcAt.lists p1.isList p2.isList hz hu0 he
       have b2 := SeqAt.RcNeAt.lists p1.isList p2.isList hz hu0 he
       have eb : (List.range its1.toArray.size).all (eqJ (eqF n) ds1 ds2) = b := by
        rw [k2, <- ez1, <- ez2, <- hz, Nat.min_self]
        simp
       rw [eb] at b1 b2
       exact ⟨b1, b2⟩
     · have hz' : (its1.toArray.size != its2.toArray.size) = true := by simpa using hz
       have eb : b = false := by
        rw [k2, <- ez1, <- ez2]
        have : (its1.toArray.size == its2.toArray.size) = false := by simpa using hz
        rw [this, Bool.and_false]
       rw [eb]
       exact ⟨SeqAt.RcAt.lists_lengths p1.isList p2.isList hz' hu0, SeqAt.RcNeAt.lists_lengths p1.isList p2.isList hz' hu0⟩
    refine ⟨both.1, both.2, ?_⟩
    by_cases ha : a1 = a2
    · have hb := same rfl rfl ha
      subst ha
      rw [hb]
      exact SeqAt.EqAt.same _
    · exact SeqAt.EqAt.of_refs ha both.1
   | _ => cases h
  | _ => cases h
end
structure DkAt (P : Program) (w : World) (h : Heap) (a : Addr) (kvs : List (Key × V)) : Prop where
 le : kvs.length <= sizeLine
 ns : (a == sysModules) = false
 ex : ∃ vs, KV kvs vs /\ h.DictOf (Yj P w) a vs
structure KdOk (X : Cx) (kd : KD) : Prop where
 inj : ∀ a k k', kd a k -> kd a k' -> k = k'
 inK : ∀ a k, kd a k -> ∃ o, X.K.lookup a = some o
 at_ : ∀ a k h, kd a k -> X.K.In h -> DkAt X.prog X.w h a k
section
variable {X : Cx} {kd : KD} {pins : List (Addr × Obj)} {σ : St} {H : Hp} {s : Shared} {O : Addr -> Prop}
theorem zgp (I : Inv X pins σ H s) (hk : KdOk X kd) {a : Addr} {kvs : List (Key × V)} (h : Rd H a (.dK kvs) \/ kd a kvs) : DkAt X.prog X.w s.heap a kvs := by
 rcases h with h | h
 · obtain ⟨z, hd, vs, rel, dd⟩ := zsp I.hok h
   exact ⟨z, hd, vs, rel, dd⟩
 · exact hk.at_ _ _ _ h I.kIn
theorem zmI (I : Inv X pins σ H s) : ∀ (n : Nat) (v : V) (d e x : D) (b c : Bool), Vw X.K kd O H v d -> Vw X.K kd O H v e -> eqF n d x = some b -> eqF n e x = some c -> b = c
 | 0, _, _, _, _, _, _, _, _, h, _ => by cases h
 | n + 1, v, d, e, x, b, c, h1, h2, h, h' => by
  have lst : ∀ (vs : List V) (ds es xs : List D) (b c : Bool), RpL X.K kd O H vs ds -> RpL X.K kd O H vs es -> eqL (eqF n) ds xs = some b -> eqL (eqF n) es xs = some c -> b = c := by
   intro vs
   induction vs with
   | nil => intro ds es xs b c r1 r2 h h'; cases r1; cases r2; exact Option.some.inj (h.symm.trans h')
   | cons v vs ih =>
    intro ds es xs b c r1 r2 h h'
    cases r1 with
    | cons a1 r1 =>
     cases r2 with
     | cons a2 r2 =>
      cases xs with
      | nil => cases h; cases h'; rfl
      | cons x xs =>
       obtain ⟨b1, k1, h⟩ := bS_ (show (eqF n _ _).bind _ = _ from h)
       obtain ⟨c1, k2, h⟩ := bS_ h
       obtain ⟨b2, k3, h'⟩ := bS_ (show (eqF n _ _).bind _ = _ from h')
       obtain ⟨c2, k4, h'⟩ := bS_ h'
       cases h; cases h'
       rw [zmI I n _ _ _ _ _ _ a1.vw a2.vw k1 k3, ih _ _ _ _ _ r1 r2 k2 k4]
  cases h1 with
  | tup r1 s1 l1 =>
   cases h2 with
   | tup r2 s2 l2 =>
    have := I.tuple_inj s1 s2
    subst this
    cases x with
    | tup xs => exact lst _ _ _ _ _ _ l1 l2 h h'
    | _ => exact Option.some.inj (h.symm.trans h')
   | lst s2 l2 => exact (zkR I s1 s2.sq).elim
   | _ => cases h'
  | lst s1 l1 =>
   cases h2 with
   | tup r2 s2 l2 => exact (zkR I s2 s1.sq).elim
   | lst s2 l2 =>
    have := I.list_inj s1.sq s2.sq
    subst this
    cases x with
    | lst xs => exact lst _ _ _ _ _ _ l1 l2 h h'
    | _ => exact Option.some.inj (h.symm.trans h')
   | _ => cases h'
  | dct s1 l1 => cases h
  | cl => cases h
  | ob => cases h
  | _ => cases h2; exact Option.some.inj (h.symm.trans h')
end
def zof : D -> Option Key
 | .int i => some (.inl i)
 | .str x => some (.inr x)
 | _ => none
def zhL (kvs : List (Key × D)) (k : Key) : Option D := (kvs.find? λ kv => decide (kv.1 = k)).map (·.2)
theorem zhd {K : zD} {kd : KD} {O : Addr -> Prop} {H : Hp} (k : Key) {vs : List (Key × V)} {ds : List (Key × D)} (h : RpM K kd O H vs ds) : (∃ v d, zcG vs k = some v /\ zhL ds k = some d /\ Rp K kd O H v d) \/ (zcG vs k = none /\ zhL ds k = none) :=
 RpM.ind (P := λ vs ds => (∃ v d, zcG vs k = some v /\ zhL ds k = some d /\ Rp K kd O H v d) \/ (zcG vs k = none /\ zhL ds k = none)) (.inr ⟨rfl, rfl⟩) (λ {k' v d vs ds} a _ ih => by
  by_cases e : k' = k
  · left
    refine ⟨_, _, ?_, ?_, a⟩
    · unfold zcG; simp [e]
    · unfold zhL; simp [e]
  · rcases ih with ⟨v, d, h1, h2, h3⟩ | ⟨h1, h2⟩
    · left
      refine ⟨v, d, ?_, ?_, h3⟩
      · unfold zcG at h1 ⊢; simpa [e] using h1
      · unfold zhL at h2 ⊢; simpa [e] using h2
    · right
      refine ⟨?_, ?_⟩
      · unfold zcG at h1 ⊢; simpa [e] using h1
      · unfold zhL at h2 ⊢; simpa [e] using h2) h
def anyF (f : D -> Option Bool) : List D -> Option Bool
 | [] => some false
 | x :: r => (f x).bind λ b => (anyF f r).bind λ c => some (b || c)
def blR (b : Bool) : R0 := .im (.bl b)
def inP (x : D) : D -> Option Bool
 | .lst ys => anyF (λ y => eqF 50 y x) ys
 | .tup ys => anyF (λ y => eqF 50 y x) ys
 | .str y => match x with | .str i => some (!(Builtin.Str.occurrences y i 0 y.length 1).isEmpty) | _ => none
 | .dct kvs => (zof x).bind λ k => some (zhL kvs k).isSome
 | _ => none
def isP : D -> D -> Option Bool
 | d, .non => some (match d with | .non => true | _ => false)
 | d, .bl b => match d with | .bl c => some (c == b) | _ => some false
 | _, _ => none
def zjV (f : Int -> Int -> Bool) : D -> D -> Option R0 := onI λ i j => some (blR (f i j))
def yZ (o : CmpOp) (d e : D) : Option R0 := match o with
 | .Eq => (eqF 60 d e).bind λ b => some (blR b)
 | .NotEq => (eqF 60 d e).bind λ b => some (blR !b)
 | .Lt => zjV (λ i j => decide (i < j)) d e
 | .LtE => zjV (λ i j => decide (i <= j)) d e
 | .Gt => zjV (λ i j => decide (j < i)) d e
 | .GtE => zjV (λ i j => decide (j <= i)) d e
 | .In => (inP d e).bind λ b => some (blR b)
 | .NotIn => (inP d e).bind λ b => some (blR !b)
 | .Is => (isP d e).bind λ b => some (blR b)
 | .IsNot => (isP d e).bind λ b => some (blR !b)
theorem zaF {o : Option Bool} {f : Bool -> Bool} {r : R0} (h : (o.bind λ b => some (blR (f b))) = some r) : ∃ k, r = .im (.bl k) := by
 obtain ⟨b, _, h⟩ := bS_ h
 cases h
 exact ⟨_, rfl⟩
theorem zee {x y : D} {f : Int -> Int -> Bool} {r : R0} (h : zjV f x y = some r) : ∃ k, r = .im (.bl k) := by
 obtain ⟨i, _, h⟩ := bS_ (show (asI x).bind _ = _ from h)
 obtain ⟨j, _, h⟩ := bS_ h
 cases h
 exact ⟨_, rfl⟩
theorem yW (op : CmpOp) (x y : D) (r : R0) (h : yZ op x y = some r) : ∃ k, r = .im (.bl k) := by
 cases op with
 | Eq => exact zaF (f := id) h
 | NotEq => exact zaF (f := not) h
 | Lt => exact zee h
 | LtE => exact zee h
 | Gt => exact zee h
 | GtE => exact zee h
 | In => exact zaF (f := id) h
 | NotIn => exact zaF (f := not) h
 | Is => exact zaF (f := id) h
 | IsNot => exact zaF (f := not) h
section
variable {X : Cx} {kd : KD} {pins : List (Addr × Obj)} {σ : St} {H : Hp} {s : Shared} {O : Addr -> Prop}
noncomputable def eqW (K : zD) (kd : KD) (O : Addr -> Prop) (H : Hp) (n : Nat) (x : D) (u : Value) : Bool := @decide (∃ v d, RelV v u /\ Rp K kd O H v d /\ eqF n d x = some true) (Classical.propDecidable _)
theorem zhj (I : Inv X pins σ H s) (hk : KdOk X kd) {n : Nat} {x d : D} {v : V} {u : Value} {b : Bool} (r : RelV v u) (p : Rp X.K kd O H v d) (e : eqF n d x = some b) : eqW X.K kd O H n x u = b := by
 unfold eqW
 cases b with
 | true => exact @decide_eq_true _ (Classical.propDecidable _) ⟨v, d, r, p, e⟩
 | false =>
  refine @decide_eq_false _ (Classical.propDecidable _) λ ⟨v', d', r', p', e'⟩ => ?_
  have := r.inj r'
  subst this
  exact Bool.noConfusion (zmI I n _ _ _ _ _ _ p.vw p'.vw e e')
theorem zed (I : Inv X pins σ H s) (hk : KdOk X kd) {n : Nat} {x : D} {vs : List V} {us : List Value} {ds : List D} {b : Bool} (hv : Vals vs us) (h : RpL X.K kd O H vs ds) (e : anyF (λ y => eqF n y x) ds = some b) : us.any (eqW X.K kd O H n x) = b :=
 RpL.ind (P := λ vs ds => ∀ us b, Vals vs us -> anyF (λ y => eqF n y x) ds = some b -> us.any (eqW X.K kd O H n x) = b) (λ us b hv e => by cases e; cases hv; rfl) (λ {v d vs ds} a _ ih us b hv h => by
  cases hv with
  | cons r t =>
   obtain ⟨b1, h1, h⟩ := bS_ (show (eqF n _ x).bind _ = _ from h)
   obtain ⟨c1, h2, h⟩ := bS_ h
   cases h
   rw [List.any_cons, zhj I hk r a h1, ih _ _ t h2]) h us b hv e
theorem WR {f : D -> Option Bool} : ∀ {ds : List D} {b : Bool}, anyF f ds = some b -> ∀ d ∈ ds, ∃ c, f d = some c
 | [], _, _, d, hd => by simp at hd
 | x :: r, b, h, d, hd => by
  obtain ⟨b1, h1, h⟩ := bS_ (show (f x).bind _ = _ from h)
  obtain ⟨c1, h2, h⟩ := bS_ h
  rcases zzA.mp hd with e | e
  · subst e; exact ⟨b1, h1⟩
  · exact WR h2 d e
theorem zcg (I : Inv X pins σ H s) (hk : KdOk X kd) {n : Nat} {A : Around} (hu : A.units + n < cLine) {x : V} {v : Value} {d : D} (vx : Vw X.K kd O H x d) (rx : RelV x v) {vs : List V} {us : List Value} {ds : List D} (hv : Vals vs us) (h : RpL X.K kd O H vs ds) (k : ∀ e ∈ ds, ∃ c, eqF n e d = some c) : ∀ u ∈ us, SeqAt.EqAt A s u v (eqW X.K kd O H n d u) :=
 RpL.ind (P := λ vs ds => ∀ us, Vals vs us -> (∀ e ∈ ds, ∃ c, eqF n e d = some c) -> ∀ u ∈ us, SeqAt.EqAt A s u v (eqW X.K kd O H n d u)) (λ us hv _ u hu => by cases hv; simp at hu) (λ a q ih us hv h u hm => by
  cases hv with
  | cons r t =>
   rcases zzA.mp hm with e | e
   · subst e
     obtain ⟨c, hc⟩ := h _ zzD
     rw [zhj I hk r a hc]
     exact (zhO I n A _ _ _ _ _ _ _ hu a.vw vx r rx hc).eq
   · exact ih _ t (λ e he => h e (zzB _ he)) u e) h us hv k
theorem zfr {A : Around} {E : Value -> Shared -> Prop} {x : V} {v : Value} {b c : Bool} {d : D} {Q : Bool -> Shared -> Prop} (vx : Vw X.K kd O H x d) (rx : RelV x v) (e : isP d (.bl b) = some c) (h : Q c s) : wpAny (model X.prog X.w) A (isSame v (.bool b)) Q E s := by
 cases vx with
 | non => cases rx; cases e; exact wpAny_pure h
 | bl k =>
  cases rx
  have e : some (k == b) = some c := e
  cases e
  refine wpAny_pure ?_
  cases k <;> cases b <;> exact h
 | int => obtain ⟨t, rfl⟩ := rx; cases e; exact wpAny_pure h
 | str => obtain ⟨t, rfl⟩ := rx; cases e; exact wpAny_pure h
 | tup => cases rx; cases e; exact wpAny_pure h
 | lst => cases rx; cases e; exact wpAny_pure h
 | dct => cases rx; cases e; exact wpAny_pure h
 | cl => cases rx; cases e; exact wpAny_pure h
 | ob => cases rx; cases e; exact wpAny_pure h
theorem yR (hk : KdOk X kd) (hu : X.A.units + 100 < cLine) (op : CmpOp) : OpD X kd (compareOp op) (yZ op) := by
 intro pins s σ H x y v u Q I rx ry h
 obtain ⟨O, d, e, r, ht, vx, vy, he, q⟩ := h
 cases op with
 | Eq =>
  obtain ⟨b, h1, he⟩ := bS_ (show (eqF 60 d e).bind _ = _ from he)
  cases he
  exact (zhO I 60 X.A x y d e v u b (by omega) vx vy rx ry h1).rc _ _ _ _ (Zu I (xj q (.bl _)) rfl)
 | NotEq =>
  obtain ⟨b, h1, he⟩ := bS_ (show (eqF 60 d e).bind _ = _ from he)
  cases he
  exact (zhO I 60 X.A x y d e v u b (by omega) vx vy rx ry h1).ne _ _ _ _ (Zu I (xj q (.bl _)) rfl)
 | Lt =>
  obtain ⟨i, j, rfl, rfl, he⟩ := Vq vx vy he
  cases he
  exact zrQ pins s σ H _ _ v u Q I rx ry ⟨_, _, rfl, rfl, xj q (.bl _)⟩
 | LtE =>
  obtain ⟨i, j, rfl, rfl, he⟩ := Vq vx vy he
  cases he
  exact zsC pins s σ H _ _ v u Q I rx ry ⟨_, _, rfl, rfl, xj q (.bl _)⟩
 | Gt =>
  obtain ⟨i, j, rfl, rfl, he⟩ := Vq vx vy he
  cases he
  exact zsc pins s σ H _ _ v u Q I rx ry ⟨_, _, rfl, rfl, xj q (.bl _)⟩
 | GtE =>
  obtain ⟨i, j, rfl, rfl, he⟩ := Vq vx vy he
  cases he
  exact zsJ pins s σ H _ _ v u Q I rx ry ⟨_, _, rfl, rfl, xj q (.bl _)⟩
 | In =>
  obtain ⟨b, h1, he⟩ := bS_ (show (inP d e).bind _ = _ from he)
  cases he
  cases vy with
  | lst hs rl =>
   cases ry
   obtain ⟨its, rv, p, _⟩ := I.list hs.sq
   refine SeqAt.in_listAt (eqW X.K kd O H 50 d) p.isList (λ w hw => zcg I hk (by show X.A.units + 1 + 50 < cLine; omega) vx rx rv rl (WR h1) w (by simpa using hw)) ?_
   have := zed I hk rv rl h1
   rw [show its.toArray.any (eqW X.K kd O H 50 d) = b by rw [<- this]; simp]
   exact Zu (I) (xj q (.bl _)) rfl
  | tup rp hs rl =>
   cases ry
   obtain ⟨its, rv, p, _⟩ := I.tuple hs
   refine SeqAt.in_tupleAt (eqW X.K kd O H 50 d) p (λ w hw => zcg I hk (by show X.A.units + 1 + 50 < cLine; omega) vx rx rv rl (WR h1) w (by simpa using hw)) ?_
   have := zed I hk rv rl h1
   rw [show its.toArray.any (eqW X.K kd O H 50 d) = b by rw [<- this]; simp]
   exact Zu (I) (xj q (.bl _)) rfl
  | str z =>
   cases vx with
   | str i => cases h1; exact zll pins s σ H _ _ v u Q I rx ry ⟨_, _, rfl, rfl, xj q (.bl _)⟩
   | _ => cases h1
  | dct hs rm =>
   cases ry
   obtain ⟨k, k1, h1⟩ := bS_ h1
   cases h1
   obtain ⟨z, hd, vs, rel, dd⟩ := zgp I hk hs
   have ek : x = kV k := by
    cases vx with
    | int i => cases k1; rfl
    | str i => cases k1; rfl
    | _ => cases k1
   subst ek
   refine wpAny_in_of (zng rx) hd dd.mapOf ?_
   rw [<- (rel.val k).isSome_eq]
   rcases zhd k rm with ⟨v1, d1, e1, e2, _⟩ | ⟨e1, e2⟩
   · rw [e1]; rw [e2] at q; exact Zu (I.tok _) (xj q (.bl _)) rfl
   · rw [e1]; rw [e2] at q; exact Zu (I.tok _) (xj q (.bl _)) rfl
  | _ => cases h1
 | NotIn =>
  obtain ⟨b, h1, he⟩ := bS_ (show (inP d e).bind _ = _ from he)
  cases he
  cases vy with
  | lst hs rl =>
   cases ry
   obtain ⟨its, rv, p, _⟩ := I.list hs.sq
   refine SeqAt.notIn_listAt (eqW X.K kd O H 50 d) p.isList (λ w hw => zcg I hk (by show X.A.units + 1 + 50 < cLine; omega) vx rx rv rl (WR h1) w (by simpa using hw)) ?_
   have := zed I hk rv rl h1
   rw [show its.toArray.any (eqW X.K kd O H 50 d) = b by rw [<- this]; simp]
   exact Zu (I) (xj q (.bl _)) rfl
  | tup rp hs rl =>
   cases ry
   obtain ⟨its, rv, p, _⟩ := I.tuple hs
   refine SeqAt.notIn_tupleAt (eqW X.K kd O H 50 d) p (λ w hw => zcg I hk (by show X.A.units + 1 + 50 < cLine; omega) vx rx rv rl (WR h1) w (by simpa using hw)) ?_
   have := zed I hk rv rl h1
   rw [show its.toArray.any (eqW X.K kd O H 50 d) = b by rw [<- this]; simp]
   exact Zu (I) (xj q (.bl _)) rfl
  | str z =>
   cases vx with
   | str i => cases h1; exact zhw pins s σ H _ _ v u Q I rx ry ⟨_, _, rfl, rfl, xj q (.bl _)⟩
   | _ => cases h1
  | dct hs rm =>
   cases ry
   obtain ⟨k, k1, h1⟩ := bS_ h1
   cases h1
   obtain ⟨z, hd, vs, rel, dd⟩ := zgp I hk hs
   have ek : x = kV k := by
    cases vx with
    | int i => cases k1; rfl
    | str i => cases k1; rfl
    | _ => cases k1
   subst ek
   refine wpAny_notIn_of (zng rx) hd dd.mapOf ?_
   rw [<- (rel.val k).isSome_eq]
   rcases zhd k rm with ⟨v1, d1, e1, e2, _⟩ | ⟨e1, e2⟩
   · rw [e1]; rw [e2] at q; exact Zu (I.tok _) (xj q (.bl _)) rfl
   · rw [e1]; rw [e2] at q; exact Zu (I.tok _) (xj q (.bl _)) rfl
  | _ => cases h1
 | Is =>
  obtain ⟨b, h1, he⟩ := bS_ (show (isP d e).bind _ = _ from he)
  cases he
  cases vy with
  | non =>
   refine zqs pins s σ H _ _ v u Q I rx ry ⟨rfl, ?_⟩
   have : decide (x = V.non) = b := by cases vx <;> (cases h1; rfl)
   rw [this]
   exact xj q (.bl b)
  | bl c =>
   cases ry
   exact wpAny_bind (zfr vx rx h1 (wpAny_pure (Zu I (xj q (.bl _)) rfl)))
  | _ => cases h1
 | IsNot =>
  obtain ⟨b, h1, he⟩ := bS_ (show (isP d e).bind _ = _ from he)
  cases he
  cases vy with
  | non =>
   refine zoz pins s σ H _ _ v u Q I rx ry ⟨rfl, ?_⟩
   have : decide (x = V.non) = b := by cases vx <;> (cases h1; rfl)
   rw [this]
   exact xj q (.bl _)
  | bl c =>
   cases ry
   exact wpAny_bind (zfr vx rx h1 (wpAny_pure (Zu I (xj q (.bl _)) rfl)))
  | _ => cases h1
end
theorem zkX {K : zD} {kd : KD} {O : Addr -> Prop} {H : Hp} {vs : List V} {ds : List D} {i : Int} {d : D} (r : RpL K kd O H vs ds) (h : atI ds i = some d) : ∃ v, atI vs i = some v /\ Rp K kd O H v d := by
 unfold atI at h ⊢
 obtain ⟨j, h1, h2⟩ := bS_ h
 rw [r.length, h1]
 exact r.get h2
def imR (o : Option D) : Option R0 := o.bind λ d => some (.im d)
def ixP (x y : D) : Option R0 := match x with
 | .lst xs => (asI y).bind λ i => imR (atI xs i)
 | .tup xs => (asI y).bind λ i => imR (atI xs i)
 | .str x => (asI y).bind λ i => if x.length <= sizeLine then (atI x.cps.toList i).bind λ c => some (.im (.str ⟨#[c]⟩)) else none
 | .dct kvs => (zof y).bind λ k => imR (zhL kvs k)
 | _ => none
theorem zeQ {o : Option D} {r : R0} (h : imR o = some r) : ∃ d, o = some d /\ r = .im d := by
 obtain ⟨d, h1, h2⟩ := bS_ (show o.bind _ = _ from h)
 cases h2
 exact ⟨d, h1, rfl⟩
section
variable {X : Cx} {kd : KD}
theorem zqP {K : zD} {O : Addr -> Prop} {H : Hp} {x : V} {d : D} {k : Key} (vx : Vw K kd O H x d) (e : zof d = some k) : x = kV k := by
 cases vx with
 | int i => cases e; rfl
 | str i => cases e; rfl
 | _ => cases e
theorem ztb (hk : KdOk X kd) : IxD X kd ixP := by
 intro value slice pins s σ H x y v u Q I rx ry h hs
 obtain ⟨O, d, e, r, ht, vx, vy, he, q⟩ := h
 cases vx with
 | lst hr rl =>
  obtain ⟨i, h0, he⟩ := bS_ (show (asI e).bind _ = _ from he)
  obtain ⟨rfl, rfl⟩ := Vh vy h0
  obtain ⟨d, h1, rfl⟩ := zeQ he
  obtain ⟨w, hw, rw'⟩ := zkX rl h1
  exact zoM value slice pins s σ H _ _ v u Q I rx ry ⟨_, _, _, w, rfl, rfl, hr.sq, hw, xj q rw'⟩ hs
 | tup rp hr rl =>
  obtain ⟨i, h0, he⟩ := bS_ (show (asI e).bind _ = _ from he)
  obtain ⟨rfl, rfl⟩ := Vh vy h0
  obtain ⟨d, h1, rfl⟩ := zeQ he
  obtain ⟨w, hw, rw'⟩ := zkX rl h1
  exact zqF value slice pins s σ H _ _ v u Q I rx ry ⟨_, _, _, w, rfl, rfl, hr, hw, xj q rw'⟩ hs
 | str z =>
  obtain ⟨i, h0, he⟩ := bS_ (show (asI e).bind _ = _ from he)
  obtain ⟨rfl, rfl⟩ := Vh vy h0
  obtain ⟨hz, he⟩ := ite_some' he
  obtain ⟨c, h1, he⟩ := bS_ he
  cases he
  exact zqu value slice pins s σ H _ _ v u Q I rx ry ⟨_, _, c, rfl, rfl, hz, h1, xj q (.str _)⟩ hs
 | dct hr rm =>
  obtain ⟨k, h1, he⟩ := bS_ (show (zof e).bind _ = _ from he)
  obtain ⟨d, h2, rfl⟩ := zeQ he
  cases rx
  obtain ⟨z, hd, vs, rel, dd⟩ := zgp I hk hr
  have := zqP vy h1
  subst this
  rcases zhd k rm with ⟨v1, d1, e1, e2, rp⟩ | ⟨e1, e2⟩
  · rw [h2] at e2
    cases e2
    obtain ⟨w', hw, rw'⟩ := zii.some_of (v := v1) (o := valueAt vs k) (by rw [<- e1]; exact rel.val k)
    exact tail_any dd.typeIs PySem.F.slot_dict_getitem.lookup (wpAny_getItem_of (zng ry) dd.mapOf hw ⟨v1, H, I.tok _, rw', xj q rp⟩) hs
  · rw [h2] at e2; cases e2
 | _ => cases he
def cutD (xs : List D) (lo hi : Option Int) : List D := (xs.drop (HT.sIx xs.length 0 lo)).take (HT.sIx xs.length xs.length hi - HT.sIx xs.length 0 lo)
theorem zkD {K : zD} {O : Addr -> Prop} {H : Hp} {vs : List V} {ds : List D} (r : RpL K kd O H vs ds) (lo hi : Option Int) : RpL K kd O H (ziJ vs lo hi) (cutD ds lo hi) := by
 unfold ziJ cutD
 rw [r.length]
 exact (r.drop _).take _
def slP (x : D) (lo hi : Option Int) : Option R0 := match x with
 | .lst xs => some (.fl (cutD xs lo hi))
 | .tup xs => if HT.sIx xs.length 0 lo = 0 /\ HT.sIx xs.length xs.length hi = xs.length then none else some (.im (.tup (cutD xs lo hi)))
 | _ => none
abbrev OF := AS -> Option (Option Int × AS)
def oN : OF := λ as => some (none, as)
def oS (f : EF) : OF := λ as => (f as).bind λ p => (rvI p.1).bind λ i => some (some i, p.2)
def fSl (fa : EF) (fl fh : OF) (g : D -> Option Int -> Option Int -> Option R0) : EF := λ as => (fa as).bind λ p => (fl p.2).bind λ l => (fh l.2).bind λ h => (p.1.frz.view h.2).bind λ x => (g x.1 l.1 h.1).bind λ r => (wrap x.2 r).bind λ z => some (z, h.2)
def alO (K : zD) (kd : KD) (f : OF) : TO := λ σ H Q => ∃ F B ad as o as', Rel K kd F B [] ad as σ H /\ f as = some (o, as') /\
 ∀ ad' H', Rel K kd F B [] ad' as' σ H' -> Grow (Gw [] ad) H (Gw [] ad') H' -> Q o H'
@[irreducible] def AO (X : Cx) (kd : KD) (e : Option Expr) (f : OF) : Prop := PO X e (alO X.K kd f)
theorem zmh {e : Option Expr} {t t' : TO} (h : PO X e t) (k : ∀ σ H Q, t' σ H Q -> t σ H Q) : PO X e t' := λ pins s σ H Q I q => h pins s σ H Q I (k σ H Q q)
theorem wR : AO X kd none oN := by with_unfolding_all exact (zmh zoG λ σ H Q h => by
 obtain ⟨F, B, ad, as, o, as', R, e, q⟩ := h
 cases e
 exact q ad H R Grow.refl)
theorem zqj {K : zD} {F B : Addr -> Prop} {T : List Addr} {ad : Ad} {σ : St} {H : Hp} {v : V} {st : Bool} {c : Int} (h : Za K kd F B T ad σ H v (.ow (.lf st (.int c)))) : T = [] /\ v = .int c := by
 have h : RoS K kd F B (Gw T ad) H v (.lf st (.int c)) T := h
 generalize hT : Gw T ad = G at h
 cases h with
 | lf rp => cases rp; exact ⟨rfl, rfl⟩
theorem wy {a : Expr} {fa : EF} (ha : AE X kd a fa) : AO X kd (some a) (oS fa) := by with_unfolding_all exact (zmh (zoR ha) λ σ H Q h => by
 obtain ⟨F, B, ad, as, o, as', R, e, q⟩ := h
 obtain ⟨⟨p, as1⟩, h1, e⟩ := bS_ (show (fa as).bind _ = _ from e)
 obtain ⟨i, e1, e⟩ := bS_ e
 obtain ⟨st, rfl⟩ := zqO e1
 cases e
 refine ⟨F, B, ad, as, _, _, R, h1, λ v T' ad1 H1 R1 rv1 g1 => ?_⟩
 obtain ⟨rfl, rfl⟩ := zqj rv1
 exact ⟨i, rfl, q ad1 H1 R1 g1⟩)
theorem zty : SlR X (λ x lo hi H Q => ∃ O d r, (∀ a, O a -> H a ≠ none) /\ Vw X.K kd O H x d /\ slP d lo hi = some r /\ RQ X.K kd O H Q r) := by
 intro pins s σ H x v vl vu lo hi sl Q I rx hs pl pu h
 obtain ⟨O, d, r, ht, vx, he, q⟩ := h
 cases vx with
 | lst hr rl => cases he; exact zpp pins s σ H _ v vl vu lo hi sl Q I rx hs pl pu ⟨_, _, rfl, hr.sq, zdh q (zkD rl lo hi)⟩
 | tup rp hr rl =>
  have he : (if _ then none else some _ : Option R0) = _ := he
  split at he
  · cases he
  · rename_i hw
    cases he
    exact zqR pins s σ H _ v vl vu lo hi sl Q I rx hs pl pu ⟨_, _, rfl, hr, by rw [rl.length]; exact hw, zhg ht q (zkD rl lo hi)⟩
 | _ => cases he
theorem wC {a : Expr} {lo hi : Option Expr} {fa : EF} {fl fh : OF} {pos p2 : Pos} (ha : AE X kd a fa) (hl : AO X kd lo fl) (hh : AO X kd hi fh) : AE X kd (.Subscript a (.Slice lo hi none p2) pos) (fSl fa fl fh slP) := by with_unfolding_all exact (wU (zij zty ha hl hh) λ σ H Q h => by
 obtain ⟨F, B, ad, as, r, as', R, e, q⟩ := h
 obtain ⟨⟨p, as1⟩, h1, e⟩ := bS_ (show (fa as).bind _ = _ from e)
 obtain ⟨⟨l, as2⟩, h2, e⟩ := bS_ e
 obtain ⟨⟨u, as3⟩, h3, e⟩ := bS_ e
 obtain ⟨⟨d, lv⟩, h4, e⟩ := bS_ e
 obtain ⟨r', h5, e⟩ := bS_ e
 obtain ⟨z, h6, e⟩ := bS_ e
 cases e
 refine Y9 R h1 λ v ad1 H1 R1 rv1 g1 => ⟨F, B, ad1, as1, l, as2, R1, h2, λ ad2 H2 R2 g2 => ⟨F, B, ad2, as2, u, _, R2, h3, λ ad3 H3 R3 g3 => ?_⟩⟩
 exact ⟨_, d, r', R3.tr _, Za.vw R3 ((rv1.grow g2).grow g3) h4, h5, Xg R3 h6 λ w T' H' R' rv' g' => q w T' ad3 H' R' rv' (((g1.trans g2).trans g3).trans g')⟩)
def zgi : D -> Option R0
 | .int i => some (.im (.int (-i)))
 | _ => none
theorem zjx : UnD X kd (unaryOp .USub) zgi := by
 intro pins s σ H x v Q I rx h
 obtain ⟨O, d, r, ht, vx, he, q⟩ := h
 cases vx with
 | int i => cases he; exact zpV pins s σ H _ v Q I rx ⟨i, rfl, xj q (.int _)⟩
 | _ => cases he
def tyD : D -> String
 | .non => "NoneType" | .bl _ => "bool" | .int _ => "int" | .str _ => "str" | .tup _ => "tuple" | .lst _ => "list" | .dct _ => "dict" | _ => ""
def zdZ : D -> Bool
 | .cl _ => false | .ob _ _ _ => false | _ => true
def zaW (t c : String) : Bool := t == c || (t == "bool" && c == "int")
def zcf (c : String) : Bool := c == "int" || c == "bool" || c == "str" || c == "list" || c == "tuple" || c == "dict"
theorem zqh (K : zD) (d : D) (c : String) (h : zcf c = true) (ho : zdZ d = true) : PySem.W.kitOne K (.type (tyD d)) (.type c) = some (zaW (tyD d) c) := by
 have : c = "int" \/ c = "bool" \/ c = "str" \/ c = "list" \/ c = "tuple" \/ c = "dict" := by
  unfold zcf at h
  simp only [Bool.or_eq_true, beq_iff_eq] at h
  rcases h with ((((h | h) | h) | h) | h) | h <;> simp [h]
 rcases this with rfl | rfl | rfl | rfl | rfl | rfl <;> cases d <;> first | rfl | cases ho
theorem zpX (hk : KdOk X kd) {pins : List (Addr × Obj)} {σ : St} {H : Hp} {s : Shared} {O : Addr -> Prop} {A : Around} {E : Value -> Shared -> Prop} {Q : Value -> Shared -> Prop} {c : String} {x : V} {u : Value} {d : D} (I : Inv X pins σ H s) (rx : RelV x u) (vx : Vw X.K kd O H x d) (hc : zcf c = true) (ho : zdZ d = true)
 (h : ∀ tk, Q (.bool (zaW (tyD d) c)) { s with toks := tk }) : wpAny (model X.prog X.w) A (call (.builtin "isinstance") [u, .type c]) Q E s := by
 have e := zqh X.K d c hc ho
 cases vx with
 | non => cases rx; exact PySem.W.kia_one PySem.W.kitx_none I.kIn True.intro e (λ z => nomatch z) h
 | bl y => cases rx; exact PySem.W.kia_one PySem.W.kitx_bool I.kIn True.intro e (λ z => nomatch z) h
 | int i => obtain ⟨t, rfl⟩ := rx; exact PySem.W.kia_one PySem.W.kitx_int I.kIn True.intro e (λ z => nomatch z) h
 | str y => obtain ⟨t, rfl⟩ := rx; exact PySem.W.kia_one PySem.W.kitx_str I.kIn True.intro e (λ z => nomatch z) h
 | lst hr rl =>
  cases rx
  obtain ⟨its, rv, ⟨o, n, h1, h2, _⟩, _⟩ := I.list hr.sq
  exact PySem.W.kia_one PySem.W.kitx_list I.kIn ⟨o, h1, h2⟩ e (λ z => nomatch z) h
 | tup rp hr rl =>
  cases rx
  obtain ⟨its, rv, ⟨o, h1, h2, _⟩, _⟩ := I.tuple hr
  exact PySem.W.kia_one PySem.W.kitx_tuple I.kIn ⟨o, h1, h2⟩ e (λ z => nomatch z) h
 | dct hr rm =>
  cases rx
  obtain ⟨z, hd, vs, rel, ⟨o, es, ep, h1, h2, _⟩⟩ := zgp I hk hr
  exact PySem.W.kia_one PySem.W.kitx_dict I.kIn ⟨o, h1, h2.1⟩ e (λ z => nomatch z) h
 | cl => cases ho
 | ob => cases ho
end
def Vz : List D -> Option (List Int)
 | [] => some []
 | .int i :: r => (Vz r).bind λ s => some (i :: s)
 | _ :: _ => none
def zrp : List Int -> Int
 | [] => 0
 | x :: r => r.foldl (λ a b => if a < b then b else a) x
theorem zgN : ∀ (r : List Int) (x : Int), r.foldl (λ a b => if a < b then b else a) x ∈ x :: r /\ ∀ a ∈ x :: r, a <= r.foldl (λ a b => if a < b then b else a) x
 | [], x => ⟨by simp, by simp⟩
 | y :: r, x => by
  rw [List.foldl_cons]
  obtain ⟨h1, h2⟩ := zgN r (if x < y then y else x)
  refine ⟨?_, λ a ha => ?_⟩
  · rcases zzA.mp h1 with e | e
    · rw [e]; split <;> simp
    · exact zzB _ (zzB _ e)
  · have h3 := h2 _ zzD
    rcases zzA.mp ha with e | e
    · subst e; exact Int.le_trans (by split <;> omega) h3
    · rcases zzA.mp e with e | e
      · subst e; exact Int.le_trans (by split <;> omega) h3
      · exact h2 a (zzB _ e)
theorem zoF {ns : List Int} {M : Int} (h1 : M ∈ ns) (h2 : ∀ a ∈ ns, a <= M) : zrp ns = M := by
 cases ns with
 | nil => simp at h1
 | cons x r =>
  obtain ⟨k1, k2⟩ := zgN r x
  have a1 := k2 M h1
  have a2 := h2 _ k1
  show r.foldl _ x = M
  omega
def on1 (f : D -> Option R0) (ds : List D) : Option R0 := match ds with
 | [x] => f x
 | _ => none
theorem zde {K : zD} {kd : KD} {O : Addr -> Prop} {H : Hp} {f : D -> Option R0} {xs : List V} {ds : List D} {r : R0} (vl : VwL K kd O H xs ds) (h : on1 f ds = some r) : ∃ x d, xs = [x] /\ Vw K kd O H x d /\ f d = some r := by
 cases vl with
 | nil => cases h
 | cons a b =>
  cases b with
  | nil => exact ⟨_, _, rfl, a, h⟩
  | cons _ _ => cases h
def ztv : D -> Option R0
 | .lst ds => some (.im (.int ds.length))
 | .tup ds => some (.im (.int ds.length))
 | .str x => if x.length <= sizeLine then some (.im (.int x.length)) else none
 | .dct kvs => some (.im (.int kvs.length))
 | _ => none
def vq : List D -> Option R0 := on1 ztv
def ztm : D -> Option R0
 | .int i => some (.im (.int i))
 | .bl b => some (.im (.int (if b then 1 else 0)))
 | _ => none
def zrk : List D -> Option R0
 | [.int i] => if i.natAbs.log2 < 1920 then some (.im (.str (toString i))) else none
 | _ => none
def tupP : List D -> Option R0
 | [.lst ds] => some (.im (.tup ds))
 | [.tup ds] => some (.im (.tup ds))
 | _ => none
def ztz : D -> Option R0
 | .lst ds => some (.fl ds)
 | .tup ds => some (.fl ds)
 | _ => none
def lstP : List D -> Option R0 := on1 ztz
def zqD (ds : List D) : Option R0 := match ds with
 | [x, y] => onI (λ i j => some (.im (.int (if j > i then j else i)))) x y
 | [x] => (asL x).bind λ ds => (Vz ds).bind λ ns => if 0 < ns.length then some (.im (.int (zrp ns))) else none
 | _ => none
theorem zaI {K : zD} {kd : KD} {O : Addr -> Prop} {H : Hp} {xs : List V} {d : D} (h : VwL K kd O H xs [d]) : ∃ x, xs = [x] /\ Vw K kd O H x d := by
 cases h with
 | cons a b => cases b; exact ⟨_, rfl, a⟩
theorem zlY {K : zD} {kd : KD} {O : Addr -> Prop} {H : Hp} {vs : List V} {ds : List D} {ns : List Int} (h : RpL K kd O H vs ds) (e : Vz ds = some ns) : vs = ns.map V.int :=
 RpL.ind (P := λ vs ds => ∀ ns, Vz ds = some ns -> vs = ns.map V.int) (λ ns e => by cases e; rfl) (λ {v d vs ds} a _ ih ns e => by
  cases d with
  | int i =>
   obtain ⟨s, h1, h2⟩ := bS_ (show (Vz _).bind _ = _ from e)
   cases h2
   cases a
   rw [ih _ h1]
   rfl
  | _ => cases e) h ns e
section
variable {X : Cx} {kd : KD}
theorem xM (hk : KdOk X kd) : CallD X kd (.builtin "len") vq := by
 intro pins s σ H xs us Q I r h
 obtain ⟨O, ds, z, ht, vl, he, q⟩ := h
 obtain ⟨x, d, rfl, vx, he⟩ := zde vl he
 cases vx with
 | lst hr rl => cases he; exact zcs pins s σ H _ us Q I r ⟨_, _, rfl, .inl hr.sq, by rw [rl.length]; exact xj q (.int _)⟩
 | tup rp hr rl => cases he; exact zcs pins s σ H _ us Q I r ⟨_, _, rfl, .inr hr, by rw [rl.length]; exact xj q (.int _)⟩
 | str y =>
  obtain ⟨c, rfl⟩ := yD he
  exact zhp pins s σ H _ us Q I r ⟨_, rfl, c, xj q (.int _)⟩
 | dct hr rm =>
  cases he
  obtain ⟨u, rfl, ru⟩ := vals1 r
  cases ru
  obtain ⟨z, hd, vs, rel, dd⟩ := zgp I hk hr
  refine call_len_dict hd dd (by rw [<- rel.length]; rw [sizeLine_eq] at z; omega) ?_
  rw [<- rel.length, rm.length]
  exact ⟨.int _, H, I.tok _, ⟨_, rfl⟩, xj q (.int _)⟩
 | _ => cases he
theorem zlH : CallD X kd (.type "str") zrk := by
 intro pins s σ H xs us Q I r h
 obtain ⟨O, ds, z, ht, vl, he, q⟩ := h
 unfold zrk at he
 split at he
 · obtain ⟨c, rfl⟩ := yD he
   obtain ⟨x, rfl, vx⟩ := zaI vl
   cases vx
   exact zhC pins s σ H _ us Q I r ⟨_, rfl, c, xj q (.str _)⟩
 · cases he
theorem zaD : CallD X kd (.type "tuple") tupP := by
 intro pins s σ H xs us Q I r h
 obtain ⟨O, ds, z, ht, vl, he, q⟩ := h
 unfold tupP at he
 split at he
 · cases he
   obtain ⟨x, rfl, vx⟩ := zaI vl
   cases vx with
   | lst hr rl => exact zaR pins s σ H _ us Q I r ⟨_, _, rfl, .inl ⟨hr.sq, zhg ht q rl⟩⟩
 · cases he
   obtain ⟨x, rfl, vx⟩ := zaI vl
   cases vx with
   | tup rp hr rl => exact zaR pins s σ H _ us Q I r ⟨_, _, rfl, .inr ⟨hr, xj q rp⟩⟩
 · cases he
theorem Xn : CallD X kd (.type "list") lstP := by
 intro pins s σ H xs us Q I r h
 obtain ⟨O, ds, z, ht, vl, he, q⟩ := h
 obtain ⟨x, d, rfl, vx, he⟩ := zde vl he
 cases vx with
 | lst hr rl => cases he; exact zcq pins s σ H _ us Q I r ⟨_, _, rfl, .inl hr.sq, zdh q rl⟩
 | tup rp hr rl => cases he; exact zcq pins s σ H _ us Q I r ⟨_, _, rfl, .inr hr, zdh q rl⟩
 | _ => cases he
theorem zlM (hc : X.calm = true) : CallD X kd (.builtin "max") zqD := by
 intro pins s σ H xs us Q I r h
 obtain ⟨O, ds, z, ht, vl, he, q⟩ := h
 cases vl with
 | nil => cases he
 | cons vx vl =>
  cases vl with
  | nil =>
   obtain ⟨ds, h0, he⟩ := bS_ (show (asL _).bind _ = _ from he)
   cases zcF h0
   obtain ⟨ns, h1, he⟩ := bS_ he
   obtain ⟨c, rfl⟩ := yD he
   cases vx with
   | lst hr rl =>
    obtain ⟨u, rfl, ru⟩ := vals1 r
    cases ru
    obtain ⟨its, rv, p, _⟩ := I.list hr.sq
    rw [zlY rl h1] at rv
    have hi := intsAre_of rv
    obtain ⟨ys, e⟩ := hi.allInts.items
    have hns : ns = ys.toList.map (·.1) := by rw [<- hi.numsOf, <- nums_intItems, <- e]
    have hsz : 0 < ys.size := by
     have h3 := c; rw [hns, zI, Array.length_toList] at h3; exact h3
    have hl := p.isList
    rw [e] at hl
    refine max_intList (I.ok.hd hc) hl hsz λ v h' tk hv kp => ?_
    obtain ⟨t, rfl⟩ := intItems_at hv
    obtain ⟨k1, k2⟩ := argBest_gt (numAt ys) (ys.size - 1)
    refine ⟨.int (zrp ns), H, I.kept kp, ⟨t, ?_⟩, xj q (.int _)⟩
    congr 1
    refine (zoF ?_ λ a ha => ?_).symm
    · rw [hns, numAt_eq]
      have hlt : argBest (λ i j => decide (numAt ys i > numAt ys j)) (ys.size - 1) < (ys.toList.map (·.1)).length := by rw [zI, Array.length_toList]; omega
      rw [List.getD_eq_getElem?_getD, zzC hlt]
      exact List.getElem_mem hlt
    · rw [hns] at ha
      obtain ⟨j, hj, rfl⟩ := List.getElem_of_mem ha
      have hj' := hj
      rw [zI, Array.length_toList] at hj
      have := k2 j (by omega)
      rw [numAt_eq ys j, List.getD_eq_getElem?_getD, zzC hj'] at this
      exact this
  | cons vy vl =>
   cases vl with
   | nil =>
    obtain ⟨i, j, rfl, rfl, he⟩ := Vq vx vy he
    cases he
    exact zlj hc pins s σ H _ us Q I r ⟨_, _, rfl, xj q (.int _)⟩
   | cons _ _ => cases he
end
def Zn (env : Env) : List (Str × NameKind) -> List (Str × Addr) -> List (Str × Addr)
 | [], cs => cs
 | (n, k) :: r, cs => Zn env r (if k == .free then ((n, (env.cells.lookup n).getD 0) :: cs) else cs)
theorem zbd {scope : Scope} {env : Env} (h : ∀ x ∈ scope.names, x.2 = .free -> ∃ c, env.cells.lookup x.1 = some c) : closureFor scope env = pure (Zn env scope.names []) := by
 have go : ∀ (names : List (Str × NameKind)) (cs : List (Str × Addr)) (f : Str × NameKind -> List (Str × Addr) -> Sem (ForInStep (List (Str × Addr)))),
  (∀ name kind cs, f (name, kind) cs = if kind == .free then (do let a <- cellOf env name; pure (.yield ((name, a) :: cs))) else pure (.yield cs)) ->
  (∀ x ∈ names, x.2 = .free -> ∃ c, env.cells.lookup x.1 = some c) -> (forIn names cs f : Sem (List (Str × Addr))) = pure (Zn env names cs) := by
  intro names
  induction names with
  | nil => intro cs f _ _; rfl
  | cons x r ih =>
   intro cs f hf hx
   obtain ⟨n, k⟩ := x
   rw [List.forIn_cons, hf]
   unfold Zn
   by_cases hk : (k == .free) = true
   · obtain ⟨c, hc⟩ := hx (n, k) zzD (by simpa using hk)
     rw [if_pos hk, if_pos hk]
     have e : cellOf env n = pure c := by unfold cellOf; rw [hc]
     rw [e, hc]
     exact ih _ f hf λ y hy => hx y (zzB _ hy)
   · rw [if_neg hk, if_neg hk]
     exact ih _ f hf λ y hy => hx y (zzB _ hy)
 simp only [closureFor]
 rw [go scope.names [] _ (λ name kind cs => ?_) h]
 · rfl
 · rfl
theorem zgm {env : Env} : ∀ (names : List (Str × NameKind)) (cs : List (Str × Addr)) (p : Str × Addr), p ∈ Zn env names cs -> p ∈ cs \/ ((p.1, NameKind.free) ∈ names /\ p.2 = (env.cells.lookup p.1).getD 0)
 | [], _, _, h => .inl h
 | (n, k) :: r, cs, p, h => by
  unfold Zn at h
  rcases zgm r _ p h with h | h
  · by_cases hk : (k == .free) = true
    · rw [if_pos hk] at h
      rcases zzA.mp h with e | h
      · subst e
        have : k = .free := by simpa using hk
        subst this
        exact .inr ⟨zzD, rfl⟩
      · exact .inl h
    · rw [if_neg hk] at h; exact .inl h
  · exact .inr ⟨zzB _ h.1, h.2⟩
theorem zfi {env : Env} : ∀ (names : List (Str × NameKind)) (cs : List (Str × Addr)) (p : Str × Addr), p ∈ cs -> p ∈ Zn env names cs
 | [], _, _, h => h
 | (n, k) :: r, cs, p, h => by
  unfold Zn
  refine zfi r _ p ?_
  split
  · exact zzB _ h
  · exact h
theorem zgJ {env : Env} : ∀ (names : List (Str × NameKind)) (cs : List (Str × Addr)) (x : Str), (x, NameKind.free) ∈ names -> (x, (env.cells.lookup x).getD 0) ∈ Zn env names cs
 | (n, k) :: r, cs, x, h => by
  unfold Zn
  rcases zzA.mp h with e | h
  · cases e
    exact zfi r _ _ (by simp)
  · exact zgJ r _ x h
theorem Wy {α : Type} {x : Str} {a : α} : ∀ {l : List (Str × α)}, (∀ p ∈ l, p.1 = x -> p.2 = a) -> (∃ b, (x, b) ∈ l) -> l.lookup x = some a
 | [], _, h => by obtain ⟨_, h⟩ := h; cases h
 | (k, v) :: r, u, h => by
  rw [List.lookup_cons]
  cases hb : x == k with
  | true =>
   have := u (k, v) zzD (beq_iff_eq.mp hb).symm
   exact congrArg some this
  | false =>
   refine Wy (λ p hp => u p (zzB _ hp)) ?_
   obtain ⟨b, h⟩ := h
   rcases zzA.mp h with e | h
   · cases e; simp at hb
   · exact ⟨b, h⟩
theorem zdd : ∀ (names : List (Str × NameKind)) (h : Heap) (acc : List (Str × Addr)) (p : Str × Addr), p ∈ cellsFrom h.objs.size names acc ->
 p ∈ acc \/ ((p.1, NameKind.cell) ∈ names /\ (pushCells h names).IsCell p.2 none /\ h.objs.size <= p.2)
 | [], _, _, _, m => .inl m
 | (n, k) :: r, h, acc, p, m => by
  unfold cellsFrom at m
  unfold pushCells
  split at m
  · rename_i hk
    rw [if_pos hk]
    have e : (h.push { cls := .type "cell", data := .cell none }).objs.size = h.objs.size + 1 := Heap.size_push ..
    rw [<- e] at m
    rcases zdd r _ _ p m with m | ⟨m1, m2, m3⟩
    · rcases zzA.mp m with e2 | m
      · subst e2
        have : k = .cell := by simpa using hk
        subst this
        refine .inr ⟨zzD, ?_, zzL _⟩
        have z : (h.push { cls := .type "cell", data := .cell none }).IsCell h.objs.size none := ⟨_, Heap.get?_push_size _ rfl, rfl⟩
        exact z.keeps (pushCells_keeps r _)
      · exact .inl m
    · exact .inr ⟨zzB _ m1, m2, by rw [e] at m3; omega⟩
  · rename_i hk
    rw [if_neg hk]
    rcases zdd r h acc p m with m | ⟨m1, m2, m3⟩
    · exact .inl m
    · exact .inr ⟨zzB _ m1, m2, m3⟩
theorem Vi : ∀ (names : List (Str × NameKind)) (n : Nat) (acc : List (Str × Addr)) (p : Str × Addr), p ∈ acc -> p ∈ cellsFrom n names acc
 | [], _, _, _, m => m
 | (_, k) :: r, n, acc, p, m => by
  unfold cellsFrom
  split
  · exact Vi r _ _ p (zzB _ m)
  · exact Vi r _ _ p m
theorem zcL : ∀ (names : List (Str × NameKind)) (n : Nat) (acc : List (Str × Addr)) (x : Str), (x, NameKind.cell) ∈ names -> ∃ c, (x, c) ∈ cellsFrom n names acc
 | (y, k) :: r, n, acc, x, m => by
  unfold cellsFrom
  rcases zzA.mp m with e | m
  · cases e
    rw [if_pos (by decide)]
    exact ⟨n, Vi r _ _ _ zzD⟩
  · split
    · exact zcL r _ _ x m
    · exact zcL r _ _ x m
theorem zcK : ∀ (names : List (Str × NameKind)) (n : Nat) (acc : List (Str × Addr)), (∀ p ∈ acc, p.2 < n) -> (∀ p ∈ acc, ∀ q ∈ acc, p.2 = q.2 -> p.1 = q.1) -> ∀ p ∈ cellsFrom n names acc, ∀ q ∈ cellsFrom n names acc, p.2 = q.2 -> p.1 = q.1
 | [], _, _, _, h => h
 | (y, k) :: r, n, acc, lt, h => by
  unfold cellsFrom
  split
  · refine zcK r (n + 1) _ (λ p m => ?_) (λ p m q m' e => ?_)
    · rcases zzA.mp m with z | m
      · subst z; exact Nat.lt_succ_self _
      · exact Nat.lt_succ_of_lt (lt p m)
    · rcases zzA.mp m with z | m
      · rcases zzA.mp m' with z' | m'
        · rw [z, z']
        · subst z; have := lt q m'; rw [<- e] at this; exact absurd this (Nat.lt_irrefl _)
      · rcases zzA.mp m' with z' | m'
        · subst z'; have := lt p m; rw [e] at this; exact absurd this (Nat.lt_irrefl _)
        · exact h p m q m' e
  · exact zcK r n acc lt h
section
variable {M : Model} {A : Around} {E : Value -> Shared -> Prop} {s : Shared}
def VM (scope : Scope) (env : Env) (cl : List (Str × Addr)) (L : Addr) : Env :=
 { scope := relabel scope env, locals := L, globals := env.globals, cells := cellsFrom (L + 1) scope.names cl, qual := env.qual, func := none, code := env.code, frame := env.frame, builtins := env.builtins }
theorem zgY {scope : Scope} {env : Env} {cl : List (Str × Addr)} {Q : Env -> Shared -> Prop}
 (h : ∀ h' env', { env' with scope := relabel scope env } = VM scope env cl s.heap.objs.size -> env'.locals = s.heap.objs.size -> (∀ b o, s.heap.get? b = some o -> h'.get? b = some o) -> h'.Ns s.heap.objs.size (λ _ => none) ->
  (∀ p ∈ cellsFrom (s.heap.objs.size + 1) scope.names cl, p ∈ cl \/ ((p.1, NameKind.cell) ∈ scope.names /\ h'.IsCell p.2 none /\ s.heap.objs.size + 1 <= p.2)) -> Q env' { s with heap := h' }) :
 wpAny M A (newFunctionEnv scope env.globals cl [] env.qual none .none (some env)) Q E s := by
 simp only [newFunctionEnv, Option.isSome_some, if_true]
 refine wpAny_bind (wpAny_alloc ?_)
 refine wpAny_bind (wpAny_layCells _ (λ name kind cells => by cases hkc : kind == NameKind.cell <;> simp [hkc]) _ _ _ _ ?_)
 have e : (s.heap.push { cls := .type "dict", data := .dict #[] }).objs.size = s.heap.objs.size + 1 := Heap.size_push ..
 refine wpAny_bind (wpAny_pure (wpAny_pure (h _ _ ?_ rfl (λ b o q => pushCells_keeps _ _ b o (Heap.get?_push_of_some _ q)) ((Heap.Ns.new s.heap (.type "dict")).keeps (pushCells_keeps _ _)) λ p m => ?_)))
 · unfold VM
   rw [<- e]
 · rw [<- e] at m
   rcases zdd _ _ _ p m with m | ⟨m1, m2, m3⟩
   · exact .inl m
   · exact .inr ⟨m1, m2, by rw [e] at m3; exact m3⟩
end
abbrev Zf (X : Cx) (N : List Str) (scope : Scope) (cl : List (Str × Addr)) (s : Shared) (H : Hp) (fp : List Addr) : Cx :=
 { X with N := N, s₀ := s, H₀ := H, env := VM scope X.env cl (s.heap.objs.size + 1), outer := X.stack, ex := fp, fn := λ x => scope.names.lookup x == some .cell, pn := [], xe := λ _ _ => False }
def zrX (σ : St) : Option Nat -> Option V
 | none => none
 | some j => (σ[j]?).getD none
def Z6 (cap : List (Option Nat)) (σ : St) : St := cap.map (zrX σ)
def wu (N XN : List Str) (names : List (Str × NameKind)) (envNames : List (Str × NameKind)) (cap : List (Option Nat)) : Bool :=
 N.length == cap.length && (N.zip cap).all (λ p => match p.2 with | none => true | some j => XN[j]? == some p.1 && names.contains (p.1, NameKind.free)) &&
 names.all (λ p => p.2 != .free || envNames.lookup p.1 == some .cell || envNames.lookup p.1 == some .free) && decide (names.map (·.1)).Nodup
def PTs (X : Cx) (ifs : List Expr) (t : TT) : Prop :=
 ∀ (pins : List (Addr × Obj)) (s : Shared) (σ : St) (H : Hp) (Q : Bool -> Hp -> Prop), Inv X pins σ H s -> t σ H Q ->
  wpAny (model X.prog X.w) X.A (forIn ifs true λ c r => if r = true then do let ok <- isTrue c X.env (eval c X.env); pure (ForInStep.yield ok) else pure (ForInStep.yield r)) (TP X pins σ Q) X.xe s
theorem zpn {X : Cx} : PTs X [] (λ _ H Q => Q true H) := λ pins s σ H Q I h => wpAny_tests_nil ⟨H, I, h⟩
theorem zoS {X : Cx} {c : Expr} {t : TT} (h : PT X c t) : PTs X [c] t := λ pins s σ H Q I q => wpAny_tests_one (h pins s σ H Q I q)
def zmo (wi : TI) (cap : List (Option Nat)) (g : TG) (tt : TT) (te : TE) : TE := λ σ H Q => wi σ H λ J H1 => ∃ W : Nat -> Nat -> List V -> Hp -> Prop, (∃ m, W 0 m [] H1) /\ ∀ i m ys H, W i m ys H -> ys.length <= sizeLine /\
 ((J.stop i H /\ ∀ p, H p = none -> Q (.ref p) (upd H p (.lst ys))) \/ (J.go i H /\ ∀ x H', J.yld i H x H' -> g x (Z6 cap σ) H' λ σ2 H2 => (∀ (j : Nat) v, (Z6 cap σ)[j]? = some (some v) -> σ2[j]? = some (some v)) /\
   tt σ2 H2 λ b H3 => if b = true then ys.length < sizeLine /\ te σ2 H3 λ y H4 => ∃ m', m' < m /\ W (i + 1) m' (ys ++ [y]) H4 else ∃ m', m' < m /\ W (i + 1) m' ys H3))
section
variable {prog : Program} {w : World} {A : Around} {E : Value -> Shared -> Prop} {R : Result -> Shared -> Prop} {s : Shared}
theorem zhy {elt target iter : Expr} {ifs : List Expr} {scope : Scope} {pos : Pos} {it acc : Value} {env : Env} (I : Nat -> Shared -> Prop)
 (turn : ∀ n s (E : Value -> Shared -> Prop), I n s -> wpAny (model prog w) A (pyNext it) (λ r s₁ => match r with
  | none => R (.ok .next) s₁
  | some v => wpAny (model prog w) A (letOwnedTupleGo target it v) (λ _ s₁ => wpAny (model prog w) A (assign target env v) (λ _ s₂ =>
   wpAny (model prog w) A (forIn ifs true λ c r => if r = true then do let ok <- isTrue c env (eval c env); pure (ForInStep.yield ok) else pure (ForInStep.yield r)) (λ ok s₃ =>
    if ok = true then wpAny (model prog w) A (eval elt env) (λ x s₄ =>
     wpAny (model prog w) A (call (.builtin "list.append") [acc, x]) (λ _ s₅ => ∃ m, m < n /\ I m s₅) E s₄) E s₃
    else ∃ m, m < n /\ I m s₃) E s₂) E s₁) E s₁) E s)
 (n : Nat) (h : I n s) :
 codeAny (model prog w) A (.compLoop (.ListComp elt [⟨target, iter, ifs, 0⟩] scope pos) 0 it acc env) R s := by
 refine codeAny_loop rfl I (λ n s hI => ?_) n h
 show wpAny _ A ((compTurn (.ListComp elt [⟨target, iter, ifs, 0⟩] scope pos) 0 it acc env).onRaise (λ x => do noteFrame x env; theTreesLotGoes x)) _ _ s
 refine wpAny_noted ?_
 rw [compTurn_list]
 refine wpAny_bind (wpAny_standAt (wpAny_bind (wpAny_mono (turn n s _ hI) (λ r s₁ h₁ => ?_) λ _ _ h' => h')))
 cases r with
 | none => exact wpAny_pure h₁
 | some v =>
  refine wpAny_bind (wpAny_mono h₁ (λ _ s₁ h₁ => ?_) λ _ _ h' => h')
  refine wpAny_bind (wpAny_mono h₁ (λ _ s₂ h₂ => wpAny_bind (wpAny_mono h₂ (λ ok s₃ h₃ => ?_) λ _ _ h' => h')) λ _ _ h' => h')
  cases ok with
  | false => exact wpAny_pure ⟨rfl, h₃⟩
  | true =>
   exact wpAny_bind (wpAny_bind (wpAny_mono h₃ (λ x s₄ h₄ => wpAny_bind (wpAny_mono h₄ (λ _ s₅ h₅ => wpAny_pure (wpAny_pure ⟨rfl, h₅⟩)) λ _ _ h' => h')) λ _ _ h' => h'))
end
structure CapOk (N XN : List Str) (names : List (Str × NameKind)) (envNames : List (Str × NameKind)) (cap : List (Option Nat)) : Prop where
 len : N.length = cap.length
 at_ : ∀ (i : Nat) x (j : Nat), N[i]? = some x -> cap[i]? = some (some j) -> XN[j]? = some x /\ (x, NameKind.free) ∈ names
 fr : ∀ p ∈ names, p.2 = .free -> envNames.lookup p.1 = some .cell \/ envNames.lookup p.1 = some .free
 nd : (names.map (·.1)).Nodup
theorem ziD {N XN : List Str} {names envNames : List (Str × NameKind)} {cap : List (Option Nat)} (h : wu N XN names envNames cap = true) : CapOk N XN names envNames cap := by
 unfold wu at h
 simp only [Bool.and_eq_true, beq_iff_eq, List.all_eq_true, decide_eq_true_eq] at h
 obtain ⟨⟨⟨h1, h2⟩, h3⟩, h4⟩ := h
 refine ⟨h1, λ i x j e1 e2 => ?_, λ p hp e => ?_, h4⟩
 · have m : (x, some j) ∈ N.zip cap := List.mem_of_getElem? (i := i) (by rw [List.getElem?_zip_eq_some]; exact ⟨e1, e2⟩)
   have := h2 _ m
   simp only [Bool.and_eq_true, beq_iff_eq] at this
   exact ⟨this.1, by simpa using this.2⟩
 · have := h3 p hp
   rw [e] at this
   simpa using this
theorem zhu {names : List (Str × NameKind)} (h : (names.map (·.1)).Nodup) {x : Str} {k k' : NameKind} (m : (x, k) ∈ names) (m' : (x, k') ∈ names) : k = k' := by
 induction names with
 | nil => cases m
 | cons p r ih =>
  obtain ⟨h1, h2⟩ := zzU.mp (show (p.1 :: r.map (·.1)).Nodup from h)
  rcases zzA.mp m with e | m
  · rcases zzA.mp m' with e' | m'
    · rw [<- e] at e'; cases e'; rfl
    · exact absurd (List.mem_map.mpr ⟨_, m', by rw [<- e]⟩) h1
  · rcases zzA.mp m' with e' | m'
    · exact absurd (List.mem_map.mpr ⟨_, m, by rw [<- e']⟩) h1
    · exact ih h2 m m'
theorem zcO {names : List (Str × NameKind)} (h : (names.map (·.1)).Nodup) {x : Str} {k : NameKind} (m : (x, k) ∈ names) : names.lookup x = some k :=
 Wy (λ p hp e => by obtain ⟨y, k'⟩ := p; cases (show y = x from e); exact zhu h hp m) ⟨k, m⟩
theorem zaz {env : Env} {scope : Scope} (x : Str) : (relabel scope env).names.lookup x = (scope.names.lookup x).map λ k => if (k == .free && env.scope.kind == .function && env.kindOf x == some .cell) = true then NameKind.cell else k := by
 unfold relabel
 show (scope.names.map _).lookup x = _
 generalize scope.names = names
 induction names with
 | nil => rfl
 | cons p r ih =>
  obtain ⟨n, k⟩ := p
  rw [List.map_cons, List.lookup_cons (k := n) (as := r)]
  cases hb : x == n with
  | true =>
   have e : x = n := beq_iff_eq.mp hb
   subst e
   show List.lookup x ((if (k == NameKind.free && env.scope.kind == .function && env.kindOf x == some .cell) = true then (x, NameKind.cell) else (x, k)) :: _) = _
   show _ = some (if (k == NameKind.free && env.scope.kind == .function && env.kindOf x == some .cell) = true then NameKind.cell else k)
   split
   · rw [List.lookup_cons, hb]
   · rw [List.lookup_cons, hb]
  | false =>
   show List.lookup x ((if (k == NameKind.free && env.scope.kind == .function && env.kindOf n == some .cell) = true then (n, NameKind.cell) else (n, k)) :: _) = _
   split
   · rw [List.lookup_cons, hb]; exact ih
   · rw [List.lookup_cons, hb]; exact ih
theorem zjh {X : Cx} {pins : List (Addr × Obj)} {σ : St} {H : Hp} {s : Shared} {N : List Str} {scope : Scope} {cap : List (Option Nat)} {fp : List Addr} {h' : Heap} (I : Inv X pins σ H s) (C : CapOk N X.N scope.names X.env.scope.names cap) (hk : scope.kind = .function)
 (hf : ∀ b ∈ fp, zdf X pins H b) (ho : ∀ b ∈ fp, ∃ o, s.heap.get? b = some o)
 (old : ∀ b o, s.heap.get? b = some o -> h'.get? b = some o) (ns : h'.Ns (s.heap.objs.size + 1) (λ _ => none))
 (hc : ∀ p ∈ cellsFrom (s.heap.objs.size + 1 + 1) scope.names (Zn X.env scope.names []), p ∈ Zn X.env scope.names [] \/ ((p.1, NameKind.cell) ∈ scope.names /\ h'.IsCell p.2 none /\ s.heap.objs.size + 1 + 1 <= p.2)) :
 Inv (Zf X N scope (Zn X.env scope.names []) s H fp) [] (Z6 cap σ) H { s with heap := h' } := by
 have has : ∀ x, (x, NameKind.free) ∈ scope.names -> ∃ c, X.env.cells.lookup x = some c := λ x m => I.ok.has x (C.fr _ m rfl)
 have clo : ∀ p ∈ Zn X.env scope.names [], X.env.cells.lookup p.1 = some p.2 /\ (p.1, NameKind.free) ∈ scope.names := λ p m => by
  rcases zgm _ _ p m with z | ⟨z1, z2⟩
  · cases z
  · obtain ⟨c, e⟩ := has _ z1
    rw [e] at z2
    exact ⟨by rw [e]; exact congrArg some z2.symm, z1⟩
 have look : ∀ x c, (cellsFrom (s.heap.objs.size + 1 + 1) scope.names (Zn X.env scope.names [])).lookup x = some c -> (X.env.cells.lookup x = some c /\ (x, NameKind.free) ∈ scope.names) \/ ((x, NameKind.cell) ∈ scope.names /\ h'.IsCell c none /\ s.heap.objs.size + 1 + 1 <= c) := λ x c e => by
  rcases hc _ (mem_of_lookup e) with m | m
  · exact .inl (clo _ m)
  · exact .inr m
 have lt : ∀ x c, X.env.cells.lookup x = some c -> c < s.heap.objs.size := λ x c e => by obtain ⟨v, z⟩ := I.cell x c e; exact z.lt
 have lookF : ∀ x, (x, NameKind.free) ∈ scope.names -> ∃ c, (cellsFrom (s.heap.objs.size + 1 + 1) scope.names (Zn X.env scope.names [])).lookup x = some c /\ X.env.cells.lookup x = some c := λ x m => by
  obtain ⟨c, e⟩ := has x m
  have m1 := Vi scope.names (s.heap.objs.size + 1 + 1) _ _ (zgJ (env := X.env) scope.names [] x m)
  refine ⟨c, Wy (λ p hp ep => ?_) ⟨_, m1⟩, e⟩
  rcases hc p hp with z | z
  · have := (clo p z).1
    rw [ep, e] at this
    exact (Option.some.inj this).symm
  · rw [ep] at z
    exact absurd (zhu C.nd z.1 m) (by decide)
 have kinds : ∀ x, ((relabel scope X.env).names.lookup x = some .cell \/ (relabel scope X.env).names.lookup x = some .free) -> (x, NameKind.free) ∈ scope.names \/ (x, NameKind.cell) ∈ scope.names := λ x h => by
  rw [zaz] at h
  cases e : scope.names.lookup x with
  | none => rw [e] at h; rcases h with h | h <;> cases h
  | some k =>
   have m := mem_of_lookup e
   cases k with
   | free => exact .inl m
   | cell => exact .inr m
   | _ => rw [e] at h; rcases h with h | h <;> (simp at h)
 have lsz : s.heap.objs.size + 1 < h'.objs.size := ns.lt
 refine ⟨⟨I.ok.mod, hk, I.ok.glob, I.ok.blt, Nat.le_succ _, ?_, ?_, ?_, I.ok.hd, I.ok.frames, .inl rfl, ?_, I.bs, zzM I.ok.bsz I.sz, ?_, ?_, I.stack, I.stkFree⟩, rfl, I.bare, (Un.kept old), ⟨_, ns, ?_⟩, ?_, I.hok.fresh (Nat.le_succ _), ?_, (λ _ z => nomatch z), I.hok.kept old, ?_⟩
 · intro x y c e1 e2
   refine zcK scope.names (s.heap.objs.size + 1 + 1) _ (λ p m => ?_) (λ p m q m' e => ?_) (x, c) (mem_of_lookup e1) (y, c) (mem_of_lookup e2) rfl
   · exact Nat.lt_succ_of_lt (Nat.lt_succ_of_lt (lt _ _ (clo p m).1))
   · refine I.ok.inj _ _ _ (clo p m).1 ?_
     rw [e]; exact (clo q m').1
 · intro x h
   rcases kinds x h with m | m
   · obtain ⟨c, e, _⟩ := lookF x m; exact ⟨c, e⟩
   · obtain ⟨c, e⟩ := zcL scope.names (s.heap.objs.size + 1 + 1) (Zn X.env scope.names []) x m
     cases q : (cellsFrom (s.heap.objs.size + 1 + 1) scope.names (Zn X.env scope.names [])).lookup x with
     | some c' => exact ⟨c', q⟩
     | none =>
      exfalso
      have := List.lookup_eq_none_iff.mp q (x, c) e
      simp at this
 · intro x c hx e
   have hx : (scope.names.lookup x == some .cell) = true := hx
   have m := mem_of_lookup (beq_iff_eq.mp hx)
   rcases look x c e with z | z
   · exact absurd (zhu C.nd z.2 m) (by decide)
   · exact zzM (zzM (Nat.le_succ _) (Nat.le_succ _)) z.2.2
 · intro b hb
   obtain ⟨o, e⟩ := ho b hb
   refine ⟨zzO (Nat.lt_succ_of_lt (Heap.lt_size e)), λ x c ec => ?_⟩
   rcases look x c ec with z | z
   · exact (hf b hb).2.2.2.2.1 x c z.1
   · have := Heap.lt_size e
     intro q; subst q
     exact absurd (zzI this (zzM (zzM (Nat.le_succ _) (Nat.le_succ _)) z.2.2)) (Nat.lt_irrefl _)
 · intro b o e hb
   rcases (hf b hb).2.2.2.1 with z | z
   · exact I.ok.noex b o e z
   · exact absurd (zzI (Heap.lt_size e) (zzM I.ok.bsz z)) (Nat.lt_irrefl _)
 · intro b hb hm
   rcases zzA.mp (I.stkSub b hm) with z | z
   · exact (hf b hb).2.1 z
   · exact (hf b hb).2.2.1 z
 · intro i x v e1 e2 e3
   have e2 : (Z6 cap σ)[i]? = some (some v) := e2
   unfold Z6 at e2
   rw [zzG] at e2
   cases ec : cap[i]? with
   | none => rw [ec] at e2; cases e2
   | some c =>
    cases c with
    | none => rw [ec] at e2; cases e2
    | some j =>
     rw [ec] at e2
     have e2 : (σ[j]?).getD none = some v := Option.some.inj e2
     obtain ⟨xn, m⟩ := C.at_ i x j e1 ec
     have es : σ[j]? = some (some v) := by
      cases q : σ[j]? with
      | none => rw [q] at e2; cases e2
      | some y => rw [q] at e2; exact congrArg some e2
     have kf := C.fr _ m rfl
     obtain ⟨mm, hn, hl⟩ := I.loc
     obtain ⟨u, r, l⟩ := hl j x v xn es (by rcases kf with k | k; exact .inr (.inl k); exact .inr (.inr k))
     refine ⟨u, r, .inr ⟨?_, ?_⟩⟩
     · show (relabel scope X.env).names.lookup x = some .cell \/ (relabel scope X.env).names.lookup x = some .free
       rw [zaz, zcO C.nd m]
       show some (if _ then _ else _) = _ \/ some (if _ then _ else _) = _
       split
       · exact .inl rfl
       · exact .inr rfl
     · obtain ⟨c, ec, eo⟩ := lookF x m
       refine ⟨c, ec, ?_⟩
       rcases l with ⟨k1, _⟩ | ⟨_, c2, e4, z⟩
       · have k1 : X.env.scope.names.lookup x = some .local := k1
         rcases kf with k | k <;> (rw [k1] at k; cases k)
       · rw [eo] at e4; cases e4
         exact z.keeps old
 · intro x c e
   rcases look x c e with z | z
   · obtain ⟨v, q⟩ := I.cell x c z.1; exact ⟨v, q.keeps old⟩
   · exact ⟨none, z.2.1⟩
 · intro x c e
   rcases look x c e with z | z
   · exact I.freeC x c z.1
   · exact I.hok.fresh (zzM (zzM (Nat.le_succ _) (Nat.le_succ _)) z.2.2)
 · show (Z6 cap σ).length = N.length
   unfold Z6
   rw [zI, C.len]
abbrev lobj (its : List Value) : Obj := { cls := .type "list", data := .seq its.toArray its.length }
section
variable {X : Cx} {pins : List (Addr × Obj)} {σ : St} {H2 : Hp} {s2 : Shared} {elt tg iter : Expr} {ifs : List Expr} {scope : Scope} {pos : Pos} {N : List Str} {cap : List (Option Nat)} {g : TG} {tt : TT} {te : TE} {wi : TI}
set_option maxHeartbeats 1000000
theorem zeo {J : It} {it : Addr} {fp : List Addr} {tn : Nat -> Heap -> Prop} {Q : VK} {R : Value -> Addr -> Result -> Shared -> Prop} {E : Value -> Shared -> Prop}
 (hc : X.calm = true) (C : CapOk N X.N scope.names X.env.scope.names cap) (hk : scope.kind = .function)
 (hg : ∀ cl s H fp, PG (Zf X N scope cl s H fp) tg g) (ht : ∀ cl s H fp, PTs (Zf X N scope cl s H fp) ifs tt) (he : ∀ cl s H fp, PE (Zf X N scope cl s H fp) elt te)
 (I2 : Inv X pins σ H2 s2) (T : Turn X.prog X.w X.K tg J fp it tn) (st2 : tn 0 s2.heap) (f2 : ∀ b ∈ fp, zdf X pins H2 b)
 (W : Nat -> Nat -> List V -> Hp -> Prop) (m0 : Nat) (w0 : W 0 m0 [] H2)
 (turn : ∀ i m ys H, W i m ys H -> ys.length <= sizeLine /\ ((J.stop i H /\ ∀ p, H p = none -> Q (.ref p) (upd H p (.lst ys))) \/ (J.go i H /\ ∀ x H', J.yld i H x H' -> g x (Z6 cap σ) H' λ σ2 H2 => (∀ (j : Nat) v, (Z6 cap σ)[j]? = some (some v) -> σ2[j]? = some (some v)) /\
  tt σ2 H2 λ b H3 => if b = true then ys.length < sizeLine /\ te σ2 H3 λ y H4 => ∃ m', m' < m /\ W (i + 1) m' (ys ++ [y]) H4 else ∃ m', m' < m /\ W (i + 1) m' ys H3)))
 (fin : ∀ ys H3 s1 m, Inv X pins σ (upd H3 s2.heap.objs.size (.lst ys)) s1 -> s1.heap.Ns (s2.heap.objs.size + 1) m -> zdf X pins (upd H3 s2.heap.objs.size (.lst ys)) (s2.heap.objs.size + 1) ->
  Q (.ref s2.heap.objs.size) (upd H3 s2.heap.objs.size (.lst ys)) -> R (.ref s2.heap.objs.size) (s2.heap.objs.size + 1) (.ok .next) s1) :
 wpAny (model X.prog X.w) X.A (newList []) (λ acc s₃ => wpAny (model X.prog X.w) X.A (newFunctionEnv scope X.env.globals (Zn X.env scope.names []) [] X.env.qual none .none (some X.env)) (λ cenv s₄ =>
  codeAny (model X.prog X.w) X.A (.compStart (.ListComp elt [⟨tg, iter, ifs, 0⟩] scope pos) 0 (.ref it) acc { cenv with scope := relabel scope X.env }) (R acc cenv.locals) s₄) E s₃) E s2 := by
 refine wpAny_newObj_type (zgY λ h' env' eE eL old hns hcells => ?_)
 have e1 : (s2.heap.push { cls := .type "list", dict := none, data := .seq ([] : List Value).toArray }).objs.size = s2.heap.objs.size + 1 := Heap.size_push ..
 dsimp only at eE eL old hns hcells
 rw [e1] at eE eL hns hcells
 have hD0 : (s2.heap.push { cls := .type "list", dict := none, data := .seq ([] : List Value).toArray }).get? s2.heap.objs.size = some (lobj []) := Heap.get?_push_size _ rfl
 have hD : h'.get? s2.heap.objs.size = some (lobj []) := old _ _ hD0
 have old' : ∀ b o, s2.heap.get? b = some o -> h'.get? b = some o := λ b o q => old b o (Heap.get?_push_of_some _ q)
 have fex : ∀ b ∈ fp, ∃ o, s2.heap.get? b = some o := λ b hb => by obtain ⟨o, e, _⟩ := T.obj _ _ st2 b hb; exact ⟨o, e⟩
 have flt : ∀ b ∈ fp, b < s2.heap.objs.size := λ b hb => by obtain ⟨o, e⟩ := fex b hb; exact Heap.lt_size e
 have I' := zjh I2 C hk f2 fex old' hns hcells
 rw [eE, eL]
 generalize hX : Zf X N scope (Zn X.env scope.names []) s2 H2 fp = X' at I'
 have xP : X'.prog = X.prog := by rw [<- hX]
 have xw : X'.w = X.w := by rw [<- hX]
 have xK : X'.K = X.K := by rw [<- hX]
 have xA : X'.A = X.A := by rw [<- hX]
 have xe : X'.env = VM scope X.env (Zn X.env scope.names []) (s2.heap.objs.size + 1) := by rw [<- hX]
 have xL : X'.env.locals = s2.heap.objs.size + 1 := by rw [xe]; rfl
 have xfs : X'.fs = frs X.stack := by rw [<- hX]
 have xex : X'.ex = fp := by rw [<- hX]
 have xs : X'.s₀ = s2 := by rw [<- hX]
 have xH : X'.H₀ = H2 := by rw [<- hX]
 have xpn : X'.pn = [] := by rw [<- hX]
 have xc : X'.calm = true := by rw [<- hX]; exact hc
 have xE : X'.xe = λ _ _ => False := by rw [<- hX]
 have hg' : PG X' tg g := by rw [<- hX]; exact hg _ _ _ _
 have ht' : PTs X' ifs tt := by rw [<- hX]; exact ht _ _ _ _
 have he' : PE X' elt te := by rw [<- hX]; exact he _ _ _ _
 have H2D : H2 s2.heap.objs.size = none := I2.hok.fresh (zzL _)
 have Dfs : s2.heap.objs.size ∉ X'.fs := by
  rw [xfs]
  intro hm
  rcases zzA.mp (I2.stkSub _ hm) with z | z
  · exact absurd I2.lt (by rw [<- z]; exact Nat.lt_irrefl _)
  · exact I2.nofs (zzL _) z
 have DL : s2.heap.objs.size ≠ X'.env.locals := by rw [xL]; exact zzO (Nat.lt_succ_self _)
 have pinD : ∀ {σ' : St} {H' : Hp} {s' : Shared} {its : List Value} {ps : List (Addr × Obj)}, Inv X' ps σ' H' s' -> s'.heap.get? s2.heap.objs.size = some (lobj its) -> H' s2.heap.objs.size = none -> Inv X' [(s2.heap.objs.size, lobj its)] σ' H' s' := λ I e n =>
  I.pins_of λ p hp => by
   cases zzP.mp hp
   exact ⟨e, n, DL, Dfs, λ v z => by cases z⟩
 have stat : ∀ {H' : Hp} {its : List Value}, (∀ b ∈ fp, H' b = none) -> ∀ b ∈ fp, zdf X' [(s2.heap.objs.size, lobj its)] H' b := λ hn b hb => by
  refine ⟨hn b hb, ?_, ?_, .inl (by rw [xex]; exact hb), (I'.ok.exf b (by rw [xex]; exact hb)).2, λ p hp => ?_⟩
  · exact (I'.ok.exf b (by rw [xex]; exact hb)).1
  · exact I'.ok.exfs b (by rw [xex]; exact hb)
  · rw [xpn, List.nil_append] at hp
    cases zzP.mp hp
    exact Nat.ne_of_gt (flt b hb)
 have loop : ∀ (n : Nat) (s' : Shared), (∃ i ys its H3, Inv X' [(s2.heap.objs.size, lobj its)] (Z6 cap σ) H3 s' /\ tn i s'.heap /\ (∀ b ∈ fp, H3 b = none) /\ Vals ys its /\ W i n ys H3) ->
  codeAny (model X.prog X.w) X.A (.compLoop (.ListComp elt [⟨tg, iter, ifs, 0⟩] scope pos) 0 (.ref it) (.ref s2.heap.objs.size) (VM scope X.env (Zn X.env scope.names []) (s2.heap.objs.size + 1)))
   (R (.ref s2.heap.objs.size) (s2.heap.objs.size + 1)) s' := by
  intro n s' h0
  refine zhy (λ n s' => ∃ i ys its H3, Inv X' [(s2.heap.objs.size, lobj its)] (Z6 cap σ) H3 s' /\ tn i s'.heap /\ (∀ b ∈ fp, H3 b = none) /\ Vals ys its /\ W i n ys H3) ?_ n h0
  clear h0 n s'
  rintro n s3 E' ⟨i, ys, its, H3, I3, st3, fr3, rv3, w3⟩
  obtain ⟨hz, hstep⟩ := turn i n ys H3 w3
  rcases hstep with ⟨stop, qn⟩ | ⟨go, step⟩
  · have := T.done X' xP xw xK xc i _ s3 _ H3 E' I3 (stat fr3) st3 stop
    rw [xA] at this
    refine wpAny_mono this (λ r s4 ⟨hr, I4⟩ => ?_) λ _ _ z => z
    subst hr
    obtain ⟨gD, nD, _⟩ := I4.pin (s2.heap.objs.size, lobj its) (by rw [xpn]; simp)
    obtain ⟨m, hn, _⟩ := I4.loc
    rw [xL] at hn
    have b4 := I4.base
    rw [xfs, xex, xH, xs] at b4
    have nL : H3 (s2.heap.objs.size + 1) = none := by have := I4.free; rw [xL] at this; exact this
    have neD : ∀ b o, s2.heap.get? b = some o -> b ≠ s2.heap.objs.size := λ b o e => zzO (Heap.lt_size e)
    have neH : ∀ b u, H2 b = some u -> b ≠ s2.heap.objs.size := λ b u e z => by rw [z, H2D] at e; cases e
    have ne3 : ∀ b u, H3 b = some u -> b ≠ s2.heap.objs.size := λ b u e z => by rw [z, nD] at e; cases e
    have hok4 := I4.hok
    rw [xP, xw] at hok4
    refine fin ys H3 s4 m (I2.call' (ch := fp) ?_ ⟨b4.keep, b4.slot, λ b o e n hx => ?_, b4.there, λ b xs e => ?_, λ b o u e => ?_, λ b ps e => ?_⟩ ?_ I4.bare λ b hb => ?_) hn (I2.fpOk (Nat.le_succ _) (by rw [yO (Nat.ne_of_gt (Nat.lt_succ_self _))]; exact nL)) (qn _ nD)
    · have := I4.os; rw [xs] at this; exact this
    · rw [yO (neD b o e)]; exact b4.free b o e n hx
    · rw [yO (neH b _ e)]; exact b4.tups b xs e
    · rw [yO (neH b _ e)]; exact b4.frzs b o u e
    · rw [yO (neH b _ e)]; exact b4.tbls b ps e
    · intro b u e
      by_cases hb : b = s2.heap.objs.size
      · subst hb
        rw [xQ] at e
        cases e
        exact ⟨hz, its, its.length, rv3, gD⟩
      · rw [yO hb] at e
        exact (hok4 b u e).stay (λ c v _ q => q) (λ c q => by rw [yO (ne3 c _ q)]; exact q) λ c xs q => by rw [yO (ne3 c _ q)]; exact q
    · obtain ⟨f0, f1, f3, f4, f5, f6⟩ := f2 b hb
      exact ⟨f4, f1, f5, f6⟩
  · have := T.item X' xP xw xK xc i _ s3 _ H3 E' I3 (stat fr3) st3 go
    rw [xA] at this
    refine wpAny_mono this (λ r s4 ⟨u, hr, h4⟩ => ?_) λ _ _ z => z
    subst hr
    refine wpAny_mono h4 (λ _ s5 ⟨x, H5, I5, r5, y5, st5, fr5⟩ => ?_) λ _ _ z => z
    have I5' := I5.pinned (stat fr5) (T.obj _ _ st5)
    have h6 := hg' _ s5 _ H5 x u _ I5' r5 (step x H5 y5)
    rw [xP, xw, xA, xe, xE] at h6
    refine wpAny_mono h6 (λ _ s6 ⟨σ6, H6, I6, cap6, q6⟩ => ?_) λ _ _ z => z.elim
    have h7 := ht' _ s6 σ6 H6 _ I6 q6
    rw [xP, xw, xA, xe, xE] at h7
    refine wpAny_mono h7 (λ b s7 ⟨H7, I7, q7⟩ => ?_) λ _ _ z => z.elim
    have keep : ∀ {H8 : Hp} {s8 : Shared}, Inv X' ([(s2.heap.objs.size, lobj its)] ++ zeF fp s5.heap) σ6 H8 s8 -> Inv X' [(s2.heap.objs.size, lobj its)] (Z6 cap σ) H8 s8 /\ tn (i + 1) s8.heap /\ ∀ b ∈ fp, H8 b = none := λ {H8 s8} I8 => by
     refine ⟨I8.unpinned.weak ?_ cap6, T.keep _ _ _ st5 λ b hb o e => (I8.pin (b, o) (zzJ _ (zzJ _ (Vp hb e)))).1, λ b hb => ?_⟩
     · rw [I3.len]; exact I8.len.symm
     · obtain ⟨o, e, d⟩ := T.obj _ _ st5 b hb
       exact (I8.pin (b, o) (zzJ _ (zzJ _ (Vp hb e)))).2.1
    cases b with
    | false =>
     obtain ⟨m', hm, w7⟩ := q7
     obtain ⟨k1, k2, k3⟩ := keep I7
     exact ⟨m', hm, i + 1, ys, its, H7, k1, k2, k3, rv3, w7⟩
    | true =>
     obtain ⟨hz2, q7⟩ := q7
     have h8 := he' _ s7 σ6 H7 _ I7 q7
     rw [xP, xw, xA, xe, xE] at h8
     show wpAny _ _ _ _ _ _
     refine wpAny_mono h8 (λ yv s8 ⟨y, H8, I8, ry, m', hm, w8⟩ => ?_) λ _ _ z => z.elim
     obtain ⟨k1, k2, k3⟩ := keep I8
     obtain ⟨gD, nD, _⟩ := k1.pin (s2.heap.objs.size, lobj its) (by rw [xpn]; simp)
     have hl := rv3.length
     refine append_at gD (λ h9 sb gD9 => ?_) (by rw [zzF]; omega)
     have I9 : Inv X' [] (Z6 cap σ) H8 { s8 with heap := h9 } := (k1.pins_of (pins' := []) (λ _ z => nomatch z)).turned (t' := s8.toks) (it := s2.heap.objs.size) (λ b o hb e => (sb.2 b hb).trans e) nD DL (.inr (by rw [xs]; exact zzL _)) (λ x c ec z => by
      obtain ⟨v, o, ho, hd⟩ := k1.cell x c ec
      rw [z, gD] at ho
      cases ho
      cases hd) (λ p hp => by rw [xpn] at hp; cases hp)
     have gD9' : h9.get? s2.heap.objs.size = some (lobj (its ++ [yv])) := by
      rw [gD9]
      congr 1
      show ({ cls := .type "list", data := .seq (its.toArray.push yv) (its.length + 1) } : Obj) = { cls := .type "list", data := .seq (its ++ [yv]).toArray (its ++ [yv]).length }
      rw [zzH, List.length_singleton, List.push_toArray]
     refine ⟨m', hm, i + 1, ys ++ [y], its ++ [yv], H8, pinD I9 gD9' nD, T.keep _ _ _ k2 λ b hb o e => (sb.2 b (zzO (flt b hb))).trans e, k3, rv3.append (.cons ry .nil), w8⟩
 have start : ∃ i ys its H3, Inv X' [(s2.heap.objs.size, lobj its)] (Z6 cap σ) H3 { s2 with heap := h' } /\ tn i h' /\ (∀ b ∈ fp, H3 b = none) /\ Vals ys its /\ W i m0 ys H3 :=
  ⟨0, [], [], H2, pinD I' hD H2D, T.keep _ _ _ st2 λ b hb o e => old' b o e, λ b hb => (f2 b hb).1, .nil, w0⟩
 exact codeAny_compStart_list (loop m0 _ start) (T.self _ 0 _ _ _ (T.keep _ _ _ st2 λ b hb o e => old' b o e) (loop m0 _ start))
theorem zpb (hc : X.calm = true) (hi : PI X tg iter wi) (hk : scope.kind = .function) (hcap : wu N X.N scope.names X.env.scope.names cap = true)
 (hg : ∀ cl s H fp, PG (Zf X N scope cl s H fp) tg g) (ht : ∀ cl s H fp, PTs (Zf X N scope cl s H fp) ifs tt) (he : ∀ cl s H fp, PE (Zf X N scope cl s H fp) elt te)
 (hs : ∀ x, foldedSetIterable iter X.env x = pure x) : PE X (.ListComp elt [⟨tg, iter, ifs, 0⟩] scope pos) (zmo wi cap g tt te) := by
 intro pins s σ H Q I h
 have C := ziD hcap
 rw [eval_ListComp]
 refine wpAny_comprehension_free (use := none) rfl hs (zbd λ x m e => I.ok.has x.1 (C.fr x m e)) hk (λ y m e => zcO C.nd (by rw [<- e]; exact m)) ?_
 refine thn (hi pins s σ H _ I h) λ v s1 h1 => thn h1 λ itv s2 h2 => ?_
 obtain ⟨it, fp, tn, J, H2, e, I2, T, st2, f2, W, ⟨m0, w0⟩, turn⟩ := h2
 subst e
 refine zeo (R := λ acc C r s' => compPost (model X.prog X.w) X.A X.xe none (EP X pins σ Q) acc C r s') hc C hk hg ht he I2 T st2 f2 W m0 w0 turn λ ys H3 s3 m I3 hn fl q => ?_
 refine ⟨m, hn, λ h' sb => ?_⟩
 obtain ⟨f0, f1, f3, f4, f5, f6⟩ := fl
 exact ⟨.ref s2.heap.objs.size, _, I3.turned (t' := s3.toks) (λ b o hb e => (sb.2 b hb).trans e) f0 f1 f4 f5 f6, rfl, q⟩
theorem znX {i : Nat} {y : Str} {py spos : Pos} (hN : X.N.Nodup) (hiy : X.N[i]? = some y) (hy : Loc X.env.scope y) (hf : X.fn y = true \/ X.env.scope.names.lookup y = some .local)
 (hsw : swapsWith (.ListComp elt [⟨tg, iter, ifs, 0⟩] scope pos) (some (.Name y py)) spos.line X.env = pure true)
 (hc : X.calm = true) (hi : PI X tg iter wi) (hk : scope.kind = .function) (hcap : wu N X.N scope.names X.env.scope.names cap = true)
 (hg : ∀ cl s H fp, PG (Zf X N scope cl s H fp) tg g) (ht : ∀ cl s H fp, PTs (Zf X N scope cl s H fp) ifs tt) (he : ∀ cl s H fp, PE (Zf X N scope cl s H fp) elt te)
 (hs : ∀ x, foldedSetIterable iter X.env x = pure x) : PS X (.Assign [.Name y py] (.ListComp elt [⟨tg, iter, ifs, 0⟩] scope pos) spos) (zql (zmo wi cap g tt te) (zhW i)) := by
 intro pins s σ H D I h
 have C := ziD hcap
 rw [exec_Assign_Name_used _ _ _ _ hsw]
 refine wpAny_bind (wpAny_standAt (wpAny_bind ?_))
 show wpAny _ X.A (do let _ <- comprehension (.ListComp elt [⟨tg, iter, ifs, 0⟩] scope pos) scope X.env _ (newList []) false (eval iter X.env) (some (assign (.Name y py) X.env))) _ _ s
 refine wpAny_bind (wpAny_mono (wpAny_comprehension_free (use := some (assign (.Name y py) X.env)) (Q := λ _ s' => SP X pins D .next s') rfl hs (zbd λ x m e => I.ok.has x.1 (C.fr x m e)) hk (λ y m e => zcO C.nd (by rw [<- e]; exact m)) ?_) (λ _ s' hq => wpAny_pure (wpAny_pure hq)) λ _ _ e => e)
 refine thn (hi pins s σ H _ I h) λ v s1 h1 => thn h1 λ itv s2 h2 => ?_
 obtain ⟨it, fp, tn, J, H2, e, I2, T, st2, f2, W, ⟨m0, w0⟩, turn⟩ := h2
 subst e
 refine zeo (Q := λ x H1 => zhW i x σ H1 D.nx) (R := λ acc C r s' => compPost (model X.prog X.w) X.A X.xe (some (assign (.Name y py) X.env)) (λ _ s' => SP X pins D .next s') acc C r s') hc C hk hg ht he I2 T st2 f2 W m0 w0 turn λ ys H3 s3 m I3 hn fl q => ?_
 obtain ⟨f0, f1, f3, f4, f5, f6⟩ := fl
 refine wpAny_assign_Name (zgr I3 hN hiy hy (v := .ref s2.heap.objs.size) rfl (λ s4 I4 ⟨a, sb, ha⟩ => ?_) hf)
 refine ⟨m, hn.sameBut sb (λ z => ?_), λ h' sb' => ?_⟩
 · rcases ha with ha | ha
   · exact f1 (z.trans ha)
   · exact f5 y a ha z.symm
 · exact ⟨_, _, I4.turned (t' := s4.toks) (λ b o hb e => (sb'.2 b hb).trans e) f0 f1 f4 f5 f6, q⟩
end
structure ItC (K : zD) (kd : KD) (F : Addr -> Prop) (H : Hp) (J : It) (ds : List It1) : Prop where
 all : ∀ (H2 : Hp) (T : Addr -> Prop), (∀ b u, H b = some u -> H2 b = some u) -> (∀ a, T a -> H a = none /\ H2 a ≠ none) -> ∀ i, (i < ds.length -> J.go i H2) /\ (ds.length <= i -> J.stop i H2) /\
  ∀ v H3, J.yld i H2 v H3 -> (∀ b o, H2 b = some o -> H3 b = some o) /\ ∀ x, ds[i]? = some x -> Rp K kd (λ a => x.1 = true /\ (F a \/ T a)) H3 v x.2
def alC (K : zD) (kd : KD) (f : IF) : TI := λ σ H R => ∃ F B ad as ds as', Rel K kd F B [] ad as σ H /\ f as = some (ds, as') /\
 ∀ J ad' H', Rel K kd F B [] ad' as' σ H' -> Grow (Gw [] ad) H (Gw [] ad') H' -> ItC K kd (Lv F B (Gw [] ad') true) H' J ds -> R J H'
@[irreducible] def AIc (X : Cx) (kd : KD) (tg iter : Expr) (f : IF) : Prop := PI X tg iter (alC X.K kd f)
def zcU (os : List O) : List It1 := os.map λ o => match o with | .lf st d => (st, d) | o => (false, o.toD)
def ztt (as : AS) : RV -> Option (List It1)
 | .ow o => zhT (o.str, o.toD)
 | .bo i => match as[i]? with
  | some (some (.nd .ls os)) => some (zcU os)
  | some (some (.nd .tp os)) => some (zcU os)
  | _ => none
def Yr (f : EF) : IF := λ as => (f as).bind λ p => (ztt p.2 p.1).bind λ ds => some (ds, p.2)
section
variable {K : zD} {kd : KD} {F B : Addr -> Prop} {G : Addr -> Prop} {T : List Addr} {ad : Ad} {as : AS} {σ : St} {H H' : Hp}
inductive RpC (K : zD) (kd : KD) (F : Addr -> Prop) (H : Hp) : List V -> List It1 -> Prop
 | nil : RpC K kd F H [] []
 | cons {v : V} {x : It1} {vs : List V} {ds : List It1} : Rp K kd (λ a => x.1 = true /\ F a) H v x.2 -> RpC K kd F H vs ds -> RpC K kd F H (v :: vs) (x :: ds)
theorem RpC.length {vs : List V} {ds : List It1} (h : RpC K kd F H vs ds) : vs.length = ds.length := by
 induction h with
 | nil => rfl
 | cons _ _ ih => exact congrArg (· + 1) ih
theorem RpC.get {vs : List V} {ds : List It1} {i : Nat} {x : It1} (h : RpC K kd F H vs ds) (e : ds[i]? = some x) : ∃ v, vs[i]? = some v /\ Rp K kd (λ a => x.1 = true /\ F a) H v x.2 := by
 induction h generalizing i with
 | nil => simp at e
 | cons h r ih =>
  cases i with
  | zero => simp at e; subst e; exact ⟨_, rfl, h⟩
  | succ i =>
   obtain ⟨v, h1, h2⟩ := ih (i := i) (by simpa using e)
   exact ⟨v, by simpa using h1, h2⟩
theorem Rp.since {Ob : Addr -> Prop} {v : V} {d : D} {T : Addr -> Prop} (k : ∀ b u, H b = some u -> H' b = some u) (hT : ∀ a, T a -> H a = none) (h : Rp K kd Ob H v d) : Rp K kd (Un2 Ob T) H' v d :=
 Rp.grow (F := Ob) (W := λ _ => False) (W' := T) (H' := H') ⟨λ b u q _ => k b u q, λ b z => .inr (hT b z)⟩ (h.less λ a z => z.elim id False.elim)
theorem zeD {st : Bool} {vs : List V} {ds : List D} (h : RpL K kd (Lv F B G st) H vs ds) : RpC K kd (Lv F B G true) H vs (kids st ds) :=
 RpL.ind (P := λ vs ds => RpC K kd (Lv F B G true) H vs (kids st ds)) .nil (λ {v d vs ds} h _ ih => by
  refine .cons (x := (yF d || st, d)) ?_ ih
  cases e : yF d with
  | true => exact h.flat e
  | false =>
   refine h.less λ a z => ?_
   have zs : st = true := z.1
   rw [zs]; exact z.2) h
theorem zpA {vs : List V} {os : List O} {fp : List Addr} (h : WW K kd F B G H vs os fp) : RpC K kd (Lv F B G true) H vs (zcU os) :=
 RoL.ind (P := λ vs os _ => RpC K kd (Lv F B G true) H vs (zcU os)) .nil (λ {v o vs os fp fq} h _ ih => by
  have ha := zhm h
  refine .cons ?_ ih
  cases h with
  | lf rp => exact rp.less λ a z => (by have zs := z.1; dsimp only at zs; rw [zs]; exact z.2)
  | ls => exact ha.less λ a z => nomatch z.1
  | dc => exact ha.less λ a z => nomatch z.1
  | ob => exact ha.less λ a z => nomatch z.1
  | tp => exact ha.less λ a z => nomatch z.1) h
theorem zeP {a : Addr} {vs : List V} {ds : List It1} (h : SqL K H a vs) (r : RpC K kd F H vs ds) : ItC K kd F H (Itl K a) ds := ⟨λ H3 T k hT i => by
 have hr3 : SqL K H3 a vs := by
  rcases h with (h | ⟨o, h⟩) | h
  · exact .inl (.inl (k _ _ h))
  · exact .inl (.inr ⟨o, k _ _ h⟩)
  · exact .inr h
 refine ⟨λ hi => ?_, λ hi => ⟨_, hr3, by rw [r.length]; exact hi⟩, λ v H4 hy => ?_⟩
 · obtain ⟨u, hu, _⟩ := r.get (zzC hi)
   exact ⟨_, u, hr3, hu⟩
 · obtain ⟨rfl, hv⟩ := hy
   refine ⟨λ _ _ z => z, λ d hd => ?_⟩
   obtain ⟨u, hu, ru⟩ := r.get hd
   have := hv _ hr3
   rw [hu] at this
   cases this
   exact (ru.since k λ a z => (hT a z).1).less λ a z => z.2.elim (λ y => .inl ⟨z.1, y⟩) .inr⟩
theorem zkQ {a : Addr} {vs : List V} {ds : List It1} (h : SqT K H a vs) (r : RpC K kd F H vs ds) : ItC K kd F H (Itt K a) ds := ⟨λ H3 T k hT i => by
 have hr3 : SqT K H3 a vs := by
  rcases h with (h | ⟨o, h⟩) | h
  · exact .inl (.inl (k _ _ h))
  · exact .inl (.inr ⟨o, k _ _ h⟩)
  · exact .inr h
 refine ⟨λ hi => ?_, λ hi => ⟨_, hr3, by rw [r.length]; exact hi⟩, λ v H4 hy => ?_⟩
 · obtain ⟨u, hu, _⟩ := r.get (zzC hi)
   exact ⟨_, u, hr3, hu⟩
 · obtain ⟨rfl, hv⟩ := hy
   refine ⟨λ _ _ z => z, λ d hd => ?_⟩
   obtain ⟨u, hu, ru⟩ := r.get hd
   have := hv _ hr3
   rw [hu] at this
   cases this
   exact (ru.since k λ a z => (hT a z).1).less λ a z => z.2.elim (λ y => .inl ⟨z.1, y⟩) .inr⟩
theorem znY (lo : Int) (n : Nat) : ItC K kd F H (Itr lo n) (v6 lo n) := ⟨λ H2 T k hT i => by
 have hl : (v6 lo n).length = n := by unfold v6; simp
 refine ⟨λ hi => by rw [hl] at hi; exact hi, λ hi => by rw [hl] at hi; exact hi, λ v H3 hy => ?_⟩
 obtain ⟨rfl, rfl⟩ := hy
 refine ⟨λ _ _ z => z, λ d hd => ?_⟩
 have hi : i < n := by rw [<- hl]; exact (zzE.mp hd).1
 unfold v6 at hd
 rw [zzG, List.getElem?_range hi] at hd
 cases hd
 exact .int _⟩
end
theorem Yk {X : Cx} {kd : KD} {tg e : Expr} {fa : EF} (he : AE X kd e fa) : AIc X kd tg e (Yr fa) := by
 with_unfolding_all (
 intro pins s σ H R I h
 obtain ⟨F, B, ad, as, ds, as', Rl, e, q⟩ := h
 obtain ⟨⟨p, as1⟩, h1, e⟩ := bS_ (show (fa as).bind _ = _ from e)
 obtain ⟨ys, h2, e⟩ := bS_ e
 cases e
 cases p with
 | ow o =>
  have h2 : zhT (o.str, o.toD) = some ds := h2
  generalize hd : o.toD = d at h2
  cases d with
  | lst xs =>
   cases h2
   refine zhn he pins s σ H R I ⟨F, B, ad, as, _, as1, Rl, h1, λ v T1 ad1 H1 R1 rv1 g1 => ?_⟩
   have rp := zhi R1 rv1
   rw [hd] at rp
   cases rp with
   | lst hn hr rl => exact ⟨_, rfl, ⟨_, .inl hr⟩, q _ ad1 H1 R1.drop (g1.trans (Grow.less Gw.drop)) (zeP (.inl hr) (zeD rl))⟩
   | lstK a b c rl => exact ⟨_, rfl, ⟨_, .inr ⟨_, _, _, a, rfl, rfl, rfl, b, c⟩⟩, q _ ad1 H1 R1.drop (g1.trans (Grow.less Gw.drop)) (zeP (.inr ⟨_, _, _, a, rfl, rfl, rfl, b, c⟩) (zeD rl))⟩
  | tup xs =>
   cases h2
   refine zjT he pins s σ H R I ⟨F, B, ad, as, _, as1, Rl, h1, λ v T1 ad1 H1 R1 rv1 g1 => ?_⟩
   have rp := zhi R1 rv1
   rw [hd] at rp
   have go : ∃ a ys, v = .ref a /\ SqT X.K H1 a ys /\ RpL X.K kd (Lv F B (Gw [] ad1) o.str) H1 ys xs := by
    cases rp with
    | tup n h r => exact ⟨_, _, rfl, .inl h, r⟩
    | tupK a b c e f r => exact ⟨_, _, rfl, .inr ⟨_, _, _, a, b, c, e, f⟩, r⟩
   obtain ⟨a, ys, rfl, hs, rl⟩ := go
   exact ⟨_, rfl, ⟨_, hs⟩, q _ ad1 H1 R1.drop (g1.trans (Grow.less Gw.drop)) (zkQ hs (zeD rl))⟩
  | _ => cases h2
 | bo i =>
  have h2 : (match as1[i]? with | some (some (.nd .ls os)) => some (zcU os) | some (some (.nd .tp os)) => some (zcU os) | _ => none) = some ds := h2
  cases k : as1[i]? with
  | none => rw [k] at h2; cases h2
  | some s0 =>
   rw [k] at h2
   match s0, h2, k with
   | some (.nd .ls os), h2, k =>
    cases h2
    refine zhn he pins s σ H R I ⟨F, B, ad, as, _, as1, Rl, h1, λ v T1 ad1 H1 R1 rv1 g1 => ?_⟩
    obtain ⟨rfl, hs⟩ := rv1
    obtain ⟨w, hw, ro⟩ := R1.sl i _ k
    rw [hs] at hw
    cases hw
    generalize hfp : ad1 i = fp at ro
    cases ro with
    | ls hH rl => exact ⟨_, rfl, ⟨_, .inl (.inl hH)⟩, q _ ad1 H1 R1 g1 (zeP (.inl (.inl hH)) (zpA rl))⟩
   | some (.nd .tp os), h2, k =>
    cases h2
    refine zjT he pins s σ H R I ⟨F, B, ad, as, _, as1, Rl, h1, λ v T1 ad1 H1 R1 rv1 g1 => ?_⟩
    obtain ⟨rfl, hs⟩ := rv1
    obtain ⟨w, hw, ro⟩ := R1.sl i _ k
    rw [hs] at hw
    cases hw
    generalize hfp : ad1 i = fp at ro
    cases ro with
    | tp n hH rl => exact ⟨_, rfl, ⟨_, .inl (.inl hH)⟩, q _ ad1 H1 R1 g1 (zkQ (.inl (.inl hH)) (zpA rl))⟩)
theorem yH {X : Cx} {kd : KD} {tg a : Expr} {pos : Pos} {fr : AF} {p : Pos} (hg : Gl X "range") (hm : X.mg "range" = none) (ha : AA X kd [a] fr) (hs : starEach [a] X.env = [(false, eval a X.env)]) : AIc X kd tg (.Call (.Name "range" p) [a] [] pos) (xR fr xW) := by
 with_unfolding_all (
 intro pins s σ H R I h
 obtain ⟨F, B, ad, as, ds, as', Rl, e, q⟩ := h
 obtain ⟨⟨ps, as1⟩, h1, e⟩ := bS_ (show (fr as).bind _ = _ from e)
 obtain ⟨⟨xs, lv⟩, h2, e⟩ := bS_ e
 obtain ⟨ys, h3, e⟩ := bS_ e
 cases e
 obtain ⟨j, rfl, h3⟩ := zkz h3
 · obtain ⟨hj, e3⟩ := yD h3
   cases e3
   refine zgt hg hm ha hs pins s σ H R I ⟨F, B, ad, as, ps, _, Rl, h1, λ vs ad1 H1 R1 rv1 g1 => ?_⟩
   have vl := zaG R1 rv1 h2
   cases vl with
   | cons v1 v2 =>
    cases v2
    cases v1
    exact ⟨j, rfl, hj.1, hj.2, q _ ad1 H1 R1 g1 (znY 0 _)⟩)
def ztp (as : AS) : Option Nat -> Option O
 | none => none
 | some j => match as[j]? with
  | some (some (.lf st d)) => some (.lf st d)
  | some (some o) => some (.lf false o.toD)
  | _ => none
def X7 (cap : List (Option Nat)) (as : AS) : AS := cap.map (ztp as)
def v9 (g : GF) (tt : TF) (fe : EF) (as0 : AS) : List It1 -> Option (List O)
 | [] => some []
 | x :: r => (g x as0).bind λ as1 => (tt as1).bind λ b => if b.1 = true then (fe b.2).bind λ p => (toO p.2 p.1).bind λ q => if q.1.str = true then (v9 g tt fe as0 r).bind λ os => some (q.1 :: os) else none
  else v9 g tt fe as0 r
def yh (fi : IF) (cap : List (Option Nat)) (g : GF) (tt : TF) (fe : EF) : EF := λ as => (fi as).bind λ p => if p.1.length <= sizeLine then (v9 g tt fe (X7 cap p.2) p.1).bind λ os => some (.ow (.nd .ls os), p.2) else none
def yV : TF := λ as => some (true, as)
section
variable {K : zD} {kd : KD} {F B : Addr -> Prop} {T : List Addr} {ad : Ad} {as : AS} {σ : St} {H H' : Hp} {cap : List (Option Nat)}
theorem zpu (R : Rel K kd F B [] ad as σ H) (k : ∀ b u, H b = some u -> H' b = some u) (hT : ∀ a ∈ T, H a = none) (hT' : ∀ a ∈ T, H' a ≠ none) :
 Rel K kd (Un2 (Lv F B (Gw [] ad) true) (· ∈ T)) (λ _ => False) [] (λ _ => []) (X7 cap as) (Z6 cap σ) H' := by
 have no : ∀ a, ¬ Gw [] (λ _ => []) a := λ a z => z.elim (λ y => nomatch y) λ ⟨_, y⟩ => nomatch y
 have kn : ∀ a, H a ≠ none -> H' a ≠ none := λ a z => by
  cases e : H a with
  | none => exact absurd e z
  | some u => rw [k a u e]; simp
 have up : ∀ {st : Bool} {v : V} {d : D}, Rp K kd (λ a => st = true /\ Lv F B (Gw [] ad) true a) H v d -> Rp K kd (Lv (Un2 (Lv F B (Gw [] ad) true) (· ∈ T)) (λ _ => False) (Gw [] λ _ => []) st) H' v d := λ {st v d} h => by
  have := Rp.grow (F := λ a => st = true /\ Lv F B (Gw [] ad) true a) (W := λ _ => False) (W' := (· ∈ T)) (H' := H') ⟨λ b u q _ => k b u q, λ b z => .inr (hT b z)⟩ (h.less λ a z => z.elim id False.elim)
  refine this.less λ a z => ?_
  rcases z with (⟨z1, z2⟩ | z) | z
  · rcases z2 with z2 | z2
    · exact .inl ⟨z1, z2⟩
    · exact .inr z2
  · exact z.elim
  · exact (no a z).elim
 refine ⟨by unfold X7 Z6; rw [zI, zI], λ _ _ => rfl, λ _ => List.nodup_nil, (λ _ _ _ z => nomatch z), List.nodup_nil, (λ _ _ _ z => nomatch z), λ a z => z.elim (λ y => kn a (R.trk true a y)) (hT' a), (λ _ z => z.elim), λ a z => (no a z).elim, λ i s e => ?_⟩
 unfold X7 at e
 rw [zzG] at e
 obtain ⟨c, hc, rfl⟩ := zzV.mp e
 have es : (Z6 cap σ)[i]? = some (zrX σ c) := by
  unfold Z6
  rw [zzG, hc]
  rfl
 rw [es]
 cases c with
 | none => rfl
 | some j =>
  show zer _ _ _ _ _ _ (match as[j]? with | some (some (.lf st d)) => some (.lf st d) | some (some o) => some (.lf false o.toD) | _ => none) _ _
  cases k2 : as[j]? with
  | none => rfl
  | some s0 =>
   cases s0 with
   | none => rfl
   | some o =>
    obtain ⟨v, hv, ro⟩ := R.sl j _ k2
    cases o with
    | lf st d =>
     have e0 : ad j = [] := by
      generalize hfp : ad j = fp at ro
      cases ro
      rfl
     rw [e0] at ro
     refine ⟨v, by show some ((σ[j]?).getD none) = _; rw [hv]; rfl, .lf (up ?_)⟩
     exact (zhH ro).less λ a z => by have zs : st = true := z.1; show Lv F B (Gw [] ad) st a; rw [zs]; exact z.2
    | nd kk os => exact ⟨v, by show some ((σ[j]?).getD none) = _; rw [hv]; rfl, .lf (up ((zhm ro).less λ a z => nomatch z.1))⟩
theorem zmC {S : List Nat} {fi : IF} {g : GF} {tt : TF} {fe : EF} {Q : VK} (hS : ∀ i ∈ S, cap[i]? = some none) (h : al K kd (yh fi cap g tt fe) σ H Q) :
 zmo (alC K kd fi) cap (alG K kd S g) (alT K kd tt) (al K kd fe) σ H Q := by
 obtain ⟨F, B, ad, as, r, as', R, e, q⟩ := h
 obtain ⟨⟨ds, as1⟩, h1, e⟩ := bS_ (show (fi as).bind _ = _ from e)
 by_cases hz : ds.length <= sizeLine
 · have e : (if ds.length <= sizeLine then (v9 g tt fe (X7 cap as1) ds).bind λ os => some (RV.ow (.nd .ls os), as1) else none) = some (r, as') := e
   rw [if_pos hz] at e
   obtain ⟨os, h2, e⟩ := bS_ e
   cases e
   refine ⟨F, B, ad, as, ds, as', R, h1, λ J ad1 H1 R1 g1 it => ?_⟩
   refine ⟨λ i m ys H3 => m + i = ds.length /\ ∃ T os1 os2, os = os1 ++ os2 /\ v9 g tt fe (X7 cap as') (ds.drop i) = some os2 /\ os1.length <= i /\ T.Nodup /\ (∀ a ∈ T, H1 a = none /\ H3 a ≠ none) /\ (∀ b u, H1 b = some u -> H3 b = some u) /\
    RoL (λ _ v d => Rp K kd (Un2 (Lv F B (Gw [] ad1) true) (· ∈ T)) H3 v d) (λ a => ¬ Un2 (Lv F B (Gw [] ad1) true) (· ∈ T) a) H3 ys os1 T, ⟨ds.length, rfl, [], [], os, rfl, h2, zzL _, List.nodup_nil, (λ _ m => nomatch m), (λ _ _ z => z), .nil⟩, ?_⟩
   rintro i m ys H3 ⟨hm, T, os1, os2, eo, ec, hl, tnd, tf, k3, rl⟩
   obtain ⟨i1, i2, i3⟩ := it.all H3 (· ∈ T) k3 tf i
   have yl := rl.length
   refine ⟨by omega, ?_⟩
   by_cases hi : i < ds.length
   · refine .inr ⟨i1 hi, λ v H4 hy => ?_⟩
     obtain ⟨k4, rp⟩ := i3 v H4 hy
     rw [List.drop_eq_getElem_cons hi] at ec
     obtain ⟨as2, e2, ec⟩ := bS_ (show (g _ _).bind _ = _ from ec)
     obtain ⟨⟨b, as3⟩, e3, ec⟩ := bS_ ec
     have k14 : ∀ b u, H1 b = some u -> H4 b = some u := λ b u h => k4 b u (k3 b u h)
     have kn4 : ∀ a, H3 a ≠ none -> H4 a ≠ none := λ a z => by
      cases e : H3 a with
      | none => exact absurd e z
      | some u => rw [k4 a u e]; simp
     have R4 := zpu (cap := cap) (T := T) R1 k14 (λ a z => (tf a z).1) (λ a z => kn4 a (tf a z).2)
     have no : ∀ a, ¬ Gw [] (λ _ => []) a := λ a z => z.elim (λ y => nomatch y) λ ⟨_, y⟩ => nomatch y
     refine ⟨_, _, _, _, ds[i], as2, R4, (rp _ (zzC hi)).less λ a z => ?_, e2, λ σ5 ad5 H5 R5 g5 keep5 => ⟨λ j w hw => ?_, _, _, ad5, as2, b, as3, R5, e3, λ ad6 H6 R6 g6 => ?_⟩⟩
     · rcases z with (z | z) | z
       · exact z
       · exact z.elim
       · exact (no a z).elim
     · rw [keep5 j λ z => ?_]
       · exact hw
       · have := hS j z
         unfold Z6 at hw
         rw [zzG, this] at hw
         cases hw
     · -- what stood is kept
       have g46 := g5.trans g6
       have k46 : ∀ b u, H4 b = some u -> H6 b = some u := λ b u h => g46.keep b u h (no b)
       have k36 : ∀ b u, H3 b = some u -> H6 b = some u := λ b u h => k46 b u (k4 b u h)
       have kn6 : ∀ a, H3 a ≠ none -> H6 a ≠ none := λ a z => by
        cases e : H3 a with
        | none => exact absurd e z
        | some u => rw [k36 a u e]; simp
       have up : ∀ {H7 : Hp} {T2 : List Addr}, (∀ b u, H3 b = some u -> H7 b = some u) -> (∀ a ∈ T2, H3 a = none) -> RoL (λ _ v d => Rp K kd (Un2 (Lv F B (Gw [] ad1) true) (· ∈ T ++ T2)) H7 v d) (λ a => ¬ Un2 (Lv F B (Gw [] ad1) true) (· ∈ T ++ T2) a) H7 ys os1 T := λ {H7 T2} k7 f7 =>
        RoL.mono (λ st v d r => (r.since k7 f7).less λ a z => z.elim (λ y => .inl (.inl y)) λ y => (zzK.mp y).elim (λ x => .inl (.inr x)) .inr)
         (λ a vs n e => ⟨λ z => z.elim (λ y => n (.inl y)) λ y => (zzK.mp y).elim (λ x => n (.inr x)) λ x => (by have := f7 a x; rw [this] at e; cases e), k7 _ _ e⟩) (λ a _ u h => k7 a u h) rl
       cases b with
       | false =>
        have := up (T2 := []) k36 (λ _ m => nomatch m)
        rw [List.append_nil] at this
        exact ⟨m - 1, by omega, by omega, T, os1, os2, eo, ec, Nat.le_succ_of_le hl, tnd, λ a z => ⟨(tf a z).1, kn6 a (tf a z).2⟩, λ b u h => k36 b u (k3 b u h), this⟩
       | true =>
        rw [if_pos rfl] at ec
        obtain ⟨⟨p, as7⟩, e7, ec⟩ := bS_ ec
        obtain ⟨⟨o, as8⟩, e8, ec⟩ := bS_ ec
        by_cases hs : o.str = true
        · have ec : (if o.str = true then (v9 g tt fe (X7 cap as') (ds.drop (i + 1))).bind λ os => some (o :: os) else none) = some os2 := ec
          rw [if_pos hs] at ec
          obtain ⟨os3, e9, ec⟩ := bS_ ec
          cases ec
          refine ⟨by omega, _, _, ad6, as3, p, as7, R6, e7, λ y T2 ad7 H7 R7 rv7 g7 => ?_⟩
          obtain ⟨ad8, R8, ro8, le8⟩ := zex R7 rv7 e8
          have g47 := g46.trans g7
          have k47 : ∀ b u, H4 b = some u -> H7 b = some u := λ b u h => g47.keep b u h (no b)
          have k37 : ∀ b u, H3 b = some u -> H7 b = some u := λ b u h => k47 b u (k4 b u h)
          have f42 : ∀ a ∈ T2, H4 a = none := λ a z => (g47.own a (.inl z)).resolve_left (no a)
          have f32 : ∀ a ∈ T2, H3 a = none := λ a z => by
             cases e : H3 a with
             | none => rfl
             | some u => have := k4 a u e; rw [f42 a z] at this; cases this
          have rt := zjE R8 R8.tnd (λ a z => .inl z) ro8 hs
          have ro9 : Ro (λ _ v d => Rp K kd (Un2 (Lv F B (Gw [] ad1) true) (· ∈ T ++ T2)) H7 v d) (λ a => ¬ Un2 (Lv F B (Gw [] ad1) true) (· ∈ T ++ T2) a) H7 y o T2 :=
             Ro.mono (λ st v d r => r.less λ a z => z.elim (λ y => .inl (.inl y)) λ y => (zzK.mp y).elim (λ x => .inl (.inr x)) .inr)
              (λ a vs n e => ⟨λ z => n (z.elim (λ y => .inl (.inl y)) λ y => (zzK.mp y).elim (λ x => .inl (.inr x)) .inr), e⟩) (λ _ _ _ h => h) rt.ro
          refine ⟨m - 1, by omega, by omega, T ++ T2, os1 ++ [o], os3, by rw [eo, List.append_assoc]; rfl, e9, by rw [zzH, List.length_singleton]; omega, List.nodup_append.mpr ⟨tnd, rt.nd, λ a z b z' e => ?_⟩, λ a z => ?_, λ b u h => k37 b u (k3 b u h), (up k37 f32).append (RoL.one ro9)⟩
          · subst e
            exact (tf a z).2 (f32 a z')
          · rcases zzK.mp z with z | z
            · refine ⟨(tf a z).1, ?_⟩
              cases e : H3 a with
              | none => exact absurd e (tf a z).2
              | some u => rw [k37 a u e]; simp
            · refine ⟨?_, rt.tr a z⟩
              cases e : H1 a with
              | none => rfl
              | some u => have := k3 a u e; rw [f32 a z] at this; cases this
        · have ec : (if o.str = true then (v9 g tt fe (X7 cap as') (ds.drop (i + 1))).bind λ os => some (o :: os) else none) = some os2 := ec
          rw [if_neg hs] at ec
          cases ec
   · refine .inl ⟨i2 (by omega), λ p hp => ?_⟩
     rw [List.drop_eq_nil_of_le (by omega)] at ec
     cases ec
     rw [List.append_nil] at eo
     subst eo
     have pT : p ∉ T := λ z => (tf p z).2 hp
     have H1p : H1 p = none := by
      cases e : H1 p with
      | none => rfl
      | some u => have := k3 p u e; rw [hp] at this; cases this
     have kp : ∀ b u, H3 b = some u -> upd H3 p (.lst ys) b = some u := λ b u h => by rw [yO (xU h hp)]; exact h
     obtain ⟨R9, g9⟩ := R1.news (T' := p :: T) (H' := upd H3 p (.lst ys)) (zzU.mpr ⟨pT, tnd⟩) (λ a z => (zzA.mp z).elim (λ e => by rw [e]; exact H1p) λ z => (tf a z).1) (λ b u h => kp b u (k3 b u h)) (λ a z => by
      rcases zzA.mp z with e | z
      · rw [e, xQ]; simp
      · cases e : H3 a with
        | none => exact absurd e (tf a z).2
        | some u => rw [kp a u e]; simp)
     refine q _ (p :: T) ad1 _ R9 (.ls xQ ?_) (g1.trans g9)
     have le : ∀ st a, Lv F B (Gw (p :: T) ad1) st a -> Un2 (Un2 (Lv F B (Gw [] ad1) true) (· ∈ T)) (· = p) a := λ st a z => by
      rcases z with (z | z) | z | z
      · exact .inl (.inl (.inl (.inl ⟨rfl, z.2⟩)))
      · exact .inl (.inl (.inl (.inr z)))
      · exact (zzA.mp z).elim .inr λ y => .inl (.inr y)
      · exact .inl (.inl (.inr (.inr z)))
     exact RoL.mono (λ st v d r => (r.since kp (T := (· = p)) λ a z => by rw [z]; exact hp).less (le st)) (λ a vs n e => ⟨λ z => (le true a z).elim n λ y => (by rw [y, hp] at e; cases e), kp _ _ e⟩) (λ a _ u h => kp a u h) rl
 · have e : (if ds.length <= sizeLine then (v9 g tt fe (X7 cap as1) ds).bind λ os => some (RV.ow (.nd .ls os), as1) else none) = some (r, as') := e
   rw [if_neg hz] at e
   cases e
end
section
variable {X : Cx} {kd : KD} {elt tg iter e a b c : Expr} {es ifs : List Expr} {scope : Scope} {pos : Pos} {N : List Str} {cap : List (Option Nat)} {g : GF} {tt : TF} {fe fa fb : EF} {fi : IF} {S : List Nat} {fr : AF} {fd : DF}
theorem yt : PTs X [] (alT X.K kd yV) := λ pins s σ H Q I h => by
 obtain ⟨F, B, ad, as, b, as', R, e, q⟩ := h
 cases e
 exact zpn pins s σ H Q I (q ad H R Grow.refl)
theorem zpi (h : AT X kd c tt) : PTs X [c] (alT X.K kd tt) := by with_unfolding_all exact (zoS h)
theorem yJ (hc : X.calm = true) (hi : AIc X kd tg iter fi) (hk : scope.kind = .function) (hcap : wu N X.N scope.names X.env.scope.names cap = true) (hS : S.all (λ i => cap[i]? == some none) = true)
 (hg : ∀ cl s H fp, AG (Zf X N scope cl s H fp) kd tg S g) (ht : ∀ cl s H fp, PTs (Zf X N scope cl s H fp) ifs (alT X.K kd tt)) (he : ∀ cl s H fp, AE (Zf X N scope cl s H fp) kd elt fe)
 (hs : ∀ x, foldedSetIterable iter X.env x = pure x) : AE X kd (.ListComp elt [⟨tg, iter, ifs, 0⟩] scope pos) (yh fi cap g tt fe) := by with_unfolding_all exact (wU (zpb (g := alG X.K kd S g) (te := al X.K kd fe) hc hi hk hcap hg ht he hs) λ σ H Q h => zmC (λ i m => by simpa using List.all_eq_true.mp hS i m) h)
theorem zaL {z : Bool} {i : Nat} {y : Str} {py spos : Pos} (hN : X.N.Nodup) (hiy : X.N[i]? = some y) (hy : Loc X.env.scope y) (hf : X.fn y = true \/ X.env.scope.names.lookup y = some .local)
 (hsw : swapsWith (.ListComp elt [⟨tg, iter, ifs, 0⟩] scope pos) (some (.Name y py)) spos.line X.env = pure true)
 (hc : X.calm = true) (hi : AIc X kd tg iter fi) (hk : scope.kind = .function) (hcap : wu N X.N scope.names X.env.scope.names cap = true) (hS : S.all (λ i => cap[i]? == some none) = true)
 (hg : ∀ cl s H fp, AG (Zf X N scope cl s H fp) kd tg S g) (ht : ∀ cl s H fp, PTs (Zf X N scope cl s H fp) ifs (alT X.K kd tt)) (he : ∀ cl s H fp, AE (Zf X N scope cl s H fp) kd elt fe)
 (hs : ∀ x, foldedSetIterable iter X.env x = pure x) : ASt X kd (.Assign [.Name y py] (.ListComp elt [⟨tg, iter, ifs, 0⟩] scope pos) spos) (yq z i (yh fi cap g tt fe)) := by with_unfolding_all exact (Wl (znX (g := alG X.K kd S g) (te := al X.K kd fe) hN hiy hy hf hsw hc hi hk hcap hg ht he hs) λ D σ H h => by
 obtain ⟨F, B, ad, as, o, R, e, q⟩ := h
 obtain ⟨⟨p, as1⟩, h1, e⟩ := bS_ (show (yh fi cap g tt fe as).bind _ = _ from e)
 obtain ⟨⟨y, as2⟩, h2, e⟩ := bS_ e
 obtain ⟨hl, e⟩ := yD e
 cases e
 refine zmC (Q := λ x H1 => zhW i x σ H1 D.nx) (λ i m => by simpa using List.all_eq_true.mp hS i m) ⟨F, B, ad, as, p, as1, R, h1, λ v T' ad' H' R' rv g => ?_⟩
 obtain ⟨ad2, R2, le⟩ := zme R' rv h2 hl
 exact q _ ad2 H' R2 (g.trans (Grow.less le)))
theorem zT {k : Nat} {f : Addr} {fdt : FuncData} {ps : List Str} {gg : List (Bool × D) -> Option O} {x : Str} {p : Pos} (F : FnOk X.prog X.w X.K X.mg X.base CX0 k f fdt ps (spD X.K kd gg)) (hr : Room k X.A) (hg : Gl X x) (hm : X.mg x = some (.ref f)) (hk : PySem.W.keepIn X.K (.ref f) = true)
 (hb : Binds X.K fdt ps []) (hx : zhf CX0 X (λ _ _ _ => False)) (ha : AA X kd (e :: es) fr) (hdb : (x == ("__debug__" : Str)) = false) (he : starEach (e :: es) X.env = (false, eval e X.env) :: starEach es X.env) (hpl : (backTo pos (starEach es X.env)).any (·.1) = false) :
 AE X kd (.Call (.Name x p) (e :: es) [] pos) (zX fr gg) := by with_unfolding_all exact (wU (zoV F hr hg hm hk hb .nil hx ha hdb he hpl) λ σ H Q h => zqY h)
theorem ww {id : String} {gg : List D -> Option R0} {x : Str} {p : Pos} (hc : CallD X kd (.builtin id) gg) (hg : Gl X x) (hm : X.mg x = none) (hv : bootBuiltins x = some (.builtin id)) (ha : AA X kd (e :: es) fr) (hn : x ≠ "__name__") (hdb : (x == ("__debug__" : Str)) = false)
 (he : starEach (e :: es) X.env = (false, eval e X.env) :: starEach es X.env) (hpl : (backTo pos (starEach es X.env)).any (·.1) = false) : AE X kd (.Call (.Name x p) (e :: es) [] pos) (fP fr gg) := by with_unfolding_all exact (wU (zil hc hg hm hv ha hn hdb he hpl) λ σ H Q h => alP (λ _ _ _ z => z) h)
theorem Yq {T : String} {gg : List D -> Option R0} {x : Str} {p : Pos} (hc : CallD X kd (.type T) gg) (hg : Gl X x) (hm : X.mg x = none) (hv : bootBuiltins x = some (.type T)) (ha : AA X kd (e :: es) fr) (hn : x ≠ "__name__") (hdb : (x == ("__debug__" : Str)) = false)
 (he : starEach (e :: es) X.env = (false, eval e X.env) :: starEach es X.env) (hpl : (backTo pos (starEach es X.env)).any (·.1) = false) : AE X kd (.Call (.Name x p) (e :: es) [] pos) (fP fr gg) := by with_unfolding_all exact (wU (zlP hc hg hm hv ha hn hdb he hpl) λ σ H Q h => alP (λ _ _ _ z => z) h)
def VD (fa : EF) (c : String) : EF := λ as => (fa as).bind λ p => (p.1.frz.view p.2).bind λ x => if zdZ x.1 = true then some (.ow (.lf true (.bl (zaW (tyD x.1) c))), p.2) else none
theorem zmM (hk : KdOk X kd) : V3 X (.builtin "isinstance") (λ xs H Q => ∃ x c O d, xs = [x, .ty c] /\ zcf c = true /\ Vw X.K kd O H x d /\ zdZ d = true /\ Q (.bl (zaW (tyD d) c)) H) := by
 intro pins s σ H xs us Q I r h
 obtain ⟨x, c, O, d, rfl, hc, vx, ho, q⟩ := h
 cases r with
 | cons r1 r2 =>
  cases r2 with
  | cons r2 r3 =>
   cases r3
   cases (show _ = Value.type c from r2)
   exact zpX hk I r1 vx hc ho λ tk => ⟨.bl _, H, I.tok tk, rfl, q⟩
theorem Vo {c : String} {x y : Str} {p p2 : Pos} (hkd : KdOk X kd) (hc : zcf c = true) (hg : Gl X x) (hm : X.mg x = none) (hv : bootBuiltins x = some (.builtin "isinstance")) (hg2 : Gl X y) (hm2 : X.mg y = none) (hv2 : bootBuiltins y = some (.type c)) (ha : AE X kd a fa)
 (hn : x ≠ "__name__") (hdb : (x == ("__debug__" : Str)) = false) (hn2 : y ≠ "__name__") (hdb2 : (y == ("__debug__" : Str)) = false)
 (he : starEach [a, .Name y p2] X.env = (false, eval a X.env) :: starEach [.Name y p2] X.env) (he2 : starEach [.Name y p2] X.env = (false, eval (.Name y p2) X.env) :: starEach [] X.env) (hpl : (backTo pos (starEach [.Name y p2] X.env)).any (·.1) = false) :
 AE X kd (.Call (.Name x p) [a, .Name y p2] [] pos) (VD fa c) := by with_unfolding_all exact (wU (zil (zmM hkd) hg hm hv (zbX ha (zbX (zor (v := .ty c) hg2 hm2 hv2 rfl hn2 hdb2) zhb he2) he) hn hdb he hpl) λ σ H Q h => by
 obtain ⟨F, B, ad, as, r, as', R, e, q⟩ := h
 obtain ⟨⟨p, as1⟩, h1, e⟩ := bS_ (show (fa as).bind _ = _ from e)
 obtain ⟨⟨d, lv⟩, h2, e⟩ := bS_ e
 obtain ⟨ho, e⟩ := yD e
 cases e
 exact Y9 R h1 λ v ad1 H1 R1 rv1 g1 => ⟨v, c, _, d, rfl, hc, Za.vw R1 rv1 h2, ho, q _ [] ad1 H1 R1 (.lf (.bl _)) g1⟩)
def vJ : MG := λ os es => match es with | [o] => if os.length < sizeLine then some (os ++ [o], .lf true .non) else none | _ => none
def zaq : MG := λ os es => match es with | [.lf _ (.int i)] => if -(2 ^ 63) <= i /\ i < 2 ^ 63 then (seqIndex? i os.length).bind λ k => (os[k]?).bind λ o => some (os.eraseIdx k, o) else none | _ => none
theorem zoQ {l f fo g : List Addr} (h : l.Nodup) (e : l = f ++ (fo ++ g)) : ((f ++ g) ++ fo).Nodup /\ ∀ a ∈ (f ++ g) ++ fo, a ∈ l := by
 subst e
 have p : (f ++ (fo ++ g)).Perm ((f ++ g) ++ fo) := by
  rw [List.append_assoc]
  exact (List.perm_append_comm).append_left f
 exact ⟨p.nodup_iff.mp h, λ a m => p.mem_iff.mpr m⟩
theorem Xb : MuD X kd zkB vJ := by
 intro F B G l vs ws os es os' o fp fq H Q hH rl rw' hn e k
 unfold vJ at e
 split at e
 · obtain ⟨hz, e⟩ := yD e
   cases e
   cases rw' with
   | cons h1 h2 =>
    cases h2
    rw [List.append_nil] at hn k
    exact ⟨l, vs, _, rfl, rfl, hH, by rw [rl.length]; exact hz, k _ _ _ [] (rl.append (RoL.one h1)) (.lf .non) (λ a m => by rwa [List.append_nil] at m) (by rw [List.append_nil]; exact hn)⟩
 · cases e
theorem zmR : MuD X kd znc zaq := by
 intro F B G l vs ws os es os' o fp fq H Q hH rl rw' hn e k
 unfold zaq at e
 split at e
 · rename_i st i
   split at e
   · rename_i hi
     obtain ⟨j, hj, e⟩ := bS_ e
     obtain ⟨o1, ho, e⟩ := bS_ e
     cases e
     obtain ⟨v, f, fo, gg, hv, hf, ro, r1, r2⟩ := rl.at_ ho
     cases rw' with
     | cons h1 h2 =>
      cases h2
      cases h1 with
      | lf rp =>
       cases rp
       rw [List.append_nil, List.append_nil] at hn k
       obtain ⟨n1, n2⟩ := zoQ hn hf
       refine ⟨l, vs, i, j, v, rfl, rfl, hH, hi.1, hi.2, by rw [rl.length]; exact hj, hv, k v _ (f ++ gg) fo ?_ ro n2 n1⟩
       rw [zdn, zdn]
       exact r1.append r2
   · cases e
 · cases e
theorem Yt {i : Nat} {x : Str} {gg : MG} {r : V -> List V -> Hp -> VK -> Prop} {name : Str} {id : String} {apos cpos p : Pos} (hm : MtM X id r) (hr : MuD X kd r gg) (slot : Slot "list" name id) (hty : typeOf (.builtin id) = pure (.type "method_descriptor")) (ho : PE X (.Name x p) (zlt i)) (ha : AD X kd (e :: es) fd)
 (hbase : attributeBase (.Name x p) name X.env (eval (.Name x p) X.env) = eval (.Name x p) X.env)
 (hfew : ((backTo cpos (starEach (e :: es) X.env)).all (λ x => !x.1) && (backToKw cpos (keywordEach [] X.env)).all (λ x => x.1.isSome)
  && decide ((e :: es).length + ([] : List Keyword).length + (if ([] : List Keyword).isEmpty then 0 else 1) < 30)) = true)
 (hline : (apos.endLine == cpos.line) = true) (hs : starEach (e :: es) X.env = (false, eval e X.env) :: starEach es X.env) (hplain : (backTo cpos (starEach es X.env)).any (·.1) = false) :
 AE X kd (.Call (.Attribute (.Name x p) name apos) (e :: es) [] cpos) (vL i fd gg) := by with_unfolding_all exact (wU (zrW PySem.F.plainAttrs_list slot hty hm ho ha hbase hfew hline hs hplain) λ σ H Q h => zrP hr h)
end
inductive Ty where
 | str | lst | dct | int
def Ty.nm : Ty -> String
 | .str => "str" | .lst => "list" | .dct => "dict" | .int => "int"
def zpg : Ty -> D -> Bool
 | .str, .str _ => true
 | .lst, .lst _ => true
 | .dct, .dct _ => true
 | .int, .int _ => true
 | _, _ => false
def tyS (X : Cx) (T : String) (x : V) (H : Hp) : Prop := ∀ (pins : List (Addr × Obj)) (σ : St) (s : Shared) (v : Value), Inv X pins σ H s -> RelV x v -> s.TypeIs v T /\ ∀ a, v = .ref a -> ∃ ob, s.heap.get? a = some ob /\ ob.dict = none
def tMD (X : Cx) (T : String) (r : V -> List V -> Hp -> VK -> Prop) (to : TE) (t : TA) : TE := λ σ H Q => to σ H λ x H1 => tyS X T x H1 /\ t σ H1 λ xs H2 => r x xs H2 Q
section
variable {X : Cx} {kd : KD} {o e : Expr} {es : List Expr} {to : TE} {t : TA} {name : Str} {apos cpos : Pos} {T id : String} {r : V -> List V -> Hp -> VK -> Prop}
theorem zsH (pa : PlainAttrs T) (slot : Slot T name id) (hty : typeOf (.builtin id) = pure (.type "method_descriptor")) (hm : MtR X id r) (ho : PE X o to) (ha : PA X (e :: es) t)
 (hbase : attributeBase o name X.env (eval o X.env) = eval o X.env)
 (hfew : ((backTo cpos (starEach (e :: es) X.env)).all (λ x => !x.1) && (backToKw cpos (keywordEach [] X.env)).all (λ x => x.1.isSome)
  && decide ((e :: es).length + ([] : List Keyword).length + (if ([] : List Keyword).isEmpty then 0 else 1) < 30)) = true)
 (hline : (apos.endLine == cpos.line) = true) (hs : starEach (e :: es) X.env = (false, eval e X.env) :: starEach es X.env) (hplain : (backTo cpos (starEach es X.env)).any (·.1) = false) :
 PE X (.Call (.Attribute o name apos) (e :: es) [] cpos) (tMD X T r to t) := by
 intro pins s σ H Q I h
 refine wpAny_Call_method_late hbase hfew hline rfl (thn (ho pins s σ H _ I h) λ v s1 ⟨x, H1, I1, r1, ty, q1⟩ => ?_)
 obtain ⟨h1, h2⟩ := ty _ _ _ _ I1 r1
 refine ⟨T, id, pa, slot, hty, h1, h2, ?_⟩
 have hA := ha cpos pins s1 σ H1 _ I1 q1
 rw [hs] at hA ⊢
 refine Calls.callWith_builtin (by show (false || (backTo cpos (starEach es X.env)).any (·.1)) = false; rw [hplain] <;> rfl) (Calls.evalArgs_plain ?_)
 exact thn hA λ us s2 ⟨vs, H2, I2, r2, q2⟩ => hm pins s2 σ H2 x vs v us Q I2 r1 r2 q2
def MtD (X : Cx) (kd : KD) (id : String) (g : D -> List D -> Option R0) : Prop :=
 MtR X id (λ x xs H Q => ∃ O d ds r, (∀ a, O a -> H a ≠ none) /\ Vw X.K kd O H x d /\ VwL X.K kd O H xs ds /\ g d ds = some r /\ RQ X.K kd O H Q r)
theorem zsi (hk : KdOk X kd) {O : Addr -> Prop} {H : Hp} {x : V} {d : D} {ty : Ty} (h : Vw X.K kd O H x d) (e : zpg ty d = true) : tyS X ty.nm x H := by
 intro pins σ s v I rx
 cases h with
 | str z =>
  obtain ⟨t, rfl⟩ := rx
  cases ty <;> first | (cases e; done) | exact ⟨typeIs_str s z t, λ _ e => nomatch e⟩
 | int z =>
  obtain ⟨t, rfl⟩ := rx
  cases ty <;> first | (cases e; done) | exact ⟨typeIs_int s z t, λ _ e => nomatch e⟩
 | lst hr rl =>
  cases rx
  obtain ⟨its, _, pl, _⟩ := I.list hr.sq
  cases ty <;> first | (cases e; done) | skip
  refine ⟨pl.isList.typeIs, λ a e => ?_⟩
  cases e
  obtain ⟨o, n, e, c, hd, _⟩ := pl
  exact ⟨o, e, hd⟩
 | dct hr rm =>
  cases rx
  obtain ⟨z, hd, vs, rel, dd⟩ := zgp I hk hr
  cases ty <;> first | (cases e; done) | skip
  refine ⟨dd.typeIs, λ b q => ?_⟩
  cases q
  obtain ⟨ob, _, _, h1, h2, _⟩ := dd
  exact ⟨ob, h1, h2.2.1⟩
 | non => cases ty <;> cases e
 | bl => cases ty <;> cases e
 | tup => cases ty <;> cases e
 | cl => cases ty <;> cases e
 | ob => cases ty <;> cases e
def Vy (ty : Ty) (fa : EF) (fr : AF) (g : D -> List D -> Option R0) : EF := λ as => (fa as).bind λ p => (p.1.frz.view p.2).bind λ w => if zpg ty w.1 = true then (fr p.2).bind λ q => (p.1.frz.view q.2).bind λ x => (views q.2 q.1).bind λ y => (g x.1 y.1).bind λ r => (wrap (meet x.2 y.2) r).bind λ z => some (z, q.2) else none
theorem zry (hk : KdOk X kd) {ty : Ty} {fa : EF} {fr : AF} {g : D -> List D -> Option R0} {σ : St} {H : Hp} {Q : VK} (h : al X.K kd (Vy ty fa fr g) σ H Q) :
 tMD X ty.nm (λ x xs H Q => ∃ O d ds r, (∀ a, O a -> H a ≠ none) /\ Vw X.K kd O H x d /\ VwL X.K kd O H xs ds /\ g d ds = some r /\ RQ X.K kd O H Q r) (al X.K kd fa) (alA X.K kd fr) σ H Q := by
 obtain ⟨F, B, ad, as, r, as', R, e, q⟩ := h
 obtain ⟨⟨p, as1⟩, h1, e⟩ := bS_ (show (fa as).bind _ = _ from e)
 obtain ⟨⟨d0, l0⟩, h0, e⟩ := bS_ e
 obtain ⟨hty, e⟩ := ite_some' e
 obtain ⟨⟨ps, as2⟩, h2, e⟩ := bS_ e
 obtain ⟨⟨d, lv⟩, h3, e⟩ := bS_ e
 obtain ⟨⟨ds, lv2⟩, h4, e⟩ := bS_ e
 obtain ⟨r0, h5, e⟩ := bS_ e
 obtain ⟨z, h6, e⟩ := bS_ e
 cases e
 refine Y9 R h1 λ v ad1 H1 R1 rv1 g1 => ⟨zsi hk (Za.vw R1 rv1 h0) hty, F, B, ad1, as1, ps, _, R1, h2, λ vs ad2 H2 R2 rv2 g2 => ?_⟩
 exact ⟨_, d, ds, r0, R2.tr _, (Za.vw R2 (rv1.grow g2) h3).less Obl.meet1, (zaG R2 rv2 h4).less Obl.meet2, h5, Xg R2 h6 λ w T' H' R' rv' g' => q w T' ad2 H' R' rv' ((g1.trans g2).trans g')⟩
theorem zhP {ty : Ty} {a : Expr} {fa : EF} {fr : AF} {g : D -> List D -> Option R0} (hk : KdOk X kd) (hm : MtD X kd id g) (pa : PlainAttrs ty.nm) (slot : Slot ty.nm name id) (hty : typeOf (.builtin id) = pure (.type "method_descriptor")) (ho : AE X kd a fa) (ha : AA X kd (e :: es) fr)
 (hbase : attributeBase a name X.env (eval a X.env) = eval a X.env)
 (hfew : ((backTo cpos (starEach (e :: es) X.env)).all (λ x => !x.1) && (backToKw cpos (keywordEach [] X.env)).all (λ x => x.1.isSome)
  && decide ((e :: es).length + ([] : List Keyword).length + (if ([] : List Keyword).isEmpty then 0 else 1) < 30)) = true)
 (hline : (apos.endLine == cpos.line) = true) (hs : starEach (e :: es) X.env = (false, eval e X.env) :: starEach es X.env) (hplain : (backTo cpos (starEach es X.env)).any (·.1) = false) :
 AE X kd (.Call (.Attribute a name apos) (e :: es) [] cpos) (Vy ty fa fr g) := by with_unfolding_all exact (wU (zsH pa slot hty hm ho ha hbase hfew hline hs hplain) λ σ H Q h => zry hk h)
end
section
variable {K : zD} {kd : KD} {F B G : Addr -> Prop} {T : List Addr} {ad : Ad} {as : AS} {σ : St} {H H' : Hp}
inductive RPs (K : zD) (kd : KD) (F B G : Addr -> Prop) (H : Hp) : List (V × V) -> List (Key × O) -> Prop
 | nil : RPs K kd F B G H [] []
 | cons {k : Key} {v : V} {o : O} {ps : List (V × V)} {kos : List (Key × O)} : RoS K kd F B G H v o [] -> RPs K kd F B G H ps kos -> RPs K kd F B G H ((kV k, v) :: ps) ((k, o) :: kos)
end
def fD0 : EF := λ as => some (.ow (.nd (.dc []) []), as)
section
variable {X : Cx} {kd : KD} {e a b c o i : Expr} {pos pos' : Pos} {fa fb fk fv : EF}
theorem ziU : AE X kd (.Dict [] [] pos) fD0 := by with_unfolding_all exact (wU znn λ σ H Q h => by
 obtain ⟨F, B, ad, as, r, as', R, e, q⟩ := h
 cases e
 intro p hp
 have k : ∀ b o, H b = some o -> upd H p (.dK []) b = some o := λ b o hb => by rw [yO (xU hb hp)]; exact hb
 obtain ⟨R2, g2⟩ := R.news (T' := [p]) (by simp) (λ a m => by rw [zzP.mp m]; exact hp) k (λ a m => by rw [zzP.mp m, xQ]; simp)
 exact q _ [p] ad _ R2 (.dc (vs := []) xQ rfl .nil) g2)
end
abbrev Fn := List (Bool × D) -> Option O
section
variable {P : Program} {w : World} {K : zD} {mg : Str -> Option Value} {base : Heap} {kd : KD}
theorem xV {A : Around} {k : Nat} (hr : Room k A) : A.units + 100 < cLine := by have := hr.un; omega
def KD1 (P : Program) (w : World) (K : zD) (kd : KD) : Prop := ∀ X : Cx, X.prog = P -> X.w = w -> X.K = K -> KdOk X kd
theorem zag {O : Addr -> Prop} {H : Hp} : ∀ ns : List Int, RpL K kd O H (ns.map V.int) (ns.map D.int)
 | [] => .nil
 | _ :: r => .cons (.int _) (zag r)
theorem zrq {H : Hp} {a : Addr} {ns : List Int} {g : Fn} {E : XK} (hg : g [(true, .lst (ns.map D.int))] = some (.lf true (.bl true))) (hS : RdL K H a (ns.map V.int)) : spD K kd g [.ref a] H (λ v _ => v = .bl true) E := by
 refine ⟨λ _ => False, [(true, .lst (ns.map D.int))], .lf true (.bl true), (λ _ z => z.elim), .cons ?_ .nil, hg, λ v T H' _ _ _ _ ro => ?_⟩
 · rcases hS with h | ⟨its, n, k, z, r⟩
   · exact .lst (λ z => z.2) h (zag ns)
   · exact .lstK k z r (zag ns)
 · cases ro with
   | lf rp => cases rp; rfl
end
namespace Bt
theorem len : bootBuiltins "len" = some (.builtin "len") := by decide +kernel
theorem max : bootBuiltins "max" = some (.builtin "max") := by decide +kernel
theorem sorted : bootBuiltins "sorted" = some (.builtin "sorted") := by decide +kernel
theorem isinstance : bootBuiltins "isinstance" = some (.builtin "isinstance") := by decide +kernel
theorem all : bootBuiltins "all" = some (.builtin "all") := by decide +kernel
theorem int : bootBuiltins "int" = some (.type "int") := by decide +kernel
theorem bool : bootBuiltins "bool" = some (.type "bool") := by decide +kernel
theorem str : bootBuiltins "str" = some (.type "str") := by decide +kernel
theorem list : bootBuiltins "list" = some (.type "list") := by decide +kernel
theorem tuple : bootBuiltins "tuple" = some (.type "tuple") := by decide +kernel
theorem n (x : Str) (h : (x == ("__name__" : Str)) = false) : x ≠ "__name__" := λ e => by subst e; simp at h
end Bt
def WD (f : EF) (as : AS) (st : Bool) (d : D) : Prop := f as = some (.ow (.lf st d), as)
def WT (f : TF) (as : AS) (b : Bool) : Prop := f as = some (b, as)
def WA (f : AF) (as : AS) (rs : List (Bool × D)) : Prop := f as = some (rs.map (λ x => .ow (.lf x.1 x.2)), as)
def WO (f : DF) (as : AS) (os : List O) : Prop := f as = some (os, as)
section
variable {as : AS} {f a b : EF} {s t : Bool} {x y z : D} {i j : Int}
theorem zg : WD (fC x) as true x := rfl
theorem zc {i : Nat} (h : as[i]? = some (some (.lf s x))) : WD (fV i) as s x := by unfold WD fV; rw [h]
theorem zpz {g : D -> D -> Option R0} (ha : WD a as s x) (hb : WD b as t y) (hg : g x y = some (.im z)) : WD (f2 a b g) as (yF z || (s && t)) z := by
 unfold WD f2 at *
 rw [ha]; show ((b as).bind _) = _
 rw [hb]; show ((g x y).bind _) = _
 rw [hg]
 show (if (yF z || (meet (some s) (some t)).isSome) = true then _ else _ : Option RV).bind _ = _
 rw [if_pos (by unfold meet; simp)]
 rfl
theorem zrG {g : D -> D -> Option R0} {oa ob : O} (ha : a as = some (.ow oa, as)) (hb : b as = some (.ow ob, as)) (hg : g oa.toD ob.toD = some (.im z)) : WD (f2 a b g) as (yF z || (oa.str && ob.str)) z := by
 unfold WD f2 at *
 rw [ha]; show ((b as).bind _) = _
 rw [hb]; show ((g oa.toD ob.toD).bind _) = _
 rw [hg]
 show (if (yF z || (meet (some oa.str) (some ob.str)).isSome) = true then _ else _ : Option RV).bind _ = _
 rw [if_pos (by unfold meet; simp)]
 rfl
theorem yd {g : D -> D -> Option R0} (ha : WD a as s x) (hb : WD b as t y) (hg : g x y = some (.im z)) (e : yF z = true) : WD (f2 a b g) as true z := by
 have := zpz ha hb hg; rw [e] at this; exact this
theorem xO (ha : WD a as s (.int i)) (hb : WD b as t (.int j)) : WD (f2 a b (Z3 .Add)) as true (.int (i + j)) := yd ha hb rfl rfl
theorem Wm (ha : WD a as s (.int i)) (hb : WD b as t (.int j)) : WD (f2 a b (Z3 .Sub)) as true (.int (i - j)) := yd ha hb rfl rfl
theorem vR (ha : WD a as s (.int i)) (hb : WD b as t (.int j)) (h1 : i.natAbs < big) (h2 : j.natAbs < big) : WD (f2 a b (Z3 .Mult)) as true (.int (i * j)) := yd ha hb (by show (if _ then _ else _) = _; rw [if_pos ⟨h1, h2⟩]) rfl
theorem Ws (ha : WD a as s (.int i)) (hb : WD b as t (.int j)) (h1 : 0 < j) (h2 : j.natAbs < big) : WD (f2 a b (Z3 .FloorDiv)) as true (.int (i / j)) := yd ha hb (by show (if _ then _ else _) = _; rw [if_pos ⟨h1, h2⟩]) rfl
theorem yE (ha : WD a as s (.int i)) (hb : WD b as t (.int j)) (h1 : 0 < j) : WD (f2 a b (Z3 .Mod)) as true (.int (i % j)) := yd ha hb (by show (if _ then _ else _) = _; rw [if_pos h1]) rfl
theorem zno (ha : WD a as s (.int i)) (hb : WD b as t (.int j)) (h1 : 0 <= j /\ j <= 1000000 /\ i.natAbs < 2 ^ 64) : WD (f2 a b (Z3 .Pow)) as true (.int (i ^ j.toNat)) := yd ha hb (by show (if _ then _ else _) = _; rw [if_pos h1]) rfl
theorem wk {c : Bool} (ha : WD a as s x) (hb : WD b as t y) (h : eqF 60 x y = some c) : WD (f2 a b (yZ .Eq)) as true (.bl c) := yd ha hb (by show (eqF 60 x y).bind _ = _; rw [h]; rfl) rfl
theorem zrT {c : Bool} (ha : WD a as s x) (hb : WD b as t y) (h : eqF 60 x y = some c) : WD (f2 a b (yZ .NotEq)) as true (.bl (!c)) := yd ha hb (by show (eqF 60 x y).bind _ = _; rw [h]; rfl) rfl
theorem zdm (ha : WD a as s (.int i)) (hb : WD b as t (.int j)) : WD (f2 a b (yZ .Lt)) as true (.bl (decide (i < j))) := yd ha hb rfl rfl
theorem zaY (ha : WD a as s (.int i)) (hb : WD b as t (.int j)) : WD (f2 a b (yZ .Gt)) as true (.bl (decide (j < i))) := yd ha hb rfl rfl
theorem zbk (ha : WD a as s (.int i)) : WD (f1 a zgi) as true (.int (-i)) := by
 unfold WD f1 at *
 rw [ha]
 rfl
theorem yx {c : Bool} (h : WD f as s x) (e : truth x = some c) : WT (fT f) as c := by
 unfold WT fT; unfold WD at h
 rw [h]; show ((truth x).bind _) = _
 rw [e]; rfl
theorem Yh {c : TF} {k : Bool} (h : WT c as k) : WT (wQ c) as (!k) := by unfold WT wQ at *; rw [h]; rfl
theorem zdc {c e : TF} {k l : Bool} (h : WT c as k) (h2 : k = true -> WT e as l) (h3 : k = false -> l = false) : WT (zgn c e) as l := by
 unfold WT zgn at *; rw [h]
 cases k with
 | true => exact h2 rfl
 | false => rw [h3 rfl]; rfl
theorem WX {c e : TF} {k l : Bool} (h : WT c as k) (h2 : k = false -> WT e as l) (h3 : k = true -> l = true) : WT (Xi c e) as l := by
 unfold WT Xi at *; rw [h]
 cases k with
 | false => exact h2 rfl
 | true => rw [h3 rfl]; rfl
theorem V2 {k l : Bool} (h : WD a as s (.bl k)) (h2 : k = true -> WD b as true (.bl l)) (h3 : k = false -> l = false) : WD (zeB a b) as true (.bl l) := by
 unfold WD zeB at *; rw [h]
 cases k with
 | true => exact h2 rfl
 | false => rw [h3 rfl]; rfl
theorem zU : WA aN as [] := rfl
theorem zP {fr : AF} {rs : List (Bool × D)} (ha : WD a as s x) (hr : WA fr as rs) : WA (aC a fr) as ((s, x) :: rs) := by
 unfold WA aC at *; unfold WD at ha
 rw [ha]; show ((fr as).bind _) = _
 rw [hr]; rfl
theorem zcJ : ∀ rs : List (Bool × D), zbn as (rs.map (λ x => .ow (.lf x.1 x.2))) = some (rs.map λ x => (yF x.2 || x.1, x.2))
 | [] => rfl
 | r :: rs => by
  show (zmY as (.ow (.lf r.1 r.2))).bind _ = _
  show (zbn as (rs.map _)).bind _ = _
  rw [zcJ rs]; rfl
theorem WY : ∀ rs : List (Bool × D), views as (rs.map (λ x => .ow (.lf x.1 x.2))) = some (rs.map (·.2), some (rs.all (·.1)))
 | [] => rfl
 | r :: rs => by
  show (views as (rs.map _)).bind _ = _
  rw [WY rs]; rfl
theorem zky {fr : AF} {rs : List (Bool × D)} {g : List (Bool × D) -> Option O} (ha : WA fr as rs) (hg : g (rs.map λ x => (yF x.2 || x.1, x.2)) = some (.lf s x)) : WD (zX fr g) as s x := by
 unfold WD zX; unfold WA at ha
 rw [ha]; show (zbn as _).bind _ = _
 rw [zcJ]; show (g _).bind _ = _
 rw [hg]; rfl
theorem Xm {fr : AF} {rs : List (Bool × D)} {o : O} {g : List (Bool × D) -> Option O} (ha : WA fr as rs) (hg : g (rs.map λ x => (yF x.2 || x.1, x.2)) = some o) : zX fr g as = some (.ow o, as) := by
 unfold zX; unfold WA at ha
 rw [ha]; show (zbn as _).bind _ = _
 rw [zcJ]; show (g _).bind _ = _
 rw [hg]; rfl
theorem zkP {fr : AF} {rs : List (Bool × D)} {g : List D -> Option R0} (ha : WA fr as rs) (hg : g (rs.map (·.2)) = some (.im x)) : WD (fP fr g) as (yF x || rs.all (·.1)) x := by
 unfold WD fP; unfold WA at ha
 rw [ha]; show (views as _).bind _ = _
 rw [WY]; show (g _).bind _ = _
 rw [hg]
 show (if (yF x || (some (rs.all (·.1))).isSome) = true then _ else _ : Option RV).bind _ = _
 rw [if_pos (by simp)]; rfl
theorem wj {fr : AF} {rs : List (Bool × D)} {g : List D -> Option R0} (ha : WA fr as rs) (hg : g (rs.map (·.2)) = some (.im x)) (e : yF x = true) : WD (fP fr g) as true x := by
 have := zkP ha hg; rw [e] at this; exact this
theorem xg : WO dN as [] := rfl
theorem zO {fr : DF} {os : List O} (ha : WD a as s x) (hr : WO fr as os) : WO (dC a fr) as (.lf s x :: os) := by
 unfold WO dC at *; unfold WD at ha
 rw [ha]; show ((fr as).bind _) = _
 rw [hr]; rfl
theorem Z7 {fr : DF} {os : List O} (h : WO fr as os) (hl : os.length <= sizeLine) : zZ fr as = some (.ow (.nd .ls os), as) := by
 unfold zZ; unfold WO at h
 rw [h]; show (if os.length <= sizeLine then _ else _) = _
 rw [if_pos hl]
theorem xT {f g : SF} {as1 : AS} {o : Option Out} (h1 : f as = some (.nx as1)) (h2 : g as1 = o) : zR f g as = o := by unfold zR; rw [h1]; exact h2
theorem zhN {f g : SF} {o : O} (h1 : f as = some (.rt o)) : zR f g as = some (.rt o) := by unfold zR; rw [h1]; rfl
theorem zam {c : TF} {f g : SF} {o : Option Out} (h : WT c as true) (h1 : f as = o) : sIf c f g as = o := by unfold sIf; unfold WT at h; rw [h]; exact h1
theorem yI {c : TF} {f g : SF} {o : Option Out} (h : WT c as false) (h1 : g as = o) : sIf c f g as = o := by unfold sIf; unfold WT at h; rw [h]; exact h1
theorem wD {i : Nat} {st : Bool} (h : WD f as s x) (hi : i < as.length) : yq st i f as = some (.nx (as.set i (some (.lf s x)))) := by
 unfold yq; unfold WD at h
 rw [h]
 cases st <;> exact if_pos hi
theorem v8 {i : Nat} {o : O} (h : f as = some (.ow o, as)) (hi : i < as.length) : yq false i f as = some (.nx (as.set i (some o))) := by
 unfold yq
 rw [h]
 exact if_pos hi
theorem zpl {i : Nat} {o : O} (h : f as = some (.ow o, as)) (hi : i < as.length) : yq true i f as = some (.nx (as.set i (some o.frz))) := by
 unfold yq
 rw [h]
 exact if_pos hi
theorem ZM (h : WD f as true x) : yX f as = some (.rt (.lf true x)) := by unfold yX; unfold WD at h; rw [h]; rfl
theorem ZX {n m : Nat} {c : SF} {ds : List (Bool × D)} {o : O} (hl : ds.length = m) (h : c (Yo n ds) = some (.rt o)) : fnR n m c ds = some o := by unfold fnR; rw [if_pos hl, h]; rfl
theorem wZ {g : GF} {f : SF} (I : Nat -> AS -> Prop) : ∀ (xs : List It1) (k : Nat) (as : AS), (∀ i x as, xs[i]? = some x -> I (k + i) as -> ∃ as1, g x as = some as1 /\ ∃ as2, f as1 = some (.nx as2) /\ I (k + i + 1) as2) -> I k as -> ∃ as', forL g f xs as = some (.nx as') /\ I (k + xs.length) as'
 | [], k, as, _, h => ⟨as, rfl, h⟩
 | x :: r, k, as, st, h => by
  obtain ⟨as1, h1, as2, h2, h3⟩ := st 0 x as rfl h
  obtain ⟨as', h4, h5⟩ := wZ I r (k + 1) as2 (λ i y as e q => by
   obtain ⟨u, k1, v, k2, k3⟩ := st (i + 1) y as e (by rw [show k + (i + 1) = k + 1 + i by omega]; exact q)
   exact ⟨u, k1, v, k2, by rw [show k + 1 + i + 1 = k + (i + 1) + 1 by omega]; exact k3⟩) h3
  refine ⟨as', ?_, by rw [zzR, show k + (r.length + 1) = k + 1 + r.length by omega]; exact h5⟩
  show (g x as).bind _ = _
  rw [h1]; show (f as1).bind _ = _
  rw [h2]; exact h4
theorem ZP {fi : IF} {g : GF} {f : SF} {xs : List It1} {as' : AS} {o : Option Out} (h : fi as = some (xs, as')) (h2 : forL g f xs as' = o) : Wx fi g f as = o := by unfold Wx; rw [h]; exact h2
theorem Xx {lo : Int} {n i : Nat} {x : It1} (h : (v6 lo n)[i]? = some x) : x = (true, .int (lo + i)) /\ i < n := by
 unfold v6 at h
 rw [zzG] at h
 cases e : (List.range n)[i]? with
 | none => rw [e] at h; cases h
 | some k =>
  rw [e] at h
  obtain ⟨h1, h2⟩ := zzE.mp e
  rw [List.length_range] at h1
  rw [List.getElem_range] at h2
  subst h2
  exact ⟨(Option.some.inj h).symm, h1⟩
theorem Yz {fr : AF} {j : Int} {u : Bool} (h : WA fr as [(u, .int j)]) (h0 : 0 <= j) (h1 : j < 1000000) : xR fr xW as = some (v6 0 j.toNat, as) := by
 unfold xR; unfold WA at h
 rw [h]
 simp only [Option.bind_some, WY]
 show ((if -(2 ^ 62) <= j /\ j < 2 ^ 62 then some (v6 0 j.toNat) else none).bind _) = _
 rw [if_pos ⟨by omega, by omega⟩]; rfl
theorem znM {fr : AF} {rs : List (Bool × D)} {o : O} (ha : a as = some (.ow o, as)) (hr : WA fr as rs) : WA (aC a fr) as ((o.str, o.toD) :: rs) := by
 unfold WA aC at *
 rw [ha]; show ((fr as).bind _) = _
 rw [hr]; rfl
theorem zkJ {i : Nat} {o : O} (h : as[i]? = some (some o)) : RV.view as (.bo i) = some (o.toD, o.kl) := by simp only [RV.view, h]
theorem zlU {i : Nat} {o : O} (h : as[i]? = some (some o)) : toO as (.bo i) = some (o.frz, as.set i (some o.frz)) := by simp only [toO, h]
theorem zpj {i : Nat} {o : O} (h : as[i]? = some (some o)) (hs : o.str = true) : zmk as (.bo i) = some o := by simp only [zmk, h, hs, if_true]
theorem zis {i : Nat} {k : Kind} {os : List O} (h : as[i]? = some (some (.nd k os))) : fV i as = some (.bo i, as) := by unfold fV; rw [h]
theorem zhD {i : Nat} {os : List O} (h : as[i]? = some (some (.nd .ls os))) : WD (fP (aC (fV i) aN) vq) as true (.int os.length) := by
 have e : views as [.bo i] = some ([.lst (O.toDs os)], meet (O.nd .ls os).kl (some true)) := by
  show (RV.view as (.bo i)).bind _ = _
  rw [zkJ h]; rfl
 unfold WD fP aC
 rw [zis h]
 simp only [Option.bind_some, aN, RV.frz, e]
 rw [show vq [.lst (O.toDs os)] = some (.im (.int os.length)) by show some (R0.im (.int ((O.toDs os).length : Nat))) = _; rw [zdF]]
 rfl
theorem zlF {g : GF} {f : SF} {d : It1} {r : List It1} {as1 as2 : AS} {o : Option Out} (h1 : g d as = some as1) (h2 : f as1 = some (.nx as2)) (h3 : forL g f r as2 = o) : forL g f (d :: r) as = o := by
 show (g d as).bind _ = _
 rw [h1]; show (f as1).bind _ = _
 rw [h2]; exact h3
theorem zqy {i : Nat} {os : List O} (h : as[i]? = some (some (.nd .ls os))) (hl : os.length < sizeLine) (ha : WD a as s x) : wM (vL i (dC a dN) vJ) as = some (.nx (as.set i (some (.nd .ls (os ++ [.lf s x]))))) := by
 unfold wM vL; rw [h]
 have e : dC a dN as = some ([.lf s x], as) := zO ha xg
 show ((dC a dN as).bind _).bind _ = _
 rw [e]; show (Option.bind (match as[i]? with | some (some (.nd .ls os)) => _ | _ => none) _) = _
 rw [h]; show ((vJ os [.lf s x]).bind _).bind _ = _
 have e2 : vJ os [.lf s x] = some (os ++ [.lf s x], .lf true .non) := by unfold vJ; exact if_pos hl
 rw [e2]; rfl
theorem zlT {i : Nat} {os : List O} {k : Int} {o : O} (h : as[i]? = some (some (.nd .ls os))) (ha : WD a as s (.int k)) (h0 : 0 <= k) (h1 : k < os.length) (hs : os.length < 2 ^ 60) (ho : os[k.toNat]? = some o) : vL i (dC a dN) zaq as = some (.ow o, as.set i (some (.nd .ls (os.eraseIdx k.toNat)))) := by
 unfold vL; rw [h]
 have e : dC a dN as = some ([.lf s (.int k)], as) := zO ha xg
 show ((dC a dN as).bind _) = _
 rw [e]; show (match as[i]? with | some (some (.nd .ls os)) => _ | _ => none) = _
 rw [h]; show ((zaq os [.lf s (.int k)]).bind _) = _
 have e2 : zaq os [.lf s (.int k)] = some (os.eraseIdx k.toNat, o) := by
  unfold zaq
  show (if -(2 ^ 63) <= k /\ k < 2 ^ 63 then _ else _) = _
  rw [if_pos ⟨by omega, by omega⟩]
  have e3 : seqIndex? k os.length = some k.toNat := by unfold seqIndex?; simp; omega
  rw [e3]; show ((os[k.toNat]?).bind _) = _
  rw [ho]; rfl
 rw [e2]; rfl
theorem zqp {g : GF} {o : O} {as' : AS} (h : f as = some (.ow o, as)) (hg : g (o.str, o.toD) as = some as') : zdg f g as = some (.nx as') := by
 unfold zdg; rw [h]
 show (g (o.str, o.toD) as).bind _ = _
 rw [hg]; rfl
theorem zki {i : Nat} {o : O} (h : as[i]? = some (some o)) (hs : o.str = true) : yX (fV i) as = some (.rt o) := by
 cases o with
 | lf st d => unfold yX fV; rw [h]; have : st = true := hs; subst this; rfl
 | nd k os =>
  unfold yX; rw [zis h]; show (zmk as (.bo i)).bind _ = _
  rw [zpj h hs]; rfl
theorem zcD {fr : DF} {os : List O} (h : WO fr as os) (hl : os.length <= sizeLine) (ha : os.all O.isLf = true) : WD (yw fr) as (O.strs os) (.tup (O.toDs os)) := by
 unfold WD yw; unfold WO at h
 rw [h]; show (if os.length <= sizeLine then some (RV.ow (WN os), as) else _) = _
 rw [if_pos hl]; unfold WN; rw [if_pos ha]
theorem zqW {g : D -> D -> Option R0} {oa ob : O} {zs : List D} {as1 as2 : AS} (ha : a as = some (.ow oa, as1)) (hb : b as1 = some (.ow ob, as2)) (hg : g oa.toD ob.toD = some (.fl zs)) : f2 a b g as = some (.ow (.nd .ls (zs.map (lfs (oa.str && ob.str)))), as2) := by
 unfold f2
 rw [ha]; show ((b as1).bind _) = _
 rw [hb]; show ((g oa.toD ob.toD).bind _) = _
 rw [hg]
 show (if (zs.all yF || (meet (some oa.str) (some ob.str)).isSome) = true then _ else _ : Option RV).bind _ = _
 rw [if_pos (by unfold meet; simp)]
 rfl
theorem w5 {g : D -> D -> Option R0} (ha : WD a as true x) (hb : WD b as true y) (hg : g x y = some (.im z)) : WD (f2 a b g) as true z := by
 have := zpz ha hb hg
 rw [show (yF z || (true && true)) = true by simp] at this
 exact this
theorem zce : ∀ zs : List D, zs.map (lfs true) = zs.map (O.lf true)
 | [] => rfl
 | z :: r => by
  show lfs true z :: r.map (lfs true) = _
  rw [zce r]; unfold lfs; rw [Bool.or_true]; rfl
theorem zoC {g : D -> D -> Option R0} {oa ob : O} {zs : List D} {as1 as2 : AS} (ha : a as = some (.ow oa, as1)) (hb : b as1 = some (.ow ob, as2)) (hg : g oa.toD ob.toD = some (.fl zs)) (h1 : oa.str = true) (h2 : ob.str = true) : f2 a b g as = some (.ow (.nd .ls (zs.map (O.lf true))), as2) := by
 have := zqW ha hb hg
 rw [h1, h2, show (true && true) = true from rfl, zce] at this
 exact this
theorem vG {fr : DF} {o : O} {os : List O} {as1 as2 : AS} (ha : a as = some (.ow o, as1)) (hr : fr as1 = some (os, as2)) : dC a fr as = some (o :: os, as2) := by
 unfold dC
 rw [ha]; show ((fr as1).bind _) = _
 rw [hr]; rfl
theorem add_lists {xs ys : List D} (h : xs.length + ys.length <= sizeLine) : Z3 .Add (.lst xs) (.lst ys) = some (.fl (xs ++ ys)) := if_pos h
theorem zcQ (lo : Int) (n : Nat) : v6 lo (n + 1) = (true, .int lo) :: v6 (lo + 1) n := by
 unfold v6
 rw [List.range_succ_eq_map, List.map_cons, List.map_map]
 congr 1
 · simp
 · apply List.map_congr_left
   intro i _
   show (true, D.int _) = (true, D.int _)
   congr 2
   show lo + ((i + 1 : Nat) : Int) = _
   omega
theorem zfC {fr : AF} {rs : List (Bool × D)} {g : List D -> Option R0} (ha : WA fr as rs) (hg : g (rs.map (·.2)) = some (.im x)) (e : rs.all (·.1) = true) : WD (fP fr g) as true x := by
 have := zkP ha hg; rw [e, Bool.or_true] at this; exact this
theorem zgX {ty : Ty} {fr : AF} {rs : List (Bool × D)} {g : D -> List D -> Option R0} (ha : WD a as s y) (ht : zpg ty y = true) (hr : WA fr as rs) (hg : g y (rs.map (·.2)) = some (.im x)) (e : yF x = true) : WD (Vy ty a fr g) as true x := by
 unfold WD Vy; unfold WD at ha; unfold WA at hr
 rw [ha]
 show (if zpg ty y = true then _ else _ : Option (RV × AS)) = _
 rw [if_pos ht, hr]
 simp only [Option.bind_some, WY]
 show ((g y (rs.map (·.2))).bind _) = _
 rw [hg]
 show (if (yF x || _) = true then _ else _ : Option RV).bind _ = _
 rw [if_pos (by rw [e]; rfl)]
 show some (RV.ow (.lf (yF x || _) x), as) = _
 rw [e]; rfl
theorem zmu {fl fh : OF} {lo hi : Option Int} {g : D -> Option Int -> Option Int -> Option R0} (ha : WD a as s y) (hl : fl as = some (lo, as)) (hh : fh as = some (hi, as)) (hg : g y lo hi = some (.im x)) : WD (fSl a fl fh g) as (yF x || s) x := by
 unfold WD fSl; unfold WD at ha
 rw [ha]; show ((fl as).bind _) = _
 rw [hl]; show ((fh as).bind _) = _
 rw [hh]; show ((g y lo hi).bind _) = _
 rw [hg]
 show (if (yF x || (some s).isSome) = true then _ else _ : Option RV).bind _ = _
 rw [if_pos (by simp)]; rfl
theorem zkO {fi : IF} {cap : List (Option Nat)} {g : GF} {tt : TF} {fe : EF} {xs : List It1} {os : List O} (h1 : fi as = some (xs, as)) (hl : xs.length <= sizeLine) (h2 : v9 g tt fe (X7 cap as) xs = some os) : yh fi cap g tt fe as = some (.ow (.nd .ls os), as) := by
 unfold yh
 rw [h1]; show (if xs.length <= sizeLine then _ else _) = _
 rw [if_pos hl]; show (v9 g tt fe (X7 cap as) xs).bind _ = _
 rw [h2]; rfl
end
theorem szl {n : Nat} (h : Nat.ble n 1000 = true) : n <= sizeLine := Nat.le_of_lt (Yp (Nat.le_of_ble_eq_true h))
theorem zQ {a b : Nat} (h : Nat.ble (a + 1) b = true) : a < b := Nat.le_of_ble_eq_true h
theorem yK {i : Int} (h0 : -(10 ^ 200) < i) (h1 : i < 10 ^ 200) : i.natAbs < big := by
 have : (10 : Nat) ^ 200 < big := by unfold big; decide +kernel
 have e : ((10 ^ 200 : Nat) : Int) = (10 : Int) ^ 200 := by norm_cast
 have : (i.natAbs : Int) < ((10 ^ 200 : Nat) : Int) := by rw [e]; omega
 omega
theorem zoh {ns : List Int} {k : Int} (h0 : 0 <= k) (h1 : k < ns.length) : ∃ x, ixP (.lst (ns.map D.int)) (.int k) = some (.im (.int x)) := by
 have hk : k.toNat < ns.length := by omega
 refine ⟨ns[k.toNat], ?_⟩
 have h := Xd (xs := ns.map D.int) (j := k.toNat) (v := D.int ns[k.toNat]) (by rw [zzG, zzC hk]; rfl)
 rw [show ((k.toNat : Nat) : Int) = k by omega] at h
 show imR (atI _ _) = _
 rw [h]; rfl
def GC (K : zD) (kd : KD) (mg : Str -> Option Value) (x : Str) (d : D) : Prop := ∃ v u, mg x = some u /\ RelV v u /\ ∀ (O : Addr -> Prop) (H : Hp), Rp K kd O H v d
section
variable {X : Cx} {kd : KD} {K : zD} {mg : Str -> Option Value}
theorem zdi {x : Str} {d : D} {pos : Pos} (h : GC X.K kd X.mg x d) (hg : Gl X x) (hd : (x == ("__debug__" : Str)) = false) : AE X kd (.Name x pos) (fC d) := by
 with_unfolding_all (
 obtain ⟨v, u, h1, h2, h3⟩ := h
 exact zfl (zoU hg h1 h2 hd) h3)
theorem GC.int {x : Str} {i : Int} {t : Tok} (h : mg x = some (.int i t)) : GC K kd mg x (.int i) := ⟨.int i, _, h, ⟨t, rfl⟩, λ _ _ => .int i⟩
theorem GC.str {x y : Str} {t : Tok} (h : mg x = some (.str y t)) : GC K kd mg x (.str y) := ⟨.str y, _, h, ⟨t, rfl⟩, λ _ _ => .str y⟩
def spL (K : zD) (g : Fn) : Sp := λ vs H Q E => ∀ kd : KD, spD K kd g vs H Q E
end
def zey (fa fb fc : EF) (g g' : D -> D -> Option R0) : EF := λ as => (fa as).bind λ p => (fb p.2).bind λ q => (p.1.frz.view q.2).bind λ x => (q.1.frz.view q.2).bind λ y => (g x.1 y.1).bind λ r => match r with
 | .im (.bl true) => (fc q.2).bind λ t => (q.1.frz.view t.2).bind λ y' => (t.1.frz.view t.2).bind λ z => (g' y'.1 z.1).bind λ r' => (wrap (meet y'.2 z.2) r').bind λ o => some (o, t.2)
 | .im (.bl false) => some (.ow (.lf true (.bl false)), q.2)
 | _ => none
section
variable {X : Cx} {kd : KD} {a b c : Expr} {fa fb fc : EF} {pos : Pos}
theorem znz {op op' : CmpOp} {g g' : D -> D -> Option R0} (ho : OpD X kd (compareOp op) g) (ho' : OpD X kd (compareOp op') g') (ha : AE X kd a fa) (hb : AE X kd b fb) (hc : AE X kd c fc) (hm : lastMarks [op, op'] [b, c] = false) :
 AE X kd (.Compare a [op, op'] [b, c] pos) (zey fa fb fc g g') := by with_unfolding_all exact (wU (zmP ho ho' ha hb hc hm) λ σ H Q h => by
 obtain ⟨F, B, ad, as, r, as', R, e, q⟩ := h
 obtain ⟨⟨p, as1⟩, h1, e⟩ := bS_ (show (fa as).bind _ = _ from e)
 obtain ⟨⟨z, as2⟩, h2, e⟩ := bS_ e
 obtain ⟨⟨x, lx⟩, h3, e⟩ := bS_ e
 obtain ⟨⟨y, ly⟩, h4, e⟩ := bS_ e
 obtain ⟨r0, h5, e⟩ := bS_ e
 refine Y9 R h1 λ v ad1 H1 R1 rv1 g1 => Y9 R1 h2 λ u ad2 H2 R2 rv2 g2 => ⟨_, x, y, r0, R2.tr (meet lx ly), (Za.vw R2 (rv1.grow g2) h3).less Obl.meet1, (Za.vw R2 rv2 h4).less Obl.meet2, h5, ?_⟩
 match r0, e with
 | .im (.bl true), e =>
  obtain ⟨⟨t, as3⟩, h6, e⟩ := bS_ (show (fc as2).bind _ = _ from e)
  obtain ⟨⟨y', ly'⟩, h7, e⟩ := bS_ e
  obtain ⟨⟨z', lz'⟩, h8, e⟩ := bS_ e
  obtain ⟨r1, h9, e⟩ := bS_ e
  obtain ⟨o, h10, e⟩ := bS_ e
  cases e
  intro w H3 kp rp
  cases rp
  obtain ⟨R3, g3⟩ := R2.more kp
  refine ⟨true, rfl, ?_⟩
  rw [if_pos rfl]
  refine Y9 R3 h6 λ w' ad4 H4 R4 rv4 g4 => ⟨_, y', z', r1, R4.tr (meet ly' lz'), (Za.vw R4 ((rv2.grow g3).grow g4) h7).less Obl.meet1, (Za.vw R4 rv4 h8).less Obl.meet2, h9, ?_⟩
  exact Xg R4 h10 λ w T' H' R' rv' g' => q w T' ad4 H' R' rv' ((((g1.trans g2).trans g3).trans g4).trans g')
 | .im (.bl false), e =>
  cases e
  intro w H3 kp rp
  cases rp
  obtain ⟨R3, g3⟩ := R2.more kp
  refine ⟨false, rfl, ?_⟩
  rw [if_neg Bool.false_ne_true]
  exact q _ [] ad2 H3 R3 (.lf (.bl _)) ((g1.trans g2).trans g3))
end
def zbQ : List D -> Option (List Bool)
 | [] => some []
 | .bl b :: r => (zbQ r).bind λ s => some (b :: s)
 | _ :: _ => none
def zcT : List D -> Option R0
 | [.lst ds] => (zbQ ds).bind λ bs => some (.im (.bl (bs.all id)))
 | _ => none
theorem ziz {K : zD} {kd : KD} {O : Addr -> Prop} {H : Hp} : ∀ {vs : List V} {us : List Value} {ds : List D} {bs : List Bool}, RpL K kd O H vs ds -> Vals vs us -> zbQ ds = some bs -> LSm.BoolsAre us bs
 | _, _, _, _, .nil, .nil, e => by cases e; exact .nil
 | _, _, _, _, .cons (d := d) a r, .cons b t, e => by
  cases d with
  | bl c =>
   obtain ⟨s, h1, h2⟩ := bS_ (show (zbQ _).bind _ = _ from e)
   cases h2
   cases a
   cases b
   exact .cons _ (ziz r t h1)
  | _ => cases e
section
variable {X : Cx} {kd : KD}
theorem zlf {h h' : Heap} {ob : Obj} (hk : ∀ b x, b ∉ [h.objs.size] -> (h.push ob).get? b = some x -> h'.get? b = some x) (b : Addr) (x : Obj) (e : h.get? b = some x) : h'.get? b = some x := by
 refine hk b x (λ m => ?_) (Heap.get?_push_of_some _ e)
 have := Heap.lt_size e
 rw [zzP.mp m] at this
 exact absurd this (Nat.lt_irrefl _)
theorem Yu (hc : X.calm = true) : CallD X kd (.builtin "all") zcT := by
 intro pins s σ H xs us Q I r h
 obtain ⟨O, ds, z, ht, vl, he, q⟩ := h
 unfold zcT at he
 split at he
 · obtain ⟨bs, h1, he⟩ := bS_ he
   cases he
   obtain ⟨x, rfl, vx⟩ := zaI vl
   cases vx with
   | lst hr rl =>
    rename_i l vs
    obtain ⟨u, rfl, ru⟩ := vals1 r
    cases ru
    obtain ⟨its, rv, p, _⟩ := I.list hr.sq
    have hb := ziz rl rv h1
    have hl := p.isList
    have hlt : l < s.heap.objs.size := by obtain ⟨_, e, _⟩ := hl; exact Heap.lt_size e
    refine call_all_walk (wpAny_pyIter_list hl ?_)
    refine ⟨s.heap.objs.size, [s.heap.objs.size, l], [s.heap.objs.size], its.toArray.size, _, _, (λ i => (bs[i]?).getD true), rfl, Walks.list (A := X.A.in1) (I.ok.hd hc) _ l (zzO hlt) its.toArray, ⟨⟨_, Heap.get?_push_size _ rfl, rfl, rfl⟩, hl.push _⟩, ?_, ?_⟩
    · intro i v s' Q' E' hP hQ
      obtain ⟨b, e, rfl⟩ := hb.get i v (by simpa using hP)
      simp only [e, Option.getD_some] at hQ
      exact wpAny_truthy_bool hQ
    · intro h' tk hk
      have e : ((List.range its.toArray.size).all λ i => (bs[i]?).getD true) = bs.all id := by
       rw [zzF, hb.length]
       exact LSm.range_all bs
      rw [e]
      exact ⟨.bl (bs.all id), H, I.kept (zlf hk), rfl, xj q (.bl _)⟩
 · cases he
end
def lfO : O -> Option (Bool × D)
 | .lf s d => some (s, d)
 | _ => none
theorem znr {o : O} {p : Bool × D} (h : lfO o = some p) : o = .lf p.1 p.2 := by
 cases o with
 | lf s d => cases h; rfl
 | nd k os => cases h
def zni (i j : Nat) (fd : DF) : SF := λ as => (fd as).bind λ p => (zqL p.1).bind λ o => (lfO o.1).bind λ a => (lfO o.2).bind λ b => if i < p.2.length /\ j < p.2.length then some (.nx ((p.2.set i (some (.lf a.1 a.2))).set j (some (.lf b.1 b.2)))) else none
section
variable {X : Cx} {kd : KD} {a b : Expr} {fd : DF} {pos : Pos}
theorem zrx {i j : Nat} {x y : Str} {px py pt : Pos} {kt k2 pt2} (hc : X.calm = true) (hN : X.N.Nodup) (hi : X.N[i]? = some x) (hj : X.N[j]? = some y) (hij : i ≠ j)
 (hx : X.env.scope.names.lookup x = some .local) (hy : X.env.scope.names.lookup y = some .local) (ha : AD X kd [a, b] fd)
 (hw : swappedStores [.Tuple [.Name x px, .Name y py] kt pt] (.Tuple [a, b] k2 pt2) X.env = pure (some [x, y]))
 (hs : swapsWithSole [.Tuple [.Name x px, .Name y py] kt pt] (.Tuple [a, b] k2 pt2) pos.line X.env = pure false) :
 ASt X kd (.Assign [.Tuple [.Name x px, .Name y py] kt pt] (.Tuple [a, b] k2 pt2) pos) (zni i j fd) := by with_unfolding_all exact (Wl (zqt hc hN hi hj hij hx hy ha hw hs) λ D σ H h => by
 obtain ⟨F, B, ad, as, o, R, e, q⟩ := h
 obtain ⟨⟨os, as1⟩, h1, e⟩ := bS_ (show (fd as).bind _ = _ from e)
 obtain ⟨⟨o1, o2⟩, e1, e⟩ := bS_ e
 obtain ⟨⟨s1, d1⟩, e2, e⟩ := bS_ e
 obtain ⟨⟨s2, d2⟩, e3, e⟩ := bS_ e
 cases zkT e1
 cases znr e2
 cases znr e3
 · obtain ⟨⟨l1, l2⟩, e⟩ := yD e
   cases e
   refine ⟨F, B, ad, as, _, as1, R, h1, λ vs T' ad' H' R' rl g => ?_⟩
   cases rl with
   | cons ra rb =>
    cases rb with
    | cons rb rn =>
     cases rn
     cases ra with
     | lf ra =>
      cases rb with
      | lf rb =>
       refine ⟨_, _, rfl, ?_⟩
       have R2 := R'.put (T := []) (i := i) (o := .lf s1 d1) l1 (.lf ra)
       have R3 := R2.put (T := []) (i := j) (o := .lf s2 d2) (by rw [zzS]; exact l2) (RoS.less wY (.lf rb))
       exact q _ _ _ R3 (g.trans (Grow.less λ a z => wY a (wY a z))))
end
inductive Ents (w : World) : List DictEntry -> List (Key × V) -> Prop
 | nil : Ents w [] []
 | str {x : Str} {t : Tok} {v : V} {u : Value} {r : List DictEntry} {s : List (Key × V)} : RelV v u -> Ents w r s -> Ents w (⟨PyData.keyHash w.params x, .str x t, u⟩ :: r) ((.inr x, v) :: s)
theorem Ents.keys {P : Program} {w : World} : ∀ {es : List DictEntry} {kvs : List (Key × V)}, Ents w es kvs -> ∀ e ∈ es, ∃ k, (Yj P w).is k e.key = true /\ e.hash = (Yj P w).hash k
 | _, _, .nil, _, m => nomatch m
 | _, _, .str (x := x) (t := t) _ r, e, m => by
  rcases zzA.mp m with rfl | m
  · exact ⟨.inr x, VV P w x t, rfl⟩
  · exact r.keys e m
theorem Ents.pairs {P : Program} {w : World} : ∀ {es : List DictEntry} {kvs : List (Key × V)}, Ents w es kvs -> ∃ vs, KV kvs vs /\ Pairs (Yj P w) es vs /\ vs.map (·.1) = kvs.map (·.1)
 | _, _, .nil => ⟨[], .nil, .nil, rfl⟩
 | _, _, .str (x := x) (t := t) (u := u) h r => by
  obtain ⟨vs, h1, h2, h3⟩ := r.pairs (P := P)
  exact ⟨(.inr x, u) :: vs, .cons ⟨rfl, h⟩ h1, .cons (VV P w x t) rfl h2, by rw [List.map_cons, List.map_cons, h3]⟩
structure DctAt (w : World) (K : zD) (a : Addr) (kvs : List (Key × V)) : Prop where
 ex : ∃ es ep, K.lookup a = some { cls := .type "dict", data := .dict es ep } /\ Ents w es.toList kvs
 nd : (kvs.map (·.1)).Nodup
 le : kvs.length <= sizeLine
 ns : (a == sysModules) = false
def kdL (l : List (Addr × List (Key × V))) (c : Str -> Addr := λ _ => 0) : KD := ⟨λ a k => l.lookup a = some k, c⟩
theorem lookup_mem {l : List (Addr × List (Key × V))} {a : Addr} {k : List (Key × V)} (h : l.lookup a = some k) : (a, k) ∈ l := by
 induction l with
 | nil => cases h
 | cons p r ih =>
  rw [List.lookup_cons] at h
  by_cases e : a = p.1
  · subst e
    rw [beq_self_eq_true] at h
    cases h
    exact zzD
  · rw [show (a == p.1) = false from beq_eq_false_iff_ne.mpr e] at h
    exact zzB _ (ih h)
theorem zru {P : Program} {w : World} {K : zD} {l : List (Addr × List (Key × V))} {c : Str -> Addr} (h : ∀ p ∈ l, DctAt w K p.1 p.2) : KD1 P w K (kdL l c) := λ X e1 e2 e3 => by
 subst e1; subst e2; subst e3
 refine ⟨λ a k k' h1 h2 => Option.some.inj (h1.symm.trans h2), λ a k h1 => ?_, λ a k hp h1 hin => ?_⟩
 · obtain ⟨es, ep, e, _⟩ := (h _ (lookup_mem h1)).ex
   exact ⟨_, e⟩
 · have q := h _ (lookup_mem h1)
   obtain ⟨es, ep, e, en⟩ := q.ex
   obtain ⟨vs, h2, h3, h4⟩ := en.pairs (P := X.prog)
   refine ⟨q.le, q.ns, vs, h2, _, es, ep, hin _ _ e, ⟨rfl, rfl, rfl⟩, rfl, λ x m => en.keys x (by simpa using m), h3, by rw [h4]; exact q.nd⟩
def isStar : Expr -> Bool
 | .Starred .. => true
 | _ => false
theorem za {a : Expr} {es : List Expr} {env : Env} (h : isStar a = false) : starEach (a :: es) env = (false, eval a env) :: starEach es env := by
 cases a <;> first | rfl | cases h
section
variable {as : AS} {f a b c : EF} {s t u : Bool} {x y z : D} {i j k : Int}
theorem zqC {cl : String} (h : WD f as s x) (ho : zdZ x = true := by rfl) : WD (VD f cl) as true (.bl (zaW (tyD x) cl)) := by
 unfold WD VD at *; rw [h]; show (if zdZ x = true then _ else _) = _; rw [if_pos ho]; rfl
theorem znI {cl : String} {q : Bool} (h : WD f as s x) (e : zaW (tyD x) cl = q) (ho : zdZ x = true := by rfl) : WD (VD f cl) as true (.bl q) := by subst e; exact zqC h ho
theorem zaC {fl fh : OF} {lo hi : Option Int} {g : D -> Option Int -> Option Int -> Option R0} (ha : WD a as true y) (hl : fl as = some (lo, as)) (hh : fh as = some (hi, as)) (hg : g y lo hi = some (.im x)) : WD (fSl a fl fh g) as true x := by
 have := zmu ha hl hh hg; rw [Bool.or_true] at this; exact this
theorem ix0 {ds : List D} : ixP (.tup (x :: ds)) (.int 0) = some (.im x) := by
 show imR (atI _ _) = _
 rw [show (0 : Int) = ((0 : Nat) : Int) from rfl, Xd (v := x) rfl]; rfl
theorem zqH {q : Bool} (h : WD f as s (.bl q)) : WD (zoa f) as true (.bl (!q)) := by
 unfold WD zoa at *; rw [h]; rfl
theorem zpR {cc : TF} {g : SF} {n : Nat} {as1 : AS} {o : Option Out} (h : WT cc as true) (h1 : g as = some (.nx as1)) (h2 : whL cc g n as1 = o) : whL cc g (n + 1) as = o := by
 unfold WT at h
 show (cc as).bind _ = _
 rw [h]; show (g as).bind _ = _
 rw [h1]; exact h2
theorem zrf {cc : TF} {g : SF} {n : Nat} (h : WT cc as false) : whL cc g (n + 1) as = some (.nx as) := by
 unfold WT at h
 show (cc as).bind _ = _
 rw [h]; rfl
theorem zrA {p q : Nat} {fd : DF} (h : WO fd as [.lf s x, .lf t y]) (hi : p < as.length) (hj : q < as.length) : zni p q fd as = some (.nx ((as.set p (some (.lf s x))).set q (some (.lf t y)))) := by
 unfold zni; unfold WO at h
 rw [h]; show (if _ then _ else _) = _
 rw [if_pos ⟨hi, hj⟩]
theorem zlz {g : GF} {tt : TF} {fe : EF} {as0 as1 : AS} {w : It1} {r : List It1} {o : Option (List O)} (h1 : g w as0 = some as1) (h2 : WT tt as1 false) (h3 : v9 g tt fe as0 r = o) : v9 g tt fe as0 (w :: r) = o := by
 unfold WT at h2
 show (g w as0).bind _ = _
 rw [h1]; show (tt as1).bind _ = _
 rw [h2]; exact h3
theorem zlk {g : GF} {tt : TF} {fe : EF} {as0 as1 : AS} {w : It1} {r : List It1} {os : List O} (h1 : g w as0 = some as1) (h2 : WT tt as1 true) (h3 : WD fe as1 true x) (h4 : v9 g tt fe as0 r = some os) : v9 g tt fe as0 (w :: r) = some (.lf true x :: os) := by
 unfold WT at h2; unfold WD at h3
 show (g w as0).bind _ = _
 rw [h1]; show (tt as1).bind _ = _
 rw [h2]; show (fe as1).bind _ = _
 rw [h3]; show (v9 g tt fe as0 r).bind _ = _
 rw [h4]; rfl
def WE (f : EF) (as : AS) (x : D) : Prop := ∃ o, f as = some (.ow o, as) /\ o.str = true /\ o.toD = x
def RE (r : Option O) (x : D) : Prop := ∃ o, r = some o /\ o.str = true /\ o.toD = x
theorem WD.e (h : WD f as true x) : WE f as x := ⟨_, h, rfl, rfl⟩
theorem Ye {fr : DF} {os : List O} (h : WO fr as os) (hl : os.length <= sizeLine) (hs : O.strs os = true) (e : D.lst (O.toDs os) = x) : WE (zZ fr) as x := ⟨_, Z7 h hl, hs, e⟩
theorem YL {fr : AF} {rs : List (Bool × D)} (h : WE a as x) (hr : WA fr as rs) : WA (aC a fr) as ((true, x) :: rs) := by
 obtain ⟨o, h1, h2, rfl⟩ := h
 have := znM h1 hr
 rw [h2] at this
 exact this
theorem zfb {g : List (Bool × D) -> Option O} (ha : WE a as x) (hg : RE (g [(true, x)]) z) : WE (zX (aC a aN) g) as z := by
 obtain ⟨o, h1, h2, h3⟩ := hg
 exact ⟨o, Xm (YL ha zU) (by show g [(yF x || true, x)] = _; rw [Bool.or_true]; exact h1), h2, h3⟩
theorem Xz {g : List (Bool × D) -> Option O} (ha : WE a as x) (hb : WE b as y) (hg : RE (g [(true, x), (true, y)]) z) : WE (zX (aC a (aC b aN)) g) as z := by
 obtain ⟨o, h1, h2, h3⟩ := hg
 exact ⟨o, Xm (YL ha (YL hb zU)) (by show g [(yF x || true, x), (yF y || true, y)] = _; rw [Bool.or_true, Bool.or_true]; exact h1), h2, h3⟩
theorem Wr {w : D} {g : List (Bool × D) -> Option O} (ha : WE a as x) (hb : WE b as y) (hc : WE c as w) (hg : RE (g [(true, x), (true, y), (true, w)]) z) : WE (zX (aC a (aC b (aC c aN))) g) as z := by
 obtain ⟨o, h1, h2, h3⟩ := hg
 exact ⟨o, Xm (YL ha (YL hb (YL hc zU))) (by show g [(yF x || true, x), (yF y || true, y), (yF w || true, w)] = _; rw [Bool.or_true, Bool.or_true, Bool.or_true]; exact h1), h2, h3⟩
theorem zen {g : List (Bool × D) -> Option O} (ha : WE a as x) (hg : g [(true, x)] = some (.lf s z)) : WD (zX (aC a aN) g) as s z := Xm (YL ha zU) (by show g [(yF x || true, x)] = _; rw [Bool.or_true]; exact hg)
theorem zcR {g : List (Bool × D) -> Option O} (ha : WE a as x) (hb : WE b as y) (hg : g [(true, x), (true, y)] = some (.lf s z)) : WD (zX (aC a (aC b aN)) g) as s z := Xm (YL ha (YL hb zU)) (by show g [(yF x || true, x), (yF y || true, y)] = _; rw [Bool.or_true, Bool.or_true]; exact hg)
theorem zcW {w : D} {g : List (Bool × D) -> Option O} (ha : WE a as x) (hb : WE b as y) (hc : WE c as w) (hg : g [(true, x), (true, y), (true, w)] = some (.lf s z)) : WD (zX (aC a (aC b (aC c aN))) g) as s z := Xm (YL ha (YL hb (YL hc zU))) (by show g [(yF x || true, x), (yF y || true, y), (yF w || true, w)] = _; rw [Bool.or_true, Bool.or_true, Bool.or_true]; exact hg)
theorem f2E {g : D -> D -> Option R0} (ha : WE a as x) (hb : WE b as y) (hg : g x y = some (.im z)) : WD (f2 a b g) as true z := by
 obtain ⟨o, h1, h2, rfl⟩ := ha
 obtain ⟨p, h3, h4, rfl⟩ := hb
 have := zrG h1 h3 hg
 rw [h2, h4, Bool.and_true, Bool.or_true] at this
 exact this
theorem f2L {g : D -> D -> Option R0} {zs : List D} (ha : WE a as x) (hb : WE b as y) (hg : g x y = some (.fl zs)) : f2 a b g as = some (.ow (.nd .ls (zs.map (O.lf true))), as) := by
 obtain ⟨o, h1, h2, rfl⟩ := ha
 obtain ⟨p, h3, h4, rfl⟩ := hb
 exact zoC h1 h3 hg h2 h4
theorem zgM : ∀ zs : List D, O.strs (zs.map (O.lf true)) = true
 | [] => rfl
 | _ :: r => zgM r
theorem zgz : ∀ zs : List D, O.toDs (zs.map (O.lf true)) = zs
 | [] => rfl
 | z :: r => congrArg (z :: ·) (zgz r)
theorem zlB {g : D -> D -> Option R0} {zs : List D} (ha : WE a as x) (hb : WE b as y) (hg : g x y = some (.fl zs)) : WE (f2 a b g) as (.lst zs) := ⟨_, f2L ha hb hg, zgM zs, congrArg D.lst (zgz zs)⟩
theorem vY {p : Nat} (h : WE f as x) (hi : p < as.length) : yq true p f as = some (.nx (as.set p (some (.lf true x)))) := by
 obtain ⟨o, h1, h2, rfl⟩ := h
 have := zpl h1 hi
 rw [show o.frz = .lf true o.toD by unfold O.frz; rw [h2]] at this
 exact this
theorem zjl {g : List D -> Option R0} (ha : WE a as x) (hg : g [x] = some (.im z)) : WD (fP (aC a aN) g) as true z := zfC (YL ha zU) hg rfl
theorem zbu {fr : DF} {o : O} {os : List O} (ha : a as = some (.ow o, as)) (hr : WO fr as os) : WO (dC a fr) as (o :: os) := vG ha hr
theorem zmQ {fr : DF} {os : List O} (h : WO fr as os) (hl : os.length <= sizeLine) : yw fr as = some (.ow (WN os), as) := by
 unfold yw; unfold WO at h
 rw [h]; show (if os.length <= sizeLine then some (RV.ow (WN os), as) else _) = _
 rw [if_pos hl]
theorem Vf {fl fh : OF} {lo hi : Option Int} {g : D -> Option Int -> Option Int -> Option R0} {zs : List D} (ha : WE a as y) (hl : fl as = some (lo, as)) (hh : fh as = some (hi, as)) (hg : g y lo hi = some (.fl zs)) : WE (fSl a fl fh g) as (.lst zs) := by
 obtain ⟨o, h1, h2, rfl⟩ := ha
 refine ⟨.nd .ls (zs.map (O.lf true)), ?_, zgM zs, congrArg D.lst (zgz zs)⟩
 unfold fSl
 rw [h1]; show ((fl as).bind _) = _
 rw [hl]; show ((fh as).bind _) = _
 rw [hh]; show ((g o.toD lo hi).bind _) = _
 rw [hg]
 show (if (zs.all yF || (some o.str).isSome) = true then some (RV.ow (.nd .ls (zs.map (lfs ((some o.str).getD false))))) else none : Option RV).bind _ = _
 rw [if_pos (by simp), h2]
 show some (RV.ow (.nd .ls (zs.map (lfs true))), as) = _
 rw [zce]
theorem ziB {xs ys : List D} : slP (.lst (xs ++ ys)) (some (xs.length : Int)) none = some (.fl ys) := by
 show some (R0.fl (cutD (xs ++ ys) (some (xs.length : Int)) none)) = _
 congr 2
 unfold cutD
 rw [HT.zcm, HT.zcj, zzH, Nat.min_eq_left (by omega), List.drop_left, List.take_of_length_le (by omega)]
theorem zjG : ∀ ds : List D, kids true ds = ds.map λ d => (true, d)
 | [] => rfl
 | d :: r => by show (yF d || true, d) :: kids true r = _; rw [zjG r, Bool.or_true]; rfl
theorem zgD {ds : List D} (h : WE f as (.lst ds)) : Yr f as = some (ds.map λ d => (true, d), as) := by
 obtain ⟨o, h1, h2, h3⟩ := h
 unfold Yr
 rw [h1]; show (zhT (o.str, o.toD)).bind _ = _
 rw [h2, h3]; show some (kids true ds, as) = _
 rw [zjG]
end
def zaT : List D -> Option (List Str)
 | [] => some []
 | .str x :: r => (zaT r).bind λ s => some (x :: s)
 | _ :: _ => none
theorem zkC {K : zD} {kd : KD} {O : Addr -> Prop} {H : Hp} {vs : List V} {us : List Value} {ds : List D} {ns : List Str} (h : RpL K kd O H vs ds) (hv : Vals vs us) (e : zaT ds = some ns) : StrsAre us ns :=
 RpL.ind (P := λ vs ds => ∀ us ns, Vals vs us -> zaT ds = some ns -> StrsAre us ns) (λ us ns hv e => by cases e; cases hv; exact .nil) (λ {v d vs ds} a _ ih us ns hv e => by
  cases hv with
  | cons b t =>
   cases a with
   | str x =>
    obtain ⟨ys, h1, h2⟩ := bS_ (show (zaT _).bind _ = _ from e)
    cases h2
    obtain ⟨tk, rfl⟩ := b
    exact .cons _ _ (ih _ _ t h1)
   | _ => cases e) h us ns hv e
def zkY : D -> List D -> Option R0
 | .str sep, [.lst ds] => (zaT ds).bind λ ys => if (ys.map (·.length)).sum + ys.length * sep.length <= 16777216 then some (.im (.str (Txt.join sep ys))) else none
 | _, _ => none
section
variable {X : Cx} {kd : KD}
theorem zps : MtD X kd "str.join" zkY := by
 intro pins s σ H x xs v us Q I rx r h
 obtain ⟨O, d, ds, r0, ht, vx, vl, he, q⟩ := h
 unfold zkY at he
 split at he
 · rename_i sep es
   obtain ⟨ys, h1, he⟩ := bS_ he
   obtain ⟨hz, he⟩ := yD he
   cases he
   cases vx
   obtain ⟨t, rfl⟩ := rx
   obtain ⟨y, rfl, vy⟩ := zaI vl
   cases vy with
   | lst hr rl =>
    obtain ⟨u, rfl, ru⟩ := vals1 r
    cases ru
    obtain ⟨its, rv, pl, _⟩ := I.list hr.sq
    exact join_list pl.isList (zkC rl (by simpa using rv) h1) hz λ t' k => ⟨.str _, H, I.tok _, ⟨t', rfl⟩, xj q (.str _)⟩
 · cases he
def zkS : List D -> Option R0
 | [.str x] => some (.im (.str x))
 | ds => zrk ds
def ztG : D -> Option R0
 | .str x => if x.length <= 640 then (PySem.intText? x).bind λ n => some (.im (.int n)) else none
 | d => ztm d
def ziV : List D -> Option R0 := on1 ztG
theorem zjn : CallD X kd (.type "str") zkS := by
 intro pins s σ H xs us Q I r h
 obtain ⟨O, ds, z, ht, vl, he, q⟩ := h
 unfold zkS at he
 split at he
 · cases he
   obtain ⟨x, rfl, vx⟩ := zaI vl
   cases vx
   obtain ⟨u, rfl, ru⟩ := vals1 r
   obtain ⟨t, rfl⟩ := ru
   exact PySem.P.str_of_str ⟨.str _, H, I, ⟨t, rfl⟩, xj q (.str _)⟩
 · exact zlH pins s σ H _ us Q I r ⟨O, _, z, ht, vl, he, q⟩
theorem zfM : CallD X kd (.type "int") ziV := by
 intro pins s σ H xs us Q I r h
 obtain ⟨O, ds, z, ht, vl, he, q⟩ := h
 obtain ⟨x, d, rfl, vx, he⟩ := zde vl he
 cases vx with
 | str y =>
  obtain ⟨hl, he⟩ := ite_some' he
  obtain ⟨n, hn, he⟩ := bS_ he
  cases he
  obtain ⟨u, rfl, ru⟩ := vals1 r
  obtain ⟨t, rfl⟩ := ru
  exact PySem.W.KIN.call_text hn hl ⟨.int _, H, I.tok _, ⟨_, rfl⟩, xj q (.int _)⟩
 | int i => cases he; exact zgl pins s σ H _ us Q I r (.inl ⟨_, rfl, xj q (.int _)⟩)
 | bl b => cases he; exact zgl pins s σ H _ us Q I r (.inr ⟨_, rfl, xj q (.int _)⟩)
 | _ => cases he
end
section
variable {X : Cx} {pins : List (Addr × Obj)} {σ : List (Option V)} {H : Hp} {s : Shared} {h' : Heap}
theorem zhF {t' : Nat} {ch : List Addr} {T : Addr} {o : HO} (I : Inv X pins σ H s) (hf : ∀ b ∈ ch, zdf X pins H b) (k : ∀ b u, b ∉ ch -> s.heap.get? b = some u -> h'.get? b = some u) (hp : s.heap.objs.size <= T)
 (new : ZC X.prog X.w (upd H T o) h' T o) : Inv X pins σ (upd H T o) { s with heap := h', toks := t' } := by
 have hn : H T = none := I.hok.fresh hp
 have nT : ∀ b u, s.heap.get? b = some u -> b ≠ T := λ b u e z => absurd (zzI (Heap.lt_size e) (by rw [z]; exact hp)) (Nat.lt_irrefl _)
 have nc : ∀ b u, H b = some u -> b ∉ ch := λ b u e z => by have := (hf b z).1; rw [e] at this; cases this
 refine I.step (g' := s.gens) (d' := s.drawn) (ch := ch) (λ b hb => ?_) (λ b o _ _ hc e _ => k b o hc e) (λ b o _ _ hc e _ => ⟨o.slots, k b o hc e⟩) (λ b o _ e n => by rw [yO (nT b o e)]; exact n)
  (λ b o hc e => ⟨o, k b o hc e⟩) (λ b xs e => by rw [yO (xU e hn)]; exact e) (λ b o u e => by rw [yO (xU e hn)]; exact e) (λ b ps e => ⟨#[], by rw [yO (xU e hn), e]; simp⟩) (λ m hm => ?_) (λ b u e => ?_) I.bare
 · obtain ⟨f0, f1, f2, f3, f4, f5⟩ := hf b hb
   exact ⟨f3, f1, f4, f5⟩
 · obtain ⟨o, es, ep, ho, r⟩ := hm
   exact ⟨o, es, ep, k _ o (λ z => (hf _ z).2.1 rfl) ho, r⟩
 · by_cases hb : b = T
   · subst hb; rw [xQ] at e; cases e; exact new
   · rw [yO hb] at e
     refine (I.hok b u e).stay (λ c v hc q => k c v ?_ q) (λ c q => by rw [yO (xU q hn)]; exact q) λ c xs q => by rw [yO (xU q hn)]; exact q
     rcases hc with z | z
     · rw [z]; exact nc b u e
     · exact nc c _ z
end
def Itc (x : Str) : It := ⟨λ i _ => i < x.cps.size, λ i H v H' => H' = H /\ ∃ c, x.cps[i]? = some c /\ v = .str ⟨#[c]⟩, λ i _ => x.cps.size <= i⟩
theorem zik {P : Program} {w : World} {K : zD} {tg : Expr} (it : Addr) (x : Str) (t : Tok) (ty : String) (hty : ["enumerate", "zip", "dict_itemiterator", "dict_reverseitemiterator", "odict_iterator", "itertools.zip_longest", "itertools.pairwise"].contains ty = false)
 (hW : ∀ A : Around, A.handled = none -> Walks P w A it [it] [it] x.cps.size (SignAt x) (λ i h => h.IsStrIter it ty x t i))
 (hS : ∀ (A : Around) (i : Nat) (s : Shared) (Q : Value -> Shared -> Prop) (E : Value -> Shared -> Prop), s.heap.IsStrIter it ty x t i -> Q (.ref it) s -> wpAny (model P w) A (pyIter (.ref it)) Q E s) : Turn P w K tg (Itc x) [it] it (λ i h => i <= x.cps.size /\ h.IsStrIter it ty x t i) where
 mem := by simp
 obj := λ i h st b hb => by
  have e : b = it := by simpa using hb
  subst e
  obtain ⟨_, o, e, c, d⟩ := st
  exact ⟨o, e, λ v z => by rw [d] at z; cases z⟩
 keep := λ i h h' st k => ⟨st.1, let ⟨o, e, r⟩ := st.2; ⟨o, k it (by simp) o e, r⟩⟩
 item := by
  intro X hP hw hK hc i pins s σ H E I hf st hg
  subst hP hw hK
  obtain ⟨f0, f1, f2, f3, f4, f5⟩ := hf it (by simp)
  refine (hW X.A (I.ok.hd hc)).item i s _ _ hg st.2 λ v h' tk hv st' kk => ?_
  obtain ⟨c, u, hcc, rfl⟩ := hv
  have I1 : Inv X pins σ H { s with heap := h', toks := tk } := I.turned (λ b o hb e => kk b o (by simpa using hb) e) f0 f1 f3 f4 f5
  obtain ⟨o, e, cl, d⟩ := id st'
  exact ⟨_, rfl, zlb (s := { s with heap := h', toks := tk }) e cl d hty ⟨.str ⟨#[c]⟩, H, I1, ⟨u, rfl⟩, ⟨rfl, c, hcc, rfl⟩, ⟨hg, st'⟩, λ b hb => (hf b hb).1⟩⟩
 done := by
  intro X hP hw hK hc i pins s σ H E I hf st hg
  subst hP hw hK
  obtain ⟨f0, f1, f2, f3, f4, f5⟩ := hf it (by simp)
  obtain ⟨hin, hst⟩ := st
  have : i = x.cps.size := Nat.le_antisymm hin hg
  subst this
  exact (hW X.A (I.ok.hd hc)).done s _ _ hst λ h' tk kk => ⟨rfl, I.turned (λ b o hb e => kk b o (by simpa using hb) e) f0 f1 f3 f4 f5⟩
 self := λ A i s Q E st h => by
  obtain ⟨_, hst⟩ := st
  exact hS A i s Q E hst h
section
variable {X : Cx} {tg : Expr}
def zrV (te : TE) : TI := λ σ H R => te σ H λ v H1 => ∃ x, v = .str x /\ R (Itc x) H1
theorem zrc {e : Expr} {te : TE} (he : PE X e te) : PI X tg e (zrV te) := by
 intro pins s σ H R I h
 refine thn (he pins s σ H _ I h) λ v s1 ⟨y, H1, I1, r1, q1⟩ => ?_
 obtain ⟨x, rfl, q⟩ := q1
 obtain ⟨t, rfl⟩ := r1
 have fp : ∀ b ∈ [s1.heap.objs.size], zdf X pins H1 b := λ b hb => by
  rw [zzP.mp hb]
  exact I1.fpOk (zzL _) (I1.hok.fresh (zzL _))
 cases ha : x.cps.all (· < 128)
 · exact wpAny_pyIter_wide ha ⟨s1.heap.objs.size, [s1.heap.objs.size], _, _, H1, rfl, I1.kept (t' := s1.toks) λ b o e => Heap.get?_push_of_some _ e, zik _ x t "str_iterator" (by decide) (λ A hA => Walks.strWide hA _ x t) (λ _ _ _ _ _ st h => wpAny_pyIter_striter_wide st h), ⟨Nat.zero_le _, _, Heap.get?_push_size _ rfl, rfl, rfl⟩, fp, q⟩
 · exact wpAny_pyIter_ascii ha ⟨s1.heap.objs.size, [s1.heap.objs.size], _, _, H1, rfl, I1.kept (t' := s1.toks) λ b o e => Heap.get?_push_of_some _ e, zik _ x t "str_ascii_iterator" (by decide) (λ A hA => Walks.strAscii hA _ x t) (λ _ _ _ _ _ st h => wpAny_pyIter_striter_ascii st h), ⟨Nat.zero_le _, _, Heap.get?_push_size _ rfl, rfl, rfl⟩, fp, q⟩
end
section
variable {X : Cx} {kd : KD} {tg e : Expr} {fa : EF}
def zcX (x : Str) : List It1 := x.cps.toList.map λ c => (true, .str ⟨#[c]⟩)
theorem zpe {K : zD} {F : Addr -> Prop} {H : Hp} (x : Str) : ItC K kd F H (Itc x) (zcX x) := ⟨λ H2 T k hT i => by
 have hl : (zcX x).length = x.cps.size := by unfold zcX; simp
 refine ⟨λ hi => by rw [hl] at hi; exact hi, λ hi => by rw [hl] at hi; exact hi, λ v H3 hy => ?_⟩
 obtain ⟨rfl, c, hc, rfl⟩ := hy
 refine ⟨λ _ _ z => z, λ d hd => ?_⟩
 unfold zcX at hd
 rw [zzG] at hd
 rw [show x.cps.toList[i]? = x.cps[i]? by simp, hc] at hd
 cases hd
 exact .str _⟩
def zjW (f : EF) : IF := λ as => (f as).bind λ p => match p.1 with
 | .ow (.lf _ (.str x)) => some (zcX x, p.2)
 | _ => none
theorem zjX (he : AE X kd e fa) : AIc X kd tg e (zjW fa) := by
 with_unfolding_all (
 intro pins s σ H R I h
 obtain ⟨F, B, ad, as, ds, as', Rl, e', q⟩ := h
 obtain ⟨⟨p, as1⟩, h1, e'⟩ := bS_ (show (fa as).bind _ = _ from e')
 match p, e', h1 with
 | .ow (.lf st (.str x)), e', h1 =>
  cases e'
  refine zrc he pins s σ H R I ⟨F, B, ad, as, _, as1, Rl, h1, λ v T1 ad1 H1 R1 rv1 g1 => ?_⟩
  have rp := zhi R1 rv1
  cases rp
  exact ⟨x, rfl, q _ ad1 H1 R1.drop (g1.trans (Grow.less Gw.drop)) (zpe x)⟩)
end
theorem zmc (sep : Str) (ys : List Str) : Txt.join sep ys = Str.join sep ys := StrLaws.glued_eq_join sep ys
section
variable {as : AS} {f a b : EF} {s t : Bool} {x y z : D}
theorem zpI {x : Str} (h : WD f as s (.str x)) : zjW f as = some (zcX x, as) := by
 unfold zjW; unfold WD at h
 rw [h]; rfl
theorem zjH {xs ys : List D} : slP (.lst (xs ++ ys)) none (some (xs.length : Int)) = some (.fl xs) := by
 show some (R0.fl (cutD (xs ++ ys) none (some (xs.length : Int)))) = _
 congr 2
 unfold cutD
 rw [HT.zcm, HT.zcj, zzH, Nat.min_eq_left (by omega), List.drop_zero, Nat.sub_zero, List.take_left]
end
def Itz (K : zD) (a b : Addr) : It :=
 ⟨λ i H => ∃ xs ys x y, SqL K H a xs /\ SqL K H b ys /\ xs[i]? = some x /\ ys[i]? = some y,
  λ i H v H' => ∃ T x y, H T = none /\ v = .ref T /\ H' = upd H T (.tup [x, y]) /\ (∀ xs, SqL K H a xs -> xs[i]? = some x) /\ ∀ ys, SqL K H b ys -> ys[i]? = some y,
  λ i H => ∃ xs ys, SqL K H a xs /\ SqL K H b ys /\ (xs.length <= i \/ ys.length <= i)⟩
theorem zjS {X : Cx} {pins : List (Addr × Obj)} {σ : List (Option V)} {H : Hp} {s : Shared} {h' : Heap} {t' : Nat} {ch : List Addr} (I : Inv X pins σ H s) (hf : ∀ b ∈ ch, zdf X pins H b) (k : ∀ b u, b ∉ ch -> s.heap.get? b = some u -> h'.get? b = some u) : Inv X pins σ H { s with heap := h', toks := t' } := by
 have nc : ∀ b u, H b = some u -> b ∉ ch := λ b u e z => by have := (hf b z).1; rw [e] at this; cases this
 refine I.step (g' := s.gens) (d' := s.drawn) (ch := ch) (λ b hb => ?_) (λ b o _ _ hc e _ => k b o hc e) (λ b o _ _ hc e _ => ⟨o.slots, k b o hc e⟩) (λ b o _ e n => n)
  (λ b o hc e => ⟨o, k b o hc e⟩) (λ b xs e => e) (λ b o u e => e) (λ b ps e => ⟨#[], by rw [e]; simp⟩) (λ m hm => ?_) (λ b u e => ?_) I.bare
 · obtain ⟨f0, f1, f2, f3, f4, f5⟩ := hf b hb
   exact ⟨f3, f1, f4, f5⟩
 · obtain ⟨o, es, ep, ho, r⟩ := hm
   exact ⟨o, es, ep, k _ o (λ z => (hf _ z).2.1 rfl) ho, r⟩
 · refine (I.hok b u e).stay (λ c v hc q => k c v ?_ q) (λ c q => q) λ c xs q => q
   rcases hc with z | z
   · rw [z]; exact nc b u e
   · exact nc c _ z
theorem znd {P : Program} {w : World} {K : zD} {elts : List Expr} {k : Nat} {pos : Pos} (a b z TI TO i1 i2 : Addr) (D : ZipApart z TI TO i1 i2 a b) : Turn P w K (.Tuple elts k pos) (Itz K a b) [z, TI, TO, i1, i2] z
 (λ i h => IsZip h z TI TO .none /\ IsPair h TI (.ref i1) (.ref i2) /\ (∃ p q, IsPair h TO p q) /\ h.IsListIter i1 a i /\ h.IsListIter i2 b i) where
 mem := by simp
 obj := λ i h st c hc => by
  obtain ⟨hz, hTI, ⟨p, q, hTO⟩, ⟨o1, e1, c1, d1⟩, ⟨o2, e2, c2, d2⟩⟩ := st
  simp only [zzA, List.not_mem_nil, or_false] at hc
  rcases hc with rfl | rfl | rfl | rfl | rfl
  · exact ⟨_, hz, λ v z => by cases z⟩
  · exact ⟨_, hTI, λ v z => by cases z⟩
  · exact ⟨_, hTO, λ v z => by cases z⟩
  · exact ⟨o1, e1, λ v z => by rw [d1] at z; cases z⟩
  · exact ⟨o2, e2, λ v z => by rw [d2] at z; cases z⟩
 keep := λ i h h' st kk => by
  obtain ⟨hz, hTI, ⟨p, q, hTO⟩, h1, h2⟩ := st
  exact ⟨kk z (by simp) _ hz, kk TI (by simp) _ hTI, ⟨p, q, kk TO (by simp) _ hTO⟩, h1.at λ o e => kk i1 (by simp) o e, h2.at λ o e => kk i2 (by simp) o e⟩
 item := by
  intro X hP hw hK hc i pins s σ H E I hf st hg
  subst hP hw hK
  obtain ⟨xs, ys, x, y, hq, hr, hx, hy⟩ := hg
  obtain ⟨its, rv, p, hz⟩ := I.list hq
  obtain ⟨jts, rw', p', hz'⟩ := I.list hr
  obtain ⟨u, hu, ru⟩ := rv.get hx
  obtain ⟨u', hu', ru'⟩ := rw'.get hy
  have W := WalksT.zip2 (prog := X.prog) (w := X.w) (A := X.A) (I.ok.hd hc) z TI TO i1 i2 a b D its.toArray jts.toArray
  obtain ⟨s1, s2, s3, s4, s5⟩ := st
  have hil : i < min its.toArray.size jts.toArray.size := by
   have := (zzE.mp hu).1
   have := (zzE.mp hu').1
   simp only [zzF]; omega
  refine W.item i s _ _ hil ⟨s1, s2, s3, s4, s5, p.isList, p'.isList⟩ λ T vals h1 tk hP hT hTup hMid kk => ?_
  obtain ⟨v, v', hv, hv', rfl⟩ := hP
  have e1 : v = u := by rw [show its.toArray[i]? = its[i]? by simp, hu] at hv; cases hv; rfl
  have e2 : v' = u' := by rw [show jts.toArray[i]? = jts[i]? by simp, hu'] at hv'; cases hv'; rfl
  subst e1 e2
  refine ⟨_, rfl, W.go elts k pos i T { s with heap := h1, toks := tk } _ _ hMid λ h2 hSt kk2 => ?_⟩
  have hn : H T = none := I.hok.fresh hT
  have hTw := W.apart i T h1 hMid
  have sub : ∀ c, c ∉ [z, TI, TO, i1, i2] -> c ∉ [z, TO, i1, i2] := λ c hc m => hc (by simp only [zzA, List.not_mem_nil, or_false] at m ⊢; rcases m with rfl | rfl | rfl | rfl <;> simp)
  have k2 : ∀ c o, c ∉ [z, TI, TO, i1, i2] -> s.heap.get? c = some o -> h2.get? c = some o := λ c o hb q => kk2 c o (sub c hb) (kk c o (sub c hb) q)
  have hT2 : IsTup h2 T #[v, v'] := by
   obtain ⟨o, q1, q2⟩ := hTup
   exact ⟨o, kk2 T o hTw q1, q2⟩
  obtain ⟨t1, t2, t3, t4, t5, _, _⟩ := hSt
  refine ⟨.ref T, upd H T (.tup [x, y]), zhF (s := s) (t' := tk) (ch := [z, TI, TO, i1, i2]) I hf k2 hT ⟨by show 2 <= sizeLine; decide, [v, v'], .cons ru (.cons ru' .nil), hT2⟩, rfl, ⟨T, x, y, hn, rfl, rfl, λ q hq' => by rw [I.list_inj hq' hq]; exact hx, λ q hq' => by rw [I.list_inj hq' hr]; exact hy⟩, ⟨t1, t2, t3, t4, t5⟩, λ c hc => ?_⟩
  have hcT : c ≠ T := λ e => by
   have : c < s.heap.objs.size := by
    have hob : ∀ d ∈ [z, TI, TO, i1, i2], ∃ o, s.heap.get? d = some o := λ d hd => by
     obtain ⟨pp, qq, hTO⟩ := s3
     obtain ⟨o1, e1, _⟩ := s4
     obtain ⟨o2, e2, _⟩ := s5
     simp only [zzA, List.not_mem_nil, or_false] at hd
     rcases hd with rfl | rfl | rfl | rfl | rfl
     · exact ⟨_, s1⟩
     · exact ⟨_, s2⟩
     · exact ⟨_, hTO⟩
     · exact ⟨_, e1⟩
     · exact ⟨_, e2⟩
    obtain ⟨o, ho⟩ := hob c hc
    exact Heap.lt_size ho
   rw [e] at this
   exact absurd (zzI this hT) (Nat.lt_irrefl _)
  rw [yO hcT]
  exact (hf c hc).1
 done := by
  intro X hP hw hK hc i pins s σ H E I hf st hg
  subst hP hw hK
  obtain ⟨xs, ys, hq, hr, hx⟩ := hg
  obtain ⟨its, rv, p, hz⟩ := I.list hq
  obtain ⟨jts, rw', p', hz'⟩ := I.list hr
  have hl := rv.length
  have hl' := rw'.length
  obtain ⟨s1, s2, ⟨pp, qq, s3⟩, s4, s5⟩ := st
  refine wpAny_pyNext_zip_end (I.ok.hd hc) D s1 s2 s3 s4 s5 p.isList p'.isList (hx.imp (λ h => by simp; omega) (λ h => by simp; omega)) λ h' eb => ⟨rfl, zjS (t' := s.toks) (ch := [z, TI, TO, i1, i2]) I hf λ c o hc q => eb c o ?_ ?_ ?_ ?_ q⟩ <;> (intro e; exact hc (by simp [e]))
 self := λ _ _ _ _ _ st h => wpAny_pyIter_zip st.1 h
section
variable {X : Cx} {tg : Expr}
def zsz (K : zD) (ta : TA) : TI := λ σ H R => ta σ H λ vs H1 => ∃ a b, vs = [.ref a, .ref b] /\ (∃ xs, SqL K H1 a xs) /\ (∃ ys, SqL K H1 b ys) /\ R (Itz K a b) H1
theorem zlo (I l1 l2 : Nat) (h1 : l1 < I) (h2 : l2 < I) : ZipApart (I + 4) (I + 2) (I + 3) I (I + 1) l1 l2 := by
 constructor <;> (show (_ : Nat) ≠ _; omega)
theorem zpT {l l' : Expr} {ta : TA} {p pos pos' : Pos} {elts : List Expr} {k : Nat} (hg : Gl X "zip") (hm : X.mg "zip" = none) (ha : PA X [l, l'] ta) (hs : starEach [l, l'] X.env = [(false, eval l X.env), (false, eval l' X.env)]) (hs2 : starEach [l'] X.env = [(false, eval l' X.env)]) :
 PI X (.Tuple elts k pos') (.Call (.Name "zip" p) [l, l'] [] pos) (zsz X.K ta) := by
 intro pins s σ H R I h
 refine Call_ (W8 I hg hm boot_zip (PyProof.Rows.callWith_type1 (thn (ha pos pins s σ H _ I h) λ us s1 ⟨vs, H1, I1, r1, q1⟩ => ?_) (by rw [hs, hs2]) (by rw [hs2]; rfl)))
 obtain ⟨a, b, rfl, ⟨xs, hq⟩, ⟨ys, hr⟩, q⟩ := q1
 cases r1 with
 | cons r rr =>
  cases rr with
  | cons r' rr =>
   cases rr
   cases r
   cases r'
   obtain ⟨its, rv, pl, hz⟩ := I1.list hq
   obtain ⟨jts, rw', pl', hz'⟩ := I1.list hr
   obtain ⟨o1, ho1, _⟩ := pl.isList
   obtain ⟨o2, ho2, _⟩ := pl'.isList
   refine call_zip_2 pl.isList pl'.isList λ h' hZ hTI hTO hi1 hi2 hsz hk => ?_
   refine wpAny_pyIter_zip hZ ⟨s1.heap.objs.size + 4, [s1.heap.objs.size + 4, s1.heap.objs.size + 2, s1.heap.objs.size + 3, s1.heap.objs.size, s1.heap.objs.size + 1], _, _, H1, rfl, I1.kept (t' := s1.toks) hk, znd a b _ _ _ _ _ (zlo _ _ _ (Heap.lt_size ho1) (Heap.lt_size ho2)), ⟨hZ, hTI, ⟨_, _, hTO⟩, hi1, hi2⟩, λ c hc => ?_, q⟩
   have hb' : s1.heap.objs.size <= c := by
    simp only [zzA, List.not_mem_nil, or_false] at hc
    rcases hc with rfl | rfl | rfl | rfl | rfl <;> first | exact zzL _ | exact Nat.le_add_right _ _
   exact I1.fpOk hb' (I1.hok.fresh hb')
end
section
variable {X : Cx} {kd : KD} {tg e : Expr} {fa : EF}
def VF (st : Bool) : List D -> List D -> List It1
 | x :: r, y :: t => (st, .tup [x, y]) :: VF st r t
 | _, _ => []
theorem W0 (st : Bool) : ∀ (xs ys : List D), (VF st xs ys).length = min xs.length ys.length
 | [], _ => by simp [VF]
 | _ :: _, [] => by simp [VF]
 | _ :: r, _ :: t => by simp only [VF, zzR, W0 st r t]; omega
theorem VH {st : Bool} : ∀ {xs ys : List D} {i : Nat} {y : It1}, (VF st xs ys)[i]? = some y -> ∃ d e, xs[i]? = some d /\ ys[i]? = some e /\ y = (st, .tup [d, e])
 | [], _, _, _, h => by simp [VF] at h
 | _ :: _, [], _, _, h => by simp [VF] at h
 | x :: r, y :: t, 0, z, h => by
  simp only [VF, List.getElem?_cons_zero] at h
  cases h
  exact ⟨x, y, rfl, rfl, rfl⟩
 | x :: r, y :: t, i + 1, z, h => by
  simp only [VF, List.getElem?_cons_succ] at h
  obtain ⟨d, e, h1, h2, h3⟩ := VH h
  exact ⟨d, e, by simpa using h1, by simpa using h2, h3⟩
theorem zrE {K : zD} {F B : Addr -> Prop} {ad : Ad} {H : Hp} {a b : Addr} {vs ws : List V} {st : Bool} {ds es : List D} (hs : ∀ (ad3 : Ad) (H3 : Hp), Grow (Gw [] ad) H (Gw [] ad3) H3 -> SqL K H3 a vs) (hs' : ∀ (ad3 : Ad) (H3 : Hp), Grow (Gw [] ad) H (Gw [] ad3) H3 -> SqL K H3 b ws)
 (r : RpL K kd (Lv F B (Gw [] ad) st) H vs ds) (r' : RpL K kd (Lv F B (Gw [] ad) st) H ws es) : ItOk K kd F B ad H (Itz K a b) (VF st ds es) := ⟨λ ad3 H3 g3 tr i => by
 have hr3 := hs ad3 H3 g3
 have hr4 := hs' ad3 H3 g3
 have rl3 : RpL K kd (Lv F B (Gw [] ad3) st) H3 vs ds := RpL.grow g3 r
 have rl4 : RpL K kd (Lv F B (Gw [] ad3) st) H3 ws es := RpL.grow g3 r'
 have hlen := W0 st ds es
 have l1 : vs.length = ds.length := r.length
 have l2 : ws.length = es.length := r'.length
 refine ⟨λ hi => ?_, λ hi => ⟨_, _, hr3, hr4, by omega⟩, λ v H4 hy => ?_⟩
 · obtain ⟨u, hu, _⟩ := r.get (zzC (show i < ds.length by omega))
   obtain ⟨u', hu', _⟩ := r'.get (zzC (show i < es.length by omega))
   exact ⟨_, _, u, u', hr3, hr4, hu, hu'⟩
 · obtain ⟨T, x, y, hn, rfl, rfl, hv, hv'⟩ := hy
   refine ⟨Xo hn, λ q hq => ?_⟩
   obtain ⟨d, e, hd, he, rfl⟩ := VH hq
   obtain ⟨u, hu, ru⟩ := rl3.get hd
   obtain ⟨u', hu', ru'⟩ := rl4.get he
   have := hv _ hr3
   rw [hu] at this
   cases this
   have := hv' _ hr4
   rw [hu'] at this
   cases this
   exact .tup (λ z => tr _ _ z hn) (.inl xQ) (.cons (Rp.grow ⟨λ b o q _ => Xo hn b o q, λ b z => .inl z⟩ ru) (.cons (Rp.grow ⟨λ b o q _ => Xo hn b o q, λ b z => .inl z⟩ ru') .nil))⟩
def zlA (fr : AF) : IF := λ as => (fr as).bind λ p => (zqL p.1).bind λ o => (rvL o.1).bind λ a => (rvL o.2).bind λ b => some (VF (a.1 && b.1) a.2 b.2, p.2)
theorem zkG {K : zD} {F B : Addr -> Prop} {ad : Ad} {H : Hp} {v : V} {st q : Bool} {ds : List D} (rp : Rp K kd (Lv F B (Gw [] ad) st) H v (.lst ds)) (hq : q = true -> st = true) : ∃ a vs, v = .ref a /\ (∀ (ad3 : Ad) (H3 : Hp), Grow (Gw [] ad) H (Gw [] ad3) H3 -> SqL K H3 a vs) /\ RpL K kd (Lv F B (Gw [] ad) q) H vs ds := by
 have le : ∀ a, Lv F B (Gw [] ad) q a -> Lv F B (Gw [] ad) st a := λ a z => z.imp (λ y => y.imp (λ x => ⟨hq x.1, x.2⟩) id) id
 cases rp with
 | lst hn hr rl => exact ⟨_, _, rfl, λ ad3 H3 g3 => .inl (zaN g3 (λ z => hn (.inr z)) hr), rl.less le⟩
 | lstK a b c rl => exact ⟨_, _, rfl, λ ad3 H3 g3 => .inr ⟨_, _, _, a, rfl, rfl, rfl, b, c⟩, rl.less le⟩
theorem zjj {l l' : Expr} {fr : AF} {p pos pos' : Pos} {elts : List Expr} {k : Nat} (hg : Gl X "zip") (hm : X.mg "zip" = none) (ha : AA X kd [l, l'] fr) (hs : starEach [l, l'] X.env = [(false, eval l X.env), (false, eval l' X.env)]) (hs2 : starEach [l'] X.env = [(false, eval l' X.env)]) :
 AI X kd (.Tuple elts k pos') (.Call (.Name "zip" p) [l, l'] [] pos) (zlA fr) := by
 with_unfolding_all (
 intro pins s σ H R I h
 obtain ⟨F, B, ad, as, ds, as', Rl, e', q⟩ := h
 obtain ⟨⟨rs, as1⟩, h1, e'⟩ := bS_ (show (fr as).bind _ = _ from e')
 obtain ⟨⟨o1, o2⟩, e1, e'⟩ := bS_ e'
 obtain ⟨⟨s1, d1⟩, e2, e'⟩ := bS_ e'
 obtain ⟨⟨s2, d2⟩, e3, e'⟩ := bS_ e'
 cases zkT e1
 cases znb e2
 cases znb e3
 · cases e'
   refine zpT hg hm ha hs hs2 pins s σ H R I ⟨F, B, ad, as, _, as1, Rl, h1, λ vs ad1 H1 R1 rv1 g1 => ?_⟩
   cases rv1 with
   | cons r1 rr =>
    cases rr with
    | cons r2 rr =>
     cases rr
     cases r1 with
     | lf rp1 =>
      cases r2 with
      | lf rp2 =>
       obtain ⟨a, vs, rfl, ha, ra⟩ := zkG (q := s1 && s2) rp1 (λ z => (Bool.and_eq_true_iff.mp z).1)
       obtain ⟨b, ws, rfl, hb, rb⟩ := zkG (q := s1 && s2) rp2 (λ z => (Bool.and_eq_true_iff.mp z).2)
       exact ⟨a, b, rfl, ⟨_, ha _ _ Grow.refl⟩, ⟨_, hb _ _ Grow.refl⟩, q _ ad1 H1 R1 g1 (zrE ha hb ra rb)⟩)
end
def insI (x : Int) : List Int -> List Int
 | [] => [x]
 | y :: r => if x <= y then x :: y :: r else y :: insI x r
def sortI : List Int -> List Int
 | [] => []
 | x :: r => insI x (sortI r)
theorem insI_perm (x : Int) : ∀ l : List Int, (insI x l).Perm (x :: l)
 | [] => List.Perm.refl _
 | y :: r => by
  unfold insI
  split
  · exact List.Perm.refl _
  · exact ((insI_perm x r).cons y).trans (List.Perm.swap x y r)
theorem sortI_perm : ∀ l : List Int, (sortI l).Perm l
 | [] => List.Perm.refl _
 | x :: r => (insI_perm x (sortI r)).trans ((sortI_perm r).cons x)
theorem zdr (x : Int) : ∀ l : List Int, l.Pairwise (· <= ·) -> (insI x l).Pairwise (· <= ·)
 | [], _ => by simp [insI]
 | y :: r, h => by
  unfold insI
  rw [List.pairwise_cons] at h
  split
  · rename_i hxy
    rw [List.pairwise_cons, List.pairwise_cons]
    refine ⟨λ z hz => ?_, h⟩
    rcases zzA.mp hz with rfl | hz
    · exact hxy
    · exact Int.le_trans hxy (h.1 z hz)
  · rename_i hxy
    rw [List.pairwise_cons]
    refine ⟨λ z hz => ?_, zdr x r h.2⟩
    rcases zzA.mp ((insI_perm x r).mem_iff.mp hz) with rfl | hz
    · omega
    · exact h.1 z hz
theorem zcr : ∀ l : List Int, (sortI l).Pairwise (· <= ·)
 | [] => List.Pairwise.nil
 | x :: r => zdr x _ (zcr r)
theorem zgE : ∀ (a b : List Int), a.Perm b -> a.Pairwise (· <= ·) -> b.Pairwise (· <= ·) -> a = b
 | [], b, p, _, _ => by rw [List.nil_perm] at p; exact p.symm
 | x :: r, [], p, _, _ => by rw [List.perm_nil] at p; cases p
 | x :: r, y :: t, p, ha, hb => by
  rw [List.pairwise_cons] at ha hb
  have hxy : x = y := by
   have h1 : x ∈ y :: t := p.mem_iff.mp (zzD ..)
   have h2 : y ∈ x :: r := p.mem_iff.mpr (zzD ..)
   rcases zzA.mp h1 with e | e
   · exact e
   · rcases zzA.mp h2 with e' | e'
     · exact e'.symm
     · have := hb.1 x e
       have := ha.1 y e'
       omega
  subst hxy
  rw [zgE r t (List.Perm.cons_inv p) ha.2 hb.2]
theorem ints_of {K : zD} {kd : KD} {O : Addr -> Prop} {H : Hp} {vs : List V} {us : List Value} {ds : List D} {ns : List Int} (h : RpL K kd O H vs ds) (hv : Vals vs us) (e : Vz ds = some ns) : IntsAre us ns :=
 RpL.ind (P := λ vs ds => ∀ us ns, Vals vs us -> Vz ds = some ns -> IntsAre us ns) (λ us ns hv e => by cases e; cases hv; exact .nil) (λ {v d vs ds} a _ ih us ns hv e => by
  cases hv with
  | cons b t =>
   cases a with
   | int x =>
    obtain ⟨ys, h1, h2⟩ := bS_ (show (Vz _).bind _ = _ from e)
    cases h2
    obtain ⟨tk, rfl⟩ := b
    exact .cons _ _ (ih _ _ t h1)
   | _ => cases e) h us ns hv e
theorem WQ : ∀ {us : List Value} {ns : List Int}, IntsAre us ns -> Vals (ns.map V.int) us
 | _, _, .nil => .nil
 | _, _, .cons n t r => .cons ⟨t, rfl⟩ (WQ r)
theorem zhY {K : zD} {kd : KD} {O : Addr -> Prop} {H : Hp} : ∀ ns : List Int, RpL K kd O H (ns.map V.int) (ns.map D.int)
 | [] => .nil
 | y :: r => .cons (.int y) (zhY r)
def zmx : List D -> Option R0 := on1 λ x => (asL x).bind λ ds => (Vz ds).bind λ ns => if ns.length < 64 then some (.fl ((sortI ns).map .int)) else none
section
variable {X : Cx} {kd : KD}
theorem zkg : CallD X kd (.builtin "sorted") zmx := by
 intro pins s σ H xs us Q I r h
 obtain ⟨O, ds, z, ht, vl, he, q⟩ := h
 obtain ⟨x, d, rfl, vx, he⟩ := zde vl he
 obtain ⟨ds, h0, he2⟩ := bS_ (show (asL d).bind _ = _ from he)
 cases zcF h0
 · obtain ⟨ns, h1, he⟩ := bS_ he2
   obtain ⟨hz, he⟩ := yD he
   cases he
   cases vx with
   | lst hr rl =>
    obtain ⟨u, rfl, ru⟩ := vals1 r
    cases ru
    obtain ⟨its, rv, pl, _⟩ := I.list hr.sq
    have hI := ints_of rl rv h1
    have hl := hI.length
    refine sorted_ints pl.isList hI (by omega) λ out ns' a1 a2 a3 => ?_
    have e : ns' = sortI ns := zgE _ _ (a2.trans (sortI_perm ns).symm) a3 (zcr ns)
    subst e
    obtain ⟨ee, hob⟩ := sortedAll_at s.heap its out
    have hn : H (s.heap.objs.size + 1) = none := I.hok.fresh (Nat.le_succ _)
    refine ⟨.ref (s.heap.objs.size + 1), _, I.laid (t' := s.toks) (λ b o e => sortedAll_old e) (Nat.le_succ _) (show ZC X.prog X.w _ _ _ (.lst ((sortI ns).map V.int)) from ⟨?_, out.toList, ee, WQ a1, by simpa [seqObj] using hob⟩), rfl, zdh q (zhY _) _ hn⟩
    rw [zI, (sortI_perm ns).length_eq]
    exact Nat.le_of_lt (Yp (by omega))
end
def zgf (f : D -> Option Bool) : List D -> Option Nat
 | [] => none
 | x :: r => (f x).bind λ b => if b = true then (anyF f r).bind λ _ => some 0 else (zgf f r).bind λ j => some (j + 1)
def zau (d : D) : List D -> Option R0 := on1 λ x => (asL d).bind λ ds => (zgf (λ y => eqF 50 y x) ds).bind λ j => if ds.length <= 1000 then some (.im (.int j)) else none
theorem ziA {f : D -> Option Bool} : ∀ {ds : List D} {j : Nat}, zgf f ds = some j -> ∀ d ∈ ds, ∃ c, f d = some c
 | [], _, h, _, m => nomatch m
 | x :: r, j, h, d, m => by
  obtain ⟨b, h1, h⟩ := bS_ (show (f x).bind _ = _ from h)
  rcases zzA.mp m with rfl | m
  · exact ⟨b, h1⟩
  · cases b with
    | true =>
     obtain ⟨c, h2, _⟩ := bS_ (show (anyF f r).bind _ = _ from h)
     exact WR h2 d m
    | false =>
     obtain ⟨k, h2, _⟩ := bS_ (show (zgf f r).bind _ = _ from h)
     exact ziA h2 d m
section
variable {X : Cx} {kd : KD} {pins : List (Addr × Obj)} {σ : St} {H : Hp} {s : Shared} {O : Addr -> Prop}
theorem zop (I : Inv X pins σ H s) (hk : KdOk X kd) {n : Nat} {x : D} {vs : List V} {us : List Value} {ds : List D} {j : Nat} (hv : Vals vs us) (h : RpL X.K kd O H vs ds) (e : zgf (λ y => eqF n y x) ds = some j) : ∃ h : j < us.length, eqW X.K kd O H n x us[j] = true /\ ∀ m (hm : m < us.length), m < j -> eqW X.K kd O H n x us[m] = false :=
 RpL.ind (P := λ vs ds => ∀ us j, Vals vs us -> zgf (λ y => eqF n y x) ds = some j -> ∃ h : j < us.length, eqW X.K kd O H n x us[j] = true /\ ∀ m (hm : m < us.length), m < j -> eqW X.K kd O H n x us[m] = false) (λ us j hv e => by cases e) (λ {v d vs ds} a _ ih us j hv h => by
  cases hv with
  | cons r t =>
   obtain ⟨b, h1, h⟩ := bS_ (show (eqF n _ x).bind _ = _ from h)
   cases b with
   | true =>
    obtain ⟨c, h2, h3⟩ := bS_ (show (anyF _ _).bind _ = _ from h)
    cases h3
    exact ⟨by simp, zhj I hk r a h1, λ m hm hlt => by omega⟩
   | false =>
    obtain ⟨k, h2, h3⟩ := bS_ (show (zgf _ _).bind _ = _ from h)
    cases h3
    obtain ⟨hk', e1, e2⟩ := ih _ _ t h2
    refine ⟨by simpa using hk', by simpa using e1, λ m hm hlt => ?_⟩
    cases m with
    | zero => exact zhj I hk r a h1
    | succ m => simpa using e2 m (by simpa using hm) (by omega)) h us j hv e
theorem zix (hk : KdOk X kd) (hu : X.A.units + 100 < cLine) : MtD X kd "list.index" zau := by
 intro pins s σ H x xs v us Q I rx r h
 obtain ⟨O, d, ds, r0, ht, vx, vl, he, q⟩ := h
 obtain ⟨y', y, rfl, vy, he⟩ := zde vl he
 obtain ⟨es, h0, he2⟩ := bS_ (show (asL d).bind _ = _ from he)
 cases zcF h0
 · obtain ⟨j, h1, he⟩ := bS_ he2
   obtain ⟨hz, he⟩ := yD he
   cases he
   obtain ⟨u, rfl, ru⟩ := vals1 r
   cases vx with
   | lst hr rl =>
    cases rx
    obtain ⟨its, rv, pl, _⟩ := I.list hr.sq
    obtain ⟨⟨cls, dd, data, sl⟩, ho, hc, n, hd⟩ := pl.isList
    simp only at hc hd
    subst hc hd
    obtain ⟨hj, e1, e2⟩ := zop I hk rv rl h1
    have hlen := rv.length
    have hlen2 := rl.length
    refine call_meets PySem.F.slot_list_index ⟨_, ho, rfl⟩ PySem.F.entry_list_index (PySem.F.args_list_index_2 _ _)
     (SeqAt.list_indexAt _ its.toArray n dd sl _ (eqW X.K kd O H 50 y) j (by simpa using hj) (by omega) (by simpa using e1) (λ m hm hlt => by simpa using e2 m (by simpa using hm) hlt))
     ⟨ho, λ w hw => zcg I hk (by show X.A.units + 1 + 50 < cLine; omega) vy ru rv rl (ziA h1) w (by simpa using hw), ⟨.int j, H, I.tok _, ⟨_, rfl⟩, xj q (.int _)⟩⟩
end
theorem zdk : ∀ {vs : List V} {us : List Value}, vs.length = us.length -> (∀ (i : Nat) v u, vs[i]? = some v -> us[i]? = some u -> RelV v u) -> Vals vs us
 | [], [], _, _ => .nil
 | [], _ :: _, h, _ => by simp at h
 | _ :: _, [], h, _ => by simp at h
 | v :: vs, u :: us, h, k => .cons (k 0 v u rfl rfl) (zdk (by simpa using h) λ i a b x y => k (i + 1) a b (by simpa using x) (by simpa using y))
section
variable {X : Cx} {tg : Expr}
def zsw (ta : TA) : TE := λ σ H Q => ta σ H λ vs H1 => ∃ j : Int, vs = [.int j] /\ -(2 ^ 62) <= j /\ j < 2 ^ 62 /\ ∀ r, H1 r = none -> Q (.ref r) (upd H1 r (.rng 0 j))
theorem zml {a : Expr} {ta : TA} {p pos : Pos} (hg : Gl X "range") (hm : X.mg "range" = none) (ha : PA X [a] ta) (hs : starEach [a] X.env = [(false, eval a X.env)]) : PE X (.Call (.Name "range" p) [a] [] pos) (zsw ta) := by
 intro pins s σ H Q I h
 refine Call_ (W8 I hg hm boot_range (PyProof.Rows.callWith_type1 (thn (ha pos pins s σ H _ I h) λ us s1 ⟨vs, H1, I1, r1, q1⟩ => ?_) hs rfl))
 obtain ⟨j, e, b1, b2, q⟩ := q1
 subst e
 cases r1 with
 | cons r rr =>
  cases rr
  obtain ⟨t, rfl⟩ := r
  exact call_range_1 ⟨.ref s1.heap.objs.size, _, I1.laid (λ b o e => Heap.get?_push_of_some _ e) (zzL _) (show ZC X.prog X.w _ _ _ (.rng 0 j) from ⟨_, _, _, Heap.get?_push_size _ rfl⟩), rfl, q _ (I1.hok.fresh (zzL _))⟩
def tLR (ta : TA) : TE := λ σ H Q => zpE (zsw ta) zsA σ H λ vs H2 => ∃ r H1, ∃ j : Int, vs = [.ref r] /\ H1 r = none /\ H2 = upd H1 r (.rng 0 j) /\ 0 <= j /\ j <= 100000 /\ ∀ l, H2 l = none -> Q (.ref l) (upd H2 l (.lst ((List.range j.toNat).map λ (i : Nat) => V.int i)))
theorem zlO {a : Expr} {ta : TA} {p p' pos pos' : Pos} (hc : X.calm = true) (hg : Gl X "range") (hm : X.mg "range" = none) (hgl : Gl X "list") (hml : X.mg "list" = none) (ha : PA X [a] ta) (hs : starEach [a] X.env = [(false, eval a X.env)])
 (hs' : starEach [.Call (.Name "range" p) [a] [] pos] X.env = [(false, eval (.Call (.Name "range" p) [a] [] pos) X.env)]) : PE X (.Call (.Name "list" p') [.Call (.Name "range" p) [a] [] pos] [] pos') (tLR ta) := by
 intro pins s σ H Q I h
 refine Call_ (W8 I hgl hml Bt.list (PyProof.Rows.callWith_type1 (thn ((zbX (zml hg hm ha hs) zhb hs') pos' pins s σ H (λ vs H2 => ∃ r H1, ∃ j : Int, vs = [.ref r] /\ H1 r = none /\ H2 = upd H1 r (.rng 0 j) /\ 0 <= j /\ j <= 100000 /\ ∀ l, H2 l = none -> Q (.ref l) (upd H2 l (.lst ((List.range j.toNat).map λ (i : Nat) => V.int i)))) I ?_) λ us s1 ⟨vs, H2, I2, r1, q1⟩ => ?_) hs' rfl))
 · exact h
 obtain ⟨r, H1, j, rfl, hn, rfl, h0, h1, q⟩ := q1
 cases r1 with
 | cons rr rs =>
  cases rs
  cases rr
  obtain ⟨t, u, v, ho⟩ := I2.hok r _ (xQ ..)
  have hsz : Builtin.Range.rangeSize 0 j 1 = (j.toNat : Nat) := by rw [rangeSize_one]; split <;> omega
  refine call_list_range (I2.ok.hd hc) ho (small_one (by omega) (by omega) (by omega) (by omega)) (n := j.toNat) (by exact_mod_cast hsz) (by omega) λ h' tk acc c' hk hob hit => ?_
  refine ⟨.ref s1.heap.objs.size, _, I2.laid hk (zzL _) (show ZC X.prog X.w _ _ _ (.lst ((List.range j.toNat).map λ (i : Nat) => V.int i)) from ⟨?_, acc.toList, c', ?_, by simpa using hob⟩), rfl, q _ (I2.hok.fresh (zzL _))⟩
  · rw [zI, List.length_range]; exact zzM (show j.toNat <= 100000 by omega) (by decide)
  · refine zdk (by rw [zI, List.length_range]; simpa using hit.1.symm) λ i x y hx hy => ?_
    rw [zzG] at hx
    obtain ⟨tk', e⟩ := hit.2 i y (by simpa using hy)
    cases hr : (List.range j.toNat)[i]? with
    | none => rw [hr] at hx; cases hx
    | some k =>
     rw [hr] at hx
     obtain ⟨_, hk'⟩ := zzE.mp hr
     rw [List.getElem_range] at hk'
     subst hk'
     cases hx
     exact ⟨tk', by rw [e]; simp⟩
end
section
variable {X : Cx} {kd : KD}
def lrP : List D -> Option R0
 | [.int j] => if 0 <= j /\ j <= 100000 then some (.fl ((List.range j.toNat).map λ (i : Nat) => .int i)) else none
 | _ => none
theorem zkM {K : zD} {O : Addr -> Prop} {H : Hp} : ∀ l : List Nat, RpL K kd O H (l.map λ (i : Nat) => V.int i) (l.map λ (i : Nat) => D.int i)
 | [] => .nil
 | y :: r => .cons (.int y) (zkM r)
theorem zgO {a : Expr} {fr : AF} {p p' pos pos' : Pos} (hc : X.calm = true) (hg : Gl X "range") (hm : X.mg "range" = none) (hgl : Gl X "list") (hml : X.mg "list" = none) (ha : AA X kd [a] fr) (hs : starEach [a] X.env = [(false, eval a X.env)])
 (hs' : starEach [.Call (.Name "range" p) [a] [] pos] X.env = [(false, eval (.Call (.Name "range" p) [a] [] pos) X.env)]) : AE X kd (.Call (.Name "list" p') [.Call (.Name "range" p) [a] [] pos] [] pos') (fP fr lrP) := by
 with_unfolding_all exact (wU (zlO hc hg hm hgl hml ha hs hs') λ σ H Q h => by
  obtain ⟨F, B, ad, as, r, as', R, e, q⟩ := h
  obtain ⟨⟨rs, as1⟩, h1, e⟩ := bS_ (show (fr as).bind _ = _ from e)
  obtain ⟨⟨ds, lv⟩, h2, e⟩ := bS_ e
  obtain ⟨r0, h3, e⟩ := bS_ e
  obtain ⟨z, h4, e⟩ := bS_ e
  cases e
  match ds, h3, h2 with
  | [.int j], h3, h2 =>
   obtain ⟨⟨b1, b2⟩, e3⟩ := yD (show (if 0 <= j /\ j <= 100000 then some (R0.fl ((List.range j.toNat).map λ (i : Nat) => .int i)) else none) = some r0 from h3)
   cases e3
   refine (show alA X.K kd fr σ H _ from ⟨F, B, ad, as, rs, as1, R, h1, λ vs ad1 H1 R1 rv1 g1 => ?_⟩)
   have vl := zaG R1 rv1 h2
   have rq := Xg R1 h4 (Q := Q) λ w T' H' R' rv' g' => q w T' ad1 H' R' rv' (g1.trans g')
   cases vl with
   | cons v1 v2 =>
    cases v2
    cases v1
    refine ⟨j, rfl, by omega, by omega, λ r hr => ⟨r, H1, j, rfl, hr, rfl, b1, b2, λ l hl => ?_⟩⟩
    have hlr : l ≠ r := λ e => by rw [e, xQ] at hl; cases hl
    have hl1 : H1 l = none := by rw [yO hlr] at hl; exact hl
    exact rq l _ _ hl1 (λ b o q => Xo hl b o (Xo hr b o q)) xQ (zkM _))
end
theorem zoj {L : Bool -> V -> D -> Prop} {N : Addr -> Prop} {H : Hp} {vs : List V} {ls : List O} {fp : List Addr} (h : RoL L N H vs ls fp) : vs.length = ls.length := RoL.length h
def zqn (i : Nat) (f : SF) : SF := λ as => match as[i]? with
 | some (some o) => f (as.set i (some o.frz))
 | _ => none
theorem znL {K : zD} {kd : KD} {F B : Addr -> Prop} {ad : Ad} {i : Nat} {H : Hp} {D : Ends} : ∀ {o : Out}, zgC K kd F B ad H D o -> zgC K kd F B (Wh ad i []) H D o
 | .nx _, q => λ σ' ad' H' R g => q σ' ad' H' R ((Grow.less wY).trans g)
 | .ct _, q => λ σ' ad' H' R g => q σ' ad' H' R ((Grow.less wY).trans g)
 | .bk _, q => λ σ' ad' H' R g => q σ' ad' H' R ((Grow.less wY).trans g)
 | .rt _, q => λ v T H' ro g => q v T H' ro ((Grow.less wY).trans g)
theorem zpm {X : Cx} {kd : KD} {i : Nat} {body : List Stmt} {f : SF} (h : ASs X kd body f) : ASs X kd body (zqn i f) := by
 with_unfolding_all exact (zhR h λ D σ H h => by
  obtain ⟨F, B, ad, as, o, R, e, q⟩ := h
  unfold zqn at e
  cases k : as[i]? with
  | none => rw [k] at e; cases e
  | some s =>
   rw [k] at e
   cases s with
   | none => cases e
   | some oo =>
    exact ⟨F, B, Wh ad i [], _, o, (R.frz k).1, e, znL q⟩)
section
variable {K : zD} {kd : KD} {F B G : Addr -> Prop} {H : Hp}
theorem zjb {p : Addr} {u : HO} (hp : G p) : Grow G H G (upd H p u) := ⟨λ b w h n => by rw [yO (λ e => n (by subst e; exact hp))]; exact h, λ b z => .inl z⟩
theorem zgy {L : Bool -> V -> D -> Prop} {N : Addr -> Prop} {v : V} {st' : Bool} {d' : D} (h : L st' v d') : ∀ (os : List O) {vs : List V} {fp : List Addr} {n : Nat} {st : Bool} {d : D}, RoL L N H vs os fp -> os[n]? = some (.lf st d) -> RoL L N H (vs.set n v) (os.set n (.lf st' d')) fp
 | [], _, _, _, _, _, _, e => by simp at e
 | o1 :: os, _, _, n, st, d, r, e => by
  cases r with
  | cons a r =>
   cases n with
   | zero =>
    simp at e
    subst e
    cases a with
    | lf _ => exact .cons (.lf h) r
   | succ n => exact .cons a (zgy h os (n := n) (st := st) (d := d) r (by simpa using e))
theorem zoE {v : V} {inner : List O} {fp : List Addr} {n : Nat} {st : Bool} {d : D} (c : Int) (r : RoS K kd F B G H v (.nd .ls inner) fp) (hn : fp.Nodup) (hG : ∀ a ∈ fp, G a) (e : inner[n]? = some (.lf st d)) :
 ∃ p ivs, v = .ref p /\ p ∈ fp /\ H p = some (.lst ivs) /\ n < ivs.length /\ RoS K kd F B G (upd H p (.lst (ivs.set n (.int c)))) v (.nd .ls (inner.set n (.lf true (.int c)))) fp := by
 cases r with
 | ls hp ir =>
  rename_i p ivs ifp
  have hpfp : p ∉ ifp := (zzU.mp hn).1
  refine ⟨p, ivs, rfl, zzD .., hp, by rw [zoj ir]; exact (zzE.mp e).1, .ls xQ (zgy (.int c) inner (WW.grow (zjb (hG p (zzD ..))) (λ x m w h => by rw [yO (λ e => hpfp (by subst e; exact m))]; exact h) ir) e)⟩
end
section
variable {K : zD} {kd : KD} {F B : Addr -> Prop} {ad : Ad} {as : AS} {σ : St} {H : Hp} {i : Nat} {o : O}
theorem Rel.slotU (R : Rel K kd F B [] ad as σ H) (k : as[i]? = some (some o)) :
 ∃ v, σ[i]? = some (some v) /\ RoS K kd F B (Gw [] ad) H v o (ad i) /\ (ad i).Nodup /\ (∀ a ∈ ad i, Gw [] ad a) /\
  ∀ (p : Addr) (u : HO) (o' : O), p ∈ ad i -> RoS K kd F B (Gw [] ad) (upd H p u) v o' (ad i) -> Rel K kd F B [] ad (as.set i (some o')) σ (upd H p u) /\ Grow (Gw [] ad) H (Gw [] ad) (upd H p u) := by
 obtain ⟨v, hv, ro⟩ := R.sl i _ k
 have hi : i < as.length := (zzE.mp k).1
 refine ⟨v, hv, ro, R.nd i, λ a m => .inr ⟨i, m⟩, λ p u o' hp ro' => ?_⟩
 have g : Grow (Gw [] ad) H (Gw [] ad) (upd H p u) := zjb (.inr ⟨i, hp⟩)
 have kn : ∀ a, H a ≠ none -> upd H p u a ≠ none := λ a z => by
  by_cases e : a = p
  · subst e; rw [xQ]; simp
  · rw [yO e]; exact z
 refine ⟨⟨by rw [zzS]; exact R.len, λ j hj => R.out j (by rw [zzS] at hj; exact hj), R.nd, R.inj, R.tnd, R.dis, λ a z => kn a (R.ftr a z), λ a z => ⟨kn a (R.btr a z).1, (R.btr a z).2⟩, λ a z => ⟨kn a (R.gtr a z).1, (R.gtr a z).2⟩, λ j s e => ?_⟩, g⟩
 by_cases q : j = i
 · subst q
   rw [List.getElem?_set_self hi] at e
   cases e
   exact ⟨v, hv, ro'⟩
 · rw [zzW (Ne.symm q)] at e
   exact (R.sl j s e).grow g λ a m u h => by rw [yO (λ e => q (R.inj j i a m (by rw [e]; exact hp)))]; exact h
end
abbrev IXF := AS -> Option Int
def tSt (K : zD) (kd : KD) (f : IXF) : TE := λ σ H Q => ∃ F B ad as k, Rel K kd F B [] ad as σ H /\ f as = some k /\ Q (.int k) H
@[irreducible] def AK (X : Cx) (kd : KD) (e : Expr) (f : IXF) : Prop := PE X e (tSt X.K kd f)
def xC (c : Int) : IXF := λ _ => some c
def zrb : O -> Option (List O)
 | .nd .ls os => some os
 | _ => none
def zqV : O -> Option D
 | .lf _ d => some d
 | _ => none
def atO {α : Type} (f : O -> Option α) (os : List O) (k : Nat) : Option α := os[k]?.bind f
def slO {α : Type} (f : O -> Option α) (as : AS) (i : Nat) : Option α := as[i]?.bind λ s => s.bind f
theorem zoD {o : O} {os : List O} (h : zrb o = some os) : o = .nd .ls os := by
 cases o with
 | lf s d => cases h
 | nd k os => cases k <;> cases h; rfl
theorem zoJ {o : O} {d : D} (h : zqV o = some d) : ∃ st, o = .lf st d := by
 cases o with
 | lf s d => cases h; exact ⟨s, rfl⟩
 | nd k os => cases h
theorem zre {α : Type} {f : O -> Option α} {os : List O} {k : Nat} {a : α} (h : atO f os k = some a) : ∃ o, os[k]? = some o /\ f o = some a := bS_ h
theorem zqB {α : Type} {f : O -> Option α} {as : AS} {k : Nat} {a : α} (h : slO f as k = some a) : ∃ o, as[k]? = some (some o) /\ f o = some a := by
 obtain ⟨s, h1, h⟩ := bS_ h
 obtain ⟨o, rfl, h⟩ := bS_ h
 exact ⟨o, h1, h⟩
theorem ztx {os : List O} {d : D} {k : Nat} (h : atO zqV os k = some d) : ∃ st, os[k]? = some (.lf st d) := by
 obtain ⟨o, h1, h⟩ := zre h
 obtain ⟨st, rfl⟩ := zoJ h
 exact ⟨st, h1⟩
theorem ztB {as : AS} {inner : List O} {k : Nat} (h : slO zrb as k = some inner) : as[k]? = some (some (.nd .ls inner)) := by
 obtain ⟨o, h1, h⟩ := zqB h
 cases zoD h
 exact h1
section
variable {X : Cx} {kd : KD} {f g : IXF} {a b : Expr}
theorem zmn {c : Int} {j pos} : AK X kd (.Constant (.int c) j pos) (xC c) := by
 with_unfolding_all exact (wU zmH λ σ H Q h => by
  obtain ⟨F, B, ad, as, k, R, e, q⟩ := h
  cases e
  exact q)
end
def znw (i : Nat) (f fv : IXF) : SF := λ as => (f as).bind λ k => (fv as).bind λ c => if 0 <= k then (slO zrb as i).bind λ os => (atO zqV os k.toNat).bind λ _ => some (.nx (as.set i (some (.nd .ls (os.set k.toNat (.lf true (.int c))))))) else none
theorem zou {n j : Nat} (h : j < n) : ixN n (j : Int) = some j := by
 unfold ixN
 rw [if_pos (by omega), if_pos (by omega)]; simp
theorem zpc {n : Nat} {k : Int} (h0 : 0 <= k) (h : k.toNat < n) : ixN n k = some k.toNat := by
 have := zou h
 rw [show ((k.toNat : Nat) : Int) = k by omega] at this
 exact this
section
variable {X : Cx} {kd : KD} {f f1 f2 f3 fv : IXF} {e1 e2 e3 ev : Expr} {i y : Nat}
theorem zoy {x : Str} {p tpos pos : Pos} (ho : PE X (.Name x p) (zlt i)) (h1 : AK X kd e1 f) (hv : AK X kd ev fv)
 (ha : ∀ v, assign (.Subscript (.Name x p) e1 tpos) X.env v = (do
  let ov <- holding [v] (eval (.Name x p) X.env)
  let iv <- holding [v, ov] (eval e1 X.env)
  standAt tpos
  holding [v, ov, iv] (setItem ov iv v)
  release [v, ov, iv] []))
 (hs : swapsWithSole [.Subscript (.Name x p) e1 tpos] ev pos.line X.env = pure false) (hw : swappedStores [.Subscript (.Name x p) e1 tpos] ev X.env = pure none)
 (hm : (assignEach [.Subscript (.Name x p) e1 tpos] X.env).map (·.2) = [assign (.Subscript (.Name x p) e1 tpos) X.env]) :
 ASt X kd (.Assign [.Subscript (.Name x p) e1 tpos] ev pos) (znw i f fv) := by
 with_unfolding_all exact (Wl (zmg hv (zrh ho h1 set_list ha) hs hw hm) λ D σ H h => by
  obtain ⟨F, B, ad, as, o, R, e, q⟩ := h
  obtain ⟨k, j1, e⟩ := bS_ (show (f as).bind _ = _ from e)
  obtain ⟨c, j2, e⟩ := bS_ e
  obtain ⟨hk, e⟩ := ite_some' e
  obtain ⟨os, e1, e⟩ := bS_ e
  obtain ⟨d, e2, e⟩ := bS_ e
  have k1 := ztB e1
  obtain ⟨st, k2⟩ := ztx e2
  cases e
  obtain ⟨v, sv, ro, hn, hG, up⟩ := R.slotU k1
  obtain ⟨p, ivs, rfl, hp, hH, hl, ro'⟩ := zoE c ro hn hG k2
  obtain ⟨R2, g2⟩ := up p _ _ hp ro'
  exact ⟨F, B, ad, as, c, R, j2, _, sv, F, B, ad, as, k, R, j1, p, ivs, k, k.toNat, rfl, rfl, hH, zpc hk hl, q σ ad _ R2 g2⟩)
end
section
variable {X : Cx} {kd : KD}
theorem zrv : SlR X (λ x lo hi H Q => ∃ z, x = .str z /\ z.length <= sizeLine /\ Q (.str (Txt.slice z lo hi)) H) := by
 intro pins s σ H x v vl vu lo hi sl Q I rx hs pl pu h
 obtain ⟨z, rfl, hz, q⟩ := h
 obtain ⟨t, rfl⟩ := rx
 refine ⟨"str", _, F.slot_str_getitem.lookup, typeIs_str _ _ _, ?_⟩
 cases pl with
 | none =>
  cases pu with
  | none => exact wpAny_getItem_str_slice (l := none) (u := none) (st := none) hs rfl (post_val_or_str ⟨zzM (Txt.slice_le z _ _) hz, λ t' k => ⟨.str _, H, I.kept (λ _ _ e => e), ⟨_, rfl⟩, q⟩⟩)
  | int j uj => exact wpAny_getItem_str_slice (l := none) (u := some (j, uj)) (st := none) hs rfl (post_val_or_str ⟨zzM (Txt.slice_le z _ _) hz, λ t' k => ⟨.str _, H, I.kept (λ _ _ e => e), ⟨_, rfl⟩, q⟩⟩)
 | int i ui =>
  cases pu with
  | none => exact wpAny_getItem_str_slice (l := some (i, ui)) (u := none) (st := none) hs rfl (post_val_or_str ⟨zzM (Txt.slice_le z _ _) hz, λ t' k => ⟨.str _, H, I.kept (λ _ _ e => e), ⟨_, rfl⟩, q⟩⟩)
  | int j uj => exact wpAny_getItem_str_slice (l := some (i, ui)) (u := some (j, uj)) (st := none) hs rfl (post_val_or_str ⟨zzM (Txt.slice_le z _ _) hz, λ t' k => ⟨.str _, H, I.kept (λ _ _ e => e), ⟨_, rfl⟩, q⟩⟩)
def slS : D -> Option Int -> Option Int -> Option R0
 | .str z, lo, hi => if z.length <= sizeLine then some (.im (.str (Txt.slice z lo hi))) else none
 | _, _, _ => none
theorem zrN : SlR X (λ x lo hi H Q => ∃ O d r, (∀ a, O a -> H a ≠ none) /\ Vw X.K kd O H x d /\ slS d lo hi = some r /\ RQ X.K kd O H Q r) := by
 intro pins s σ H x v vl vu lo hi sl Q I rx hs pl pu h
 obtain ⟨O, d, r, ht, vx, he, q⟩ := h
 unfold slS at he
 split at he
 · obtain ⟨c, rfl⟩ := yD he
   cases vx
   exact zrv pins s σ H _ v vl vu lo hi sl Q I rx hs pl pu ⟨_, rfl, c, xj q (.str _)⟩
 · cases he
theorem zgG {a : Expr} {lo hi : Option Expr} {fa : EF} {fl fh : OF} {pos p2 : Pos} (ha : AE X kd a fa) (hl : AO X kd lo fl) (hh : AO X kd hi fh) : AE X kd (.Subscript a (.Slice lo hi none p2) pos) (fSl fa fl fh slS) := by with_unfolding_all exact (wU (zij zrN ha hl hh) λ σ H Q h => by
 obtain ⟨F, B, ad, as, r, as', R, e, q⟩ := h
 obtain ⟨⟨p, as1⟩, h1, e⟩ := bS_ (show (fa as).bind _ = _ from e)
 obtain ⟨⟨l, as2⟩, h2, e⟩ := bS_ e
 obtain ⟨⟨u, as3⟩, h3, e⟩ := bS_ e
 obtain ⟨⟨d, lv⟩, h4, e⟩ := bS_ e
 obtain ⟨r', h5, e⟩ := bS_ e
 obtain ⟨z, h6, e⟩ := bS_ e
 cases e
 refine Y9 R h1 λ v ad1 H1 R1 rv1 g1 => ⟨F, B, ad1, as1, l, as2, R1, h2, λ ad2 H2 R2 g2 => ⟨F, B, ad2, as2, u, _, R2, h3, λ ad3 H3 R3 g3 => ?_⟩⟩
 exact ⟨_, d, r', R3.tr _, Za.vw R3 ((rv1.grow g2).grow g3) h4, h5, Xg R3 h6 λ w T' H' R' rv' g' => q w T' ad3 H' R' rv' (((g1.trans g2).trans g3).trans g')⟩)
end
theorem l1_ {α : Type} {P : List α -> Prop} (h : ∀ a, P [a]) : ∀ us : List α, us.length = 1 -> P us
 | [a], _ => h a
theorem l2_ {α : Type} {P : List α -> Prop} (h : ∀ a b, P [a, b]) : ∀ us : List α, us.length = 2 -> P us
 | [a, b], _ => h a b
theorem l3_ {α : Type} {P : List α -> Prop} (h : ∀ a b c, P [a, b, c]) : ∀ us : List α, us.length = 3 -> P us
 | [a, b, c], _ => h a b c
theorem l4_ {α : Type} {P : List α -> Prop} (h : ∀ a b c d, P [a, b, c, d]) : ∀ us : List α, us.length = 4 -> P us
 | [a, b, c, d], _ => h a b c d
theorem l5_ {α : Type} {P : List α -> Prop} (h : ∀ a b c d e, P [a, b, c, d, e]) : ∀ us : List α, us.length = 5 -> P us
 | [a, b, c, d, e], _ => h a b c d e
section
variable {X : Cx} {kd : KD}
theorem aI {c : Int} {j pos} : AE X kd (.Constant (.int c) j pos) (fC (.int c)) := zfl zmH λ _ _ => .int _
theorem aS {c : Str} {j pos} : AE X kd (.Constant (.str c) j pos) (fC (.str c)) := zfl zqc λ _ _ => .str _
theorem aZ {j pos} : AE X kd (.Constant .none j pos) (fC .non) := zfl zrF λ _ _ => .non
theorem aB {c : Bool} {j pos} : AE X kd (.Constant (.bool c) j pos) (fC (.bl c)) := zfl zsI λ _ _ => .bl _
theorem ax {P : Program} {w : World} {K : zD} {a b : Expr} {fa fb : EF} {pos : Pos} (hkd : KD1 P w K kd) (ha : AE X kd a fa) (hb : AE X kd b fb) (h1 : X.prog = P := by rfl) (h2 : X.w = w := by rfl) (h3 : X.K = K := by rfl) (hm : zhc b := by exact λ _ _ => rfl) : AE X kd (.Subscript a b pos) (f2 fa fb ixP) := zrU (ztb (hkd _ h1 h2 h3)) ha hb hm
theorem sv (z : Bool) (i : Nat) {x : Str} {pos pos' : Pos} {e : Expr} {fa : EF} (hN : X.N.Nodup) (he : AE X kd e fa) (hi : X.N[i]? = some x := by rfl) (hx : Loc X.env.scope x := by first | exact Or.inl rfl | exact Or.inr rfl) (hs : swapsWith e (some (.Name x pos')) pos.line X.env = pure false := by rfl) (hf : X.fn x = true \/ X.env.scope.names.lookup x = some .local := by first | exact Or.inl rfl | exact Or.inr rfl) :
 ASt X kd (.Assign [.Name x pos'] e pos) (yq z i fa) := zqU hN hi hx he hs hf
theorem an (i : Nat) {x : Str} {pos : Pos} (hN : X.N.Nodup) (hi : X.N[i]? = some x := by rfl) (hx : Loc X.env.scope x := by first | exact Or.inl rfl | exact Or.inr rfl) (hf : X.fn x = true \/ X.env.scope.names.lookup x = some .local := by first | exact Or.inl rfl | exact Or.inr rfl) : AG X kd (.Name x pos) [i] (gN i) := zoK hN hi hx hf
theorem av (i : Nat) {x : Str} {pos : Pos} (hN : X.N[i]? = some x := by rfl) (hv : Vis X.env.scope x := by first | exact Or.inl rfl | exact Or.inr (Or.inl rfl) | exact Or.inr (Or.inr rfl)) (hd : (x == ("__debug__" : Str)) = false := by decide)
 (hcd : (x == ("__classdict__" : Str)) = false := by decide) : AE X kd (.Name x pos) (fV i) := zpY (zmq hN hv hd hcd)
end
structure CI (K : zD) (kd : KD) (mg : Str -> Option Value) (c : Str) (C : Addr) : Prop where
 eq : kd.c c = C
 cl : Cls K C
 mks : PySem.W.makesIn K C = true
 kp : PySem.W.keepIn K (.ref C) = true
 mg : mg c = some (.ref C)
theorem szs {n : Nat} (h : n <= 1000000) : n <= sizeLine := zzM h (by decide)
section
variable {as : AS} {f fo a b : EF} {fr : AF} {s t : Bool} {x y z d : D} {c m : Str} {ns cs : List Str} {ds : List D} {tbl : List (Str × Fn)} {g : Fn} {o : O}
inductive SqD : D -> List D -> Prop
 | l (ds : List D) : SqD (.lst ds) ds
 | t (ds : List D) : SqD (.tup ds) ds
theorem zgx {α : Type} {h : α -> D} {it : α -> It1} {gg : GF} {fe : EF} {as0 : AS} : ∀ (l : List α), (∀ q ∈ l, ∃ as1, gg (it q) as0 = some as1 /\ WE fe as1 (h q)) -> ∃ os, v9 gg yV fe as0 (l.map it) = some os /\ O.strs os = true /\ O.toDs os = l.map h
 | [], _ => ⟨[], rfl, rfl, rfl⟩
 | q :: l, H => by
  obtain ⟨os, e1, e2, e3⟩ := zgx l λ p m => H p (zzB _ m)
  obtain ⟨as1, h1, o, h2, h3, h4⟩ := H q zzD
  refine ⟨o :: os, ?_, by show (o.str && O.strs os) = true; rw [h3, e2]; rfl, by show o.toD :: O.toDs os = _; rw [h4, e3]; rfl⟩
  show v9 gg yV fe as0 (it q :: l.map it) = _
  unfold v9
  rw [h1]; show ((fe as1).bind _) = _
  rw [h2]; show (if o.str = true then _ else _) = _
  rw [if_pos h3, e1]; rfl
theorem zmw {fi : IF} {cap : List (Option Nat)} {gg : GF} {tt : TF} {fe : EF} {xs : List It1} {os : List O} {zs : List D} (h1 : fi as = some (xs, as)) (hl : xs.length <= 1000000) (h2 : v9 gg tt fe (X7 cap as) xs = some os) (hs : O.strs os = true) (e : O.toDs os = zs) : WE (yh fi cap gg tt fe) as (.lst zs) := by
 refine ⟨.nd .ls os, ?_, hs, congrArg D.lst e⟩
 unfold yh
 rw [h1]; show (if xs.length <= sizeLine then _ else _) = _
 rw [if_pos (szs hl), h2]; rfl
theorem zcI {α : Type} {h : α -> D} {it : α -> It1} {fi : IF} {cap : List (Option Nat)} {gg : GF} {fe : EF} (l : List α) (h1 : fi as = some (l.map it, as)) (hl : l.length <= 1000000) (H : ∀ q ∈ l, ∃ as1, gg (it q) (X7 cap as) = some as1 /\ WE fe as1 (h q)) : WE (yh fi cap gg yV fe) as (.lst (l.map h)) := by
 obtain ⟨os, e1, e2, e3⟩ := zgx l H
 exact zmw h1 (by rw [zI]; exact hl) e1 e2 e3
theorem zjg {fd : DF} {os : List O} {zs : List D} (h : WO fd as os) (hl : os.length <= 1000000) (hs : O.strs os = true) (e : O.toDs os = zs) : WE (yw fd) as (.tup zs) := by
 refine ⟨WN os, zmQ h (szs hl), ?_, ?_⟩
 · unfold WN; split
   · exact hs
   · exact hs
 · subst e
   unfold WN; split
   · rfl
   · rfl
theorem zgT {fd : DF} {os : List O} (h : WE a as x) (hr : WO fd as os) : ∃ o, o.str = true /\ o.toD = x /\ WO (dC a fd) as (o :: os) := by
 obtain ⟨o, h1, h2, h3⟩ := h
 exact ⟨o, h2, h3, zbu h1 hr⟩
theorem zkl (ha : WE a as x) (hb : WE b as y) : WE (yw (dC a (dC b dN))) as (.tup [x, y]) := by
 obtain ⟨p, k1, rfl, k3⟩ := zgT hb xg
 obtain ⟨o, h1, rfl, h3⟩ := zgT ha k3
 exact zjg h3 (by show 2 <= _; omega) (by show (o.str && (p.str && true)) = true; rw [h1, k1]; rfl) rfl
end
open AutoSeq1 (wpAny_loadPart')
def fmS (val : Nat -> Str) (i : Nat) : List Str := ((List.range i).map val).foldl step_dedup []
theorem zeq (val : Nat -> Str) (i : Nat) : fmS val (i + 1) = step_dedup (fmS val i) (val i) := by
 unfold fmS; rw [List.range_succ, List.map_append, List.foldl_append]; rfl
theorem znF (val : Nat -> Str) : ∀ i, (fmS val i).length <= i
 | 0 => zzL _
 | i + 1 => by
  rw [zeq]; unfold step_dedup
  have ih := znF val i
  split
  · omega
  · rw [zzH, List.length_singleton]; omega
theorem zlJ (σ : List Str) (v k : Str) : (step_dedup σ v).any (· == k) = (σ.any (· == k) || decide (k = v)) := by
 unfold step_dedup
 by_cases h : σ.any (· == v) = true
 · rw [if_pos h]
   by_cases e : k = v
   · subst e; rw [h]; simp
   · simp [e]
 · rw [if_neg h, List.any_append]
   by_cases e : k = v
   · subst e; simp
   · have hb : (v == k) = false := by simpa [beq_iff_eq] using (λ h' : v = k => e h'.symm)
     simp [hb, e]
theorem zlh (σ : List Str) (v : Str) : (step_dedup σ v).length = if σ.any (· == v) then σ.length else σ.length + 1 := by
 unfold step_dedup; split <;> simp
theorem zkr : ∀ {vs : List Value} {ns : List Str}, StrsAre vs ns -> ∀ (i : Nat) (v : Value), vs[i]? = some v -> ∃ t, v = .str (ns.getD i "") t
 | _, _, .nil, i, v, h => by simp at h
 | _, _, .cons n t hr, 0, v, h => by simp at h; exact ⟨t, by rw [<- h]; rfl⟩
 | _, _, .cons n t hr, i + 1, v, h => by
  simp only [List.getElem?_cons_succ] at h
  obtain ⟨t', e⟩ := zkr hr i v h
  exact ⟨t', by rw [e]; rfl⟩
section
variable {prog : Program} {w : World} {A : Around} {R : Result -> Shared -> Prop} {I : Addr} {fp wr : List Addr} {G : Array GenState -> Array GenState -> Prop} {n : Nat} {P : Nat -> Value -> Prop} {St : Nat -> Shared -> Prop}
theorem zlL (W : WalksS prog w A.in1 I fp wr G n P St) (S : Addr) (hSf : S ∉ fp)
 (val : Nat -> Str) (hval : ∀ i v, P i v -> ∃ t, v = .str (val i) t) (hb : n + 1 < scanBound) :
 ∀ (k i : Nat) (s : Shared), n - i = k -> i <= n -> St i s ->
  s.heap.SetOf (strKind prog w) S (λ k' => (fmS val i).any (· == k')) (fmS val i).length ->
  (∀ s', Moved (S :: wr) G s s' -> s'.heap.SetOf (strKind prog w) S (λ k' => (fmS val n).any (· == k')) (fmS val n).length -> R (.ok (.ret .none)) s') ->
  codeAny (model prog w) A (.builtin "set.update.loop" ⟨[.ref S, .ref I], []⟩) R s := by
 have hSw : S ∉ wr := λ h => hSf (W.sub _ h)
 have hsub : ∀ b ∈ wr, b ∈ S :: wr := λ b hb => zzB _ hb
 intro k
 induction k with
 | zero =>
  intro i s hk hi hst hS hR
  have hin : i = n := by omega
  subst hin
  refine codeAny_builtin F.entry_set_update_loop ?_
  rw [Around.under_plainId F.plain_set_update_loop _]
  show wpAny _ A.in1 (pyNext (.ref I) >>= _) _ _ s
  refine wpAny_bind (W.done s _ _ hst λ s' hm => ?_)
  show wpAny _ A.in1 (ret Value.none) _ _ s'
  exact wpAny_pure (hR s' (hm.mono hsub) (by
   obtain ⟨o, es, ep, t, ho, rest⟩ := hS
   exact ⟨o, es, ep, t, hm.heap S _ hSw ho, rest⟩))
 | succ k ih =>
  intro i s hk hi hst hS hR
  have hlt : i < n := by omega
  refine codeAny_builtin F.entry_set_update_loop ?_
  rw [Around.under_plainId F.plain_set_update_loop _]
  show wpAny _ A.in1 (pyNext (.ref I) >>= _) _ _ s
  refine wpAny_bind (W.item i s _ _ hlt hst λ v s' hP hst' hm => ?_)
  obtain ⟨t, rfl⟩ := hval i v hP
  have hS' : s'.heap.SetOf (strKind prog w) S (λ k' => (fmS val i).any (· == k')) (fmS val i).length := by
   obtain ⟨o, es, ep, tb, ho, rest⟩ := hS
   exact ⟨o, es, ep, tb, hm.heap S _ hSw ho, rest⟩
  show wpAny _ A.in1 (holding [Value.str (val i) t] (setAdd S (.str (val i) t)) >>= _) _ _ s'
  refine wpAny_bind (wpAny_holding ?_)
  unfold setAdd
  refine wpAny_holding ?_
  refine wpAny_bind ((strKind prog w).pyHash (k := val i) (strKind_is _ _ _ _) ?_)
  have hroom : (fmS val i).length + 1 < scanBound := by have := znF val i; omega
  refine wpAny_setAddHashed_of (knd := strKind prog w) (s := { s' with toks := s'.toks + 1 }) (strKind_is _ _ _ _) rfl hS' hroom λ h' hsb hS2 => ?_
  have hSi : h'.SetOf (strKind prog w) S (λ k' => (fmS val (i + 1)).any (· == k')) (fmS val (i + 1)).length :=
   SetOf_congr hS2 (λ k' => by rw [zeq, zlJ]) (by rw [zeq, zlh])
  refine wpAny_pure ⟨plainId_quiet F.plain_set_update_loop _, ih (i + 1) _ (by omega) hlt (W.frame _ s' _ _ hst' (Nat.le_succ _) λ b hb o e => ?_) hSi λ s'' hm'' hS'' => ?_⟩
  · rw [hsb.2 b (λ h : b = S => hSf (by rw [<- h]; exact hb))]; exact e
  · refine hR s'' (Moved.trans W.gtrans ((hm.mono hsub).then_heap (Nat.le_succ _) λ b o hb e => ?_) hm'') hS''
    rw [hsb.2 b (λ h : b = S => hb (by rw [h]; exact zzD))]; exact e
end
section
variable {prog : Program} {w : World} {A : Around} {E : Value -> Shared -> Prop} {s : Shared}
set_option maxHeartbeats 3200000 in
theorem zln {l : Addr} {items : Array Value} {ns : List Str} {Q : Value -> Shared -> Prop}
 (hh : A.handled = none) (hl : s.heap.IsList l items) (hi : PyProof.Rows.StrsAre items.toList ns) (hb : items.size + 1 < scanBound)
 (h : ∀ (h' : Heap) (tk : Nat), h'.SetOf (strKind prog w) s.heap.objs.size (λ k' => (fmS (λ i => ns.getD i "") items.size).any (· == k')) (fmS (λ i => ns.getD i "") items.size).length ->
  (∀ b o, b < s.heap.objs.size -> s.heap.get? b = some o -> h'.get? b = some o) -> Q (.ref s.heap.objs.size) { s with heap := h', toks := tk }) :
 wpAny (model prog w) A (call (.type "set") [.ref l]) Q E s := by
 obtain ⟨c, tl, hmro⟩ := F.called_set.mro
 have hmade := F.called_set.made
 have hsub := F.called_set.sub
 refine wpAny_call (codeAny_of_tree ?_)
 show wpAny _ _ (callAny (.type "set") _) _ _ _
 refine wpAny_pure ⟨Code.quiet_builtin _ (by decide +kernel), codeAny_builtin F.entry_type_call ?_⟩
 rw [Around.under_plain (weight_type_call_type "set" [.ref l] []) rfl]
 have h1 := F.called_set.notType
 have h2 := F.called_set.canCreate
 have hct := F.typeCall_set_1 (.ref l)
 repeat (any_goals (first | assumption | wp_step))
 refine codeAny_mono (code_set_new_1 (.ref l) (E := E) (Q₁ := λ obj s₁ => ∃ led : Bool, obj = .ref s.heap.objs.size /\ s₁ = { s with heap := s.heap.push { cls := .type "set", dict := none, data := .set #[] 0 (.fresh 0 0 led) } }) λ led => ⟨led, rfl, rfl⟩) λ r s₁ hr => ?_
 cases r with
 | error e => exact hr
 | ok fl =>
  cases fl with
  | ret obj =>
   obtain ⟨led, rfl, rfl⟩ := hr
   have hS : (s.heap.push { cls := .type "set", dict := none, data := .set #[] 0 (.fresh 0 0 led) }).get? s.heap.objs.size = some { cls := .type "set", dict := none, data := .set #[] 0 (.fresh 0 0 led) } := Heap.get?_push_size _ rfl
   have hT : Shared.TypeIs { s with heap := s.heap.push { cls := .type "set", dict := none, data := .set #[] 0 (.fresh 0 0 led) } } (.ref s.heap.objs.size) "set" := ⟨_, hS, rfl⟩
   have hli := F.called_set.init.lookup
   have hbi := F.called_set.init.bind (.ref s.heap.objs.size)
   repeat (any_goals (first | assumption | wp_step))
   refine codeAny_mono (codeAny_call_builtin (R := wants (λ r s₂ => r = .none /\ ∃ h' tk, s₂ = { s with heap := h', toks := tk } /\
    h'.SetOf (strKind prog w) s.heap.objs.size (λ k' => (fmS (λ i => ns.getD i "") items.size).any (· == k')) (fmS (λ i => ns.getD i "") items.size).length /\
    (∀ b o, b < s.heap.objs.size -> s.heap.get? b = some o -> h'.get? b = some o)) E) F.called_set.init.plain F.entry_set_init (check_set_init_1 hT ?_)) λ r₂ s₂ hr₂ => ?_
   · obtain ⟨ol, hol, hcl, nl, hdl⟩ := hl
     obtain ⟨ocls, odict, odata, oslots⟩ := ol
     simp only at hcl hdl
     subst hcl; subst hdl
     have hol' : (s.heap.push { cls := .type "set", dict := none, data := .set #[] 0 (.fresh 0 0 led) }).get? l = some { cls := .type "list", dict := odict, data := .seq items nl, slots := oslots } := Heap.get?_push_of_some _ hol
     have hsls := F.sub_list_set
     have hslf := F.sub_list_frozenset
     have hne : (Value.type "list" == Value.type "dict") = false := by decide
     have hl1 : (s.heap.push { cls := .type "set", dict := none, data := .set #[] 0 (.fresh 0 0 led) }).IsList l items := ⟨_, hol', rfl, nl, rfl⟩
     unfold Builtin.«set.__init__» noKeywords Builtin.Frozenset.updateFrom
     generalize hPI : pyIter = PI
     wp_walk
     subst hPI
     refine wpAny_pyIter_list hl1 ?_
     refine wpAny_bind (wpAny_runValue ?_)
     have hlS : l < s.heap.objs.size := Heap.lt_size hol
     have hh3 : A.in1.in1.in1.handled = none := by simp [hh]
     have hneI : l ≠ (s.heap.push { cls := .type "set", dict := none, data := .set #[] 0 (.fresh 0 0 led) }).objs.size := by
      rw [Heap.size_push]; exact zzO (Nat.lt_succ_of_lt hlS)
     have hSf : s.heap.objs.size ∉ [(s.heap.push { cls := .type "set", dict := none, data := .set #[] 0 (.fresh 0 0 led) }).objs.size, l] := by
      rw [Heap.size_push]; simp only [zzA, zzP, List.not_mem_nil, or_false, not_or]
      exact ⟨zzO (Nat.lt_succ_self _), Nat.ne_of_gt hlS⟩
     have hval : ∀ (i : Nat) (v : Value), items[i]? = some v -> ∃ t, v = .str ((λ i => ns.getD i "") i) t := λ i v hv =>
      zkr hi i v (by rw [Array.getElem?_toList]; exact hv)
     refine zlL ((Walks.list hh3 _ l hneI items).toS) s.heap.objs.size
      hSf (λ i => ns.getD i "") hval hb (items.size - 0) 0 _ (by omega) (Nat.zero_le _)
      ⟨⟨_, Heap.get?_push_size _ rfl, rfl, rfl⟩, (hl1.push _)⟩ ?hS0 ?hR
     case hS0 =>
      have hget : ((s.heap.push { cls := .type "set", dict := none, data := .set #[] 0 (.fresh 0 0 led) }).push { cls := .type "list_iterator", data := .fields #[.ref l, .int 0 0] }).get? s.heap.objs.size
       = some { cls := .type "set", dict := none, data := .set #[] 0 (.fresh 0 0 led) } := Heap.get?_push_of_some _ hS
      exact PyProof.Rows.SetOf_congr ((PyProof.Rows.setObjOf_fresh (knd := strKind prog w) led).setOf hget (by unfold scanBound; omega)) (λ _ => rfl) rfl
     case hR =>
      intro s' hm hS'
      obtain ⟨h', g', d', tk', os'⟩ := s'
      have eg : g' = s.gens := hm.gens
      have ed : d' = s.drawn := hm.drawn
      have eo : os' = s.os := hm.os
      subst eg; subst ed; subst eo
      show wpAny _ _ _ _ _ _
      refine wpAny_pure ?_
      show wpAny _ _ (ret Value.none) _ _ _
      refine wpAny_pure ⟨rfl, h', tk', rfl, hS', λ b o hb e => ?_⟩
      have hb1 : b ≠ s.heap.objs.size := zzO hb
      have hb2 : b ≠ (s.heap.push { cls := .type "set", dict := none, data := .set #[] 0 (.fresh 0 0 led) }).objs.size := by
       rw [Heap.size_push]; exact zzO (Nat.lt_succ_of_lt hb)
      exact hm.heap b o (by simp only [zzA, zzP, List.not_mem_nil, or_false, not_or]; exact ⟨hb1, hb2⟩) (Heap.get?_push_of_some _ (Heap.get?_push_of_some _ e))
   · cases r₂ with
     | error e => exact hr₂
     | ok fl₂ =>
      cases fl₂ with
      | ret r =>
       obtain ⟨rfl, h', tk, rfl, hS', hk'⟩ := hr₂
       repeat (any_goals (first | assumption | wp_step))
       exact h _ _ hS' hk'
      | _ => exact hr₂.elim
  | _ => exact hr.elim
end
def Z2 (ss : List Str) : Nat := (ss.foldl step_dedup []).length
theorem znN (ss : List Str) : (List.range ss.length).map (λ i => ss.getD i "") = ss := by
 refine List.ext_getElem? λ i => ?_
 rw [zzG]
 by_cases h : i < ss.length
 · rw [zzC (by rw [List.length_range]; exact h), List.getElem_range, zzC h]
   show some (ss.getD i "") = _
   rw [List.getD_eq_getElem?_getD, zzC h]; rfl
 · rw [List.getElem?_eq_none (by rw [List.length_range]; omega), List.getElem?_eq_none (by omega)]; rfl
theorem zrg : bootBuiltins "set" = some (.type "set") := by decide +kernel
theorem ziY : ∀ {us : List Value} {ss : List Str}, StrsAre us ss -> us.length = ss.length
 | _, _, .nil => rfl
 | _, _, .cons _ _ r => congrArg (· + 1) (ziY r)
section
variable {X : Cx} {kd : KD}
def tLS (K : zD) (ta : TA) : TE := λ σ H Q => ta σ H λ vs H1 => ∃ r ys ss, vs = [.ref r] /\ SqL K H1 r ys /\ (∀ us, Vals ys us -> StrsAre us ss) /\ ss.length <= 1000 /\ Q (.int (Z2 ss)) H1
theorem zld {a : Expr} {ta : TA} {p p' pos pos' : Pos} (hc : X.calm = true) (hg : Gl X "set") (hm : X.mg "set" = none) (hgl : Gl X "len") (hml : X.mg "len" = none) (ha : PA X [a] ta) (hs : starEach [a] X.env = [(false, eval a X.env)])
 (hs' : starEach [.Call (.Name "set" p) [a] [] pos] X.env = [(false, eval (.Call (.Name "set" p) [a] [] pos) X.env)]) : PE X (.Call (.Name "len" p') [.Call (.Name "set" p) [a] [] pos] [] pos') (tLS X.K ta) := by
 intro pins s σ H Q I h
 refine wpAny_Call_Name_kw (W8 I hgl hml Bt.len (PyProof.Rows.callWith_builtin1 ?_ hs' rfl))
 rw [hs']
 show wpAny _ _ (spliced ((false, eval _ X.env) :: backTo pos' [])) _ _ s
 refine Calls.spliced_cons ?_
 refine wpAny_Call_Name_kw (W8 I hg hm zrg (PyProof.Rows.callWith_type1 (thn (ha pos pins s σ H _ I h) λ us s1 ⟨vs, H1, I1, r1, q1⟩ => ?_) hs rfl))
 obtain ⟨r, ys, ss, rfl, sq, hss, hz, q⟩ := q1
 cases r1 with
 | cons rr rs =>
  cases rs
  cases rr
  obtain ⟨its, rv, pl, _⟩ := I1.list sq
  have hS := hss its rv
  have hl := ziY hS
  refine zln (ns := ss) (I1.ok.hd hc) pl.isList (by simpa using hS) (by simp only [zzF]; unfold scanBound; omega) λ h' tk hSet hk => ?_
  refine Calls.spliced_nil ?_
  obtain ⟨o, es, ep, t, ho, hex, hd, _, _, hb, hf, hn⟩ := hSet
  refine call_len_set ho hex hd hf (by unfold scanBound at hb; omega) ?_
  have e : es.size = Z2 ss := by
   rw [hn, zzF, hl]
   unfold fmS Z2
   rw [znN]
  refine ⟨.int (Z2 ss), H1, I1.kept λ b u e => hk b u (Heap.lt_size e) e, ⟨_, by rw [e]⟩, q⟩
def lsP : List D -> Option R0 := on1 λ x => (asL x).bind λ ds => (zaT ds).bind λ ss => if ss.length <= 1000 then some (.im (.int (Z2 ss))) else none
theorem zlc {a : Expr} {fr : AF} {p p' pos pos' : Pos} (hc : X.calm = true) (hg : Gl X "set") (hm : X.mg "set" = none) (hgl : Gl X "len") (hml : X.mg "len" = none) (ha : AA X kd [a] fr) (hs : starEach [a] X.env = [(false, eval a X.env)])
 (hs' : starEach [.Call (.Name "set" p) [a] [] pos] X.env = [(false, eval (.Call (.Name "set" p) [a] [] pos) X.env)]) : AE X kd (.Call (.Name "len" p') [.Call (.Name "set" p) [a] [] pos] [] pos') (fP fr lsP) := by
 with_unfolding_all exact (wU (zld hc hg hm hgl hml ha hs hs') λ σ H Q h => by
  obtain ⟨F, B, ad, as, r, as', R, e, q⟩ := h
  obtain ⟨⟨rs, as1⟩, h1, e⟩ := bS_ (show (fr as).bind _ = _ from e)
  obtain ⟨⟨ds, lv⟩, h2, e⟩ := bS_ e
  obtain ⟨r0, h3, e⟩ := bS_ e
  obtain ⟨z, h4, e⟩ := bS_ e
  cases e
  refine (show alA X.K kd fr σ H _ from ⟨F, B, ad, as, rs, as1, R, h1, λ vs ad1 H1 R1 rv1 g1 => ?_⟩)
  have vl := zaG R1 rv1 h2
  have rq := Xg R1 h4 (Q := Q) λ w T' H' R' rv' g' => q w T' ad1 H' R' rv' (g1.trans g')
  obtain ⟨x, d, rfl, vx, he⟩ := zde vl h3
  obtain ⟨ds', h0, he2⟩ := bS_ (show (asL d).bind _ = _ from he)
  cases zcF h0
  obtain ⟨ss, k1, he3⟩ := bS_ he2
  obtain ⟨hz, he4⟩ := yD he3
  cases he4
  cases vx with
  | lst hr rl => exact ⟨_, _, ss, rfl, hr.sq, λ us hv => zkC rl hv k1, hz, xj rq (.int _)⟩)
end
end PF
end
section
namespace G10
open PySem PySem.Spec PyProof.Rows L2 PF
abbrev zV : EF := fV 1
abbrev yN : EF := fC (.int 0)
abbrev zM : EF := fV 0
abbrev wG : EF := fC (.int 2)
abbrev yo : EF := fC (.int 1)
abbrev yr : EF := fV 2
abbrev ZD : EF := fC (.int 4)
abbrev zeb : GF := gN 4
abbrev xu : EF := fV 4
abbrev yP : EF := fV 3
abbrev xq : GF := gN 0
abbrev zx := Z3 .Add
abbrev Zh : EF := fV 5
abbrev zdY : EF := fC (.int 5)
abbrev Zq : EF := fV 6
abbrev v4 : EF := fV 7
abbrev vQ : EF := fV 11
abbrev zG := Z3 .Mod
abbrev zY := Z3 .Mult
abbrev vM : EF := fC (.int 8)
abbrev zL := Z3 .FloorDiv
abbrev vC : EF := fC (.int 3)
abbrev v7 := Z3 .Sub
abbrev X8 : EF := fC (.int 6)
abbrev zad : AF := aC (fV 3) aN
abbrev vI : AF := aC (fV 0) aN
abbrev vK : AF := aC (fV 1) aN
abbrev W9 : AF := aC (fV 2) aN
abbrev zrz : AF := aC (fV 5) aN
abbrev zpr : AF := aC (fV 7) aN
def top (i : Nat) : Stmt := PySem.Challenge.pw_stretchdeeds_k10_what_is_an_algebra.main.body.getD i (.Pass ⟨0, 0, 0, 0⟩)
abbrev Vj : Stmt := top 1
abbrev zeZ : List Str := ["thing"]
theorem ziN : FnScope zeZ ["thing"] (zy Vj) := ⟨rfl, rfl, rfl, by decide +kernel, rfl, by decide +kernel, by decide +kernel⟩
def zeE : SF :=
 (yX (zeB (VD zM "int") (zoa (VD zM "bool"))))
def XQ : Fn := fnR 1 1 zeE
abbrev WF : Stmt := top 9
abbrev zcV : List Str := ["thing"]
theorem zjN : FnScope zcV ["thing"] (zy WF) := ⟨rfl, rfl, rfl, by decide +kernel, rfl, by decide +kernel, by decide +kernel⟩
theorem zhG : (["letter"] : List Str).Nodup := by decide +kernel
def zgw : SF :=
 (zR (sIf (Xi (wQ (fT (VD zM "str"))) (Xi (fT (f2 (fP vI vq) yo (yZ .Lt))) (fT (f2 (fP vI vq) vM (yZ .Gt))))) (yX (fC (.bl false))) sNx)
  (yX (fP (aC (yh (zjW zM) [none] xq yV (f2 zM (fC (.str "abcdefghijklmnopqrstuvwxyz")) (yZ .In))) aN) zcT)))
def WP : Fn := fnR 1 1 zgw
abbrev Wc : Stmt := top 10
abbrev zdA : List Str := ["thing", "least", "most"]
theorem zha : FnScope zdA ["thing", "least", "most"] (zy Wc) := ⟨rfl, rfl, rfl, by decide +kernel, rfl, by decide +kernel, by decide +kernel⟩
def zdo : SF :=
 (yX (zeB (zX vI XQ) (zey zV zM yr (yZ .LtE) (yZ .LtE))))
def wJ : Fn := fnR 3 3 zdo
abbrev zao : Stmt := top 11
abbrev zeW : List Str := ["thing", "n"]
theorem zlu : FnScope zeW ["thing", "n"] (zy zao) := ⟨rfl, rfl, rfl, by decide +kernel, rfl, by decide +kernel, by decide +kernel⟩
theorem ziL : (["value", "n"] : List Str).Nodup := by decide +kernel
def ziu : SF :=
 (yX (zeB (VD zM "list") (fP (aC (yh (Yr zM) [none, some 1] xq yV (zX (aC zM (aC yN (aC (f2 zV yo v7) aN))) wJ)) aN) zcT)))
def XX : Fn := fnR 2 2 ziu
abbrev XH : Stmt := top 12
abbrev zbx : List Str := ["thing", "many", "n"]
theorem ziW : FnScope zbx ["thing", "many", "n"] (zy XH) := ⟨rfl, rfl, rfl, by decide +kernel, rfl, by decide +kernel, by decide +kernel⟩
theorem zge : (["row", "n"] : List Str).Nodup := by decide +kernel
def zfJ : SF :=
 (zR (sIf (Xi (wQ (fT (VD zM "list"))) (fT (f2 (fP vI vq) zV (yZ .NotEq)))) (yX (fC (.bl false))) sNx)
  (yX (fP (aC (yh (Yr zM) [none, some 2] xq yV (zeB (zX (aC zM vK) XX) (f2 (fP vI vq) zV (yZ .Eq)))) aN) zcT)))
def Ze : Fn := fnR 3 3 zfJ
abbrev YK : Stmt := top 13
abbrev V6 : List Str := ["row"]
theorem zgV : FnScope V6 ["row"] (zy YK) := ⟨rfl, rfl, rfl, by decide +kernel, rfl, by decide +kernel, by decide +kernel⟩
theorem zem : (["k", "row"] : List Str).Nodup := by decide +kernel
def zdp : SF :=
 (yX (fP (aC (yh (xR (aC (f2 (fP vI vq) yo v7) aN) xW) [none, some 0] xq yV (f2 (f2 zV zM ixP) (f2 zV (f2 zM yo zx) ixP) (yZ .Lt))) aN) zcT))
def YH : Fn := fnR 1 1 zdp
abbrev Vd : Stmt := top 14
abbrev zfF : List Str := ["thing"]
theorem ziQ : FnScope zfF ["thing"] (zy Vd) := ⟨rfl, rfl, rfl, by decide +kernel, rfl, by decide +kernel, by decide +kernel⟩
def zfc : SF :=
 (yX (zeB (VD zM "tuple") (zeB (f2 (fP vI vq) wG (yZ .Eq)) (zX (aC (f2 zM yN ixP) aN) WP))))
def ZQ : Fn := fnR 1 1 zfc
abbrev ZZ : Stmt := top 15
abbrev Wd : List Str := ["thing", "most"]
theorem zho : FnScope Wd ["thing", "most"] (zy ZZ) := ⟨rfl, rfl, rfl, by decide +kernel, rfl, by decide +kernel, by decide +kernel⟩
theorem zfE : (["part"] : List Str).Nodup := by decide +kernel
theorem zff : (["part"] : List Str).Nodup := by decide +kernel
def zdy : SF :=
 (zR (sIf (Xi (wQ (fT (VD zM "list"))) (Xi (fT (f2 (fP vI vq) zV (yZ .Gt))) (wQ (fT (fP (aC (yh (Yr zM) [none] xq yV (zX vI ZQ)) aN) zcT))))) (yX (fC (.bl false))) sNx)
  (yX (f2 (fP (aC (yh (Yr zM) [none] xq yV (f2 zM yN ixP)) aN) lsP) (fP vI vq) (yZ .Eq))))
def Zg : Fn := fnR 2 2 zdy
abbrev Zk : Stmt := top 16
abbrev Xe : List Str := ["thing", "n", "m"]
theorem Wv : FnScope Xe ["thing"] (zy Zk) := ⟨rfl, rfl, rfl, by decide +kernel, rfl, by decide +kernel, by decide +kernel⟩
theorem zea : (["deed", "m", "n"] : List Str).Nodup := by decide +kernel
theorem zdQ : (["sign", "n"] : List Str).Nodup := by decide +kernel
def zcv : SF :=
 (zR (sIf (Xi (wQ (fT (VD zM "tuple"))) (fT (f2 (fP vI vq) X8 (yZ .NotEq)))) (yX (fC (.bl false))) sNx)
  (zR (yq true 1 (f2 zM yN ixP))
  (zR (yq true 2 (f2 zM yo ixP))
  (zR (sIf (Xi (wQ (fT (zX (aC zV (aC yo (aC vM aN))) wJ))) (wQ (fT (zX (aC yr (aC yo (aC X8 aN))) wJ)))) (yX (fC (.bl false))) sNx)
  (zR (sIf (Xi (wQ (fT (zX (aC (f2 zM wG ixP) (aC zV vK)) Ze))) (wQ (fT (zX (aC (f2 zM vC ixP) (aC yN (aC (f2 zV yo v7) aN))) wJ)))) (yX (fC (.bl false))) sNx)
  (zR (sIf (Xi (wQ (fT (zX (aC (f2 zM ZD ixP) (aC X8 aN)) Zg))) (wQ (fT (zX (aC (f2 zM zdY ixP) (aC ZD aN)) Zg)))) (yX (fC (.bl false))) sNx)
  (zR (sIf (wQ (fT (fP (aC (yh (Yr (f2 zM ZD ixP)) [none, some 2, some 1] xq yV (zX (aC (f2 zM yo ixP) (aC zV W9)) Ze)) aN) zcT))) (yX (fC (.bl false))) sNx)
  (yX (fP (aC (yh (Yr (f2 zM zdY ixP)) [none, some 1] xq yV (zeB (zX (aC (f2 zM yo ixP) vK) XX) (zX (aC (f2 zM yo ixP) aN) YH))) aN) zcT)))))))))
def Yd : Fn := fnR 3 1 zcv
abbrev YC : Stmt := top 18
abbrev zaV : List Str := ["_law_script", "_law_k"]
theorem zfB : FnScope zaV ["_law_script", "_law_k"] (zy YC) := ⟨rfl, rfl, rfl, by decide +kernel, rfl, by decide +kernel, by decide +kernel⟩
def zaZ : SF :=
 (zR (sIf (fT (f2 zV (fP vI vq) (yZ .Lt))) (yX (f2 zM zV ixP)) sNx)
  (yX yN))
def xr : Fn := fnR 2 2 zaZ
abbrev zap : Stmt := top 19
abbrev Xj : Stmt := top 20
abbrev zcc : List Str := ["_law_cell", "_law_many", "_law_found", "_law_number", "_law_k"]
theorem Zv : FnScope zcc ["_law_cell", "_law_many"] (zy Xj) := ⟨rfl, rfl, rfl, by decide +kernel, rfl, by decide +kernel, by decide +kernel⟩
def zbZ : SF :=
 (zR (yq false 2 (zZ dN))
  (zR (yq true 3 (f2 (f2 zM (fC (.int 2147483647)) zG) (fC (.int 48271)) zx))
  (zR (Wx (xR (aC (f2 zV yo zx) aN) xW) zeb (zR (yq true 3 (f2 (f2 (f2 (f2 yP yP zY) (f2 (fC (.int 48271)) yP zY) zx) xu zx) (fC (.int 2147483647)) zG))
  (wM (vL 2 (dC (f2 (f2 (f2 yP (fC (.int 40692)) zY) (f2 (fC (.int 7)) xu zY) zx) (fC (.int 2147483399)) zG) dN) vJ))))
  (yX (fSl yr (oS yo) oN slP)))))
def yp : Fn := fnR 5 2 zbZ
abbrev YD : Stmt := top 21
abbrev zai : List Str := ["_law_cell", "_law_many", "_law_letters", "_law_xs", "_law_base", "_law_at", "_law_found", "_law_k"]
theorem vU : FnScope zai ["_law_cell", "_law_many"] (zy YD) := ⟨rfl, rfl, rfl, by decide +kernel, rfl, by decide +kernel, by decide +kernel⟩
theorem zeC : (["_law_x", "_law_letters"] : List Str).Nodup := by decide +kernel
def zds : SF :=
 (zR (yq true 2 (fC (.str "abcdefghijklmnopqrstuvwxyz")))
  (zR (yq true 3 (zX (aC zM (aC (fC (.int 9)) aN)) yp))
  (zR (yq true 4 (Vy .str (fC (.str "")) (aC (yh (Yr (fSl yP oN (oS (f2 yo (f2 zM vM zG) zx)) slP)) [none, some 2] xq yV (f2 zV (f2 zM (fC (.int 26)) zG) ixP)) aN) zkY))
  (zR (yq true 5 (f2 (f2 zM vM zL) (fP (aC xu aN) vq) zG))
  (zR (yq false 6 (zZ dN))
  (zR (Wx (xR vK xW) (gN 7) (wM (vL 6 (dC (f2 (f2 (fSl xu oN (oS Zh) slS) (f2 yr (f2 (f2 (f2 yP vM ixP) (f2 vC v4 zY) zx) (fC (.int 26)) zG) ixP) zx) (fSl xu (oS (f2 Zh yo zx)) oN slS) zx) dN) vJ)))
  (yX Zq)))))))
def YJ : Fn := fnR 8 2 zds
abbrev YB : Stmt := top 22
abbrev zba : List Str := ["_law_one", "_law_other"]
theorem V7 : FnScope zba ["_law_one", "_law_other"] (zy YB) := ⟨rfl, rfl, rfl, by decide +kernel, rfl, by decide +kernel, by decide +kernel⟩
def zbg : SF :=
 (zR (whL (fT (f2 zV yN (yZ .Gt))) (zni 0 1 (dC zV (dC (f2 zM zV zG) dN))) 10000)
  (yX zM))
def ZF : Fn := fnR 2 2 zbg
abbrev X5 : Stmt := top 23
abbrev zbA : List Str := ["_law_n", "_law_m", "_law_xs", "_law_step", "_law_rows_here", "_law_c"]
theorem Wg : FnScope zbA ["_law_n", "_law_m", "_law_xs"] (zy X5) := ⟨rfl, rfl, rfl, by decide +kernel, rfl, by decide +kernel, by decide +kernel⟩
theorem zgj : (["_law_a", "_law_n", "_law_xs", "_law_c", "_law_step"] : List Str).Nodup := by decide +kernel
def zfO : SF :=
 (zR (yq true 3 (f2 zM (zX (aC zM vK) ZF) zL))
  (zR (yq false 4 (zZ dN))
  (zR (Wx (xR vK xW) (gN 5) (wM (vL 4 (dC (yh (xR vI xW) [none, some 0, some 2, some 5, some 3] xq yV (f2 (f2 (f2 zM (f2 yr yN ixP) zY) (f2 (f2 yP xu zY) (f2 yr yo ixP) zY) zx) zV zG)) dN) vJ)))
  (yX xu))))
def Xw : Fn := fnR 6 3 zfO
abbrev Zm : Stmt := top 24
abbrev Xl : List Str := ["_law_n", "_law_m", "_law_xs", "_law_row"]
theorem zbc : FnScope Xl ["_law_n", "_law_m", "_law_xs"] (zy Zm) := ⟨rfl, rfl, rfl, by decide +kernel, rfl, by decide +kernel, by decide +kernel⟩
theorem zdO : (["_law_k", "_law_n", "_law_xs"] : List Str).Nodup := by decide +kernel
theorem zec : (["_law_c", "_law_row"] : List Str).Nodup := by decide +kernel
def zcn : SF :=
 (zR (yq false 3 (fP (aC (f2 (zZ (dC yN dN)) (yh (xR (aC (f2 zM yo v7) aN) xW) [none, some 0, some 2] xq yV (f2 (f2 yr zM ixP) zV zG)) zx) aN) zmx))
  (zR (znw 3 (xC 0) (xC 0))
  (yX (yh (xR vK xW) [none, some 3] xq yV (fP vK lstP)))))
def Z9 : Fn := fnR 4 3 zcn
abbrev Yn : Stmt := top 25
abbrev Vm : List Str := ["_law_n", "_law_m", "_law_xs", "_law_row"]
theorem zdB : FnScope Vm ["_law_n", "_law_m", "_law_xs"] (zy Yn) := ⟨rfl, rfl, rfl, by decide +kernel, rfl, by decide +kernel, by decide +kernel⟩
theorem zfU : (["_law_k", "_law_xs", "_law_n"] : List Str).Nodup := by decide +kernel
theorem zfQ : (["_law_c", "_law_row"] : List Str).Nodup := by decide +kernel
def zfj : SF :=
 (zR (yq true 3 (f2 (zZ (dC yN dN)) (yh (xR (aC (f2 zM yo v7) aN) xW) [none, some 2, some 0] xq yV (f2 yo (f2 (f2 zV zM ixP) (f2 yr yo v7) zG) zx)) zx))
  (yX (yh (xR vK xW) [none, some 3] xq yV (fP vK lstP))))
def Xy : Fn := fnR 4 3 zfj
abbrev vh : Stmt := top 26
abbrev Zb : List Str := ["_law_kind", "_law_n", "_law_maps"]
theorem zcw : FnScope Zb ["_law_kind", "_law_n"] (zy vh) := ⟨rfl, rfl, rfl, by decide +kernel, rfl, by decide +kernel, by decide +kernel⟩
theorem zeO : (["_law_a", "_law_n"] : List Str).Nodup := by decide +kernel
theorem zeM : (["_law_b", "_law_n", "_law_a"] : List Str).Nodup := by decide +kernel
theorem zeK : (["_law_a", "_law_n"] : List Str).Nodup := by decide +kernel
theorem zfH : (["_law_b", "_law_a"] : List Str).Nodup := by decide +kernel
theorem zfo : (["_law_a", "_law_n"] : List Str).Nodup := by decide +kernel
theorem zep : (["_law_b", "_law_a"] : List Str).Nodup := by decide +kernel
theorem zfw : (["_law_a", "_law_n"] : List Str).Nodup := by decide +kernel
theorem zfn : (["_law_b", "_law_a"] : List Str).Nodup := by decide +kernel
theorem zfe : (["_law_one", "_law_maps"] : List Str).Nodup := by decide +kernel
theorem zdN : (["_law_two", "_law_maps", "_law_one"] : List Str).Nodup := by decide +kernel
def zdu : SF :=
 (zR (sIf (fT (f2 zM yN (yZ .Eq))) (yX (yh (xR vK xW) [none, some 1] xq yV (yh (xR vK xW) [none, some 1, some 0] xq yV (f2 (f2 yr zM zx) zV zG)))) sNx)
  (zR (sIf (fT (f2 zM yo (yZ .Eq))) (yX (yh (xR vK xW) [none, some 1] xq yV (yh (xR vK xW) [none, some 0] xq yV (fP (aC zV vI) zqD)))) sNx)
  (zR (sIf (fT (f2 zM wG (yZ .Eq))) (yX (yh (xR vK xW) [none, some 1] xq yV (yh (xR vK xW) [none, some 0] xq yV (f2 (zZ (dC zM (dC zV dN))) (fP (aC (f2 zM yN (yZ .Eq)) aN) ziV) ixP)))) sNx)
  (zR (sIf (fT (f2 zM vC (yZ .Eq))) (yX (yh (xR vK xW) [none, some 1] xq yV (yh (xR vK xW) [none, some 0] xq yV (f2 (zZ (dC zV (dC zM dN))) (fP (aC (f2 zV yN (yZ .Eq)) aN) ziV) ixP)))) sNx)
  (zR (yq true 2 (zZ (dC (yw (dC yN (dC yo dN))) (dC (yw (dC yo (dC yN dN))) (dC (yw (dC yN (dC yN dN))) (dC (yw (dC yo (dC yo dN))) dN))))))
  (yX (yh (Yr yr) [none, some 2] xq yV (yh (Yr zV) [none, some 1, some 0] xq yV (Vy .lst zV (aC (yw (dC (f2 zM (f2 yr yN ixP) ixP) (dC (f2 zM (f2 yr yo ixP) ixP) dN))) aN) zau)))))))))
def ZW : Fn := fnR 3 2 zdu
abbrev XS : Stmt := top 27
abbrev zbN : List Str := ["_law_kind", "_law_n", "_law_m", "_law_xs"]
theorem ziK : FnScope zbN ["_law_kind", "_law_n", "_law_m", "_law_xs"] (zy XS) := ⟨rfl, rfl, rfl, by decide +kernel, rfl, by decide +kernel, by decide +kernel⟩
theorem zfW : (["_law_c", "_law_xs"] : List Str).Nodup := by decide +kernel
def zfN : SF :=
 (zR (sIf (fT (f2 zM yN (yZ .Eq))) (yX (zX (aC zV (aC yr zad)) Xw)) sNx)
  (zR (sIf (fT (f2 zM yo (yZ .Eq))) (yX (zX (aC zV (aC yr zad)) Z9)) sNx)
  (zR (sIf (fT (f2 zM ZD (yZ .Lt))) (yX (zX (aC zV (aC yr zad)) Xy)) sNx)
  (yX (yh (xR W9 xW) [none, some 3] xq yV (f2 (zZ (dC (zZ (dC yN (dC yo (dC wG (dC vC dN))))) (dC (zZ (dC yN (dC yo (dC vC (dC wG dN))))) dN))) (f2 (f2 zV yN ixP) wG zG) ixP))))))
def Yv : Fn := fnR 4 4 zfN
abbrev YS : Stmt := top 28
abbrev V9 : List Str := ["_law_kind", "_law_n", "_law_m", "_law_many", "_law_cell", "_law_rows_here"]
theorem zbY : FnScope V9 ["_law_kind", "_law_n", "_law_m", "_law_many", "_law_cell"] (zy YS) := ⟨rfl, rfl, rfl, by decide +kernel, rfl, by decide +kernel, by decide +kernel⟩
theorem zfh : (["_law_k", "_law_kind", "_law_n", "_law_m", "_law_cell"] : List Str).Nodup := by decide +kernel
def zdw : SF :=
 (zR (yq true 5 (yh (xR zad xW) [none, some 0, some 1, some 2, some 4] xq yV (zX (aC zV (aC yr (aC yP (aC (zX (aC (f2 xu (f2 (fC (.int 31)) zM zY) zx) (aC (fC (.int 9)) aN)) yp) aN)))) Yv)))
  (yX (yw (dC zV (dC (zX (aC zM vK) ZW) (dC Zh dN))))))
def wX : Fn := fnR 6 5 zdw
abbrev Yb : Stmt := top 29
abbrev W7 : List Str := ["_law_one", "_law_other", "_law_m", "_law_n", "_law_by", "_law_join", "_law_p", "_law_here", "_law_there", "_law_deeds", "_law_rows_here", "_law_c", "_law_made_here", "_law_ahead"]
theorem yQ : FnScope W7 ["_law_one", "_law_other", "_law_m"] (zy Yb) := ⟨rfl, rfl, rfl, by decide +kernel, rfl, by decide +kernel, by decide +kernel⟩
theorem zdX : (["_law_q", "_law_by", "_law_there", "_law_here"] : List Str).Nodup := by decide +kernel
def zck : SF :=
 (zR (yq true 3 (f2 (f2 zM yN ixP) (f2 zV yN ixP) zY))
  (zR (yq true 4 (f2 zV yN ixP))
  (zR (yq false 5 (zZ dN))
  (zR (Wx (xR zad xW) (gN 6) (zR (yq true 7 (f2 (f2 zM yo ixP) (f2 Zq xu zL) ixP))
  (zR (yq true 8 (f2 (f2 zV yo ixP) (f2 Zq xu zG) ixP))
  (wM (vL 5 (dC (yh (xR zad xW) [none, some 4, some 8, some 7] xq yV (f2 (f2 (f2 yP (f2 zM zV zL) ixP) zV zY) (f2 yr (f2 zM zV zG) ixP) zx)) dN) vJ)))))
  (zR (yq false 9 (zZ dN))
  (zR (Wx (zlA (aC (f2 zM wG ixP) (aC (f2 zV wG ixP) aN))) (gT 2 (gsC (gN 7) (gsC (gN 8) gsN))) (zR (yq false 10 (zZ dN))
  (zR (Wx (xR W9 xW) (gN 11) (zR (yq false 12 (zZ dN))
  (zR (Wx (xR zad xW) (gN 6) (zR (yq true 13 (f2 (f2 (f2 v4 vQ ixP) (f2 Zq xu zL) ixP) xu zY))
  (wM (vL 12 (dC (f2 (fV 13) (f2 (f2 (fV 8) vQ ixP) (f2 Zq xu zG) ixP) zx) dN) vJ))))
  (wM (vL 10 (dC (fV 12) dN) vJ)))))
  (wM (vL 9 (dC (fV 10) dN) vJ)))))
  (yX (yw (dC yP (dC Zh (dC (fV 9) dN)))))))))))
def Z4 : Fn := fnR 14 3 zck
abbrev Vr : Stmt := top 30
abbrev zeL : List Str := ["_law_cell", "_law_m", "_law_many", "_law_xs", "_law_kind", "_law_sizes", "_law_one", "_law_n"]
theorem vN : FnScope zeL ["_law_cell", "_law_m", "_law_many"] (zy Vr) := ⟨rfl, rfl, rfl, by decide +kernel, rfl, by decide +kernel, by decide +kernel⟩
def zet : SF :=
 (zR (yq true 3 (zX (aC zM (aC zdY aN)) yp))
  (zR (yq true 4 (f2 (f2 yP yN ixP) (fC (.int 7)) zG))
  (zR (sIf (fT (f2 xu ZD (yZ .Gt))) (zR (yq true 5 (f2 (zZ (dC (yw (dC wG (dC wG dN))) (dC (yw (dC vC (dC wG dN))) (dC (yw (dC wG (dC vC dN))) (dC (yw (dC ZD (dC wG dN))) (dC (yw (dC wG (dC ZD dN))) (dC (yw (dC wG (dC wG dN))) dN))))))) (f2 (f2 yP yo ixP) X8 zG) ixP))
  (zR (yq true 6 (zX (aC (f2 (f2 yP wG ixP) ZD zG) (aC (f2 Zh yN ixP) (aC zV (aC yr (aC (f2 yP vC ixP) aN))))) wX))
  (yX (zX (aC Zq (aC (zX (aC (f2 (f2 yP ZD ixP) ZD zG) (aC (f2 Zh yo ixP) (aC zV (aC yr (aC (f2 (f2 yP vC ixP) (fC (.int 7)) zx) aN))))) wX) vK)) Z4)))) sNx)
  (zR (yq true 7 (f2 (zZ (dC wG (dC vC (dC ZD (dC zdY (dC vC (dC ZD (dC X8 (dC vM dN))))))))) (f2 (f2 yP yo ixP) vM zG) ixP))
  (zR (sIf (zgn (fT (f2 xu yN (yZ .Eq))) (fT (f2 (f2 (f2 yP wG ixP) (fC (.int 9)) zG) yN (yZ .Eq)))) (yq true 7 yo) sNx)
  (zR (sIf (fT (f2 xu ZD (yZ .Eq))) (yq true 7 ZD) sNx)
  (yX (zX (aC xu (aC v4 (aC zV (aC yr (aC (f2 yP vC ixP) aN))))) wX))))))))
def Xv : Fn := fnR 8 3 zet
abbrev Wi : Stmt := top 31
abbrev zdJ : List Str := ["_law_cell", "_law_n", "_law_left", "_law_found", "_law_x"]
theorem Xk : FnScope zdJ ["_law_cell", "_law_n"] (zy Wi) := ⟨rfl, rfl, rfl, by decide +kernel, rfl, by decide +kernel, by decide +kernel⟩
def zdG : SF :=
 (zR (yq false 2 (fP vK lrP))
  (zR (yq false 3 (zZ dN))
  (zR (Wx (ziO (zX (aC zM vK) yp)) zeb (wM (vL 3 (dC (vL 2 (dC (f2 xu (fP W9 vq) zG) dN) zaq) dN) vJ)))
  (yX yP))))
def YF : Fn := fnR 5 2 zdG
abbrev YQ : Stmt := top 32
abbrev VN : List Str := ["_law_cell", "_law_n", "_law_names_here", "_law_signs_here", "_law_x", "_law_name"]
theorem Xc : FnScope VN ["_law_cell", "_law_n", "_law_names_here"] (zy YQ) := ⟨rfl, rfl, rfl, by decide +kernel, rfl, by decide +kernel, by decide +kernel⟩
theorem zfA : (["_law_v", "_law_x"] : List Str).Nodup := by decide +kernel
def zdK : SF :=
 (zR (yq false 3 (zZ dN))
  (zR (Wx (zlA (aC (zX (aC zM (aC (fP W9 vq) aN)) yp) W9)) (gT 2 (gsC zeb (gsC (gN 5) gsN))) (wM (vL 3 (dC (yw (dC Zh (dC (yh (xR vK xW) [none, some 4] xq (fT (f2 (f2 (f2 zV (f2 (zZ (dC yo (dC wG (dC ZD (dC vM (dC (fC (.int 16)) (dC (fC (.int 32)) (dC (fC (.int 64)) (dC (fC (.int 128)) dN))))))))) zM ixP) zL) wG zG) yo (yZ .Eq))) zM) dN))) dN) vJ)))
  (yX yP)))
def Z1 : Fn := fnR 6 3 zdK
abbrev vA : Stmt := top 33
abbrev Zw : List Str := ["_law_cell", "_law_other", "_law_ys", "_law_m", "_law_many", "_law_n", "_law_join", "_law_deeds", "_law_order_here", "_law_back", "_law_joins_here", "_law_names_here", "_law_told_here", "_law_name", "_law_rows_here", "_law_signs_here"]
theorem yu : FnScope Zw ["_law_cell", "_law_other"] (zy vA) := ⟨rfl, rfl, rfl, by decide +kernel, rfl, by decide +kernel, by decide +kernel⟩
theorem zcM : (["_law_v", "_law_order_here"] : List Str).Nodup := by decide +kernel
theorem zcS : (["_law_a", "_law_order_here", "_law_n", "_law_join", "_law_back"] : List Str).Nodup := by decide +kernel
theorem zcA : (["_law_b", "_law_order_here", "_law_join", "_law_back", "_law_a"] : List Str).Nodup := by decide +kernel
theorem zcY : (["_law_row", "_law_order_here", "_law_n", "_law_back"] : List Str).Nodup := by decide +kernel
theorem zcE : (["_law_a", "_law_order_here", "_law_row", "_law_back"] : List Str).Nodup := by decide +kernel
def zbf : SF :=
 (zR (yq true 2 (zX (aC zV (aC X8 aN)) yp))
  (zR (yq true 3 (f2 yo (f2 (f2 yr yN ixP) X8 zG) zx))
  (zR (sIf (fT (f2 (f2 (f2 (f2 yr yN ixP) X8 zL) wG zG) yN (yZ .Eq))) (yq true 3 (f2 yo (f2 (f2 (f2 yr yN ixP) (fC (.int 12)) zL) vC zG) zx)) sNx)
  (zR (yq true 4 (f2 (zZ (dC yo (dC wG (dC yN (dC ZD (dC vC (dC wG (dC X8 (dC zdY dN))))))))) (f2 (f2 yr yo ixP) vM zG) ixP))
  (zR (sIf (fT (f2 xu vC (yZ .Gt))) (yq true 3 (f2 yo (f2 yP wG zG) zx)) sNx)
  (zR (zdg (zX (aC zM (aC yP (aC xu aN))) Xv) (gT 3 (gsC (gN 5) (gsC (gN 6) (gsC (gN 7) gsN)))))
  (zR (yq true 8 (zX (aC (f2 yr wG ixP) zrz) YF))
  (zR (yq true 9 (yh (xR zrz xW) [none, some 8] xq yV (Vy .lst zV vI zau)))
  (zR (yq true 10 (yh (xR zrz xW) [none, some 8, some 5, some 6, some 9] xq yV (yh (xR W9 xW) [none, some 1, some 3, some 4, some 0] xq yV (f2 zV (f2 (f2 yr (f2 yP xu ixP) ixP) (f2 yP zM ixP) ixP) ixP))))
  (zR (yq true 11 (zX (aC (f2 yr vC ixP) (aC (fC (.int 10)) aN)) YJ))
  (zR (yq false 12 (zZ dN))
  (zR (Wx (zlA (aC (fSl vQ oN (oS X8) slP) zpr)) (gT 2 (gsC (gN 13) (gsC (gN 14) gsN))) (wM (vL 12 (dC (yw (dC (fV 13) (dC (yh (Yr (fV 14)) [none, some 8, some 5, some 9] xq yV (yh (xR W9 xW) [none, some 1, some 0, some 3] xq yV (f2 zV (f2 yr (f2 yP zM ixP) ixP) ixP))) dN))) dN) vJ)))
  (zR (yq true 15 (zX (aC (f2 yr ZD ixP) (aC Zh (aC (fSl vQ (oS X8) (oS (f2 X8 (f2 (zZ (dC yo (dC wG (dC yo (dC ZD (dC yN (dC wG (dC vC (dC yo dN))))))))) (f2 (f2 yr zdY ixP) vM zG) ixP) zx)) slP) aN))) Z1))
  (yX (yw (dC Zh (dC yP (dC (fV 10) (dC (f2 (fV 8) yN ixP) (dC (fV 12) (dC (fV 15) dN)))))))))))))))))))))
def Zy : Fn := fnR 16 2 zbf
abbrev Ys : Stmt := top 34
abbrev W6 : List Str := ["_law_algebra_here", "_law_cell", "_law_n", "_law_m", "_law_join", "_law_nothing", "_law_deeds", "_law_signs_here", "_law_xs", "_law_joins_here", "_law_told_here", "_law_k"]
theorem wK : FnScope W6 ["_law_algebra_here", "_law_cell"] (zy Ys) := ⟨rfl, rfl, rfl, by decide +kernel, rfl, by decide +kernel, by decide +kernel⟩
theorem zgc : (["_law_a", "_law_n", "_law_xs"] : List Str).Nodup := by decide +kernel
theorem zfS : (["_law_b", "_law_n", "_law_xs", "_law_a"] : List Str).Nodup := by decide +kernel
theorem zfP : (["_law_c", "_law_n", "_law_xs", "_law_k"] : List Str).Nodup := by decide +kernel
theorem zgg : (["_law_a", "_law_n", "_law_xs", "_law_c", "_law_k"] : List Str).Nodup := by decide +kernel
def zfD : SF :=
 (zR (zdg zM (gT 6 (gsC (gN 2) (gsC (gN 3) (gsC zeb (gsC (gN 5) (gsC (gN 6) (gsC (gN 7) gsN))))))))
  (zR (yq true 8 (zX (aC zV (aC (f2 (f2 (f2 vM vM zY) (f2 (f2 X8 X8 zY) vM zY) zx) yo zx) aN)) yp))
  (zR (yq true 9 (yh (xR W9 xW) [none, some 2, some 8] xq yV (yh (xR vK xW) [none, some 1, some 2, some 0] xq yV (f2 (f2 yr (f2 (f2 vM yP zY) zM zx) ixP) zV zG))))
  (zR (yq false 10 (zZ dN))
  (zR (Wx (xR (aC (fP (aC Zq aN) vq) aN) xW) (gN 11) (wM (vL 10 (dC (yw (dC (f2 (f2 Zq vQ ixP) yN ixP) (dC (yh (xR zad xW) [none, some 2, some 8, some 11] xq yV (yh (xR vK xW) [none, some 1, some 2, some 0, some 3] xq yV (f2 (f2 yr (f2 (f2 (f2 (fC (.int 64)) (f2 (fC (.int 48)) xu zY) zx) (f2 vM yP zY) zx) zM zx) ixP) zV zG))) dN))) dN) vJ)))
  (yX (yw (dC yr (dC yP (dC (fV 9) (dC (f2 (f2 (fV 8) (f1 yo zgi) ixP) yr zG) (dC (fV 10) (dC v4 dN)))))))))))))
def XJ : Fn := fnR 12 2 zfD
abbrev ZR : Stmt := top 35
abbrev XM : List Str := ["_law_algebra_here", "_law_n", "_law_m", "_law_join", "_law_nothing", "_law_deeds", "_law_signs_here", "_law_told_here"]
theorem vP : FnScope XM ["_law_algebra_here"] (zy ZR) := ⟨rfl, rfl, rfl, by decide +kernel, rfl, by decide +kernel, by decide +kernel⟩
theorem zaU : (["_law_name", "_law_rows_here"] : List Str).Nodup := by decide +kernel
theorem zfV : (["_law_row"] : List Str).Nodup := by decide +kernel
theorem zfZ : (["_law_row"] : List Str).Nodup := by decide +kernel
theorem zbh : (["_law_name", "_law_values"] : List Str).Nodup := by decide +kernel
def zfx : SF :=
 (zR (zdg zM (gT 6 (gsC (gN 1) (gsC (gN 2) (gsC (gN 3) (gsC zeb (gsC (gN 5) (gsC (gN 6) gsN))))))))
  (zR (yq true 7 (yh (Yr Zh) [none, none] (gT 2 (gsC xq (gsC (gN 1) gsN))) yV (yw (dC zM (dC (yh (Yr zV) [none] xq yV (fP vI lstP)) dN)))))
  (yX (yw (dC zV (dC yr (dC (yh (Yr yP) [none] xq yV (fP vI lstP)) (dC xu (dC v4 (dC (yh (Yr Zq) [none, none] (gT 2 (gsC xq (gsC (gN 1) gsN))) yV (yw (dC zM (dC (fP vK lstP) dN)))) dN))))))))))
def vz : Fn := fnR 8 1 zfx
abbrev zaJ : Stmt := top 36
abbrev zgo : List Str := ["_law_n", "_law_x"]
theorem zju : FnScope zgo ["_law_n", "_law_x"] (zy zaJ) := ⟨rfl, rfl, rfl, by decide +kernel, rfl, by decide +kernel, by decide +kernel⟩
def zgu : SF :=
 (yX (f2 (zZ (dC zM (dC (f2 (f2 zM yo zx) (f2 zV (f2 (fC (.int 10)) (fC (.int 30)) (Z3 .Pow)) zG) zx) (dC (f1 yo zgi) (dC (f2 (f1 yo zgi) (f2 zV (f2 (fC (.int 10)) (fC (.int 30)) (Z3 .Pow)) zG) v7) (dC (fC (.bl true)) (dC (fC (.bl false)) (dC (fC (.str "0")) (dC (fC .non) (dC (zZ (dC yN dN)) (dC (yw (dC yN dN)) (dC fD0 dN)))))))))))) (f2 zV (fC (.int 11)) zG) ixP))
def vf : Fn := fnR 2 2 zgu
abbrev Yc : Stmt := top 37
abbrev zak : List Str := ["_law_rows_here", "_law_n", "_law_x", "_law_at", "_law_row", "_law_spot", "_law_some", "_law_bent"]
theorem wN : FnScope zak ["_law_rows_here", "_law_n", "_law_x"] (zy Yc) := ⟨rfl, rfl, rfl, by decide +kernel, rfl, by decide +kernel, by decide +kernel⟩
def zaA : SF :=
 (zR (yq true 3 (f2 (f2 yr (fC (.int 11)) zL) (fP vI vq) zG))
  (zR (yq true 4 (f2 zM yP ixP))
  (zR (yq true 5 (f2 (f2 yr (fC (.int 88)) zL) zV zG))
  (zR (yq true 6 (zZ (dC (fP vI tupP) (dC (fSl zM oN (oS (f1 yo zgi)) slP) (dC (f2 zM (fSl zM oN (oS yo) slP) zx) (dC (fC .non) (dC fD0 (dC (fC (.str "rows")) dN))))))))
  (zR (yq true 7 (zZ (dC (fP (aC xu aN) tupP) (dC (fSl xu oN (oS (f1 yo zgi)) slP) (dC (f2 xu (fSl xu oN (oS yo) slP) zx) (dC (fC .non) (dC yN (dC (f2 (f2 (fSl xu oN (oS Zh) slP) (zZ (dC (zX (aC zV W9) vf) dN)) zx) (fSl xu (oS (f2 Zh yo zx)) oN slP) zx) dN))))))))
  (zR (yq true 7 (f2 v4 (f2 (zZ (dC (f2 (f2 (fSl xu oN (oS Zh) slP) (zZ (dC (zX (aC zV (aC (f2 yr (fC (.int 7)) zL) aN)) vf) dN)) zx) (fSl xu (oS (f2 Zh yo zx)) oN slP) zx) dN)) vC zY) zx))
  (zR (sIf (fT (f2 (f2 yr vC zG) yN (yZ .Eq))) (yX (f2 Zq (f2 (f2 yr vC zL) (fP (aC Zq aN) vq) zG) ixP)) sNx)
  (yX (f2 (f2 (fSl zM oN (oS yP) slP) (zZ (dC (f2 v4 (f2 (f2 yr vC zL) (fP zpr vq) zG) ixP) dN)) zx) (fSl zM (oS (f2 yP yo zx)) oN slP) zx)))))))))
def xX : Fn := fnR 8 3 zaA
abbrev Yi : Stmt := top 38
abbrev zal : List Str := ["_law_x"]
theorem zdW : FnScope zal ["_law_x"] (zy Yi) := ⟨rfl, rfl, rfl, by decide +kernel, rfl, by decide +kernel, by decide +kernel⟩
def zay : SF :=
 (yX (f2 (zZ (dC (fC (.str "")) (dC (fC (.str "A")) (dC (fC (.str "abcdefghi")) (dC (fC (.str "a1")) (dC (fC (.str "a b")) (dC (fC (.str "a ")) (dC (fC .non) (dC (fC (.int 7)) (dC (yw (dC (fC (.str "a")) dN)) (dC (zZ (dC (fC (.str "a")) dN)) (dC (fC (.bl true)) (dC (fC (.str "_")) dN))))))))))))) (f2 zM (fC (.int 12)) zG) ixP))
def wB : Fn := fnR 1 1 zay
abbrev vd : Stmt := top 39
abbrev ZJ : List Str := ["_law_algebra_here", "_law_x", "_law_n", "_law_m", "_law_join", "_law_nothing", "_law_deeds", "_law_signs_here", "_law_rows_here", "_law_pair", "_law_many", "_law_some"]
theorem yG : FnScope ZJ ["_law_algebra_here", "_law_x"] (zy vd) := ⟨rfl, rfl, rfl, by decide +kernel, rfl, by decide +kernel, by decide +kernel⟩
theorem zbB : (["_law_c", "_law_n"] : List Str).Nodup := by decide +kernel
theorem zbj : (["_law_letter", "_law_rows_here"] : List Str).Nodup := by decide +kernel
def Vx : SF :=
 (zR (zdg zM (gT 6 (gsC (gN 2) (gsC (gN 3) (gsC zeb (gsC (gN 5) (gsC (gN 6) (gsC (gN 7) gsN))))))))
  (zR (yq true 8 (yh (xR zad xW) [none, some 2] xq yV (f2 (zZ (dC yN dN)) zV zY)))
  (zR (yq true 9 (yw (dC (fC (.str "zz")) (dC (fV 8) dN))))
  (zR (yq true 10 (yh (zjW (fC (.str "abcdefg"))) [none, some 8] xq yV (yw (dC (f2 (fC (.str "z")) zM zx) (dC zV dN)))))
  (zR (yq true 11 (zZ (dC (fP (aC Zq aN) tupP) (dC (fC .non) (dC fD0 (dC (fV 10) (dC (zZ (dC (fV 9) (dC (fV 9) dN))) (dC (zZ (dC (yw (dC (fC (.str "zz")) (dC (fV 8) (dC yN dN)))) dN)) (dC (zZ (dC (yw (dC (fC (.str "zz")) dN)) dN)) (dC (zZ (dC (zZ (dC (fC (.str "zz")) (dC (fV 8) dN))) dN)) (dC (zZ (dC (fC .non) dN)) (dC (zZ (dC (fC (.str "zz")) dN)) dN))))))))))))
  (zR (yq true 11 (f2 vQ (zZ (dC (zZ (dC (yw (dC (zX (aC (f2 zV (fC (.int 20)) zL) aN) wB) (dC (fV 8) dN))) dN)) (dC (zZ (dC (yw (dC (zX (aC (f2 zV (fC (.int 40)) zL) aN) wB) (dC (fV 8) dN))) dN)) dN))) zx))
  (zR (yq true 11 (f2 vQ (zZ (dC (zZ (dC (yw (dC (fC (.str "zz")) (dC (zX (aC (fV 8) (aC yr (aC (f2 zV (fC (.int 20)) zL) aN))) xX) dN))) dN)) (dC (zZ (dC (yw (dC (fC (.str "zz")) (dC (zX (aC (fV 8) (aC yr (aC (f2 zV (fC (.int 60)) zL) aN))) xX) dN))) dN)) dN))) zx))
  (yX (yw (dC yr (dC yP (dC xu (dC Zh (dC (f2 vQ (f2 zV (fP (aC vQ aN) vq) zG) ixP) (dC v4 dN)))))))))))))))
def vZ : Fn := fnR 12 2 Vx
abbrev vW : Stmt := top 40
abbrev Y6 : List Str := ["_law_algebra_here", "_law_x", "_law_n", "_law_m", "_law_join", "_law_nothing", "_law_deeds", "_law_signs_here", "_law_many", "_law_some"]
theorem yU : FnScope Y6 ["_law_algebra_here", "_law_x"] (zy vW) := ⟨rfl, rfl, rfl, by decide +kernel, rfl, by decide +kernel, by decide +kernel⟩
theorem zbF : (["_law_letter"] : List Str).Nodup := by decide +kernel
def Vv : SF :=
 (zR (zdg zM (gT 6 (gsC (gN 2) (gsC (gN 3) (gsC zeb (gsC (gN 5) (gsC (gN 6) (gsC (gN 7) gsN))))))))
  (zR (yq true 8 (yh (zjW (fC (.str "abcde"))) [none] xq yV (yw (dC (f2 (fC (.str "z")) zM zx) (dC (zZ dN) dN)))))
  (zR (yq true 9 (zZ (dC (fP zpr tupP) (dC (fC .non) (dC fD0 (dC (fV 8) (dC (zZ (dC (yw (dC (fC (.str "zz")) (dC (zZ dN) dN))) (dC (yw (dC (fC (.str "zz")) (dC (zZ (dC yN dN)) dN))) dN))) (dC (zZ (dC (yw (dC (fC (.str "zz")) dN)) dN)) (dC (zZ (dC (zZ (dC (fC (.str "zz")) (dC (zZ dN) dN))) dN)) (dC (zZ (dC (yw (dC (fC (.str "zz")) (dC (zZ dN) (dC yN dN)))) dN)) (dC (zZ (dC (fC .non) dN)) dN)))))))))))
  (zR (yq true 9 (f2 (fV 9) (zZ (dC (zZ (dC (yw (dC (zX (aC (f2 zV (fC (.int 20)) zL) aN) wB) (dC (zZ dN) dN))) dN)) (dC (zZ (dC (yw (dC (fC (.str "zz")) (dC (zZ (dC yN (dC yN dN))) dN))) dN)) (dC (zZ (dC (yw (dC (fC (.str "zz")) (dC (zZ (dC (f2 yr yo v7) (dC (f2 yr wG v7) dN))) dN))) dN)) (dC (zZ (dC (yw (dC (fC (.str "zz")) (dC (yw (dC yN dN)) dN))) dN)) dN))))) zx))
  (zR (yq true 9 (f2 (fV 9) (zZ (dC (zZ (dC (yw (dC (fC (.str "zz")) (dC (zZ (dC (zX (aC yr (aC (f2 zV (fC (.int 20)) zL) aN)) vf) dN)) dN))) dN)) (dC (zZ (dC (yw (dC (fC (.str "zz")) (dC (fC .non) dN))) dN)) (dC (zZ (dC (yw (dC (fC (.str "zz")) (dC (fP (aC (f2 yr yo zx) aN) lrP) dN))) dN)) (dC (zZ (dC (yw (dC (fC (.str "zz")) (dC (fC (.str "0")) dN))) dN)) dN))))) zx))
  (yX (yw (dC yr (dC yP (dC xu (dC Zh (dC Zq (dC (f2 (fV 9) (f2 zV (fP (aC (fV 9) aN) vq) zG) ixP) dN)))))))))))))
def vX : Fn := fnR 10 2 Vv
abbrev Yw : Stmt := top 41
abbrev zbe : List Str := ["_law_algebra_here", "_law_x", "_law_n", "_law_m", "_law_join", "_law_nothing", "_law_deeds", "_law_signs_here", "_law_way", "_law_some"]
theorem xY : FnScope zbe ["_law_algebra_here", "_law_x"] (zy Yw) := ⟨rfl, rfl, rfl, by decide +kernel, rfl, by decide +kernel, by decide +kernel⟩
def zaS : SF :=
 (zR (zdg zM (gT 6 (gsC (gN 2) (gsC (gN 3) (gsC zeb (gsC (gN 5) (gsC (gN 6) (gsC (gN 7) gsN))))))))
  (zR (yq true 8 (f2 zV (fC (.int 9)) zG))
  (zR (yq true 1 (f2 zV (fC (.int 9)) zL))
  (zR (yq true 9 (zZ (dC (fP vI lstP) (dC (fSl zM oN (oS zdY) slP) (dC (f2 zM (yw (dC yN dN)) zx) (dC (yw (dC yr (dC yP (dC xu (dC Zh (dC Zq (dC v4 (dC (zZ dN) dN)))))))) (dC (fSl zM (oS yo) oN slP) (dC (yw dN) dN))))))))
  (zR (sIf (fT (f2 (fV 8) yN (yZ .Eq))) (yX (f2 (fV 9) (f2 zV (fP (aC (fV 9) aN) vq) zG) ixP)) sNx)
  (zR (sIf (fT (f2 (fV 8) yo (yZ .Eq))) (yX (yw (dC (f2 (zZ (dC (f2 yr yo zx) (dC (f2 yr yo v7) (dC (fC (.bl true)) (dC yN (dC (fC (.int 9)) (dC (f1 yr zgi) (dC (fP W9 zkS) (dC (fC .non) dN))))))))) (f2 zV vM zG) ixP) (dC yP (dC xu (dC Zh (dC Zq (dC v4 dN)))))))) sNx)
  (zR (sIf (fT (f2 (fV 8) wG (yZ .Eq))) (yX (yw (dC yr (dC (f2 (zZ (dC yN (dC (fC (.int 7)) (dC (f1 yo zgi) (dC (fC (.bl true)) (dC (fC (.str "1")) (dC (fC .non) (dC (zZ (dC yo dN)) (dC (f2 (fC (.int 7)) (f2 zV (f2 (fC (.int 10)) (fC (.int 30)) (Z3 .Pow)) zG) zx) dN))))))))) (f2 zV vM zG) ixP) (dC xu (dC Zh (dC Zq (dC v4 dN)))))))) sNx)
  (zR (sIf (Xi (fT (f2 (fV 8) vC (yZ .Eq))) (fT (f2 (fV 8) ZD (yZ .Eq)))) (yX (yw (dC yr (dC yP (dC (zX (aC xu (aC yr vK)) xX) (dC Zh (dC Zq (dC v4 dN)))))))) sNx)
  (zR (sIf (fT (f2 (fV 8) zdY (yZ .Eq))) (yX (yw (dC yr (dC yP (dC xu (dC (zX (aC yr vK) vf) (dC Zq (dC v4 dN)))))))) sNx)
  (zR (sIf (fT (f2 (fV 8) vM (yZ .Lt))) (yX (zX (aC zM vK) vZ)) sNx)
  (yX (zX (aC zM vK) vX))))))))))))
def vB : Fn := fnR 10 2 zaS
abbrev W4 : Stmt := top 42
abbrev zew : List Str := ["_law_thing", "_law_due", "_law_found"]
theorem zdl : FnScope zew ["_law_thing", "_law_due"] (zy W4) := ⟨rfl, rfl, rfl, by decide +kernel, rfl, by decide +kernel, by decide +kernel⟩
def zfL : SF :=
 (zR (yq true 2 (zX vI Yd))
  (yX (zeB (VD yr "bool") (f2 yr zV (yZ .Eq)))))
def xF : Fn := fnR 3 2 zfL
abbrev zku : Stmt := top 43
abbrev zpv : List Str := ["_law_script", "_law_algebra_here", "_law_free_here", "_law_some", "_law_handed", "_law_cell", "_law_x", "_law_deep", "_law_k", "_law_n", "_law_m", "_law_join", "_law_nothing", "_law_deeds", "_law_signs_here", "_law_shared", "_law_thing"]
theorem vH : FnScope zpv ["_law_script"] (zy zku) := ⟨rfl, rfl, rfl, by decide +kernel, rfl, by decide +kernel, by decide +kernel⟩
def zpP : SF :=
 (zR (yq true 1 (zX (aC (zX (aC zM (aC yN aN)) xr) (aC (zX (aC zM (aC yo aN)) xr) aN)) Zy))
  (zR (yq true 2 (zX (aC zV (aC (zX (aC zM (aC wG aN)) xr) aN)) XJ))
  (zR (Wx (ziO (zZ (dC zV (dC yr dN)))) (gN 3) (zR (yq true 4 (zX zad vz))
  (zR (sIf (Xi (wQ (fT (zX (aC xu (aC (fC (.bl true)) aN)) xF))) (fT (f2 xu yP (yZ .NotEq)))) (yX (fC (.bl false))) sNx)
  (Wx (ziO (f2 (zZ (dC (zX (aC zM (aC vC aN)) xr) dN)) (fSl zM (oS ZD) (oS (fC (.int 34))) slP) zx)) (gN 5) (zR (yq true 6 (f2 (f2 (f2 (zX (aC Zh (aC yo aN)) yp) yN ixP) (fC (.int 2147483399)) zY) (f2 Zh (f2 (fC (.int 10)) (fC (.int 40)) (Z3 .Pow)) zG) zx))
  (sIf (wQ (fT (zX (aC (zX (aC (zX zad vz) (aC Zq aN)) vB) (aC (fC (.bl false)) aN)) xF))) (yX (fC (.bl false))) sNx))))))
  (zR (yq true 7 (yw (dC yN dN)))
  (zR (Wx (xR (aC (fC (.int 55)) aN) xW) (gN 8) (yq true 7 (f2 (zZ (dC (yw (dC v4 dN)) (dC (zZ (dC v4 dN)) dN))) (f2 (fV 8) wG zG) ixP)))
  (zR (zdg zV (gT 6 (gsC (gN 9) (gsC (gN 10) (gsC (gN 11) (gsC (gN 12) (gsC (gN 13) (gsC (gN 14) gsN))))))))
  (zR (yq true 3 (zZ (dC v4 (dC (yw (dC v4 (dC (fV 10) (dC vQ (dC (fV 12) (dC (fV 13) (dC (fV 14) dN))))))) (dC (yw (dC (fV 9) (dC (fV 10) (dC (f2 (zZ (dC v4 dN)) (fV 9) zY) (dC (fV 12) (dC (fV 13) (dC (fV 14) dN))))))) dN)))))
  (zR (yq false 3 (f2 yP (zZ (dC (yw (dC (fV 9) (dC (fV 10) (dC vQ (dC v4 (dC (fV 13) (dC (fV 14) dN))))))) (dC (yw (dC (fV 9) (dC (fV 10) (dC vQ (dC (fV 12) (dC (zZ (dC (yw (dC v4 (dC (zZ dN) dN))) dN)) (dC (fV 14) dN))))))) dN))) zx))
  (zR (sIf (zgn (fT (f2 (fV 13) (zZ dN) (yZ .NotEq))) (fT (f2 (fV 14) (zZ dN) (yZ .NotEq)))) (zR (yq true 15 (f2 (zZ (dC (yw (dC (f2 (f2 (fV 13) yN ixP) yN ixP) (dC (f2 (f2 (fV 14) yN ixP) yo ixP) dN))) dN)) (fSl (fV 14) (oS yo) oN slP) zx))
  (zR (wM (vL 3 (dC (yw (dC (fV 9) (dC (fV 10) (dC vQ (dC (fV 12) (dC (fV 13) (dC (f2 (fV 15) (fSl (fV 15) oN (oS yo) slP) zx) dN))))))) dN) vJ))
  (sIf (wQ (fT (zX (aC (yw (dC (fV 9) (dC (fV 10) (dC vQ (dC (fV 12) (dC (fV 13) (dC (fV 15) dN))))))) (aC (fC (.bl true)) aN)) xF))) (yX (fC (.bl false))) sNx))) sNx)
  (zqn 3 (zR (Wx (ziO (f2 yP (zZ (dC (fC .non) (dC yN (dC (fC (.str "")) (dC (yw dN) (dC (zZ dN) (dC fD0 dN))))))) zx)) (gN 16) (sIf (wQ (fT (zX (aC (fV 16) (aC (fC (.bl false)) aN)) xF))) (yX (fC (.bl false))) sNx))
  (yX (fC (.bl true))))))))))))))
def zej : Fn := fnR 17 1 zpP
set_option genInjectivity false in
set_option genSizeOf false in
structure Adr where
 zbr : Addr
 zbT : FuncData
 zcZ : Addr
 zdb : FuncData
 zan : Addr
 zah : FuncData
 zeA : Addr
 zeh : FuncData
 zbw : Addr
 zbm : FuncData
 zar : Addr
 zaj : FuncData
 zbL : Addr
 zbO : FuncData
 zaa : Addr
 V8 : FuncData
 Vc : Addr
 W5 : FuncData
 Wk : Addr
 Wz : FuncData
 zdD : Addr
 zdH : FuncData
 Vn : Addr
 Vk : FuncData
 VP : Addr
 zab : FuncData
 Wj : Addr
 Ww : FuncData
 zbI : Addr
 zbt : FuncData
 W3 : Addr
 Vl : FuncData
 zbz : Addr
 zbE : FuncData
 V1 : Addr
 V5 : FuncData
 zbP : Addr
 zbq : FuncData
 zae : Addr
 VG : FuncData
 Vb : Addr
 Vs : FuncData
 zbp : Addr
 zbK : FuncData
 VJ : Addr
 VR : FuncData
 zas : Addr
 VL : FuncData
 Wq : Addr
 Wn : FuncData
 zbC : Addr
 zbJ : FuncData
 zbV : Addr
 zbD : FuncData
 zcH : Addr
 zcN : FuncData
 XF : Addr
 X3 : FuncData
 XC : Addr
 Xu : FuncData
 Y5 : Addr
 YZ : FuncData
 Xa : Addr
 Y0 : FuncData
 Wt : Addr
 Wu : FuncData
 zbs : Addr
 zbl : FuncData
 znE : Addr
 znH : FuncData
structure Txt (K : zD) (kd : KD) (mg : Str -> Option Value) (t : Adr) : Prop where
 zeV : Fun K "is_whole" "is_whole" Vj t.zbr t.zbT
 zjv : Binds K t.zbT ["thing"] []
 XQ : mg "is_whole" = some (.ref t.zbr)
 zgI : Fun K "is_name" "is_name" WF t.zcZ t.zdb
 zle : Binds K t.zdb ["thing"] []
 WP : mg "is_name" = some (.ref t.zcZ)
 YM : Fun K "is_within" "is_within" Wc t.zan t.zah
 We : Binds K t.zah ["thing", "least", "most"] []
 wJ : mg "is_within" = some (.ref t.zan)
 zfu : Fun K "is_row" "is_row" zao t.zeA t.zeh
 ziG : Binds K t.zeh ["thing", "n"] []
 XX : mg "is_row" = some (.ref t.zeA)
 zby : Fun K "is_table" "is_table" XH t.zbw t.zbm
 zfa : Binds K t.zbm ["thing", "many", "n"] []
 Ze : mg "is_table" = some (.ref t.zbw)
 zdE : Fun K "is_rising" "is_rising" YK t.zar t.zaj
 zio : Binds K t.zaj ["row"] []
 YH : mg "is_rising" = some (.ref t.zar)
 zfs : Fun K "is_named" "is_named" Vd t.zbL t.zbO
 zjs : Binds K t.zbO ["thing"] []
 ZQ : mg "is_named" = some (.ref t.zbL)
 V4 : Fun K "all_named" "all_named" ZZ t.zaa t.V8
 zdt : Binds K t.V8 ["thing", "most"] []
 Zg : mg "all_named" = some (.ref t.zaa)
 zco : Fun K "is_algebra" "is_algebra" Zk t.Vc t.W5
 zhS : Binds K t.W5 ["thing"] []
 Yd : mg "is_algebra" = some (.ref t.Vc)
 ZG : Fun K "_law_cell_at" "_law_cell_at" YC t.Wk t.Wz
 Yy : Binds K t.Wz ["_law_script", "_law_k"] []
 xr : mg "_law_cell_at" = some (.ref t.Wk)
 zpN : Fun K "_law_whole" "_law_whole" zap t.zdD t.zdH
 zpx : Binds K t.zdH ["_law_found"] []
 zpy : mg "_law_whole" = some (.ref t.zdD)
 wV : Fun K "_law_stream" "_law_stream" Xj t.Vn t.Vk
 vm : Binds K t.Vk ["_law_cell", "_law_many"] []
 yp : mg "_law_stream" = some (.ref t.Vn)
 zdx : Fun K "_law_names" "_law_names" YD t.VP t.zab
 zid : Binds K t.zab ["_law_cell", "_law_many"] []
 YJ : mg "_law_names" = some (.ref t.VP)
 zbb : Fun K "_law_divisor" "_law_divisor" YB t.Wj t.Ww
 zgh : Binds K t.Ww ["_law_one", "_law_other"] []
 ZF : mg "_law_divisor" = some (.ref t.Wj)
 zeX : Fun K "_law_sums" "_law_sums" X5 t.zbI t.zbt
 zjC : Binds K t.zbt ["_law_n", "_law_m", "_law_xs"] []
 Xw : mg "_law_sums" = some (.ref t.zbI)
 zcb : Fun K "_law_rising" "_law_rising" Zm t.W3 t.Vl
 zhJ : Binds K t.Vl ["_law_n", "_law_m", "_law_xs"] []
 Z9 : mg "_law_rising" = some (.ref t.W3)
 zfI : Fun K "_law_kept" "_law_kept" Yn t.zbz t.zbE
 zjA : Binds K t.zbE ["_law_n", "_law_m", "_law_xs"] []
 Xy : mg "_law_kept" = some (.ref t.zbz)
 zdM : Fun K "_law_joins" "_law_joins" vh t.V1 t.V5
 ziF : Binds K t.V5 ["_law_kind", "_law_n"] []
 ZW : mg "_law_joins" = some (.ref t.V1)
 zeT : Fun K "_law_rows" "_law_rows" XS t.zbP t.zbq
 zjM : Binds K t.zbq ["_law_kind", "_law_n", "_law_m", "_law_xs"] []
 Yv : mg "_law_rows" = some (.ref t.zbP)
 Wa : Fun K "_law_plain" "_law_plain" YS t.zae t.VG
 zax : Binds K t.VG ["_law_kind", "_law_n", "_law_m", "_law_many", "_law_cell"] []
 wX : mg "_law_plain" = some (.ref t.zae)
 zcd : Fun K "_law_beside" "_law_beside" Yb t.Vb t.Vs
 zhE : Binds K t.Vs ["_law_one", "_law_other", "_law_m"] []
 Z4 : mg "_law_beside" = some (.ref t.Vb)
 zek : Fun K "_law_made" "_law_made" Vr t.zbp t.zbK
 zjf : Binds K t.zbK ["_law_cell", "_law_m", "_law_many"] []
 Xv : mg "_law_made" = some (.ref t.zbp)
 zdv : Fun K "_law_order" "_law_order" Wi t.VJ t.VR
 zin : Binds K t.VR ["_law_cell", "_law_n"] []
 YF : mg "_law_order" = some (.ref t.VJ)
 zdI : Fun K "_law_signs" "_law_signs" YQ t.zas t.VL
 ziw : Binds K t.VL ["_law_cell", "_law_n", "_law_names_here"] []
 Z1 : mg "_law_signs" = some (.ref t.zas)
 zaQ : Fun K "_law_algebra" "_law_algebra" vA t.Wq t.Wn
 zfX : Binds K t.Wn ["_law_cell", "_law_other"] []
 Zy : mg "_law_algebra" = some (.ref t.Wq)
 zfG : Fun K "_law_free" "_law_free" Ys t.zbC t.zbJ
 zjk : Binds K t.zbJ ["_law_algebra_here", "_law_cell"] []
 XJ : mg "_law_free" = some (.ref t.zbC)
 zbM : Fun K "_law_copy" "_law_copy" ZR t.zbV t.zbD
 zeY : Binds K t.zbD ["_law_algebra_here"] []
 vz : mg "_law_copy" = some (.ref t.zbV)
 WM : Fun K "_law_odd" "_law_odd" zaJ t.zcH t.zcN
 zaH : Binds K t.zcN ["_law_n", "_law_x"] []
 vf : mg "_law_odd" = some (.ref t.zcH)
 Z5 : Fun K "_law_bad_rows" "_law_bad_rows" Yc t.XF t.X3
 XD : Binds K t.X3 ["_law_rows_here", "_law_n", "_law_x"] []
 xX : mg "_law_bad_rows" = some (.ref t.XF)
 Yg : Fun K "_law_bad_name" "_law_bad_name" Yi t.XC t.Xu
 X6 : Binds K t.Xu ["_law_x"] []
 wB : mg "_law_bad_name" = some (.ref t.XC)
 Vu : Fun K "_law_bad_deeds" "_law_bad_deeds" vd t.Y5 t.YZ
 zdP : Binds K t.YZ ["_law_algebra_here", "_law_x"] []
 vZ : mg "_law_bad_deeds" = some (.ref t.Y5)
 VB : Fun K "_law_bad_signs" "_law_bad_signs" vW t.Xa t.Y0
 zdV : Binds K t.Y0 ["_law_algebra_here", "_law_x"] []
 vX : mg "_law_bad_signs" = some (.ref t.Xa)
 zbi : Fun K "_law_spoiled" "_law_spoiled" Yw t.Wt t.Wu
 zfT : Binds K t.Wu ["_law_algebra_here", "_law_x"] []
 vB : mg "_law_spoiled" = some (.ref t.Wt)
 Xr : Fun K "_law_told" "_law_told" W4 t.zbs t.zbl
 Va : Binds K t.zbl ["_law_thing", "_law_due"] []
 xF : mg "_law_told" = some (.ref t.zbs)
 zsB : Fun K "law" "law" zku t.znE t.znH
 ztH : Binds K t.znH ["_law_script"] []
 zej : mg "law" = some (.ref t.znE)
 zfY : GC K kd mg "MOST_AROUND" (.int 6)
 zgW : GC K kd mg "MOST_DEEDS" (.int 6)
 zes : GC K kd mg "MOST_LETTERS" (.int 8)
 zgU : GC K kd mg "MOST_SIGNS" (.int 4)
 zgd : GC K kd mg "MOST_VALUES" (.int 8)
 zdS : GC K kd mg "SMALL_LETTERS" (.str "abcdefghijklmnopqrstuvwxyz")
 zfK : mg "all" = none
 zlR : mg "bool" = none
 zms : mg "int" = none
 wW : mg "isinstance" = none
 Zx : mg "len" = none
 XR : mg "list" = none
 zsl : mg "max" = none
 yL : mg "range" = none
 zso : mg "set" = none
 znJ : mg "sorted" = none
 zpH : mg "str" = none
 zaE : mg "tuple" = none
 znG : mg "zip" = none
set_option maxHeartbeats 8000000
section
variable {P : Program} {w : World} {K : zD} {mg : Str -> Option Value} {base : Heap} {kd : KD} {t : Adr}
theorem zjD (T : Txt K kd mg t) (hkd : KD1 P w K kd) : FnOk P w K mg base CX0 1 t.zbr t.zbT ["thing"] (spD K kd XQ) := by
 refine wL (N := zeZ) (ps := ["thing"]) (k := 0) (c := zeE) T.zeV ziN λ cdv A outer s H E hr => ?_
 exact (zH (ym (zaw (Vo (hkd _ rfl rfl rfl) rfl rfl T.wW Bt.isinstance rfl T.zms Bt.int (av 0) (Bt.n _ rfl) (by decide) (Bt.n _ rfl) (by decide) rfl rfl rfl) (zbo (zqi (Vo (hkd _ rfl rfl rfl) rfl rfl T.wW Bt.isinstance rfl T.zlR Bt.bool (av 0) (Bt.n _ rfl) (by decide) (Bt.n _ rfl) (by decide) rfl rfl rfl))))))
theorem zls (T : Txt K kd mg t) (hkd : KD1 P w K kd) : FnOk P w K mg base CX0 1 t.zcZ t.zdb ["thing"] (spD K kd WP) := by
 refine wL (N := zcV) (ps := ["thing"]) (k := 0) (c := zgw) T.zgI zjN λ cdv A outer s H E hr => ?_
 exact (by
  refine zm ?_ ?_; exact (wO (AW.at_ (V0 (Zt (Zo (Vo (hkd _ rfl rfl rfl) rfl rfl T.wW Bt.isinstance rfl T.zpH Bt.str (av 0) (Bt.n _ rfl) (by decide) (Bt.n _ rfl) (by decide) rfl rfl rfl) (λ _ => rfl))) (V0 (xZ (yR (hkd _ rfl rfl rfl) (xV hr) .Lt) (yW .Lt) (ww (xM (hkd _ rfl rfl rfl)) rfl T.Zx Bt.len (zf (av 0) zu (za rfl)) (Bt.n _ rfl) (by decide) rfl rfl) aI (xf _)) (Zj (xZ (yR (hkd _ rfl rfl rfl) (xV hr) .Gt) (yW .Gt) (ww (xM (hkd _ rfl rfl rfl)) rfl T.Zx Bt.len (zf (av 0) zu (za rfl)) (Bt.n _ rfl) (by decide) rfl rfl) (zdi T.zes rfl (by decide)) (xf _)))))) (zH (ym aB)) yS)
  exact zH (ym (ww (Yu rfl) rfl T.zfK Bt.all (zf (yJ (N := ["letter"]) (cap := [none]) (S := [0]) rfl (zjX (av 0)) rfl (by change wu _ zcV _ (zy WF).names _ = true; decide +kernel) (by decide) (λ cl s H fp => (an 0 zhG)) (λ cl s H fp => yt) (λ cl s H fp => (zac (yR (hkd _ rfl rfl rfl) (xV hr) .In) (av 0) (zdi T.zdS rfl (by decide)) rfl)) (λ _ => rfl)) zu (za rfl)) (Bt.n _ rfl) (by decide) rfl rfl)))
theorem Wf (T : Txt K kd mg t) (hkd : KD1 P w K kd) : FnOk P w K mg base CX0 2 t.zan t.zah ["thing", "least", "most"] (spD K kd wJ) := by
 refine wL (N := zdA) (ps := ["thing", "least", "most"]) (k := 1) (c := zdo) T.YM zha λ cdv A outer s H E hr => ?_
 exact (zH (ym (zaw (zT (zjD T hkd) (hr.mono (by omega)) rfl T.XQ T.zeV.kp T.zjv yM (zf (av 0) zu (za rfl)) (by decide) rfl rfl) (zbo (znz (yR (hkd _ rfl rfl rfl) (xV hr) .LtE) (yR (hkd _ rfl rfl rfl) (xV hr) .LtE) (av 1) (av 0) (av 2) (by with_unfolding_all rfl))))))
theorem ziS (T : Txt K kd mg t) (hkd : KD1 P w K kd) : FnOk P w K mg base CX0 3 t.zeA t.zeh ["thing", "n"] (spD K kd XX) := by
 refine wL (N := zeW) (ps := ["thing", "n"]) (k := 2) (c := ziu) T.zfu zlu λ cdv A outer s H E hr => ?_
 exact (zH (ym (zaw (Vo (hkd _ rfl rfl rfl) rfl rfl T.wW Bt.isinstance rfl T.XR Bt.list (av 0) (Bt.n _ rfl) (by decide) (Bt.n _ rfl) (by decide) rfl rfl rfl) (zbo (ww (Yu rfl) rfl T.zfK Bt.all (zf (yJ (N := ["value", "n"]) (cap := [none, some 1]) (S := [0]) rfl (Yk (av 0)) rfl (by change wu _ zeW _ (zy zao).names _ = true; decide +kernel) (by decide) (λ cl s H fp => (an 0 ziL)) (λ cl s H fp => yt) (λ cl s H fp => (zT (Wf T hkd) (hr.mono (by omega)) rfl T.wJ T.YM.kp T.We yM (by refine zf ?_ ?_ ?_; exact (av 0); refine zf ?_ ?_ ?_; exact aI; refine zf ?_ ?_ ?_; exact (zr (zq .Sub) (av 1) aI); exact zu; exact za rfl; exact za rfl; exact za rfl) (by decide) rfl rfl)) (λ _ => rfl)) zu (za rfl)) (Bt.n _ rfl) (by decide) rfl rfl)))))
theorem zfp (T : Txt K kd mg t) (hkd : KD1 P w K kd) : FnOk P w K mg base CX0 4 t.zbw t.zbm ["thing", "many", "n"] (spD K kd Ze) := by
 refine wL (N := zbx) (ps := ["thing", "many", "n"]) (k := 3) (c := zfJ) T.zby ziW λ cdv A outer s H E hr => ?_
 exact (by
  refine zm ?_ ?_; exact (wO (AW.at_ (V0 (Zt (Zo (Vo (hkd _ rfl rfl rfl) rfl rfl T.wW Bt.isinstance rfl T.XR Bt.list (av 0) (Bt.n _ rfl) (by decide) (Bt.n _ rfl) (by decide) rfl rfl rfl) (λ _ => rfl))) (Zj (xZ (yR (hkd _ rfl rfl rfl) (xV hr) .NotEq) (yW .NotEq) (ww (xM (hkd _ rfl rfl rfl)) rfl T.Zx Bt.len (zf (av 0) zu (za rfl)) (Bt.n _ rfl) (by decide) rfl rfl) (av 1) (xf _))))) (zH (ym aB)) yS)
  exact zH (ym (ww (Yu rfl) rfl T.zfK Bt.all (zf (yJ (N := ["row", "n"]) (cap := [none, some 2]) (S := [0]) rfl (Yk (av 0)) rfl (by change wu _ zbx _ (zy XH).names _ = true; decide +kernel) (by decide) (λ cl s H fp => (an 0 zge)) (λ cl s H fp => yt) (λ cl s H fp => (zaw (zT (ziS T hkd) (hr.mono (by omega)) rfl T.XX T.zfu.kp T.ziG yM (zf (av 0) (zf (av 1) zu (za rfl)) (za rfl)) (by decide) rfl rfl) (zbo (zac (yR (hkd _ rfl rfl rfl) (xV hr) .Eq) (ww (xM (hkd _ rfl rfl rfl)) rfl T.Zx Bt.len (zf (av 0) zu (za rfl)) (Bt.n _ rfl) (by decide) rfl rfl) (av 1) (xf _))))) (λ _ => rfl)) zu (za rfl)) (Bt.n _ rfl) (by decide) rfl rfl)))
theorem ziH (T : Txt K kd mg t) (hkd : KD1 P w K kd) : FnOk P w K mg base CX0 1 t.zar t.zaj ["row"] (spD K kd YH) := by
 refine wL (N := V6) (ps := ["row"]) (k := 0) (c := zdp) T.zdE zgV λ cdv A outer s H E hr => ?_
 exact (zH (ym (ww (Yu rfl) rfl T.zfK Bt.all (zf (yJ (N := ["k", "row"]) (cap := [none, some 0]) (S := [0]) rfl (yH rfl T.yL (zf (zr (zq .Sub) (ww (xM (hkd _ rfl rfl rfl)) rfl T.Zx Bt.len (zf (av 0) zu (za rfl)) (Bt.n _ rfl) (by decide) rfl rfl) aI) zu (za rfl)) rfl) rfl (by change wu _ V6 _ (zy YK).names _ = true; decide +kernel) (by decide) (λ cl s H fp => (an 0 zem)) (λ cl s H fp => yt) (λ cl s H fp => (zac (yR (hkd _ rfl rfl rfl) (xV hr) .Lt) (ax hkd (av 1) (av 0)) (ax hkd (av 1) (zr (zq .Add) (av 0) aI)) (xf _))) (λ _ => rfl)) zu (za rfl)) (Bt.n _ rfl) (by decide) rfl rfl)))
theorem zjR (T : Txt K kd mg t) (hkd : KD1 P w K kd) : FnOk P w K mg base CX0 2 t.zbL t.zbO ["thing"] (spD K kd ZQ) := by
 refine wL (N := zfF) (ps := ["thing"]) (k := 1) (c := zfc) T.zfs ziQ λ cdv A outer s H E hr => ?_
 exact (zH (ym (zaw (Vo (hkd _ rfl rfl rfl) rfl rfl T.wW Bt.isinstance rfl T.zaE Bt.tuple (av 0) (Bt.n _ rfl) (by decide) (Bt.n _ rfl) (by decide) rfl rfl rfl) (zaw (zac (yR (hkd _ rfl rfl rfl) (xV hr) .Eq) (ww (xM (hkd _ rfl rfl rfl)) rfl T.Zx Bt.len (zf (av 0) zu (za rfl)) (Bt.n _ rfl) (by decide) rfl rfl) aI (xf _)) (zbo (zT (zls T hkd) (hr.mono (by omega)) rfl T.WP T.zgI.kp T.zle yM (zf (ax hkd (av 0) aI) zu (za rfl)) (by decide) rfl rfl))))))
theorem zdz (T : Txt K kd mg t) (hkd : KD1 P w K kd) : FnOk P w K mg base CX0 3 t.zaa t.V8 ["thing", "most"] (spD K kd Zg) := by
 refine wL (N := Wd) (ps := ["thing", "most"]) (k := 2) (c := zdy) T.V4 zho λ cdv A outer s H E hr => ?_
 exact (by
  refine zm ?_ ?_; exact (wO (AW.at_ (V0 (Zt (Zo (Vo (hkd _ rfl rfl rfl) rfl rfl T.wW Bt.isinstance rfl T.XR Bt.list (av 0) (Bt.n _ rfl) (by decide) (Bt.n _ rfl) (by decide) rfl rfl rfl) (λ _ => rfl))) (V0 (xZ (yR (hkd _ rfl rfl rfl) (xV hr) .Gt) (yW .Gt) (ww (xM (hkd _ rfl rfl rfl)) rfl T.Zx Bt.len (zf (av 0) zu (za rfl)) (Bt.n _ rfl) (by decide) rfl rfl) (av 1) (xf _)) (Zj (Zt (Zo (ww (Yu rfl) rfl T.zfK Bt.all (zf (yJ (N := ["part"]) (cap := [none]) (S := [0]) rfl (Yk (av 0)) rfl (by change wu _ Wd _ (zy ZZ).names _ = true; decide +kernel) (by decide) (λ cl s H fp => (an 0 zfE)) (λ cl s H fp => yt) (λ cl s H fp => (zT (zjR T hkd) (hr.mono (by omega)) rfl T.ZQ T.zfs.kp T.zjs yM (zf (av 0) zu (za rfl)) (by decide) rfl rfl)) (λ _ => rfl)) zu (za rfl)) (Bt.n _ rfl) (by decide) rfl rfl) (λ _ => rfl))))))) (zH (ym aB)) yS)
  exact zH (ym (zac (yR (hkd _ rfl rfl rfl) (xV hr) .Eq) (zlc rfl rfl T.zso rfl T.Zx (zf (yJ (N := ["part"]) (cap := [none]) (S := [0]) rfl (Yk (av 0)) rfl (by change wu _ Wd _ (zy ZZ).names _ = true; decide +kernel) (by decide) (λ cl s H fp => (an 0 zff)) (λ cl s H fp => yt) (λ cl s H fp => (ax hkd (av 0) aI)) (λ _ => rfl)) zu (za rfl)) rfl rfl) (ww (xM (hkd _ rfl rfl rfl)) rfl T.Zx Bt.len (zf (av 0) zu (za rfl)) (Bt.n _ rfl) (by decide) rfl rfl) (xf _))))
theorem zhQ (T : Txt K kd mg t) (hkd : KD1 P w K kd) : FnOk P w K mg base CX0 5 t.Vc t.W5 ["thing"] (spD K kd Yd) := by
 refine wL (N := Xe) (ps := ["thing"]) (k := 4) (c := zcv) T.zco Wv λ cdv A outer s H E hr => ?_
 exact (by
  refine zm ?_ ?_; exact (wO (AW.at_ (V0 (Zt (Zo (Vo (hkd _ rfl rfl rfl) rfl rfl T.wW Bt.isinstance rfl T.zaE Bt.tuple (av 0) (Bt.n _ rfl) (by decide) (Bt.n _ rfl) (by decide) rfl rfl rfl) (λ _ => rfl))) (Zj (xZ (yR (hkd _ rfl rfl rfl) (xV hr) .NotEq) (yW .NotEq) (ww (xM (hkd _ rfl rfl rfl)) rfl T.Zx Bt.len (zf (av 0) zu (za rfl)) (Bt.n _ rfl) (by decide) rfl rfl) aI (xf _))))) (zH (ym aB)) yS)
  refine zm ?_ ?_; exact (by refine sv true 1 Wv.nd ?_; exact (ax hkd (av 0) aI))
  refine zm ?_ ?_; exact (by refine sv true 2 Wv.nd ?_; exact (ax hkd (av 0) aI))
  refine zm ?_ ?_; exact (wO (AW.at_ (V0 (Zt (Zo (zT (Wf T hkd) (hr.mono (by omega)) rfl T.wJ T.YM.kp T.We yM (by refine zf ?_ ?_ ?_; exact (av 1); refine zf ?_ ?_ ?_; exact aI; refine zf ?_ ?_ ?_; exact (zdi T.zgd rfl (by decide)); exact zu; exact za rfl; exact za rfl; exact za rfl) (by decide) rfl rfl) (λ _ => rfl))) (Zj (Zt (Zo (zT (Wf T hkd) (hr.mono (by omega)) rfl T.wJ T.YM.kp T.We yM (by refine zf ?_ ?_ ?_; exact (av 2); refine zf ?_ ?_ ?_; exact aI; refine zf ?_ ?_ ?_; exact (zdi T.zfY rfl (by decide)); exact zu; exact za rfl; exact za rfl; exact za rfl) (by decide) rfl rfl) (λ _ => rfl)))))) (zH (ym aB)) yS)
  refine zm ?_ ?_; exact (wO (AW.at_ (V0 (Zt (Zo (zT (zfp T hkd) (hr.mono (by omega)) rfl T.Ze T.zby.kp T.zfa yM (by refine zf ?_ ?_ ?_; exact (ax hkd (av 0) aI); refine zf ?_ ?_ ?_; exact (av 1); refine zf ?_ ?_ ?_; exact (av 1); exact zu; exact za rfl; exact za rfl; exact za rfl) (by decide) rfl rfl) (λ _ => rfl))) (Zj (Zt (Zo (zT (Wf T hkd) (hr.mono (by omega)) rfl T.wJ T.YM.kp T.We yM (by refine zf ?_ ?_ ?_; exact (ax hkd (av 0) aI); refine zf ?_ ?_ ?_; exact aI; refine zf ?_ ?_ ?_; exact (zr (zq .Sub) (av 1) aI); exact zu; exact za rfl; exact za rfl; exact za rfl) (by decide) rfl rfl) (λ _ => rfl)))))) (zH (ym aB)) yS)
  refine zm ?_ ?_; exact (wO (AW.at_ (V0 (Zt (Zo (zT (zdz T hkd) (hr.mono (by omega)) rfl T.Zg T.V4.kp T.zdt yM (zf (ax hkd (av 0) aI) (zf (zdi T.zgW rfl (by decide)) zu (za rfl)) (za rfl)) (by decide) rfl rfl) (λ _ => rfl))) (Zj (Zt (Zo (zT (zdz T hkd) (hr.mono (by omega)) rfl T.Zg T.V4.kp T.zdt yM (zf (ax hkd (av 0) aI) (zf (zdi T.zgU rfl (by decide)) zu (za rfl)) (za rfl)) (by decide) rfl rfl) (λ _ => rfl)))))) (zH (ym aB)) yS)
  refine zm ?_ ?_; exact (wO (Zt (Zo (ww (Yu rfl) rfl T.zfK Bt.all (zf (yJ (N := ["deed", "m", "n"]) (cap := [none, some 2, some 1]) (S := [0]) rfl (Yk (ax hkd (av 0) aI)) rfl (by change wu _ Xe _ (zy Zk).names _ = true; decide +kernel) (by decide) (λ cl s H fp => (an 0 zea)) (λ cl s H fp => yt) (λ cl s H fp => (zT (zfp T hkd) (hr.mono (by omega)) rfl T.Ze T.zby.kp T.zfa yM (by refine zf ?_ ?_ ?_; exact (ax hkd (av 0) aI); refine zf ?_ ?_ ?_; exact (av 1); refine zf ?_ ?_ ?_; exact (av 2); exact zu; exact za rfl; exact za rfl; exact za rfl) (by decide) rfl rfl)) (λ _ => rfl)) zu (za rfl)) (Bt.n _ rfl) (by decide) rfl rfl) (λ _ => rfl))) (zH (ym aB)) yS)
  exact zH (ym (ww (Yu rfl) rfl T.zfK Bt.all (zf (yJ (N := ["sign", "n"]) (cap := [none, some 1]) (S := [0]) rfl (Yk (ax hkd (av 0) aI)) rfl (by change wu _ Xe _ (zy Zk).names _ = true; decide +kernel) (by decide) (λ cl s H fp => (an 0 zdQ)) (λ cl s H fp => yt) (λ cl s H fp => (zaw (zT (ziS T hkd) (hr.mono (by omega)) rfl T.XX T.zfu.kp T.ziG yM (zf (ax hkd (av 0) aI) (zf (av 1) zu (za rfl)) (za rfl)) (by decide) rfl rfl) (zbo (zT (ziH T hkd) (hr.mono (by omega)) rfl T.YH T.zdE.kp T.zio yM (zf (ax hkd (av 0) aI) zu (za rfl)) (by decide) rfl rfl)))) (λ _ => rfl)) zu (za rfl)) (Bt.n _ rfl) (by decide) rfl rfl)))
theorem Yx (T : Txt K kd mg t) (hkd : KD1 P w K kd) : FnOk P w K mg base CX0 1 t.Wk t.Wz ["_law_script", "_law_k"] (spD K kd xr) := by
 refine wL (N := zaV) (ps := ["_law_script", "_law_k"]) (k := 0) (c := zaZ) T.ZG zfB λ cdv A outer s H E hr => ?_
 exact (by
  refine zm ?_ ?_; exact (wO (xZ (yR (hkd _ rfl rfl rfl) (xV hr) .Lt) (yW .Lt) (av 1) (ww (xM (hkd _ rfl rfl rfl)) rfl T.Zx Bt.len (zf (av 0) zu (za rfl)) (Bt.n _ rfl) (by decide) rfl rfl) (xf _)) (zH (ym (ax hkd (av 0) (av 1)))) yS)
  exact zH (ym aI))
theorem vo (T : Txt K kd mg t) (hkd : KD1 P w K kd) : FnOk P w K mg base CX0 1 t.Vn t.Vk ["_law_cell", "_law_many"] (spD K kd yp) := by
 refine wL (N := zcc) (ps := ["_law_cell", "_law_many"]) (k := 0) (c := zbZ) T.wV Zv λ cdv A outer s H E hr => ?_
 exact (by
  refine zm ?_ ?_; exact (by refine sv false 2 Zv.nd ?_; exact (zK zp))
  refine zm ?_ ?_; exact (by refine sv true 3 Zv.nd ?_; exact (zr (zq .Add) (zr (zq .Mod) (av 0) aI) aI))
  refine zm ?_ ?_; exact (ZS PassesOwn.never rfl (ZV rfl T.yL (zf (zr (zq .Add) (av 1) aI) zu (za rfl)) rfl) (an 4 Zv.nd) (by
  refine zm ?_ ?_; exact (by refine sv true 3 Zv.nd ?_; exact (zr (zq .Mod) (zr (zq .Add) (zr (zq .Add) (zr (zq .Mult) (av 3) (av 3)) (zr (zq .Mult) aI (av 3))) (av 4)) aI))
  exact zH (ZL (Yt vg Xb PySem.F.slot_list_append PySem.F.type_list_append (pv 2) (zb (zr (zq .Mod) (zr (zq .Add) (zr (zq .Mult) (av 3) aI) (zr (zq .Mult) aI (av 4))) aI) zp (za rfl)) rfl rfl rfl rfl rfl) rfl)) (λ _ => rfl))
  exact zH (ym (wC (av 2) (wy aI) wR)))
theorem zje (T : Txt K kd mg t) (hkd : KD1 P w K kd) : FnOk P w K mg base CX0 2 t.VP t.zab ["_law_cell", "_law_many"] (spD K kd YJ) := by
 refine wL (N := zai) (ps := ["_law_cell", "_law_many"]) (k := 1) (c := zds) T.zdx vU λ cdv A outer s H E hr => ?_
 exact (by
  refine zm ?_ ?_; exact (by refine sv true 2 vU.nd ?_; exact aS)
  refine zm ?_ ?_; exact (by refine sv true 3 vU.nd ?_; exact (zT (vo T hkd) (hr.mono (by omega)) rfl T.yp T.wV.kp T.vm yM (zf (av 0) (zf aI zu (za rfl)) (za rfl)) (by decide) rfl rfl))
  refine zm ?_ ?_; exact (by refine sv true 4 vU.nd ?_; exact (zhP (ty := .str) (hkd _ rfl rfl rfl) zps PySem.F.plainAttrs_str PySem.F.slot_str_join PySem.F.type_str_join aS (zf (yJ (N := ["_law_x", "_law_letters"]) (cap := [none, some 2]) (S := [0]) rfl (Yk (wC (av 3) wR (wy (zr (zq .Add) aI (zr (zq .Mod) (av 0) aI))))) rfl (by change wu _ zai _ (zy YD).names _ = true; decide +kernel) (by decide) (λ cl s H fp => (an 0 zeC)) (λ cl s H fp => yt) (λ cl s H fp => (ax hkd (av 1) (zr (zq .Mod) (av 0) aI))) (λ _ => rfl)) zu (za rfl)) rfl rfl rfl rfl rfl))
  refine zm ?_ ?_; exact (by refine sv true 5 vU.nd ?_; exact (zr (zq .Mod) (zr (zq .FloorDiv) (av 0) aI) (ww (xM (hkd _ rfl rfl rfl)) rfl T.Zx Bt.len (zf (av 4) zu (za rfl)) (Bt.n _ rfl) (by decide) rfl rfl)))
  refine zm ?_ ?_; exact (by refine sv false 6 vU.nd ?_; exact (zK zp))
  refine zm ?_ ?_; exact (ZS PassesOwn.never rfl (ZV rfl T.yL (zf (av 1) zu (za rfl)) rfl) (an 7 vU.nd) (zH (ZL (Yt vg Xb PySem.F.slot_list_append PySem.F.type_list_append (pv 6) (zb (zr (zq .Add) (zr (zq .Add) (zgG (av 4) wR (wy (av 5))) (ax hkd (av 2) (zr (zq .Mod) (zr (zq .Add) (ax hkd (av 3) aI) (zr (zq .Mult) aI (av 7))) aI))) (zgG (av 4) (wy (zr (zq .Add) (av 5) aI)) wR)) zp (za rfl)) rfl rfl rfl rfl rfl) rfl)) (λ _ => rfl))
  exact zH (ym (av 6)))
theorem zfR (T : Txt K kd mg t) (hkd : KD1 P w K kd) : FnOk P w K mg base CX0 1 t.Wj t.Ww ["_law_one", "_law_other"] (spD K kd ZF) := by
 refine wL (N := zba) (ps := ["_law_one", "_law_other"]) (k := 0) (c := zbg) T.zbb V7 λ cdv A outer s H E hr => ?_
 exact (by
  refine zm ?_ ?_; exact (znh (n := 10000) PassesOwn.never (xZ (yR (hkd _ rfl rfl rfl) (xV hr) .Gt) (yW .Gt) (av 1) aI (xf _)) (zH (zrx (i := 0) (j := 1) rfl V7.nd rfl rfl (by decide) rfl rfl (zb (av 1) (zb (zr (zq .Mod) (av 0) (av 1)) zp (za rfl)) (za rfl)) rfl rfl)))
  exact zH (ym (av 0)))
theorem zjy (T : Txt K kd mg t) (hkd : KD1 P w K kd) : FnOk P w K mg base CX0 2 t.zbI t.zbt ["_law_n", "_law_m", "_law_xs"] (spD K kd Xw) := by
 refine wL (N := zbA) (ps := ["_law_n", "_law_m", "_law_xs"]) (k := 1) (c := zfO) T.zeX Wg λ cdv A outer s H E hr => ?_
 exact (by
  refine zm ?_ ?_; exact (by refine sv true 3 Wg.nd ?_; exact (zr (zq .FloorDiv) (av 0) (zT (zfR T hkd) (hr.mono (by omega)) rfl T.ZF T.zbb.kp T.zgh yM (zf (av 0) (zf (av 1) zu (za rfl)) (za rfl)) (by decide) rfl rfl)))
  refine zm ?_ ?_; exact (by refine sv false 4 Wg.nd ?_; exact (zK zp))
  refine zm ?_ ?_; exact (ZS PassesOwn.never rfl (ZV rfl T.yL (zf (av 1) zu (za rfl)) rfl) (an 5 Wg.nd) (zH (ZL (Yt vg Xb PySem.F.slot_list_append PySem.F.type_list_append (pv 4) (zb (yJ (N := ["_law_a", "_law_n", "_law_xs", "_law_c", "_law_step"]) (cap := [none, some 0, some 2, some 5, some 3]) (S := [0]) rfl (yH rfl T.yL (zf (av 0) zu (za rfl)) rfl) rfl (by change wu _ zbA _ (zy X5).names _ = true; decide +kernel) (by decide) (λ cl s H fp => (an 0 zgj)) (λ cl s H fp => yt) (λ cl s H fp => (zr (zq .Mod) (zr (zq .Add) (zr (zq .Mult) (av 0) (ax hkd (av 2) aI)) (zr (zq .Mult) (zr (zq .Mult) (av 3) (av 4)) (ax hkd (av 2) aI))) (av 1))) (λ _ => rfl)) zp (za rfl)) rfl rfl rfl rfl rfl) rfl)) (λ _ => rfl))
  exact zH (ym (av 4)))
theorem zhM (T : Txt K kd mg t) (hkd : KD1 P w K kd) : FnOk P w K mg base CX0 1 t.W3 t.Vl ["_law_n", "_law_m", "_law_xs"] (spD K kd Z9) := by
 refine wL (N := Xl) (ps := ["_law_n", "_law_m", "_law_xs"]) (k := 0) (c := zcn) T.zcb zbc λ cdv A outer s H E hr => ?_
 exact (by
  refine zm ?_ ?_; exact (by refine sv false 3 zbc.nd ?_; exact (ww zkg rfl T.znJ Bt.sorted (zf (zr (zq .Add) (zK (zb aI zp (za rfl))) (yJ (N := ["_law_k", "_law_n", "_law_xs"]) (cap := [none, some 0, some 2]) (S := [0]) rfl (yH rfl T.yL (zf (zr (zq .Sub) (av 0) aI) zu (za rfl)) rfl) rfl (by change wu _ Xl _ (zy Zm).names _ = true; decide +kernel) (by decide) (λ cl s H fp => (an 0 zdO)) (λ cl s H fp => yt) (λ cl s H fp => (zr (zq .Mod) (ax hkd (av 2) (av 0)) (av 1))) (λ _ => rfl))) zu (za rfl)) (Bt.n _ rfl) (by decide) rfl rfl))
  refine zm ?_ ?_; exact (zoy (pv 3) zmn zmn (λ _ => rfl) rfl rfl rfl)
  exact zH (ym (yJ (N := ["_law_c", "_law_row"]) (cap := [none, some 3]) (S := [0]) rfl (yH rfl T.yL (zf (av 1) zu (za rfl)) rfl) rfl (by change wu _ Xl _ (zy Zm).names _ = true; decide +kernel) (by decide) (λ cl s H fp => (an 0 zec)) (λ cl s H fp => yt) (λ cl s H fp => (Yq Xn rfl T.XR Bt.list (zf (av 1) zu (za rfl)) (Bt.n _ rfl) (by decide) rfl rfl)) (λ _ => rfl))))
theorem zjp (T : Txt K kd mg t) (hkd : KD1 P w K kd) : FnOk P w K mg base CX0 1 t.zbz t.zbE ["_law_n", "_law_m", "_law_xs"] (spD K kd Xy) := by
 refine wL (N := Vm) (ps := ["_law_n", "_law_m", "_law_xs"]) (k := 0) (c := zfj) T.zfI zdB λ cdv A outer s H E hr => ?_
 exact (by
  refine zm ?_ ?_; exact (by refine sv true 3 zdB.nd ?_; exact (zr (zq .Add) (zK (zb aI zp (za rfl))) (yJ (N := ["_law_k", "_law_xs", "_law_n"]) (cap := [none, some 2, some 0]) (S := [0]) rfl (yH rfl T.yL (zf (zr (zq .Sub) (av 0) aI) zu (za rfl)) rfl) rfl (by change wu _ Vm _ (zy Yn).names _ = true; decide +kernel) (by decide) (λ cl s H fp => (an 0 zfU)) (λ cl s H fp => yt) (λ cl s H fp => (zr (zq .Add) aI (zr (zq .Mod) (ax hkd (av 1) (av 0)) (zr (zq .Sub) (av 2) aI)))) (λ _ => rfl))))
  exact zH (ym (yJ (N := ["_law_c", "_law_row"]) (cap := [none, some 3]) (S := [0]) rfl (yH rfl T.yL (zf (av 1) zu (za rfl)) rfl) rfl (by change wu _ Vm _ (zy Yn).names _ = true; decide +kernel) (by decide) (λ cl s H fp => (an 0 zfQ)) (λ cl s H fp => yt) (λ cl s H fp => (Yq Xn rfl T.XR Bt.list (zf (av 1) zu (za rfl)) (Bt.n _ rfl) (by decide) rfl rfl)) (λ _ => rfl))))
theorem zim (T : Txt K kd mg t) (hkd : KD1 P w K kd) : FnOk P w K mg base CX0 1 t.V1 t.V5 ["_law_kind", "_law_n"] (spD K kd ZW) := by
 refine wL (N := Zb) (ps := ["_law_kind", "_law_n"]) (k := 0) (c := zdu) T.zdM zcw λ cdv A outer s H E hr => ?_
 exact (by
  refine zm ?_ ?_; exact (wO (xZ (yR (hkd _ rfl rfl rfl) (xV hr) .Eq) (yW .Eq) (av 0) aI (xf _)) (zH (ym (yJ (N := ["_law_a", "_law_n"]) (cap := [none, some 1]) (S := [0]) rfl (yH rfl T.yL (zf (av 1) zu (za rfl)) rfl) rfl (by change wu _ Zb _ (zy vh).names _ = true; decide +kernel) (by decide) (λ cl s H fp => (an 0 zeO)) (λ cl s H fp => yt) (λ cl s H fp => (yJ (N := ["_law_b", "_law_n", "_law_a"]) (cap := [none, some 1, some 0]) (S := [0]) rfl (yH rfl T.yL (zf (av 1) zu (za rfl)) rfl) rfl (by with_unfolding_all rfl) (by decide) (λ cl s H fp => (an 0 zeM)) (λ cl s H fp => yt) (λ cl s H fp => (zr (zq .Mod) (zr (zq .Add) (av 2) (av 0)) (av 1))) (λ _ => rfl))) (λ _ => rfl)))) yS)
  refine zm ?_ ?_; exact (wO (xZ (yR (hkd _ rfl rfl rfl) (xV hr) .Eq) (yW .Eq) (av 0) aI (xf _)) (zH (ym (yJ (N := ["_law_a", "_law_n"]) (cap := [none, some 1]) (S := [0]) rfl (yH rfl T.yL (zf (av 1) zu (za rfl)) rfl) rfl (by change wu _ Zb _ (zy vh).names _ = true; decide +kernel) (by decide) (λ cl s H fp => (an 0 zeK)) (λ cl s H fp => yt) (λ cl s H fp => (yJ (N := ["_law_b", "_law_a"]) (cap := [none, some 0]) (S := [0]) rfl (yH rfl T.yL (zf (av 1) zu (za rfl)) rfl) rfl (by with_unfolding_all rfl) (by decide) (λ cl s H fp => (an 0 zfH)) (λ cl s H fp => yt) (λ cl s H fp => (ww (zlM rfl) rfl T.zsl Bt.max (zf (av 1) (zf (av 0) zu (za rfl)) (za rfl)) (Bt.n _ rfl) (by decide) rfl rfl)) (λ _ => rfl))) (λ _ => rfl)))) yS)
  refine zm ?_ ?_; exact (wO (xZ (yR (hkd _ rfl rfl rfl) (xV hr) .Eq) (yW .Eq) (av 0) aI (xf _)) (zH (ym (yJ (N := ["_law_a", "_law_n"]) (cap := [none, some 1]) (S := [0]) rfl (yH rfl T.yL (zf (av 1) zu (za rfl)) rfl) rfl (by change wu _ Zb _ (zy vh).names _ = true; decide +kernel) (by decide) (λ cl s H fp => (an 0 zfo)) (λ cl s H fp => yt) (λ cl s H fp => (yJ (N := ["_law_b", "_law_a"]) (cap := [none, some 0]) (S := [0]) rfl (yH rfl T.yL (zf (av 1) zu (za rfl)) rfl) rfl (by with_unfolding_all rfl) (by decide) (λ cl s H fp => (an 0 zep)) (λ cl s H fp => yt) (λ cl s H fp => (ax hkd (zK (zb (av 0) (zb (av 1) zp (za rfl)) (za rfl))) (Yq zfM rfl T.zms Bt.int (zf (zac (yR (hkd _ rfl rfl rfl) (xV hr) .Eq) (av 0) aI (xf _)) zu (za rfl)) (Bt.n _ rfl) (by decide) rfl rfl))) (λ _ => rfl))) (λ _ => rfl)))) yS)
  refine zm ?_ ?_; exact (wO (xZ (yR (hkd _ rfl rfl rfl) (xV hr) .Eq) (yW .Eq) (av 0) aI (xf _)) (zH (ym (yJ (N := ["_law_a", "_law_n"]) (cap := [none, some 1]) (S := [0]) rfl (yH rfl T.yL (zf (av 1) zu (za rfl)) rfl) rfl (by change wu _ Zb _ (zy vh).names _ = true; decide +kernel) (by decide) (λ cl s H fp => (an 0 zfw)) (λ cl s H fp => yt) (λ cl s H fp => (yJ (N := ["_law_b", "_law_a"]) (cap := [none, some 0]) (S := [0]) rfl (yH rfl T.yL (zf (av 1) zu (za rfl)) rfl) rfl (by with_unfolding_all rfl) (by decide) (λ cl s H fp => (an 0 zfn)) (λ cl s H fp => yt) (λ cl s H fp => (ax hkd (zK (zb (av 1) (zb (av 0) zp (za rfl)) (za rfl))) (Yq zfM rfl T.zms Bt.int (zf (zac (yR (hkd _ rfl rfl rfl) (xV hr) .Eq) (av 1) aI (xf _)) zu (za rfl)) (Bt.n _ rfl) (by decide) rfl rfl))) (λ _ => rfl))) (λ _ => rfl)))) yS)
  refine zm ?_ ?_; exact (by refine sv true 2 zcw.nd ?_; exact (zK (by refine zb ?_ ?_ ?_; exact (yf (zb aI (zb aI zp (za rfl)) (za rfl))); refine zb ?_ ?_ ?_; exact (yf (zb aI (zb aI zp (za rfl)) (za rfl))); refine zb ?_ ?_ ?_; exact (yf (zb aI (zb aI zp (za rfl)) (za rfl))); refine zb ?_ ?_ ?_; exact (yf (zb aI (zb aI zp (za rfl)) (za rfl))); exact zp; exact za rfl; exact za rfl; exact za rfl; exact za rfl)))
  exact zH (ym (yJ (N := ["_law_one", "_law_maps"]) (cap := [none, some 2]) (S := [0]) rfl (Yk (av 2)) rfl (by change wu _ Zb _ (zy vh).names _ = true; decide +kernel) (by decide) (λ cl s H fp => (an 0 zfe)) (λ cl s H fp => yt) (λ cl s H fp => (yJ (N := ["_law_two", "_law_maps", "_law_one"]) (cap := [none, some 1, some 0]) (S := [0]) rfl (Yk (av 1)) rfl (by with_unfolding_all rfl) (by decide) (λ cl s H fp => (an 0 zdN)) (λ cl s H fp => yt) (λ cl s H fp => (zhP (ty := .lst) (hkd _ rfl rfl rfl) (zix (hkd _ rfl rfl rfl) (xV hr)) PySem.F.plainAttrs_list PySem.F.slot_list_index PySem.F.type_list_index (av 1) (by refine zf ?_ ?_ ?_; exact (yf (zb (ax hkd (av 0) (ax hkd (av 2) aI)) (zb (ax hkd (av 0) (ax hkd (av 2) aI)) zp (za rfl)) (za rfl))); exact zu; exact za rfl) rfl rfl rfl rfl rfl)) (λ _ => rfl))) (λ _ => rfl))))
theorem zjP (T : Txt K kd mg t) (hkd : KD1 P w K kd) : FnOk P w K mg base CX0 3 t.zbP t.zbq ["_law_kind", "_law_n", "_law_m", "_law_xs"] (spD K kd Yv) := by
 refine wL (N := zbN) (ps := ["_law_kind", "_law_n", "_law_m", "_law_xs"]) (k := 2) (c := zfN) T.zeT ziK λ cdv A outer s H E hr => ?_
 exact (by
  refine zm ?_ ?_; exact (wO (xZ (yR (hkd _ rfl rfl rfl) (xV hr) .Eq) (yW .Eq) (av 0) aI (xf _)) (zH (ym (zT (zjy T hkd) (hr.mono (by omega)) rfl T.Xw T.zeX.kp T.zjC yM (by refine zf ?_ ?_ ?_; exact (av 1); refine zf ?_ ?_ ?_; exact (av 2); refine zf ?_ ?_ ?_; exact (av 3); exact zu; exact za rfl; exact za rfl; exact za rfl) (by decide) rfl rfl))) yS)
  refine zm ?_ ?_; exact (wO (xZ (yR (hkd _ rfl rfl rfl) (xV hr) .Eq) (yW .Eq) (av 0) aI (xf _)) (zH (ym (zT (zhM T hkd) (hr.mono (by omega)) rfl T.Z9 T.zcb.kp T.zhJ yM (by refine zf ?_ ?_ ?_; exact (av 1); refine zf ?_ ?_ ?_; exact (av 2); refine zf ?_ ?_ ?_; exact (av 3); exact zu; exact za rfl; exact za rfl; exact za rfl) (by decide) rfl rfl))) yS)
  refine zm ?_ ?_; exact (wO (xZ (yR (hkd _ rfl rfl rfl) (xV hr) .Lt) (yW .Lt) (av 0) aI (xf _)) (zH (ym (zT (zjp T hkd) (hr.mono (by omega)) rfl T.Xy T.zfI.kp T.zjA yM (by refine zf ?_ ?_ ?_; exact (av 1); refine zf ?_ ?_ ?_; exact (av 2); refine zf ?_ ?_ ?_; exact (av 3); exact zu; exact za rfl; exact za rfl; exact za rfl) (by decide) rfl rfl))) yS)
  exact zH (ym (yJ (N := ["_law_c", "_law_xs"]) (cap := [none, some 3]) (S := [0]) rfl (yH rfl T.yL (zf (av 2) zu (za rfl)) rfl) rfl (by change wu _ zbN _ (zy XS).names _ = true; decide +kernel) (by decide) (λ cl s H fp => (an 0 zfW)) (λ cl s H fp => yt) (λ cl s H fp => (ax hkd (zK (by refine zb ?_ ?_ ?_; exact (zK (by refine zb ?_ ?_ ?_; exact aI; refine zb ?_ ?_ ?_; exact aI; refine zb ?_ ?_ ?_; exact aI; refine zb ?_ ?_ ?_; exact aI; exact zp; exact za rfl; exact za rfl; exact za rfl; exact za rfl)); refine zb ?_ ?_ ?_; exact (zK (by refine zb ?_ ?_ ?_; exact aI; refine zb ?_ ?_ ?_; exact aI; refine zb ?_ ?_ ?_; exact aI; refine zb ?_ ?_ ?_; exact aI; exact zp; exact za rfl; exact za rfl; exact za rfl; exact za rfl)); exact zp; exact za rfl; exact za rfl)) (zr (zq .Mod) (ax hkd (av 1) aI) aI))) (λ _ => rfl))))
theorem zav (T : Txt K kd mg t) (hkd : KD1 P w K kd) : FnOk P w K mg base CX0 4 t.zae t.VG ["_law_kind", "_law_n", "_law_m", "_law_many", "_law_cell"] (spD K kd wX) := by
 refine wL (N := V9) (ps := ["_law_kind", "_law_n", "_law_m", "_law_many", "_law_cell"]) (k := 3) (c := zdw) T.Wa zbY λ cdv A outer s H E hr => ?_
 exact (by
  refine zm ?_ ?_; exact (zaL (z := true) (i := 5) (N := ["_law_k", "_law_kind", "_law_n", "_law_m", "_law_cell"]) (cap := [none, some 0, some 1, some 2, some 4]) (S := [0]) zbY.nd rfl (by exact Or.inl rfl) (by exact Or.inr rfl) rfl rfl (yH rfl T.yL (zf (av 3) zu (za rfl)) rfl) rfl (by change wu _ V9 _ (zy YS).names _ = true; decide +kernel) (by decide) (λ cl s H fp => (an 0 zfh)) (λ cl s H fp => yt) (λ cl s H fp => (zT (zjP T hkd) (hr.mono (by omega)) rfl T.Yv T.zeT.kp T.zjM yM (by refine zf ?_ ?_ ?_; exact (av 1); refine zf ?_ ?_ ?_; exact (av 2); refine zf ?_ ?_ ?_; exact (av 3); refine zf ?_ ?_ ?_; exact (zT (vo T hkd) (hr.mono (by omega)) rfl T.yp T.wV.kp T.vm yM (zf (zr (zq .Add) (av 4) (zr (zq .Mult) aI (av 0))) (zf aI zu (za rfl)) (za rfl)) (by decide) rfl rfl); exact zu; exact za rfl; exact za rfl; exact za rfl; exact za rfl) (by decide) rfl rfl)) (λ _ => rfl))
  exact zH (ym (yf (by refine zb ?_ ?_ ?_; exact (av 1); refine zb ?_ ?_ ?_; exact (zT (zim T hkd) (hr.mono (by omega)) rfl T.ZW T.zdM.kp T.ziF yM (zf (av 0) (zf (av 1) zu (za rfl)) (za rfl)) (by decide) rfl rfl); refine zb ?_ ?_ ?_; exact (av 5); exact zp; exact za rfl; exact za rfl; exact za rfl))))
theorem zhs (T : Txt K kd mg t) (hkd : KD1 P w K kd) : FnOk P w K mg base CX0 1 t.Vb t.Vs ["_law_one", "_law_other", "_law_m"] (spD K kd Z4) := by
 refine wL (N := W7) (ps := ["_law_one", "_law_other", "_law_m"]) (k := 0) (c := zck) T.zcd yQ λ cdv A outer s H E hr => ?_
 exact (by
  refine zm ?_ ?_; exact (by refine sv true 3 yQ.nd ?_; exact (zr (zq .Mult) (ax hkd (av 0) aI) (ax hkd (av 1) aI)))
  refine zm ?_ ?_; exact (by refine sv true 4 yQ.nd ?_; exact (ax hkd (av 1) aI))
  refine zm ?_ ?_; exact (by refine sv false 5 yQ.nd ?_; exact (zK zp))
  refine zm ?_ ?_; exact (ZS PassesOwn.never rfl (ZV rfl T.yL (zf (av 3) zu (za rfl)) rfl) (an 6 yQ.nd) (by
  refine zm ?_ ?_; exact (by refine sv true 7 yQ.nd ?_; exact (ax hkd (ax hkd (av 0) aI) (zr (zq .FloorDiv) (av 6) (av 4))))
  refine zm ?_ ?_; exact (by refine sv true 8 yQ.nd ?_; exact (ax hkd (ax hkd (av 1) aI) (zr (zq .Mod) (av 6) (av 4))))
  exact zH (ZL (Yt vg Xb PySem.F.slot_list_append PySem.F.type_list_append (pv 5) (zb (yJ (N := ["_law_q", "_law_by", "_law_there", "_law_here"]) (cap := [none, some 4, some 8, some 7]) (S := [0]) rfl (yH rfl T.yL (zf (av 3) zu (za rfl)) rfl) rfl (by change wu _ W7 _ (zy Yb).names _ = true; decide +kernel) (by decide) (λ cl s H fp => (an 0 zdX)) (λ cl s H fp => yt) (λ cl s H fp => (zr (zq .Add) (zr (zq .Mult) (ax hkd (av 3) (zr (zq .FloorDiv) (av 0) (av 1))) (av 1)) (ax hkd (av 2) (zr (zq .Mod) (av 0) (av 1))))) (λ _ => rfl)) zp (za rfl)) rfl rfl rfl rfl rfl) rfl)) (λ _ => rfl))
  refine zm ?_ ?_; exact (by refine sv false 9 yQ.nd ?_; exact (zK zp))
  refine zm ?_ ?_; exact (ZS PassesOwn.never rfl (zjj rfl T.znG (zf (ax hkd (av 0) aI) (zf (ax hkd (av 1) aI) zu (za rfl)) (za rfl)) rfl rfl) (Y8 rfl (zW (an 7 yQ.nd) (zW (an 8 yQ.nd) ZK rfl) rfl) rfl rfl) (by
  refine zm ?_ ?_; exact (by refine sv false 10 yQ.nd ?_; exact (zK zp))
  refine zm ?_ ?_; exact (ZS PassesOwn.never rfl (ZV rfl T.yL (zf (av 2) zu (za rfl)) rfl) (an 11 yQ.nd) (by
  refine zm ?_ ?_; exact (by refine sv false 12 yQ.nd ?_; exact (zK zp))
  refine zm ?_ ?_; exact (ZS PassesOwn.never rfl (ZV rfl T.yL (zf (av 3) zu (za rfl)) rfl) (an 6 yQ.nd) (by
  refine zm ?_ ?_; exact (by refine sv true 13 yQ.nd ?_; exact (zr (zq .Mult) (ax hkd (ax hkd (av 7) (av 11)) (zr (zq .FloorDiv) (av 6) (av 4))) (av 4)))
  exact zH (ZL (Yt vg Xb PySem.F.slot_list_append PySem.F.type_list_append (pv 12) (zb (zr (zq .Add) (av 13) (ax hkd (ax hkd (av 8) (av 11)) (zr (zq .Mod) (av 6) (av 4)))) zp (za rfl)) rfl rfl rfl rfl rfl) rfl)) (λ _ => rfl))
  exact zH (ZL (Yt vg Xb PySem.F.slot_list_append PySem.F.type_list_append (pv 10) (zb (av 12) zp (za rfl)) rfl rfl rfl rfl rfl) rfl)) (λ _ => rfl))
  exact zH (ZL (Yt vg Xb PySem.F.slot_list_append PySem.F.type_list_append (pv 9) (zb (av 10) zp (za rfl)) rfl rfl rfl rfl rfl) rfl)) (λ _ => rfl))
  exact zH (ym (yf (by refine zb ?_ ?_ ?_; exact (av 3); refine zb ?_ ?_ ?_; exact (av 5); refine zb ?_ ?_ ?_; exact (av 9); exact zp; exact za rfl; exact za rfl; exact za rfl))))
theorem zjO (T : Txt K kd mg t) (hkd : KD1 P w K kd) : FnOk P w K mg base CX0 5 t.zbp t.zbK ["_law_cell", "_law_m", "_law_many"] (spD K kd Xv) := by
 refine wL (N := zeL) (ps := ["_law_cell", "_law_m", "_law_many"]) (k := 4) (c := zet) T.zek vN λ cdv A outer s H E hr => ?_
 exact (by
  refine zm ?_ ?_; exact (by refine sv true 3 vN.nd ?_; exact (zT (vo T hkd) (hr.mono (by omega)) rfl T.yp T.wV.kp T.vm yM (zf (av 0) (zf aI zu (za rfl)) (za rfl)) (by decide) rfl rfl))
  refine zm ?_ ?_; exact (by refine sv true 4 vN.nd ?_; exact (zr (zq .Mod) (ax hkd (av 3) aI) aI))
  refine zm ?_ ?_; exact (wO (xZ (yR (hkd _ rfl rfl rfl) (xV hr) .Gt) (yW .Gt) (av 4) aI (xf _)) (by
  refine zm ?_ ?_; exact (by refine sv true 5 vN.nd ?_; exact (ax hkd (zK (by refine zb ?_ ?_ ?_; exact (yf (zb aI (zb aI zp (za rfl)) (za rfl))); refine zb ?_ ?_ ?_; exact (yf (zb aI (zb aI zp (za rfl)) (za rfl))); refine zb ?_ ?_ ?_; exact (yf (zb aI (zb aI zp (za rfl)) (za rfl))); refine zb ?_ ?_ ?_; exact (yf (zb aI (zb aI zp (za rfl)) (za rfl))); refine zb ?_ ?_ ?_; exact (yf (zb aI (zb aI zp (za rfl)) (za rfl))); refine zb ?_ ?_ ?_; exact (yf (zb aI (zb aI zp (za rfl)) (za rfl))); exact zp; exact za rfl; exact za rfl; exact za rfl; exact za rfl; exact za rfl; exact za rfl)) (zr (zq .Mod) (ax hkd (av 3) aI) aI)))
  refine zm ?_ ?_; exact (by refine sv true 6 vN.nd ?_; exact (zT (zav T hkd) (hr.mono (by omega)) rfl T.wX T.Wa.kp T.zax yM (by refine zf ?_ ?_ ?_; exact (zr (zq .Mod) (ax hkd (av 3) aI) aI); refine zf ?_ ?_ ?_; exact (ax hkd (av 5) aI); refine zf ?_ ?_ ?_; exact (av 1); refine zf ?_ ?_ ?_; exact (av 2); refine zf ?_ ?_ ?_; exact (ax hkd (av 3) aI); exact zu; exact za rfl; exact za rfl; exact za rfl; exact za rfl; exact za rfl) (by decide) rfl rfl))
  exact zH (ym (zT (zhs T hkd) (hr.mono (by omega)) rfl T.Z4 T.zcd.kp T.zhE yM (by refine zf ?_ ?_ ?_; exact (av 6); refine zf ?_ ?_ ?_; exact (zT (zav T hkd) (hr.mono (by omega)) rfl T.wX T.Wa.kp T.zax yM (by refine zf ?_ ?_ ?_; exact (zr (zq .Mod) (ax hkd (av 3) aI) aI); refine zf ?_ ?_ ?_; exact (ax hkd (av 5) aI); refine zf ?_ ?_ ?_; exact (av 1); refine zf ?_ ?_ ?_; exact (av 2); refine zf ?_ ?_ ?_; exact (zr (zq .Add) (ax hkd (av 3) aI) aI); exact zu; exact za rfl; exact za rfl; exact za rfl; exact za rfl; exact za rfl) (by decide) rfl rfl); refine zf ?_ ?_ ?_; exact (av 1); exact zu; exact za rfl; exact za rfl; exact za rfl) (by decide) rfl rfl))) yS)
  refine zm ?_ ?_; exact (by refine sv true 7 vN.nd ?_; exact (ax hkd (zK (by refine zb ?_ ?_ ?_; exact aI; refine zb ?_ ?_ ?_; exact aI; refine zb ?_ ?_ ?_; exact aI; refine zb ?_ ?_ ?_; exact aI; refine zb ?_ ?_ ?_; exact aI; refine zb ?_ ?_ ?_; exact aI; refine zb ?_ ?_ ?_; exact aI; refine zb ?_ ?_ ?_; exact aI; exact zp; exact za rfl; exact za rfl; exact za rfl; exact za rfl; exact za rfl; exact za rfl; exact za rfl; exact za rfl)) (zr (zq .Mod) (ax hkd (av 3) aI) aI)))
  refine zm ?_ ?_; exact (wO (AW.at_ (zmz (xZ (yR (hkd _ rfl rfl rfl) (xV hr) .Eq) (yW .Eq) (av 4) aI (xf _)) (zfg (xZ (yR (hkd _ rfl rfl rfl) (xV hr) .Eq) (yW .Eq) (zr (zq .Mod) (ax hkd (av 3) aI) aI) aI (xf _))))) (zH (by refine sv true 7 vN.nd ?_; exact aI)) yS)
  refine zm ?_ ?_; exact (wO (xZ (yR (hkd _ rfl rfl rfl) (xV hr) .Eq) (yW .Eq) (av 4) aI (xf _)) (zH (by refine sv true 7 vN.nd ?_; exact aI)) yS)
  exact zH (ym (zT (zav T hkd) (hr.mono (by omega)) rfl T.wX T.Wa.kp T.zax yM (by refine zf ?_ ?_ ?_; exact (av 4); refine zf ?_ ?_ ?_; exact (av 7); refine zf ?_ ?_ ?_; exact (av 1); refine zf ?_ ?_ ?_; exact (av 2); refine zf ?_ ?_ ?_; exact (ax hkd (av 3) aI); exact zu; exact za rfl; exact za rfl; exact za rfl; exact za rfl; exact za rfl) (by decide) rfl rfl)))
theorem ziy (T : Txt K kd mg t) (hkd : KD1 P w K kd) : FnOk P w K mg base CX0 2 t.VJ t.VR ["_law_cell", "_law_n"] (spD K kd YF) := by
 refine wL (N := zdJ) (ps := ["_law_cell", "_law_n"]) (k := 1) (c := zdG) T.zdv Xk λ cdv A outer s H E hr => ?_
 exact (by
  refine zm ?_ ?_; exact (by refine sv false 2 Xk.nd ?_; exact (zgO rfl rfl T.yL rfl T.XR (zf (av 1) zu (za rfl)) rfl rfl))
  refine zm ?_ ?_; exact (by refine sv false 3 Xk.nd ?_; exact (zK zp))
  refine zm ?_ ?_; exact (ZS PassesOwn.never rfl (zhB (zT (vo T hkd) (hr.mono (by omega)) rfl T.yp T.wV.kp T.vm yM (zf (av 0) (zf (av 1) zu (za rfl)) (za rfl)) (by decide) rfl rfl)) (an 4 Xk.nd) (zH (ZL (Yt vg Xb PySem.F.slot_list_append PySem.F.type_list_append (pv 3) (zb (Yt zmS zmR PySem.F.slot_list_pop PySem.F.type_list_pop (pv 2) (zb (zr (zq .Mod) (av 4) (ww (xM (hkd _ rfl rfl rfl)) rfl T.Zx Bt.len (zf (av 2) zu (za rfl)) (Bt.n _ rfl) (by decide) rfl rfl)) zp (za rfl)) rfl rfl rfl rfl rfl) zp (za rfl)) rfl rfl rfl rfl rfl) rfl)) (λ _ => rfl))
  exact zH (ym (av 3)))
theorem zhU (T : Txt K kd mg t) (hkd : KD1 P w K kd) : FnOk P w K mg base CX0 2 t.zas t.VL ["_law_cell", "_law_n", "_law_names_here"] (spD K kd Z1) := by
 refine wL (N := VN) (ps := ["_law_cell", "_law_n", "_law_names_here"]) (k := 1) (c := zdK) T.zdI Xc λ cdv A outer s H E hr => ?_
 exact (by
  refine zm ?_ ?_; exact (by refine sv false 3 Xc.nd ?_; exact (zK zp))
  refine zm ?_ ?_; exact (ZS PassesOwn.never rfl (zjj rfl T.znG (zf (zT (vo T hkd) (hr.mono (by omega)) rfl T.yp T.wV.kp T.vm yM (zf (av 0) (zf (ww (xM (hkd _ rfl rfl rfl)) rfl T.Zx Bt.len (zf (av 2) zu (za rfl)) (Bt.n _ rfl) (by decide) rfl rfl) zu (za rfl)) (za rfl)) (by decide) rfl rfl) (zf (av 2) zu (za rfl)) (za rfl)) rfl rfl) (Y8 rfl (zW (an 4 Xc.nd) (zW (an 5 Xc.nd) ZK rfl) rfl) rfl rfl) (zH (ZL (Yt vg Xb PySem.F.slot_list_append PySem.F.type_list_append (pv 3) (by refine zb ?_ ?_ ?_; exact (yf (zb (av 5) (zb (yJ (N := ["_law_v", "_law_x"]) (cap := [none, some 4]) (S := [0]) rfl (yH rfl T.yL (zf (av 1) zu (za rfl)) rfl) rfl (by change wu _ VN _ (zy YQ).names _ = true; decide +kernel) (by decide) (λ cl s H fp => (an 0 zfA)) (λ cl s H fp => (zpi (xZ (yR (hkd _ rfl rfl rfl) (xV hr) .Eq) (yW .Eq) (zr (zq .Mod) (zr (zq .FloorDiv) (av 1) (ax hkd (zK (by refine zb ?_ ?_ ?_; exact aI; refine zb ?_ ?_ ?_; exact aI; refine zb ?_ ?_ ?_; exact aI; refine zb ?_ ?_ ?_; exact aI; refine zb ?_ ?_ ?_; exact aI; refine zb ?_ ?_ ?_; exact aI; refine zb ?_ ?_ ?_; exact aI; refine zb ?_ ?_ ?_; exact aI; exact zp; exact za rfl; exact za rfl; exact za rfl; exact za rfl; exact za rfl; exact za rfl; exact za rfl; exact za rfl)) (av 0))) aI) aI (xf _)))) (λ cl s H fp => (av 0)) (λ _ => rfl)) zp (za rfl)) (za rfl))); exact zp; exact za rfl) rfl rfl rfl rfl rfl) rfl)) (λ _ => rfl))
  exact zH (ym (av 3)))
theorem zgk (T : Txt K kd mg t) (hkd : KD1 P w K kd) : FnOk P w K mg base CX0 6 t.Wq t.Wn ["_law_cell", "_law_other"] (spD K kd Zy) := by
 refine wL (N := Zw) (ps := ["_law_cell", "_law_other"]) (k := 5) (c := zbf) T.zaQ yu λ cdv A outer s H E hr => ?_
 exact (by
  refine zm ?_ ?_; exact (by refine sv true 2 yu.nd ?_; exact (zT (vo T hkd) (hr.mono (by omega)) rfl T.yp T.wV.kp T.vm yM (zf (av 1) (zf aI zu (za rfl)) (za rfl)) (by decide) rfl rfl))
  refine zm ?_ ?_; exact (by refine sv true 3 yu.nd ?_; exact (zr (zq .Add) aI (zr (zq .Mod) (ax hkd (av 2) aI) aI)))
  refine zm ?_ ?_; exact (wO (xZ (yR (hkd _ rfl rfl rfl) (xV hr) .Eq) (yW .Eq) (zr (zq .Mod) (zr (zq .FloorDiv) (ax hkd (av 2) aI) aI) aI) aI (xf _)) (zH (by refine sv true 3 yu.nd ?_; exact (zr (zq .Add) aI (zr (zq .Mod) (zr (zq .FloorDiv) (ax hkd (av 2) aI) aI) aI)))) yS)
  refine zm ?_ ?_; exact (by refine sv true 4 yu.nd ?_; exact (ax hkd (zK (by refine zb ?_ ?_ ?_; exact aI; refine zb ?_ ?_ ?_; exact aI; refine zb ?_ ?_ ?_; exact aI; refine zb ?_ ?_ ?_; exact aI; refine zb ?_ ?_ ?_; exact aI; refine zb ?_ ?_ ?_; exact aI; refine zb ?_ ?_ ?_; exact aI; refine zb ?_ ?_ ?_; exact aI; exact zp; exact za rfl; exact za rfl; exact za rfl; exact za rfl; exact za rfl; exact za rfl; exact za rfl; exact za rfl)) (zr (zq .Mod) (ax hkd (av 2) aI) aI)))
  refine zm ?_ ?_; exact (wO (xZ (yR (hkd _ rfl rfl rfl) (xV hr) .Gt) (yW .Gt) (av 4) aI (xf _)) (zH (by refine sv true 3 yu.nd ?_; exact (zr (zq .Add) aI (zr (zq .Mod) (av 3) aI)))) yS)
  refine zm ?_ ?_; exact (zbv (zT (zjO T hkd) (hr.mono (by omega)) rfl T.Xv T.zek.kp T.zjf yM (by refine zf ?_ ?_ ?_; exact (av 0); refine zf ?_ ?_ ?_; exact (av 3); refine zf ?_ ?_ ?_; exact (av 4); exact zu; exact za rfl; exact za rfl; exact za rfl) (by decide) rfl rfl) (Y8 rfl (zW (an 5 yu.nd) (zW (an 6 yu.nd) (zW (an 7 yu.nd) ZK rfl) rfl) rfl) rfl rfl) rfl rfl rfl)
  refine zm ?_ ?_; exact (by refine sv true 8 yu.nd ?_; exact (zT (ziy T hkd) (hr.mono (by omega)) rfl T.YF T.zdv.kp T.zin yM (zf (ax hkd (av 2) aI) (zf (av 5) zu (za rfl)) (za rfl)) (by decide) rfl rfl))
  refine zm ?_ ?_; exact (by refine sv true 9 yu.nd ?_; exact (yJ (N := ["_law_v", "_law_order_here"]) (cap := [none, some 8]) (S := [0]) rfl (yH rfl T.yL (zf (av 5) zu (za rfl)) rfl) rfl (by change wu _ Zw _ (zy vA).names _ = true; decide +kernel) (by decide) (λ cl s H fp => (an 0 zcM)) (λ cl s H fp => yt) (λ cl s H fp => (zhP (ty := .lst) (hkd _ rfl rfl rfl) (zix (hkd _ rfl rfl rfl) (xV hr)) PySem.F.plainAttrs_list PySem.F.slot_list_index PySem.F.type_list_index (av 1) (zf (av 0) zu (za rfl)) rfl rfl rfl rfl rfl)) (λ _ => rfl)))
  refine zm ?_ ?_; exact (zaL (z := true) (i := 10) (N := ["_law_a", "_law_order_here", "_law_n", "_law_join", "_law_back"]) (cap := [none, some 8, some 5, some 6, some 9]) (S := [0]) yu.nd rfl (by exact Or.inl rfl) (by exact Or.inr rfl) rfl rfl (yH rfl T.yL (zf (av 5) zu (za rfl)) rfl) rfl (by change wu _ Zw _ (zy vA).names _ = true; decide +kernel) (by decide) (λ cl s H fp => (an 0 zcS)) (λ cl s H fp => yt) (λ cl s H fp => (yJ (N := ["_law_b", "_law_order_here", "_law_join", "_law_back", "_law_a"]) (cap := [none, some 1, some 3, some 4, some 0]) (S := [0]) rfl (yH rfl T.yL (zf (av 2) zu (za rfl)) rfl) rfl (by with_unfolding_all rfl) (by decide) (λ cl s H fp => (an 0 zcA)) (λ cl s H fp => yt) (λ cl s H fp => (ax hkd (av 1) (ax hkd (ax hkd (av 2) (ax hkd (av 3) (av 4))) (ax hkd (av 3) (av 0))))) (λ _ => rfl))) (λ _ => rfl))
  refine zm ?_ ?_; exact (by refine sv true 11 yu.nd ?_; exact (zT (zje T hkd) (hr.mono (by omega)) rfl T.YJ T.zdx.kp T.zid yM (zf (ax hkd (av 2) aI) (zf aI zu (za rfl)) (za rfl)) (by decide) rfl rfl))
  refine zm ?_ ?_; exact (by refine sv false 12 yu.nd ?_; exact (zK zp))
  refine zm ?_ ?_; exact (ZS PassesOwn.never rfl (zjj rfl T.znG (zf (wC (av 11) wR (wy aI)) (zf (av 7) zu (za rfl)) (za rfl)) rfl rfl) (Y8 rfl (zW (an 13 yu.nd) (zW (an 14 yu.nd) ZK rfl) rfl) rfl rfl) (zH (ZL (Yt vg Xb PySem.F.slot_list_append PySem.F.type_list_append (pv 12) (by refine zb ?_ ?_ ?_; exact (yf (zb (av 13) (zb (yJ (N := ["_law_row", "_law_order_here", "_law_n", "_law_back"]) (cap := [none, some 8, some 5, some 9]) (S := [0]) rfl (Yk (av 14)) rfl (by change wu _ Zw _ (zy vA).names _ = true; decide +kernel) (by decide) (λ cl s H fp => (an 0 zcY)) (λ cl s H fp => yt) (λ cl s H fp => (yJ (N := ["_law_a", "_law_order_here", "_law_row", "_law_back"]) (cap := [none, some 1, some 0, some 3]) (S := [0]) rfl (yH rfl T.yL (zf (av 2) zu (za rfl)) rfl) rfl (by with_unfolding_all rfl) (by decide) (λ cl s H fp => (an 0 zcE)) (λ cl s H fp => yt) (λ cl s H fp => (ax hkd (av 1) (ax hkd (av 2) (ax hkd (av 3) (av 0))))) (λ _ => rfl))) (λ _ => rfl)) zp (za rfl)) (za rfl))); exact zp; exact za rfl) rfl rfl rfl rfl rfl) rfl)) (λ _ => rfl))
  refine zm ?_ ?_; exact (by refine sv true 15 yu.nd ?_; exact (zT (zhU T hkd) (hr.mono (by omega)) rfl T.Z1 T.zdI.kp T.ziw yM (by refine zf ?_ ?_ ?_; exact (ax hkd (av 2) aI); refine zf ?_ ?_ ?_; exact (av 5); refine zf ?_ ?_ ?_; exact (wC (av 11) (wy aI) (wy (zr (zq .Add) aI (ax hkd (zK (by refine zb ?_ ?_ ?_; exact aI; refine zb ?_ ?_ ?_; exact aI; refine zb ?_ ?_ ?_; exact aI; refine zb ?_ ?_ ?_; exact aI; refine zb ?_ ?_ ?_; exact aI; refine zb ?_ ?_ ?_; exact aI; refine zb ?_ ?_ ?_; exact aI; refine zb ?_ ?_ ?_; exact aI; exact zp; exact za rfl; exact za rfl; exact za rfl; exact za rfl; exact za rfl; exact za rfl; exact za rfl; exact za rfl)) (zr (zq .Mod) (ax hkd (av 2) aI) aI))))); exact zu; exact za rfl; exact za rfl; exact za rfl) (by decide) rfl rfl))
  exact zH (ym (yf (by refine zb ?_ ?_ ?_; exact (av 5); refine zb ?_ ?_ ?_; exact (av 3); refine zb ?_ ?_ ?_; exact (av 10); refine zb ?_ ?_ ?_; exact (ax hkd (av 8) aI); refine zb ?_ ?_ ?_; exact (av 12); refine zb ?_ ?_ ?_; exact (av 15); exact zp; exact za rfl; exact za rfl; exact za rfl; exact za rfl; exact za rfl; exact za rfl))))
theorem zjU (T : Txt K kd mg t) (hkd : KD1 P w K kd) : FnOk P w K mg base CX0 2 t.zbC t.zbJ ["_law_algebra_here", "_law_cell"] (spD K kd XJ) := by
 refine wL (N := W6) (ps := ["_law_algebra_here", "_law_cell"]) (k := 1) (c := zfD) T.zfG wK λ cdv A outer s H E hr => ?_
 exact (by
  refine zm ?_ ?_; exact (zbv (av 0) (Y8 rfl (zW (an 2 wK.nd) (zW (an 3 wK.nd) (zW (an 4 wK.nd) (zW (an 5 wK.nd) (zW (an 6 wK.nd) (zW (an 7 wK.nd) ZK rfl) rfl) rfl) rfl) rfl) rfl) rfl rfl) rfl rfl rfl)
  refine zm ?_ ?_; exact (by refine sv true 8 wK.nd ?_; exact (zT (vo T hkd) (hr.mono (by omega)) rfl T.yp T.wV.kp T.vm yM (zf (av 1) (zf (zr (zq .Add) (zr (zq .Add) (zr (zq .Mult) aI aI) (zr (zq .Mult) (zr (zq .Mult) aI aI) aI)) aI) zu (za rfl)) (za rfl)) (by decide) rfl rfl))
  refine zm ?_ ?_; exact (zaL (z := true) (i := 9) (N := ["_law_a", "_law_n", "_law_xs"]) (cap := [none, some 2, some 8]) (S := [0]) wK.nd rfl (by exact Or.inl rfl) (by exact Or.inr rfl) rfl rfl (yH rfl T.yL (zf (av 2) zu (za rfl)) rfl) rfl (by change wu _ W6 _ (zy Ys).names _ = true; decide +kernel) (by decide) (λ cl s H fp => (an 0 zgc)) (λ cl s H fp => yt) (λ cl s H fp => (yJ (N := ["_law_b", "_law_n", "_law_xs", "_law_a"]) (cap := [none, some 1, some 2, some 0]) (S := [0]) rfl (yH rfl T.yL (zf (av 1) zu (za rfl)) rfl) rfl (by with_unfolding_all rfl) (by decide) (λ cl s H fp => (an 0 zfS)) (λ cl s H fp => yt) (λ cl s H fp => (zr (zq .Mod) (ax hkd (av 2) (zr (zq .Add) (zr (zq .Mult) aI (av 3)) (av 0))) (av 1))) (λ _ => rfl))) (λ _ => rfl))
  refine zm ?_ ?_; exact (by refine sv false 10 wK.nd ?_; exact (zK zp))
  refine zm ?_ ?_; exact (ZS PassesOwn.never rfl (ZV rfl T.yL (zf (ww (xM (hkd _ rfl rfl rfl)) rfl T.Zx Bt.len (zf (av 6) zu (za rfl)) (Bt.n _ rfl) (by decide) rfl rfl) zu (za rfl)) rfl) (an 11 wK.nd) (zH (ZL (Yt vg Xb PySem.F.slot_list_append PySem.F.type_list_append (pv 10) (by refine zb ?_ ?_ ?_; exact (yf (zb (ax hkd (ax hkd (av 6) (av 11)) aI) (zb (yJ (N := ["_law_c", "_law_n", "_law_xs", "_law_k"]) (cap := [none, some 2, some 8, some 11]) (S := [0]) rfl (yH rfl T.yL (zf (av 3) zu (za rfl)) rfl) rfl (by change wu _ W6 _ (zy Ys).names _ = true; decide +kernel) (by decide) (λ cl s H fp => (an 0 zfP)) (λ cl s H fp => yt) (λ cl s H fp => (yJ (N := ["_law_a", "_law_n", "_law_xs", "_law_c", "_law_k"]) (cap := [none, some 1, some 2, some 0, some 3]) (S := [0]) rfl (yH rfl T.yL (zf (av 1) zu (za rfl)) rfl) rfl (by with_unfolding_all rfl) (by decide) (λ cl s H fp => (an 0 zgg)) (λ cl s H fp => yt) (λ cl s H fp => (zr (zq .Mod) (ax hkd (av 2) (zr (zq .Add) (zr (zq .Add) (zr (zq .Add) aI (zr (zq .Mult) aI (av 4))) (zr (zq .Mult) aI (av 3))) (av 0))) (av 1))) (λ _ => rfl))) (λ _ => rfl)) zp (za rfl)) (za rfl))); exact zp; exact za rfl) rfl rfl rfl rfl rfl) rfl)) (λ _ => rfl))
  exact zH (ym (yf (by refine zb ?_ ?_ ?_; exact (av 2); refine zb ?_ ?_ ?_; exact (av 3); refine zb ?_ ?_ ?_; exact (av 9); refine zb ?_ ?_ ?_; exact (zr (zq .Mod) (ax hkd (av 8) (zeR zjx aI)) (av 2)); refine zb ?_ ?_ ?_; exact (av 10); refine zb ?_ ?_ ?_; exact (av 7); exact zp; exact za rfl; exact za rfl; exact za rfl; exact za rfl; exact za rfl; exact za rfl))))
theorem zeG (T : Txt K kd mg t) (hkd : KD1 P w K kd) : FnOk P w K mg base CX0 1 t.zbV t.zbD ["_law_algebra_here"] (spD K kd vz) := by
 refine wL (N := XM) (ps := ["_law_algebra_here"]) (k := 0) (c := zfx) T.zbM vP λ cdv A outer s H E hr => ?_
 exact (by
  refine zm ?_ ?_; exact (zbv (av 0) (Y8 rfl (zW (an 1 vP.nd) (zW (an 2 vP.nd) (zW (an 3 vP.nd) (zW (an 4 vP.nd) (zW (an 5 vP.nd) (zW (an 6 vP.nd) ZK rfl) rfl) rfl) rfl) rfl) rfl) rfl rfl) rfl rfl rfl)
  refine zm ?_ ?_; exact (zaL (z := true) (i := 7) (N := ["_law_name", "_law_rows_here"]) (cap := [none, none]) (S := [0, 1]) vP.nd rfl (by exact Or.inl rfl) (by exact Or.inr rfl) rfl rfl (Yk (av 5)) rfl (by change wu _ XM _ (zy ZR).names _ = true; decide +kernel) (by decide) (λ cl s H fp => (Y8 rfl (zW (an 0 zaU) (zW (an 1 zaU) ZK rfl) rfl) rfl rfl)) (λ cl s H fp => yt) (λ cl s H fp => (yf (zb (av 0) (zb (yJ (N := ["_law_row"]) (cap := [none]) (S := [0]) rfl (Yk (av 1)) rfl (by with_unfolding_all rfl) (by decide) (λ cl s H fp => (an 0 zfV)) (λ cl s H fp => yt) (λ cl s H fp => (Yq Xn rfl T.XR Bt.list (zf (av 0) zu (za rfl)) (Bt.n _ rfl) (by decide) rfl rfl)) (λ _ => rfl)) zp (za rfl)) (za rfl)))) (λ _ => rfl))
  exact zH (ym (yf (by refine zb ?_ ?_ ?_; exact (av 1); refine zb ?_ ?_ ?_; exact (av 2); refine zb ?_ ?_ ?_; exact (yJ (N := ["_law_row"]) (cap := [none]) (S := [0]) rfl (Yk (av 3)) rfl (by change wu _ XM _ (zy ZR).names _ = true; decide +kernel) (by decide) (λ cl s H fp => (an 0 zfZ)) (λ cl s H fp => yt) (λ cl s H fp => (Yq Xn rfl T.XR Bt.list (zf (av 0) zu (za rfl)) (Bt.n _ rfl) (by decide) rfl rfl)) (λ _ => rfl)); refine zb ?_ ?_ ?_; exact (av 4); refine zb ?_ ?_ ?_; exact (av 7); refine zb ?_ ?_ ?_; exact (yJ (N := ["_law_name", "_law_values"]) (cap := [none, none]) (S := [0, 1]) rfl (Yk (av 6)) rfl (by change wu _ XM _ (zy ZR).names _ = true; decide +kernel) (by decide) (λ cl s H fp => (Y8 rfl (zW (an 0 zbh) (zW (an 1 zbh) ZK rfl) rfl) rfl rfl)) (λ cl s H fp => yt) (λ cl s H fp => (yf (zb (av 0) (zb (Yq Xn rfl T.XR Bt.list (zf (av 1) zu (za rfl)) (Bt.n _ rfl) (by decide) rfl rfl) zp (za rfl)) (za rfl)))) (λ _ => rfl)); exact zp; exact za rfl; exact za rfl; exact za rfl; exact za rfl; exact za rfl; exact za rfl))))
theorem zaM (T : Txt K kd mg t) (hkd : KD1 P w K kd) : FnOk P w K mg base CX0 1 t.zcH t.zcN ["_law_n", "_law_x"] (spD K kd vf) := by
 refine wL (N := zgo) (ps := ["_law_n", "_law_x"]) (k := 0) (c := zgu) T.WM zju λ cdv A outer s H E hr => ?_
 exact (zH (ym (ax hkd (zK (by refine zb ?_ ?_ ?_; exact (av 0); refine zb ?_ ?_ ?_; exact (zr (zq .Add) (zr (zq .Add) (av 0) aI) (zr (zq .Mod) (av 1) (zr (zq .Pow) aI aI))); refine zb ?_ ?_ ?_; exact (zeR zjx aI); refine zb ?_ ?_ ?_; exact (zr (zq .Sub) (zeR zjx aI) (zr (zq .Mod) (av 1) (zr (zq .Pow) aI aI))); refine zb ?_ ?_ ?_; exact aB; refine zb ?_ ?_ ?_; exact aB; refine zb ?_ ?_ ?_; exact aS; refine zb ?_ ?_ ?_; exact aZ; refine zb ?_ ?_ ?_; exact (zK (zb aI zp (za rfl))); refine zb ?_ ?_ ?_; exact (yf (zb aI zp (za rfl))); refine zb ?_ ?_ ?_; exact ziU; exact zp; exact za rfl; exact za rfl; exact za rfl; exact za rfl; exact za rfl; exact za rfl; exact za rfl; exact za rfl; exact za rfl; exact za rfl; exact za rfl)) (zr (zq .Mod) (av 1) aI))))
theorem Xp (T : Txt K kd mg t) (hkd : KD1 P w K kd) : FnOk P w K mg base CX0 2 t.XF t.X3 ["_law_rows_here", "_law_n", "_law_x"] (spD K kd xX) := by
 refine wL (N := zak) (ps := ["_law_rows_here", "_law_n", "_law_x"]) (k := 1) (c := zaA) T.Z5 wN λ cdv A outer s H E hr => ?_
 exact (by
  refine zm ?_ ?_; exact (by refine sv true 3 wN.nd ?_; exact (zr (zq .Mod) (zr (zq .FloorDiv) (av 2) aI) (ww (xM (hkd _ rfl rfl rfl)) rfl T.Zx Bt.len (zf (av 0) zu (za rfl)) (Bt.n _ rfl) (by decide) rfl rfl)))
  refine zm ?_ ?_; exact (by refine sv true 4 wN.nd ?_; exact (ax hkd (av 0) (av 3)))
  refine zm ?_ ?_; exact (by refine sv true 5 wN.nd ?_; exact (zr (zq .Mod) (zr (zq .FloorDiv) (av 2) aI) (av 1)))
  refine zm ?_ ?_; exact (by refine sv true 6 wN.nd ?_; exact (zK (by refine zb ?_ ?_ ?_; exact (Yq zaD rfl T.zaE Bt.tuple (zf (av 0) zu (za rfl)) (Bt.n _ rfl) (by decide) rfl rfl); refine zb ?_ ?_ ?_; exact (wC (av 0) wR (wy (zeR zjx aI))); refine zb ?_ ?_ ?_; exact (zr (zq .Add) (av 0) (wC (av 0) wR (wy aI))); refine zb ?_ ?_ ?_; exact aZ; refine zb ?_ ?_ ?_; exact ziU; refine zb ?_ ?_ ?_; exact aS; exact zp; exact za rfl; exact za rfl; exact za rfl; exact za rfl; exact za rfl; exact za rfl)))
  refine zm ?_ ?_; exact (by refine sv true 7 wN.nd ?_; exact (zK (by refine zb ?_ ?_ ?_; exact (Yq zaD rfl T.zaE Bt.tuple (zf (av 4) zu (za rfl)) (Bt.n _ rfl) (by decide) rfl rfl); refine zb ?_ ?_ ?_; exact (wC (av 4) wR (wy (zeR zjx aI))); refine zb ?_ ?_ ?_; exact (zr (zq .Add) (av 4) (wC (av 4) wR (wy aI))); refine zb ?_ ?_ ?_; exact aZ; refine zb ?_ ?_ ?_; exact aI; refine zb ?_ ?_ ?_; exact (zr (zq .Add) (zr (zq .Add) (wC (av 4) wR (wy (av 5))) (zK (zb (zT (zaM T hkd) (hr.mono (by omega)) rfl T.vf T.WM.kp T.zaH yM (zf (av 1) (zf (av 2) zu (za rfl)) (za rfl)) (by decide) rfl rfl) zp (za rfl)))) (wC (av 4) (wy (zr (zq .Add) (av 5) aI)) wR)); exact zp; exact za rfl; exact za rfl; exact za rfl; exact za rfl; exact za rfl; exact za rfl)))
  refine zm ?_ ?_; exact (by refine sv true 7 wN.nd ?_; exact (zr (zq .Add) (av 7) (zr (zq .Mult) (zK (zb (zr (zq .Add) (zr (zq .Add) (wC (av 4) wR (wy (av 5))) (zK (zb (zT (zaM T hkd) (hr.mono (by omega)) rfl T.vf T.WM.kp T.zaH yM (zf (av 1) (zf (zr (zq .FloorDiv) (av 2) aI) zu (za rfl)) (za rfl)) (by decide) rfl rfl) zp (za rfl)))) (wC (av 4) (wy (zr (zq .Add) (av 5) aI)) wR)) zp (za rfl))) aI)))
  refine zm ?_ ?_; exact (wO (xZ (yR (hkd _ rfl rfl rfl) (xV hr) .Eq) (yW .Eq) (zr (zq .Mod) (av 2) aI) aI (xf _)) (zH (ym (ax hkd (av 6) (zr (zq .Mod) (zr (zq .FloorDiv) (av 2) aI) (ww (xM (hkd _ rfl rfl rfl)) rfl T.Zx Bt.len (zf (av 6) zu (za rfl)) (Bt.n _ rfl) (by decide) rfl rfl))))) yS)
  exact zH (ym (zr (zq .Add) (zr (zq .Add) (wC (av 0) wR (wy (av 3))) (zK (zb (ax hkd (av 7) (zr (zq .Mod) (zr (zq .FloorDiv) (av 2) aI) (ww (xM (hkd _ rfl rfl rfl)) rfl T.Zx Bt.len (zf (av 7) zu (za rfl)) (Bt.n _ rfl) (by decide) rfl rfl))) zp (za rfl)))) (wC (av 0) (wy (zr (zq .Add) (av 3) aI)) wR))))
theorem X4 (T : Txt K kd mg t) (hkd : KD1 P w K kd) : FnOk P w K mg base CX0 1 t.XC t.Xu ["_law_x"] (spD K kd wB) := by
 refine wL (N := zal) (ps := ["_law_x"]) (k := 0) (c := zay) T.Yg zdW λ cdv A outer s H E hr => ?_
 exact (zH (ym (ax hkd (zK (by refine zb ?_ ?_ ?_; exact aS; refine zb ?_ ?_ ?_; exact aS; refine zb ?_ ?_ ?_; exact aS; refine zb ?_ ?_ ?_; exact aS; refine zb ?_ ?_ ?_; exact aS; refine zb ?_ ?_ ?_; exact aS; refine zb ?_ ?_ ?_; exact aZ; refine zb ?_ ?_ ?_; exact aI; refine zb ?_ ?_ ?_; exact (yf (zb aS zp (za rfl))); refine zb ?_ ?_ ?_; exact (zK (zb aS zp (za rfl))); refine zb ?_ ?_ ?_; exact aB; refine zb ?_ ?_ ?_; exact aS; exact zp; exact za rfl; exact za rfl; exact za rfl; exact za rfl; exact za rfl; exact za rfl; exact za rfl; exact za rfl; exact za rfl; exact za rfl; exact za rfl; exact za rfl)) (zr (zq .Mod) (av 0) aI))))
theorem zdR (T : Txt K kd mg t) (hkd : KD1 P w K kd) : FnOk P w K mg base CX0 3 t.Y5 t.YZ ["_law_algebra_here", "_law_x"] (spD K kd vZ) := by
 refine wL (N := ZJ) (ps := ["_law_algebra_here", "_law_x"]) (k := 2) (c := Vx) T.Vu yG λ cdv A outer s H E hr => ?_
 exact (by
  refine zm ?_ ?_; exact (zbv (av 0) (Y8 rfl (zW (an 2 yG.nd) (zW (an 3 yG.nd) (zW (an 4 yG.nd) (zW (an 5 yG.nd) (zW (an 6 yG.nd) (zW (an 7 yG.nd) ZK rfl) rfl) rfl) rfl) rfl) rfl) rfl rfl) rfl rfl rfl)
  refine zm ?_ ?_; exact (by refine sv true 8 yG.nd ?_; exact (yJ (N := ["_law_c", "_law_n"]) (cap := [none, some 2]) (S := [0]) rfl (yH rfl T.yL (zf (av 3) zu (za rfl)) rfl) rfl (by change wu _ ZJ _ (zy vd).names _ = true; decide +kernel) (by decide) (λ cl s H fp => (an 0 zbB)) (λ cl s H fp => yt) (λ cl s H fp => (zr (zq .Mult) (zK (zb aI zp (za rfl))) (av 1))) (λ _ => rfl)))
  refine zm ?_ ?_; exact (by refine sv true 9 yG.nd ?_; exact (yf (zb aS (zb (av 8) zp (za rfl)) (za rfl))))
  refine zm ?_ ?_; exact (zaL (z := true) (i := 10) (N := ["_law_letter", "_law_rows_here"]) (cap := [none, some 8]) (S := [0]) yG.nd rfl (by exact Or.inl rfl) (by exact Or.inr rfl) rfl rfl (zjX aS) rfl (by change wu _ ZJ _ (zy vd).names _ = true; decide +kernel) (by decide) (λ cl s H fp => (an 0 zbj)) (λ cl s H fp => yt) (λ cl s H fp => (yf (zb (zr (zq .Add) aS (av 0)) (zb (av 1) zp (za rfl)) (za rfl)))) (λ _ => rfl))
  refine zm ?_ ?_; exact (by refine sv true 11 yG.nd ?_; exact (zK (by refine zb ?_ ?_ ?_; exact (Yq zaD rfl T.zaE Bt.tuple (zf (av 6) zu (za rfl)) (Bt.n _ rfl) (by decide) rfl rfl); refine zb ?_ ?_ ?_; exact aZ; refine zb ?_ ?_ ?_; exact ziU; refine zb ?_ ?_ ?_; exact (av 10); refine zb ?_ ?_ ?_; exact (zK (zb (av 9) (zb (av 9) zp (za rfl)) (za rfl))); refine zb ?_ ?_ ?_; exact (zK (by refine zb ?_ ?_ ?_; exact (yf (by refine zb ?_ ?_ ?_; exact aS; refine zb ?_ ?_ ?_; exact (av 8); refine zb ?_ ?_ ?_; exact aI; exact zp; exact za rfl; exact za rfl; exact za rfl)); exact zp; exact za rfl)); refine zb ?_ ?_ ?_; exact (zK (by refine zb ?_ ?_ ?_; exact (yf (zb aS zp (za rfl))); exact zp; exact za rfl)); refine zb ?_ ?_ ?_; exact (zK (by refine zb ?_ ?_ ?_; exact (zK (zb aS (zb (av 8) zp (za rfl)) (za rfl))); exact zp; exact za rfl)); refine zb ?_ ?_ ?_; exact (zK (zb aZ zp (za rfl))); refine zb ?_ ?_ ?_; exact (zK (zb aS zp (za rfl))); exact zp; exact za rfl; exact za rfl; exact za rfl; exact za rfl; exact za rfl; exact za rfl; exact za rfl; exact za rfl; exact za rfl; exact za rfl)))
  refine zm ?_ ?_; exact (by refine sv true 11 yG.nd ?_; exact (zr (zq .Add) (av 11) (zK (by refine zb ?_ ?_ ?_; exact (zK (by refine zb ?_ ?_ ?_; exact (yf (zb (zT (X4 T hkd) (hr.mono (by omega)) rfl T.wB T.Yg.kp T.X6 yM (zf (zr (zq .FloorDiv) (av 1) aI) zu (za rfl)) (by decide) rfl rfl) (zb (av 8) zp (za rfl)) (za rfl))); exact zp; exact za rfl)); refine zb ?_ ?_ ?_; exact (zK (by refine zb ?_ ?_ ?_; exact (yf (zb (zT (X4 T hkd) (hr.mono (by omega)) rfl T.wB T.Yg.kp T.X6 yM (zf (zr (zq .FloorDiv) (av 1) aI) zu (za rfl)) (by decide) rfl rfl) (zb (av 8) zp (za rfl)) (za rfl))); exact zp; exact za rfl)); exact zp; exact za rfl; exact za rfl))))
  refine zm ?_ ?_; exact (by refine sv true 11 yG.nd ?_; exact (zr (zq .Add) (av 11) (zK (by refine zb ?_ ?_ ?_; exact (zK (by refine zb ?_ ?_ ?_; exact (yf (zb aS (zb (zT (Xp T hkd) (hr.mono (by omega)) rfl T.xX T.Z5.kp T.XD yM (by refine zf ?_ ?_ ?_; exact (av 8); refine zf ?_ ?_ ?_; exact (av 2); refine zf ?_ ?_ ?_; exact (zr (zq .FloorDiv) (av 1) aI); exact zu; exact za rfl; exact za rfl; exact za rfl) (by decide) rfl rfl) zp (za rfl)) (za rfl))); exact zp; exact za rfl)); refine zb ?_ ?_ ?_; exact (zK (by refine zb ?_ ?_ ?_; exact (yf (zb aS (zb (zT (Xp T hkd) (hr.mono (by omega)) rfl T.xX T.Z5.kp T.XD yM (by refine zf ?_ ?_ ?_; exact (av 8); refine zf ?_ ?_ ?_; exact (av 2); refine zf ?_ ?_ ?_; exact (zr (zq .FloorDiv) (av 1) aI); exact zu; exact za rfl; exact za rfl; exact za rfl) (by decide) rfl rfl) zp (za rfl)) (za rfl))); exact zp; exact za rfl)); exact zp; exact za rfl; exact za rfl))))
  exact zH (ym (yf (by refine zb ?_ ?_ ?_; exact (av 2); refine zb ?_ ?_ ?_; exact (av 3); refine zb ?_ ?_ ?_; exact (av 4); refine zb ?_ ?_ ?_; exact (av 5); refine zb ?_ ?_ ?_; exact (ax hkd (av 11) (zr (zq .Mod) (av 1) (ww (xM (hkd _ rfl rfl rfl)) rfl T.Zx Bt.len (zf (av 11) zu (za rfl)) (Bt.n _ rfl) (by decide) rfl rfl))); refine zb ?_ ?_ ?_; exact (av 7); exact zp; exact za rfl; exact za rfl; exact za rfl; exact za rfl; exact za rfl; exact za rfl))))
theorem zdU (T : Txt K kd mg t) (hkd : KD1 P w K kd) : FnOk P w K mg base CX0 2 t.Xa t.Y0 ["_law_algebra_here", "_law_x"] (spD K kd vX) := by
 refine wL (N := Y6) (ps := ["_law_algebra_here", "_law_x"]) (k := 1) (c := Vv) T.VB yU λ cdv A outer s H E hr => ?_
 exact (by
  refine zm ?_ ?_; exact (zbv (av 0) (Y8 rfl (zW (an 2 yU.nd) (zW (an 3 yU.nd) (zW (an 4 yU.nd) (zW (an 5 yU.nd) (zW (an 6 yU.nd) (zW (an 7 yU.nd) ZK rfl) rfl) rfl) rfl) rfl) rfl) rfl rfl) rfl rfl rfl)
  refine zm ?_ ?_; exact (zaL (z := true) (i := 8) (N := ["_law_letter"]) (cap := [none]) (S := [0]) yU.nd rfl (by exact Or.inl rfl) (by exact Or.inr rfl) rfl rfl (zjX aS) rfl (by change wu _ Y6 _ (zy vW).names _ = true; decide +kernel) (by decide) (λ cl s H fp => (an 0 zbF)) (λ cl s H fp => yt) (λ cl s H fp => (yf (by refine zb ?_ ?_ ?_; exact (zr (zq .Add) aS (av 0)); refine zb ?_ ?_ ?_; exact (zK zp); exact zp; exact za rfl; exact za rfl))) (λ _ => rfl))
  refine zm ?_ ?_; exact (by refine sv true 9 yU.nd ?_; exact (zK (by refine zb ?_ ?_ ?_; exact (Yq zaD rfl T.zaE Bt.tuple (zf (av 7) zu (za rfl)) (Bt.n _ rfl) (by decide) rfl rfl); refine zb ?_ ?_ ?_; exact aZ; refine zb ?_ ?_ ?_; exact ziU; refine zb ?_ ?_ ?_; exact (av 8); refine zb ?_ ?_ ?_; exact (zK (by refine zb ?_ ?_ ?_; exact (yf (by refine zb ?_ ?_ ?_; exact aS; refine zb ?_ ?_ ?_; exact (zK zp); exact zp; exact za rfl; exact za rfl)); refine zb ?_ ?_ ?_; exact (yf (by refine zb ?_ ?_ ?_; exact aS; refine zb ?_ ?_ ?_; exact (zK (zb aI zp (za rfl))); exact zp; exact za rfl; exact za rfl)); exact zp; exact za rfl; exact za rfl)); refine zb ?_ ?_ ?_; exact (zK (by refine zb ?_ ?_ ?_; exact (yf (zb aS zp (za rfl))); exact zp; exact za rfl)); refine zb ?_ ?_ ?_; exact (zK (by refine zb ?_ ?_ ?_; exact (zK (by refine zb ?_ ?_ ?_; exact aS; refine zb ?_ ?_ ?_; exact (zK zp); exact zp; exact za rfl; exact za rfl)); exact zp; exact za rfl)); refine zb ?_ ?_ ?_; exact (zK (by refine zb ?_ ?_ ?_; exact (yf (by refine zb ?_ ?_ ?_; exact aS; refine zb ?_ ?_ ?_; exact (zK zp); refine zb ?_ ?_ ?_; exact aI; exact zp; exact za rfl; exact za rfl; exact za rfl)); exact zp; exact za rfl)); refine zb ?_ ?_ ?_; exact (zK (zb aZ zp (za rfl))); exact zp; exact za rfl; exact za rfl; exact za rfl; exact za rfl; exact za rfl; exact za rfl; exact za rfl; exact za rfl; exact za rfl)))
  refine zm ?_ ?_; exact (by refine sv true 9 yU.nd ?_; exact (zr (zq .Add) (av 9) (zK (by refine zb ?_ ?_ ?_; exact (zK (by refine zb ?_ ?_ ?_; exact (yf (by refine zb ?_ ?_ ?_; exact (zT (X4 T hkd) (hr.mono (by omega)) rfl T.wB T.Yg.kp T.X6 yM (zf (zr (zq .FloorDiv) (av 1) aI) zu (za rfl)) (by decide) rfl rfl); refine zb ?_ ?_ ?_; exact (zK zp); exact zp; exact za rfl; exact za rfl)); exact zp; exact za rfl)); refine zb ?_ ?_ ?_; exact (zK (by refine zb ?_ ?_ ?_; exact (yf (by refine zb ?_ ?_ ?_; exact aS; refine zb ?_ ?_ ?_; exact (zK (zb aI (zb aI zp (za rfl)) (za rfl))); exact zp; exact za rfl; exact za rfl)); exact zp; exact za rfl)); refine zb ?_ ?_ ?_; exact (zK (by refine zb ?_ ?_ ?_; exact (yf (by refine zb ?_ ?_ ?_; exact aS; refine zb ?_ ?_ ?_; exact (zK (zb (zr (zq .Sub) (av 2) aI) (zb (zr (zq .Sub) (av 2) aI) zp (za rfl)) (za rfl))); exact zp; exact za rfl; exact za rfl)); exact zp; exact za rfl)); refine zb ?_ ?_ ?_; exact (zK (by refine zb ?_ ?_ ?_; exact (yf (by refine zb ?_ ?_ ?_; exact aS; refine zb ?_ ?_ ?_; exact (yf (zb aI zp (za rfl))); exact zp; exact za rfl; exact za rfl)); exact zp; exact za rfl)); exact zp; exact za rfl; exact za rfl; exact za rfl; exact za rfl))))
  refine zm ?_ ?_; exact (by refine sv true 9 yU.nd ?_; exact (zr (zq .Add) (av 9) (zK (by refine zb ?_ ?_ ?_; exact (zK (by refine zb ?_ ?_ ?_; exact (yf (by refine zb ?_ ?_ ?_; exact aS; refine zb ?_ ?_ ?_; exact (zK (zb (zT (zaM T hkd) (hr.mono (by omega)) rfl T.vf T.WM.kp T.zaH yM (zf (av 2) (zf (zr (zq .FloorDiv) (av 1) aI) zu (za rfl)) (za rfl)) (by decide) rfl rfl) zp (za rfl))); exact zp; exact za rfl; exact za rfl)); exact zp; exact za rfl)); refine zb ?_ ?_ ?_; exact (zK (by refine zb ?_ ?_ ?_; exact (yf (zb aS (zb aZ zp (za rfl)) (za rfl))); exact zp; exact za rfl)); refine zb ?_ ?_ ?_; exact (zK (by refine zb ?_ ?_ ?_; exact (yf (zb aS (zb (zgO rfl rfl T.yL rfl T.XR (zf (zr (zq .Add) (av 2) aI) zu (za rfl)) rfl rfl) zp (za rfl)) (za rfl))); exact zp; exact za rfl)); refine zb ?_ ?_ ?_; exact (zK (by refine zb ?_ ?_ ?_; exact (yf (zb aS (zb aS zp (za rfl)) (za rfl))); exact zp; exact za rfl)); exact zp; exact za rfl; exact za rfl; exact za rfl; exact za rfl))))
  exact zH (ym (yf (by refine zb ?_ ?_ ?_; exact (av 2); refine zb ?_ ?_ ?_; exact (av 3); refine zb ?_ ?_ ?_; exact (av 4); refine zb ?_ ?_ ?_; exact (av 5); refine zb ?_ ?_ ?_; exact (av 6); refine zb ?_ ?_ ?_; exact (ax hkd (av 9) (zr (zq .Mod) (av 1) (ww (xM (hkd _ rfl rfl rfl)) rfl T.Zx Bt.len (zf (av 9) zu (za rfl)) (Bt.n _ rfl) (by decide) rfl rfl))); exact zp; exact za rfl; exact za rfl; exact za rfl; exact za rfl; exact za rfl; exact za rfl))))
theorem zgb (T : Txt K kd mg t) (hkd : KD1 P w K kd) : FnOk P w K mg base CX0 4 t.Wt t.Wu ["_law_algebra_here", "_law_x"] (spD K kd vB) := by
 refine wL (N := zbe) (ps := ["_law_algebra_here", "_law_x"]) (k := 3) (c := zaS) T.zbi xY λ cdv A outer s H E hr => ?_
 exact (by
  refine zm ?_ ?_; exact (zbv (av 0) (Y8 rfl (zW (an 2 xY.nd) (zW (an 3 xY.nd) (zW (an 4 xY.nd) (zW (an 5 xY.nd) (zW (an 6 xY.nd) (zW (an 7 xY.nd) ZK rfl) rfl) rfl) rfl) rfl) rfl) rfl rfl) rfl rfl rfl)
  refine zm ?_ ?_; exact (by refine sv true 8 xY.nd ?_; exact (zr (zq .Mod) (av 1) aI))
  refine zm ?_ ?_; exact (by refine sv true 1 xY.nd ?_; exact (zr (zq .FloorDiv) (av 1) aI))
  refine zm ?_ ?_; exact (by refine sv true 9 xY.nd ?_; exact (zK (by refine zb ?_ ?_ ?_; exact (Yq Xn rfl T.XR Bt.list (zf (av 0) zu (za rfl)) (Bt.n _ rfl) (by decide) rfl rfl); refine zb ?_ ?_ ?_; exact (wC (av 0) wR (wy aI)); refine zb ?_ ?_ ?_; exact (zr (zq .Add) (av 0) (yf (zb aI zp (za rfl)))); refine zb ?_ ?_ ?_; exact (yf (by refine zb ?_ ?_ ?_; exact (av 2); refine zb ?_ ?_ ?_; exact (av 3); refine zb ?_ ?_ ?_; exact (av 4); refine zb ?_ ?_ ?_; exact (av 5); refine zb ?_ ?_ ?_; exact (av 6); refine zb ?_ ?_ ?_; exact (av 7); refine zb ?_ ?_ ?_; exact (zK zp); exact zp; exact za rfl; exact za rfl; exact za rfl; exact za rfl; exact za rfl; exact za rfl; exact za rfl)); refine zb ?_ ?_ ?_; exact (wC (av 0) (wy aI) wR); refine zb ?_ ?_ ?_; exact (yf zp); exact zp; exact za rfl; exact za rfl; exact za rfl; exact za rfl; exact za rfl; exact za rfl)))
  refine zm ?_ ?_; exact (wO (xZ (yR (hkd _ rfl rfl rfl) (xV hr) .Eq) (yW .Eq) (av 8) aI (xf _)) (zH (ym (ax hkd (av 9) (zr (zq .Mod) (av 1) (ww (xM (hkd _ rfl rfl rfl)) rfl T.Zx Bt.len (zf (av 9) zu (za rfl)) (Bt.n _ rfl) (by decide) rfl rfl))))) yS)
  refine zm ?_ ?_; exact (wO (xZ (yR (hkd _ rfl rfl rfl) (xV hr) .Eq) (yW .Eq) (av 8) aI (xf _)) (zH (ym (yf (by refine zb ?_ ?_ ?_; exact (ax hkd (zK (by refine zb ?_ ?_ ?_; exact (zr (zq .Add) (av 2) aI); refine zb ?_ ?_ ?_; exact (zr (zq .Sub) (av 2) aI); refine zb ?_ ?_ ?_; exact aB; refine zb ?_ ?_ ?_; exact aI; refine zb ?_ ?_ ?_; exact aI; refine zb ?_ ?_ ?_; exact (zeR zjx (av 2)); refine zb ?_ ?_ ?_; exact (Yq zjn rfl T.zpH Bt.str (zf (av 2) zu (za rfl)) (Bt.n _ rfl) (by decide) rfl rfl); refine zb ?_ ?_ ?_; exact aZ; exact zp; exact za rfl; exact za rfl; exact za rfl; exact za rfl; exact za rfl; exact za rfl; exact za rfl; exact za rfl)) (zr (zq .Mod) (av 1) aI)); refine zb ?_ ?_ ?_; exact (av 3); refine zb ?_ ?_ ?_; exact (av 4); refine zb ?_ ?_ ?_; exact (av 5); refine zb ?_ ?_ ?_; exact (av 6); refine zb ?_ ?_ ?_; exact (av 7); exact zp; exact za rfl; exact za rfl; exact za rfl; exact za rfl; exact za rfl; exact za rfl)))) yS)
  refine zm ?_ ?_; exact (wO (xZ (yR (hkd _ rfl rfl rfl) (xV hr) .Eq) (yW .Eq) (av 8) aI (xf _)) (zH (ym (yf (by refine zb ?_ ?_ ?_; exact (av 2); refine zb ?_ ?_ ?_; exact (ax hkd (zK (by refine zb ?_ ?_ ?_; exact aI; refine zb ?_ ?_ ?_; exact aI; refine zb ?_ ?_ ?_; exact (zeR zjx aI); refine zb ?_ ?_ ?_; exact aB; refine zb ?_ ?_ ?_; exact aS; refine zb ?_ ?_ ?_; exact aZ; refine zb ?_ ?_ ?_; exact (zK (zb aI zp (za rfl))); refine zb ?_ ?_ ?_; exact (zr (zq .Add) aI (zr (zq .Mod) (av 1) (zr (zq .Pow) aI aI))); exact zp; exact za rfl; exact za rfl; exact za rfl; exact za rfl; exact za rfl; exact za rfl; exact za rfl; exact za rfl)) (zr (zq .Mod) (av 1) aI)); refine zb ?_ ?_ ?_; exact (av 4); refine zb ?_ ?_ ?_; exact (av 5); refine zb ?_ ?_ ?_; exact (av 6); refine zb ?_ ?_ ?_; exact (av 7); exact zp; exact za rfl; exact za rfl; exact za rfl; exact za rfl; exact za rfl; exact za rfl)))) yS)
  refine zm ?_ ?_; exact (wO (AW.at_ (V0 (xZ (yR (hkd _ rfl rfl rfl) (xV hr) .Eq) (yW .Eq) (av 8) aI (xf _)) (Zj (xZ (yR (hkd _ rfl rfl rfl) (xV hr) .Eq) (yW .Eq) (av 8) aI (xf _))))) (zH (ym (yf (by refine zb ?_ ?_ ?_; exact (av 2); refine zb ?_ ?_ ?_; exact (av 3); refine zb ?_ ?_ ?_; exact (zT (Xp T hkd) (hr.mono (by omega)) rfl T.xX T.Z5.kp T.XD yM (by refine zf ?_ ?_ ?_; exact (av 4); refine zf ?_ ?_ ?_; exact (av 2); refine zf ?_ ?_ ?_; exact (av 1); exact zu; exact za rfl; exact za rfl; exact za rfl) (by decide) rfl rfl); refine zb ?_ ?_ ?_; exact (av 5); refine zb ?_ ?_ ?_; exact (av 6); refine zb ?_ ?_ ?_; exact (av 7); exact zp; exact za rfl; exact za rfl; exact za rfl; exact za rfl; exact za rfl; exact za rfl)))) yS)
  refine zm ?_ ?_; exact (wO (xZ (yR (hkd _ rfl rfl rfl) (xV hr) .Eq) (yW .Eq) (av 8) aI (xf _)) (zH (ym (yf (by refine zb ?_ ?_ ?_; exact (av 2); refine zb ?_ ?_ ?_; exact (av 3); refine zb ?_ ?_ ?_; exact (av 4); refine zb ?_ ?_ ?_; exact (zT (zaM T hkd) (hr.mono (by omega)) rfl T.vf T.WM.kp T.zaH yM (zf (av 2) (zf (av 1) zu (za rfl)) (za rfl)) (by decide) rfl rfl); refine zb ?_ ?_ ?_; exact (av 6); refine zb ?_ ?_ ?_; exact (av 7); exact zp; exact za rfl; exact za rfl; exact za rfl; exact za rfl; exact za rfl; exact za rfl)))) yS)
  refine zm ?_ ?_; exact (wO (xZ (yR (hkd _ rfl rfl rfl) (xV hr) .Lt) (yW .Lt) (av 8) aI (xf _)) (zH (ym (zT (zdR T hkd) (hr.mono (by omega)) rfl T.vZ T.Vu.kp T.zdP yM (zf (av 0) (zf (av 1) zu (za rfl)) (za rfl)) (by decide) rfl rfl))) yS)
  exact zH (ym (zT (zdU T hkd) (hr.mono (by omega)) rfl T.vX T.VB.kp T.zdV yM (zf (av 0) (zf (av 1) zu (za rfl)) (za rfl)) (by decide) rfl rfl)))
theorem Vt (T : Txt K kd mg t) (hkd : KD1 P w K kd) : FnOk P w K mg base CX0 6 t.zbs t.zbl ["_law_thing", "_law_due"] (spD K kd xF) := by
 refine wL (N := zew) (ps := ["_law_thing", "_law_due"]) (k := 5) (c := zfL) T.Xr zdl λ cdv A outer s H E hr => ?_
 exact (by
  refine zm ?_ ?_; exact (by refine sv true 2 zdl.nd ?_; exact (zT (zhQ T hkd) (hr.mono (by omega)) rfl T.Yd T.zco.kp T.zhS yM (zf (av 0) zu (za rfl)) (by decide) rfl rfl))
  exact zH (ym (zaw (Vo (hkd _ rfl rfl rfl) rfl rfl T.wW Bt.isinstance rfl T.zlR Bt.bool (av 2) (Bt.n _ rfl) (by decide) (Bt.n _ rfl) (by decide) rfl rfl rfl) (zbo (zac (yR (hkd _ rfl rfl rfl) (xV hr) .Eq) (av 2) (av 1) (xf _))))))
theorem o_law (T : Txt K kd mg t) (hkd : KD1 P w K kd) : FnOk P w K mg base CX0 7 t.znE t.znH ["_law_script"] (spD K kd zej) := by
 refine wL (N := zpv) (ps := ["_law_script"]) (k := 6) (c := zpP) T.zsB vH λ cdv A outer s H E hr => ?_
 exact (by
  refine zm ?_ ?_; exact (by refine sv true 1 vH.nd ?_; exact (zT (zgk T hkd) (hr.mono (by omega)) rfl T.Zy T.zaQ.kp T.zfX yM (zf (zT (Yx T hkd) (hr.mono (by omega)) rfl T.xr T.ZG.kp T.Yy yM (zf (av 0) (zf aI zu (za rfl)) (za rfl)) (by decide) rfl rfl) (zf (zT (Yx T hkd) (hr.mono (by omega)) rfl T.xr T.ZG.kp T.Yy yM (zf (av 0) (zf aI zu (za rfl)) (za rfl)) (by decide) rfl rfl) zu (za rfl)) (za rfl)) (by decide) rfl rfl))
  refine zm ?_ ?_; exact (by refine sv true 2 vH.nd ?_; exact (zT (zjU T hkd) (hr.mono (by omega)) rfl T.XJ T.zfG.kp T.zjk yM (zf (av 1) (zf (zT (Yx T hkd) (hr.mono (by omega)) rfl T.xr T.ZG.kp T.Yy yM (zf (av 0) (zf aI zu (za rfl)) (za rfl)) (by decide) rfl rfl) zu (za rfl)) (za rfl)) (by decide) rfl rfl))
  refine zm ?_ ?_; exact (ZS PassesOwn.never rfl (zhB (zK (zb (av 1) (zb (av 2) zp (za rfl)) (za rfl)))) (an 3 vH.nd) (by
  refine zm ?_ ?_; exact (by refine sv true 4 vH.nd ?_; exact (zT (zeG T hkd) (hr.mono (by omega)) rfl T.vz T.zbM.kp T.zeY yM (zf (av 3) zu (za rfl)) (by decide) rfl rfl))
  refine zm ?_ ?_; exact (wO (AW.at_ (V0 (Zt (Zo (zT (Vt T hkd) (hr.mono (by omega)) rfl T.xF T.Xr.kp T.Va yM (zf (av 4) (zf aB zu (za rfl)) (za rfl)) (by decide) rfl rfl) (λ _ => rfl))) (Zj (xZ (yR (hkd _ rfl rfl rfl) (xV hr) .NotEq) (yW .NotEq) (av 4) (av 3) (xf _))))) (zH (ym aB)) yS)
  exact zH (ZS PassesOwn.never rfl (zhB (zr (zq .Add) (zK (zb (zT (Yx T hkd) (hr.mono (by omega)) rfl T.xr T.ZG.kp T.Yy yM (zf (av 0) (zf aI zu (za rfl)) (za rfl)) (by decide) rfl rfl) zp (za rfl))) (wC (av 0) (wy aI) (wy aI)))) (an 5 vH.nd) (by
  refine zm ?_ ?_; exact (by refine sv true 6 vH.nd ?_; exact (zr (zq .Add) (zr (zq .Mult) (ax hkd (zT (vo T hkd) (hr.mono (by omega)) rfl T.yp T.wV.kp T.vm yM (zf (av 5) (zf aI zu (za rfl)) (za rfl)) (by decide) rfl rfl) aI) aI) (zr (zq .Mod) (av 5) (zr (zq .Pow) aI aI))))
  exact zH (wO (Zt (Zo (zT (Vt T hkd) (hr.mono (by omega)) rfl T.xF T.Xr.kp T.Va yM (zf (zT (zgb T hkd) (hr.mono (by omega)) rfl T.vB T.zbi.kp T.zfT yM (zf (zT (zeG T hkd) (hr.mono (by omega)) rfl T.vz T.zbM.kp T.zeY yM (zf (av 3) zu (za rfl)) (by decide) rfl rfl) (zf (av 6) zu (za rfl)) (za rfl)) (by decide) rfl rfl) (zf aB zu (za rfl)) (za rfl)) (by decide) rfl rfl) (λ _ => rfl))) (zH (ym aB)) yS)) (λ _ => rfl))) (λ _ => rfl))
  refine zm ?_ ?_; exact (by refine sv true 7 vH.nd ?_; exact (yf (zb aI zp (za rfl))))
  refine zm ?_ ?_; exact (ZS PassesOwn.never rfl (ZV rfl T.yL (zf aI zu (za rfl)) rfl) (an 8 vH.nd) (zH (by refine sv true 7 vH.nd ?_; exact (ax hkd (zK (by refine zb ?_ ?_ ?_; exact (yf (zb (av 7) zp (za rfl))); refine zb ?_ ?_ ?_; exact (zK (zb (av 7) zp (za rfl))); exact zp; exact za rfl; exact za rfl)) (zr (zq .Mod) (av 8) aI)))) (λ _ => rfl))
  refine zm ?_ ?_; exact (zbv (av 1) (Y8 rfl (zW (an 9 vH.nd) (zW (an 10 vH.nd) (zW (an 11 vH.nd) (zW (an 12 vH.nd) (zW (an 13 vH.nd) (zW (an 14 vH.nd) ZK rfl) rfl) rfl) rfl) rfl) rfl) rfl rfl) rfl rfl rfl)
  refine zm ?_ ?_; exact (by refine sv true 3 vH.nd ?_; exact (zK (by refine zb ?_ ?_ ?_; exact (av 7); refine zb ?_ ?_ ?_; exact (yf (by refine zb ?_ ?_ ?_; exact (av 7); refine zb ?_ ?_ ?_; exact (av 10); refine zb ?_ ?_ ?_; exact (av 11); refine zb ?_ ?_ ?_; exact (av 12); refine zb ?_ ?_ ?_; exact (av 13); refine zb ?_ ?_ ?_; exact (av 14); exact zp; exact za rfl; exact za rfl; exact za rfl; exact za rfl; exact za rfl; exact za rfl)); refine zb ?_ ?_ ?_; exact (yf (by refine zb ?_ ?_ ?_; exact (av 9); refine zb ?_ ?_ ?_; exact (av 10); refine zb ?_ ?_ ?_; exact (zr (zq .Mult) (zK (zb (av 7) zp (za rfl))) (av 9)); refine zb ?_ ?_ ?_; exact (av 12); refine zb ?_ ?_ ?_; exact (av 13); refine zb ?_ ?_ ?_; exact (av 14); exact zp; exact za rfl; exact za rfl; exact za rfl; exact za rfl; exact za rfl; exact za rfl)); exact zp; exact za rfl; exact za rfl; exact za rfl)))
  refine zm ?_ ?_; exact (by refine sv false 3 vH.nd ?_; exact (zr (zq .Add) (av 3) (zK (by refine zb ?_ ?_ ?_; exact (yf (by refine zb ?_ ?_ ?_; exact (av 9); refine zb ?_ ?_ ?_; exact (av 10); refine zb ?_ ?_ ?_; exact (av 11); refine zb ?_ ?_ ?_; exact (av 7); refine zb ?_ ?_ ?_; exact (av 13); refine zb ?_ ?_ ?_; exact (av 14); exact zp; exact za rfl; exact za rfl; exact za rfl; exact za rfl; exact za rfl; exact za rfl)); refine zb ?_ ?_ ?_; exact (yf (by refine zb ?_ ?_ ?_; exact (av 9); refine zb ?_ ?_ ?_; exact (av 10); refine zb ?_ ?_ ?_; exact (av 11); refine zb ?_ ?_ ?_; exact (av 12); refine zb ?_ ?_ ?_; exact (zK (by refine zb ?_ ?_ ?_; exact (yf (by refine zb ?_ ?_ ?_; exact (av 7); refine zb ?_ ?_ ?_; exact (zK zp); exact zp; exact za rfl; exact za rfl)); exact zp; exact za rfl)); refine zb ?_ ?_ ?_; exact (av 14); exact zp; exact za rfl; exact za rfl; exact za rfl; exact za rfl; exact za rfl; exact za rfl)); exact zp; exact za rfl; exact za rfl))))
  refine zm ?_ ?_; exact (wO (AW.at_ (zmz (xZ (yR (hkd _ rfl rfl rfl) (xV hr) .NotEq) (yW .NotEq) (av 13) (zK zp) (xf _)) (zfg (xZ (yR (hkd _ rfl rfl rfl) (xV hr) .NotEq) (yW .NotEq) (av 14) (zK zp) (xf _))))) (by
  refine zm ?_ ?_; exact (by refine sv true 15 vH.nd ?_; exact (zr (zq .Add) (zK (by refine zb ?_ ?_ ?_; exact (yf (zb (ax hkd (ax hkd (av 13) aI) aI) (zb (ax hkd (ax hkd (av 14) aI) aI) zp (za rfl)) (za rfl))); exact zp; exact za rfl)) (wC (av 14) (wy aI) wR)))
  refine zm ?_ ?_; exact (ZL (Yt vg Xb PySem.F.slot_list_append PySem.F.type_list_append (pv 3) (by refine zb ?_ ?_ ?_; exact (yf (by refine zb ?_ ?_ ?_; exact (av 9); refine zb ?_ ?_ ?_; exact (av 10); refine zb ?_ ?_ ?_; exact (av 11); refine zb ?_ ?_ ?_; exact (av 12); refine zb ?_ ?_ ?_; exact (av 13); refine zb ?_ ?_ ?_; exact (zr (zq .Add) (av 15) (wC (av 15) wR (wy aI))); exact zp; exact za rfl; exact za rfl; exact za rfl; exact za rfl; exact za rfl; exact za rfl)); exact zp; exact za rfl) rfl rfl rfl rfl rfl) rfl)
  exact zH (wO (Zt (Zo (zT (Vt T hkd) (hr.mono (by omega)) rfl T.xF T.Xr.kp T.Va yM (by refine zf ?_ ?_ ?_; exact (yf (by refine zb ?_ ?_ ?_; exact (av 9); refine zb ?_ ?_ ?_; exact (av 10); refine zb ?_ ?_ ?_; exact (av 11); refine zb ?_ ?_ ?_; exact (av 12); refine zb ?_ ?_ ?_; exact (av 13); refine zb ?_ ?_ ?_; exact (av 15); exact zp; exact za rfl; exact za rfl; exact za rfl; exact za rfl; exact za rfl; exact za rfl)); refine zf ?_ ?_ ?_; exact aB; exact zu; exact za rfl; exact za rfl) (by decide) rfl rfl) (λ _ => rfl))) (zH (ym aB)) yS)) yS)
  refine zpm ?_
  refine zm ?_ ?_; exact (ZS PassesOwn.never rfl (zhB (zr (zq .Add) (av 3) (zK (by refine zb ?_ ?_ ?_; exact aZ; refine zb ?_ ?_ ?_; exact aI; refine zb ?_ ?_ ?_; exact aS; refine zb ?_ ?_ ?_; exact (yf zp); refine zb ?_ ?_ ?_; exact (zK zp); refine zb ?_ ?_ ?_; exact ziU; exact zp; exact za rfl; exact za rfl; exact za rfl; exact za rfl; exact za rfl; exact za rfl)))) (an 16 vH.nd) (zH (wO (Zt (Zo (zT (Vt T hkd) (hr.mono (by omega)) rfl T.xF T.Xr.kp T.Va yM (zf (av 16) (zf aB zu (za rfl)) (za rfl)) (by decide) rfl rfl) (λ _ => rfl))) (zH (ym aB)) yS)) (λ _ => rfl))
  exact zH (ym aB))
end
abbrev NsR (K : zD) (x : Str) (f : Addr) : Prop := PySem.W.nsIn K mainGlobals x = some (some (.ref f))
abbrev FnAt (K : zD) (x q : Str) (s : Stmt) (f : Addr) : Prop := ∃ d, Fun K x q s f d
theorem zrj {l : PySem.W.OpenLaw} {w : World} {K : zD} {h : Heap} {mg : Str -> Option Value} {fa : Addr} (X : K.In h) (G : h.Ns mainGlobals mg) (hfa : mg "law" = some (.ref fa))
 {f0 f1 f2 f3 f4 f5 f6 f7 f8 f9 f10 f11 f12 f13 f14 f15 f16 f17 f18 f19 f20 f21 f22 f23 f24 f25 f26 f27 f28 f29 f30 f31 f32 f33 f34 : Addr}
 {tk0_0 : Tok}
 {tk1_0 : Tok}
 {tk2_0 : Tok}
 {tk3_0 : Tok}
 {tk4_0 : Tok}
 {tk5_0 : Tok}
 (a0 : NsR K "is_whole" f0) (l0 : FnAt K "is_whole" "is_whole" Vj f0)
 (a1 : NsR K "is_name" f1) (l1 : FnAt K "is_name" "is_name" WF f1)
 (a2 : NsR K "is_within" f2) (l2 : FnAt K "is_within" "is_within" Wc f2)
 (a3 : NsR K "is_row" f3) (l3 : FnAt K "is_row" "is_row" zao f3)
 (a4 : NsR K "is_table" f4) (l4 : FnAt K "is_table" "is_table" XH f4)
 (a5 : NsR K "is_rising" f5) (l5 : FnAt K "is_rising" "is_rising" YK f5)
 (a6 : NsR K "is_named" f6) (l6 : FnAt K "is_named" "is_named" Vd f6)
 (a7 : NsR K "all_named" f7) (l7 : FnAt K "all_named" "all_named" ZZ f7)
 (a8 : NsR K "is_algebra" f8) (l8 : FnAt K "is_algebra" "is_algebra" Zk f8)
 (a9 : NsR K "_law_cell_at" f9) (l9 : FnAt K "_law_cell_at" "_law_cell_at" YC f9)
 (a10 : NsR K "_law_whole" f10) (l10 : FnAt K "_law_whole" "_law_whole" zap f10)
 (a11 : NsR K "_law_stream" f11) (l11 : FnAt K "_law_stream" "_law_stream" Xj f11)
 (a12 : NsR K "_law_names" f12) (l12 : FnAt K "_law_names" "_law_names" YD f12)
 (a13 : NsR K "_law_divisor" f13) (l13 : FnAt K "_law_divisor" "_law_divisor" YB f13)
 (a14 : NsR K "_law_sums" f14) (l14 : FnAt K "_law_sums" "_law_sums" X5 f14)
 (a15 : NsR K "_law_rising" f15) (l15 : FnAt K "_law_rising" "_law_rising" Zm f15)
 (a16 : NsR K "_law_kept" f16) (l16 : FnAt K "_law_kept" "_law_kept" Yn f16)
 (a17 : NsR K "_law_joins" f17) (l17 : FnAt K "_law_joins" "_law_joins" vh f17)
 (a18 : NsR K "_law_rows" f18) (l18 : FnAt K "_law_rows" "_law_rows" XS f18)
 (a19 : NsR K "_law_plain" f19) (l19 : FnAt K "_law_plain" "_law_plain" YS f19)
 (a20 : NsR K "_law_beside" f20) (l20 : FnAt K "_law_beside" "_law_beside" Yb f20)
 (a21 : NsR K "_law_made" f21) (l21 : FnAt K "_law_made" "_law_made" Vr f21)
 (a22 : NsR K "_law_order" f22) (l22 : FnAt K "_law_order" "_law_order" Wi f22)
 (a23 : NsR K "_law_signs" f23) (l23 : FnAt K "_law_signs" "_law_signs" YQ f23)
 (a24 : NsR K "_law_algebra" f24) (l24 : FnAt K "_law_algebra" "_law_algebra" vA f24)
 (a25 : NsR K "_law_free" f25) (l25 : FnAt K "_law_free" "_law_free" Ys f25)
 (a26 : NsR K "_law_copy" f26) (l26 : FnAt K "_law_copy" "_law_copy" ZR f26)
 (a27 : NsR K "_law_odd" f27) (l27 : FnAt K "_law_odd" "_law_odd" zaJ f27)
 (a28 : NsR K "_law_bad_rows" f28) (l28 : FnAt K "_law_bad_rows" "_law_bad_rows" Yc f28)
 (a29 : NsR K "_law_bad_name" f29) (l29 : FnAt K "_law_bad_name" "_law_bad_name" Yi f29)
 (a30 : NsR K "_law_bad_deeds" f30) (l30 : FnAt K "_law_bad_deeds" "_law_bad_deeds" vd f30)
 (a31 : NsR K "_law_bad_signs" f31) (l31 : FnAt K "_law_bad_signs" "_law_bad_signs" vW f31)
 (a32 : NsR K "_law_spoiled" f32) (l32 : FnAt K "_law_spoiled" "_law_spoiled" Yw f32)
 (a33 : NsR K "_law_told" f33) (l33 : FnAt K "_law_told" "_law_told" W4 f33)
 (a34 : NsR K "law" f34) (l34 : FnAt K "law" "law" zku f34)
 (cg0 : PySem.W.nsIn K mainGlobals "MOST_AROUND" = some (some (.int 6 tk0_0)))
 (cg1 : PySem.W.nsIn K mainGlobals "MOST_DEEDS" = some (some (.int 6 tk1_0)))
 (cg2 : PySem.W.nsIn K mainGlobals "MOST_LETTERS" = some (some (.int 8 tk2_0)))
 (cg3 : PySem.W.nsIn K mainGlobals "MOST_SIGNS" = some (some (.int 4 tk3_0)))
 (cg4 : PySem.W.nsIn K mainGlobals "MOST_VALUES" = some (some (.int 8 tk4_0)))
 (cg5 : PySem.W.nsIn K mainGlobals "SMALL_LETTERS" = some (some (.str "abcdefghijklmnopqrstuvwxyz" tk5_0)))
 (z0 : PySem.W.nsIn K mainGlobals "all" = some none) (z1 : PySem.W.nsIn K mainGlobals "bool" = some none) (z2 : PySem.W.nsIn K mainGlobals "int" = some none) (z3 : PySem.W.nsIn K mainGlobals "isinstance" = some none) (z4 : PySem.W.nsIn K mainGlobals "len" = some none) (z5 : PySem.W.nsIn K mainGlobals "list" = some none) (z6 : PySem.W.nsIn K mainGlobals "max" = some none) (z7 : PySem.W.nsIn K mainGlobals "range" = some none) (z8 : PySem.W.nsIn K mainGlobals "set" = some none) (z9 : PySem.W.nsIn K mainGlobals "sorted" = some none) (z10 : PySem.W.nsIn K mainGlobals "str" = some none) (z11 : PySem.W.nsIn K mainGlobals "tuple" = some none) (z12 : PySem.W.nsIn K mainGlobals "zip" = some none) :
 ∃ fd : FuncData, (∀ (s : Shared) (v : Value), BindsTo s fd ⟨[v], []⟩ [("_law_script", v)]) /\ ∀ base : Heap, K.In base -> base.Ns mainGlobals mg -> FnOk l.prog w K mg base CX0 7 fa fd ["_law_script"] (spL K zej) := by
 have e := hfa.symm.trans (PySem.W.mg_of X G a34)
 cases e
 obtain ⟨_, F0⟩ := l0
 have b0 := F0.binds (ps := ["thing"]) λ _ _ _ _ _ _ => l1_ λ _ => rfl
 obtain ⟨_, F1⟩ := l1
 have b1 := F1.binds (ps := ["thing"]) λ _ _ _ _ _ _ => l1_ λ _ => rfl
 obtain ⟨_, F2⟩ := l2
 have b2 := F2.binds (ps := ["thing", "least", "most"]) λ _ _ _ _ _ _ => l3_ λ _ _ _ => rfl
 obtain ⟨_, F3⟩ := l3
 have b3 := F3.binds (ps := ["thing", "n"]) λ _ _ _ _ _ _ => l2_ λ _ _ => rfl
 obtain ⟨_, F4⟩ := l4
 have b4 := F4.binds (ps := ["thing", "many", "n"]) λ _ _ _ _ _ _ => l3_ λ _ _ _ => rfl
 obtain ⟨_, F5⟩ := l5
 have b5 := F5.binds (ps := ["row"]) λ _ _ _ _ _ _ => l1_ λ _ => rfl
 obtain ⟨_, F6⟩ := l6
 have b6 := F6.binds (ps := ["thing"]) λ _ _ _ _ _ _ => l1_ λ _ => rfl
 obtain ⟨_, F7⟩ := l7
 have b7 := F7.binds (ps := ["thing", "most"]) λ _ _ _ _ _ _ => l2_ λ _ _ => rfl
 obtain ⟨_, F8⟩ := l8
 have b8 := F8.binds (ps := ["thing"]) λ _ _ _ _ _ _ => l1_ λ _ => rfl
 obtain ⟨_, F9⟩ := l9
 have b9 := F9.binds (ps := ["_law_script", "_law_k"]) λ _ _ _ _ _ _ => l2_ λ _ _ => rfl
 obtain ⟨_, F10⟩ := l10
 have b10 := F10.binds (ps := ["_law_found"]) λ _ _ _ _ _ _ => l1_ λ _ => rfl
 obtain ⟨_, F11⟩ := l11
 have b11 := F11.binds (ps := ["_law_cell", "_law_many"]) λ _ _ _ _ _ _ => l2_ λ _ _ => rfl
 obtain ⟨_, F12⟩ := l12
 have b12 := F12.binds (ps := ["_law_cell", "_law_many"]) λ _ _ _ _ _ _ => l2_ λ _ _ => rfl
 obtain ⟨_, F13⟩ := l13
 have b13 := F13.binds (ps := ["_law_one", "_law_other"]) λ _ _ _ _ _ _ => l2_ λ _ _ => rfl
 obtain ⟨_, F14⟩ := l14
 have b14 := F14.binds (ps := ["_law_n", "_law_m", "_law_xs"]) λ _ _ _ _ _ _ => l3_ λ _ _ _ => rfl
 obtain ⟨_, F15⟩ := l15
 have b15 := F15.binds (ps := ["_law_n", "_law_m", "_law_xs"]) λ _ _ _ _ _ _ => l3_ λ _ _ _ => rfl
 obtain ⟨_, F16⟩ := l16
 have b16 := F16.binds (ps := ["_law_n", "_law_m", "_law_xs"]) λ _ _ _ _ _ _ => l3_ λ _ _ _ => rfl
 obtain ⟨_, F17⟩ := l17
 have b17 := F17.binds (ps := ["_law_kind", "_law_n"]) λ _ _ _ _ _ _ => l2_ λ _ _ => rfl
 obtain ⟨_, F18⟩ := l18
 have b18 := F18.binds (ps := ["_law_kind", "_law_n", "_law_m", "_law_xs"]) λ _ _ _ _ _ _ => l4_ λ _ _ _ _ => rfl
 obtain ⟨_, F19⟩ := l19
 have b19 := F19.binds (ps := ["_law_kind", "_law_n", "_law_m", "_law_many", "_law_cell"]) λ _ _ _ _ _ _ => l5_ λ _ _ _ _ _ => rfl
 obtain ⟨_, F20⟩ := l20
 have b20 := F20.binds (ps := ["_law_one", "_law_other", "_law_m"]) λ _ _ _ _ _ _ => l3_ λ _ _ _ => rfl
 obtain ⟨_, F21⟩ := l21
 have b21 := F21.binds (ps := ["_law_cell", "_law_m", "_law_many"]) λ _ _ _ _ _ _ => l3_ λ _ _ _ => rfl
 obtain ⟨_, F22⟩ := l22
 have b22 := F22.binds (ps := ["_law_cell", "_law_n"]) λ _ _ _ _ _ _ => l2_ λ _ _ => rfl
 obtain ⟨_, F23⟩ := l23
 have b23 := F23.binds (ps := ["_law_cell", "_law_n", "_law_names_here"]) λ _ _ _ _ _ _ => l3_ λ _ _ _ => rfl
 obtain ⟨_, F24⟩ := l24
 have b24 := F24.binds (ps := ["_law_cell", "_law_other"]) λ _ _ _ _ _ _ => l2_ λ _ _ => rfl
 obtain ⟨_, F25⟩ := l25
 have b25 := F25.binds (ps := ["_law_algebra_here", "_law_cell"]) λ _ _ _ _ _ _ => l2_ λ _ _ => rfl
 obtain ⟨_, F26⟩ := l26
 have b26 := F26.binds (ps := ["_law_algebra_here"]) λ _ _ _ _ _ _ => l1_ λ _ => rfl
 obtain ⟨_, F27⟩ := l27
 have b27 := F27.binds (ps := ["_law_n", "_law_x"]) λ _ _ _ _ _ _ => l2_ λ _ _ => rfl
 obtain ⟨_, F28⟩ := l28
 have b28 := F28.binds (ps := ["_law_rows_here", "_law_n", "_law_x"]) λ _ _ _ _ _ _ => l3_ λ _ _ _ => rfl
 obtain ⟨_, F29⟩ := l29
 have b29 := F29.binds (ps := ["_law_x"]) λ _ _ _ _ _ _ => l1_ λ _ => rfl
 obtain ⟨_, F30⟩ := l30
 have b30 := F30.binds (ps := ["_law_algebra_here", "_law_x"]) λ _ _ _ _ _ _ => l2_ λ _ _ => rfl
 obtain ⟨_, F31⟩ := l31
 have b31 := F31.binds (ps := ["_law_algebra_here", "_law_x"]) λ _ _ _ _ _ _ => l2_ λ _ _ => rfl
 obtain ⟨_, F32⟩ := l32
 have b32 := F32.binds (ps := ["_law_algebra_here", "_law_x"]) λ _ _ _ _ _ _ => l2_ λ _ _ => rfl
 obtain ⟨_, F33⟩ := l33
 have b33 := F33.binds (ps := ["_law_thing", "_law_due"]) λ _ _ _ _ _ _ => l2_ λ _ _ => rfl
 obtain ⟨_, F34⟩ := l34
 obtain ⟨_, _, _, _, _, _, _, _, _, rfl, _, _⟩ := F34.ex
 have b34 := F34.binds (ps := ["_law_script"]) λ _ _ _ _ _ _ => l1_ λ _ => rfl
 let KL : List (Addr × List (Key × V)) := []
 have hkd : KD1 l.prog w K (kdL KL) := zru λ p m => by
  exact absurd (show p ∈ ([] : List (Addr × List (Key × V))) from m) List.not_mem_nil
 have T : Txt K (kdL KL) mg ⟨_, _, _, _, _, _, _, _, _, _, _, _, _, _, _, _, _, _, _, _, _, _, _, _, _, _, _, _, _, _, _, _, _, _, _, _, _, _, _, _, _, _, _, _, _, _, _, _, _, _, _, _, _, _, _, _, _, _, _, _, _, _, _, _, _, _, _, _, _, _⟩ := ⟨F0, b0, PySem.W.mg_of X G a0, F1, b1, PySem.W.mg_of X G a1, F2, b2, PySem.W.mg_of X G a2, F3, b3, PySem.W.mg_of X G a3, F4, b4, PySem.W.mg_of X G a4, F5, b5, PySem.W.mg_of X G a5, F6, b6, PySem.W.mg_of X G a6, F7, b7, PySem.W.mg_of X G a7, F8, b8, PySem.W.mg_of X G a8, F9, b9, PySem.W.mg_of X G a9, F10, b10, PySem.W.mg_of X G a10, F11, b11, PySem.W.mg_of X G a11, F12, b12, PySem.W.mg_of X G a12, F13, b13, PySem.W.mg_of X G a13, F14, b14, PySem.W.mg_of X G a14, F15, b15, PySem.W.mg_of X G a15, F16, b16, PySem.W.mg_of X G a16, F17, b17, PySem.W.mg_of X G a17, F18, b18, PySem.W.mg_of X G a18, F19, b19, PySem.W.mg_of X G a19, F20, b20, PySem.W.mg_of X G a20, F21, b21, PySem.W.mg_of X G a21, F22, b22, PySem.W.mg_of X G a22, F23, b23, PySem.W.mg_of X G a23, F24, b24, PySem.W.mg_of X G a24, F25, b25, PySem.W.mg_of X G a25, F26, b26, PySem.W.mg_of X G a26, F27, b27, PySem.W.mg_of X G a27, F28, b28, PySem.W.mg_of X G a28, F29, b29, PySem.W.mg_of X G a29, F30, b30, PySem.W.mg_of X G a30, F31, b31, PySem.W.mg_of X G a31, F32, b32, PySem.W.mg_of X G a32, F33, b33, PySem.W.mg_of X G a33, F34, b34, PySem.W.mg_of X G a34, GC.int (PySem.W.mg_of X G cg0), GC.int (PySem.W.mg_of X G cg1), GC.int (PySem.W.mg_of X G cg2), GC.int (PySem.W.mg_of X G cg3), GC.int (PySem.W.mg_of X G cg4), GC.str (PySem.W.mg_of X G cg5), PySem.W.mg_none_of X G z0, PySem.W.mg_none_of X G z1, PySem.W.mg_none_of X G z2, PySem.W.mg_none_of X G z3, PySem.W.mg_none_of X G z4, PySem.W.mg_none_of X G z5, PySem.W.mg_none_of X G z6, PySem.W.mg_none_of X G z7, PySem.W.mg_none_of X G z8, PySem.W.mg_none_of X G z9, PySem.W.mg_none_of X G z10, PySem.W.mg_none_of X G z11, PySem.W.mg_none_of X G z12⟩
 exact ⟨_, λ s v => .of_eq rfl, λ base _ _ => (o_law T hkd).imp λ vs H Q E h => h _⟩
theorem walk {l : PySem.W.OpenLaw} {q : Program} {loose : List Str} {XP : (Str -> Option Value) -> Heap -> Prop} {YP : World -> Heap -> Prop} {d : DefRec} {K : Params -> zD} (hn : l.most = some 63) (hdf : d.params.defaults = [])
 (hY : ∀ (w : World) (h : Heap), YP w h -> (K w.params).In h) (hm : ∀ ns : List Int, ns.length <= 63 -> zej [(true, .lst (ns.map D.int))] = some (.lf true (.bl true)))
 (F : ∀ (w : World) (mg : Str -> Option Value) (fa : Addr) (h : Heap), (K w.params).In h -> h.Ns mainGlobals mg -> mg d.name = some (.ref fa) ->
  ∃ fd : FuncData, (∀ (s : Shared) (u : Value), BindsTo s fd ⟨[u], []⟩ [("_law_script", u)]) /\ ∀ base : Heap, (K w.params).In base -> base.Ns mainGlobals mg -> FnOk l.prog w (K w.params) mg base CX0 7 fa fd ["_law_script"] (spL (K w.params) zej)) :
 PySem.W.WalkO q loose XP YP l.row.toRowW d [] (λ f vs => PySem.call f vs) :=
 L2.walk_of (n := 63) (k := 7) (x := "_law_script") (CX := λ _ => CX0) (sp := λ w => spL (K w.params) zej) hn (by decide) hdf ⟨rfl, by decide, by decide, rfl⟩ hY F (λ _ _ a ns hl _ hS kd => zrq (hm ns hl) hS) λ _ _ _ _ _ z => z
abbrev lfI (x : Int) : O := .lf true (.int x)
abbrev sI (x : Int) : Option O := some (lfI x)
abbrev sT (d : D) : Option O := some (.lf true d)
abbrev sN (os : List O) : Option O := some (.nd .ls os)
abbrev TZ : Type := List (List Int)
abbrev DZ : Type := List (Str × TZ)
abbrev SS : Type := List (Str × List Int)
abbrev InR (n : Nat) (x : Int) : Prop := 0 <= x /\ x < (n : Int)
theorem zch {f : EF} {as as1 : AS} {o : O} (h : f as = some (.ow o, as1)) (hs : o.str = true) : yX f as = some (.rt o) := by
 unfold yX; rw [h]
 show ((if o.str = true then some o else none).bind _) = _
 rw [if_pos hs]; rfl
theorem szs {n : Nat} (h : n <= 1000000) : n <= sizeLine := zzM h (by decide)
theorem Z8 : ∀ xs : List Int, (xs.map lfI).all O.isLf = true /\ O.strs (xs.map lfI) = true /\ O.toDs (xs.map lfI) = xs.map D.int
 | [] => ⟨rfl, rfl, rfl⟩
 | x :: r => ⟨(Z8 r).1, (Z8 r).2.1, congrArg (D.int x :: ·) (Z8 r).2.2⟩
theorem zhk (xs : List Int) : (xs.map D.int).map (O.lf true) = xs.map lfI := by rw [List.map_map]; rfl
theorem zro {as : AS} {i : Nat} {os : List O} {fl fh : OF} {lo hi : Option Int} (h : as[i]? = some (sN os)) (hl : os.all O.isLf = true) (hs : O.strs os = true) (h1 : fl as = some (lo, as)) (h2 : fh as = some (hi, as)) :
 fSl (fV i) fl fh slP as = some (.ow (.nd .ls ((cutD (O.toDs os) lo hi).map (O.lf true))), as) := by
 unfold fSl
 rw [zis h]; show ((fl as).bind _) = _
 rw [h1]; show ((fh as).bind _) = _
 rw [h2]; show ((RV.view as (.bo i)).bind _) = _
 rw [zkJ h]
 have e : (O.nd .ls os).kl = some true := by simp only [O.kl, hl, if_true, hs]
 rw [e]
 show (wrap (some true) (.fl (cutD (O.toDs os) lo hi))).bind _ = _
 show (if ((cutD (O.toDs os) lo hi).all yF || true) = true then some (RV.ow (.nd .ls ((cutD (O.toDs os) lo hi).map (lfs true)))) else none : Option RV).bind _ = _
 rw [if_pos (by simp), zce]; rfl
theorem zli {x : D} {xs : List D} : cutD (x :: xs) (some 1) none = xs := by
 have := ziB (xs := [x]) (ys := xs)
 have e : slP (.lst ([x] ++ xs)) (some (([x] : List D).length : Int)) none = some (.fl (cutD (x :: xs) (some 1) none)) := rfl
 rw [e] at this
 injection this with this
 injection this
abbrev stB : SF := (zR (yq true 3 (f2 (f2 (f2 (f2 yP yP zY) (f2 (fC (.int 48271)) yP zY) zx) xu zx) (fC (.int 2147483647)) zG))
 (wM (vL 2 (dC (f2 (f2 (f2 yP (fC (.int 40692)) zY) (f2 (fC (.int 7)) xu zY) zx) (fC (.int 2147483399)) zG) dN) vJ)))
theorem ziq (ys : List Int) (w : Int) : (ys ++ [w]).map lfI = ys.map lfI ++ [O.lf true (.int w)] := by rw [List.map_append]; rfl
theorem zfz {A B : Option O} : ∀ (n : Nat) (k x : Int) (ys : List Int) (e4 : Option O), 0 <= k -> k + n <= 1000 -> 0 <= x -> x < 2 ^ 40 -> ys.length + n <= 1000 -> (∀ y ∈ ys, 0 <= y /\ y < 2147483399) -> ∃ (x' : Int) (zs : List Int) (e4' : Option O), zs.length = ys.length + n /\ (∀ z ∈ zs, 0 <= z /\ z < 2147483399) /\
 forL zeb stB (v6 k n) [A, B, sN (ys.map lfI), sI x, e4] = some (.nx [A, B, sN (zs.map lfI), sI x', e4'])
 | 0, k, x, ys, e4, _, _, _, _, _, h => ⟨x, ys, e4, rfl, h, rfl⟩
 | n + 1, k, x, ys, e4, hk, hkn, hx0, hx1, hl, h => by
  have y0 := Int.emod_nonneg (x * x + 48271 * x + k) (show (2147483647 : Int) ≠ 0 by decide)
  have y1 := Int.emod_lt_of_pos (x * x + 48271 * x + k) (show (0 : Int) < 2147483647 by decide)
  have w0 := Int.emod_nonneg ((x * x + 48271 * x + k) % 2147483647 * 40692 + 7 * k) (show (2147483399 : Int) ≠ 0 by decide)
  have w1 := Int.emod_lt_of_pos ((x * x + 48271 * x + k) % 2147483647 * 40692 + 7 * k) (show (0 : Int) < 2147483399 by decide)
  obtain ⟨x', zs, e4', h1, h2, h3⟩ := zfz (A := A) (B := B) n (k + 1) ((x * x + 48271 * x + k) % 2147483647) (ys ++ [((x * x + 48271 * x + k) % 2147483647 * 40692 + 7 * k) % 2147483399]) (sI k) (by omega) (by omega) y0 (Int.lt_trans y1 (by decide)) (by rw [zzH]; show ys.length + 1 + n <= _; omega) (λ z m => by
   rcases zzK.mp m with m | m
   · exact h z m
   · rw [zzP.mp m]; exact ⟨w0, w1⟩)
  refine ⟨x', zs, e4', by rw [h1, zzH]; show ys.length + 1 + n = _; omega, h2, ?_⟩
  rw [ziq] at h3
  rw [zcQ]
  have bx : x.natAbs < big := yK (Int.lt_of_lt_of_le (by decide) hx0) (Int.lt_trans hx1 (by decide))
  have bk : k.natAbs < big := yK (by omega) (by omega)
  exact zlF (as1 := [A, B, sN (ys.map lfI), sI x, sI k]) rfl (xT (wD (i := 3) (yE (xO (xO (vR (zc rfl) (zc rfl) bx bx) (vR zg (zc rfl) (yK (by decide) (by decide)) bx)) (zc rfl)) zg (by decide)) (zQ rfl))
   (zqy (i := 2) rfl (by rw [zI]; exact Yp (by omega)) (yE (xO (vR (zc rfl) zg (yK (Int.lt_of_lt_of_le (by decide) y0) (Int.lt_trans y1 (by decide))) (yK (by decide) (by decide))) (vR zg (zc rfl) (yK (by decide) (by decide)) bk)) zg (by decide)))) h3
theorem zlx {s : Bool} {c m : Int} (h0 : 0 <= m) (h1 : m <= 900) : ∃ xs : List Int, (xs.length : Int) = m /\ (∀ x ∈ xs, 0 <= x /\ x < 2147483399) /\ yp [(true, .int c), (true, .int m)] = sN (xs.map lfI) := by
 have y0 := Int.emod_nonneg c (show (2147483647 : Int) ≠ 0 by decide)
 have y1 := Int.emod_lt_of_pos c (show (0 : Int) < 2147483647 by decide)
 obtain ⟨x', zs, e4, z1, z2, hf⟩ := zfz (A := sI c) (B := sI m) (m + 1).toNat 0 (c % 2147483647 + 48271) [] none (by omega) (by omega) (by omega) (by omega) (by show 0 + _ <= _; omega) (λ _ m => nomatch m)
 cases zs with
 | nil => rw [List.length_nil] at z1; simp at z1; omega
 | cons z r =>
  refine ⟨r, by rw [zzR] at z1; simp at z1; omega, λ x hx => z2 x (zzB _ hx), ?_⟩
  obtain ⟨i1, i2, i3⟩ := Z8 (z :: r)
  have hs := zro (as := [sI c, sI m, sN ((z :: r).map lfI), sI x', e4]) (i := 2) (fl := oS yo) (fh := oN) (lo := some 1) (hi := none) rfl i1 i2 rfl rfl
  rw [i3] at hs
  have hc : cutD ((z :: r).map D.int) (some 1) none = r.map D.int := zli
  rw [hc, zhk] at hs
  refine ZX rfl (xT (v8 (i := 2) (Z7 xg (szl rfl)) (zQ rfl)) (xT (wD (i := 3) (xO (yE (zc rfl) zg (by decide)) zg) (zQ rfl)) (xT (ZP (Yz (zP (xO (zc rfl) zg) zU) (by omega) (by omega)) hf) ?_)))
  exact zch hs (Z8 r).2.1
theorem zdq (xs : List Int) : (O.nd .ls (xs.map lfI)).str = true /\ (O.nd .ls (xs.map lfI)).toD = .lst (xs.map D.int) := ⟨(Z8 xs).2.1, congrArg D.lst (Z8 xs).2.2⟩
abbrev zth (r : List Int) : O := .nd .ls (r.map lfI)
abbrev yC (r : List Int) : D := .lst (r.map D.int)
theorem zmN {g : GF} {fe : EF} {as0 as1 : AS} {y : It1} {r : List It1} {o : O} {os : List O} (h1 : g y as0 = some as1) (h2 : fe as1 = some (.ow o, as1)) (hs : o.str = true) (h3 : v9 g yV fe as0 r = some os) : v9 g yV fe as0 (y :: r) = some (o :: os) := by
 unfold v9
 rw [h1]; show ((fe as1).bind _) = _
 rw [h2]; show (if o.str = true then _ else _) = _
 rw [if_pos hs, h3]; rfl
theorem Zc : ∀ (n : Nat) (k : Int), (v6 k n).length = n
 | 0, _ => rfl
 | n + 1, k => by rw [zcQ]; exact congrArg (· + 1) (Zc n (k + 1))
theorem YG {f : D -> D -> Option Bool} : ∀ {xs : List D}, (∀ x ∈ xs, f x x = some true) -> eqL f xs xs = some true
 | [], _ => rfl
 | x :: r, h => by
  show (f x x).bind _ = _
  rw [h x (zzD), Option.bind_some, YG (xs := r) λ y m => h y (zzB _ m)]; rfl
theorem zkn : ∀ {n : Nat} {k : Int} {y : It1}, y ∈ v6 k n -> ∃ b : Int, y = (true, .int b) /\ k <= b /\ b < k + n
 | 0, _, _, h => nomatch h
 | n + 1, k, y, h => by
  rw [zcQ] at h
  rcases zzA.mp h with rfl | h
  · exact ⟨k, rfl, by omega, by omega⟩
  · obtain ⟨b, e, h1, h2⟩ := zkn h
    exact ⟨b, e, by omega, by omega⟩
theorem zgv {α : Type} (toD : α -> D) {Q : α -> Prop} {g : GF} {fe : EF} {as0 : AS} : ∀ {xs : List It1}, (∀ y ∈ xs, ∃ as1 a, g y as0 = some as1 /\ WE fe as1 (toD a) /\ Q a) -> ∃ (os : List O) (l : List α), v9 g yV fe as0 xs = some os /\ O.strs os = true /\ O.toDs os = l.map toD /\ l.length = xs.length /\ ∀ a ∈ l, Q a
 | [], _ => ⟨[], [], rfl, rfl, rfl, rfl, λ _ m => nomatch m⟩
 | y :: xs, H => by
  obtain ⟨as1, a, h1, ⟨o, h2, h3, h4⟩, h5⟩ := H y (zzD ..)
  obtain ⟨os, l, a1, a2, a3, a4, a5⟩ := zgv toD (Q := Q) (g := g) (fe := fe) (as0 := as0) (xs := xs) λ z m => H z (zzB _ m)
  refine ⟨o :: os, a :: l, zmN h1 h2 h3 a1, by show (o.str && O.strs os) = true; rw [h3, a2]; rfl, by show o.toD :: O.toDs os = _; rw [h4, a3]; rfl, congrArg (· + 1) a4, λ b m => ?_⟩
  rcases zzA.mp m with rfl | m
  · exact h5
  · exact a5 b m
theorem zcx {α : Type} (toD : α -> D) {Q : α -> Prop} {fi : IF} {cap : List (Option Nat)} {g : GF} {fe : EF} {as : AS} {xs : List It1} (h1 : fi as = some (xs, as)) (hl : xs.length <= 1000) (H : ∀ y ∈ xs, ∃ as1 a, g y (X7 cap as) = some as1 /\ WE fe as1 (toD a) /\ Q a) :
 ∃ l : List α, l.length = xs.length /\ (∀ a ∈ l, Q a) /\ WE (yh fi cap g yV fe) as (.lst (l.map toD)) := by
 obtain ⟨os, l, a1, a2, a3, a4, a5⟩ := zgv toD H
 exact ⟨l, a4, a5, _, zkO h1 (szs (by omega)) a1, a2, congrArg D.lst a3⟩
theorem v5 {α : Type} (toD : α -> D) {Q : α -> Prop} {fr : AF} {cap : List (Option Nat)} {fe : EF} {as : AS} {n : Nat} {u : Bool} (h1 : WA fr as [(u, .int n)]) (hl : n <= 1000) (H : ∀ b : Int, 0 <= b -> b < n -> ∃ as1 a, gN 0 (true, .int b) (X7 cap as) = some as1 /\ WE fe as1 (toD a) /\ Q a) :
 ∃ l : List α, l.length = n /\ (∀ a ∈ l, Q a) /\ WE (yh (xR fr xW) cap xq yV fe) as (.lst (l.map toD)) := by
 obtain ⟨l, a1, a2, a3⟩ := zcx toD (Q := Q) (cap := cap) (g := gN 0) (fe := fe) (Yz h1 (by omega) (by omega)) (by rw [Zc]; omega) (λ y m => by
  obtain ⟨b, rfl, h0, h2⟩ := zkn m
  exact H b h0 (by omega))
 rw [Zc] at a1
 exact ⟨l, by omega, a2, a3⟩
theorem zmA {f : EF} {as : AS} {x : D} (h : WE f as x) : ∃ o, yX f as = some (.rt o) /\ o.str = true /\ o.toD = x := by
 obtain ⟨o, h1, h2, h3⟩ := h
 exact ⟨o, zch h1 h2, h2, h3⟩
theorem wH {n m : Nat} {c : SF} {ds : List (Bool × D)} {x : D} (hl : ds.length = m) (h : ∃ o, c (Yo n ds) = some (.rt o) /\ o.str = true /\ o.toD = x) : RE (fnR n m c ds) x := by
 obtain ⟨o, h1, h2, h3⟩ := h
 exact ⟨o, ZX hl h1, h2, h3⟩
abbrev Rt (r : Option Out) (x : D) : Prop := ∃ o, r = some (.rt o) /\ o.str = true /\ o.toD = x
theorem zF {f g : SF} {as as1 : AS} {x : D} (h1 : f as = some (.nx as1)) (h2 : Rt (g as1) x) : Rt (zR f g as) x := by
 obtain ⟨o, a, b, c⟩ := h2
 exact ⟨o, xT h1 a, b, c⟩
theorem vD {f g : SF} {as : AS} {x : D} (h1 : Rt (f as) x) : Rt (zR f g as) x := by
 obtain ⟨o, a, b, c⟩ := h1
 exact ⟨o, zhN a, b, c⟩
theorem Zr {c : TF} {f g : SF} {as : AS} {x : D} (h : WT c as true) (h1 : Rt (f as) x) : Rt (sIf c f g as) x := by
 obtain ⟨o, a, b, d⟩ := h1
 exact ⟨o, zam h a, b, d⟩
theorem wz {f : EF} {as : AS} {x : D} (h : WE f as x) : Rt (yX f as) x := zmA h
def Row (n : Nat) (r : List Int) : Prop := r.length = n /\ ∀ x ∈ r, 0 <= x /\ x < (n : Int)
def Tab (k n : Nat) (T : TZ) : Prop := T.length = k /\ ∀ r ∈ T, Row n r
abbrev zN (T : TZ) : D := .lst (T.map yC)
theorem Vg {r : List Int} {P : Int -> Prop} {k : Int} (h0 : 0 <= k) (h1 : k < r.length) (hp : ∀ x ∈ r, P x) : ∃ x, ixP (.lst (r.map D.int)) (.int k) = some (.im (.int x)) /\ P x := by
 have hk : k.toNat < r.length := by omega
 refine ⟨r[k.toNat], ?_, hp _ (List.getElem_mem hk)⟩
 have h := Xd (xs := r.map D.int) (j := k.toNat) (v := D.int r[k.toNat]) (by rw [zzG, zzC hk]; rfl)
 rw [show ((k.toNat : Nat) : Int) = k by omega] at h
 show imR (atI _ _) = _
 rw [h]; rfl
theorem zeU {α : Type} (toD : α -> D) {T : List α} {P : α -> Prop} {k : Int} (h0 : 0 <= k) (h1 : k < T.length) (hp : ∀ r ∈ T, P r) : ∃ r, ixP (.lst (T.map toD)) (.int k) = some (.im (toD r)) /\ P r := by
 have hk : k.toNat < T.length := by omega
 refine ⟨T[k.toNat], ?_, hp _ (List.getElem_mem hk)⟩
 have h := Xd (xs := T.map toD) (j := k.toNat) (v := toD T[k.toNat]) (by rw [zzG, zzC hk]; rfl)
 rw [show ((k.toNat : Nat) : Int) = k by omega] at h
 show imR (atI _ _) = _
 rw [h]; rfl
abbrev St (x : Int) : Prop := 0 <= x /\ x < 2147483399
theorem stE {a b : EF} {as : AS} {c : Int} {m : Nat} (hm : m <= 900) (ha : WE a as (.int c)) (hb : WE b as (.int m)) : ∃ xs : List Int, xs.length = m /\ (∀ x ∈ xs, St x) /\ WE (zX (aC a (aC b aN)) yp) as (.lst (xs.map D.int)) := by
 obtain ⟨xs, h1, h2, h3⟩ := zlx (s := true) (c := c) (m := m) (by omega) (by omega)
 exact ⟨xs, by omega, h2, Xz ha hb ⟨_, h3, (zdq xs).1, (zdq xs).2⟩⟩
theorem zjB : ∀ (b : Nat) (a : Int) (f : Nat), b < f -> 0 < a -> a < 1000 -> b < 1000 -> ∃ g e, 0 < g /\ g < 1000 /\ whL (fT (f2 zV yN (yZ .Gt))) (zni 0 1 (dC zV (dC (f2 zM zV zG) dN))) f [sI a, sI b] = some (.nx [sI g, e]) := by
 intro b
 induction b using Nat.strongRecOn with
 | ind b ih =>
  intro a f hf ha ha2 hb2
  cases f with
  | zero => omega
  | succ f =>
   by_cases hb : b = 0
   · subst hb
     exact ⟨a, _, ha, ha2, zrf (yx (zaY (zc rfl) zg) rfl)⟩
   · have m0 := Int.emod_nonneg a (show (b : Int) ≠ 0 by omega)
     have m1 := Int.emod_lt_of_pos a (show (0 : Int) < b by omega)
     obtain ⟨g, e, g0, g1, hg⟩ := ih (a % b).toNat (by omega) b f (by omega) (by omega) (by omega) (by omega)
     rw [show (((a % b).toNat : Nat) : Int) = a % b by omega] at hg
     exact ⟨g, e, g0, g1, zpR (yx (zaY (zc rfl) zg) (congrArg some (decide_eq_true (show (0 : Int) < b by omega)))) (zrA (zO (zc rfl) (zO (yE (zc rfl) (zc rfl) (by omega)) xg)) (zQ rfl) (zQ rfl)) hg⟩
theorem zjF {n m : Nat} {s t : Bool} (hn : 0 < n) (hn2 : n <= 8) (hm : m <= 8) : ∃ g : Int, 0 < g /\ g < 1000 /\ ZF [(true, .int n), (true, .int m)] = sI g := by
 obtain ⟨g, e, g0, g1, hg⟩ := zjB m n 10000 (by omega) (by omega) (by omega) (by omega)
 exact ⟨g, g0, g1, ZX rfl (xT hg (ZM (zc rfl)))⟩
theorem strs_snoc : ∀ (os : List O) (o : O), O.strs os = true -> o.str = true -> O.strs (os ++ [o]) = true
 | [], o, _, h => by show (o.str && true) = true; rw [h]; rfl
 | p :: r, o, h, h' => by
  have h := (Bool.and_eq_true _ _).mp (show (p.str && O.strs r) = true from h)
  show (p.str && O.strs (r ++ [o])) = true
  rw [h.1, strs_snoc r o h.2 h']; rfl
theorem zgK : ∀ (os : List O) (o : O), O.toDs (os ++ [o]) = O.toDs os ++ [o.toD]
 | [], o => rfl
 | p :: r, o => congrArg (p.toD :: ·) (zgK r o)
structure Ows {α : Type} (toD : α -> D) (Q : α -> Prop) (os : List O) (l : List α) : Prop where
 st : O.strs os = true
 ds : O.toDs os = l.map toD
 al : ∀ a ∈ l, Q a
 ln : os.length = l.length
theorem Ows.nil {α : Type} {toD : α -> D} {Q : α -> Prop} : Ows toD Q [] [] := ⟨rfl, rfl, (λ _ m => nomatch m), rfl⟩
theorem Ows.snoc {α : Type} {toD : α -> D} {Q : α -> Prop} {os : List O} {l : List α} {o : O} {a : α} (h : Ows toD Q os l) (h1 : o.str = true) (h2 : o.toD = toD a) (h3 : Q a) : Ows toD Q (os ++ [o]) (l ++ [a]) :=
 ⟨strs_snoc os o h.st h1, (by rw [zgK, h.ds, h2, List.map_append]; rfl), (λ b m => (zzK.mp m).elim (h.al b) λ m => (by rw [zzP.mp m]; exact h3)), (by rw [zzH, zzH, h.ln]; rfl)⟩
theorem zkI {as as1 : AS} {a : EF} {i : Nat} {os0 os : List O} {o : O} (h : as[i]? = some (sN os0)) (ha : a as = some (.ow o, as1)) (h1 : as1[i]? = some (sN os)) (hl : os.length < sizeLine) : wM (vL i (dC a dN) vJ) as = some (.nx (as1.set i (sN (os ++ [o])))) := by
 unfold wM vL; rw [h]
 have e : dC a dN as = some ([o], as1) := vG ha rfl
 show ((dC a dN as).bind _).bind _ = _
 rw [e]; show (Option.bind (match as1[i]? with | some (some (.nd .ls os)) => _ | _ => none) _) = _
 rw [h1]; show ((vJ os [o]).bind _).bind _ = _
 have e2 : vJ os [o] = some (os ++ [o], .lf true .non) := by unfold vJ; exact if_pos hl
 rw [e2]; rfl
theorem ziI {α : Type} {toD : α -> D} {Q : α -> Prop} {as : AS} {a : EF} {i : Nat} {os : List O} {l : List α} {x : α} (h : as[i]? = some (sN os)) (ho : Ows toD Q os l) (hl : l.length < 1000) (ha : WE a as (toD x)) (hx : Q x) :
 ∃ os', Ows toD Q os' (l ++ [x]) /\ wM (vL i (dC a dN) vJ) as = some (.nx (as.set i (sN os'))) := by
 obtain ⟨o, h1, h2, h3⟩ := ha
 exact ⟨os ++ [o], ho.snoc h2 h3 hx, zkI h h1 h (by rw [ho.ln]; exact Yp (by omega))⟩
theorem Ows.retB {α : Type} {toD : α -> D} {Q : α -> Prop} {as : AS} {i : Nat} {os : List O} {l : List α} (h : as[i]? = some (sN os)) (ho : Ows toD Q os l) : Rt (yX (fV i) as) (.lst (l.map toD)) :=
 ⟨_, zki h ho.st, ho.st, congrArg D.lst ho.ds⟩
theorem at2 {xs : List Int} (h : ∀ x ∈ xs, St x) {k : Int} (h0 : 0 <= k) (h1 : k < xs.length) : ∃ x, ixP (.lst (xs.map D.int)) (.int k) = some (.im (.int x)) /\ St x := Vg h0 h1 h
theorem zcu {x : Int} {n : Nat} (hn : 0 < n) : 0 <= x % n /\ x % n < (n : Int) := ⟨Int.emod_nonneg _ (by omega), Int.emod_lt_of_pos _ (by omega)⟩
theorem znS {n m : Nat} {xs : List Int} (hn : 0 < n) (hn2 : n <= 8) (hm : m <= 8) (hl : xs.length = 9) (hx : ∀ x ∈ xs, St x) : ∃ T, Tab m n T /\ RE (Xw [(true, .int n), (true, .int m), (true, .lst (xs.map D.int))]) (zN T) := by
 obtain ⟨g, g0, g1, hg⟩ := zjF (s := true) (t := true) (n := n) (m := m) hn hn2 hm
 obtain ⟨x0, a0, b0⟩ := at2 hx (k := 0) (by omega) (by omega)
 obtain ⟨x1, a1, b1⟩ := at2 hx (k := 1) (by omega) (by omega)
 have q0 : 0 <= (n : Int) / g := Int.ediv_nonneg (by omega) (by omega)
 have q1 : (n : Int) / g <= n := Int.ediv_le_self _ (by omega)
 generalize hst : (n : Int) / g = st at q0 q1
 have st4 : ∀ (os : List O) (c : Int), 0 <= c -> c < 8 -> ∃ l : List Int, l.length = n /\ (∀ x ∈ l, 0 <= x /\ x < (n : Int)) /\ WE (yh (xR vI xW) [none, some 0, some 2, some 5, some 3] xq yV (f2 (f2 (f2 zM (f2 yr yN ixP) zY) (f2 (f2 yP xu zY) (f2 yr yo ixP) zY) zx) zV zG))
  [sI n, sI m, sT (.lst (xs.map D.int)), sI st, sN os, sI c] (.lst (l.map D.int)) := λ os c c0 c1 =>
  v5 D.int (n := n) (zP (zc rfl) zU) (by omega) λ b h0 h1 => by
   have cs : 0 <= c * st /\ c * st <= 64 := ⟨Int.mul_nonneg c0 q0, by have := Int.mul_le_mul (show c <= 8 by omega) (show st <= 8 by omega) q0 (by omega); omega⟩
   exact ⟨[sI b, sI n, sT (.lst (xs.map D.int)), sI c, sI st], _, rfl, WD.e (yE (xO (vR (zc rfl) (yd (zc rfl) zg a0 rfl) (yK (by omega) (by omega)) (yK (by omega) (by omega))) (vR (vR (zc rfl) (zc rfl) (yK (by omega) (by omega)) (yK (by omega) (by omega))) (yd (zc rfl) zg a1 rfl) (yK (by omega) (by omega)) (yK (by omega) (by omega)))) (zc rfl) (by omega)), zcu hn⟩
 obtain ⟨as', hf, os, l, e5, rfl, ho, hlen⟩ := wZ (g := gN 5) (f := wM (vL 4 (dC (yh (xR vI xW) [none, some 0, some 2, some 5, some 3] xq yV (f2 (f2 (f2 zM (f2 yr yN ixP) zY) (f2 (f2 yP xu zY) (f2 yr yo ixP) zY) zx) zV zG)) dN) vJ))
  (λ i as => ∃ (os : List O) (l : TZ) (e5 : Option O), as = [sI n, sI m, sT (.lst (xs.map D.int)), sI st, sN os, e5] /\ Ows yC (Row n) os l /\ l.length = i)
  (v6 0 m) 0 [sI n, sI m, sT (.lst (xs.map D.int)), sI st, sN [], none] (λ i x as hx' hI => by
   obtain ⟨os, l, e5, rfl, ho, hlen⟩ := hI
   obtain ⟨rfl, hi⟩ := Xx hx'
   obtain ⟨r, r1, r2, r3⟩ := st4 os (0 + i) (by omega) (by omega)
   obtain ⟨os', o1, o2⟩ := ziI (x := r) (i := 4) (toD := yC) (Q := Row n) rfl ho (by omega) r3 ⟨r1, r2⟩
   exact ⟨[sI n, sI m, sT (.lst (xs.map D.int)), sI st, sN os, sI (0 + i)], rfl, _, o2, os', l ++ [r], _, rfl, o1, by rw [zzH, hlen]; show 0 + i + 1 = _; omega⟩)
  ⟨[], [], none, rfl, Ows.nil, rfl⟩
 rw [Zc] at hlen
 refine ⟨l, ⟨by omega, ho.al⟩, wH rfl (zF (as1 := [sI n, sI m, sT (.lst (xs.map D.int)), sI st, none, none]) ?_ (zF (v8 (i := 4) (Z7 xg (szl rfl)) (zQ rfl)) (zF (ZP (Yz (zP (zc rfl) zU) (by omega) (by omega)) hf) (Ows.retB (i := 4) rfl ho))))⟩
 have := wD (st := true) (i := 3) (as := [sI n, sI m, sT (.lst (xs.map D.int)), none, none, none]) (Ws (zc (i := 0) rfl) (zky (zP (zc (i := 0) rfl) (zP (zc (i := 1) rfl) zU)) hg) g0 (yK (by omega) (by omega))) (zQ rfl)
 rw [hst] at this
 exact this
theorem zpQ {fr : AF} {as : AS} {rs : List (Bool × D)} {g : List D -> Option R0} {zs : List D} (ha : WA fr as rs) (hg : g (rs.map (·.2)) = some (.fl zs)) : fP fr g as = some (.ow (.nd .ls (zs.map (lfs (rs.all (·.1))))), as) := by
 unfold fP; unfold WA at ha
 rw [ha]; show (views as _).bind _ = _
 rw [WY]; show (g _).bind _ = _
 rw [hg]
 show (if (zs.all yF || (some (rs.all (·.1))).isSome) = true then _ else _ : Option RV).bind _ = _
 rw [if_pos (by simp)]; rfl
theorem zhe {a : EF} {as : AS} {x : D} {g : List D -> Option R0} {zs : List D} (ha : WE a as x) (hg : g [x] = some (.fl zs)) : fP (aC a aN) g as = some (.ow (.nd .ls (zs.map (O.lf true))), as) := by
 have := zpQ (g := g) (YL ha (zU (as := as))) hg
 rw [show ([(true, x)].all (·.1)) = true from rfl, zce] at this
 exact this
theorem zsd {a : EF} {as : AS} {s : Bool} {r : List Int} (h : WD a as s (.lst (r.map D.int))) : fP (aC a aN) lstP as = some (.ow (zth r), as) := by
 have := zpQ (g := lstP) (zP h (zU (as := as))) rfl
 rw [List.map_map] at this
 exact this
theorem zjw {a : EF} {as : AS} {s : Bool} {r : List Int} (h : WD a as s (.lst (r.map D.int))) : WE (fP (aC a aN) lstP) as (yC r) := ⟨_, zsd h, (zdq r).1, (zdq r).2⟩
theorem zrs {a b c d : EF} {as : AS} {x y z u w : D} {g : List (Bool × D) -> Option O} (ha : WE a as x) (hb : WE b as y) (hc : WE c as z) (hd : WE d as u) (hg : RE (g [(true, x), (true, y), (true, z), (true, u)]) w) : WE (zX (aC a (aC b (aC c (aC d aN)))) g) as w := by
 obtain ⟨o, h1, h2⟩ := hg
 exact ⟨o, Xm (YL ha (YL hb (YL hc (YL hd zU)))) (by show g [(yF x || true, x), (yF y || true, y), (yF z || true, z), (yF u || true, u)] = _; rw [Bool.or_true, Bool.or_true, Bool.or_true, Bool.or_true]; exact h1), h2⟩
theorem zjJ {a b c d e : EF} {as : AS} {x y z u v w : D} {g : List (Bool × D) -> Option O} (ha : WE a as x) (hb : WE b as y) (hc : WE c as z) (hd : WE d as u) (he : WE e as v) (hg : RE (g [(true, x), (true, y), (true, z), (true, u), (true, v)]) w) : WE (zX (aC a (aC b (aC c (aC d (aC e aN))))) g) as w := by
 obtain ⟨o, h1, h2⟩ := hg
 exact ⟨o, Xm (YL ha (YL hb (YL hc (YL hd (YL he zU))))) (by show g [(yF x || true, x), (yF y || true, y), (yF z || true, z), (yF u || true, u), (yF v || true, v)] = _; rw [Bool.or_true, Bool.or_true, Bool.or_true, Bool.or_true, Bool.or_true]; exact h1), h2⟩
theorem zoZ {fr : DF} {as : AS} {os : List O} {x : D} (h : WO fr as os) (hl : os.length <= sizeLine) (hs : O.strs os = true) (e : D.tup (O.toDs os) = x) : WE (yw fr) as x := by
 refine ⟨_, zmQ h hl, ?_, ?_⟩
 · unfold WN
   split
   · exact hs
   · exact hs
 · unfold WN
   split
   · exact e
   · exact e
theorem ints_of : ∀ l : List Int, Vz (l.map D.int) = some l
 | [] => rfl
 | x :: r => by
  show (Vz (r.map D.int)).bind _ = _
  rw [ints_of r]; rfl
theorem copies {n m : Nat} {fr : AF} {cap : List (Option Nat)} {as : AS} {u s : Bool} {r : List Int} (hr : Row n r) (hm : m <= 8) (h1 : WA fr as [(u, .int m)]) (h2 : ∀ b : Int, ∃ as1, gN 0 (true, .int b) (X7 cap as) = some as1 /\ WD zV as1 s (.lst (r.map D.int))) :
 ∃ T, Tab m n T /\ WE (yh (xR fr xW) cap xq yV (fP vK lstP)) as (zN T) := by
 obtain ⟨l, a1, a2, a3⟩ := v5 yC (Q := Row n) (n := m) (cap := cap) (fe := fP vK lstP) h1 (by omega) λ b _ _ => by
  obtain ⟨as1, g1, g2⟩ := h2 b
  exact ⟨as1, r, g1, zjw g2, hr⟩
 exact ⟨l, ⟨a1, a2⟩, a3⟩
theorem zlv {n m : Nat} {xs : List Int} (hn : 0 < n) (hn2 : n <= 8) (hm : m <= 8) (hl : xs.length = 9) (hx : ∀ x ∈ xs, St x) : ∃ T, Tab m n T /\ RE (Z9 [(true, .int n), (true, .int m), (true, .lst (xs.map D.int))]) (zN T) := by
 obtain ⟨l, l1, l2, l3⟩ := v5 (as := [sI n, sI m, sT (.lst (xs.map D.int)), none]) (u := true) D.int (Q := λ x => 0 <= x /\ x < (n : Int)) (n := n - 1) (cap := [none, some 0, some 2]) (fr := aC (f2 zM yo v7) aN) (fe := f2 (f2 yr zM ixP) zV zG)
  (by rw [show (((n - 1 : Nat) : Nat) : Int) = (n : Int) - 1 by omega]; exact zP (Wm (zc rfl) zg) zU) (by omega) (λ b h0 h1 => by
   obtain ⟨x, hx1, hx2⟩ := at2 hx (k := b) h0 (by omega)
   exact ⟨[sI b, sI n, sT (.lst (xs.map D.int))], _, rfl, WD.e (yE (yd (zc rfl) (zc rfl) hx1 rfl) (zc rfl) (by omega)), zcu hn⟩)
 have w0 : WE (f2 (zZ (dC yN dN)) (yh (xR (aC (f2 zM yo v7) aN) xW) [none, some 0, some 2] xq yV (f2 (f2 yr zM ixP) zV zG)) zx) [sI n, sI m, sT (.lst (xs.map D.int)), none] (.lst ((0 :: l).map D.int)) :=
  zlB (Ye (os := [lfI 0]) (zO zg xg) (szl rfl) rfl rfl) l3 (add_lists (by rw [zI]; exact szs (by show 1 + _ <= _; omega)))
 have hp := sortI_perm (0 :: l)
 have hlen : (sortI (0 :: l)).length = n := by rw [hp.length_eq, zzR]; omega
 have hr : Row n ((sortI (0 :: l)).set 0 0) := by
  refine ⟨by rw [zzS]; exact hlen, λ x m => ?_⟩
  rcases List.mem_or_eq_of_mem_set m with m | rfl
  · rcases zzA.mp (hp.mem_iff.mp m) with rfl | m
    · omega
    · exact l2 x m
  · omega
 have s3 := v8 (i := 3) (zhe (g := zmx) w0 (by
  show (Vz ((0 :: l).map D.int)).bind _ = _
  rw [ints_of]
  show (if (0 :: l).length < 64 then _ else _) = _
  rw [if_pos (by rw [zzR]; omega)])) (zQ rfl)
 rw [zhk] at s3
 have s4 : znw 3 (xC 0) (xC 0) [sI n, sI m, sT (.lst (xs.map D.int)), sN ((sortI (0 :: l)).map lfI)] = some (.nx [sI n, sI m, sT (.lst (xs.map D.int)), sN (((sortI (0 :: l)).set 0 0).map lfI)]) := by
  cases hs : sortI (0 :: l) with
  | nil => rw [hs] at hlen; simp at hlen; omega
  | cons y t => rfl
 obtain ⟨T, t1, t2⟩ := copies (n := n) (m := m) (s := false) (u := true) (cap := [none, some 3]) (as := [sI n, sI m, sT (.lst (xs.map D.int)), sN (((sortI (0 :: l)).set 0 0).map lfI)]) (fr := aC zV aN) hr hm (zP (zc rfl) zU) (λ b => ⟨[sI b, some (.lf false (.lst (O.toDs (((sortI (0 :: l)).set 0 0).map lfI))))], rfl, by rw [(Z8 _).2.2]; exact zc rfl⟩)
 exact ⟨T, t1, wH rfl (zF s3 (zF s4 (wz t2)))⟩
theorem zkF {n m : Nat} {xs : List Int} (hn : 2 <= n) (hn2 : n <= 8) (hm : m <= 8) (hl : xs.length = 9) (hx : ∀ x ∈ xs, St x) : ∃ T, Tab m n T /\ RE (Xy [(true, .int n), (true, .int m), (true, .lst (xs.map D.int))]) (zN T) := by
 obtain ⟨l, l1, l2, l3⟩ := v5 (as := [sI n, sI m, sT (.lst (xs.map D.int)), none]) (u := true) D.int (Q := λ x => 0 <= x /\ x < (n : Int)) (n := n - 1) (cap := [none, some 2, some 0]) (fr := aC (f2 zM yo v7) aN) (fe := f2 yo (f2 (f2 zV zM ixP) (f2 yr yo v7) zG) zx)
  (by rw [show (((n - 1 : Nat) : Nat) : Int) = (n : Int) - 1 by omega]; exact zP (Wm (zc rfl) zg) zU) (by omega) (λ b h0 h1 => by
   obtain ⟨x, hx1, hx2⟩ := at2 hx (k := b) h0 (by omega)
   have m0 := Int.emod_nonneg x (show (n : Int) - 1 ≠ 0 by omega)
   have m1 := Int.emod_lt_of_pos x (show (0 : Int) < (n : Int) - 1 by omega)
   exact ⟨[sI b, sT (.lst (xs.map D.int)), sI n], _, rfl, WD.e (xO zg (yE (yd (zc rfl) (zc rfl) hx1 rfl) (Wm (zc rfl) zg) (by omega))), by omega, by omega⟩)
 have w0 : WE (f2 (zZ (dC yN dN)) (yh (xR (aC (f2 zM yo v7) aN) xW) [none, some 2, some 0] xq yV (f2 yo (f2 (f2 zV zM ixP) (f2 yr yo v7) zG) zx)) zx) [sI n, sI m, sT (.lst (xs.map D.int)), none] (.lst ((0 :: l).map D.int)) :=
  zlB (Ye (os := [lfI 0]) (zO zg xg) (szl rfl) rfl rfl) l3 (add_lists (by rw [zI]; exact szs (by show 1 + _ <= _; omega)))
 have hr : Row n (0 :: l) := ⟨by rw [zzR]; omega, λ x m => by
  rcases zzA.mp m with rfl | m
  · omega
  · exact l2 x m⟩
 obtain ⟨T, t1, t2⟩ := copies (n := n) (m := m) (s := true) (u := true) (cap := [none, some 3]) (as := [sI n, sI m, sT (.lst (xs.map D.int)), sT (.lst ((0 :: l).map D.int))]) (fr := aC zV aN) hr hm (zP (zc rfl) zU) (λ b => ⟨[sI b, sT (.lst ((0 :: l).map D.int))], rfl, zc rfl⟩)
 exact ⟨T, t1, wH rfl (zF (vY (p := 3) w0 (zQ rfl)) (wz t2))⟩
def KN (k : Int) (n : Nat) : Prop := (k = 0 /\ 1 <= n) \/ (k = 1 /\ 1 <= n) \/ (k = 2 /\ 2 <= n) \/ (k = 3 /\ 2 <= n) \/ (k = 4 /\ n = 4)
theorem zpF {x y : Int} {c : Bool} : ixP (.lst [.int x, .int y]) (.int (if c = true then 1 else 0)) = some (.im (.int (if c = true then y else x))) := by cases c <;> rfl
theorem zon {as : AS} {n : Nat} {cap cap2 : List (Option Nat)} {fr : AF} {u : Bool} {fe : EF} (hn2 : n <= 8) (h1 : WA fr as [(true, .int n)]) (H : ∀ a : Int, 0 <= a -> a < n -> ∃ as1, gN 0 (true, .int a) (X7 cap as) = some as1 /\ WA vK as1 [(true, .int n)] /\ ∀ b : Int, 0 <= b -> b < n -> ∃ as2 x, gN 0 (true, .int b) (X7 cap2 as1) = some as2 /\ WD fe as2 true (.int x) /\ 0 <= x /\ x < (n : Int)) :
 ∃ T, Tab n n T /\ WE (yh (xR fr xW) cap xq yV (yh (xR vK xW) cap2 xq yV fe)) as (zN T) := by
 obtain ⟨T, a1, a2, a3⟩ := v5 yC (Q := Row n) (n := n) (cap := cap) (fe := yh (xR vK xW) cap2 xq yV fe) h1 (by omega) λ a h0 h1 => by
  obtain ⟨as1, g1, g2, g3⟩ := H a h0 h1
  obtain ⟨r, b1, b2, b3⟩ := v5 D.int (Q := λ x => 0 <= x /\ x < (n : Int)) (n := n) (cap := cap2) (fe := fe) g2 (by omega) λ b h0 h1 => by
   obtain ⟨as2, x, c1, c2, c3⟩ := g3 b h0 h1
   exact ⟨as2, x, c1, WD.e c2, c3⟩
  exact ⟨as1, r, g1, b3, b1, b2⟩
 exact ⟨T, ⟨a1, a2⟩, a3⟩
abbrev zdC : List D := [.tup [.int 0, .int 1], .tup [.int 1, .int 0], .tup [.int 0, .int 0], .tup [.int 1, .int 1]]
theorem zie {y : It1} (m : y ∈ zdC.map λ d => (true, d)) : ∃ p q : Int, y = (true, .tup [.int p, .int q]) /\ (p = 0 \/ p = 1) /\ (q = 0 \/ q = 1) := by
 simp only [List.map_cons, List.map_nil, zzA, List.not_mem_nil, or_false] at m
 rcases m with rfl | rfl | rfl | rfl
 · exact ⟨0, 1, rfl, .inl rfl, .inr rfl⟩
 · exact ⟨1, 0, rfl, .inr rfl, .inl rfl⟩
 · exact ⟨0, 0, rfl, .inl rfl, .inl rfl⟩
 · exact ⟨1, 1, rfl, .inr rfl, .inr rfl⟩
theorem zmb {u v : Int} (hu : u = 0 \/ u = 1) (hv : v = 0 \/ v = 1) : ∃ j : Int, 0 <= j /\ j < 4 /\ zau (.lst zdC) [.tup [.int u, .int v]] = some (.im (.int j)) := by
 rcases hu with rfl | rfl <;> rcases hv with rfl | rfl
 · exact ⟨2, by decide, by decide, rfl⟩
 · exact ⟨0, by decide, by decide, rfl⟩
 · exact ⟨1, by decide, by decide, rfl⟩
 · exact ⟨3, by decide, by decide, rfl⟩
theorem zks {p q k : Int} (hp : p = 0 \/ p = 1) (hq : q = 0 \/ q = 1) (hk : k = 0 \/ k = 1) : ∃ u : Int, (u = 0 \/ u = 1) /\ ixP (.tup [.int p, .int q]) (.int k) = some (.im (.int u)) := by
 rcases hk with rfl | rfl
 · exact ⟨p, hp, rfl⟩
 · exact ⟨q, hq, rfl⟩
theorem zqE : ∃ T, Tab 4 4 T /\ RE (ZW [(true, .int 4), (true, .int (4 : Nat))]) (zN T) := by
 obtain ⟨T, t1, t2, t3⟩ := zcx (as := [sI 4, sI (4 : Nat), sT (.lst zdC)]) yC (Q := Row 4) (cap := [none, some 2]) (g := gN 0) (fe := yh (Yr zV) [none, some 1, some 0] xq yV (Vy .lst zV (aC (yw (dC (f2 zM (f2 yr yN ixP) ixP) (dC (f2 zM (f2 yr yo ixP) ixP) dN))) aN) zau)) (zgD (f := fV 2) (WD.e (zc rfl))) (by rw [zI]; show 4 <= 1000; decide) λ y m => by
  obtain ⟨p, q, rfl, hp, hq⟩ := zie m
  obtain ⟨r, r1, r2, r3⟩ := zcx (as := [sT (.tup [.int p, .int q]), sT (.lst zdC)]) D.int (Q := λ x => 0 <= x /\ x < ((4 : Nat) : Int)) (cap := [none, some 1, some 0]) (g := gN 0) (fe := Vy .lst zV (aC (yw (dC (f2 zM (f2 yr yN ixP) ixP) (dC (f2 zM (f2 yr yo ixP) ixP) dN))) aN) zau) (zgD (f := fV 1) (WD.e (zc rfl))) (by rw [zI]; show 4 <= 1000; decide) λ y m => by
   obtain ⟨p', q', rfl, hp', hq'⟩ := zie m
   obtain ⟨u, hu, eu⟩ := zks hp' hq' hp
   obtain ⟨v, hv, ev⟩ := zks hp' hq' hq
   obtain ⟨j, j0, j1, ej⟩ := zmb hu hv
   exact ⟨[sT (.tup [.int p', .int q']), sT (.lst zdC), sT (.tup [.int p, .int q])], j, rfl, WD.e (zgX (zc rfl) rfl (zP (zcD (os := [lfI u, lfI v]) (zO (yd (zc rfl) (yd (zc rfl) zg rfl rfl) eu rfl) (zO (yd (zc rfl) (yd (zc rfl) zg rfl rfl) ev rfl) xg)) (szl rfl) rfl) zU) ej rfl), j0, j1⟩
  rw [zI] at r1
  exact ⟨[sT (.tup [.int p, .int q]), sT (.lst zdC)], r, rfl, r3, r1, r2⟩
 rw [zI] at t1
 refine ⟨T, ⟨t1, t2⟩, wH rfl (zF (yI (yx (wk (zc rfl) zg rfl) rfl) rfl) (zF (yI (yx (wk (zc rfl) zg rfl) rfl) rfl) (zF (yI (yx (wk (zc rfl) zg rfl) rfl) rfl) (zF (yI (yx (wk (zc rfl) zg rfl) rfl) rfl) (zF (vY (p := 2) (x := .lst zdC) (Ye (os := zdC.map (O.lf true)) ?_ (szl rfl) rfl rfl) (zQ rfl)) (wz t3))))))⟩
 exact zO (zcD (os := [lfI 0, lfI 1]) (zO zg (zO zg xg)) (szl rfl) rfl) (zO (zcD (os := [lfI 1, lfI 0]) (zO zg (zO zg xg)) (szl rfl) rfl) (zO (zcD (os := [lfI 0, lfI 0]) (zO zg (zO zg xg)) (szl rfl) rfl) (zO (zcD (os := [lfI 1, lfI 1]) (zO zg (zO zg xg)) (szl rfl) rfl) xg)))
theorem zne {k : Int} {n : Nat} (h : KN k n) (hn2 : n <= 8) : ∃ T, Tab n n T /\ RE (ZW [(true, .int k), (true, .int n)]) (zN T) := by
 rcases h with ⟨rfl, hn⟩ | ⟨rfl, hn⟩ | ⟨rfl, hn⟩ | ⟨rfl, hn⟩ | ⟨rfl, rfl⟩
 · obtain ⟨T, t1, t2⟩ := zon (as := [sI 0, sI n, none]) (n := n) (u := true) (cap := [none, some 1]) (cap2 := [none, some 1, some 0]) (fr := aC zV aN) (fe := f2 (f2 yr zM zx) zV zG) hn2 (zP (zc rfl) zU) λ a _ _ => ⟨[sI a, sI n], rfl, zP (zc rfl) zU, λ b _ _ => ⟨[sI b, sI n, sI a], _, rfl, yE (xO (zc rfl) (zc rfl)) (zc rfl) (by omega), zcu hn⟩⟩
   exact ⟨T, t1, wH rfl (vD (Zr (yx (wk (zc rfl) zg rfl) rfl) (wz t2)))⟩
 · obtain ⟨T, t1, t2⟩ := zon (as := [sI 1, sI n, none]) (n := n) (u := true) (cap := [none, some 1]) (cap2 := [none, some 0]) (fr := aC zV aN) (fe := fP (aC zV vI) zqD) hn2 (zP (zc rfl) zU) λ a a0 a1 => ⟨[sI a, sI n], rfl, zP (zc rfl) zU, λ b b0 b1 => ⟨[sI b, sI a], if b > a then b else a, rfl, wj (zP (zc rfl) (zP (zc rfl) zU)) rfl rfl, by split <;> omega, by split <;> omega⟩⟩
   exact ⟨T, t1, wH rfl (zF (yI (yx (wk (zc rfl) zg rfl) rfl) rfl) (vD (Zr (yx (wk (zc rfl) zg rfl) rfl) (wz t2))))⟩
 · obtain ⟨T, t1, t2⟩ := zon (as := [sI 2, sI n, none]) (n := n) (u := true) (cap := [none, some 1]) (cap2 := [none, some 0]) (fr := aC zV aN) (fe := f2 (zZ (dC zM (dC zV dN))) (fP (aC (f2 zM yN (yZ .Eq)) aN) ziV) ixP) hn2 (zP (zc rfl) zU) λ a a0 a1 => ⟨[sI a, sI n], rfl, zP (zc rfl) zU, λ b b0 b1 => ⟨[sI b, sI a], _, rfl, f2E (Ye (os := [lfI b, lfI a]) (zO (zc rfl) (zO (zc rfl) xg)) (szl rfl) rfl rfl) (WD.e (wj (zP (wk (zc rfl) zg rfl) zU) rfl rfl)) zpF, by split <;> omega, by split <;> omega⟩⟩
   exact ⟨T, t1, wH rfl (zF (yI (yx (wk (zc rfl) zg rfl) rfl) rfl) (zF (yI (yx (wk (zc rfl) zg rfl) rfl) rfl) (vD (Zr (yx (wk (zc rfl) zg rfl) rfl) (wz t2)))))⟩
 · obtain ⟨T, t1, t2⟩ := zon (as := [sI 3, sI n, none]) (n := n) (u := true) (cap := [none, some 1]) (cap2 := [none, some 0]) (fr := aC zV aN) (fe := f2 (zZ (dC zV (dC zM dN))) (fP (aC (f2 zV yN (yZ .Eq)) aN) ziV) ixP) hn2 (zP (zc rfl) zU) λ a a0 a1 => ⟨[sI a, sI n], rfl, zP (zc rfl) zU, λ b b0 b1 => ⟨[sI b, sI a], _, rfl, f2E (Ye (os := [lfI a, lfI b]) (zO (zc rfl) (zO (zc rfl) xg)) (szl rfl) rfl rfl) (WD.e (wj (zP (wk (zc rfl) zg rfl) zU) rfl rfl)) zpF, by split <;> omega, by split <;> omega⟩⟩
   exact ⟨T, t1, wH rfl (zF (yI (yx (wk (zc rfl) zg rfl) rfl) rfl) (zF (yI (yx (wk (zc rfl) zg rfl) rfl) rfl) (zF (yI (yx (wk (zc rfl) zg rfl) rfl) rfl) (vD (Zr (yx (wk (zc rfl) zg rfl) rfl) (wz t2))))))⟩
 · exact zqE
theorem zog {k : Int} {n m : Nat} {xs : List Int} (h : KN k n) (hn2 : n <= 8) (hm : m <= 8) (hl : xs.length = 9) (hx : ∀ x ∈ xs, St x) : ∃ T, Tab m n T /\ RE (Yv [(true, .int k), (true, .int n), (true, .int m), (true, .lst (xs.map D.int))]) (zN T) := by
 rcases h with ⟨rfl, hn⟩ | ⟨rfl, hn⟩ | ⟨rfl, hn⟩ | ⟨rfl, hn⟩ | ⟨rfl, rfl⟩
 · obtain ⟨T, t1, t2⟩ := znS (m := m) (xs := xs) hn hn2 hm hl hx
   exact ⟨T, t1, wH rfl (vD (Zr (yx (wk (zc rfl) zg rfl) rfl) (wz (Wr (WD.e (zc rfl)) (WD.e (zc rfl)) (WD.e (zc rfl)) t2))))⟩
 · obtain ⟨T, t1, t2⟩ := zlv (m := m) (xs := xs) hn hn2 hm hl hx
   exact ⟨T, t1, wH rfl (zF (yI (yx (wk (zc rfl) zg rfl) rfl) rfl) (vD (Zr (yx (wk (zc rfl) zg rfl) rfl) (wz (Wr (WD.e (zc rfl)) (WD.e (zc rfl)) (WD.e (zc rfl)) t2)))))⟩
 · obtain ⟨T, t1, t2⟩ := zkF (m := m) (xs := xs) hn hn2 hm hl hx
   exact ⟨T, t1, wH rfl (zF (yI (yx (wk (zc rfl) zg rfl) rfl) rfl) (zF (yI (yx (wk (zc rfl) zg rfl) rfl) rfl) (vD (Zr (yx (zdm (zc rfl) zg) rfl) (wz (Wr (WD.e (zc rfl)) (WD.e (zc rfl)) (WD.e (zc rfl)) t2))))))⟩
 · obtain ⟨T, t1, t2⟩ := zkF (m := m) (xs := xs) hn hn2 hm hl hx
   exact ⟨T, t1, wH rfl (zF (yI (yx (wk (zc rfl) zg rfl) rfl) rfl) (zF (yI (yx (wk (zc rfl) zg rfl) rfl) rfl) (vD (Zr (yx (zdm (zc rfl) zg) rfl) (wz (Wr (WD.e (zc rfl)) (WD.e (zc rfl)) (WD.e (zc rfl)) t2))))))⟩
 · obtain ⟨x0, a0, b0⟩ := at2 hx (k := 0) (by omega) (by omega)
   have hp : ∃ r : List Int, Row 4 r /\ ixP (.lst [yC [0, 1, 2, 3], yC [0, 1, 3, 2]]) (.int (x0 % 2)) = some (.im (yC r)) := by
    rcases (show x0 % 2 = 0 \/ x0 % 2 = 1 by omega) with e | e <;> rw [e]
    · exact ⟨[0, 1, 2, 3], ⟨rfl, by decide⟩, rfl⟩
    · exact ⟨[0, 1, 3, 2], ⟨rfl, by decide⟩, rfl⟩
   obtain ⟨r, r1, r2⟩ := hp
   obtain ⟨T, c1, c2, c3⟩ := v5 (as := [sI 4, sI (4 : Nat), sI m, sT (.lst (xs.map D.int))]) (u := true) yC (Q := Row 4) (n := m) (cap := [none, some 3]) (fr := aC yr aN) (fe := f2 (zZ (dC (zZ (dC yN (dC yo (dC wG (dC vC dN))))) (dC (zZ (dC yN (dC yo (dC vC (dC wG dN))))) dN))) (f2 (f2 zV yN ixP) wG zG) ixP) (zP (zc rfl) zU) (by omega) λ b _ _ =>
    ⟨[sI b, sT (.lst (xs.map D.int))], r, rfl, WD.e (f2E (Ye (zbu (Z7 (zO zg (zO zg (zO zg (zO zg xg)))) (szl rfl)) (zbu (Z7 (zO zg (zO zg (zO zg (zO zg xg)))) (szl rfl)) xg)) (szl rfl) rfl rfl) (WD.e (yE (yd (zc rfl) zg a0 rfl) zg (by decide))) r2), r1⟩
   exact ⟨T, ⟨c1, c2⟩, wH rfl (zF (yI (yx (wk (zc rfl) zg rfl) rfl) rfl) (zF (yI (yx (wk (zc rfl) zg rfl) rfl) rfl) (zF (yI (yx (zdm (zc rfl) zg) rfl) rfl) (wz c3))))⟩
abbrev plD (n : Nat) (J : TZ) (Ds : List TZ) : D := .tup [.int n, zN J, .lst (Ds.map zN)]
theorem zeN {k c : Int} {n m w : Nat} (h : KN k n) (hn2 : n <= 8) (hm : m <= 8) (hw : w <= 8) : ∃ J Ds, Tab n n J /\ Ds.length = w /\ (∀ T ∈ Ds, Tab m n T) /\ RE (wX [(true, .int k), (true, .int n), (true, .int m), (true, .int w), (true, .int c)]) (plD n J Ds) := by
 obtain ⟨J, j1, oj, j2, j3, j4⟩ := zne h hn2
 obtain ⟨Ds, d1, d2, d3⟩ := v5 (as := [sI k, sI n, sI m, sI w, sI c, none]) (u := true) zN (Q := Tab m n) (n := w) (cap := [none, some 0, some 1, some 2, some 4]) (fr := aC yP aN) (fe := zX (aC zV (aC yr (aC yP (aC (zX (aC (f2 xu (f2 (fC (.int 31)) zM zY) zx) (aC (fC (.int 9)) aN)) yp) aN)))) Yv) (zP (zc rfl) zU) (by omega) λ b b0 b1 => by
  obtain ⟨xs, x1, x2, x3⟩ := stE (as := [sI b, sI k, sI n, sI m, sI c]) (a := f2 xu (f2 (fC (.int 31)) zM zY) zx) (b := fC (.int 9)) (m := 9) (by omega) (WD.e (xO (zc rfl) (vR zg (zc rfl) (yK (by decide) (by decide)) (yK (by omega) (by omega))))) (WD.e zg)
  obtain ⟨T, t1, t2⟩ := zog h hn2 hm x1 x2
  exact ⟨[sI b, sI k, sI n, sI m, sI c], T, rfl, zrs (WD.e (zc rfl)) (WD.e (zc rfl)) (WD.e (zc rfl)) x3 t2, t1⟩
 refine ⟨J, Ds, j1, d1, d2, wH rfl (zF (vY (p := 5) d3 (zQ rfl)) (wz (zoZ (os := [lfI n, oj, .lf true (.lst (Ds.map zN))]) (zO (zc rfl) (zbu (Xm (zP (zc rfl) (zP (zc rfl) zU)) j2) (zO (zc rfl) xg))) (szl rfl) ?_ ?_)))⟩
 · show (true && (oj.str && (true && true))) = true
   rw [j3]; rfl
 · show D.tup [.int n, oj.toD, .lst (Ds.map zN)] = _
   rw [j4]
theorem mix {x y a b : Int} (hx : 0 <= x /\ x < a) (hy : 0 <= y /\ y < b) : 0 <= x * b + y /\ x * b + y < a * b := by
 have h1 : 0 <= x * b := Int.mul_nonneg hx.1 (by omega)
 have h2 : x * b <= (a - 1) * b := Int.mul_le_mul_of_nonneg_right (by omega) (by omega)
 rw [Int.sub_mul, Int.one_mul] at h2
 omega
theorem zmf {p a b : Int} (hp : 0 <= p) (h : p < a * b) (hb : 0 < b) : (0 <= p / b /\ p / b < a) /\ 0 <= p % b /\ p % b < b :=
 ⟨⟨Int.ediv_nonneg hp (by omega), Int.ediv_lt_of_lt_mul hb h⟩, Int.emod_nonneg _ (by omega), Int.emod_lt_of_pos _ hb⟩
theorem zkw {as : AS} {i j : Nat} {os ps : List O} (hij : i ≠ j) (h : as[i]? = some (sN os)) (hj : as[j]? = some (sN ps)) (hl : os.length < sizeLine) :
 wM (vL i (dC (fV j) dN) vJ) as = some (.nx ((as.set j (some (O.nd .ls ps).frz)).set i (sN (os ++ [(O.nd .ls ps).frz])))) := by
 have e : dC (fV j) dN as = some ([(O.nd .ls ps).frz], as.set j (some (O.nd .ls ps).frz)) := by
  unfold dC
  rw [zis hj]
  show ((toO as (.bo j)).bind _) = _
  rw [zlU hj]; rfl
 unfold wM vL; rw [h]
 show ((dC (fV j) dN as).bind _).bind _ = _
 rw [e]; show (Option.bind (match (as.set j (some (O.nd .ls ps).frz))[i]? with | some (some (.nd .ls os)) => _ | _ => none) _) = _
 rw [zzW (Ne.symm hij), h]; show ((vJ os [(O.nd .ls ps).frz]).bind _).bind _ = _
 have e2 : vJ os [(O.nd .ls ps).frz] = some (os ++ [(O.nd .ls ps).frz], .lf true .non) := by unfold vJ; exact if_pos hl
 rw [e2]; rfl
theorem Ows.frz {α : Type} {toD : α -> D} {Q : α -> Prop} {os : List O} {l : List α} (h : Ows toD Q os l) : (O.nd .ls os).frz = .lf true (.lst (l.map toD)) := by
 show O.lf (O.strs os) (.lst (O.toDs os)) = _
 rw [h.st, h.ds]
section
variable {n1 n2 m : Nat} {J1 J2 : TZ} {D1 D2 : List TZ}
theorem zmK (h1 : 0 < n1) (h2 : 0 < n2) (hn : n1 * n2 <= 8) (j1 : Tab n1 n1 J1) (j2 : Tab n2 n2 J2) :
 ∃ os l e6 e7 e8, Ows yC (Row (n1 * n2)) os l /\ l.length = n1 * n2 /\ forL (gN 6) (zR (yq true 7 (f2 (f2 zM yo ixP) (f2 Zq xu zL) ixP))
 (zR (yq true 8 (f2 (f2 zV yo ixP) (f2 Zq xu zG) ixP))
 (wM (vL 5 (dC (yh (xR zad xW) [none, some 4, some 8, some 7] xq yV (f2 (f2 (f2 yP (f2 zM zV zL) ixP) zV zY) (f2 yr (f2 zM zV zG) ixP) zx)) dN) vJ))))
  (v6 0 (n1 * n2)) [sT (plD n1 J1 D1), sT (plD n2 J2 D2), sI m, sI ((n1 * n2 : Nat) : Int), sI n2, sN [], none, none, none, none, none, none, none, none]
  = some (.nx [sT (plD n1 J1 D1), sT (plD n2 J2 D2), sI m, sI ((n1 * n2 : Nat) : Int), sI n2, sN os, e6, e7, e8, none, none, none, none, none]) := by
 have hn2 : n2 <= 8 := zzM (Nat.le_mul_of_pos_left n2 h1) hn
 obtain ⟨as', hf, os, l, e6, e7, e8, rfl, ho, hlen⟩ := wZ (g := gN 6) (f := (zR (yq true 7 (f2 (f2 zM yo ixP) (f2 Zq xu zL) ixP))
  (zR (yq true 8 (f2 (f2 zV yo ixP) (f2 Zq xu zG) ixP))
  (wM (vL 5 (dC (yh (xR zad xW) [none, some 4, some 8, some 7] xq yV (f2 (f2 (f2 yP (f2 zM zV zL) ixP) zV zY) (f2 yr (f2 zM zV zG) ixP) zx)) dN) vJ)))))
  (λ i as => ∃ (os : List O) (l : TZ) (e6 e7 e8 : Option O), as = [sT (plD n1 J1 D1), sT (plD n2 J2 D2), sI m, sI ((n1 * n2 : Nat) : Int), sI n2, sN os, e6, e7, e8, none, none, none, none, none] /\ Ows yC (Row (n1 * n2)) os l /\ l.length = i)
  (v6 0 (n1 * n2)) 0 [sT (plD n1 J1 D1), sT (plD n2 J2 D2), sI m, sI ((n1 * n2 : Nat) : Int), sI n2, sN [], none, none, none, none, none, none, none, none] (λ i x as hx' hI => by
   obtain ⟨os, l, e6, e7, e8, rfl, ho, hlen⟩ := hI
   obtain ⟨rfl, hi⟩ := Xx hx'
   have hp : ((0 : Int) + i) < (n1 : Int) * n2 := by rw [<- zzT]; omega
   obtain ⟨u1, u2⟩ := zmf (by omega) hp (show (0 : Int) < n2 by omega)
   obtain ⟨r1, a1, b1⟩ := zeU yC (T := J1) (P := Row n1) u1.1 (by rw [j1.1]; exact u1.2) j1.2
   obtain ⟨r2, a2, b2⟩ := zeU yC (T := J2) (P := Row n2) u2.1 (by rw [j2.1]; exact u2.2) j2.2
   obtain ⟨r, c1, c2, c3⟩ := v5 (as := [sT (plD n1 J1 D1), sT (plD n2 J2 D2), sI m, sI ((n1 * n2 : Nat) : Int), sI n2, sN os, sI (0 + i), sT (yC r1), sT (yC r2), none, none, none, none, none]) (u := true) D.int (Q := λ x => 0 <= x /\ x < ((n1 * n2 : Nat) : Int)) (n := n1 * n2) (cap := [none, some 4, some 8, some 7]) (fr := aC yP aN) (fe := f2 (f2 (f2 yP (f2 zM zV zL) ixP) zV zY) (f2 yr (f2 zM zV zG) ixP) zx) (zP (zc rfl) zU) (by omega) λ b h0 h3 => by
    obtain ⟨v1, v2⟩ := zmf h0 (show b < (n1 : Int) * n2 by rw [<- zzT]; exact h3) (show (0 : Int) < n2 by omega)
    obtain ⟨x, x1, x2⟩ := Vg (r := r1) (P := λ x => 0 <= x /\ x < (n1 : Int)) v1.1 (by rw [b1.1]; exact v1.2) b1.2
    obtain ⟨y, y1, y2⟩ := Vg (r := r2) (P := λ x => 0 <= x /\ x < (n2 : Int)) v2.1 (by rw [b2.1]; exact v2.2) b2.2
    have n18 : n1 <= 8 := zzM (Nat.le_mul_of_pos_right n1 h2) hn
    refine ⟨[sI b, sI n2, sT (yC r2), sT (yC r1)], x * n2 + y, rfl, WD.e (xO (vR (yd (zc rfl) (Ws (zc rfl) (zc rfl) (by omega) (yK (by omega) (by omega))) x1 rfl) (zc rfl) (yK (by omega) (by omega)) (yK (by omega) (by omega))) (yd (zc rfl) (yE (zc rfl) (zc rfl) (by omega)) y1 rfl)), ?_⟩
    rw [zzT]
    exact mix x2 y2
   obtain ⟨os', o1, o2⟩ := ziI (x := r) (i := 5) (toD := yC) (Q := Row (n1 * n2)) rfl ho (by omega) c3 ⟨c1, c2⟩
   refine ⟨[sT (plD n1 J1 D1), sT (plD n2 J2 D2), sI m, sI ((n1 * n2 : Nat) : Int), sI n2, sN os, sI (0 + i), e7, e8, none, none, none, none, none], rfl, _, xT (wD (i := 7) (w5 (w5 (zc (i := 0) rfl) zg rfl) (Ws (zc (i := 6) rfl) (zc (i := 4) rfl) (by omega) (yK (by omega) (by omega))) a1) (zQ rfl)) (xT (wD (i := 8) (w5 (w5 (zc (i := 1) rfl) zg rfl) (yE (zc (i := 6) rfl) (zc (i := 4) rfl) (by omega)) a2) (zQ rfl)) o2), os', l ++ [r], _, _, _, rfl, o1, by rw [zzH, hlen]; show 0 + i + 1 = _; omega⟩)
  ⟨[], [], none, none, none, rfl, Ows.nil, rfl⟩
 rw [Zc] at hlen
 exact ⟨os, l, e6, e7, e8, ho, by omega, hf⟩
end
abbrev B14 (n1 n2 m : Nat) (J1 J2 : TZ) (D1 D2 : List TZ) (os5 : List O) (e6 e7 e8 e9 e10 e11 e12 e13 : Option O) : AS :=
 [sT (plD n1 J1 D1), sT (plD n2 J2 D2), sI m, sI ((n1 * n2 : Nat) : Int), sI n2, sN os5, e6, e7, e8, e9, e10, e11, e12, e13]
abbrev bs1 : SF := (zR (yq true 13 (f2 (f2 (f2 v4 vQ ixP) (f2 Zq xu zL) ixP) xu zY))
 (wM (vL 12 (dC (f2 (fV 13) (f2 (f2 (fV 8) vQ ixP) (f2 Zq xu zG) ixP) zx) dN) vJ)))
abbrev bs2 : SF := (zR (yq false 12 (zZ dN))
 (zR (Wx (xR zad xW) (gN 6) bs1)
 (wM (vL 10 (dC (fV 12) dN) vJ))))
abbrev bs3 : SF := (zR (yq false 10 (zZ dN))
 (zR (Wx (xR W9 xW) (gN 11) bs2)
 (wM (vL 9 (dC (fV 10) dN) vJ))))
section
variable {n1 n2 m : Nat} {J1 J2 : TZ} {D1 D2 : List TZ} {os5 : List O}
theorem ztc {T1 T2 : TZ} {c : Int} {e6 e9 e10 e13 : Option O} (h1 : 0 < n1) (h2 : 0 < n2) (hn : n1 * n2 <= 8) (t1 : Tab m n1 T1) (t2 : Tab m n2 T2) (c0 : 0 <= c) (c1 : c < m) :
 ∃ os r f6 f13, Ows D.int (λ x => 0 <= x /\ x < ((n1 * n2 : Nat) : Int)) os r /\ r.length = n1 * n2 /\ forL (gN 6) bs1 (v6 0 (n1 * n2)) (B14 n1 n2 m J1 J2 D1 D2 os5 e6 (sT (zN T1)) (sT (zN T2)) e9 e10 (sI c) (sN []) e13)
  = some (.nx (B14 n1 n2 m J1 J2 D1 D2 os5 f6 (sT (zN T1)) (sT (zN T2)) e9 e10 (sI c) (sN os) f13)) := by
 have n28 : n2 <= 8 := zzM (Nat.le_mul_of_pos_left n2 h1) hn
 have n18 : n1 <= 8 := zzM (Nat.le_mul_of_pos_right n1 h2) hn
 obtain ⟨r1, a1, b1⟩ := zeU yC (T := T1) (P := Row n1) c0 (by rw [t1.1]; exact c1) t1.2
 obtain ⟨r2, a2, b2⟩ := zeU yC (T := T2) (P := Row n2) c0 (by rw [t2.1]; exact c1) t2.2
 obtain ⟨as', hf, os, l, f6, f13, rfl, ho, hlen⟩ := wZ (g := gN 6) (f := bs1)
  (λ i as => ∃ (os : List O) (l : List Int) (f6 f13 : Option O), as = B14 n1 n2 m J1 J2 D1 D2 os5 f6 (sT (zN T1)) (sT (zN T2)) e9 e10 (sI c) (sN os) f13 /\ Ows D.int (λ x => 0 <= x /\ x < ((n1 * n2 : Nat) : Int)) os l /\ l.length = i)
  (v6 0 (n1 * n2)) 0 (B14 n1 n2 m J1 J2 D1 D2 os5 e6 (sT (zN T1)) (sT (zN T2)) e9 e10 (sI c) (sN []) e13) (λ i x as hx' hI => by
   obtain ⟨os, l, f6, f13, rfl, ho, hlen⟩ := hI
   obtain ⟨rfl, hi⟩ := Xx hx'
   have hp : ((0 : Int) + i) < (n1 : Int) * n2 := by rw [<- zzT]; omega
   obtain ⟨u1, u2⟩ := zmf (by omega) hp (show (0 : Int) < n2 by omega)
   obtain ⟨x, x1, x2⟩ := Vg (r := r1) (P := λ x => 0 <= x /\ x < (n1 : Int)) u1.1 (by rw [b1.1]; exact u1.2) b1.2
   obtain ⟨y, y1, y2⟩ := Vg (r := r2) (P := λ x => 0 <= x /\ x < (n2 : Int)) u2.1 (by rw [b2.1]; exact u2.2) b2.2
   have q : 0 <= x * n2 + y /\ x * n2 + y < ((n1 * n2 : Nat) : Int) := by rw [zzT]; exact mix x2 y2
   obtain ⟨os', o1, o2⟩ := ziI (as := B14 n1 n2 m J1 J2 D1 D2 os5 (sI (0 + i)) (sT (zN T1)) (sT (zN T2)) e9 e10 (sI c) (sN os) (sI (x * n2))) (x := x * n2 + y) (i := 12) (toD := D.int) (Q := λ x => 0 <= x /\ x < ((n1 * n2 : Nat) : Int)) (a := f2 (fV 13) (f2 (f2 (fV 8) vQ ixP) (f2 Zq xu zG) ixP) zx) rfl ho (by omega)
    (WD.e (xO (zc rfl) (yd (w5 (zc rfl) (zc rfl) a2) (yE (zc rfl) (zc rfl) (by omega)) y1 rfl))) q
   exact ⟨B14 n1 n2 m J1 J2 D1 D2 os5 (sI (0 + i)) (sT (zN T1)) (sT (zN T2)) e9 e10 (sI c) (sN os) f13, rfl, _, xT (wD (i := 13) (vR (yd (w5 (zc (i := 7) rfl) (zc (i := 11) rfl) a1) (Ws (zc (i := 6) rfl) (zc (i := 4) rfl) (by omega) (yK (by omega) (by omega))) x1 rfl) (zc (i := 4) rfl) (yK (by omega) (by omega)) (yK (by omega) (by omega))) (zQ rfl)) o2, os', l ++ [x * n2 + y], _, _, rfl, o1, by rw [zzH, hlen]; show 0 + i + 1 = _; omega⟩)
  ⟨[], [], _, _, rfl, Ows.nil, rfl⟩
 rw [Zc] at hlen
 exact ⟨os, l, f6, f13, ho, by omega, hf⟩
theorem ztC {T1 T2 : TZ} {e6 e9 e11 e12 e13 : Option O} (h1 : 0 < n1) (h2 : 0 < n2) (hn : n1 * n2 <= 8) (hm : m <= 8) (t1 : Tab m n1 T1) (t2 : Tab m n2 T2) :
 ∃ os T f6 f11 f12 f13, Ows yC (Row (n1 * n2)) os T /\ T.length = m /\ forL (gN 11) bs2 (v6 0 m) (B14 n1 n2 m J1 J2 D1 D2 os5 e6 (sT (zN T1)) (sT (zN T2)) e9 (sN []) e11 e12 e13)
  = some (.nx (B14 n1 n2 m J1 J2 D1 D2 os5 f6 (sT (zN T1)) (sT (zN T2)) e9 (sN os) f11 f12 f13)) := by
 obtain ⟨as', hf, os, l, f6, f11, f12, f13, rfl, ho, hlen⟩ := wZ (g := gN 11) (f := bs2)
  (λ i as => ∃ (os : List O) (l : TZ) (f6 f11 f12 f13 : Option O), as = B14 n1 n2 m J1 J2 D1 D2 os5 f6 (sT (zN T1)) (sT (zN T2)) e9 (sN os) f11 f12 f13 /\ Ows yC (Row (n1 * n2)) os l /\ l.length = i)
  (v6 0 m) 0 (B14 n1 n2 m J1 J2 D1 D2 os5 e6 (sT (zN T1)) (sT (zN T2)) e9 (sN []) e11 e12 e13) (λ i x as hx' hI => by
   obtain ⟨os, l, f6, f11, f12, f13, rfl, ho, hlen⟩ := hI
   obtain ⟨rfl, hi⟩ := Xx hx'
   obtain ⟨ps, r, g6, g13, p1, p2, p3⟩ := ztc (J1 := J1) (J2 := J2) (D1 := D1) (D2 := D2) (os5 := os5) (e6 := f6) (e9 := e9) (e10 := sN os) (e13 := f13) h1 h2 hn t1 t2 (c := 0 + i) (by omega) (by omega)
   have ap := zkw (as := B14 n1 n2 m J1 J2 D1 D2 os5 g6 (sT (zN T1)) (sT (zN T2)) e9 (sN os) (sI (0 + i)) (sN ps) g13) (i := 10) (j := 12) (by decide) rfl rfl (by rw [ho.ln]; exact Yp (by omega))
   rw [p1.frz] at ap
   exact ⟨B14 n1 n2 m J1 J2 D1 D2 os5 f6 (sT (zN T1)) (sT (zN T2)) e9 (sN os) (sI (0 + i)) f12 f13, rfl, _, xT (v8 (i := 12) (Z7 xg (szl rfl)) (zQ rfl)) (xT (ZP (Yz (zP (zc (i := 3) rfl) zU) (by omega) (by omega)) p3) ap), _, l ++ [r], _, _, _, _, rfl, ho.snoc (o := .lf true (yC r)) (a := r) rfl rfl ⟨p2, p1.al⟩, by rw [zzH, hlen]; show 0 + i + 1 = _; omega⟩)
  ⟨[], [], _, _, _, _, rfl, Ows.nil, rfl⟩
 rw [Zc] at hlen
 exact ⟨os, l, f6, f11, f12, f13, ho, by omega, hf⟩
theorem zca {α : Type} {f : α -> D} {l : List α} {i : Nat} {d : D} (h : (l.map f)[i]? = some d) : ∃ a ∈ l, d = f a := by
 rw [zzG] at h
 obtain ⟨a, h1, h2⟩ := zzV.mp h
 exact ⟨a, List.mem_of_getElem? h1, h2.symm⟩
theorem ztf {w : Nat} {e6 e7 e8 e10 e11 e12 e13 : Option O} (h1 : 0 < n1) (h2 : 0 < n2) (hn : n1 * n2 <= 8) (hm : m <= 8) (hw : w <= 8) (l1 : D1.length = w) (l2 : D2.length = w) (t1 : ∀ T ∈ D1, Tab m n1 T) (t2 : ∀ T ∈ D2, Tab m n2 T) :
 ∃ os Ds f6 f7 f8 f10 f11 f12 f13, Ows zN (Tab m (n1 * n2)) os Ds /\ Ds.length = w /\ forL (gT 2 (gsC (gN 7) (gsC (gN 8) gsN))) bs3 (VF true (D1.map zN) (D2.map zN)) (B14 n1 n2 m J1 J2 D1 D2 os5 e6 e7 e8 (sN []) e10 e11 e12 e13)
  = some (.nx (B14 n1 n2 m J1 J2 D1 D2 os5 f6 f7 f8 (sN os) f10 f11 f12 f13)) := by
 obtain ⟨as', hf, os, l, f6, f7, f8, f10, f11, f12, f13, rfl, ho, hlen⟩ := wZ (g := gT 2 (gsC (gN 7) (gsC (gN 8) gsN))) (f := bs3)
  (λ i as => ∃ (os : List O) (l : List TZ) (f6 f7 f8 f10 f11 f12 f13 : Option O), as = B14 n1 n2 m J1 J2 D1 D2 os5 f6 f7 f8 (sN os) f10 f11 f12 f13 /\ Ows zN (Tab m (n1 * n2)) os l /\ l.length = i)
  (VF true (D1.map zN) (D2.map zN)) 0 (B14 n1 n2 m J1 J2 D1 D2 os5 e6 e7 e8 (sN []) e10 e11 e12 e13) (λ i x as hx' hI => by
   obtain ⟨os, l, f6, f7, f8, f10, f11, f12, f13, rfl, ho, hlen⟩ := hI
   obtain ⟨d, e, z1, z2, rfl⟩ := VH hx'
   have hil : i < D1.length := by have := (zzE.mp z1).1; rw [zI] at this; exact this
   obtain ⟨T1, m1, rfl⟩ := zca z1
   obtain ⟨T2, m2, rfl⟩ := zca z2
   obtain ⟨ps, T, g6, g11, g12, g13, p1, p2, p3⟩ := ztC (J1 := J1) (J2 := J2) (D1 := D1) (D2 := D2) (os5 := os5) (e6 := f6) (e9 := sN os) (e11 := f11) (e12 := f12) (e13 := f13) h1 h2 hn hm (t1 T1 m1) (t2 T2 m2)
   have ap := zkw (as := B14 n1 n2 m J1 J2 D1 D2 os5 g6 (sT (zN T1)) (sT (zN T2)) (sN os) (sN ps) g11 g12 g13) (i := 9) (j := 10) (by decide) rfl rfl (by rw [ho.ln]; exact Yp (by omega))
   rw [p1.frz] at ap
   exact ⟨B14 n1 n2 m J1 J2 D1 D2 os5 f6 (sT (zN T1)) (sT (zN T2)) (sN os) f10 f11 f12 f13, rfl, _, xT (v8 (i := 10) (Z7 xg (szl rfl)) (zQ rfl)) (xT (ZP (Yz (zP (zc (i := 2) rfl) zU) (by omega) (by omega)) p3) ap), _, l ++ [T], _, _, _, _, _, _, _, rfl, ho.snoc (o := .lf true (zN T)) (a := T) rfl rfl ⟨p2, p1.al⟩, by rw [zzH, hlen]; show 0 + i + 1 = _; omega⟩)
  ⟨[], [], _, _, _, _, _, _, _, rfl, Ows.nil, rfl⟩
 rw [W0, zI, zI, l1, l2, Nat.min_self] at hlen
 exact ⟨os, l, f6, f7, f8, f10, f11, f12, f13, ho, by omega, hf⟩
theorem zhv {as as2 : AS} {j : Nat} {ps : List O} {fr : DF} {os : List O} (hj : as[j]? = some (sN ps)) (hr : fr (as.set j (some (O.nd .ls ps).frz)) = some (os, as2)) : dC (fV j) fr as = some ((O.nd .ls ps).frz :: os, as2) := by
 unfold dC
 rw [zis hj]
 show ((toO as (.bo j)).bind _) = _
 rw [zlU hj]
 show (fr (as.set j (some (O.nd .ls ps).frz))).bind _ = _
 rw [hr]; rfl
theorem zhI {as as1 : AS} {fr : DF} {os : List O} (h : fr as = some (os, as1)) (hl : os.length <= sizeLine) : yw fr as = some (.ow (WN os), as1) := by
 unfold yw
 rw [h]; show (if os.length <= sizeLine then _ else _) = _
 rw [if_pos hl]
theorem zly {w : Nat} (h1 : 0 < n1) (h2 : 0 < n2) (hn : n1 * n2 <= 8) (hm : m <= 8) (hw : w <= 8) (j1 : Tab n1 n1 J1) (j2 : Tab n2 n2 J2) (l1 : D1.length = w) (l2 : D2.length = w) (t1 : ∀ T ∈ D1, Tab m n1 T) (t2 : ∀ T ∈ D2, Tab m n2 T) :
 ∃ J Ds, Tab (n1 * n2) (n1 * n2) J /\ Ds.length = w /\ (∀ T ∈ Ds, Tab m (n1 * n2) T) /\ RE (Z4 [(true, plD n1 J1 D1), (true, plD n2 J2 D2), (true, .int m)]) (plD (n1 * n2) J Ds) := by
 have n28 : n2 <= 8 := zzM (Nat.le_mul_of_pos_left n2 h1) hn
 have n18 : n1 <= 8 := zzM (Nat.le_mul_of_pos_right n1 h2) hn
 obtain ⟨os, J, e6, e7, e8, ho, hl, hf⟩ := zmK (m := m) (D1 := D1) (D2 := D2) h1 h2 hn j1 j2
 obtain ⟨ps, Ds, f6, f7, f8, f10, f11, f12, f13, po, pl, pf⟩ := ztf (J1 := J1) (J2 := J2) (os5 := os) (e6 := e6) (e7 := e7) (e8 := e8) (e10 := none) (e11 := none) (e12 := none) (e13 := none) h1 h2 hn hm hw l1 l2 t1 t2
 refine ⟨J, Ds, ⟨hl, ho.al⟩, pl, po.al, wH rfl (zF (as1 := [sT (plD n1 J1 D1), sT (plD n2 J2 D2), sI m, sI ((n1 * n2 : Nat) : Int), none, none, none, none, none, none, none, none, none, none]) ?_ (zF (wD (i := 4) (yd (zc rfl) zg rfl rfl) (zQ rfl)) (zF (v8 (i := 5) (Z7 xg (szl rfl)) (zQ rfl)) (zF (ZP (Yz (zP (zc rfl) zU) (by omega) (by omega)) hf) (zF (v8 (i := 9) (Z7 xg (szl rfl)) (zQ rfl)) (zF (ZP ?_ pf) ?_))))))⟩
 · have := wD (st := true) (i := 3) (as := [sT (plD n1 J1 D1), sT (plD n2 J2 D2), sI m, none, none, none, none, none, none, none, none, none, none, none]) (vR (yd (g := ixP) (zc (i := 0) rfl) (zg (x := .int 0)) rfl rfl) (yd (g := ixP) (zc (i := 1) rfl) (zg (x := .int 0)) rfl rfl) (yK (i := (n1 : Int)) (by omega) (by omega)) (yK (i := (n2 : Int)) (by omega) (by omega))) (zQ rfl)
   rw [zzT]
   exact this
 · rfl
 · have e := vG (as := B14 n1 n2 m J1 J2 D1 D2 os f6 f7 f8 (sN ps) f10 f11 f12 f13) (a := fV 3) (zc rfl) (zhv (j := 5) (fr := dC (fV 9) dN) rfl (zhv (j := 9) (fr := dN) rfl rfl))
   rw [ho.frz, po.frz] at e
   exact ⟨_, zch (zhI e (szl rfl)) rfl, rfl, rfl⟩
end
abbrev zjY : List D := [.tup [.int 2, .int 2], .tup [.int 3, .int 2], .tup [.int 2, .int 3], .tup [.int 4, .int 2], .tup [.int 2, .int 4], .tup [.int 2, .int 2]]
theorem zmX (x : Int) : ∃ a b : Nat, 2 <= a /\ 2 <= b /\ a * b <= 8 /\ ixP (.lst zjY) (.int (x % 6)) = some (.im (.tup [.int a, .int b])) := by
 rcases (show x % 6 = 0 \/ x % 6 = 1 \/ x % 6 = 2 \/ x % 6 = 3 \/ x % 6 = 4 \/ x % 6 = 5 by omega) with e | e | e | e | e | e <;> rw [e]
 · exact ⟨2, 2, by decide, by decide, by decide, rfl⟩
 · exact ⟨3, 2, by decide, by decide, by decide, rfl⟩
 · exact ⟨2, 3, by decide, by decide, by decide, rfl⟩
 · exact ⟨4, 2, by decide, by decide, by decide, rfl⟩
 · exact ⟨2, 4, by decide, by decide, by decide, rfl⟩
 · exact ⟨2, 2, by decide, by decide, by decide, rfl⟩
theorem zsg (x : Int) : ∃ n : Nat, 2 <= n /\ n <= 8 /\ ixP (.lst [.int 2, .int 3, .int 4, .int 5, .int 3, .int 4, .int 6, .int 8]) (.int (x % 8)) = some (.im (.int n)) := by
 rcases (show x % 8 = 0 \/ x % 8 = 1 \/ x % 8 = 2 \/ x % 8 = 3 \/ x % 8 = 4 \/ x % 8 = 5 \/ x % 8 = 6 \/ x % 8 = 7 by omega) with e | e | e | e | e | e | e | e <;> rw [e]
 · exact ⟨2, by decide, by decide, rfl⟩
 · exact ⟨3, by decide, by decide, rfl⟩
 · exact ⟨4, by decide, by decide, rfl⟩
 · exact ⟨5, by decide, by decide, rfl⟩
 · exact ⟨3, by decide, by decide, rfl⟩
 · exact ⟨4, by decide, by decide, rfl⟩
 · exact ⟨6, by decide, by decide, rfl⟩
 · exact ⟨8, by decide, by decide, rfl⟩
theorem KN4 {x : Int} {n : Nat} (h : 2 <= n) : KN (x % 4) n := by
 rcases (show x % 4 = 0 \/ x % 4 = 1 \/ x % 4 = 2 \/ x % 4 = 3 by omega) with e | e | e | e <;> rw [e]
 · exact .inl ⟨rfl, by omega⟩
 · exact .inr (.inl ⟨rfl, by omega⟩)
 · exact .inr (.inr (.inl ⟨rfl, h⟩))
 · exact .inr (.inr (.inr (.inl ⟨rfl, h⟩)))
theorem zpW {as : AS} : WE (zZ (dC (yw (dC wG (dC wG dN))) (dC (yw (dC vC (dC wG dN))) (dC (yw (dC wG (dC vC dN))) (dC (yw (dC ZD (dC wG dN))) (dC (yw (dC wG (dC ZD dN))) (dC (yw (dC wG (dC wG dN))) dN))))))) as (.lst zjY) := by
 have t : ∀ a b : Int, WD (yw (dC (fC (.int a)) (dC (fC (.int b)) dN))) as true (.tup [.int a, .int b]) := λ a b => zcD (os := [lfI a, lfI b]) (zO zg (zO zg xg)) (szl rfl) rfl
 exact Ye (os := zjY.map (O.lf true)) (zO (t 2 2) (zO (t 3 2) (zO (t 2 3) (zO (t 4 2) (zO (t 2 4) (zO (t 2 2) xg)))))) (szl rfl) rfl rfl
theorem zol {c : Int} {m w : Nat} (hm : m <= 8) (hw : w <= 8) : ∃ (n : Nat) (J : TZ) (Ds : List TZ), 1 <= n /\ n <= 8 /\ Tab n n J /\ Ds.length = w /\ (∀ T ∈ Ds, Tab m n T) /\ RE (Xv [(true, .int c), (true, .int m), (true, .int w)]) (plD n J Ds) := by
 obtain ⟨xs, hl, hx, ws⟩ := stE (as := [sI c, sI m, sI w, none, none, none, none, none]) (a := fV 0) (b := fC (.int 5)) (c := c) (m := 5) (by omega) (WD.e (zc rfl)) (WD.e zg)
 obtain ⟨x0, a0, _⟩ := at2 hx (k := 0) (by omega) (by omega)
 obtain ⟨x1, a1, _⟩ := at2 hx (k := 1) (by omega) (by omega)
 obtain ⟨x2, a2, _⟩ := at2 hx (k := 2) (by omega) (by omega)
 obtain ⟨x3, a3, _⟩ := at2 hx (k := 3) (by omega) (by omega)
 obtain ⟨x4, a4, _⟩ := at2 hx (k := 4) (by omega) (by omega)
 have y0 : 0 <= x0 % 7 /\ x0 % 7 < 7 := ⟨by omega, by omega⟩
 have start : ∀ (C : SF) (x : D), Rt (C [sI c, sI m, sI w, sT (.lst (xs.map D.int)), sI (x0 % 7), none, none, none]) x -> Rt (zR (yq true 3 (zX (aC zM (aC zdY aN)) yp)) (zR (yq true 4 (f2 (f2 yP yN ixP) (fC (.int 7)) zG)) C) [sI c, sI m, sI w, none, none, none, none, none]) x := λ C x h =>
  zF (vY (p := 3) ws (zQ rfl)) (zF (wD (i := 4) (yE (yd (zc rfl) zg a0 rfl) zg (by decide)) (zQ rfl)) h)
 generalize x0 % 7 = k at y0 start
 by_cases hk : 4 < k
 · obtain ⟨a, b, ha, hb, hab, es⟩ := zmX x1
   obtain ⟨J1, D1, j1, l1, t1, p1⟩ := zeN (k := x2 % 4) (c := x3) (m := m) (w := w) (KN4 ha) (zzM (Nat.le_mul_of_pos_right a (by omega)) hab) hm hw
   obtain ⟨J2, D2, j2, l2, t2, p2⟩ := zeN (k := x4 % 4) (c := x3 + 7) (m := m) (w := w) (KN4 hb) (zzM (Nat.le_mul_of_pos_left b (by omega)) hab) hm hw
   obtain ⟨J, Ds, q1, q2, q3, q4⟩ := zly (n1 := a) (n2 := b) (m := m) (w := w) (by omega) (by omega) hab hm hw j1 j2 l1 l2 t1 t2
   refine ⟨a * b, J, Ds, Nat.mul_pos (by omega) (by omega), hab, q1, q2, q3, wH rfl (start _ _ (vD (Zr (yx (zaY (zc rfl) zg) (congrArg some (decide_eq_true hk))) (zF (wD (i := 5) (f2E zpW (WD.e (yE (yd (zc rfl) zg a1 rfl) zg (by decide))) es) (zQ rfl)) (zF (vY (p := 6) (zjJ (WD.e (yE (yd (zc rfl) zg a2 rfl) zg (by decide))) (WD.e (yd (zc rfl) zg rfl rfl)) (WD.e (zc rfl)) (WD.e (zc rfl)) (WD.e (yd (zc rfl) zg a3 rfl)) p1) (zQ rfl)) (wz (Wr (WD.e (zc rfl)) (zjJ (WD.e (yE (yd (zc rfl) zg a4 rfl) zg (by decide))) (WD.e (yd (zc rfl) zg rfl rfl)) (WD.e (zc rfl)) (WD.e (zc rfl)) (WD.e (xO (yd (zc rfl) zg a3 rfl) zg)) p2) (WD.e (zc rfl)) q4)))))))⟩
 · obtain ⟨n, n2, n8, en⟩ := zsg x1
   have fin : ∀ n' : Nat, KN k n' -> n' <= 8 -> ∃ (n : Nat) (J : TZ) (Ds : List TZ), 1 <= n /\ n <= 8 /\ Tab n n J /\ Ds.length = w /\ (∀ T ∈ Ds, Tab m n T) /\ Rt (yX (zX (aC xu (aC v4 (aC zV (aC yr (aC (f2 yP vC ixP) aN))))) wX) [sI c, sI m, sI w, sT (.lst (xs.map D.int)), sI k, none, none, sI n']) (plD n J Ds) := λ n' hK h8 => by
    obtain ⟨J, Ds, j1, l1, t1, p1⟩ := zeN (k := k) (c := x3) (m := m) (w := w) hK h8 hm hw
    refine ⟨n', J, Ds, ?_, h8, j1, l1, t1, wz (zjJ (WD.e (zc rfl)) (WD.e (zc rfl)) (WD.e (zc rfl)) (WD.e (zc rfl)) (WD.e (yd (zc rfl) zg a3 rfl)) p1)⟩
    unfold KN at hK
    omega
   have hk' := congrArg some (decide_eq_false hk)
   have set7 : yq true 7 (f2 (zZ (dC wG (dC vC (dC ZD (dC zdY (dC vC (dC ZD (dC X8 (dC vM dN))))))))) (f2 (f2 yP yo ixP) vM zG) ixP) [sI c, sI m, sI w, sT (.lst (xs.map D.int)), sI k, none, none, none] = some (.nx [sI c, sI m, sI w, sT (.lst (xs.map D.int)), sI k, none, none, sI n]) :=
    wD (i := 7) (f2E (Ye (os := ([2, 3, 4, 5, 3, 4, 6, 8] : List Int).map lfI) (zO zg (zO zg (zO zg (zO zg (zO zg (zO zg (zO zg (zO zg xg)))))))) (szl rfl) rfl rfl) (WD.e (yE (yd (zc rfl) zg a1 rfl) zg (by decide))) en) (zQ rfl)
   by_cases h4 : k = 4
   · subst h4
     obtain ⟨n', J, Ds, r1, r2, r3, r4, r5, r6⟩ := fin 4 (.inr (.inr (.inr (.inr ⟨rfl, rfl⟩)))) (by decide)
     exact ⟨n', J, Ds, r1, r2, r3, r4, r5, wH rfl (start _ _ (zF (yI (yx (zaY (zc rfl) zg) hk') rfl) (zF set7 (zF (yI (zdc (k := false) (yx (wk (zc rfl) zg rfl) rfl) (λ h => nomatch h) (λ _ => rfl)) rfl) (zF (zam (yx (wk (zc rfl) zg rfl) rfl) (wD (i := 7) zg (zQ rfl))) r6)))))⟩
   · have f4 : ∀ e : Option O, WT (fT (f2 xu ZD (yZ .Eq))) [sI c, sI m, sI w, sT (.lst (xs.map D.int)), sI k, none, none, e] false := λ e => yx (wk (zc rfl) zg rfl) (by show some (k == 4) = _; simp [h4])
     by_cases h0 : k = 0 /\ x2 % 9 = 0
     · obtain ⟨rfl, h9⟩ := h0
       obtain ⟨n', J, Ds, r1, r2, r3, r4, r5, r6⟩ := fin 1 (.inl ⟨rfl, zzL _⟩) (by decide)
       exact ⟨n', J, Ds, r1, r2, r3, r4, r5, wH rfl (start _ _ (zF (yI (yx (zaY (zc rfl) zg) hk') rfl) (zF set7 (zF (zam (zdc (k := true) (yx (wk (zc rfl) zg rfl) rfl) (λ _ => yx (wk (yE (yd (zc rfl) zg a2 rfl) zg (by decide)) zg rfl) (by show some (x2 % 9 == 0) = _; simp [h9])) (λ h => nomatch h)) (wD (i := 7) zg (zQ rfl))) (zF (yI (f4 _) rfl) r6)))))⟩
     · have hK : KN k n := by unfold KN; omega
       obtain ⟨n', J, Ds, r1, r2, r3, r4, r5, r6⟩ := fin n hK n8
       refine ⟨n', J, Ds, r1, r2, r3, r4, r5, wH rfl (start _ _ (zF (yI (yx (zaY (zc rfl) zg) hk') rfl) (zF set7 (zF (yI (zdc (k := k == 0) (yx (wk (zc rfl) zg rfl) rfl) (λ h => yx (wk (yE (yd (zc rfl) zg a2 rfl) zg (by decide)) zg rfl) ?_) (λ _ => rfl)) rfl) (zF (yI (f4 _) rfl) r6)))))⟩
       have hk0 : k = 0 := by simpa using h
       show some (x2 % 9 == 0) = some false
       have : ¬ x2 % 9 = 0 := λ z => h0 ⟨hk0, z⟩
       simp [this]
theorem zhl {f : EF} {as : AS} {ds : List D} (h : WE f as (.lst ds)) : ziO f as = some (ds.map λ d => (true, d), as) := by
 obtain ⟨o, h1, h2, h3⟩ := h
 unfold ziO
 rw [h1]
 have e : zfq as (.ow o) = some ((o.str, o.toD), as) := rfl
 show (zfq as (RV.ow o)).bind (λ q => (zhT q.1).bind λ ds => some (ds, q.2)) = _
 rw [e, h2, h3]
 show some (kids true ds, as) = _
 rw [zjG]
theorem zeJ : ∀ (l : List Int) (k : Nat) (h : k < l.length), (l[k] :: l.eraseIdx k).Perm l
 | x :: r, 0, _ => List.Perm.refl _
 | x :: r, k + 1, h => (List.Perm.swap _ _ _).trans ((zeJ r k (by simpa using h)).cons x)
abbrev Wo (n : Nat) : List Int := (List.range n).map λ (i : Nat) => (i : Int)
theorem zlS {c : Int} {n : Nat} (hn : 0 < n) (hn8 : n <= 8) : ∃ F : List Int, F.Perm (Wo n) /\ RE (YF [(true, .int c), (true, .int n)]) (.lst (F.map D.int)) := by
 obtain ⟨xs, hl, hx, ws⟩ := stE (as := [sI c, sI n, sN ((Wo n).map lfI), sN [], none]) (a := fV 0) (b := fV 1) (c := c) (m := n) (by omega) (WD.e (zc rfl)) (WD.e (zc rfl))
 obtain ⟨as', hf, L, F, e4, rfl, hp, hlen⟩ := wZ (g := gN 4) (f := wM (vL 3 (dC (vL 2 (dC (f2 xu (fP W9 vq) zG) dN) zaq) dN) vJ))
  (λ i as => ∃ (L F : List Int) (e4 : Option O), as = [sI c, sI n, sN (L.map lfI), sN (F.map lfI), e4] /\ (L ++ F).Perm (Wo n) /\ L.length + i = n)
  ((xs.map D.int).map λ d => (true, d)) 0 [sI c, sI n, sN ((Wo n).map lfI), sN [], none] (λ i x as hx' hI => by
    obtain ⟨L, F, e4, rfl, hp, hlen⟩ := hI
    have hi : i < n := by
     have := (zzE.mp hx').1
     rw [zI, zI, hl] at this
     exact this
    obtain ⟨y, rfl⟩ : ∃ y : Int, x = (true, .int y) := by
     rw [List.map_map, zzG] at hx'
     obtain ⟨a, _, h2⟩ := zzV.mp hx'
     exact ⟨a, h2.symm⟩
    have l0 : (0 : Int) < ((L.map lfI).length : Int) := by rw [zI]; omega
    have z0 := Int.emod_nonneg y (show ((L.map lfI).length : Int) ≠ 0 by omega)
    have z1 := Int.emod_lt_of_pos y l0
    have hk : (y % ((L.map lfI).length : Int)).toNat < L.length := by rw [zI] at z0 z1 ⊢; omega
    generalize hkk : (y % ((L.map lfI).length : Int)).toNat = k at hk
    have pop := zlT (as := [sI c, sI n, sN (L.map lfI), sN (F.map lfI), sI y]) (i := 2) (os := L.map lfI) (o := lfI L[k]) rfl (yE (zc (i := 4) rfl) (zhD (i := 2) rfl) l0) z0 z1 (by rw [zI]; omega) (by rw [hkk, zzG, zzC hk]; rfl)
    rw [hkk, show (L.map lfI).eraseIdx k = (L.eraseIdx k).map lfI by rw [List.eraseIdx_eq_take_drop_succ, List.eraseIdx_eq_take_drop_succ, List.map_append, List.map_take, List.map_drop]] at pop
    have ap := zkI (i := 3) (os := F.map lfI) (as := [sI c, sI n, sN (L.map lfI), sN (F.map lfI), sI y]) rfl pop rfl (by rw [zI]; have := hp.length_eq; rw [zzH, zI, List.length_range] at this; exact Yp (by omega))
    rw [<- ziq] at ap
    refine ⟨[sI c, sI n, sN (L.map lfI), sN (F.map lfI), sI y], rfl, _, ap, L.eraseIdx k, F ++ [L[k]], _, rfl, ?_, by rw [List.length_eraseIdx_of_lt hk]; omega⟩
    rw [<- List.append_assoc]
    refine (List.perm_append_singleton _ _).trans ?_
    rw [<- List.cons_append]
    exact ((zeJ L k hk).append_right F).trans hp)
  ⟨Wo n, [], none, rfl, by rw [List.append_nil], by rw [zI, List.length_range]; rfl⟩
 rw [zI, zI, hl] at hlen
 have hL : L = [] := List.eq_nil_of_length_eq_zero (by omega)
 subst hL
 have s2 := v8 (i := 2) (as := [sI c, sI n, none, none, none]) (zhe (a := fV 1) (x := .int n) (g := lrP) (zs := (Wo n).map D.int) (WD.e (zc rfl)) (by
  show (if (0 : Int) <= n /\ (n : Int) <= 100000 then _ else _) = _
  rw [if_pos ⟨by omega, by omega⟩, List.map_map]; rfl)) (zQ rfl)
 rw [zhk] at s2
 exact ⟨F, hp, wH rfl (zF s2 (zF (v8 (i := 3) (Z7 xg (szl rfl)) (zQ rfl)) (zF (ZP (zhl ws) hf) ⟨_, zki (i := 3) rfl (Z8 F).2.1, (zdq F).1, (zdq F).2⟩)))⟩
abbrev abc : Str := "abcdefghijklmnopqrstuvwxyz"
theorem zpf : ∀ k, k < 26 -> abc.cps.toList[k]? = some (97 + k) := by decide +kernel
theorem zmm {i : Int} (h0 : 0 <= i) (h1 : i < 26) : ixP (.str abc) (.int i) = some (.im (.str ⟨#[97 + i.toNat]⟩)) := by
 show (if abc.length <= sizeLine then (atI abc.cps.toList i).bind (λ c => some (R0.im (.str ⟨#[c]⟩))) else none) = _
 rw [if_pos (show abc.length <= sizeLine by decide +kernel)]
 have := Xd (zpf i.toNat (by omega))
 rw [show ((i.toNat : Nat) : Int) = i by omega] at this
 rw [this]; rfl
theorem zfm : ∀ l : List Str, zaT (l.map D.str) = some l
 | [] => rfl
 | x :: r => by
  show (zaT (r.map D.str)).bind _ = _
  rw [zfm r]; rfl
theorem zrY : ∀ l : List Str, (∀ s ∈ l, s.length = 1) -> (l.map (·.length)).sum = l.length
 | [], _ => rfl
 | x :: r, h => by
  show x.length + (r.map (·.length)).sum = r.length + 1
  rw [h x (zzD ..), zrY r λ s m => h s (zzB _ m)]; omega
theorem len_app (a b : Str) : (a ++ b).length = a.length + b.length := by
 show (a ++ b).cps.size = a.cps.size + b.cps.size
 rw [Str.cps_append, Array.size_append]
theorem ziM : ∀ l : List Str, (∀ s ∈ l, s.length = 1) -> (Str.join "" l).length = l.length
 | [], _ => rfl
 | [x], h => h x (zzD ..)
 | x :: y :: r, h => by
  show (x ++ "" ++ Str.join "" (y :: r)).length = _
  rw [len_app, len_app, h x (zzD ..), ziM (y :: r) λ s m => h s (zzB _ m)]
  show 1 + 0 + (r.length + 1) = r.length + 1 + 1
  omega
theorem add_str {a b : Str} (h : a.length + b.length <= 1000) : Z3 .Add (.str a) (.str b) = some (.im (.str (a ++ b))) := if_pos (szs (by omega))
abbrev nm (A B : Str) (x : Int) (k : Nat) : Str := A ++ ⟨#[97 + ((x + 3 * (k : Int)) % 26).toNat]⟩ ++ B
theorem zqd {A B : Str} {x : Int} {k j : Nat} (hk : k < 10) (hj : j < 10) (h : nm A B x k = nm A B x j) : k = j := by
 have h := congrArg (λ s : Str => s.cps.toList) h
 simp only [Str.cps_append, Array.toList_append, List.append_assoc, List.append_cancel_left_eq] at h
 have h := (List.append_cancel_right h)
 injection h with h
 omega
abbrev Lt (s : Str) : Prop := ∀ c ∈ s.cps.toList, 97 <= c /\ c < 123
abbrev WK (s : Str) : Prop := 1 <= s.length /\ s.length <= 8 /\ Lt s
theorem Lt.app {a b : Str} (h : Lt a) (g : Lt b) : Lt (a ++ b) := λ c m => by
 rw [Str.cps_append, Array.toList_append] at m
 exact (zzK.mp m).elim (h c) (g c)
theorem zkL : ∀ l : List Str, (∀ s ∈ l, Lt s) -> Lt (Str.join "" l)
 | [], _ => λ _ z => nomatch z
 | [x], h => h x (zzD ..)
 | x :: y :: r, h => Lt.app (Lt.app (h x (zzD ..)) λ _ z => nomatch z) (zkL (y :: r) λ s m => h s (zzB _ m))
theorem Lt.slice {x : Str} (h : Lt x) (l u : Option Int) : Lt (Txt.slice x l u) := by
 unfold Txt.slice
 split
 · exact h
 · intro c m
   obtain ⟨i, _, hi⟩ := List.mem_filterMap.mp (by simpa using m)
   exact h c (by rw [<- Array.getElem?_toList] at hi; exact List.mem_of_getElem? hi)
theorem zhV (x : Str) (l u : Option Int) : (Txt.slice x l u).length <= (Builtin.Str.strSliceIndices l u 1 x.length).length := by
 unfold Txt.slice
 split
 · rename_i h
   simp at h
   omega
 · show (List.filterMap _ (Builtin.Str.strSliceIndices l u 1 x.length)).toArray.size <= _
   rw [zzF]
   exact List.length_filterMap_le _ _
theorem zst {k : Int} {n : Nat} (h0 : 0 <= k) (h1 : k < n) : (Builtin.Str.strSliceIndices none (some k) 1 n).length = k.toNat := by
 unfold Builtin.Str.strSliceIndices sliceRange
 simp only [show (1 : Int) > 0 by decide, if_true, zI, List.length_range]
 split <;> (try split) <;> (try split) <;> (try simp only [Int.ediv_one]) <;> omega
theorem zow {k : Int} {n : Nat} (h0 : 0 <= k) (h1 : k < n) : (Builtin.Str.strSliceIndices (some (k + 1)) none 1 n).length = (n - k - 1).toNat := by
 unfold Builtin.Str.strSliceIndices sliceRange
 simp only [show (1 : Int) > 0 by decide, if_true, zI, List.length_range]
 split <;> (try split) <;> (try split) <;> (try simp only [Int.ediv_one]) <;> omega
theorem zmZ {c : Int} : ∃ ss : List Str, ss.length = 10 /\ ss.Nodup /\ (∀ s ∈ ss, WK s) /\ RE (YJ [(true, .int c), (true, .int (10 : Nat))]) (.lst (ss.map D.str)) := by
 obtain ⟨xs, hl, hx, ws⟩ := stE (as := [sI c, sI (10 : Nat), sT (.str abc), none, none, none, none, none]) (a := fV 0) (b := fC (.int 9)) (c := c) (m := 9) (by omega) (WD.e (zc rfl)) (WD.e zg)
 obtain ⟨x8, a8, _⟩ := at2 hx (k := 8) (by omega) (by omega)
 have hk : (1 + c % 8).toNat <= 9 := by omega
 have sl : WE (fSl yP oN (oS (f2 yo (f2 zM vM zG) zx)) slP) [sI c, sI (10 : Nat), sT (.str abc), sT (.lst (xs.map D.int)), none, none, none, none] (.lst ((xs.take (1 + c % 8).toNat).map D.int)) := by
  refine Vf (lo := none) (hi := some (1 + c % 8)) (WD.e (zc rfl)) rfl ?_ ?_
  · have := xO (as := [sI c, sI (10 : Nat), sT (.str abc), sT (.lst (xs.map D.int)), none, none, none, none]) (zg (x := .int 1)) (yE (zc (i := 0) rfl) (zg (x := .int 8)) (by decide))
    unfold oS
    unfold WD at this
    rw [this]; rfl
  · have := zjH (xs := (xs.take (1 + c % 8).toNat).map D.int) (ys := (xs.drop (1 + c % 8).toNat).map D.int)
    rw [<- List.map_append, List.take_append_drop, zI, zzQ, Nat.min_eq_left (by omega), show (((1 + c % 8).toNat : Nat) : Int) = 1 + c % 8 by omega] at this
    exact this
 obtain ⟨l, l1, l2, l3⟩ := zcx D.str (Q := λ s => s.length = 1 /\ Lt s) (cap := [none, some 2]) (g := gN 0) (fe := f2 zV (f2 zM (fC (.int 26)) zG) ixP) (zgD sl) (by rw [zI, zI, zzQ]; omega) λ y m => by
  rw [List.map_map] at m
  obtain ⟨z, _, rfl⟩ := List.mem_map.mp m
  exact ⟨[sI z, sT (.str abc)], ⟨#[97 + (z % 26).toNat]⟩, rfl, WD.e (yd (zc rfl) (yE (zc rfl) zg (by decide)) (zmm (by omega) (by omega)) rfl), rfl, λ q mq => by
   rw [zzP.mp mq]
   have h0 := Int.emod_nonneg z (show (26 : Int) ≠ 0 by decide)
   have h1 := Int.emod_lt_of_pos z (show (0 : Int) < 26 by decide)
   exact ⟨by omega, by omega⟩⟩
 rw [zI, zI, zzQ] at l1
 have hb : (Str.join "" l).length = l.length := ziM l λ s m => (l2 s m).1
 have hlt : Lt (Str.join "" l) := zkL l λ s m => (l2 s m).2
 have hm : WD (Vy .str (fC (.str "")) (aC (yh (Yr (fSl yP oN (oS (f2 yo (f2 zM vM zG) zx)) slP)) [none, some 2] xq yV (f2 zV (f2 zM (fC (.int 26)) zG) ixP)) aN) zkY) [sI c, sI (10 : Nat), sT (.str abc), sT (.lst (xs.map D.int)), none, none, none, none] true (.str (Str.join "" l)) :=
  zgX zg rfl (YL l3 zU) (by
   show (zaT (l.map D.str)).bind _ = _
   rw [zfm]
   show (if (l.map (·.length)).sum + l.length * 0 <= 16777216 then some (R0.im (.str (Txt.join "" l))) else none) = _
   rw [if_pos (by rw [zrY l λ s m => (l2 s m).1]; omega), zmc]) rfl
 generalize Str.join "" l = base at hb hm hlt
 have lb : (0 : Int) < (base.length : Int) := by omega
 have lz : base.length <= sizeLine := szs (by omega)
 have z0 := Int.emod_nonneg (c / 8) (show (base.length : Int) ≠ 0 by omega)
 have z1 := Int.emod_lt_of_pos (c / 8) lb
 generalize hat : c / 8 % (base.length : Int) = at_ at z0 z1
 have lA := Txt.slice_le base none (some at_)
 have lB := Txt.slice_le base (some (at_ + 1)) none
 have mA := zhV base none (some at_)
 have mB := zhV base (some (at_ + 1)) none
 rw [zst z0 z1] at mA
 rw [zow z0 z1] at mB
 have tA := hlt.slice none (some at_)
 have tB := hlt.slice (some (at_ + 1)) none
 have eA : slS (.str base) none (some at_) = some (.im (.str (Txt.slice base none (some at_)))) := if_pos lz
 have eB : slS (.str base) (some (at_ + 1)) none = some (.im (.str (Txt.slice base (some (at_ + 1)) none))) := if_pos lz
 generalize Txt.slice base none (some at_) = A at lA eA mA tA
 generalize Txt.slice base (some (at_ + 1)) none = B at lB eB mB tB
 have lo1 : ∀ (f : EF) (as : AS) (k : Int), WD f as true (.int k) -> oS f as = some (some k, as) := λ f as k h => by
  unfold oS
  unfold WD at h
  rw [h]; rfl
 obtain ⟨as', hf, os, e7, rfl, ho⟩ := wZ (g := gN 7) (f := wM (vL 6 (dC (f2 (f2 (fSl xu oN (oS Zh) slS) (f2 yr (f2 (f2 (f2 yP vM ixP) (f2 vC v4 zY) zx) (fC (.int 26)) zG) ixP) zx) (fSl xu (oS (f2 Zh yo zx)) oN slS) zx) dN) vJ))
  (λ i as => ∃ (os : List O) (e7 : Option O), as = [sI c, sI (10 : Nat), sT (.str abc), sT (.lst (xs.map D.int)), sT (.str base), sI at_, sN os, e7] /\ Ows D.str (λ _ => True) os ((List.range i).map (nm A B x8)))
  (v6 0 10) 0 [sI c, sI (10 : Nat), sT (.str abc), sT (.lst (xs.map D.int)), sT (.str base), sI at_, sN [], none] (λ i x as hx' hI => by
   obtain ⟨os, e7, rfl, ho⟩ := hI
   obtain ⟨rfl, hi⟩ := Xx hx'
   rw [Nat.zero_add] at ho
   have d1 := zmm (i := (x8 + 3 * ((0 : Int) + i)) % 26) (by omega) (by omega)
   have e0 : (x8 + 3 * ((0 : Int) + i)) % 26 = (x8 + 3 * (i : Int)) % 26 := by rw [Int.zero_add]
   obtain ⟨os', o1, o2⟩ := ziI (as := [sI c, sI (10 : Nat), sT (.str abc), sT (.lst (xs.map D.int)), sT (.str base), sI at_, sN os, sI (0 + i)]) (x := nm A B x8 i) (i := 6) (toD := D.str) (Q := λ _ => True) (a := f2 (f2 (fSl xu oN (oS Zh) slS) (f2 yr (f2 (f2 (f2 yP vM ixP) (f2 vC v4 zY) zx) (fC (.int 26)) zG) ixP) zx) (fSl xu (oS (f2 Zh yo zx)) oN slS) zx) rfl ho (by rw [zI, List.length_range]; omega)
    (WD.e (w5 (w5 (zaC (zc (i := 4) rfl) rfl (lo1 _ _ _ (zc (i := 5) rfl)) eA) (yd (zc (i := 2) rfl) (yE (xO (yd (zc (i := 3) rfl) zg a8 rfl) (vR zg (zc (i := 7) rfl) (yK (by decide) (by decide)) (yK (by omega) (by omega)))) zg (by decide)) d1 rfl) (add_str (by show A.length + 1 <= _; omega))) (zaC (zc (i := 4) rfl) (lo1 _ _ _ (xO (zc (i := 5) rfl) zg)) rfl eB) (by
     rw [e0]
     exact add_str (by rw [len_app]; show A.length + 1 + B.length <= _; omega)))) trivial
   refine ⟨[sI c, sI (10 : Nat), sT (.str abc), sT (.lst (xs.map D.int)), sT (.str base), sI at_, sN os, sI (0 + i)], rfl, _, o2, os', _, rfl, ?_⟩
   rw [show 0 + i + 1 = i + 1 by omega, List.range_succ, List.map_append]
   exact o1)
  ⟨[], none, rfl, Ows.nil⟩
 rw [Zc, Nat.zero_add] at ho
 have s5 := wD (st := true) (i := 5) (as := [sI c, sI (10 : Nat), sT (.str abc), sT (.lst (xs.map D.int)), sT (.str base), none, none, none]) (yE (Ws (zc (i := 0) rfl) (zg (x := .int 8)) (by decide) (yK (by decide) (by decide))) (wj (g := vq) (x := .int base.length) (zP (zc (i := 4) rfl) zU) (if_pos lz) rfl) lb) (zQ rfl)
 rw [hat] at s5
 refine ⟨(List.range 10).map (nm A B x8), by rw [zI, List.length_range], ?_, λ s ms => ?_, wH rfl (zF (wD (i := 2) zg (zQ rfl)) (zF (vY (p := 3) ws (zQ rfl)) (zF (wD (i := 4) hm (zQ rfl)) (zF s5 (zF (v8 (i := 6) (Z7 xg (szl rfl)) (zQ rfl)) (zF (ZP (Yz (zP (zc rfl) zU) (by decide) (by decide)) hf) (Ows.retB (i := 6) rfl ho)))))))⟩
 · exact List.pairwise_map.mpr ((List.nodup_range (n := 10)).imp_of_mem λ ha hb hne he => hne (zqd (List.mem_range.mp ha) (List.mem_range.mp hb) he))
 · obtain ⟨i, _, rfl⟩ := List.mem_map.mp ms
   have h0 := Int.emod_nonneg (x8 + 3 * (i : Int)) (show (26 : Int) ≠ 0 by decide)
   have h1 := Int.emod_lt_of_pos (x8 + 3 * (i : Int)) (show (0 : Int) < 26 by decide)
   refine ⟨?_, ?_, Lt.app (Lt.app tA λ q mq => by rw [zzP.mp mq]; exact ⟨by omega, by omega⟩) tB⟩
   · rw [len_app, len_app]; show 1 <= A.length + 1 + B.length; omega
   · rw [len_app, len_app]; show A.length + 1 + B.length <= 8; omega
theorem zsr {a b : EF} {as : AS} {d1 d2 : List D} (ha : WE a as (.lst d1)) (hb : WE b as (.lst d2)) : zlA (aC a (aC b aN)) as = some (VF true d1 d2, as) := by
 have h := YL ha (YL hb (zU (as := as)))
 unfold WA at h
 unfold zlA
 rw [h]; rfl
theorem zgs {g : GF} {tt : TF} {fe : EF} {as0 : AS} : ∀ {xs : List Int}, (∀ y ∈ xs, ∃ as1 b, g (true, .int y) as0 = some as1 /\ WT tt as1 b /\ WD fe as1 true (.int y)) -> ∃ l : List Int, l.Sublist xs /\ v9 g tt fe as0 (xs.map λ y => (true, D.int y)) = some (l.map lfI)
 | [], _ => ⟨[], .slnil, rfl⟩
 | y :: xs, H => by
  obtain ⟨as1, b, h1, h2, h3⟩ := H y (zzD ..)
  obtain ⟨l, hs, hl⟩ := zgs (g := g) (tt := tt) (fe := fe) (as0 := as0) (xs := xs) λ z m => H z (zzB _ m)
  cases b with
  | true => exact ⟨y :: l, hs.cons₂ _, zlk h1 h2 h3 hl⟩
  | false => exact ⟨l, hs.cons _, zlz h1 h2 hl⟩
theorem zov (n : Nat) : v6 0 n = (Wo n).map λ y => (true, D.int y) := by
 unfold v6
 rw [List.map_map]
 exact List.map_congr_left λ i _ => by show (true, D.int (0 + (i : Int))) = (true, D.int i); rw [Int.zero_add]
abbrev Sgn (n : Nat) (p : Str × List Int) : Prop := p.2.length <= 8 /\ (∀ x ∈ p.2, InR n x) /\ p.2.Pairwise (· < ·)
theorem zrr {n : Nat} {s : Str} {r : List Int} (hn : n <= 8) (h : r.Sublist (Wo n)) : Sgn n (s, r) := by
 refine ⟨?_, λ x mx => ?_, ?_⟩
 · have := h.length_le
   rw [zI, List.length_range] at this
   exact zzM this hn
 · obtain ⟨i, mi, rfl⟩ := List.mem_map.mp (h.subset mx)
   have := List.mem_range.mp mi
   exact ⟨by omega, by omega⟩
 · exact (List.pairwise_map.mpr ((List.pairwise_lt_range (n := n)).imp λ h => by omega)).sublist h
abbrev yj (p : Str × List Int) : D := .tup [.str p.1, yC p.2]
abbrev zpM : List Int := [1, 2, 4, 8, 16, 32, 64, 128]
theorem zmi {c : Int} {n : Nat} {ns : List Str} (hn : n <= 8) (hl : ns.length <= 10) : ∃ ss : SS, ss.map (·.1) = ns /\ (∀ p ∈ ss, Sgn n p) /\ RE (Z1 [(true, .int c), (true, .int n), (true, .lst (ns.map D.str))]) (.lst (ss.map yj)) := by
 obtain ⟨xs, xl, hx, ws⟩ := stE (as := [sI c, sI n, sT (.lst (ns.map D.str)), sN [], none, none]) (a := fV 0) (b := fP W9 vq) (c := c) (m := ns.length) (by omega) (WD.e (zc rfl)) (WD.e (wj (zP (zc rfl) zU) (by show some (R0.im (.int ((ns.map D.str).length : Int))) = _; rw [zI]) rfl))
 obtain ⟨as', hf, os, l, e4, e5, rfl, ho⟩ := wZ (g := gT 2 (gsC zeb (gsC (gN 5) gsN))) (f := wM (vL 3 (dC (yw (dC Zh (dC (yh (xR vK xW) [none, some 4] xq (fT (f2 (f2 (f2 zV (f2 (zZ (dC yo (dC wG (dC ZD (dC vM (dC (fC (.int 16)) (dC (fC (.int 32)) (dC (fC (.int 64)) (dC (fC (.int 128)) dN))))))))) zM ixP) zL) wG zG) yo (yZ .Eq))) zM) dN))) dN) vJ))
  (λ i as => ∃ (os : List O) (l : SS) (e4 e5 : Option O), as = [sI c, sI n, sT (.lst (ns.map D.str)), sN os, e4, e5] /\ Ows yj (Sgn n) os l /\ l.map (·.1) = ns.take i)
  (VF true (xs.map D.int) (ns.map D.str)) 0 [sI c, sI n, sT (.lst (ns.map D.str)), sN [], none, none] (λ i x as hx' hI => by
   obtain ⟨os, l, e4, e5, rfl, ho, hlm⟩ := hI
   have hlen : l.length = i := by
    have := congrArg List.length hlm
    rw [zI, zzQ] at this
    have := (zzE.mp hx').1
    rw [W0, zI, zI] at this
    omega
   obtain ⟨d, e, z1, z2, rfl⟩ := VH hx'
   have hil : i < ns.length := by have := (zzE.mp z2).1; rw [zI] at this; exact this
   obtain ⟨y, m1, rfl⟩ := zca z1
   obtain ⟨s, m2, rfl⟩ := zca z2
   have z3 : ns[i]? = some s := by
    rw [zzG] at z2
    cases hq : ns[i]? with
    | none => rw [hq] at z2; cases z2
    | some t => rw [hq] at z2; cases z2; rfl
   obtain ⟨r, hsub, hr⟩ := zgs (g := gN 0) (as0 := [none, sI y]) (tt := fT (f2 (f2 (f2 zV (f2 (zZ (dC yo (dC wG (dC ZD (dC vM (dC (fC (.int 16)) (dC (fC (.int 32)) (dC (fC (.int 64)) (dC (fC (.int 128)) dN))))))))) zM ixP) zL) wG zG) yo (yZ .Eq))) (fe := fV 0) (xs := Wo n) λ b m => by
    obtain ⟨i', mi, rfl⟩ := List.mem_map.mp m
    have hi' := List.mem_range.mp mi
    generalize hb : (i' : Int) = b
    have b0 : 0 <= b := by omega
    have b1 : b < n := by omega
    obtain ⟨q, q1, q2⟩ := Vg (r := zpM) (P := λ x => 0 < x /\ x < 1000) (k := b) b0 (by show b < 8; omega) (by decide)
    exact ⟨[sI b, sI y], _, rfl, yx (wk (yE (Ws (zc rfl) (f2E (Ye (os := zpM.map lfI) (zO zg (zO zg (zO zg (zO zg (zO zg (zO zg (zO zg (zO zg xg)))))))) (szl rfl) rfl rfl) (WD.e (zc rfl)) q1) q2.1 (yK (by omega) (by omega))) zg (by decide)) zg rfl) rfl, zc rfl⟩
   rw [<- zov] at hr
   have hc := zkO (as := [sI c, sI n, sT (.lst (ns.map D.str)), sN os, sI y, sT (.str s)]) (cap := [none, some 4]) (Yz (zP (zc (i := 1) rfl) zU) (by omega) (by omega)) (by rw [Zc]; exact szs (by omega)) hr
   obtain ⟨os', o1, o2⟩ := ziI (as := [sI c, sI n, sT (.lst (ns.map D.str)), sN os, sI y, sT (.str s)]) (x := (s, r)) (i := 3) (toD := yj) (Q := Sgn n) rfl ho (by omega) (zoZ (zO (zc (i := 5) rfl) (zbu hc xg)) (szl rfl) (by show (true && ((O.nd .ls (r.map lfI)).str && true)) = true; rw [(zdq r).1]; rfl) (by show D.tup [.str s, (O.nd .ls (r.map lfI)).toD] = _; rw [(zdq r).2])) (zrr hn hsub)
   exact ⟨[sI c, sI n, sT (.lst (ns.map D.str)), sN os, sI y, sT (.str s)], rfl, _, o2, os', l ++ [(s, r)], _, _, rfl, o1, by rw [List.map_append, hlm, show 0 + i + 1 = i + 1 by omega, Nat.zero_add, List.take_succ, z3]; rfl⟩)
  ⟨[], [], none, none, rfl, Ows.nil, rfl⟩
 obtain ⟨ho, hlm⟩ := ho
 rw [W0, zI, zI, xl, Nat.min_self, Nat.zero_add, List.take_length] at hlm
 exact ⟨l, hlm, ho.al, wH rfl (zF (v8 (i := 3) (Z7 xg (szl rfl)) (zQ rfl)) (zF (ZP (zsr ws (WD.e (zc rfl))) hf) (Ows.retB (i := 3) rfl ho)))⟩
theorem any_ints (b : Int) : ∀ r : List Int, ∃ t, anyF (λ y => eqF 50 y (.int b)) (r.map D.int) = some t
 | [] => ⟨_, rfl⟩
 | x :: r => by
  obtain ⟨t, h⟩ := any_ints b r
  refine ⟨(x == b) || t, ?_⟩
  show (some (x == b)).bind _ = _
  rw [Option.bind_some, h]; rfl
theorem ziE {b : Int} : ∀ {r : List Int}, b ∈ r -> ∃ j : Nat, j < r.length /\ zgf (λ y => eqF 50 y (.int b)) (r.map D.int) = some j
 | x :: r, m => by
  by_cases e : x = b
  · obtain ⟨t, h⟩ := any_ints b r
    refine ⟨0, Nat.succ_pos _, ?_⟩
    show (some (x == b)).bind _ = _
    rw [Option.bind_some, show (x == b) = true by simp [e]]
    show (anyF _ (r.map D.int)).bind _ = _
    rw [h]; rfl
  · obtain ⟨j, h1, h2⟩ := ziE (r := r) ((zzA.mp m).resolve_left λ z => e z.symm)
    refine ⟨j + 1, Nat.succ_lt_succ h1, ?_⟩
    show (some (x == b)).bind _ = _
    rw [Option.bind_some, show (x == b) = false by simp [e]]
    show (zgf _ (r.map D.int)).bind _ = _
    rw [h2]; rfl
theorem zir {F : List Int} {n : Nat} (h : F.Perm (Wo n)) : Row n F /\ ∀ b : Int, 0 <= b -> b < n -> b ∈ F := by
 refine ⟨⟨by rw [h.length_eq, zI, List.length_range], λ x m => ?_⟩, λ b b0 b1 => h.mem_iff.mpr ?_⟩
 · obtain ⟨i, hi, rfl⟩ := List.mem_map.mp (h.mem_iff.mp m)
   have := List.mem_range.mp hi
   omega
 · exact List.mem_map.mpr ⟨b.toNat, List.mem_range.mpr (by omega), by omega⟩
theorem zrI {as : AS} {F : List Int} {n : Nat} {cap : List (Option Nat)} {fr : AF} (hF : F.Perm (Wo n)) (hn : n <= 8) (h1 : WA fr as [(true, .int n)]) (h2 : ∀ b : Int, gN 0 (true, .int b) (X7 cap as) = some [sI b, sT (.lst (F.map D.int))]) :
 ∃ B, Row n B /\ WE (yh (xR fr xW) cap xq yV (Vy .lst zV vI zau)) as (.lst (B.map D.int)) := by
 obtain ⟨r1, r2⟩ := zir hF
 obtain ⟨B, b1, b2, b3⟩ := v5 D.int (Q := λ x => 0 <= x /\ x < (n : Int)) (n := n) (cap := cap) (fe := Vy .lst zV vI zau) h1 (by omega) λ b b0 b1 => by
  obtain ⟨j, j1, j2⟩ := ziE (r2 b b0 b1)
  refine ⟨_, (j : Int), h2 b, WD.e (zgX (zc rfl) rfl (zP (zc rfl) zU) ?_ rfl), by omega, by rw [r1.1] at j1; omega⟩
  show (zgf _ (F.map D.int)).bind _ = _
  rw [j2]
  show (if (F.map D.int).length <= 1000 then some (R0.im (.int j)) else none) = _
  rw [if_pos (by rw [zI, r1.1]; omega)]
 exact ⟨B, ⟨b1, b2⟩, b3⟩
theorem zkd {f : EF} {g : GF} {as as' : AS} {x : D} (h : WE f as x) (hg : g (true, x) as = some as') : zdg f g as = some (.nx as') := by
 obtain ⟨o, h1, h2, h3⟩ := h
 exact zqp h1 (by rw [h2, h3]; exact hg)
theorem YT {n : Nat} {r : List Int} (hr : Row n r) {k : Int} (h0 : 0 <= k) (h1 : k < n) : ∃ x, ixP (.lst (r.map D.int)) (.int k) = some (.im (.int x)) /\ 0 <= x /\ x < (n : Int) := Vg h0 (by rw [hr.1]; exact h1) hr.2
theorem znu {k n : Nat} {T : TZ} (hT : Tab k n T) {i : Int} (h0 : 0 <= i) (h1 : i < k) : ∃ r, ixP (.lst (T.map yC)) (.int i) = some (.im (yC r)) /\ Row n r := zeU yC h0 (by rw [hT.1]; exact h1) hT.2
theorem zsE {as : AS} {F B : List Int} {J : TZ} {n : Nat} {fr : AF} {cap : List (Option Nat)} (hn : n <= 8) (hF : Row n F) (hB : Row n B) (hJ : Tab n n J) (h1 : WA fr as [(true, .int n)]) (h2 : ∀ a : Int, gN 0 (true, .int a) (X7 cap as) = some [sI a, sT (.lst (F.map D.int)), sI n, sT (zN J), sT (.lst (B.map D.int))]) :
 ∃ T, Tab n n T /\ WE (yh (xR fr xW) cap xq yV (yh (xR W9 xW) [none, some 1, some 3, some 4, some 0] xq yV (f2 zV (f2 (f2 yr (f2 yP xu ixP) ixP) (f2 yP zM ixP) ixP) ixP))) as (zN T) := by
 obtain ⟨T, t1, t2, t3⟩ := v5 yC (Q := Row n) (n := n) (cap := cap) (fe := yh (xR W9 xW) [none, some 1, some 3, some 4, some 0] xq yV (f2 zV (f2 (f2 yr (f2 yP xu ixP) ixP) (f2 yP zM ixP) ixP) ixP)) h1 (by omega) λ a a0 a1 => by
  obtain ⟨r, r1, r2, r3⟩ := v5 (as := [sI a, sT (.lst (F.map D.int)), sI n, sT (zN J), sT (.lst (B.map D.int))]) (u := true) D.int (Q := λ x => 0 <= x /\ x < (n : Int)) (n := n) (fr := aC yr aN) (cap := [none, some 1, some 3, some 4, some 0]) (fe := f2 zV (f2 (f2 yr (f2 yP xu ixP) ixP) (f2 yP zM ixP) ixP) ixP) (zP (zc rfl) zU) (by omega) λ b b0 b1 => by
   obtain ⟨p, p1, p2⟩ := YT hB a0 a1
   obtain ⟨q, q1, q2⟩ := YT hB b0 b1
   obtain ⟨t, t1, t2⟩ := znu hJ p2.1 p2.2
   obtain ⟨v, v1, v2⟩ := YT t2 q2.1 q2.2
   obtain ⟨w, w1, w2⟩ := YT hF v2.1 v2.2
   exact ⟨[sI b, sT (.lst (F.map D.int)), sT (zN J), sT (.lst (B.map D.int)), sI a], w, rfl, WD.e (yd (zc rfl) (yd (w5 (zc rfl) (yd (zc rfl) (zc rfl) p1 rfl) t1) (yd (zc rfl) (zc rfl) q1 rfl) v1 rfl) w1 rfl), w2⟩
  exact ⟨_, r, h2 a, r3, r1, r2⟩
 exact ⟨T, ⟨t1, t2⟩, t3⟩
abbrev yz (p : Str × TZ) : D := .tup [.str p.1, zN p.2]
abbrev znf : EF := yh (Yr (fV 14)) [none, some 8, some 5, some 9] xq yV (yh (xR W9 xW) [none, some 1, some 0, some 3] xq yV (f2 zV (f2 yr (f2 yP zM ixP) ixP) ixP))
theorem zsa {as : AS} {F B : List Int} {T : TZ} {m n : Nat} (hn : n <= 8) (hm : m <= 8) (hF : Row n F) (hB : Row n B) (hT : Tab m n T) (h1 : as[14]? = some (sT (zN T))) (h2 : ∀ d : D, gN 0 (true, d) (X7 [none, some 8, some 5, some 9] as) = some [sT d, sT (.lst (F.map D.int)), sI n, sT (.lst (B.map D.int))]) :
 ∃ T', Tab m n T' /\ WE znf as (zN T') := by
 obtain ⟨T', t1, t2, t3⟩ := zcx yC (Q := Row n) (cap := [none, some 8, some 5, some 9]) (g := gN 0) (fe := yh (xR W9 xW) [none, some 1, some 0, some 3] xq yV (f2 zV (f2 yr (f2 yP zM ixP) ixP) ixP)) (zgD (f := fV 14) (as := as) (WD.e (zc h1))) (by rw [zI, zI, hT.1]; omega) λ y my => by
  rw [List.map_map] at my
  obtain ⟨r, mr, rfl⟩ := List.mem_map.mp my
  have hr := hT.2 r mr
  obtain ⟨l, l1, l2, l3⟩ := v5 (as := [sT (yC r), sT (.lst (F.map D.int)), sI n, sT (.lst (B.map D.int))]) (u := true) D.int (Q := λ x => 0 <= x /\ x < (n : Int)) (n := n) (fr := aC yr aN) (cap := [none, some 1, some 0, some 3]) (fe := f2 zV (f2 yr (f2 yP zM ixP) ixP) ixP) (zP (zc rfl) zU) (by omega) λ a a0 a1 => by
   obtain ⟨p, p1, p2⟩ := YT hB a0 a1
   obtain ⟨v, v1, v2⟩ := YT hr p2.1 p2.2
   obtain ⟨w, w1, w2⟩ := YT hF v2.1 v2.2
   exact ⟨[sI a, sT (.lst (F.map D.int)), sT (yC r), sT (.lst (B.map D.int))], w, rfl, WD.e (yd (zc rfl) (yd (zc rfl) (yd (zc rfl) (zc rfl) p1 rfl) v1 rfl) w1 rfl), w2⟩
  exact ⟨_, l, h2 _, l3, l1, l2⟩
 rw [zI, zI] at t1
 exact ⟨T', ⟨by rw [t1, hT.1], t2⟩, t3⟩
structure Alg (n m : Nat) (J : TZ) (e : Int) (Ds : DZ) : Prop where
 n1 : 1 <= n
 n8 : n <= 8
 m1 : 1 <= m
 m6 : m <= 6
 j : Tab n n J
 e0 : 0 <= e
 en : e < n
 dl : Ds.length <= 6
 ds : ∀ p ∈ Ds, Tab m n p.2
 nd : (Ds.map (·.1)).Nodup
abbrev wI (n m : Nat) (J : TZ) (e : Int) (Ds : DZ) (S : SS) : D := .tup [.int n, .int m, zN J, .int e, .lst (Ds.map yz), .lst (S.map yj)]
theorem zlW {A0 A1 A2 A3 A4 A6 A7 A10 A11 A15 : Option O} {F B : List Int} {Ds : List TZ} {ns : List Str} {m n : Nat} (hn : n <= 8) (hm : m <= 8) (hF : Row n F) (hB : Row n B) (hD : ∀ T ∈ Ds, Tab m n T) (hl : Ds.length <= ns.length) (hl8 : Ds.length <= 8) :
 ∃ os l e13 e14, Ows yz (λ p => Tab m n p.2) os l /\ l.map (·.1) = ns.take Ds.length /\ l.length = Ds.length /\ forL (gT 2 (gsC (gN 13) (gsC (gN 14) gsN))) (wM (vL 12 (dC (yw (dC (fV 13) (dC znf dN))) dN) vJ)) (VF true (ns.map D.str) (Ds.map zN))
  [A0, A1, A2, A3, A4, sI n, A6, A7, sT (.lst (F.map D.int)), sT (.lst (B.map D.int)), A10, A11, sN [], none, none, A15]
  = some (.nx [A0, A1, A2, A3, A4, sI n, A6, A7, sT (.lst (F.map D.int)), sT (.lst (B.map D.int)), A10, A11, sN os, e13, e14, A15]) := by
 obtain ⟨as', hf, os, l, e13, e14, rfl, ho, hlm, hlen⟩ := wZ (g := gT 2 (gsC (gN 13) (gsC (gN 14) gsN))) (f := wM (vL 12 (dC (yw (dC (fV 13) (dC znf dN))) dN) vJ))
  (λ i as => ∃ (os : List O) (l : DZ) (e13 e14 : Option O), as = [A0, A1, A2, A3, A4, sI n, A6, A7, sT (.lst (F.map D.int)), sT (.lst (B.map D.int)), A10, A11, sN os, e13, e14, A15] /\ Ows yz (λ p => Tab m n p.2) os l /\ l.map (·.1) = ns.take i /\ l.length = i)
  (VF true (ns.map D.str) (Ds.map zN)) 0 [A0, A1, A2, A3, A4, sI n, A6, A7, sT (.lst (F.map D.int)), sT (.lst (B.map D.int)), A10, A11, sN [], none, none, A15] (λ i x as hx' hI => by
   obtain ⟨os, l, e13, e14, rfl, ho, hlm, hlen⟩ := hI
   obtain ⟨d, e, z1, z2, rfl⟩ := VH hx'
   have hil : i < Ds.length := by have := (zzE.mp z2).1; rw [zI] at this; exact this
   obtain ⟨T, mT, rfl⟩ := zca z2
   rw [zzG] at z1
   obtain ⟨s, s1, rfl⟩ := zzV.mp z1
   obtain ⟨T', t1, o, t2, t3, t4⟩ := zsa (as := [A0, A1, A2, A3, A4, sI n, A6, A7, sT (.lst (F.map D.int)), sT (.lst (B.map D.int)), A10, A11, sN os, sT (.str s), sT (zN T), A15]) hn hm hF hB (hD T mT) rfl (λ _ => rfl)
   obtain ⟨os', o1, o2⟩ := ziI (as := [A0, A1, A2, A3, A4, sI n, A6, A7, sT (.lst (F.map D.int)), sT (.lst (B.map D.int)), A10, A11, sN os, sT (.str s), sT (zN T), A15]) (x := (s, T')) (i := 12) (toD := yz) (Q := λ p => Tab m n p.2) rfl ho (by omega) (zoZ (zO (zc (i := 13) rfl) (zbu t2 xg)) (szl rfl) (by show (true && (o.str && true)) = true; rw [t3]; rfl) (by show D.tup [.str s, o.toD] = _; rw [t4])) t1
   refine ⟨[A0, A1, A2, A3, A4, sI n, A6, A7, sT (.lst (F.map D.int)), sT (.lst (B.map D.int)), A10, A11, sN os, sT (.str s), sT (zN T), A15], rfl, _, o2, os', l ++ [(s, T')], _, _, rfl, o1, ?_, by rw [zzH, hlen]; show 0 + i + 1 = _; omega⟩
   rw [List.map_append, hlm, show 0 + i + 1 = i + 1 by omega, Nat.zero_add, List.take_succ, s1]; rfl)
  ⟨[], [], none, none, rfl, Ows.nil, rfl, rfl⟩
 rw [W0, zI, zI, Nat.min_eq_right hl, Nat.zero_add] at hlm hlen
 exact ⟨os, l, e13, e14, ho, hlm, hlen, hf⟩
theorem zoT (x : Int) : ∃ n : Nat, n <= 6 /\ ixP (.lst (([1, 2, 0, 4, 3, 2, 6, 5] : List Int).map D.int)) (.int (x % 8)) = some (.im (.int n)) := by
 obtain ⟨v, h1, h2⟩ := Vg (r := [1, 2, 0, 4, 3, 2, 6, 5]) (P := λ x => 0 <= x /\ x <= 6) (k := x % 8) (by omega) (by show x % 8 < 8; omega) (by decide)
 exact ⟨v.toNat, by omega, by rw [show ((v.toNat : Nat) : Int) = v by omega]; exact h1⟩
theorem zqX (x : Int) : ∃ n : Nat, n <= 4 /\ ixP (.lst (([1, 2, 1, 4, 0, 2, 3, 1] : List Int).map D.int)) (.int (x % 8)) = some (.im (.int n)) := by
 obtain ⟨v, h1, h2⟩ := Vg (r := [1, 2, 1, 4, 0, 2, 3, 1]) (P := λ x => 0 <= x /\ x <= 4) (k := x % 8) (by omega) (by show x % 8 < 8; omega) (by decide)
 exact ⟨v.toNat, by omega, by rw [show ((v.toNat : Nat) : Int) = v by omega]; exact h1⟩
theorem Zd {f : EF} {as : AS} {k : Int} (h : WD f as true (.int k)) : oS f as = some (some k, as) := by
 unfold oS
 unfold WD at h
 rw [h]; rfl
theorem zot {α : Type} (f : α -> D) (l : List α) (lo hi : Option Int) : ∃ l' : List α, l'.length <= l.length /\ PF.cutD (l.map f) lo hi = l'.map f := by
 unfold PF.cutD
 rw [zI, <- List.map_drop, <- List.map_take]
 exact ⟨_, by rw [zzQ, List.length_drop]; omega, rfl⟩
theorem zpO {as : AS} {a b c d e f g h : Int} : WE (zZ (dC (fC (.int a)) (dC (fC (.int b)) (dC (fC (.int c)) (dC (fC (.int d)) (dC (fC (.int e)) (dC (fC (.int f)) (dC (fC (.int g)) (dC (fC (.int h)) dN))))))))) as (.lst (([a, b, c, d, e, f, g, h] : List Int).map D.int)) :=
 Ye (os := ([a, b, c, d, e, f, g, h] : List Int).map lfI) (zO zg (zO zg (zO zg (zO zg (zO zg (zO zg (zO zg (zO zg xg)))))))) (szl rfl) rfl rfl
structure Nms (n : Nat) (Ds : DZ) (S : SS) : Prop where
 d : ∀ p ∈ Ds, WK p.1
 l : S.length <= 4
 s : ∀ p ∈ S, WK p.1 /\ Sgn n p
 nd : (Ds.map (·.1) ++ S.map (·.1)).Nodup
theorem zkf {c c' : Int} : ∃ n m J e Ds S, (Alg n m J e Ds /\ Nms n Ds S) /\ RE (Zy [(true, .int c), (true, .int c')]) (wI n m J e Ds S) := by
 obtain ⟨ys, hl, hy, ws⟩ := stE (as := [sI c, sI c', none, none, none, none, none, none, none, none, none, none, none, none, none, none]) (a := fV 1) (b := fC (.int 6)) (c := c') (m := 6) (by omega) (WD.e (zc rfl)) (WD.e zg)
 obtain ⟨y0, a0, _⟩ := at2 hy (k := 0) (by omega) (by omega)
 obtain ⟨y1, a1, _⟩ := at2 hy (k := 1) (by omega) (by omega)
 obtain ⟨y2, a2, _⟩ := at2 hy (k := 2) (by omega) (by omega)
 obtain ⟨y3, a3, _⟩ := at2 hy (k := 3) (by omega) (by omega)
 obtain ⟨y4, a4, _⟩ := at2 hy (k := 4) (by omega) (by omega)
 obtain ⟨y5, a5, _⟩ := at2 hy (k := 5) (by omega) (by omega)
 obtain ⟨w, w6, ew⟩ := zoT y1
 obtain ⟨k, k4, ek⟩ := zqX y5
 have b3 : (2 : Int).natAbs < big := yK (by decide) (by decide)
 obtain ⟨m1, m11, m16, hC⟩ : ∃ m1 : Int, 1 <= m1 /\ m1 <= 6 /\ sIf (fT (f2 (f2 (f2 (f2 yr yN ixP) X8 zL) wG zG) yN (yZ .Eq))) (yq true 3 (f2 yo (f2 (f2 (f2 yr yN ixP) (fC (.int 12)) zL) vC zG) zx)) sNx
  [sI c, sI c', sT (.lst (ys.map D.int)), sI (1 + y0 % 6), none, none, none, none, none, none, none, none, none, none, none, none] = some (.nx [sI c, sI c', sT (.lst (ys.map D.int)), sI m1, none, none, none, none, none, none, none, none, none, none, none, none]) := by
  by_cases h : y0 / 6 % 2 = 0
  · exact ⟨1 + y0 / 12 % 3, by omega, by omega, zam (yx (wk (yE (Ws (yd (zc rfl) zg a0 rfl) zg (by decide) (yK (by decide) (by decide))) zg (by decide)) zg rfl) (by show some (y0 / 6 % 2 == 0) = _; simp [h])) (wD (i := 3) (xO zg (yE (Ws (yd (zc rfl) zg a0 rfl) zg (by decide) (yK (by decide) (by decide))) zg (by decide))) (zQ rfl))⟩
  · exact ⟨1 + y0 % 6, by omega, by omega, yI (yx (wk (yE (Ws (yd (zc rfl) zg a0 rfl) zg (by decide) (yK (by decide) (by decide))) zg (by decide)) zg rfl) (by show some (y0 / 6 % 2 == 0) = _; simp [h])) rfl⟩
 obtain ⟨m, mm1, mm6, hE⟩ : ∃ m : Nat, 1 <= m /\ m <= 6 /\ sIf (fT (f2 xu vC (yZ .Gt))) (yq true 3 (f2 yo (f2 yP wG zG) zx)) sNx
  [sI c, sI c', sT (.lst (ys.map D.int)), sI m1, sI w, none, none, none, none, none, none, none, none, none, none, none] = some (.nx [sI c, sI c', sT (.lst (ys.map D.int)), sI m, sI w, none, none, none, none, none, none, none, none, none, none, none]) := by
  by_cases h : (3 : Int) < w
  · refine ⟨(1 + m1 % 2).toNat, by omega, by omega, ?_⟩
    rw [show (((1 + m1 % 2).toNat : Nat) : Int) = 1 + m1 % 2 by omega]
    exact zam (yx (zaY (zc rfl) zg) (congrArg some (decide_eq_true h))) (wD (i := 3) (xO zg (yE (zc rfl) zg (by decide))) (zQ rfl))
  · refine ⟨m1.toNat, by omega, by omega, ?_⟩
    rw [show ((m1.toNat : Nat) : Int) = m1 by omega]
    exact yI (yx (zaY (zc rfl) zg) (congrArg some (decide_eq_false h))) rfl
 obtain ⟨n, J, Ds, n1, n8, hJ, dl, hD, hmade⟩ := zol (c := c) (m := m) (w := w) (by omega) (by omega)
 obtain ⟨F, hF, hord⟩ := zlS (c := y2) n1 n8
 obtain ⟨rF, _⟩ := zir hF
 obtain ⟨B, rB, hback⟩ := zrI (as := [sI c, sI c', sT (.lst (ys.map D.int)), sI m, sI w, sI n, sT (zN J), sT (.lst (Ds.map zN)), sT (.lst (F.map D.int)), none, none, none, none, none, none, none]) (cap := [none, some 8]) (fr := aC Zh aN) hF n8 (zP (zc rfl) zU) (λ b => rfl)
 obtain ⟨J', hJ', hjoin⟩ := zsE (as := [sI c, sI c', sT (.lst (ys.map D.int)), sI m, sI w, sI n, sT (zN J), sT (.lst (Ds.map zN)), sT (.lst (F.map D.int)), sT (.lst (B.map D.int)), none, none, none, none, none, none]) (cap := [none, some 8, some 5, some 6, some 9]) (fr := aC Zh aN) n8 rF rB hJ (zP (zc rfl) zU) (λ a => rfl)
 obtain ⟨ns, nl, nnd, nIs, hnames⟩ := zmZ (c := y3)
 obtain ⟨os, l, e13, e14, ho, hlm, hlen, hf⟩ := zlW (A0 := sI c) (A1 := sI c') (A2 := sT (.lst (ys.map D.int))) (A3 := sI m) (A4 := sI w) (A6 := sT (zN J)) (A7 := sT (.lst (Ds.map zN))) (A10 := sT (zN J')) (A11 := sT (.lst (ns.map D.str))) (A15 := none) (ns := ns.take 6) n8 (by omega) rF rB hD (by rw [zzQ, nl]; omega) (by omega)
 obtain ⟨f0, ef, ff⟩ := YT rF (k := 0) (by omega) (by omega)
 obtain ⟨ks, ksub, k4', ck⟩ : ∃ ks : List Str, ks.Sublist (ns.drop 6) /\ ks.length <= 4 /\ PF.cutD (ns.map D.str) (some 6) (some (6 + (k : Int))) = ks.map D.str := by
  refine ⟨(ns.drop 6).take k, List.take_sublist _ _, by rw [zzQ]; omega, ?_⟩
  unfold PF.cutD
  rw [show (6 + (k : Int)) = ((6 + k : Nat) : Int) by omega, show (some (6 : Int)) = some ((6 : Nat) : Int) from rfl, HT.zcm, HT.zcm, zI, nl, Nat.min_eq_left (show 6 <= 10 by decide), Nat.min_eq_left (show 6 + k <= 10 by omega), <- List.map_drop, <- List.map_take, Nat.add_sub_cancel_left]
 obtain ⟨S, hSn, hSs, hS⟩ := zmi (c := y4) (n := n) (ns := ks) n8 (by omega)
 refine ⟨n, m, J', f0, l, S, ⟨⟨n1, n8, mm1, mm6, hJ', ff.1, ff.2, by omega, ho.al, ?_⟩, ⟨λ p mp => ?_, ?_, λ p mp => ⟨?_, hSs p mp⟩, ?_⟩⟩, ?_⟩
 · rw [hlm]
   exact (nnd.sublist (List.take_sublist _ _)).sublist (List.take_sublist _ _)
 · refine nIs p.1 (List.mem_of_mem_take (i := 6) (List.mem_of_mem_take (i := Ds.length) ?_))
   rw [<- hlm]; exact List.mem_map_of_mem mp
 · rw [<- zI (f := λ p : Str × List Int => p.1), hSn]; exact k4'
 · exact nIs p.1 (List.mem_of_mem_drop (ksub.subset (by rw [<- hSn]; exact List.mem_map_of_mem mp)))
 · rw [hSn, hlm]
   rw [<- List.take_append_drop 6 ns] at nnd
   exact nnd.sublist ((List.take_sublist _ _).append ksub)
 have z6 : WE (fSl vQ oN (oS X8) slP) [sI c, sI c', sT (.lst (ys.map D.int)), sI m, sI w, sI n, sT (zN J), sT (.lst (Ds.map zN)), sT (.lst (F.map D.int)), sT (.lst (B.map D.int)), sT (zN J'), sT (.lst (ns.map D.str)), sN [], none, none, none] (.lst ((ns.take 6).map D.str)) := by
  refine Vf (lo := none) (hi := some 6) (WD.e (zc rfl)) rfl (Zd zg) ?_
  have := zjH (xs := (ns.take 6).map D.str) (ys := (ns.drop 6).map D.str)
  rw [<- List.map_append, List.take_append_drop, zI, zzQ, nl] at this
  exact this
 have zS : WE (zX (aC (f2 yr ZD ixP) (aC Zh (aC (fSl vQ (oS X8) (oS (f2 X8 (f2 (zZ (dC yo (dC wG (dC yo (dC ZD (dC yN (dC wG (dC vC (dC yo dN))))))))) (f2 (f2 yr zdY ixP) vM zG) ixP) zx)) slP) aN))) Z1) [sI c, sI c', sT (.lst (ys.map D.int)), sI m, sI w, sI n, sT (zN J), sT (.lst (Ds.map zN)), sT (.lst (F.map D.int)), sT (.lst (B.map D.int)), sT (zN J'), sT (.lst (ns.map D.str)), sN os, e13, e14, none] (.lst (S.map yj)) :=
  Wr (WD.e (yd (zc rfl) zg a4 rfl)) (WD.e (zc rfl)) (Vf (lo := some 6) (hi := some (6 + (k : Int))) (WD.e (zc rfl)) (Zd zg) (Zd (xO zg (f2E zpO (WD.e (yE (yd (zc rfl) zg a5 rfl) zg (by decide))) ek))) (by show some (R0.fl (PF.cutD (ns.map D.str) (some 6) (some (6 + (k : Int))))) = _; rw [ck])) hS
 refine wH rfl (zF (vY (p := 2) ws (zQ rfl)) (zF (wD (i := 3) (xO zg (yE (yd (zc rfl) zg a0 rfl) zg (by decide))) (zQ rfl)) (zF hC (zF (wD (i := 4) (f2E zpO (WD.e (yE (yd (zc rfl) zg a1 rfl) zg (by decide))) ew) (zQ rfl)) (zF hE
  (zF (as1 := [sI c, sI c', sT (.lst (ys.map D.int)), sI m, sI w, sI n, sT (zN J), sT (.lst (Ds.map zN)), none, none, none, none, none, none, none, none]) (zkd (Wr (WD.e (zc rfl)) (WD.e (zc rfl)) (WD.e (zc rfl)) hmade) rfl)
  (zF (vY (p := 8) (Xz (WD.e (yd (zc rfl) zg a2 rfl)) (WD.e (zc rfl)) hord) (zQ rfl)) (zF (vY (p := 9) hback (zQ rfl)) (zF (vY (p := 10) hjoin (zQ rfl)) (zF (vY (p := 11) (Xz (WD.e (yd (zc rfl) zg a3 rfl)) (WD.e zg) hnames) (zQ rfl)) (zF (v8 (i := 12) (Z7 xg (szl rfl)) (zQ rfl)) (zF (ZP (zsr z6 (WD.e (zc rfl))) hf) (zF (vY (p := 15) zS (zQ rfl)) ?_)))))))))))))
 have e := vG (as := [sI c, sI c', sT (.lst (ys.map D.int)), sI m, sI w, sI n, sT (zN J), sT (.lst (Ds.map zN)), sT (.lst (F.map D.int)), sT (.lst (B.map D.int)), sT (zN J'), sT (.lst (ns.map D.str)), sN os, e13, e14, sT (.lst (S.map yj))]) (a := fV 5) (zc rfl) (vG (a := fV 3) (zc rfl) (vG (a := fV 10) (zc rfl) (vG (a := f2 (fV 8) yN ixP) (yd (zc rfl) zg ef rfl) (zhv (j := 12) (fr := dC (fV 15) dN) rfl (vG (a := fV 15) (zc rfl) rfl)))))
 rw [ho.frz] at e
 exact ⟨_, zch (zhI e (szl rfl)) rfl, rfl, rfl⟩
def Pl : Nat -> D -> Prop
 | 0, d => zdZ d = true /\ ∀ s, d = .str s -> s.length <= 1000
 | k + 1, d => (zdZ d = true /\ ∀ s, d = .str s -> s.length <= 1000) /\ ∀ vs, d = .lst vs \/ d = .tup vs -> vs.length <= 1000 /\ ∀ v ∈ vs, Pl k v
abbrev PlA (d : D) : Prop := ∀ k, Pl k d
theorem PlA.no {d : D} (h : PlA d) : zdZ d = true := (h 0).1
theorem PlA.st {s : Str} (h : PlA (.str s)) : s.length <= 1000 := (h 0).2 s rfl
theorem PlA.ls {vs : List D} (h : PlA (.lst vs)) : vs.length <= 1000 /\ ∀ v ∈ vs, PlA v := ⟨((h 1).2 vs (.inl rfl)).1, λ v mv k => ((h (k + 1)).2 vs (.inl rfl)).2 v mv⟩
theorem PlA.tp {vs : List D} (h : PlA (.tup vs)) : vs.length <= 1000 /\ ∀ v ∈ vs, PlA v := ⟨((h 1).2 vs (.inr rfl)).1, λ v mv k => ((h (k + 1)).2 vs (.inr rfl)).2 v mv⟩
theorem YW {vs : List D} (hl : vs.length <= 1000) (h : ∀ v ∈ vs, PlA v) : PlA (.lst vs)
 | 0 => ⟨rfl, λ _ e => nomatch e⟩
 | k + 1 => ⟨⟨rfl, λ _ e => nomatch e⟩, λ ws e => by rcases e with e | e <;> cases e; exact ⟨hl, λ v mv => h v mv k⟩⟩
theorem YX {vs : List D} (hl : vs.length <= 1000) (h : ∀ v ∈ vs, PlA v) : PlA (.tup vs)
 | 0 => ⟨rfl, λ _ e => nomatch e⟩
 | k + 1 => ⟨⟨rfl, λ _ e => nomatch e⟩, λ ws e => by rcases e with e | e <;> cases e; exact ⟨hl, λ v mv => h v mv k⟩⟩
theorem ziP {d : D} (h : zdZ d = true /\ ∀ s, d = .str s -> s.length <= 1000) (h1 : ∀ vs, d ≠ .lst vs) (h2 : ∀ vs, d ≠ .tup vs) : PlA d
 | 0 => h
 | k + 1 => ⟨h, λ vs e => e.elim (λ e => absurd e (h1 vs)) λ e => absurd e (h2 vs)⟩
theorem ye {i : Int} : PlA (.int i) := ziP ⟨rfl, λ _ e => nomatch e⟩ (λ _ e => nomatch e) (λ _ e => nomatch e)
theorem vV {s : Str} (h : s.length <= 1000) : PlA (.str s) := ziP ⟨rfl, λ _ e => by cases e; exact h⟩ (λ _ e => nomatch e) (λ _ e => nomatch e)
theorem Y7 : PlA .non := ziP ⟨rfl, λ _ e => nomatch e⟩ (λ _ e => nomatch e) (λ _ e => nomatch e)
theorem zib {b : Bool} : PlA (.bl b) := ziP ⟨rfl, λ _ e => nomatch e⟩ (λ _ e => nomatch e) (λ _ e => nomatch e)
theorem zeu {l : List (Key × D)} : PlA (.dct l) := ziP ⟨rfl, λ _ e => nomatch e⟩ (λ _ e => nomatch e) (λ _ e => nomatch e)
def whB : D -> Bool
 | .int _ => true
 | _ => false
def wiB (lo hi : Int) : D -> Bool
 | .int i => decide (lo <= i) && decide (i <= hi)
 | _ => false
def Xh (n : Int) : D -> Bool
 | .lst vs => vs.all (wiB 0 (n - 1))
 | _ => false
def zhD (n : Int) : D -> Bool
 | .lst vs => ((vs.length : Int) == n)
 | _ => false
def zbH (k n : Int) : D -> Bool
 | .lst rs => ((rs.length : Int) == k) && rs.all λ r => Xh n r && zhD n r
 | _ => false
def lB (c : Nat) : Bool := !(Builtin.Str.occurrences abc ⟨#[c]⟩ 0 abc.length 1).isEmpty
def nmB : D -> Bool
 | .str s => !(decide ((s.length : Int) < 1) || decide (8 < (s.length : Int))) && s.cps.toList.all lB
 | _ => false
def zbU : D -> Bool
 | .tup ds => ((ds.length : Int) == 2) && nmB (ds.getD 0 .non)
 | _ => false
def nameS : D -> Str
 | .tup (.str s :: _) => s
 | _ => ""
def anB (k : Int) : D -> Bool
 | .lst ps => !decide (k < (ps.length : Int)) && (ps.all zbU && ((Z2 (ps.map nameS) : Int) == (ps.length : Int)))
 | _ => false
def zaP : D -> D
 | .tup (_ :: d :: _) => d
 | _ => .non
def itD : D -> List D
 | .lst ps => ps
 | _ => []
def zhh : D -> Bool
 | .lst vs => (List.range (vs.length - 1)).all λ k => match vs[k]?, vs[k + 1]? with | some (.int a), some (.int b) => decide (a < b) | _, _ => false
 | _ => false
def al6 (n m : Int) (j e ds ss : D) : Bool := zbH n n j && wiB 0 (n - 1) e && (anB 6 ds && anB 4 ss) && (itD ds).all (λ p => zbH m n (zaP p)) && (itD ss).all λ p => Xh n (zaP p) && zhh (zaP p)
def zbS : D -> Bool
 | .tup [a, b, j, e, ds, ss] => match a, b with
  | .int n, .int m => wiB 1 8 (.int n) && wiB 1 6 (.int m) && al6 n m j e ds ss
  | _, _ => false
 | _ => false
theorem zoB {a b c : EF} {as : AS} {s t u : Bool} {i j k : Int} (ha : WD a as s (.int i)) (hb : WD b as t (.int j)) (hc : WD c as u (.int k)) : WD (zey a b c (yZ .LtE) (yZ .LtE)) as true (.bl (decide (i <= j) && decide (j <= k))) := by
 unfold WD at *
 by_cases h : i <= j
 · unfold zey
   rw [ha]; simp only [Option.bind_some]
   rw [hb]; simp only [Option.bind_some]
   simp only [RV.frz, O.frz, RV.view, O.toD, O.str, Option.bind_some, yZ, zjV, onI, asI, blR, h, decide_true, hc, Bool.true_and]
   rfl
 · unfold zey
   rw [ha]; simp only [Option.bind_some]
   rw [hb]; simp only [Option.bind_some]
   simp only [RV.frz, O.frz, RV.view, O.toD, O.str, Option.bind_some, yZ, zjV, onI, asI, blR, h, decide_false, Bool.false_and]
abbrev sBl (b : Bool) : Option O := sT (.bl b)
theorem Y4 {f : EF} {as : AS} {s : Bool} {d : D} {cl : String} (h : WD f as s d) (hp : zdZ d = true) : WD (VD f cl) as true (.bl (zaW (tyD d) cl)) := znI h rfl hp
theorem zja {d : D} (h : PlA d) : XQ [(true, d)] = sBl (whB d) := by
 refine ZX rfl (ZM (V2 (k := zaW (tyD d) "int") (Y4 (zc (i := 0) rfl) h.no) (λ hk => ?_) λ hk => ?_))
 · have := zqH (Y4 (cl := "bool") (zc (i := 0) (as := [sT d]) rfl) h.no)
   cases d <;> first | exact this | cases hk
 · cases d <;> first | rfl | cases hk | cases h.no
theorem zaB {d : D} {lo hi : Int} (h : PlA d) : wJ [(true, d), (true, .int lo), (true, .int hi)] = sBl (wiB lo hi d) := by
 refine ZX rfl (ZM (V2 (k := whB d) (zen (WD.e (zc (i := 0) rfl)) (zja h)) (λ hk => ?_) λ hk => ?_))
 · cases d <;> first | exact zoB (zc (i := 1) rfl) (zc (i := 0) rfl) (zc (i := 2) rfl) | cases hk
 · cases d <;> first | rfl | cases hk
theorem zgF {α : Type} (f : α -> Bool) : ∀ l : List α, zbQ (l.map λ x => D.bl (f x)) = some (l.map f)
 | [] => rfl
 | x :: r => by show (zbQ (r.map _)).bind _ = _; rw [zgF f r]; rfl
theorem zoI {α : Type} (f : α -> Bool) (l : List α) : zcT [.lst (l.map λ x => D.bl (f x))] = some (.im (.bl (l.all f))) := by
 show (zbQ (l.map _)).bind _ = _
 rw [zgF f l]
 show some (R0.im (.bl ((l.map f).all id))) = _
 rw [List.all_map]; rfl
theorem Xq {α : Type} {as : AS} {fi : IF} {cap : List (Option Nat)} {gg : GF} {fe : EF} (h : α -> D) (f : α -> Bool) (l : List α) (hi : fi as = some (l.map λ x => (true, h x), as)) (hl : l.length <= 1000) (H : ∀ v ∈ l, ∃ as1, gg (true, h v) (X7 cap as) = some as1 /\ WD fe as1 true (.bl (f v))) : WD (fP (aC (yh fi cap gg yV fe) aN) zcT) as true (.bl (l.all f)) :=
 zjl (zcI (h := λ v => D.bl (f v)) (it := λ x => (true, h x)) l hi (by omega) λ q mq => by obtain ⟨as1, h1, h2⟩ := H q mq; exact ⟨as1, h1, WD.e h2⟩) (zoI f l)
theorem zaO {f : EF} {as : AS} {vs : List D} (h : WD f as true (.lst vs)) : Yr f as = some (vs.map λ x => (true, x), as) := zgD (WD.e h)
theorem zmv {d : D} {n : Int} (h : PlA d) : XX [(true, d), (true, .int n)] = sBl (Xh n d) := by
 refine ZX rfl (ZM (V2 (k := zaW (tyD d) "list") (Y4 (zc (i := 0) rfl) h.no) (λ hk => ?_) λ hk => ?_))
 · cases d with
   | lst vs => exact Xq (λ v => v) (wiB 0 (n - 1)) vs (zaO (zc (i := 0) rfl)) h.ls.1 λ v mv => ⟨[sT v, sI n], rfl, zcW (WD.e (zc (i := 0) rfl)) (WD.e zg) (WD.e (Wm (zc (i := 1) rfl) zg)) (zaB (h.ls.2 v mv))⟩
   | _ => cases hk
 · cases d <;> first | rfl | cases hk
theorem guard {t : TF} {rest : SF} {as : AS} {b : Bool} (h : WT t as b) : zR (sIf t (yX (fC (.bl false))) sNx) rest as = if b = true then some (.rt (.lf true (.bl false))) else rest as := by
 cases b with
 | true => exact zhN (zam h (ZM zg))
 | false => exact xT (yI h rfl) rfl
theorem zka {f g : EF} {as : AS} {b c : Bool} (h : WD f as true (.bl b)) (h2 : b = true -> WD g as true (.bl c)) : WT (Xi (wQ (fT f)) (wQ (fT g))) as (!(b && c)) :=
 WX (k := !b) (Yh (yx h rfl)) (λ hb => by
  cases b with
  | true => rw [Bool.true_and]; exact Yh (yx (h2 rfl) rfl)
  | false => cases hb) λ hb => by rw [show b = false by simpa using hb]; rfl
theorem zkk {n : Int} {k : Nat} : yZ .NotEq (.int (k : Int)) (.int n) = some (.im (.bl (!((k : Int) == n)))) := rfl
theorem zih {d : D} {k n : Int} (h : PlA d) : Ze [(true, d), (true, .int k), (true, .int n)] = sBl (zbH k n d) := by
 cases d with
 | lst rs =>
  have t : WT (Xi (wQ (fT (VD zM "list"))) (fT (f2 (fP vI vq) zV (yZ .NotEq)))) [sT (.lst rs), sI k, sI n] (!((rs.length : Int) == k)) := WX (k := false) (Yh (k := true) (yx (Y4 (zc (i := 0) rfl) rfl) rfl)) (λ _ => yx (yd (wj (zP (zc (i := 0) rfl) zU) rfl rfl) (zc (i := 1) rfl) zkk rfl) rfl) λ z => nomatch z
  refine ZX rfl ((guard t).trans ?_)
  show _ = some (Out.rt (.lf true (.bl (((rs.length : Int) == k) && rs.all λ r => Xh n r && zhD n r))))
  cases hq : ((rs.length : Int) == k) with
  | false => rfl
  | true =>
   refine ZM (Xq (λ v => v) (λ r => Xh n r && zhD n r) rs (zaO (zc (i := 0) rfl)) h.ls.1 λ v mv => ⟨[sT v, sI n], rfl, V2 (k := Xh n v) (zcR (WD.e (zc (i := 0) rfl)) (WD.e (zc (i := 1) rfl)) (zmv (h.ls.2 v mv))) (λ hk => ?_) λ hk => by rw [hk]; rfl⟩)
   rw [hk, Bool.true_and]
   cases v with
   | lst vs => exact wk (wj (zP (zc (i := 0) rfl) zU) rfl rfl) (zc (i := 1) rfl) rfl
   | _ => cases hk
 | _ => exact ZX rfl ((guard (b := true) (WX (k := true) (Yh (k := false) (yx (Y4 (zc (i := 0) rfl) h.no) rfl)) (λ z => nomatch z) λ _ => rfl)).trans rfl)
theorem zpt {d : D} (h : PlA d) : WP [(true, d)] = sBl (nmB d) := by
 cases d with
 | str s =>
  have hl := h.st
  have len : WD (fP vI vq) [sT (.str s)] true (.int (s.length : Int)) := wj (zP (zc (i := 0) rfl) zU) (if_pos (szs (by omega))) rfl
  have t : WT (Xi (wQ (fT (VD zM "str"))) (Xi (fT (f2 (fP vI vq) yo (yZ .Lt))) (fT (f2 (fP vI vq) vM (yZ .Gt))))) [sT (.str s)] (decide ((s.length : Int) < 1) || decide (8 < (s.length : Int))) :=
   WX (k := false) (Yh (k := true) (yx (Y4 (zc (i := 0) rfl) rfl) rfl)) (λ _ => WX (k := decide ((s.length : Int) < 1)) (yx (zdm len zg) rfl) (λ z => by rw [z, Bool.false_or]; exact yx (zaY len zg) rfl) λ z => by rw [z]; rfl) λ z => nomatch z
  refine ZX rfl ((guard t).trans ?_)
  show _ = some (Out.rt (.lf true (.bl (!(decide ((s.length : Int) < 1) || decide (8 < (s.length : Int))) && s.cps.toList.all lB))))
  cases hq : (decide ((s.length : Int) < 1) || decide (8 < (s.length : Int))) with
  | true => rfl
  | false =>
   exact ZM (Xq (λ c : Nat => D.str ⟨#[c]⟩) lB s.cps.toList (zpI (zc (i := 0) rfl)) (by rw [Array.length_toList]; exact hl) λ c _ => ⟨[sT (.str ⟨#[c]⟩)], rfl, yd (zc (i := 0) rfl) zg rfl rfl⟩)
 | _ => exact ZX rfl ((guard (b := true) (WX (k := true) (Yh (k := false) (yx (Y4 (zc (i := 0) rfl) h.no) rfl)) (λ z => nomatch z) λ _ => rfl)).trans rfl)
theorem znP {d : D} (h : PlA d) : ZQ [(true, d)] = sBl (zbU d) := by
 refine ZX rfl (ZM (V2 (k := zaW (tyD d) "tuple") (Y4 (zc (i := 0) rfl) h.no) (λ hk => ?_) λ hk => ?_))
 · cases d with
   | tup ds =>
    refine V2 (k := ((ds.length : Int) == 2)) (wk (wj (zP (zc (i := 0) rfl) zU) rfl rfl) zg rfl) (λ hl => ?_) λ hl => ?_
    · show WD _ _ _ (.bl (((ds.length : Int) == 2) && nmB (ds.getD 0 .non)))
      rw [hl, Bool.true_and]
      match ds, h, hl with
      | a :: r, h, hl => exact zen (WD.e (w5 (zc (i := 0) rfl) zg ix0)) (zpt (h.tp.2 a zzD))
    · show (((ds.length : Int) == 2) && _) = false
      rw [hl]; rfl
   | _ => cases hk
 · cases d <;> first | rfl | cases hk
theorem zcP {d : D} (h : zbU d = true) : ∃ s b, d = .tup [.str s, b] := by
 cases d with
 | tup ds =>
  have h' : (((ds.length : Int) == 2) && nmB (ds.getD 0 .non)) = true := h
  rw [Bool.and_eq_true, beq_iff_eq] at h'
  match ds, h' with
  | [a, b], h' =>
   cases a with
   | str s => exact ⟨s, b, rfl⟩
   | _ => exact absurd h'.2 (by intro z; cases z)
  | [], h' => exact absurd h'.1 (by decide)
  | [_], h' => exact absurd h'.1 (by simp only [zzR, List.length_nil]; omega)
  | _ :: _ :: _ :: r, h' => exact absurd h'.1 (by simp only [zzR]; omega)
 | _ => cases h
theorem zoo {ps : List D} (h : ∀ p ∈ ps, zbU p = true) : ps.map (λ p => D.str (nameS p)) = (ps.map nameS).map D.str := by rw [List.map_map]; rfl
theorem zkA {d : D} {k : Int} (h : PlA d) : Zg [(true, d), (true, .int k)] = sBl (anB k d) := by
 cases d with
 | lst ps =>
  have len : WD (fP vI vq) [sT (.lst ps), sI k] true (.int (ps.length : Int)) := wj (zP (zc (i := 0) rfl) zU) rfl rfl
  have al : WD (fP (aC (yh (Yr zM) [none] xq yV (zX vI ZQ)) aN) zcT) [sT (.lst ps), sI k] true (.bl (ps.all zbU)) := Xq (λ v => v) zbU ps (zaO (zc (i := 0) rfl)) h.ls.1 λ v mv => ⟨[sT v], rfl, zen (WD.e (zc (i := 0) rfl)) (znP (h.ls.2 v mv))⟩
  have t : WT (Xi (wQ (fT (VD zM "list"))) (Xi (fT (f2 (fP vI vq) zV (yZ .Gt))) (wQ (fT (fP (aC (yh (Yr zM) [none] xq yV (zX vI ZQ)) aN) zcT))))) [sT (.lst ps), sI k] (decide (k < (ps.length : Int)) || !ps.all zbU) :=
   WX (k := false) (Yh (k := true) (yx (Y4 (zc (i := 0) rfl) rfl) rfl)) (λ _ => WX (k := decide (k < (ps.length : Int))) (yx (zaY len (zc (i := 1) rfl)) rfl) (λ z => by rw [z, Bool.false_or]; exact Yh (yx al rfl)) λ z => by rw [z]; rfl) λ z => nomatch z
  refine ZX rfl ((guard t).trans ?_)
  show _ = some (Out.rt (.lf true (.bl (!decide (k < (ps.length : Int)) && (ps.all zbU && ((Z2 (ps.map nameS) : Int) == (ps.length : Int)))))))
  cases hq : decide (k < (ps.length : Int)) with
  | true => rfl
  | false =>
   cases ha : ps.all zbU with
   | false => rfl
   | true =>
    have hn := List.all_eq_true.mp ha
    have hl := h.ls.1
    have c : WE (yh (Yr zM) [none] xq yV (f2 zM yN ixP)) [sT (.lst ps), sI k] (.lst (ps.map λ p => D.str (nameS p))) := zcI (h := λ p => D.str (nameS p)) (it := λ p => (true, p)) ps (zaO (zc (i := 0) rfl)) (by omega) λ p mp => ⟨[sT p], rfl, by
     obtain ⟨s, b, rfl⟩ := zcP (hn p mp)
     exact WD.e (w5 (zc (i := 0) rfl) zg ix0)⟩
    have e : lsP [.lst (ps.map λ p => D.str (nameS p))] = some (.im (.int (Z2 (ps.map nameS)))) := by
     rw [zoo hn]
     show (zaT _).bind _ = _
     rw [zfm]
     exact if_pos (by rw [zI]; exact hl)
    exact ZM (wk (zjl c e) len rfl)
 | _ => exact ZX rfl ((guard (b := true) (WX (k := true) (Yh (k := false) (yx (Y4 (zc (i := 0) rfl) h.no) rfl)) (λ z => nomatch z) λ _ => rfl)).trans rfl)
theorem zmF {as : AS} {fr : AF} {j : Int} {u : Bool} (h : WA fr as [(u, .int j)]) (h0 : -1 <= j) (h1 : j < 1000000) : xR fr xW as = some (v6 0 j.toNat, as) := by
 unfold xR; unfold WA at h
 rw [h]
 simp only [Option.bind_some, WY]
 show ((if -(2 ^ 62) <= j /\ j < 2 ^ 62 then some (v6 0 j.toNat) else none).bind _) = _
 rw [if_pos ⟨by omega, by omega⟩]; rfl
theorem zlV {vs : List D} {n : Int} (hl : vs.length <= 1000) (hr : Xh n (.lst vs) = true) : YH [(true, .lst vs)] = sBl (zhh (.lst vs)) := by
 have hi : ∀ v ∈ vs, ∃ i, v = .int i := λ v mv => by
  have := List.all_eq_true.mp hr v mv
  cases v with
  | int i => exact ⟨i, rfl⟩
  | _ => cases this
 have len : WD (f2 (fP vI vq) yo v7) [sT (.lst vs)] true (.int ((vs.length : Int) - 1)) := Wm (wj (zP (zc (i := 0) rfl) zU) rfl rfl) zg
 have it : xR (aC (f2 (fP vI vq) yo v7) aN) xW [sT (.lst vs)] = some ((List.range (vs.length - 1)).map λ (i : Nat) => (true, D.int (i : Int)), [sT (.lst vs)]) := by
  rw [zmF (j := (vs.length : Int) - 1) (zP len zU) (by omega) (by omega), show ((vs.length : Int) - 1).toNat = vs.length - 1 by omega]
  unfold v6
  refine congrArg (λ z => some (z, _)) (List.map_congr_left λ i _ => ?_)
  rw [Int.zero_add]
 refine ZX rfl (ZM (Xq (λ i : Nat => D.int (i : Int)) (λ k => match vs[k]?, vs[k + 1]? with | some (.int a), some (.int b) => decide (a < b) | _, _ => false) (List.range (vs.length - 1)) it (by rw [List.length_range]; omega) λ i mi => ⟨[sI i, sT (.lst vs)], rfl, ?_⟩))
 have hi' := List.mem_range.mp mi
 have g1 := zzC (l := vs) (i := i) (by omega)
 have g2 := zzC (l := vs) (i := i + 1) (by omega)
 obtain ⟨a, ea⟩ := hi _ (List.getElem_mem (l := vs) (n := i) (by omega))
 obtain ⟨b, eb⟩ := hi _ (List.getElem_mem (l := vs) (n := i + 1) (by omega))
 rw [ea] at g1
 rw [eb] at g2
 simp only [g1, g2]
 have h1 : ixP (.lst vs) (.int (i : Int)) = some (.im (.int a)) := by show imR (atI vs (i : Int)) = _; rw [Xd g1]; rfl
 have h2 : ixP (.lst vs) (.int ((i : Int) + 1)) = some (.im (.int b)) := by show imR (atI vs ((i : Int) + 1)) = _; rw [show ((i : Int) + 1) = ((i + 1 : Nat) : Int) by omega, Xd g2]; rfl
 exact zdm (yd (zc (i := 1) rfl) (zc (i := 0) rfl) h1 rfl) (yd (zc (i := 1) rfl) (xO (zc (i := 0) rfl) zg) h2 rfl)
theorem zlX : ∀ ds : List D, ((ds.length : Int) == 6) = false -> zbS (.tup ds) = false
 | [], _ => rfl
 | [_], _ => rfl
 | [_, _], _ => rfl
 | [_, _, _], _ => rfl
 | [_, _, _, _], _ => rfl
 | [_, _, _, _, _], _ => rfl
 | [_, _, _, _, _, _], h => by simp at h
 | _ :: _ :: _ :: _ :: _ :: _ :: _ :: _, _ => rfl
theorem zsN : ∀ ds : List D, ((ds.length : Int) == 6) = true -> ∃ a b j e x y, ds = [a, b, j, e, x, y]
 | [], h => by simp at h
 | [_], h => by simp at h
 | [_, _], h => by simp at h
 | [_, _, _], h => by simp at h
 | [_, _, _, _], h => by simp at h
 | [_, _, _, _, _], h => by simp at h
 | [a, b, j, e, x, y], _ => ⟨a, b, j, e, x, y, rfl⟩
 | _ :: _ :: _ :: _ :: _ :: _ :: _ :: r, h => by simp at h; omega
theorem zmU {lo hi : Int} {d : D} (h : wiB lo hi d = true) : ∃ i, d = .int i := by
 cases d with
 | int i => exact ⟨i, rfl⟩
 | _ => cases h
theorem znq {k : Int} {d : D} (h : anB k d = true) : ∃ ps, d = .lst ps /\ ∀ p ∈ ps, zbU p = true := by
 cases d with
 | lst ps =>
  have h' : (!decide (k < (ps.length : Int)) && (ps.all zbU && ((Z2 (ps.map nameS) : Int) == (ps.length : Int)))) = true := h
  rw [Bool.and_eq_true, Bool.and_eq_true] at h'
  exact ⟨ps, rfl, List.all_eq_true.mp h'.2.1⟩
 | _ => cases h
theorem zpa {n : Int} {d : D} (h : Xh n d = true) : ∃ vs, d = .lst vs := by
 cases d with
 | lst vs => exact ⟨vs, rfl⟩
 | _ => cases h
theorem znl {d : D} (h : PlA d) : Yd [(true, d)] = sBl (zbS d) := by
 cases d with
 | tup ds =>
  have t : WT (Xi (wQ (fT (VD zM "tuple"))) (fT (f2 (fP vI vq) X8 (yZ .NotEq)))) [sT (.tup ds), none, none] (!((ds.length : Int) == 6)) := WX (k := false) (Yh (k := true) (yx (Y4 (zc (i := 0) rfl) rfl) rfl)) (λ _ => yx (yd (wj (zP (zc (i := 0) rfl) zU) rfl rfl) zg zkk rfl) rfl) λ z => nomatch z
  refine ZX rfl ((guard t).trans ?_)
  cases hq : ((ds.length : Int) == 6) with
  | false => rw [zlX ds hq]; rfl
  | true =>
   obtain ⟨a, b, j, e, x, y, rfl⟩ := zsN ds hq
   have pa := h.tp.2 a (by simp)
   have pb := h.tp.2 b (by simp)
   have pj := h.tp.2 j (by simp)
   have pe := h.tp.2 e (by simp)
   have px := h.tp.2 x (by simp)
   have py := h.tp.2 y (by simp)
   refine xT (wD (i := 1) (w5 (zc (i := 0) rfl) (zg (x := .int 0)) rfl) (zQ rfl)) (xT (wD (i := 2) (w5 (zc (i := 0) rfl) (zg (x := .int 1)) rfl) (zQ rfl)) ?_)
   refine (guard (zka (zcW (WD.e (zc (i := 1) rfl)) (WD.e zg) (WD.e zg) (zaB pa)) λ _ => zcW (WD.e (zc (i := 2) rfl)) (WD.e zg) (WD.e zg) (zaB pb))).trans ?_
   cases h1 : (wiB 1 8 a && wiB 1 6 b) with
   | false =>
    have : zbS (.tup [a, b, j, e, x, y]) = false := by
     cases a <;> cases b <;> first | rfl | skip
     rename_i n m
     show (wiB 1 8 (.int n) && wiB 1 6 (.int m) && _) = false
     rw [h1]; rfl
    rw [this]; rfl
   | true =>
    have h1' := h1
    rw [Bool.and_eq_true] at h1'
    obtain ⟨n, rfl⟩ := zmU h1'.1
    obtain ⟨m, rfl⟩ := zmU h1'.2
    rw [show zbS (.tup [.int n, .int m, j, e, x, y]) = al6 n m j e x y by show (wiB 1 8 (.int n) && wiB 1 6 (.int m) && _) = _; rw [h1]; rfl]
    have v0 : ∀ (k : Int) (d : D), ixP (.tup [.int n, .int m, j, e, x, y]) (.int k) = some (.im d) -> WD (f2 zM (fC (.int k)) ixP) [sT (.tup [.int n, .int m, j, e, x, y]), sI n, sI m] true d := λ k d hd => w5 (zc (i := 0) rfl) zg hd
    refine (guard (zka (zcW (WD.e (v0 2 j rfl)) (WD.e (zc (i := 1) rfl)) (WD.e (zc (i := 1) rfl)) (zih pj)) λ _ => zcW (WD.e (v0 3 e rfl)) (WD.e zg) (WD.e (Wm (zc (i := 1) rfl) zg)) (zaB pe))).trans ?_
    unfold al6
    cases h2 : (zbH n n j && wiB 0 (n - 1) e) with
    | false => rfl
    | true =>
     refine (guard (zka (zcR (WD.e (v0 4 x rfl)) (WD.e zg) (zkA px)) λ _ => zcR (WD.e (v0 5 y rfl)) (WD.e zg) (zkA py))).trans ?_
     cases h3 : (anB 6 x && anB 4 y) with
     | false => rfl
     | true =>
      rw [Bool.and_eq_true] at h3
      obtain ⟨ps, rfl, hp⟩ := znq h3.1
      obtain ⟨qs, rfl, hs⟩ := znq h3.2
      have c4 := Xq (as := [sT (.tup [.int n, .int m, j, e, .lst ps, .lst qs]), sI n, sI m]) (cap := [none, some 2, some 1]) (gg := gN 0) (fe := zX (aC (f2 zM yo ixP) (aC zV W9)) Ze) (λ v => v) (λ p => zbH m n (zaP p)) ps (zaO (v0 4 _ rfl)) px.ls.1 λ p mp => ⟨[sT p, sI m, sI n], rfl, by
       have pp := px.ls.2 p mp
       obtain ⟨s, b, rfl⟩ := zcP (hp p mp)
       exact zcW (WD.e (w5 (zc (i := 0) rfl) (zg (x := .int 1)) rfl)) (WD.e (zc (i := 1) rfl)) (WD.e (zc (i := 2) rfl)) (zih (pp.tp.2 b (by simp)))⟩
      refine (guard (Yh (yx c4 rfl))).trans ?_
      show _ = some (Out.rt (.lf true (.bl (ps.all (λ p => zbH m n (zaP p)) && qs.all λ p => Xh n (zaP p) && zhh (zaP p)))))
      cases h4 : ps.all (λ p => zbH m n (zaP p)) with
      | false => rfl
      | true =>
       refine ZM (Xq (λ v => v) (λ p => Xh n (zaP p) && zhh (zaP p)) qs (zaO (v0 5 _ rfl)) py.ls.1 λ p mp => ⟨[sT p, sI n], rfl, ?_⟩)
       have pp := py.ls.2 p mp
       obtain ⟨s, b, rfl⟩ := zcP (hs p mp)
       have pb' := pp.tp.2 b (by simp)
       have sec : WD (f2 zM yo ixP) [sT (.tup [.str s, b]), sI n] true b := w5 (zc (i := 0) rfl) (zg (x := .int 1)) rfl
       refine V2 (k := Xh n b) (zcR (WD.e sec) (WD.e (zc (i := 1) rfl)) (zmv pb')) (λ hk => ?_) λ hk => by show (Xh n b && _) = false; rw [hk]; rfl
       show WD _ _ _ (.bl (Xh n b && zhh b))
       rw [hk, Bool.true_and]
       obtain ⟨vs, rfl⟩ := zpa hk
       exact zen (WD.e sec) (zlV pb'.ls.1 hk)
 | _ => exact ZX rfl ((guard (b := true) (WX (k := true) (Yh (k := false) (yx (Y4 (zc (i := 0) rfl) h.no) rfl)) (λ z => nomatch z) λ _ => rfl)).trans rfl)
theorem zkK {d : D} {b : Bool} (h : PlA d) (e : zbS d = b) : xF [(true, d), (true, .bl b)] = sBl true := by
 subst e
 have s2 := wD (st := true) (i := 2) (as := [sT d, sT (.bl (zbS d)), none]) (zen (WD.e (zc (i := 0) rfl)) (znl h)) (zQ rfl)
 exact ZX rfl (xT s2 (ZM (V2 (k := true) (znI (zc (i := 2) rfl) rfl) (λ _ => wk (c := true) (zc (i := 2) rfl) (zc (i := 1) rfl) (by show some (zbS d == zbS d) = _; rw [beq_self_eq_true])) λ z => nomatch z)))
theorem zhr {α : Type} {f : α -> D} {l : List α} {i : Nat} {p : α} (h : l[i]? = some p) : ixP (.lst (l.map f)) (.int (i : Int)) = some (.im (f p)) := by
 have h := Xd (xs := l.map f) (j := i) (v := f p) (by rw [zzG, h]; rfl)
 show imR (atI _ _) = _
 rw [h]; rfl
theorem ziv : ∀ (l σ : List Str), (σ ++ l).Nodup -> l.foldl step_dedup σ = σ ++ l
 | [], σ, _ => (List.append_nil σ).symm
 | x :: l, σ, h => by
  have hx : ¬ σ.any (· == x) = true := λ z => by
   obtain ⟨y, my, e⟩ := List.any_eq_true.mp z
   have := beq_iff_eq.mp e
   subst this
   exact (List.nodup_append.mp h).2.2 y my y zzD rfl
  show l.foldl step_dedup (step_dedup σ x) = _
  unfold step_dedup
  rw [if_neg hx]
  show l.foldl step_dedup (σ ++ [x]) = _
  rw [ziv l (σ ++ [x]) (by rw [List.append_assoc]; exact h), List.append_assoc]; rfl
theorem zoN {l : List Str} (h : l.Nodup) : Z2 l = l.length := by unfold Z2; rw [ziv l [] h]; rfl
theorem zpd (l : List Str) : Z2 l <= l.length := by have := foldl_step_dedup_length_le (K := Str) [] l; unfold Z2; simpa using this
theorem zmG {l : List Str} {x : Str} (h : x ∈ l) : Z2 (l ++ [x]) < (l ++ [x]).length := by
 have hm : ∀ (l σ : List Str), x ∈ σ \/ x ∈ l -> x ∈ l.foldl step_dedup σ := λ l => by
  induction l with
  | nil => exact λ σ z => z.elim id λ z => nomatch z
  | cons y l ih =>
   intro σ z
   refine ih _ ?_
   by_cases e : x ∈ l
   · exact .inr e
   · left
     unfold step_dedup
     rcases z with z | z
     · split
       · exact z
       · exact zzN _ z
     · rcases zzA.mp z with rfl | z
       · split
         · rename_i q
           obtain ⟨w, mw, ew⟩ := List.any_eq_true.mp q
           rw [<- beq_iff_eq.mp ew]; exact mw
         · exact zzJ _ zzD
       · exact absurd z e
 unfold Z2
 rw [List.foldl_append, zzH]
 show (step_dedup (l.foldl step_dedup []) x).length < l.length + 1
 have := zpd l
 unfold Z2 at this
 have q := hm l [] (.inr h)
 generalize l.foldl step_dedup [] = σ at this q
 unfold step_dedup
 have h0 : σ.any (· == x) = true := List.any_eq_true.mpr ⟨x, q, beq_self_eq_true x⟩
 rw [if_pos h0]
 omega
theorem zsx : ∀ k, k < 26 -> lB (97 + k) = true := by decide +kernel
theorem zph {s : Str} (h : WK s) : nmB (.str s) = true := by
 show (!(decide ((s.length : Int) < 1) || decide (8 < (s.length : Int))) && s.cps.toList.all lB) = true
 rw [decide_eq_false (by have := h.1; omega), decide_eq_false (by have := h.2.1; omega)]
 show s.cps.toList.all lB = true
 refine List.all_eq_true.mpr λ c mc => ?_
 have := h.2.2 c mc
 have e := zsx (c - 97) (by omega)
 rwa [show 97 + (c - 97) = c by omega] at e
theorem zkh {α : Type} (f : α -> Str) (g : α -> D) {k : Nat} (l : List α) (hl : l.length <= k) (hn : ∀ p ∈ l, WK (f p)) (nd : (l.map f).Nodup) : anB k (.lst (l.map λ p => .tup [.str (f p), g p])) = true := by
 show (!decide ((k : Int) < ((l.map _).length : Int)) && ((l.map _).all zbU && ((Z2 ((l.map _).map nameS) : Int) == ((l.map _).length : Int)))) = true
 rw [zI, decide_eq_false (by omega), List.map_map, show (nameS ∘ λ p => D.tup [.str (f p), g p]) = f from rfl, zoN nd, zI, beq_self_eq_true, Bool.and_true]
 refine (Bool.true_and _).trans (List.all_eq_true.mpr λ p mp => ?_)
 obtain ⟨q, mq, rfl⟩ := List.mem_map.mp mp
 exact zph (hn q mq)
theorem zkE {n : Nat} {x : Int} (h : InR n x) : wiB 0 ((n : Int) - 1) (.int x) = true := by
 show (decide ((0 : Int) <= x) && decide (x <= (n : Int) - 1)) = true
 rw [decide_eq_true h.1, decide_eq_true (by have := h.2; omega)]; rfl
theorem zgq {n : Nat} {r : List Int} (h : ∀ x ∈ r, InR n x) : Xh n (yC r) = true := List.all_eq_true.mpr λ d md => by
 obtain ⟨x, mx, rfl⟩ := List.mem_map.mp md
 exact zkE (h x mx)
theorem zhZ {k n : Nat} {T : TZ} (h : Tab k n T) : zbH k n (zN T) = true := by
 show ((((T.map yC).length : Int) == (k : Int)) && _) = true
 rw [zI, h.1, beq_self_eq_true, Bool.true_and]
 refine List.all_eq_true.mpr λ d md => ?_
 obtain ⟨r, mr, rfl⟩ := List.mem_map.mp md
 have hr := h.2 r mr
 show (Xh n (yC r) && (((r.map D.int).length : Int) == (n : Int))) = true
 rw [zgq hr.2, zI, hr.1, beq_self_eq_true]; rfl
theorem znA {r : List Int} (h : r.Pairwise (· < ·)) : zhh (yC r) = true := by
 refine List.all_eq_true.mpr λ k mk => ?_
 have hk := List.mem_range.mp mk
 rw [zI] at hk
 have e1 : (r.map D.int)[k]? = some (.int (r[k]'(by omega))) := by rw [zzG, zzC (by omega)]; rfl
 have e2 : (r.map D.int)[k + 1]? = some (.int (r[k + 1]'(by omega))) := by rw [zzG, zzC (by omega)]; rfl
 simp only [e1, e2]
 exact decide_eq_true (List.pairwise_iff_getElem.mp h k (k + 1) (by omega) (by omega) (by omega))
section
variable {n m : Nat} {J : TZ} {e : Int} {Ds : DZ} {S : SS}
theorem zcy (A : Alg n m J e Ds) {j' e' x y : D} : zbS (.tup [.int n, .int m, j', e', x, y]) = al6 n m j' e' x y := by
 have : wiB 1 8 (.int n) = true := by
  show (decide ((1 : Int) <= n) && decide ((n : Int) <= 8)) = true
  rw [decide_eq_true (by have := A.n1; omega), decide_eq_true (by have := A.n8; omega)]; rfl
 have h2 : wiB 1 6 (.int m) = true := by
  show (decide ((1 : Int) <= m) && decide ((m : Int) <= 6)) = true
  rw [decide_eq_true (by have := A.m1; omega), decide_eq_true (by have := A.m6; omega)]; rfl
 show (wiB 1 8 (.int n) && wiB 1 6 (.int m) && _) = _
 rw [this, h2]; rfl
theorem zhX (A : Alg n m J e Ds) (hd : ∀ p ∈ Ds, WK p.1) (hl : S.length <= 4) (hs : ∀ p ∈ S, WK p.1 /\ Sgn n p) (nd : (S.map (·.1)).Nodup) : zbS (wI n m J e Ds S) = true := by
 rw [zcy A]
 unfold al6
 rw [zhZ A.j, zkE ⟨A.e0, A.en⟩, show anB 6 (.lst (Ds.map yz)) = true from zkh (λ p : Str × TZ => p.1) (λ p => zN p.2) Ds A.dl hd A.nd, show anB 4 (.lst (S.map yj)) = true from zkh (λ p : Str × List Int => p.1) (λ p => yC p.2) S hl (λ p mp => (hs p mp).1) nd]
 have h4 : (itD (.lst (Ds.map yz))).all (λ p => zbH m n (zaP p)) = true := List.all_eq_true.mpr λ d md => by
  obtain ⟨p, mp, rfl⟩ := List.mem_map.mp md
  exact zhZ (A.ds p mp)
 have h5 : (itD (.lst (S.map yj))).all (λ p => Xh n (zaP p) && zhh (zaP p)) = true := List.all_eq_true.mpr λ d md => by
  obtain ⟨p, mp, rfl⟩ := List.mem_map.mp md
  have h := (hs p mp).2
  show (Xh n (yC p.2) && zhh (yC p.2)) = true
  rw [zgq h.2.1, znA h.2.2]; rfl
 rw [h4, h5]; rfl
theorem zft {r : List Int} (h : r.length <= 1000) : PlA (yC r) := YW (by rw [zI]; exact h) λ d md => by
 obtain ⟨x, _, rfl⟩ := List.mem_map.mp md
 exact ye
theorem zhK {k n : Nat} {T : TZ} (hk : k <= 1000) (hn : n <= 1000) (h : Tab k n T) : PlA (zN T) := YW (by rw [zI, h.1]; exact hk) λ d md => by
 obtain ⟨r, mr, rfl⟩ := List.mem_map.mp md
 exact zft (by rw [(h.2 r mr).1]; exact hn)
theorem zaX {P : D -> Prop} {a b : D} (ha : P a) (hb : P b) : ∀ d ∈ [a, b], P d := λ d md => by
 rcases zzA.mp md with rfl | md
 · exact ha
 · rw [zzP.mp md]; exact hb
theorem zaf (A : Alg n m J e Ds) (hd : ∀ p ∈ Ds, WK p.1) : PlA (.lst (Ds.map yz)) := YW (by rw [zI]; have := A.dl; omega) λ d md => by
 obtain ⟨p, mp, rfl⟩ := List.mem_map.mp md
 exact YX (by show 2 <= 1000; omega) (zaX (vV (by have := (hd p mp).2.1; omega)) (zhK (by have := A.m6; omega) (by have := A.n8; omega) (A.ds p mp)))
theorem zat (hl : S.length <= 4) (hs : ∀ p ∈ S, WK p.1 /\ Sgn n p) : PlA (.lst (S.map yj)) := YW (by rw [zI]; omega) λ d md => by
 obtain ⟨p, mp, rfl⟩ := List.mem_map.mp md
 exact YX (by show 2 <= 1000; omega) (zaX (vV (by have := (hs p mp).1.2.1; omega)) (zft (by have := (hs p mp).2.1; omega)))
theorem zbW {a b c d x y : D} (ha : PlA a) (hb : PlA b) (hc : PlA c) (hd : PlA d) (hx : PlA x) (hy : PlA y) : PlA (.tup [a, b, c, d, x, y]) := YX (by show 6 <= 1000; omega) λ z mz => by
 rcases zzA.mp mz with rfl | mz
 · exact ha
 rcases zzA.mp mz with rfl | mz
 · exact hb
 rcases zzA.mp mz with rfl | mz
 · exact hc
 rcases zzA.mp mz with rfl | mz
 · exact hd
 rcases zzA.mp mz with rfl | mz
 · exact hx
 rcases zzA.mp mz with rfl | mz
 · exact hy
 · exact nomatch mz
theorem zmD (A : Alg n m J e Ds) : PlA (zN J) := zhK (by have := A.n8; omega) (by have := A.n8; omega) A.j
end
section
variable {n m : Nat} {J : TZ} {e : Int} {Ds : DZ} {S : SS}
theorem Zi {a b c d f g : EF} {as : AS} {x y z u v w : D} (ha : WE a as x) (hb : WE b as y) (hc : WE c as z) (hd : WE d as u) (hf : WE f as v) (hg : WE g as w) : WE (yw (dC a (dC b (dC c (dC d (dC f (dC g dN))))))) as (.tup [x, y, z, u, v, w]) := by
 obtain ⟨o6, i6, rfl, j6⟩ := zgT hg xg
 obtain ⟨o5, i5, rfl, j5⟩ := zgT hf j6
 obtain ⟨o4, i4, rfl, j4⟩ := zgT hd j5
 obtain ⟨o3, i3, rfl, j3⟩ := zgT hc j4
 obtain ⟨o2, i2, rfl, j2⟩ := zgT hb j3
 obtain ⟨o1, i1, rfl, j1⟩ := zgT ha j2
 exact PF.zjg j1 (by show 6 <= _; omega) (by show (o1.str && (o2.str && (o3.str && (o4.str && (o5.str && (o6.str && true)))))) = true; rw [i1, i2, i3, i4, i5, i6]; rfl) rfl
theorem zrJ {a b : D} : gT 2 (gsC xq (gsC (gN 1) gsN)) (true, .tup [a, b]) [none, none] = some [sT a, sT b] := by
 have k : kids true [a, b] = [(true, a), (true, b)] := by
  show [(yF a || true, a), (yF b || true, b)] = _
  rw [Bool.or_true, Bool.or_true]
 unfold gT
 simp only [k]
 rfl
theorem zma {α : Type} {g : α -> D} {f : EF} {as : AS} {l : List α} (h : WE f as (.lst (l.map g))) : Yr f as = some (l.map λ p => (true, g p), as) := by rw [zgD h, List.map_map]; rfl
theorem ziT {i : Nat} {as : AS} {T : TZ} (hl : T.length <= 1000) (h : as[i]? = some (sT (zN T))) : WE (yh (Yr (fV i)) [none] xq yV (fP vI lstP)) as (zN T) :=
 zcI (h := yC) (it := λ r => (true, yC r)) T (zma (g := yC) (WD.e (zc h))) (by omega) λ r _ => ⟨[sT (yC r)], rfl, zjw (zc (i := 0) rfl)⟩
abbrev C8 (n m : Nat) (J : TZ) (e : Int) (Ds : DZ) (S : SS) (o : Option O) : AS := [sT (wI n m J e Ds S), sI n, sI m, sT (zN J), sI e, sT (.lst (Ds.map yz)), sT (.lst (S.map yj)), o]
theorem zoP (A : Alg n m J e Ds) (s4 : S.length <= 4) : RE (vz [(true, wI n m J e Ds S)]) (wI n m J e Ds S) := by
 have dl := A.dl
 have n8 := A.n8
 have m6 := A.m6
 have sa : zdg zM (gT 6 (gsC (gN 1) (gsC (gN 2) (gsC (gN 3) (gsC zeb (gsC (gN 5) (gsC (gN 6) gsN))))))) (Yo 8 [(true, wI n m J e Ds S)]) = some (.nx (C8 n m J e Ds S none)) := zkd (WD.e (zc (i := 0) rfl)) rfl
 have s7 := vY (p := 7) (zcI (as := C8 n m J e Ds S none) (h := yz) (it := λ p => (true, yz p)) (cap := [none, none]) (gg := gT 2 (gsC xq (gsC (gN 1) gsN))) (fe := yw (dC zM (dC (yh (Yr zV) [none] xq yV (fP vI lstP)) dN))) Ds (zma (f := fV 5) (g := yz) (WD.e (zc (i := 5) rfl))) (by omega) λ p mp => ⟨[sT (.str p.1), sT (zN p.2)], zrJ, zkl (WD.e (zc (i := 0) rfl)) (ziT (by rw [(A.ds p mp).1]; omega) rfl)⟩) (zQ rfl)
 have s8 := zcI (as := C8 n m J e Ds S (sT (.lst (Ds.map yz)))) (h := yj) (it := λ p => (true, yj p)) (cap := [none, none]) (gg := gT 2 (gsC xq (gsC (gN 1) gsN))) (fe := yw (dC zM (dC (fP vK lstP) dN))) S (zma (f := fV 6) (g := yj) (WD.e (zc (i := 6) rfl))) (by omega) λ p mp => ⟨[sT (.str p.1), sT (yC p.2)], zrJ, zkl (WD.e (zc (i := 0) rfl)) (zjw (zc (i := 1) rfl))⟩
 exact wH rfl (zF sa (zF s7 (wz (Zi (WD.e (zc (i := 1) rfl)) (WD.e (zc (i := 2) rfl)) (ziT (i := 3) (by rw [A.j.1]; omega) rfl) (WD.e (zc (i := 4) rfl)) (WD.e (zc (i := 7) rfl)) s8))))
theorem zoq {xs : List Int} (h : xs ≠ []) : ∃ x, ixP (yC xs) (.int (-1)) = some (.im (.int x)) := by
 have hl : 0 < xs.length := List.length_pos_iff.mpr h
 refine ⟨xs[xs.length - 1]'(by omega), ?_⟩
 show imR (atI (xs.map D.int) (-1)) = _
 have e : atI (xs.map D.int) (-1) = some (.int (xs[xs.length - 1]'(by omega))) := by
  unfold atI
  rw [show ixN (xs.map D.int).length (-1) = some (xs.length - 1) by
   rw [zI]
   unfold ixN
   simp only [show ¬ (0 : Int) <= -1 by decide, if_false]
   first | rw [if_pos (by omega)] | skip
   first | rfl | (congr 1; omega) | (simp; omega)]
  show (xs.map D.int)[xs.length - 1]? = _
  rw [zzG, zzC (by omega)]; rfl
 rw [e]; rfl
abbrev F12 (a0 a1 : Option O) (n m : Nat) (J : TZ) (e : Int) (Ds : DZ) (S : SS) (xs : List Int) (J' : TZ) (os : List O) (o : Option O) : AS := [a0, a1, sI n, sI m, sT (zN J), sI e, sT (.lst (Ds.map yz)), sT (.lst (S.map yj)), sT (yC xs), sT (zN J'), sN os, o]
theorem zpJ {as : AS} {xs : List Int} {f g h : EF} {n : Nat} {k : Int} (n1 : 1 <= n) (hx : ∀ x ∈ xs, St x) (h0 : 0 <= k) (h1 : k < xs.length) (hf : WD f as true (yC xs)) (hg : WD g as true (.int k)) (hh : WD h as true (.int n)) : ∃ x, WE (f2 (f2 f g ixP) h zG) as (.int x) /\ InR n x := by
 obtain ⟨x, a, _⟩ := at2 hx h0 h1
 exact ⟨x % n, WD.e (yE (yd hf hg a rfl) hh (by omega)), zcu n1⟩
abbrev frC : EF := yh (xR zad xW) [none, some 2, some 8, some 11] xq yV (yh (xR vK xW) [none, some 1, some 2, some 0, some 3] xq yV (f2 (f2 yr (f2 (f2 (f2 (fC (.int 64)) (f2 (fC (.int 48)) xu zY) zx) (f2 vM yP zY) zx) zM zx) ixP) zV zG))
theorem znU {c : Int} (A : Alg n m J e Ds) : ∃ J' e' Ds', Alg n m J' e' Ds' /\ Ds'.map (·.1) = Ds.map (·.1) /\ RE (XJ [(true, wI n m J e Ds S), (true, .int c)]) (wI n m J' e' Ds' S) := by
 have n1 := A.n1
 have n8 := A.n8
 have m6 := A.m6
 have dl := A.dl
 have w : WD (f2 (f2 (f2 vM vM zY) (f2 (f2 X8 X8 zY) vM zY) zx) yo zx) [sT (wI n m J e Ds S), sI c, sI n, sI m, sT (zN J), sI e, sT (.lst (Ds.map yz)), sT (.lst (S.map yj)), none, none, none, none] true (.int (353 : Nat)) := xO (i := 352) (j := 1) (xO (i := 64) (j := 288) (vR (i := 8) (j := 8) zg zg (yK (by decide) (by decide)) (yK (by decide) (by decide))) (vR (i := 36) (j := 8) (vR (i := 6) (j := 6) zg zg (yK (by decide) (by decide)) (yK (by decide) (by decide))) zg (yK (by decide) (by decide)) (yK (by decide) (by decide)))) zg
 obtain ⟨xs, xl, hx, ws⟩ := stE (as := [sT (wI n m J e Ds S), sI c, sI n, sI m, sT (zN J), sI e, sT (.lst (Ds.map yz)), sT (.lst (S.map yj)), none, none, none, none]) (a := fV 1) (c := c) (m := 353) (by omega) (WD.e (zc rfl)) (WD.e w)
 obtain ⟨J', j1, j2, j3⟩ := v5 (as := [sT (wI n m J e Ds S), sI c, sI n, sI m, sT (zN J), sI e, sT (.lst (Ds.map yz)), sT (.lst (S.map yj)), sT (yC xs), none, none, none]) (u := true) yC (Q := Row n) (n := n) (fr := aC yr aN) (cap := [none, some 2, some 8]) (fe := yh (xR vK xW) [none, some 1, some 2, some 0] xq yV (f2 (f2 yr (f2 (f2 vM yP zY) zM zx) ixP) zV zG)) (zP (zc rfl) zU) (by omega) λ a a0 a1 => by
  obtain ⟨r, r1, r2, r3⟩ := v5 (as := [sI a, sI n, sT (yC xs)]) (u := true) D.int (Q := InR n) (n := n) (fr := aC zV aN) (cap := [none, some 1, some 2, some 0]) (fe := f2 (f2 yr (f2 (f2 vM yP zY) zM zx) ixP) zV zG) (zP (zc rfl) zU) (by omega) λ b b0 b1 => by
   obtain ⟨x, hx1, hx2⟩ := zpJ (as := [sI b, sI n, sT (yC xs), sI a]) (xs := xs) (f := fV 2) (g := f2 (f2 vM yP zY) zM zx) (h := fV 1) (k := 8 * a + b) n1 hx (by omega) (by omega) (zc rfl) (xO (vR zg (zc rfl) (yK (by decide) (by decide)) (yK (by omega) (by omega))) (zc rfl)) (zc rfl)
   exact ⟨[sI b, sI n, sT (yC xs), sI a], x, rfl, hx1, hx2⟩
  exact ⟨[sI a, sI n, sT (yC xs)], r, rfl, r3, r1, r2⟩
 obtain ⟨as', hf, os, l, e11, rfl, ho, hlm, hlen⟩ := wZ (g := gN 11) (f := wM (vL 10 (dC (yw (dC (f2 (f2 Zq vQ ixP) yN ixP) (dC frC dN))) dN) vJ))
  (λ i as => ∃ (os : List O) (l : DZ) (e11 : Option O), as = F12 (sT (wI n m J e Ds S)) (sI c) n m J e Ds S xs J' os e11 /\ Ows yz (λ p => Tab m n p.2) os l /\ l.map (·.1) = (Ds.map (·.1)).take i /\ l.length = i)
  (v6 0 Ds.length) 0 (F12 (sT (wI n m J e Ds S)) (sI c) n m J e Ds S xs J' [] none) (λ i x as hx' hI => by
   obtain ⟨os, l, e11, rfl, ho, hlm, hlen⟩ := hI
   obtain ⟨rfl, hi⟩ := Xx hx'
   rw [Int.zero_add] at hx' ⊢
   have g0 := zzC hi
   generalize Ds[i] = p at g0
   obtain ⟨T, t1, t2, o, t3, t4, t5⟩ := v5 (as := F12 (sT (wI n m J e Ds S)) (sI c) n m J e Ds S xs J' os (sI i)) (u := true) yC (Q := Row n) (n := m) (fr := aC yP aN) (cap := [none, some 2, some 8, some 11]) (fe := yh (xR vK xW) [none, some 1, some 2, some 0, some 3] xq yV (f2 (f2 yr (f2 (f2 (f2 (fC (.int 64)) (f2 (fC (.int 48)) xu zY) zx) (f2 vM yP zY) zx) zM zx) ixP) zV zG)) (zP (zc rfl) zU) (by omega) λ a a0 a1 => by
    obtain ⟨r, r1, r2, r3⟩ := v5 (as := [sI a, sI n, sT (yC xs), sI i]) (u := true) D.int (Q := InR n) (n := n) (fr := aC zV aN) (cap := [none, some 1, some 2, some 0, some 3]) (fe := f2 (f2 yr (f2 (f2 (f2 (fC (.int 64)) (f2 (fC (.int 48)) xu zY) zx) (f2 vM yP zY) zx) zM zx) ixP) zV zG) (zP (zc rfl) zU) (by omega) λ b b0 b1 => by
     obtain ⟨x, hx1, hx2⟩ := zpJ (as := [sI b, sI n, sT (yC xs), sI a, sI i]) (xs := xs) (f := fV 2) (g := f2 (f2 (f2 (fC (.int 64)) (f2 (fC (.int 48)) xu zY) zx) (f2 vM yP zY) zx) zM zx) (h := fV 1) (k := 64 + 48 * i + 8 * a + b) n1 hx (by omega) (by omega) (zc rfl) (xO (xO (xO zg (vR zg (zc rfl) (yK (by decide) (by decide)) (yK (by omega) (by omega)))) (vR zg (zc rfl) (yK (by decide) (by decide)) (yK (by omega) (by omega)))) (zc rfl)) (zc rfl)
     exact ⟨[sI b, sI n, sT (yC xs), sI a, sI i], x, rfl, hx1, hx2⟩
    exact ⟨[sI a, sI n, sT (yC xs), sI i], r, rfl, r3, r1, r2⟩
   obtain ⟨os', o1, o2⟩ := ziI (a := yw (dC (f2 (f2 Zq vQ ixP) yN ixP) (dC frC dN))) (as := F12 (sT (wI n m J e Ds S)) (sI c) n m J e Ds S xs J' os (sI i)) (x := (p.1, T)) (i := 10) (toD := yz) (Q := λ p => Tab m n p.2) rfl ho (by omega) (zoZ (zO (yd (w5 (zc (i := 6) rfl) (zc (i := 11) rfl) (zhr g0)) zg rfl rfl) (zbu t3 xg)) (szl rfl) (by show (true && (o.str && true)) = true; rw [t4]; rfl) (by show D.tup [.str p.1, o.toD] = _; rw [t5])) ⟨t1, t2⟩
   exact ⟨F12 (sT (wI n m J e Ds S)) (sI c) n m J e Ds S xs J' os (sI i), rfl, _, o2, os', l ++ [(p.1, T)], _, rfl, o1, by rw [List.map_append, hlm, show 0 + i + 1 = i + 1 by omega, Nat.zero_add, List.take_succ, zzG, g0]; rfl, by rw [zzH, hlen]; rfl⟩)
  ⟨[], [], none, rfl, Ows.nil, rfl, rfl⟩
 rw [Zc, Nat.zero_add] at hlm hlen
 have hnm : l.map (·.1) = Ds.map (·.1) := by rw [hlm, <- zI (f := λ p : Str × TZ => p.1), List.take_length]
 obtain ⟨x, hlast⟩ := zoq (xs := xs) (λ z => by rw [z] at xl; cases xl)
 have hm := zcu (x := x) n1
 refine ⟨J', x % n, l, ⟨n1, n8, A.m1, m6, ⟨j1, j2⟩, hm.1, hm.2, by omega, ho.al, by rw [hnm]; exact A.nd⟩, hnm, ?_⟩
 have it : xR (aC (fP (aC Zq aN) vq) aN) xW (F12 (sT (wI n m J e Ds S)) (sI c) n m J e Ds S xs J' [] none) = some (v6 0 Ds.length, F12 (sT (wI n m J e Ds S)) (sI c) n m J e Ds S xs J' [] none) := by
  rw [Yz (j := ((Ds.map yz).length : Int)) (zP (wj (zP (zc (i := 6) rfl) zU) rfl rfl) zU) (by omega) (by rw [zI]; omega), zI, Int.toNat_natCast]
 refine wH rfl (zF (as1 := [sT (wI n m J e Ds S), sI c, sI n, sI m, sT (zN J), sI e, sT (.lst (Ds.map yz)), sT (.lst (S.map yj)), none, none, none, none]) (zkd (WD.e (zc rfl)) rfl) (zF (vY (p := 8) ws (zQ rfl)) (zF (vY (p := 9) j3 (zQ rfl)) (zF (v8 (i := 10) (Z7 xg (szl rfl)) (zQ rfl)) (zF (ZP it hf) ?_)))))
 have q := vG (as := F12 (sT (wI n m J e Ds S)) (sI c) n m J e Ds S xs J' os e11) (a := fV 2) (zc rfl) (vG (a := fV 3) (zc rfl) (vG (a := fV 9) (zc rfl) (vG (a := f2 (f2 (fV 8) (f1 yo zgi) ixP) yr zG) (yE (yd (zc (i := 8) rfl) (zbk zg) hlast rfl) (zc (i := 2) rfl) (by omega)) (zhv (j := 10) (fr := dC v4 dN) rfl (vG (a := fV 7) (zc rfl) rfl)))))
 rw [ho.frz] at q
 exact ⟨_, zch (zhI q (szl rfl)) rfl, rfl, rfl⟩
end
def WL (fr : DF) (as : AS) (ds : List D) : Prop := ∃ os, WO fr as os /\ O.strs os = true /\ O.toDs os = ds
theorem zJ {as : AS} : WL dN as [] := ⟨[], xg, rfl, rfl⟩
theorem zj {a : EF} {fr : DF} {as : AS} {x : D} {ds : List D} (ha : WE a as x) (hr : WL fr as ds) : WL (dC a fr) as (x :: ds) := by
 obtain ⟨os, h1, h2, rfl⟩ := hr
 obtain ⟨o, i1, rfl, j1⟩ := zgT ha h1
 exact ⟨o :: os, j1, by show (o.str && O.strs os) = true; rw [i1, h2]; rfl, rfl⟩
theorem zez : ∀ os : List O, (O.toDs os).length = os.length
 | [] => rfl
 | _ :: r => congrArg (· + 1) (zez r)
theorem yg {fr : DF} {as : AS} {ds : List D} (h : WL fr as ds) (hl : ds.length <= 1000 := by exact Nat.le_of_ble_eq_true rfl) : WE (zZ fr) as (.lst ds) := by
 obtain ⟨os, h1, h2, rfl⟩ := h
 exact Ye h1 (szs (by rw [zez] at hl; omega)) h2 rfl
theorem wg {fr : DF} {as : AS} {ds : List D} (h : WL fr as ds) (hl : ds.length <= 1000 := by exact Nat.le_of_ble_eq_true rfl) : WE (yw fr) as (.tup ds) := by
 obtain ⟨os, h1, h2, rfl⟩ := h
 exact PF.zjg h1 (by rw [zez] at hl; omega) h2 rfl
theorem xJ {as : AS} {x : D} : WE (fC x) as x := WD.e zg
theorem yc {as : AS} {i : Nat} {x : D} (h : as[i]? = some (sT x)) : WE (fV i) as x := WD.e (zc h)
theorem zia {as : AS} : WE fD0 as (.dct []) := ⟨_, rfl, rfl, rfl⟩
theorem zsu {ds : List D} {x : Int} {L : Nat} (hL : ds.length = L) (h : 0 < L) : ∃ d ∈ ds, ixP (.lst ds) (.int (x % (L : Int))) = some (.im d) := by
 have h0 := Int.emod_nonneg x (show (L : Int) ≠ 0 by omega)
 have h1 := Int.emod_lt_of_pos x (show (0 : Int) < L by omega)
 have g := zzC (l := ds) (i := (x % (L : Int)).toNat) (by omega)
 refine ⟨_, List.mem_of_getElem? g, ?_⟩
 show imR (atI ds (x % (L : Int))) = _
 have := Xd g
 rw [show (((x % (L : Int)).toNat : Nat) : Int) = x % (L : Int) by omega] at this
 rw [this]; rfl
theorem Xf {as : AS} {f g : EF} {ds : List D} {x : Int} {L : Nat} (hL : ds.length = L) (h : 0 < L) (hf : WE f as (.lst ds)) (hg : WE g as (.int (x % (L : Int)))) : ∃ d ∈ ds, WE (f2 f g ixP) as d := by
 obtain ⟨d, md, e⟩ := zsu (x := x) hL h
 exact ⟨d, md, WD.e (f2E hf hg e)⟩
theorem zkH {lo hi i : Int} (h : hi < i) : wiB lo hi (.int i) = false := by
 show (decide (lo <= i) && decide (i <= hi)) = false
 rw [show decide (i <= hi) = false from decide_eq_false (by omega), Bool.and_false]
theorem zpC {lo hi i : Int} (h : i < lo) : wiB lo hi (.int i) = false := by
 show (decide (lo <= i) && decide (i <= hi)) = false
 rw [show decide (lo <= i) = false from decide_eq_false (by omega), Bool.false_and]
theorem Yl {d : D} (h : PlA d) : PlA (.lst [d]) := YW (by show 1 <= 1000; omega) λ v mv => by rw [zzP.mp mv]; exact h
theorem zeH {d : D} (h : PlA d) : PlA (.tup [d]) := YX (by show 1 <= 1000; omega) λ v mv => by rw [zzP.mp mv]; exact h
theorem Ym {a b : D} (ha : PlA a) (hb : PlA b) : PlA (.tup [a, b]) := YX (by show 2 <= 1000; omega) (zaX ha hb)
theorem zgH {a b : D} (ha : PlA a) (hb : PlA b) : PlA (.lst [a, b]) := YW (by show 2 <= 1000; omega) (zaX ha hb)
theorem zpL {as : AS} : WD (f2 (fC (.int 10)) (fC (.int 30)) (Z3 .Pow)) as true (.int (10 ^ 30)) := zno zg zg (by decide)
theorem zjK {as : AS} {a : EF} {x k : Int} (h : WD a as true (.int x)) (hk : 0 < k) (hb : k < 1000000) : WD (f2 a (fC (.int k)) zL) as true (.int (x / k)) := Ws h zg hk (yK (by omega) (by omega))
abbrev zsZ (n : Nat) (d : D) : Prop := wiB 0 ((n : Int) - 1) d = false /\ PlA d
theorem zke {n : Nat} {x : Int} : ∃ d, zsZ n d /\ RE (vf [(true, .int n), (true, .int x)]) d := by
 have xm : WD (f2 zV (f2 (fC (.int 10)) (fC (.int 30)) (Z3 .Pow)) zG) [sI n, sI x] true (.int (x % 10 ^ 30)) := yE (zc (i := 1) rfl) zpL (by decide)
 have x0 := Int.emod_nonneg x (show (10 ^ 30 : Int) ≠ 0 by decide)
 generalize x % 10 ^ 30 = z at xm x0
 have L := yg (as := [sI n, sI x]) (zj (yc (i := 0) rfl) (zj (WD.e (xO (xO (zc (i := 0) rfl) (zg (x := .int 1))) xm)) (zj (WD.e (zbk (zg (x := .int 1)))) (zj (WD.e (Wm (zbk (zg (x := .int 1))) xm)) (zj (xJ (x := .bl true)) (zj (xJ (x := .bl false)) (zj (xJ (x := .str "0")) (zj (xJ (x := .non)) (zj (yg (zj (xJ (x := .int 0)) zJ)) (zj (wg (zj (xJ (x := .int 0)) zJ)) (zj zia zJ)))))))))))
 obtain ⟨d, md, w⟩ := Xf (L := 11) (x := x) rfl (by decide) L (WD.e (yE (zc (i := 1) rfl) (zg (x := .int 11)) (by decide)))
 refine ⟨d, ?_, wH rfl (wz w)⟩
 simp only [zzA, List.not_mem_nil, or_false] at md
 rcases md with rfl | rfl | rfl | rfl | rfl | rfl | rfl | rfl | rfl | rfl | rfl
 · exact ⟨zkH (by omega), ye⟩
 · exact ⟨zkH (by omega), ye⟩
 · exact ⟨zpC (by omega), ye⟩
 · exact ⟨zpC (by omega), ye⟩
 · exact ⟨rfl, zib⟩
 · exact ⟨rfl, zib⟩
 · exact ⟨rfl, vV (by decide)⟩
 · exact ⟨rfl, Y7⟩
 · exact ⟨rfl, Yl ye⟩
 · exact ⟨rfl, zeH ye⟩
 · exact ⟨rfl, zeu⟩
theorem zfv {x : Int} : ∃ d, (nmB d = false /\ PlA d) /\ RE (wB [(true, .int x)]) d := by
 have L := yg (as := [sI x]) (zj (xJ (x := .str "")) (zj (xJ (x := .str "A")) (zj (xJ (x := .str "abcdefghi")) (zj (xJ (x := .str "a1")) (zj (xJ (x := .str "a b")) (zj (xJ (x := .str "a ")) (zj (xJ (x := .non)) (zj (xJ (x := .int 7)) (zj (wg (zj (xJ (x := .str "a")) zJ)) (zj (yg (zj (xJ (x := .str "a")) zJ)) (zj (xJ (x := .bl true)) (zj (xJ (x := .str "_")) zJ))))))))))))
 obtain ⟨d, md, w⟩ := Xf (L := 12) (x := x) rfl (by decide) L (WD.e (yE (zc (i := 0) rfl) (zg (x := .int 12)) (by decide)))
 refine ⟨d, ?_, wH rfl (wz w)⟩
 simp only [zzA, List.not_mem_nil, or_false] at md
 rcases md with rfl | rfl | rfl | rfl | rfl | rfl | rfl | rfl | rfl | rfl | rfl | rfl
 · exact ⟨by decide +kernel, vV (by decide)⟩
 · exact ⟨by decide +kernel, vV (by decide)⟩
 · exact ⟨by decide +kernel, vV (by decide)⟩
 · exact ⟨by decide +kernel, vV (by decide)⟩
 · exact ⟨by decide +kernel, vV (by decide)⟩
 · exact ⟨by decide +kernel, vV (by decide)⟩
 · exact ⟨rfl, Y7⟩
 · exact ⟨rfl, ye⟩
 · exact ⟨rfl, zeH (vV (by decide))⟩
 · exact ⟨rfl, Yl (vV (by decide))⟩
 · exact ⟨rfl, zib⟩
 · exact ⟨by decide +kernel, vV (by decide)⟩
theorem Wb (xs : List D) (lo hi : Option Int) : (∀ d ∈ PF.cutD xs lo hi, d ∈ xs) /\ (PF.cutD xs lo hi).length <= xs.length := by
 unfold PF.cutD
 exact ⟨λ d md => List.mem_of_mem_drop (List.mem_of_mem_take md), by rw [zzQ, List.length_drop]; omega⟩
theorem zmj {xs : List D} (h : 0 < xs.length) : (PF.cutD xs none (some (-1))).length + 1 = xs.length := by
 unfold PF.cutD
 rw [zzQ, List.length_drop, show HT.sIx xs.length xs.length (some (-1)) = (-1 + (xs.length : Int)).toNat from rfl, HT.zcj]
 omega
theorem zpB {xs : List D} (h : 0 < xs.length) : (PF.cutD xs none (some 1)).length = 1 := by
 unfold PF.cutD
 rw [zzQ, List.length_drop, show (some (1 : Int)) = some ((1 : Nat) : Int) from rfl, HT.zcm, HT.zcj]
 omega
theorem slE {as : AS} {f : EF} {fl fh : OF} {lo hi : Option Int} {xs : List D} (h : WE f as (.lst xs)) (h1 : fl as = some (lo, as)) (h2 : fh as = some (hi, as)) : WE (fSl f fl fh slP) as (.lst (PF.cutD xs lo hi)) := Vf h h1 h2 rfl
theorem zbG {as : AS} {f g : EF} {xs ys : List D} (h : WE f as (.lst xs)) (h2 : WE g as (.lst ys)) (hl : xs.length + ys.length <= 1000) : WE (f2 f g zx) as (.lst (xs ++ ys)) := zlB h h2 (add_lists (szs (by omega)))
theorem zmV {vs ws : List D} {d : D} (h1 : vs.length + ws.length <= 999) (h : ∀ v ∈ vs, PlA v) (hd : PlA d) (h2 : ∀ v ∈ ws, PlA v) : PlA (.lst (vs ++ [d] ++ ws)) := YW (by rw [zzH, zzH]; show vs.length + 1 + ws.length <= 1000; omega) λ v mv => by
 rcases zzK.mp mv with mv | mv
 · rcases zzK.mp mv with mv | mv
   · exact h v mv
   · rw [zzP.mp mv]; exact hd
 · exact h2 v mv
theorem zeg {f : D -> Bool} {vs ws : List D} {d : D} (h : f d = false) : (vs ++ [d] ++ ws).all f = false := by
 rw [List.all_append, List.all_append]
 show (vs.all f && (f d && true) && ws.all f) = false
 rw [h]; simp
abbrev RB (n : Nat) (b : D) : Prop := (Xh n b && zhD n b) = false /\ PlA b
theorem zkZ {n : Nat} {vs : List D} (h : vs.length ≠ n) : (Xh n (.lst vs) && zhD n (.lst vs)) = false := by
 show (_ && ((vs.length : Int) == (n : Int))) = false
 rw [show ((vs.length : Int) == (n : Int)) = false from beq_eq_false_iff_ne.mpr λ z => h (by omega), Bool.and_false]
theorem znO {k n : Nat} {vs : List D} (h : vs.length ≠ k) : zbH k n (.lst vs) = false := by
 show (((vs.length : Int) == (k : Int)) && _) = false
 rw [show ((vs.length : Int) == (k : Int)) = false from beq_eq_false_iff_ne.mpr λ z => h (by omega), Bool.false_and]
theorem zjQ {vs ws : List D} (h1 : vs.length + ws.length <= 1000) (h : ∀ v ∈ vs, PlA v) (h2 : ∀ v ∈ ws, PlA v) : PlA (.lst (vs ++ ws)) := YW (by rw [zzH]; exact h1) λ v mv => (zzK.mp mv).elim (h v) (h2 v)
abbrev R8 (T : TZ) (n : Nat) (x : Int) (a : Nat) (r : List Int) (p : Nat) (o6 o7 : Option O) : AS := [sT (zN T), sI n, sI x, sI a, sT (yC r), sI p, o6, o7]
theorem zjc {T : TZ} {n : Nat} {x y : Int} {a p : Nat} {r : List Int} {o6 o7 : Option O} {g : EF} (n8 : n <= 8) (hr : Row n r) (hg : WD g (R8 T n x a r p o6 o7) true (.int y)) : ∃ b, RB n b /\ WE (f2 (f2 (fSl xu oN (oS Zh) slP) (zZ (dC (zX (aC zV (aC g aN)) vf) dN)) zx) (fSl xu (oS (f2 Zh yo zx)) oN slP) zx) (R8 T n x a r p o6 o7) b := by
 obtain ⟨d, hd, w⟩ := zke (n := n) (x := y)
 have c1 := Wb (r.map D.int) none (some (p : Int))
 have c2 := Wb (r.map D.int) (some ((p : Int) + 1)) none
 have hl : (r.map D.int).length <= 8 := by rw [zI, hr.1]; exact n8
 have pr := zft (r := r) (by rw [hr.1]; omega)
 refine ⟨_, ⟨?_, zmV (d := d) ?_ (λ v mv => pr.ls.2 v (c1.1 v mv)) hd.2 λ v mv => pr.ls.2 v (c2.1 v mv)⟩, zbG (zbG (slE (yc (i := 4) rfl) rfl (Zd (zc (i := 5) rfl))) (yg (zj (Xz (yc (i := 1) rfl) (WD.e hg) w) zJ)) ?_) (slE (yc (i := 4) rfl) (Zd (xO (zc (i := 5) rfl) zg)) rfl) ?_⟩
 · show ((PF.cutD (r.map D.int) none (some (p : Int)) ++ [d] ++ PF.cutD (r.map D.int) (some ((p : Int) + 1)) none).all (wiB 0 ((n : Int) - 1)) && _) = false
   rw [zeg hd.1, Bool.false_and]
 · omega
 · show _ + 1 <= 1000; omega
 · rw [zzH]; show _ + 1 + _ <= 1000; omega
theorem zeI {k n : Nat} {T : TZ} {x : Int} (k1 : 1 <= k) (k8 : k <= 8) (n1 : 1 <= n) (n8 : n <= 8) (hT : Tab k n T) : ∃ d, (zbH k n d = false /\ PlA d) /\ RE (xX [(true, zN T), (true, .int n), (true, .int x)]) d := by
 have tl : (T.map yC).length = k := by rw [zI, hT.1]
 have pT := zhK (by omega) (by omega) hT
 obtain ⟨a, ha, ea⟩ : ∃ a : Nat, a < k /\ x / 11 % ((T.map yC).length : Int) = a := by
  rw [tl]
  have h0 := Int.emod_nonneg (x / 11) (show (k : Int) ≠ 0 by omega)
  have h1 := Int.emod_lt_of_pos (x / 11) (show (0 : Int) < k by omega)
  exact ⟨(x / 11 % (k : Int)).toNat, by omega, by omega⟩
 obtain ⟨p, hp, ep⟩ : ∃ p : Nat, p < n /\ x / 88 % (n : Int) = p := by
  have h0 := Int.emod_nonneg (x / 88) (show (n : Int) ≠ 0 by omega)
  have h1 := Int.emod_lt_of_pos (x / 88) (show (0 : Int) < n by omega)
  exact ⟨(x / 88 % (n : Int)).toNat, by omega, by omega⟩
 have g0 := zzC (l := T) (i := a) (by rw [hT.1]; exact ha)
 have hr := hT.2 _ (List.getElem_mem (l := T) (n := a) (by rw [hT.1]; exact ha))
 generalize T[a]'(by rw [hT.1]; exact ha) = r at g0 hr
 have rl : (r.map D.int).length = n := by rw [zI, hr.1]
 have pr := zft (r := r) (by rw [hr.1]; omega)
 have s3 : yq true 3 (f2 (f2 yr (fC (.int 11)) zL) (fP vI vq) zG) [sT (zN T), sI n, sI x, none, none, none, none, none] = some (.nx [sT (zN T), sI n, sI x, sI a, none, none, none, none]) := by
  rw [<- ea]
  exact wD (i := 3) (yE (zjK (zc (i := 2) rfl) (by decide) (by decide)) (wj (zP (zc (i := 0) rfl) zU) rfl rfl) (by rw [tl]; omega)) (zQ rfl)
 have s5 : yq true 5 (f2 (f2 yr (fC (.int 88)) zL) zV zG) [sT (zN T), sI n, sI x, sI a, sT (yC r), none, none, none] = some (.nx (R8 T n x a r p none none)) := by
  show _ = some (Out.nx [sT (zN T), sI n, sI x, sI a, sT (yC r), sI p, none, none])
  rw [<- ep]
  exact wD (i := 5) (yE (zjK (zc (i := 2) rfl) (by decide) (by decide)) (zc (i := 1) rfl) (by omega)) (zQ rfl)
 have tupE' : ∀ {as : AS} {i : Nat} {xs : List D}, as[i]? = some (sT (.lst xs)) -> WE (fP (aC (fV i) aN) tupP) as (.tup xs) := λ h => WD.e (zfC (zP (zc h) zU) rfl rfl)
 have q1 := Wb (T.map yC) none (some (-1))
 have q2 := Wb (T.map yC) none (some 1)
 have u1 := zmj (xs := T.map yC) (by omega)
 have u2 := zpB (xs := T.map yC) (by omega)
 have v1 := Wb (r.map D.int) none (some (-1))
 have v2 := Wb (r.map D.int) none (some 1)
 have w1 := zmj (xs := r.map D.int) (by omega)
 have w2 := zpB (xs := r.map D.int) (by omega)
 have L6 := yg (as := R8 T n x a r p none none) (zj (tupE' (i := 0) rfl) (zj (slE (yc (i := 0) rfl) (fl := oN) rfl (Zd (zbk (zg (x := .int 1))))) (zj (zbG (yc (i := 0) rfl) (slE (yc (i := 0) rfl) (fl := oN) rfl (Zd (zg (x := .int 1)))) (by omega)) (zj (xJ (x := .non)) (zj zia (zj (xJ (x := .str "rows")) zJ))))))
 have some_ok : ∀ d ∈ [D.tup (T.map yC), .lst (PF.cutD (T.map yC) none (some (-1))), .lst (T.map yC ++ PF.cutD (T.map yC) none (some 1)), .non, .dct [], .str "rows"], zbH k n d = false /\ PlA d := λ d md => by
  simp only [zzA, List.not_mem_nil, or_false] at md
  rcases md with rfl | rfl | rfl | rfl | rfl | rfl
  · exact ⟨rfl, YX pT.ls.1 pT.ls.2⟩
  · exact ⟨znO (by omega), YW (by omega) λ v mv => pT.ls.2 v (q1.1 v mv)⟩
  · exact ⟨znO (by rw [zzH]; omega), zjQ (by omega) pT.ls.2 λ v mv => pT.ls.2 v (q2.1 v mv)⟩
  · exact ⟨rfl, Y7⟩
  · exact ⟨rfl, zeu⟩
  · exact ⟨rfl, vV (by decide)⟩
 have e6 : ([D.tup (T.map yC), .lst (PF.cutD (T.map yC) none (some (-1))), .lst (T.map yC ++ PF.cutD (T.map yC) none (some 1)), .non, .dct [], .str "rows"] : List D).length = 6 := rfl
 generalize [D.tup (T.map yC), .lst (PF.cutD (T.map yC) none (some (-1))), .lst (T.map yC ++ PF.cutD (T.map yC) none (some 1)), .non, .dct [], .str "rows"] = sm at L6 some_ok e6
 have s6 := vY (p := 6) L6 (zQ rfl)
 obtain ⟨b5, hb5, wb5⟩ := zjc (T := T) (x := x) (a := a) (p := p) (o6 := sT (.lst sm)) (o7 := none) (g := fV 2) n8 hr (zc (i := 2) rfl)
 have L7 := yg (zj (tupE' (as := R8 T n x a r p (sT (.lst sm)) none) (i := 4) rfl) (zj (slE (yc (i := 4) rfl) (fl := oN) rfl (Zd (zbk (zg (x := .int 1))))) (zj (zbG (yc (i := 4) rfl) (slE (yc (i := 4) rfl) (fl := oN) rfl (Zd (zg (x := .int 1)))) (by omega)) (zj (xJ (x := .non)) (zj (xJ (x := .int 0)) (zj wb5 zJ))))))
 have s7 := vY (p := 7) L7 (zQ rfl)
 obtain ⟨b6, hb6, wb6⟩ := zjc (T := T) (x := x) (a := a) (p := p) (o6 := sT (.lst sm)) (o7 := sT (.lst [.tup (r.map D.int), .lst (PF.cutD (r.map D.int) none (some (-1))), .lst (r.map D.int ++ PF.cutD (r.map D.int) none (some 1)), .non, .int 0, b5])) (g := f2 yr (fC (.int 7)) zL) n8 hr (zjK (zc (i := 2) rfl) (by decide) (by decide))
 have L8 := zbG (as := R8 T n x a r p (sT (.lst sm)) (sT (.lst [.tup (r.map D.int), .lst (PF.cutD (r.map D.int) none (some (-1))), .lst (r.map D.int ++ PF.cutD (r.map D.int) none (some 1)), .non, .int 0, b5]))) (yc (i := 7) rfl) (zlB (g := Z3 .Mult) (zs := [b6, b6, b6]) (yg (zj wb6 zJ)) (xJ (x := .int 3)) rfl) (by show 9 <= 1000; omega)
 have bent_all : ∀ b ∈ [D.tup (r.map D.int), .lst (PF.cutD (r.map D.int) none (some (-1))), .lst (r.map D.int ++ PF.cutD (r.map D.int) none (some 1)), .non, .int 0, b5] ++ [b6, b6, b6], RB n b := λ d md => by
  simp only [List.cons_append, List.nil_append, zzA, List.not_mem_nil, or_false] at md
  rcases md with rfl | rfl | rfl | rfl | rfl | rfl | rfl | rfl | rfl
  · exact ⟨rfl, YX pr.ls.1 pr.ls.2⟩
  · exact ⟨zkZ (by omega), YW (by omega) λ v mv => pr.ls.2 v (v1.1 v mv)⟩
  · exact ⟨zkZ (by rw [zzH]; omega), zjQ (by omega) pr.ls.2 λ v mv => pr.ls.2 v (v2.1 v mv)⟩
  · exact ⟨rfl, Y7⟩
  · exact ⟨rfl, ye⟩
  · exact hb5
  · exact hb6
  · exact hb6
  · exact hb6
 have e9 : ([D.tup (r.map D.int), .lst (PF.cutD (r.map D.int) none (some (-1))), .lst (r.map D.int ++ PF.cutD (r.map D.int) none (some 1)), .non, .int 0, b5] ++ [b6, b6, b6]).length = 9 := rfl
 generalize [D.tup (r.map D.int), .lst (PF.cutD (r.map D.int) none (some (-1))), .lst (r.map D.int ++ PF.cutD (r.map D.int) none (some 1)), .non, .int 0, b5] ++ [b6, b6, b6] = bl at L8 bent_all e9
 have s8 := vY (p := 7) L8 (zQ rfl)
 have go : ∀ {d}, Rt (zR (sIf (fT (f2 (f2 yr vC zG) yN (yZ .Eq))) (yX (f2 Zq (f2 (f2 yr vC zL) (fP (aC Zq aN) vq) zG) ixP)) sNx)
  (yX (f2 (f2 (fSl zM oN (oS yP) slP) (zZ (dC (f2 v4 (f2 (f2 yr vC zL) (fP zpr vq) zG) ixP) dN)) zx) (fSl zM (oS (f2 yP yo zx)) oN slP) zx)) (R8 T n x a r p (sT (.lst sm)) (sT (.lst bl)))) d -> RE (xX [(true, zN T), (true, .int n), (true, .int x)]) d := λ h => wH rfl (zF s3 (zF (vY (p := 4) (WD.e (w5 (zc (i := 0) rfl) (zc (i := 3) rfl) (zhr g0))) (zQ rfl)) (zF s5 (zF s6 (zF s7 (zF s8 h))))))
 have t : WT (fT (f2 (f2 yr vC zG) yN (yZ .Eq))) (R8 T n x a r p (sT (.lst sm)) (sT (.lst bl))) (x % 3 == 0) := yx (wk (yE (zc (i := 2) rfl) zg (by decide)) zg rfl) rfl
 have ln : ∀ {i : Nat} {xs : List D} {L : Nat}, (R8 T n x a r p (sT (.lst sm)) (sT (.lst bl)))[i]? = some (sT (.lst xs)) -> xs.length = L -> 0 < L -> WE (f2 (f2 yr vC zL) (fP (aC (fV i) aN) vq) zG) (R8 T n x a r p (sT (.lst sm)) (sT (.lst bl))) (.int (x / 3 % (L : Int))) := λ {i xs L} h e h0 => by
  subst e
  exact WD.e (yE (zjK (zc (i := 2) rfl) (by decide) (by decide)) (wj (zP (zc h) zU) rfl rfl) (by omega))
 cases hx : (x % 3 == 0) with
 | true =>
  rw [hx] at t
  obtain ⟨d, md, w⟩ := Xf (L := 6) (x := x / 3) e6 (by decide) (yc (as := R8 T n x a r p (sT (.lst sm)) (sT (.lst bl))) (i := 6) rfl) (ln (i := 6) rfl e6 (by decide))
  exact ⟨d, some_ok d md, go (vD (Zr t (wz w)))⟩
 | false =>
  rw [hx] at t
  obtain ⟨b, mb, w⟩ := Xf (L := 9) (x := x / 3) e9 (by decide) (yc (as := R8 T n x a r p (sT (.lst sm)) (sT (.lst bl))) (i := 7) rfl) (ln (i := 7) rfl e9 (by decide))
  have c1 := Wb (T.map yC) none (some (a : Int))
  have c2 := Wb (T.map yC) (some ((a : Int) + 1)) none
  refine ⟨_, ⟨?_, zmV (d := b) ?_ (λ v mv => pT.ls.2 v (c1.1 v mv)) (bent_all b mb).2 λ v mv => pT.ls.2 v (c2.1 v mv)⟩, go (zF (yI t rfl) (wz (zbG (zbG (slE (yc (i := 0) rfl) rfl (Zd (zc (i := 3) rfl))) (yg (zj w zJ)) ?_) (slE (yc (i := 0) rfl) (Zd (xO (zc (i := 3) rfl) zg)) rfl) ?_)))⟩
  · show (_ && (PF.cutD (T.map yC) none (some (a : Int)) ++ [b] ++ PF.cutD (T.map yC) (some ((a : Int) + 1)) none).all (λ r => Xh n r && zhD n r)) = false
    rw [zeg (bent_all b mb).1, Bool.and_false]
  · omega
  · show _ + 1 <= 1000; omega
  · rw [zzH]; show _ + 1 + _ <= 1000; omega
theorem an1 {k : Int} {p : D} (h : zbU p = false) : anB k (.lst [p]) = false := by
 show (_ && ((zbU p && true) && _)) = false
 rw [h]; simp
theorem zoX {a b : D} (h : nmB a = false) : zbU (.tup [a, b]) = false := by
 show ((([a, b].length : Int) == 2) && nmB ([a, b].getD 0 .non)) = false
 exact (congrArg _ (show nmB ([a, b].getD 0 .non) = false from h)).trans (Bool.and_false _)
theorem xG {a b : Bool} (h : a = false) : (a && b) = false := by rw [h]; rfl
theorem vO {a b : Bool} (h : b = false) : (a && b) = false := by rw [h, Bool.and_false]
theorem it1 {f : D -> Bool} {p : D} (h : f p = false) : (itD (.lst [p])).all f = false := by
 show (f p && true) = false
 rw [h]; rfl
theorem zz2 : Z2 ["zz", "zz"] = 1 := by decide +kernel
theorem zpw {k : Int} {a b : D} : anB k (.lst [.tup [.str "zz", a], .tup [.str "zz", b]]) = false := by
 show (_ && (_ && ((Z2 ["zz", "zz"] : Int) == 2))) = false
 rw [zz2]; simp
abbrev zz : D := .str "zz"
theorem Z0 : PlA zz := vV (by decide)
abbrev zjL (w : D) (c : Nat) : D := .tup [.str ("z" ++ (⟨#[c]⟩ : Str)), w]
theorem zmt {as : AS} {t : Str} {cap : List (Option Nat)} {f : EF} {w : D} (hl : t.cps.toList.length <= 1000) (H : ∀ c : Nat, ∃ as1, gN 0 (true, .str ⟨#[c]⟩) (X7 cap as) = some as1 /\ as1[0]? = some (sT (.str ⟨#[c]⟩)) /\ WE f as1 w) : WE (yh (zjW (fC (.str t))) cap xq yV (yw (dC (f2 (fC (.str "z")) zM zx) (dC f dN)))) as (.lst (t.cps.toList.map (zjL w))) :=
 zcI (h := zjL w) (it := λ c => (true, D.str ⟨#[c]⟩)) t.cps.toList (zpI zg) (by omega) λ c _ => by
  obtain ⟨as1, h1, h2, h3⟩ := H c
  exact ⟨as1, h1, wg (zj (WD.e (w5 zg (zc h2) (add_str (Nat.le_of_ble_eq_true rfl)))) (zj h3 zJ))⟩
theorem zkj {t : Str} {w : D} (hl : t.cps.toList.length <= 1000) (hw : PlA w) : PlA (.lst (t.cps.toList.map (zjL w))) := YW (by rw [zI]; exact hl) λ d md => by
 obtain ⟨c, _, rfl⟩ := List.mem_map.mp md
 exact Ym (vV (by rw [len_app]; exact Nat.le_of_ble_eq_true rfl)) hw
theorem zkV {t : Str} {w : D} {k L : Nat} (e : t.cps.toList.length = L) (h : k < L) : anB k (.lst (t.cps.toList.map (zjL w))) = false := by
 show (!decide ((k : Int) < ((t.cps.toList.map (zjL w)).length : Int)) && _) = false
 rw [zI, e, decide_eq_true (by omega)]; rfl
section
variable {n m : Nat} {J : TZ} {e x : Int} {Ds : DZ} {S : SS}
abbrev DB (m n : Nat) (d : D) : Prop := (anB 6 d && (itD d).all (λ p => zbH m n (zaP p))) = false /\ PlA d
abbrev SB (n : Nat) (d : D) : Prop := (anB 4 d && (itD d).all (λ p => Xh n (zaP p) && zhh (zaP p))) = false /\ PlA d
abbrev E12 (n m : Nat) (J : TZ) (e x : Int) (Ds : DZ) (S : SS) (o8 o9 o10 o11 : Option O) : AS := [sT (wI n m J e Ds S), sI x, sI n, sI m, sT (zN J), sI e, sT (.lst (Ds.map yz)), sT (.lst (S.map yj)), o8, o9, o10, o11]
theorem zkp {xs : List D} {k : Int} (h : -(2 ^ 63) <= k /\ k < 2 ^ 63 /\ xs.length * k.toNat <= sizeLine) : Z3 .Mult (.lst xs) (.int k) = some (.fl (List.replicate k.toNat xs).flatten) := if_pos h
theorem zA {n : Nat} (n8 : n <= 8) : -(2 ^ 63) <= (n : Int) /\ (n : Int) < 2 ^ 63 := ⟨by omega, by omega⟩
theorem zB {n : Nat} (n8 : n <= 8) : [D.int 0].length * (n : Int).toNat <= sizeLine := szs (by rw [List.length_singleton]; omega)
theorem zC {n : Nat} : (List.replicate (n : Int).toNat [D.int 0]).flatten = (List.replicate n (0 : Int)).map D.int := by rw [Int.toNat_natCast, List.flatten_replicate_singleton, List.map_replicate]
theorem zeros {n : Nat} (n8 : n <= 8) {as : AS} {g : EF} (hg : WE g as (.int n)) : WE (f2 (zZ (dC yN dN)) g zY) as (yC (List.replicate n 0)) :=
 zlB (g := Z3 .Mult) (yg (zj (xJ (x := .int 0)) zJ)) hg (by rw [zkp ⟨(zA n8).1, (zA n8).2, zB n8⟩, zC])
theorem zrS {as : AS} {i : Nat} {xs : List D} (h : as[i]? = some (sT (.lst xs))) : WE (fP (aC (fV i) aN) tupP) as (.tup xs) := WD.e (zfC (zP (zc h) zU) rfl rfl)
theorem zlN (A : Alg n m J e Ds) (hd : ∀ p ∈ Ds, WK p.1) : ∃ d, DB m n d /\ RE (vZ [(true, wI n m J e Ds S), (true, .int x)]) (.tup [.int n, .int m, zN J, .int e, d, .lst (S.map yj)]) := by
 have n1 := A.n1
 have n8 := A.n8
 have m1 := A.m1
 have m6 := A.m6
 obtain ⟨T, t1, t2, t3⟩ := v5 (as := E12 n m J e x Ds S none none none none) (u := true) yC (Q := Row n) (n := m) (fr := aC yP aN) (cap := [none, some 2]) (fe := f2 (zZ (dC yN dN)) zV zY) (zP (zc rfl) zU) (by omega) λ b b0 b1 => ⟨[sI b, sI n], List.replicate n 0, rfl, zeros n8 (yc (i := 1) rfl), List.length_replicate, λ y my => by rw [List.eq_of_mem_replicate my]; exact ⟨by omega, by omega⟩⟩
 have hT : Tab m n T := ⟨t1, t2⟩
 have pT := zhK (by omega) (by omega) hT
 have pD := zaf A hd
 have s8 := vY (p := 8) t3 (zQ rfl)
 have s9 := vY (as := E12 n m J e x Ds S (sT (zN T)) none none none) (p := 9) (wg (zj (xJ (x := zz)) (zj (yc (i := 8) rfl) zJ))) (zQ rfl)
 have l7 : ("abcdefg" : Str).cps.toList.length = 7 := by decide +kernel
 have s10 := vY (as := E12 n m J e x Ds S (sT (zN T)) (sT (.tup [zz, zN T])) none none) (p := 10) (zmt (t := "abcdefg") (cap := [none, some 8]) (f := fV 1) (w := zN T) (by rw [l7]; omega) λ c => ⟨[sT (.str ⟨#[c]⟩), sT (zN T)], rfl, rfl, yc (i := 1) rfl⟩) (zQ rfl)
 have pM := zkj (t := "abcdefg") (by rw [l7]; omega) pT
 have aM := zkV (w := zN T) (k := 6) l7 (by decide)
 generalize ("abcdefg" : Str).cps.toList.map (zjL (zN T)) = mn at s10 pM aM
 have L := yg (as := E12 n m J e x Ds S (sT (zN T)) (sT (.tup [zz, zN T])) (sT (.lst mn)) none) (zj (zrS (i := 6) rfl) (zj (xJ (x := .non)) (zj zia (zj (yc (i := 10) rfl) (zj (yg (zj (yc (i := 9) rfl) (zj (yc (i := 9) rfl) zJ))) (zj (yg (zj (wg (zj (xJ (x := zz)) (zj (yc (i := 8) rfl) (zj (xJ (x := .int 0)) zJ)))) zJ)) (zj (yg (zj (wg (zj (xJ (x := zz)) zJ)) zJ)) (zj (yg (zj (yg (zj (xJ (x := zz)) (zj (yc (i := 8) rfl) zJ))) zJ)) (zj (yg (zj (xJ (x := .non)) zJ)) (zj (yg (zj (xJ (x := zz)) zJ)) zJ))))))))))
 have s11 := vY (p := 11) L (zQ rfl)
 have ok1 : ∀ d ∈ [D.tup (Ds.map yz), .non, .dct [], .lst mn, .lst [.tup [zz, zN T], .tup [zz, zN T]], .lst [.tup [zz, zN T, .int 0]], .lst [.tup [zz]], .lst [.lst [zz, zN T]], .lst [.non], .lst [zz]], DB m n d := λ d md => by
  simp only [zzA, List.not_mem_nil, or_false] at md
  rcases md with rfl | rfl | rfl | rfl | rfl | rfl | rfl | rfl | rfl | rfl
  · exact ⟨rfl, YX pD.ls.1 pD.ls.2⟩
  · exact ⟨rfl, Y7⟩
  · exact ⟨rfl, zeu⟩
  · exact ⟨xG aM, pM⟩
  · exact ⟨xG zpw, zgH (Ym Z0 pT) (Ym Z0 pT)⟩
  · exact ⟨xG (an1 rfl), Yl (YX (by show 3 <= 1000; omega) λ v mv => by
     rcases zzA.mp mv with rfl | mv
     · exact Z0
     · exact zaX pT ye v mv)⟩
  · exact ⟨xG (an1 rfl), Yl (zeH Z0)⟩
  · exact ⟨xG (an1 rfl), Yl (zgH Z0 pT)⟩
  · exact ⟨xG (an1 rfl), Yl Y7⟩
  · exact ⟨xG (an1 rfl), Yl Z0⟩
 have e1 : ([D.tup (Ds.map yz), .non, .dct [], .lst mn, .lst [.tup [zz, zN T], .tup [zz, zN T]], .lst [.tup [zz, zN T, .int 0]], .lst [.tup [zz]], .lst [.lst [zz, zN T]], .lst [.non], .lst [zz]] : List D).length = 10 := rfl
 generalize [D.tup (Ds.map yz), .non, .dct [], .lst mn, .lst [.tup [zz, zN T], .tup [zz, zN T]], .lst [.tup [zz, zN T, .int 0]], .lst [.tup [zz]], .lst [.lst [zz, zN T]], .lst [.non], .lst [zz]] = l1 at s11 ok1 e1
 obtain ⟨b1, hb1, wb1⟩ := zfv (x := x / 20)
 obtain ⟨b2, hb2, wb2⟩ := zfv (x := x / 40)
 obtain ⟨r1, hr1, wr1⟩ := zeI (x := x / 20) m1 (by omega) n1 n8 hT
 obtain ⟨r2, hr2, wr2⟩ := zeI (x := x / 60) m1 (by omega) n1 n8 hT
 have dv : ∀ {o : Option O} {k : Int}, 0 < k -> k < 1000000 -> WE (f2 zV (fC (.int k)) zL) (E12 n m J e x Ds S (sT (zN T)) (sT (.tup [zz, zN T])) (sT (.lst mn)) o) (.int (x / k)) := λ h h' => WD.e (zjK (zc (i := 1) rfl) h h')
 have s12 := vY (p := 11) (zbG (as := E12 n m J e x Ds S (sT (zN T)) (sT (.tup [zz, zN T])) (sT (.lst mn)) (sT (.lst l1))) (yc (i := 11) rfl) (yg (zj (yg (zj (wg (zj (zfb (dv (k := 20) (by decide) (by decide)) wb1) (zj (yc (i := 8) rfl) zJ))) zJ)) (zj (yg (zj (wg (zj (zfb (dv (k := 40) (by decide) (by decide)) wb2) (zj (yc (i := 8) rfl) zJ))) zJ)) zJ))) (by rw [e1]; exact Nat.le_of_ble_eq_true rfl)) (zQ rfl)
 have ok2 : ∀ d ∈ l1 ++ [D.lst [.tup [b1, zN T]], .lst [.tup [b2, zN T]]], DB m n d := λ d md => (zzK.mp md).elim (ok1 d) (zaX (P := DB m n) ⟨xG (an1 (zoX hb1.1)), Yl (Ym hb1.2 pT)⟩ ⟨xG (an1 (zoX hb2.1)), Yl (Ym hb2.2 pT)⟩ d)
 have e2 : (l1 ++ [D.lst [.tup [b1, zN T]], .lst [.tup [b2, zN T]]]).length = 12 := by rw [zzH, e1]; rfl
 generalize l1 ++ [D.lst [.tup [b1, zN T]], .lst [.tup [b2, zN T]]] = l2 at s12 ok2 e2
 have s13 := vY (p := 11) (zbG (as := E12 n m J e x Ds S (sT (zN T)) (sT (.tup [zz, zN T])) (sT (.lst mn)) (sT (.lst l2))) (yc (i := 11) rfl) (yg (zj (yg (zj (wg (zj (xJ (x := zz)) (zj (Wr (yc (i := 8) rfl) (yc (i := 2) rfl) (dv (k := 20) (by decide) (by decide)) wr1) zJ))) zJ)) (zj (yg (zj (wg (zj (xJ (x := zz)) (zj (Wr (yc (i := 8) rfl) (yc (i := 2) rfl) (dv (k := 60) (by decide) (by decide)) wr2) zJ))) zJ)) zJ))) (by rw [e2]; exact Nat.le_of_ble_eq_true rfl)) (zQ rfl)
 have ok3 : ∀ d ∈ l2 ++ [D.lst [.tup [zz, r1]], .lst [.tup [zz, r2]]], DB m n d := λ d md => (zzK.mp md).elim (ok2 d) (zaX (P := DB m n) ⟨vO (it1 (p := .tup [zz, r1]) hr1.1), Yl (Ym Z0 hr1.2)⟩ ⟨vO (it1 (p := .tup [zz, r2]) hr2.1), Yl (Ym Z0 hr2.2)⟩ d)
 have e3 : (l2 ++ [D.lst [.tup [zz, r1]], .lst [.tup [zz, r2]]]).length = 14 := by rw [zzH, e2]; rfl
 generalize l2 ++ [D.lst [.tup [zz, r1]], .lst [.tup [zz, r2]]] = l3 at s13 ok3 e3
 obtain ⟨d, md, w⟩ := Xf (L := 14) (x := x) e3 (by decide) (yc (as := E12 n m J e x Ds S (sT (zN T)) (sT (.tup [zz, zN T])) (sT (.lst mn)) (sT (.lst l3))) (i := 11) rfl) (WD.e (yE (zc (i := 1) rfl) (wj (g := vq) (zP (zc (i := 11) rfl) zU) (by show some (R0.im (.int (l3.length : Int))) = _; rw [e3]) rfl) (by decide)))
 exact ⟨d, ok3 d md, wH rfl (zF (as1 := E12 n m J e x Ds S none none none none) (zkd (WD.e (zc rfl)) rfl) (zF s8 (zF s9 (zF s10 (zF s11 (zF s12 (zF s13 (wz (Zi (yc (i := 2) rfl) (yc (i := 3) rfl) (yc (i := 4) rfl) (yc (i := 5) rfl) w (yc (i := 7) rfl))))))))))⟩
theorem zlQ (A : Alg n m J e Ds) (hl : S.length <= 4) (hs : ∀ p ∈ S, WK p.1 /\ Sgn n p) : ∃ d, SB n d /\ RE (vX [(true, wI n m J e Ds S), (true, .int x)]) (.tup [.int n, .int m, zN J, .int e, .lst (Ds.map yz), d]) := by
 have n1 := A.n1
 have n8 := A.n8
 have pS := zat hl hs
 have pE : PlA (.lst []) := YW (by show 0 <= 1000; omega) λ v mv => nomatch mv
 have l5 : ("abcde" : Str).cps.toList.length = 5 := by decide +kernel
 let B (o8 o9 : Option O) : AS := [sT (wI n m J e Ds S), sI x, sI n, sI m, sT (zN J), sI e, sT (.lst (Ds.map yz)), sT (.lst (S.map yj)), o8, o9]
 have s8 := vY (as := B none none) (p := 8) (zmt (t := "abcde") (cap := [none]) (f := zZ dN) (w := .lst []) (by rw [l5]; omega) λ c => ⟨[sT (.str ⟨#[c]⟩)], rfl, rfl, yg zJ⟩) (zQ rfl)
 have pM := zkj (t := "abcde") (by rw [l5]; omega) pE
 have aM := zkV (w := .lst []) (k := 4) l5 (by decide)
 generalize ("abcde" : Str).cps.toList.map (zjL (.lst [])) = mn at s8 pM aM
 have zE : ∀ {as : AS}, WE (zZ dN) as (.lst []) := yg zJ
 have L := yg (as := B (sT (.lst mn)) none) (zj (zrS (i := 7) rfl) (zj (xJ (x := .non)) (zj zia (zj (yc (i := 8) rfl) (zj (yg (zj (wg (zj (xJ (x := zz)) (zj zE zJ))) (zj (wg (zj (xJ (x := zz)) (zj (yg (zj (xJ (x := .int 0)) zJ)) zJ))) zJ))) (zj (yg (zj (wg (zj (xJ (x := zz)) zJ)) zJ)) (zj (yg (zj (yg (zj (xJ (x := zz)) (zj zE zJ))) zJ)) (zj (yg (zj (wg (zj (xJ (x := zz)) (zj zE (zj (xJ (x := .int 0)) zJ)))) zJ)) (zj (yg (zj (xJ (x := .non)) zJ)) zJ)))))))))
 have s9 := vY (p := 9) L (zQ rfl)
 have ok1 : ∀ d ∈ [D.tup (S.map yj), .non, .dct [], .lst mn, .lst [.tup [zz, .lst []], .tup [zz, .lst [.int 0]]], .lst [.tup [zz]], .lst [.lst [zz, .lst []]], .lst [.tup [zz, .lst [], .int 0]], .lst [.non]], SB n d := λ d md => by
  simp only [zzA, List.not_mem_nil, or_false] at md
  rcases md with rfl | rfl | rfl | rfl | rfl | rfl | rfl | rfl | rfl
  · exact ⟨rfl, YX pS.ls.1 pS.ls.2⟩
  · exact ⟨rfl, Y7⟩
  · exact ⟨rfl, zeu⟩
  · exact ⟨xG aM, pM⟩
  · exact ⟨xG zpw, zgH (Ym Z0 pE) (Ym Z0 (Yl ye))⟩
  · exact ⟨xG (an1 rfl), Yl (zeH Z0)⟩
  · exact ⟨xG (an1 rfl), Yl (zgH Z0 pE)⟩
  · exact ⟨xG (an1 rfl), Yl (YX (by show 3 <= 1000; omega) λ v mv => by
     rcases zzA.mp mv with rfl | mv
     · exact Z0
     · exact zaX pE ye v mv)⟩
  · exact ⟨xG (an1 rfl), Yl Y7⟩
 have e1 : ([D.tup (S.map yj), .non, .dct [], .lst mn, .lst [.tup [zz, .lst []], .tup [zz, .lst [.int 0]]], .lst [.tup [zz]], .lst [.lst [zz, .lst []]], .lst [.tup [zz, .lst [], .int 0]], .lst [.non]] : List D).length = 9 := rfl
 generalize [D.tup (S.map yj), .non, .dct [], .lst mn, .lst [.tup [zz, .lst []], .tup [zz, .lst [.int 0]]], .lst [.tup [zz]], .lst [.lst [zz, .lst []]], .lst [.tup [zz, .lst [], .int 0]], .lst [.non]] = l1 at s9 ok1 e1
 obtain ⟨b1, hb1, wb1⟩ := zfv (x := x / 20)
 obtain ⟨o1, ho1, wo1⟩ := zke (n := n) (x := x / 20)
 have dv : ∀ {o : Option O}, WE (f2 zV (fC (.int 20)) zL) (B (sT (.lst mn)) o) (.int (x / 20)) := WD.e (zjK (zc (i := 1) rfl) (by decide) (by decide))
 have s10 := vY (p := 9) (zbG (as := B (sT (.lst mn)) (sT (.lst l1))) (yc (i := 9) rfl) (yg (zj (yg (zj (wg (zj (zfb dv wb1) (zj zE zJ))) zJ)) (zj (yg (zj (wg (zj (xJ (x := zz)) (zj (yg (zj (xJ (x := .int 0)) (zj (xJ (x := .int 0)) zJ))) zJ))) zJ)) (zj (yg (zj (wg (zj (xJ (x := zz)) (zj (yg (zj (WD.e (Wm (zc (i := 2) rfl) (zg (x := .int 1)))) (zj (WD.e (Wm (zc (i := 2) rfl) (zg (x := .int 2)))) zJ))) zJ))) zJ)) (zj (yg (zj (wg (zj (xJ (x := zz)) (zj (wg (zj (xJ (x := .int 0)) zJ)) zJ))) zJ)) zJ))))) (by rw [e1]; exact Nat.le_of_ble_eq_true rfl)) (zQ rfl)
 have ok2 : ∀ d ∈ l1 ++ [D.lst [.tup [b1, .lst []]], .lst [.tup [zz, .lst [.int 0, .int 0]]], .lst [.tup [zz, .lst [.int ((n : Int) - 1), .int ((n : Int) - 2)]]], .lst [.tup [zz, .tup [.int 0]]]], SB n d := λ d md => (zzK.mp md).elim (ok1 d) λ md => by
  simp only [zzA, List.not_mem_nil, or_false] at md
  rcases md with rfl | rfl | rfl | rfl
  · exact ⟨xG (an1 (zoX hb1.1)), Yl (Ym hb1.2 pE)⟩
  · exact ⟨vO (it1 (vO rfl)), Yl (Ym Z0 (zgH ye ye))⟩
  · exact ⟨vO (it1 (vO (by show (decide ((n : Int) - 1 < (n : Int) - 2) && true) = false; rw [decide_eq_false (by omega)]; rfl))), Yl (Ym Z0 (zgH ye ye))⟩
  · exact ⟨vO (it1 rfl), Yl (Ym Z0 (zeH ye))⟩
 have e2 : (l1 ++ [D.lst [.tup [b1, .lst []]], .lst [.tup [zz, .lst [.int 0, .int 0]]], .lst [.tup [zz, .lst [.int ((n : Int) - 1), .int ((n : Int) - 2)]]], .lst [.tup [zz, .tup [.int 0]]]]).length = 13 := by rw [zzH, e1]; rfl
 generalize l1 ++ [D.lst [.tup [b1, .lst []]], .lst [.tup [zz, .lst [.int 0, .int 0]]], .lst [.tup [zz, .lst [.int ((n : Int) - 1), .int ((n : Int) - 2)]]], .lst [.tup [zz, .tup [.int 0]]]] = l2 at s10 ok2 e2
 have rg : ∀ {o : Option O}, WE (fP (aC (f2 yr yo zx) aN) lrP) (B (sT (.lst mn)) o) (yC (Wo (n + 1))) := λ {o} => by
  have p := zhe (as := B (sT (.lst mn)) o) (a := f2 yr yo zx) (x := .int ((n : Int) + 1)) (g := lrP) (zs := (Wo (n + 1)).map D.int) (WD.e (xO (zc (i := 2) rfl) zg)) (by
   have q0 : (0 : Int) <= (n : Int) + 1 /\ (n : Int) + 1 <= 100000 := ⟨by omega, by omega⟩
   have q1 : ((n : Int) + 1).toNat = n + 1 := by omega
   simp only [lrP]
   rw [if_pos q0, List.map_map, q1]; rfl)
  exact ⟨_, p, zgM _, congrArg D.lst (zgz _)⟩
 have rgB : Xh n (yC (Wo (n + 1))) = false := by
  show ((Wo (n + 1)).map D.int).all (wiB 0 ((n : Int) - 1)) = false
  rw [show (Wo (n + 1)).map D.int = (Wo n).map D.int ++ [.int (n : Int)] ++ [] by rw [List.append_nil]; unfold Wo; rw [List.range_succ, List.map_append, List.map_append]; rfl]
  exact zeg (zkH (by omega))
 have s11 := vY (p := 9) (zbG (as := B (sT (.lst mn)) (sT (.lst l2))) (yc (i := 9) rfl) (yg (zj (yg (zj (wg (zj (xJ (x := zz)) (zj (yg (zj (Xz (yc (i := 2) rfl) dv wo1) zJ)) zJ))) zJ)) (zj (yg (zj (wg (zj (xJ (x := zz)) (zj (xJ (x := .non)) zJ))) zJ)) (zj (yg (zj (wg (zj (xJ (x := zz)) (zj rg zJ))) zJ)) (zj (yg (zj (wg (zj (xJ (x := zz)) (zj (xJ (x := .str "0")) zJ))) zJ)) zJ))))) (by rw [e2]; exact Nat.le_of_ble_eq_true rfl)) (zQ rfl)
 have ok3 : ∀ d ∈ l2 ++ [D.lst [.tup [zz, .lst [o1]]], .lst [.tup [zz, .non]], .lst [.tup [zz, yC (Wo (n + 1))]], .lst [.tup [zz, .str "0"]]], SB n d := λ d md => (zzK.mp md).elim (ok2 d) λ md => by
  simp only [zzA, List.not_mem_nil, or_false] at md
  rcases md with rfl | rfl | rfl | rfl
  · exact ⟨vO (it1 (xG (by show (wiB 0 ((n : Int) - 1) o1 && true) = false; rw [ho1.1]; rfl))), Yl (Ym Z0 (Yl ho1.2))⟩
  · exact ⟨vO (it1 rfl), Yl (Ym Z0 Y7)⟩
  · exact ⟨vO (it1 (xG rgB)), Yl (Ym Z0 (zft (by rw [zI, List.length_range]; omega)))⟩
  · exact ⟨vO (it1 rfl), Yl (Ym Z0 (vV (by decide)))⟩
 have e3 : (l2 ++ [D.lst [.tup [zz, .lst [o1]]], .lst [.tup [zz, .non]], .lst [.tup [zz, yC (Wo (n + 1))]], .lst [.tup [zz, .str "0"]]]).length = 17 := by rw [zzH, e2]; rfl
 generalize l2 ++ [D.lst [.tup [zz, .lst [o1]]], .lst [.tup [zz, .non]], .lst [.tup [zz, yC (Wo (n + 1))]], .lst [.tup [zz, .str "0"]]] = l3 at s11 ok3 e3
 obtain ⟨d, md, w⟩ := Xf (L := 17) (x := x) e3 (by decide) (yc (as := B (sT (.lst mn)) (sT (.lst l3))) (i := 9) rfl) (WD.e (yE (zc (i := 1) rfl) (wj (g := vq) (zP (zc (i := 9) rfl) zU) (by show some (R0.im (.int (l3.length : Int))) = _; rw [e3]) rfl) (by decide)))
 exact ⟨d, ok3 d md, wH rfl (zF (as1 := B none none) (zkd (WD.e (zc rfl)) rfl) (zF s8 (zF s9 (zF s10 (zF s11 (wz (Zi (yc (i := 2) rfl) (yc (i := 3) rfl) (yc (i := 4) rfl) (yc (i := 5) rfl) (yc (i := 6) rfl) w)))))))⟩
end
theorem zns {xs ys : List D} (h : xs.length + ys.length <= 1000) : Z3 .Add (.tup xs) (.tup ys) = some (.im (.tup (xs ++ ys))) := if_pos (szs (by omega))
theorem zlI {n : Nat} (h : n <= 8) : ∃ s : Str, s.length <= 1000 /\ zkS [.int (n : Int)] = some (.im (.str s)) := by
 have : n = 0 \/ n = 1 \/ n = 2 \/ n = 3 \/ n = 4 \/ n = 5 \/ n = 6 \/ n = 7 \/ n = 8 := by omega
 have q : ∀ k : Nat, k <= 8 -> (toString (k : Int) : Str).length <= 1000 := by decide +kernel
 refine ⟨toString (n : Int), q n h, ?_⟩
 rcases this with rfl | rfl | rfl | rfl | rfl | rfl | rfl | rfl | rfl <;> rfl
section
variable {n m : Nat} {J : TZ} {e x : Int} {Ds : DZ} {S : SS}
theorem zjd {q : Int} {b e' ds ss : D} (A : Alg n m J e Ds) (h : q ≠ n) : zbS (.tup [.int q, b, zN J, e', ds, ss]) = false := by
 have : zbH q q (zN J) = false := by
  show ((((J.map yC).length : Int) == q) && _) = false
  rw [zI, A.j.1, beq_eq_false_iff_ne.mpr (λ z => h z.symm)]; rfl
 cases b with
 | int i =>
  show (_ && _ && al6 q i (zN J) e' ds ss) = false
  refine vO ?_
  unfold al6
  exact xG (xG (xG (xG this)))
 | _ => rfl
theorem zsm {b j e' ds ss : D} (h : wiB 1 6 b = false) : zbS (.tup [.int n, b, j, e', ds, ss]) = false := by
 cases b with
 | int i => exact xG (vO h)
 | _ => rfl
abbrev NA (d : D) : Prop := zbS d = false /\ PlA d
abbrev Q10 (n m : Nat) (J : TZ) (e : Int) (Ds : DZ) (S : SS) (y w : Int) (o9 : Option O) : AS := [sT (wI n m J e Ds S), sI y, sI n, sI m, sT (zN J), sI e, sT (.lst (Ds.map yz)), sT (.lst (S.map yj)), sI w, o9]
theorem zkb (A : Alg n m J e Ds) (hd : ∀ p ∈ Ds, WK p.1) (hl : S.length <= 4) (hs : ∀ p ∈ S, WK p.1 /\ Sgn n p) : ∃ d, NA d /\ RE (vB [(true, wI n m J e Ds S), (true, .int x)]) d := by
 have n1 := A.n1
 have n8 := A.n8
 have pJ := zmD A
 have pD := zaf A hd
 have pS := zat hl hs
 have p6 : ∀ v ∈ [D.int n, .int m, zN J, .int e, .lst (Ds.map yz), .lst (S.map yj)], PlA v := (zbW ye ye pJ ye pD pS).tp.2
 have s8 := wD (st := true) (i := 8) (as := [sT (wI n m J e Ds S), sI x, sI n, sI m, sT (zN J), sI e, sT (.lst (Ds.map yz)), sT (.lst (S.map yj)), none, none]) (yE (zc (i := 1) rfl) (zg (x := .int 9)) (by decide)) (zQ rfl)
 have s1 := wD (st := true) (i := 1) (as := Q10 n m J e Ds S x (x % 9) none) (zjK (zc (i := 1) rfl) (k := 9) (by decide) (by decide)) (zQ rfl)
 generalize x % 9 = w at s8 s1
 generalize x / 9 = y at s1
 have v0 : ∀ {o9}, WD zM (Q10 n m J e Ds S y w o9) true (wI n m J e Ds S) := zc (i := 0) rfl
 have L := yg (as := Q10 n m J e Ds S y w none) (zj (x := .lst [.int n, .int m, zN J, .int e, .lst (Ds.map yz), .lst (S.map yj)]) ⟨_, zhe (g := lstP) (WD.e v0) rfl, zgM _, congrArg D.lst (zgz _)⟩ (zj (x := .tup [.int n, .int m, zN J, .int e, .lst (Ds.map yz)]) (WD.e (zaC (fl := oN) (lo := none) (hi := some 5) (g := slP) v0 rfl (Zd (zg (x := .int 5))) rfl)) (zj (x := .tup ([.int n, .int m, zN J, .int e, .lst (Ds.map yz), .lst (S.map yj)] ++ [.int 0])) (WD.e (f2E (g := Z3 .Add) (WD.e v0) (wg (zj (xJ (x := .int 0)) zJ)) (zns (xs := [.int n, .int m, zN J, .int e, .lst (Ds.map yz), .lst (S.map yj)]) (ys := [.int 0]) (Nat.le_of_ble_eq_true rfl)))) (zj (wg (zj (yc (i := 2) rfl) (zj (yc (i := 3) rfl) (zj (yc (i := 4) rfl) (zj (yc (i := 5) rfl) (zj (yc (i := 6) rfl) (zj (yc (i := 7) rfl) (zj (yg zJ) zJ)))))))) (zj (x := .tup [.int m, zN J, .int e, .lst (Ds.map yz), .lst (S.map yj)]) (WD.e (zaC (fh := oN) (lo := some 1) (hi := none) (g := slP) v0 (Zd (zg (x := .int 1))) rfl rfl)) (zj (wg zJ) zJ))))))
 have s9 := vY (p := 9) L (zQ rfl)
 have pE : PlA (.lst []) := YW (by show 0 <= 1000; omega) λ v mv => nomatch mv
 have ok0 : ∀ d ∈ [D.lst [.int n, .int m, zN J, .int e, .lst (Ds.map yz), .lst (S.map yj)], .tup [.int n, .int m, zN J, .int e, .lst (Ds.map yz)], .tup ([.int n, .int m, zN J, .int e, .lst (Ds.map yz), .lst (S.map yj)] ++ [.int 0]), .tup [.int n, .int m, zN J, .int e, .lst (Ds.map yz), .lst (S.map yj), .lst []], .tup [.int m, zN J, .int e, .lst (Ds.map yz), .lst (S.map yj)], .tup []], NA d := λ d md => by
  simp only [zzA, List.not_mem_nil, or_false] at md
  rcases md with rfl | rfl | rfl | rfl | rfl | rfl
  · exact ⟨rfl, YW (by show 6 <= 1000; omega) p6⟩
  · exact ⟨rfl, YX (by show 5 <= 1000; omega) λ v mv => p6 v (zzN [D.lst (S.map yj)] mv)⟩
  · exact ⟨rfl, YX (by show 7 <= 1000; omega) λ v mv => (zzK.mp mv).elim (p6 v) λ mv => by rw [zzP.mp mv]; exact ye⟩
  · exact ⟨rfl, YX (by show 7 <= 1000; omega) λ v mv => (zzK.mp (show v ∈ [D.int n, .int m, zN J, .int e, .lst (Ds.map yz), .lst (S.map yj)] ++ [.lst []] from mv)).elim (p6 v) λ mv => by rw [zzP.mp mv]; exact pE⟩
  · exact ⟨rfl, YX (by show 5 <= 1000; omega) λ v mv => p6 v (zzB _ mv)⟩
  · exact ⟨rfl, YX (by show 0 <= 1000; omega) λ v mv => nomatch mv⟩
 have e0 : ([D.lst [.int n, .int m, zN J, .int e, .lst (Ds.map yz), .lst (S.map yj)], .tup [.int n, .int m, zN J, .int e, .lst (Ds.map yz)], .tup ([.int n, .int m, zN J, .int e, .lst (Ds.map yz), .lst (S.map yj)] ++ [.int 0]), .tup [.int n, .int m, zN J, .int e, .lst (Ds.map yz), .lst (S.map yj), .lst []], .tup [.int m, zN J, .int e, .lst (Ds.map yz), .lst (S.map yj)], .tup []] : List D).length = 6 := rfl
 generalize [D.lst [.int n, .int m, zN J, .int e, .lst (Ds.map yz), .lst (S.map yj)], .tup [.int n, .int m, zN J, .int e, .lst (Ds.map yz)], .tup ([.int n, .int m, zN J, .int e, .lst (Ds.map yz), .lst (S.map yj)] ++ [.int 0]), .tup [.int n, .int m, zN J, .int e, .lst (Ds.map yz), .lst (S.map yj), .lst []], .tup [.int m, zN J, .int e, .lst (Ds.map yz), .lst (S.map yj)], .tup []] = l0 at s9 ok0 e0
 have c : ∀ k : Int, WT (fT (f2 (fV 8) (fC (.int k)) (yZ .Eq))) (Q10 n m J e Ds S y w (sT (.lst l0))) (w == k) := λ k => yx (wk (zc (i := 8) rfl) zg rfl) rfl
 have y8 : WE (f2 zV vM zG) (Q10 n m J e Ds S y w (sT (.lst l0))) (.int (y % ((8 : Nat) : Int))) := WD.e (yE (zc (i := 1) rfl) (zg (x := .int 8)) (by decide))
 have go : ∀ {r : SF} {d : D}, Rt (r (Q10 n m J e Ds S y w (sT (.lst l0)))) d -> Rt (zR (zdg zM (gT 6 (gsC (gN 2) (gsC (gN 3) (gsC zeb (gsC (gN 5) (gsC (gN 6) (gsC (gN 7) gsN)))))))) (zR (yq true 8 (f2 zV (fC (.int 9)) zG)) (zR (yq true 1 (f2 zV (fC (.int 9)) zL)) (zR (yq true 9 (zZ (dC (fP vI lstP) (dC (fSl zM oN (oS zdY) slP) (dC (f2 zM (yw (dC yN dN)) zx) (dC (yw (dC yr (dC yP (dC xu (dC Zh (dC Zq (dC v4 (dC (zZ dN) dN)))))))) (dC (fSl zM (oS yo) oN slP) (dC (yw dN) dN)))))))) r))) (Yo 10 [(true, wI n m J e Ds S), (true, .int x)])) d := λ h => zF (as1 := [sT (wI n m J e Ds S), sI x, sI n, sI m, sT (zN J), sI e, sT (.lst (Ds.map yz)), sT (.lst (S.map yj)), none, none]) (zkd (WD.e (zc rfl)) rfl) (zF s8 (zF s1 (zF s9 h)))
 have c0 := c 0
 have c1 := c 1
 have c2 := c 2
 have c34 : WT (Xi (fT (f2 (fV 8) vC (yZ .Eq))) (fT (f2 (fV 8) ZD (yZ .Eq)))) (Q10 n m J e Ds S y w (sT (.lst l0))) (w == 3 || w == 4) := WX (k := w == 3) (c 3) (λ h => by rw [h, Bool.false_or]; exact c 4) λ h => by rw [h]; rfl
 have c5 := c 5
 have c8 : WT (fT (f2 (fV 8) vM (yZ .Lt))) (Q10 n m J e Ds S y w (sT (.lst l0))) (decide (w < 8)) := yx (zdm (zc (i := 8) rfl) zg) rfl
 cases h0 : (w == 0) with
 | true =>
  rw [h0] at c0
  obtain ⟨d, md, wd⟩ := Xf (L := 6) (x := y) e0 (by decide) (yc (as := Q10 n m J e Ds S y w (sT (.lst l0))) (i := 9) rfl) (WD.e (yE (zc (i := 1) rfl) (wj (g := vq) (zP (zc (i := 9) rfl) zU) (by show some (R0.im (.int (l0.length : Int))) = _; rw [e0]) rfl) (by decide)))
  exact ⟨d, ok0 d md, wH rfl (go (vD (Zr c0 (wz wd))))⟩
 | false =>
  rw [h0] at c0
  cases h1 : (w == 1) with
  | true =>
   rw [h1] at c1
   obtain ⟨s, sl, es⟩ := zlI n8
   have L1 := yg (as := Q10 n m J e Ds S y w (sT (.lst l0))) (zj (WD.e (xO (zc (i := 2) rfl) (zg (x := .int 1)))) (zj (WD.e (Wm (zc (i := 2) rfl) (zg (x := .int 1)))) (zj (xJ (x := .bl true)) (zj (xJ (x := .int 0)) (zj (xJ (x := .int 9)) (zj (WD.e (zbk (zc (i := 2) rfl))) (zj (WD.e (zjl (yc (i := 2) rfl) es)) (zj (xJ (x := .non)) zJ))))))))
   obtain ⟨d, md, wd⟩ := Xf (L := 8) (x := y) rfl (by decide) L1 y8
   refine ⟨_, ⟨?_, zbW (a := d) ?_ ye pJ ye pD pS⟩, wH rfl (go (zF (yI c0 rfl) (vD (Zr c1 (wz (Zi wd (yc (i := 3) rfl) (yc (i := 4) rfl) (yc (i := 5) rfl) (yc (i := 6) rfl) (yc (i := 7) rfl)))))))⟩
   · simp only [zzA, List.not_mem_nil, or_false] at md
     rcases md with rfl | rfl | rfl | rfl | rfl | rfl | rfl | rfl
     · exact zjd A (by omega)
     · exact zjd A (by omega)
     · rfl
     · exact zjd A (by omega)
     · exact zjd A (by omega)
     · exact zjd A (by omega)
     · rfl
     · rfl
   · simp only [zzA, List.not_mem_nil, or_false] at md
     rcases md with rfl | rfl | rfl | rfl | rfl | rfl | rfl | rfl
     · exact ye
     · exact ye
     · exact zib
     · exact ye
     · exact ye
     · exact ye
     · exact vV sl
     · exact Y7
  | false =>
   rw [h1] at c1
   cases h2 : (w == 2) with
   | true =>
    rw [h2] at c2
    have xm : WD (f2 zV (f2 (fC (.int 10)) (fC (.int 30)) (Z3 .Pow)) zG) (Q10 n m J e Ds S y w (sT (.lst l0))) true (.int (y % 10 ^ 30)) := yE (zc (i := 1) rfl) zpL (by decide)
    have x0 := Int.emod_nonneg y (show (10 ^ 30 : Int) ≠ 0 by decide)
    generalize y % 10 ^ 30 = z at xm x0
    have L1 := yg (as := Q10 n m J e Ds S y w (sT (.lst l0))) (zj (xJ (x := .int 0)) (zj (xJ (x := .int 7)) (zj (WD.e (zbk (zg (x := .int 1)))) (zj (xJ (x := .bl true)) (zj (xJ (x := .str "1")) (zj (xJ (x := .non)) (zj (yg (zj (xJ (x := .int 1)) zJ)) (zj (WD.e (xO (zg (x := .int 7)) xm)) zJ))))))))
    obtain ⟨d, md, wd⟩ := Xf (L := 8) (x := y) rfl (by decide) L1 y8
    have hd' : wiB 1 6 d = false /\ PlA d := by
     simp only [zzA, List.not_mem_nil, or_false] at md
     rcases md with rfl | rfl | rfl | rfl | rfl | rfl | rfl | rfl
     · exact ⟨rfl, ye⟩
     · exact ⟨rfl, ye⟩
     · exact ⟨rfl, ye⟩
     · exact ⟨rfl, zib⟩
     · exact ⟨rfl, vV (by decide)⟩
     · exact ⟨rfl, Y7⟩
     · exact ⟨rfl, Yl ye⟩
     · exact ⟨zkH (by omega), ye⟩
    exact ⟨_, ⟨zsm hd'.1, zbW ye hd'.2 pJ ye pD pS⟩, wH rfl (go (zF (yI c0 rfl) (zF (yI c1 rfl) (vD (Zr c2 (wz (Zi (yc (i := 2) rfl) wd (yc (i := 4) rfl) (yc (i := 5) rfl) (yc (i := 6) rfl) (yc (i := 7) rfl))))))))⟩
   | false =>
    rw [h2] at c2
    have go2 : ∀ {r : SF} {d : D}, Rt (r (Q10 n m J e Ds S y w (sT (.lst l0)))) d -> ∀ {f g h : SF}, Rt (zR (sIf (fT (f2 (fV 8) yN (yZ .Eq))) f sNx) (zR (sIf (fT (f2 (fV 8) yo (yZ .Eq))) g sNx) (zR (sIf (fT (f2 (fV 8) wG (yZ .Eq))) h sNx) r)) (Q10 n m J e Ds S y w (sT (.lst l0)))) d := by
     intro r d hr f g h
     exact zF (yI c0 rfl) (zF (yI c1 rfl) (zF (yI c2 rfl) hr))
    cases h3 : (w == 3 || w == 4) with
    | true =>
     rw [h3] at c34
     obtain ⟨d, hd', wr⟩ := zeI (x := y) n1 n8 n1 n8 A.j
     refine ⟨_, ⟨?_, zbW ye ye hd'.2 ye pD pS⟩, wH rfl (go (go2 (vD (Zr c34 (wz (Zi (yc (i := 2) rfl) (yc (i := 3) rfl) (Wr (yc (i := 4) rfl) (yc (i := 2) rfl) (yc (i := 1) rfl) wr) (yc (i := 5) rfl) (yc (i := 6) rfl) (yc (i := 7) rfl)))))))⟩
     rw [zcy A]; unfold al6
     exact xG (xG (xG (xG hd'.1)))
    | false =>
     rw [h3] at c34
     cases h5 : (w == 5) with
     | true =>
      rw [h5] at c5
      obtain ⟨d, hd', wr⟩ := zke (n := n) (x := y)
      refine ⟨_, ⟨?_, zbW ye ye pJ hd'.2 pD pS⟩, wH rfl (go (go2 (zF (yI c34 rfl) (vD (Zr c5 (wz (Zi (yc (i := 2) rfl) (yc (i := 3) rfl) (yc (i := 4) rfl) (Xz (yc (i := 2) rfl) (yc (i := 1) rfl) wr) (yc (i := 6) rfl) (yc (i := 7) rfl))))))))⟩
      rw [zcy A]; unfold al6
      exact xG (xG (xG (vO hd'.1)))
     | false =>
      rw [h5] at c5
      cases h8 : decide (w < 8) with
      | true =>
       rw [h8] at c8
       obtain ⟨d, hd', wr⟩ := zlN (x := y) (S := S) A hd
       refine ⟨_, ⟨?_, zbW ye ye pJ ye hd'.2 pS⟩, wH rfl (go (go2 (zF (yI c34 rfl) (zF (yI c5 rfl) (vD (Zr c8 (wz (Xz (WD.e v0) (yc (i := 1) rfl) wr))))))))⟩
       rw [zcy A]; unfold al6
       cases ha : anB 6 d with
       | false => exact xG (xG (vO (xG rfl)))
       | true =>
        have := hd'.1
        rw [ha, Bool.true_and] at this
        exact xG (vO this)
      | false =>
       rw [h8] at c8
       obtain ⟨d, hd', wr⟩ := zlQ (x := y) A hl hs
       refine ⟨_, ⟨?_, zbW ye ye pJ ye pD hd'.2⟩, wH rfl (go (go2 (zF (yI c34 rfl) (zF (yI c5 rfl) (zF (yI c8 rfl) (wz (Xz (WD.e v0) (yc (i := 1) rfl) wr)))))))⟩
       rw [zcy A]; unfold al6
       cases ha : anB 4 d with
       | false => exact xG (xG (vO (vO rfl)))
       | true =>
        have := hd'.1
        rw [ha, Bool.true_and] at this
        exact vO this
end
theorem eqI {k : Nat} {a : Int} : eqF (k + 1) (.int a) (.int a) = some true := by show some (a == a) = _; simp
theorem eqS {k : Nat} {a : Str} : eqF (k + 1) (.str a) (.str a) = some true := by show some (a == a) = _; simp
theorem eqR {k : Nat} {r : List Int} : eqF (k + 2) (yC r) (yC r) = some true := by
 show eqL (eqF (k + 1)) (r.map D.int) (r.map D.int) = _
 refine YG λ x m => ?_
 obtain ⟨i, _, rfl⟩ := List.mem_map.mp m
 exact eqI
theorem eqT {k : Nat} {T : TZ} : eqF (k + 3) (zN T) (zN T) = some true := by
 show eqL (eqF (k + 2)) (T.map yC) (T.map yC) = _
 refine YG λ x m => ?_
 obtain ⟨i, _, rfl⟩ := List.mem_map.mp m
 exact eqR
theorem ztd {k : Nat} {p : Str × TZ} : eqF (k + 4) (yz p) (yz p) = some true := by
 show eqL (eqF (k + 3)) [.str p.1, zN p.2] [.str p.1, zN p.2] = _
 refine YG λ x m => ?_
 rcases zzA.mp m with rfl | m
 · exact eqS
 rcases zzA.mp m with rfl | m
 · exact eqT
 · exact nomatch m
theorem zsY {k : Nat} {p : Str × List Int} : eqF (k + 3) (yj p) (yj p) = some true := by
 show eqL (eqF (k + 2)) [.str p.1, yC p.2] [.str p.1, yC p.2] = _
 refine YG λ x m => ?_
 rcases zzA.mp m with rfl | m
 · exact eqS
 rcases zzA.mp m with rfl | m
 · exact eqR
 · exact nomatch m
theorem ztF {k : Nat} {Ds : DZ} : eqF (k + 5) (.lst (Ds.map yz)) (.lst (Ds.map yz)) = some true := by
 show eqL (eqF (k + 4)) (Ds.map yz) (Ds.map yz) = _
 refine YG λ x m => ?_
 obtain ⟨i, _, rfl⟩ := List.mem_map.mp m
 exact ztd
theorem zsQ {k : Nat} {S : SS} : eqF (k + 4) (.lst (S.map yj)) (.lst (S.map yj)) = some true := by
 show eqL (eqF (k + 3)) (S.map yj) (S.map yj) = _
 refine YG λ x m => ?_
 obtain ⟨i, _, rfl⟩ := List.mem_map.mp m
 exact zsY
theorem eqA {n m : Nat} {J : TZ} {e : Int} {Ds : DZ} {S : SS} : eqF 60 (wI n m J e Ds S) (wI n m J e Ds S) = some true := by
 show eqL (eqF 59) [.int n, .int m, zN J, .int e, .lst (Ds.map yz), .lst (S.map yj)] [.int n, .int m, zN J, .int e, .lst (Ds.map yz), .lst (S.map yj)] = _
 refine YG λ x m => ?_
 rcases zzA.mp m with rfl | m
 · exact eqI
 rcases zzA.mp m with rfl | m
 · exact eqI
 rcases zzA.mp m with rfl | m
 · exact eqT
 rcases zzA.mp m with rfl | m
 · exact eqI
 rcases zzA.mp m with rfl | m
 · exact ztF
 rcases zzA.mp m with rfl | m
 · exact zsQ
 · exact nomatch m
theorem zoc {ns : List Int} {k : Int} {s t : Bool} (hk : 0 <= k) : ∃ x, xr [(s, .lst (ns.map .int)), (t, .int k)] = sT (.int x) := by
 by_cases h : k < ((ns.map D.int).length : Int)
 · obtain ⟨x, hx⟩ := zoh (ns := ns) hk (by rw [zI] at h; exact h)
   exact ⟨x, ZX rfl (zhN (zam (yx (zdm (zc rfl) (wj (zP (zc rfl) zU) rfl rfl)) (congrArg some (decide_eq_true h))) (ZM (yd (zc rfl) (zc rfl) hx rfl))))⟩
 · exact ⟨0, ZX rfl (xT (yI (yx (zdm (zc rfl) (wj (zP (zc rfl) zU) rfl rfl)) (congrArg some (decide_eq_false h))) rfl) (ZM zg))⟩
def GA (A : D) : Prop := ∃ n m J e Ds S, A = wI n m J e Ds S /\ Alg n m J e Ds /\ (∀ p ∈ Ds, WK p.1) /\ S.length <= 4 /\ (∀ p ∈ S, WK p.1 /\ Sgn n p) /\ (Ds.map (·.1) ++ S.map (·.1)).Nodup
section
variable {A F B : D} {ns : List Int}
theorem GA.copy (h : GA A) : RE (vz [(true, A)]) A := by
 obtain ⟨n, m, J, e, Ds, S, rfl, hA, hd, hl, hs, nd⟩ := h
 exact zoP hA hl
theorem GA.eq (h : GA A) : eqF 60 A A = some true := by
 obtain ⟨n, m, J, e, Ds, S, rfl, _⟩ := h
 exact eqA
theorem GA.good (h : GA A) : zbS A = true /\ PlA A := by
 obtain ⟨n, m, J, e, Ds, S, rfl, hA, hd, hl, hs, nd⟩ := h
 exact ⟨zhX hA hd hl hs (List.nodup_append.mp nd).2.1, zbW ye ye (zmD hA) ye (zaf hA hd) (zat hl hs)⟩
theorem GA.spoil (h : GA A) (x : Int) : ∃ d, NA d /\ RE (vB [(true, A), (true, .int x)]) d := by
 obtain ⟨n, m, J, e, Ds, S, rfl, hA, hd, hl, hs, nd⟩ := h
 exact zkb hA hd hl hs
abbrev W (ns : List Int) (A F : D) (a3 a4 a5 a6 a7 a8 : Option O) : AS := [sT (.lst (ns.map D.int)), sT A, sT F, a3, a4, a5, a6, a7, a8, none, none, none, none, none, none, none, none]
theorem zko {as : AS} {k : Int} (hk : 0 <= k) (h : as[0]? = some (sT (.lst (ns.map D.int)))) : ∃ c, WD (zX (aC zM (aC (fC (.int k)) aN)) xr) as true (.int c) := by
 obtain ⟨c, hc⟩ := zoc (ns := ns) (k := k) (s := true) (t := true) hk
 exact ⟨c, zky (zP (zc h) (zP zg zU)) hc⟩
theorem zmL {as : AS} {a : EF} {d : D} (h : zbS d = true /\ PlA d) (ha : WE a as d) : WT (wQ (fT (zX (aC a (aC (fC (.bl true)) aN)) xF))) as false := Yh (k := true) (yx (zcR ha xJ (zkK h.2 h.1)) rfl)
theorem zmB {as : AS} {a : EF} {d : D} (h : NA d) (ha : WE a as d) : WT (wQ (fT (zX (aC a (aC (fC (.bl false)) aN)) xF))) as false := Yh (k := true) (yx (zcR ha xJ (zkK h.2 h.1)) rfl)
abbrev in1 : SF := zR (yq true 6 (f2 (f2 (f2 (zX (aC Zh (aC yo aN)) yp) yN ixP) (fC (.int 2147483399)) zY) (f2 Zh (f2 (fC (.int 10)) (fC (.int 40)) (Z3 .Pow)) zG) zx))
 (sIf (wQ (fT (zX (aC (zX (aC (zX zad vz) (aC Zq aN)) vB) (aC (fC (.bl false)) aN)) xF))) (yX (fC (.bl false))) sNx)
abbrev zse : SF := zR (yq true 4 (zX zad vz))
 (zR (sIf (Xi (wQ (fT (zX (aC xu (aC (fC (.bl true)) aN)) xF))) (fT (f2 xu yP (yZ .NotEq)))) (yX (fC (.bl false))) sNx)
 (Wx (ziO (f2 (zZ (dC (zX (aC zM (aC vC aN)) xr) dN)) (fSl zM (oS ZD) (oS (fC (.int 34))) slP) zx)) (gN 5) in1))
theorem zqT {c : Int} {a4 a6 : Option O} (h : GA B) : ∃ a6', in1 (W ns A F (sT B) a4 (sI c) a6 none none) = some (.nx (W ns A F (sT B) a4 (sI c) a6' none none)) := by
 obtain ⟨xs, xl, hx, ws⟩ := stE (as := W ns A F (sT B) a4 (sI c) a6 none none) (a := fV 5) (b := fC (.int 1)) (c := c) (m := 1) (by omega) (yc (i := 5) rfl) xJ
 obtain ⟨x0, h0, hx0⟩ := at2 hx (k := 0) (by omega) (by omega)
 have p40 : WD (f2 (fC (.int 10)) (fC (.int 40)) (Z3 .Pow)) (W ns A F (sT B) a4 (sI c) a6 none none) true (.int (10 ^ 40)) := zno zg zg (by decide)
 have s6 := wD (st := true) (i := 6) (xO (vR (f2E ws (xJ (x := .int 0)) h0) (zg (x := .int 2147483399)) (yK (Int.lt_of_lt_of_le (by decide) hx0.1) (Int.lt_trans hx0.2 (by decide))) (yK (by decide) (by decide))) (yE (zc (i := 5) rfl) p40 (by decide))) (zQ rfl)
 generalize x0 * 2147483399 + c % 10 ^ 40 = y at s6
 obtain ⟨d, hd, wd⟩ := h.spoil y
 exact ⟨_, xT s6 (yI (zmB hd (Xz (zfb (yc (i := 3) rfl) h.copy) (yc (i := 6) rfl) wd)) rfl)⟩
theorem zos {a4 a5 a6 : Option O} (hns : ns.length <= 63) (h : GA B) : ∃ a5' a6', zse (W ns A F (sT B) a4 a5 a6 none none) = some (.nx (W ns A F (sT B) (sT B) a5' a6' none none)) := by
 have s4 := vY (as := W ns A F (sT B) a4 a5 a6 none none) (p := 4) (zfb (yc (i := 3) rfl) h.copy) (zQ rfl)
 have t : WT (Xi (wQ (fT (zX (aC xu (aC (fC (.bl true)) aN)) xF))) (fT (f2 xu yP (yZ .NotEq)))) (W ns A F (sT B) (sT B) a5 a6 none none) false := WX (k := false) (zmL h.good (yc (i := 4) rfl)) (λ _ => yx (zrT (c := true) (zc (i := 4) rfl) (zc (i := 3) rfl) h.eq) rfl) λ z => nomatch z
 obtain ⟨c3, h3⟩ := zko (ns := ns) (as := W ns A F (sT B) (sT B) a5 a6 none none) (k := 3) (by decide) rfl
 obtain ⟨ks, kl, ck⟩ := zot D.int ns (some 4) (some 34)
 have sl : WE (fSl zM (oS ZD) (oS (fC (.int 34))) slP) (W ns A F (sT B) (sT B) a5 a6 none none) (yC ks) :=
  Vf (lo := some 4) (hi := some 34) (yc (i := 0) rfl) (Zd zg) (Zd zg) (by show some (R0.fl (PF.cutD (ns.map D.int) (some 4) (some 34))) = _; rw [ck])
 have sa := zbG (yg (zj (WD.e h3) zJ)) sl (by show 1 + _ <= 1000; rw [zI]; omega)
 obtain ⟨as', hl, a5', a6', rfl⟩ := wZ (g := gN 5) (f := in1) (λ _ as => ∃ a5 a6, as = W ns A F (sT B) (sT B) a5 a6 none none) (([D.int c3] ++ ks.map D.int).map λ d => (true, d)) 0 (W ns A F (sT B) (sT B) a5 a6 none none) (λ i x as hx hI => by
  obtain ⟨a5, a6, rfl⟩ := hI
  rw [show [D.int c3] ++ ks.map D.int = (c3 :: ks).map D.int from rfl, List.map_map, zzG] at hx
  cases hq : (c3 :: ks)[i]? with
  | none => rw [hq] at hx; cases hx
  | some c =>
   rw [hq] at hx
   cases hx
   obtain ⟨a6', hB⟩ := zqT (ns := ns) (A := A) (F := F) (c := c) (a4 := sT B) (a6 := a6) h
   exact ⟨W ns A F (sT B) (sT B) (sI c) a6 none none, rfl, _, hB, _, _, rfl⟩) ⟨a5, a6, rfl⟩
 exact ⟨a5', a6', xT s4 (xT (yI t rfl) (ZP (zhl sa) hl))⟩
theorem zpk {a3 a4 a5 a6 : Option O} : ∃ z a8, PlA (.tup [z]) /\ forL (gN 8) (yq true 7 (f2 (zZ (dC (yw (dC v4 dN)) (dC (zZ (dC v4 dN)) dN))) (f2 (fV 8) wG zG) ixP)) (v6 0 55) (W ns A F a3 a4 a5 a6 (sT (.tup [.int 0])) none) = some (.nx (W ns A F a3 a4 a5 a6 (sT (.tup [z])) a8)) := by
 obtain ⟨as', hf, d, a8, rfl, pd, hq⟩ := wZ (g := gN 8) (f := yq true 7 (f2 (zZ (dC (yw (dC v4 dN)) (dC (zZ (dC v4 dN)) dN))) (f2 (fV 8) wG zG) ixP)) (λ i as => ∃ d a8, as = W ns A F a3 a4 a5 a6 (sT d) a8 /\ PlA d /\ (i % 2 = 1 -> ∃ z, d = .tup [z])) (v6 0 55) 0 (W ns A F a3 a4 a5 a6 (sT (.tup [.int 0])) none) (λ i x as hx hI => by
  obtain ⟨d, a8, rfl, pd, _⟩ := hI
  obtain ⟨rfl, hi⟩ := Xx hx
  have L := yg (as := W ns A F a3 a4 a5 a6 (sT d) (sI (0 + i))) (zj (wg (zj (yc (i := 7) rfl) zJ)) (zj (yg (zj (yc (i := 7) rfl) zJ)) zJ))
  have wm : WE (f2 (fV 8) wG zG) (W ns A F a3 a4 a5 a6 (sT d) (sI (0 + i))) (.int ((0 + i) % 2)) := WD.e (yE (zc (i := 8) rfl) zg (by decide))
  refine ⟨W ns A F a3 a4 a5 a6 (sT d) (sI (0 + i)), rfl, ?_⟩
  rcases (show (0 + (i : Int)) % 2 = 0 \/ (0 + (i : Int)) % 2 = 1 by omega) with q | q
  · rw [q] at wm
    exact ⟨_, vY (p := 7) (WD.e (f2E (g := ixP) L wm rfl)) (zQ rfl), .tup [d], _, rfl, zeH pd, λ _ => ⟨d, rfl⟩⟩
  · rw [q] at wm
    exact ⟨_, vY (p := 7) (WD.e (f2E (g := ixP) L wm rfl)) (zQ rfl), .lst [d], _, rfl, Yl pd, λ z => by omega⟩) ⟨_, none, rfl, zeH ye, λ z => by omega⟩
 obtain ⟨z, rfl⟩ := hq (by rw [Zc])
 exact ⟨z, a8, pd, hf⟩
end
theorem znt {as : AS} {i : Nat} {xs : List D} (h : as[i]? = some (sT (.lst xs))) : WT (fT (f2 (fV i) (zZ dN) (yZ .NotEq))) as (!xs.isEmpty) := by
 refine yx (f2E (g := yZ .NotEq) (z := .bl (!xs.isEmpty)) (yc h) (yg zJ) ?_) rfl
 cases xs <;> rfl
section
variable {ns : List Int} {A F : D} {n m : Nat} {J : TZ} {e : Int} {Ds : DZ} {S : SS} {a3 a4 a5 a6 a8 a15 a16 : Option O} {z : D}
abbrev V (ns : List Int) (A F : D) (a3 a4 a5 a6 : Option O) (dp : D) (a8 : Option O) (n m : Nat) (J : TZ) (e : Int) (Ds : DZ) (S : SS) (a15 a16 : Option O) : AS := [sT (.lst (ns.map D.int)), sT A, sT F, a3, a4, a5, a6, sT dp, a8, sI n, sI m, sT (zN J), sI e, sT (.lst (Ds.map yz)), sT (.lst (S.map yj)), a15, a16]
theorem zrm {d : D} (n1 : 1 <= n) (h : Xh n d = false) : zbH n n (.lst (List.replicate (n : Int).toNat [d]).flatten) = false := by
 rw [Int.toNat_natCast, List.flatten_replicate_singleton]
 obtain ⟨k, rfl⟩ : ∃ k, n = k + 1 := ⟨n - 1, by omega⟩
 show (_ && ([] ++ [d] ++ List.replicate k d).all (λ r => Xh _ r && zhD _ r)) = false
 exact vO (zeg (xG h))
theorem zlE (hA : Alg n m J e Ds) (hd : ∀ p ∈ Ds, WK p.1) (hl : S.length <= 4) (hs : ∀ p ∈ S, WK p.1 /\ Sgn n p) (pz : PlA (.tup [z])) : ∃ (zs : List D) (a3' : Option O), (∀ d ∈ zs, NA d) /\ zs.length = 5 /\
 yq true 3 (zZ (dC v4 (dC (yw (dC v4 (dC (fV 10) (dC vQ (dC (fV 12) (dC (fV 13) (dC (fV 14) dN))))))) (dC (yw (dC (fV 9) (dC (fV 10) (dC (f2 (zZ (dC v4 dN)) (fV 9) zY) (dC (fV 12) (dC (fV 13) (dC (fV 14) dN))))))) dN)))) (V ns A F a3 a4 a5 a6 (.tup [z]) a8 n m J e Ds S none none) = some (.nx (V ns A F a3' a4 a5 a6 (.tup [z]) a8 n m J e Ds S none none)) /\
 yq false 3 (f2 yP (zZ (dC (yw (dC (fV 9) (dC (fV 10) (dC vQ (dC v4 (dC (fV 13) (dC (fV 14) dN))))))) (dC (yw (dC (fV 9) (dC (fV 10) (dC vQ (dC (fV 12) (dC (zZ (dC (yw (dC v4 (dC (zZ dN) dN))) dN)) (dC (fV 14) dN))))))) dN))) zx) (V ns A F a3' a4 a5 a6 (.tup [z]) a8 n m J e Ds S none none) = some (.nx (V ns A F (sN (zs.map (O.lf true))) a4 a5 a6 (.tup [z]) a8 n m J e Ds S none none)) := by
 have n1 := hA.n1
 have n8 := hA.n8
 have pJ := zmD hA
 have pD := zaf hA hd
 have pS := zat hl hs
 have pE : PlA (.lst []) := YW (by show 0 <= 1000; omega) λ v mv => nomatch mv
 have rp : ∀ {as : AS}, as[7]? = some (sT (.tup [z])) -> as[9]? = some (sI n) -> WE (f2 (zZ (dC v4 dN)) (fV 9) zY) as (.lst (List.replicate (n : Int).toNat [D.tup [z]]).flatten) := λ h h' => zlB (g := Z3 .Mult) (yg (zj (yc h) zJ)) (yc h') (zkp ⟨(zA n8).1, (zA n8).2, szs (by rw [List.length_singleton]; omega)⟩)
 have pR : PlA (.lst (List.replicate (n : Int).toNat [D.tup [z]]).flatten) := by
  rw [Int.toNat_natCast, List.flatten_replicate_singleton]
  exact YW (by rw [List.length_replicate]; omega) λ v mv => by rw [List.eq_of_mem_replicate mv]; exact pz
 have nR := zrm (n := n) (d := .tup [z]) n1 rfl
 generalize (List.replicate (n : Int).toNat [D.tup [z]]).flatten = rs at rp pR nR
 have s1 := vY (as := V ns A F a3 a4 a5 a6 (.tup [z]) a8 n m J e Ds S none none) (p := 3) (yg (zj (yc (i := 7) rfl) (zj (Zi (yc (i := 7) rfl) (yc (i := 10) rfl) (yc (i := 11) rfl) (yc (i := 12) rfl) (yc (i := 13) rfl) (yc (i := 14) rfl)) (zj (Zi (yc (i := 9) rfl) (yc (i := 10) rfl) (rp rfl rfl) (yc (i := 12) rfl) (yc (i := 13) rfl) (yc (i := 14) rfl)) zJ)))) (zQ rfl)
 have ok1 : ∀ d ∈ [D.tup [z], .tup [.tup [z], .int m, zN J, .int e, .lst (Ds.map yz), .lst (S.map yj)], .tup [.int n, .int m, .lst rs, .int e, .lst (Ds.map yz), .lst (S.map yj)]], NA d := λ d md => by
  simp only [zzA, List.not_mem_nil, or_false] at md
  rcases md with rfl | rfl | rfl
  · exact ⟨rfl, pz⟩
  · exact ⟨rfl, zbW pz ye pJ ye pD pS⟩
  · refine ⟨?_, zbW ye ye pR ye pD pS⟩
    rw [zcy hA]; unfold al6
    exact xG (xG (xG (xG nR)))
 have e1 : ([D.tup [z], .tup [.tup [z], .int m, zN J, .int e, .lst (Ds.map yz), .lst (S.map yj)], .tup [.int n, .int m, .lst rs, .int e, .lst (Ds.map yz), .lst (S.map yj)]] : List D).length = 3 := rfl
 generalize [D.tup [z], .tup [.tup [z], .int m, zN J, .int e, .lst (Ds.map yz), .lst (S.map yj)], .tup [.int n, .int m, .lst rs, .int e, .lst (Ds.map yz), .lst (S.map yj)]] = l1 at s1 ok1 e1
 have L2 := yg (as := V ns A F (sT (.lst l1)) a4 a5 a6 (.tup [z]) a8 n m J e Ds S none none) (zj (Zi (yc (i := 9) rfl) (yc (i := 10) rfl) (yc (i := 11) rfl) (yc (i := 7) rfl) (yc (i := 13) rfl) (yc (i := 14) rfl)) (zj (Zi (yc (i := 9) rfl) (yc (i := 10) rfl) (yc (i := 11) rfl) (yc (i := 12) rfl) (yg (zj (wg (zj (yc (i := 7) rfl) (zj (yg zJ) zJ))) zJ)) (yc (i := 14) rfl)) zJ))
 refine ⟨l1 ++ [.tup [.int n, .int m, zN J, .tup [z], .lst (Ds.map yz), .lst (S.map yj)], .tup [.int n, .int m, zN J, .int e, .lst [.tup [.tup [z], .lst []]], .lst (S.map yj)]], sT (.lst l1), λ d md => (zzK.mp md).elim (ok1 d) λ md => ?_, by rw [zzH, e1]; rfl, s1, v8 (i := 3) (f2L (g := Z3 .Add) (yc (i := 3) rfl) L2 (add_lists (szs (by rw [e1]; exact Nat.le_of_ble_eq_true rfl)))) (zQ rfl)⟩
 refine zaX (P := NA) ⟨?_, zbW ye ye pJ pz pD pS⟩ ⟨?_, zbW ye ye pJ ye (Yl (Ym pz pE)) pS⟩ d md
 · rw [zcy hA]; unfold al6
   exact xG (xG (xG (vO rfl)))
 · rw [zcy hA]; unfold al6
   exact xG (xG (vO (xG (an1 (zoX rfl)))))
abbrev shB : SF := sIf (zgn (fT (f2 (fV 13) (zZ dN) (yZ .NotEq))) (fT (f2 (fV 14) (zZ dN) (yZ .NotEq)))) (zR (yq true 15 (f2 (zZ (dC (yw (dC (f2 (f2 (fV 13) yN ixP) yN ixP) (dC (f2 (f2 (fV 14) yN ixP) yo ixP) dN))) dN)) (fSl (fV 14) (oS yo) oN slP) zx))
 (zR (wM (vL 3 (dC (yw (dC (fV 9) (dC (fV 10) (dC vQ (dC (fV 12) (dC (fV 13) (dC (f2 (fV 15) (fSl (fV 15) oN (oS yo) slP) zx) dN))))))) dN) vJ))
 (sIf (wQ (fT (zX (aC (yw (dC (fV 9) (dC (fV 10) (dC vQ (dC (fV 12) (dC (fV 13) (dC (fV 15) dN))))))) (aC (fC (.bl true)) aN)) xF))) (yX (fC (.bl false))) sNx))) sNx
theorem zna {k : Int} {s0 : Str × List Int} {S1 : SS} (h : s0.1 ∈ S1.map (·.1)) : anB k (.lst (S1.map yj ++ [yj s0])) = false := by
 show (_ && (_ && ((Z2 ((S1.map yj ++ [yj s0]).map nameS) : Int) == ((S1.map yj ++ [yj s0]).length : Int)))) = false
 have := zmG h
 rw [show (S1.map yj ++ [yj s0]).map nameS = S1.map (·.1) ++ [s0.1] by rw [List.map_append, List.map_map]; rfl]
 refine vO (vO (beq_eq_false_iff_ne.mpr λ z => ?_))
 simp only [zzH, zI, List.length_singleton] at this z
 omega
theorem znm {zs : List D} (hA : Alg n m J e Ds) (hd : ∀ p ∈ Ds, WK p.1) (hl : S.length <= 4) (hs : ∀ p ∈ S, WK p.1 /\ Sgn n p) (nd : (Ds.map (·.1) ++ S.map (·.1)).Nodup) (hz : ∀ d ∈ zs, NA d) (zl : zs.length = 5) : ∃ os l a15', Ows (λ d : D => d) NA os l /\ l.length <= 6 /\ shB (V ns A F (sN (zs.map (O.lf true))) a4 a5 a6 (.tup [z]) a8 n m J e Ds S none none) = some (.nx (V ns A F (sN os) a4 a5 a6 (.tup [z]) a8 n m J e Ds S a15' none)) := by
 have ho : Ows (λ d : D => d) NA (zs.map (O.lf true)) zs := ⟨zgM zs, by rw [zgz, List.map_id'], hz, by rw [zI]⟩
 have t1 := znt (as := V ns A F (sN (zs.map (O.lf true))) a4 a5 a6 (.tup [z]) a8 n m J e Ds S none none) (i := 13) rfl
 have t2 := znt (as := V ns A F (sN (zs.map (O.lf true))) a4 a5 a6 (.tup [z]) a8 n m J e Ds S none none) (i := 14) rfl
 cases Ds with
 | nil => exact ⟨_, zs, none, ho, by omega, yI (zdc (k := false) t1 (λ q => nomatch q) λ _ => rfl) rfl⟩
 | cons p Dr =>
  cases S with
  | nil => exact ⟨_, zs, none, ho, by omega, yI (zdc (k := true) t1 (λ _ => t2) λ q => nomatch q) rfl⟩
  | cons q Sr =>
   have pD := zaf hA hd
   have hS1 : ∀ s ∈ (p.1, q.2) :: Sr, WK s.1 /\ Sgn n s := λ s ms => (zzA.mp ms).elim (λ e => by rw [e]; exact ⟨hd p zzD, (hs q zzD).2⟩) λ ms => hs s (zzB _ ms)
   have hl1 : ((p.1, q.2) :: Sr).length <= 4 := hl
   have nd1 : (((p.1, q.2) :: Sr).map (·.1)).Nodup := by
    have h2 := (zzU.mp (List.nodup_append.mp nd).2.1).2
    refine zzU.mpr ⟨λ mz => ?_, h2⟩
    exact (List.nodup_append.mp nd).2.2 p.1 zzD p.1 (zzB _ mz) rfl
   have pS1 := zat hl1 hS1
   have g13 : WE (f2 (f2 (fV 13) yN ixP) yN ixP) (V ns A F (sN (zs.map (O.lf true))) a4 a5 a6 (.tup [z]) a8 n m J e (p :: Dr) (q :: Sr) none none) (.str p.1) := WD.e (w5 (w5 (zc (i := 13) rfl) zg (zhr (f := yz) (l := p :: Dr) (i := 0) rfl)) zg ix0)
   have g14 : WE (f2 (f2 (fV 14) yN ixP) yo ixP) (V ns A F (sN (zs.map (O.lf true))) a4 a5 a6 (.tup [z]) a8 n m J e (p :: Dr) (q :: Sr) none none) (yC q.2) := WD.e (w5 (w5 (zc (i := 14) rfl) zg (zhr (f := yj) (l := q :: Sr) (i := 0) rfl)) (zg (x := .int 1)) rfl)
   have sl : WE (fSl (fV 14) (oS yo) oN slP) (V ns A F (sN (zs.map (O.lf true))) a4 a5 a6 (.tup [z]) a8 n m J e (p :: Dr) (q :: Sr) none none) (.lst (Sr.map yj)) := Vf (lo := some 1) (hi := none) (yc (i := 14) rfl) (Zd (zg (x := .int 1))) rfl (ziB (xs := [yj q]) (ys := Sr.map yj))
   have hln : Sr.length <= 3 := by have : (q :: Sr).length = Sr.length + 1 := rfl; omega
   have s15 := vY (p := 15) (zbG (yg (zj (wg (zj g13 (zj g14 zJ))) zJ)) sl (by rw [zI]; show 1 + _ <= 1000; omega)) (zQ rfl)
   have v15 : WE (fV 15) (V ns A F (sN (zs.map (O.lf true))) a4 a5 a6 (.tup [z]) a8 n m J e (p :: Dr) (q :: Sr) (sT (.lst (((p.1, q.2) :: Sr).map yj))) none) (.lst (((p.1, q.2) :: Sr).map yj)) := yc (i := 15) rfl
   have s1 : WE (fSl (fV 15) oN (oS yo) slP) (V ns A F (sN (zs.map (O.lf true))) a4 a5 a6 (.tup [z]) a8 n m J e (p :: Dr) (q :: Sr) (sT (.lst (((p.1, q.2) :: Sr).map yj))) none) (.lst [yj (p.1, q.2)]) := Vf (lo := none) (hi := some 1) v15 rfl (Zd (zg (x := .int 1))) (zjH (xs := [yj (p.1, q.2)]) (ys := Sr.map yj))
   have nx : NA (.tup [.int n, .int m, zN J, .int e, .lst ((p :: Dr).map yz), .lst (((p.1, q.2) :: Sr).map yj ++ [yj (p.1, q.2)])]) := by
    refine ⟨?_, zbW ye ye (zmD hA) ye pD (zjQ (by rw [zI]; show _ + 1 <= 1000; omega) pS1.ls.2 λ v mv => by rw [zzP.mp mv]; exact pS1.ls.2 _ zzD)⟩
    rw [zcy hA]; unfold al6
    exact xG (xG (vO (vO (zna zzD))))
   obtain ⟨os', o1, o2⟩ := ziI (as := V ns A F (sN (zs.map (O.lf true))) a4 a5 a6 (.tup [z]) a8 n m J e (p :: Dr) (q :: Sr) (sT (.lst (((p.1, q.2) :: Sr).map yj))) none) (i := 3) (toD := λ d : D => d) (Q := NA) rfl ho (by omega) (Zi (yc (i := 9) rfl) (yc (i := 10) rfl) (yc (i := 11) rfl) (yc (i := 12) rfl) (yc (i := 13) rfl) (zbG v15 s1 (by rw [zI]; show _ + 1 <= 1000; omega))) nx
   exact ⟨os', _, _, o1, by rw [zzH, zl]; exact zzL _, zam (zdc (k := true) t1 (λ _ => t2) λ q => nomatch q) (xT s15 (xT o2 (yI (zmL ⟨zhX hA hd hl1 hS1 nd1, zbW ye ye (zmD hA) ye pD pS1⟩ (Zi (yc (i := 9) rfl) (yc (i := 10) rfl) (yc (i := 11) rfl) (yc (i := 12) rfl) (yc (i := 13) rfl) (yc (i := 15) rfl))) rfl)))⟩
end
theorem znx (ns : List Int) (hns : ns.length <= 63) : zej [(true, .lst (ns.map .int))] = sT (.bl true) := by
 obtain ⟨c0, h0⟩ := zko (ns := ns) (as := Yo 17 [(true, .lst (ns.map .int))]) (k := 0) (by decide) rfl
 obtain ⟨c1, h1⟩ := zko (ns := ns) (as := Yo 17 [(true, .lst (ns.map .int))]) (k := 1) (by decide) rfl
 obtain ⟨n, m, J, e, Ds, S, ⟨hA, N⟩, wA⟩ := zkf (c := c0) (c' := c1)
 have s1 := vY (p := 1) (Xz (WD.e h0) (WD.e h1) wA) (zQ rfl)
 obtain ⟨c2, h2⟩ := zko (ns := ns) (as := (Yo 17 [(true, .lst (ns.map .int))]).set 1 (sT (wI n m J e Ds S))) (k := 2) (by decide) rfl
 obtain ⟨J', e', D', hA', hn', wF⟩ := znU (S := S) (c := c2) hA
 have s2 := vY (as := (Yo 17 [(true, .lst (ns.map .int))]).set 1 (sT (wI n m J e Ds S))) (p := 2) (Xz (yc (i := 1) rfl) (WD.e h2) wF) (zQ rfl)
 have gA : GA (wI n m J e Ds S) := ⟨n, m, J, e, Ds, S, rfl, hA, N.d, N.l, N.s, N.nd⟩
 have gF : GA (wI n m J' e' D' S) := ⟨n, m, J', e', D', S, rfl, hA', λ p mp => by
  have : p.1 ∈ Ds.map (·.1) := by rw [<- hn']; exact List.mem_map_of_mem mp
  obtain ⟨q, mq, hq⟩ := List.mem_map.mp this
  rw [<- hq]; exact N.d q mq, N.l, N.s, by rw [hn']; exact N.nd⟩
 generalize wI n m J' e' D' S = F at s2 gF
 have L := yg (as := W ns (wI n m J e Ds S) F none none none none none none) (zj (yc (i := 1) rfl) (zj (yc (i := 2) rfl) zJ))
 obtain ⟨as', hl, a3, a4, a5, a6, rfl⟩ := wZ (g := gN 3) (f := zse) (λ _ as => ∃ a3 a4 a5 a6, as = W ns (wI n m J e Ds S) F a3 a4 a5 a6 none none) ([wI n m J e Ds S, F].map λ d => (true, d)) 0 (W ns (wI n m J e Ds S) F none none none none none none) (λ i x as hx hI => by
  obtain ⟨a3, a4, a5, a6, rfl⟩ := hI
  have mx := List.mem_of_getElem? hx
  obtain ⟨B, mB, rfl⟩ := List.mem_map.mp mx
  have gB : GA B := zaX (P := GA) gA gF B mB
  obtain ⟨a5', a6', hB⟩ := zos (ns := ns) (A := wI n m J e Ds S) (F := F) (a4 := a4) (a5 := a5) (a6 := a6) hns gB
  exact ⟨W ns (wI n m J e Ds S) F (sT B) a4 a5 a6 none none, rfl, _, hB, _, _, _, _, rfl⟩) ⟨none, none, none, none, rfl⟩
 have s7 := vY (as := W ns (wI n m J e Ds S) F a3 a4 a5 a6 none none) (p := 7) (wg (zj (xJ (x := .int 0)) zJ)) (zQ rfl)
 obtain ⟨z, a8, pz, hdp⟩ := zpk (ns := ns) (A := wI n m J e Ds S) (F := F) (a3 := a3) (a4 := a4) (a5 := a5) (a6 := a6)
 have r55 := Yz (as := W ns (wI n m J e Ds S) F a3 a4 a5 a6 (sT (.tup [.int 0])) none) (zP (zg (x := .int 55)) zU) (by decide) (by decide)
 obtain ⟨zs, a3', hz, zl, t1, t2⟩ := zlE (ns := ns) (A := wI n m J e Ds S) (F := F) (a3 := a3) (a4 := a4) (a5 := a5) (a6 := a6) (a8 := a8) hA N.d N.l N.s pz
 obtain ⟨os, l, a15, ho, ll, sh⟩ := znm (ns := ns) (A := wI n m J e Ds S) (F := F) (a4 := a4) (a5 := a5) (a6 := a6) (a8 := a8) (z := z) hA N.d N.l N.s N.nd hz zl
 have fz := ho.frz
 rw [List.map_id'] at fz
 have L6 := zbG (as := V ns (wI n m J e Ds S) F (sT (.lst l)) a4 a5 a6 (.tup [z]) a8 n m J e Ds S a15 none) (yc (i := 3) rfl) (yg (zj (xJ (x := .non)) (zj (xJ (x := .int 0)) (zj (xJ (x := .str "")) (zj (wg zJ) (zj (yg zJ) (zj zia zJ))))))) (by show _ + 6 <= 1000; omega)
 have ok : ∀ d ∈ l ++ [D.non, .int 0, .str "", .tup [], .lst [], .dct []], NA d := λ d md => (zzK.mp md).elim (ho.al d) λ md => by
  simp only [zzA, List.not_mem_nil, or_false] at md
  rcases md with rfl | rfl | rfl | rfl | rfl | rfl
  · exact ⟨rfl, Y7⟩
  · exact ⟨rfl, ye⟩
  · exact ⟨rfl, vV (by decide)⟩
  · exact ⟨rfl, YX (by show 0 <= 1000; omega) λ v mv => nomatch mv⟩
  · exact ⟨rfl, YW (by show 0 <= 1000; omega) λ v mv => nomatch mv⟩
  · exact ⟨rfl, zeu⟩
 generalize l ++ [D.non, .int 0, .str "", .tup [], .lst [], .dct []] = ls at L6 ok
 obtain ⟨as', hl2, a16, rfl⟩ := wZ (g := gN 16) (f := sIf (wQ (fT (zX (aC (fV 16) (aC (fC (.bl false)) aN)) xF))) (yX (fC (.bl false))) sNx) (λ _ as => ∃ a16, as = V ns (wI n m J e Ds S) F (sT (.lst l)) a4 a5 a6 (.tup [z]) a8 n m J e Ds S a15 a16) (ls.map λ d => (true, d)) 0 (V ns (wI n m J e Ds S) F (sT (.lst l)) a4 a5 a6 (.tup [z]) a8 n m J e Ds S a15 none) (λ i x as hx hI => by
  obtain ⟨a16, rfl⟩ := hI
  obtain ⟨d, md, rfl⟩ := List.mem_map.mp (List.mem_of_getElem? hx)
  exact ⟨V ns (wI n m J e Ds S) F (sT (.lst l)) a4 a5 a6 (.tup [z]) a8 n m J e Ds S a15 (sT d), rfl, _, yI (zmB (ok d md) (yc (i := 16) rfl)) rfl, _, rfl⟩) ⟨none, rfl⟩
 refine ZX rfl (xT s1 (xT s2 (xT (ZP (zhl L) hl) (xT s7 (xT (ZP r55 hdp) (xT (as1 := V ns (wI n m J e Ds S) F a3 a4 a5 a6 (.tup [z]) a8 n m J e Ds S none none) (zkd (yc (i := 1) rfl) rfl) (xT t1 (xT t2 (xT sh ?_)))))))))
 show zR _ _ ((V ns (wI n m J e Ds S) F (sN os) a4 a5 a6 (.tup [z]) a8 n m J e Ds S a15 none).set 3 (some (O.nd .ls os).frz)) = _
 rw [fz]
 exact xT (ZP (zhl L6) hl2) (ZM zg)
end G10
end
namespace G10
open PySem PySem.W PyProof.Rows L2
abbrev kF (n q : Str) (s : Stmt) (pm cd : Value) : Obj := ⟨.type "function", none, .func (fnOf n q (zhA s) (zct s) (zy s) .none .none .none pm none cd .none), #[]⟩
abbrev kC (n : Str) (a : Nat) (q : Str) (b c : Nat) (i3 i4 i5 i6 i7 : Int) (r8 : Addr) (b9 : Bool) (i10 : Int) (r11 r13 r14 r15 : Addr) (i16 i17 : Int) (d : Nat) : Obj := ⟨.type "code", none, .fields #[.str n a, .str q b, .str "/claim/cut.py" c, .int i3 0, .int i4 0, .int i5 0, .int i6 0, .int i7 0, .ref r8, .bool b9, .int i10 0, .ref r11, .none, .ref r13, .ref r14, .ref r15, .int i16 0, .int i17 0, .str "/claim/cut.py" d], #[]⟩
abbrev kD (es : List DictEntry) (n : Nat) : Obj := ⟨.type "dict", none, .dict es.toArray n, #[]⟩
abbrev kE (P : Params) (x : Str) (t : Nat) (v : Value) : DictEntry := ⟨PyData.keyHash P x, .str x t, v⟩
abbrev kR (P : Params) (x : Str) (t : Nat) (a : Addr) : DictEntry := kE P x t (.ref a)
def K (P : Params) : Frag :=
 (nat_lit 3, kD [kE P "__name__" 165 (.str "law_stretchdeeds_k10_what_is_an_algebra" 262), kE P "__doc__" 166 .none, kE P "__package__" 167 .none, kE P "__loader__" 168 (.builtin "__main__.__loader__#opaque"), kE P "__spec__" 169 .none, kR P "__annotations__" 170 6, kR P "__builtins__" 171 4, kE P "__file__" 173 (.str "/claim/cut.py" 172), kE P "__cached__" 174 .none, kR P "is_whole" 195 21, kE P "MOST_VALUES" 199 (.int (8) 198), kE P "MOST_AROUND" 201 (.int (6) 200), kE P "MOST_DEEDS" 203 (.int (6) 202), kE P "MOST_SIGNS" 205 (.int (4) 204), kE P "MOST_LETTERS" 207 (.int (8) 206), kE P "SMALL_LETTERS" 209 (.str "abcdefghijklmnopqrstuvwxyz" 208), kR P "is_name" 215 26, kR P "is_within" 224 33, kR P "is_row" 230 38, kR P "is_table" 236 43, kR P "is_rising" 242 48, kR P "is_named" 249 55, kR P "all_named" 255 60, kR P "is_algebra" 261 65, kR P "_law_cell_at" 271 72, kR P "_law_whole" 278 79, kR P "_law_stream" 289 86, kR P "_law_names" 295 91, kR P "_law_divisor" 303 98, kR P "_law_sums" 309 103, kR P "_law_rising" 315 108, kR P "_law_kept" 321 113, kR P "_law_joins" 327 118, kR P "_law_rows" 333 123, kR P "_law_plain" 339 128, kR P "_law_beside" 345 133, kR P "_law_made" 359 140, kR P "_law_order" 370 147, kR P "_law_signs" 376 152, kR P "_law_algebra" 382 157, kR P "_law_free" 388 162, kR P "_law_copy" 394 167, kR P "_law_odd" 402 174, kR P "_law_bad_rows" 416 181, kR P "_law_bad_name" 423 188, kR P "_law_bad_deeds" 429 193, kR P "_law_bad_signs" 435 198, kR P "_law_spoiled" 451 205, kR P "_law_told" 460 212, kR P "law" 483 219] 50) ::
 (nat_lit 20, kC "is_whole" 189 "is_whole" 190 191 2 1 0 0 3 15 true 181 16 17 18 19 193 2 194) ::
 (nat_lit 21, kF "is_whole" "is_whole" Vj (.str "stretchdeeds.terms" 187) (.ref 20)) ::
 (nat_lit 25, ⟨.type "code", none, .fields #[(.str "is_name" 210), (.str "is_name" 211), (.str "/claim/cut.py" 212), (.int (11) 0), (.int (1) 0), (.int (0) 0), (.int (0) 0), (.int (3) 0), (.ref 22), (.bool true), (.int (181) 0), (.ref 23), .none, .none, .none, (.ref 24), (.int (213) 0), (.int (11) 0), (.str "/claim/cut.py" 214)], #[]⟩) ::
 (nat_lit 26, kF "is_name" "is_name" WF (.str "stretchdeeds.algebras" 196) (.ref 25)) ::
 (nat_lit 32, kC "is_within" 216 "is_within" 217 218 15 3 0 0 3 27 true 181 28 29 30 31 222 15 223) ::
 (nat_lit 33, kF "is_within" "is_within" Wc (.str "stretchdeeds.algebras" 196) (.ref 32)) ::
 (nat_lit 37, ⟨.type "code", none, .fields #[(.str "is_row" 225), (.str "is_row" 226), (.str "/claim/cut.py" 227), (.int (17) 0), (.int (2) 0), (.int (0) 0), (.int (0) 0), (.int (3) 0), (.ref 34), (.bool true), (.int (181) 0), (.ref 35), .none, .none, .none, (.ref 36), (.int (228) 0), (.int (17) 0), (.str "/claim/cut.py" 229)], #[]⟩) ::
 (nat_lit 38, kF "is_row" "is_row" zao (.str "stretchdeeds.algebras" 196) (.ref 37)) ::
 (nat_lit 42, ⟨.type "code", none, .fields #[(.str "is_table" 231), (.str "is_table" 232), (.str "/claim/cut.py" 233), (.int (19) 0), (.int (3) 0), (.int (0) 0), (.int (0) 0), (.int (3) 0), (.ref 39), (.bool true), (.int (181) 0), (.ref 40), .none, .none, .none, (.ref 41), (.int (234) 0), (.int (19) 0), (.str "/claim/cut.py" 235)], #[]⟩) ::
 (nat_lit 43, kF "is_table" "is_table" XH (.str "stretchdeeds.algebras" 196) (.ref 42)) ::
 (nat_lit 47, ⟨.type "code", none, .fields #[(.str "is_rising" 237), (.str "is_rising" 238), (.str "/claim/cut.py" 239), (.int (23) 0), (.int (1) 0), (.int (0) 0), (.int (0) 0), (.int (3) 0), (.ref 44), (.bool true), (.int (181) 0), (.ref 45), .none, .none, .none, (.ref 46), (.int (240) 0), (.int (23) 0), (.str "/claim/cut.py" 241)], #[]⟩) ::
 (nat_lit 48, kF "is_rising" "is_rising" YK (.str "stretchdeeds.algebras" 196) (.ref 47)) ::
 (nat_lit 54, kC "is_named" 243 "is_named" 244 245 25 1 0 0 3 49 true 181 50 51 52 53 247 25 248) ::
 (nat_lit 55, kF "is_named" "is_named" Vd (.str "stretchdeeds.algebras" 196) (.ref 54)) ::
 (nat_lit 59, ⟨.type "code", none, .fields #[(.str "all_named" 250), (.str "all_named" 251), (.str "/claim/cut.py" 252), (.int (27) 0), (.int (2) 0), (.int (0) 0), (.int (0) 0), (.int (3) 0), (.ref 56), (.bool true), (.int (181) 0), (.ref 57), .none, .none, .none, (.ref 58), (.int (253) 0), (.int (27) 0), (.str "/claim/cut.py" 254)], #[]⟩) ::
 (nat_lit 60, kF "all_named" "all_named" ZZ (.str "stretchdeeds.algebras" 196) (.ref 59)) ::
 (nat_lit 64, ⟨.type "code", none, .fields #[(.str "is_algebra" 256), (.str "is_algebra" 257), (.str "/claim/cut.py" 258), (.int (31) 0), (.int (1) 0), (.int (0) 0), (.int (0) 0), (.int (3) 0), (.ref 61), (.bool true), (.int (181) 0), (.ref 62), .none, .none, .none, (.ref 63), (.int (259) 0), (.int (31) 0), (.str "/claim/cut.py" 260)], #[]⟩) ::
 (nat_lit 65, kF "is_algebra" "is_algebra" Zk (.str "stretchdeeds.algebras" 196) (.ref 64)) ::
 (nat_lit 71, kC "_law_cell_at" 264 "_law_cell_at" 265 266 46 2 0 0 3 66 true 181 67 68 69 70 269 46 270) ::
 (nat_lit 72, kF "_law_cell_at" "_law_cell_at" YC (.str "law_stretchdeeds_k10_what_is_an_algebra" 262) (.ref 71)) ::
 (nat_lit 78, kC "_law_whole" 272 "_law_whole" 273 274 50 1 0 0 3 73 true 181 74 75 76 77 276 50 277) ::
 (nat_lit 79, kF "_law_whole" "_law_whole" zap (.str "law_stretchdeeds_k10_what_is_an_algebra" 262) (.ref 78)) ::
 (nat_lit 85, kC "_law_stream" 279 "_law_stream" 280 281 52 2 0 0 3 80 true 181 81 82 83 84 287 52 288) ::
 (nat_lit 86, kF "_law_stream" "_law_stream" Xj (.str "law_stretchdeeds_k10_what_is_an_algebra" 262) (.ref 85)) ::
 (nat_lit 90, ⟨.type "code", none, .fields #[(.str "_law_names" 290), (.str "_law_names" 291), (.str "/claim/cut.py" 292), (.int (59) 0), (.int (2) 0), (.int (0) 0), (.int (0) 0), (.int (3) 0), (.ref 87), (.bool true), (.int (181) 0), (.ref 88), .none, .none, .none, (.ref 89), (.int (293) 0), (.int (59) 0), (.str "/claim/cut.py" 294)], #[]⟩) ::
 (nat_lit 91, kF "_law_names" "_law_names" YD (.str "law_stretchdeeds_k10_what_is_an_algebra" 262) (.ref 90)) ::
 (nat_lit 97, kC "_law_divisor" 296 "_law_divisor" 297 298 68 2 0 0 3 92 true 181 93 94 95 96 301 68 302) ::
 (nat_lit 98, kF "_law_divisor" "_law_divisor" YB (.str "law_stretchdeeds_k10_what_is_an_algebra" 262) (.ref 97)) ::
 (nat_lit 102, ⟨.type "code", none, .fields #[(.str "_law_sums" 304), (.str "_law_sums" 305), (.str "/claim/cut.py" 306), (.int (72) 0), (.int (3) 0), (.int (0) 0), (.int (0) 0), (.int (3) 0), (.ref 99), (.bool true), (.int (181) 0), (.ref 100), .none, .none, .none, (.ref 101), (.int (307) 0), (.int (72) 0), (.str "/claim/cut.py" 308)], #[]⟩) ::
 (nat_lit 103, kF "_law_sums" "_law_sums" X5 (.str "law_stretchdeeds_k10_what_is_an_algebra" 262) (.ref 102)) ::
 (nat_lit 107, ⟨.type "code", none, .fields #[(.str "_law_rising" 310), (.str "_law_rising" 311), (.str "/claim/cut.py" 312), (.int (78) 0), (.int (3) 0), (.int (0) 0), (.int (0) 0), (.int (3) 0), (.ref 104), (.bool true), (.int (181) 0), (.ref 105), .none, .none, .none, (.ref 106), (.int (313) 0), (.int (78) 0), (.str "/claim/cut.py" 314)], #[]⟩) ::
 (nat_lit 108, kF "_law_rising" "_law_rising" Zm (.str "law_stretchdeeds_k10_what_is_an_algebra" 262) (.ref 107)) ::
 (nat_lit 112, ⟨.type "code", none, .fields #[(.str "_law_kept" 316), (.str "_law_kept" 317), (.str "/claim/cut.py" 318), (.int (82) 0), (.int (3) 0), (.int (0) 0), (.int (0) 0), (.int (3) 0), (.ref 109), (.bool true), (.int (181) 0), (.ref 110), .none, .none, .none, (.ref 111), (.int (319) 0), (.int (82) 0), (.str "/claim/cut.py" 320)], #[]⟩) ::
 (nat_lit 113, kF "_law_kept" "_law_kept" Yn (.str "law_stretchdeeds_k10_what_is_an_algebra" 262) (.ref 112)) ::
 (nat_lit 117, ⟨.type "code", none, .fields #[(.str "_law_joins" 322), (.str "_law_joins" 323), (.str "/claim/cut.py" 324), (.int (85) 0), (.int (2) 0), (.int (0) 0), (.int (0) 0), (.int (3) 0), (.ref 114), (.bool true), (.int (181) 0), (.ref 115), .none, .none, .none, (.ref 116), (.int (325) 0), (.int (85) 0), (.str "/claim/cut.py" 326)], #[]⟩) ::
 (nat_lit 118, kF "_law_joins" "_law_joins" vh (.str "law_stretchdeeds_k10_what_is_an_algebra" 262) (.ref 117)) ::
 (nat_lit 122, ⟨.type "code", none, .fields #[(.str "_law_rows" 328), (.str "_law_rows" 329), (.str "/claim/cut.py" 330), (.int (96) 0), (.int (4) 0), (.int (0) 0), (.int (0) 0), (.int (3) 0), (.ref 119), (.bool true), (.int (181) 0), (.ref 120), .none, .none, .none, (.ref 121), (.int (331) 0), (.int (96) 0), (.str "/claim/cut.py" 332)], #[]⟩) ::
 (nat_lit 123, kF "_law_rows" "_law_rows" XS (.str "law_stretchdeeds_k10_what_is_an_algebra" 262) (.ref 122)) ::
 (nat_lit 127, ⟨.type "code", none, .fields #[(.str "_law_plain" 334), (.str "_law_plain" 335), (.str "/claim/cut.py" 336), (.int (104) 0), (.int (5) 0), (.int (0) 0), (.int (0) 0), (.int (3) 0), (.ref 124), (.bool true), (.int (181) 0), (.ref 125), .none, .none, .none, (.ref 126), (.int (337) 0), (.int (104) 0), (.str "/claim/cut.py" 338)], #[]⟩) ::
 (nat_lit 128, kF "_law_plain" "_law_plain" YS (.str "law_stretchdeeds_k10_what_is_an_algebra" 262) (.ref 127)) ::
 (nat_lit 132, ⟨.type "code", none, .fields #[(.str "_law_beside" 340), (.str "_law_beside" 341), (.str "/claim/cut.py" 342), (.int (107) 0), (.int (3) 0), (.int (0) 0), (.int (0) 0), (.int (3) 0), (.ref 129), (.bool true), (.int (181) 0), (.ref 130), .none, .none, .none, (.ref 131), (.int (343) 0), (.int (107) 0), (.str "/claim/cut.py" 344)], #[]⟩) ::
 (nat_lit 133, kF "_law_beside" "_law_beside" Yb (.str "law_stretchdeeds_k10_what_is_an_algebra" 262) (.ref 132)) ::
 (nat_lit 139, kC "_law_made" 346 "_law_made" 347 348 126 3 0 0 3 134 true 181 135 136 137 138 357 126 358) ::
 (nat_lit 140, kF "_law_made" "_law_made" Vr (.str "law_stretchdeeds_k10_what_is_an_algebra" 262) (.ref 139)) ::
 (nat_lit 146, kC "_law_order" 360 "_law_order" 361 362 139 2 0 0 3 141 true 181 142 143 144 145 368 139 369) ::
 (nat_lit 147, kF "_law_order" "_law_order" Wi (.str "law_stretchdeeds_k10_what_is_an_algebra" 262) (.ref 146)) ::
 (nat_lit 151, ⟨.type "code", none, .fields #[(.str "_law_signs" 371), (.str "_law_signs" 372), (.str "/claim/cut.py" 373), (.int (145) 0), (.int (3) 0), (.int (0) 0), (.int (0) 0), (.int (3) 0), (.ref 148), (.bool true), (.int (181) 0), (.ref 149), .none, .none, .none, (.ref 150), (.int (374) 0), (.int (145) 0), (.str "/claim/cut.py" 375)], #[]⟩) ::
 (nat_lit 152, kF "_law_signs" "_law_signs" YQ (.str "law_stretchdeeds_k10_what_is_an_algebra" 262) (.ref 151)) ::
 (nat_lit 156, ⟨.type "code", none, .fields #[(.str "_law_algebra" 377), (.str "_law_algebra" 378), (.str "/claim/cut.py" 379), (.int (150) 0), (.int (2) 0), (.int (0) 0), (.int (0) 0), (.int (3) 0), (.ref 153), (.bool true), (.int (181) 0), (.ref 154), .none, .none, .none, (.ref 155), (.int (380) 0), (.int (150) 0), (.str "/claim/cut.py" 381)], #[]⟩) ::
 (nat_lit 157, kF "_law_algebra" "_law_algebra" vA (.str "law_stretchdeeds_k10_what_is_an_algebra" 262) (.ref 156)) ::
 (nat_lit 161, ⟨.type "code", none, .fields #[(.str "_law_free" 383), (.str "_law_free" 384), (.str "/claim/cut.py" 385), (.int (168) 0), (.int (2) 0), (.int (0) 0), (.int (0) 0), (.int (3) 0), (.ref 158), (.bool true), (.int (181) 0), (.ref 159), .none, .none, .none, (.ref 160), (.int (386) 0), (.int (168) 0), (.str "/claim/cut.py" 387)], #[]⟩) ::
 (nat_lit 162, kF "_law_free" "_law_free" Ys (.str "law_stretchdeeds_k10_what_is_an_algebra" 262) (.ref 161)) ::
 (nat_lit 166, ⟨.type "code", none, .fields #[(.str "_law_copy" 389), (.str "_law_copy" 390), (.str "/claim/cut.py" 391), (.int (176) 0), (.int (1) 0), (.int (0) 0), (.int (0) 0), (.int (3) 0), (.ref 163), (.bool true), (.int (181) 0), (.ref 164), .none, .none, .none, (.ref 165), (.int (392) 0), (.int (176) 0), (.str "/claim/cut.py" 393)], #[]⟩) ::
 (nat_lit 167, kF "_law_copy" "_law_copy" ZR (.str "law_stretchdeeds_k10_what_is_an_algebra" 262) (.ref 166)) ::
 (nat_lit 173, kC "_law_odd" 395 "_law_odd" 396 397 180 2 0 0 3 168 true 181 169 170 171 172 400 180 401) ::
 (nat_lit 174, kF "_law_odd" "_law_odd" zaJ (.str "law_stretchdeeds_k10_what_is_an_algebra" 262) (.ref 173)) ::
 (nat_lit 180, kC "_law_bad_rows" 403 "_law_bad_rows" 404 405 182 3 0 0 3 175 true 181 176 177 178 179 414 182 415) ::
 (nat_lit 181, kF "_law_bad_rows" "_law_bad_rows" Yc (.str "law_stretchdeeds_k10_what_is_an_algebra" 262) (.ref 180)) ::
 (nat_lit 187, kC "_law_bad_name" 417 "_law_bad_name" 418 419 192 1 0 0 3 182 true 181 183 184 185 186 421 192 422) ::
 (nat_lit 188, kF "_law_bad_name" "_law_bad_name" Yi (.str "law_stretchdeeds_k10_what_is_an_algebra" 262) (.ref 187)) ::
 (nat_lit 192, ⟨.type "code", none, .fields #[(.str "_law_bad_deeds" 424), (.str "_law_bad_deeds" 425), (.str "/claim/cut.py" 426), (.int (194) 0), (.int (2) 0), (.int (0) 0), (.int (0) 0), (.int (3) 0), (.ref 189), (.bool true), (.int (181) 0), (.ref 190), .none, .none, .none, (.ref 191), (.int (427) 0), (.int (194) 0), (.str "/claim/cut.py" 428)], #[]⟩) ::
 (nat_lit 193, kF "_law_bad_deeds" "_law_bad_deeds" vd (.str "law_stretchdeeds_k10_what_is_an_algebra" 262) (.ref 192)) ::
 (nat_lit 197, ⟨.type "code", none, .fields #[(.str "_law_bad_signs" 430), (.str "_law_bad_signs" 431), (.str "/claim/cut.py" 432), (.int (203) 0), (.int (2) 0), (.int (0) 0), (.int (0) 0), (.int (3) 0), (.ref 194), (.bool true), (.int (181) 0), (.ref 195), .none, .none, .none, (.ref 196), (.int (433) 0), (.int (203) 0), (.str "/claim/cut.py" 434)], #[]⟩) ::
 (nat_lit 198, kF "_law_bad_signs" "_law_bad_signs" vW (.str "law_stretchdeeds_k10_what_is_an_algebra" 262) (.ref 197)) ::
 (nat_lit 204, kC "_law_spoiled" 436 "_law_spoiled" 437 438 210 2 0 0 3 199 true 181 200 201 202 203 449 210 450) ::
 (nat_lit 205, kF "_law_spoiled" "_law_spoiled" Yw (.str "law_stretchdeeds_k10_what_is_an_algebra" 262) (.ref 204)) ::
 (nat_lit 211, kC "_law_told" 452 "_law_told" 453 454 228 2 0 0 3 206 true 181 207 208 209 210 458 228 459) ::
 (nat_lit 212, kF "_law_told" "_law_told" W4 (.str "law_stretchdeeds_k10_what_is_an_algebra" 262) (.ref 211)) ::
 (nat_lit 218, kC "law" 461 "law" 462 463 231 1 0 0 3 213 true 181 214 215 216 217 481 231 482) ::
 (nat_lit 219, kF "law" "law" zku (.str "law_stretchdeeds_k10_what_is_an_algebra" 262) (.ref 218)) ::
 []
def kA : List Addr := [3, 20, 21, 25, 26, 32, 33, 37, 38, 42, 43, 47, 48, 54, 55, 59, 60, 64, 65, 71, 72, 78, 79, 85, 86, 90, 91, 97, 98, 102, 103, 107, 108, 112, 113, 117, 118, 122, 123, 127, 128, 132, 133, 139, 140, 146, 147, 151, 152, 156, 157, 161, 162, 166, 167, 173, 174, 180, 181, 187, 188, 192, 193, 197, 198, 204, 205, 211, 212, 218, 219]
def qv : Program := { PySem.Challenge.pw_stretchdeeds_k10_what_is_an_algebra with main := { PySem.Challenge.pw_stretchdeeds_k10_what_is_an_algebra.main with body := [1, 3, 4, 5, 6, 7, 8, 9, 10, 11, 12, 13, 14, 15, 16, 18, 19, 20, 21, 22, 23, 24, 25, 26, 27, 28, 29, 30, 31, 32, 33, 34, 35, 36, 37, 38, 39, 40, 41, 42, 43].map top } }
theorem kAe (P : Params) : kA = (K P).map (·.1) := by kernel_rfl
set_option maxRecDepth 100000
theorem ws : PySem.Challenge.rw_stretchdeeds_k10_what_is_an_algebra.wellSaid = true := by kernel_rfl
abbrev Xt (s : Shared) : Bool := xlAt qv [] s && recOk (RowW.records (OpenRow.toRowW PySem.Challenge.rw_stretchdeeds_k10_what_is_an_algebra.row)) s
abbrev hk : Hook := kHook K kA kAe
theorem hl : LeftO PySem.Challenge.pw_stretchdeeds_k10_what_is_an_algebra qv [] Xt hk.obs hk.val 4000 := λ w => by kernel_rfl
end G10
open PySem PySem.W PyProof.Rows
set_option maxRecDepth 100000 in
set_option maxHeartbeats 0 in
theorem PySem.Challenge.cw_stretchdeeds_k10_what_is_an_algebra_holds : PySem.Challenge.rw_stretchdeeds_k10_what_is_an_algebra.Holds := by
 w_on; refine holds_law G10.ws λ said => ?_
 refine holds_open (q := G10.qv) (loose := []) (Xt := G10.Xt) (XP := XL G10.qv []) (Yf := Hook.obs (kHook G10.K G10.kA G10.kAe)) (Ya := Hook.val (kHook G10.K G10.kA G10.kAe)) (YP := Hook.says (kHook G10.K G10.kA G10.kAe)) (N := 4000) G10.hl (Hook.of (kHook G10.K G10.kA G10.kAe)) (Hook.keeps (kHook G10.K G10.kA G10.kAe)) (λ s e => xl_of s (Bool.and_eq_true_iff.mp e).1) XL.keeps (by rfl) (by rfl) (by rfl) (λ s e => recFacts_of (Bool.and_eq_true_iff.mp e).2) (by rfl) (by first | assumption | decide +kernel) (by decide +kernel) ⟨rfl, rfl, rfl, rfl, rfl, by decide +kernel⟩ ?hw ?hc
 (case hw => w_witness2)
 k_fill
 refine G10.walk (l := PySem.Challenge.rw_stretchdeeds_k10_what_is_an_algebra) rfl rfl (λ w h Y => PySem.W.kIn_of Y) G10.znx ?F
 case F =>
  intro w mg fa h KX G hmg
  refine' G10.zrj KX G hmg ?_ ?_ ?_ ?_ ?_ ?_ ?_ ?_ ?_ ?_ ?_ ?_ ?_ ?_ ?_ ?_ ?_ ?_ ?_ ?_ ?_ ?_ ?_ ?_ ?_ ?_ ?_ ?_ ?_ ?_ ?_ ?_ ?_ ?_ ?_ ?_ ?_ ?_ ?_ ?_ ?_ ?_ ?_ ?_ ?_ ?_ ?_ ?_ ?_ ?_ ?_ ?_ ?_ ?_ ?_ ?_ ?_ ?_ ?_ ?_ ?_ ?_ ?_ ?_ ?_ ?_ ?_ ?_ ?_ ?_ ?_ ?_ ?_ ?_ ?_ ?_ ?_ ?_ ?_ ?_ ?_ ?_ ?_ ?_ ?_ ?_ ?_ ?_ ?_
  all_goals try first | k_is | (change _ = _; k_is) | exact ⟨_, ⟨_, _, _, _, _, _, _, _, _, rfl, by k_is, by k_is⟩, by k_is⟩ | rfl
#print axioms PySem.Challenge.cw_stretchdeeds_k10_what_is_an_algebra_holds
