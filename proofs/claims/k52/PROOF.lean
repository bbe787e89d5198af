import PyProof.Rows.All
import Wide.All
import OpenK.AllK
import Wide.FinOn
import PyProof.EqAt
import PyProof.EqKinds
import PyProof.TupleCall
import PyProof.NeKinds
import PyProof.AutoSeq1
import KE.LcSums
import PyProof.Rows.StrWeight2
import PyProof.StrBlockG
import KE.KIntText
import PyProof.CallStr
import PyProof.WalksEnum
import PyProof.Rows.EnumRows
import PyProof.Rows.FactsT2
import KE.KRevIter
import PyProof.StrWalks
import PyProof.ReprRoads
import PyProof.StrLawsTight
import PyProof.Rows.StrItems
import PyProof.Rows.ReprOcc
import PyProof.Rows.StrJoinMade
import PyProof.ReprLen
import PyProof.ZipIter
import PyProof.Rows.SortWalk
import PyProof.ListRange
import PyProof.AttrMissHeap
import PyProof.Rows.SumAny
import PyProof.Rows.TupDisplay
import Lean
import PySem.Challenge.RW_stretchdeeds_k52_alike_by_any_frame
set_option Elab.async false
set_option linter.all false
set_option maxRecDepth 100000
abbrev zC := PySem.W.Frag
abbrev zD := @List.length_map
abbrev zI := @List.mem_cons
abbrev zzA := @List.mem_cons_of_mem
abbrev zzB := @List.getElem?_eq_getElem
abbrev zzC := @List.mem_cons_self
abbrev zzD := @List.getElem?_eq_some_iff
abbrev zzE := @List.size_toArray
abbrev zzF := @List.getElem?_map
abbrev zzG := @List.length_append
abbrev zzH := @Nat.lt_of_lt_of_le
abbrev zzI := @List.mem_append_right
abbrev zzJ := @List.mem_append
abbrev zzK := @Nat.le_refl
abbrev zzL := @Nat.le_trans
abbrev zzM := @List.mem_append_left
abbrev zzN := @Nat.ne_of_lt
abbrev zzO := @List.mem_singleton
abbrev zzP := @List.length_take
abbrev zzQ := @List.length_cons
abbrev zzR := @List.length_set
abbrev zzS := @Int.natCast_mul
abbrev zzT := @List.nodup_cons
abbrev zzU := @Option.map_eq_some_iff
abbrev zzV := @List.getElem?_set_ne
section
namespace L2
open PySem PySem.Spec PyProof.Rows
abbrev Key := Sum Int Str
def zga : Key -> Value -> Bool
 | .inl k, v => Value.isInt k v
 | .inr x, v => Value.isStrOf x v
def zsp (w : World) : Key -> Int
 | .inl k => hashInt k
 | .inr x => hashStr w x
theorem wN : ∀ {k : Key} {v : Value}, zga k v = true -> (∃ i t, k = Sum.inl i /\ v = Value.int i t) \/ (∃ x t, k = Sum.inr x /\ v = Value.str x t)
 | .inl i, v, h => by
  obtain ⟨t, e⟩ := Value.isInt_shape (k := i) (v := v) h
  exact .inl ⟨i, t, rfl, e⟩
 | .inr x, v, h => by
  obtain ⟨t, e⟩ := Value.isStrOf_shape (x := x) (v := v) h
  exact .inr ⟨x, t, rfl, e⟩
theorem zkR (i : Int) (t : Tok) : zga (.inl i) (.int i t) = true := by simp [zga, Value.isInt]
theorem zkM (x : Str) (t : Tok) : zga (.inr x) (.str x t) = true := by simp [zga, Value.isStrOf]
theorem zph (a b : Int) : decide ((Sum.inl a : Key) = Sum.inl b) = (a == b) := by
 by_cases e : a = b
 · subst e; simp
 · have h : ¬ (Sum.inl a : Key) = Sum.inl b := λ q => e (Sum.inl.inj q)
   rw [decide_eq_false h]
   exact (beq_eq_false_iff_ne.mpr e).symm
theorem zqC (a b : Str) : decide ((Sum.inr a : Key) = Sum.inr b) = decide (a = b) := by
 by_cases e : a = b
 · subst e; simp
 · have h : ¬ (Sum.inr a : Key) = Sum.inr b := λ q => e (Sum.inr.inj q)
   rw [decide_eq_false h, decide_eq_false e]
theorem zpD (a : Int) (b : Str) : decide ((Sum.inl a : Key) = Sum.inr b) = false := decide_eq_false (λ q => nomatch q)
theorem zqJ (a : Str) (b : Int) : decide ((Sum.inr a : Key) = Sum.inl b) = false := decide_eq_false (λ q => nomatch q)
def wu (prog : Program) (w : World) : PySem.KeyKind prog w Key where
 is := zga
 hash := zsp w
 inj := λ v a b ha hb => by
  rcases wN ha with ⟨i, t, rfl, rfl⟩ | ⟨x, t, rfl, rfl⟩
  · rcases wN hb with ⟨j, u, rfl, e⟩ | ⟨y, u, rfl, e⟩
    · injection e with e1 _; rw [e1]
    · exact nomatch e
  · rcases wN hb with ⟨j, u, rfl, e⟩ | ⟨y, u, rfl, e⟩
    · exact nomatch e
    · injection e with e1 _; rw [e1]
 byValue := λ k v h => by
  rcases wN h with ⟨i, t, rfl, rfl⟩ | ⟨x, t, rfl, rfl⟩ <;> rfl
 pyHash := λ hv h => by
  rcases wN hv with ⟨i, t, rfl, rfl⟩ | ⟨x, t, rfl, rfl⟩
  · exact wpAny_pyHash_int h
  · exact wpAny_pyHash_str h
 eqBool := λ hu hv h => by
  rcases wN hu with ⟨i, t, rfl, rfl⟩ | ⟨x, t, rfl, rfl⟩
  · rcases wN hv with ⟨j, u, rfl, rfl⟩ | ⟨y, u, rfl, rfl⟩
    · rw [zph] at h; exact wpAny_eqBool_int h
    · rw [zpD] at h; exact SeqAt.EqAt.int_str i t y u _ _ _ _ h
  · rcases wN hv with ⟨j, u, rfl, rfl⟩ | ⟨y, u, rfl, rfl⟩
    · rw [zqJ] at h; exact SeqAt.EqAt.str_int x t j u _ _ _ _ h
    · rw [zqC] at h; exact wpAny_eqBool_str h
 «strs» := λ k x t v h => by
  rcases wN h with ⟨i, u, rfl, e⟩ | ⟨y, u, rfl, e⟩
  · exact nomatch e
  · injection e with e1 _
    subst e1
    cases v <;> rfl
theorem zis (prog : Program) (w : World) (i : Int) (t : Tok) : (wu prog w).is (.inl i) (.int i t) = true := zkR i t
theorem VF (prog : Program) (w : World) (x : Str) (t : Tok) : (wu prog w).is (.inr x) (.str x t) = true := zkM x t
end L2
namespace L2
open PySem PySem.Spec PyProof.Rows
inductive V where
 | non | bl (b : Bool) | int (i : Int) | str (x : Str) | byt (b : Array UInt8) | flt (b : UInt64) | ref (a : Addr) | ty (n : String)
 deriving DecidableEq
def RelV : V -> Value -> Prop
 | .non, u => u = Value.none
 | .bl b, u => u = Value.bool b
 | .int i, u => ∃ t, u = Value.int i t
 | .str x, u => ∃ t, u = Value.str x t
 | .byt b, u => ∃ t, u = Value.bytes b t
 | .flt b, u => ∃ t, u = Value.float b t
 | .ref a, u => u = Value.ref a
 | .ty n, u => u = Value.type n
abbrev Vals : List V -> List Value -> Prop := Paired RelV
theorem Vals.length (r : Vals xs us) : xs.length = us.length := Paired.length r
theorem Vals.get : ∀ {xs : List V} {us : List Value} {i : Nat} {x : V}, Vals xs us -> xs[i]? = some x -> ∃ u, us[i]? = some u /\ RelV x u
 | _, _, _, _, .nil, e => by simp at e
 | _, _, 0, _, .cons r _, e => by simp at e; subst e; exact ⟨_, rfl, r⟩
 | _, _, i + 1, x, .cons _ t, e => by
  obtain ⟨u, h1, h2⟩ := Vals.get (i := i) (x := x) t (by simpa using e)
  exact ⟨u, by simpa using h1, h2⟩
theorem Vals.set (r : RelV x u) : ∀ {xs : List V} {us : List Value} (i : Nat), Vals xs us -> Vals (xs.set i x) (us.set i u)
 | _, _, _, .nil => .nil
 | _, _, 0, .cons _ t => .cons r t
 | _, _, i + 1, .cons q t => .cons q (Vals.set r i t)
theorem Vals.append : ∀ {xs ys : List V} {us ws : List Value}, Vals xs us -> Vals ys ws -> Vals (xs ++ ys) (us ++ ws)
 | _, _, _, _, .nil, s => s
 | _, _, _, _, .cons r t, s => .cons r (Vals.append t s)
theorem Vals.take : ∀ {xs : List V} {us : List Value} (n : Nat), Vals xs us -> Vals (xs.take n) (us.take n)
 | _, _, 0, _ => .nil
 | _, _, _ + 1, .nil => .nil
 | _, _, n + 1, .cons r t => .cons r (Vals.take n t)
theorem Vals.drop : ∀ {xs : List V} {us : List Value} (n : Nat), Vals xs us -> Vals (xs.drop n) (us.drop n)
 | _, _, 0, r => r
 | _, _, _ + 1, .nil => .nil
 | _, _, n + 1, .cons _ t => Vals.drop n t
def zec : Option V -> Option Value -> Prop
 | some v, some u => RelV v u
 | none, none => True
 | _, _ => False
def KV {κ : Type} : List (κ × V) -> List (κ × Value) -> Prop := Paired λ (p : κ × V) (q : κ × Value) => p.1 = q.1 /\ RelV p.2 q.2
def kV : Key -> V
 | .inl i => .int i
 | .inr x => .str x
inductive HO where
 | lst (xs : List V)
 | tup (xs : List V)
 | dK (kvs : List (Key × V)) | dT (kvs : List (List Key × V))
 | set (S : Int -> Bool) (n : Nat)
 | ins (C dx : Addr) (fs : List (Str × V))
 | own (x : Addr)
 | xd (fs : List (Str × V))
 | met (f x : Addr)
 | rng (lo hi : Int)
 | frz (o : Obj) (u : HO)
 | tbl (ps : Array Value)
 | ext (φ : Heap -> Prop)
abbrev Hp := Addr -> Option HO
def upd (H : Hp) (a : Addr) (o : HO) : Hp := λ b => if b = a then some o else H b
theorem yU : upd H a o a = some o := by unfold upd; rw [if_pos rfl]
theorem ye (h : b ≠ a) : upd H a o b = H b := by unfold upd; rw [if_neg h]
theorem zoS {H : Hp} {a b : Addr} {o u : HO} (h : H a = some o) (h' : H b = some u) (d : o ≠ u) : a ≠ b := by
 intro e; subst e; rw [h] at h'; exact d (Option.some.inj h')
theorem xj {H : Hp} {a b : Addr} {o : HO} (h : H a = some o) (h' : H b = none) : a ≠ b := by
 intro e; subst e; rw [h] at h'; cases h'
section
variable (P : Program) (w : World)
def vA (H : Hp) (h : Heap) (a : Addr) : HO -> Prop
 | .lst xs => xs.length <= sizeLine /\ ∃ (its : List Value) (n : Nat), Vals xs its /\ h.get? a = some { cls := .type "list", data := .seq its.toArray n }
 | .tup xs => xs.length <= sizeLine /\ ∃ its : List Value, Vals xs its /\ IsTup h a its.toArray
 | .dK kvs => kvs.length <= sizeLine /\ (a == sysModules) = false /\ ∃ vs, KV kvs vs /\ h.DictOf (wu P w) a vs
 | .dT kvs => kvs.length <= sizeLine /\ (a == sysModules) = false /\ ∃ xs : List (List Key × Addr × Value),
  Paired (λ (p : List Key × V) (q : List Key × Addr × Value) => p.1 = q.1 /\ H q.2.1 = some (.tup (p.1.map kV)) /\ RelV p.2 q.2.2) kvs xs /\
  ∃ o es ep, h.get? a = some o /\ o.ExactDict /\ o.data = .dict es ep /\ es.toList = xs.map (entryOfKey (tupleKind (wu P w))) /\ (xs.map (·.1)).Nodup
 | .set S n => h.SetOf (intKind P w) a S n
 | .ins C dx fs => H dx = some (.own a) /\ fs.length <= 1000 /\ dx ≠ a /\ h.get? a = some (PySem.W.instObj C dx) /\
  ∃ mA, h.Ns1 dx mA /\ (∀ f, zec (fs.lookup f) (mA f)) /\ PySem.Within mA (fs.map (·.1))
 | .own _ => ∃ o, h.get? a = some o
 | .xd fs => ∃ mA, h.Ns1 a mA /\ ∀ f, zec (fs.lookup f) (mA f)
 | .rng lo hi => ∃ t u v, h.get? a = some { cls := .type "range", data := .fields #[.int lo t, .int hi u, .int 1 v] }
 | .frz o u => h.get? a = some o /\ vA H h a u
 | .tbl ps => h.get? a = some { cls := .none, data := .fields ps }
 | .met f x => h.get? a = some (PySem.W.methodObj (.ref f) (.ref x))
 | .ext φ => φ h /\ (∃ o, h.get? a = some o) /\ ∀ h1 h2 : Heap, φ h1 -> (∀ o, h1.get? a = some o -> h2.get? a = some o) -> φ h2
def HOk (H : Hp) (h : Heap) : Prop := ∀ a o, H a = some o -> vA P w H h a o
end
section
variable {P : Program} {w : World} {H H' : Hp} {h h' : Heap} {a : Addr} {o : HO}
theorem vA.lt (x : vA P w H h a o) : a < h.objs.size := by
 cases o with
 | lst xs => obtain ⟨_, _, _, _, e⟩ := x; exact Heap.lt_size e
 | tup xs => obtain ⟨_, _, _, p⟩ := x; exact p.lt
 | dK kvs => obtain ⟨_, _, _, _, o, _, _, e, _⟩ := x; exact Heap.lt_size e
 | dT kvs => obtain ⟨_, _, _, _, o, _, _, e, _⟩ := x; exact Heap.lt_size e
 | set S n => obtain ⟨o, _, _, _, e, _⟩ := x; exact Heap.lt_size e
 | ins C dx fs => obtain ⟨_, _, _, e, _⟩ := x; exact Heap.lt_size e
 | own y => obtain ⟨_, e⟩ := x; exact Heap.lt_size e
 | xd fs => obtain ⟨_, ⟨_, _, _, e, _⟩, _⟩ := x; exact Heap.lt_size e
 | rng lo hi => obtain ⟨_, _, _, e⟩ := x; exact Heap.lt_size e
 | frz ob u => obtain ⟨e, _⟩ := x; exact Heap.lt_size e
 | tbl ps => exact Heap.lt_size (show h.get? a = some _ from x)
 | met f y => exact Heap.lt_size (show h.get? a = some _ from x)
 | ext φ => obtain ⟨_, ⟨_, e⟩, _⟩ := x; exact Heap.lt_size e
theorem Paired.mapP : ∀ {l₁ : List α} {l₂ : List β}, Paired F l₁ l₂ -> (∀ a b, F a b -> G a b) -> Paired G l₁ l₂
 | _, _, .nil, _ => .nil
 | _, _, .cons r t, f => .cons (f _ _ r) (Paired.mapP t f)
theorem vA.stay (x : vA P w H h a o) (k : ∀ b u, (b = a \/ H b = some (.own a)) -> h.get? b = some u -> h'.get? b = some u)
 (ho : ∀ b, H b = some (.own a) -> H' b = some (.own a)) (ht : ∀ b xs, H b = some (.tup xs) -> H' b = some (.tup xs)) : vA P w H' h' a o := by
 induction o with
 | lst xs => obtain ⟨z, its, n, r, e⟩ := x; exact ⟨z, its, n, r, k _ _ (.inl rfl) e⟩
 | tup xs => obtain ⟨z, its, r, ob, e, c⟩ := x; exact ⟨z, its, r, ob, k _ _ (.inl rfl) e, c⟩
 | dK kvs => obtain ⟨z, y, vs, r, ob, es, ep, e, c⟩ := x; exact ⟨z, y, vs, r, ob, es, ep, k _ _ (.inl rfl) e, c⟩
 | dT kvs =>
  obtain ⟨z, y, xs, r, ob, es, ep, e, c⟩ := x
  exact ⟨z, y, xs, Paired.mapP r λ p q z => ⟨z.1, ht _ _ z.2.1, z.2.2⟩, ob, es, ep, k _ _ (.inl rfl) e, c⟩
 | set S n => obtain ⟨ob, es, ep, t, e, c⟩ := x; exact ⟨ob, es, ep, t, k _ _ (.inl rfl) e, c⟩
 | ins C dx fs =>
  obtain ⟨d, z, ne, e, mA, ⟨od, es, ep, e2, c⟩, r⟩ := x
  exact ⟨ho _ d, z, ne, k _ _ (.inl rfl) e, mA, ⟨od, es, ep, k _ _ (.inr d) e2, c⟩, r⟩
 | own y => obtain ⟨ob, e⟩ := x; exact ⟨ob, k _ _ (.inl rfl) e⟩
 | xd fs => obtain ⟨mA, ⟨od, es, ep, e, c⟩, r⟩ := x; exact ⟨mA, ⟨od, es, ep, k _ _ (.inl rfl) e, c⟩, r⟩
 | rng lo hi => obtain ⟨t, u, v, e⟩ := x; exact ⟨t, u, v, k _ _ (.inl rfl) e⟩
 | frz ob u ih => obtain ⟨e, q⟩ := x; exact ⟨k _ _ (.inl rfl) e, ih q⟩
 | tbl ps =>
  have e : h.get? a = some { cls := .none, data := .fields ps } := x
  show h'.get? a = some { cls := .none, data := .fields ps }
  exact k a _ (.inl rfl) e
 | met f y =>
  have e : h.get? a = some (PySem.W.methodObj (.ref f) (.ref y)) := x
  show h'.get? a = some (PySem.W.methodObj (.ref f) (.ref y))
  exact k a _ (.inl rfl) e
 | ext φ => obtain ⟨p, ⟨o, e⟩, st⟩ := x; exact ⟨st _ _ p λ o q => k _ _ (.inl rfl) q, ⟨o, k _ _ (.inl rfl) e⟩, st⟩
theorem HOk.lt (x : HOk P w H h) (e : H a = some o) : a < h.objs.size := (x a o e).lt
theorem HOk.fresh (x : HOk P w H h) (e : h.objs.size <= a) : H a = none := by
 cases q : H a with
 | none => rfl
 | some u => exact absurd (zzH (x.lt q) e) (Nat.lt_irrefl _)
theorem HOk.kept (x : HOk P w H h) (k : ∀ b u, h.get? b = some u -> h'.get? b = some u) : HOk P w H h' := λ a o e =>
 (x a o e).stay (λ b u _ q => k b u q) (λ _ q => q) λ _ _ q => q
theorem HOk.laid (x : HOk P w H h) (k : ∀ b u, h.get? b = some u -> h'.get? b = some u) (hp : h.objs.size <= a) (new : vA P w (upd H a o) h' a o) : HOk P w (upd H a o) h' := λ b u e => by
 have hn := x.fresh hp
 by_cases hb : b = a
 · subst hb; rw [yU] at e; cases e; exact new
 · rw [ye hb] at e
   exact (x b u e).stay (λ c v _ q => k c v q) (λ c q => by rw [ye (xj q hn)]; exact q) λ c xs q => by rw [ye (xj q hn)]; exact q
end
def Rd (H : Hp) (a : Addr) (u : HO) : Prop := H a = some u \/ ∃ o, H a = some (.frz o u)
theorem Rd.ok (r : Rd H a u) (x : HOk P w H h) : vA P w H h a u := by
 rcases r with r | ⟨o, r⟩
 · exact x a u r
 · obtain ⟨_, q⟩ := x a _ r
   exact q
def Mut : Option HO -> Prop
 | some (.lst _) => True
 | some (.dK _) => True
 | some (.dT _) => True
 | some (.set _ _) => True
 | some (.ins _ _ _) => True
 | some (.ext _) => True
 | _ => False
section
variable {P : Program} {w : World} {H : Hp} {h h' : Heap} {x e : Addr} {o' : HO}
theorem HOk.write (ok : HOk P w H h) (mu : Mut (H x)) (he : e = x \/ H e = some (.own x)) (k : ∀ b u, b ≠ e -> h.get? b = some u -> h'.get? b = some u) (heo : ∃ u, h'.get? e = some u)
 (new : vA P w (upd H x o') h' x o') : HOk P w (upd H x o') h' := λ b u q => by
 have nown : ∀ c y, H c = some (.own y) -> c ≠ x := λ c y r z => by subst z; rw [r] at mu; exact mu
 have ntup : ∀ c xs, H c = some (.tup xs) -> c ≠ x := λ c xs r z => by subst z; rw [r] at mu; exact mu
 by_cases hb : b = x
 · subst hb; rw [yU] at q; cases q; exact new
 · rw [ye hb] at q
   by_cases hbe : b = e
   · have q' : H b = some (.own x) := by
      rcases he with z | z
      · exact absurd (hbe.trans z) hb
      · rw [hbe]; exact z
     rw [q] at q'; cases q'
     obtain ⟨v, hv⟩ := heo
     exact ⟨v, by rw [hbe]; exact hv⟩
   · refine (ok b u q).stay (λ c v hc r => k c v ?_ r) (λ c r => by rw [ye (nown c b r)]; exact r) λ c xs r => by rw [ye (ntup c xs r)]; exact r
     rcases hc with rfl | hc
     · exact hbe
     · rintro rfl
       rcases he with z | z
       · exact nown c b hc z
       · rw [hc] at z; cases z; exact hb rfl
end
structure Un (fs ex : List Addr) (H H' : Hp) (h h' : Heap) : Prop where
 keep : ∀ b o, h.get? b = some o -> H b = none -> b ∉ fs -> b ∉ ex -> h'.get? b = some o
 slot : ∀ b o, h.get? b = some o -> H b = none -> b ∈ fs -> b ∉ ex -> ∃ sl, h'.get? b = some { o with slots := sl }
 free : ∀ b o, h.get? b = some o -> H b = none -> b ∉ ex -> H' b = none
 there : ∀ b o, h.get? b = some o -> b ∉ ex -> ∃ o', h'.get? b = some o'
 tups : ∀ b xs, H b = some (.tup xs) -> H' b = some (.tup xs)
 frzs : ∀ b o u, H b = some (.frz o u) -> H' b = some (.frz o u)
 tbls : ∀ b ps, H b = some (.tbl ps) -> ∃ more, H' b = some (.tbl (ps ++ more))
section
variable {fs fs' ex ex' : List Addr} {H H1 H2 : Hp} {h h1 h2 h' : Heap} {a x e : Addr} {o : HO}
theorem Un.any (u : Un fs ex H H1 h h1) (q : h.get? b = some ob) (n : H b = none) (hx : b ∉ ex) : ∃ sl, h1.get? b = some { ob with slots := sl } := by
 by_cases hb : b ∈ fs
 · exact u.slot b ob q n hb hx
 · exact ⟨ob.slots, u.keep b ob q n hb hx⟩
theorem Un.kept (k : ∀ b u, h.get? b = some u -> h'.get? b = some u) : Un fs ex H H h h' :=
 ⟨λ b ob q _ _ _ => k b ob q, λ b ob q _ _ _ => ⟨ob.slots, k b ob q⟩, λ _ _ _ n _ => n, λ b ob q _ => ⟨ob, k b ob q⟩, λ _ _ q => q, λ _ _ _ q => q, λ _ ps q => ⟨#[], by rw [q]; simp⟩⟩
theorem Un.refl : Un fs ex H H h h := Un.kept λ _ _ q => q
theorem Un.laid (k : ∀ b u, h.get? b = some u -> h'.get? b = some u) (hp : h.objs.size <= a) (hn : H a = none) : Un fs ex H (upd H a o) h h' where
 keep := λ b u q _ _ _ => k b u q
 slot := λ b u q _ _ _ => ⟨u.slots, k b u q⟩
 free := λ b u q n _ => by rw [ye (zzN (zzH (Heap.lt_size q) hp))]; exact n
 there := λ b u q _ => ⟨u, k b u q⟩
 tups := λ b xs q => by rw [ye (xj q hn)]; exact q
 frzs := λ b u xs q => by rw [ye (xj q hn)]; exact q
 tbls := λ b ps q => ⟨#[], by rw [ye (xj q hn), q]; simp⟩
theorem Un.write (mu : Mut (H x)) (he : e = x \/ H e = some (.own x)) (k : ∀ b u, b ≠ e -> h.get? b = some u -> h'.get? b = some u) (heo : ∃ u, h'.get? e = some u) : Un fs ex H (upd H x o) h h' := by
 have hx : ∀ b, H b = none -> b ≠ x := λ b n z => by subst z; rw [n] at mu; exact mu
 have hb : ∀ b, H b = none -> b ≠ e := λ b n z => by
  subst z
  rcases he with r | r
  · exact hx b n r
  · rw [n] at r; cases r
 have hm : ∀ b u, H b = some u -> ¬ Mut (some u) -> b ≠ x := λ b u q nm z => by subst z; rw [q] at mu; exact nm mu
 refine ⟨λ b u q n _ _ => k b u (hb b n) q, λ b u q n _ _ => ⟨u.slots, k b u (hb b n) q⟩, λ b u q n _ => by rw [ye (hx b n)]; exact n, λ b u q _ => ?_,
  λ b xs q => by rw [ye (hm b _ q λ z => z)]; exact q, λ b u xs q => by rw [ye (hm b _ q λ z => z)]; exact q, λ b ps q => ⟨#[], by rw [ye (hm b _ q λ z => z), q]; simp⟩⟩
 by_cases hbe : b = e
 · subst hbe; exact heo
 · exact ⟨u, k b u hbe q⟩
end
def trk (h : Heap) (H : Hp) : List Addr := (List.range h.objs.size).filter λ a => (H a).isSome
def zhb (h : Heap) (H : Hp) : Heap := PySem.W.hideAll h (trk h H)
theorem zkH (h : Heap) (H : Hp) : (zhb h H).objs.size = h.objs.size := PySem.W.hideAll_size _ _
theorem zml (e : h.get? b = some o) (n : H b = none) : (zhb h H).get? b = some o :=
 PySem.W.hideAll_get _ e λ hm => by
  have q : (H b).isSome = true := (List.mem_filter.mp hm).2
  rw [n] at q; simp at q
theorem znG (e : (zhb h H).get? b = some o) : h.get? b = some o /\ H b = none := by
 have e' : h.get? b = some o := PySem.W.of_hideAll (trk h H) e
 refine ⟨e', ?_⟩
 cases q : H b with
 | none => rfl
 | some x =>
  have hm : b ∈ trk h H := List.mem_filter.mpr ⟨List.mem_range.mpr (Heap.lt_size e'), by simp [q]⟩
  have z : (zhb h H).get? b = none := PySem.W.hideAll_none (trk h H) hm
  rw [z] at e; cases e
end L2
namespace L2
open PySem PySem.Spec PyProof.Rows
structure Mod (K : zC) (mg : Str -> Option Value) (base : Heap) : Prop where
 kin : K.In base
 glob : base.Ns mainGlobals mg
 blt : ∃ mb, base.Ns builtinsNs mb /\ ∀ x : Str, x ≠ "__name__" -> mb x = bootBuiltins x
 nolimit : base.NoLimit
structure Cx where
 prog : Program
 w : World
 K : zC
 mg : Str -> Option Value
 base : Heap
 A : Around
 N : List Str
 s₀ : Shared
 H₀ : Hp
 env : Env
 outer : List Env
 stack : List Env
 ex : List Addr
 fn : Str -> Bool
 calm : Bool
 pn : List (Addr × Obj)
 xe : Value -> Shared -> Prop
def frs (l : List Env) : List Addr := l.filterMap (·.frame)
abbrev Cx.fs (X : Cx) : List Addr := frs X.outer
def Vis (sc : Scope) (x : Str) : Prop := sc.names.lookup x = some .local \/ sc.names.lookup x = some .cell \/ sc.names.lookup x = some .free
def Loc (sc : Scope) (x : Str) : Prop := sc.names.lookup x = some .local \/ sc.names.lookup x = some .cell
def Look (env : Env) (h : Heap) (m : Str -> Option Value) (x : Str) (u : Value) : Prop :=
 (env.kindOf x = some .local /\ m x = some u) \/ ((env.kindOf x = some .cell \/ env.kindOf x = some .free) /\ ∃ c, env.cells.lookup x = some c /\ h.IsCell c (some u))
structure Cx.Ok (X : Cx) : Prop where
 mod : Mod X.K X.mg X.base
 kind : X.env.scope.kind = .function
 glob : X.env.globals = mainGlobals
 blt : X.env.builtins = builtinsNs
 above : X.s₀.heap.objs.size <= X.env.locals
 inj : ∀ x y c, X.env.cells.lookup x = some c -> X.env.cells.lookup y = some c -> x = y
 has : ∀ x, (X.env.kindOf x = some .cell \/ X.env.kindOf x = some .free) -> ∃ c, X.env.cells.lookup x = some c
 cab : ∀ x c, X.fn x = true -> X.env.cells.lookup x = some c -> X.s₀.heap.objs.size <= c
 hd : X.calm = true -> X.A.handled = none
 frames : X.A.frames = some X.stack
 stk : X.stack = X.outer \/ (X.stack = X.env :: X.outer /\ X.env.frame = some X.env.locals)
 exf : ∀ b ∈ X.ex, b ≠ X.env.locals /\ ∀ x c, X.env.cells.lookup x = some c -> c ≠ b
 bs : ∀ b o, X.base.get? b = some o -> X.s₀.heap.get? b = some o /\ X.H₀ b = none
 bsz : X.base.objs.size <= X.s₀.heap.objs.size
 noex : ∀ b o, X.base.get? b = some o -> b ∉ X.ex
 exfs : ∀ b ∈ X.ex, b ∉ X.fs
 funs : X.s₀.heap.FunFrames X.base X.outer
 frf : ∀ b ∈ X.fs, X.H₀ b = none
structure Inv (X : Cx) (pins : List (Addr × Obj)) (σ : List (Option V)) (H : Hp) (s : Shared) : Prop where
 ok : X.Ok
 os : s.os = X.s₀.os
 bare : AllBare s.gens
 base : Un X.fs X.ex X.H₀ H X.s₀.heap s.heap
 loc : ∃ m, s.heap.Ns X.env.locals m /\ ∀ (i : Nat) (x : Str) (v : V), X.N[i]? = some x -> σ[i]? = some (some v) -> Vis X.env.scope x -> ∃ u, RelV v u /\ Look X.env s.heap m x u
 cell : ∀ x c, X.env.cells.lookup x = some c -> ∃ v, s.heap.IsCell c v
 free : H X.env.locals = none
 freeC : ∀ x c, X.env.cells.lookup x = some c -> H c = none
 pin : ∀ p ∈ X.pn ++ pins, s.heap.get? p.1 = some p.2 /\ H p.1 = none /\ p.1 ≠ X.env.locals /\ p.1 ∉ X.fs /\ ∀ v, p.2.data ≠ .cell v
 hok : HOk X.prog X.w H s.heap
 len : σ.length = X.N.length
section
variable {X : Cx} {pins : List (Addr × Obj)} {σ : List (Option V)} {H H' : Hp} {s : Shared} {h' : Heap}
theorem Cx.Ok.nofr (ok : X.Ok) (e : X.base.get? b = some o) : b ∉ X.fs := λ hb => by
 have := (ok.funs.mem hb).1
 rw [e] at this; cases this
theorem Inv.bs (I : Inv X pins σ H s) : ∀ b o, X.base.get? b = some o -> s.heap.get? b = some o /\ H b = none := λ b o e =>
 ⟨I.base.keep b o (I.ok.bs b o e).1 (I.ok.bs b o e).2 (I.ok.nofr e) (I.ok.noex b o e), I.base.free b o (I.ok.bs b o e).1 (I.ok.bs b o e).2 (I.ok.noex b o e)⟩
theorem Inv.bk (I : Inv X pins σ H s) : ∀ b o, X.base.get? b = some o -> s.heap.get? b = some o := λ b o e => (I.bs b o e).1
theorem Inv.mod (I : Inv X pins σ H s) : Mod X.K X.mg X.base := I.ok.mod
theorem Inv.kIn (I : Inv X pins σ H s) : X.K.In s.heap := I.ok.mod.kin.keeps I.bk
theorem Inv.lt (I : Inv X pins σ H s) : X.env.locals < s.heap.objs.size := let ⟨_, hn, _⟩ := I.loc; hn.lt
theorem Inv.sz (I : Inv X pins σ H s) : X.s₀.heap.objs.size <= s.heap.objs.size := zzL I.ok.above (Nat.le_of_lt I.lt)
theorem Inv.nofs (I : Inv X pins σ H s) (h : s.heap.objs.size <= a) : a ∉ X.fs := λ hb => by
 obtain ⟨_, o, ho, _⟩ := I.ok.funs.mem hb
 exact absurd (zzH (Heap.lt_size ho) (zzL I.sz h)) (Nat.lt_irrefl _)
theorem Inv.cne (I : Inv X pins σ H s) : ∀ x c, X.env.cells.lookup x = some c -> c ≠ X.env.locals := λ x c e z => by
 obtain ⟨v, o, ho, hd⟩ := I.cell x c e
 obtain ⟨m, ⟨o', es, ep, ho', hd', _⟩, _⟩ := I.loc
 rw [z, ho'] at ho; cases ho; rw [hd'] at hd; cases hd
theorem Inv.funs (I : Inv X pins σ H s) : s.heap.FunFrames X.base X.outer := by
 have all : ∀ (l : List Env), (∀ b ∈ frs l, b ∈ X.fs) -> X.s₀.heap.FunFrames X.base l -> s.heap.FunFrames X.base l := by
  intro l
  induction l with
  | nil => intro _ _; trivial
  | cons env r ih =>
   intro hs hl
   obtain ⟨hk, ⟨L, o, hf, hn, ho, hd⟩, hr⟩ := hl
   have hL : L ∈ X.fs := hs L (by unfold frs; rw [List.filterMap_cons, hf]; exact zzC)
   obtain ⟨sl, e⟩ := I.base.slot L o ho (I.ok.frf L hL) hL λ z => I.ok.exfs L z hL
   exact ⟨hk, ⟨L, _, hf, hn, e, hd⟩, ih (λ b hb => hs b (by unfold frs; rw [List.filterMap_cons, hf]; exact zzA _ hb)) hr⟩
 exact all X.outer (λ _ hb => hb) I.ok.funs
theorem Inv.stack (I : Inv X pins σ H s) : s.heap.FunFrames X.base X.stack := by
 rcases I.ok.stk with e | ⟨e, hf⟩
 · rw [e]; exact I.funs
 · rw [e]
   obtain ⟨m, hn, _⟩ := I.loc
   refine .cons (by rw [I.ok.kind]; decide) hf hn ?_ I.funs
   exact Heap.get?_none_of_le (zzL I.ok.bsz I.ok.above)
theorem Inv.stkSub (I : Inv X pins σ H s) : ∀ b ∈ frs X.stack, b ∈ X.env.locals :: X.fs := λ b hb => by
 rcases I.ok.stk with e | ⟨e, hf⟩
 · rw [e] at hb; exact zzA _ hb
 · rw [e] at hb
   unfold frs at hb
   rw [List.filterMap_cons, hf] at hb
   exact hb
theorem Inv.stkFree (I : Inv X pins σ H s) : ∀ b ∈ frs X.stack, H b = none := λ b hb => by
 rcases zI.mp (I.stkSub b hb) with e | hb
 · rw [e]; exact I.free
 · obtain ⟨_, o, ho, _⟩ := I.ok.funs.mem hb
   exact I.base.free b o ho (I.ok.frf b hb) λ z => I.ok.exfs b z hb
theorem Inv.step {g' : Array GenState} {t' : Nat} {d' : Drawn} {ch : List Addr} (I : Inv X pins σ H s)
 (hch : ∀ b ∈ ch, (b ∈ X.ex \/ X.s₀.heap.objs.size <= b) /\ b ≠ X.env.locals /\ (∀ x c, X.env.cells.lookup x = some c -> c ≠ b) /\ ∀ p ∈ X.pn ++ pins, p.1 ≠ b)
 (keep : ∀ b o, b ≠ X.env.locals -> b ∉ X.fs -> b ∉ ch -> s.heap.get? b = some o -> H b = none -> h'.get? b = some o)
 (slot : ∀ b o, b ≠ X.env.locals -> b ∈ X.fs -> b ∉ ch -> s.heap.get? b = some o -> H b = none -> ∃ sl, h'.get? b = some { o with slots := sl }) (free : ∀ b o, b ∉ ch -> s.heap.get? b = some o -> H b = none -> H' b = none)
 (there : ∀ b o, b ∉ ch -> s.heap.get? b = some o -> ∃ o', h'.get? b = some o')
 (tups : ∀ b xs, H b = some (.tup xs) -> H' b = some (.tup xs)) (frzs : ∀ b o u, H b = some (.frz o u) -> H' b = some (.frz o u)) (tbls : ∀ b ps, H b = some (.tbl ps) -> ∃ more, H' b = some (.tbl (ps ++ more)))
 (ns : ∀ m, s.heap.Ns X.env.locals m -> h'.Ns X.env.locals m) (hok : HOk X.prog X.w H' h') (hg : AllBare g') :
 Inv X pins σ H' { s with heap := h', gens := g', drawn := d', toks := t' } := by
 have neL : ∀ b o, X.s₀.heap.get? b = some o -> b ≠ X.env.locals := λ b o e => zzN (zzH (Heap.lt_size e) I.ok.above)
 have neC : ∀ b o, X.s₀.heap.get? b = some o -> b ∉ X.ex -> b ∉ ch := λ b o e hx hb => by
  rcases (hch b hb).1 with z | z
  · exact hx z
  · exact absurd (zzH (Heap.lt_size e) z) (Nat.lt_irrefl _)
 have cellK : ∀ x c, X.env.cells.lookup x = some c -> ∀ v, s.heap.IsCell c v -> h'.IsCell c v := λ x c e v ⟨o, ho, hd⟩ => by
  have nch : c ∉ ch := λ z => (hch c z).2.2.1 x c e rfl
  by_cases hc : c ∈ X.fs
  · obtain ⟨sl, q⟩ := slot c o (I.cne x c e) hc nch ho (I.freeC x c e)
    exact ⟨_, q, hd⟩
  · exact ⟨o, keep c o (I.cne x c e) hc nch ho (I.freeC x c e), hd⟩
 refine ⟨I.ok, I.os, hg, ⟨λ b o e n hb hx => ?_, λ b o e n hb hx => ?_, λ b o e n hx => ?_, λ b o e hx => ?_, λ b xs e => tups b xs (I.base.tups b xs e), λ b o xs e => frzs b o xs (I.base.frzs b o xs e), λ b ps e => ?_⟩, ?_, λ x c e => ?_, ?_, λ x c e => ?_, λ p hp => ?_, hok, I.len⟩
 · exact keep b o (neL b o e) hb (neC b o e hx) (I.base.keep b o e n hb hx) (I.base.free b o e n hx)
 · obtain ⟨sl, e1⟩ := I.base.slot b o e n hb hx
   obtain ⟨sl', e2⟩ := slot b _ (neL b o e) hb (neC b o e hx) e1 (I.base.free b o e n hx)
   exact ⟨sl', e2⟩
 · obtain ⟨o', e1⟩ := I.base.there b o e hx
   exact free b o' (neC b o e hx) e1 (I.base.free b o e n hx)
 · obtain ⟨o', e1⟩ := I.base.there b o e hx
   exact there b o' (neC b o e hx) e1
 · obtain ⟨m1, e1⟩ := I.base.tbls b ps e
   obtain ⟨m2, e2⟩ := tbls b _ e1
   exact ⟨m1 ++ m2, by rw [e2, Array.append_assoc]⟩
 · obtain ⟨m, hn, hl⟩ := I.loc
   refine ⟨m, ns m hn, λ i x v e1 e2 e3 => ?_⟩
   obtain ⟨u, r, l⟩ := hl i x v e1 e2 e3
   refine ⟨u, r, ?_⟩
   rcases l with l | ⟨k, c, e, z⟩
   · exact .inl l
   · exact .inr ⟨k, c, e, cellK x c e _ z⟩
 · obtain ⟨v, z⟩ := I.cell x c e
   exact ⟨v, cellK x c e v z⟩
 · obtain ⟨m, ⟨o, _, _, ho, _⟩, _⟩ := I.loc
   exact free _ o (λ z => (hch _ z).2.1 rfl) ho I.free
 · obtain ⟨v, o, ho, hd⟩ := I.cell x c e
   exact free c o (λ z => (hch c z).2.2.1 x c e rfl) ho (I.freeC x c e)
 · obtain ⟨e, n, ne, nf, d⟩ := I.pin p hp
   have nch : p.1 ∉ ch := λ z => (hch p.1 z).2.2.2 p hp rfl
   exact ⟨keep p.1 p.2 ne nf nch e n, free p.1 p.2 nch e n, ne, nf, d⟩
theorem Inv.un {t' : Nat} (I : Inv X pins σ H s) (u : Un X.fs [] H H' s.heap h') (hok : HOk X.prog X.w H' h') : Inv X pins σ H' { s with heap := h', toks := t' } := by
 obtain ⟨m, ⟨o, es, ep, ho, r⟩, _⟩ := id I.loc
 obtain ⟨sl, hL⟩ := u.any ho I.free (by simp)
 exact I.step (g' := s.gens) (d' := s.drawn) (ch := []) (λ _ z => nomatch z) (λ b o _ hb _ e n => u.keep b o e n hb (by simp)) (λ b o _ hb _ e n => u.slot b o e n hb (by simp)) (λ b o _ e n => u.free b o e n (by simp)) (λ b o _ e => u.there b o e (by simp)) u.tups u.frzs u.tbls (λ m' hm => by
  obtain ⟨o', es', ep', ho', r'⟩ := hm
  rw [ho] at ho'; cases ho'
  exact ⟨_, es', ep', hL, r'⟩) hok I.bare
theorem Inv.call {g' : Array GenState} {t' : Nat} {d' : Drawn} {ch : List Addr} (I : Inv X pins σ H s) (u : Un (frs X.stack) ch H H' s.heap h') (hok : HOk X.prog X.w H' h') (hg : AllBare g')
 (hch : ∀ b ∈ ch, (b ∈ X.ex \/ X.s₀.heap.objs.size <= b) /\ b ≠ X.env.locals /\ (∀ x c, X.env.cells.lookup x = some c -> c ≠ b) /\ ∀ p ∈ X.pn ++ pins, p.1 ≠ b) :
 Inv X pins σ H' { s with heap := h', gens := g', drawn := d', toks := t' } := by
 obtain ⟨m, ⟨o, es, ep, ho, r⟩, _⟩ := id I.loc
 obtain ⟨sl, hL⟩ := u.any ho I.free λ z => (hch _ z).2.1 rfl
 exact I.step (ch := ch) hch (λ b o hL hb hc e n => u.keep b o e n (λ z => (zI.mp (I.stkSub b z)).elim hL hb) hc) (λ b o _ _ hc e n => u.any e n hc) (λ b o hc e n => u.free b o e n hc) (λ b o hc e => u.there b o e hc) u.tups u.frzs u.tbls (λ m' hm => by
  obtain ⟨o', es', ep', ho', r'⟩ := hm
  rw [ho] at ho'; cases ho'
  exact ⟨_, es', ep', hL, r'⟩) hok hg
theorem Inv.turned {t' : Nat} {it : Addr} (I : Inv X pins σ H s) (k : ∀ b o, b ≠ it -> s.heap.get? b = some o -> h'.get? b = some o) (hn : H it = none) (hL : it ≠ X.env.locals)
 (h1 : it ∈ X.ex \/ X.s₀.heap.objs.size <= it) (h2 : ∀ x c, X.env.cells.lookup x = some c -> c ≠ it) (h3 : ∀ p ∈ X.pn ++ pins, p.1 ≠ it) : Inv X pins σ H { s with heap := h', toks := t' } := by
 have nit : ∀ b u, H b = some u -> b ≠ it := λ b u e z => by rw [z, hn] at e; cases e
 refine I.step (g' := s.gens) (d' := s.drawn) (ch := [it]) (λ b hb => ?_) (λ b o _ _ hc e _ => k b o (λ z => hc (by simp [z])) e) (λ b o _ _ hc e _ => ⟨o.slots, k b o (λ z => hc (by simp [z])) e⟩) (λ _ _ _ _ n => n)
  (λ b o hc e => ⟨o, k b o (λ z => hc (by simp [z])) e⟩) (λ _ _ e => e) (λ _ _ _ e => e) (λ b ps e => ⟨#[], by rw [e]; simp⟩) (λ m hm => ?_) (λ b u e => ?_) I.bare
 · have e : b = it := by simpa using hb
   subst e
   exact ⟨h1, hL, h2, h3⟩
 · obtain ⟨o, es, ep, ho, r⟩ := hm
   exact ⟨o, es, ep, k _ o (Ne.symm hL) ho, r⟩
 · refine (I.hok b u e).stay (λ c v hc q => k c v ?_ q) (λ _ q => q) λ _ _ q => q
   rcases hc with z | z
   · rw [z]; exact nit b u e
   · exact nit c _ z
theorem Inv.tok (I : Inv X pins σ H s) (t : Nat) : Inv X pins σ H { s with toks := t } := I.un (h' := s.heap) (t' := t) Un.refl I.hok
theorem Inv.kept (I : Inv X pins σ H s) (k : ∀ b u, s.heap.get? b = some u -> h'.get? b = some u) : Inv X pins σ H { s with heap := h', toks := t' } := I.un (Un.kept k) (I.hok.kept k)
theorem Inv.laid (I : Inv X pins σ H s) (k : ∀ b u, s.heap.get? b = some u -> h'.get? b = some u) (hp : s.heap.objs.size <= a) (new : vA X.prog X.w (upd H a o) h' a o) :
 Inv X pins σ (upd H a o) { s with heap := h', toks := t' } := I.un (Un.laid k hp (I.hok.fresh hp)) (I.hok.laid k hp new)
theorem Inv.write (I : Inv X pins σ H s) (mu : Mut (H x)) (he : e = x \/ H e = some (.own x)) (k : ∀ b u, b ≠ e -> s.heap.get? b = some u -> h'.get? b = some u) (heo : ∃ u, h'.get? e = some u)
 (new : vA X.prog X.w (upd H x o) h' x o) : Inv X pins σ (upd H x o) { s with heap := h', toks := t' } := I.un (Un.write mu he k heo) (I.hok.write mu he k heo new)
theorem Inv.weak (I : Inv X pins σ H s) (hl : σ'.length = σ.length) (w : ∀ (i : Nat) v, σ'[i]? = some (some v) -> σ[i]? = some (some v)) : Inv X pins σ' H s :=
 ⟨I.ok, I.os, I.bare, I.base, let ⟨m, hn, hl'⟩ := I.loc; ⟨m, hn, λ i x v e1 e2 e3 => hl' i x v e1 (w i v e2) e3⟩, I.cell, I.free, I.freeC, I.pin, I.hok, hl.trans I.len⟩
theorem Inv.pins_of (I : Inv X pins σ H s) (h : ∀ p ∈ pins', s.heap.get? p.1 = some p.2 /\ H p.1 = none /\ p.1 ≠ X.env.locals /\ p.1 ∉ X.fs /\ ∀ v, p.2.data ≠ .cell v) : Inv X pins' σ H s :=
 ⟨I.ok, I.os, I.bare, I.base, I.loc, I.cell, I.free, I.freeC, λ p hp => (zzJ.mp hp).elim (λ z => I.pin p (zzM _ z)) (h p), I.hok, I.len⟩
theorem zit {N : List Str} (hN : N.Nodup) {i j : Nat} {x : Str} (a : N[i]? = some x) (b : N[j]? = some x) : i = j := by
 obtain ⟨h1, e1⟩ := zzD.mp a
 obtain ⟨h2, e2⟩ := zzD.mp b
 exact (List.getElem_inj hN).mp (e1.trans e2.symm)
theorem zfB {M : Model} {A : Around} {E : Value -> Shared -> Prop} {i : Nat} {x : Str} {v : V} {u : Value} {Q : Unit -> Shared -> Prop} (I : Inv X pins σ H s) (hN : X.N.Nodup) (hi : X.N[i]? = some x) (hx : Loc X.env.scope x) (r : RelV v u)
 (h : ∀ s', Inv X pins (σ.set i (some v)) H s' -> (∃ a, Heap.SameBut a s.heap s'.heap /\ (a = X.env.locals \/ X.env.cells.lookup x = some a)) -> Q () s') (hf : X.fn x = true \/ X.env.scope.names.lookup x = some .local := by first | exact .inl rfl | exact .inr rfl | assumption) : wpAny M A (storeName X.env x u) Q E s := by
 obtain ⟨m, hn, hl⟩ := id I.loc
 have hcls : (X.env.scope.kind == .class || (X.env.scope.kind == .module && X.env.locals != X.env.globals)) = false := by rw [I.ok.kind]; rfl
 have hiσ : i < σ.length := by rw [I.len]; exact (zzD.mp hi).1
 have cne := I.cne
 have tracked : ∀ {a : Addr} {h' : Heap}, (∃ o, s.heap.get? a = some o /\ H a = none) -> Heap.SameBut a s.heap h' -> HOk X.prog X.w H h' := λ {a h'} ha hs b ob e => by
  obtain ⟨_, _, hfree⟩ := ha
  refine (I.hok b ob e).stay (λ c w' hc q => (hs.2 c ?_).trans q) (λ _ q => q) λ _ _ q => q
  rintro rfl
  rcases hc with rfl | hc
  · rw [hfree] at e; cases e
  · rw [hfree] at hc; cases hc
 rcases hx with hk | hk
 · refine wpAny_storeName_local hk hn (λ h' hn' hs => ?_) hcls
   obtain ⟨oL, _, _, hoL, _⟩ := id hn
   refine h _ ⟨I.ok, I.os, I.bare, ⟨λ b o e n hb hx => ?_, λ b o e n hb hx => ?_, I.base.free, λ b o e hx => ?_, I.base.tups, I.base.frzs, I.base.tbls⟩, ⟨_, hn', λ j y v' e1 e2 e3 => ?_⟩, λ y c e => ?_, I.free, I.freeC, λ p hp => ?_, tracked ⟨oL, hoL, I.free⟩ hs, by simpa using I.len⟩ ⟨_, hs, .inl rfl⟩
   · exact (hs.2 b (zzN (zzH (Heap.lt_size e) I.ok.above))).trans (I.base.keep b o e n hb hx)
   · obtain ⟨sl, e1⟩ := I.base.slot b o e n hb hx
     exact ⟨sl, (hs.2 b (zzN (zzH (Heap.lt_size e) I.ok.above))).trans e1⟩
   · obtain ⟨o', e1⟩ := I.base.there b o e hx
     exact ⟨o', (hs.2 b (zzN (zzH (Heap.lt_size e) I.ok.above))).trans e1⟩
   · by_cases hj : j = i
     · subst hj
       rw [hi] at e1; cases e1
       rw [List.getElem?_set_self hiσ] at e2
       cases e2
       exact ⟨u, r, .inl ⟨hk, by simp⟩⟩
     · rw [zzV (Ne.symm hj)] at e2
       obtain ⟨u', r', q⟩ := hl j y v' e1 e2 e3
       refine ⟨u', r', ?_⟩
       rcases q with ⟨k, e⟩ | ⟨k, c, e, z⟩
       · refine .inl ⟨k, ?_⟩
         have : y ≠ x := λ e => hj (zit hN e1 (e ▸ hi))
         simp [this, e]
       · exact .inr ⟨k, c, e, z.sameBut hs (cne y c e)⟩
   · obtain ⟨w', z⟩ := I.cell y c e
     exact ⟨w', z.sameBut hs (cne y c e)⟩
   · obtain ⟨e, n, ne, nf, d⟩ := I.pin p hp
     exact ⟨(hs.2 p.1 ne).trans e, n, ne, nf, d⟩
 · have hfn : X.fn x = true := by
    rcases hf with z | z
    · exact z
    · rw [z] at hk; cases hk
   obtain ⟨c, hc⟩ := I.ok.has x (.inl hk)
   obtain ⟨w', z⟩ := I.cell x c hc
   refine wpAny_storeName_cell I.ok.kind hk hc z (λ h' hc' hs => ?_)
   obtain ⟨oc, hoc, hocd⟩ := id z
   refine h { s with heap := h' } ⟨I.ok, I.os, I.bare, ⟨λ b o e n hb hx => ?_, λ b o e n hb hx => ?_, I.base.free, λ b o e hx => ?_, I.base.tups, I.base.frzs, I.base.tbls⟩, ⟨m, hn.sameBut hs (Ne.symm (cne x c hc)), λ j y v' e1 e2 e3 => ?_⟩, λ y c' e => ?_, I.free, I.freeC, λ p hp => ?_, tracked ⟨oc, hoc, I.freeC x c hc⟩ hs, by simpa using I.len⟩ ⟨c, hs, .inr hc⟩
   · exact (hs.2 b (zzN (zzH (Heap.lt_size e) (I.ok.cab x c hfn hc)))).trans (I.base.keep b o e n hb hx)
   · obtain ⟨sl, e1⟩ := I.base.slot b o e n hb hx
     exact ⟨sl, (hs.2 b (zzN (zzH (Heap.lt_size e) (I.ok.cab x c hfn hc)))).trans e1⟩
   · obtain ⟨o', e1⟩ := I.base.there b o e hx
     exact ⟨o', (hs.2 b (zzN (zzH (Heap.lt_size e) (I.ok.cab x c hfn hc)))).trans e1⟩
   · by_cases hj : j = i
     · subst hj
       rw [hi] at e1; cases e1
       rw [List.getElem?_set_self hiσ] at e2
       cases e2
       exact ⟨u, r, .inr ⟨.inl hk, c, hc, hc'⟩⟩
     · rw [zzV (Ne.symm hj)] at e2
       obtain ⟨u', r', q⟩ := hl j y v' e1 e2 e3
       refine ⟨u', r', ?_⟩
       rcases q with q | ⟨k, c', e, z'⟩
       · exact .inl q
       · refine .inr ⟨k, c', e, z'.sameBut hs ?_⟩
         rintro rfl
         exact hj (zit hN e1 (I.ok.inj _ _ _ e hc ▸ hi))
   · by_cases hcc : c' = c
     · subst hcc; exact ⟨_, hc'⟩
     · obtain ⟨w2, z2⟩ := I.cell y c' e
       exact ⟨w2, z2.sameBut hs hcc⟩
   · obtain ⟨e, n, ne, nf, d⟩ := I.pin p hp
     refine ⟨(hs.2 p.1 ?_).trans e, n, ne, nf, d⟩
     intro q
     rw [q, hoc] at e
     have q' : oc = p.2 := Option.some.inj e
     exact d w' (by rw [<- q']; exact hocd)
theorem Vq (I : Inv X pins σ H s) (hN : X.N.Nodup) (hi : X.N[i]? = some x) (hx : Loc X.env.scope x) (r : RelV v u)
 (h : ∀ s', Inv X pins (σ.set i (some v)) H s' -> Q () s') (hf : X.fn x = true \/ X.env.scope.names.lookup x = some .local := by first | exact .inl rfl | exact .inr rfl | assumption) : wpAny M A (storeName X.env x u) Q E s :=
 zfB I hN hi hx r (λ s' I' _ => h s' I') hf
theorem Inv.call' (I : Inv X pins σ H s) (ho : s'.os = s.os) (u : Un (frs X.stack) ch H H' s.heap s'.heap) (hok : HOk X.prog X.w H' s'.heap) (hg : AllBare s'.gens)
 (hch : ∀ b ∈ ch, (b ∈ X.ex \/ X.s₀.heap.objs.size <= b) /\ b ≠ X.env.locals /\ (∀ x c, X.env.cells.lookup x = some c -> c ≠ b) /\ ∀ p ∈ X.pn ++ pins, p.1 ≠ b) : Inv X pins σ H' s' := by
 obtain ⟨h', g', d', t', o'⟩ := s'
 have e : o' = s.os := ho
 subst e
 exact I.call (g' := g') (t' := t') (d' := d') u hok hg hch
end
abbrev XK := Value -> Option Addr -> Hp -> Prop
abbrev St := List (Option V)
abbrev VK := V -> Hp -> Prop
abbrev TE := St -> Hp -> VK -> Prop
abbrev TT := St -> Hp -> (Bool -> Hp -> Prop) -> Prop
abbrev TA := St -> Hp -> (List V -> Hp -> Prop) -> Prop
structure Ends where
 nx : St -> Hp -> Prop
 rt : VK
 bk : St -> Hp -> Prop := λ _ _ => False
 ct : St -> Hp -> Prop := λ _ _ => False
abbrev TS := Ends -> St -> Hp -> Prop
def EP (X : Cx) (pins : List (Addr × Obj)) (σ : St) (Q : VK) (u : Value) (s' : Shared) : Prop := ∃ v H', Inv X pins σ H' s' /\ RelV v u /\ Q v H'
def TP (X : Cx) (pins : List (Addr × Obj)) (σ : St) (Q : Bool -> Hp -> Prop) (b : Bool) (s' : Shared) : Prop := ∃ H', Inv X pins σ H' s' /\ Q b H'
def AP (X : Cx) (pins : List (Addr × Obj)) (σ : St) (Q : List V -> Hp -> Prop) (us : List Value) (s' : Shared) : Prop := ∃ vs H', Inv X pins σ H' s' /\ Vals vs us /\ Q vs H'
def SP (X : Cx) (pins : List (Addr × Obj)) (D : Ends) (f : Flow) (s' : Shared) : Prop :=
 match f with
 | .next => ∃ σ' H', Inv X pins σ' H' s' /\ D.nx σ' H'
 | .brk => ∃ σ' H', Inv X pins σ' H' s' /\ D.bk σ' H'
 | .cont => ∃ σ' H', Inv X pins σ' H' s' /\ D.ct σ' H'
 | .ret u => ∃ v σ' H', Inv X pins σ' H' s' /\ RelV v u /\ D.rt v H'
def PE (X : Cx) (e : Expr) (t : TE) : Prop :=
 ∀ (pins : List (Addr × Obj)) (s : Shared) (σ : St) (H : Hp) (Q : VK), Inv X pins σ H s -> t σ H Q -> wpAny (model X.prog X.w) X.A (eval e X.env) (EP X pins σ Q) X.xe s
def PT (X : Cx) (e : Expr) (t : TT) : Prop :=
 ∀ (pins : List (Addr × Obj)) (s : Shared) (σ : St) (H : Hp) (Q : Bool -> Hp -> Prop), Inv X pins σ H s -> t σ H Q -> wpAny (model X.prog X.w) X.A (isTrue e X.env (eval e X.env)) (TP X pins σ Q) X.xe s
def PW (X : Cx) (e : Expr) (t : TT) : Prop :=
 ∀ (whole : Sem Value) (pins : List (Addr × Obj)) (s : Shared) (σ : St) (H : Hp) (Q : Bool -> Hp -> Prop), Inv X pins σ H s -> t σ H Q -> wpAny (model X.prog X.w) X.A (isTrue e X.env whole) (TP X pins σ Q) X.xe s
theorem PW.pt (h : PW X e t) : PT X e t := h _
def PA (X : Cx) (es : List Expr) (t : TA) : Prop :=
 ∀ (pos : Pos) (pins : List (Addr × Obj)) (s : Shared) (σ : St) (H : Hp) (Q : List V -> Hp -> Prop), Inv X pins σ H s -> t σ H Q -> wpAny (model X.prog X.w) X.A (spliced (backTo pos (starEach es X.env))) (AP X pins σ Q) X.xe s
def PS (X : Cx) (st : Stmt) (t : TS) : Prop :=
 ∀ (pins : List (Addr × Obj)) (s : Shared) (σ : St) (H : Hp) (D : Ends), Inv X pins σ H s -> t D σ H -> wpAny (model X.prog X.w) X.A (exec st X.env) (SP X pins D) X.xe s
def PSs (X : Cx) (st : List Stmt) (t : TS) : Prop :=
 ∀ (pins : List (Addr × Obj)) (s : Shared) (σ : St) (H : Hp) (D : Ends), Inv X pins σ H s -> t D σ H -> wpAny (model X.prog X.w) X.A (execs st X.env) (SP X pins D) X.xe s
theorem thn (h : wpAny M A t Q E s) (hQ : ∀ a s, Q a s -> Q' a s) : wpAny M A t Q' E s := wpAny_mono h hQ λ _ _ x => x
end L2
namespace L2
open PySem PySem.Spec PyProof.Rows
section
variable {X : Cx}
def zcB (i : Nat) : TE := λ σ H Q => ∃ v, σ[i]? = some (some v) /\ Q v H
def tC (v : V) : TE := λ _ H Q => Q v H
theorem zmB (hN : X.N[i]? = some x) (hv : Vis X.env.scope x) (hd : (x == ("__debug__" : Str)) = false := by decide) (hcd : (x == ("__classdict__" : Str)) = false := by decide) : PE X (.Name x pos) (zcB i) := by
 intro pins s σ H Q I h
 obtain ⟨v, e, h⟩ := h
 obtain ⟨m, hn, hl⟩ := I.loc
 obtain ⟨u, r, l⟩ := hl i x v hN e hv
 have fin : EP X pins σ Q u s := ⟨v, H, I, r, h⟩
 rcases l with ⟨hk, hm⟩ | ⟨hk, c, hc, hcell⟩
 · exact wpAny_Name (wpAny_loadName_local I.ok.kind hk hn hm fin) hd
 · rcases hk with hk | hk
   · exact wpAny_Name (wpAny_loadName_cell I.ok.kind hk hc hcell fin) hd
   · exact wpAny_Name (wpAny_loadName_free I.ok.kind hk hc hcell fin hcd) hd
theorem zgw : PE X (.Constant (.int i) j pos) (tC (.int i)) := λ _ _ _ H _ I h => wpAny_Constant_int ⟨.int i, H, I.tok _, ⟨_, rfl⟩, h⟩
theorem zrf : PE X (.Constant (.bool b) j pos) (tC (.bl b)) := λ _ _ _ H _ I h => Constant_bool ⟨.bl b, H, I, rfl, h⟩
theorem zqm : PE X (.Constant .none j pos) (tC .non) := λ _ _ _ H _ I h => Constant_none ⟨.non, H, I, rfl, h⟩
theorem zpG : PE X (.Constant (.str x) j pos) (tC (.str x)) := λ _ _ _ H _ I h => Calls.Constant_str ⟨.str x, H, I.tok _, ⟨_, rfl⟩, h⟩
def Gl (X : Cx) (x : Str) : Prop := X.env.kindOf x = some .globalImplicit
theorem zni (I : Inv X pins σ H s) (hg : Gl X x) (hm : X.mg x = some u) (h : Q u s)
 (hd : (x == ("__debug__" : Str)) = false := by decide) : wpAny (model X.prog X.w) X.A (eval (.Name x pos) X.env) Q E s :=
 Calls.Name_function_global I.ok.kind hg (Calls.loadGlobal_global (by rw [I.ok.glob]; exact I.mod.glob.keeps I.bk) hm h) hd
theorem zap (I : Inv X pins σ H s) (hg : Gl X x) (hm : X.mg x = none) (hv : bootBuiltins x = some u) (h : Q u s)
 (hn : x ≠ "__name__" := by decide) (hd : (x == ("__debug__" : Str)) = false := by decide) : wpAny (model X.prog X.w) X.A (eval (.Name x pos) X.env) Q E s := by
 obtain ⟨mb, h1, h2⟩ := I.mod.blt
 exact Calls.Name_function_global I.ok.kind hg (Calls.loadGlobal_builtin (by rw [I.ok.glob]; exact I.mod.glob.keeps I.bk) hm (by rw [I.ok.blt]; exact h1.keeps I.bk) ((h2 x hn).trans hv) h) hd
variable {a b : Expr} {ta tb : TE} {pos : Pos}
variable {tA tB' : TT} {rest : List Expr}
def zsM (t u : TT) : TT := λ σ H Q => t σ H λ c H1 => if c = true then u σ H1 Q else Q false H1
def tOr (t u : TT) : TT := λ σ H Q => t σ H λ c H1 => if c = true then Q true H1 else u σ H1 Q
def zsu (t : TT) : TT := λ σ H Q => t σ H λ c H1 => Q (!c) H1
theorem zob (ha : PT X a tA) : PW X (.BoolOp .And [a] pos) tA := by
 intro wh pins s σ H Q I h
 refine isTrue_and (thn (ha pins s σ H Q I h) λ c s1 e => ?_)
 cases c with
 | true => exact isTrue_and_nil e
 | false => exact e
theorem zpf (ha : PT X a tA) : PW X (.BoolOp .Or [a] pos) tA := by
 intro wh pins s σ H Q I h
 refine isTrue_or (thn (ha pins s σ H Q I h) λ c s1 e => ?_)
 cases c with
 | false => exact isTrue_or_nil e
 | true => exact e
theorem zpw (ha : PT X a tA) (hb : PW X (.BoolOp .And (b :: rest) pos) tB') : PW X (.BoolOp .And (a :: b :: rest) pos) (zsM tA tB') := by
 intro wh pins s σ H Q I h
 refine isTrue_and (thn (ha pins s σ H _ I h) λ c s1 ⟨H1, I1, q1⟩ => ?_)
 cases c with
 | true => exact hb wh pins s1 σ H1 Q I1 q1
 | false => exact ⟨H1, I1, q1⟩
theorem zrC (ha : PT X a tA) (hb : PW X (.BoolOp .Or (b :: rest) pos) tB') : PW X (.BoolOp .Or (a :: b :: rest) pos) (tOr tA tB') := by
 intro wh pins s σ H Q I h
 refine isTrue_or (thn (ha pins s σ H _ I h) λ c s1 ⟨H1, I1, q1⟩ => ?_)
 cases c with
 | true => exact ⟨H1, I1, q1⟩
 | false => exact hb wh pins s1 σ H1 Q I1 q1
theorem zpW (ha : PT X a tA) : PT X (.UnaryOp .Not a pos) (zsu tA) := by
 intro pins s σ H Q I h
 exact isTrue_not (ha pins s σ H (λ c H1 => Q (!c) H1) I h)
end
end L2
namespace L2
open PySem PySem.Spec PyProof.Rows
def SqL (K : zC) (H : Hp) (a : Addr) (xs : List V) : Prop :=
 Rd H a (.lst xs) \/
  ∃ (o : Obj) (its : Array Value) (n : Nat), K.lookup a = some o /\ o.cls = .type "list" /\ o.dict = none /\ o.data = .seq its n /\ its.size <= sizeLine /\ Vals xs its.toList
def RdL (K : zC) (H : Hp) (a : Addr) (xs : List V) : Prop :=
 Rd H a (.lst xs) \/ ∃ (its : Array Value) (n : Nat), K.lookup a = some { cls := .type "list", data := .seq its n } /\ its.size <= sizeLine /\ Vals xs its.toList
def SqT (K : zC) (H : Hp) (a : Addr) (xs : List V) : Prop :=
 Rd H a (.tup xs) \/
  ∃ (o : Obj) (its : Array Value) (n : Nat), K.lookup a = some o /\ o.cls = .type "tuple" /\ o.data = .seq its n /\ its.size <= sizeLine /\ Vals xs its.toList
def zsr : Value -> Option V
 | .none => some .non
 | .bool b => some (.bl b)
 | .int i _ => some (.int i)
 | .str x _ => some (.str x)
 | .bytes b _ => some (.byt b)
 | .float b _ => some (.flt b)
 | .ref a => some (.ref a)
 | .type n => some (.ty n)
 | _ => none
theorem RelV.abs (r : RelV x u) : zsr u = some x := by
 cases x with
 | non => cases r; rfl
 | bl _ => cases r; rfl
 | int _ => obtain ⟨t, rfl⟩ := r; rfl
 | str _ => obtain ⟨t, rfl⟩ := r; rfl
 | byt _ => obtain ⟨t, rfl⟩ := r; rfl
 | flt _ => obtain ⟨t, rfl⟩ := r; rfl
 | ref _ => cases r; rfl
 | ty _ => cases r; rfl
theorem RelV.inj (r : RelV x u) (q : RelV y u) : x = y := Option.some.inj (r.abs.symm.trans q.abs)
theorem Vals.inj : ∀ {xs ys : List V} {us : List Value}, Vals xs us -> Vals ys us -> xs = ys
 | _, _, _, .nil, .nil => rfl
 | _, _, _, .cons r t, .cons r' t' => by rw [r.inj r', Vals.inj t t']
section
variable {X : Cx} {pins : List (Addr × Obj)} {σ : St} {H : Hp} {s : Shared} {a : Addr} {xs ys : List V}
theorem Inv.list (I : Inv X pins σ H s) (h : SqL X.K H a xs) : ∃ its : List Value, Vals xs its /\ PlainL s.heap a its.toArray /\ xs.length <= sizeLine := by
 rcases h with h | ⟨o, its, n, hk, hc, hd, hs, hz, r⟩
 · obtain ⟨z, its, n, r, e⟩ := h.ok I.hok
   exact ⟨its, r, ⟨_, n, e, rfl, rfl, rfl⟩, z⟩
 · refine ⟨its.toList, r, ⟨o, n, I.kIn a o hk, hc, hd, by simpa using hs⟩, ?_⟩
   have e := r.length
   simp only [Array.length_toList] at e
   omega
theorem Inv.tuple (I : Inv X pins σ H s) (h : SqT X.K H a xs) : ∃ its : List Value, Vals xs its /\ IsTup s.heap a its.toArray /\ xs.length <= sizeLine := by
 rcases h with h | ⟨o, its, n, hk, hc, hs, hz, r⟩
 · obtain ⟨z, its, r, p⟩ := h.ok I.hok
   exact ⟨its, r, p, z⟩
 · refine ⟨its.toList, r, ⟨o, I.kIn a o hk, hc, n, by simpa using hs⟩, ?_⟩
   have e := r.length
   simp only [Array.length_toList] at e
   omega
theorem Inv.list_inj (I : Inv X pins σ H s) (h : SqL X.K H a xs) (h' : SqL X.K H a ys) : xs = ys := by
 obtain ⟨its, r, ⟨o, n, e, _, _, d⟩, _⟩ := I.list h
 obtain ⟨its', r', ⟨o', n', e', _, _, d'⟩, _⟩ := I.list h'
 rw [e] at e'; cases e'
 rw [d] at d'
 injection d' with d1 _
 have : its = its' := by simpa using congrArg Array.toList d1
 subst this
 exact r.inj r'
theorem Inv.tuple_inj (I : Inv X pins σ H s) (h : SqT X.K H a xs) (h' : SqT X.K H a ys) : xs = ys := by
 obtain ⟨its, r, ⟨o, e, _, n, d⟩, _⟩ := I.tuple h
 obtain ⟨its', r', ⟨o', e', _, n', d'⟩, _⟩ := I.tuple h'
 rw [e] at e'; cases e'
 rw [d] at d'
 injection d' with d1 _
 have : its = its' := by simpa using congrArg Array.toList d1
 subst this
 exact r.inj r'
end
abbrev Cx.wish (X : Cx) (E : Value -> Shared -> Prop) : Cx := { X with xe := E }
abbrev Cx.nox (X : Cx) : Cx := X.wish λ _ _ => False
theorem Cx.Ok.wish {X : Cx} (ok : X.Ok) (E : Value -> Shared -> Prop) : (X.wish E).Ok :=
 ⟨ok.mod, ok.kind, ok.glob, ok.blt, ok.above, ok.inj, ok.has, ok.cab, ok.hd, ok.frames, ok.stk, ok.exf, ok.bs, ok.bsz, ok.noex, ok.exfs, ok.funs, ok.frf⟩
theorem Cx.Ok.unwish {X : Cx} {E : Value -> Shared -> Prop} (ok : (X.wish E).Ok) : X.Ok :=
 ⟨ok.mod, ok.kind, ok.glob, ok.blt, ok.above, ok.inj, ok.has, ok.cab, ok.hd, ok.frames, ok.stk, ok.exf, ok.bs, ok.bsz, ok.noex, ok.exfs, ok.funs, ok.frf⟩
section
variable {X : Cx} {pins : List (Addr × Obj)} {σ : St} {H : Hp} {s : Shared} {E : Value -> Shared -> Prop}
theorem Inv.wish (I : Inv X pins σ H s) (E : Value -> Shared -> Prop) : Inv (X.wish E) pins σ H s := ⟨I.ok.wish E, I.os, I.bare, I.base, I.loc, I.cell, I.free, I.freeC, I.pin, I.hok, I.len⟩
theorem Inv.unwish (I : Inv (X.wish E) pins σ H s) : Inv X pins σ H s := ⟨I.ok.unwish, I.os, I.bare, I.base, I.loc, I.cell, I.free, I.freeC, I.pin, I.hok, I.len⟩
theorem SP.unwish (h : SP (X.wish E) pins D f s') : SP X pins D f s' := by
 cases f with
 | next => obtain ⟨σ', H', I, q⟩ := h; exact ⟨σ', H', I.unwish, q⟩
 | brk => obtain ⟨σ', H', I, q⟩ := h; exact ⟨σ', H', I.unwish, q⟩
 | cont => obtain ⟨σ', H', I, q⟩ := h; exact ⟨σ', H', I.unwish, q⟩
 | ret u => obtain ⟨v, σ', H', I, r, q⟩ := h; exact ⟨v, σ', H', I.unwish, r, q⟩
theorem PSs.nox {st : List Stmt} {t : TS} (h : PSs X.nox st t) : PSs X st t := λ pins s σ H D I hw =>
 wpAny_mono (h pins s σ H D (I.wish _) hw) (λ _ _ q => q.unwish) λ _ _ z => False.elim z
end
section
variable {X : Cx} {st : Stmt} {rest : List Stmt} {t u : TS} {e : Expr} {te : TE} {pos : Pos}
def zrv : TS := λ D σ H => D.nx σ H
def zsh (t u : TS) : TS := λ D σ H => t { D with nx := u D } σ H
theorem zoB : PSs X [] zrv := λ _ _ σ H _ I h => wpAny_execs_nil ⟨σ, H, I, h⟩
theorem zhy (h1 : PS X st t) (h2 : PSs X rest u) : PSs X (st :: rest) (zsh t u) := by
 intro pins s σ H D I h
 refine wpAny_execs_cons (thn (h1 pins s σ H { D with nx := u D } I h) λ f s1 q => ?_)
 cases f with
 | next =>
  obtain ⟨σ', H', I', q⟩ := q
  exact h2 pins s1 σ' H' D I' q
 | ret v => exact q
 | brk => exact q
 | cont => exact q
theorem zjN (h1 : PS X st t) : PSs X [st] t := by
 intro pins s σ H D I h
 refine wpAny_execs_cons (thn (h1 pins s σ H D I h) λ f s1 q => ?_)
 cases f with
 | next => exact wpAny_execs_nil q
 | ret v => exact q
 | brk => exact q
 | cont => exact q
theorem Inv.quiet (I : Inv X pins σ H s) : interactive X.env = false := by simp [interactive, I.ok.kind]
def zre (te : TE) : TS := λ D σ H => te σ H λ _ H1 => D.nx σ H1
theorem zoE (he : PE X e te) (hs : swapsWith e none pos.line X.env = pure false := by rfl) : PS X (.Expr e pos) (zre te) := by
 intro pins s σ H D I h
 exact wpAny_Expr_any (thn (he pins s σ H _ I h) λ v s1 ⟨x, H1, I1, r1, q1⟩ => ⟨σ, H1, I1, q1⟩) I.quiet hs
def zsH (te : TE) : TS := λ D σ H => te σ H D.rt
theorem zqb (he : PE X e te) : PS X (.Return (some e) pos) (zsH te) := by
 intro pins s σ H D I h
 exact wpAny_Return_some (thn (he pins s σ H _ I h) λ v s1 ⟨x, H1, I1, r1, q1⟩ => ⟨x, σ, H1, I1, r1, q1⟩)
def zsd (c : TT) (t u : TS) : TS := λ D σ H => c σ H λ b H1 => if b = true then t D σ H1 else u D σ H1
theorem zry (hc : PT X c tc) (ha : PSs X a t) (hb : PSs X b u) : PS X (.If c a b pos) (zsd tc t u) := by
 intro pins s σ H D I h
 refine wpAny_If (thn (hc pins s σ H _ I h) λ d s1 ⟨H1, I1, q1⟩ => ?_)
 cases d with
 | true => exact ha pins s1 σ H1 D I1 q1
 | false => exact hb pins s1 σ H1 D I1 q1
end
abbrev TG := V -> St -> Hp -> (St -> Hp -> Prop) -> Prop
abbrev TGs := List V -> St -> Hp -> (St -> Hp -> Prop) -> Prop
def PG (X : Cx) (target : Expr) (t : TG) : Prop :=
 ∀ (pins : List (Addr × Obj)) (s : Shared) (σ : St) (H : Hp) (v : V) (u : Value) (Q : St -> Hp -> Prop), Inv X pins σ H s -> RelV v u -> t v σ H Q ->
  wpAny (model X.prog X.w) X.A (assign target X.env u) (λ _ s' => ∃ σ' H', Inv X pins σ' H' s' /\ Q σ' H') X.xe s
def PGs (X : Cx) (ts : List Expr) (t : TGs) : Prop :=
 ∀ (pins : List (Addr × Obj)) (s : Shared) (σ : St) (H : Hp) (vs : List V) (us : List Value) (Q : St -> Hp -> Prop), Inv X pins σ H s -> Vals vs us -> t vs σ H Q ->
  wpAny (model X.prog X.w) X.A (assignInOrder ((assignEach ts X.env).map (·.2)) us) (λ _ s' => ∃ σ' H', Inv X pins σ' H' s' /\ Q σ' H') X.xe s
abbrev zrl := V -> V -> V -> Hp -> (Hp -> Prop) -> Prop
def zqV (X : Cx) (t : zrl) : Prop :=
 ∀ (pins : List (Addr × Obj)) (s : Shared) (σ : St) (H : Hp) (o i v : V) (ov iv u : Value) (Q : Hp -> Prop), Inv X pins σ H s -> RelV o ov -> RelV i iv -> RelV v u -> t o i v H Q ->
  wpAny (model X.prog X.w) X.A (setItem ov iv u) (λ _ s' => ∃ H', Inv X pins σ H' s' /\ Q H') X.xe s
abbrev TIp := V -> V -> Hp -> VK -> Prop
def PIp (X : Cx) (op : Operator) (t : TIp) : Prop :=
 ∀ (pins : List (Addr × Obj)) (s : Shared) (σ : St) (H : Hp) (x y : V) (v u : Value) (Q : VK), Inv X pins σ H s -> RelV x v -> RelV y u -> t x y H Q ->
  wpAny (model X.prog X.w) X.A (inplaceOp op v u) (EP X pins σ Q) X.xe s
section
variable {X : Cx} {pos : Pos}
def zhq (i : Nat) : TG := λ v σ H Q => Q (σ.set i (some v)) H
theorem zom (hN : X.N.Nodup) (hi : X.N[i]? = some x) (hx : Loc X.env.scope x) (hf : X.fn x = true \/ X.env.scope.names.lookup x = some .local := by first | exact .inl rfl | exact .inr rfl | assumption) : PG X (.Name x pos) (zhq i) := by
 intro pins s σ H v u Q I r h
 exact wpAny_assign_Name (Vq I hN hi hx r (λ s' I' => ⟨_, H, I', h⟩) hf)
def zsz : TGs := λ vs σ H Q => vs = [] /\ Q σ H
def zrI (t : TG) (u : TGs) : TGs := λ vs σ H Q => ∃ v r, vs = v :: r /\ t v σ H λ σ' H' => u r σ' H' Q
theorem znL : PGs X [] zsz := by
 intro pins s σ H vs us Q I r h
 obtain ⟨e, h⟩ := h
 subst e
 cases r
 exact assignInOrder_nil ⟨σ, H, I, h⟩
theorem zmm (h1 : PG X e t) (h2 : PGs X es u)
 (hs : (assignEach (e :: es) X.env).map (·.2) = assign e X.env :: (assignEach es X.env).map (·.2) := by rfl) : PGs X (e :: es) (zrI t u) := by
 intro pins s σ H vs us Q I r h
 obtain ⟨v, vr, e1, h⟩ := h
 subst e1
 cases r with
 | cons r rr =>
  rw [hs]
  refine assignInOrder_cons (thn (h1 pins s σ H _ _ _ I r h) λ _ s1 ⟨σ1, H1, I1, q1⟩ => ?_)
  exact h2 pins s1 σ1 H1 _ _ Q I1 rr q1
def zsy (K : zC) (n : Nat) (t : TGs) : TG := λ v σ H Q => ∃ a xs, v = .ref a /\ SqT K H a xs /\ xs.length = n /\ t xs σ H Q
theorem zqB (hc : X.calm = true) (h : PGs X es t)
 (hn : (assignEach es X.env).length = n := by rfl) (hst : (assignEach es X.env).findIdx? (·.1) = none := by rfl) : PG X (.Tuple es k pos) (zsy X.K n t) := by
 intro pins s σ H v u Q I r hw
 obtain ⟨a, xs, e1, hq, hl, hw⟩ := hw
 subst e1
 cases r
 obtain ⟨its, rv, ht, hz⟩ := I.tuple hq
 refine assign_Tuple_tuple (I.ok.hd hc) ht (by simp [hn, <- hl, rv.length]) hst λ h' hx => ?_
 have I1 : Inv X pins σ H { s with heap := h' } := I.kept (t' := s.toks) λ b o e => hx b o (zzN (Heap.lt_size e)) e
 exact h pins _ σ H xs _ Q I1 (by simpa using rv) hw
def zsJ (to ti : TE) (t : zrl) : TG := λ v σ H Q => to σ H λ o H1 => ti σ H1 λ i H2 => t o i v H2 λ H3 => Q σ H3
theorem zjs (ho : PE X o to) (hi : PE X i ti) (hs : zqV X t)
 (ha : ∀ v, assign (.Subscript o i pos) X.env v = (do
  let ov <- holding [v] (eval o X.env)
  let iv <- holding [v, ov] (eval i X.env)
  standAt pos
  holding [v, ov, iv] (setItem ov iv v)
  release [v, ov, iv] []) := by intro _; rfl) : PG X (.Subscript o i pos) (zsJ to ti t) := by
 intro pins s σ H v u Q I r h
 rw [ha]
 refine wpAny_bind (wpAny_holding (thn (ho pins s σ H _ I h) λ ov s1 ⟨x, H1, I1, r1, q1⟩ => ?_))
 refine wpAny_bind (wpAny_holding (thn (hi pins s1 σ H1 _ I1 q1) λ iv s2 ⟨y, H2, I2, r2, q2⟩ => ?_))
 refine wpAny_bind (wpAny_standAt (wpAny_bind (wpAny_holding (thn (hs pins s2 σ H2 x y v ov iv u _ I2 r1 r2 r q2) λ _ s3 ⟨H3, I3, q3⟩ => ?_))))
 exact wpAny_release ⟨σ, H3, I3, q3⟩
def zpm (te : TE) (g : TG) : TS := λ D σ H => te σ H λ x H1 => g x σ H1 D.nx
theorem zgS (he : PE X e te) (hg : PG X tg g) (hs : swapsWithSole [tg] e pos.line X.env = pure false := by rfl) (hw : swappedStores [tg] e X.env = pure none := by rfl)
 (h1 : (assignEach [tg] X.env).map (·.2) = [assign tg X.env] := by rfl) : PS X (.Assign [tg] e pos) (zpm te g) := by
 intro pins s σ H D I h
 refine wpAny_Assign_stores (thn (he pins s σ H _ I h) λ v s1 ⟨x, H1, I1, r1, q1⟩ => ?_) hs hw
 rw [h1]
 exact thn (hg pins s1 σ H1 x v _ I1 r1 q1) λ _ s2 q => q
theorem zlI (hN : X.N.Nodup) (hi : X.N[i]? = some x) (hx : Loc X.env.scope x) (he : PE X e te) (hs : swapsWith e (some (.Name x pos')) pos.line X.env = pure false := by rfl) (hf : X.fn x = true \/ X.env.scope.names.lookup x = some .local := by first | exact .inl rfl | exact .inr rfl | assumption) :
 PS X (.Assign [.Name x pos'] e pos) (zpm te (zhq i)) := by
 intro pins s σ H D I h
 refine wpAny_Assign_Name (thn (he pins s σ H _ I h) λ v s1 ⟨y, H1, I1, r1, q1⟩ => ?_) hs
 exact Vq I1 hN hi hx r1 (λ s2 I2 => ⟨_, H1, I2, q1⟩) hf
def zsF (i j : Nat) (ta : TA) : TS := λ D σ H => ta σ H λ vs H1 => ∃ v w, vs = [v, w] /\ D.nx ((σ.set i (some v)).set j (some w)) H1
theorem zpF (hc : X.calm = true) (hN : X.N.Nodup) (hi : X.N[i]? = some x) (hj : X.N[j]? = some y) (hij : i ≠ j)
 (hx : X.env.scope.names.lookup x = some .local) (hy : X.env.scope.names.lookup y = some .local) (ha : PA X [a, b] ta)
 (hw : swappedStores [.Tuple [.Name x px, .Name y py] kt pt] (.Tuple [a, b] k2 pt2) X.env = pure (some [x, y]))
 (hs : swapsWithSole [.Tuple [.Name x px, .Name y py] kt pt] (.Tuple [a, b] k2 pt2) pos.line X.env = pure false := by rfl) :
 PS X (.Assign [.Tuple [.Name x px, .Name y py] kt pt] (.Tuple [a, b] k2 pt2) pos) (zsF i j ta) := by
 intro pins s σ H D I h
 rw [exec_Assign_arm]
 refine wpAny_bind (wpAny_standAt ?_)
 rw [hs]
 refine wpAny_bind (wpAny_pure ?_)
 rw [if_neg (by decide)]
 refine wpAny_bind (Tuple_ (thn (ha _ pins s σ H _ I h) λ us s1 ⟨vs, H1, I1, r1, q1⟩ => ?_))
 obtain ⟨v, w, e1, q1⟩ := q1
 subst e1
 obtain ⟨u1, u2, rfl, rv, rw'⟩ : ∃ u1 u2, us = [u1, u2] /\ RelV v u1 /\ RelV w u2 := by
  cases r1 with
  | cons p q =>
   cases q with
   | cons p' q' =>
    cases q'
    exact ⟨_, _, rfl, p, p'⟩
 refine wpAny_newObj_type ?_ (by show 2 <= sizeLine; decide)
 have I2 : Inv X pins σ H1 { s1 with heap := s1.heap.push { cls := .type "tuple", data := .seq [u1, u2].toArray } } := I1.kept (t' := s1.toks) λ b o e => Heap.get?_push_of_some _ e
 rw [hw]
 refine wpAny_bind (wpAny_pure ?_)
 show wpAny (model X.prog X.w) X.A (do rule "assign.swapped-stores"; let items <- unpackItems (.ref s1.heap.objs.size) 2 none; assignInOrder [λ v => bindName X.env y v, λ v => bindName X.env x v] items.reverse; pure Flow.next) _ _ _
 refine wpAny_bind (wpAny_rule (wpAny_bind (unpackItems_tuple (items := #[u1, u2]) (I.ok.hd hc) (IsTup.new s1.heap _) λ h' hx' => ?_)))
 have I3 := I2.kept (h' := h') (t' := s1.toks) λ b o e => hx' b o (zzN (Heap.lt_size e)) e
 show wpAny _ _ (assignInOrder [λ v => bindName X.env y v, λ v => bindName X.env x v] [u2, u1] >>= λ _ => pure Flow.next) _ _ _
 refine wpAny_bind (assignInOrder_cons (wpAny_bindName (Vq I3 hN hj (.inl hy) rw' (λ s2 I4 => ?_) (.inr hy))))
 refine assignInOrder_cons (wpAny_bindName (Vq I4 hN hi (.inl hx) rv (λ s3 I5 => assignInOrder_nil (wpAny_pure ?_)) (.inr hx)))
 rw [List.set_comm _ _ (Ne.symm hij)] at I5
 exact ⟨_, H1, I5, q1⟩
def zsa (i : Nat) (te : TE) (ti : TIp) : TS := λ D σ H => ∃ x, σ[i]? = some (some x) /\ te σ H λ y H1 => ti x y H1 λ z H2 => D.nx (σ.set i (some z)) H2
theorem zqi (hN : X.N.Nodup) (hi : X.N[i]? = some x) (hx : Loc X.env.scope x) (he : PE X e te) (ho : PIp X op ti) (hf : X.fn x = true \/ X.env.scope.names.lookup x = some .local := by first | exact .inl rfl | exact .inr rfl | assumption) :
 PS X (.AugAssign (.Name x pos') op e pos) (zsa i te ti) := by
 intro pins s σ H D I h
 obtain ⟨v, e1, h⟩ := h
 obtain ⟨m, hn, hl⟩ := I.loc
 have vis : Vis X.env.scope x := by rcases hx with k | k; exact .inl k; exact .inr (.inl k)
 obtain ⟨u, r, l⟩ := hl i x v hi e1 vis
 refine wpAny_AugAssign_Name ?_
 have go : wpAny (model X.prog X.w) X.A (eval e X.env) (λ w s₂ => wpAny (model X.prog X.w) X.A (inplaceOp op u w) (λ r s₃ => wpAny (model X.prog X.w) X.A (storeName X.env x r) (λ _ => SP X pins D .next) X.xe s₃) X.xe s₂) X.xe s := by
  refine thn (he pins s σ H _ I h) λ w s1 ⟨y, H1, I1, r1, q1⟩ => ?_
  refine thn (ho pins s1 σ H1 v y u w _ I1 r r1 q1) λ z s2 ⟨zv, H2, I2, r2, q2⟩ => ?_
  exact Vq I2 hN hi hx r2 (λ s3 I3 => ⟨_, H2, I3, q2⟩) hf
 rcases l with ⟨hk, hm⟩ | ⟨hk, c, hc, hcell⟩
 · exact wpAny_loadName_local I.ok.kind hk hn hm go
 · rcases hk with hk | hk
   · exact wpAny_loadName_cell I.ok.kind hk hc hcell go
   · rcases hx with k | k
     · have : X.env.scope.names.lookup x = some .free := hk
       rw [k] at this; cases this
     · have : X.env.scope.names.lookup x = some .free := hk
       rw [k] at this; cases this
def ipI (f : Int -> Int -> Int) : TIp := λ x y H Q => ∃ i j, x = .int i /\ y = .int j /\ Q (.int (f i j)) H
theorem zpZ : PIp X .Add (ipI λ i j => i + j) := by
 intro pins s σ H x y v u Q I r1 r2 h
 obtain ⟨i, j, e1, e2, q⟩ := h
 subst e1; subst e2
 obtain ⟨t, rfl⟩ := r1
 obtain ⟨t', rfl⟩ := r2
 exact iadd_int ⟨.int _, H, I.tok _, ⟨_, rfl⟩, q⟩
end
section
variable {X : Cx} {pos : Pos}
def zpV (c : TT) (tb : TS) : TS := λ D σ H => ∃ W : Nat -> St -> Hp -> Prop, (∃ m, W m σ H) /\ ∀ m σ H, W m σ H ->
 c σ H λ b H1 => if b = true then ∃ N : St -> Hp -> Prop, (∀ σ' H', N σ' H' -> ∃ m', m' < m /\ W m' σ' H') /\ tb { D with nx := N, ct := N, bk := D.nx } σ H1 else D.nx σ H1
theorem zlm (hp : PassesOwn (model X.prog X.w) X.A X.env X.xe) (hc : PT X c tc) (hb : PSs X body tb) : PS X (.While c body [] pos) (zpV tc tb) := by
 intro pins s σ H D I h
 obtain ⟨W, ⟨m0, w0⟩, turn⟩ := h
 refine wpAny_While (codeAny_whileLoop (λ n s' => ∃ σ' H', Inv X pins σ' H' s' /\ W n σ' H') ?_ m0 ⟨σ, H, I, w0⟩)
 rintro n s1 ⟨σ1, H1, I1, w1⟩
 refine wpAny_passesOwn hp (thn (hc pins s1 σ1 H1 _ I1 (turn n σ1 H1 w1)) λ b s2 ⟨H2, I2, q2⟩ => ?_)
 cases b with
 | true =>
  obtain ⟨N, hN, q2⟩ := q2
  rw [if_pos rfl]
  refine wpAny_passesOwn hp (thn (hb pins s2 σ1 H2 _ I2 q2) λ f s3 q3 => ?_)
  cases f with
  | next =>
   obtain ⟨σ3, H3, I3, n3⟩ := q3
   obtain ⟨m', hm, w3⟩ := hN σ3 H3 n3
   exact ⟨m', hm, σ3, H3, I3, w3⟩
  | cont =>
   obtain ⟨σ3, H3, I3, n3⟩ := q3
   obtain ⟨m', hm, w3⟩ := hN σ3 H3 n3
   exact ⟨m', hm, σ3, H3, I3, w3⟩
  | brk => exact q3
  | ret v => exact q3
 | false =>
  rw [if_neg Bool.false_ne_true]
  exact wpAny_execs_nil ⟨σ1, H2, I2, q2⟩
end
structure It where
 go : Nat -> Hp -> Prop
 yld : Nat -> Hp -> V -> Hp -> Prop
 stop : Nat -> Hp -> Prop
def zdi (X : Cx) (pins : List (Addr × Obj)) (H : Hp) (b : Addr) : Prop :=
 H b = none /\ b ≠ X.env.locals /\ b ∉ X.fs /\ (b ∈ X.ex \/ X.s₀.heap.objs.size <= b) /\ (∀ x c, X.env.cells.lookup x = some c -> c ≠ b) /\ ∀ p ∈ X.pn ++ pins, p.1 ≠ b
theorem Inv.fpOk (I : Inv X pins σ H s) (hb : s.heap.objs.size <= b) (hn : H' b = none) : zdi X pins H' b := by
 refine ⟨hn, Nat.ne_of_gt (zzH I.lt hb), I.nofs hb, .inr (zzL I.sz hb), λ x c e z => ?_, λ p hp z => ?_⟩
 · obtain ⟨v, q⟩ := I.cell x c e
   exact absurd (zzH q.lt (by rw [z]; exact hb)) (Nat.lt_irrefl _)
 · exact absurd (zzH (Heap.lt_size (I.pin p hp).1) (by rw [z]; exact hb)) (Nat.lt_irrefl _)
structure Turn (P : Program) (w : World) (K : zC) (tg : Expr) (J : It) (fp : List Addr) (it : Addr) (tn : Nat -> Heap -> Prop) : Prop where
 mem : it ∈ fp
 obj : ∀ i h, tn i h -> ∀ b ∈ fp, ∃ o, h.get? b = some o /\ ∀ v, o.data ≠ .cell v
 keep : ∀ i h h', tn i h -> (∀ b ∈ fp, ∀ o, h.get? b = some o -> h'.get? b = some o) -> tn i h'
 item : ∀ (X : Cx), X.prog = P -> X.w = w -> X.K = K -> X.calm = true -> ∀ (i : Nat) (pins : List (Addr × Obj)) (s : Shared) (σ : St) (H : Hp) (E : Value -> Shared -> Prop), Inv X pins σ H s -> (∀ b ∈ fp, zdi X pins H b) -> tn i s.heap -> J.go i H ->
  wpAny (model P w) X.A (pyNext (.ref it)) (λ r s1 => ∃ u, r = some u /\
   wpAny (model P w) X.A (letOwnedTupleGo tg (.ref it) u) (λ _ s2 => ∃ x H', Inv X pins σ H' s2 /\ RelV x u /\ J.yld i H x H' /\ tn (i + 1) s2.heap /\ ∀ b ∈ fp, H' b = none) E s1) E s
 done : ∀ (X : Cx), X.prog = P -> X.w = w -> X.K = K -> X.calm = true -> ∀ (i : Nat) (pins : List (Addr × Obj)) (s : Shared) (σ : St) (H : Hp) (E : Value -> Shared -> Prop), Inv X pins σ H s -> (∀ b ∈ fp, zdi X pins H b) -> tn i s.heap -> J.stop i H ->
  wpAny (model P w) X.A (pyNext (.ref it)) (λ r s1 => r = none /\ Inv X pins σ H s1) E s
 self : ∀ (A : Around) (i : Nat) (s : Shared) (Q : Value -> Shared -> Prop) (E : Value -> Shared -> Prop), tn i s.heap -> Q (.ref it) s -> wpAny (model P w) A (pyIter (.ref it)) Q E s
abbrev TI := St -> Hp -> (It -> Hp -> Prop) -> Prop
def PIE (X : Cx) (pins : List (Addr × Obj)) (σ : St) (tg : Expr) (R : It -> Hp -> Prop) (itv : Value) (s2 : Shared) : Prop :=
 ∃ (it : Addr) (fp : List Addr) (tn : Nat -> Heap -> Prop) (J : It) (H' : Hp), itv = .ref it /\ Inv X pins σ H' s2 /\ Turn X.prog X.w X.K tg J fp it tn /\ tn 0 s2.heap /\ (∀ b ∈ fp, zdi X pins H' b) /\ R J H'
def PI (X : Cx) (tg iter : Expr) (wi : TI) : Prop :=
 ∀ (pins : List (Addr × Obj)) (s : Shared) (σ : St) (H : Hp) (R : It -> Hp -> Prop), Inv X pins σ H s -> wi σ H R ->
  wpAny (model X.prog X.w) X.A (eval iter X.env) (λ v s1 => wpAny (model X.prog X.w) X.A (pyIter v) (PIE X pins σ tg R) X.xe s1) X.xe s
theorem zmD (ho : s.heap.get? it = some o) (hc : o.cls = .type n) (hd : o.data = .fields vs)
 (hn : ["enumerate", "zip", "dict_itemiterator", "dict_reverseitemiterator", "odict_iterator", "itertools.zip_longest", "itertools.pairwise"].contains n = false) (hQ : Q () s) : wpAny M A (letOwnedTupleGo tg (.ref it) u) Q E s := by
 unfold letOwnedTupleGo
 cases tg <;> first
  | exact wpAny_pure hQ
  | (cases u <;> first
   | exact wpAny_pure hQ
   | (refine wpAny_bind (wpAny_load ho ?_)
      rw [hc, hd]
      show wpAny M A (if (["enumerate", "zip", "dict_itemiterator", "dict_reverseitemiterator", "odict_iterator", "itertools.zip_longest", "itertools.pairwise"].contains n && vs[0]? == some (rawInt _)) = true then _ else _) Q E s
      rw [if_neg (by intro h; rw [hn, Bool.false_and] at h; cases h)]
      exact wpAny_pure hQ))
def Itl (K : zC) (a : Addr) : It :=
 ⟨λ i H => ∃ xs x, SqL K H a xs /\ xs[i]? = some x, λ i H x H' => H' = H /\ ∀ xs, SqL K H a xs -> xs[i]? = some x, λ i H => ∃ xs, SqL K H a xs /\ xs.length <= i⟩
def Itt (K : zC) (a : Addr) : It :=
 ⟨λ i H => ∃ xs x, SqT K H a xs /\ xs[i]? = some x, λ i H x H' => H' = H /\ ∀ xs, SqT K H a xs -> xs[i]? = some x, λ i H => ∃ xs, SqT K H a xs /\ xs.length <= i⟩
def Itr (lo : Int) (n : Nat) : It := ⟨λ i _ => i < n, λ i H x H' => H' = H /\ x = .int (lo + i), λ i _ => n <= i⟩
theorem zlh {P : Program} {w : World} {K : zC} {tg : Expr} (a it : Addr) : Turn P w K tg (Itl K a) [it] it (λ i h => h.IsListIter it a i) where
 mem := by simp
 obj := λ i h st b hb => by
  have e : b = it := by simpa using hb
  subst e
  obtain ⟨o, e, c, d⟩ := st
  exact ⟨o, e, λ v z => by rw [d] at z; cases z⟩
 keep := λ i h h' st k => st.at λ o e => k it (by simp) o e
 item := by
  intro X hP hw hK hc i pins s σ H E I hf st hg
  subst hP hw hK
  obtain ⟨xs, x, hq, hx⟩ := hg
  obtain ⟨its, rv, p, hz⟩ := I.list hq
  obtain ⟨u, hu, ru⟩ := rv.get hx
  obtain ⟨f0, f1, f2, f3, f4, f5⟩ := hf it (by simp)
  refine wpAny_pyNext_list_item st p.isList (x := u) (by simpa using hu) λ h' st' sb => ?_
  have I1 : Inv X pins σ H { s with heap := h' } := I.turned (t' := s.toks) (λ b o hb e => (sb.2 b hb).trans e) f0 f1 f3 f4 f5
  obtain ⟨o, e, c, d⟩ := id st'
  exact ⟨u, rfl, zmD (s := { s with heap := h' }) e c d (by decide) ⟨x, H, I1, ru, ⟨rfl, λ ys hy => by rw [I.list_inj hy hq]; exact hx⟩, st', λ b hb => (hf b hb).1⟩⟩
 done := by
  intro X hP hw hK hc i pins s σ H E I hf st hg
  subst hP hw hK
  obtain ⟨xs, hq, hx⟩ := hg
  obtain ⟨its, rv, p, hz⟩ := I.list hq
  obtain ⟨f0, f1, f2, f3, f4, f5⟩ := hf it (by simp)
  have hl := rv.length
  exact wpAny_pyNext_list_end (I.ok.hd hc) st p.isList (by simp; omega) λ h' eb => ⟨rfl, I.turned (t' := s.toks) (λ b o hb e => eb b o hb e) f0 f1 f3 f4 f5⟩
 self := λ _ _ _ _ _ st h => wpAny_pyIter_listiter st h
theorem ziO {P : Program} {w : World} {K : zC} {tg : Expr} (a it : Addr) : Turn P w K tg (Itt K a) [it] it (λ i h => h.IsTupleIter it a i) where
 mem := by simp
 obj := λ i h st b hb => by
  have e : b = it := by simpa using hb
  subst e
  obtain ⟨o, e, c, d⟩ := st
  exact ⟨o, e, λ v z => by rw [d] at z; cases z⟩
 keep := λ i h h' st k => st.at λ o e => k it (by simp) o e
 item := by
  intro X hP hw hK hc i pins s σ H E I hf st hg
  subst hP hw hK
  obtain ⟨xs, x, hq, hx⟩ := hg
  obtain ⟨its, rv, p, hz⟩ := I.tuple hq
  obtain ⟨u, hu, ru⟩ := rv.get hx
  obtain ⟨f0, f1, f2, f3, f4, f5⟩ := hf it (by simp)
  refine wpAny_pyNext_tuple_item st (show s.heap.IsTuple a its.toArray from p) (x := u) (by simpa using hu) λ h' st' sb => ?_
  have I1 : Inv X pins σ H { s with heap := h' } := I.turned (t' := s.toks) (λ b o hb e => (sb.2 b hb).trans e) f0 f1 f3 f4 f5
  obtain ⟨o, e, c, d⟩ := id st'
  exact ⟨u, rfl, zmD (s := { s with heap := h' }) e c d (by decide) ⟨x, H, I1, ru, ⟨rfl, λ ys hy => by rw [I.tuple_inj hy hq]; exact hx⟩, st', λ b hb => (hf b hb).1⟩⟩
 done := by
  intro X hP hw hK hc i pins s σ H E I hf st hg
  subst hP hw hK
  obtain ⟨xs, hq, hx⟩ := hg
  obtain ⟨its, rv, p, hz⟩ := I.tuple hq
  obtain ⟨f0, f1, f2, f3, f4, f5⟩ := hf it (by simp)
  have hl := rv.length
  exact wpAny_pyNext_tuple_end (I.ok.hd hc) st (show s.heap.IsTuple a its.toArray from p) (by simp; omega) λ h' eb => ⟨rfl, I.turned (t' := s.toks) (λ b o hb e => eb b o hb e) f0 f1 f3 f4 f5⟩
 self := λ _ _ _ _ _ st h => wpAny_pyIter_tupleiter st h
theorem ziQ {P : Program} {w : World} {K : zC} {tg : Expr} (it : Addr) (lo : Int) (n : Nat) : Turn P w K tg (Itr lo n) [it] it (λ i h => IsRangeIter h it (lo + (i : Nat) * 1) ((n : Int) - (i : Nat)) 1) where
 mem := by simp
 obj := λ i h st b hb => by
  have e : b = it := by simpa using hb
  subst e
  exact ⟨_, st, λ v z => by
   have z' : Data.fields _ = Data.cell v := z
   cases z'⟩
 keep := λ i h h' st k => k it (by simp) _ st
 item := by
  intro X hP hw hK hc i pins s σ H E I hf st hg
  subst hP hw hK
  obtain ⟨f0, f1, f2, f3, f4, f5⟩ := hf it (by simp)
  have W := Walks.range (prog := X.prog) (w := X.w) (I.ok.hd hc) it lo 1 n
  refine W.item i s _ _ hg st λ v h' tk hv st' kk => ?_
  obtain ⟨t, rfl⟩ := hv
  have I1 : Inv X pins σ H { s with heap := h', toks := tk } := I.turned (λ b o hb e => kk b o (by simpa using hb) e) f0 f1 f3 f4 f5
  refine ⟨_, rfl, zmD (s := { s with heap := h', toks := tk }) (n := "range_iterator") st' rfl rfl (by decide) ⟨.int (lo + i), H, I1, ⟨t, ?_⟩, ⟨rfl, rfl⟩, st', λ b hb => (hf b hb).1⟩⟩
  rw [Int.mul_one]
 done := by
  intro X hP hw hK hc i pins s σ H E I hf st hg
  subst hP hw hK
  obtain ⟨f0, f1, f2, f3, f4, f5⟩ := hf it (by simp)
  exact wpAny_pyNext_range_end (I.ok.hd hc) st (by have : n <= i := hg; omega) λ h' eb => ⟨rfl, I.turned (t' := s.toks) (λ b o hb e => eb b o hb e) f0 f1 f3 f4 f5⟩
 self := λ _ _ _ _ _ st h => wpAny_pyIter_rangeiter st h
end L2
namespace L2
open PySem PySem.Spec PyProof.Rows
section
variable {X : Cx} {tg : Expr}
def zrS (K : zC) (tl : TE) : TI := λ σ H R => tl σ H λ x H1 => ∃ a, x = .ref a /\ (∃ xs, SqL K H1 a xs) /\ R (Itl K a) H1
def zsB (K : zC) (tl : TE) : TI := λ σ H R => tl σ H λ x H1 => ∃ a, x = .ref a /\ (∃ xs, SqT K H1 a xs) /\ R (Itt K a) H1
theorem zgW {l : Expr} {tl : TE} (hl : PE X l tl) : PI X tg l (zrS X.K tl) := by
 intro pins s σ H R I h
 refine thn (hl pins s σ H _ I h) λ v s1 ⟨x, H1, I1, r1, q1⟩ => ?_
 obtain ⟨a, e, ⟨xs, hq⟩, q⟩ := q1
 subst e
 cases r1
 obtain ⟨its, rv, p, hz⟩ := I1.list hq
 refine wpAny_pyIter_list p.isList ?_
 refine ⟨s1.heap.objs.size, [s1.heap.objs.size], _, _, H1, rfl, I1.kept (t' := s1.toks) λ b o e => Heap.get?_push_of_some _ e, zlh a _, ⟨_, Heap.get?_push_size _ rfl, rfl, rfl⟩, λ b hb => ?_, q⟩
 have e : b = s1.heap.objs.size := by simpa using hb
 subst e
 exact I1.fpOk (zzK _) (I1.hok.fresh (zzK _))
theorem zje {l : Expr} {tl : TE} (hl : PE X l tl) : PI X tg l (zsB X.K tl) := by
 intro pins s σ H R I h
 refine thn (hl pins s σ H _ I h) λ v s1 ⟨x, H1, I1, r1, q1⟩ => ?_
 obtain ⟨a, e, ⟨xs, hq⟩, q⟩ := q1
 subst e
 cases r1
 obtain ⟨its, rv, p, hz⟩ := I1.tuple hq
 refine wpAny_pyIter_tuple (show s1.heap.IsTuple a its.toArray from p) ?_
 refine ⟨s1.heap.objs.size, [s1.heap.objs.size], _, _, H1, rfl, I1.kept (t' := s1.toks) λ b o e => Heap.get?_push_of_some _ e, ziO a _, ⟨_, Heap.get?_push_size _ rfl, rfl, rfl⟩, λ b hb => ?_, q⟩
 have e : b = s1.heap.objs.size := by simpa using hb
 subst e
 exact I1.fpOk (zzK _) (I1.hok.fresh (zzK _))
theorem zlo {pins : List (Addr × Obj)} {σ : St} {H : Hp} {s : Shared} {R : It -> Hp -> Prop} {E : Value -> Shared -> Prop} {lo hi : Int} {t u v : Tok} {tk : Nat} (I : Inv X pins σ H s) (h1 : -(2 ^ 62) <= lo) (h2 : lo < 2 ^ 62) (h3 : -(2 ^ 62) <= hi) (h4 : hi < 2 ^ 62)
 (q : R (Itr lo (hi - lo).toNat) H) : wpAny (model X.prog X.w) X.A (pyIter (.ref s.heap.objs.size)) (PIE X pins σ tg R) E { s with heap := s.heap.push { cls := .type "range", data := .fields #[.int lo t, .int hi u, .int 1 v] }, toks := tk } := by
 refine wpAny_pyIter_range (IsRange.new ..) (small_one h1 h2 h3 h4) ?_
 have I1 : Inv X pins σ H { s with heap := s.heap.push { cls := .type "range", data := .fields #[.int lo t, .int hi u, .int 1 v] }, toks := tk } := I.kept λ b o e => Heap.get?_push_of_some _ e
 refine ⟨(s.heap.push { cls := .type "range", data := .fields #[.int lo t, .int hi u, .int 1 v] }).objs.size, [(s.heap.push { cls := .type "range", data := .fields #[.int lo t, .int hi u, .int 1 v] }).objs.size], _, _, H, rfl,
  I1.kept (t' := tk) λ b o e => Heap.get?_push_of_some _ e, ziQ _ lo (hi - lo).toNat, ?_, λ b hb => ?_, q⟩
 · have e1 : lo + ((0 : Nat) : Int) * 1 = lo := by simp
   have e2 : (((hi - lo).toNat : Nat) : Int) - ((0 : Nat) : Int) = Builtin.Range.rangeSize lo hi 1 := by rw [rangeSize_one]; split <;> omega
   show IsRangeIter _ _ (lo + ((0 : Nat) : Int) * 1) ((((hi - lo).toNat : Nat) : Int) - ((0 : Nat) : Int)) 1
   rw [e1, e2]
   exact Heap.get?_push_size _ rfl
 · have e : b = (s.heap.push { cls := .type "range", data := .fields #[.int lo t, .int hi u, .int 1 v] }).objs.size := by simpa using hb
   subst e
   exact I1.fpOk (zzK _) (I1.hok.fresh (zzK _))
def zrD (ta : TA) : TI := λ σ H R => ta σ H λ vs H1 => ∃ j : Int, vs = [.int j] /\ -(2 ^ 62) <= j /\ j < 2 ^ 62 /\ R (Itr 0 j.toNat) H1
theorem zfq {a : Expr} {ta : TA} {p pos : Pos} (hg : Gl X "range") (hm : X.mg "range" = none) (ha : PA X [a] ta) (hs : starEach [a] X.env = [(false, eval a X.env)] := by rfl) : PI X tg (.Call (.Name "range" p) [a] [] pos) (zrD ta) := by
 intro pins s σ H R I h
 refine Call_ (zap I hg hm boot_range (PyProof.Rows.callWith_type1 (thn (ha pos pins s σ H _ I h) λ us s1 ⟨vs, H1, I1, r1, q1⟩ => ?_) hs rfl))
 obtain ⟨j, e, q1, q2, q⟩ := q1
 subst e
 cases r1 with
 | cons r rr =>
  cases rr
  obtain ⟨t, rfl⟩ := r
  exact call_range_1 (zlo I1 (by omega) (by omega) q1 q2 (by simpa using q))
def zrX (wi : TI) (g : TG) (tb : TS) : TS := λ D σ H => wi σ H λ J H1 => ∃ W : Nat -> Nat -> St -> Hp -> Prop, (∃ m, W 0 m σ H1) /\ ∀ i m σ H, W i m σ H ->
 (J.stop i H /\ D.nx σ H) \/ (J.go i H /\ ∃ N : St -> Hp -> Prop, (∀ σ' H', N σ' H' -> ∃ m', m' < m /\ W (i + 1) m' σ' H') /\ ∀ x H', J.yld i H x H' -> g x σ H' λ σ2 H2 => tb { D with nx := N, ct := N, bk := D.nx } σ2 H2)
def zdS (fp : List Addr) (h : Heap) : List (Addr × Obj) := fp.filterMap λ b => (h.get? b).map λ o => (b, o)
theorem Wm (hb : b ∈ fp) (e : h.get? b = some o) : (b, o) ∈ zdS fp h := List.mem_filterMap.mpr ⟨b, hb, by rw [e]; rfl⟩
theorem zkG (hp : p ∈ zdS fp h) : p.1 ∈ fp /\ h.get? p.1 = some p.2 := by
 obtain ⟨b, hb, e⟩ := List.mem_filterMap.mp hp
 cases q : h.get? b with
 | none => rw [q] at e; cases e
 | some o =>
  rw [q] at e
  have e' : (b, o) = p := Option.some.inj e
  subst e'
  exact ⟨hb, q⟩
theorem Inv.pinned (I : Inv X pins σ H s) (hf : ∀ b ∈ fp, zdi X pins H b) (ho : ∀ b ∈ fp, ∃ o, s.heap.get? b = some o /\ ∀ v, o.data ≠ .cell v) : Inv X (pins ++ zdS fp s.heap) σ H s :=
 I.pins_of λ p hp => (zzJ.mp hp).elim (λ z => I.pin p (zzI _ z)) λ z => by
  obtain ⟨hb, e⟩ := zkG z
  obtain ⟨f0, f1, f2, _⟩ := hf p.1 hb
  obtain ⟨o, e', d⟩ := ho p.1 hb
  rw [e] at e'; cases e'
  exact ⟨e, f0, f1, f2, d⟩
theorem Inv.unpinned (I : Inv X (pins ++ pl) σ H s) : Inv X pins σ H s := I.pins_of λ p hp => I.pin p (zzI _ (zzM _ hp))
theorem zqK (hp : PassesOwn (model X.prog X.w) X.A X.env X.xe) (hc : X.calm = true) (hi : PI X tg iter wi) (hg : PG X tg g) (hb : PSs X body tb)
 (hs : ∀ x, foldedSetIterable iter X.env x = pure x := by intro _; rfl) : PS X (.For tg iter body [] pos) (zrX wi g tb) := by
 intro pins s σ H D I h
 refine wpAny_For (thn (hi pins s σ H _ I h) λ v s1 h1 => thn h1 λ itv s2 h2 => ?_) hs
 obtain ⟨it, fp, tn, J, H2, e, I2, T, st2, f2, W, ⟨m0, w0⟩, turn⟩ := h2
 subst e
 have stat : ∀ {H' : Hp}, (∀ b ∈ fp, H' b = none) -> ∀ b ∈ fp, zdi X pins H' b := λ hn b hb => ⟨hn b hb, (f2 b hb).2⟩
 refine codeAny_forLoop_any (λ n s' => ∃ i σ' H', Inv X pins σ' H' s' /\ tn i s'.heap /\ (∀ b ∈ fp, H' b = none) /\ W i n σ' H') ?_ m0 ⟨0, σ, H2, I2, st2, λ b hb => (f2 b hb).1, w0⟩
 rintro n s3 ⟨i, σ3, H3, I3, st3, fr3, w3⟩
 rcases turn i n σ3 H3 w3 with ⟨stop, qn⟩ | ⟨go, N, hN, step⟩
 · refine wpAny_passesOwn hp (thn (T.done X rfl rfl rfl hc i pins s3 σ3 H3 X.xe I3 (stat fr3) st3 stop) λ r s4 ⟨hr, I4⟩ => ?_)
   subst hr
   exact wpAny_execs_nil ⟨σ3, H3, I4, qn⟩
 · refine wpAny_passesOwn hp (thn (T.item X rfl rfl rfl hc i pins s3 σ3 H3 X.xe I3 (stat fr3) st3 go) λ r s4 ⟨u, hr, h4⟩ => ?_)
   subst hr
   refine wpAny_passesOwn hp (thn h4 λ _ s5 ⟨x, H5, I5, r5, y5, st5, fr5⟩ => ?_)
   have I5' := I5.pinned (stat fr5) (T.obj _ _ st5)
   refine wpAny_passesOwn hp (thn (hg _ s5 σ3 H5 x u _ I5' r5 (step x H5 y5)) λ _ s6 ⟨σ6, H6, I6, q6⟩ => ?_)
   refine wpAny_passesOwn hp (thn (hb _ s6 σ6 H6 _ I6 q6) λ f s7 q7 => ?_)
   have again : ∀ {σ7 : St} {H7 : Hp}, Inv X (pins ++ zdS fp s5.heap) σ7 H7 s7 -> N σ7 H7 -> ∃ m, m < n /\ ∃ i σ' H', Inv X pins σ' H' s7 /\ tn i s7.heap /\ (∀ b ∈ fp, H' b = none) /\ W i m σ' H' := λ {σ7 H7} I7 n7 => by
    obtain ⟨m', hm, w7⟩ := hN σ7 H7 n7
    refine ⟨m', hm, i + 1, σ7, H7, I7.unpinned, T.keep _ _ _ st5 λ b hb o e => (I7.pin (b, o) (zzI _ (zzI _ (Wm hb e)))).1, λ b hb => ?_, w7⟩
    obtain ⟨o, e, d⟩ := T.obj _ _ st5 b hb
    exact (I7.pin (b, o) (zzI _ (zzI _ (Wm hb e)))).2.1
   cases f with
   | next => obtain ⟨σ7, H7, I7, n7⟩ := q7; exact again I7 n7
   | cont => obtain ⟨σ7, H7, I7, n7⟩ := q7; exact again I7 n7
   | brk => obtain ⟨σ7, H7, I7, q7⟩ := q7; exact ⟨σ7, H7, I7.unpinned, q7⟩
   | ret v => obtain ⟨x7, σ7, H7, I7, r7, q7⟩ := q7; exact ⟨x7, σ7, H7, I7.unpinned, r7, q7⟩
end
end L2
namespace L2
open PySem PySem.Spec PyProof.Rows
abbrev R2 := V -> V -> Hp -> VK -> Prop
def OpR (X : Cx) (f : Value -> Value -> Sem Value) (r : R2) : Prop :=
 ∀ (pins : List (Addr × Obj)) (s : Shared) (σ : St) (H : Hp) (x y : V) (v u : Value) (Q : VK), Inv X pins σ H s -> RelV x v -> RelV y u -> r x y H Q ->
  wpAny (model X.prog X.w) X.A (f v u) (EP X pins σ Q) X.xe s
def UnR (X : Cx) (f : Value -> Sem Value) (r : V -> Hp -> VK -> Prop) : Prop :=
 ∀ (pins : List (Addr × Obj)) (s : Shared) (σ : St) (H : Hp) (x : V) (v : Value) (Q : VK), Inv X pins σ H s -> RelV x v -> r x H Q ->
  wpAny (model X.prog X.w) X.A (f v) (EP X pins σ Q) X.xe s
def zbs (X : Cx) (f : Value) (r : List V -> Hp -> VK -> Prop) : Prop :=
 ∀ (pins : List (Addr × Obj)) (s : Shared) (σ : St) (H : Hp) (xs : List V) (us : List Value) (Q : VK), Inv X pins σ H s -> Vals xs us -> r xs H Q ->
  wpAny (model X.prog X.w) X.A (call f us) (EP X pins σ Q) X.xe s
def zse (X : Cx) (r : V -> Hp -> (Bool -> Hp -> Prop) -> Prop) : Prop :=
 ∀ (pins : List (Addr × Obj)) (s : Shared) (σ : St) (H : Hp) (x : V) (v : Value) (Q : Bool -> Hp -> Prop), Inv X pins σ H s -> RelV x v -> r x H Q ->
  wpAny (model X.prog X.w) X.A (truthy v) (TP X pins σ Q) X.xe s
def tOp (r : R2) (ta tb : TE) : TE := λ σ H Q => ta σ H λ x H1 => tb σ H1 λ y H2 => r x y H2 Q
def tUn (r : V -> Hp -> VK -> Prop) (ta : TE) : TE := λ σ H Q => ta σ H λ x H1 => r x H1 Q
def rI (C : Int -> Int -> Prop) (g : Int -> Int -> V) : R2 := λ x y H Q => ∃ i j, x = .int i /\ y = .int j /\ C i j /\ Q (g i j) H
def rI0 (g : Int -> Int -> V) : R2 := λ x y H Q => ∃ i j, x = .int i /\ y = .int j /\ Q (g i j) H
def rU (g : Int -> V) : V -> Hp -> VK -> Prop := λ x H Q => ∃ i, x = .int i /\ Q (g i) H
section
variable {X : Cx} {a b c : Expr} {ta tb tc : TE} {pos : Pos}
theorem zpR (ha : PE X a ta) (hb : PE X b tb) {pins : List (Addr × Obj)} {s : Shared} {σ : St} {H : Hp} {R : V -> V -> Hp -> Prop} (I : Inv X pins σ H s)
 (h : ta σ H λ x H1 => tb σ H1 λ y H2 => R x y H2) {Q : Value -> Shared -> Prop} {f : Value -> Value -> Sem Value}
 (hf : ∀ v u s2 x y H2, Inv X pins σ H2 s2 -> RelV x v -> RelV y u -> R x y H2 -> wpAny (model X.prog X.w) X.A (f v u) Q X.xe s2) :
 wpAny (model X.prog X.w) X.A (eval a X.env) (λ v s₁ => wpAny (model X.prog X.w) X.A (eval b X.env) (λ u s₂ => wpAny (model X.prog X.w) X.A (f v u) Q X.xe s₂) X.xe s₁) X.xe s := by
 refine thn (ha pins s σ H _ I h) λ v s1 ⟨x, H1, I1, r1, q1⟩ => ?_
 refine thn (hb pins s1 σ H1 _ I1 q1) λ u s2 ⟨y, H2, I2, r2, q2⟩ => ?_
 exact hf v u s2 x y H2 I2 r1 r2 q2
theorem zoT {op : Operator} {r : R2} (ho : OpR X (binaryOp op) r) (ha : PE X a ta) (hb : PE X b tb) : PE X (.BinOp a op b pos) (tOp r ta tb) := by
 intro pins s σ H Q I h
 exact wpAny_BinOp (zpR ha hb I h λ v u s2 x y H2 I2 rx ry q => ho pins s2 σ H2 x y v u Q I2 rx ry q)
theorem zrL (ho : UnR X (unaryOp op) r) (ha : PE X a ta) : PE X (.UnaryOp op a pos) (tUn r ta) := by
 intro pins s σ H Q I h
 exact UnaryOp_ (thn (ha pins s σ H _ I h) λ v s1 ⟨x, H1, I1, r1, q1⟩ => ho pins s1 σ H1 x v Q I1 r1 q1)
theorem opI {f : Value -> Value -> Sem Value} {C : Int -> Int -> Prop} {g : Int -> Int -> Int}
 (rule : ∀ (i j : Int) (t u : Tok) (s : Shared) (Q : Value -> Shared -> Prop) (E : Value -> Shared -> Prop), C i j -> Q (.int (g i j) s.toks) { s with toks := s.toks + 1 } -> wpAny (model X.prog X.w) X.A (f (.int i t) (.int j u)) Q E s) :
 OpR X f (rI C λ i j => .int (g i j)) := by
 intro pins s σ H x y v u Q I rx ry h
 obtain ⟨i, j, rfl, rfl, hc, q⟩ := h
 obtain ⟨t, rfl⟩ := rx
 obtain ⟨t', rfl⟩ := ry
 exact rule i j t t' s _ _ hc ⟨.int (g i j), H, I.tok _, ⟨_, rfl⟩, q⟩
theorem zrA {f : Value -> Value -> Sem Value} {g : Int -> Int -> Int}
 (rule : ∀ (i j : Int) (t u : Tok) (s : Shared) (Q : Value -> Shared -> Prop) (E : Value -> Shared -> Prop), Q (.int (g i j) s.toks) { s with toks := s.toks + 1 } -> wpAny (model X.prog X.w) X.A (f (.int i t) (.int j u)) Q E s) :
 OpR X f (rI0 λ i j => .int (g i j)) := by
 intro pins s σ H x y v u Q I rx ry h
 obtain ⟨i, j, rfl, rfl, q⟩ := h
 obtain ⟨t, rfl⟩ := rx
 obtain ⟨t', rfl⟩ := ry
 exact rule i j t t' s _ _ ⟨.int (g i j), H, I.tok _, ⟨_, rfl⟩, q⟩
theorem znv {f : Value -> Value -> Sem Value} {g : Int -> Int -> Bool}
 (rule : ∀ (i j : Int) (t u : Tok) (s : Shared) (Q : Value -> Shared -> Prop) (E : Value -> Shared -> Prop), Q (.bool (g i j)) s -> wpAny (model X.prog X.w) X.A (f (.int i t) (.int j u)) Q E s) :
 OpR X f (rI0 λ i j => .bl (g i j)) := by
 intro pins s σ H x y v u Q I rx ry h
 obtain ⟨i, j, rfl, rfl, q⟩ := h
 obtain ⟨t, rfl⟩ := rx
 obtain ⟨t', rfl⟩ := ry
 exact rule i j t t' s _ _ ⟨.bl (g i j), H, I, rfl, q⟩
def zsC (i j : Int) : Prop := 0 <= j /\ j <= 1000000 /\ i.natAbs < 2 ^ 64
theorem zqe : OpR X (binaryOp .Add) (rI0 λ i j => .int (i + j)) := zrA λ _ _ _ _ _ _ _ q => add_int q
theorem zpX : OpR X (binaryOp .Sub) (rI0 λ i j => .int (i - j)) := zrA λ _ _ _ _ _ _ _ q => sub_int q
theorem zlt : OpR X (binaryOp .Mod) (rI (λ _ j => 0 < j) λ i j => .int (i % j)) := opI λ i j _ _ _ _ _ hc q => by
 have h1 : (0 : Int) < j := hc
 exact mod_int' (by omega) (by rw [Int.fmod_eq_emod_of_nonneg i (by omega)]; exact q)
theorem zpv : OpR X (binaryOp .Pow) (rI zsC λ i j => .int (i ^ j.toNat)) := opI λ _ _ _ _ _ _ _ hc q => pow_int_small hc.1 hc.2.1 hc.2.2 q
theorem unI {f : Value -> Sem Value} {g : Int -> Int}
 (rule : ∀ (i : Int) (t : Tok) (s : Shared) (Q : Value -> Shared -> Prop) (E : Value -> Shared -> Prop), Q (.int (g i) s.toks) { s with toks := s.toks + 1 } -> wpAny (model X.prog X.w) X.A (f (.int i t)) Q E s) :
 UnR X f (rU λ i => .int (g i)) := by
 intro pins s σ H x v Q I rx h
 obtain ⟨i, rfl, q⟩ := h
 obtain ⟨t, rfl⟩ := rx
 exact rule i t s _ _ ⟨.int (g i), H, I.tok _, ⟨_, rfl⟩, q⟩
theorem zpJ : UnR X (unaryOp .USub) (rU λ i => .int (-i)) := unI λ _ _ _ _ _ q => neg_int q
end
section
variable {X : Cx} {a b c : Expr} {ta tb tc : TE} {pos : Pos}
theorem wW (I : Inv X pins σ H s) (q : Q (.bl k) H) (e : k = k') : EP X pins σ Q (.bool k') s := by
 subst e
 exact ⟨.bl k, H, I, rfl, q⟩
theorem zru : OpR X (compareOp .Lt) (rI0 λ i j => .bl (decide (i < j))) := znv λ _ _ _ _ _ _ _ q => lt_int q
theorem zqS : OpR X (compareOp .LtE) (rI0 λ i j => .bl (decide (i <= j))) := znv λ _ _ _ _ _ _ _ q => le_int q
theorem zrU : OpR X (compareOp .Gt) (rI0 λ i j => .bl (decide (j < i))) := znv λ _ _ _ _ _ _ _ q => gt_int q
theorem zqT : OpR X (compareOp .GtE) (rI0 λ i j => .bl (decide (j <= i))) := znv λ _ _ _ _ _ _ _ q => ge_int q
theorem zkx : OpR X (compareOp .In) (λ x y H Q => ∃ i j, x = .str i /\ y = .str j /\ Q (.bl (!(Builtin.Str.occurrences j i 0 j.length 1).isEmpty)) H) := by
 intro pins s σ H x y v u Q I rx ry h
 obtain ⟨i, j, rfl, rfl, q⟩ := h
 obtain ⟨t, rfl⟩ := rx
 obtain ⟨t', rfl⟩ := ry
 exact in_str (wW I q rfl)
theorem zpA : OpR X (compareOp .Is) (λ x y H Q => y = .non /\ Q (.bl (decide (x = .non))) H) := by
 intro pins s σ H x y v u Q I rx ry h
 obtain ⟨rfl, q⟩ := h
 cases ry
 refine is_none_gen (wW I q ?_)
 cases x <;> first
  | (cases rx; rfl)
  | (obtain ⟨t, rfl⟩ := rx; rfl)
theorem zno : OpR X (compareOp .IsNot) (λ x y H Q => y = .non /\ Q (.bl (!decide (x = .non))) H) := by
 intro pins s σ H x y v u Q I rx ry h
 obtain ⟨rfl, q⟩ := h
 cases ry
 refine isnot_none_gen (wW I q ?_)
 cases x <;> first
  | (cases rx; rfl)
  | (obtain ⟨t, rfl⟩ := rx; rfl)
theorem zgm : OpR X (compareOp .NotIn) (λ x y H Q => ∃ i j, x = .str i /\ y = .str j /\ Q (.bl (!(!(Builtin.Str.occurrences j i 0 j.length 1).isEmpty))) H) := by
 intro pins s σ H x y v u Q I rx ry h
 obtain ⟨i, j, rfl, rfl, q⟩ := h
 obtain ⟨t, rfl⟩ := rx
 obtain ⟨t', rfl⟩ := ry
 exact notIn_str (wW I q rfl)
theorem yJ (b : Expr) (h : op ≠ .In := by decide) (h2 : op ≠ .NotIn := by decide) : behindInMarks op b = false := by
 have e1 : (op == CmpOp.In) = false := by cases op <;> first | rfl | exact absurd rfl h
 have e2 : (op == CmpOp.NotIn) = false := by cases op <;> first | rfl | exact absurd rfl h2
 cases b <;> simp [behindInMarks, e1, e2]
theorem znx {op : CmpOp} {r : R2} (ho : OpR X (compareOp op) r) (ha : PE X a ta) (hb : PE X b tb) (hm : behindInMarks op b = false) : PE X (.Compare a [op] [b] pos) (tOp r ta tb) := by
 intro pins s σ H Q I h
 exact wpAny_Compare1 (zpR ha hb I h λ v u s2 x y H2 I2 rx ry q => ho pins s2 σ H2 x y v u Q I2 rx ry q) hm
def zrh (t : TE) : TT := λ σ H Q => t σ H λ x H' => ∃ k, x = .bl k /\ Q k H'
theorem zne (ho : OpR X (compareOp op) r) (ha : PE X a ta) (hb : PE X b tb) (hm : behindInMarks op b = false) : PT X (.Compare a [op] [b] pos) (zrh (tOp r ta tb)) := by
 intro pins s σ H Q I h
 refine wpAny_isTrue_Compare1 (thn (ha pins s σ H _ I h) λ v s1 ⟨x, H1, I1, r1, q1⟩ => thn (hb pins s1 σ H1 _ I1 q1) λ u s2 ⟨y, H2, I2, r2, q2⟩ =>
  thn (ho pins s2 σ H2 x y v u _ I2 r1 r2 q2) λ c s3 ⟨z, H3, I3, r3, k, e, q3⟩ => ?_) hm
 subst e
 cases r3
 exact wpAny_truthy_bool ⟨H3, I3, q3⟩
def zqs (K : zC) (x : V) (H : Hp) (k : Bool) : Prop :=
 match x with
 | .non => k = false
 | .bl b => k = b
 | .int i => k = (i != 0)
 | .str y => y.length <= sizeLine /\ k = ((y.length : Int) != 0)
 | .byt y => y.size <= sizeLine /\ k = ((y.size : Int) != 0)
 | .ref p => (∃ xs, SqL K H p xs /\ k = !xs.isEmpty) \/ (∃ xs, SqT K H p xs /\ k = !xs.isEmpty) \/ ∃ kvs, H p = some (.dK kvs) /\ k = !kvs.isEmpty
 | _ => False
theorem ziJ (r : KV kvs vs) : (!vs.isEmpty) = !kvs.isEmpty := by
 cases r <;> rfl
theorem zea (r : Vals xs its) : (!its.toArray.isEmpty) = !xs.isEmpty := by
 cases r <;> simp
theorem zas : (sizeLine : Nat) < 2 ^ 63 := by rw [sizeLine_eq]; decide
theorem zpM : zse X (λ x H Q => ∃ k, zqs X.K x H k /\ Q k H) := by
 intro pins s σ H x v Q I rx h
 obtain ⟨k, e, q⟩ := h
 have hl := zas
 have hs : sizeLine = 16777216 := sizeLine_eq
 cases x with
 | non =>
  cases rx
  have e' : k = false := e
  subst e'
  exact truthy_none ⟨H, I, q⟩
 | bl b =>
  cases rx
  have e' : k = b := e
  subst e'
  exact wpAny_truthy_bool ⟨H, I, q⟩
 | int i =>
  obtain ⟨t, rfl⟩ := rx
  have e' : k = (i != 0) := e
  subst e'
  exact PySem.P.truthy_int ⟨H, I, q⟩
 | str y =>
  obtain ⟨t, rfl⟩ := rx
  obtain ⟨hy, e'⟩ : y.length <= sizeLine /\ k = ((y.length : Int) != 0) := e
  subst e'
  exact PySem.P.truthy_str (by omega) ⟨H, I.tok _, q⟩
 | byt y =>
  obtain ⟨t, rfl⟩ := rx
  obtain ⟨hy, e'⟩ : y.size <= sizeLine /\ k = ((y.size : Int) != 0) := e
  subst e'
  exact PySem.W.truthy_bytes (by omega) ⟨H, I.tok _, q⟩
 | ref p =>
  cases rx
  have e' : (∃ xs, SqL X.K H p xs /\ k = !xs.isEmpty) \/ (∃ xs, SqT X.K H p xs /\ k = !xs.isEmpty) \/ ∃ kvs, H p = some (.dK kvs) /\ k = !kvs.isEmpty := e
  rcases e' with ⟨xs, hx, e'⟩ | ⟨xs, hx, e'⟩ | ⟨kvs, hx, e'⟩
  · subst e'
    obtain ⟨its, r, pl, hz⟩ := I.list hx
    have hlen := r.length
    exact wpAny_truthy_list pl.isList (by simp only [zzE]; omega) ⟨H, I.tok _, by rw [zea r]; exact q⟩
  · subst e'
    obtain ⟨its, r, pl, hz⟩ := I.tuple hx
    have hlen := r.length
    exact truthy_tuple pl (by simp only [zzE]; omega) ⟨H, I.tok _, by rw [zea r]; exact q⟩
  · subst e'
    obtain ⟨hz, hS, vs, r, m⟩ : kvs.length <= sizeLine /\ (p == sysModules) = false /\ ∃ vs, KV kvs vs /\ s.heap.DictOf (wu X.prog X.w) p vs := I.hok p _ hx
    have hlen : kvs.length = vs.length := Paired.length r
    exact wpAny_truthy_dict hS m (by omega) ⟨H, I.tok _, by rw [ziJ r]; exact q⟩
 | _ => exact (show False from e).elim
theorem znd (ha : PE X a ta) (he : ∀ whole, isTrue a X.env whole = (do let v <- whole; standAt a.pos; holding [v] (truthy v))) :
 PT X a (λ σ H Q => ta σ H λ x H' => ∃ k, zqs X.K x H' k /\ Q k H') := by
 intro pins s σ H Q I h
 exact isTrue_plain (thn (ha pins s σ H _ I h) λ v s1 ⟨x, H1, I1, r1, q1⟩ => zpM pins s1 σ H1 x v Q I1 r1 q1) (he _)
theorem zju : OpR X (binaryOp .Add) (λ x y H Q => ∃ i j, x = .str i /\ y = .str j /\ i.length + j.length <= sizeLine /\ Q (.str (i ++ j)) H) := by
 intro pins s σ H x y v u Q I rx ry h
 obtain ⟨i, j, rfl, rfl, hz, q⟩ := h
 obtain ⟨t, rfl⟩ := rx
 obtain ⟨t', rfl⟩ := ry
 exact add_str (λ t' tk => ⟨.str (i ++ j), H, I.tok _, ⟨_, rfl⟩, q⟩) hz
theorem vals1 (r : Vals [x] us) : ∃ u, us = [u] /\ RelV x u := by
 cases r with
 | cons r1 r2 => cases r2; exact ⟨_, rfl, r1⟩
theorem vals2 (r : Vals [x, y] us) : ∃ u w', us = [u, w'] /\ RelV x u /\ RelV y w' := by
 cases r with
 | cons r1 r2 =>
  cases r2 with
  | cons r3 r4 => cases r4; exact ⟨_, _, rfl, r1, r3⟩
theorem zkP (hc : X.calm = true) : zbs X (.builtin "max") (λ xs H Q => ∃ i j, xs = [.int i, .int j] /\ Q (.int (if j > i then j else i)) H) := by
 intro pins s σ H xs us Q I r h
 obtain ⟨i, j, rfl, q⟩ := h
 obtain ⟨u, w', rfl, ⟨t, rfl⟩, ⟨t', rfl⟩⟩ := vals2 r
 refine max_two_ints (I.ok.hd hc) λ h' tk k => ⟨_, H, I.kept k, ?_, q⟩
 by_cases hj : j > i
 · rw [if_pos hj, if_pos hj]; exact ⟨_, rfl⟩
 · rw [if_neg hj, if_neg hj]; exact ⟨_, rfl⟩
theorem zfZ : zbs X (.type "int") (λ xs H Q => (∃ i, xs = [.int i] /\ Q (.int i) H) \/ ∃ k, xs = [.bl k] /\ Q (.int (if k then 1 else 0)) H) := by
 intro pins s σ H xs us Q I r h
 rcases h with ⟨i, rfl, q⟩ | ⟨k, rfl, q⟩
 · obtain ⟨u, rfl, t, rfl⟩ := vals1 r
   exact call_int_int ⟨.int i, H, I, ⟨_, rfl⟩, q⟩
 · obtain ⟨u, rfl, r1⟩ := vals1 r
   cases r1
   exact call_int_bool ⟨.int (if k then 1 else 0), H, I.tok _, ⟨_, rfl⟩, q⟩
end
end L2
namespace L2
open PySem PySem.Spec PyProof.Rows
structure ObjM (h : Heap) (x dx C : Addr) (mA : Str -> Option Value) : Prop where
 obj : h.get? x = some (PySem.W.instObj C dx)
 ns : h.Ns1 dx mA
 ne : dx ≠ x
theorem zec.some_of (r : zec (some v) o) : ∃ u, o = some u /\ RelV v u := by
 cases o with
 | none => exact (show False from r).elim
 | some u => exact ⟨u, rfl, r⟩
structure Cls (K : zC) (C : Addr) : Prop where
 pg : PySem.W.plainGet K C Str.empty = true
 hd : PySem.W.hasDictIn K C = true
 po : PySem.W.plainOver K C = true
 sa : PySem.W.findIn K (.ref C) "__setattr__" = some (some (.builtin "object.__setattr__"))
structure Con (K : zC) (C : Addr) (f : Str) (v : V) (u : Value) : Prop where
 at_ : PySem.W.findIn K (.ref C) f = some (some u)
 rel : RelV v u
 get : PySem.W.specialIn K u "__get__" = some none
 cp : PySem.W.copiedNames.contains f = false
structure Meth (K : zC) (C : Addr) (m : Str) (f : Addr) : Prop where
 at_ : PySem.W.findIn K (.ref C) m = some (some (.ref f))
 fn : PySem.W.isFn K (.ref f) = true
 kp : PySem.W.keepIn K (.ref f) = true
section
variable {X : Cx} {pins : List (Addr × Obj)} {σ : St} {H : Hp} {s : Shared} {A : Around} {E : Value -> Shared -> Prop} {Q : Value -> Shared -> Prop} {c : Value} {b : Bool}
inductive TyOf (K : zC) (H : Hp) : V -> Value -> Prop where
 | non : TyOf K H .non (.type "NoneType")
 | bl (x : Bool) : TyOf K H (.bl x) (.type "bool")
 | int (i : Int) : TyOf K H (.int i) (.type "int")
 | str (x : Str) : TyOf K H (.str x) (.type "str")
 | flt (x : UInt64) : TyOf K H (.flt x) (.type "float")
 | lst {a : Addr} {xs : List V} (e : H a = some (.lst xs)) : TyOf K H (.ref a) (.type "list")
 | frz {a : Addr} {o : Obj} {xs : List V} (e : H a = some (.frz o (.lst xs))) : TyOf K H (.ref a) (.type "list")
 | tup {a : Addr} {xs : List V} (e : H a = some (.tup xs)) : TyOf K H (.ref a) (.type "tuple")
 | dK {a : Addr} {kvs : List (Key × V)} (e : H a = some (.dK kvs)) : TyOf K H (.ref a) (.type "dict")
 | dT {a : Addr} {kvs : List (List Key × V)} (e : H a = some (.dT kvs)) : TyOf K H (.ref a) (.type "dict")
 | ins {a C dx : Addr} {fs : List (Str × V)} (e : H a = some (.ins C dx fs)) (cl : Cls K C) (ha : PySem.W.findIn K (.ref C) "__class__" = some (some (.builtin "object.__class__")))
  (hn : PySem.W.specialIn K (.builtin "object.__class__") "__get__" = some (some (.builtin "getset_descriptor.__get__"))) (htk : PySem.W.takesIn K (.builtin "object.__class__") = some true)
  (hm : PySem.W.mroIn K C (.type "object") = some true) : TyOf K H (.ref a) (.ref C)
end
end L2
namespace L2
open PySem PySem.Spec PyProof.Rows
structure Room (k : Nat) (A : Around) : Prop where
 hd : A.handled = none
 dp : A.depth + 3 * k + 5 < recursionLimit
 un : A.units + 16 * k + 200 < cLine
 gd : A.guards = some []
theorem Room.mono (r : Room k A) (h : j <= k) : Room j A := ⟨r.hd, by have := r.dp; omega, by have := r.un; omega, r.gd⟩
theorem Room.deeper (r : Room (k + 1) A) (env : Env) : Room k (A.deeper env) :=
 ⟨r.hd, by have := r.dp; show A.depth + 1 + 3 * k + 5 < _; omega, by have := r.un; show A.units + 3 + 16 * k + 200 < _; omega, r.gd⟩
theorem Room.depth (r : Room k A) : A.depth < recursionLimit := by have := r.dp; omega
theorem Room.units (r : Room k A) : A.units + 64 < cLine := by have := r.un; omega
def zrm : TA := λ _ H Q => Q [] H
def zoR (ta : TE) (tr : TA) : TA := λ σ H Q => ta σ H λ x H1 => tr σ H1 λ xs H2 => Q (x :: xs) H2
section
variable {X : Cx} {e : Expr} {es : List Expr} {te : TE} {t : TA} {pos : Pos}
theorem zdU : PA X [] zrm := λ _ _ _ _ H Q I h => Calls.spliced_nil ⟨[], H, I, .nil, h⟩
theorem zbi (ha : PE X e te) (hr : PA X es t) (hs : starEach (e :: es) X.env = (false, eval e X.env) :: starEach es X.env := by rfl) : PA X (e :: es) (zoR te t) := by
 intro pos pins s σ H Q I h
 rw [hs]
 show wpAny _ _ (spliced ((false, eval e X.env) :: backTo pos (starEach es X.env))) _ _ s
 refine Calls.spliced_cons (thn (ha pins s σ H _ I h) λ u s1 ⟨x, H1, I1, r1, q1⟩ => ?_)
 exact thn (hr pos pins s1 σ H1 _ I1 q1) λ us s2 ⟨xs, H2, I2, r2, q2⟩ => ⟨x :: xs, H2, I2, .cons r1 r2, q2⟩
def zsb (t : TA) : TE := λ σ H Q => t σ H λ xs H1 => xs.length <= sizeLine /\ ∀ p, H1 p = none -> Q (.ref p) (upd H1 p (.tup xs))
def zsw (t : TA) : TE := λ σ H Q => t σ H λ xs H1 => xs.length <= sizeLine /\ ∀ p, H1 p = none -> Q (.ref p) (upd H1 p (.lst xs))
theorem zqj (h : PA X es t) : PE X (.Tuple es x1 pos) (zsb t) := by
 intro pins s σ H Q I hq
 refine wpAny_Tuple_spliced (thn (h pos pins s σ H _ I hq) λ us s1 ⟨xs, H1, I1, r, z, q⟩ => ⟨by rw [<- r.length]; exact z, ?_⟩)
 have hf : H1 s1.heap.objs.size = none := I1.hok.fresh (zzK _)
 refine ⟨.ref s1.heap.objs.size, upd H1 s1.heap.objs.size (.tup xs), I1.laid (t' := s1.toks) (λ b u e => Heap.get?_push_of_some _ e) (zzK _) ?_, rfl, q _ hf⟩
 exact ⟨z, us, r, ⟨_, Heap.get?_push_size _ rfl, rfl, _, rfl⟩⟩
theorem zpo (h : PA X es t) : PE X (.List es pos) (zsw t) := by
 intro pins s σ H Q I hq
 refine wpAny_List_spliced (thn (h pos pins s σ H _ I hq) λ us s1 ⟨xs, H1, I1, r, z, q⟩ => ⟨by rw [<- r.length]; exact z, ?_⟩)
 have hf : H1 s1.heap.objs.size = none := I1.hok.fresh (zzK _)
 refine ⟨.ref s1.heap.objs.size, upd H1 s1.heap.objs.size (.lst xs), I1.laid (t' := s1.toks) (λ b u e => Heap.get?_push_of_some _ e) (zzK _) ?_, rfl, q _ hf⟩
 exact ⟨z, us, 0, r, Heap.get?_push_size _ rfl⟩
end
abbrev Sp := List V -> Hp -> VK -> XK -> Prop
abbrev CXT := List Env -> Hp -> Shared -> XK -> Value -> Shared -> Prop
structure Env0 (P : Program) (w : World) (K : zC) (mg : Str -> Option Value) (base : Heap) (A : Around) (outer : List Env) (s : Shared) (H : Hp) : Prop where
 frames : A.frames = some outer
 mod : Mod K mg base
 bs : ∀ b o, base.get? b = some o -> s.heap.get? b = some o /\ H b = none
 bsz : base.objs.size <= s.heap.objs.size
 funs : s.heap.FunFrames base outer
 frf : ∀ b ∈ frs outer, H b = none
 hok : HOk P w H s.heap
 bare : AllBare s.gens
def CE (outer : List Env) (P : Program) (w : World) (H : Hp) (s : Shared) (Q : VK) (u : Value) (s' : Shared) : Prop :=
 ∃ v H', s'.os = s.os /\ AllBare s'.gens /\ Un (frs outer) [] H H' s.heap s'.heap /\ HOk P w H' s'.heap /\ RelV v u /\ Q v H'
def CR (CX : CXT) (outer : List Env) (P : Program) (w : World) (H : Hp) (s : Shared) (Q : VK) (E : XK) (r : Result) (s' : Shared) : Prop :=
 match r with
 | .ok (.ret u) => CE outer P w H s Q u s'
 | .ok _ => False
 | .error e => CX outer H s E e s'
structure FnOk (P : Program) (w : World) (K : zC) (mg : Str -> Option Value) (base : Heap) (CX : CXT) (k : Nat) (f : Addr) (fd : FuncData) (ps : List Str) (sp : Sp) : Prop where
 len : ∀ vs H Q E, sp vs H Q E -> vs.length = ps.length
 run : ∀ (A : Around) (outer : List Env) (s : Shared) (H : Hp) (args : Args) (us : List Value) (vs : List V) (Q : VK) (E : XK), Room k A -> Env0 P w K mg base A outer s H -> BindsTo s fd args (ps.zip us) -> Vals vs us -> sp vs H Q E ->
  codeAny (model P w) A (.call (.ref f) args) (CR CX outer P w H s Q E) s
theorem FnOk.imp {P : Program} {w : World} {K : zC} {mg : Str -> Option Value} {base : Heap} {CX : CXT} {k : Nat} {f : Addr} {fd : FuncData} {ps : List Str} {sp sp' : Sp} (F : FnOk P w K mg base CX k f fd ps sp)
 (h : ∀ vs H Q E, sp' vs H Q E -> sp vs H Q E) : FnOk P w K mg base CX k f fd ps sp' :=
 ⟨λ vs H Q E q => F.len vs H Q E (h _ _ _ _ q), λ A outer s H args us vs Q E hr he hb hv hs => F.run A outer s H args us vs Q E hr he hb hv (h _ _ _ _ hs)⟩
section
variable {X : Cx} {pins : List (Addr × Obj)} {σ : St} {H : Hp} {s s' : Shared}
theorem Inv.env0 (I : Inv X pins σ H s) : Env0 X.prog X.w X.K X.mg X.base X.A X.stack s H :=
 ⟨I.ok.frames, I.ok.mod, I.bs, zzL I.ok.bsz I.sz, I.stack, I.stkFree, I.hok, I.bare⟩
theorem Inv.after (I : Inv X pins σ H s) (h : CE X.stack X.prog X.w H s Q u s') : EP X pins σ Q u s' := by
 obtain ⟨v, H', os, bare, un, hok, r, q⟩ := h
 obtain ⟨hh, g, d, t, os'⟩ := s'
 obtain rfl : os' = s.os := os
 exact ⟨v, H', I.call (h' := hh) (g' := g) (d' := d) (t' := t) (ch := []) un hok bare (λ b z => absurd z (by simp)), r, q⟩
end
def zoQ (sp : Sp) (dvs : List V) (E : XK) (t : TA) : TE := λ σ H Q => t σ H λ vs H1 => sp (vs ++ dvs) H1 Q E
def Binds (K : zC) (fd : FuncData) (ps : List Str) (ds : List Value) : Prop :=
 ∀ (s : Shared) (us : List Value), K.In s.heap -> (us ++ ds).length = ps.length -> BindsTo s fd ⟨us, []⟩ (ps.zip (us ++ ds))
theorem Binds.all {K : zC} {fd : FuncData} {ps : List Str} (h : ∀ us : List Value, us.length = ps.length -> bindArgs fd ⟨us, []⟩ = pure (ps.zip us)) : Binds K fd ps [] := λ s us _ hl => by
 rw [List.append_nil] at hl ⊢
 exact .of_eq (h us hl)
def zgV (CX : CXT) (X : Cx) (E : XK) : Prop := ∀ (pins : List (Addr × Obj)) (σ : St) (H : Hp) (s : Shared) (e : Value) (s' : Shared), Inv X pins σ H s -> CX X.stack H s E e s' -> X.xe e s'
section
variable {X : Cx} {CX : CXT} {k : Nat} {f C : Addr} {fd : FuncData} {ps : List Str} {sp : Sp} {dvs : List V} {ds : List Value} {E : XK} {x m : Str} {p pos apos : Pos} {e o : Expr} {es : List Expr} {ta : TE} {t : TA}
theorem zpQ (F : FnOk X.prog X.w X.K X.mg X.base CX k f fd ps sp) (hr : Room k X.A) (hb : Binds X.K fd ps ds) (hd : Vals dvs ds) (hx : zgV CX X E)
 (I : Inv X pins σ H s) (r : Vals vs us) (h : sp (vs ++ dvs) H Q E) : wpAny (model X.prog X.w) X.A (call (.ref f) us) (EP X pins σ Q) X.xe s := by
 have r2 : Vals (vs ++ dvs) (us ++ ds) := r.append hd
 have hl : (us ++ ds).length = ps.length := by rw [<- r2.length]; exact F.len _ _ _ _ h
 refine wpAny_call (codeAny_mono (F.run X.A X.stack s H ⟨us, []⟩ (us ++ ds) (vs ++ dvs) Q E hr I.env0 (hb s us I.kIn hl) r2 h) λ r s' hq => ?_)
 cases r with
 | error e => exact hx pins σ H s e s' I hq
 | ok fl =>
  cases fl with
  | ret u => exact I.after hq
  | next => exact False.elim hq
  | brk => exact False.elim hq
  | cont => exact False.elim hq
theorem zoF (F : FnOk X.prog X.w X.K X.mg X.base CX k f fd ps sp) (hr : Room k X.A) (hg : Gl X x) (hm : X.mg x = some (.ref f)) (hk : PySem.W.keepIn X.K (.ref f) = true) (hb : Binds X.K fd ps ds) (hd : Vals dvs ds) (hx : zgV CX X E)
 (ha : PA X (e :: es) t) (hdb : (x == ("__debug__" : Str)) = false := by decide) (he : starEach (e :: es) X.env = (false, eval e X.env) :: starEach es X.env := by rfl) (hpl : (backTo pos (starEach es X.env)).any (·.1) = false := by rfl) :
 PE X (.Call (.Name x p) (e :: es) [] pos) (zoQ sp dvs E t) := by
 intro pins s σ H Q I h
 refine wpAny_Call_Name_kw (zni I hg hm ?_ hdb)
 refine PySem.W.callWith_K (h₀ := X.base) I.ok.mod.kin hk (thn (ha pos pins s σ H _ I h) λ us s1 ⟨vs, H1, I1, r, q⟩ => ⟨I1.kIn, ?_⟩) he hpl
 exact zpQ F hr hb hd hx I1 r q
structure Mk (K : zC) (C f : Addr) : Prop where
 makes : PySem.W.makesIn K C = true
 init : PySem.W.findIn K (.ref C) "__init__" = some (some (.ref f))
 fn : PySem.W.isFn K (.ref f) = true
 kp : PySem.W.keepIn K (.ref C) = true
end
section
variable {X : Cx} {CX : CXT} {k : Nat} {f C : Addr} {fd : FuncData} {ps ks : List Str} {sp : Sp} {E : XK} {x m : Str} {p pos apos kpos : Pos} {e o : Expr} {es : List Expr} {kws : List Keyword} {te ta : TE} {t tk : TA} {nm : Option Str}
structure KBinds (K : zC) (fd : FuncData) (ps ks : List Str) (g : List Value -> List Value -> List Value) (gV : List V -> List V -> List V) : Prop where
 to : ∀ (s : Shared) (us ws : List Value), K.In s.heap -> (g us ws).length = ps.length -> BindsTo s fd ⟨us, ks.zip ws⟩ (ps.zip (g us ws))
 rel : ∀ {vs : List V} {us : List Value} {zs : List V} {ws : List Value}, Vals vs us -> Vals zs ws -> Vals (gV vs zs) (g us ws)
variable {g : List Value -> List Value -> List Value} {gV : List V -> List V -> List V}
end
structure FnScope (N P : List Str) (sc : Scope) : Prop where
 kind : sc.kind = .function
 co : sc.isCoroutine = false
 gen : sc.isGenerator = false
 nd : N.Nodup
 pre : N.take P.length = P
 par : ∀ x ∈ P, sc.names.lookup x = some .local \/ sc.names.lookup x = some .cell
 nofree : ∀ y ∈ sc.names, y.2 ≠ .free
theorem zfE {kindOf : Str -> Option NameKind} {x : Str} : ∀ {binds : List (Str × Value)} {m : Str -> Option Value}, (∀ v, (x, v) ∉ binds) -> bindL kindOf binds m x = m x
 | [], _, _ => rfl
 | (n, v) :: r, m, h => by
  unfold bindL
  rw [zfE λ w hw => h w (zzA _ hw)]
  split
  · have : x ≠ n := by rintro rfl; exact h v zzC
    simp [this]
  · rfl
theorem zfn {kindOf : Str -> Option NameKind} {x : Str} : ∀ {binds : List (Str × Value)} {m : Str -> Option Value}, (∀ v, (x, v) ∉ binds) -> bindC kindOf binds m x = m x
 | [], _, _ => rfl
 | (n, v) :: r, m, h => by
  unfold bindC
  rw [zfn λ w hw => h w (zzA _ hw)]
  split
  · rfl
  · have : x ≠ n := by rintro rfl; exact h v zzC
    simp [this]
theorem zfo {kindOf : Str -> Option NameKind} {x : Str} {v : Value} : ∀ {P : List Str} {vs : List Value} {i : Nat} {m : Str -> Option Value}, P.Nodup -> P[i]? = some x -> vs[i]? = some v -> kindOf x = some .local ->
 bindL kindOf (P.zip vs) m x = some v
 | [], _, _, _, _, h, _, _ => by simp at h
 | _ :: _, [], _, _, _, _, h, _ => by simp at h
 | p :: P, w :: vs, 0, m, nd, h1, h2, hk => by
  simp at h1 h2; subst h1; subst h2
  show bindL kindOf ((p, w) :: P.zip vs) m p = _
  unfold bindL
  rw [zfE λ v hv => (zzT.mp nd).1 (List.of_mem_zip hv).1, if_pos hk]
  simp
 | p :: P, w :: vs, i + 1, m, nd, h1, h2, hk => by
  show bindL kindOf ((p, w) :: P.zip vs) m x = _
  unfold bindL
  exact zfo (i := i) (zzT.mp nd).2 (by simpa using h1) (by simpa using h2) hk
theorem zfY {kindOf : Str -> Option NameKind} {x : Str} {v : Value} : ∀ {P : List Str} {vs : List Value} {i : Nat} {m : Str -> Option Value}, P.Nodup -> P[i]? = some x -> vs[i]? = some v -> kindOf x ≠ some .local ->
 bindC kindOf (P.zip vs) m x = some v
 | [], _, _, _, _, h, _, _ => by simp at h
 | _ :: _, [], _, _, _, _, h, _ => by simp at h
 | p :: P, w :: vs, 0, m, nd, h1, h2, hk => by
  simp at h1 h2; subst h1; subst h2
  show bindC kindOf ((p, w) :: P.zip vs) m p = _
  unfold bindC
  rw [zfn λ v hv => (zzT.mp nd).1 (List.of_mem_zip hv).1, if_neg hk]
  simp
 | p :: P, w :: vs, i + 1, m, nd, h1, h2, hk => by
  show bindC kindOf ((p, w) :: P.zip vs) m x = _
  unfold bindC
  exact zfY (i := i) (zzT.mp nd).2 (by simpa using h1) (by simpa using h2) hk
def start (N : List Str) (vs : List V) : St := vs.map some ++ List.replicate (N.length - vs.length) none
def zjd (CX : CXT) (P : Program) (w : World) (K : zC) (mg : Str -> Option Value) (base : Heap) (N : List Str) (qual : Str) (scope : Scope) (f : Addr) (cd : Value) (A : Around) (outer : List Env) (s : Shared) (H : Hp) (E : XK) : Cx where
 prog := P
 w := w
 K := K
 mg := mg
 base := base
 A := A.deeper (envOfC qual scope s.heap.objs.size f cd)
 N := N
 s₀ := s
 H₀ := H
 env := envOfC qual scope s.heap.objs.size f cd
 outer := outer
 stack := envOfC qual scope s.heap.objs.size f cd :: outer
 ex := []
 calm := true
 fn := λ _ => true
 pn := []
 xe := λ e s' => wpAny (model P w) (A.deeper (envOfC qual scope s.heap.objs.size f cd)) (leaving (envOfC qual scope s.heap.objs.size f cd) e) (λ _ s'' => CX outer H s E e s'') (λ e' s'' => CX outer H s E e' s'') s'
theorem zhv {sc : Scope} {n : Nat} {x : Str} (h : sc.names.lookup x = some .cell) : ∃ c, (cellsFrom n sc.names []).lookup x = some c := by
 have q := PySem.W.cellsFrom_some sc.names n [] (.inl h)
 exact Option.isSome_iff_exists.mp q
theorem zkU {CX : CXT} {P : Program} {w : World} {K : zC} {mg : Str -> Option Value} {base : Heap} {N ps : List Str} {qual : Str} {scope : Scope} {f : Addr} {cd : Value} {A : Around} {outer : List Env} {s s1 : Shared} {H : Hp} {E : XK} {us : List Value} {vs : List V}
 (S : FnScope N ps scope) (hd : A.handled = none) (e0 : Env0 P w K mg base A outer s H) (hl : vs.length = ps.length) (r : Vals vs us)
 (x : InCallC s s.heap.objs.size (bindL (envOfC qual scope s.heap.objs.size f cd).kindOf (ps.zip us) λ _ => none) (cellsFrom (s.heap.objs.size + 1) scope.names []) (bindC (envOfC qual scope s.heap.objs.size f cd).kindOf (ps.zip us) λ _ => none) s1) :
 Inv (zjd CX P w K mg base N qual scope f cd A outer s H E) [] (start N vs) H s1 := by
 have hpl : ps.length <= N.length := by have := congrArg List.length S.pre; rw [zzP] at this; omega
 obtain ⟨h1, tk, rfl, hk⟩ := x.done
 have noA : ∀ b : Addr, b ∉ (zjd CX P w K mg base N qual scope f cd A outer s H E).ex := λ b z => absurd (show b ∈ ([] : List Addr) from z) (by simp)
 refine ⟨⟨e0.mod, S.kind, rfl, rfl, zzK _, λ y z c h1 h2 => ?_, λ y hy => ?_, λ y c _ h => ?_, λ _ => hd, Around.frames_deeper e0.frames, .inr ⟨rfl, rfl⟩, λ b z => absurd z (noA b), e0.bs, e0.bsz, λ b _ _ => noA b, λ b z => absurd z (noA b), e0.funs, e0.frf⟩,
  rfl, e0.bare, Un.kept hk, ⟨_, x.toInCall.ns, λ i y v h1 h2 h3 => ?_⟩, λ y c h => ⟨_, x.cell y c h⟩, e0.hok.fresh (zzK _), λ y c h => ?_, λ p hp => absurd (show p ∈ ([] : List (Addr × Obj)) from hp) (by simp), e0.hok.kept hk, ?_⟩
 · exact name_of_addr x.apart (PySem.mem_of_lookup h1) (PySem.mem_of_lookup h2)
 · have hy : scope.names.lookup y = some .cell \/ scope.names.lookup y = some .free := hy
   rcases hy with hy | hy
   · exact zhv hy
   · exact absurd rfl (S.nofree _ (PySem.mem_of_lookup hy))
 · exact Nat.le_of_lt (x.above y c (PySem.mem_of_lookup h))
 · have hi : i < vs.length := by
    unfold start at h2
    by_cases hi : i < vs.length
    · exact hi
    · rw [List.getElem?_append_right (by simpa using hi)] at h2
      rw [List.getElem?_replicate] at h2
      split at h2 <;> cases h2
   have ha : vs[i]? = some v := by
    unfold start at h2
    rw [List.getElem?_append_left (by simpa using hi), zzF] at h2
    cases e : vs[i]? with
    | none => rw [e] at h2; cases h2
    | some a => rw [e] at h2; cases h2; rfl
   obtain ⟨u, hu, rv⟩ := r.get ha
   have hp : ps[i]? = some y := by
    rw [<- S.pre, List.getElem?_take_of_lt (by omega)]; exact h1
   have ndP : ps.Nodup := by rw [<- S.pre]; exact S.nd.sublist (List.take_sublist _ _)
   refine ⟨u, rv, ?_⟩
   rcases S.par y (List.mem_of_getElem? hp) with k | k
   · exact .inl ⟨k, zfo ndP hp hu k⟩
   · obtain ⟨c, e⟩ := zhv (n := s.heap.objs.size + 1) k
     refine .inr ⟨.inl k, c, e, ?_⟩
     have q := x.cell y c e
     rw [zfY ndP hp hu (by show scope.names.lookup y ≠ _; rw [k]; decide)] at q
     exact q
 · exact e0.hok.fresh (Nat.le_of_lt (x.above y c (PySem.mem_of_lookup h)))
 · unfold start
   show _ = N.length
   rw [zzG, zD, List.length_replicate]
   omega
theorem zqW {CX : CXT} {P : Program} {w : World} {K : zC} {mg : Str -> Option Value} {base : Heap} {k : Nat} {f : Addr} {name qual : Str} {params : Arguments} {body : List Stmt} {scope : Scope} {dV kV doc pm cdv ct oc : Value} {an od : Option Addr}
 {osl : Array (Option Value)} {N ps : List Str} {sp : Sp} (lk : K.lookup f = some ⟨oc, od, .func (PySem.W.fnOf name qual params body scope dV kV doc pm an cdv ct), osl⟩) (hcd : PySem.W.codeIn K cdv qual = true) (S : FnScope N ps scope)
 (len : ∀ vs H Q E, sp vs H Q E -> vs.length = ps.length)
 (hbody : ∀ (A : Around) (outer : List Env) (s : Shared) (H : Hp) (vs : List V) (Q : VK) (E : XK), Room k (A.deeper (envOfC qual scope s.heap.objs.size f cdv)) -> sp vs H Q E ->
  ∃ t, PSs (zjd CX P w K mg base N qual scope f cdv A outer s H E) body t /\ t { nx := λ _ H' => Q .non H', rt := Q } (start N vs) H) :
 FnOk P w K mg base CX (k + 1) f (PySem.W.fnOf name qual params body scope dV kV doc pm an cdv ct) ps sp := by
 refine ⟨len, λ A outer s H args us vs Q E hr e0 hb r hsp => ?_⟩
 have hl := len _ _ _ _ hsp
 have KX : K.In s.heap := e0.mod.kin.keeps λ b o e => (e0.bs b o e).1
 have lim : s.heap.NoLimit := e0.mod.nolimit.keeps λ b o e => (e0.bs b o e).1
 have hkind : ∀ y ∈ ps.zip us, scope.names.lookup y.1 = some .local \/ (scope.names.lookup y.1 = some .cell /\ ((cellsFrom (s.heap.objs.size + 1) scope.names []).lookup y.1).isSome = true) := λ ⟨n, v⟩ hy => by
  rcases S.par n (List.of_mem_zip hy).1 with q | q
  · exact .inl q
  · exact .inr ⟨q, PySem.W.cellsFrom_some _ _ _ (.inl q)⟩
 refine codeAny_call_function hr.depth (KX _ _ lk) rfl S.co S.gen rfl (PySem.W.codeRec_of KX hcd) (hb _ _ _ _ ?_)
 refine wpAny_newFunctionEnv_cells S.kind hkind λ env he s1 x => ?_
 subst he
 refine ⟨lim.keeps x.toInCall.keep, codeAny_func ?_⟩
 obtain ⟨t, ht, hq⟩ := hbody A outer s H vs Q E (hr.deeper _) hsp
 have I : Inv (zjd CX P w K mg base N qual scope f cdv A outer s H E) [] (start N vs) H s1 := zkU S hr.hd e0 hl r x
 refine wpAny_mono (ht [] s1 (start N vs) H _ I hq) (λ fl s' hs => ?_) λ e s' hs => hs
 have fin : ∀ {σ' : St} {H' : Hp} {v : V} {u : Value}, Inv (zjd CX P w K mg base N qual scope f cdv A outer s H E) [] σ' H' s' -> RelV v u -> Q v H' -> CE outer P w H s Q u s' :=
  λ {σ' H' v u} J rv q => ⟨v, H', J.os, J.bare, J.base, J.hok, rv, q⟩
 cases fl with
 | ret u =>
  obtain ⟨v, σ', H', J, rv, q⟩ := hs
  exact fin J rv q
 | next =>
  obtain ⟨σ', H', J, q⟩ := hs
  exact fin (v := V.non) (u := Value.none) J rfl q
 | brk =>
  obtain ⟨_, _, _, q⟩ := hs
  exact False.elim q
 | cont =>
  obtain ⟨_, _, _, q⟩ := hs
  exact False.elim q
end L2
namespace L2
open PySem PySem.Spec PyProof.Rows
section
variable {X : Cx} {x : Str} {p pos : Pos} {e : Expr} {es : List Expr} {t : TA} {id T : String} {r : List V -> Hp -> VK -> Prop}
def tCB (r : List V -> Hp -> VK -> Prop) (t : TA) : TE := λ σ H Q => t σ H λ vs H1 => r vs H1 Q
theorem zhg (hc : zbs X (.builtin id) r) (hg : Gl X x) (hm : X.mg x = none) (hv : bootBuiltins x = some (.builtin id)) (ha : PA X (e :: es) t) (hn : x ≠ "__name__" := by decide) (hdb : (x == ("__debug__" : Str)) = false := by decide)
 (he : starEach (e :: es) X.env = (false, eval e X.env) :: starEach es X.env := by rfl) (hpl : (backTo pos (starEach es X.env)).any (·.1) = false := by rfl) : PE X (.Call (.Name x p) (e :: es) [] pos) (tCB r t) := by
 intro pins s σ H Q I h
 refine wpAny_Call_Name_kw (zap I hg hm hv ?_ hn hdb)
 exact PyProof.Rows.callWith_builtin1 (thn (ha pos pins s σ H _ I h) λ us s1 ⟨vs, H1, I1, r1, q1⟩ => hc pins s1 σ H1 vs us Q I1 r1 q1) he hpl
theorem zkK (hc : zbs X (.type T) r) (hg : Gl X x) (hm : X.mg x = none) (hv : bootBuiltins x = some (.type T)) (ha : PA X (e :: es) t) (hn : x ≠ "__name__" := by decide) (hdb : (x == ("__debug__" : Str)) = false := by decide)
 (he : starEach (e :: es) X.env = (false, eval e X.env) :: starEach es X.env := by rfl) (hpl : (backTo pos (starEach es X.env)).any (·.1) = false := by rfl) : PE X (.Call (.Name x p) (e :: es) [] pos) (tCB r t) := by
 intro pins s σ H Q I h
 refine wpAny_Call_Name_kw (zap I hg hm hv ?_ hn hdb)
 exact PyProof.Rows.callWith_type1 (thn (ha pos pins s σ H _ I h) λ us s1 ⟨vs, H1, I1, r1, q1⟩ => hc pins s1 σ H1 vs us Q I1 r1 q1) he hpl
end
end L2
namespace L2
open PySem PySem.Spec PyProof.Rows
section
variable {κ : Type} [DecidableEq κ]
def Y0 (kvs : List (κ × V)) (k : κ) : Option V := (kvs.find? λ kv => decide (kv.1 = k)).map (·.2)
def putK (kvs : List (κ × V)) (k : κ) (v : V) : List (κ × V) :=
 if (kvs.any λ kv => decide (kv.1 = k)) = true then kvs.map (λ kv => if kv.1 = k then (kv.1, v) else kv) else kvs ++ [(k, v)]
theorem zdF {p : κ × V} {r : List (κ × V)} {k : κ} (e : p.1 = k) : Y0 (p :: r) k = some p.2 := by simp [Y0, List.find?_cons, e]
theorem zeP {p : κ × V} {r : List (κ × V)} {k : κ} (e : ¬ p.1 = k) : Y0 (p :: r) k = Y0 r k := by simp [Y0, List.find?_cons, e]
theorem zio (k : κ) : ∀ kvs : List (κ × V), (kvs.any λ kv => decide (kv.1 = k)) = (Y0 kvs k).isSome
 | [] => rfl
 | p :: r => by
  rw [List.any_cons]
  by_cases e : p.1 = k
  · simp only [zdF e, decide_eq_true e, Bool.true_or, Option.isSome_some]
  · rw [zeP e, decide_eq_false e, Bool.false_or]; exact zio k r
theorem zcY (kvs : List (κ × V)) (k : κ) (v : V) : (putK kvs k v).length <= kvs.length + 1 := by
 unfold putK
 split
 · rw [zD]; omega
 · rw [zzG, zzQ, List.length_nil]; omega
theorem zec.isSome_eq (r : zec o u) : o.isSome = u.isSome := by
 cases o with
 | none => cases u with
  | none => rfl
  | some _ => exact (show False from r).elim
 | some _ => cases u with
  | none => exact (show False from r).elim
  | some _ => rfl
theorem KV.val {kvs : List (κ × V)} {vs : List (κ × Value)} (r : KV kvs vs) (k : κ) : zec (Y0 kvs k) (valueAt vs k) := by
 unfold KV at r
 induction r with
 | nil => exact True.intro
 | @cons p q ps qs h t ih =>
  obtain ⟨h1, h2⟩ := h
  by_cases e : p.1 = k
  · have e' : q.1 = k := h1.symm.trans e
    have b : valueAt (q :: qs) k = some q.2 := by simp [valueAt, List.find?_cons, e']
    rw [zdF e, b]; exact h2
  · have e' : ¬ q.1 = k := λ z => e (h1.trans z)
    have b : valueAt (q :: qs) k = valueAt qs k := by simp [valueAt, List.find?_cons, e']
    rw [zeP e, b]; exact ih
theorem KV.any (r : KV kvs vs) (k : κ) : (kvs.any λ kv => decide (kv.1 = k)) = vs.any λ kv => decide (kv.1 = k) := by
 unfold KV at r
 induction r with
 | nil => rfl
 | cons h t ih => rw [List.any_cons, List.any_cons, ih, h.1]
theorem KV.repl (r : KV kvs vs) (k : κ) (ry : RelV y u) :
 KV (kvs.map λ kv => if kv.1 = k then (kv.1, y) else kv) (vs.map λ kv => if kv.1 = k then (kv.1, u) else kv) := by
 unfold KV at r ⊢
 induction r with
 | nil => exact .nil
 | @cons p q ps qs h t ih =>
  rw [List.map_cons, List.map_cons]
  refine .cons ?_ ih
  obtain ⟨h1, h2⟩ := h
  by_cases e : p.1 = k
  · rw [if_pos e, if_pos (h1.symm.trans e)]; exact ⟨h1, ry⟩
  · rw [if_neg e, if_neg (λ z => e (h1.trans z))]; exact ⟨h1, h2⟩
theorem KV.put (r : KV kvs vs) (k : κ) (ry : RelV y u) : KV (putK kvs k y) (stored vs k u) := by
 unfold putK stored
 rw [r.any k]
 by_cases e : (vs.any λ kv => decide (kv.1 = k)) = true
 · rw [if_pos e, if_pos e]; exact r.repl k ry
 · rw [if_neg e, if_neg e]; exact Paired.snoc r ⟨rfl, ry⟩
theorem KV.length (r : KV kvs vs) : kvs.length = vs.length := Paired.length r
end
theorem zbk (r : RelV (kV k) u) : (wu P w).is k u = true := by
 cases k with
 | inl i => obtain ⟨t, e⟩ := (show ∃ t, u = Value.int i t from r); subst e; exact zis P w i t
 | inr x => obtain ⟨t, e⟩ := (show ∃ t, u = Value.str x t from r); subst e; exact VF P w x t
theorem zfr : ∀ {ks : List Key} {us : List Value}, Vals (ks.map kV) us -> ItemsAre (wu P w) ks us
 | [], _, r => by rw [List.map_nil] at r; cases r; exact .nil
 | k :: ks, _, r => by
  rw [List.map_cons] at r
  cases r with
  | cons h t => exact .cons (zbk h) (zfr t)
abbrev KT (H : Hp) : List (List Key × V) -> List (List Key × Addr × Value) -> Prop := Paired λ p q => p.1 = q.1 /\ H q.2.1 = some (.tup (p.1.map kV)) /\ RelV p.2 q.2.2
theorem KT.val {H : Hp} {kvs : List (List Key × V)} {xs : List (List Key × Addr × Value)} (r : KT H kvs xs) (k : List Key) : zec (Y0 kvs k) ((atKey xs k).map (·.2)) := by
 induction r with
 | nil => exact True.intro
 | @cons p q ps qs h t ih =>
  obtain ⟨h1, _, h2⟩ := h
  by_cases e : p.1 = k
  · have e' : q.1 = k := h1.symm.trans e
    have b : atKey (q :: qs) k = some q.2 := by simp [atKey, List.find?_cons, e']
    rw [zdF e, b]; exact h2
  · have e' : ¬ q.1 = k := λ z => e (h1.trans z)
    have b : atKey (q :: qs) k = atKey qs k := by simp [atKey, List.find?_cons, e']
    rw [zeP e, b]; exact ih
theorem KT.repl (r : KT H kvs xs) (k : List Key) (ry : RelV y u) :
 KT H (kvs.map λ kv => if kv.1 = k then (kv.1, y) else kv) (xs.map (putAt k u)) := by
 induction r with
 | nil => exact .nil
 | @cons p q ps qs h t ih =>
  rw [List.map_cons, List.map_cons]
  refine .cons ?_ ih
  obtain ⟨h1, h2, h3⟩ := h
  unfold putAt
  by_cases e : p.1 = k
  · rw [if_pos e, if_pos (h1.symm.trans e)]; exact ⟨h1, h2, ry⟩
  · rw [if_neg e, if_neg (λ z => e (h1.trans z))]; exact ⟨h1, h2, h3⟩
theorem KT.put (r : KT H kvs xs) (k : List Key) (hb : H b = some (.tup (k.map kV))) (ry : RelV y u) :
 KT H (putK kvs k y) (storedH xs k b u) := by
 have e : (kvs.any λ kv => decide (kv.1 = k)) = (atKey xs k).isSome := by
  rw [zio, (r.val k).isSome_eq, Option.isSome_map]
 unfold putK storedH
 rw [e]
 by_cases q : (atKey xs k).isSome = true
 · rw [if_pos q, if_pos q]; exact r.repl k ry
 · rw [if_neg q, if_neg q]; exact Paired.snoc r ⟨rfl, hb, ry⟩
theorem KT.keeps (r : KT H kvs xs) (ht : ∀ b ys, H b = some (.tup ys) -> H' b = some (.tup ys)) : KT H' kvs xs :=
 Paired.mapP r λ _ _ z => ⟨z.1, ht _ _ z.2.1, z.2.2⟩
section
variable {P : Program} {w : World} {H : Hp} {h : Heap} {a : Addr}
theorem zoX (ok : HOk P w H h) (e : Rd H a u) : vA P w H h a u := e.ok ok
theorem zif (ok : HOk P w H h) (e : Rd H a (.dK kvs)) : kvs.length <= sizeLine /\ (a == sysModules) = false /\ ∃ vs, KV kvs vs /\ h.DictOf (wu P w) a vs :=
 show vA P w H h a (.dK kvs) from zoX ok e
theorem zrk (ok : HOk P w H h) (e : H a = some (.dK kvs)) : kvs.length <= sizeLine /\ (a == sysModules) = false /\ ∃ vs, KV kvs vs /\ h.DictOf (wu P w) a vs := zif ok (.inl e)
theorem zcu (ok : HOk P w H h) (e : H a = some (.tup (ks.map kV))) : (tupleKind (wu P w)).is h ks a := by
 obtain ⟨_, its, r, o, h1, h2, n, h3⟩ := (show vA P w H h a (.tup (ks.map kV)) from ok a _ e)
 exact ⟨o, its.toArray, n, h1, h2, h3, by simpa using zfr r⟩
theorem zhz (ok : HOk P w H h) (e : Rd H a (.dT kvs)) : kvs.length <= sizeLine /\ (a == sysModules) = false /\
 ∃ xs, KT H kvs xs /\ h.DictOfH (tupleKind (wu P w)) a xs := by
 obtain ⟨z, y, xs, r, o, es, ep, h1, h2, h3, h4, h5⟩ := (show vA P w H h a (.dT kvs) from zoX ok e)
 refine ⟨z, y, xs, r, o, es, ep, h1, h2, h3, h4, λ x hx => ?_, h5⟩
 have all : ∀ {l : List (List Key × V)} {m : List (List Key × Addr × Value)}, KT H l m -> ∀ x ∈ m, (tupleKind (wu P w)).is h x.1 x.2.1 := by
  intro l m q
  induction q with
  | nil => intro x hx; exact nomatch hx
  | @cons p q ps qs hq t ih =>
   intro x hx
   rcases zI.mp hx with e | hx
   · subst e
     exact zcu ok (by rw [<- hq.1]; exact hq.2.1)
   · exact ih x hx
 exact all r x hx
theorem zoY (ok : HOk P w H h) (e : H a = some (.dT kvs)) : kvs.length <= sizeLine /\ (a == sysModules) = false /\
 ∃ xs, KT H kvs xs /\ h.DictOfH (tupleKind (wu P w)) a xs := zhz ok (.inl e)
end
def zhu (H : Hp) (a : Addr) (y : V) (r : Option V) : Prop :=
 (∃ kvs k, Rd H a (.dK kvs) /\ y = kV k /\ r = Y0 kvs k) \/ ∃ kvs k b, Rd H a (.dT kvs) /\ y = .ref b /\ H b = some (.tup (k.map kV)) /\ r = Y0 kvs k
def zrN (H : Hp) (a : Addr) (y v : V) (H' : Hp) : Prop :=
 (∃ kvs k, H a = some (.dK kvs) /\ y = kV k /\ kvs.length < sizeLine /\ H' = upd H a (.dK (putK kvs k v))) \/
 ∃ kvs k b, H a = some (.dT kvs) /\ y = .ref b /\ H b = some (.tup (k.map kV)) /\ kvs.length < sizeLine /\ H' = upd H a (.dT (putK kvs k v))
theorem zhu.t {H : Hp} {a b : Addr} {kvs : List (List Key × V)} {k : List Key} (e : H a = some (.dT kvs)) (eb : H b = some (.tup (k.map kV))) : zhu H a (.ref b) (Y0 kvs k) := .inr ⟨kvs, k, b, .inl e, rfl, eb, rfl⟩
section
variable {X : Cx} {pins : List (Addr × Obj)} {σ : St} {H : Hp} {s : Shared} {a : Addr} {y v : V} {u r : Value} {o : Option V} {A : Around} {E : Value -> Shared -> Prop}
theorem Inv.big (I : Inv X pins σ H s) : sysModules < s.heap.objs.size := by
 have h : mainGlobals < s.heap.objs.size := (I.mod.glob.keeps I.bk).lt
 exact Nat.lt_trans (by decide) h
theorem zks (hu : A.units + 1 < cLine) (I : Inv X pins σ H s) (g : zhu H a y (some v)) (ry : RelV y u) (h : ∀ w' s', Inv X pins σ H s' -> RelV v w' -> Q w' s') :
 wpAny (model X.prog X.w) A (getItem (.ref a) u) Q E s := by
 rcases g with ⟨kvs, k, e, ey, l⟩ | ⟨kvs, k, b, e, ey, eb, l⟩
 · subst ey
   obtain ⟨z, hd, vs, rel, dd⟩ := zif I.hok e
   obtain ⟨w', hw, rw'⟩ := zec.some_of (v := v) (o := valueAt vs k) (by rw [l]; exact rel.val k)
   exact wpAny_getItem_of (zbk ry) dd.mapOf hw (h w' _ (I.tok _) rw')
 · subst ey
   cases (show u = Value.ref b from ry)
   obtain ⟨z, hd, xs, rel, dd⟩ := zhz I.hok e
   obtain ⟨w', hw, rw'⟩ := zec.some_of (v := v) (o := (atKey xs k).map (·.2)) (by rw [l]; exact rel.val k)
   obtain ⟨p, hp, hp2⟩ := zzU.mp hw
   refine wpAny_getItem_heap (tupleKind_room_in1 hu) (zcu I.hok eb) dd hp ?_
   rw [hp2]
   exact h w' _ (I.tok _) rw'
theorem zss (hu : A.units + 1 < cLine) (I : Inv X pins σ H s) (g : zhu H a y o) (ry : RelV y u) (h : ∀ s', Inv X pins σ H s' -> Q (.bool o.isSome) s') :
 wpAny (model X.prog X.w) A (compareOp .In u (.ref a)) Q E s := by
 rcases g with ⟨kvs, k, e, ey, l⟩ | ⟨kvs, k, b, e, ey, eb, l⟩
 · subst ey
   obtain ⟨z, hd, vs, rel, dd⟩ := zif I.hok e
   refine wpAny_in_of (zbk ry) hd dd.mapOf ?_
   rw [<- (rel.val k).isSome_eq, <- l]
   exact h _ (I.tok _)
 · subst ey
   cases (show u = Value.ref b from ry)
   obtain ⟨z, hd, xs, rel, dd⟩ := zhz I.hok e
   refine wpAny_in_heap (tupleKind_room_in1 hu) (zcu I.hok eb) hd dd ?_
   have q := (rel.val k).isSome_eq
   rw [Option.isSome_map] at q
   rw [<- q, <- l]
   exact h _ (I.tok _)
theorem znZ (hu : A.units + 1 < cLine) (I : Inv X pins σ H s) (g : zhu H a y o) (ry : RelV y u) (h : ∀ s', Inv X pins σ H s' -> Q (.bool (!o.isSome)) s') :
 wpAny (model X.prog X.w) A (compareOp .NotIn u (.ref a)) Q E s := by
 rcases g with ⟨kvs, k, e, ey, l⟩ | ⟨kvs, k, b, e, ey, eb, l⟩
 · subst ey
   obtain ⟨z, hd, vs, rel, dd⟩ := zif I.hok e
   refine wpAny_notIn_of (zbk ry) hd dd.mapOf ?_
   rw [<- (rel.val k).isSome_eq, <- l]
   exact h _ (I.tok _)
 · subst ey
   cases (show u = Value.ref b from ry)
   obtain ⟨z, hd, xs, rel, dd⟩ := zhz I.hok e
   refine wpAny_notIn_heap (tupleKind_room_in1 hu) (zcu I.hok eb) hd dd ?_
   have q := (rel.val k).isSome_eq
   rw [Option.isSome_map] at q
   rw [<- q, <- l]
   exact h _ (I.tok _)
theorem zgE (I : Inv X pins σ H s) (mu : Mut (H a)) (hs : Heap.SameBut a s.heap h') (he : ∃ q, h'.get? a = some q) (new : vA X.prog X.w (upd H a ob) h' a ob) :
 Inv X pins σ (upd H a ob) { s with heap := h', toks := t' } :=
 I.write (x := a) (e := a) mu (.inl rfl) (λ b q hb z => (hs.2 b hb).trans z) he new
theorem ziB (z : kvs.length <= sizeLine) (hd : (a == sysModules) = false) (rel : KV kvs vs) (dd : h'.DictOf (wu P w) a vs) :
 vA P w H' h' a (.dK kvs) := ⟨z, hd, vs, rel, dd⟩
theorem zlb (hu : A.units + 1 < cLine) (I : Inv X pins σ H s) (g : zrN H a y v H') (ry : RelV y u) (rv : RelV v r) (h : ∀ s', Inv X pins σ H' s' -> Q () s') :
 wpAny (model X.prog X.w) A (setItem (.ref a) u r) Q E s := by
 rcases g with ⟨kvs, k, e, ey, l, eH⟩ | ⟨kvs, k, b, e, ey, eb, l, eH⟩
 · subst ey eH
   obtain ⟨z, hd, vs, rel, dd⟩ := zrk I.hok e
   have hz : vs.length <= sizeLine := by rw [<- rel.length]; exact z
   have hl : (putK kvs k v).length <= sizeLine := by have := zcY kvs k v; omega
   refine wpAny_setItem_pairs (hsz := hz) (zbk ry) dd λ h' dd' hs => h _ ?_
   have he : ∃ q, h'.get? a = some q := let ⟨q, _, _, hq, _⟩ := dd'; ⟨q, hq⟩
   exact zgE I (by rw [e]; exact True.intro) hs he (ziB hl hd (rel.put k rv) dd')
 · subst ey eH
   cases (show u = Value.ref b from ry)
   obtain ⟨z, hd, xs, rel, dd⟩ := zoY I.hok e
   have hz : xs.length <= sizeLine := by rw [<- Paired.length rel]; exact z
   have hl : (putK kvs k v).length <= sizeLine := by have := zcY kvs k v; omega
   refine wpAny_setItem_heap (hsz := hz) (tupleKind_room_in1 hu) (zcu I.hok eb) dd λ h' dd' hs => h _ ?_
   obtain ⟨q, es, ep, hq, h2, h3, h4, _, h5⟩ := dd'
   refine zgE I (by rw [e]; exact True.intro) hs ⟨q, hq⟩ ⟨hl, hd, _, (rel.put k eb rv).keeps λ c ys ec => ?_, q, es, ep, hq, h2, h3, h4, h5⟩
   rw [ye (zoS ec e (λ z => nomatch z))]
   exact ec
end
def zrs (td ty tv : TE) : TS := λ D σ H => tv σ H λ v H1 => td σ H1 λ x H2 => ty σ H2 λ y H3 => ∃ a H4, x = .ref a /\ zrN H3 a y v H4 /\ D.nx σ H4
section
variable {X : Cx} {o i e value : Expr} {pos pos' tpos : Pos} {td ty tv : TE}
theorem znl (hu : X.A.units + 1 < cLine) (ho : PE X o td) (hi : PE X i ty) (hv : PE X value tv) (hs : swapsWith value (some (.Subscript o i pos')) pos.line X.env = pure false) :
 PS X (.Assign [.Subscript o i pos'] value pos) (zrs td ty tv) := by
 intro pins s σ H D I h
 refine wpAny_Assign_Subscript (thn (hv pins s σ H _ I h) λ r s1 ⟨v, H1, I1, rv, q1⟩ => thn (ho pins s1 σ H1 _ I1 q1) λ u s2 ⟨x, H2, I2, rx, q2⟩ => thn (hi pins s2 σ H2 _ I2 q2) λ iv s3 ⟨y, H3, I3, ry, a, H4, ex, g, q3⟩ => ?_) hs
 subst ex
 obtain rfl : u = Value.ref a := rx
 exact zlb hu I3 g ry rv λ s4 I4 => ⟨σ, H4, I4, q3⟩
end
theorem zmI (h : Heap) (hb : sysModules < h.objs.size) : vA P w H (h.push { cls := .type "dict", data := .dict #[] }) h.objs.size (.dT []) :=
 ⟨Nat.zero_le _, beq_eq_false_iff_ne.mpr (Ne.symm (zzN hb)), [], .nil, _, #[], 0, Heap.get?_push_size _ rfl, ⟨rfl, rfl, rfl⟩, rfl, rfl, List.nodup_nil⟩
def zmL : List (TE × TE) -> St -> Hp -> (List (V × V) -> Hp -> Prop) -> Prop
 | [], _, H, Q => Q [] H
 | (tk, tv) :: r, σ, H, Q => tk σ H λ x H1 => tv σ H1 λ y H2 => zmL r σ H2 λ ps H3 => Q ((x, y) :: ps) H3
abbrev VV : List (V × V) -> List (Value × Value) -> Prop := Paired λ p q => RelV p.1 q.1 /\ RelV p.2 q.2
def PPs (X : Cx) (pos : Pos) (keys : List (Option Expr)) (values : List Expr) (trs : List (TE × TE)) : Prop :=
 ∀ (pins : List (Addr × Obj)) (s : Shared) (σ : St) (H : Hp) (Q : List (V × V) -> Hp -> Prop), Inv X pins σ H s -> zmL trs σ H Q ->
  wpAny (model X.prog X.w) X.A (evalPairs (pairTrees keys values X.env pos)) (λ vs s' => ∃ ps H', Inv X pins σ H' s' /\ VV ps vs /\ Q ps H') X.xe s
theorem znk : PPs X pos [] [] [] := λ pins s σ H Q I h => pairTrees_nil_walk ⟨[], H, I, .nil, h⟩
theorem znc (hk : PE X k tk) (hv : PE X v tv) (hr : PPs X pos ks vs trs) :
 PPs X pos (some k :: ks) (v :: vs) ((tk, tv) :: trs) := λ pins s σ H Q I h =>
 pairTrees_cons_walk (thn (hk pins s σ H _ I h) λ u s1 ⟨x, H1, I1, rx, q1⟩ => thn (hv pins s1 σ H1 _ I1 q1) λ w2 s2 ⟨y, H2, I2, ry, q2⟩ =>
  thn (hr pins s2 σ H2 _ I2 q2) λ ws s3 ⟨ps, H3, I3, rel, q3⟩ => ⟨(x, y) :: ps, H3, I3, .cons ⟨rx, ry⟩ rel, q3⟩)
structure M1 (X : Cx) (o : Expr) (m : Str) (apos : Pos) (e : Expr) (cpos : Pos) : Prop where
 base : attributeBase o m X.env (eval o X.env) = eval o X.env
 few : ((backTo cpos (starEach [e] X.env)).all (λ x => !x.1) && (backToKw cpos (keywordEach [] X.env)).all (λ x => x.1.isSome)
  && decide (([e] : List Expr).length + ([] : List Keyword).length + (if ([] : List Keyword).isEmpty then 0 else 1) < 30)) = true
 line : (apos.endLine == cpos.line) = true
 trees : backTo cpos (starEach [e] X.env) = [(false, eval e X.env)]
structure M2 (X : Cx) (o : Expr) (m : Str) (apos : Pos) (e f : Expr) (cpos : Pos) : Prop where
 base : attributeBase o m X.env (eval o X.env) = eval o X.env
 few : ((backTo cpos (starEach [e, f] X.env)).all (λ x => !x.1) && (backToKw cpos (keywordEach [] X.env)).all (λ x => x.1.isSome)
  && decide (([e, f] : List Expr).length + ([] : List Keyword).length + (if ([] : List Keyword).isEmpty then 0 else 1) < 30)) = true
 line : (apos.endLine == cpos.line) = true
 trees : backTo cpos (starEach [e, f] X.env) = [(false, eval e X.env), (false, eval f X.env)]
end L2
namespace HT
open PySem PyProof.Rows
section
variable {prog : Program} {w : World} {A : Around} {E : Value -> Shared -> Prop} {s : Shared}
theorem znr (ht : IsTup s.heap t vs.toArray) (hb : IsTup s.heap b ws.toArray) (hv : vs ≠ [])
 (h1 : ws = [] -> Q (.ref t) s) (h2 : ws ≠ [] -> Q (.ref s.heap.objs.size) { s with heap := s.heap.push { cls := .type "tuple", data := .seq (vs ++ ws).toArray } })
 (hsz : vs.length + ws.length <= sizeLine) : wpAny (model prog w) A (binaryOp .Add (.ref t) (.ref b)) Q E s := by
 obtain ⟨⟨cls, dd, data, sl⟩, ho, hc, n, hd⟩ := id ht
 obtain ⟨⟨cls2, dd2, data2, sl2⟩, ho2, hc2, n2, hd2⟩ := id hb
 simp only at hc hd hc2 hd2
 subst hc hd hc2 hd2
 have e : vs.toArray ++ ws.toArray = (vs ++ ws).toArray := by simp
 by_cases hw : ws = []
 · exact concat_meets ⟨_, ho, rfl⟩ ⟨_, ho2, rfl⟩ noFill_tuple_add seq_tuple_add PySem.F.slot_tuple_add PySem.F.entry_tuple_add (PySem.F.args_tuple_add_2 _ _)
    (tuple_addW1 t b vs.toArray ws.toArray n n2 dd dd2 sl sl2 (by simpa using hv) (by simp [hw])) ⟨ho, ho2, h1 hw⟩
 · refine concat_meets ⟨_, ho, rfl⟩ ⟨_, ho2, rfl⟩ noFill_tuple_add seq_tuple_add PySem.F.slot_tuple_add PySem.F.entry_tuple_add (PySem.F.args_tuple_add_2 _ _)
    (tuple_addW2 t b vs.toArray ws.toArray n n2 dd dd2 sl sl2 (by simpa using hv) (by simpa using hw) (by rw [zzE, zzE]; exact hsz)) ⟨ho, ho2, ?_⟩
   rw [e]
   exact h2 hw
def sIx (n d : Nat) : Option Int -> Nat
 | none => d
 | some v => if v < 0 then (v + (n : Int)).toNat else min v.toNat n
theorem zih (n d : Nat) : sIx n d none = d := rfl
theorem zdt (n d k : Nat) : sIx n d (some (k : Int)) = min k n := by
 show (if (k : Int) < 0 then ((k : Int) + (n : Int)).toNat else min (k : Int).toNat n) = min k n
 rw [if_neg (by omega), Int.toNat_natCast]
theorem zqN (n d : Nat) (hd : d <= n) (o : Option Int) : sIx n d o <= n := by
 cases o with
 | none => exact hd
 | some v =>
  show (if v < 0 then (v + (n : Int)).toNat else min v.toNat n) <= n
  by_cases hv : v < 0
  · rw [if_pos hv]; omega
  · rw [if_neg hv]; exact Nat.min_le_right _ _
theorem zki (v : Int) (n d : Nat) : (if v < 0 then max (v + (n : Int)) 0 else min v (n : Int)) = ((sIx n d (some v) : Nat) : Int) := by
 show (if v < 0 then max (v + (n : Int)) 0 else min v (n : Int)) = (((if v < 0 then (v + (n : Int)).toNat else min v.toNat n) : Nat) : Int)
 by_cases hv : v < 0
 · simp only [if_pos hv]; omega
 · simp only [if_neg hv]; omega
theorem ziR (lo hi : Option Int) (n : Nat) : Builtin.Slice.sliceAdjust lo hi 1 (n : Int) = (((sIx n 0 lo : Nat) : Int), ((sIx n n hi : Nat) : Int)) := by
 have h1 : ¬ ((1 : Int) < 0) := by omega
 unfold Builtin.Slice.sliceAdjust
 simp only [h1, if_false]
 refine Prod.ext ?_ ?_
 · cases lo with
   | none => rfl
   | some v => exact zki v n 0
 · cases hi with
   | none => rfl
   | some v => exact zki v n n
theorem ziW (i j : Nat) : Builtin.Slice.slicePlaces (i : Int) (j : Int) 1 = j - i := by
 unfold Builtin.Slice.slicePlaces
 have h1 : (1 : Int) > 0 := by omega
 simp only [h1, if_true, Int.ediv_one]
 split <;> omega
theorem zeq (p : IsPart v o) (h : Q o s) : wpAny (model prog w) A (Builtin.Slice.slicePartIndex v) Q E s := by
 cases p with
 | none => exact slicePart_none h
 | int i t => exact slicePart_int h
theorem zcm {sl : Addr} {vl vu : Value} {lo hi : Option Int} {n : Nat} {Q : Int × Int × Nat -> Shared -> Prop} (hs : s.heap.IsSliceOf sl vl vu .none) (pl : IsPart vl lo) (pu : IsPart vu hi)
 (h : Q (((sIx n 0 lo : Nat) : Int), 1, sIx n n hi - sIx n 0 lo) s) : wpAny (model prog w) A (Builtin.Slice.sliceApplied (.ref sl) (pure (n : Int))) Q E s := by
 obtain ⟨os, hos, hcs, hds⟩ := id hs
 unfold Builtin.Slice.sliceApplied Builtin.Slice.sliceFields
 refine wpAny_bind (wpAny_bind (wpAny_field hos hds (x := vl) rfl (wpAny_bind (wpAny_field hos hds (x := vu) rfl (wpAny_bind (wpAny_field hos hds (x := .none) rfl (wpAny_pure ?_)))))))
 refine wpAny_bind (slicePart_none ?_)
 show wpAny _ _ (if ((1 : Int) == 0) = true then _ else _) _ _ s
 rw [if_neg (by decide)]
 refine wpAny_bind (zeq pl (wpAny_bind (zeq pu (wpAny_bind (wpAny_pure ?_)))))
 show wpAny _ _ (match Builtin.Slice.sliceAdjust lo hi 1 (n : Int) with | (lo, hi) => pure (lo, (1 : Int), Builtin.Slice.slicePlaces lo hi 1)) _ _ s
 rw [ziR lo hi n]
 show wpAny _ _ (pure (((sIx n 0 lo : Nat) : Int), (1 : Int), Builtin.Slice.slicePlaces ((sIx n 0 lo : Nat) : Int) ((sIx n n hi : Nat) : Int) 1)) _ _ s
 rw [ziW]
 exact wpAny_pure h
theorem zlB (xs : Array Value) (i k : Nat) : ((List.range k).filterMap λ (m : Nat) => xs[((i : Int) + (m : Int) * 1).toNat]?).toArray = ((xs.toList.drop i).take k).toArray := by
 have e : (λ (m : Nat) => xs[((i : Int) + (m : Int) * 1).toNat]?) = λ m => xs[i + m]? := by
  funext m
  have : ((i : Int) + (m : Int) * 1).toNat = i + m := by omega
  rw [this]
 rw [e]
 have := pick_run xs i k
 rw [List.filterMap_map] at this
 have e2 : ((λ x => xs[x]?) ∘ λ x => i + x) = λ m => xs[i + m]? := rfl
 rw [e2] at this
 rw [this]
theorem zbq {t sl : Addr} {items : Array Value} {vl vu : Value} {lo hi : Option Int} {Q : Value -> Shared -> Prop} (ht : IsTup s.heap t items) (hs : s.heap.IsSliceOf sl vl vu .none) (pl : IsPart vl lo) (pu : IsPart vu hi)
 (hw : ¬ (sIx items.size 0 lo = 0 /\ sIx items.size items.size hi = items.size))
 (h : Q (.ref s.heap.objs.size) { s with heap := s.heap.push { cls := .type "tuple", data := .seq ((items.toList.drop (sIx items.size 0 lo)).take (sIx items.size items.size hi - sIx items.size 0 lo)).toArray } })
 (hsz : items.size <= sizeLine) : wpAny (model prog w) A (getItem (.ref t) (.ref sl)) Q E s := by
 have htake : sizeOk (.seq ((items.toList.drop (sIx items.size 0 lo)).take (sIx items.size items.size hi - sIx items.size 0 lo)).toArray) := by
  show ((items.toList.drop (sIx items.size 0 lo)).take (sIx items.size items.size hi - sIx items.size 0 lo)).toArray.size <= sizeLine
  rw [zzE, zzP, List.length_drop, Array.length_toList]
  omega
 have hj : sIx items.size items.size hi <= items.size := zqN _ _ (zzK _) hi
 obtain ⟨os, hos, hcs, hds⟩ := id hs
 have hTs : s.TypeIs (.ref sl) "slice" := ⟨os, hos, hcs⟩
 unfold getItem
 try with_reducible refine wpAny_holding ?_
 first | refine wpAny_bind (wpAny_pure ?_) | skip
 refine wpAny_bind (wpAny_sequenceKey ht.typeIs (by decide) ?_)
 refine wpAny_bind (wpAny_callSpecial?_slot (name := Str.ofString "__getitem__") ht.typeIs PyProof.Rows.slot_tuple_getitem
  (wpAny_call_entry PyProof.Rows.slot_tuple_getitem ht.typeIs entry_tuple_getitem ?_ (args_tuple_getitem _ _)))
 show wpAny _ _ (Builtin.Tuple.tupleItemsOf (.ref t) >>= _) _ _ s
 refine wpAny_bind (tupleItemsOf_ ht ?_)
 refine wpAny_bind (wpAny_typeOf hTs ?_)
 rw [if_pos (by decide)]
 refine wpAny_bind (zcm hs pl pu ?_)
 have hno : ¬ ((((sIx items.size 0 lo : Nat) : Int) == 0 && (1 : Int) == 1 && (sIx items.size items.size hi - sIx items.size 0 lo) == items.size) = true) := by
  intro q
  rw [Bool.and_eq_true, Bool.and_eq_true] at q
  have q1 : ((sIx items.size 0 lo : Nat) : Int) = 0 := eq_of_beq q.1.1
  have q2 : sIx items.size items.size hi - sIx items.size 0 lo = items.size := eq_of_beq q.2
  exact hw ⟨by omega, by omega⟩
 show wpAny _ _ (if (((sIx items.size 0 lo : Nat) : Int) == 0 && (1 : Int) == 1 && (sIx items.size items.size hi - sIx items.size 0 lo) == items.size) = true then _ else _) _ _ s
 rw [if_neg hno, zlB]
 first
  | exact wpAny_bind (m := Builtin.Tuple.tupleExact _) (wpAny_newObj_type (wpAny_pure ⟨_, rfl, wpAny_pure h⟩) htake)
  | exact wpAny_bind (m := Builtin.Tuple.tupleExact _) (wpAny_newObj_type (wpAny_bind (wpAny_pure (wpAny_pure ⟨_, rfl, wpAny_pure h⟩))) htake)
  | exact wpAny_bind (wpAny_bind (m := Builtin.Tuple.tupleExact _) (wpAny_newObj_type (wpAny_pure (wpAny_pure ⟨_, rfl, wpAny_pure h⟩)) htake))
  | exact wpAny_bind (wpAny_bind (m := Builtin.Tuple.tupleExact _) (wpAny_newObj_type (wpAny_pure ⟨_, rfl, wpAny_pure h⟩) htake))
end
end HT
namespace L2
open PySem PySem.Spec PyProof.Rows
abbrev TO := St -> Hp -> (Option Int -> Hp -> Prop) -> Prop
def PO (X : Cx) (e : Option Expr) (t : TO) : Prop :=
 ∀ (pins : List (Addr × Obj)) (s : Shared) (σ : St) (H : Hp) (Q : Option Int -> Hp -> Prop), Inv X pins σ H s -> t σ H Q ->
  wpAny (model X.prog X.w) X.A (evalPart e X.env) (λ u s' => ∃ o H', Inv X pins σ H' s' /\ IsPart u o /\ Q o H') X.xe s
def zop : TO := λ _ H Q => Q none H
def zrT (t : TE) : TO := λ σ H Q => t σ H λ x H1 => ∃ i, x = .int i /\ Q (some i) H1
theorem intsAre_of : ∀ {us : List Value}, Vals (ns.map V.int) us -> IntsAre us ns := by
 induction ns with
 | nil => intro us r; rw [List.map_nil] at r; cases r; exact .nil
 | cons n ns ih =>
  intro us r
  rw [List.map_cons] at r
  cases r with
  | cons r1 r2 =>
   obtain ⟨t, e⟩ := r1
   subst e
   exact .cons n t (ih r2)
section
variable {X : Cx} {e : Expr} {te : TE} {lo hi : Option Expr} {tl th : TO} {pos p2 : Pos}
theorem znY : PO X none zop := by
 intro pins s σ H Q I h
 rw [evalPart_none]
 exact wpAny_pure ⟨none, H, I, .none, h⟩
theorem zoo (h : PE X e te) : PO X (some e) (zrT te) := by
 intro pins s σ H Q I hw
 rw [evalPart_some]
 refine thn (h pins s σ H _ I hw) λ u s1 ⟨x, H1, I1, r1, q1⟩ => ?_
 obtain ⟨i, rfl, q⟩ := q1
 obtain ⟨t, rfl⟩ := r1
 exact ⟨some i, H1, I1, .int i t, q⟩
def SlR (X : Cx) (r : V -> Option Int -> Option Int -> Hp -> VK -> Prop) : Prop :=
 ∀ (pins : List (Addr × Obj)) (s : Shared) (σ : St) (H : Hp) (x : V) (v vl vu : Value) (lo hi : Option Int) (sl : Addr) (Q : VK), Inv X pins σ H s -> RelV x v -> s.heap.IsSliceOf sl vl vu .none -> IsPart vl lo -> IsPart vu hi -> r x lo hi H Q ->
  ∃ T id, typeLookup (.type T) "__getitem__" = pure (some (.builtin id)) /\ s.TypeIs v T /\ wpAny (model X.prog X.w) X.A (getItem v (.ref sl)) (EP X pins σ Q) X.xe s
def tSl (r : V -> Option Int -> Option Int -> Hp -> VK -> Prop) (te : TE) (tl th : TO) : TE := λ σ H Q => te σ H λ x H1 => tl σ H1 λ l H2 => th σ H2 λ u H3 => r x l u H3 Q
theorem zhO (hr : SlR X r) (he : PE X e te) (hl : PO X lo tl) (hu : PO X hi th) : PE X (.Subscript e (.Slice lo hi none p2) pos) (tSl r te tl th) := by
 intro pins s σ H Q I h
 refine Subscript_ (thn (he pins s σ H _ I h) λ v s1 ⟨x, H1, I1, r1, q1⟩ => ?_)
 refine wpAny_Slice (thn (hl pins s1 σ H1 _ I1 q1) λ vl s2 ⟨l, H2, I2, pl, q2⟩ => thn (hu pins s2 σ H2 _ I2 q2) λ vu s3 ⟨u, H3, I3, pu, q3⟩ => ?_)
 rw [evalPart_none]
 refine wpAny_pure ?_
 have I4 : Inv X pins σ H3 { s3 with heap := s3.heap.push { cls := .type "slice", data := .fields #[vl, vu, .none] } } := I3.kept (t' := s3.toks) λ b ob q => Heap.get?_push_of_some _ q
 obtain ⟨T, id, hT, ht, hg⟩ := hr pins { s3 with heap := s3.heap.push { cls := .type "slice", data := .fields #[vl, vu, .none] } } σ H3 x v vl vu l u s3.heap.objs.size Q I4 r1 (Heap.IsSliceOf.new ..) pl pu q3
 show wpAny (model X.prog X.w) X.A (subscriptTail e (.Slice lo hi none p2) v (.ref s3.heap.objs.size)) (EP X pins σ Q) X.xe { s3 with heap := s3.heap.push { cls := .type "slice", data := .fields #[vl, vu, .none] } }
 exact tail_any (ops := [.ref s3.heap.objs.size, v]) ht hT hg (by with_unfolding_all rfl)
def ziv (xs : List V) (lo hi : Option Int) : List V := (xs.drop (HT.sIx xs.length 0 lo)).take (HT.sIx xs.length xs.length hi - HT.sIx xs.length 0 lo)
theorem zcT (xs : List V) (lo hi : Option Int) : (ziv xs lo hi).length <= xs.length := by
 unfold ziv
 rw [zzP, List.length_drop]
 omega
def zsg (K : zC) : V -> Option Int -> Option Int -> Hp -> VK -> Prop := λ x lo hi H Q => ∃ a xs, x = .ref a /\ SqT K H a xs /\
 ¬ (HT.sIx xs.length 0 lo = 0 /\ HT.sIx xs.length xs.length hi = xs.length) /\ ∀ p, H p = none -> Q (.ref p) (upd H p (.tup (ziv xs lo hi)))
theorem zqA : SlR X (zsg X.K) := by
 intro pins s σ H x v vl vu lo hi sl Q I rx hs pl pu h
 obtain ⟨a, xs, rfl, hx, hw, q⟩ := h
 cases rx
 obtain ⟨its, r, ht, hz⟩ := I.tuple hx
 have hlen : its.toArray.size = xs.length := by rw [zzE]; exact r.length.symm
 refine ⟨"tuple", _, PyProof.Rows.slot_tuple_getitem.lookup, ht.typeIs, ?_⟩
 refine HT.zbq ht hs pl pu (by rw [hlen]; exact hw) ?_ (by rw [hlen]; exact hz)
 rw [hlen]
 refine ⟨.ref s.heap.objs.size, _, I.laid (t' := s.toks) (o := .tup (ziv xs lo hi)) (λ b ob q => Heap.get?_push_of_some _ q) (zzK _) ?_, rfl, q _ (I.hok.fresh (zzK _))⟩
 exact ⟨zzL (zcT xs lo hi) hz, _, (r.drop (HT.sIx xs.length 0 lo)).take (HT.sIx xs.length xs.length hi - HT.sIx xs.length 0 lo), IsTup.new _ _⟩
def zrc (K : zC) : R2 := λ x y H Q => ∃ a b xs ys, x = .ref a /\ y = .ref b /\ SqT K H a xs /\ SqT K H b ys /\ xs ≠ [] /\ xs.length + ys.length <= sizeLine /\
 (ys = [] -> Q (.ref a) H) /\ (ys ≠ [] -> ∀ p, H p = none -> Q (.ref p) (upd H p (.tup (xs ++ ys))))
theorem Vals.nil_iff (r : Vals xs us) : us = [] ↔ xs = [] := by
 cases r with
 | nil => simp
 | cons _ _ => simp
theorem znS : OpR X (binaryOp .Add) (zrc X.K) := by
 intro pins s σ H x y v u Q I rx ry h
 obtain ⟨a, b, xs, ys, rfl, rfl, ha, hb, hx, hz, q1, q2⟩ := h
 cases rx
 cases ry
 obtain ⟨its, r1, p1, _⟩ := I.tuple ha
 obtain ⟨its2, r2, p2, _⟩ := I.tuple hb
 refine HT.znr p1 p2 (λ z => hx (r1.nil_iff.mp z)) (λ z => ⟨.ref a, H, I, rfl, q1 (r2.nil_iff.mp z)⟩) (λ z => ?_) (by rw [<- r1.length, <- r2.length]; exact hz)
 refine ⟨.ref s.heap.objs.size, _, I.laid (t' := s.toks) (o := .tup (xs ++ ys)) (λ b ob q => Heap.get?_push_of_some _ q) (zzK _) ?_, rfl, q2 (λ w => z (r2.nil_iff.mpr w)) _ (I.hok.fresh (zzK _))⟩
 exact ⟨by rw [zzG]; exact hz, _, r1.append r2, IsTup.new _ _⟩
end
end L2
namespace L2
open PySem PySem.Spec PyProof.Rows
def ixN (n : Nat) (i : Int) : Option Nat := if 0 <= i then (if i < n then some i.toNat else none) else if -(n : Int) <= i then some (i + n).toNat else none
def atI {α : Type} (xs : List α) (i : Int) : Option α := (ixN xs.length i).bind λ j => xs[j]?
theorem zkm (h : ixN n i = some j) : seqIndex? i n = some j /\ j < n /\ -(n : Int) <= i /\ i < n := by
 unfold ixN at h
 by_cases h0 : 0 <= i
 · rw [if_pos h0] at h
   by_cases h1 : i < n
   · rw [if_pos h1] at h
     have e : i.toNat = j := Option.some.inj h
     exact ⟨by rw [seqIndex_of h0 h1, e], by omega, by omega, h1⟩
   · rw [if_neg h1] at h; cases h
 · rw [if_neg h0] at h
   by_cases h1 : -(n : Int) <= i
   · rw [if_pos h1] at h
     have e : (i + n).toNat = j := Option.some.inj h
     exact ⟨by rw [seqIndex_neg (by omega) h1, e], by omega, h1, by omega⟩
   · rw [if_neg h1] at h; cases h
theorem zgP (h : atI xs i = some v) : ∃ j, seqIndex? i xs.length = some j /\ xs[j]? = some v /\ j < xs.length /\ -(xs.length : Int) <= i /\ i < xs.length := by
 unfold atI at h
 cases e : ixN xs.length i with
 | none => rw [e] at h; cases h
 | some j =>
  rw [e] at h
  obtain ⟨h1, h2, h3, h4⟩ := zkm e
  exact ⟨j, h1, h, h2, h3, h4⟩
theorem Y9 {α : Type} {xs : List α} {j : Nat} {v : α} (h : xs[j]? = some v) : atI xs (j : Int) = some v := by
 have hj : j < xs.length := (zzD.mp h).1
 have e : ixN xs.length (j : Int) = some j := by
  unfold ixN
  rw [if_pos (by omega), if_pos (by omega)]; simp
 unfold atI; rw [e]; exact h
def Xe (b : Expr) : Prop := ∀ o i, subscripted b false o i = operate [o, i] (getItem o i)
def IxR (X : Cx) (r : R2) : Prop :=
 ∀ (value slice : Expr) (pins : List (Addr × Obj)) (s : Shared) (σ : St) (H : Hp) (x y : V) (v u : Value) (Q : VK), Inv X pins σ H s -> RelV x v -> RelV y u -> r x y H Q ->
  subscripted slice false v u = operate [v, u] (getItem v u) -> wpAny (model X.prog X.w) X.A (subscriptTail value slice v u) (EP X pins σ Q) X.xe s
def MtR (X : Cx) (id : String) (r : V -> List V -> Hp -> VK -> Prop) : Prop :=
 ∀ (pins : List (Addr × Obj)) (s : Shared) (σ : St) (H : Hp) (x : V) (xs : List V) (v : Value) (us : List Value) (Q : VK), Inv X pins σ H s -> RelV x v -> Vals xs us -> r x xs H Q ->
  wpAny (model X.prog X.w) X.A (call (.builtin id) (v :: us)) (EP X pins σ Q) X.xe s
section
variable {X : Cx} {a b : Expr} {ta tb : TE} {pos : Pos}
theorem zfx (hr : IxR X r) (ha : PE X a ta) (hb : PE X b tb) (hs : Xe b) : PE X (.Subscript a b pos) (tOp r ta tb) := by
 intro pins s σ H Q I h
 exact Subscript_ (zpR ha hb I h λ v u s2 x y H2 I2 rx ry q => hr a b pins s2 σ H2 x y v u Q I2 rx ry q (hs _ _))
def zsS (K : zC) : R2 := λ x y H Q => ∃ p xs i v, x = .ref p /\ y = .int i /\ SqL K H p xs /\ atI xs i = some v /\ Q v H
def zsc (K : zC) : R2 := λ x y H Q => ∃ p xs i v, x = .ref p /\ y = .int i /\ SqT K H p xs /\ atI xs i = some v /\ Q v H
def zsR : R2 := λ x y H Q => ∃ z i c, x = .str z /\ y = .int i /\ z.length <= sizeLine /\ atI z.cps.toList i = some c /\ Q (.str ⟨#[c]⟩) H
theorem zbJ : IxR X (zsS X.K) := by
 intro value slice pins s σ H x y v u Q I rx ry h hs
 obtain ⟨p, xs, i, z, rfl, rfl, hq, he, q⟩ := h
 cases rx
 obtain ⟨t, rfl⟩ := ry
 obtain ⟨its, r, pl, hz⟩ := I.list hq
 obtain ⟨j, h1, h2, h3, h4, h5⟩ := zgP he
 obtain ⟨w, ew, rw'⟩ := r.get h2
 have hl := r.length
 have hn := zas
 have fin : EP X pins σ Q w s := ⟨z, H, I, rw', q⟩
 by_cases h0 : 0 <= i
 · have hj : i.toNat = j := by
    rw [seqIndex_of h0 h5] at h1
    exact Option.some.inj h1
   exact item_listR pl.isList h0 (by omega) (by rw [hj]; simpa using ew) fin hs
 · have hj : (i + (its.toArray.size : Int)).toNat = j := by
    rw [seqIndex_neg (by omega) h4] at h1
    rw [zzE, <- hl]
    exact Option.some.inj h1
   exact subscriptTail_builtinR (x := w) pl.isList.typeIs slot_list_getitem.lookup
    (wpAny_getItem_list_neg (Q := λ r s' => r = w /\ EP X pins σ Q r s') pl.isList (by omega) (by rw [zzE] <;> omega) (by omega) (by rw [hj]; simpa using ew) ⟨rfl, fin⟩) hs
theorem zlw : IxR X (zsc X.K) := by
 intro value slice pins s σ H x y v u Q I rx ry h hs
 obtain ⟨p, xs, i, z, rfl, rfl, hq, he, q⟩ := h
 cases rx
 obtain ⟨t, rfl⟩ := ry
 obtain ⟨its, r, pl, hz⟩ := I.tuple hq
 obtain ⟨j, h1, h2, h3, h4, h5⟩ := zgP he
 obtain ⟨w, ew, rw'⟩ := r.get h2
 have hl := r.length
 have hn := zas
 have fin : EP X pins σ Q w s := ⟨z, H, I, rw', q⟩
 exact subscriptTail_builtinR (x := w) pl.typeIs slot_tuple_getitem.lookup
  (getItem_tuple (j := j) (Q := λ r s' => r = w /\ EP X pins σ Q r s') pl (by omega) (by omega) (by rw [zzE, <- hl]; exact h1) (by simpa using ew) ⟨rfl, fin⟩) hs
theorem zpe : IxR X zsR := by
 intro value slice pins s σ H x y v u Q I rx ry h hs
 obtain ⟨z, i, c, rfl, rfl, hz, he, q⟩ := h
 obtain ⟨t, rfl⟩ := rx
 obtain ⟨t', rfl⟩ := ry
 obtain ⟨j, h1, h2, h3, h4, h5⟩ := zgP he
 have hl : z.cps.toList.length = z.length := by simp [Str.length]
 rw [hl] at h1 h4 h5
 have hn := zas
 exact tail_any (typeIs_str s z t) slot_str_getitem.lookup (getItem_str (c := c) (by
  have e1 : decide (i < -(2 ^ 63 : Int)) = false := decide_eq_false (by omega)
  have e2 : decide (i ≥ 2 ^ 63) = false := decide_eq_false (by omega)
  rw [e1, e2, Bool.or_false]) (by rw [h1]; simpa using h2) ⟨.str ⟨#[c]⟩, H, I.tok _, ⟨_, rfl⟩, q⟩) hs
theorem ziC (its : List Value) (n j : Nat) (u : Value) : Obj.mapSeq (·.setIfInBounds j u) { cls := .type "list", data := .seq its.toArray n } = { cls := .type "list", data := .seq (its.set j u).toArray n } := by
 simp [Obj.mapSeq]
theorem Inv.lst (I : Inv X pins σ H s) (h : H p = some (.lst xs)) :
 ∃ (its : List Value) (n : Nat), Vals xs its /\ s.heap.get? p = some { cls := .type "list", data := .seq its.toArray n } /\ xs.length <= sizeLine := by
 obtain ⟨z, its, n, r, e⟩ := I.hok p _ h
 exact ⟨its, n, r, e, z⟩
theorem Inv.lstUpd {pins : List (Addr × Obj)} {σ : St} {H : Hp} {s : Shared} {p : Addr} {xs ys : List V} {its its' : List Value} {n n' : Nat} {f : Obj -> Obj} (I : Inv X pins σ H s) (h : H p = some (.lst xs))
 (ho : s.heap.get? p = some { cls := .type "list", data := .seq its.toArray n }) (hf : f { cls := .type "list", data := .seq its.toArray n } = { cls := .type "list", data := .seq its'.toArray n' }) (r : Vals ys its') (hz : ys.length <= sizeLine) (t : Nat) :
 Inv X pins σ (upd H p (.lst ys)) { s with heap := s.heap.update p f, toks := t } := by
 have e : (s.heap.update p f).get? p = some { cls := .type "list", data := .seq its'.toArray n' } := by
  rw [Heap.get?_update_self f ho (by rw [hf] <;> rfl), hf]
 refine I.write (x := p) (e := p) (by rw [h]; trivial) (.inl rfl) (λ b u hb q => (Heap.get?_update_other _ _ (Ne.symm hb)).trans q) ⟨_, e⟩ ?_
 exact ⟨hz, its', n', r, e⟩
def zrF : V -> V -> V -> Hp -> (Hp -> Prop) -> Prop := λ o i v H Q => ∃ p xs k j, o = .ref p /\ i = .int k /\ H p = some (.lst xs) /\ ixN xs.length k = some j /\ Q (upd H p (.lst (xs.set j v)))
theorem set_list : zqV X zrF := by
 intro pins s σ H o i v ov iv u Q I ro ri rv h
 obtain ⟨p, xs, k, j, rfl, rfl, hp, hj, q⟩ := h
 cases ro
 obtain ⟨t, rfl⟩ := ri
 obtain ⟨its, n, r, ho, hz⟩ := I.lst hp
 obtain ⟨h1, h2, h3, h4⟩ := zkm hj
 have hl := r.length
 have hn := zas
 have I' : Inv X pins σ (upd H p (.lst (xs.set j v))) { s with heap := s.heap.update p (Obj.mapSeq (·.setIfInBounds j u)) } :=
  I.lstUpd hp ho (ziC its n j u) (r.set rv j) (by rw [zzR]; exact hz) s.toks
 by_cases h0 : 0 <= k
 · have hk : k.toNat = j := by
    rw [seqIndex_of h0 h4] at h1
    exact Option.some.inj h1
   exact PySem.W.ki_setAt ho h0 (by omega) (by rw [zzE, <- hl]; exact h4) (by rw [hk]; exact ⟨_, I', q⟩)
 · have hk : (k + (its.toArray.size : Int)).toNat = j := by
    rw [seqIndex_neg (by omega) h3] at h1
    rw [zzE, <- hl]
    exact Option.some.inj h1
   exact PySem.W.ki_setBack ho (by omega) (by rw [zzE, <- hl]; exact h3) (by omega) (by rw [hk]; exact ⟨_, I', q⟩)
theorem zgF (lo hi : Option Int) (n : Nat) : (sliceBounds lo hi none n).1 = ((HT.sIx n 0 lo : Nat) : Int) /\ (sliceBounds lo hi none n).2.1 = ((HT.sIx n n hi : Nat) : Int) /\ (sliceBounds lo hi none n).2.2 = 1 := by
 refine ⟨?_, ?_, rfl⟩
 · cases lo with
   | none => simp [sliceBounds, HT.sIx]
   | some i =>
    simp only [sliceBounds, HT.sIx, Option.getD_none, show (1 : Int) > 0 by decide, if_true]
    by_cases h : i < 0
    · simp only [h, if_true] <;> omega
    · simp only [h, if_false] <;> omega
 · cases hi with
   | none => simp [sliceBounds, HT.sIx]
   | some i =>
    simp only [sliceBounds, HT.sIx, Option.getD_none, show (1 : Int) > 0 by decide, if_true]
    by_cases h : i < 0
    · simp only [h, if_true] <;> omega
    · simp only [h, if_false] <;> omega
theorem zfg (its : List Value) (lo hi : Option Int) : slicePick its.toArray lo hi none = ((its.drop (HT.sIx its.length 0 lo)).take (HT.sIx its.length its.length hi - HT.sIx its.length 0 lo)).toArray := by
 obtain ⟨h1, h2, h3⟩ := zgF lo hi its.toArray.size
 unfold slicePick
 rw [h1, h2, h3]
 simp only [sliceRange_one, pick_run, zzE] <;> rfl
def zrY (K : zC) : V -> Option Int -> Option Int -> Hp -> VK -> Prop := λ x lo hi H Q => ∃ a xs, x = .ref a /\ SqL K H a xs /\ ∀ p, H p = none -> Q (.ref p) (upd H p (.lst (ziv xs lo hi)))
theorem zoq : SlR X (zrY X.K) := by
 intro pins s σ H x v vl vu lo hi sl Q I rx hs pl pu h
 obtain ⟨a, xs, rfl, hx, q⟩ := h
 cases rx
 obtain ⟨its, r, ht, hz⟩ := I.list hx
 have hlen := r.length
 refine ⟨"list", _, slot_list_getitem.lookup, ht.isList.typeIs, ?_⟩
 refine wpAny_getItem_list_slice ht.isList hs pl pu .none (by simp) ?_ (by rw [zzE] <;> omega)
 rw [zfg, <- hlen]
 refine ⟨.ref s.heap.objs.size, _, I.laid (t' := s.toks) (o := .lst (ziv xs lo hi)) (λ b ob q => Heap.get?_push_of_some _ q) (zzK _) ?_, rfl, q _ (I.hok.fresh (zzK _))⟩
 exact ⟨zzL (zcT xs lo hi) hz, _, 0, (r.drop (HT.sIx xs.length 0 lo)).take (HT.sIx xs.length xs.length hi - HT.sIx xs.length 0 lo), Heap.get?_push_size _ rfl⟩
theorem Wa : zbs X (.builtin "len") (λ xs H Q => ∃ p ys, xs = [.ref p] /\ (SqL X.K H p ys \/ SqT X.K H p ys) /\ Q (.int ys.length) H) := by
 intro pins s σ H xs us Q I r h
 obtain ⟨p, ys, rfl, hq, q⟩ := h
 obtain ⟨u, rfl, rx⟩ := vals1 r
 cases rx
 have hn := zas
 rcases hq with hq | hq
 · obtain ⟨its, r', pl, hz⟩ := I.list hq
   have hlen := r'.length
   exact Calls.call_len_list pl.isList (by simp only [zzE] <;> omega) ⟨.int ys.length, H, I.tok _, ⟨s.toks + 1, by rw [zzE, hlen]⟩, q⟩
 · obtain ⟨its, r', pl, hz⟩ := I.tuple hq
   have hlen := r'.length
   exact len_tuple pl (by simp only [zzE] <;> omega) ⟨.int ys.length, H, I.tok _, ⟨s.toks + 1, by rw [zzE, hlen]⟩, q⟩
theorem zgk : zbs X (.builtin "len") (λ xs H Q => ∃ z, xs = [.str z] /\ z.length <= sizeLine /\ Q (.int z.length) H) := by
 intro pins s σ H xs us Q I r h
 obtain ⟨z, rfl, hz, q⟩ := h
 obtain ⟨u, rfl, t, rfl⟩ := vals1 r
 have hn := zas
 exact len_str (by omega) ⟨.int z.length, H, I.tok _, ⟨_, rfl⟩, q⟩
theorem zaX : zbs X (.type "list") (λ xs H Q => ∃ p ys, xs = [.ref p] /\ (SqL X.K H p ys \/ SqT X.K H p ys) /\ ∀ l, H l = none -> Q (.ref l) (upd H l (.lst ys))) := by
 intro pins s σ H xs us Q I r h
 obtain ⟨p, ys, rfl, hq, q⟩ := h
 obtain ⟨u, rfl, rx⟩ := vals1 r
 cases rx
 have fin : ∀ (its : List Value), Vals ys its -> ys.length <= sizeLine -> ∀ (h' : Heap) (c' : Nat), (∀ b o', s.heap.get? b = some o' -> h'.get? b = some o') ->
  h'.get? s.heap.objs.size = some { cls := .type "list", dict := none, data := .seq its.toArray c', slots := #[] } -> EP X pins σ Q (.ref s.heap.objs.size) { s with heap := h' } := λ its r' hz h' c' kp e =>
  ⟨.ref s.heap.objs.size, _, I.laid (t' := s.toks) kp (zzK _) (show vA X.prog X.w _ h' _ (.lst ys) from ⟨hz, its, c', r', e⟩), rfl, q _ (I.hok.fresh (zzK _))⟩
 rcases hq with hq | hq
 · obtain ⟨its, r', pl, hz⟩ := I.list hq
   have hlen := r'.length
   obtain ⟨o, ho, hc, n, hd⟩ := pl.isList
   exact call_list_seq p (.inl rfl) ho hc hd (λ h' c' kp e => fin its r' hz h' c' kp e) (by simp only [zzE] <;> omega)
 · obtain ⟨its, r', pl, hz⟩ := I.tuple hq
   have hlen := r'.length
   obtain ⟨o, ho, hc, n, hd⟩ := pl
   exact call_list_seq p (.inr rfl) ho hc hd (λ h' c' kp e => fin its r' hz h' c' kp e) (by simp only [zzE] <;> omega)
theorem zak : zbs X (.type "tuple") (λ xs H Q => ∃ p ys, xs = [.ref p] /\ ((SqL X.K H p ys /\ ∀ l, H l = none -> Q (.ref l) (upd H l (.tup ys))) \/ (SqT X.K H p ys /\ Q (.ref p) H))) := by
 intro pins s σ H xs us Q I r h
 obtain ⟨p, ys, rfl, h⟩ := h
 obtain ⟨u, rfl, rx⟩ := vals1 r
 cases rx
 rcases h with ⟨hq, q⟩ | ⟨hq, q⟩
 · obtain ⟨its, r', pl, hz⟩ := I.list hq
   have hlen := r'.length
   refine call_tuple_list pl.isList (λ h' kp => ?_) (by simp only [zzE] <;> omega)
   have I1 : Inv X pins σ H { s with heap := h' } := I.kept (t' := s.toks) kp
   have I2 : Inv X pins σ (upd H h'.objs.size (.tup ys)) { s with heap := h'.push { cls := .type "tuple", data := .seq its.toArray } } :=
    I1.laid (t' := s.toks) (λ b o e => Heap.get?_push_of_some _ e) (zzK _) (show vA X.prog X.w _ _ _ (.tup ys) from ⟨hz, its, r', IsTup.new _ _⟩)
   exact ⟨.ref h'.objs.size, _, I2, rfl, q _ (I1.hok.fresh (zzK _))⟩
 · obtain ⟨its, r', pl, hz⟩ := I.tuple hq
   exact call_tuple_same pl ⟨.ref p, H, I, rfl, q⟩
def tyV (K : zC) (T : String) (x : V) (H : Hp) : Prop := match x with
 | .str _ => T = "str"
 | .int _ => T = "int"
 | .ref p => (T = "list" /\ ∃ xs, SqL K H p xs) \/ (T = "tuple" /\ ∃ o, K.lookup p = some o /\ o.cls = .type "tuple" /\ o.dict = none) \/
  (T = "dict" /\ ((∃ kvs, H p = some (.dK kvs)) \/ ∃ kvs, H p = some (.dT kvs))) \/ (T = "set" /\ ∃ S n, H p = some (.set S n))
 | _ => False
theorem zpc (I : Inv X pins σ H s) (r : RelV x v) (ty : tyV X.K T x H) :
 s.TypeIs v T /\ ∀ a, v = .ref a -> ∃ ob, s.heap.get? a = some ob /\ ob.dict = none := by
 cases x with
 | str z =>
  obtain ⟨t, rfl⟩ := r
  cases (show T = "str" from ty)
  exact ⟨typeIs_str s z t, λ _ e => nomatch e⟩
 | int i =>
  obtain ⟨t, rfl⟩ := r
  cases (show T = "int" from ty)
  exact ⟨typeIs_int s i t, λ _ e => nomatch e⟩
 | ref p =>
  cases r
  rcases ty with ⟨rfl, xs, hq⟩ | ⟨rfl, o, hk, hc, hd⟩ | ⟨rfl, hk⟩ | ⟨rfl, S, n, hk⟩
  · obtain ⟨its, _, pl, _⟩ := I.list hq
    refine ⟨pl.isList.typeIs, λ a e => ?_⟩
    cases e
    obtain ⟨o, n, e, c, hd, _⟩ := pl
    exact ⟨o, e, hd⟩
  · refine ⟨⟨o, I.kIn p o hk, hc⟩, λ a e => ?_⟩
    cases e
    exact ⟨o, I.kIn _ o hk, hd⟩
  · have z : ∃ o, s.heap.get? p = some o /\ o.ExactDict := by
     rcases hk with ⟨kvs, hk⟩ | ⟨kvs, hk⟩
     · obtain ⟨_, _, _, _, o, _, _, e, ex, _⟩ := I.hok p _ hk
       exact ⟨o, e, ex⟩
     · obtain ⟨_, _, _, _, o, _, _, e, ex, _⟩ := I.hok p _ hk
       exact ⟨o, e, ex⟩
    obtain ⟨o, e, ex⟩ := z
    refine ⟨⟨o, e, ex.1⟩, λ a e2 => ?_⟩
    cases e2
    exact ⟨o, e, ex.2.1⟩
  · obtain ⟨o, _, _, _, e, ex, _⟩ := I.hok p _ hk
    refine ⟨⟨o, e, ex.1⟩, λ a e2 => ?_⟩
    cases e2
    exact ⟨o, e, ex.2.1⟩
 | _ => exact False.elim ty
def tBM (K : zC) (T : String) (r : V -> List V -> Hp -> VK -> Prop) (to : TE) (t : TA) : TE := λ σ H Q => to σ H λ x H1 => tyV K T x H1 /\ t σ H1 λ xs H2 => r x xs H2 Q
variable {o e : Expr} {es : List Expr} {to : TE} {t : TA} {name : Str} {apos cpos : Pos} {T id : String} {r : V -> List V -> Hp -> VK -> Prop}
theorem zri (pa : PlainAttrs T) (slot : Slot T name id) (hty : typeOf (.builtin id) = pure (.type "method_descriptor")) (hm : MtR X id r) (ho : PE X o to) (ha : PA X (e :: es) t)
 (hbase : attributeBase o name X.env (eval o X.env) = eval o X.env := by rfl)
 (hfew : ((backTo cpos (starEach (e :: es) X.env)).all (λ x => !x.1) && (backToKw cpos (keywordEach [] X.env)).all (λ x => x.1.isSome)
  && decide ((e :: es).length + ([] : List Keyword).length + (if ([] : List Keyword).isEmpty then 0 else 1) < 30)) = true := by rfl)
 (hline : (apos.endLine == cpos.line) = true := by rfl) (hs : starEach (e :: es) X.env = (false, eval e X.env) :: starEach es X.env := by rfl) (hplain : (backTo cpos (starEach es X.env)).any (·.1) = false := by rfl) :
 PE X (.Call (.Attribute o name apos) (e :: es) [] cpos) (tBM X.K T r to t) := by
 intro pins s σ H Q I h
 refine wpAny_Call_method_late hbase hfew hline rfl (thn (ho pins s σ H _ I h) λ v s1 ⟨x, H1, I1, r1, ty, q1⟩ => ?_)
 obtain ⟨h1, h2⟩ := zpc I1 r1 ty
 refine ⟨T, id, pa, slot, hty, h1, h2, ?_⟩
 have hA := ha cpos pins s1 σ H1 _ I1 q1
 rw [hs] at hA ⊢
 refine Calls.callWith_builtin (by show (false || (backTo cpos (starEach es X.env)).any (·.1)) = false; rw [hplain] <;> rfl) (Calls.evalArgs_plain ?_)
 exact thn hA λ us s2 ⟨vs, H2, I2, r2, q2⟩ => hm pins s2 σ H2 x vs v us Q I2 r1 r2 q2
end
end L2
namespace L2
open PySem PySem.Spec PyProof.Rows
def MtM (X : Cx) (id : String) (r : V -> List V -> Hp -> VK -> Prop) : Prop :=
 ∀ (pins : List (Addr × Obj)) (s : Shared) (σ : St) (H : Hp) (x : V) (xs : List V) (v : Value) (us : List Value) (Q : VK), Inv X pins σ H s -> RelV x v -> Vals xs us -> r x xs H Q ->
  wpAny (model X.prog X.w) X.A (call (.builtin id) (v :: us)) (EP X pins σ Q) X.xe s
theorem Vals.one : ∀ {x : V} {us : List Value}, Vals [x] us -> ∃ u, us = [u] /\ RelV x u
 | _, _, .cons r .nil => ⟨_, rfl, r⟩
theorem Vals.eraseIdx : ∀ {xs : List V} {us : List Value} (i : Nat), Vals xs us -> Vals (xs.eraseIdx i) (us.eraseIdx i)
 | _, _, _, .nil => .nil
 | _, _, 0, .cons _ t => t
 | _, _, i + 1, .cons r t => .cons r (Vals.eraseIdx i t)
theorem Vals.rep (h : Vals xs us) : ∀ k : Nat, Vals (List.replicate k xs).flatten (List.replicate k us).flatten
 | 0 => .nil
 | k + 1 => by
  rw [List.replicate_succ, List.replicate_succ, List.flatten_cons, List.flatten_cons]
  exact Vals.append h (Vals.rep h k)
theorem zfQ : ∀ (l : List α) (i : Nat), (l.eraseIdx i).length <= l.length
 | [], _ => zzK _
 | _ :: _, 0 => Nat.le_succ _
 | _ :: r, i + 1 => Nat.succ_le_succ (zfQ r i)
theorem foldl_rep (its : List Value) : ∀ (k : Nat) (acc : List Value),
 List.foldl (λ x1 x2 => x1 ++ x2) acc.toArray (List.replicate k its.toArray) = (acc ++ (List.replicate k its).flatten).toArray
 | 0, acc => by simp
 | k + 1, acc => by
  have e : acc.toArray ++ its.toArray = (acc ++ its).toArray := by simp
  have e2 : (acc ++ its) ++ (List.replicate k its).flatten = acc ++ (List.replicate (k + 1) its).flatten := by
   rw [List.replicate_succ, List.flatten_cons, List.append_assoc]
  rw [<- e2, <- foldl_rep its k (acc ++ its), <- e, List.replicate_succ, List.foldl_cons]
section
variable {X : Cx} {pins : List (Addr × Obj)} {σ : St} {H : Hp} {s : Shared} {l b : Addr} {xs ys zs : List V}
theorem Inv.lset {its its' : List Value} {n : Nat} {f : Array Value -> Array Value} {t' : Nat} (I : Inv X pins σ H s) (hH : H l = some (.lst xs))
 (e : s.heap.get? l = some { cls := .type "list", data := .seq its.toArray n }) (hf : f its.toArray = its'.toArray) (hv : Vals ys its') (hz : ys.length <= sizeLine) :
 Inv X pins σ (upd H l (.lst ys)) { s with heap := s.heap.update l (Obj.mapSeq f), toks := t' } := by
 have q := PySem.IsL.update e f
 rw [hf] at q
 refine I.write (x := l) (e := l) (by rw [hH]; exact trivial) (.inl rfl) (λ b' u hb hu => (Heap.get?_update_other s.heap (Obj.mapSeq f) (Ne.symm hb)).trans hu) ⟨_, q⟩ ?_
 exact ⟨hz, its', _, hv, q⟩
theorem Inv.lnew (I : Inv X pins σ H s) (hv : Vals ys its) (hz : ys.length <= sizeLine) :
 Inv X pins σ (upd H s.heap.objs.size (.lst ys)) { s with heap := s.heap.push { cls := .type "list", data := .seq its.toArray }, toks := t' } :=
 I.laid (λ _ _ q => Heap.get?_push_of_some _ q) (zzK _) ⟨hz, its, 0, hv, Heap.get?_push_size _ rfl⟩
theorem Inv.fresh (I : Inv X pins σ H s) : H s.heap.objs.size = none := I.hok.fresh (zzK _)
theorem Inv.lstM (I : Inv X pins σ H s) (hH : H l = some (.lst xs)) : xs.length <= sizeLine /\ ∃ (its : List Value) (n : Nat), Vals xs its /\ xs.length = its.length /\ s.heap.get? l = some { cls := .type "list", data := .seq its.toArray n } := by
 obtain ⟨z, its, n, r, e⟩ := I.hok l _ hH
 exact ⟨z, its, n, r, r.length, e⟩
theorem zhi (h : n <= sizeLine) : Builtin.List.listTooLong n = false := by
 unfold Builtin.List.listTooLong
 exact decide_eq_false (by omega)
end
section
variable {X : Cx}
def zjJ : V -> List V -> Hp -> VK -> Prop := λ x vs H Q => ∃ l xs y, x = .ref l /\ vs = [y] /\ H l = some (.lst xs) /\ xs.length < sizeLine /\ Q .non (upd H l (.lst (xs ++ [y])))
theorem wB : MtM X "list.append" zjJ := by
 intro pins s σ H x vs v us Q I rx rv h
 obtain ⟨l, xs, y, rfl, rfl, hH, hz, q⟩ := h
 cases rx
 obtain ⟨u, rfl, ru⟩ := rv.one
 obtain ⟨z, its, n, r, hl, e⟩ := I.lstM hH
 refine call_meets F.slot_list_append ⟨_, e, rfl⟩ F.entry_list_append (F.args_list_append_2 _ _) (PySem.list_append l its.toArray n u (by rw [zzE]; omega)) ⟨e, ?_⟩
 refine ⟨.non, _, I.lset (its' := its ++ [u]) hH e (by simp) (r.append (.cons ru .nil)) ?_, rfl, q⟩
 rw [zzG, List.length_singleton]
 omega
def zkj : V -> List V -> Hp -> VK -> Prop := λ x vs H Q => ∃ l b xs zs, x = .ref l /\ vs = [.ref b] /\ H l = some (.lst xs) /\ H b = some (.lst zs) /\ xs.length + zs.length <= sizeLine /\ Q .non (upd H l (.lst (xs ++ zs)))
theorem zlg : MtM X "list.extend" zkj := by
 intro pins s σ H x vs v us Q I rx rv h
 obtain ⟨l, b, xs, zs, rfl, rfl, hH, hB, hz, q⟩ := h
 cases rx
 obtain ⟨u, rfl, ru⟩ := rv.one
 cases ru
 obtain ⟨z, its, n, r, hl, e⟩ := I.lstM hH
 obtain ⟨z2, its2, n2, r2, hl2, e2⟩ := I.lstM hB
 have hsz : its.toArray.size + its2.toArray.size <= sizeLine := by rw [zzE, zzE]; omega
 have hlong : ¬ (!its.toArray.isEmpty && Builtin.List.listTooLong (its.toArray.size + its2.toArray.size)) = true := by
  rw [zhi hsz, Bool.and_false]
  exact Bool.false_ne_true
 refine call_meets F.slot_list_extend ⟨_, e, rfl⟩ F.entry_list_extend (F.args_list_extend_2 _ _)
  (AutoSeq1.list_extend_list_list_0 l its.toArray n b its2.toArray n2 hlong (by rw [zzE]; omega) (by omega)) ⟨e, e2, ?_⟩
 refine ⟨.non, _, I.lset (its' := its ++ its2) hH e (by simp) (r.append r2) ?_, rfl, q⟩
 rw [zzG]
 omega
def zln : V -> List V -> Hp -> VK -> Prop := λ x vs H Q => ∃ l xs i k y, x = .ref l /\ vs = [.int i] /\ H l = some (.lst xs) /\ -(2 ^ 63) <= i /\ i < 2 ^ 63 /\ seqIndex? i xs.length = some k /\ xs[k]? = some y /\ Q y (upd H l (.lst (xs.eraseIdx k)))
theorem zmr : MtM X "list.pop" zln := by
 intro pins s σ H x vs v us Q I rx rv h
 obtain ⟨l, xs, i, k, y, rfl, rfl, hH, h1, h2, hk, hy, q⟩ := h
 cases rx
 obtain ⟨u, rfl, ru⟩ := rv.one
 obtain ⟨t, rfl⟩ := ru
 obtain ⟨z, its, n, r, hl, e⟩ := I.lstM hH
 obtain ⟨w, hw, rw'⟩ := r.get hy
 refine call_meets F.slot_list_pop ⟨_, e, rfl⟩ F.entry_list_pop (F.args_list_pop_2 _ _)
  (MeetsSeq.list_pop_at l its.toArray n i t k w (fitsIndex_both h1 h2) (by rw [zzE, <- hl]; exact hk) (by rw [<- Array.getElem?_toList]; exact hw) (by rw [zzE]; omega)) ⟨e, ?_⟩
 refine ⟨y, _, I.lset (its' := its.eraseIdx k) hH e ?_ (r.eraseIdx k) ?_, rw', q⟩
 · show its.toArray.eraseIdxIfInBounds k = (its.eraseIdx k).toArray
   rw [List.eraseIdxIfInBounds_toArray]
 · have := zfQ xs k
   omega
theorem len_rep (xs : List α) (k : Nat) : (List.replicate k xs).flatten.length = k * xs.length := by
 induction k with
 | zero => simp
 | succ k ih => rw [List.replicate_succ, List.flatten_cons, zzG, ih, Nat.succ_mul, Nat.add_comm]
end
end L2
namespace Att
open PySem PySem.W PySem.Calls PyProof.Rows
theorem zdl : ∀ (ns : List Int) (vs : List Value), WellAll P h vs (ns.map WData.int) -> IntsAre vs ns := by
 intro ns
 induction ns with
 | nil =>
  intro vs w
  rw [List.map_nil] at w
  cases w
  exact .nil
 | cons n ns ih =>
  intro vs w
  rw [List.map_cons] at w
  cases w with
  | cons a b =>
   cases a
   exact .cons _ _ (ih _ b)
theorem zkI {l : OpenLaw} {n : Nat} (hn : l.most = some n) {P : Params} {h : Heap} {args : List WData} {vals : List Value}
 (hpre : l.row.toRowW.claim.pre args = true) (hwl : WellAll P h vals args) :
 ∃ a vs ns, vals = [Value.ref a] /\ args = [WData.list (ns.map WData.int)] /\ h.get? a = some { cls := .type "list", data := .seq vs.toArray } /\ IntsAre vs ns /\ ns.length <= n := by
 have hsh : WShape.hasAll [] args [.list .int] = true := (pre_splitW hpre).1
 have hc : l.pre.holds [] { args := args } = true := (pre_splitW hpre).2
 obtain ⟨d, r, rfl, h1, h2⟩ := hasAllW_cons hsh
 obtain rfl := hasAllW_nil h2
 obtain ⟨xs, rfl, h3⟩ := hasW_list h1
 obtain ⟨ns, rfl⟩ := items_int h3
 have hlen : ns.length <= n := by
  unfold OpenLaw.pre at hc
  have h4 : (WTm.not (.lt (.lit (.int (n : Int))) (.len (.arg 0)))).holds [] { args := [.list (ns.map .int)] } = true := by
   have h4 := (holds_andW hc).1
   rw [hn] at h4
   exact h4
  have h5 := condW_of h4 (w_not (w_lt w_lit (w_len_list (w_arg rfl))))
  rw [zD] at h5
  refine Nat.le_of_not_lt λ q => ?_
  have q' : (n : Int) < ((ns.length : Nat) : Int) := by omega
  first
   | (rw [decide_eq_true q'] at h5; exact absurd h5 (by decide))
   | (simp at h5; omega)
 cases hwl with
 | cons w1 w2 =>
  cases w2
  cases w1 with
  | list ho hall => exact ⟨_, _, ns, rfl, rfl, ho, zdl ns _ hall, hlen⟩
theorem zkz (l : OpenLaw) (args : List WData) : l.row.toRowW.claim.post args (.bool true) args = true :=
 postW_of (r := l.row.toRowW) (X := (true == true))
  (show WShape.has [] (.bool true) .bool = true by first | rfl | decide | simp [WShape.has, WShape.arms, WShape.armsAll])
  (show (WTm.eq .res (.lit (.bool true))).value [] { args := args, res := some (.bool true), after := args } = some (.bool (true == true)) from w_eq_bool (w_res rfl) w_lit) rfl
theorem zho {l : OpenLaw} {n : Nat} {q : Program} {loose : List Str} {XP : (Str -> Option Value) -> Heap -> Prop} {YP : World -> Heap -> Prop} {d : DefRec}
 (hn : l.most = some n) (hdf : d.params.defaults = [])
 (call : ∀ (w : World) (s₀ s₁ : Shared) (mg mb : Str -> Option Value) (fa : Addr) (o : Obj) (pm cd doc : Value) (a : Addr) (vs : List Value) (ns : List Int),
  Ground q loose [] XP w s₀ mg mb s₁.heap -> YP w s₁.heap ->
  s₁.heap.get? fa = some o -> o.data = .func (docDef d.name d.params d.body d.scope pm cd doc) -> s₁.heap.CodeRec cd d.name -> mg d.name = some (.ref fa) ->
  s₁.heap.get? a = some { cls := .type "list", data := .seq vs.toArray } -> IntsAre vs ns -> ns.length <= n -> s₁.gens = #[] ->
  codeAny (model l.prog w) callerA (.call (.ref fa) ⟨[.ref a], []⟩) (λ r s' => r = .ok (.ret (.bool true)) /\ OldK s₁.heap s'.heap /\ s'.os = s₁.os /\ AllBare s'.gens) s₁) :
 WalkO q loose XP YP l.row.toRowW d [] (λ f vs => PySem.call f vs) := by
 intro w s₀ s₁ mg mb G Y fa o pm cd doc dV kV ho hd hcd hD hmg hg args vals as hpre hlay hrd hwl hlo
 obtain rfl : dV = .none := Dflts.none hD hdf
 obtain rfl : kV = .none := Dflts.noKw hD
 obtain ⟨a, vs, ns, rfl, rfl, hobj, hints, hlen⟩ := zkI hn hpre hwl
 refine enter_call (codeAny_mono (call w s₀ s₁ mg mb fa o pm cd doc a vs ns G Y ho (fd_plain hd) hcd hmg hobj hints hlen hg) λ r s' hq => ?_)
 obtain ⟨rfl, h2, h3, h4⟩ := hq
 exact ⟨.inl ⟨.bool true, .bool true, [], rfl, λ _ => rfl, .bool true, zkz l _, λ _ => ⟨List.Pairwise.nil, λ _ hm => (nomatch hm)⟩⟩, h2, h3, h4⟩
end Att
namespace L2
open PySem PySem.Spec PyProof.Rows
theorem Xp : ∀ {vs : List Value} {ns : List Int}, IntsAre vs ns -> Vals (ns.map V.int) vs
 | _, _, .nil => .nil
 | _, _, .cons n t h => .cons ⟨t, rfl⟩ (Xp h)
def Only (H : Hp) : Prop := ∀ b, H b = none \/ ∃ o xs, H b = some (.frz o (.lst xs))
theorem zmu {P : Program} {w : World} {K : zC} {mg mb : Str -> Option Value} {CX : CXT} {k : Nat} {fa a : Addr} {fd : FuncData} {x : Str} {sp : Sp} {s₁ : Shared} {vs : List Value} {ns : List Int}
 (KX : K.In s₁.heap) (hns : s₁.heap.Ns mainGlobals mg) (hb : s₁.heap.Ns builtinsNs mb) (hbb : ∀ x : Str, x ≠ "__name__" -> mb x = bootBuiltins x) (hlim : s₁.heap.NoLimit) (hg : s₁.gens = #[])
 (ha : s₁.heap.get? a = some { cls := .type "list", data := .seq vs.toArray }) (hi : IntsAre vs ns) (hl : ns.length <= sizeLine) (hr : Room k callerA)
 (F : ∀ base : Heap, K.In base -> base.Ns mainGlobals mg -> FnOk P w K mg base CX k fa fd [x] sp) (hbind : ∀ (s : Shared) (u : Value), BindsTo s fd ⟨[u], []⟩ [(x, u)])
 (hsp : ∀ H : Hp, Only H -> RdL K H a (ns.map V.int) -> sp [.ref a] H (λ v _ => v = .bl true) λ _ _ _ => False)
 (hCX : ∀ H e s', CX [] H s₁ (λ _ _ _ => False) e s' -> False) :
 codeAny (model P w) callerA (.call (.ref fa) ⟨[.ref a], []⟩) (λ r s' => r = .ok (.ret (.bool true)) /\ OldK s₁.heap s'.heap /\ s'.os = s₁.os /\ AllBare s'.gens) s₁ := by
 have rv := Xp hi
 have lenV := hi.length
 have core : ∀ H : Hp, Only H -> RdL K H a (ns.map V.int) -> HOk P w H s₁.heap -> (∀ b, H b ≠ none -> b = a) -> (H a ≠ none -> K.lookup a = none) ->
  codeAny (model P w) callerA (.call (.ref fa) ⟨[.ref a], []⟩) (λ r s' => r = .ok (.ret (.bool true)) /\ OldK s₁.heap s'.heap /\ s'.os = s₁.os /\ AllBare s'.gens) s₁ := by
  intro H hO hS hok hA hK
  have base_of : ∀ {b : Addr} {o : Obj}, s₁.heap.get? b = some o -> H b = none -> (zhb s₁.heap H).get? b = some o := λ e n => zml e n
  have noA : ∀ {b : Addr} {o : Obj} {es : Array DictEntry} {ep : Nat}, s₁.heap.get? b = some o -> o.data = .dict es ep -> H b = none := λ {b o es ep} e d => by
   cases q : H b with
   | none => rfl
   | some u =>
    have e' : b = a := hA b (by rw [q]; simp)
    subst e'
    rw [ha] at e; cases e
    have d' : Data.seq vs.toArray _ = Data.dict es ep := d
    cases d'
  have nsK : ∀ {b : Addr} {m : Str -> Option Value}, s₁.heap.Ns b m -> (zhb s₁.heap H).Ns b m := λ {b m} ⟨o, es, ep, e, d, r⟩ => ⟨o, es, ep, base_of e (noA e d), d, r⟩
  have hKb : K.In (zhb s₁.heap H) := λ b o e => base_of (KX b o e) (by
   cases q : H b with
   | none => rfl
   | some u =>
    have e' : b = a := hA b (by rw [q]; simp)
    subst e'
    rw [hK (by rw [q]; simp)] at e; cases e)
  have hM : Mod K mg (zhb s₁.heap H) := ⟨hKb, nsK hns, ⟨mb, nsK hb, hbb⟩, let ⟨mc, h1, h2⟩ := hlim; ⟨mc, nsK h1, h2⟩⟩
  have e0 : Env0 P w K mg (zhb s₁.heap H) callerA [] s₁ H := ⟨rfl, hM, λ b o e => znG e, Nat.le_of_eq (zkH _ _), trivial, λ b hb => absurd (show b ∈ ([] : List Addr) from hb) (by simp), hok, .of_eq hg⟩
  refine codeAny_mono ((F _ hKb (nsK hns)).run callerA [] s₁ H ⟨[.ref a], []⟩ [.ref a] [.ref a] _ _ hr e0 (hbind s₁ (.ref a)) (.cons rfl .nil) (hsp H hO hS)) λ r s' h => ?_
  cases r with
  | error e => exact (hCX H e s' h).elim
  | ok fl =>
   cases fl with
   | next => exact False.elim h
   | brk => exact False.elim h
   | cont => exact False.elim h
   | ret u =>
    obtain ⟨v, H', os, bare, un, hok', r', q⟩ := h
    have q' : v = .bl true := q
    subst q'
    obtain rfl : u = Value.bool true := r'
    refine ⟨rfl, OldK.of_keep λ b o e => ?_, os, bare⟩
    cases q : H b with
    | none => exact un.keep b o e q (by intro z; exact absurd (show b ∈ ([] : List Addr) from z) (by simp)) (by simp)
    | some u =>
     rcases hO b with z | ⟨ob, xs, z⟩
     · rw [q] at z; cases z
     · have z2 := un.frzs b ob _ z
       obtain ⟨e1, _⟩ := hok b _ z
       obtain ⟨e2, _⟩ := hok' b _ z2
       rw [e] at e1; cases e1
       exact e2
 cases hk : K.lookup a with
 | some o =>
  have e := KX a o hk
  rw [ha] at e
  cases e
  refine core (λ _ => none) (λ _ => .inl rfl) (.inr ⟨vs.toArray, _, hk, by rw [zzE, lenV]; exact hl, by simpa using rv⟩) (λ b u z => by have z' : (none : Option HO) = some u := z; cases z') (λ b z => absurd rfl z) λ z => absurd rfl z
 | none =>
  refine core (λ b => if b = a then some (.frz { cls := .type "list", data := .seq vs.toArray } (.lst (ns.map V.int))) else none) (λ b => ?_) (.inl (.inr ⟨{ cls := .type "list", data := .seq vs.toArray }, if_pos rfl⟩)) (λ b u z => ?_) (λ b z => ?_) λ _ => hk
  · by_cases hb : b = a
    · exact .inr ⟨_, _, if_pos hb⟩
    · exact .inl (if_neg hb)
  · by_cases hb : b = a
    · have z' := (if_pos hb).symm.trans z
      cases z'
      subst hb
      exact ⟨ha, by rw [zD]; exact hl, vs, _, rv, ha⟩
    · have z' := (if_neg hb).symm.trans z
      cases z'
  · by_cases hb : b = a
    · exact hb
    · exact absurd (if_neg hb) z
end L2
namespace L2
open PySem PySem.Spec PyProof.Rows
theorem walk_of {l : PySem.W.OpenLaw} {n k : Nat} {q : Program} {loose : List Str} {XP : (Str -> Option Value) -> Heap -> Prop} {YP : World -> Heap -> Prop} {d : DefRec} {K : Params -> zC} {CX : World -> CXT} {sp : World -> Sp} {x : Str}
 (hn : l.most = some n) (hn2 : n <= sizeLine) (hdf : d.params.defaults = []) (hr : Room k callerA)
 (hY : ∀ (w : World) (h : Heap), YP w h -> (K w.params).In h)
 (F : ∀ (w : World) (mg : Str -> Option Value) (fa : Addr) (h : Heap), (K w.params).In h -> h.Ns mainGlobals mg -> mg d.name = some (.ref fa) ->
  ∃ fd : FuncData, (∀ (s : Shared) (u : Value), BindsTo s fd ⟨[u], []⟩ [(x, u)]) /\
   ∀ base : Heap, (K w.params).In base -> base.Ns mainGlobals mg -> FnOk l.prog w (K w.params) mg base (CX w) k fa fd [x] (sp w))
 (hsp : ∀ (w : World) (H : Hp) (a : Addr) (ns : List Int), ns.length <= n -> Only H -> RdL (K w.params) H a (ns.map V.int) -> sp w [.ref a] H (λ v _ => v = .bl true) λ _ _ _ => False)
 (hCX : ∀ (w : World) (H : Hp) (s : Shared) (e : Value) (s' : Shared), CX w [] H s (λ _ _ _ => False) e s' -> False) :
 PySem.W.WalkO q loose XP YP l.row.toRowW d [] (λ f vs => PySem.call f vs) := by
 refine Att.zho hn hdf λ w s₀ s₁ mg mb fa o pm cd doc a vs ns G Y ho hd hcd hmg hobj hints hlen hg => ?_
 have KX := hY w _ Y
 obtain ⟨fd, hb, hF⟩ := F w mg fa _ KX G.T.g hmg
 exact zmu KX G.T.g G.T.b G.T.builtins G.T.nolimit hg hobj hints (zzL hlen hn2) hr hF hb (λ H hO hS => hsp w H a ns hlen hO hS) λ H e s' => hCX w H s₁ e s'
end L2
namespace L2
open PySem PySem.Spec PyProof.Rows
def zgI (s : Stmt) : Arguments := match s with
 | .FunctionDef _ a _ _ _ _ _ _ _ _ => a
 | _ => { posonlyargs := [], args := [], vararg := none, kwonlyargs := [], kw_defaults := [], kwarg := none, defaults := [] }
def zbM (s : Stmt) : List Stmt := match s with
 | .FunctionDef _ _ b _ _ _ _ _ _ _ => b
 | _ => []
def zy (s : Stmt) : Scope := match s with
 | .FunctionDef _ _ _ _ _ _ sc _ _ _ => sc
 | _ => { kind := .function, names := [], isGenerator := false, isCoroutine := false }
abbrev CX0 : CXT := λ _ _ _ _ _ _ => False
abbrev E0 : XK := λ _ _ _ => False
theorem yQ : zgV CX0 X E0 := λ _ _ _ _ _ _ _ h => h.elim
structure Fun (K : zC) (x qual : Str) (st : Stmt) (f : Addr) (fd : FuncData) : Prop where
 ex : ∃ (oc : Value) (od : Option Addr) (kV doc pm : Value) (an : Option Addr) (cdv ct : Value) (osl : Array (Option Value)),
  fd = PySem.W.fnOf x qual (zgI st) (zbM st) (zy st) .none kV doc pm an cdv ct /\ K.lookup f = some ⟨oc, od, .func fd, osl⟩ /\ PySem.W.codeIn K cdv qual = true
 kp : PySem.W.keepIn K (.ref f) = true
section
variable {P : Program} {w : World} {K : zC} {mg : Str -> Option Value} {base : Heap}
theorem Fun.ok {x qual : Str} {st : Stmt} {f : Addr} {fd : FuncData} {N ps : List Str} {k : Nat} {sp : Sp} (F : Fun K x qual st f fd) (S : FnScope N ps (zy st)) (len : ∀ vs H Q E, sp vs H Q E -> vs.length = ps.length)
 (hbody : ∀ (cdv : Value) (A : Around) (outer : List Env) (s : Shared) (H : Hp) (vs : List V) (Q : VK) (E : XK), Room k (A.deeper (envOfC qual (zy st) s.heap.objs.size f cdv)) -> sp vs H Q E ->
  ∃ t, PSs (zjd CX0 P w K mg base N qual (zy st) f cdv A outer s H E).nox (zbM st) t /\ t { nx := λ _ H' => Q .non H', rt := Q } (start N vs) H) : FnOk P w K mg base CX0 (k + 1) f fd ps sp := by
 obtain ⟨oc, od, kV, doc, pm, an, cdv, ct, osl, rfl, lk, hcd⟩ := F.ex
 refine zqW lk hcd S len λ A outer s H vs Q E hr hsp => ?_
 obtain ⟨t, h, q⟩ := hbody cdv A outer s H vs Q E hr hsp
 exact ⟨t, h.nox, q⟩
theorem Fun.binds {x qual : Str} {st : Stmt} {f : Addr} {fd : FuncData} {ps : List Str} (F : Fun K x qual st f fd)
 (h : ∀ (kV doc pm : Value) (an : Option Addr) (cdv ct : Value) (us : List Value), us.length = ps.length -> bindArgs (PySem.W.fnOf x qual (zgI st) (zbM st) (zy st) .none kV doc pm an cdv ct) ⟨us, []⟩ = pure (ps.zip us)) : Binds K fd ps [] := by
 obtain ⟨oc, od, kV, doc, pm, an, cdv, ct, osl, rfl, lk, hcd⟩ := F.ex
 exact .all (h kV doc pm an cdv ct)
end
theorem zjR (hr : Room k A) : A.units + 1 < cLine := Nat.lt_of_le_of_lt (Nat.add_le_add_left (by decide : 1 <= 64) _) hr.units
theorem ZR (h : n <= 1000) : n < sizeLine := Nat.lt_of_le_of_lt h (by decide)
section
variable {X : Cx}
theorem pv (i : Nat) (hN : X.N[i]? = some x := by rfl) (hv : Vis X.env.scope x := by first | exact Or.inl rfl | exact Or.inr (Or.inl rfl) | exact Or.inr (Or.inr rfl)) (hd : (x == ("__debug__" : Str)) = false := by decide)
 (hcd : (x == ("__classdict__" : Str)) = false := by decide) : PE X (.Name x pos) (zcB i) := zmB hN hv hd hcd
end
end L2
end
section
namespace PF
open PySem PySem.Spec PyProof.Rows L2
abbrev St := L2.St
structure KD where
 d : Addr -> List (Key × V) -> Prop
 c : Str -> Addr
instance : CoeFun KD (λ _ => Addr -> List (Key × V) -> Prop) := ⟨KD.d⟩
inductive D where
 | non | bl (b : Bool) | int (i : Int) | str (x : Str) | tup (ds : List D) | lst (ds : List D) | dct (kvs : List (Key × D)) | cl (c : Str) | ob (c : Str) (ns : List Str) (ds : List D) | dt (ks : List (List Key)) (ds : List D)
mutual
inductive Rp (K : zC) (kd : KD) (O : Addr -> Prop) (H : Hp) : V -> D -> Prop
 | non : Rp K kd O H .non .non
 | bl (b : Bool) : Rp K kd O H (.bl b) (.bl b)
 | int (i : Int) : Rp K kd O H (.int i) (.int i)
 | str (x : Str) : Rp K kd O H (.str x) (.str x)
 | tup {a : Addr} {vs : List V} {ds : List D} : ¬ O a -> H a = some (.tup vs) -> RpL K kd O H vs ds -> Rp K kd O H (.ref a) (.tup ds)
 | lst {a : Addr} {vs : List V} {ds : List D} : ¬ O a -> Rd H a (.lst vs) -> RpL K kd O H vs ds -> Rp K kd O H (.ref a) (.lst ds)
 | lstK {a : Addr} {its : Array Value} {n : Nat} {vs : List V} {ds : List D} : K.lookup a = some { cls := .type "list", data := .seq its n } -> its.size <= sizeLine -> Vals vs its.toList -> RpL K kd O H vs ds -> Rp K kd O H (.ref a) (.lst ds)
 | dct {a : Addr} {kvs : List (Key × V)} {ds : List (Key × D)} : ¬ O a -> Rd H a (.dK kvs) -> RpM K kd O H kvs ds -> Rp K kd O H (.ref a) (.dct ds)
 | dctK {a : Addr} {kvs : List (Key × V)} {ds : List (Key × D)} : kd a kvs -> RpM K kd O H kvs ds -> Rp K kd O H (.ref a) (.dct ds)
 | cl (c : Str) : Rp K kd O H (.ref (kd.c c)) (.cl c)
 | ob {a dx : Addr} {c : Str} {ns : List Str} {vs : List V} {ds : List D} : ¬ O a -> H a = some (.ins (kd.c c) dx (ns.zip vs)) -> ns.length = vs.length -> RpL K kd O H vs ds -> Rp K kd O H (.ref a) (.ob c ns ds)
 | dt {a : Addr} {ks : List (List Key)} {vs : List V} {ds : List D} : ¬ O a -> H a = some (.dT (ks.zip vs)) -> ks.length = vs.length -> RpL K kd O H vs ds -> Rp K kd O H (.ref a) (.dt ks ds)
inductive RpL (K : zC) (kd : KD) (O : Addr -> Prop) (H : Hp) : List V -> List D -> Prop
 | nil : RpL K kd O H [] []
 | cons {v : V} {d : D} {vs : List V} {ds : List D} : Rp K kd O H v d -> RpL K kd O H vs ds -> RpL K kd O H (v :: vs) (d :: ds)
inductive RpM (K : zC) (kd : KD) (O : Addr -> Prop) (H : Hp) : List (Key × V) -> List (Key × D) -> Prop
 | nil : RpM K kd O H [] []
 | cons {k : Key} {v : V} {d : D} {vs : List (Key × V)} {ds : List (Key × D)} : Rp K kd O H v d -> RpM K kd O H vs ds -> RpM K kd O H ((k, v) :: vs) ((k, d) :: ds)
end
structure Grow (W : Addr -> Prop) (H : Hp) (W' : Addr -> Prop) (H' : Hp) : Prop where
 keep : ∀ b o, H b = some o -> ¬ W b -> H' b = some o
 own : ∀ b, W' b -> W b \/ H b = none
theorem Grow.refl {W : Addr -> Prop} {H : Hp} : Grow W H W H := ⟨λ _ _ h _ => h, λ _ h => .inl h⟩
theorem Grow.trans {W W1 W2 : Addr -> Prop} {H H1 H2 : Hp} (a : Grow W H W1 H1) (b : Grow W1 H1 W2 H2) : Grow W H W2 H2 where
 keep := λ x o h n => b.keep x o (a.keep x o h n) λ q => (a.own x q).elim n λ z => by rw [z] at h; cases h
 own := λ x q => by
  rcases b.own x q with h | h
  · exact a.own x h
  · cases e : H x with
    | none => exact .inr rfl
    | some o =>
     refine .inl (Classical.byContradiction λ n => ?_)
     rw [a.keep x o e n] at h
     cases h
theorem Grow.less {W W' : Addr -> Prop} {H : Hp} (h : ∀ a, W' a -> W a) : Grow W H W' H := ⟨λ _ _ q _ => q, λ b q => .inl (h b q)⟩
theorem Grow.wr {W : Addr -> Prop} {H : Hp} {p : Addr} {o : HO} (h : W p) : Grow W H W (upd H p o) :=
 ⟨λ b u q n => by rw [ye (λ e => n (by rw [e]; exact h))]; exact q, λ _ q => .inl q⟩
abbrev Un2 (F W : Addr -> Prop) : Addr -> Prop := λ a => F a \/ W a
section
variable {K : zC} {kd : KD} {F W W' : Addr -> Prop} {H H' : Hp}
theorem zbn {a : Addr} {u : HO} (g : Grow W H W' H') (n : ¬ W a) (h : Rd H a u) : Rd H' a u := by
 rcases h with h | ⟨o, h⟩
 · exact .inl (g.keep _ _ h n)
 · exact .inr ⟨o, g.keep _ _ h n⟩
theorem zoh {a : Addr} {u : HO} (h : Rd H a u) : H a ≠ none := by
 rcases h with h | ⟨o, h⟩ <;> (rw [h]; simp)
theorem Vo {a : Addr} {u : HO} (g : Grow W H W' H') (n : ¬ Un2 F W a) (h : Rd H a u) : ¬ Un2 F W' a := λ q =>
 q.elim (λ z => n (.inl z)) λ z => (g.own a z).elim (λ y => n (.inr y)) λ y => zoh h y
theorem Rp.grow (g : Grow W H W' H') {v : V} {d : D} (h : Rp K kd (Un2 F W) H v d) : Rp K kd (Un2 F W') H' v d :=
 Rp.rec (motive_1 := λ v d _ => Rp K kd (Un2 F W') H' v d) (motive_2 := λ vs ds _ => RpL K kd (Un2 F W') H' vs ds) (motive_3 := λ vs ds _ => RpM K kd (Un2 F W') H' vs ds) .non .bl .int .str (λ n h _ r => .tup (Vo g n (.inl h)) (g.keep _ _ h λ z => n (.inr z)) r) (λ n h _ r => .lst (Vo g n h) (zbn g (λ z => n (.inr z)) h) r) (λ a e f _ r => .lstK a e f r) (λ n h _ r => .dct (Vo g n h) (zbn g (λ z => n (.inr z)) h) r) (λ h _ r => .dctK h r) .cl (λ n h l _ r => .ob (Vo g n (.inl h)) (g.keep _ _ h λ z => n (.inr z)) l r) (λ n h l _ r => .dt (Vo g n (.inl h)) (g.keep _ _ h λ z => n (.inr z)) l r) .nil (λ _ _ h r => .cons h r) .nil (λ _ _ h r => .cons h r) h
theorem RpL.ind {O : Addr -> Prop} {P : List V -> List D -> Prop} (h0 : P [] []) (h1 : ∀ {v d vs ds}, Rp K kd O H v d -> RpL K kd O H vs ds -> P vs ds -> P (v :: vs) (d :: ds)) {vs : List V} {ds : List D} (h : RpL K kd O H vs ds) : P vs ds :=
 RpL.rec (motive_1 := λ _ _ _ => True) (motive_2 := λ vs ds _ => P vs ds) (motive_3 := λ _ _ _ => True) ⟨⟩ (λ _ => ⟨⟩) (λ _ => ⟨⟩) (λ _ => ⟨⟩) (λ _ _ _ _ => ⟨⟩) (λ _ _ _ _ => ⟨⟩) (λ _ _ _ _ _ => ⟨⟩) (λ _ _ _ _ => ⟨⟩) (λ _ _ _ => ⟨⟩) (λ _ => ⟨⟩) (λ _ _ _ _ _ => ⟨⟩) (λ _ _ _ _ _ => ⟨⟩) h0 (λ a r _ ih => h1 a r ih) ⟨⟩ (λ _ _ _ _ => ⟨⟩) h
theorem RpM.ind {O : Addr -> Prop} {P : List (Key × V) -> List (Key × D) -> Prop} (h0 : P [] []) (h1 : ∀ {k v d vs ds}, Rp K kd O H v d -> RpM K kd O H vs ds -> P vs ds -> P ((k, v) :: vs) ((k, d) :: ds)) {vs : List (Key × V)} {ds : List (Key × D)} (h : RpM K kd O H vs ds) : P vs ds :=
 RpM.rec (motive_1 := λ _ _ _ => True) (motive_2 := λ _ _ _ => True) (motive_3 := λ vs ds _ => P vs ds) ⟨⟩ (λ _ => ⟨⟩) (λ _ => ⟨⟩) (λ _ => ⟨⟩) (λ _ _ _ _ => ⟨⟩) (λ _ _ _ _ => ⟨⟩) (λ _ _ _ _ _ => ⟨⟩) (λ _ _ _ _ => ⟨⟩) (λ _ _ _ => ⟨⟩) (λ _ => ⟨⟩) (λ _ _ _ _ _ => ⟨⟩) (λ _ _ _ _ _ => ⟨⟩) ⟨⟩ (λ _ _ _ _ => ⟨⟩) h0 (λ a r _ ih => h1 a r ih) h
theorem RpL.grow (g : Grow W H W' H') {vs : List V} {ds : List D} (h : RpL K kd (Un2 F W) H vs ds) : RpL K kd (Un2 F W') H' vs ds := RpL.ind .nil (λ a _ r => .cons (Rp.grow g a) r) h
theorem RpM.grow (g : Grow W H W' H') {vs : List (Key × V)} {ds : List (Key × D)} (h : RpM K kd (Un2 F W) H vs ds) : RpM K kd (Un2 F W') H' vs ds := RpM.ind .nil (λ a _ r => .cons (Rp.grow g a) r) h
theorem Rp.less {O O' : Addr -> Prop} (g : ∀ a, O' a -> O a) {v : V} {d : D} (h : Rp K kd O H v d) : Rp K kd O' H v d :=
 Rp.rec (motive_1 := λ v d _ => Rp K kd O' H v d) (motive_2 := λ vs ds _ => RpL K kd O' H vs ds) (motive_3 := λ vs ds _ => RpM K kd O' H vs ds) .non .bl .int .str (λ n h _ r => .tup (λ z => n (g _ z)) h r) (λ n h _ r => .lst (λ z => n (g _ z)) h r) (λ a e f _ r => .lstK a e f r) (λ n h _ r => .dct (λ z => n (g _ z)) h r) (λ h _ r => .dctK h r) .cl (λ n h l _ r => .ob (λ z => n (g _ z)) h l r) (λ n h l _ r => .dt (λ z => n (g _ z)) h l r) .nil (λ _ _ h r => .cons h r) .nil (λ _ _ h r => .cons h r) h
theorem RpL.less {O O' : Addr -> Prop} (g : ∀ a, O' a -> O a) {vs : List V} {ds : List D} (h : RpL K kd O H vs ds) : RpL K kd O' H vs ds := RpL.ind .nil (λ a _ r => .cons (Rp.less g a) r) h
theorem RpM.less {O O' : Addr -> Prop} (g : ∀ a, O' a -> O a) {vs : List (Key × V)} {ds : List (Key × D)} (h : RpM K kd O H vs ds) : RpM K kd O' H vs ds := RpM.ind .nil (λ a _ r => .cons (Rp.less g a) r) h
theorem RpL.length {O : Addr -> Prop} {vs : List V} {ds : List D} (h : RpL K kd O H vs ds) : vs.length = ds.length := RpL.ind (P := λ vs ds => vs.length = ds.length) rfl (λ _ _ r => congrArg (· + 1) r) h
theorem RpM.length {O : Addr -> Prop} {vs : List (Key × V)} {ds : List (Key × D)} (h : RpM K kd O H vs ds) : vs.length = ds.length := RpM.ind (P := λ vs ds => vs.length = ds.length) rfl (λ _ _ r => congrArg (· + 1) r) h
theorem RpL.get {O : Addr -> Prop} {vs : List V} {ds : List D} {i : Nat} {d : D} (h : RpL K kd O H vs ds) (e : ds[i]? = some d) : ∃ v, vs[i]? = some v /\ Rp K kd O H v d :=
 RpL.ind (P := λ vs ds => ∀ i, ds[i]? = some d -> ∃ v, vs[i]? = some v /\ Rp K kd O H v d) (λ i e => by rw [List.getElem?_nil] at e; cases e) (λ a _ ih i e => by
  cases i with
  | zero => cases e; exact ⟨_, rfl, a⟩
  | succ i => exact ih i e) h i e
theorem RpL.append {O : Addr -> Prop} {vs ws : List V} {ds es : List D} (h : RpL K kd O H vs ds) (r : RpL K kd O H ws es) : RpL K kd O H (vs ++ ws) (ds ++ es) := RpL.ind (P := λ vs ds => RpL K kd O H (vs ++ ws) (ds ++ es)) r (λ a _ t => .cons a t) h
theorem RpL.take {O : Addr -> Prop} {vs : List V} {ds : List D} (n : Nat) (h : RpL K kd O H vs ds) : RpL K kd O H (vs.take n) (ds.take n) :=
 RpL.ind (P := λ vs ds => ∀ n, RpL K kd O H (vs.take n) (ds.take n)) (λ n => by rw [List.take_nil, List.take_nil]; exact .nil) (λ a _ ih n => by
  cases n with
  | zero => exact .nil
  | succ n => exact .cons a (ih n)) h n
theorem RpL.drop {O : Addr -> Prop} {vs : List V} {ds : List D} (n : Nat) (h : RpL K kd O H vs ds) : RpL K kd O H (vs.drop n) (ds.drop n) :=
 RpL.ind (P := λ vs ds => ∀ n, RpL K kd O H (vs.drop n) (ds.drop n)) (λ n => by rw [List.drop_nil, List.drop_nil]; exact .nil) (λ a b ih n => by
  cases n with
  | zero => exact .cons a b
  | succ n => exact ih n) h n
theorem RpL.rep {O : Addr -> Prop} {vs : List V} {ds : List D} (h : RpL K kd O H vs ds) : ∀ k : Nat, RpL K kd O H (List.replicate k vs).flatten (List.replicate k ds).flatten
 | 0 => .nil
 | k + 1 => by
  rw [List.replicate_succ, List.replicate_succ, List.flatten_cons, List.flatten_cons]
  exact h.append (RpL.rep h k)
end
inductive Vw (K : zC) (kd : KD) (O : Addr -> Prop) (H : Hp) : V -> D -> Prop
 | non : Vw K kd O H .non .non
 | bl (b : Bool) : Vw K kd O H (.bl b) (.bl b)
 | int (i : Int) : Vw K kd O H (.int i) (.int i)
 | str (x : Str) : Vw K kd O H (.str x) (.str x)
 | tup {a : Addr} {vs : List V} {ds : List D} : Rp K kd O H (.ref a) (.tup ds) -> SqT K H a vs -> RpL K kd O H vs ds -> Vw K kd O H (.ref a) (.tup ds)
 | lst {a : Addr} {vs : List V} {ds : List D} : RdL K H a vs -> RpL K kd O H vs ds -> Vw K kd O H (.ref a) (.lst ds)
 | dct {a : Addr} {kvs : List (Key × V)} {ds : List (Key × D)} : (Rd H a (.dK kvs) \/ kd a kvs) -> RpM K kd O H kvs ds -> Vw K kd O H (.ref a) (.dct ds)
 | cl (c : Str) : Vw K kd O H (.ref (kd.c c)) (.cl c)
 | ob {a dx : Addr} {c : Str} {ns : List Str} {vs : List V} {ds : List D} : H a = some (.ins (kd.c c) dx (ns.zip vs)) -> ns.length = vs.length -> RpL K kd O H vs ds -> Vw K kd O H (.ref a) (.ob c ns ds)
 | dt {a : Addr} {ks : List (List Key)} {vs : List V} {ds : List D} : H a = some (.dT (ks.zip vs)) -> ks.length = vs.length -> RpL K kd O H vs ds -> Vw K kd O H (.ref a) (.dt ks ds)
theorem Rp.vw {K : zC} {kd : KD} {O : Addr -> Prop} {H : Hp} {v : V} {d : D} (h : Rp K kd O H v d) : Vw K kd O H v d := by
 cases h with
 | non => exact .non
 | bl b => exact .bl b
 | int i => exact .int i
 | str x => exact .str x
 | tup n h r => exact .tup (.tup n h r) (.inl (.inl h)) r
 | lst n h r => exact .lst (.inl h) r
 | lstK a e f r => exact .lst (.inr ⟨_, _, a, e, f⟩) r
 | dct n h r => exact .dct (.inl h) r
 | dctK h r => exact .dct (.inr h) r
 | cl c => exact .cl c
 | ob n h l r => exact .ob h l r
 | dt n h l r => exact .dt h l r
theorem _root_.L2.RdL.sq {K : zC} {H : Hp} {a : Addr} {xs : List V} (h : RdL K H a xs) : SqL K H a xs := by
 rcases h with h | ⟨its, n, k, z, r⟩
 · exact .inl h
 · exact .inr ⟨_, its, n, k, rfl, rfl, rfl, z, r⟩
theorem ziE {X : Cx} {pins : List (Addr × Obj)} {σ : St} {H : Hp} {s : Shared} {a : Addr} {xs : List V} (I : Inv X pins σ H s) (h : RdL X.K H a xs) :
 xs.length <= sizeLine /\ ∃ (its : List Value) (n : Nat), Vals xs its /\ s.heap.get? a = some { cls := .type "list", data := .seq its.toArray n } := by
 rcases h with h | ⟨its, n, k, z, r⟩
 · exact h.ok I.hok
 · refine ⟨by rw [r.length]; simpa using z, its.toList, n, r, by simpa using I.kIn _ _ k⟩
theorem Rp.cl_eq {K : zC} {kd : KD} {O : Addr -> Prop} {H : Hp} {C : Addr} {c : Str} (h : Rp K kd O H (.ref C) (.cl c)) : C = kd.c c := by
 cases h; rfl
def yu : D -> Bool
 | .non => true | .bl _ => true | .int _ => true | .str _ => true | _ => false
theorem Rp.flat {K : zC} {kd : KD} {O O' : Addr -> Prop} {H H' : Hp} {v : V} {d : D} (h : Rp K kd O H v d) (e : yu d = true) : Rp K kd O' H' v d := by
 cases h with
 | non => exact .non
 | bl b => exact .bl b
 | int i => exact .int i
 | str x => exact .str x
 | _ => cases e
inductive Kind where
 | ls | tp | dc (ks : List Key) | ob (c : Str) (ns : List Str) | dt (ks : List (List Key))
inductive O where
 | lf (st : Bool) (d : D) | nd (k : Kind) (os : List O)
abbrev lfs (st : Bool) (d : D) : O := .lf (yu d || st) d
mutual
inductive Ro (L : Bool -> V -> D -> Prop) (N : Addr -> Prop) (H : Hp) : V -> O -> List Addr -> Prop
 | lf {st : Bool} {v : V} {d : D} : L st v d -> Ro L N H v (.lf st d) []
 | ls {a : Addr} {vs : List V} {os : List O} {fp : List Addr} : H a = some (.lst vs) -> RoL L N H vs os fp -> Ro L N H (.ref a) (.nd .ls os) (a :: fp)
 | dc {a : Addr} {ks : List Key} {vs : List V} {os : List O} {fp : List Addr} : H a = some (.dK (ks.zip vs)) -> ks.length = vs.length -> RoL L N H vs os fp -> Ro L N H (.ref a) (.nd (.dc ks) os) (a :: fp)
 | ob {a dx C : Addr} {c : Str} {ns : List Str} {vs : List V} {os : List O} {fp : List Addr} : L true (.ref C) (.cl c) -> H a = some (.ins C dx (ns.zip vs)) -> ns.length = vs.length -> RoL L N H vs os fp -> Ro L N H (.ref a) (.nd (.ob c ns) os) (a :: fp)
 | dt {a : Addr} {ks : List (List Key)} {vs : List V} {os : List O} {fp : List Addr} : H a = some (.dT (ks.zip vs)) -> ks.length = vs.length -> RoL L N H vs os fp -> Ro L N H (.ref a) (.nd (.dt ks) os) (a :: fp)
 | tp {a : Addr} {vs : List V} {os : List O} {fp : List Addr} : N a -> H a = some (.tup vs) -> RoL L N H vs os fp -> Ro L N H (.ref a) (.nd .tp os) fp
inductive RoL (L : Bool -> V -> D -> Prop) (N : Addr -> Prop) (H : Hp) : List V -> List O -> List Addr -> Prop
 | nil : RoL L N H [] [] []
 | cons {v : V} {o : O} {vs : List V} {os : List O} {fp fq : List Addr} : Ro L N H v o fp -> RoL L N H vs os fq -> RoL L N H (v :: vs) (o :: os) (fp ++ fq)
end
mutual
def O.toD : O -> D
 | .lf _ d => d
 | .nd .ls os => .lst (O.toDs os)
 | .nd .tp os => .tup (O.toDs os)
 | .nd (.dc ks) os => .dct (ks.zip (O.toDs os))
 | .nd (.ob c ns) os => .ob c ns (O.toDs os)
 | .nd (.dt ks) os => .dt ks (O.toDs os)
def O.toDs : List O -> List D
 | [] => []
 | o :: r => o.toD :: O.toDs r
end
mutual
def O.str : O -> Bool
 | .lf st _ => st
 | .nd _ os => O.strs os
def O.strs : List O -> Bool
 | [] => true
 | o :: r => o.str && O.strs r
end
section
variable {L L' : Bool -> V -> D -> Prop} {N N' : Addr -> Prop} {H H' : Hp} {K : zC} {kd : KD} {Ob : Addr -> Prop}
theorem Ro.mono (hL : ∀ st v d, L st v d -> L' st v d) (hN : ∀ a vs, N a -> H a = some (.tup vs) -> N' a /\ H' a = some (.tup vs)) {v : V} {o : O} {fp : List Addr} (k : ∀ a ∈ fp, ∀ u, H a = some u -> H' a = some u) (h : Ro L N H v o fp) : Ro L' N' H' v o fp :=
 Ro.rec (motive_1 := λ v o fp _ => (∀ a ∈ fp, ∀ u, H a = some u -> H' a = some u) -> Ro L' N' H' v o fp) (motive_2 := λ vs os fp _ => (∀ a ∈ fp, ∀ u, H a = some u -> H' a = some u) -> RoL L' N' H' vs os fp)
  (λ h _ => .lf (hL _ _ _ h)) (λ h _ r k => .ls (k _ zzC _ h) (r λ a m => k a (zzA _ m))) (λ h l _ r k => .dc (k _ zzC _ h) l (r λ a m => k a (zzA _ m))) (λ c h l _ r k => .ob (hL _ _ _ c) (k _ zzC _ h) l (r λ a m => k a (zzA _ m))) (λ h l _ r k => .dt (k _ zzC _ h) l (r λ a m => k a (zzA _ m))) (λ n h _ r k => .tp (hN _ _ n h).1 (hN _ _ n h).2 (r k))
  (λ _ => .nil) (λ _ _ h r k => .cons (h λ a m => k a (zzM _ m)) (r λ a m => k a (zzI _ m))) h k
theorem RoL.ind {P : List V -> List O -> List Addr -> Prop} (h0 : P [] [] []) (h1 : ∀ {v o vs os fp fq}, Ro L N H v o fp -> RoL L N H vs os fq -> P vs os fq -> P (v :: vs) (o :: os) (fp ++ fq)) {vs : List V} {os : List O} {fp : List Addr} (h : RoL L N H vs os fp) : P vs os fp :=
 RoL.rec (motive_1 := λ _ _ _ _ => True) (motive_2 := λ vs os fp _ => P vs os fp) (λ _ => ⟨⟩) (λ _ _ _ => ⟨⟩) (λ _ _ _ _ => ⟨⟩) (λ _ _ _ _ _ => ⟨⟩) (λ _ _ _ _ => ⟨⟩) (λ _ _ _ _ => ⟨⟩) h0 (λ a r _ ih => h1 a r ih) h
theorem RoL.mono (hL : ∀ st v d, L st v d -> L' st v d) (hN : ∀ a vs, N a -> H a = some (.tup vs) -> N' a /\ H' a = some (.tup vs)) {vs : List V} {os : List O} {fp : List Addr} (k : ∀ a ∈ fp, ∀ u, H a = some u -> H' a = some u) (h : RoL L N H vs os fp) : RoL L' N' H' vs os fp :=
 RoL.ind (P := λ vs os fp => (∀ a ∈ fp, ∀ u, H a = some u -> H' a = some u) -> RoL L' N' H' vs os fp) (λ _ => .nil) (λ h _ r k => .cons (Ro.mono hL hN (λ a m => k a (zzM _ m)) h) (r λ a m => k a (zzI _ m))) h k
theorem zds : ∀ {ks : List Key} {vs : List V} {ds : List D}, RpL K kd Ob H vs ds -> ks.length = vs.length -> RpM K kd Ob H (ks.zip vs) (ks.zip ds)
 | [], _, _, _, _ => .nil
 | _ :: _, _, _, .nil, e => by simp at e
 | _ :: _, _, _, .cons h r, e => .cons h (zds r (by simpa using e))
theorem Ro.rp (b : Bool) (hL : ∀ st v d, (b = true -> st = true) -> L st v d -> Rp K kd Ob H v d) (hN : ∀ a, N a -> ¬ Ob a) {v : V} {o : O} {fp : List Addr} (s : b = true -> o.str = true) (k : ∀ a ∈ fp, ¬ Ob a) (h : Ro L N H v o fp) : Rp K kd Ob H v o.toD :=
 Ro.rec (motive_1 := λ v o fp _ => (b = true -> o.str = true) -> (∀ a ∈ fp, ¬ Ob a) -> Rp K kd Ob H v o.toD) (motive_2 := λ vs os fp _ => (b = true -> O.strs os = true) -> (∀ a ∈ fp, ¬ Ob a) -> RpL K kd Ob H vs (O.toDs os))
  (λ h s _ => hL _ _ _ s h) (λ h _ r s k => .lst (k _ zzC) (.inl h) (r s λ a m => k a (zzA _ m))) (λ h l _ r s k => .dct (k _ zzC) (.inl h) (zds (r s λ a m => k a (zzA _ m)) l)) (λ c h l _ r s k => by
   have e := (hL _ _ _ (λ _ => rfl) c).cl_eq
   subst e
   exact .ob (k _ zzC) h l (r s λ a m => k a (zzA _ m))) (λ h l _ r s k => .dt (k _ zzC) h l (r s λ a m => k a (zzA _ m))) (λ n h _ r s k => .tup (hN _ n) h (r s k))
  (λ _ _ => .nil) (λ _ _ h r s k => .cons (h (λ z => ((Bool.and_eq_true _ _).mp (s z)).1) λ a m => k a (zzM _ m)) (r (λ z => ((Bool.and_eq_true _ _).mp (s z)).2) λ a m => k a (zzI _ m))) h s k
theorem RoL.rp (b : Bool) (hL : ∀ st v d, (b = true -> st = true) -> L st v d -> Rp K kd Ob H v d) (hN : ∀ a, N a -> ¬ Ob a) {vs : List V} {os : List O} {fp : List Addr} (s : b = true -> O.strs os = true) (k : ∀ a ∈ fp, ¬ Ob a) (h : RoL L N H vs os fp) : RpL K kd Ob H vs (O.toDs os) :=
 RoL.ind (P := λ vs os fp => (b = true -> O.strs os = true) -> (∀ a ∈ fp, ¬ Ob a) -> RpL K kd Ob H vs (O.toDs os)) (λ _ _ => .nil) (λ h _ r s k => .cons (Ro.rp b hL hN (λ z => ((Bool.and_eq_true _ _).mp (s z)).1) (λ a m => k a (zzM _ m)) h) (r (λ z => ((Bool.and_eq_true _ _).mp (s z)).2) λ a m => k a (zzI _ m))) h s k
theorem RoL.length {vs : List V} {os : List O} {fp : List Addr} (h : RoL L N H vs os fp) : vs.length = os.length := RoL.ind (P := λ vs os _ => vs.length = os.length) rfl (λ _ _ r => congrArg (· + 1) r) h
theorem WW : ∀ os : List O, (O.toDs os).length = os.length
 | [] => rfl
 | _ :: r => congrArg (· + 1) (WW r)
theorem RoL.append {vs ws : List V} {os ps : List O} {f g : List Addr} (h : RoL L N H vs os f) (r : RoL L N H ws ps g) : RoL L N H (vs ++ ws) (os ++ ps) (f ++ g) := RoL.ind (P := λ vs os f => RoL L N H (vs ++ ws) (os ++ ps) (f ++ g)) r (λ h _ t => by rw [List.append_assoc]; exact .cons h t) h
theorem RoL.one {v : V} {o : O} {f : List Addr} (h : Ro L N H v o f) : RoL L N H [v] [o] f := by
 have := RoL.cons h (RoL.nil (L := L) (N := N) (H := H))
 rw [List.append_nil] at this
 exact this
theorem RoL.at_ {k : Nat} {o : O} : ∀ {vs : List V} {os : List O} {fp : List Addr}, RoL L N H vs os fp -> os[k]? = some o -> ∃ v f fo g, vs[k]? = some v /\ fp = f ++ (fo ++ g) /\ Ro L N H v o fo /\ RoL L N H (vs.take k) (os.take k) f /\ RoL L N H (vs.drop (k + 1)) (os.drop (k + 1)) g := by
 induction k with
 | zero =>
  intro vs os fp h e
  cases h with
  | nil => cases e
  | cons h r =>
   rw [List.getElem?_cons_zero] at e
   cases e
   exact ⟨_, [], _, _, rfl, rfl, h, .nil, r⟩
 | succ k ih =>
  intro vs os fp h e
  cases h with
  | nil => cases e
  | cons h r =>
   rw [List.getElem?_cons_succ] at e
   obtain ⟨v, f, fo, g, e1, e2, h1, h2, h3⟩ := ih r e
   subst e2
   exact ⟨v, _, fo, g, by rw [List.getElem?_cons_succ]; exact e1, (List.append_assoc _ _ _).symm, h1, .cons h h2, h3⟩
theorem zcJ {α : Type} (l : List α) (k : Nat) : l.eraseIdx k = l.take k ++ l.drop (k + 1) := List.eraseIdx_eq_take_drop_succ l k
end
abbrev AS := List (Option O)
abbrev Ad := Nat -> List Addr
def Gw (T : List Addr) (ad : Ad) : Addr -> Prop := λ a => a ∈ T \/ ∃ i, a ∈ ad i
abbrev Lv (F B G : Addr -> Prop) (st : Bool) : Addr -> Prop := Un2 (λ a => (st = true /\ F a) \/ B a) G
abbrev Lf (K : zC) (kd : KD) (F B G : Addr -> Prop) (H : Hp) : Bool -> V -> D -> Prop := λ st v d => Rp K kd (Lv F B G st) H v d
abbrev Nf (F B G : Addr -> Prop) : Addr -> Prop := λ a => ¬ Lv F B G true a
abbrev RoS (K : zC) (kd : KD) (F B G : Addr -> Prop) (H : Hp) : V -> O -> List Addr -> Prop := Ro (Lf K kd F B G H) (Nf F B G) H
abbrev Zx (K : zC) (kd : KD) (F B G : Addr -> Prop) (H : Hp) : List V -> List O -> List Addr -> Prop := RoL (Lf K kd F B G H) (Nf F B G) H
def zdH (K : zC) (kd : KD) (F B G : Addr -> Prop) (H : Hp) : Option O -> Option (Option V) -> List Addr -> Prop
 | none, _, fp => fp = []
 | some o, s, fp => ∃ v, s = some (some v) /\ RoS K kd F B G H v o fp
structure Rel (K : zC) (kd : KD) (F B : Addr -> Prop) (T : List Addr) (ad : Ad) (as : AS) (σ : St) (H : Hp) : Prop where
 len : as.length = σ.length
 out : ∀ i, as.length <= i -> ad i = []
 nd : ∀ i, (ad i).Nodup
 inj : ∀ i j a, a ∈ ad i -> a ∈ ad j -> i = j
 tnd : T.Nodup
 dis : ∀ i a, a ∈ ad i -> a ∉ T
 ftr : ∀ a, F a -> H a ≠ none
 btr : ∀ a, B a -> H a ≠ none /\ ¬ F a /\ ¬ Gw T ad a
 gtr : ∀ a, Gw T ad a -> H a ≠ none /\ ¬ F a
 sl : ∀ i s, as[i]? = some s -> zdH K kd F B (Gw T ad) H s σ[i]? (ad i)
inductive RV where
 | ow (o : O) | bo (i : Nat)
def Zq (K : zC) (kd : KD) (F B : Addr -> Prop) (T : List Addr) (ad : Ad) (σ : St) (H : Hp) (v : V) : RV -> Prop
 | .ow o => RoS K kd F B (Gw T ad) H v o T
 | .bo i => T = [] /\ σ[i]? = some (some v)
def O.frz (o : O) : O := .lf o.str o.toD
def RV.frz : RV -> RV
 | .ow o => .ow o.frz
 | .bo i => .bo i
def O.isLf : O -> Bool
 | .lf _ _ => true
 | _ => false
def O.kl : O -> Option Bool
 | .lf st _ => some st
 | .nd _ os => if os.all O.isLf = true then some (O.strs os) else none
def RV.view (as : AS) : RV -> Option (D × Option Bool)
 | .ow o => some (o.toD, some o.str)
 | .bo i => match as[i]? with
  | some (some o) => some (o.toD, o.kl)
  | _ => none
def Obl (F B G : Addr -> Prop) : Option Bool -> Addr -> Prop
 | some st => Lv F B G st
 | none => λ _ => False
section
variable {K : zC} {kd : KD} {F B F' B' : Addr -> Prop} {G G' : Addr -> Prop} {T T' : List Addr} {ad ad1 : Ad} {as as1 : AS} {σ : St} {H H1 H' : Hp} {v : V} {r : RV} {o : O} {fp : List Addr} {vs : List V} {os : List O}
theorem RoS.grow (g : Grow G H G' H') (k : ∀ a ∈ fp, ∀ u, H a = some u -> H' a = some u) (h : RoS K kd F B G H v o fp) : RoS K kd F B G' H' v o fp :=
 Ro.mono (λ st v d r => Rp.grow g r) (λ a vs n e => ⟨λ z => z.elim (λ y => n (.inl y)) λ y => (g.own a y).elim (λ w => n (.inr w)) λ w => (by rw [w] at e; cases e), g.keep a _ e (λ w => n (.inr w))⟩) k h
theorem Zx.grow (g : Grow G H G' H') (k : ∀ a ∈ fp, ∀ u, H a = some u -> H' a = some u) (h : Zx K kd F B G H vs os fp) : Zx K kd F B G' H' vs os fp :=
 RoL.mono (λ st v d r => Rp.grow g r) (λ a vs n e => ⟨λ z => z.elim (λ y => n (.inl y)) λ y => (g.own a y).elim (λ w => n (.inr w)) λ w => (by rw [w] at e; cases e), g.keep a _ e (λ w => n (.inr w))⟩) k h
theorem RoS.lv (g : ∀ st a, Lv F' B' G' st a -> Lv F B G st a) (h : RoS K kd F B G H v o fp) : RoS K kd F' B' G' H v o fp :=
 Ro.mono (λ st v d r => r.less (g st)) (λ a vs n e => ⟨λ z => n (g true a z), e⟩) (λ _ _ _ e => e) h
theorem Zx.lv (g : ∀ st a, Lv F' B' G' st a -> Lv F B G st a) (h : Zx K kd F B G H vs os fp) : Zx K kd F' B' G' H vs os fp :=
 RoL.mono (λ st v d r => r.less (g st)) (λ a vs n e => ⟨λ z => n (g true a z), e⟩) (λ _ _ _ e => e) h
theorem RoS.less (g : ∀ a, G' a -> G a) (h : RoS K kd F B G H v o fp) : RoS K kd F B G' H v o fp := RoS.lv (λ _ a z => z.elim .inl λ y => .inr (g a y)) h
theorem Gw.drop : ∀ a, Gw [] ad a -> Gw T ad a := λ _ h => h.elim (λ z => nomatch z) .inr
theorem Rel.trk (R : Rel K kd F B T ad as σ H) (st : Bool) : ∀ a, Lv F B (Gw T ad) st a -> H a ≠ none := λ a h => by
 rcases h with (h | h) | h
 · exact R.ftr a h.2
 · exact (R.btr a h).1
 · exact (R.gtr a h).1
theorem Rel.tr (R : Rel K kd F B T ad as σ H) (lv : Option Bool) : ∀ a, Obl F B (Gw T ad) lv a -> H a ≠ none := λ a h => by
 cases lv with
 | none => exact h.elim
 | some st => exact R.trk st a h
theorem zdH.lv {s : Option O} {x : Option (Option V)} (g : ∀ st a, Lv F' B' G' st a -> Lv F B G st a) (h : zdH K kd F B G H s x fp) : zdH K kd F' B' G' H s x fp := by
 cases s with
 | none => exact h
 | some o => obtain ⟨v, e, r⟩ := h; exact ⟨v, e, RoS.lv g r⟩
theorem zdH.less {s : Option O} {x : Option (Option V)} (g : ∀ a, G' a -> G a) (h : zdH K kd F B G H s x fp) : zdH K kd F B G' H s x fp := h.lv (λ _ a z => z.elim .inl λ y => .inr (g a y))
theorem zdH.grow {s : Option O} {x : Option (Option V)} (g : Grow G H G' H') (k : ∀ a ∈ fp, ∀ u, H a = some u -> H' a = some u) (h : zdH K kd F B G H s x fp) : zdH K kd F B G' H' s x fp := by
 cases s with
 | none => exact h
 | some o => obtain ⟨v, e, r⟩ := h; exact ⟨v, e, RoS.grow g k r⟩
theorem Rel.drop (R : Rel K kd F B T ad as σ H) : Rel K kd F B [] ad as σ H where
 len := R.len
 out := R.out
 nd := R.nd
 inj := R.inj
 tnd := List.nodup_nil
 dis := λ _ _ _ z => nomatch z
 ftr := R.ftr
 btr := λ a h => let ⟨h1, h2, h3⟩ := R.btr a h; ⟨h1, h2, λ z => h3 (Gw.drop a z)⟩
 gtr := λ a h => R.gtr a (Gw.drop a h)
 sl := λ i s e => (R.sl i s e).less Gw.drop
theorem ziF (R : Rel K kd F B T ad as σ H) (h : RoS K kd F B (Gw T ad) H v o T) : Rp K kd (Lv F B (Gw [] ad) o.str) H v o.toD :=
 Ro.rp o.str (λ st v d hs r => r.less λ a z => z.elim (λ y => .inl (y.elim (λ x => .inl ⟨hs x.1, x.2⟩) .inr)) λ y => .inr (Gw.drop a y))
  (λ a n z => n (z.elim (λ y => .inl (y.elim (λ x => .inl ⟨rfl, x.2⟩) .inr)) λ y => .inr (Gw.drop a y))) id
  (λ a m z => by
   rcases z with (z | z) | z | ⟨i, z⟩
   · exact (R.gtr a (.inl m)).2 z.2
   · exact (R.btr a z).2.2 (.inl m)
   · cases z
   · exact R.dis i a z m) h
theorem Zq.drop (R : Rel K kd F B T ad as σ H) (h : Zq K kd F B T ad σ H v r) : Zq K kd F B [] ad σ H v r.frz := by
 cases r with
 | ow o => exact .lf (ziF R h)
 | bo i => exact ⟨rfl, h.2⟩
theorem Zq.grow (g : Grow (Gw [] ad) H (Gw [] ad1) H1) (h : Zq K kd F B [] ad σ H v r) : Zq K kd F B [] ad1 σ H1 v r := by
 cases r with
 | ow o => exact RoS.grow g (λ _ m => nomatch m) h
 | bo i => exact h
theorem zmo {vs : List V} {os : List O} {fp : List Addr} (h : Zx K kd F B G H vs os fp) : os.all O.isLf = true -> fp = [] :=
 RoL.ind (P := λ _ os fp => os.all O.isLf = true -> fp = []) (λ _ => rfl) (λ h _ ih e => by
  rw [List.all_cons, Bool.and_eq_true] at e
  rw [ih e.2, List.append_nil]
  cases h with
  | lf => rfl
  | ls => cases e.1
  | dc => cases e.1
  | ob => cases e.1
  | dt => cases e.1
  | tp => cases e.1) h
theorem zeG {st : Bool} {b : Bool} (hs : b = true -> st = true) : ∀ a, Lv F B G b a -> Lv F B G st a := λ a z => z.elim (λ y => .inl (y.elim (λ x => .inl ⟨hs x.1, x.2⟩) .inr)) .inr
theorem zcA (h : Zx K kd F B G H vs os fp) (e : os.all O.isLf = true) : RpL K kd (Lv F B G (O.strs os)) H vs (O.toDs os) := by
 have := zmo h e
 subst this
 exact RoL.rp (O.strs os) (λ st v d hs r => r.less (zeG hs)) (λ a n z => n (zeG (λ _ => rfl) a z)) id (by intro a m; cases m) h
theorem V6 (h : Zx K kd F B G H vs os fp) : RpL K kd (λ _ => False) H vs (O.toDs os) := RoL.rp false (λ st v d _ r => r.less λ _ z => z.elim) (λ _ _ z => z) (λ z => Bool.noConfusion z) (λ _ _ z => z) h
theorem zgv (h : RoS K kd F B G H v o fp) : Rp K kd (λ _ => False) H v o.toD := Ro.rp false (λ st v d _ r => r.less λ _ z => z.elim) (λ _ _ z => z) (λ z => Bool.noConfusion z) (λ _ _ z => z) h
theorem zdP (h : RoS K kd F B G H v o []) : Rp K kd (Lv F B G o.str) H v o.toD :=
 Ro.rp o.str (λ st v d hs r => r.less (zeG hs)) (λ a n z => n (zeG (λ _ => rfl) a z)) id (by intro a m; cases m) h
theorem RoS.vw (h : RoS K kd F B G H v o fp) : Vw K kd (Obl F B G o.kl) H v o.toD := by
 cases h with
 | lf h => exact h.vw
 | ls hH r =>
  rename_i a vs' os' fp'
  show Vw K kd (Obl F B G (if os'.all O.isLf = true then some (O.strs os') else none)) H _ (.lst (O.toDs os'))
  by_cases e : os'.all O.isLf = true
  · rw [if_pos e]; exact .lst (.inl (.inl hH)) (zcA r e)
  · rw [if_neg e]; exact .lst (.inl (.inl hH)) (V6 r)
 | dc hH l r =>
  rename_i a ks vs' os' fp'
  show Vw K kd (Obl F B G (if os'.all O.isLf = true then some (O.strs os') else none)) H _ (.dct (ks.zip (O.toDs os')))
  by_cases e : os'.all O.isLf = true
  · rw [if_pos e]; exact .dct (.inl (.inl hH)) (zds (zcA r e) l)
  · rw [if_neg e]; exact .dct (.inl (.inl hH)) (zds (V6 r) l)
 | ob hc hH l r =>
  rename_i a dx C c ns vs' os' fp'
  have ec : C = kd.c c := hc.cl_eq
  subst ec
  show Vw K kd (Obl F B G (if os'.all O.isLf = true then some (O.strs os') else none)) H _ (.ob c ns (O.toDs os'))
  by_cases e : os'.all O.isLf = true
  · rw [if_pos e]; exact .ob hH l (zcA r e)
  · rw [if_neg e]; exact .ob hH l (V6 r)
 | dt hH l r =>
  rename_i a ks vs' os' fp'
  show Vw K kd (Obl F B G (if os'.all O.isLf = true then some (O.strs os') else none)) H _ (.dt ks (O.toDs os'))
  by_cases e : os'.all O.isLf = true
  · rw [if_pos e]; exact .dt hH l (zcA r e)
  · rw [if_neg e]; exact .dt hH l (V6 r)
 | tp n hH r =>
  rename_i a vs' os'
  show Vw K kd (Obl F B G (if os'.all O.isLf = true then some (O.strs os') else none)) H _ (.tup (O.toDs os'))
  by_cases e : os'.all O.isLf = true
  · rw [if_pos e]
    have rl := zcA r e
    exact .tup (.tup (λ z => n (zeG (λ _ => rfl) _ z)) hH rl) (.inl (.inl hH)) rl
  · rw [if_neg e]; exact .tup (.tup (λ z => z) hH (V6 r)) (.inl (.inl hH)) (V6 r)
theorem Zq.vw (R : Rel K kd F B [] ad as σ H) (h : Zq K kd F B [] ad σ H v r) {d : D} {lv : Option Bool} (e : r.view as = some (d, lv)) : Vw K kd (Obl F B (Gw [] ad) lv) H v d := by
 cases r with
 | ow o =>
  cases e
  exact (zdP h).vw
 | bo i =>
  have e : (match as[i]? with | some (some o) => some (o.toD, o.kl) | _ => none) = some (d, lv) := e
  cases k : as[i]? with
  | none => rw [k] at e; cases e
  | some s =>
   cases s with
   | none => rw [k] at e; cases e
   | some o =>
    rw [k] at e
    cases e
    obtain ⟨w, hw, ro⟩ := R.sl i _ k
    rw [h.2] at hw
    cases hw
    exact ro.vw
theorem Rel.add {N : List Addr} (R : Rel K kd F B T ad as σ H) (hn : N.Nodup) (hl : ∀ a ∈ N, H a = none) (k : ∀ b u, H b = some u -> H' b = some u) (h1 : ∀ a ∈ N, H' a ≠ none) : Rel K kd F B (N ++ T) ad as σ H' /\ Grow (Gw T ad) H (Gw (N ++ T) ad) H' := by
 have g : Grow (Gw T ad) H (Gw (N ++ T) ad) H' := ⟨λ b u h _ => k b u h, λ b h => by
  rcases h with h | h
  · rcases zzJ.mp h with h | h
    · exact .inr (hl b h)
    · exact .inl (.inl h)
  · exact .inl (.inr h)⟩
 have kn : ∀ a, H a ≠ none -> H' a ≠ none := λ a z => by
  cases e : H a with
  | none => exact absurd e z
  | some u => rw [k a u e]; simp
 refine ⟨⟨R.len, R.out, R.nd, R.inj, ?_, λ i a m z => ?_, λ a z => kn a (R.ftr a z), λ a z => ?_, λ a z => ?_, λ i s e => (R.sl i s e).grow g λ a _ u h => k a u h⟩, g⟩
 · refine List.nodup_append.mpr ⟨hn, R.tnd, λ a m b m' e => ?_⟩
   subst e
   exact (R.gtr a (.inl m')).1 (hl a m)
 · rcases zzJ.mp z with z | z
   · exact (R.gtr a (.inr ⟨i, m⟩)).1 (hl a z)
   · exact R.dis i a m z
 · obtain ⟨b1, b2, b3⟩ := R.btr a z
   refine ⟨kn a b1, b2, λ y => ?_⟩
   rcases y with y | y
   · rcases zzJ.mp y with y | y
     · exact b1 (hl a y)
     · exact b3 (.inl y)
   · exact b3 (.inr y)
 · rcases z with z | z
   · rcases zzJ.mp z with z | z
     · exact ⟨h1 a z, λ f => R.ftr a f (hl a z)⟩
     · exact ⟨kn a (R.gtr a (.inl z)).1, (R.gtr a (.inl z)).2⟩
   · exact ⟨kn a (R.gtr a (.inr z)).1, (R.gtr a (.inr z)).2⟩
theorem Rel.more (R : Rel K kd F B T ad as σ H) (k : ∀ b u, H b = some u -> H' b = some u) : Rel K kd F B T ad as σ H' /\ Grow (Gw T ad) H (Gw T ad) H' :=
 R.add (N := []) List.nodup_nil (λ _ m => nomatch m) k (λ _ m => nomatch m)
theorem Rel.news (R : Rel K kd F B [] ad as σ H) (hn : T'.Nodup) (hl : ∀ a ∈ T', H a = none) (k : ∀ b u, H b = some u -> H' b = some u) (h1 : ∀ a ∈ T', H' a ≠ none) : Rel K kd F B T' ad as σ H' /\ Grow (Gw [] ad) H (Gw T' ad) H' := by
 have := R.add hn hl k h1
 rw [List.append_nil] at this
 exact this
end
inductive R0 where
 | im (d : D) | fl (ds : List D) | fd (kvs : List (Key × D))
def RQ (K : zC) (kd : KD) (O : Addr -> Prop) (H : Hp) (Q : VK) : R0 -> Prop
 | .im d => ∀ v H', (∀ b o, H b = some o -> H' b = some o) -> Rp K kd O H' v d -> Q v H'
 | .fl ds => ∀ l vs H', H l = none -> (∀ b o, H b = some o -> H' b = some o) -> H' l = some (.lst vs) -> RpL K kd (Un2 O (· = l)) H' vs ds -> Q (.ref l) H'
 | .fd ds => ∀ l vs H', H l = none -> (∀ b o, H b = some o -> H' b = some o) -> H' l = some (.dK vs) -> RpM K kd (Un2 O (· = l)) H' vs ds -> Q (.ref l) H'
def wrap (lv : Option Bool) : R0 -> Option RV
 | .im d => if (yu d || lv.isSome) = true then some (.ow (lfs (lv.getD false) d)) else none
 | .fl ds => if (ds.all yu || lv.isSome) = true then some (.ow (.nd .ls (ds.map (lfs (lv.getD false))))) else none
 | .fd kvs => if ((kvs.map (·.2)).all yu || lv.isSome) = true then some (.ow (.nd (.dc (kvs.map (·.1))) ((kvs.map (·.2)).map (lfs (lv.getD false))))) else none
theorem bS_ {α β : Type} {o : Option α} {f : α -> Option β} {b : β} (h : o.bind f = some b) : ∃ a, o = some a /\ f a = some b := by
 cases o with
 | none => cases h
 | some a => exact ⟨a, rfl, h⟩
theorem ite_some' {α : Type} {c : Prop} [Decidable c] {a : Option α} {b : α} (h : (if c then a else none) = some b) : c /\ a = some b := by
 by_cases hc : c
 · rw [if_pos hc] at h; exact ⟨hc, h⟩
 · rw [if_neg hc] at h; cases h
theorem yt {α : Type} {c : Prop} [Decidable c] {a b : α} (h : (if c then some a else none) = some b) : c /\ a = b := by
 by_cases hc : c
 · rw [if_pos hc] at h; cases h; exact ⟨hc, rfl⟩
 · rw [if_neg hc] at h; cases h
section
variable {K : zC} {kd : KD} {F B : Addr -> Prop} {G : Addr -> Prop} {ad : Ad} {as : AS} {σ : St} {H H' : Hp} {v : V} {r : R0} {rv : RV} {Q : VK} {lv : Option Bool}
theorem zoL {Ob : Addr -> Prop} {d : D} (h : yu d = true \/ lv.isSome = true) (hO : ∀ st, lv = some st -> ∀ a, Lv F B G st a -> Ob a) (rp : Rp K kd Ob H v d) : Lf K kd F B G H (yu d || lv.getD false) v d := by
 cases e : yu d with
 | true => exact rp.flat e
 | false =>
  rw [e] at h
  cases lv with
  | none => rcases h with h | h <;> cases h
  | some st => exact rp.less (hO st rfl)
theorem zlp {Ob : Addr -> Prop} {N : Addr -> Prop} (hO : ∀ st, lv = some st -> ∀ a, Lv F B G st a -> Ob a) {vs : List V} {ds : List D} (e : (ds.all yu || lv.isSome) = true) (h : RpL K kd Ob H vs ds) : RoL (Lf K kd F B G H) N H vs (ds.map (lfs (lv.getD false))) [] :=
 RpL.ind (P := λ vs ds => (ds.all yu || lv.isSome) = true -> RoL (Lf K kd F B G H) N H vs (ds.map (lfs (lv.getD false))) []) (λ _ => .nil) (λ {v d vs ds} h _ ih e => by
  rw [List.all_cons] at e
  have e1 : yu d = true \/ lv.isSome = true := by
   cases h1 : lv.isSome <;> cases h2 : yu d <;> simp [h1, h2] at e ⊢
  have e2 : (ds.all yu || lv.isSome) = true := by
   cases h1 : lv.isSome with
   | true => simp
   | false =>
    rw [h1, Bool.or_false, Bool.and_eq_true] at e
    rw [Bool.or_false]; exact e.2
  exact RoL.cons (.lf (zoL e1 hO h)) (ih e2)) h e
theorem zkC {O : Addr -> Prop} {vs : List (Key × V)} {ds : List (Key × D)} (h : RpM K kd O H vs ds) : vs = (ds.map (·.1)).zip (vs.map (·.2)) /\ RpL K kd O H (vs.map (·.2)) (ds.map (·.2)) :=
 RpM.ind (P := λ vs ds => vs = (ds.map (·.1)).zip (vs.map (·.2)) /\ RpL K kd O H (vs.map (·.2)) (ds.map (·.2))) ⟨rfl, .nil⟩ (λ h _ ih => by
  obtain ⟨h1, h2⟩ := ih
  refine ⟨?_, .cons h h2⟩
  conv => lhs; rw [h1]
  rfl) h
theorem Wt (R : Rel K kd F B [] ad as σ H) (e : wrap lv r = some rv) (q : ∀ v T' H', Rel K kd F B T' ad as σ H' -> Zq K kd F B T' ad σ H' v rv -> Grow (Gw [] ad) H (Gw T' ad) H' -> Q v H') : RQ K kd (Obl F B (Gw [] ad) lv) H Q r := by
 have hO : ∀ (l : List Addr) st, lv = some st -> ∀ a, Lv F B (Gw l ad) st a -> Un2 (Obl F B (Gw [] ad) lv) (· ∈ l) a := by
  intro l st e a z
  subst e
  rcases z with z | z | z
  · exact .inl (.inl z)
  · exact .inr z
  · exact .inl (.inr (.inr z))
 cases r with
 | im d =>
  obtain ⟨c, rfl⟩ := yt e
  intro v H' k rp
  obtain ⟨R', g⟩ := R.more k
  refine q v [] H' R' (.lf (zoL ((Bool.or_eq_true _ _).mp c) (λ st e a z => ?_) rp)) g
  exact (hO [] st e a z).elim id λ m => nomatch m
 | fl ds =>
  obtain ⟨c, rfl⟩ := yt e
  intro l vs H' hl k hl' rp
  obtain ⟨R', g⟩ := R.news (T' := [l]) (by simp) (λ a m => by rw [zzO.mp m]; exact hl) k (λ a m => by rw [zzO.mp m, hl']; simp)
  exact q _ [l] H' R' (.ls hl' (zlp (λ st e a z => (hO [l] st e a z).elim .inl λ m => .inr (zzO.mp m)) c rp)) g
 | fd ds =>
  obtain ⟨c, rfl⟩ := yt e
  intro l vs H' hl k hl' rp
  obtain ⟨R', g⟩ := R.news (T' := [l]) (by simp) (λ a m => by rw [zzO.mp m]; exact hl) k (λ a m => by rw [zzO.mp m, hl']; simp)
  obtain ⟨e1, r1⟩ := zkC rp
  refine q _ [l] H' R' (.dc (vs := vs.map (·.2)) (by rw [hl', <- e1]) (by rw [zD, zD, rp.length]) (zlp (λ st e a z => (hO [l] st e a z).elim .inl λ m => .inr (zzO.mp m)) c r1)) g
end
abbrev EF := AS -> Option (RV × AS)
def al (K : zC) (kd : KD) (f : EF) : TE := λ σ H Q => ∃ F B ad as r as', Rel K kd F B [] ad as σ H /\ f as = some (r, as') /\
 ∀ v T' ad' H', Rel K kd F B T' ad' as' σ H' -> Zq K kd F B T' ad' σ H' v r -> Grow (Gw [] ad) H (Gw T' ad') H' -> Q v H'
@[irreducible] def AE (X : Cx) (kd : KD) (e : Expr) (f : EF) : Prop := PE X e (al X.K kd f)
theorem wC {X : Cx} {e : Expr} {t t' : TE} (h : PE X e t) (k : ∀ σ H Q, t' σ H Q -> t σ H Q) : PE X e t' := λ pins s σ H Q I q => h pins s σ H Q I (k σ H Q q)
section
variable {K : zC} {kd : KD} {F B : Addr -> Prop} {ad : Ad} {as as1 : AS} {σ : St} {H : Hp} {r : RV} {f : EF} {P : VK}
theorem YS (R : Rel K kd F B [] ad as σ H) (e : f as = some (r, as1)) (k : ∀ v ad1 H1, Rel K kd F B [] ad1 as1 σ H1 -> Zq K kd F B [] ad1 σ H1 v r.frz -> Grow (Gw [] ad) H (Gw [] ad1) H1 -> P v H1) : al K kd f σ H P :=
 ⟨F, B, ad, as, r, as1, R, e, λ v T' ad' H' R' rv g => k v ad' H' R'.drop (Zq.drop R' rv) (g.trans (Grow.less Gw.drop))⟩
end
def OpD (X : Cx) (kd : KD) (f : Value -> Value -> Sem Value) (g : D -> D -> Option R0) : Prop :=
 OpR X f (λ x y H Q => ∃ O d e r, (∀ a, O a -> H a ≠ none) /\ Vw X.K kd O H x d /\ Vw X.K kd O H y e /\ g d e = some r /\ RQ X.K kd O H Q r)
def UnD (X : Cx) (kd : KD) (f : Value -> Sem Value) (g : D -> Option R0) : Prop :=
 UnR X f (λ x H Q => ∃ O d r, (∀ a, O a -> H a ≠ none) /\ Vw X.K kd O H x d /\ g d = some r /\ RQ X.K kd O H Q r)
inductive VwL (K : zC) (kd : KD) (O : Addr -> Prop) (H : Hp) : List V -> List D -> Prop
 | nil : VwL K kd O H [] []
 | cons {v : V} {d : D} {vs : List V} {ds : List D} : Vw K kd O H v d -> VwL K kd O H vs ds -> VwL K kd O H (v :: vs) (d :: ds)
def CallD (X : Cx) (kd : KD) (f : Value) (g : List D -> Option R0) : Prop :=
 zbs X f (λ xs H Q => ∃ O ds r, (∀ a, O a -> H a ≠ none) /\ VwL X.K kd O H xs ds /\ g ds = some r /\ RQ X.K kd O H Q r)
def IxD (X : Cx) (kd : KD) (g : D -> D -> Option R0) : Prop :=
 IxR X (λ x y H Q => ∃ O d e r, (∀ a, O a -> H a ≠ none) /\ Vw X.K kd O H x d /\ Vw X.K kd O H y e /\ g d e = some r /\ RQ X.K kd O H Q r)
def meet : Option Bool -> Option Bool -> Option Bool
 | some a, some b => some (a && b)
 | _, _ => none
theorem Obl.meet1 {F B G : Addr -> Prop} {a b : Option Bool} : ∀ x, Obl F B G (meet a b) x -> Obl F B G a x := λ x h => by
 cases a with
 | none => cases b <;> exact h.elim
 | some p =>
  cases b with
  | none => exact h.elim
  | some q => exact zeG (λ z => ((Bool.and_eq_true _ _).mp z).1) x h
theorem Obl.meet2 {F B G : Addr -> Prop} {a b : Option Bool} : ∀ x, Obl F B G (meet a b) x -> Obl F B G b x := λ x h => by
 cases a with
 | none => cases b <;> exact h.elim
 | some p =>
  cases b with
  | none => exact h.elim
  | some q => exact zeG (λ z => ((Bool.and_eq_true _ _).mp z).2) x h
theorem Vw.less {K : zC} {kd : KD} {O O' : Addr -> Prop} {H : Hp} {v : V} {d : D} (g : ∀ a, O' a -> O a) (h : Vw K kd O H v d) : Vw K kd O' H v d := by
 cases h with
 | non => exact .non
 | bl b => exact .bl b
 | int i => exact .int i
 | str x => exact .str x
 | tup r s l => exact .tup (r.less g) s (l.less g)
 | lst h l => exact .lst h (l.less g)
 | dct h l => exact .dct h (l.less g)
 | cl c => exact .cl c
 | ob h k l => exact .ob h k (l.less g)
 | dt h k l => exact .dt h k (l.less g)
def f2 (fa fb : EF) (g : D -> D -> Option R0) : EF := λ as => (fa as).bind λ p => (fb p.2).bind λ q => (p.1.frz.view q.2).bind λ x => (q.1.frz.view q.2).bind λ y => (g x.1 y.1).bind λ r => (wrap (meet x.2 y.2) r).bind λ z => some (z, q.2)
theorem zjW {fa fb : EF} {g : D -> D -> Option R0} {as as' : AS} {rv : RV} (h : f2 fa fb g as = some (rv, as')) :
 ∃ p as1 q x y lx ly r, fa as = some (p, as1) /\ fb as1 = some (q, as') /\ p.frz.view as' = some (x, lx) /\ q.frz.view as' = some (y, ly) /\ g x y = some r /\ wrap (meet lx ly) r = some rv := by
 unfold f2 at h
 obtain ⟨⟨p, as1⟩, h1, h⟩ := bS_ h
 obtain ⟨⟨q, as2⟩, h2, h⟩ := bS_ h
 obtain ⟨⟨x, lx⟩, h3, h⟩ := bS_ h
 obtain ⟨⟨y, ly⟩, h4, h⟩ := bS_ h
 obtain ⟨r, h5, h⟩ := bS_ h
 obtain ⟨z, h6, h⟩ := bS_ h
 cases h
 exact ⟨p, as1, q, x, y, lx, ly, r, h1, h2, h3, h4, h5, h6⟩
section
variable {X : Cx} {kd : KD} {a b c : Expr} {fa fb fc : EF} {pos : Pos}
theorem al2 {g : D -> D -> Option R0} {R2' : R2} (hr : ∀ x y H Q, (∃ O d e r, (∀ a, O a -> H a ≠ none) /\ Vw X.K kd O H x d /\ Vw X.K kd O H y e /\ g d e = some r /\ RQ X.K kd O H Q r) -> R2' x y H Q)
 {σ : St} {H : Hp} {Q : VK} (h : al X.K kd (f2 fa fb g) σ H Q) : tOp R2' (al X.K kd fa) (al X.K kd fb) σ H Q := by
 obtain ⟨F, B, ad, as, r, as', R, e, q⟩ := h
 obtain ⟨p, as1, z, x, y, lx, ly, r0, h1, h2, h3, h4, h5, h6⟩ := zjW e
 refine YS R h1 λ v ad1 H1 R1 rv1 g1 => YS R1 h2 λ u ad2 H2 R2 rv2 g2 => hr _ _ _ _ ?_
 exact ⟨_, x, y, r0, R2.tr _, (Zq.vw R2 (rv1.grow g2) h3).less Obl.meet1, (Zq.vw R2 rv2 h4).less Obl.meet2, h5, Wt R2 h6 λ w T' H' R' rv' g' => q w T' ad2 H' R' rv' ((g1.trans g2).trans g')⟩
theorem zm {op : Operator} {g : D -> D -> Option R0} (ho : OpD X kd (binaryOp op) g) (ha : AE X kd a fa) (hb' : AE X kd b fb) : AE X kd (.BinOp a op b pos) (f2 fa fb g) := by with_unfolding_all exact (wC (zoT ho ha hb') λ σ H Q h => al2 (λ _ _ _ _ z => z) h)
theorem zcn {op : CmpOp} {g : D -> D -> Option R0} (ho : OpD X kd (compareOp op) g) (ha : AE X kd a fa) (hb' : AE X kd b fb) (hm : behindInMarks op b = false) : AE X kd (.Compare a [op] [b] pos) (f2 fa fb g) := by with_unfolding_all exact (wC (znx ho ha hb' hm) λ σ H Q h => al2 (λ _ _ _ _ z => z) h)
theorem zlH {g : D -> D -> Option R0} (ho : IxD X kd g) (ha : AE X kd a fa) (hb' : AE X kd b fb) (hm : Xe b) : AE X kd (.Subscript a b pos) (f2 fa fb g) := by with_unfolding_all exact (wC (zfx ho ha hb' hm) λ σ H Q h => al2 (λ _ _ _ _ z => z) h)
def fC (d : D) : EF := λ as => some (.ow (.lf true d), as)
def fV (i : Nat) : EF := λ as => match as[i]? with
 | some (some (.lf st d)) => some (.ow (.lf st d), as)
 | some (some (.nd _ _)) => some (.bo i, as)
 | _ => none
theorem zgl {v : V} {d : D} (h : PE X a (tC v)) (hr : ∀ O H, Rp X.K kd O H v d) : AE X kd a (fC d) := by with_unfolding_all exact (wC h λ σ H Q h => by
 obtain ⟨F, B, ad, as, r, as', R, e, q⟩ := h
 cases e
 exact q v [] ad H R (.lf (hr _ _)) Grow.refl)
theorem zqG {i : Nat} (h : PE X a (zcB i)) : AE X kd a (fV i) := by with_unfolding_all exact (wC h λ σ H Q h => by
 obtain ⟨F, B, ad, as, r, as', R, e, q⟩ := h
 unfold fV at e
 cases k : as[i]? with
 | none => rw [k] at e; cases e
 | some s =>
  rw [k] at e
  cases s with
  | none => cases e
  | some o =>
   obtain ⟨v, h1, h2⟩ := R.sl i _ k
   cases o with
   | lf st d =>
    cases e
    have e0 : ad i = [] := by
     generalize hfp : ad i = fp at h2
     cases h2
     rfl
    rw [e0] at h2
    exact ⟨v, h1, q v [] ad H R h2 Grow.refl⟩
   | nd kk os =>
    cases e
    exact ⟨_, h1, q _ [] ad H R ⟨rfl, h1⟩ Grow.refl⟩)
end
def Wz (ad : Ad) (i : Nat) (x : List Addr) : Ad := λ j => if j = i then x else ad j
section
variable {K : zC} {kd : KD} {F B : Addr -> Prop} {T T1 T2 : List Addr} {ad ad1 : Ad} {as as1 : AS} {σ : St} {H H1 : Hp} {v : V} {r : RV} {o : O} {i : Nat}
theorem yZ {x : List Addr} : Wz ad i x i = x := if_pos rfl
theorem xq {j : Nat} {x : List Addr} (h : j ≠ i) : Wz ad i x j = ad j := if_neg h
theorem v4 : ∀ a, Gw T (Wz ad i []) a -> Gw T ad a := λ a h => by
 rcases h with h | ⟨j, h⟩
 · exact .inl h
 · by_cases e : j = i
   · subst e; rw [yZ] at h; cases h
   · rw [xq e] at h; exact .inr ⟨j, h⟩
theorem Wu : ∀ a, Gw [] (Wz ad i T) a -> Gw T ad a := λ a h => by
 rcases h with h | ⟨j, h⟩
 · cases h
 · by_cases e : j = i
   · subst e; rw [yZ] at h; exact .inl h
   · rw [xq e] at h; exact .inr ⟨j, h⟩
theorem zjL : ∀ st a, Lv F (λ a => B a \/ a ∈ T) (Gw [] ad) st a -> Lv F B (Gw T ad) st a := λ st a z => by
 rcases z with (z | z | z) | z
 · exact .inl (.inl z)
 · exact .inl (.inr z)
 · exact .inr (.inl z)
 · exact .inr (Gw.drop a z)
theorem V4 : ∀ st a, Lv F B (Gw (T1 ++ T2) ad) st a -> Lv F (λ a => B a \/ a ∈ T1) (Gw T2 ad) st a := λ st a z => by
 rcases z with (z | z) | z | z
 · exact .inl (.inl z)
 · exact .inl (.inr (.inl z))
 · rcases zzJ.mp z with z | z
   · exact .inl (.inr (.inr z))
   · exact .inr (.inl z)
 · exact .inr (.inr z)
theorem Rel.hide (R : Rel K kd F B T ad as σ H) : Rel K kd F (λ a => B a \/ a ∈ T) [] ad as σ H where
 len := R.len
 out := R.out
 nd := R.nd
 inj := R.inj
 tnd := List.nodup_nil
 dis := λ _ _ _ z => nomatch z
 ftr := R.ftr
 btr := λ a h => by
  rcases h with h | h
  · obtain ⟨h1, h2, h3⟩ := R.btr a h
    exact ⟨h1, h2, λ z => h3 (Gw.drop a z)⟩
  · exact ⟨(R.gtr a (.inl h)).1, (R.gtr a (.inl h)).2, λ z => z.elim (λ m => nomatch m) λ ⟨j, y⟩ => R.dis j a y h⟩
 gtr := λ a h => R.gtr a (Gw.drop a h)
 sl := λ i s e => (R.sl i s e).lv zjL
theorem Rel.unhide (hn : T1.Nodup) (hb : ∀ a ∈ T1, ¬ B a) (R : Rel K kd F (λ a => B a \/ a ∈ T1) T2 ad as σ H) : Rel K kd F B (T1 ++ T2) ad as σ H where
 len := R.len
 out := R.out
 nd := R.nd
 inj := R.inj
 tnd := List.nodup_append.mpr ⟨hn, R.tnd, λ a m b m' e => by subst e; exact (R.btr a (.inr m)).2.2 (.inl m')⟩
 dis := λ i a m z => by
  rcases zzJ.mp z with z | z
  · exact (R.btr a (.inr z)).2.2 (.inr ⟨i, m⟩)
  · exact R.dis i a m z
 ftr := R.ftr
 btr := λ a h => by
  obtain ⟨h1, h2, h3⟩ := R.btr a (.inl h)
  refine ⟨h1, h2, λ z => ?_⟩
  rcases z with z | z
  · rcases zzJ.mp z with z | z
    · exact hb a z h
    · exact h3 (.inl z)
  · exact h3 (.inr z)
 gtr := λ a h => by
  rcases h with h | h
  · rcases zzJ.mp h with h | h
    · exact ⟨(R.btr a (.inr h)).1, (R.btr a (.inr h)).2.1⟩
    · exact R.gtr a (.inl h)
  · exact R.gtr a (.inr h)
 sl := λ i s e => (R.sl i s e).lv V4
theorem Rel.frz (R : Rel K kd F B T ad as σ H) (h : as[i]? = some (some o)) :
 Rel K kd F B T (Wz ad i []) (as.set i (some o.frz)) σ H /\ ∃ v, σ[i]? = some (some v) /\ Rp K kd (Lv F B (Gw T (Wz ad i [])) o.str) H v o.toD := by
 obtain ⟨v, hv, ro⟩ := R.sl i _ h
 have rp : Rp K kd (Lv F B (Gw T (Wz ad i [])) o.str) H v o.toD :=
  Ro.rp o.str (λ st v d hs r => r.less λ a z => z.elim (λ y => .inl (y.elim (λ x => .inl ⟨hs x.1, x.2⟩) .inr)) λ y => .inr (v4 a y))
   (λ a n z => n (z.elim (λ y => .inl (y.elim (λ x => .inl ⟨rfl, x.2⟩) .inr)) λ y => .inr (v4 a y))) id
   (λ a m z => by
    rcases z with (z | z) | z | ⟨j, z⟩
    · exact (R.gtr a (.inr ⟨i, m⟩)).2 z.2
    · exact (R.btr a z).2.2 (.inr ⟨i, m⟩)
    · exact R.dis i a m z
    · by_cases e : j = i
      · subst e; rw [yZ] at z; cases z
      · rw [xq e] at z; exact e (R.inj j i a z m)) ro
 have hi : i < as.length := (zzD.mp h).1
 refine ⟨⟨by rw [zzR]; exact R.len, λ j hj => ?_, λ j => ?_, λ j k a h1 h2 => ?_, R.tnd, λ j a h1 => ?_, R.ftr, λ a h1 => ?_, λ a h1 => R.gtr a (v4 a h1), λ j s e => ?_⟩, v, hv, rp⟩
 · rw [zzR] at hj
   rw [xq (by omega)]; exact R.out j hj
 · by_cases e : j = i
   · subst e; rw [yZ]; exact List.nodup_nil
   · rw [xq e]; exact R.nd j
 · by_cases e : j = i
   · subst e; rw [yZ] at h1; cases h1
   · by_cases e' : k = i
     · subst e'; rw [yZ] at h2; cases h2
     · rw [xq e] at h1; rw [xq e'] at h2; exact R.inj j k a h1 h2
 · by_cases e : j = i
   · subst e; rw [yZ] at h1; cases h1
   · rw [xq e] at h1; exact R.dis j a h1
 · obtain ⟨b1, b2, b3⟩ := R.btr a h1
   exact ⟨b1, b2, λ z => b3 (v4 a z)⟩
 · by_cases q : j = i
   · subst q
     rw [List.getElem?_set_self hi] at e
     cases e
     rw [yZ]
     exact ⟨v, hv, .lf rp⟩
   · rw [zzV (Ne.symm q)] at e
     rw [xq q]
     exact (R.sl j s e).less v4
theorem Rel.put (R : Rel K kd F B T ad as σ H) (hi : i < as.length) (h : RoS K kd F B (Gw T ad) H v o T) : Rel K kd F B [] (Wz ad i T) (as.set i (some o)) (σ.set i (some v)) H := by
 have hi' : i < σ.length := by rw [<- R.len]; exact hi
 refine ⟨by rw [zzR, zzR]; exact R.len, λ j hj => ?_, λ j => ?_, λ j k a h1 h2 => ?_, List.nodup_nil, (λ _ _ _ z => nomatch z), R.ftr, λ a h1 => ?_, λ a h1 => R.gtr a (Wu a h1), λ j s e => ?_⟩
 · rw [zzR] at hj
   rw [xq (by omega)]; exact R.out j hj
 · by_cases e : j = i
   · subst e; rw [yZ]; exact R.tnd
   · rw [xq e]; exact R.nd j
 · by_cases e : j = i
   · subst e
     rw [yZ] at h1
     by_cases e' : k = j
     · exact e'.symm
     · rw [xq e'] at h2
       exact (R.dis k a h2 h1).elim
   · rw [xq e] at h1
     by_cases e' : k = i
     · subst e'
       rw [yZ] at h2
       exact (R.dis j a h1 h2).elim
     · rw [xq e'] at h2
       exact R.inj j k a h1 h2
 · obtain ⟨b1, b2, b3⟩ := R.btr a h1
   exact ⟨b1, b2, λ z => b3 (Wu a z)⟩
 · by_cases q : j = i
   · subst q
     rw [List.getElem?_set_self hi] at e
     cases e
     rw [yZ, List.getElem?_set_self hi']
     exact ⟨v, rfl, h.less Wu⟩
   · rw [zzV (Ne.symm q)] at e
     rw [xq q, zzV (Ne.symm q)]
     exact (R.sl j s e).less Wu
def toO (as : AS) : RV -> Option (O × AS)
 | .ow o => some (o, as)
 | .bo i => match as[i]? with
  | some (some o) => some (o.frz, as.set i (some o.frz))
  | _ => none
theorem zem {as' : AS} (R : Rel K kd F B T ad as σ H) (h : Zq K kd F B T ad σ H v r) (e : toO as r = some (o, as')) : ∃ ad', Rel K kd F B T ad' as' σ H /\ RoS K kd F B (Gw T ad') H v o T /\ ∀ a, Gw T ad' a -> Gw T ad a := by
 cases r with
 | ow o' => cases e; exact ⟨ad, R, h, λ _ z => z⟩
 | bo i =>
  have e : (match as[i]? with | some (some o) => some (o.frz, as.set i (some o.frz)) | _ => none) = some (o, as') := e
  cases k : as[i]? with
  | none => rw [k] at e; cases e
  | some s =>
   cases s with
   | none => rw [k] at e; cases e
   | some o1 =>
    rw [k] at e
    cases e
    obtain ⟨hT, hs⟩ := h
    subst hT
    obtain ⟨R', w, hw, rp⟩ := R.frz k
    rw [hs] at hw
    cases hw
    exact ⟨_, R', .lf rp, v4⟩
end
abbrev TF := AS -> Option (Bool × AS)
def alT (K : zC) (kd : KD) (f : TF) : TT := λ σ H Q => ∃ F B ad as b as', Rel K kd F B [] ad as σ H /\ f as = some (b, as') /\
 ∀ ad' H', Rel K kd F B [] ad' as' σ H' -> Grow (Gw [] ad) H (Gw [] ad') H' -> Q b H'
@[irreducible] def AT (X : Cx) (kd : KD) (e : Expr) (f : TF) : Prop := PT X e (alT X.K kd f)
@[irreducible] def AW (X : Cx) (kd : KD) (e : Expr) (f : TF) : Prop := PW X e (alT X.K kd f)
def truth : D -> Option Bool
 | .non => some false
 | .bl b => some b
 | .int i => some (i != 0)
 | .str x => if x.length <= sizeLine then some ((x.length : Int) != 0) else none
 | .tup ds => some (!ds.isEmpty)
 | .lst ds => some (!ds.isEmpty)
 | _ => none
def fT (f : EF) : TF := λ as => (f as).bind λ p => (p.1.frz.view p.2).bind λ x => (truth x.1).bind λ b => some (b, p.2)
def zdD (f g : TF) : TF := λ as => (f as).bind λ p => if p.1 = true then g p.2 else some (false, p.2)
def zfk (f g : TF) : TF := λ as => (f as).bind λ p => if p.1 = true then some (true, p.2) else g p.2
def zgb (f : TF) : TF := λ as => (f as).bind λ p => some (!p.1, p.2)
def asI : D -> Option Int
 | .int i => some i
 | _ => none
def asS : D -> Option Str
 | .str i => some i
 | _ => none
def asL : D -> Option (List D)
 | .lst i => some i
 | _ => none
def asT : D -> Option (List D)
 | .tup i => some i
 | _ => none
theorem zco {d : D} {i : List D} (e : asL d = some i) : d = .lst i := by
 cases d with
 | lst j => cases e; rfl
 | _ => cases e
theorem zma {d : D} {i : List D} (e : asT d = some i) : d = .tup i := by
 cases d with
 | tup j => cases e; rfl
 | _ => cases e
theorem zgD {d : D} {c : Int} (h : asI d = some c) : d = .int c := by
 cases d with
 | int i => cases h; rfl
 | _ => cases h
def rvD : RV -> Option D
 | .ow (.lf _ d) => some d
 | _ => none
theorem zqc {r : RV} {d : D} (h : rvD r = some d) : ∃ st, r = .ow (.lf st d) := by
 cases r with
 | bo i => cases h
 | ow o =>
  cases o with
  | nd k os => cases h
  | lf st d => cases h; exact ⟨st, rfl⟩
def rvI (r : RV) : Option Int := (rvD r).bind asI
theorem zqq {r : RV} {c : Int} (h : rvI r = some c) : ∃ st, r = .ow (.lf st (.int c)) := by
 obtain ⟨d, h1, h⟩ := bS_ h
 cases zgD h
 exact zqc h1
def zog {α : Type} : List α -> Option (α × α)
 | [a, b] => some (a, b)
 | _ => none
theorem zgq {α : Type} {os : List α} {p : α × α} (h : zog os = some p) : os = [p.1, p.2] := by
 cases os with
 | nil => cases h
 | cons x r =>
  cases r with
  | nil => cases h
  | cons y r =>
   cases r with
   | nil => cases h; rfl
   | cons _ _ => cases h
def rvL (r : RV) : Option (Bool × List D) := match r with
 | .ow (.lf s d) => (asL d).bind λ l => some (s, l)
 | _ => none
theorem zmY {r : RV} {p : Bool × List D} (h : rvL r = some p) : r = .ow (.lf p.1 (.lst p.2)) := by
 cases r with
 | bo i => cases h
 | ow o =>
  cases o with
  | nd k os => cases h
  | lf st d =>
   obtain ⟨l, h1, h⟩ := bS_ (show (asL d).bind _ = _ from h)
   cases h
   cases zco h1
   rfl
def f1 (fa : EF) (g : D -> Option R0) : EF := λ as => (fa as).bind λ p => (p.1.frz.view p.2).bind λ x => (g x.1).bind λ r => (wrap x.2 r).bind λ z => some (z, p.2)
section
variable {X : Cx} {kd : KD} {a b c : Expr} {fa fb : EF} {ta tb : TF} {pos : Pos} {es rest : List Expr}
theorem zjB {e : Expr} {t t' : TT} (h : PT X e t) (k : ∀ σ H Q, t' σ H Q -> t σ H Q) : PT X e t' := λ pins s σ H Q I q => h pins s σ H Q I (k σ H Q q)
theorem zlD {e : Expr} {t t' : TT} (h : PW X e t) (k : ∀ σ H Q, t' σ H Q -> t σ H Q) : PW X e t' := λ w pins s σ H Q I q => h w pins s σ H Q I (k σ H Q q)
theorem zqO {O : Addr -> Prop} {H : Hp} {v : V} {d : D} {k : Bool} (h : Vw X.K kd O H v d) (e : truth d = some k) : zqs X.K v H k := by
 cases h with
 | non => cases e; rfl
 | bl b => cases e; rfl
 | int i => cases e; rfl
 | str x =>
  have e : (if x.length <= sizeLine then some ((x.length : Int) != 0) else none) = some k := e
  by_cases hl : x.length <= sizeLine
  · rw [if_pos hl] at e; cases e; exact ⟨hl, rfl⟩
  · rw [if_neg hl] at e; cases e
 | tup r hs hr =>
  cases e
  refine .inr (.inl ⟨_, hs, ?_⟩)
  cases hr <;> rfl
 | lst hs hr =>
  cases e
  refine .inl ⟨_, hs.sq, ?_⟩
  cases hr <;> rfl
 | dct => cases e
 | cl => cases e
 | ob => cases e
 | dt => cases e
theorem zpU (ha : AE X kd a fa) (he : ∀ whole, isTrue a X.env whole = (do let v <- whole; standAt a.pos; holding [v] (truthy v))) : AT X kd a (fT fa) := by with_unfolding_all exact (zjB (znd ha he) λ σ H Q h => by
 obtain ⟨F, B, ad, as, bb, as', R, e, q⟩ := h
 obtain ⟨⟨p, as1⟩, h1, e⟩ := bS_ (show (fa as).bind _ = _ from e)
 obtain ⟨⟨d, lv⟩, h2, e⟩ := bS_ e
 obtain ⟨k, h3, e⟩ := bS_ e
 cases e
 exact YS R h1 λ v ad1 H1 R1 rv1 g1 => ⟨_, zqO (Zq.vw R1 rv1 h2) h3, q ad1 H1 R1 g1⟩)
theorem yM {op : CmpOp} {g : D -> D -> Option R0} (ho : OpD X kd (compareOp op) g) (hg : ∀ x y r, g x y = some r -> ∃ k, r = .im (.bl k)) (ha : AE X kd a fa) (hb : AE X kd b fb) (hm : behindInMarks op b = false) :
 AT X kd (.Compare a [op] [b] pos) (fT (f2 fa fb g)) := by with_unfolding_all exact (zjB (zne ho ha hb hm) λ σ H Q h => by
 obtain ⟨F, B, ad, as, bb, as', R, e, q⟩ := h
 obtain ⟨⟨p, as1⟩, h1, e⟩ := bS_ (show (f2 fa fb g as).bind _ = _ from e)
 obtain ⟨⟨d, lv⟩, h2, e⟩ := bS_ e
 obtain ⟨k, h3, e⟩ := bS_ e
 cases e
 obtain ⟨_, _, _, x, y, _, _, r0, _, _, _, _, hp, hw⟩ := zjW h1
 obtain ⟨k', rfl⟩ := hg _ _ _ hp
 cases hw
 cases h2
 cases h3
 refine al2 (λ _ _ _ _ z => z) ⟨F, B, ad, as, _, _, R, h1, λ v T' ad' H' R' rv g' => ?_⟩
 generalize hT : T' = T2 at rv R' g'
 cases rv with
 | lf rp =>
  cases rp
  exact ⟨_, rfl, q ad' H' R' g'⟩)
theorem zqM (ha : AT X kd a ta) : AT X kd (.UnaryOp .Not a pos) (zgb ta) := by with_unfolding_all exact (zjB (zpW ha) λ σ H Q h => by
 obtain ⟨F, B, ad, as, bb, as', R, e, q⟩ := h
 obtain ⟨⟨p, as1⟩, h1, e⟩ := bS_ (show (ta as).bind _ = _ from e)
 cases e
 exact ⟨F, B, ad, as, p, _, R, h1, λ ad' H' R' g => q ad' H' R' g⟩)
theorem zdz (ha : AT X kd a ta) : AW X kd (.BoolOp .And [a] pos) ta := by with_unfolding_all exact (zob ha)
theorem zcx (ha : AT X kd a ta) : AW X kd (.BoolOp .Or [a] pos) ta := by with_unfolding_all exact (zpf ha)
theorem zlk (ha : AT X kd a ta) (hb : AW X kd (.BoolOp .And (b :: rest) pos) tb) : AW X kd (.BoolOp .And (a :: b :: rest) pos) (zdD ta tb) := by with_unfolding_all exact (zlD (zpw ha hb) λ σ H Q h => by
 obtain ⟨F, B, ad, as, bb, as', R, e, q⟩ := h
 obtain ⟨⟨p, as1⟩, h1, e⟩ := bS_ (show (ta as).bind _ = _ from e)
 refine ⟨F, B, ad, as, p, as1, R, h1, λ ad' H' R' g => ?_⟩
 cases p with
 | true => exact ⟨F, B, ad', as1, bb, as', R', e, λ ad2 H2 R2 g2 => q ad2 H2 R2 (g.trans g2)⟩
 | false => cases e; exact q ad' H' R' g)
theorem zmV (ha : AT X kd a ta) (hb : AW X kd (.BoolOp .Or (b :: rest) pos) tb) : AW X kd (.BoolOp .Or (a :: b :: rest) pos) (zfk ta tb) := by with_unfolding_all exact (zlD (zrC ha hb) λ σ H Q h => by
 obtain ⟨F, B, ad, as, bb, as', R, e, q⟩ := h
 obtain ⟨⟨p, as1⟩, h1, e⟩ := bS_ (show (ta as).bind _ = _ from e)
 refine ⟨F, B, ad, as, p, as1, R, h1, λ ad' H' R' g => ?_⟩
 cases p with
 | false => exact ⟨F, B, ad', as1, bb, as', R', e, λ ad2 H2 R2 g2 => q ad2 H2 R2 (g.trans g2)⟩
 | true => cases e; exact q ad' H' R' g)
theorem AW.at_ {e : Expr} (h : AW X kd e ta) : AT X kd e ta := by with_unfolding_all exact (PW.pt h)
theorem zrP {op : UnaryOp} {g : D -> Option R0} (ho : UnD X kd (unaryOp op) g) (ha : AE X kd a fa) : AE X kd (.UnaryOp op a pos) (f1 fa g) := by with_unfolding_all exact (wC (zrL ho ha) λ σ H Q h => by
 obtain ⟨F, B, ad, as, r, as', R, e, q⟩ := h
 obtain ⟨⟨p, as1⟩, h1, e⟩ := bS_ (show (fa as).bind _ = _ from e)
 obtain ⟨⟨x, lv⟩, h2, e⟩ := bS_ e
 obtain ⟨z, h3, e⟩ := bS_ e
 obtain ⟨y, h4, e⟩ := bS_ e
 cases e
 refine YS R h1 λ v ad1 H1 R1 rv1 g1 => ⟨_, x, z, R1.tr _, Zq.vw R1 rv1 h2, h3, Wt R1 h4 λ w T' H' R' rv' g' => q w T' ad1 H' R' rv' (g1.trans g')⟩)
end
abbrev AF := AS -> Option (List RV × AS)
inductive RVs (K : zC) (kd : KD) (F B : Addr -> Prop) (ad : Ad) (σ : St) (H : Hp) : List V -> List RV -> Prop
 | nil : RVs K kd F B ad σ H [] []
 | cons {v : V} {r : RV} {vs : List V} {rs : List RV} : Zq K kd F B [] ad σ H v r -> RVs K kd F B ad σ H vs rs -> RVs K kd F B ad σ H (v :: vs) (r :: rs)
def alA (K : zC) (kd : KD) (f : AF) : TA := λ σ H Q => ∃ F B ad as rs as', Rel K kd F B [] ad as σ H /\ f as = some (rs, as') /\
 ∀ vs ad' H', Rel K kd F B [] ad' as' σ H' -> RVs K kd F B ad' σ H' vs rs -> Grow (Gw [] ad) H (Gw [] ad') H' -> Q vs H'
@[irreducible] def AA (X : Cx) (kd : KD) (es : List Expr) (f : AF) : Prop := PA X es (alA X.K kd f)
def aN : AF := λ as => some ([], as)
def aC (fa : EF) (fr : AF) : AF := λ as => (fa as).bind λ p => (fr p.2).bind λ q => some (p.1.frz :: q.1, q.2)
theorem zgT {X : Cx} {e : List Expr} {t t' : TA} (h : PA X e t) (k : ∀ σ H Q, t' σ H Q -> t σ H Q) : PA X e t' := λ pos pins s σ H Q I q => h pos pins s σ H Q I (k σ H Q q)
abbrev DF := AS -> Option (List O × AS)
def alD (K : zC) (kd : KD) (f : DF) : TA := λ σ H Q => ∃ F B ad as os as', Rel K kd F B [] ad as σ H /\ f as = some (os, as') /\
 ∀ vs T' ad' H', Rel K kd F B T' ad' as' σ H' -> Zx K kd F B (Gw T' ad') H' vs os T' -> Grow (Gw [] ad) H (Gw T' ad') H' -> Q vs H'
@[irreducible] def AD (X : Cx) (kd : KD) (es : List Expr) (f : DF) : Prop := PA X es (alD X.K kd f)
def dN : DF := λ as => some ([], as)
def dC (fa : EF) (fr : DF) : DF := λ as => (fa as).bind λ p => (toO p.2 p.1).bind λ x => (fr x.2).bind λ q => some (x.1 :: q.1, q.2)
def views (as : AS) : List RV -> Option (List D × Option Bool)
 | [] => some ([], some true)
 | r :: rs => (r.view as).bind λ x => (views as rs).bind λ y => some (x.1 :: y.1, meet x.2 y.2)
def fP (fr : AF) (g : List D -> Option R0) : EF := λ as => (fr as).bind λ p => (views p.2 p.1).bind λ x => (g x.1).bind λ r => (wrap x.2 r).bind λ z => some (z, p.2)
def zmF (as : AS) : RV -> Option (Bool × D)
 | .ow o => some (yu o.toD || o.str, o.toD)
 | .bo i => match as[i]? with
  | some (some o) => some (false, o.toD)
  | _ => none
def zaD (as : AS) : List RV -> Option (List (Bool × D))
 | [] => some []
 | r :: rs => (zmF as r).bind λ x => (zaD as rs).bind λ y => some (x :: y)
def zN (fr : AF) (g : List (Bool × D) -> Option O) : EF := λ as => (fr as).bind λ p => (zaD p.2 p.1).bind λ x => (g x).bind λ o => some (.ow o, p.2)
def RQO (K : zC) (kd : KD) (F : Addr -> Prop) (H : Hp) (Q : VK) (o : O) : Prop :=
 ∀ v T H', T.Nodup -> (∀ a ∈ T, H a = none) -> (∀ b u, H b = some u -> H' b = some u) -> (∀ a ∈ T, H' a ≠ none) -> Ro (λ _ v d => Rp K kd (Un2 F (· ∈ T)) H' v d) (λ a => ¬ Un2 F (· ∈ T) a) H' v o T -> Q v H'
inductive RpA (K : zC) (kd : KD) (F : Addr -> Prop) (H : Hp) : List V -> List (Bool × D) -> Prop
 | nil : RpA K kd F H [] []
 | cons {v : V} {st : Bool} {d : D} {vs : List V} {ds : List (Bool × D)} : Rp K kd (λ a => st = true /\ F a) H v d -> RpA K kd F H vs ds -> RpA K kd F H (v :: vs) ((st, d) :: ds)
def spD (K : zC) (kd : KD) (g : List (Bool × D) -> Option O) : Sp := λ vs H Q _ => ∃ F ds o, (∀ a, F a -> H a ≠ none) /\ RpA K kd F H vs ds /\ g ds = some o /\ RQO K kd F H Q o
def Y4 (os : List O) : O := if os.all O.isLf = true then .lf (O.strs os) (.tup (O.toDs os)) else .nd .tp os
def yN (fr : DF) : EF := λ as => (fr as).bind λ p => if p.1.length <= sizeLine then some (.ow (Y4 p.1), p.2) else none
def xN (fr : DF) : EF := λ as => (fr as).bind λ p => if p.1.length <= sizeLine then some (.ow (.nd .ls p.1), p.2) else none
section
variable {X : Cx} {kd : KD} {a b c : Expr} {fa fb : EF} {ta tb : TF} {pos : Pos} {es rest : List Expr} {fr : AF} {fd : DF}
theorem RpA.length {K : zC} {F : Addr -> Prop} {H : Hp} {vs : List V} {ds : List (Bool × D)} (h : RpA K kd F H vs ds) : vs.length = ds.length := by
 induction h with
 | nil => rfl
 | cons _ _ ih => exact congrArg (· + 1) ih
theorem zr : AA X kd [] aN := by with_unfolding_all exact (zgT zdU λ σ H Q h => by
 obtain ⟨F, B, ad, as, rs, as', R, e, q⟩ := h
 cases e
 exact q [] ad H R .nil Grow.refl)
theorem zf (ha : AE X kd a fa) (hr : AA X kd es fr) (hs : starEach (a :: es) X.env = (false, eval a X.env) :: starEach es X.env) : AA X kd (a :: es) (aC fa fr) := by with_unfolding_all exact (zgT (zbi ha hr hs) λ σ H Q h => by
 obtain ⟨F, B, ad, as, rs, as', R, e, q⟩ := h
 obtain ⟨⟨p, as1⟩, h1, e⟩ := bS_ (show (fa as).bind _ = _ from e)
 obtain ⟨⟨z, as2⟩, h2, e⟩ := bS_ e
 cases e
 refine YS R h1 λ v ad1 H1 R1 rv1 g1 => ⟨F, B, ad1, as1, z, _, R1, h2, λ vs ad2 H2 R2 rv2 g2 => ?_⟩
 exact q _ ad2 H2 R2 (.cons (rv1.grow g2) rv2) (g1.trans g2))
theorem zF : AD X kd [] dN := by with_unfolding_all exact (zgT zdU λ σ H Q h => by
 obtain ⟨F, B, ad, as, rs, as', R, e, q⟩ := h
 cases e
 exact q [] [] ad H R .nil Grow.refl)
theorem zg (ha : AE X kd a fa) (hr : AD X kd es fd) (hs : starEach (a :: es) X.env = (false, eval a X.env) :: starEach es X.env) : AD X kd (a :: es) (dC fa fd) := by with_unfolding_all exact (zgT (zbi ha hr hs) λ σ H Q h => by
 obtain ⟨F, B, ad, as, rs, as', R, e, q⟩ := h
 obtain ⟨⟨p, as1⟩, h1, e⟩ := bS_ (show (fa as).bind _ = _ from e)
 obtain ⟨⟨o, as2⟩, h2, e⟩ := bS_ e
 obtain ⟨⟨os, as3⟩, h3, e⟩ := bS_ e
 cases e
 refine ⟨F, B, ad, as, p, as1, R, h1, λ v T1 ad1 H1 R1 rv1 g1 => ?_⟩
 obtain ⟨ad2, R2, ro2, le2⟩ := zem R1 rv1 h2
 refine ⟨F, _, ad2, as2, os, _, R2.hide, h3, λ vs T3 ad3 H3 R3 ro3 g3 => ?_⟩
 have kT : ∀ a ∈ T1, ∀ u, H1 a = some u -> H3 a = some u := λ a m u e => g3.keep a u e λ z => z.elim (λ y => nomatch y) λ ⟨i, y⟩ => R2.dis i a y m
 have r1 : RoS X.K kd F B (Gw (T1 ++ T3) ad3) H3 v o T1 := RoS.lv V4 (RoS.grow g3 kT (RoS.lv zjL ro2))
 have r3 : Zx X.K kd F B (Gw (T1 ++ T3) ad3) H3 vs os T3 := Zx.lv V4 ro3
 refine q _ (T1 ++ T3) ad3 H3 (R3.unhide R2.tnd λ a m z => (R2.btr a z).2.2 (.inl m)) (.cons r1 r3) ((g1.trans (Grow.less le2)).trans ⟨λ b u e n => g3.keep b u e λ z => n (Gw.drop b z), λ b z => ?_⟩)
 rcases z with z | z
 · rcases zzJ.mp z with z | z
   · exact .inl (.inl z)
   · exact (g3.own b (.inl z)).elim (λ y => .inl (Gw.drop b y)) .inr
 · exact (g3.own b (.inr z)).elim (λ y => .inl (Gw.drop b y)) .inr)
theorem yR {x1} (h : AD X kd es fd) : AE X kd (.Tuple es x1 pos) (yN fd) := by with_unfolding_all exact (wC (zqj h) λ σ H Q h => by
 obtain ⟨F, B, ad, as, r, as', R, e, q⟩ := h
 obtain ⟨⟨os, as1⟩, h1, e⟩ := bS_ (show (fd as).bind _ = _ from e)
 obtain ⟨hz, e⟩ := yt e
 cases e
 refine ⟨F, B, ad, as, os, _, R, h1, λ vs T1 ad1 H1 R1 ro1 g1 => ⟨by rw [ro1.length]; exact hz, λ p hp => ?_⟩⟩
 have k : ∀ b o, H1 b = some o -> upd H1 p (.tup vs) b = some o := λ b o hb => by rw [ye (xj hb hp)]; exact hb
 obtain ⟨R2, g2⟩ := R1.more k
 have ro2 := Zx.grow g2 (λ a _ u h => k a u h) ro1
 have np : ∀ st, ¬ Lv F B (Gw T1 ad1) st p := λ st z => R1.trk st p z hp
 refine q _ T1 ad1 _ R2 ?_ (g1.trans g2)
 show RoS X.K kd F B (Gw T1 ad1) _ _ (Y4 os) T1
 unfold Y4
 by_cases hl : os.all O.isLf = true
 · rw [if_pos hl]
   have := zmo ro2 hl
   subst this
   exact .lf (.tup (np _) yU (zcA ro2 hl))
 · rw [if_neg hl]
   exact .tp (np _) yU ro2)
theorem xu (h : AD X kd es fd) : AE X kd (.List es pos) (xN fd) := by with_unfolding_all exact (wC (zpo h) λ σ H Q h => by
 obtain ⟨F, B, ad, as, r, as', R, e, q⟩ := h
 obtain ⟨⟨os, as1⟩, h1, e⟩ := bS_ (show (fd as).bind _ = _ from e)
 obtain ⟨hz, e⟩ := yt e
 cases e
 refine ⟨F, B, ad, as, os, _, R, h1, λ vs T1 ad1 H1 R1 ro1 g1 => ⟨by rw [ro1.length]; exact hz, λ p hp => ?_⟩⟩
 have k : ∀ b o, H1 b = some o -> upd H1 p (.lst vs) b = some o := λ b o hb => by rw [ye (xj hb hp)]; exact hb
 obtain ⟨R2, g2⟩ := R1.add (N := [p]) (by simp) (λ a m => by rw [zzO.mp m]; exact hp) k (λ a m => by rw [zzO.mp m, yU]; simp)
 exact q _ _ ad1 _ R2 (.ls yU (Zx.grow g2 (λ a _ u h => k a u h) ro1)) (g1.trans g2))
theorem VwL.less {K : zC} {O O' : Addr -> Prop} {H : Hp} (g : ∀ a, O' a -> O a) {vs : List V} {ds : List D} (h : VwL K kd O H vs ds) : VwL K kd O' H vs ds := by
 induction h with
 | nil => exact .nil
 | cons h _ ih => exact .cons (h.less g) ih
theorem zbe {K : zC} {F B : Addr -> Prop} {ad : Ad} {as : AS} {σ : St} {H : Hp} (R : Rel K kd F B [] ad as σ H) {vs : List V} {rs : List RV} {ds : List D} {lv : Option Bool} (h : RVs K kd F B ad σ H vs rs) (e : views as rs = some (ds, lv)) : VwL K kd (Obl F B (Gw [] ad) lv) H vs ds := by
 induction h generalizing ds lv with
 | nil => cases e; exact .nil
 | cons h t ih =>
  obtain ⟨⟨d, l⟩, h1, e⟩ := bS_ (show (RV.view as _).bind _ = _ from e)
  obtain ⟨⟨ds, l2⟩, h2, e⟩ := bS_ e
  cases e
  exact .cons ((Zq.vw R h h1).less Obl.meet1) ((ih h2).less Obl.meet2)
theorem alP {g : List D -> Option R0} {σ : St} {H : Hp} {Q : VK} {R' : List V -> Hp -> VK -> Prop} (hr : ∀ vs H Q, (∃ O ds r, (∀ a, O a -> H a ≠ none) /\ VwL X.K kd O H vs ds /\ g ds = some r /\ RQ X.K kd O H Q r) -> R' vs H Q)
 (h : al X.K kd (fP fr g) σ H Q) : alA X.K kd fr σ H λ vs H1 => R' vs H1 Q := by
 obtain ⟨F, B, ad, as, r, as', R, e, q⟩ := h
 obtain ⟨⟨p, as1⟩, h1, e⟩ := bS_ (show (fr as).bind _ = _ from e)
 obtain ⟨⟨ds, lv⟩, h2, e⟩ := bS_ e
 obtain ⟨z, h3, e⟩ := bS_ e
 obtain ⟨y, h4, e⟩ := bS_ e
 cases e
 exact ⟨F, B, ad, as, p, _, R, h1, λ vs ad1 H1 R1 rv1 g1 => hr _ _ _ ⟨_, ds, z, R1.tr _, zbe R1 rv1 h2, h3, Wt R1 h4 λ w T' H' R' rv' g' => q w T' ad1 H' R' rv' (g1.trans g')⟩⟩
theorem znW {K : zC} {F B : Addr -> Prop} {ad : Ad} {as : AS} {σ : St} {H : Hp} (R : Rel K kd F B [] ad as σ H) {vs : List V} {rs : List RV} {ds : List (Bool × D)} (h : RVs K kd F B ad σ H vs rs) (e : zaD as rs = some ds) : RpA K kd (Lv F B (Gw [] ad) true) H vs ds := by
 induction h generalizing ds with
 | nil => cases e; exact .nil
 | cons h t ih =>
  rename_i v r vs rs
  obtain ⟨⟨st, d⟩, h1, e⟩ := bS_ (show (zmF as r).bind _ = _ from e)
  obtain ⟨ds, h2, e⟩ := bS_ e
  cases e
  refine .cons ?_ (ih h2)
  cases r with
  | ow o =>
   cases h1
   cases hf : yu o.toD with
   | true => exact (zgv h).flat hf
   | false =>
    refine (zdP h).less λ a z => ?_
    have zs : o.str = true := z.1
    rw [zs]
    exact z.2
  | bo i =>
   have e : (match as[i]? with | some (some o) => some (false, o.toD) | _ => none) = some (st, d) := h1
   cases k : as[i]? with
   | none => rw [k] at e; cases e
   | some s =>
    cases s with
    | none => rw [k] at e; cases e
    | some o =>
     rw [k] at e
     cases e
     obtain ⟨w, hw, ro⟩ := R.sl i _ k
     rw [h.2] at hw
     cases hw
     exact (zgv ro).less λ a z => nomatch z.1
theorem zqw {K : zC} {F B : Addr -> Prop} {ad : Ad} {as : AS} {σ : St} {H : Hp} {Q : VK} {o : O} (R : Rel K kd F B [] ad as σ H) (q : ∀ v T' H', Rel K kd F B T' ad as σ H' -> Zq K kd F B T' ad σ H' v (.ow o) -> Grow (Gw [] ad) H (Gw T' ad) H' -> Q v H') :
 RQO K kd (Lv F B (Gw [] ad) true) H Q o := λ v T H' hn hl k h1 ro => by
 obtain ⟨R', g⟩ := R.news hn hl k h1
 have le : ∀ st a, Lv F B (Gw T ad) st a -> Un2 (Lv F B (Gw [] ad) true) (· ∈ T) a := λ st a z => by
  rcases z with (z | z) | z | z
  · exact .inl (.inl (.inl ⟨rfl, z.2⟩))
  · exact .inl (.inl (.inr z))
  · exact .inr z
  · exact .inl (.inr (.inr z))
 exact q v T H' R' (Ro.mono (λ st v d r => r.less (le st)) (λ a vs n e => ⟨λ z => n (le true a z), e⟩) (λ _ _ _ e => e) ro) g
theorem zqn {g : List (Bool × D) -> Option O} {σ : St} {H : Hp} {Q : VK} {E : XK} (h : al X.K kd (zN fr g) σ H Q) : zoQ (spD X.K kd g) [] E (alA X.K kd fr) σ H Q := by
 obtain ⟨F, B, ad, as, r, as', R, e, q⟩ := h
 obtain ⟨⟨p, as1⟩, h1, e⟩ := bS_ (show (fr as).bind _ = _ from e)
 obtain ⟨ds, h2, e⟩ := bS_ e
 obtain ⟨o, h3, e⟩ := bS_ e
 cases e
 refine ⟨F, B, ad, as, p, _, R, h1, λ vs ad1 H1 R1 rv1 g1 => ?_⟩
 show spD X.K kd g (vs ++ []) H1 Q E
 rw [List.append_nil]
 exact ⟨_, ds, o, R1.trk true, znW R1 rv1 h2, h3, zqw R1 λ w T' H' R' rv' g' => q w T' ad1 H' R' rv' (g1.trans g')⟩
end
inductive Out where
 | nx (as : AS) | rt (o : O) | bk (as : AS) | ct (as : AS)
abbrev SF := AS -> Option Out
structure RetOk (K : zC) (kd : KD) (F : Addr -> Prop) (T : List Addr) (H : Hp) (v : V) (o : O) : Prop where
 nd : T.Nodup
 tr : ∀ a ∈ T, H a ≠ none
 ro : Ro (λ _ v d => Rp K kd (Un2 F (· ∈ T)) H v d) (λ a => ¬ Un2 F (· ∈ T) a) H v o T
def zkg (K : zC) (kd : KD) (F B : Addr -> Prop) (ad : Ad) (H : Hp) (D : Ends) : Out -> Prop
 | .nx as' => ∀ σ' ad' H', Rel K kd F B [] ad' as' σ' H' -> Grow (Gw [] ad) H (Gw [] ad') H' -> D.nx σ' H'
 | .bk as' => ∀ σ' ad' H', Rel K kd F B [] ad' as' σ' H' -> Grow (Gw [] ad) H (Gw [] ad') H' -> D.bk σ' H'
 | .ct as' => ∀ σ' ad' H', Rel K kd F B [] ad' as' σ' H' -> Grow (Gw [] ad) H (Gw [] ad') H' -> D.ct σ' H'
 | .rt o => ∀ v T H', RetOk K kd F T H' v o -> Grow (Gw [] ad) H (· ∈ T) H' -> D.rt v H'
def be (K : zC) (kd : KD) (f : SF) : TS := λ D σ H => ∃ F B ad as o, Rel K kd F B [] ad as σ H /\ f as = some o /\ zkg K kd F B ad H D o
@[irreducible] def ASt (X : Cx) (kd : KD) (st : Stmt) (f : SF) : Prop := PS X st (be X.K kd f)
@[irreducible] def ASs (X : Cx) (kd : KD) (st : List Stmt) (f : SF) : Prop := PSs X st (be X.K kd f)
theorem ZP {X : Cx} {e : Stmt} {t t' : TS} (h : PS X e t) (k : ∀ D σ H, t' D σ H -> t D σ H) : PS X e t' := λ pins s σ H D I q => h pins s σ H D I (k D σ H q)
theorem zgu {X : Cx} {e : List Stmt} {t t' : TS} (h : PSs X e t) (k : ∀ D σ H, t' D σ H -> t D σ H) : PSs X e t' := λ pins s σ H D I q => h pins s σ H D I (k D σ H q)
theorem zkg.pre {K : zC} {kd : KD} {F B : Addr -> Prop} {ad ad1 : Ad} {H H1 : Hp} {D : Ends} {o : Out} (g : Grow (Gw [] ad) H (Gw [] ad1) H1) (h : zkg K kd F B ad H D o) : zkg K kd F B ad1 H1 D o := by
 cases o with
 | nx as => exact λ σ' ad' H' R g' => h σ' ad' H' R (g.trans g')
 | bk as => exact λ σ' ad' H' R g' => h σ' ad' H' R (g.trans g')
 | ct as => exact λ σ' ad' H' R g' => h σ' ad' H' R (g.trans g')
 | rt r => exact λ v T H' R g' => h v T H' R (g.trans g')
def sNx : SF := λ as => some (.nx as)
def zL (f g : SF) : SF := λ as => (f as).bind λ o => match o with | .nx as' => g as' | o => some o
def sIf (c : TF) (f g : SF) : SF := λ as => (c as).bind λ p => if p.1 = true then f p.2 else g p.2
def xO (f : EF) : SF := λ as => (f as).bind λ p => some (.nx p.2)
def zlX (as : AS) : RV -> Option O
 | .ow o => if o.str = true then some o else none
 | .bo i => match as[i]? with
  | some (some o) => if o.str = true then some o else none
  | _ => none
def xf (f : EF) : SF := λ as => (f as).bind λ p => (zlX p.2 p.1).bind λ o => some (.rt o)
def zW (z : Bool) (i : Nat) (f : EF) : SF := λ as => (f as).bind λ p => (toO p.2 (if z = true then p.1.frz else p.1)).bind λ x => if i < x.2.length then some (.nx (x.2.set i (some x.1))) else none
theorem Ro.strong {L : Bool -> V -> D -> Prop} {N : Addr -> Prop} {H : Hp} {v : V} {o : O} {fp : List Addr} (h : Ro L N H v o fp) (e : o.str = true) : Ro (λ st v d => st = true /\ L st v d) N H v o fp :=
 Ro.rec (motive_1 := λ v o fp _ => o.str = true -> Ro (λ st v d => st = true /\ L st v d) N H v o fp) (motive_2 := λ vs os fp _ => O.strs os = true -> RoL (λ st v d => st = true /\ L st v d) N H vs os fp)
  (λ h e => .lf ⟨e, h⟩) (λ h _ r e => .ls h (r e)) (λ h l _ r e => .dc h l (r e)) (λ c h l _ r e => .ob ⟨rfl, c⟩ h l (r e)) (λ h l _ r e => .dt h l (r e)) (λ n h _ r e => .tp n h (r e)) (λ _ => .nil) (λ _ _ h r e => .cons (h ((Bool.and_eq_true _ _).mp e).1) (r ((Bool.and_eq_true _ _).mp e).2)) h e
section
variable {K : zC} {kd : KD} {F B : Addr -> Prop} {T : List Addr} {ad ad1 : Ad} {as as1 : AS} {σ : St} {H H1 : Hp} {v : V} {r : RV} {o : O}
theorem zjb {T' : List Addr} (R : Rel K kd F B T ad as σ H) (hn : T'.Nodup) (hs : ∀ a ∈ T', Gw T ad a) (h : RoS K kd F B (Gw T ad) H v o T') (e : o.str = true) : RetOk K kd F T' H v o := by
 have le : ∀ a, Un2 F (· ∈ T') a -> Lv F B (Gw T ad) true a := λ a z => z.elim (λ y => .inl (.inl ⟨rfl, y⟩)) λ y => .inr (hs a y)
 exact ⟨hn, λ a m => (R.gtr a (hs a m)).1, Ro.mono (λ st v d r => by obtain ⟨rfl, r⟩ := r; exact r.less le) (λ a vs n e => ⟨λ z => n (le a z), e⟩) (λ _ _ _ e => e) (Ro.strong h e)⟩
theorem Rel.ret (R : Rel K kd F B T ad as σ H) (hr : Zq K kd F B T ad σ H v r) (e : zlX as r = some o) : ∃ T', RetOk K kd F T' H v o /\ ∀ b ∈ T', Gw T ad b := by
 cases r with
 | ow o' =>
  obtain ⟨hs, rfl⟩ := yt e
  exact ⟨T, zjb R R.tnd (λ a m => .inl m) hr hs, λ a m => .inl m⟩
 | bo i =>
  have e : (match as[i]? with | some (some o) => if o.str = true then some o else none | _ => none) = some o := e
  cases k : as[i]? with
  | none => rw [k] at e; cases e
  | some s =>
   cases s with
   | none => rw [k] at e; cases e
   | some o1 =>
    rw [k] at e
    obtain ⟨hs, rfl⟩ := yt e
    obtain ⟨w, hw, ro⟩ := R.sl i _ k
    rw [hr.2] at hw
    cases hw
    exact ⟨ad i, zjb R (R.nd i) (λ a m => .inr ⟨i, m⟩) ro hs, λ a m => .inr ⟨i, m⟩⟩
end
section
variable {X : Cx} {kd : KD} {st : Stmt} {sts rest : List Stmt} {a b c e : Expr} {fa fb : EF} {ta : TF} {pos : Pos} {f g : SF}
theorem yP : ASs X kd [] sNx := by with_unfolding_all exact (zgu zoB λ D σ H h => by
 obtain ⟨F, B, ad, as, o, R, e, q⟩ := h
 cases e
 exact q σ ad H R Grow.refl)
theorem zj (h1 : ASt X kd st f) (h2 : ASs X kd rest g) : ASs X kd (st :: rest) (zL f g) := by with_unfolding_all exact (zgu (zhy h1 h2) λ D σ H h => by
 obtain ⟨F, B, ad, as, o, R, e, q⟩ := h
 obtain ⟨o1, e1, e⟩ := bS_ (show (f as).bind _ = _ from e)
 refine ⟨F, B, ad, as, o1, R, e1, ?_⟩
 cases o1 with
 | nx as1 => exact λ σ' ad' H' R' g' => ⟨F, B, ad', as1, o, R', e, q.pre g'⟩
 | bk as1 => cases e; exact q
 | ct as1 => cases e; exact q
 | rt r => cases e; exact q)
theorem zx (h1 : ASt X kd st f) : ASs X kd [st] f := by with_unfolding_all exact (zjN h1)
theorem ww (hc : AT X kd c ta) (ha : ASs X kd sts f) (hb : ASs X kd rest g) : ASt X kd (.If c sts rest pos) (sIf ta f g) := by with_unfolding_all exact (ZP (zry hc ha hb) λ D σ H h => by
 obtain ⟨F, B, ad, as, o, R, e, q⟩ := h
 obtain ⟨⟨p, as1⟩, h1, e⟩ := bS_ (show (ta as).bind _ = _ from e)
 refine ⟨F, B, ad, as, p, as1, R, h1, λ ad' H' R' g => ?_⟩
 cases p with
 | true => exact ⟨F, B, ad', as1, o, R', e, q.pre g⟩
 | false => exact ⟨F, B, ad', as1, o, R', e, q.pre g⟩)
theorem vJ (he : AE X kd e fa) (hs : swapsWith e none pos.line X.env = pure false) : ASt X kd (.Expr e pos) (xO fa) := by with_unfolding_all exact (ZP (zoE he hs) λ D σ H h => by
 obtain ⟨F, B, ad, as, o, R, e, q⟩ := h
 obtain ⟨⟨p, as1⟩, h1, e⟩ := bS_ (show (fa as).bind _ = _ from e)
 cases e
 exact ⟨F, B, ad, as, p, as1, R, h1, λ v T' ad' H' R' rv g => q σ ad' H' R'.drop (g.trans (Grow.less Gw.drop))⟩)
theorem yh (he : AE X kd e fa) : ASt X kd (.Return (some e) pos) (xf fa) := by with_unfolding_all exact (ZP (zqb he) λ D σ H h => by
 obtain ⟨F, B, ad, as, o, R, e, q⟩ := h
 obtain ⟨⟨p, as1⟩, h1, e⟩ := bS_ (show (fa as).bind _ = _ from e)
 obtain ⟨r, h2, e⟩ := bS_ e
 cases e
 refine ⟨F, B, ad, as, p, as1, R, h1, λ v T' ad' H' R' rv g => ?_⟩
 obtain ⟨T2, ro, le⟩ := R'.ret rv h2
 exact q v T2 H' ro (g.trans (Grow.less le)))
theorem ziH {K : zC} {F B : Addr -> Prop} {T : List Addr} {ad : Ad} {as as2 : AS} {σ : St} {H : Hp} {v : V} {r : RV} {z : Bool} {o : O} {i : Nat} (R : Rel K kd F B T ad as σ H) (rv : Zq K kd F B T ad σ H v r)
 (h2 : toO as (if z = true then r.frz else r) = some (o, as2)) (hl : i < as2.length) : ∃ ad', Rel K kd F B [] ad' (as2.set i (some o)) (σ.set i (some v)) H /\ ∀ a, Gw [] ad' a -> Gw T ad a := by
 cases z with
 | true =>
  obtain ⟨ad1, R1, ro, le⟩ := zem R.drop (Zq.drop R rv) h2
  exact ⟨_, R1.put hl ro, λ a y => Gw.drop a (le a (Wu a y))⟩
 | false =>
  obtain ⟨ad1, R1, ro, le⟩ := zem R rv h2
  exact ⟨_, R1.put hl ro, λ a y => le a (Wu a y)⟩
theorem zpK {z : Bool} {i : Nat} {x : Str} {pos' : Pos} (hN : X.N.Nodup) (hi : X.N[i]? = some x) (hx : Loc X.env.scope x) (he : AE X kd e fa) (hs : swapsWith e (some (.Name x pos')) pos.line X.env = pure false) (hf : X.fn x = true \/ X.env.scope.names.lookup x = some .local) :
 ASt X kd (.Assign [.Name x pos'] e pos) (zW z i fa) := by with_unfolding_all exact (ZP (zlI hN hi hx he hs hf) λ D σ H h => by
 obtain ⟨F, B, ad, as, o, R, e, q⟩ := h
 obtain ⟨⟨p, as1⟩, h1, e⟩ := bS_ (show (fa as).bind _ = _ from e)
 obtain ⟨⟨y, as2⟩, h2, e⟩ := bS_ e
 obtain ⟨hl, e⟩ := yt e
 cases e
 refine ⟨F, B, ad, as, p, as1, R, h1, λ v T' ad' H' R' rv g => ?_⟩
 obtain ⟨ad2, R2, le⟩ := ziH R' rv h2 hl
 exact q _ ad2 H' R2 (g.trans (Grow.less le)))
end
def zat (n : Nat) (ds : List (Bool × D)) : AS := ds.map (λ x => some (.lf x.1 x.2)) ++ List.replicate (n - ds.length) none
def zsA : Out -> Option O
 | .nx _ => some (.lf true .non)
 | .rt o => some o
 | _ => none
def fnR (n m : Nat) (f : SF) (ds : List (Bool × D)) : Option O := if ds.length = m then (f (zat n ds)).bind zsA else none
theorem RpA.get {K : zC} {kd : KD} {F : Addr -> Prop} {H : Hp} : ∀ {vs : List V} {ds : List (Bool × D)} {i : Nat} {x : Bool × D}, RpA K kd F H vs ds -> ds[i]? = some x -> ∃ v, vs[i]? = some v /\ Rp K kd (λ a => x.1 = true /\ F a) H v x.2
 | _, _, _, _, .nil, e => by simp at e
 | _, _, 0, _, .cons h _, e => by simp at e; subst e; exact ⟨_, rfl, h⟩
 | _, _, i + 1, _, .cons _ r, e => by
  obtain ⟨v, h1, h2⟩ := RpA.get (i := i) r (by simpa using e)
  exact ⟨v, by simpa using h1, h2⟩
theorem zkZ {K : zC} {kd : KD} {F : Addr -> Prop} {H : Hp} {N : List Str} {vs : List V} {ds : List (Bool × D)} (ht : ∀ a, F a -> H a ≠ none) (rp : RpA K kd F H vs ds) :
 Rel K kd F (λ _ => False) [] (λ _ => []) (zat N.length ds) (L2.start N vs) H := by
 have hl := rp.length
 have no : ∀ a, ¬ Gw [] (λ _ => []) a := λ a z => z.elim (λ y => nomatch y) λ ⟨_, y⟩ => nomatch y
 refine ⟨by unfold zat L2.start; simp [hl], λ _ _ => rfl, λ _ => List.nodup_nil, (λ _ _ _ z => nomatch z), List.nodup_nil, (λ _ _ _ z => nomatch z), ht, (λ _ z => z.elim), λ a z => (no a z).elim, λ i s e => ?_⟩
 unfold zat at e
 unfold L2.start
 by_cases hi : i < ds.length
 · rw [List.getElem?_append_left (by rw [zD]; exact hi), zzF] at e
   obtain ⟨d, hd, ea⟩ := zzU.mp e
   subst ea
   obtain ⟨v, hv, rv⟩ := rp.get hd
   rw [List.getElem?_append_left (by rw [zD, hl]; exact hi), zzF, hv]
   refine ⟨v, rfl, .lf (rv.less λ a z => ?_)⟩
   rcases z with (z | z) | z
   · exact z
   · exact z.elim
   · exact (no a z).elim
 · rw [List.getElem?_append_right (by rw [zD]; omega)] at e
   have := List.mem_of_getElem? e
   have ea : s = none := (List.mem_replicate.mp this).2
   subst ea
   rfl
section
variable {P : Program} {w : World} {K : zC} {mg : Str -> Option Value} {base : Heap}
theorem zlF {kd : KD} {F : Addr -> Prop} {H H' : Hp} {Q : VK} {o : O} {v : V} {T : List Addr} (q : RQO K kd F H Q o) (ro : RetOk K kd F T H' v o) (g : Grow (Gw [] λ _ => []) H (· ∈ T) H') : Q v H' := by
 have no : ∀ a, ¬ Gw [] (λ _ => []) a := λ a z => z.elim (λ y => nomatch y) λ ⟨_, y⟩ => nomatch y
 exact q v T H' ro.nd (λ a m => (g.own a m).resolve_left (no a)) (λ b u h => g.keep b u h (no b)) ro.tr ro.ro
theorem wF {kd : KD} {x qual : Str} {st : Stmt} {f : Addr} {fd : FuncData} {N ps : List Str} {k : Nat} {c : SF} (Fn : Fun K x qual st f fd) (S : FnScope N ps (zy st))
 (hb : ∀ (cdv : Value) (A : Around) (outer : List Env) (s : Shared) (H : Hp) (E : XK), Room k (A.deeper (envOfC qual (zy st) s.heap.objs.size f cdv)) -> ASs (zjd CX0 P w K mg base N qual (zy st) f cdv A outer s H E).nox kd (zbM st) c) :
 FnOk P w K mg base CX0 (k + 1) f fd ps (spD K kd (fnR N.length ps.length c)) := by
 with_unfolding_all (
 refine Fn.ok S (λ vs H Q E h => ?_) (λ cdv A outer s H vs Q E hr h => ⟨_, hb cdv A outer s H E hr, ?_⟩)
 · obtain ⟨F, ds, r, _, rp, e, _⟩ := h
   unfold fnR at e
   by_cases hl : ds.length = ps.length
   · rw [rp.length, hl]
   · rw [if_neg hl] at e; cases e
 · obtain ⟨F, ds, r, ht, rp, e, q⟩ := h
   unfold fnR at e
   by_cases hl : ds.length = ps.length
   · rw [if_pos hl] at e
     obtain ⟨o, e1, e⟩ := bS_ e
     refine ⟨F, λ _ => False, λ _ => [], zat N.length ds, o, zkZ ht rp, e1, ?_⟩
     cases o with
     | nx as => cases e; exact λ σ' ad' H' R g => zlF q (T := []) ⟨List.nodup_nil, (λ _ m => nomatch m), .lf .non⟩ (g.trans (Grow.less (λ _ z => nomatch z)))
     | rt o => cases e; exact λ v T H' ro g => zlF q ro g
     | bk => cases e
     | ct => cases e
   · rw [if_neg hl] at e; cases e)
end
abbrev It1 := Bool × D
abbrev GF := It1 -> AS -> Option AS
abbrev GFs := List It1 -> AS -> Option AS
def kids (st : Bool) (ds : List D) : List It1 := ds.map λ d => (yu d || st, d)
inductive RpI (K : zC) (kd : KD) (F B G : Addr -> Prop) (H : Hp) : List V -> List It1 -> Prop
 | nil : RpI K kd F B G H [] []
 | cons {v : V} {x : It1} {vs : List V} {ds : List It1} : Rp K kd (Lv F B G x.1) H v x.2 -> RpI K kd F B G H vs ds -> RpI K kd F B G H (v :: vs) (x :: ds)
def alG (K : zC) (kd : KD) (S : List Nat) (g : GF) : TG := λ v σ H Q => ∃ F B ad as x as', Rel K kd F B [] ad as σ H /\ Rp K kd (Lv F B (Gw [] ad) x.1) H v x.2 /\ g x as = some as' /\
 ∀ σ' ad' H', Rel K kd F B [] ad' as' σ' H' -> Grow (Gw [] ad) H (Gw [] ad') H' -> (∀ j, j ∉ S -> σ'[j]? = σ[j]?) -> Q σ' H'
def zsL (K : zC) (kd : KD) (S : List Nat) (g : GFs) : TGs := λ vs σ H Q => ∃ F B ad as ds as', Rel K kd F B [] ad as σ H /\ RpI K kd F B (Gw [] ad) H vs ds /\ g ds as = some as' /\
 ∀ σ' ad' H', Rel K kd F B [] ad' as' σ' H' -> Grow (Gw [] ad) H (Gw [] ad') H' -> (∀ j, j ∉ S -> σ'[j]? = σ[j]?) -> Q σ' H'
@[irreducible] def AG (X : Cx) (kd : KD) (tg : Expr) (S : List Nat) (g : GF) : Prop := PG X tg (alG X.K kd S g)
@[irreducible] def AGs (X : Cx) (kd : KD) (tg : List Expr) (S : List Nat) (g : GFs) : Prop := PGs X tg (zsL X.K kd S g)
theorem zql {X : Cx} {e : Expr} {t t' : TG} (h : PG X e t) (k : ∀ v σ H Q, t' v σ H Q -> t v σ H Q) : PG X e t' := λ pins s σ H v u Q I r q => h pins s σ H v u Q I r (k v σ H Q q)
theorem zkr {X : Cx} {e : List Expr} {t t' : TGs} (h : PGs X e t) (k : ∀ v σ H Q, t' v σ H Q -> t v σ H Q) : PGs X e t' := λ pins s σ H v u Q I r q => h pins s σ H v u Q I r (k v σ H Q q)
def gN (i : Nat) : GF := λ x as => if i < as.length then some (as.set i (some (.lf x.1 x.2))) else none
def gsN : GFs := λ ds as => match ds with | [] => some as | _ :: _ => none
def gsC (g : GF) (gs : GFs) : GFs := λ ds as => match ds with | [] => none | d :: r => (g d as).bind λ as1 => gs r as1
def gT (n : Nat) (gs : GFs) : GF := λ x as => match x.2 with
 | .tup ds => if ds.length = n then gs (kids x.1 ds) as else none
 | .lst ds => if ds.length = n then gs (kids x.1 ds) as else none
 | _ => none
section
variable {K : zC} {kd : KD} {F B G G' : Addr -> Prop} {H H' : Hp}
theorem RpI.length {vs : List V} {ds : List It1} (h : RpI K kd F B G H vs ds) : vs.length = ds.length := by
 induction h with
 | nil => rfl
 | cons _ _ ih => exact congrArg (· + 1) ih
theorem RpI.grow (g : Grow G H G' H') {vs : List V} {ds : List It1} (h : RpI K kd F B G H vs ds) : RpI K kd F B G' H' vs ds := by
 induction h with
 | nil => exact .nil
 | cons h _ ih => exact .cons (Rp.grow g h) ih
theorem RpI.get {vs : List V} {ds : List It1} {i : Nat} {x : It1} (h : RpI K kd F B G H vs ds) (e : ds[i]? = some x) : ∃ v, vs[i]? = some v /\ Rp K kd (Lv F B G x.1) H v x.2 := by
 induction h generalizing i with
 | nil => simp at e
 | cons h r ih =>
  cases i with
  | zero => simp at e; subst e; exact ⟨_, rfl, h⟩
  | succ i =>
   obtain ⟨v, h1, h2⟩ := ih (i := i) (by simpa using e)
   exact ⟨v, by simpa using h1, h2⟩
theorem VR {st : Bool} {vs : List V} {ds : List D} (h : RpL K kd (Lv F B G st) H vs ds) : RpI K kd F B G H vs (kids st ds) :=
 RpL.ind (P := λ vs ds => RpI K kd F B G H vs (kids st ds)) .nil (λ {v d vs ds} h _ ih => by
  refine .cons (x := (yu d || st, d)) ?_ ih
  cases e : yu d with
  | true => exact h.flat e
  | false => exact h) h
end
section
variable {prog : Program} {w : World} {A : Around} {E : Value -> Shared -> Prop} {s : Shared}
theorem zfT {it l : Addr} {items : Array Value} (hne : l ≠ it) : ∀ (n i : Nat) (s : Shared) (Q : List Value -> Shared -> Prop), s.heap.IsListIter it l i -> s.heap.IsList l items -> i + n <= items.size ->
 (∀ h', h'.IsListIter it l (i + n) -> Heap.SameBut it s.heap h' -> Q ((items.toList.drop i).take n) { s with heap := h' }) -> wpAny (model prog w) A (draw (.ref it) n) Q E s
 | 0, i, s, Q, hit, _, _, hQ => by
  show wpAny _ _ (pure []) Q E s
  exact wpAny_pure (by simpa using hQ s.heap hit (Heap.SameBut.refl ..))
 | n + 1, i, s, Q, hit, ht, hle, hQ => by
  have hlt : i < items.size := by omega
  show wpAny _ _ (pyNext (.ref it) >>= _) Q E s
  refine wpAny_bind (wpAny_pyNext_list_item hit ht (x := items[i]) (by simp [hlt]) λ h₁ hit₁ hs₁ => ?_)
  refine wpAny_bind (wpAny_holding (zfT hne n (i + 1) _ _ hit₁ (ht.extBut hs₁.extBut hne) (by omega) λ h₂ hit₂ hs₂ => wpAny_pure ?_))
  have hd : items.toList.drop i = items[i] :: items.toList.drop (i + 1) := by simp [List.drop_eq_getElem_cons, hlt]
  have := hQ h₂ (by rw [show i + (n + 1) = i + 1 + n by omega]; exact hit₂) (hs₁.trans hs₂)
  rw [hd, List.take_succ_cons] at this
  exact this
theorem zhl {l : Addr} {items : Array Value} {targets : List (Bool × (Value -> Sem Unit))} {Q : Unit -> Shared -> Prop} (hh : A.handled = none) (ht : s.heap.IsList l items)
 (hn : targets.length = items.size) (hstar : targets.findIdx? (·.1) = none)
 (h : ∀ h', Heap.ExtBut s.heap.objs.size s.heap h' -> wpAny (model prog w) A (assignInOrder (targets.map (·.2)) items.toList) Q E { s with heap := h' }) :
 wpAny (model prog w) A (unpack (.ref l) targets) Q E s := by
 unfold unpack
 rw [hn, hstar]
 refine wpAny_bind (wpAny_holding ?_)
 have hlt : l ≠ s.heap.objs.size := by obtain ⟨o, ho, _⟩ := ht; exact zzN (Heap.lt_size ho)
 unfold unpackItems
 refine wpAny_bind ?_
 unfold notIterableAtAll
 refine wpAny_bind (wpAny_specialOf ht.typeIs PySem.F.slot_list_iter.lookup ?_)
 refine wpAny_pure ?_
 simp only [Bool.false_eq_true, if_false]
 refine wpAny_bind (wpAny_holding (wpAny_pyIter_list ht ?_))
 refine wpAny_bind (wpAny_holding (zfT hlt items.size 0 _ _ ⟨_, Heap.get?_push_size _ rfl, rfl, rfl⟩ (ht.push _) (by omega) λ h₁ hit₁ hs₁ => ?_))
 have hall : List.take items.size (List.drop 0 items.toList) = items.toList := by
  rw [List.drop_zero]; exact List.take_of_length_le (by simp)
 rw [hall]
 rw [if_neg (by simp)]
 have ht₁ : h₁.IsList l items := (ht.push _).extBut hs₁.extBut hlt
 refine wpAny_bind (wpAny_holding (wpAny_pyNext_list_end hh hit₁ ht₁ (by simp) λ h₂ he₂ => ?_))
 simp only [Option.isSome_none, Bool.false_eq_true, if_false]
 exact wpAny_pure (h h₂ λ b o hb e => he₂ b o hb (hs₁.extBut b o hb (Heap.get?_push_of_some _ e)))
end
section
variable {X : Cx} {kd : KD} {a b c e tg iter : Expr} {es : List Expr} {body : List Stmt} {fa fb : EF} {pos : Pos} {g : GF} {gs : GFs} {f : SF} {ta : TF} {S S1 S2 : List Nat}
def zsv (K : zC) (n : Nat) (t : TGs) : TG := λ v σ H Q => ∃ a xs, v = .ref a /\ SqL K H a xs /\ xs.length = n /\ t xs σ H Q
theorem zlY {es : List Expr} {k : Nat} {t : TGs} {n : Nat} (hc : X.calm = true) (h : PGs X es t) (hn : (assignEach es X.env).length = n) (hst : (assignEach es X.env).findIdx? (·.1) = none) : PG X (.Tuple es k pos) (zsv X.K n t) := by
 intro pins s σ H v u Q I r hw
 obtain ⟨a, xs, e1, hq, hl, hw⟩ := hw
 subst e1
 cases r
 obtain ⟨its, rv, ht, hz⟩ := I.list hq
 rw [assign_Tuple]
 refine wpAny_bind (wpAny_standAt (zhl (I.ok.hd hc) ht.isList (by simp [hn, <- hl, rv.length]) hst λ h' hx => ?_))
 have I1 : Inv X pins σ H { s with heap := h' } := I.kept (t' := s.toks) λ b o e => hx b o (zzN (Heap.lt_size e)) e
 exact h pins _ σ H xs _ Q I1 (by simpa using rv) hw
theorem znB {i : Nat} {x : Str} (hN : X.N.Nodup) (hi : X.N[i]? = some x) (hx : Loc X.env.scope x) (hf : X.fn x = true \/ X.env.scope.names.lookup x = some .local) : AG X kd (.Name x pos) [i] (gN i) := by with_unfolding_all exact (zql (zom hN hi hx hf) λ v σ H Q h => by
 obtain ⟨F, B, ad, as, y, as', R, rp, e, q⟩ := h
 obtain ⟨hl, e⟩ := yt e
 cases e
 exact q _ _ H (R.put hl (o := .lf y.1 y.2) (.lf rp)) (Grow.less Wu) λ j hj => zzV (λ z => hj (by rw [z]; simp)))
theorem vf : AGs X kd [] [] gsN := by with_unfolding_all exact (zkr znL λ vs σ H Q h => by
 obtain ⟨F, B, ad, as, ds, as', R, rp, e, q⟩ := h
 cases rp with
 | nil => cases e; exact ⟨rfl, q σ ad H R Grow.refl λ _ _ => rfl⟩
 | cons => cases e)
theorem zX (h1 : AG X kd a S1 g) (h2 : AGs X kd es S2 gs) (hs : (assignEach (a :: es) X.env).map (·.2) = assign a X.env :: (assignEach es X.env).map (·.2)) : AGs X kd (a :: es) (S1 ++ S2) (gsC g gs) := by with_unfolding_all exact (zkr (zmm h1 h2 hs) λ vs σ H Q h => by
 obtain ⟨F, B, ad, as, ds, as', R, rp, e, q⟩ := h
 cases rp with
 | nil => cases e
 | cons r rr =>
  obtain ⟨as1, e1, e⟩ := bS_ (show (g _ as).bind _ = _ from e)
  refine ⟨_, _, rfl, F, B, ad, as, _, as1, R, r, e1, λ σ' ad' H' R' g' k' => ?_⟩
  exact ⟨F, B, ad', as1, _, as', R', rr.grow g', e, λ σ2 ad2 H2 R2 g2 k2 => q σ2 ad2 H2 R2 (g'.trans g2) λ j hj => (k2 j λ z => hj (zzI _ z)).trans (k' j λ z => hj (zzM _ z))⟩)
theorem Zo {k n : Nat} (hc : X.calm = true) (h : AGs X kd es S gs) (hn : (assignEach es X.env).length = n) (hst : (assignEach es X.env).findIdx? (·.1) = none) : AG X kd (.Tuple es k pos) S (gT n gs) := by
 with_unfolding_all (
 intro pins s σ H v u Q I r hw
 obtain ⟨F, B, ad, as, ⟨st, d⟩, as', R, rp, e, q⟩ := hw
 cases d with
 | tup ds =>
  have e : (if ds.length = n then gs (kids st ds) as else none) = some as' := e
  by_cases hl : ds.length = n
  · rw [if_pos hl] at e
    have go : ∃ a xs, v = .ref a /\ SqT X.K H a xs /\ RpL X.K kd (Lv F B (Gw [] ad) st) H xs ds := by
     cases rp with
     | tup n h r => exact ⟨_, _, rfl, .inl (.inl h), r⟩
    obtain ⟨a, xs, rfl, hs, rl⟩ := go
    exact zqB hc h hn hst pins s σ H _ u Q I r ⟨a, xs, rfl, hs, by rw [rl.length, hl], F, B, ad, as, _, as', R, VR rl, e, q⟩
  · rw [if_neg hl] at e; cases e
 | lst ds =>
  have e : (if ds.length = n then gs (kids st ds) as else none) = some as' := e
  by_cases hl : ds.length = n
  · rw [if_pos hl] at e
    cases rp with
    | lstK a b c r' => exact zlY hc h hn hst pins s σ H _ u Q I r ⟨_, _, rfl, .inr ⟨_, _, _, a, rfl, rfl, rfl, b, c⟩, by rw [r'.length, hl], F, B, ad, as, _, as', R, VR r', e, q⟩
    | lst n h' r' => exact zlY hc h hn hst pins s σ H _ u Q I r ⟨_, _, rfl, .inl h', by rw [r'.length, hl], F, B, ad, as, _, as', R, VR r', e, q⟩
  · rw [if_neg hl] at e; cases e
 | _ => cases e)
def Va (as : AS) (r : RV) : Option (It1 × AS) := (toO as r.frz).bind λ x => match x.1 with | .lf st d => some ((st, d), x.2) | _ => none
theorem Xq {K : zC} {F B : Addr -> Prop} {T : List Addr} {ad : Ad} {as as' : AS} {σ : St} {H : Hp} {v : V} {r : RV} {x : It1} (R : Rel K kd F B T ad as σ H) (h : Zq K kd F B T ad σ H v r) (e : Va as r = some (x, as')) :
 ∃ ad', Rel K kd F B [] ad' as' σ H /\ Rp K kd (Lv F B (Gw [] ad') x.1) H v x.2 /\ ∀ a, Gw [] ad' a -> Gw T ad a := by
 obtain ⟨⟨o, as1⟩, h1, e⟩ := bS_ e
 obtain ⟨ad1, R1, ro, le⟩ := zem R.drop (Zq.drop R h) h1
 cases o with
 | lf st d =>
  cases e
  refine ⟨ad1, R1, ?_, λ a y => Gw.drop a (le a y)⟩
  have := zdP ro
  exact this
 | nd k os => cases e
def zgr (f : EF) (g : GF) : SF := λ as => (f as).bind λ p => (Va p.2 p.1).bind λ q => (g q.1 q.2).bind λ as' => some (.nx as')
theorem zgX (he : AE X kd e fa) (hg : AG X kd tg S g) (hs : swapsWithSole [tg] e pos.line X.env = pure false) (hw : swappedStores [tg] e X.env = pure none) (h1 : (assignEach [tg] X.env).map (·.2) = [assign tg X.env]) :
 ASt X kd (.Assign [tg] e pos) (zgr fa g) := by with_unfolding_all exact (ZP (zgS he hg hs hw h1) λ D σ H h => by
 obtain ⟨F, B, ad, as, o, R, e, q⟩ := h
 obtain ⟨⟨p, as1⟩, h1, e⟩ := bS_ (show (fa as).bind _ = _ from e)
 obtain ⟨⟨x, as2⟩, h2, e⟩ := bS_ e
 obtain ⟨as3, h3, e⟩ := bS_ e
 cases e
 refine ⟨F, B, ad, as, p, as1, R, h1, λ v T' ad' H' R' rv g1 => ?_⟩
 obtain ⟨ad2, R2, rp, le⟩ := Xq R' rv h2
 exact ⟨F, B, ad2, as2, _, as3, R2, rp, h3, λ σ' ad' H' R' g' _ => q σ' ad' H' R' ((g1.trans (Grow.less le)).trans g')⟩)
structure ItOk (K : zC) (kd : KD) (F B : Addr -> Prop) (ad : Ad) (H : Hp) (J : It) (ds : List It1) : Prop where
 all : ∀ (ad2 : Ad) (H2 : Hp), Grow (Gw [] ad) H (Gw [] ad2) H2 -> (∀ st a, Lv F B (Gw [] ad2) st a -> H2 a ≠ none) -> ∀ i, (i < ds.length -> J.go i H2) /\ (ds.length <= i -> J.stop i H2) /\
  ∀ v H3, J.yld i H2 v H3 -> (∀ b o, H2 b = some o -> H3 b = some o) /\ ∀ x, ds[i]? = some x -> Rp K kd (Lv F B (Gw [] ad2) x.1) H3 v x.2
abbrev IF := AS -> Option (List It1 × AS)
def alI (K : zC) (kd : KD) (f : IF) : TI := λ σ H R => ∃ F B ad as ds as', Rel K kd F B [] ad as σ H /\ f as = some (ds, as') /\
 ∀ J ad' H', Rel K kd F B [] ad' as' σ H' -> Grow (Gw [] ad) H (Gw [] ad') H' -> ItOk K kd F B ad' H' J ds -> R J H'
@[irreducible] def AI (X : Cx) (kd : KD) (tg iter : Expr) (f : IF) : Prop := PI X tg iter (alI X.K kd f)
def forL (g : GF) (f : SF) : List It1 -> AS -> Option Out
 | [], as => some (.nx as)
 | d :: r, as => (g d as).bind λ as1 => (f as1).bind λ o => match o with
  | .nx as' => forL g f r as'
  | .ct as' => forL g f r as'
  | .bk as' => some (.nx as')
  | .rt r => some (.rt r)
def Z2 (fi : IF) (g : GF) (f : SF) : SF := λ as => (fi as).bind λ p => forL g f p.1 p.2
theorem wU {fi : IF} (hp : PassesOwn (model X.prog X.w) X.A X.env X.xe) (hc : X.calm = true) (hi : AI X kd tg iter fi) (hg : AG X kd tg S g) (hb : ASs X kd body f) (hs : ∀ x, foldedSetIterable iter X.env x = pure x) :
 ASt X kd (.For tg iter body [] pos) (Z2 fi g f) := by with_unfolding_all exact (ZP (zqK hp hc hi hg hb hs) λ D σ H h => by
 obtain ⟨F, B, ad, as, o, R, e, q⟩ := h
 obtain ⟨⟨ds, as1⟩, h1, e⟩ := bS_ (show (fi as).bind _ = _ from e)
 refine ⟨F, B, ad, as, ds, as1, R, h1, λ J ad1 H1 R1 g1 it => ?_⟩
 refine ⟨λ i m σ2 H2 => m + i = ds.length /\ ∃ ad2 as2, Rel X.K kd F B [] ad2 as2 σ2 H2 /\ Grow (Gw [] ad1) H1 (Gw [] ad2) H2 /\ forL g f (ds.drop i) as2 = some o, ⟨ds.length, rfl, ad1, as1, R1, Grow.refl, e⟩, ?_⟩
 rintro i m σ2 H2 ⟨hm, ad2, as2, R2, g2, e2⟩
 obtain ⟨k1, k2, k3⟩ := it.all ad2 H2 g2 R2.trk i
 by_cases hi : i < ds.length
 · refine .inr ⟨k1 hi, λ σ3 H3 => ∃ ad3 as3, Rel X.K kd F B [] ad3 as3 σ3 H3 /\ Grow (Gw [] ad1) H1 (Gw [] ad3) H3 /\ forL g f (ds.drop (i + 1)) as3 = some o, λ σ3 H3 ⟨ad3, as3, R3, g3, e3⟩ => ⟨m - 1, by omega, by omega, ad3, as3, R3, g3, e3⟩, λ v H3 hy => ?_⟩
   obtain ⟨kp, rp⟩ := k3 v H3 hy
   rw [List.drop_eq_getElem_cons hi] at e2
   obtain ⟨as3, e3, e2⟩ := bS_ (show (g _ as2).bind _ = _ from e2)
   obtain ⟨o3, e4, e2⟩ := bS_ e2
   obtain ⟨R3, g3⟩ := R2.more kp
   refine ⟨F, B, ad2, as2, _, as3, R3, rp _ (zzB hi), e3, λ σ4 ad4 H4 R4 g4 _ => ?_⟩
   refine ⟨F, B, ad4, as3, o3, R4, e4, ?_⟩
   have gg := (g2.trans g3).trans g4
   cases o3 with
   | nx as5 => exact λ σ5 ad5 H5 R5 g5 => ⟨ad5, as5, R5, gg.trans g5, e2⟩
   | ct as5 => exact λ σ5 ad5 H5 R5 g5 => ⟨ad5, as5, R5, gg.trans g5, e2⟩
   | bk as5 =>
    cases e2
    exact λ σ5 ad5 H5 R5 g5 => q σ5 ad5 H5 R5 (g1.trans (gg.trans g5))
   | rt r =>
    cases e2
    exact λ v T H5 ro g5 => q v T H5 ro (g1.trans (gg.trans g5))
 · refine .inl ⟨k2 (by omega), ?_⟩
   rw [List.drop_eq_nil_of_le (by omega)] at e2
   cases e2
   exact q σ2 ad2 H2 R2 (g1.trans g2))
def whL (c : TF) (f : SF) : Nat -> AS -> Option Out
 | 0, _ => none
 | n + 1, as => (c as).bind λ p => if p.1 = true then (f p.2).bind λ o => match o with
  | .nx as' => whL c f n as'
  | .ct as' => whL c f n as'
  | .bk as' => some (.nx as')
  | .rt r => some (.rt r) else some (.nx p.2)
theorem zhQ {n : Nat} (hp : PassesOwn (model X.prog X.w) X.A X.env X.xe) (hc : AT X kd c ta) (hb : ASs X kd body f) : ASt X kd (.While c body [] pos) (whL ta f n) := by with_unfolding_all exact (ZP (zlm hp hc hb) λ D σ H h => by
 obtain ⟨F, B, ad, as, o, R, e, q⟩ := h
 refine ⟨λ m σ2 H2 => ∃ ad2 as2, Rel X.K kd F B [] ad2 as2 σ2 H2 /\ Grow (Gw [] ad) H (Gw [] ad2) H2 /\ whL ta f m as2 = some o, ⟨n, ad, as, R, Grow.refl, e⟩, ?_⟩
 rintro m σ2 H2 ⟨ad2, as2, R2, g2, e2⟩
 cases m with
 | zero => cases e2
 | succ m =>
  obtain ⟨⟨p, as3⟩, e3, e2⟩ := bS_ (show (ta as2).bind _ = _ from e2)
  refine ⟨F, B, ad2, as2, p, as3, R2, e3, λ ad3 H3 R3 g3 => ?_⟩
  cases p with
  | true =>
   rw [if_pos rfl] at e2 ⊢
   obtain ⟨o3, e4, e2⟩ := bS_ e2
   refine ⟨λ σ3 H3 => ∃ ad3 as3, Rel X.K kd F B [] ad3 as3 σ3 H3 /\ Grow (Gw [] ad) H (Gw [] ad3) H3 /\ whL ta f m as3 = some o, λ σ3 H3 h => ⟨m, by omega, h⟩, F, B, ad3, as3, o3, R3, e4, ?_⟩
   have gg := g2.trans g3
   cases o3 with
   | nx as5 => exact λ σ5 ad5 H5 R5 g5 => ⟨ad5, as5, R5, gg.trans g5, e2⟩
   | ct as5 => exact λ σ5 ad5 H5 R5 g5 => ⟨ad5, as5, R5, gg.trans g5, e2⟩
   | bk as5 =>
    cases e2
    exact λ σ5 ad5 H5 R5 g5 => q σ5 ad5 H5 R5 (gg.trans g5)
   | rt r =>
    cases e2
    exact λ v T H5 ro g5 => q v T H5 ro (gg.trans g5)
  | false =>
   rw [if_neg Bool.false_ne_true] at e2 ⊢
   cases e2
   exact q σ2 ad3 H3 R3 (g2.trans g3))
def zii : It1 -> Option (List It1)
 | (st, .lst ds) => some (kids st ds)
 | (st, .tup ds) => some (kids st ds)
 | _ => none
def zaR (f : EF) : IF := λ as => (f as).bind λ p => (Va p.2 p.1).bind λ q => (zii q.1).bind λ ds => some (ds, q.2)
theorem zjM {K : zC} {F B : Addr -> Prop} {ad : Ad} {H : Hp} {a : Addr} {vs : List V} {ds : List It1} (hs : ∀ (ad3 : Ad) (H3 : Hp), Grow (Gw [] ad) H (Gw [] ad3) H3 -> SqL K H3 a vs) (r : RpI K kd F B (Gw [] ad) H vs ds) : ItOk K kd F B ad H (Itl K a) ds := ⟨λ ad3 H3 g3 _ i => by
 have hr3 := hs ad3 H3 g3
 have rl3 := r.grow g3
 refine ⟨λ hi => ?_, λ hi => ⟨_, hr3, by rw [r.length]; exact hi⟩, λ v H4 hy => ?_⟩
 · obtain ⟨u, hu, _⟩ := r.get (zzB hi)
   exact ⟨_, u, hr3, hu⟩
 · obtain ⟨rfl, hv⟩ := hy
   refine ⟨λ _ _ z => z, λ d hd => ?_⟩
   obtain ⟨u, hu, ru⟩ := rl3.get hd
   have := hv _ hr3
   rw [hu] at this
   cases this
   exact ru⟩
theorem zpS {K : zC} {F B : Addr -> Prop} {ad : Ad} {H : Hp} {a : Addr} {vs : List V} {ds : List It1} (hs : ∀ (ad3 : Ad) (H3 : Hp), Grow (Gw [] ad) H (Gw [] ad3) H3 -> SqT K H3 a vs) (r : RpI K kd F B (Gw [] ad) H vs ds) : ItOk K kd F B ad H (Itt K a) ds := ⟨λ ad3 H3 g3 _ i => by
 have hr3 := hs ad3 H3 g3
 have rl3 := r.grow g3
 refine ⟨λ hi => ?_, λ hi => ⟨_, hr3, by rw [r.length]; exact hi⟩, λ v H4 hy => ?_⟩
 · obtain ⟨u, hu, _⟩ := r.get (zzB hi)
   exact ⟨_, u, hr3, hu⟩
 · obtain ⟨rfl, hv⟩ := hy
   refine ⟨λ _ _ z => z, λ d hd => ?_⟩
   obtain ⟨u, hu, ru⟩ := rl3.get hd
   have := hv _ hr3
   rw [hu] at this
   cases this
   exact ru⟩
theorem Wb (he : AE X kd e fa) : AI X kd tg e (zaR fa) := by
 with_unfolding_all (
 intro pins s σ H R I h
 obtain ⟨F, B, ad, as, ds, as', Rl, e, q⟩ := h
 obtain ⟨⟨p, as1⟩, h1, e⟩ := bS_ (show (fa as).bind _ = _ from e)
 obtain ⟨⟨⟨st, x⟩, as2⟩, h2, e⟩ := bS_ e
 obtain ⟨ys, h3, e⟩ := bS_ e
 cases e
 cases x with
 | lst xs =>
  cases h3
  refine zgW he pins s σ H R I ⟨F, B, ad, as, p, as1, Rl, h1, λ v T1 ad1 H1 R1 rv1 g1 => ?_⟩
  obtain ⟨ad2, R2, rp, le⟩ := Xq R1 rv1 h2
  cases rp with
  | lst hn hr rl => exact ⟨_, rfl, ⟨_, .inl hr⟩, q _ ad2 H1 R2 (g1.trans (Grow.less le)) (zjM (λ ad3 H3 g3 => .inl (zbn g3 (λ z => hn (.inr z)) hr)) (VR rl))⟩
  | lstK a b c rl => exact ⟨_, rfl, ⟨_, .inr ⟨_, _, _, a, rfl, rfl, rfl, b, c⟩⟩, q _ ad2 H1 R2 (g1.trans (Grow.less le)) (zjM (λ ad3 H3 g3 => .inr ⟨_, _, _, a, rfl, rfl, rfl, b, c⟩) (VR rl))⟩
 | tup xs =>
  cases h3
  refine zje he pins s σ H R I ⟨F, B, ad, as, p, as1, Rl, h1, λ v T1 ad1 H1 R1 rv1 g1 => ?_⟩
  obtain ⟨ad2, R2, rp, le⟩ := Xq R1 rv1 h2
  have go : ∃ a ys, v = .ref a /\ (∀ (ad3 : Ad) (H3 : Hp), Grow (Gw [] ad2) H1 (Gw [] ad3) H3 -> SqT X.K H3 a ys) /\ RpL X.K kd (Lv F B (Gw [] ad2) st) H1 ys xs := by
   cases rp with
   | tup n h r => exact ⟨_, _, rfl, λ ad3 H3 g3 => .inl (zbn g3 (λ z => n (.inr z)) (.inl h)), r⟩
  obtain ⟨a, ys, rfl, hs, rl⟩ := go
  exact ⟨_, rfl, ⟨_, hs ad2 H1 Grow.refl⟩, q _ ad2 H1 R2 (g1.trans (Grow.less le)) (zpS hs (VR rl))⟩
 | _ => cases h3)
def vH (lo : Int) (n : Nat) : List It1 := (List.range n).map λ (i : Nat) => (true, D.int (lo + (i : Int)))
theorem zps {K : zC} {F B : Addr -> Prop} {ad : Ad} {H : Hp} (lo : Int) (n : Nat) : ItOk K kd F B ad H (Itr lo n) (vH lo n) := ⟨λ ad2 H2 g _ i => by
 have hl : (vH lo n).length = n := by unfold vH; simp
 refine ⟨λ hi => by rw [hl] at hi; exact hi, λ hi => by rw [hl] at hi; exact hi, λ v H3 hy => ?_⟩
 obtain ⟨rfl, rfl⟩ := hy
 refine ⟨λ _ _ z => z, λ d hd => ?_⟩
 have hi : i < n := by rw [<- hl]; exact (zzD.mp hd).1
 unfold vH at hd
 rw [zzF, List.getElem?_range hi] at hd
 cases hd
 exact .int _⟩
def zqP : List D -> Option D
 | [x] => some x
 | _ => none
theorem zoA {ds : List D} {d : D} (h : zqP ds = some d) : ds = [d] := by
 cases ds with
 | nil => cases h
 | cons x r =>
  cases r with
  | nil => cases h; rfl
  | cons _ _ => cases h
def xG (ds : List D) : Option (List It1) := ((zqP ds).bind asI).bind λ j => if -(2 ^ 62) <= j /\ j < 2 ^ 62 then some (vH 0 j.toNat) else none
theorem zjV {ds : List D} {xs : List It1} (h : xG ds = some xs) : ∃ j, ds = [.int j] /\ (if -(2 ^ 62) <= j /\ j < 2 ^ 62 then some (vH 0 j.toNat) else none) = some xs := by
 obtain ⟨j, h1, h⟩ := bS_ h
 obtain ⟨d, h2, h1⟩ := bS_ h1
 cases zgD h1
 exact ⟨j, zoA h2, h⟩
def xJ (fr : AF) (h : List D -> Option (List It1)) : IF := λ as => (fr as).bind λ p => (views p.2 p.1).bind λ ds => (h ds.1).bind λ xs => some (xs, p.2)
theorem vX {fr : AF} {p : Pos} (hg : Gl X "range") (hm : X.mg "range" = none) (ha : AA X kd [a] fr) (hs : starEach [a] X.env = [(false, eval a X.env)]) : AI X kd tg (.Call (.Name "range" p) [a] [] pos) (xJ fr xG) := by
 with_unfolding_all (
 intro pins s σ H R I h
 obtain ⟨F, B, ad, as, ds, as', Rl, e, q⟩ := h
 obtain ⟨⟨ps, as1⟩, h1, e⟩ := bS_ (show (fr as).bind _ = _ from e)
 obtain ⟨⟨xs, lv⟩, h2, e⟩ := bS_ e
 obtain ⟨ys, h3, e⟩ := bS_ e
 cases e
 obtain ⟨j, rfl, h3⟩ := zjV h3
 · obtain ⟨hj, e3⟩ := yt h3
   cases e3
   refine zfq hg hm ha hs pins s σ H R I ⟨F, B, ad, as, ps, _, Rl, h1, λ vs ad1 H1 R1 rv1 g1 => ?_⟩
   have vl := zbe R1 rv1 h2
   cases vl with
   | cons v1 v2 =>
    cases v2
    cases v1
    exact ⟨j, rfl, hj.1, hj.2, q _ ad1 H1 R1 g1 (zps 0 _)⟩)
theorem Rel.mut {K : zC} {F B : Addr -> Prop} {T fo : List Addr} {ad : Ad} {as : AS} {σ : St} {H : Hp} {i : Nat} {l : Addr} {fp fp' : List Addr} {n : O} {u : HO} (R : Rel K kd F B T ad as σ H) (hi : i < as.length) (hl : ad i = l :: fp) (hs : σ[i]? = some (some (.ref l)))
 (hsub : ∀ a ∈ fp' ++ fo, a ∈ fp ++ T) (hnd : (fp' ++ fo).Nodup) (hu : H l ≠ none)
 (ro : ∀ (H' : Hp) (G' : Addr -> Prop), H' l = some u -> Grow (Gw T ad) H G' H' -> (∀ a ∈ fp', ∀ w, H a = some w -> H' a = some w) -> RoS K kd F B G' H' (.ref l) n (l :: fp')) :
 Rel K kd F B fo (Wz ad i (l :: fp')) (as.set i (some n)) σ (upd H l u) /\ Grow (Gw T ad) H (Gw fo (Wz ad i (l :: fp'))) (upd H l u) := by
 have hli : l ∈ ad i := by rw [hl]; exact zzC
 have lT : l ∉ T := R.dis i l hli
 have lfp : l ∉ fp := by have := R.nd i; rw [hl] at this; exact (zzT.mp this).1
 have lsub : ∀ a ∈ fp' ++ fo, a ≠ l := λ a m e => by
  subst e
  rcases zzJ.mp (hsub _ m) with z | z
  · exact lfp z
  · exact lT z
 have sub : ∀ a ∈ fp' ++ fo, Gw T ad a := λ a m => by
  rcases zzJ.mp (hsub a m) with z | z
  · exact .inr ⟨i, by rw [hl]; exact zzA _ z⟩
  · exact .inl z
 have gsub : ∀ a, Gw fo (Wz ad i (l :: fp')) a -> Gw T ad a := λ a z => by
  rcases z with z | ⟨j, z⟩
  · exact sub a (zzI _ z)
  · by_cases e : j = i
    · subst e
      rw [yZ] at z
      rcases zI.mp z with z | z
      · subst z; exact .inr ⟨j, hli⟩
      · exact sub a (zzM _ z)
    · rw [xq e] at z; exact .inr ⟨j, z⟩
 have g : Grow (Gw T ad) H (Gw fo (Wz ad i (l :: fp'))) (upd H l u) := ⟨λ b w h n => by rw [ye (λ e => n (by subst e; exact .inr ⟨i, hli⟩))]; exact h, λ b z => .inl (gsub b z)⟩
 have kn : ∀ a, H a ≠ none -> upd H l u a ≠ none := λ a z => by
  by_cases e : a = l
  · subst e; rw [yU]; simp
  · rw [ye e]; exact z
 obtain ⟨hnd1, hnd2, hnd3⟩ := List.nodup_append.mp hnd
 have inT : ∀ j a, j ≠ i -> a ∈ ad j -> a ∈ fp' ++ fo -> False := λ j a hj m m' => by
  rcases zzJ.mp (hsub a m') with z | z
  · exact hj (R.inj j i a m (by rw [hl]; exact zzA _ z))
  · exact R.dis j a m z
 refine ⟨⟨by rw [zzR]; exact R.len, λ j hj => ?_, λ j => ?_, λ j k a h1 h2 => ?_, hnd2, λ j a h1 h2 => ?_, λ a z => kn a (R.ftr a z), λ a z => ?_, λ a z => ⟨kn a (R.gtr a (gsub a z)).1, (R.gtr a (gsub a z)).2⟩, λ j s e => ?_⟩, g⟩
 · rw [zzR] at hj
   rw [xq (by omega)]; exact R.out j hj
 · by_cases e : j = i
   · subst e; rw [yZ]
     exact zzT.mpr ⟨λ m => lsub l (zzM _ m) rfl, hnd1⟩
   · rw [xq e]; exact R.nd j
 · by_cases e : j = i
   · subst e
     by_cases e' : k = j
     · exact e'.symm
     · rw [yZ] at h1
       rw [xq e'] at h2
       rcases zI.mp h1 with z | z
       · subst z; exact R.inj j k a hli h2
       · exact (inT k a e' h2 (zzM _ z)).elim
   · rw [xq e] at h1
     by_cases e' : k = i
     · subst e'
       rw [yZ] at h2
       rcases zI.mp h2 with z | z
       · subst z; exact R.inj j k a h1 hli
       · exact (inT j a e h1 (zzM _ z)).elim
     · rw [xq e'] at h2
       exact R.inj j k a h1 h2
 · by_cases e : j = i
   · subst e
     rw [yZ] at h1
     rcases zI.mp h1 with z | z
     · subst z; exact lsub a (zzI _ h2) rfl
     · exact hnd3 a z a h2 rfl
   · rw [xq e] at h1
     exact inT j a e h1 (zzI _ h2)
 · obtain ⟨b1, b2, b3⟩ := R.btr a z
   exact ⟨kn a b1, b2, λ y => b3 (gsub a y)⟩
 · by_cases q : j = i
   · subst q
     rw [List.getElem?_set_self hi] at e
     cases e
     rw [yZ]
     refine ⟨_, hs, ro _ _ yU g λ a m w h => ?_⟩
     rw [ye (lsub a (zzM _ m))]; exact h
   · rw [zzV (Ne.symm q)] at e
     rw [xq q]
     refine (R.sl j s e).grow g λ a m w h => ?_
     rw [ye (λ z => q (R.inj j i l (by rw [<- z]; exact m) hli))]; exact h
abbrev MG := List O -> List O -> Option (List O × O)
def wI (i : Nat) (fr : DF) (g : MG) : EF := λ as => match as[i]? with
 | some (some (.nd .ls _)) => (fr as).bind λ p => match p.2[i]? with
  | some (some (.nd .ls os)) => (g os p.1).bind λ z => some (.ow z.2, p.2.set i (some (.nd .ls z.1)))
  | _ => none
 | _ => none
def MuD (X : Cx) (kd : KD) (r : V -> List V -> Hp -> VK -> Prop) (g : MG) : Prop :=
 ∀ (F B G : Addr -> Prop) (l : Addr) (vs ws : List V) (os es os' : List O) (o : O) (fp fq : List Addr) (H : Hp) (Q : VK), H l = some (.lst vs) -> Zx X.K kd F B G H vs os fp -> Zx X.K kd F B G H ws es fq -> (fp ++ fq).Nodup -> g os es = some (os', o) ->
  (∀ v vs' fp' fo, Zx X.K kd F B G H vs' os' fp' -> RoS X.K kd F B G H v o fo -> (∀ a ∈ fp' ++ fo, a ∈ fp ++ fq) -> (fp' ++ fo).Nodup -> Q v (upd H l (.lst vs'))) -> r (.ref l) ws H Q
theorem zrj {i : Nat} {fr : DF} {g : MG} {r : V -> List V -> Hp -> VK -> Prop} (hr : MuD X kd r g)
 {σ : St} {H : Hp} {Q : VK} (h : al X.K kd (wI i fr g) σ H Q) : tBM X.K "list" r (zcB i) (alD X.K kd fr) σ H Q := by
 obtain ⟨F, B, ad, as, z, as', R, e, q⟩ := h
 unfold wI at e
 cases k : as[i]? with
 | none => rw [k] at e; cases e
 | some a0 =>
  rw [k] at e
  match a0, e, k with
  | some (.nd .ls os0), e, k =>
   obtain ⟨⟨es, as1⟩, h1, e⟩ := bS_ (show (fr as).bind _ = _ from e)
   obtain ⟨v0, hs0, ro0⟩ := R.sl i _ k
   generalize hfp0 : ad i = fp0 at ro0
   cases ro0 with
   | ls hH0 rl0 =>
   rename_i l vs0 fp00
   refine ⟨_, hs0, .inl ⟨rfl, _, .inl (.inl hH0)⟩, F, B, ad, as, es, as1, R, h1, λ ws T1 ad1 H1 R1 ro1 g1 => ?_⟩
   cases k2 : as1[i]? with
   | none => rw [k2] at e; cases e
   | some a2 =>
    rw [k2] at e
    match a2, e, k2 with
    | some (.nd .ls os), e, k2 =>
     obtain ⟨⟨os', o⟩, h3, e⟩ := bS_ (show (g os es).bind _ = _ from e)
     cases e
     obtain ⟨v1, hs1, ro2⟩ := R1.sl i _ k2
     rw [hs0] at hs1
     cases hs1
     generalize hfp : ad1 i = fp1 at ro2
     cases ro2 with
     | ls hH rl =>
     rename_i vs fp
     have hnd : (fp ++ T1).Nodup := List.nodup_append.mpr ⟨by have := R1.nd i; rw [hfp] at this; exact (zzT.mp this).2, R1.tnd, λ a m b m' e => by
          subst e; exact R1.dis i a (by rw [hfp]; exact zzA _ m) m'⟩
     refine hr F B (Gw T1 ad1) _ vs ws os es os' o fp T1 H1 Q hH rl ro1 hnd h3 λ v vs' fp' fo rl' ro' hsub hnd' => ?_
     obtain ⟨R3, g3⟩ := R1.mut (n := .nd .ls os') (u := .lst vs') (zzD.mp k2).1 hfp hs0 hsub hnd' (by rw [hH]; simp) λ H' G' hl' gr kp => .ls hl' (Zx.grow gr kp rl')
     have lno : ∀ a ∈ fo, ∀ w, H1 a = some w -> upd H1 l (.lst vs') a = some w := λ a m w h => by
          rw [ye (λ e => ?_)]
          · exact h
          · subst e
            rcases zzJ.mp (hsub _ (zzI _ m)) with z | z
            · have := R1.nd i; rw [hfp] at this; exact (zzT.mp this).1 z
            · exact R1.dis i _ (by rw [hfp]; exact zzC) z
     exact q v fo _ _ R3 (RoS.grow g3 lno ro') (g1.trans g3)
end
end PF
end
section
set_option exponentiation.threshold 5000
namespace PF
open PySem PySem.Spec PyProof.Rows L2
section
variable {K : zC} {kd : KD} {O : Addr -> Prop} {H : Hp} {Q : VK}
theorem yS {d : D} {v : V} (q : RQ K kd O H Q (.im d)) (r : Rp K kd O H v d) : Q v H := q v H (λ _ _ z => z) r
theorem zjE {vs : List V} {ds : List D} {p : Addr} {o : HO} (hp : H p = none) (r : RpL K kd O H vs ds) : RpL K kd (Un2 O (· = p)) (upd H p o) vs ds :=
 RpL.grow (F := O) (W := λ _ => False) ⟨λ b u q _ => by rw [ye (xj q hp)]; exact q, λ b z => .inr (by rw [z]; exact hp)⟩ (r.less λ a z => z.elim id False.elim)
theorem zoC {vs : List (Key × V)} {ds : List (Key × D)} {p : Addr} {o : HO} (hp : H p = none) (r : RpM K kd O H vs ds) : RpM K kd (Un2 O (· = p)) (upd H p o) vs ds :=
 RpM.grow (F := O) (W := λ _ => False) ⟨λ b u q _ => by rw [ye (xj q hp)]; exact q, λ b z => .inr (by rw [z]; exact hp)⟩ (r.less λ a z => z.elim id False.elim)
theorem Zh {p : Addr} {o : HO} (hp : H p = none) : ∀ b u, H b = some u -> upd H p o b = some u := λ b u q => by rw [ye (xj q hp)]; exact q
theorem zcj {vs : List V} {ds : List D} (q : RQ K kd O H Q (.fl ds)) (r : RpL K kd O H vs ds) : ∀ p, H p = none -> Q (.ref p) (upd H p (.lst vs)) := λ p hp =>
 q p vs _ hp (Zh hp) yU (zjE hp r)
theorem zlq {vs : List (Key × V)} {ds : List (Key × D)} (q : RQ K kd O H Q (.fd ds)) (r : RpM K kd O H vs ds) : ∀ p, H p = none -> Q (.ref p) (upd H p (.dK vs)) := λ p hp =>
 q p vs _ hp (Zh hp) yU (zoC hp r)
theorem zge {vs : List V} {ds : List D} (ht : ∀ a, O a -> H a ≠ none) (q : RQ K kd O H Q (.im (.tup ds))) (r : RpL K kd O H vs ds) : ∀ p, H p = none -> Q (.ref p) (upd H p (.tup vs)) := λ p hp =>
 q _ _ (Zh hp) (.tup (λ z => ht p z hp) yU ((zjE hp r).less λ a z => .inl z))
end
def big : Nat := 2 ^ 4000
theorem zhU {i : Int} (h : i.natAbs < big) : Builtin.Int.intBits i <= 2 ^ 20 := by
 unfold Builtin.Int.intBits
 split
 · exact Nat.zero_le _
 · have : i.natAbs.log2 < 4000 := by
    rcases Nat.eq_zero_or_pos i.natAbs with h0 | hp
    · rw [h0]; decide
    · exact (Nat.log2_lt (Nat.ne_of_gt hp)).mpr h
   have e : (2 : Nat) ^ 20 = 1048576 := by decide
   omega
def onI (f : Int -> Int -> Option R0) (x y : D) : Option R0 := (asI x).bind λ i => (asI y).bind λ j => f i j
def zrZ (x y : D) : Option R0 := match x with
 | .int i => (asI y).bind λ j => some (.im (.int (i + j)))
 | .str x => (asS y).bind λ y => if x.length + y.length <= sizeLine then some (.im (.str (x ++ y))) else none
 | .lst xs => (asL y).bind λ ys => if xs.length + ys.length <= sizeLine then some (.fl (xs ++ ys)) else none
 | .tup xs => (asT y).bind λ ys => if xs.length + ys.length <= sizeLine then some (.im (.tup (xs ++ ys))) else none
 | _ => none
def zsl (x y : D) : Option R0 := match x with
 | .int i => (asI y).bind λ j => if i.natAbs < big /\ j.natAbs < big then some (.im (.int (i * j))) else none
 | .lst xs => (asI y).bind λ k => if -(2 ^ 63) <= k /\ k < 2 ^ 63 /\ xs.length * k.toNat <= sizeLine then some (.fl (List.replicate k.toNat xs).flatten) else none
 | .tup xs => (asI y).bind λ k => if 1 <= k /\ k < 2 ^ 63 /\ xs.length ≠ 0 /\ xs.length * k.toNat <= sizeLine then some (.im (.tup (List.replicate k.toNat xs).flatten)) else none
 | _ => none
def zbK (o : Operator) (x y : D) : Option R0 := match o with
 | .Add => zrZ x y
 | .Sub => onI (λ i j => some (.im (.int (i - j)))) x y
 | .Mult => zsl x y
 | .FloorDiv => onI (λ i j => if 0 < j /\ j.natAbs < big then some (.im (.int (i / j))) else none) x y
 | .Mod => onI (λ i j => if 0 < j then some (.im (.int (i % j))) else none) x y
 | .Pow => onI (λ i j => if 0 <= j /\ j <= 1000000 /\ i.natAbs < 2 ^ 64 then some (.im (.int (i ^ j.toNat))) else none) x y
 | _ => none
theorem Wi {K : zC} {kd : KD} {O : Addr -> Prop} {H : Hp} {v : V} {d : D} {i : Int} (h : Vw K kd O H v d) (e : asI d = some i) : d = .int i /\ v = .int i := by
 cases h with
 | int j => cases e; exact ⟨rfl, rfl⟩
 | _ => cases e
theorem zpq {K : zC} {kd : KD} {O : Addr -> Prop} {H : Hp} {v : V} {d : D} {i : Str} (h : Vw K kd O H v d) (e : asS d = some i) : d = .str i /\ v = .str i := by
 cases h with
 | str j => cases e; exact ⟨rfl, rfl⟩
 | _ => cases e
theorem Wk {K : zC} {kd : KD} {O : Addr -> Prop} {H : Hp} {v w : V} {d e : D} {f : Int -> Int -> Option R0} {r : R0} (vx : Vw K kd O H v d) (vy : Vw K kd O H w e) (h : onI f d e = some r) : ∃ i j, v = .int i /\ w = .int j /\ f i j = some r := by
 obtain ⟨i, h1, h⟩ := bS_ (show (asI d).bind _ = _ from h)
 obtain ⟨j, h2, h⟩ := bS_ h
 exact ⟨i, j, (Wi vx h1).2, (Wi vy h2).2, h⟩
section
variable {X : Cx} {kd : KD}
theorem znU : OpR X (binaryOp .Add) (λ x y H Q => ∃ l b xs zs, x = .ref l /\ y = .ref b /\ RdL X.K H l xs /\ RdL X.K H b zs /\ xs.length + zs.length <= sizeLine /\ ∀ p, H p = none -> Q (.ref p) (upd H p (.lst (xs ++ zs)))) := by
 intro pins s σ H x y v u Q I rx ry h
 obtain ⟨l, b, xs, zs, rfl, rfl, hH, hB, hz, q⟩ := h
 cases rx
 cases ry
 obtain ⟨z, its, n, r, e⟩ := ziE I hH
 obtain ⟨z2, its2, n2, r2, e2⟩ := ziE I hB
 have hl := r.length
 have hl2 := r2.length
 refine PySem.P.add_list e e2 ?_ (by rw [zzE, zzE]; omega)
 have ea : its.toArray ++ its2.toArray = (its ++ its2).toArray := by simp
 rw [ea]
 exact ⟨.ref _, _, I.lnew (t' := s.toks) (r.append r2) (by rw [zzG]; omega), rfl, q _ I.fresh⟩
theorem znV : OpR X (binaryOp .Mult) (λ x y H Q => ∃ l k xs, x = .ref l /\ y = .int k /\ RdL X.K H l xs /\ -(2 ^ 63) <= k /\ k < 2 ^ 63 /\ xs.length * k.toNat <= sizeLine /\
 ∀ p, H p = none -> Q (.ref p) (upd H p (.lst (List.replicate k.toNat xs).flatten))) := by
 intro pins s σ H x y v u Q I rx ry h
 obtain ⟨l, k, xs, rfl, rfl, hH, h1, h2, hz, q⟩ := h
 cases rx
 obtain ⟨t, rfl⟩ := ry
 obtain ⟨z, its, n, r, e⟩ := ziE I hH
 have hl := r.length
 have hlen : its.toArray.size * k.toNat <= sizeLine := by rw [zzE, <- hl]; exact hz
 have hcap : ¬ its.toArray.size * k.toNat > (2 ^ 63 - 1) / 8 := by
  have : (sizeLine : Nat) <= (2 ^ 63 - 1) / 8 := by decide
  omega
 have hfit : ¬ (!Builtin.List.listFitsIndex k) = true := by
  rw [fitsIndex_both h1 h2]
  exact Bool.false_ne_true
 have hlong : ¬ Builtin.List.listTooLong (its.toArray.size * k.toNat) = true := by
  rw [zhi hlen]
  exact Bool.false_ne_true
 have hnew : List.foldl (λ x1 x2 => x1 ++ x2) #[] (List.replicate (if its.toArray.isEmpty = true then 0 else k.toNat) its.toArray) = (List.replicate k.toNat its).flatten.toArray := by
  have f0 : ∀ m : Nat, List.foldl (λ x1 x2 => x1 ++ x2) #[] (List.replicate m its.toArray) = (List.replicate m its).flatten.toArray := λ m => by
   have := foldl_rep its m []
   rw [List.nil_append] at this
   exact this
  rw [f0]
  cases its with
  | nil => simp
  | cons a r' => rw [if_neg (by simp)]
 refine wpAny_binaryOp_repeat_ref (T := "list") (U := "int") (by decide) ⟨_, e, rfl⟩ (λ s' => typeIs_int s' k t) noFill_list_mul F.fills_int_mul F.slot_int_rmul repeat_list F.slot_int_index.lookup
  (call_meets F.slot_int_rmul (typeIs_int s k t) F.entry_int_rmul (F.args_int_rmul_2 _ _) (int___rmul___int_list k t l its.toArray n)
   ⟨e, rfl, ⟨_, e, rfl⟩, call_meets F.slot_list_mul ⟨_, e, rfl⟩ F.entry_list_mul (F.args_list_mul_2 _ _) (AutoListH.list___mul___list_int_3 l its.toArray n k t hfit hcap hlong) ⟨e, ?_⟩⟩)
 rw [hnew]
 refine ⟨.ref _, _, I.lnew (t' := s.toks) (r.rep k.toNat) ?_, rfl, q _ I.fresh⟩
 rw [len_rep, Nat.mul_comm]
 exact hz
theorem tuple_addW0 (l b : Addr) (items items2 : Array Value) (n n2 : Nat) (dd dd2 : Option Addr) (sl sl2 : Array (Option Value)) (h0 : items.isEmpty = true) :
 Meets (Builtin.«tuple.__add__» { pos := [.ref l, .ref b] }) (λ _ R s => s.heap.get? l = some { cls := .type "tuple", dict := dd, data := .seq items n, slots := sl } /\ s.heap.get? b = some { cls := .type "tuple", dict := dd2, data := .seq items2 n2, slots := sl2 } /\ R (.ok (.ret (.ref b))) s) :=
 .of_wp λ prog w A R s h => by
  obtain ⟨hp, g, d, tk, os⟩ := s; obtain ⟨hl, hb, h⟩ := h
  have f2 := AutoSeq1.sub_tuple_tuple
  wp_walk using wpAny_loadPart' hl, wpAny_loadPart' hb
  exact ⟨_, rfl, h⟩
theorem zhV (l : Addr) (items : Array Value) (n : Nat) (dd : Option Addr) (sl : Array (Option Value)) (u : Tok) :
 Meets (Builtin.«tuple.__mul__» { pos := [.ref l, .int 1 u] }) (λ _ R s => s.heap.get? l = some { cls := .type "tuple", dict := dd, data := .seq items n, slots := sl } /\ R (.ok (.ret (.ref l))) s) :=
 .of_wp λ prog w A R s h => by
  obtain ⟨hp, g, d, tk, os⟩ := s; obtain ⟨hl, h⟩ := h
  have f2 := AutoSeq1.sub_tuple_tuple
  wp_walk using wpAny_loadPart' hl
  exact ⟨_, rfl, h⟩
theorem zim (l : Addr) (items its2 : Array Value) (n : Nat) (dd : Option Addr) (sl : Array (Option Value)) (x : Int) (u : Tok) (c1 : ¬ (decide (x < -2 ^ 63) || decide (x ≥ 2 ^ 63)) = true) (c2 : ¬ (items.isEmpty || x == 1) = true) (c3 : ¬ (decide (x <= 0) || items.isEmpty) = true)
 (hcap : ¬ (items.size : Int) * x > (2 ^ 63 - 1) / 8) (ht : ¬ Builtin.Tuple.tupleTooMany (items.size * x) = true) (hz : ¬ (List.foldl (λ x1 x2 => x1 ++ x2) #[] (List.replicate x.toNat items)).size > sizeLine) :
 Meets (Builtin.«tuple.__mul__» { pos := [.ref l, .int x u] }) (λ _ R s => s.heap.get? l = some { cls := .type "tuple", dict := dd, data := .seq items n, slots := sl } /\ R (.ok (.ret (.ref s.heap.objs.size))) { s with heap := s.heap.push { cls := .type "tuple", data := .seq (List.foldl (λ x1 x2 => x1 ++ x2) #[] (List.replicate x.toNat items)) } }) :=
 .of_wp λ prog w A R s h => by
  obtain ⟨hp, g, d, tk, os⟩ := s; obtain ⟨hl, h⟩ := h
  have f2 := AutoSeq1.sub_tuple_tuple
  wp_walk using wpAny_loadPart' hl
  rw [if_neg c1]
  wp_walk using wpAny_loadPart' hl
  rw [if_neg hcap]
  wp_walk
  exact ⟨_, rfl, h⟩
theorem zcy : fillsNumberSlot (Value.type "tuple") "mul" = pure false := PySem.fillsNumberSlot_seq rfl rfl rfl rfl
theorem zgj : seqRepeat? (Value.type "tuple") = pure (some (Value.builtin "tuple.__mul__")) := W.of_pureOf rfl
theorem zeQ (a : Int) (t : Tok) (l : Addr) (items : Array Value) (n : Nat) (dd : Option Addr) (sl : Array (Option Value)) :
 Meets (Builtin.«int.__rmul__» { pos := [.int a t, .ref l] }) (λ _ R s => s.heap.get? l = some { cls := .type "tuple", dict := dd, data := .seq items n, slots := sl } /\ R (.ok (.ret .notImplemented)) s) :=
 .of_wp λ prog w A R s h => by
  obtain ⟨hp, g, d, tk, os⟩ := s; obtain ⟨hl, h⟩ := h
  wp_walk using wpAny_load' hl, wpAny_loadPart' hl
  exact ⟨_, rfl, h⟩
theorem znw : OpR X (binaryOp .Add) (λ x y H Q => ∃ a b ys, x = .ref a /\ y = .ref b /\ SqT X.K H a [] /\ SqT X.K H b ys /\ Q (.ref b) H) := by
 intro pins s σ H x y v u Q I rx ry h
 obtain ⟨a, b, ys, rfl, rfl, ha, hb, q⟩ := h
 cases rx
 cases ry
 obtain ⟨its, r1, p1, _⟩ := I.tuple ha
 obtain ⟨its2, r2, p2, _⟩ := I.tuple hb
 cases r1
 obtain ⟨⟨cls, dd, data, sl⟩, ho, hc, n, hd⟩ := id p1
 obtain ⟨⟨cls2, dd2, data2, sl2⟩, ho2, hc2, n2, hd2⟩ := id p2
 simp only at hc hd hc2 hd2
 subst hc hd hc2 hd2
 exact concat_meets ⟨_, ho, rfl⟩ ⟨_, ho2, rfl⟩ noFill_tuple_add seq_tuple_add PySem.F.slot_tuple_add PySem.F.entry_tuple_add (PySem.F.args_tuple_add_2 _ _) (tuple_addW0 a b _ _ n n2 dd dd2 sl sl2 rfl) ⟨ho, ho2, ⟨.ref b, H, I, rfl, q⟩⟩
theorem znK : OpR X (binaryOp .Mult) (λ x y H Q => ∃ l k xs, x = .ref l /\ y = .int k /\ SqT X.K H l xs /\ xs ≠ [] /\ 1 <= k /\ k < 2 ^ 63 /\ xs.length * k.toNat <= sizeLine /\ (k = 1 -> Q (.ref l) H) /\
 (2 <= k -> ∀ p, H p = none -> Q (.ref p) (upd H p (.tup (List.replicate k.toNat xs).flatten)))) := by
 intro pins s σ H x y v u Q I rx ry h
 obtain ⟨l, k, xs, rfl, rfl, hH, hne, h1, h2, hz, q1, q2⟩ := h
 cases rx
 obtain ⟨t, rfl⟩ := ry
 obtain ⟨its, r, p, _⟩ := I.tuple hH
 have hl := r.length
 have hlen : its.toArray.size * k.toNat <= sizeLine := by rw [zzE, <- hl]; exact hz
 have hki : ((its.toArray.size : Int) * k) = ((its.toArray.size * k.toNat : Nat) : Int) := by
  rw [zzS, Int.toNat_of_nonneg (by omega)]
 have he : its.toArray.isEmpty = false := by
  cases its with
  | nil => rw [List.length_nil] at hl; exact absurd (List.length_eq_zero_iff.mp hl) hne
  | cons a r' => rfl
 have hnew : List.foldl (λ x1 x2 => x1 ++ x2) #[] (List.replicate k.toNat its.toArray) = (List.replicate k.toNat its).flatten.toArray := by
  have := foldl_rep its k.toNat []
  rw [List.nil_append] at this
  exact this
 obtain ⟨⟨cls, dd, data, sl⟩, ho, hc, n, hd⟩ := id p
 simp only at hc hd
 subst hc hd
 refine wpAny_binaryOp_repeat_ref (T := "tuple") (U := "int") (by decide) ⟨_, ho, rfl⟩ (λ s' => typeIs_int s' k t) zcy F.fills_int_mul F.slot_int_rmul zgj F.slot_int_index.lookup
  (call_meets F.slot_int_rmul (typeIs_int s k t) F.entry_int_rmul (F.args_int_rmul_2 _ _) (zeQ k t l its.toArray n dd sl) ⟨ho, rfl, ⟨_, ho, rfl⟩, ?_⟩)
 by_cases hk : k = 1
 · subst hk
   exact call_meets F.slot_tuple_mul ⟨_, ho, rfl⟩ F.entry_tuple_mul (F.args_tuple_mul_2 _ _) (zhV l its.toArray n dd sl t) ⟨ho, ⟨.ref l, H, I, rfl, q1 rfl⟩⟩
 · have hfl : (List.replicate k.toNat xs).flatten.length <= sizeLine := by rw [len_rep, Nat.mul_comm]; exact hz
   refine call_meets F.slot_tuple_mul ⟨_, ho, rfl⟩ F.entry_tuple_mul (F.args_tuple_mul_2 _ _) (zim l its.toArray #[] n dd sl k t (by simp; omega) (by rw [he]; simpa using hk) (by rw [he]; simp; omega) ?_ ?_ ?_) ⟨ho, ?_⟩
   · rw [hki]
     have : ((sizeLine : Nat) : Int) <= (2 ^ 63 - 1) / 8 := by decide
     omega
   · unfold Builtin.Tuple.tupleTooMany
     rw [hki]
     simp only [gt_iff_lt, decide_eq_true_eq]
     omega
   · rw [hnew, zzE, len_rep, Nat.mul_comm]
     rw [zzE] at hlen
     omega
   · rw [hnew]
     refine ⟨.ref s.heap.objs.size, _, I.laid (t' := s.toks) (o := .tup (List.replicate k.toNat xs).flatten) (λ b ob q => Heap.get?_push_of_some _ q) (zzK _) ?_, rfl, q2 (by omega) _ (I.hok.fresh (zzK _))⟩
     exact ⟨hfl, _, r.rep k.toNat, IsTup.new _ _⟩
theorem zp (op : Operator) : OpD X kd (binaryOp op) (zbK op) := by
 intro pins s σ H x y v u Q I rx ry h
 obtain ⟨O, d, e, r, ht, vx, vy, he, q⟩ := h
 cases op with
 | Add =>
  cases vx with
  | int i =>
   obtain ⟨j, h1, he⟩ := bS_ (show (asI e).bind _ = _ from he)
   obtain ⟨rfl, rfl⟩ := Wi vy h1
   cases he
   exact zqe pins s σ H _ _ v u Q I rx ry ⟨_, _, rfl, rfl, yS q (.int _)⟩
  | str i =>
   obtain ⟨j, h1, he⟩ := bS_ (show (asS e).bind _ = _ from he)
   obtain ⟨rfl, rfl⟩ := zpq vy h1
   obtain ⟨c, rfl⟩ := yt he
   exact zju pins s σ H _ _ v u Q I rx ry ⟨_, _, rfl, rfl, c, yS q (.str _)⟩
  | lst hx rx' =>
   obtain ⟨j, h1, he⟩ := bS_ (show (asL e).bind _ = _ from he)
   cases zco h1
   obtain ⟨c, rfl⟩ := yt he
   cases vy with
   | lst hy ry' => exact znU pins s σ H _ _ v u Q I rx ry ⟨_, _, _, _, rfl, rfl, hx, hy, by rw [rx'.length, ry'.length]; exact c, zcj q (rx'.append ry')⟩
  | @tup a1 vs1 ds1 r1 hx rx' =>
   obtain ⟨j, h1, he⟩ := bS_ (show (asT e).bind _ = _ from he)
   cases zma h1
   obtain ⟨c, rfl⟩ := yt he
   cases vy with
   | tup r2 hy ry' =>
    by_cases h0 : vs1 = ([] : List V)
    · subst h0
      cases rx'
      exact znw pins s σ H _ _ v u Q I rx ry ⟨_, _, _, rfl, rfl, hx, hy, yS q r2⟩
    refine znS pins s σ H _ _ v u Q I rx ry ⟨_, _, _, _, rfl, rfl, hx, hy, h0, by rw [rx'.length, ry'.length]; exact c, λ hn => ?_, λ hn => zge ht q (rx'.append ry')⟩
    · subst hn
      cases ry'
      rw [List.append_nil] at q
      exact yS q r1
  | _ => cases he
 | Sub =>
  obtain ⟨i, j, rfl, rfl, he⟩ := Wk vx vy he
  cases he
  exact zpX pins s σ H _ _ v u Q I rx ry ⟨_, _, rfl, rfl, yS q (.int _)⟩
 | Mult =>
  cases vx with
  | int i =>
   obtain ⟨j, h1, he⟩ := bS_ (show (asI e).bind _ = _ from he)
   obtain ⟨rfl, rfl⟩ := Wi vy h1
   obtain ⟨c, rfl⟩ := yt he
   obtain ⟨t, rfl⟩ := rx
   obtain ⟨t', rfl⟩ := ry
   exact mul_int ⟨.int _, H, I.tok _, ⟨_, rfl⟩, yS q (.int _)⟩ (IntMulOk.of_bits (zhU c.1) (zhU c.2))
  | lst hx rx' =>
   obtain ⟨j, h1, he⟩ := bS_ (show (asI e).bind _ = _ from he)
   obtain ⟨rfl, rfl⟩ := Wi vy h1
   obtain ⟨c, rfl⟩ := yt he
   exact znV pins s σ H _ _ v u Q I rx ry ⟨_, _, _, rfl, rfl, hx, c.1, c.2.1, by rw [rx'.length]; exact c.2.2, zcj q (rx'.rep _)⟩
  | tup r1 hx rx' =>
   obtain ⟨j, h1, he⟩ := bS_ (show (asI e).bind _ = _ from he)
   obtain ⟨rfl, rfl⟩ := Wi vy h1
   obtain ⟨c, rfl⟩ := yt he
   refine znK pins s σ H _ _ v u Q I rx ry ⟨_, _, _, rfl, rfl, hx, λ e => ?_, c.1, c.2.1, by rw [rx'.length]; exact c.2.2.2, λ e => ?_, λ _ => zge ht q (rx'.rep _)⟩
   · have := rx'.length
     rw [e] at this
     exact c.2.2.1 this.symm
   · subst e
     refine yS q ?_
     rw [show (1 : Int).toNat = 1 from rfl, List.replicate_one, List.flatten_cons, List.flatten_nil, List.append_nil]
     exact r1
  | _ => cases he
 | FloorDiv =>
  obtain ⟨i, j, rfl, rfl, he⟩ := Wk vx vy he
  obtain ⟨c, rfl⟩ := yt he
  obtain ⟨t, rfl⟩ := rx
  obtain ⟨t', rfl⟩ := ry
  refine floordiv_int (by omega) ?_ (.inl (PyProof.noPylong_of_log2 ?_))
  · rw [Int.fdiv_eq_ediv_of_nonneg _ (by omega)]
    exact ⟨.int _, H, I.tok _, ⟨_, rfl⟩, yS q (.int _)⟩
  · exact zzH ((Nat.log2_lt (by have := c.1; omega)).mpr (show _ < 2 ^ 4000 from c.2)) (by decide)
 | Mod =>
  obtain ⟨i, j, rfl, rfl, he⟩ := Wk vx vy he
  obtain ⟨c, rfl⟩ := yt he
  exact zlt pins s σ H _ _ v u Q I rx ry ⟨_, _, rfl, rfl, c, yS q (.int _)⟩
 | Pow =>
  obtain ⟨i, j, rfl, rfl, he⟩ := Wk vx vy he
  obtain ⟨c, rfl⟩ := yt he
  exact zpv pins s σ H _ _ v u Q I rx ry ⟨_, _, rfl, rfl, c, yS q (.int _)⟩
 | _ => cases he
end
def eqL (f : D -> D -> Option Bool) : List D -> List D -> Option Bool
 | [], [] => some true
 | x :: r, y :: t => (f x y).bind λ b => (eqL f r t).bind λ c => some (b && c)
 | _, _ => some false
def eqF : Nat -> D -> D -> Option Bool
 | 0, _, _ => none
 | _ + 1, .non, .non => some true
 | _ + 1, .bl a, .bl b => some (a == b)
 | _ + 1, .int a, .int b => some (a == b)
 | _ + 1, .str a, .str b => some (a == b)
 | _ + 1, .bl a, .int b => some ((if a then 1 else 0) == b)
 | _ + 1, .int a, .bl b => some (a == (if b then 1 else 0))
 | n + 1, .lst xs, .lst ys => eqL (eqF n) xs ys
 | n + 1, .tup xs, .tup ys => eqL (eqF n) xs ys
 | _ + 1, .dct _, _ => none
 | _ + 1, .cl _, _ => none
 | _ + 1, .ob _ _ _, _ => none
 | _ + 1, .dt _ _, _ => none
 | _ + 1, _, .dct _ => none
 | _ + 1, _, .cl _ => none
 | _ + 1, _, .ob _ _ _ => none
 | _ + 1, _, .dt _ _ => none
 | _ + 1, _, _ => some false
def eqJ (f : D -> D -> Option Bool) (xs ys : List D) (j : Nat) : Bool := match xs[j]?, ys[j]? with
 | some d, some e => (f d e).getD false
 | _, _ => false
theorem zdA {f : D -> D -> Option Bool} : ∀ {xs ys : List D} {b : Bool}, eqL f xs ys = some b -> (∀ (j : Nat) d e, xs[j]? = some d -> ys[j]? = some e -> ∃ c, f d e = some c) /\
 b = ((List.range (min xs.length ys.length)).all (eqJ f xs ys) && xs.length == ys.length)
 | [], [], b, h => by cases h; exact ⟨λ j d e h => by simp at h, by simp⟩
 | [], y :: t, b, h => by cases h; exact ⟨λ j d e h => by simp at h, by simp⟩
 | x :: r, [], b, h => by cases h; exact ⟨λ j d e _ h => by simp at h, by simp⟩
 | x :: r, y :: t, b, h => by
  obtain ⟨b1, h1, h⟩ := bS_ (show (f x y).bind _ = _ from h)
  obtain ⟨c1, h2, h⟩ := bS_ h
  cases h
  obtain ⟨k1, k2⟩ := zdA h2
  refine ⟨λ j d e hd he => ?_, ?_⟩
  · cases j with
    | zero => simp at hd he; subst hd he; exact ⟨b1, h1⟩
    | succ j => exact k1 j d e (by simpa using hd) (by simpa using he)
  · have e0 : min (x :: r).length (y :: t).length = min r.length t.length + 1 := by simp only [zzQ]; omega
    rw [e0, List.range_succ_eq_map, List.all_cons, List.all_map, k2]
    have e1 : eqJ f (x :: r) (y :: t) 0 = b1 := by show (f x y).getD false = b1; rw [h1]; rfl
    have e2 : (eqJ f (x :: r) (y :: t) ∘ Nat.succ) = eqJ f r t := by
     funext j
     show eqJ f (x :: r) (y :: t) (j + 1) = _
     unfold eqJ
     simp
    have e3 : ((x :: r).length == (y :: t).length) = (r.length == t.length) := by
     by_cases hh : r.length = t.length <;> simp [hh]
    rw [e1, e2, e3, Bool.and_assoc]
structure EqAll (A : Around) (s : Shared) (u v : Value) (b : Bool) : Prop where
 rc : SeqAt.RcAt A s u v b
 ne : SeqAt.RcNeAt A s u v (!b)
 eq : SeqAt.EqAt A s u v b
section
variable {X : Cx} {kd : KD} {pins : List (Addr × Obj)} {σ : St} {H : Hp} {s : Shared} {O : Addr -> Prop}
theorem zjH (I : Inv X pins σ H s) {a : Addr} {xs ys : List V} (h : SqT X.K H a xs) (h' : SqL X.K H a ys) : False := by
 obtain ⟨_, _, ⟨o, e, c, _⟩, _⟩ := I.tuple h
 obtain ⟨_, _, ⟨o', n, e', c', _⟩, _⟩ := I.list h'
 rw [e] at e'
 cases e'
 rw [c] at c'
 exact absurd c' (by decide)
theorem zko (I : Inv X pins σ H s) : ∀ (n : Nat) (v : V) (d e : D) (b : Bool), Vw X.K kd O H v d -> Vw X.K kd O H v e -> eqF n d e = some b -> b = true
 | 0, _, _, _, _, _, _, h => by cases h
 | n + 1, v, d, e, b, h1, h2, h => by
  have lst : ∀ (vs : List V) (ds es : List D) (b : Bool), RpL X.K kd O H vs ds -> RpL X.K kd O H vs es -> eqL (eqF n) ds es = some b -> b = true := by
   intro vs
   induction vs with
   | nil => intro ds es b r1 r2 h; cases r1; cases r2; cases h; rfl
   | cons v vs ih =>
    intro ds es b r1 r2 h
    cases r1 with
    | cons a1 r1 =>
     cases r2 with
     | cons a2 r2 =>
      obtain ⟨b1, k1, h⟩ := bS_ (show (eqF n _ _).bind _ = _ from h)
      obtain ⟨c1, k2, h⟩ := bS_ h
      cases h
      rw [zko I n _ _ _ _ a1.vw a2.vw k1, ih _ _ _ r1 r2 k2]
      rfl
  cases h1 with
  | non => cases h2; cases h; rfl
  | bl x => cases h2; cases h; simp
  | int x => cases h2; cases h; simp
  | str x => cases h2; cases h; simp
  | tup r1 s1 l1 =>
   cases h2 with
   | tup r2 s2 l2 =>
    have := I.tuple_inj s1 s2
    subst this
    exact lst _ _ _ _ l1 l2 h
   | lst s2 l2 => exact (zjH I s1 s2.sq).elim
   | _ => cases h
  | lst s1 l1 =>
   cases h2 with
   | tup r2 s2 l2 => exact (zjH I s2 s1.sq).elim
   | lst s2 l2 =>
    have := I.list_inj s1.sq s2.sq
    subst this
    exact lst _ _ _ _ l1 l2 h
   | _ => cases h
  | _ => cases h
theorem zgR (I : Inv X pins σ H s) : ∀ (n : Nat) (A : Around) (x y : V) (d e : D) (u v : Value) (b : Bool), A.units + n < cLine -> Vw X.K kd O H x d -> Vw X.K kd O H y e -> RelV x u -> RelV y v -> eqF n d e = some b -> EqAll A s u v b
 | 0, _, _, _, _, _, _, _, _, _, _, _, _, _, h => by cases h
 | n + 1, A, x, y, d, e, u, v, b, hu, h1, h2, r1, r2, h => by
  have hu0 : A.units < cLine := by omega
  have itm : ∀ {vs ws : List V} {its its2 : List Value} {ds es : List D}, RpL X.K kd O H vs ds -> RpL X.K kd O H ws es -> Vals vs its -> Vals ws its2 -> (∀ (j : Nat) d e, ds[j]? = some d -> es[j]? = some e -> ∃ c, eqF n d e = some c) ->
   ∀ j (h1 : j < its.toArray.size) (h2 : j < its2.toArray.size), SeqAt.EqAt A.in1 s its.toArray[j] its2.toArray[j] (eqJ (eqF n) ds es j) := by
   intro vs ws its its2 ds es l1 l2 v1 v2 hd j j1 j2
   have q1 : j < ds.length := by rw [<- l1.length, v1.length]; simpa using j1
   have q2 : j < es.length := by rw [<- l2.length, v2.length]; simpa using j2
   obtain ⟨a1, ha1, ra1⟩ := l1.get (zzB q1)
   obtain ⟨a2, ha2, ra2⟩ := l2.get (zzB q2)
   obtain ⟨u1, hu1, ru1⟩ := v1.get ha1
   obtain ⟨u2, hu2, ru2⟩ := v2.get ha2
   obtain ⟨c, hc⟩ := hd j _ _ (zzB q1) (zzB q2)
   have e1 : its.toArray[j] = u1 := by
    have := (zzD.mp hu1).2
    simpa using this
   have e2 : its2.toArray[j] = u2 := by
    have := (zzD.mp hu2).2
    simpa using this
   rw [e1, e2]
   have e3 : eqJ (eqF n) ds es j = c := by
    unfold eqJ
    rw [zzB q1, zzB q2]
    show (eqF n _ _).getD false = c
    rw [hc]; rfl
   rw [e3]
   exact (zgR I n A.in1 a1 a2 _ _ u1 u2 c (by show A.units + 1 + n < cLine; omega) ra1.vw ra2.vw ru1 ru2 hc).eq
  have same : ∀ {a a' : Addr}, x = .ref a -> y = .ref a' -> a = a' -> b = true := by
   intro a a' e1 e2 e3
   subst e1 e2 e3
   exact zko I (n + 1) _ _ _ _ h1 h2 h
  cases h1 with
  | non =>
   cases r1
   cases h2 with
   | non => cases r2; cases h; exact ⟨SeqAt.RcAt.none_none, SeqAt.RcNeAt.none_none, SeqAt.EqAt.same _⟩
   | bl => cases r2; cases h; exact ⟨SeqAt.RcAt.none_bool _, SeqAt.RcNeAt.none_bool _, SeqAt.EqAt.none_bool _⟩
   | int => obtain ⟨t, rfl⟩ := r2; cases h; exact ⟨SeqAt.RcAt.none_int _ _, SeqAt.RcNeAt.none_int _ _, SeqAt.EqAt.none_int _ _⟩
   | str => obtain ⟨t, rfl⟩ := r2; cases h; exact ⟨SeqAt.RcAt.none_str _ _, SeqAt.RcNeAt.none_str _ _, SeqAt.EqAt.none_str _ _⟩
   | tup r s2 l2 =>
    cases r2; cases h
    obtain ⟨its, rv, p, _⟩ := I.tuple s2
    exact ⟨SeqAt.RcAt.none_tuple p hu0, SeqAt.RcNeAt.none_tuple p hu0, SeqAt.EqAt.none_tuple p hu0⟩
   | lst s2 l2 =>
    cases r2; cases h
    obtain ⟨its, rv, p, _⟩ := I.list s2.sq
    exact ⟨SeqAt.RcAt.none_list p.isList hu0, SeqAt.RcNeAt.none_list p.isList hu0, SeqAt.EqAt.none_list p.isList hu0⟩
   | _ => cases h
  | bl c =>
   cases r1
   cases h2 with
   | non => cases r2; cases h; exact ⟨SeqAt.RcAt.bool_none _, SeqAt.RcNeAt.bool_none _, SeqAt.EqAt.bool_none _⟩
   | bl => cases r2; cases h; exact ⟨SeqAt.RcAt.bool_bool _ _, SeqAt.RcNeAt.bool_bool _ _, SeqAt.EqAt.bool_bool _ _⟩
   | int => obtain ⟨t, rfl⟩ := r2; cases h; exact ⟨SeqAt.RcAt.bool_int _ _ _, SeqAt.RcNeAt.bool_int _ _ _, SeqAt.EqAt.bool_int _ _ _⟩
   | str => obtain ⟨t, rfl⟩ := r2; cases h; exact ⟨SeqAt.RcAt.bool_str _ _ _, SeqAt.RcNeAt.bool_str _ _ _, SeqAt.EqAt.bool_str _ _ _⟩
   | tup r s2 l2 =>
    cases r2; cases h
    obtain ⟨its, rv, p, _⟩ := I.tuple s2
    exact ⟨SeqAt.RcAt.bool_tuple _ p hu0, SeqAt.RcNeAt.bool_tuple _ p hu0, SeqAt.EqAt.bool_tuple _ p hu0⟩
   | lst s2 l2 =>
    cases r2; cases h
    obtain ⟨its, rv, p, _⟩ := I.list s2.sq
    exact ⟨SeqAt.RcAt.bool_list _ p.isList hu0, SeqAt.RcNeAt.bool_list _ p.isList hu0, SeqAt.EqAt.bool_list _ p.isList hu0⟩
   | _ => cases h
  | int c =>
   obtain ⟨t0, rfl⟩ := r1
   cases h2 with
   | non => cases r2; cases h; exact ⟨SeqAt.RcAt.int_none _ _, SeqAt.RcNeAt.int_none _ _, SeqAt.EqAt.int_none _ _⟩
   | bl => cases r2; cases h; exact ⟨SeqAt.RcAt.int_bool _ _ _, SeqAt.RcNeAt.int_bool _ _ _, SeqAt.EqAt.int_bool _ _ _⟩
   | int => obtain ⟨t, rfl⟩ := r2; cases h; exact ⟨SeqAt.RcAt.int_int _ _ _ _, SeqAt.RcNeAt.int_int _ _ _ _, SeqAt.EqAt.int_int _ _ _ _⟩
   | str => obtain ⟨t, rfl⟩ := r2; cases h; exact ⟨SeqAt.RcAt.int_str _ _ _ _, SeqAt.RcNeAt.int_str _ _ _ _, SeqAt.EqAt.int_str _ _ _ _⟩
   | tup r s2 l2 =>
    cases r2; cases h
    obtain ⟨its, rv, p, _⟩ := I.tuple s2
    exact ⟨SeqAt.RcAt.int_tuple _ _ p hu0, SeqAt.RcNeAt.int_tuple _ _ p hu0, SeqAt.EqAt.int_tuple _ _ p hu0⟩
   | lst s2 l2 =>
    cases r2; cases h
    obtain ⟨its, rv, p, _⟩ := I.list s2.sq
    exact ⟨SeqAt.RcAt.int_list _ _ p.isList hu0, SeqAt.RcNeAt.int_list _ _ p.isList hu0, SeqAt.EqAt.int_list _ _ p.isList hu0⟩
   | _ => cases h
  | str c =>
   obtain ⟨t0, rfl⟩ := r1
   cases h2 with
   | non => cases r2; cases h; exact ⟨SeqAt.RcAt.str_none _ _, SeqAt.RcNeAt.str_none _ _, SeqAt.EqAt.str_none _ _⟩
   | bl => cases r2; cases h; exact ⟨SeqAt.RcAt.str_bool _ _ _, SeqAt.RcNeAt.str_bool _ _ _, SeqAt.EqAt.str_bool _ _ _⟩
   | int => obtain ⟨t, rfl⟩ := r2; cases h; exact ⟨SeqAt.RcAt.str_int _ _ _ _, SeqAt.RcNeAt.str_int _ _ _ _, SeqAt.EqAt.str_int _ _ _ _⟩
   | str => obtain ⟨t, rfl⟩ := r2; cases h; exact ⟨SeqAt.RcAt.str_str _ _ _ _, SeqAt.RcNeAt.str_str _ _ _ _, SeqAt.EqAt.str_str _ _ _ _⟩
   | tup r s2 l2 =>
    cases r2; cases h
    obtain ⟨its, rv, p, _⟩ := I.tuple s2
    exact ⟨SeqAt.RcAt.str_tuple _ _ p hu0, SeqAt.RcNeAt.str_tuple _ _ p hu0, SeqAt.EqAt.str_tuple _ _ p hu0⟩
   | lst s2 l2 =>
    cases r2; cases h
    obtain ⟨its, rv, p, _⟩ := I.list s2.sq
    exact ⟨SeqAt.RcAt.str_list _ _ p.isList hu0, SeqAt.RcNeAt.str_list _ _ p.isList hu0, SeqAt.EqAt.str_list _ _ p.isList hu0⟩
   | _ => cases h
  | @tup a1 vs1 ds1 r s1 l1 =>
   cases r1
   obtain ⟨its1, rv1, p1, _⟩ := I.tuple s1
   cases h2 with
   | non => cases r2; cases h; exact ⟨SeqAt.RcAt.tuple_none p1 hu0, SeqAt.RcNeAt.tuple_none p1 hu0, SeqAt.EqAt.tuple_none p1 hu0⟩
   | bl => cases r2; cases h; exact ⟨SeqAt.RcAt.tuple_bool _ p1 hu0, SeqAt.RcNeAt.tuple_bool _ p1 hu0, SeqAt.EqAt.tuple_bool _ p1 hu0⟩
   | int => obtain ⟨t, rfl⟩ := r2; cases h; exact ⟨SeqAt.RcAt.tuple_int _ _ p1 hu0, SeqAt.RcNeAt.tuple_int _ _ p1 hu0, SeqAt.EqAt.tuple_int _ _ p1 hu0⟩
   | str => obtain ⟨t, rfl⟩ := r2; cases h; exact ⟨SeqAt.RcAt.tuple_str _ _ p1 hu0, SeqAt.RcNeAt.tuple_str _ _ p1 hu0, SeqAt.EqAt.tuple_str _ _ p1 hu0⟩
   | @tup a2 vs2 ds2 r' s2 l2 =>
    cases r2
    obtain ⟨its2, rv2, p2, _⟩ := I.tuple s2
    obtain ⟨k1, k2⟩ := zdA h
    have he := itm l1 l2 rv1 rv2 k1
    have eb : ((List.range (min its1.toArray.size its2.toArray.size)).all (eqJ (eqF n) ds1 ds2) && its1.toArray.size == its2.toArray.size) = b := by
     rw [k2, zzE, zzE, <- rv1.length, <- rv2.length, l1.length, l2.length]
    have b1 := SeqAt.RcAt.tuples p1 p2 hu0 he
    have b2 := SeqAt.RcNeAt.tuples p1 p2 hu0 he
    rw [eb] at b1 b2
    refine ⟨b1, b2, ?_⟩
    by_cases ha : a1 = a2
    · have hb := same rfl rfl ha
      subst ha
      rw [hb]
      exact SeqAt.EqAt.same _
    · exact SeqAt.EqAt.of_refs ha b1
   | lst s2 l2 =>
    cases r2; cases h
    obtain ⟨its, rv, p, _⟩ := I.list s2.sq
    exact ⟨SeqAt.RcAt.tuple_list p1 p.isList hu0, SeqAt.RcNeAt.tuple_list p1 p.isList hu0, SeqAt.EqAt.tuple_list p1 p.isList hu0⟩
   | _ => cases h
  | @lst a1 vs1 ds1 s1 l1 =>
   cases r1
   obtain ⟨its1, rv1, p1, _⟩ := I.list s1.sq
   cases h2 with
   | non => cases r2; cases h; exact ⟨SeqAt.RcAt.list_none p1.isList hu0, SeqAt.RcNeAt.list_none p1.isList hu0, SeqAt.EqAt.list_none p1.isList hu0⟩
   | bl => cases r2; cases h; exact ⟨SeqAt.RcAt.list_bool _ p1.isList hu0, SeqAt.RcNeAt.list_bool _ p1.isList hu0, SeqAt.EqAt.list_bool _ p1.isList hu0⟩
   | int => obtain ⟨t, rfl⟩ := r2; cases h; exact ⟨SeqAt.RcAt.list_int _ _ p1.isList hu0, SeqAt.RcNeAt.list_int _ _ p1.isList hu0, SeqAt.EqAt.list_int _ _ p1.isList hu0⟩
   | str => obtain ⟨t, rfl⟩ := r2; cases h; exact ⟨SeqAt.RcAt.list_str _ _ p1.isList hu0, SeqAt.RcNeAt.list_str _ _ p1.isList hu0, SeqAt.EqAt.list_str _ _ p1.isList hu0⟩
   | tup r' s2 l2 =>
    cases r2; cases h
    obtain ⟨its2, rv2, p2, _⟩ := I.tuple s2
    exact ⟨SeqAt.RcAt.list_tuple p1.isList p2 hu0, SeqAt.RcNeAt.list_tuple p1.isList p2 hu0, SeqAt.EqAt.list_tuple p1.isList p2 hu0⟩
   | @lst a2 vs2 ds2 s2 l2 =>
    cases r2
    obtain ⟨its2, rv2, p2, _⟩ := I.list s2.sq
    obtain ⟨k1, k2⟩ := zdA h
    have he := itm l1 l2 rv1 rv2 k1
    have ez1 : its1.toArray.size = _ := zzE.trans (rv1.length.symm.trans l1.length)
    have ez2 : its2.toArray.size = _ := zzE.trans (rv2.length.symm.trans l2.length)
    have both : SeqAt.RcAt A s (.ref a1) (.ref a2) b /\ SeqAt.RcNeAt A s (.ref a1) (.ref a2) (!b) := by
     by_cases hz : its1.toArray.size = its2.toArray.size
     · have b1 := SeqAt.RcAt.lists p1.isList p2.isList hz hu0 he
       have b2 := SeqAt.RcNeAt.lists p1.isList p2.isList hz hu0 he
       have eb : (List.range its1.toArray.size).all (eqJ (eqF n) ds1 ds2) = b := by
        rw [k2, <- ez1, <- ez2, <- hz, Nat.min_self]
        simp
       rw [eb] at b1 b2
       exact ⟨b1, b2⟩
     · have hz' : (its1.toArray.size != its2.toArray.size) = true := by simpa using hz
       have eb : b = false := by
        rw [k2, <- ez1, <- ez2]
        have : (its1.toArray.size == its2.toArray.size) = false := by simpa using hz
        rw [this, Bool.and_false]
       rw [eb]
       exact ⟨SeqAt.RcAt.lists_lengths p1.isList p2.isList hz' hu0, SeqAt.RcNeAt.lists_lengths p1.isList p2.isList hz' hu0⟩
    refine ⟨both.1, both.2, ?_⟩
    by_cases ha : a1 = a2
    · have hb := same rfl rfl ha
      subst ha
      rw [hb]
      exact SeqAt.EqAt.same _
    · exact SeqAt.EqAt.of_refs ha both.1
   | _ => cases h
  | _ => cases h
end
structure DkAt (P : Program) (w : World) (h : Heap) (a : Addr) (kvs : List (Key × V)) : Prop where
 le : kvs.length <= sizeLine
 ns : (a == sysModules) = false
 ex : ∃ vs, KV kvs vs /\ h.DictOf (wu P w) a vs
structure KdOk (X : Cx) (kd : KD) : Prop where
 inj : ∀ a k k', kd a k -> kd a k' -> k = k'
 inK : ∀ a k, kd a k -> ∃ o, X.K.lookup a = some o
 at_ : ∀ a k h, kd a k -> X.K.In h -> DkAt X.prog X.w h a k
section
variable {X : Cx} {kd : KD} {pins : List (Addr × Obj)} {σ : St} {H : Hp} {s : Shared} {O : Addr -> Prop}
theorem zfL (I : Inv X pins σ H s) (hk : KdOk X kd) {a : Addr} {kvs : List (Key × V)} (h : Rd H a (.dK kvs) \/ kd a kvs) : DkAt X.prog X.w s.heap a kvs := by
 rcases h with h | h
 · obtain ⟨z, hd, vs, rel, dd⟩ := zif I.hok h
   exact ⟨z, hd, vs, rel, dd⟩
 · exact hk.at_ _ _ _ h I.kIn
theorem zlL (I : Inv X pins σ H s) : ∀ (n : Nat) (v : V) (d e x : D) (b c : Bool), Vw X.K kd O H v d -> Vw X.K kd O H v e -> eqF n d x = some b -> eqF n e x = some c -> b = c
 | 0, _, _, _, _, _, _, _, _, h, _ => by cases h
 | n + 1, v, d, e, x, b, c, h1, h2, h, h' => by
  have lst : ∀ (vs : List V) (ds es xs : List D) (b c : Bool), RpL X.K kd O H vs ds -> RpL X.K kd O H vs es -> eqL (eqF n) ds xs = some b -> eqL (eqF n) es xs = some c -> b = c := by
   intro vs
   induction vs with
   | nil => intro ds es xs b c r1 r2 h h'; cases r1; cases r2; exact Option.some.inj (h.symm.trans h')
   | cons v vs ih =>
    intro ds es xs b c r1 r2 h h'
    cases r1 with
    | cons a1 r1 =>
     cases r2 with
     | cons a2 r2 =>
      cases xs with
      | nil => cases h; cases h'; rfl
      | cons x xs =>
       obtain ⟨b1, k1, h⟩ := bS_ (show (eqF n _ _).bind _ = _ from h)
       obtain ⟨c1, k2, h⟩ := bS_ h
       obtain ⟨b2, k3, h'⟩ := bS_ (show (eqF n _ _).bind _ = _ from h')
       obtain ⟨c2, k4, h'⟩ := bS_ h'
       cases h; cases h'
       rw [zlL I n _ _ _ _ _ _ a1.vw a2.vw k1 k3, ih _ _ _ _ _ r1 r2 k2 k4]
  cases h1 with
  | tup r1 s1 l1 =>
   cases h2 with
   | tup r2 s2 l2 =>
    have := I.tuple_inj s1 s2
    subst this
    cases x with
    | tup xs => exact lst _ _ _ _ _ _ l1 l2 h h'
    | _ => exact Option.some.inj (h.symm.trans h')
   | lst s2 l2 => exact (zjH I s1 s2.sq).elim
   | _ => cases h'
  | lst s1 l1 =>
   cases h2 with
   | tup r2 s2 l2 => exact (zjH I s2 s1.sq).elim
   | lst s2 l2 =>
    have := I.list_inj s1.sq s2.sq
    subst this
    cases x with
    | lst xs => exact lst _ _ _ _ _ _ l1 l2 h h'
    | _ => exact Option.some.inj (h.symm.trans h')
   | _ => cases h'
  | dct s1 l1 => cases h
  | cl => cases h
  | ob => cases h
  | dt => cases h
  | _ => cases h2; exact Option.some.inj (h.symm.trans h')
end
def ziL : D -> Option Key
 | .int i => some (.inl i)
 | .str x => some (.inr x)
 | _ => none
def zcq (kvs : List (Key × D)) (k : Key) : Option D := (kvs.find? λ kv => decide (kv.1 = k)).map (·.2)
theorem zgf {K : zC} {kd : KD} {O : Addr -> Prop} {H : Hp} (k : Key) {vs : List (Key × V)} {ds : List (Key × D)} (h : RpM K kd O H vs ds) : (∃ v d, Y0 vs k = some v /\ zcq ds k = some d /\ Rp K kd O H v d) \/ (Y0 vs k = none /\ zcq ds k = none) :=
 RpM.ind (P := λ vs ds => (∃ v d, Y0 vs k = some v /\ zcq ds k = some d /\ Rp K kd O H v d) \/ (Y0 vs k = none /\ zcq ds k = none)) (.inr ⟨rfl, rfl⟩) (λ {k' v d vs ds} a _ ih => by
  by_cases e : k' = k
  · left
    refine ⟨_, _, ?_, ?_, a⟩
    · unfold Y0; simp [e]
    · unfold zcq; simp [e]
  · rcases ih with ⟨v, d, h1, h2, h3⟩ | ⟨h1, h2⟩
    · left
      refine ⟨v, d, ?_, ?_, h3⟩
      · unfold Y0 at h1 ⊢; simpa [e] using h1
      · unfold zcq at h2 ⊢; simpa [e] using h2
    · right
      refine ⟨?_, ?_⟩
      · unfold Y0 at h1 ⊢; simpa [e] using h1
      · unfold zcq at h2 ⊢; simpa [e] using h2) h
def zkf : List D -> Option (List Key)
 | [] => some []
 | d :: r => (ziL d).bind λ k => (zkf r).bind λ ks => some (k :: ks)
def zhd : D -> Option (List Key)
 | .tup ds => zkf ds
 | _ => none
def zbL (ks : List (List Key)) (ds : List D) (k : List Key) : Option D := ((ks.zip ds).find? λ kv => decide (kv.1 = k)).map (·.2)
theorem zmO {K : zC} {kd : KD} {O : Addr -> Prop} {H : Hp} {vs : List V} {ds : List D} (h : RpL K kd O H vs ds) : ∀ {k : List Key}, zkf ds = some k -> vs = k.map kV :=
 RpL.ind (P := λ vs ds => ∀ {k : List Key}, zkf ds = some k -> vs = k.map kV) (λ e => by cases e; rfl) (λ {v d vs ds} a _ ih k e => by
  obtain ⟨k1, h1, e⟩ := bS_ (show (ziL d).bind _ = _ from e)
  obtain ⟨k2, h2, e⟩ := bS_ e
  cases e
  have hv : v = kV k1 := by
   cases a with
   | int i => cases h1; rfl
   | str i => cases h1; rfl
   | _ => cases h1
  rw [hv, ih h2]; rfl) h
theorem zbr {K : zC} {kd : KD} {O : Addr -> Prop} {H : Hp} {v : V} {d : D} {k : List Key} (h : Vw K kd O H v d) (e : zhd d = some k) : ∃ b, v = .ref b /\ H b = some (.tup (k.map kV)) := by
 cases h with
 | tup rp hs rl =>
  cases rp with
  | tup n h r => exact ⟨_, rfl, by rw [h, zmO r e]⟩
 | _ => cases e
theorem zel {K : zC} {kd : KD} {O : Addr -> Prop} {H : Hp} (k : List Key) {vs : List V} {ds : List D} (h : RpL K kd O H vs ds) : ∀ {ks : List (List Key)}, ks.length = vs.length -> (∃ v d, Y0 (ks.zip vs) k = some v /\ zbL ks ds k = some d /\ Rp K kd O H v d) \/ (Y0 (ks.zip vs) k = none /\ zbL ks ds k = none) :=
 RpL.ind (P := λ vs ds => ∀ {ks : List (List Key)}, ks.length = vs.length -> (∃ v d, Y0 (ks.zip vs) k = some v /\ zbL ks ds k = some d /\ Rp K kd O H v d) \/ (Y0 (ks.zip vs) k = none /\ zbL ks ds k = none)) (λ {ks} e => by
  cases ks with
  | nil => exact .inr ⟨rfl, rfl⟩
  | cons => simp at e) (λ {v d vs ds} a _ ih ks e => by
  cases ks with
  | nil => simp at e
  | cons k1 ks =>
   have e' : ks.length = vs.length := by simpa using e
   unfold Y0 zbL
   rw [List.zip_cons_cons, List.zip_cons_cons]
   by_cases hk : k1 = k
   · rw [List.find?_cons_of_pos (by simpa using hk), List.find?_cons_of_pos (by simpa using hk)]
     exact .inl ⟨_, _, rfl, rfl, a⟩
   · rw [List.find?_cons_of_neg (by simpa using hk), List.find?_cons_of_neg (by simpa using hk)]
     exact ih e') h
def anyF (f : D -> Option Bool) : List D -> Option Bool
 | [] => some false
 | x :: r => (f x).bind λ b => (anyF f r).bind λ c => some (b || c)
def blR (b : Bool) : R0 := .im (.bl b)
def inP (x : D) : D -> Option Bool
 | .lst ys => anyF (λ y => eqF 50 y x) ys
 | .tup ys => anyF (λ y => eqF 50 y x) ys
 | .str y => match x with | .str i => some (!(Builtin.Str.occurrences y i 0 y.length 1).isEmpty) | _ => none
 | .dct kvs => (ziL x).bind λ k => some (zcq kvs k).isSome
 | .dt ks ds => (zhd x).bind λ k => some (zbL ks ds k).isSome
 | _ => none
def isP : D -> D -> Option Bool
 | d, .non => some (match d with | .non => true | _ => false)
 | d, .bl b => match d with | .bl c => some (c == b) | _ => some false
 | _, _ => none
def zmp (f : Int -> Int -> Bool) : D -> D -> Option R0 := onI λ i j => some (blR (f i j))
def yf (o : CmpOp) (d e : D) : Option R0 := match o with
 | .Eq => (eqF 60 d e).bind λ b => some (blR b)
 | .NotEq => (eqF 60 d e).bind λ b => some (blR !b)
 | .Lt => zmp (λ i j => decide (i < j)) d e
 | .LtE => zmp (λ i j => decide (i <= j)) d e
 | .Gt => zmp (λ i j => decide (j < i)) d e
 | .GtE => zmp (λ i j => decide (j <= i)) d e
 | .In => (inP d e).bind λ b => some (blR b)
 | .NotIn => (inP d e).bind λ b => some (blR !b)
 | .Is => (isP d e).bind λ b => some (blR b)
 | .IsNot => (isP d e).bind λ b => some (blR !b)
theorem V8 {o : Option Bool} {f : Bool -> Bool} {r : R0} (h : (o.bind λ b => some (blR (f b))) = some r) : ∃ k, r = .im (.bl k) := by
 obtain ⟨b, _, h⟩ := bS_ h
 cases h
 exact ⟨_, rfl⟩
theorem zdq {x y : D} {f : Int -> Int -> Bool} {r : R0} (h : zmp f x y = some r) : ∃ k, r = .im (.bl k) := by
 obtain ⟨i, _, h⟩ := bS_ (show (asI x).bind _ = _ from h)
 obtain ⟨j, _, h⟩ := bS_ h
 cases h
 exact ⟨_, rfl⟩
theorem yr (op : CmpOp) (x y : D) (r : R0) (h : yf op x y = some r) : ∃ k, r = .im (.bl k) := by
 cases op with
 | Eq => exact V8 (f := id) h
 | NotEq => exact V8 (f := not) h
 | Lt => exact zdq h
 | LtE => exact zdq h
 | Gt => exact zdq h
 | GtE => exact zdq h
 | In => exact V8 (f := id) h
 | NotIn => exact V8 (f := not) h
 | Is => exact V8 (f := id) h
 | IsNot => exact V8 (f := not) h
section
variable {X : Cx} {kd : KD} {pins : List (Addr × Obj)} {σ : St} {H : Hp} {s : Shared} {O : Addr -> Prop}
noncomputable def eqW (K : zC) (kd : KD) (O : Addr -> Prop) (H : Hp) (n : Nat) (x : D) (u : Value) : Bool := @decide (∃ v d, RelV v u /\ Rp K kd O H v d /\ eqF n d x = some true) (Classical.propDecidable _)
theorem zgU (I : Inv X pins σ H s) (hk : KdOk X kd) {n : Nat} {x d : D} {v : V} {u : Value} {b : Bool} (r : RelV v u) (p : Rp X.K kd O H v d) (e : eqF n d x = some b) : eqW X.K kd O H n x u = b := by
 unfold eqW
 cases b with
 | true => exact @decide_eq_true _ (Classical.propDecidable _) ⟨v, d, r, p, e⟩
 | false =>
  refine @decide_eq_false _ (Classical.propDecidable _) λ ⟨v', d', r', p', e'⟩ => ?_
  have := r.inj r'
  subst this
  exact Bool.noConfusion (zlL I n _ _ _ _ _ _ p.vw p'.vw e e')
theorem zdx (I : Inv X pins σ H s) (hk : KdOk X kd) {n : Nat} {x : D} {vs : List V} {us : List Value} {ds : List D} {b : Bool} (hv : Vals vs us) (h : RpL X.K kd O H vs ds) (e : anyF (λ y => eqF n y x) ds = some b) : us.any (eqW X.K kd O H n x) = b :=
 RpL.ind (P := λ vs ds => ∀ us b, Vals vs us -> anyF (λ y => eqF n y x) ds = some b -> us.any (eqW X.K kd O H n x) = b) (λ us b hv e => by cases e; cases hv; rfl) (λ {v d vs ds} a _ ih us b hv h => by
  cases hv with
  | cons r t =>
   obtain ⟨b1, h1, h⟩ := bS_ (show (eqF n _ x).bind _ = _ from h)
   obtain ⟨c1, h2, h⟩ := bS_ h
   cases h
   rw [List.any_cons, zgU I hk r a h1, ih _ _ t h2]) h us b hv e
theorem Xu {f : D -> Option Bool} : ∀ {ds : List D} {b : Bool}, anyF f ds = some b -> ∀ d ∈ ds, ∃ c, f d = some c
 | [], _, _, d, hd => by simp at hd
 | x :: r, b, h, d, hd => by
  obtain ⟨b1, h1, h⟩ := bS_ (show (f x).bind _ = _ from h)
  obtain ⟨c1, h2, h⟩ := bS_ h
  rcases zI.mp hd with e | e
  · subst e; exact ⟨b1, h1⟩
  · exact Xu h2 d e
theorem zbF (I : Inv X pins σ H s) (hk : KdOk X kd) {n : Nat} {A : Around} (hu : A.units + n < cLine) {x : V} {v : Value} {d : D} (vx : Vw X.K kd O H x d) (rx : RelV x v) {vs : List V} {us : List Value} {ds : List D} (hv : Vals vs us) (h : RpL X.K kd O H vs ds) (k : ∀ e ∈ ds, ∃ c, eqF n e d = some c) : ∀ u ∈ us, SeqAt.EqAt A s u v (eqW X.K kd O H n d u) :=
 RpL.ind (P := λ vs ds => ∀ us, Vals vs us -> (∀ e ∈ ds, ∃ c, eqF n e d = some c) -> ∀ u ∈ us, SeqAt.EqAt A s u v (eqW X.K kd O H n d u)) (λ us hv _ u hu => by cases hv; simp at hu) (λ a q ih us hv h u hm => by
  cases hv with
  | cons r t =>
   rcases zI.mp hm with e | e
   · subst e
     obtain ⟨c, hc⟩ := h _ zzC
     rw [zgU I hk r a hc]
     exact (zgR I n A _ _ _ _ _ _ _ hu a.vw vx r rx hc).eq
   · exact ih _ t (λ e he => h e (zzA _ he)) u e) h us hv k
theorem zeb {A : Around} {E : Value -> Shared -> Prop} {x : V} {v : Value} {b c : Bool} {d : D} {Q : Bool -> Shared -> Prop} (vx : Vw X.K kd O H x d) (rx : RelV x v) (e : isP d (.bl b) = some c) (h : Q c s) : wpAny (model X.prog X.w) A (isSame v (.bool b)) Q E s := by
 cases vx with
 | non => cases rx; cases e; exact wpAny_pure h
 | bl k =>
  cases rx
  have e : some (k == b) = some c := e
  cases e
  refine wpAny_pure ?_
  cases k <;> cases b <;> exact h
 | int => obtain ⟨t, rfl⟩ := rx; cases e; exact wpAny_pure h
 | str => obtain ⟨t, rfl⟩ := rx; cases e; exact wpAny_pure h
 | tup => cases rx; cases e; exact wpAny_pure h
 | lst => cases rx; cases e; exact wpAny_pure h
 | dct => cases rx; cases e; exact wpAny_pure h
 | cl => cases rx; cases e; exact wpAny_pure h
 | ob => cases rx; cases e; exact wpAny_pure h
 | dt => cases rx; cases e; exact wpAny_pure h
theorem yC (hk : KdOk X kd) (hu : X.A.units + 100 < cLine) (op : CmpOp) : OpD X kd (compareOp op) (yf op) := by
 intro pins s σ H x y v u Q I rx ry h
 obtain ⟨O, d, e, r, ht, vx, vy, he, q⟩ := h
 cases op with
 | Eq =>
  obtain ⟨b, h1, he⟩ := bS_ (show (eqF 60 d e).bind _ = _ from he)
  cases he
  exact (zgR I 60 X.A x y d e v u b (by omega) vx vy rx ry h1).rc _ _ _ _ (wW I (yS q (.bl _)) rfl)
 | NotEq =>
  obtain ⟨b, h1, he⟩ := bS_ (show (eqF 60 d e).bind _ = _ from he)
  cases he
  exact (zgR I 60 X.A x y d e v u b (by omega) vx vy rx ry h1).ne _ _ _ _ (wW I (yS q (.bl _)) rfl)
 | Lt =>
  obtain ⟨i, j, rfl, rfl, he⟩ := Wk vx vy he
  cases he
  exact zru pins s σ H _ _ v u Q I rx ry ⟨_, _, rfl, rfl, yS q (.bl _)⟩
 | LtE =>
  obtain ⟨i, j, rfl, rfl, he⟩ := Wk vx vy he
  cases he
  exact zqS pins s σ H _ _ v u Q I rx ry ⟨_, _, rfl, rfl, yS q (.bl _)⟩
 | Gt =>
  obtain ⟨i, j, rfl, rfl, he⟩ := Wk vx vy he
  cases he
  exact zrU pins s σ H _ _ v u Q I rx ry ⟨_, _, rfl, rfl, yS q (.bl _)⟩
 | GtE =>
  obtain ⟨i, j, rfl, rfl, he⟩ := Wk vx vy he
  cases he
  exact zqT pins s σ H _ _ v u Q I rx ry ⟨_, _, rfl, rfl, yS q (.bl _)⟩
 | In =>
  obtain ⟨b, h1, he⟩ := bS_ (show (inP d e).bind _ = _ from he)
  cases he
  cases vy with
  | lst hs rl =>
   cases ry
   obtain ⟨its, rv, p, _⟩ := I.list hs.sq
   refine SeqAt.in_listAt (eqW X.K kd O H 50 d) p.isList (λ w hw => zbF I hk (by show X.A.units + 1 + 50 < cLine; omega) vx rx rv rl (Xu h1) w (by simpa using hw)) ?_
   have := zdx I hk rv rl h1
   rw [show its.toArray.any (eqW X.K kd O H 50 d) = b by rw [<- this]; simp]
   exact wW (I) (yS q (.bl _)) rfl
  | tup rp hs rl =>
   cases ry
   obtain ⟨its, rv, p, _⟩ := I.tuple hs
   refine SeqAt.in_tupleAt (eqW X.K kd O H 50 d) p (λ w hw => zbF I hk (by show X.A.units + 1 + 50 < cLine; omega) vx rx rv rl (Xu h1) w (by simpa using hw)) ?_
   have := zdx I hk rv rl h1
   rw [show its.toArray.any (eqW X.K kd O H 50 d) = b by rw [<- this]; simp]
   exact wW (I) (yS q (.bl _)) rfl
  | str z =>
   cases vx with
   | str i => cases h1; exact zkx pins s σ H _ _ v u Q I rx ry ⟨_, _, rfl, rfl, yS q (.bl _)⟩
   | _ => cases h1
  | dct hs rm =>
   cases ry
   obtain ⟨k, k1, h1⟩ := bS_ h1
   cases h1
   obtain ⟨z, hd, vs, rel, dd⟩ := zfL I hk hs
   have ek : x = kV k := by
    cases vx with
    | int i => cases k1; rfl
    | str i => cases k1; rfl
    | _ => cases k1
   subst ek
   refine wpAny_in_of (zbk rx) hd dd.mapOf ?_
   rw [<- (rel.val k).isSome_eq]
   rcases zgf k rm with ⟨v1, d1, e1, e2, _⟩ | ⟨e1, e2⟩
   · rw [e1]; rw [e2] at q; exact wW (I.tok _) (yS q (.bl _)) rfl
   · rw [e1]; rw [e2] at q; exact wW (I.tok _) (yS q (.bl _)) rfl
  | dt hH l rl =>
   cases ry
   obtain ⟨k, k1, h1⟩ := bS_ h1
   cases h1
   obtain ⟨b, rfl, hb⟩ := zbr vx k1
   refine zss (by show X.A.units + 1 < cLine; omega) I (zhu.t hH hb) rx λ s' I' => ?_
   rcases zel k rl l with ⟨v1, d1, e1, e2, _⟩ | ⟨e1, e2⟩
   · rw [e1]; rw [e2] at q; exact wW I' (yS q (.bl _)) rfl
   · rw [e1]; rw [e2] at q; exact wW I' (yS q (.bl _)) rfl
  | _ => cases h1
 | NotIn =>
  obtain ⟨b, h1, he⟩ := bS_ (show (inP d e).bind _ = _ from he)
  cases he
  cases vy with
  | lst hs rl =>
   cases ry
   obtain ⟨its, rv, p, _⟩ := I.list hs.sq
   refine SeqAt.notIn_listAt (eqW X.K kd O H 50 d) p.isList (λ w hw => zbF I hk (by show X.A.units + 1 + 50 < cLine; omega) vx rx rv rl (Xu h1) w (by simpa using hw)) ?_
   have := zdx I hk rv rl h1
   rw [show its.toArray.any (eqW X.K kd O H 50 d) = b by rw [<- this]; simp]
   exact wW (I) (yS q (.bl _)) rfl
  | tup rp hs rl =>
   cases ry
   obtain ⟨its, rv, p, _⟩ := I.tuple hs
   refine SeqAt.notIn_tupleAt (eqW X.K kd O H 50 d) p (λ w hw => zbF I hk (by show X.A.units + 1 + 50 < cLine; omega) vx rx rv rl (Xu h1) w (by simpa using hw)) ?_
   have := zdx I hk rv rl h1
   rw [show its.toArray.any (eqW X.K kd O H 50 d) = b by rw [<- this]; simp]
   exact wW (I) (yS q (.bl _)) rfl
  | str z =>
   cases vx with
   | str i => cases h1; exact zgm pins s σ H _ _ v u Q I rx ry ⟨_, _, rfl, rfl, yS q (.bl _)⟩
   | _ => cases h1
  | dct hs rm =>
   cases ry
   obtain ⟨k, k1, h1⟩ := bS_ h1
   cases h1
   obtain ⟨z, hd, vs, rel, dd⟩ := zfL I hk hs
   have ek : x = kV k := by
    cases vx with
    | int i => cases k1; rfl
    | str i => cases k1; rfl
    | _ => cases k1
   subst ek
   refine wpAny_notIn_of (zbk rx) hd dd.mapOf ?_
   rw [<- (rel.val k).isSome_eq]
   rcases zgf k rm with ⟨v1, d1, e1, e2, _⟩ | ⟨e1, e2⟩
   · rw [e1]; rw [e2] at q; exact wW (I.tok _) (yS q (.bl _)) rfl
   · rw [e1]; rw [e2] at q; exact wW (I.tok _) (yS q (.bl _)) rfl
  | dt hH l rl =>
   cases ry
   obtain ⟨k, k1, h1⟩ := bS_ h1
   cases h1
   obtain ⟨b, rfl, hb⟩ := zbr vx k1
   refine znZ (by show X.A.units + 1 < cLine; omega) I (zhu.t hH hb) rx λ s' I' => ?_
   rcases zel k rl l with ⟨v1, d1, e1, e2, _⟩ | ⟨e1, e2⟩
   · rw [e1]; rw [e2] at q; exact wW I' (yS q (.bl _)) rfl
   · rw [e1]; rw [e2] at q; exact wW I' (yS q (.bl _)) rfl
  | _ => cases h1
 | Is =>
  obtain ⟨b, h1, he⟩ := bS_ (show (isP d e).bind _ = _ from he)
  cases he
  cases vy with
  | non =>
   refine zpA pins s σ H _ _ v u Q I rx ry ⟨rfl, ?_⟩
   have : decide (x = V.non) = b := by cases vx <;> (cases h1; rfl)
   rw [this]
   exact yS q (.bl b)
  | bl c =>
   cases ry
   exact wpAny_bind (zeb vx rx h1 (wpAny_pure (wW I (yS q (.bl _)) rfl)))
  | _ => cases h1
 | IsNot =>
  obtain ⟨b, h1, he⟩ := bS_ (show (isP d e).bind _ = _ from he)
  cases he
  cases vy with
  | non =>
   refine zno pins s σ H _ _ v u Q I rx ry ⟨rfl, ?_⟩
   have : decide (x = V.non) = b := by cases vx <;> (cases h1; rfl)
   rw [this]
   exact yS q (.bl _)
  | bl c =>
   cases ry
   exact wpAny_bind (zeb vx rx h1 (wpAny_pure (wW I (yS q (.bl _)) rfl)))
  | _ => cases h1
end
theorem zjS {K : zC} {kd : KD} {O : Addr -> Prop} {H : Hp} {vs : List V} {ds : List D} {i : Int} {d : D} (r : RpL K kd O H vs ds) (h : atI ds i = some d) : ∃ v, atI vs i = some v /\ Rp K kd O H v d := by
 unfold atI at h ⊢
 obtain ⟨j, h1, h2⟩ := bS_ h
 rw [r.length, h1]
 exact r.get h2
def imR (o : Option D) : Option R0 := o.bind λ d => some (.im d)
def ixP (x y : D) : Option R0 := match x with
 | .lst xs => (asI y).bind λ i => imR (atI xs i)
 | .tup xs => (asI y).bind λ i => imR (atI xs i)
 | .str x => (asI y).bind λ i => if x.length <= sizeLine then (atI x.cps.toList i).bind λ c => some (.im (.str ⟨#[c]⟩)) else none
 | .dct kvs => (ziL y).bind λ k => imR (zcq kvs k)
 | _ => none
theorem zbB {o : Option D} {r : R0} (h : imR o = some r) : ∃ d, o = some d /\ r = .im d := by
 obtain ⟨d, h1, h2⟩ := bS_ (show o.bind _ = _ from h)
 cases h2
 exact ⟨d, h1, rfl⟩
section
variable {X : Cx} {kd : KD}
theorem zmA {K : zC} {O : Addr -> Prop} {H : Hp} {x : V} {d : D} {k : Key} (vx : Vw K kd O H x d) (e : ziL d = some k) : x = kV k := by
 cases vx with
 | int i => cases e; rfl
 | str i => cases e; rfl
 | _ => cases e
theorem zsi (hk : KdOk X kd) : IxD X kd ixP := by
 intro value slice pins s σ H x y v u Q I rx ry h hs
 obtain ⟨O, d, e, r, ht, vx, vy, he, q⟩ := h
 cases vx with
 | lst hr rl =>
  obtain ⟨i, h0, he⟩ := bS_ (show (asI e).bind _ = _ from he)
  obtain ⟨rfl, rfl⟩ := Wi vy h0
  obtain ⟨d, h1, rfl⟩ := zbB he
  obtain ⟨w, hw, rw'⟩ := zjS rl h1
  exact zbJ value slice pins s σ H _ _ v u Q I rx ry ⟨_, _, _, w, rfl, rfl, hr.sq, hw, yS q rw'⟩ hs
 | tup rp hr rl =>
  obtain ⟨i, h0, he⟩ := bS_ (show (asI e).bind _ = _ from he)
  obtain ⟨rfl, rfl⟩ := Wi vy h0
  obtain ⟨d, h1, rfl⟩ := zbB he
  obtain ⟨w, hw, rw'⟩ := zjS rl h1
  exact zlw value slice pins s σ H _ _ v u Q I rx ry ⟨_, _, _, w, rfl, rfl, hr, hw, yS q rw'⟩ hs
 | str z =>
  obtain ⟨i, h0, he⟩ := bS_ (show (asI e).bind _ = _ from he)
  obtain ⟨rfl, rfl⟩ := Wi vy h0
  obtain ⟨hz, he⟩ := ite_some' he
  obtain ⟨c, h1, he⟩ := bS_ he
  cases he
  exact zpe value slice pins s σ H _ _ v u Q I rx ry ⟨_, _, c, rfl, rfl, hz, h1, yS q (.str _)⟩ hs
 | dct hr rm =>
  obtain ⟨k, h1, he⟩ := bS_ (show (ziL e).bind _ = _ from he)
  obtain ⟨d, h2, rfl⟩ := zbB he
  cases rx
  obtain ⟨z, hd, vs, rel, dd⟩ := zfL I hk hr
  have := zmA vy h1
  subst this
  rcases zgf k rm with ⟨v1, d1, e1, e2, rp⟩ | ⟨e1, e2⟩
  · rw [h2] at e2
    cases e2
    obtain ⟨w', hw, rw'⟩ := zec.some_of (v := v1) (o := valueAt vs k) (by rw [<- e1]; exact rel.val k)
    exact tail_any dd.typeIs PySem.F.slot_dict_getitem.lookup (wpAny_getItem_of (zbk ry) dd.mapOf hw ⟨v1, H, I.tok _, rw', yS q rp⟩) hs
  · rw [h2] at e2; cases e2
 | _ => cases he
def cutD (xs : List D) (lo hi : Option Int) : List D := (xs.drop (HT.sIx xs.length 0 lo)).take (HT.sIx xs.length xs.length hi - HT.sIx xs.length 0 lo)
theorem zkb {K : zC} {O : Addr -> Prop} {H : Hp} {vs : List V} {ds : List D} (r : RpL K kd O H vs ds) (lo hi : Option Int) : RpL K kd O H (ziv vs lo hi) (cutD ds lo hi) := by
 unfold ziv cutD
 rw [r.length]
 exact (r.drop _).take _
def slP (x : D) (lo hi : Option Int) : Option R0 := match x with
 | .lst xs => some (.fl (cutD xs lo hi))
 | .tup xs => if HT.sIx xs.length 0 lo = 0 /\ HT.sIx xs.length xs.length hi = xs.length then none else some (.im (.tup (cutD xs lo hi)))
 | _ => none
abbrev OF := AS -> Option (Option Int × AS)
def oN : OF := λ as => some (none, as)
def oS (f : EF) : OF := λ as => (f as).bind λ p => (rvI p.1).bind λ i => some (some i, p.2)
def fSl (fa : EF) (fl fh : OF) (g : D -> Option Int -> Option Int -> Option R0) : EF := λ as => (fa as).bind λ p => (fl p.2).bind λ l => (fh l.2).bind λ h => (p.1.frz.view h.2).bind λ x => (g x.1 l.1 h.1).bind λ r => (wrap x.2 r).bind λ z => some (z, h.2)
def alO (K : zC) (kd : KD) (f : OF) : TO := λ σ H Q => ∃ F B ad as o as', Rel K kd F B [] ad as σ H /\ f as = some (o, as') /\
 ∀ ad' H', Rel K kd F B [] ad' as' σ H' -> Grow (Gw [] ad) H (Gw [] ad') H' -> Q o H'
@[irreducible] def AO (X : Cx) (kd : KD) (e : Option Expr) (f : OF) : Prop := PO X e (alO X.K kd f)
theorem zmc {e : Option Expr} {t t' : TO} (h : PO X e t) (k : ∀ σ H Q, t' σ H Q -> t σ H Q) : PO X e t' := λ pins s σ H Q I q => h pins s σ H Q I (k σ H Q q)
theorem zba : AO X kd none oN := by with_unfolding_all exact (zmc znY λ σ H Q h => by
 obtain ⟨F, B, ad, as, o, as', R, e, q⟩ := h
 cases e
 exact q ad H R Grow.refl)
theorem zqI {K : zC} {F B : Addr -> Prop} {T : List Addr} {ad : Ad} {σ : St} {H : Hp} {v : V} {st : Bool} {c : Int} (h : Zq K kd F B T ad σ H v (.ow (.lf st (.int c)))) : T = [] /\ v = .int c := by
 have h : RoS K kd F B (Gw T ad) H v (.lf st (.int c)) T := h
 generalize hT : Gw T ad = G at h
 cases h with
 | lf rp => cases rp; exact ⟨rfl, rfl⟩
theorem v5 {a : Expr} {fa : EF} (ha : AE X kd a fa) : AO X kd (some a) (oS fa) := by with_unfolding_all exact (zmc (zoo ha) λ σ H Q h => by
 obtain ⟨F, B, ad, as, o, as', R, e, q⟩ := h
 obtain ⟨⟨p, as1⟩, h1, e⟩ := bS_ (show (fa as).bind _ = _ from e)
 obtain ⟨i, e1, e⟩ := bS_ e
 obtain ⟨st, rfl⟩ := zqq e1
 cases e
 refine ⟨F, B, ad, as, _, _, R, h1, λ v T' ad1 H1 R1 rv1 g1 => ?_⟩
 obtain ⟨rfl, rfl⟩ := zqI rv1
 exact ⟨i, rfl, q ad1 H1 R1 g1⟩)
theorem zsm : SlR X (λ x lo hi H Q => ∃ O d r, (∀ a, O a -> H a ≠ none) /\ Vw X.K kd O H x d /\ slP d lo hi = some r /\ RQ X.K kd O H Q r) := by
 intro pins s σ H x v vl vu lo hi sl Q I rx hs pl pu h
 obtain ⟨O, d, r, ht, vx, he, q⟩ := h
 cases vx with
 | lst hr rl => cases he; exact zoq pins s σ H _ v vl vu lo hi sl Q I rx hs pl pu ⟨_, _, rfl, hr.sq, zcj q (zkb rl lo hi)⟩
 | tup rp hr rl =>
  have he : (if _ then none else some _ : Option R0) = _ := he
  split at he
  · cases he
  · rename_i hw
    cases he
    exact zqA pins s σ H _ v vl vu lo hi sl Q I rx hs pl pu ⟨_, _, rfl, hr, by rw [rl.length]; exact hw, zge ht q (zkb rl lo hi)⟩
 | _ => cases he
theorem YQ {a : Expr} {lo hi : Option Expr} {fa : EF} {fl fh : OF} {pos p2 : Pos} (ha : AE X kd a fa) (hl : AO X kd lo fl) (hh : AO X kd hi fh) : AE X kd (.Subscript a (.Slice lo hi none p2) pos) (fSl fa fl fh slP) := by with_unfolding_all exact (wC (zhO zsm ha hl hh) λ σ H Q h => by
 obtain ⟨F, B, ad, as, r, as', R, e, q⟩ := h
 obtain ⟨⟨p, as1⟩, h1, e⟩ := bS_ (show (fa as).bind _ = _ from e)
 obtain ⟨⟨l, as2⟩, h2, e⟩ := bS_ e
 obtain ⟨⟨u, as3⟩, h3, e⟩ := bS_ e
 obtain ⟨⟨d, lv⟩, h4, e⟩ := bS_ e
 obtain ⟨r', h5, e⟩ := bS_ e
 obtain ⟨z, h6, e⟩ := bS_ e
 cases e
 refine YS R h1 λ v ad1 H1 R1 rv1 g1 => ⟨F, B, ad1, as1, l, as2, R1, h2, λ ad2 H2 R2 g2 => ⟨F, B, ad2, as2, u, _, R2, h3, λ ad3 H3 R3 g3 => ?_⟩⟩
 exact ⟨_, d, r', R3.tr _, Zq.vw R3 ((rv1.grow g2).grow g3) h4, h5, Wt R3 h6 λ w T' H' R' rv' g' => q w T' ad3 H' R' rv' (((g1.trans g2).trans g3).trans g')⟩)
def zmM : D -> Option R0
 | .int i => some (.im (.int (-i)))
 | _ => none
theorem zsK : UnD X kd (unaryOp .USub) zmM := by
 intro pins s σ H x v Q I rx h
 obtain ⟨O, d, r, ht, vx, he, q⟩ := h
 cases vx with
 | int i => cases he; exact zpJ pins s σ H _ v Q I rx ⟨i, rfl, yS q (.int _)⟩
 | _ => cases he
end
def WF : List D -> Option (List Int)
 | [] => some []
 | .int i :: r => (WF r).bind λ s => some (i :: s)
 | _ :: _ => none
def zpj : List Int -> Int
 | [] => 0
 | x :: r => r.foldl (λ a b => if a < b then b else a) x
theorem zfP : ∀ (r : List Int) (x : Int), r.foldl (λ a b => if a < b then b else a) x ∈ x :: r /\ ∀ a ∈ x :: r, a <= r.foldl (λ a b => if a < b then b else a) x
 | [], x => ⟨by simp, by simp⟩
 | y :: r, x => by
  rw [List.foldl_cons]
  obtain ⟨h1, h2⟩ := zfP r (if x < y then y else x)
  refine ⟨?_, λ a ha => ?_⟩
  · rcases zI.mp h1 with e | e
    · rw [e]; split <;> simp
    · exact zzA _ (zzA _ e)
  · have h3 := h2 _ zzC
    rcases zI.mp ha with e | e
    · subst e; exact Int.le_trans (by split <;> omega) h3
    · rcases zI.mp e with e | e
      · subst e; exact Int.le_trans (by split <;> omega) h3
      · exact h2 a (zzA _ e)
theorem znE {ns : List Int} {M : Int} (h1 : M ∈ ns) (h2 : ∀ a ∈ ns, a <= M) : zpj ns = M := by
 cases ns with
 | nil => simp at h1
 | cons x r =>
  obtain ⟨k1, k2⟩ := zfP r x
  have a1 := k2 M h1
  have a2 := h2 _ k1
  show r.foldl _ x = M
  omega
def on1 (f : D -> Option R0) (ds : List D) : Option R0 := match ds with
 | [x] => f x
 | _ => none
theorem zbY {K : zC} {kd : KD} {O : Addr -> Prop} {H : Hp} {f : D -> Option R0} {xs : List V} {ds : List D} {r : R0} (vl : VwL K kd O H xs ds) (h : on1 f ds = some r) : ∃ x d, xs = [x] /\ Vw K kd O H x d /\ f d = some r := by
 cases vl with
 | nil => cases h
 | cons a b =>
  cases b with
  | nil => exact ⟨_, _, rfl, a, h⟩
  | cons _ _ => cases h
def zso : D -> Option R0
 | .lst ds => some (.im (.int ds.length))
 | .tup ds => some (.im (.int ds.length))
 | .str x => if x.length <= sizeLine then some (.im (.int x.length)) else none
 | .dct kvs => some (.im (.int kvs.length))
 | _ => none
def Xr : List D -> Option R0 := on1 zso
def zsx : D -> Option R0
 | .int i => some (.im (.int i))
 | .bl b => some (.im (.int (if b then 1 else 0)))
 | _ => none
def tupP : List D -> Option R0
 | [.lst ds] => some (.im (.tup ds))
 | [.tup ds] => some (.im (.tup ds))
 | _ => none
def zsj : D -> Option R0
 | .lst ds => some (.fl ds)
 | .tup ds => some (.fl ds)
 | _ => none
def lstP : List D -> Option R0 := on1 zsj
def dctP : List D -> Option R0
 | [.dct kvs] => some (.fd kvs)
 | _ => none
def zpn (ds : List D) : Option R0 := match ds with
 | [x, y] => onI (λ i j => some (.im (.int (if j > i then j else i)))) x y
 | [x] => (asL x).bind λ ds => (WF ds).bind λ ns => if 0 < ns.length then some (.im (.int (zpj ns))) else none
 | _ => none
theorem zdw {K : zC} {kd : KD} {O : Addr -> Prop} {H : Hp} {xs : List V} {d : D} (h : VwL K kd O H xs [d]) : ∃ x, xs = [x] /\ Vw K kd O H x d := by
 cases h with
 | cons a b => cases b; exact ⟨_, rfl, a⟩
theorem zmX {K : zC} {kd : KD} {O : Addr -> Prop} {H : Hp} {vs : List V} {ds : List D} {ns : List Int} (h : RpL K kd O H vs ds) (e : WF ds = some ns) : vs = ns.map V.int :=
 RpL.ind (P := λ vs ds => ∀ ns, WF ds = some ns -> vs = ns.map V.int) (λ ns e => by cases e; rfl) (λ {v d vs ds} a _ ih ns e => by
  cases d with
  | int i =>
   obtain ⟨s, h1, h2⟩ := bS_ (show (WF _).bind _ = _ from e)
   cases h2
   cases a
   rw [ih _ h1]
   rfl
  | _ => cases e) h ns e
section
variable {X : Cx} {kd : KD}
theorem vW (hk : KdOk X kd) : CallD X kd (.builtin "len") Xr := by
 intro pins s σ H xs us Q I r h
 obtain ⟨O, ds, z, ht, vl, he, q⟩ := h
 obtain ⟨x, d, rfl, vx, he⟩ := zbY vl he
 cases vx with
 | lst hr rl => cases he; exact Wa pins s σ H _ us Q I r ⟨_, _, rfl, .inl hr.sq, by rw [rl.length]; exact yS q (.int _)⟩
 | tup rp hr rl => cases he; exact Wa pins s σ H _ us Q I r ⟨_, _, rfl, .inr hr, by rw [rl.length]; exact yS q (.int _)⟩
 | str y =>
  obtain ⟨c, rfl⟩ := yt he
  exact zgk pins s σ H _ us Q I r ⟨_, rfl, c, yS q (.int _)⟩
 | dct hr rm =>
  cases he
  obtain ⟨u, rfl, ru⟩ := vals1 r
  cases ru
  obtain ⟨z, hd, vs, rel, dd⟩ := zfL I hk hr
  refine call_len_dict hd dd (by rw [<- rel.length]; rw [sizeLine_eq] at z; omega) ?_
  rw [<- rel.length, rm.length]
  exact ⟨.int _, H, I.tok _, ⟨_, rfl⟩, yS q (.int _)⟩
 | _ => cases he
theorem zky : CallD X kd (.type "tuple") tupP := by
 intro pins s σ H xs us Q I r h
 obtain ⟨O, ds, z, ht, vl, he, q⟩ := h
 unfold tupP at he
 split at he
 · cases he
   obtain ⟨x, rfl, vx⟩ := zdw vl
   cases vx with
   | lst hr rl => exact zak pins s σ H _ us Q I r ⟨_, _, rfl, .inl ⟨hr.sq, zge ht q rl⟩⟩
 · cases he
   obtain ⟨x, rfl, vx⟩ := zdw vl
   cases vx with
   | tup rp hr rl => exact zak pins s σ H _ us Q I r ⟨_, _, rfl, .inr ⟨hr, yS q rp⟩⟩
 · cases he
theorem VJ : CallD X kd (.type "list") lstP := by
 intro pins s σ H xs us Q I r h
 obtain ⟨O, ds, z, ht, vl, he, q⟩ := h
 obtain ⟨x, d, rfl, vx, he⟩ := zbY vl he
 cases vx with
 | lst hr rl => cases he; exact zaX pins s σ H _ us Q I r ⟨_, _, rfl, .inl hr.sq, zcj q rl⟩
 | tup rp hr rl => cases he; exact zaX pins s σ H _ us Q I r ⟨_, _, rfl, .inr hr, zcj q rl⟩
 | _ => cases he
theorem zkw (hk : KdOk X kd) : CallD X kd (.type "dict") dctP := by
 intro pins s σ H xs us Q I r h
 obtain ⟨O, ds, z, ht, vl, he, q⟩ := h
 unfold dctP at he
 split at he
 · cases he
   obtain ⟨x, rfl, vx⟩ := zdw vl
   cases vx with
   | dct hr rm =>
    obtain ⟨u, rfl, ru⟩ := vals1 r
    cases ru
    obtain ⟨z, hd, vs, rel, dd⟩ := zfL I hk hr
    refine kt_call_dict hd dd (by rw [<- rel.length]; exact z) λ h' dd' hs => ?_
    refine ⟨.ref _, _, (I.laid (a := s.heap.objs.size) (o := .dK _) (t' := s.toks) (λ b q hq => ?_) (zzK _) (ziB z (beq_eq_false_iff_ne.mpr (Ne.symm (zzN I.big))) rel dd')), rfl, zlq q rm _ (I.hok.fresh (zzK _))⟩
    exact (hs.2 b (zzN (Heap.lt_size hq))).trans (Heap.get?_push_of_some _ hq)
 · cases he
theorem zlf (hc : X.calm = true) : CallD X kd (.builtin "max") zpn := by
 intro pins s σ H xs us Q I r h
 obtain ⟨O, ds, z, ht, vl, he, q⟩ := h
 cases vl with
 | nil => cases he
 | cons vx vl =>
  cases vl with
  | nil =>
   obtain ⟨ds, h0, he⟩ := bS_ (show (asL _).bind _ = _ from he)
   cases zco h0
   obtain ⟨ns, h1, he⟩ := bS_ he
   obtain ⟨c, rfl⟩ := yt he
   cases vx with
   | lst hr rl =>
    obtain ⟨u, rfl, ru⟩ := vals1 r
    cases ru
    obtain ⟨its, rv, p, _⟩ := I.list hr.sq
    rw [zmX rl h1] at rv
    have hi := intsAre_of rv
    obtain ⟨ys, e⟩ := hi.allInts.items
    have hns : ns = ys.toList.map (·.1) := by rw [<- hi.numsOf, <- nums_intItems, <- e]
    have hsz : 0 < ys.size := by
     have h3 := c; rw [hns, zD, Array.length_toList] at h3; exact h3
    have hl := p.isList
    rw [e] at hl
    refine max_intList (I.ok.hd hc) hl hsz λ v h' tk hv kp => ?_
    obtain ⟨t, rfl⟩ := intItems_at hv
    obtain ⟨k1, k2⟩ := argBest_gt (numAt ys) (ys.size - 1)
    refine ⟨.int (zpj ns), H, I.kept kp, ⟨t, ?_⟩, yS q (.int _)⟩
    congr 1
    refine (znE ?_ λ a ha => ?_).symm
    · rw [hns, numAt_eq]
      have hlt : argBest (λ i j => decide (numAt ys i > numAt ys j)) (ys.size - 1) < (ys.toList.map (·.1)).length := by rw [zD, Array.length_toList]; omega
      rw [List.getD_eq_getElem?_getD, zzB hlt]
      exact List.getElem_mem hlt
    · rw [hns] at ha
      obtain ⟨j, hj, rfl⟩ := List.getElem_of_mem ha
      have hj' := hj
      rw [zD, Array.length_toList] at hj
      have := k2 j (by omega)
      rw [numAt_eq ys j, List.getD_eq_getElem?_getD, zzB hj'] at this
      exact this
  | cons vy vl =>
   cases vl with
   | nil =>
    obtain ⟨i, j, rfl, rfl, he⟩ := Wk vx vy he
    cases he
    exact zkP hc pins s σ H _ us Q I r ⟨_, _, rfl, yS q (.int _)⟩
   | cons _ _ => cases he
end
def v7 (env : Env) : List (Str × NameKind) -> List (Str × Addr) -> List (Str × Addr)
 | [], cs => cs
 | (n, k) :: r, cs => v7 env r (if k == .free then ((n, (env.cells.lookup n).getD 0) :: cs) else cs)
theorem zad {scope : Scope} {env : Env} (h : ∀ x ∈ scope.names, x.2 = .free -> ∃ c, env.cells.lookup x.1 = some c) : closureFor scope env = pure (v7 env scope.names []) := by
 have go : ∀ (names : List (Str × NameKind)) (cs : List (Str × Addr)) (f : Str × NameKind -> List (Str × Addr) -> Sem (ForInStep (List (Str × Addr)))),
  (∀ name kind cs, f (name, kind) cs = if kind == .free then (do let a <- cellOf env name; pure (.yield ((name, a) :: cs))) else pure (.yield cs)) ->
  (∀ x ∈ names, x.2 = .free -> ∃ c, env.cells.lookup x.1 = some c) -> (forIn names cs f : Sem (List (Str × Addr))) = pure (v7 env names cs) := by
  intro names
  induction names with
  | nil => intro cs f _ _; rfl
  | cons x r ih =>
   intro cs f hf hx
   obtain ⟨n, k⟩ := x
   rw [List.forIn_cons, hf]
   unfold v7
   by_cases hk : (k == .free) = true
   · obtain ⟨c, hc⟩ := hx (n, k) zzC (by simpa using hk)
     rw [if_pos hk, if_pos hk]
     have e : cellOf env n = pure c := by unfold cellOf; rw [hc]
     rw [e, hc]
     exact ih _ f hf λ y hy => hx y (zzA _ hy)
   · rw [if_neg hk, if_neg hk]
     exact ih _ f hf λ y hy => hx y (zzA _ hy)
 simp only [closureFor]
 rw [go scope.names [] _ (λ name kind cs => ?_) h]
 · rfl
 · rfl
theorem zfw {env : Env} : ∀ (names : List (Str × NameKind)) (cs : List (Str × Addr)) (p : Str × Addr), p ∈ v7 env names cs -> p ∈ cs \/ ((p.1, NameKind.free) ∈ names /\ p.2 = (env.cells.lookup p.1).getD 0)
 | [], _, _, h => .inl h
 | (n, k) :: r, cs, p, h => by
  unfold v7 at h
  rcases zfw r _ p h with h | h
  · by_cases hk : (k == .free) = true
    · rw [if_pos hk] at h
      rcases zI.mp h with e | h
      · subst e
        have : k = .free := by simpa using hk
        subst this
        exact .inr ⟨zzC, rfl⟩
      · exact .inl h
    · rw [if_neg hk] at h; exact .inl h
  · exact .inr ⟨zzA _ h.1, h.2⟩
theorem zeA {env : Env} : ∀ (names : List (Str × NameKind)) (cs : List (Str × Addr)) (p : Str × Addr), p ∈ cs -> p ∈ v7 env names cs
 | [], _, _, h => h
 | (n, k) :: r, cs, p, h => by
  unfold v7
  refine zeA r _ p ?_
  split
  · exact zzA _ h
  · exact h
theorem zfK {env : Env} : ∀ (names : List (Str × NameKind)) (cs : List (Str × Addr)) (x : Str), (x, NameKind.free) ∈ names -> (x, (env.cells.lookup x).getD 0) ∈ v7 env names cs
 | (n, k) :: r, cs, x, h => by
  unfold v7
  rcases zI.mp h with e | h
  · cases e
    exact zeA r _ _ (by simp)
  · exact zfK r _ x h
theorem Xm {α : Type} {x : Str} {a : α} : ∀ {l : List (Str × α)}, (∀ p ∈ l, p.1 = x -> p.2 = a) -> (∃ b, (x, b) ∈ l) -> l.lookup x = some a
 | [], _, h => by obtain ⟨_, h⟩ := h; cases h
 | (k, v) :: r, u, h => by
  rw [List.lookup_cons]
  cases hb : x == k with
  | true =>
   have := u (k, v) zzC (beq_iff_eq.mp hb).symm
   exact congrArg some this
  | false =>
   refine Xm (λ p hp => u p (zzA _ hp)) ?_
   obtain ⟨b, h⟩ := h
   rcases zI.mp h with e | h
   · cases e; simp at hb
   · exact ⟨b, h⟩
theorem zck : ∀ (names : List (Str × NameKind)) (h : Heap) (acc : List (Str × Addr)) (p : Str × Addr), p ∈ cellsFrom h.objs.size names acc ->
 p ∈ acc \/ ((p.1, NameKind.cell) ∈ names /\ (pushCells h names).IsCell p.2 none /\ h.objs.size <= p.2)
 | [], _, _, _, m => .inl m
 | (n, k) :: r, h, acc, p, m => by
  unfold cellsFrom at m
  unfold pushCells
  split at m
  · rename_i hk
    rw [if_pos hk]
    have e : (h.push { cls := .type "cell", data := .cell none }).objs.size = h.objs.size + 1 := Heap.size_push ..
    rw [<- e] at m
    rcases zck r _ _ p m with m | ⟨m1, m2, m3⟩
    · rcases zI.mp m with e2 | m
      · subst e2
        have : k = .cell := by simpa using hk
        subst this
        refine .inr ⟨zzC, ?_, zzK _⟩
        have z : (h.push { cls := .type "cell", data := .cell none }).IsCell h.objs.size none := ⟨_, Heap.get?_push_size _ rfl, rfl⟩
        exact z.keeps (pushCells_keeps r _)
      · exact .inl m
    · exact .inr ⟨zzA _ m1, m2, by rw [e] at m3; omega⟩
  · rename_i hk
    rw [if_neg hk]
    rcases zck r h acc p m with m | ⟨m1, m2, m3⟩
    · exact .inl m
    · exact .inr ⟨zzA _ m1, m2, m3⟩
theorem X7 : ∀ (names : List (Str × NameKind)) (n : Nat) (acc : List (Str × Addr)) (p : Str × Addr), p ∈ acc -> p ∈ cellsFrom n names acc
 | [], _, _, _, m => m
 | (_, k) :: r, n, acc, p, m => by
  unfold cellsFrom
  split
  · exact X7 r _ _ p (zzA _ m)
  · exact X7 r _ _ p m
theorem zch : ∀ (names : List (Str × NameKind)) (n : Nat) (acc : List (Str × Addr)) (x : Str), (x, NameKind.cell) ∈ names -> ∃ c, (x, c) ∈ cellsFrom n names acc
 | (y, k) :: r, n, acc, x, m => by
  unfold cellsFrom
  rcases zI.mp m with e | m
  · cases e
    rw [if_pos (by decide)]
    exact ⟨n, X7 r _ _ _ zzC⟩
  · split
    · exact zch r _ _ x m
    · exact zch r _ _ x m
theorem zbP : ∀ (names : List (Str × NameKind)) (n : Nat) (acc : List (Str × Addr)), (∀ p ∈ acc, p.2 < n) -> (∀ p ∈ acc, ∀ q ∈ acc, p.2 = q.2 -> p.1 = q.1) -> ∀ p ∈ cellsFrom n names acc, ∀ q ∈ cellsFrom n names acc, p.2 = q.2 -> p.1 = q.1
 | [], _, _, _, h => h
 | (y, k) :: r, n, acc, lt, h => by
  unfold cellsFrom
  split
  · refine zbP r (n + 1) _ (λ p m => ?_) (λ p m q m' e => ?_)
    · rcases zI.mp m with z | m
      · subst z; exact Nat.lt_succ_self _
      · exact Nat.lt_succ_of_lt (lt p m)
    · rcases zI.mp m with z | m
      · rcases zI.mp m' with z' | m'
        · rw [z, z']
        · subst z; have := lt q m'; rw [<- e] at this; exact absurd this (Nat.lt_irrefl _)
      · rcases zI.mp m' with z' | m'
        · subst z'; have := lt p m; rw [e] at this; exact absurd this (Nat.lt_irrefl _)
        · exact h p m q m' e
  · exact zbP r n acc lt h
section
variable {M : Model} {A : Around} {E : Value -> Shared -> Prop} {s : Shared}
def Vh (scope : Scope) (env : Env) (cl : List (Str × Addr)) (L : Addr) : Env :=
 { scope := relabel scope env, locals := L, globals := env.globals, cells := cellsFrom (L + 1) scope.names cl, qual := env.qual, func := none, code := env.code, frame := env.frame, builtins := env.builtins }
theorem zgN {scope : Scope} {env : Env} {cl : List (Str × Addr)} {Q : Env -> Shared -> Prop}
 (h : ∀ h' env', { env' with scope := relabel scope env } = Vh scope env cl s.heap.objs.size -> env'.locals = s.heap.objs.size -> (∀ b o, s.heap.get? b = some o -> h'.get? b = some o) -> h'.Ns s.heap.objs.size (λ _ => none) ->
  (∀ p ∈ cellsFrom (s.heap.objs.size + 1) scope.names cl, p ∈ cl \/ ((p.1, NameKind.cell) ∈ scope.names /\ h'.IsCell p.2 none /\ s.heap.objs.size + 1 <= p.2)) -> Q env' { s with heap := h' }) :
 wpAny M A (newFunctionEnv scope env.globals cl [] env.qual none .none (some env)) Q E s := by
 simp only [newFunctionEnv, Option.isSome_some, if_true]
 refine wpAny_bind (wpAny_alloc ?_)
 refine wpAny_bind (wpAny_layCells _ (λ name kind cells => by cases hkc : kind == NameKind.cell <;> simp [hkc]) _ _ _ _ ?_)
 have e : (s.heap.push { cls := .type "dict", data := .dict #[] }).objs.size = s.heap.objs.size + 1 := Heap.size_push ..
 refine wpAny_bind (wpAny_pure (wpAny_pure (h _ _ ?_ rfl (λ b o q => pushCells_keeps _ _ b o (Heap.get?_push_of_some _ q)) ((Heap.Ns.new s.heap (.type "dict")).keeps (pushCells_keeps _ _)) λ p m => ?_)))
 · unfold Vh
   rw [<- e]
 · rw [<- e] at m
   rcases zck _ _ _ p m with m | ⟨m1, m2, m3⟩
   · exact .inl m
   · exact .inr ⟨m1, m2, by rw [e] at m3; exact m3⟩
end
abbrev vL (X : Cx) (N : List Str) (scope : Scope) (cl : List (Str × Addr)) (s : Shared) (H : Hp) (fp : List Addr) : Cx :=
 { X with N := N, s₀ := s, H₀ := H, env := Vh scope X.env cl (s.heap.objs.size + 1), outer := X.stack, ex := fp, fn := λ x => scope.names.lookup x == some .cell, pn := [], xe := λ _ _ => False }
def zrb (σ : St) : Option Nat -> Option V
 | none => none
 | some j => (σ[j]?).getD none
def ZK (cap : List (Option Nat)) (σ : St) : St := cap.map (zrb σ)
def xU (N XN : List Str) (names : List (Str × NameKind)) (envNames : List (Str × NameKind)) (cap : List (Option Nat)) : Bool :=
 N.length == cap.length && (N.zip cap).all (λ p => match p.2 with | none => true | some j => XN[j]? == some p.1 && names.contains (p.1, NameKind.free)) &&
 names.all (λ p => p.2 != .free || envNames.lookup p.1 == some .cell || envNames.lookup p.1 == some .free) && decide (names.map (·.1)).Nodup
def PTs (X : Cx) (ifs : List Expr) (t : TT) : Prop :=
 ∀ (pins : List (Addr × Obj)) (s : Shared) (σ : St) (H : Hp) (Q : Bool -> Hp -> Prop), Inv X pins σ H s -> t σ H Q ->
  wpAny (model X.prog X.w) X.A (forIn ifs true λ c r => if r = true then do let ok <- isTrue c X.env (eval c X.env); pure (ForInStep.yield ok) else pure (ForInStep.yield r)) (TP X pins σ Q) X.xe s
theorem znu {X : Cx} : PTs X [] (λ _ H Q => Q true H) := λ pins s σ H Q I h => wpAny_tests_nil ⟨H, I, h⟩
theorem znm {X : Cx} {c : Expr} {t : TT} (h : PT X c t) : PTs X [c] t := λ pins s σ H Q I q => wpAny_tests_one (h pins s σ H Q I q)
def zmW (wi : TI) (cap : List (Option Nat)) (g : TG) (tt : TT) (te : TE) : TE := λ σ H Q => wi σ H λ J H1 => ∃ W : Nat -> Nat -> List V -> Hp -> Prop, (∃ m, W 0 m [] H1) /\ ∀ i m ys H, W i m ys H -> ys.length <= sizeLine /\
 ((J.stop i H /\ ∀ p, H p = none -> Q (.ref p) (upd H p (.lst ys))) \/ (J.go i H /\ ∀ x H', J.yld i H x H' -> g x (ZK cap σ) H' λ σ2 H2 => (∀ (j : Nat) v, (ZK cap σ)[j]? = some (some v) -> σ2[j]? = some (some v)) /\
   tt σ2 H2 λ b H3 => if b = true then ys.length < sizeLine /\ te σ2 H3 λ y H4 => ∃ m', m' < m /\ W (i + 1) m' (ys ++ [y]) H4 else ∃ m', m' < m /\ W (i + 1) m' ys H3))
section
variable {prog : Program} {w : World} {A : Around} {E : Value -> Shared -> Prop} {R : Result -> Shared -> Prop} {s : Shared}
theorem zgO {elt target iter : Expr} {ifs : List Expr} {scope : Scope} {pos : Pos} {it acc : Value} {env : Env} (I : Nat -> Shared -> Prop)
 (turn : ∀ n s (E : Value -> Shared -> Prop), I n s -> wpAny (model prog w) A (pyNext it) (λ r s₁ => match r with
  | none => R (.ok .next) s₁
  | some v => wpAny (model prog w) A (letOwnedTupleGo target it v) (λ _ s₁ => wpAny (model prog w) A (assign target env v) (λ _ s₂ =>
   wpAny (model prog w) A (forIn ifs true λ c r => if r = true then do let ok <- isTrue c env (eval c env); pure (ForInStep.yield ok) else pure (ForInStep.yield r)) (λ ok s₃ =>
    if ok = true then wpAny (model prog w) A (eval elt env) (λ x s₄ =>
     wpAny (model prog w) A (call (.builtin "list.append") [acc, x]) (λ _ s₅ => ∃ m, m < n /\ I m s₅) E s₄) E s₃
    else ∃ m, m < n /\ I m s₃) E s₂) E s₁) E s₁) E s)
 (n : Nat) (h : I n s) :
 codeAny (model prog w) A (.compLoop (.ListComp elt [⟨target, iter, ifs, 0⟩] scope pos) 0 it acc env) R s := by
 refine codeAny_loop rfl I (λ n s hI => ?_) n h
 show wpAny _ A ((compTurn (.ListComp elt [⟨target, iter, ifs, 0⟩] scope pos) 0 it acc env).onRaise (λ x => do noteFrame x env; theTreesLotGoes x)) _ _ s
 refine wpAny_noted ?_
 rw [compTurn_list]
 refine wpAny_bind (wpAny_standAt (wpAny_bind (wpAny_mono (turn n s _ hI) (λ r s₁ h₁ => ?_) λ _ _ h' => h')))
 cases r with
 | none => exact wpAny_pure h₁
 | some v =>
  refine wpAny_bind (wpAny_mono h₁ (λ _ s₁ h₁ => ?_) λ _ _ h' => h')
  refine wpAny_bind (wpAny_mono h₁ (λ _ s₂ h₂ => wpAny_bind (wpAny_mono h₂ (λ ok s₃ h₃ => ?_) λ _ _ h' => h')) λ _ _ h' => h')
  cases ok with
  | false => exact wpAny_pure ⟨rfl, h₃⟩
  | true =>
   exact wpAny_bind (wpAny_bind (wpAny_mono h₃ (λ x s₄ h₄ => wpAny_bind (wpAny_mono h₄ (λ _ s₅ h₅ => wpAny_pure (wpAny_pure ⟨rfl, h₅⟩)) λ _ _ h' => h')) λ _ _ h' => h'))
end
structure CapOk (N XN : List Str) (names : List (Str × NameKind)) (envNames : List (Str × NameKind)) (cap : List (Option Nat)) : Prop where
 len : N.length = cap.length
 at_ : ∀ (i : Nat) x (j : Nat), N[i]? = some x -> cap[i]? = some (some j) -> XN[j]? = some x /\ (x, NameKind.free) ∈ names
 fr : ∀ p ∈ names, p.2 = .free -> envNames.lookup p.1 = some .cell \/ envNames.lookup p.1 = some .free
 nd : (names.map (·.1)).Nodup
theorem zht {N XN : List Str} {names envNames : List (Str × NameKind)} {cap : List (Option Nat)} (h : xU N XN names envNames cap = true) : CapOk N XN names envNames cap := by
 unfold xU at h
 simp only [Bool.and_eq_true, beq_iff_eq, List.all_eq_true, decide_eq_true_eq] at h
 obtain ⟨⟨⟨h1, h2⟩, h3⟩, h4⟩ := h
 refine ⟨h1, λ i x j e1 e2 => ?_, λ p hp e => ?_, h4⟩
 · have m : (x, some j) ∈ N.zip cap := List.mem_of_getElem? (i := i) (by rw [List.getElem?_zip_eq_some]; exact ⟨e1, e2⟩)
   have := h2 _ m
   simp only [Bool.and_eq_true, beq_iff_eq] at this
   exact ⟨this.1, by simpa using this.2⟩
 · have := h3 p hp
   rw [e] at this
   simpa using this
theorem zgd {names : List (Str × NameKind)} (h : (names.map (·.1)).Nodup) {x : Str} {k k' : NameKind} (m : (x, k) ∈ names) (m' : (x, k') ∈ names) : k = k' := by
 induction names with
 | nil => cases m
 | cons p r ih =>
  obtain ⟨h1, h2⟩ := zzT.mp (show (p.1 :: r.map (·.1)).Nodup from h)
  rcases zI.mp m with e | m
  · rcases zI.mp m' with e' | m'
    · rw [<- e] at e'; cases e'; rfl
    · exact absurd (List.mem_map.mpr ⟨_, m', by rw [<- e]⟩) h1
  · rcases zI.mp m' with e' | m'
    · exact absurd (List.mem_map.mpr ⟨_, m, by rw [<- e']⟩) h1
    · exact ih h2 m m'
theorem zbS {names : List (Str × NameKind)} (h : (names.map (·.1)).Nodup) {x : Str} {k : NameKind} (m : (x, k) ∈ names) : names.lookup x = some k :=
 Xm (λ p hp e => by obtain ⟨y, k'⟩ := p; cases (show y = x from e); exact zgd h hp m) ⟨k, m⟩
theorem Vp {env : Env} {scope : Scope} (x : Str) : (relabel scope env).names.lookup x = (scope.names.lookup x).map λ k => if (k == .free && env.scope.kind == .function && env.kindOf x == some .cell) = true then NameKind.cell else k := by
 unfold relabel
 show (scope.names.map _).lookup x = _
 generalize scope.names = names
 induction names with
 | nil => rfl
 | cons p r ih =>
  obtain ⟨n, k⟩ := p
  rw [List.map_cons, List.lookup_cons (k := n) (as := r)]
  cases hb : x == n with
  | true =>
   have e : x = n := beq_iff_eq.mp hb
   subst e
   show List.lookup x ((if (k == NameKind.free && env.scope.kind == .function && env.kindOf x == some .cell) = true then (x, NameKind.cell) else (x, k)) :: _) = _
   show _ = some (if (k == NameKind.free && env.scope.kind == .function && env.kindOf x == some .cell) = true then NameKind.cell else k)
   split
   · rw [List.lookup_cons, hb]
   · rw [List.lookup_cons, hb]
  | false =>
   show List.lookup x ((if (k == NameKind.free && env.scope.kind == .function && env.kindOf n == some .cell) = true then (n, NameKind.cell) else (n, k)) :: _) = _
   split
   · rw [List.lookup_cons, hb]; exact ih
   · rw [List.lookup_cons, hb]; exact ih
theorem zjq {X : Cx} {pins : List (Addr × Obj)} {σ : St} {H : Hp} {s : Shared} {N : List Str} {scope : Scope} {cap : List (Option Nat)} {fp : List Addr} {h' : Heap} (I : Inv X pins σ H s) (C : CapOk N X.N scope.names X.env.scope.names cap) (hk : scope.kind = .function)
 (hf : ∀ b ∈ fp, zdi X pins H b) (ho : ∀ b ∈ fp, ∃ o, s.heap.get? b = some o)
 (old : ∀ b o, s.heap.get? b = some o -> h'.get? b = some o) (ns : h'.Ns (s.heap.objs.size + 1) (λ _ => none))
 (hc : ∀ p ∈ cellsFrom (s.heap.objs.size + 1 + 1) scope.names (v7 X.env scope.names []), p ∈ v7 X.env scope.names [] \/ ((p.1, NameKind.cell) ∈ scope.names /\ h'.IsCell p.2 none /\ s.heap.objs.size + 1 + 1 <= p.2)) :
 Inv (vL X N scope (v7 X.env scope.names []) s H fp) [] (ZK cap σ) H { s with heap := h' } := by
 have has : ∀ x, (x, NameKind.free) ∈ scope.names -> ∃ c, X.env.cells.lookup x = some c := λ x m => I.ok.has x (C.fr _ m rfl)
 have clo : ∀ p ∈ v7 X.env scope.names [], X.env.cells.lookup p.1 = some p.2 /\ (p.1, NameKind.free) ∈ scope.names := λ p m => by
  rcases zfw _ _ p m with z | ⟨z1, z2⟩
  · cases z
  · obtain ⟨c, e⟩ := has _ z1
    rw [e] at z2
    exact ⟨by rw [e]; exact congrArg some z2.symm, z1⟩
 have look : ∀ x c, (cellsFrom (s.heap.objs.size + 1 + 1) scope.names (v7 X.env scope.names [])).lookup x = some c -> (X.env.cells.lookup x = some c /\ (x, NameKind.free) ∈ scope.names) \/ ((x, NameKind.cell) ∈ scope.names /\ h'.IsCell c none /\ s.heap.objs.size + 1 + 1 <= c) := λ x c e => by
  rcases hc _ (mem_of_lookup e) with m | m
  · exact .inl (clo _ m)
  · exact .inr m
 have lt : ∀ x c, X.env.cells.lookup x = some c -> c < s.heap.objs.size := λ x c e => by obtain ⟨v, z⟩ := I.cell x c e; exact z.lt
 have lookF : ∀ x, (x, NameKind.free) ∈ scope.names -> ∃ c, (cellsFrom (s.heap.objs.size + 1 + 1) scope.names (v7 X.env scope.names [])).lookup x = some c /\ X.env.cells.lookup x = some c := λ x m => by
  obtain ⟨c, e⟩ := has x m
  have m1 := X7 scope.names (s.heap.objs.size + 1 + 1) _ _ (zfK (env := X.env) scope.names [] x m)
  refine ⟨c, Xm (λ p hp ep => ?_) ⟨_, m1⟩, e⟩
  rcases hc p hp with z | z
  · have := (clo p z).1
    rw [ep, e] at this
    exact (Option.some.inj this).symm
  · rw [ep] at z
    exact absurd (zgd C.nd z.1 m) (by decide)
 have kinds : ∀ x, ((relabel scope X.env).names.lookup x = some .cell \/ (relabel scope X.env).names.lookup x = some .free) -> (x, NameKind.free) ∈ scope.names \/ (x, NameKind.cell) ∈ scope.names := λ x h => by
  rw [Vp] at h
  cases e : scope.names.lookup x with
  | none => rw [e] at h; rcases h with h | h <;> cases h
  | some k =>
   have m := mem_of_lookup e
   cases k with
   | free => exact .inl m
   | cell => exact .inr m
   | _ => rw [e] at h; rcases h with h | h <;> (simp at h)
 have lsz : s.heap.objs.size + 1 < h'.objs.size := ns.lt
 refine ⟨⟨I.ok.mod, hk, I.ok.glob, I.ok.blt, Nat.le_succ _, ?_, ?_, ?_, I.ok.hd, I.ok.frames, .inl rfl, ?_, I.bs, zzL I.ok.bsz I.sz, ?_, ?_, I.stack, I.stkFree⟩, rfl, I.bare, (Un.kept old), ⟨_, ns, ?_⟩, ?_, I.hok.fresh (Nat.le_succ _), ?_, (λ _ z => nomatch z), I.hok.kept old, ?_⟩
 · intro x y c e1 e2
   refine zbP scope.names (s.heap.objs.size + 1 + 1) _ (λ p m => ?_) (λ p m q m' e => ?_) (x, c) (mem_of_lookup e1) (y, c) (mem_of_lookup e2) rfl
   · exact Nat.lt_succ_of_lt (Nat.lt_succ_of_lt (lt _ _ (clo p m).1))
   · refine I.ok.inj _ _ _ (clo p m).1 ?_
     rw [e]; exact (clo q m').1
 · intro x h
   rcases kinds x h with m | m
   · obtain ⟨c, e, _⟩ := lookF x m; exact ⟨c, e⟩
   · obtain ⟨c, e⟩ := zch scope.names (s.heap.objs.size + 1 + 1) (v7 X.env scope.names []) x m
     cases q : (cellsFrom (s.heap.objs.size + 1 + 1) scope.names (v7 X.env scope.names [])).lookup x with
     | some c' => exact ⟨c', q⟩
     | none =>
      exfalso
      have := List.lookup_eq_none_iff.mp q (x, c) e
      simp at this
 · intro x c hx e
   have hx : (scope.names.lookup x == some .cell) = true := hx
   have m := mem_of_lookup (beq_iff_eq.mp hx)
   rcases look x c e with z | z
   · exact absurd (zgd C.nd z.2 m) (by decide)
   · exact zzL (zzL (Nat.le_succ _) (Nat.le_succ _)) z.2.2
 · intro b hb
   obtain ⟨o, e⟩ := ho b hb
   refine ⟨zzN (Nat.lt_succ_of_lt (Heap.lt_size e)), λ x c ec => ?_⟩
   rcases look x c ec with z | z
   · exact (hf b hb).2.2.2.2.1 x c z.1
   · have := Heap.lt_size e
     intro q; subst q
     exact absurd (zzH this (zzL (zzL (Nat.le_succ _) (Nat.le_succ _)) z.2.2)) (Nat.lt_irrefl _)
 · intro b o e hb
   rcases (hf b hb).2.2.2.1 with z | z
   · exact I.ok.noex b o e z
   · exact absurd (zzH (Heap.lt_size e) (zzL I.ok.bsz z)) (Nat.lt_irrefl _)
 · intro b hb hm
   rcases zI.mp (I.stkSub b hm) with z | z
   · exact (hf b hb).2.1 z
   · exact (hf b hb).2.2.1 z
 · intro i x v e1 e2 e3
   have e2 : (ZK cap σ)[i]? = some (some v) := e2
   unfold ZK at e2
   rw [zzF] at e2
   cases ec : cap[i]? with
   | none => rw [ec] at e2; cases e2
   | some c =>
    cases c with
    | none => rw [ec] at e2; cases e2
    | some j =>
     rw [ec] at e2
     have e2 : (σ[j]?).getD none = some v := Option.some.inj e2
     obtain ⟨xn, m⟩ := C.at_ i x j e1 ec
     have es : σ[j]? = some (some v) := by
      cases q : σ[j]? with
      | none => rw [q] at e2; cases e2
      | some y => rw [q] at e2; exact congrArg some e2
     have kf := C.fr _ m rfl
     obtain ⟨mm, hn, hl⟩ := I.loc
     obtain ⟨u, r, l⟩ := hl j x v xn es (by rcases kf with k | k; exact .inr (.inl k); exact .inr (.inr k))
     refine ⟨u, r, .inr ⟨?_, ?_⟩⟩
     · show (relabel scope X.env).names.lookup x = some .cell \/ (relabel scope X.env).names.lookup x = some .free
       rw [Vp, zbS C.nd m]
       show some (if _ then _ else _) = _ \/ some (if _ then _ else _) = _
       split
       · exact .inl rfl
       · exact .inr rfl
     · obtain ⟨c, ec, eo⟩ := lookF x m
       refine ⟨c, ec, ?_⟩
       rcases l with ⟨k1, _⟩ | ⟨_, c2, e4, z⟩
       · have k1 : X.env.scope.names.lookup x = some .local := k1
         rcases kf with k | k <;> (rw [k1] at k; cases k)
       · rw [eo] at e4; cases e4
         exact z.keeps old
 · intro x c e
   rcases look x c e with z | z
   · obtain ⟨v, q⟩ := I.cell x c z.1; exact ⟨v, q.keeps old⟩
   · exact ⟨none, z.2.1⟩
 · intro x c e
   rcases look x c e with z | z
   · exact I.freeC x c z.1
   · exact I.hok.fresh (zzL (zzL (Nat.le_succ _) (Nat.le_succ _)) z.2.2)
 · show (ZK cap σ).length = N.length
   unfold ZK
   rw [zD, C.len]
abbrev lobj (its : List Value) : Obj := { cls := .type "list", data := .seq its.toArray its.length }
section
variable {X : Cx} {pins : List (Addr × Obj)} {σ : St} {H2 : Hp} {s2 : Shared} {elt tg iter : Expr} {ifs : List Expr} {scope : Scope} {pos : Pos} {N : List Str} {cap : List (Option Nat)} {g : TG} {tt : TT} {te : TE} {wi : TI}
set_option maxHeartbeats 1000000
theorem zdJ {J : It} {it : Addr} {fp : List Addr} {tn : Nat -> Heap -> Prop} {Q : VK} {R : Value -> Addr -> Result -> Shared -> Prop} {E : Value -> Shared -> Prop}
 (hc : X.calm = true) (C : CapOk N X.N scope.names X.env.scope.names cap) (hk : scope.kind = .function)
 (hg : ∀ cl s H fp, PG (vL X N scope cl s H fp) tg g) (ht : ∀ cl s H fp, PTs (vL X N scope cl s H fp) ifs tt) (he : ∀ cl s H fp, PE (vL X N scope cl s H fp) elt te)
 (I2 : Inv X pins σ H2 s2) (T : Turn X.prog X.w X.K tg J fp it tn) (st2 : tn 0 s2.heap) (f2 : ∀ b ∈ fp, zdi X pins H2 b)
 (W : Nat -> Nat -> List V -> Hp -> Prop) (m0 : Nat) (w0 : W 0 m0 [] H2)
 (turn : ∀ i m ys H, W i m ys H -> ys.length <= sizeLine /\ ((J.stop i H /\ ∀ p, H p = none -> Q (.ref p) (upd H p (.lst ys))) \/ (J.go i H /\ ∀ x H', J.yld i H x H' -> g x (ZK cap σ) H' λ σ2 H2 => (∀ (j : Nat) v, (ZK cap σ)[j]? = some (some v) -> σ2[j]? = some (some v)) /\
  tt σ2 H2 λ b H3 => if b = true then ys.length < sizeLine /\ te σ2 H3 λ y H4 => ∃ m', m' < m /\ W (i + 1) m' (ys ++ [y]) H4 else ∃ m', m' < m /\ W (i + 1) m' ys H3)))
 (fin : ∀ ys H3 s1 m, Inv X pins σ (upd H3 s2.heap.objs.size (.lst ys)) s1 -> s1.heap.Ns (s2.heap.objs.size + 1) m -> zdi X pins (upd H3 s2.heap.objs.size (.lst ys)) (s2.heap.objs.size + 1) ->
  Q (.ref s2.heap.objs.size) (upd H3 s2.heap.objs.size (.lst ys)) -> R (.ref s2.heap.objs.size) (s2.heap.objs.size + 1) (.ok .next) s1) :
 wpAny (model X.prog X.w) X.A (newList []) (λ acc s₃ => wpAny (model X.prog X.w) X.A (newFunctionEnv scope X.env.globals (v7 X.env scope.names []) [] X.env.qual none .none (some X.env)) (λ cenv s₄ =>
  codeAny (model X.prog X.w) X.A (.compStart (.ListComp elt [⟨tg, iter, ifs, 0⟩] scope pos) 0 (.ref it) acc { cenv with scope := relabel scope X.env }) (R acc cenv.locals) s₄) E s₃) E s2 := by
 refine wpAny_newObj_type (zgN λ h' env' eE eL old hns hcells => ?_)
 have e1 : (s2.heap.push { cls := .type "list", dict := none, data := .seq ([] : List Value).toArray }).objs.size = s2.heap.objs.size + 1 := Heap.size_push ..
 dsimp only at eE eL old hns hcells
 rw [e1] at eE eL hns hcells
 have hD0 : (s2.heap.push { cls := .type "list", dict := none, data := .seq ([] : List Value).toArray }).get? s2.heap.objs.size = some (lobj []) := Heap.get?_push_size _ rfl
 have hD : h'.get? s2.heap.objs.size = some (lobj []) := old _ _ hD0
 have old' : ∀ b o, s2.heap.get? b = some o -> h'.get? b = some o := λ b o q => old b o (Heap.get?_push_of_some _ q)
 have fex : ∀ b ∈ fp, ∃ o, s2.heap.get? b = some o := λ b hb => by obtain ⟨o, e, _⟩ := T.obj _ _ st2 b hb; exact ⟨o, e⟩
 have flt : ∀ b ∈ fp, b < s2.heap.objs.size := λ b hb => by obtain ⟨o, e⟩ := fex b hb; exact Heap.lt_size e
 have I' := zjq I2 C hk f2 fex old' hns hcells
 rw [eE, eL]
 generalize hX : vL X N scope (v7 X.env scope.names []) s2 H2 fp = X' at I'
 have xP : X'.prog = X.prog := by rw [<- hX]
 have xw : X'.w = X.w := by rw [<- hX]
 have xK : X'.K = X.K := by rw [<- hX]
 have xA : X'.A = X.A := by rw [<- hX]
 have xe : X'.env = Vh scope X.env (v7 X.env scope.names []) (s2.heap.objs.size + 1) := by rw [<- hX]
 have xL : X'.env.locals = s2.heap.objs.size + 1 := by rw [xe]; rfl
 have xfs : X'.fs = frs X.stack := by rw [<- hX]
 have xex : X'.ex = fp := by rw [<- hX]
 have xs : X'.s₀ = s2 := by rw [<- hX]
 have xH : X'.H₀ = H2 := by rw [<- hX]
 have xpn : X'.pn = [] := by rw [<- hX]
 have xc : X'.calm = true := by rw [<- hX]; exact hc
 have xE : X'.xe = λ _ _ => False := by rw [<- hX]
 have hg' : PG X' tg g := by rw [<- hX]; exact hg _ _ _ _
 have ht' : PTs X' ifs tt := by rw [<- hX]; exact ht _ _ _ _
 have he' : PE X' elt te := by rw [<- hX]; exact he _ _ _ _
 have H2D : H2 s2.heap.objs.size = none := I2.hok.fresh (zzK _)
 have Dfs : s2.heap.objs.size ∉ X'.fs := by
  rw [xfs]
  intro hm
  rcases zI.mp (I2.stkSub _ hm) with z | z
  · exact absurd I2.lt (by rw [<- z]; exact Nat.lt_irrefl _)
  · exact I2.nofs (zzK _) z
 have DL : s2.heap.objs.size ≠ X'.env.locals := by rw [xL]; exact zzN (Nat.lt_succ_self _)
 have pinD : ∀ {σ' : St} {H' : Hp} {s' : Shared} {its : List Value} {ps : List (Addr × Obj)}, Inv X' ps σ' H' s' -> s'.heap.get? s2.heap.objs.size = some (lobj its) -> H' s2.heap.objs.size = none -> Inv X' [(s2.heap.objs.size, lobj its)] σ' H' s' := λ I e n =>
  I.pins_of λ p hp => by
   cases zzO.mp hp
   exact ⟨e, n, DL, Dfs, λ v z => by cases z⟩
 have stat : ∀ {H' : Hp} {its : List Value}, (∀ b ∈ fp, H' b = none) -> ∀ b ∈ fp, zdi X' [(s2.heap.objs.size, lobj its)] H' b := λ hn b hb => by
  refine ⟨hn b hb, ?_, ?_, .inl (by rw [xex]; exact hb), (I'.ok.exf b (by rw [xex]; exact hb)).2, λ p hp => ?_⟩
  · exact (I'.ok.exf b (by rw [xex]; exact hb)).1
  · exact I'.ok.exfs b (by rw [xex]; exact hb)
  · rw [xpn, List.nil_append] at hp
    cases zzO.mp hp
    exact Nat.ne_of_gt (flt b hb)
 have loop : ∀ (n : Nat) (s' : Shared), (∃ i ys its H3, Inv X' [(s2.heap.objs.size, lobj its)] (ZK cap σ) H3 s' /\ tn i s'.heap /\ (∀ b ∈ fp, H3 b = none) /\ Vals ys its /\ W i n ys H3) ->
  codeAny (model X.prog X.w) X.A (.compLoop (.ListComp elt [⟨tg, iter, ifs, 0⟩] scope pos) 0 (.ref it) (.ref s2.heap.objs.size) (Vh scope X.env (v7 X.env scope.names []) (s2.heap.objs.size + 1)))
   (R (.ref s2.heap.objs.size) (s2.heap.objs.size + 1)) s' := by
  intro n s' h0
  refine zgO (λ n s' => ∃ i ys its H3, Inv X' [(s2.heap.objs.size, lobj its)] (ZK cap σ) H3 s' /\ tn i s'.heap /\ (∀ b ∈ fp, H3 b = none) /\ Vals ys its /\ W i n ys H3) ?_ n h0
  clear h0 n s'
  rintro n s3 E' ⟨i, ys, its, H3, I3, st3, fr3, rv3, w3⟩
  obtain ⟨hz, hstep⟩ := turn i n ys H3 w3
  rcases hstep with ⟨stop, qn⟩ | ⟨go, step⟩
  · have := T.done X' xP xw xK xc i _ s3 _ H3 E' I3 (stat fr3) st3 stop
    rw [xA] at this
    refine wpAny_mono this (λ r s4 ⟨hr, I4⟩ => ?_) λ _ _ z => z
    subst hr
    obtain ⟨gD, nD, _⟩ := I4.pin (s2.heap.objs.size, lobj its) (by rw [xpn]; simp)
    obtain ⟨m, hn, _⟩ := I4.loc
    rw [xL] at hn
    have b4 := I4.base
    rw [xfs, xex, xH, xs] at b4
    have nL : H3 (s2.heap.objs.size + 1) = none := by have := I4.free; rw [xL] at this; exact this
    have neD : ∀ b o, s2.heap.get? b = some o -> b ≠ s2.heap.objs.size := λ b o e => zzN (Heap.lt_size e)
    have neH : ∀ b u, H2 b = some u -> b ≠ s2.heap.objs.size := λ b u e z => by rw [z, H2D] at e; cases e
    have ne3 : ∀ b u, H3 b = some u -> b ≠ s2.heap.objs.size := λ b u e z => by rw [z, nD] at e; cases e
    have hok4 := I4.hok
    rw [xP, xw] at hok4
    refine fin ys H3 s4 m (I2.call' (ch := fp) ?_ ⟨b4.keep, b4.slot, λ b o e n hx => ?_, b4.there, λ b xs e => ?_, λ b o u e => ?_, λ b ps e => ?_⟩ ?_ I4.bare λ b hb => ?_) hn (I2.fpOk (Nat.le_succ _) (by rw [ye (Nat.ne_of_gt (Nat.lt_succ_self _))]; exact nL)) (qn _ nD)
    · have := I4.os; rw [xs] at this; exact this
    · rw [ye (neD b o e)]; exact b4.free b o e n hx
    · rw [ye (neH b _ e)]; exact b4.tups b xs e
    · rw [ye (neH b _ e)]; exact b4.frzs b o u e
    · rw [ye (neH b _ e)]; exact b4.tbls b ps e
    · intro b u e
      by_cases hb : b = s2.heap.objs.size
      · subst hb
        rw [yU] at e
        cases e
        exact ⟨hz, its, its.length, rv3, gD⟩
      · rw [ye hb] at e
        exact (hok4 b u e).stay (λ c v _ q => q) (λ c q => by rw [ye (ne3 c _ q)]; exact q) λ c xs q => by rw [ye (ne3 c _ q)]; exact q
    · obtain ⟨f0, f1, f3, f4, f5, f6⟩ := f2 b hb
      exact ⟨f4, f1, f5, f6⟩
  · have := T.item X' xP xw xK xc i _ s3 _ H3 E' I3 (stat fr3) st3 go
    rw [xA] at this
    refine wpAny_mono this (λ r s4 ⟨u, hr, h4⟩ => ?_) λ _ _ z => z
    subst hr
    refine wpAny_mono h4 (λ _ s5 ⟨x, H5, I5, r5, y5, st5, fr5⟩ => ?_) λ _ _ z => z
    have I5' := I5.pinned (stat fr5) (T.obj _ _ st5)
    have h6 := hg' _ s5 _ H5 x u _ I5' r5 (step x H5 y5)
    rw [xP, xw, xA, xe, xE] at h6
    refine wpAny_mono h6 (λ _ s6 ⟨σ6, H6, I6, cap6, q6⟩ => ?_) λ _ _ z => z.elim
    have h7 := ht' _ s6 σ6 H6 _ I6 q6
    rw [xP, xw, xA, xe, xE] at h7
    refine wpAny_mono h7 (λ b s7 ⟨H7, I7, q7⟩ => ?_) λ _ _ z => z.elim
    have keep : ∀ {H8 : Hp} {s8 : Shared}, Inv X' ([(s2.heap.objs.size, lobj its)] ++ zdS fp s5.heap) σ6 H8 s8 -> Inv X' [(s2.heap.objs.size, lobj its)] (ZK cap σ) H8 s8 /\ tn (i + 1) s8.heap /\ ∀ b ∈ fp, H8 b = none := λ {H8 s8} I8 => by
     refine ⟨I8.unpinned.weak ?_ cap6, T.keep _ _ _ st5 λ b hb o e => (I8.pin (b, o) (zzI _ (zzI _ (Wm hb e)))).1, λ b hb => ?_⟩
     · rw [I3.len]; exact I8.len.symm
     · obtain ⟨o, e, d⟩ := T.obj _ _ st5 b hb
       exact (I8.pin (b, o) (zzI _ (zzI _ (Wm hb e)))).2.1
    cases b with
    | false =>
     obtain ⟨m', hm, w7⟩ := q7
     obtain ⟨k1, k2, k3⟩ := keep I7
     exact ⟨m', hm, i + 1, ys, its, H7, k1, k2, k3, rv3, w7⟩
    | true =>
     obtain ⟨hz2, q7⟩ := q7
     have h8 := he' _ s7 σ6 H7 _ I7 q7
     rw [xP, xw, xA, xe, xE] at h8
     show wpAny _ _ _ _ _ _
     refine wpAny_mono h8 (λ yv s8 ⟨y, H8, I8, ry, m', hm, w8⟩ => ?_) λ _ _ z => z.elim
     obtain ⟨k1, k2, k3⟩ := keep I8
     obtain ⟨gD, nD, _⟩ := k1.pin (s2.heap.objs.size, lobj its) (by rw [xpn]; simp)
     have hl := rv3.length
     refine append_at gD (λ h9 sb gD9 => ?_) (by rw [zzE]; omega)
     have I9 : Inv X' [] (ZK cap σ) H8 { s8 with heap := h9 } := (k1.pins_of (pins' := []) (λ _ z => nomatch z)).turned (t' := s8.toks) (it := s2.heap.objs.size) (λ b o hb e => (sb.2 b hb).trans e) nD DL (.inr (by rw [xs]; exact zzK _)) (λ x c ec z => by
      obtain ⟨v, o, ho, hd⟩ := k1.cell x c ec
      rw [z, gD] at ho
      cases ho
      cases hd) (λ p hp => by rw [xpn] at hp; cases hp)
     have gD9' : h9.get? s2.heap.objs.size = some (lobj (its ++ [yv])) := by
      rw [gD9]
      congr 1
      show ({ cls := .type "list", data := .seq (its.toArray.push yv) (its.length + 1) } : Obj) = { cls := .type "list", data := .seq (its ++ [yv]).toArray (its ++ [yv]).length }
      rw [zzG, List.length_singleton, List.push_toArray]
     refine ⟨m', hm, i + 1, ys ++ [y], its ++ [yv], H8, pinD I9 gD9' nD, T.keep _ _ _ k2 λ b hb o e => (sb.2 b (zzN (flt b hb))).trans e, k3, rv3.append (.cons ry .nil), w8⟩
 have start : ∃ i ys its H3, Inv X' [(s2.heap.objs.size, lobj its)] (ZK cap σ) H3 { s2 with heap := h' } /\ tn i h' /\ (∀ b ∈ fp, H3 b = none) /\ Vals ys its /\ W i m0 ys H3 :=
  ⟨0, [], [], H2, pinD I' hD H2D, T.keep _ _ _ st2 λ b hb o e => old' b o e, λ b hb => (f2 b hb).1, .nil, w0⟩
 exact codeAny_compStart_list (loop m0 _ start) (T.self _ 0 _ _ _ (T.keep _ _ _ st2 λ b hb o e => old' b o e) (loop m0 _ start))
theorem zol (hc : X.calm = true) (hi : PI X tg iter wi) (hk : scope.kind = .function) (hcap : xU N X.N scope.names X.env.scope.names cap = true)
 (hg : ∀ cl s H fp, PG (vL X N scope cl s H fp) tg g) (ht : ∀ cl s H fp, PTs (vL X N scope cl s H fp) ifs tt) (he : ∀ cl s H fp, PE (vL X N scope cl s H fp) elt te)
 (hs : ∀ x, foldedSetIterable iter X.env x = pure x) : PE X (.ListComp elt [⟨tg, iter, ifs, 0⟩] scope pos) (zmW wi cap g tt te) := by
 intro pins s σ H Q I h
 have C := zht hcap
 rw [eval_ListComp]
 refine wpAny_comprehension_free (use := none) rfl hs (zad λ x m e => I.ok.has x.1 (C.fr x m e)) hk (λ y m e => zbS C.nd (by rw [<- e]; exact m)) ?_
 refine thn (hi pins s σ H _ I h) λ v s1 h1 => thn h1 λ itv s2 h2 => ?_
 obtain ⟨it, fp, tn, J, H2, e, I2, T, st2, f2, W, ⟨m0, w0⟩, turn⟩ := h2
 subst e
 refine zdJ (R := λ acc C r s' => compPost (model X.prog X.w) X.A X.xe none (EP X pins σ Q) acc C r s') hc C hk hg ht he I2 T st2 f2 W m0 w0 turn λ ys H3 s3 m I3 hn fl q => ?_
 refine ⟨m, hn, λ h' sb => ?_⟩
 obtain ⟨f0, f1, f3, f4, f5, f6⟩ := fl
 exact ⟨.ref s2.heap.objs.size, _, I3.turned (t' := s3.toks) (λ b o hb e => (sb.2 b hb).trans e) f0 f1 f4 f5 f6, rfl, q⟩
theorem znn {i : Nat} {y : Str} {py spos : Pos} (hN : X.N.Nodup) (hiy : X.N[i]? = some y) (hy : Loc X.env.scope y) (hf : X.fn y = true \/ X.env.scope.names.lookup y = some .local)
 (hsw : swapsWith (.ListComp elt [⟨tg, iter, ifs, 0⟩] scope pos) (some (.Name y py)) spos.line X.env = pure true)
 (hc : X.calm = true) (hi : PI X tg iter wi) (hk : scope.kind = .function) (hcap : xU N X.N scope.names X.env.scope.names cap = true)
 (hg : ∀ cl s H fp, PG (vL X N scope cl s H fp) tg g) (ht : ∀ cl s H fp, PTs (vL X N scope cl s H fp) ifs tt) (he : ∀ cl s H fp, PE (vL X N scope cl s H fp) elt te)
 (hs : ∀ x, foldedSetIterable iter X.env x = pure x) : PS X (.Assign [.Name y py] (.ListComp elt [⟨tg, iter, ifs, 0⟩] scope pos) spos) (zpm (zmW wi cap g tt te) (zhq i)) := by
 intro pins s σ H D I h
 have C := zht hcap
 rw [exec_Assign_Name_used _ _ _ _ hsw]
 refine wpAny_bind (wpAny_standAt (wpAny_bind ?_))
 show wpAny _ X.A (do let _ <- comprehension (.ListComp elt [⟨tg, iter, ifs, 0⟩] scope pos) scope X.env _ (newList []) false (eval iter X.env) (some (assign (.Name y py) X.env))) _ _ s
 refine wpAny_bind (wpAny_mono (wpAny_comprehension_free (use := some (assign (.Name y py) X.env)) (Q := λ _ s' => SP X pins D .next s') rfl hs (zad λ x m e => I.ok.has x.1 (C.fr x m e)) hk (λ y m e => zbS C.nd (by rw [<- e]; exact m)) ?_) (λ _ s' hq => wpAny_pure (wpAny_pure hq)) λ _ _ e => e)
 refine thn (hi pins s σ H _ I h) λ v s1 h1 => thn h1 λ itv s2 h2 => ?_
 obtain ⟨it, fp, tn, J, H2, e, I2, T, st2, f2, W, ⟨m0, w0⟩, turn⟩ := h2
 subst e
 refine zdJ (Q := λ x H1 => zhq i x σ H1 D.nx) (R := λ acc C r s' => compPost (model X.prog X.w) X.A X.xe (some (assign (.Name y py) X.env)) (λ _ s' => SP X pins D .next s') acc C r s') hc C hk hg ht he I2 T st2 f2 W m0 w0 turn λ ys H3 s3 m I3 hn fl q => ?_
 obtain ⟨f0, f1, f3, f4, f5, f6⟩ := fl
 refine wpAny_assign_Name (zfB I3 hN hiy hy (v := .ref s2.heap.objs.size) rfl (λ s4 I4 ⟨a, sb, ha⟩ => ?_) hf)
 refine ⟨m, hn.sameBut sb (λ z => ?_), λ h' sb' => ?_⟩
 · rcases ha with ha | ha
   · exact f1 (z.trans ha)
   · exact f5 y a ha z.symm
 · exact ⟨_, _, I4.turned (t' := s4.toks) (λ b o hb e => (sb'.2 b hb).trans e) f0 f1 f4 f5 f6, q⟩
end
structure ItC (K : zC) (kd : KD) (F : Addr -> Prop) (H : Hp) (J : It) (ds : List It1) : Prop where
 all : ∀ (H2 : Hp) (T : Addr -> Prop), (∀ b u, H b = some u -> H2 b = some u) -> (∀ a, T a -> H a = none /\ H2 a ≠ none) -> ∀ i, (i < ds.length -> J.go i H2) /\ (ds.length <= i -> J.stop i H2) /\
  ∀ v H3, J.yld i H2 v H3 -> (∀ b o, H2 b = some o -> H3 b = some o) /\ ∀ x, ds[i]? = some x -> Rp K kd (λ a => x.1 = true /\ (F a \/ T a)) H3 v x.2
def alC (K : zC) (kd : KD) (f : IF) : TI := λ σ H R => ∃ F B ad as ds as', Rel K kd F B [] ad as σ H /\ f as = some (ds, as') /\
 ∀ J ad' H', Rel K kd F B [] ad' as' σ H' -> Grow (Gw [] ad) H (Gw [] ad') H' -> ItC K kd (Lv F B (Gw [] ad') true) H' J ds -> R J H'
@[irreducible] def AIc (X : Cx) (kd : KD) (tg iter : Expr) (f : IF) : Prop := PI X tg iter (alC X.K kd f)
def zcv (os : List O) : List It1 := os.map λ o => match o with | .lf st d => (st, d) | o => (false, o.toD)
def zsk (as : AS) : RV -> Option (List It1)
 | .ow o => zii (o.str, o.toD)
 | .bo i => match as[i]? with
  | some (some (.nd .ls os)) => some (zcv os)
  | some (some (.nd .tp os)) => some (zcv os)
  | _ => none
def Yg (f : EF) : IF := λ as => (f as).bind λ p => (zsk p.2 p.1).bind λ ds => some (ds, p.2)
section
variable {K : zC} {kd : KD} {F B : Addr -> Prop} {G : Addr -> Prop} {T : List Addr} {ad : Ad} {as : AS} {σ : St} {H H' : Hp}
inductive RpC (K : zC) (kd : KD) (F : Addr -> Prop) (H : Hp) : List V -> List It1 -> Prop
 | nil : RpC K kd F H [] []
 | cons {v : V} {x : It1} {vs : List V} {ds : List It1} : Rp K kd (λ a => x.1 = true /\ F a) H v x.2 -> RpC K kd F H vs ds -> RpC K kd F H (v :: vs) (x :: ds)
theorem RpC.length {vs : List V} {ds : List It1} (h : RpC K kd F H vs ds) : vs.length = ds.length := by
 induction h with
 | nil => rfl
 | cons _ _ ih => exact congrArg (· + 1) ih
theorem RpC.get {vs : List V} {ds : List It1} {i : Nat} {x : It1} (h : RpC K kd F H vs ds) (e : ds[i]? = some x) : ∃ v, vs[i]? = some v /\ Rp K kd (λ a => x.1 = true /\ F a) H v x.2 := by
 induction h generalizing i with
 | nil => simp at e
 | cons h r ih =>
  cases i with
  | zero => simp at e; subst e; exact ⟨_, rfl, h⟩
  | succ i =>
   obtain ⟨v, h1, h2⟩ := ih (i := i) (by simpa using e)
   exact ⟨v, by simpa using h1, h2⟩
theorem Rp.since {Ob : Addr -> Prop} {v : V} {d : D} {T : Addr -> Prop} (k : ∀ b u, H b = some u -> H' b = some u) (hT : ∀ a, T a -> H a = none) (h : Rp K kd Ob H v d) : Rp K kd (Un2 Ob T) H' v d :=
 Rp.grow (F := Ob) (W := λ _ => False) (W' := T) (H' := H') ⟨λ b u q _ => k b u q, λ b z => .inr (hT b z)⟩ (h.less λ a z => z.elim id False.elim)
theorem zeE {st : Bool} {vs : List V} {ds : List D} (h : RpL K kd (Lv F B G st) H vs ds) : RpC K kd (Lv F B G true) H vs (kids st ds) :=
 RpL.ind (P := λ vs ds => RpC K kd (Lv F B G true) H vs (kids st ds)) .nil (λ {v d vs ds} h _ ih => by
  refine .cons (x := (yu d || st, d)) ?_ ih
  cases e : yu d with
  | true => exact h.flat e
  | false =>
   refine h.less λ a z => ?_
   have zs : st = true := z.1
   rw [zs]; exact z.2) h
theorem zoW {vs : List V} {os : List O} {fp : List Addr} (h : Zx K kd F B G H vs os fp) : RpC K kd (Lv F B G true) H vs (zcv os) :=
 RoL.ind (P := λ vs os _ => RpC K kd (Lv F B G true) H vs (zcv os)) .nil (λ {v o vs os fp fq} h _ ih => by
  have ha := zgv h
  refine .cons ?_ ih
  cases h with
  | lf rp => exact rp.less λ a z => (by have zs := z.1; dsimp only at zs; rw [zs]; exact z.2)
  | ls => exact ha.less λ a z => nomatch z.1
  | dc => exact ha.less λ a z => nomatch z.1
  | ob => exact ha.less λ a z => nomatch z.1
  | dt => exact ha.less λ a z => nomatch z.1
  | tp => exact ha.less λ a z => nomatch z.1) h
theorem zej {a : Addr} {vs : List V} {ds : List It1} (h : SqL K H a vs) (r : RpC K kd F H vs ds) : ItC K kd F H (Itl K a) ds := ⟨λ H3 T k hT i => by
 have hr3 : SqL K H3 a vs := by
  rcases h with (h | ⟨o, h⟩) | h
  · exact .inl (.inl (k _ _ h))
  · exact .inl (.inr ⟨o, k _ _ h⟩)
  · exact .inr h
 refine ⟨λ hi => ?_, λ hi => ⟨_, hr3, by rw [r.length]; exact hi⟩, λ v H4 hy => ?_⟩
 · obtain ⟨u, hu, _⟩ := r.get (zzB hi)
   exact ⟨_, u, hr3, hu⟩
 · obtain ⟨rfl, hv⟩ := hy
   refine ⟨λ _ _ z => z, λ d hd => ?_⟩
   obtain ⟨u, hu, ru⟩ := r.get hd
   have := hv _ hr3
   rw [hu] at this
   cases this
   exact (ru.since k λ a z => (hT a z).1).less λ a z => z.2.elim (λ y => .inl ⟨z.1, y⟩) .inr⟩
theorem zkh {a : Addr} {vs : List V} {ds : List It1} (h : SqT K H a vs) (r : RpC K kd F H vs ds) : ItC K kd F H (Itt K a) ds := ⟨λ H3 T k hT i => by
 have hr3 : SqT K H3 a vs := by
  rcases h with (h | ⟨o, h⟩) | h
  · exact .inl (.inl (k _ _ h))
  · exact .inl (.inr ⟨o, k _ _ h⟩)
  · exact .inr h
 refine ⟨λ hi => ?_, λ hi => ⟨_, hr3, by rw [r.length]; exact hi⟩, λ v H4 hy => ?_⟩
 · obtain ⟨u, hu, _⟩ := r.get (zzB hi)
   exact ⟨_, u, hr3, hu⟩
 · obtain ⟨rfl, hv⟩ := hy
   refine ⟨λ _ _ z => z, λ d hd => ?_⟩
   obtain ⟨u, hu, ru⟩ := r.get hd
   have := hv _ hr3
   rw [hu] at this
   cases this
   exact (ru.since k λ a z => (hT a z).1).less λ a z => z.2.elim (λ y => .inl ⟨z.1, y⟩) .inr⟩
theorem zoz (lo : Int) (n : Nat) : ItC K kd F H (Itr lo n) (vH lo n) := ⟨λ H2 T k hT i => by
 have hl : (vH lo n).length = n := by unfold vH; simp
 refine ⟨λ hi => by rw [hl] at hi; exact hi, λ hi => by rw [hl] at hi; exact hi, λ v H3 hy => ?_⟩
 obtain ⟨rfl, rfl⟩ := hy
 refine ⟨λ _ _ z => z, λ d hd => ?_⟩
 have hi : i < n := by rw [<- hl]; exact (zzD.mp hd).1
 unfold vH at hd
 rw [zzF, List.getElem?_range hi] at hd
 cases hd
 exact .int _⟩
end
theorem ZV {X : Cx} {kd : KD} {tg e : Expr} {fa : EF} (he : AE X kd e fa) : AIc X kd tg e (Yg fa) := by
 with_unfolding_all (
 intro pins s σ H R I h
 obtain ⟨F, B, ad, as, ds, as', Rl, e, q⟩ := h
 obtain ⟨⟨p, as1⟩, h1, e⟩ := bS_ (show (fa as).bind _ = _ from e)
 obtain ⟨ys, h2, e⟩ := bS_ e
 cases e
 cases p with
 | ow o =>
  have h2 : zii (o.str, o.toD) = some ds := h2
  generalize hd : o.toD = d at h2
  cases d with
  | lst xs =>
   cases h2
   refine zgW he pins s σ H R I ⟨F, B, ad, as, _, as1, Rl, h1, λ v T1 ad1 H1 R1 rv1 g1 => ?_⟩
   have rp := ziF R1 rv1
   rw [hd] at rp
   cases rp with
   | lst hn hr rl => exact ⟨_, rfl, ⟨_, .inl hr⟩, q _ ad1 H1 R1.drop (g1.trans (Grow.less Gw.drop)) (zej (.inl hr) (zeE rl))⟩
   | lstK a b c rl => exact ⟨_, rfl, ⟨_, .inr ⟨_, _, _, a, rfl, rfl, rfl, b, c⟩⟩, q _ ad1 H1 R1.drop (g1.trans (Grow.less Gw.drop)) (zej (.inr ⟨_, _, _, a, rfl, rfl, rfl, b, c⟩) (zeE rl))⟩
  | tup xs =>
   cases h2
   refine zje he pins s σ H R I ⟨F, B, ad, as, _, as1, Rl, h1, λ v T1 ad1 H1 R1 rv1 g1 => ?_⟩
   have rp := ziF R1 rv1
   rw [hd] at rp
   have go : ∃ a ys, v = .ref a /\ SqT X.K H1 a ys /\ RpL X.K kd (Lv F B (Gw [] ad1) o.str) H1 ys xs := by
    cases rp with
    | tup n h r => exact ⟨_, _, rfl, .inl (.inl h), r⟩
   obtain ⟨a, ys, rfl, hs, rl⟩ := go
   exact ⟨_, rfl, ⟨_, hs⟩, q _ ad1 H1 R1.drop (g1.trans (Grow.less Gw.drop)) (zkh hs (zeE rl))⟩
  | _ => cases h2
 | bo i =>
  have h2 : (match as1[i]? with | some (some (.nd .ls os)) => some (zcv os) | some (some (.nd .tp os)) => some (zcv os) | _ => none) = some ds := h2
  cases k : as1[i]? with
  | none => rw [k] at h2; cases h2
  | some s0 =>
   rw [k] at h2
   match s0, h2, k with
   | some (.nd .ls os), h2, k =>
    cases h2
    refine zgW he pins s σ H R I ⟨F, B, ad, as, _, as1, Rl, h1, λ v T1 ad1 H1 R1 rv1 g1 => ?_⟩
    obtain ⟨rfl, hs⟩ := rv1
    obtain ⟨w, hw, ro⟩ := R1.sl i _ k
    rw [hs] at hw
    cases hw
    generalize hfp : ad1 i = fp at ro
    cases ro with
    | ls hH rl => exact ⟨_, rfl, ⟨_, .inl (.inl hH)⟩, q _ ad1 H1 R1 g1 (zej (.inl (.inl hH)) (zoW rl))⟩
   | some (.nd .tp os), h2, k =>
    cases h2
    refine zje he pins s σ H R I ⟨F, B, ad, as, _, as1, Rl, h1, λ v T1 ad1 H1 R1 rv1 g1 => ?_⟩
    obtain ⟨rfl, hs⟩ := rv1
    obtain ⟨w, hw, ro⟩ := R1.sl i _ k
    rw [hs] at hw
    cases hw
    generalize hfp : ad1 i = fp at ro
    cases ro with
    | tp n hH rl => exact ⟨_, rfl, ⟨_, .inl (.inl hH)⟩, q _ ad1 H1 R1 g1 (zkh (.inl (.inl hH)) (zoW rl))⟩)
theorem yG {X : Cx} {kd : KD} {tg a : Expr} {pos : Pos} {fr : AF} {p : Pos} (hg : Gl X "range") (hm : X.mg "range" = none) (ha : AA X kd [a] fr) (hs : starEach [a] X.env = [(false, eval a X.env)]) : AIc X kd tg (.Call (.Name "range" p) [a] [] pos) (xJ fr xG) := by
 with_unfolding_all (
 intro pins s σ H R I h
 obtain ⟨F, B, ad, as, ds, as', Rl, e, q⟩ := h
 obtain ⟨⟨ps, as1⟩, h1, e⟩ := bS_ (show (fr as).bind _ = _ from e)
 obtain ⟨⟨xs, lv⟩, h2, e⟩ := bS_ e
 obtain ⟨ys, h3, e⟩ := bS_ e
 cases e
 obtain ⟨j, rfl, h3⟩ := zjV h3
 · obtain ⟨hj, e3⟩ := yt h3
   cases e3
   refine zfq hg hm ha hs pins s σ H R I ⟨F, B, ad, as, ps, _, Rl, h1, λ vs ad1 H1 R1 rv1 g1 => ?_⟩
   have vl := zbe R1 rv1 h2
   cases vl with
   | cons v1 v2 =>
    cases v2
    cases v1
    exact ⟨j, rfl, hj.1, hj.2, q _ ad1 H1 R1 g1 (zoz 0 _)⟩)
def zsT (as : AS) : Option Nat -> Option O
 | none => none
 | some j => match as[j]? with
  | some (some (.lf st d)) => some (.lf st d)
  | some (some o) => some (.lf false o.toD)
  | _ => none
def YM (cap : List (Option Nat)) (as : AS) : AS := cap.map (zsT as)
def wJ (g : GF) (tt : TF) (fe : EF) (as0 : AS) : List It1 -> Option (List O)
 | [] => some []
 | x :: r => (g x as0).bind λ as1 => (tt as1).bind λ b => if b.1 = true then (fe b.2).bind λ p => (toO p.2 p.1).bind λ q => if q.1.str = true then (wJ g tt fe as0 r).bind λ os => some (q.1 :: os) else none
  else wJ g tt fe as0 r
def yc (fi : IF) (cap : List (Option Nat)) (g : GF) (tt : TF) (fe : EF) : EF := λ as => (fi as).bind λ p => if p.1.length <= sizeLine then (wJ g tt fe (YM cap p.2) p.1).bind λ os => some (.ow (.nd .ls os), p.2) else none
def yV : TF := λ as => some (true, as)
section
variable {K : zC} {kd : KD} {F B : Addr -> Prop} {T : List Addr} {ad : Ad} {as : AS} {σ : St} {H H' : Hp} {cap : List (Option Nat)}
theorem znC (R : Rel K kd F B [] ad as σ H) (k : ∀ b u, H b = some u -> H' b = some u) (hT : ∀ a ∈ T, H a = none) (hT' : ∀ a ∈ T, H' a ≠ none) :
 Rel K kd (Un2 (Lv F B (Gw [] ad) true) (· ∈ T)) (λ _ => False) [] (λ _ => []) (YM cap as) (ZK cap σ) H' := by
 have no : ∀ a, ¬ Gw [] (λ _ => []) a := λ a z => z.elim (λ y => nomatch y) λ ⟨_, y⟩ => nomatch y
 have kn : ∀ a, H a ≠ none -> H' a ≠ none := λ a z => by
  cases e : H a with
  | none => exact absurd e z
  | some u => rw [k a u e]; simp
 have up : ∀ {st : Bool} {v : V} {d : D}, Rp K kd (λ a => st = true /\ Lv F B (Gw [] ad) true a) H v d -> Rp K kd (Lv (Un2 (Lv F B (Gw [] ad) true) (· ∈ T)) (λ _ => False) (Gw [] λ _ => []) st) H' v d := λ {st v d} h => by
  have := Rp.grow (F := λ a => st = true /\ Lv F B (Gw [] ad) true a) (W := λ _ => False) (W' := (· ∈ T)) (H' := H') ⟨λ b u q _ => k b u q, λ b z => .inr (hT b z)⟩ (h.less λ a z => z.elim id False.elim)
  refine this.less λ a z => ?_
  rcases z with (⟨z1, z2⟩ | z) | z
  · rcases z2 with z2 | z2
    · exact .inl ⟨z1, z2⟩
    · exact .inr z2
  · exact z.elim
  · exact (no a z).elim
 refine ⟨by unfold YM ZK; rw [zD, zD], λ _ _ => rfl, λ _ => List.nodup_nil, (λ _ _ _ z => nomatch z), List.nodup_nil, (λ _ _ _ z => nomatch z), λ a z => z.elim (λ y => kn a (R.trk true a y)) (hT' a), (λ _ z => z.elim), λ a z => (no a z).elim, λ i s e => ?_⟩
 unfold YM at e
 rw [zzF] at e
 obtain ⟨c, hc, rfl⟩ := zzU.mp e
 have es : (ZK cap σ)[i]? = some (zrb σ c) := by
  unfold ZK
  rw [zzF, hc]
  rfl
 rw [es]
 cases c with
 | none => rfl
 | some j =>
  show zdH _ _ _ _ _ _ (match as[j]? with | some (some (.lf st d)) => some (.lf st d) | some (some o) => some (.lf false o.toD) | _ => none) _ _
  cases k2 : as[j]? with
  | none => rfl
  | some s0 =>
   cases s0 with
   | none => rfl
   | some o =>
    obtain ⟨v, hv, ro⟩ := R.sl j _ k2
    cases o with
    | lf st d =>
     have e0 : ad j = [] := by
      generalize hfp : ad j = fp at ro
      cases ro
      rfl
     rw [e0] at ro
     refine ⟨v, by show some ((σ[j]?).getD none) = _; rw [hv]; rfl, .lf (up ?_)⟩
     exact (zdP ro).less λ a z => by have zs : st = true := z.1; show Lv F B (Gw [] ad) st a; rw [zs]; exact z.2
    | nd kk os => exact ⟨v, by show some ((σ[j]?).getD none) = _; rw [hv]; rfl, .lf (up ((zgv ro).less λ a z => nomatch z.1))⟩
theorem zls {S : List Nat} {fi : IF} {g : GF} {tt : TF} {fe : EF} {Q : VK} (hS : ∀ i ∈ S, cap[i]? = some none) (h : al K kd (yc fi cap g tt fe) σ H Q) :
 zmW (alC K kd fi) cap (alG K kd S g) (alT K kd tt) (al K kd fe) σ H Q := by
 obtain ⟨F, B, ad, as, r, as', R, e, q⟩ := h
 obtain ⟨⟨ds, as1⟩, h1, e⟩ := bS_ (show (fi as).bind _ = _ from e)
 by_cases hz : ds.length <= sizeLine
 · have e : (if ds.length <= sizeLine then (wJ g tt fe (YM cap as1) ds).bind λ os => some (RV.ow (.nd .ls os), as1) else none) = some (r, as') := e
   rw [if_pos hz] at e
   obtain ⟨os, h2, e⟩ := bS_ e
   cases e
   refine ⟨F, B, ad, as, ds, as', R, h1, λ J ad1 H1 R1 g1 it => ?_⟩
   refine ⟨λ i m ys H3 => m + i = ds.length /\ ∃ T os1 os2, os = os1 ++ os2 /\ wJ g tt fe (YM cap as') (ds.drop i) = some os2 /\ os1.length <= i /\ T.Nodup /\ (∀ a ∈ T, H1 a = none /\ H3 a ≠ none) /\ (∀ b u, H1 b = some u -> H3 b = some u) /\
    RoL (λ _ v d => Rp K kd (Un2 (Lv F B (Gw [] ad1) true) (· ∈ T)) H3 v d) (λ a => ¬ Un2 (Lv F B (Gw [] ad1) true) (· ∈ T) a) H3 ys os1 T, ⟨ds.length, rfl, [], [], os, rfl, h2, zzK _, List.nodup_nil, (λ _ m => nomatch m), (λ _ _ z => z), .nil⟩, ?_⟩
   rintro i m ys H3 ⟨hm, T, os1, os2, eo, ec, hl, tnd, tf, k3, rl⟩
   obtain ⟨i1, i2, i3⟩ := it.all H3 (· ∈ T) k3 tf i
   have yl := rl.length
   refine ⟨by omega, ?_⟩
   by_cases hi : i < ds.length
   · refine .inr ⟨i1 hi, λ v H4 hy => ?_⟩
     obtain ⟨k4, rp⟩ := i3 v H4 hy
     rw [List.drop_eq_getElem_cons hi] at ec
     obtain ⟨as2, e2, ec⟩ := bS_ (show (g _ _).bind _ = _ from ec)
     obtain ⟨⟨b, as3⟩, e3, ec⟩ := bS_ ec
     have k14 : ∀ b u, H1 b = some u -> H4 b = some u := λ b u h => k4 b u (k3 b u h)
     have kn4 : ∀ a, H3 a ≠ none -> H4 a ≠ none := λ a z => by
      cases e : H3 a with
      | none => exact absurd e z
      | some u => rw [k4 a u e]; simp
     have R4 := znC (cap := cap) (T := T) R1 k14 (λ a z => (tf a z).1) (λ a z => kn4 a (tf a z).2)
     have no : ∀ a, ¬ Gw [] (λ _ => []) a := λ a z => z.elim (λ y => nomatch y) λ ⟨_, y⟩ => nomatch y
     refine ⟨_, _, _, _, ds[i], as2, R4, (rp _ (zzB hi)).less λ a z => ?_, e2, λ σ5 ad5 H5 R5 g5 keep5 => ⟨λ j w hw => ?_, _, _, ad5, as2, b, as3, R5, e3, λ ad6 H6 R6 g6 => ?_⟩⟩
     · rcases z with (z | z) | z
       · exact z
       · exact z.elim
       · exact (no a z).elim
     · rw [keep5 j λ z => ?_]
       · exact hw
       · have := hS j z
         unfold ZK at hw
         rw [zzF, this] at hw
         cases hw
     · -- what stood is kept
       have g46 := g5.trans g6
       have k46 : ∀ b u, H4 b = some u -> H6 b = some u := λ b u h => g46.keep b u h (no b)
       have k36 : ∀ b u, H3 b = some u -> H6 b = some u := λ b u h => k46 b u (k4 b u h)
       have kn6 : ∀ a, H3 a ≠ none -> H6 a ≠ none := λ a z => by
        cases e : H3 a with
        | none => exact absurd e z
        | some u => rw [k36 a u e]; simp
       have up : ∀ {H7 : Hp} {T2 : List Addr}, (∀ b u, H3 b = some u -> H7 b = some u) -> (∀ a ∈ T2, H3 a = none) -> RoL (λ _ v d => Rp K kd (Un2 (Lv F B (Gw [] ad1) true) (· ∈ T ++ T2)) H7 v d) (λ a => ¬ Un2 (Lv F B (Gw [] ad1) true) (· ∈ T ++ T2) a) H7 ys os1 T := λ {H7 T2} k7 f7 =>
        RoL.mono (λ st v d r => (r.since k7 f7).less λ a z => z.elim (λ y => .inl (.inl y)) λ y => (zzJ.mp y).elim (λ x => .inl (.inr x)) .inr)
         (λ a vs n e => ⟨λ z => z.elim (λ y => n (.inl y)) λ y => (zzJ.mp y).elim (λ x => n (.inr x)) λ x => (by have := f7 a x; rw [this] at e; cases e), k7 _ _ e⟩) (λ a _ u h => k7 a u h) rl
       cases b with
       | false =>
        have := up (T2 := []) k36 (λ _ m => nomatch m)
        rw [List.append_nil] at this
        exact ⟨m - 1, by omega, by omega, T, os1, os2, eo, ec, Nat.le_succ_of_le hl, tnd, λ a z => ⟨(tf a z).1, kn6 a (tf a z).2⟩, λ b u h => k36 b u (k3 b u h), this⟩
       | true =>
        rw [if_pos rfl] at ec
        obtain ⟨⟨p, as7⟩, e7, ec⟩ := bS_ ec
        obtain ⟨⟨o, as8⟩, e8, ec⟩ := bS_ ec
        by_cases hs : o.str = true
        · have ec : (if o.str = true then (wJ g tt fe (YM cap as') (ds.drop (i + 1))).bind λ os => some (o :: os) else none) = some os2 := ec
          rw [if_pos hs] at ec
          obtain ⟨os3, e9, ec⟩ := bS_ ec
          cases ec
          refine ⟨by omega, _, _, ad6, as3, p, as7, R6, e7, λ y T2 ad7 H7 R7 rv7 g7 => ?_⟩
          obtain ⟨ad8, R8, ro8, le8⟩ := zem R7 rv7 e8
          have g47 := g46.trans g7
          have k47 : ∀ b u, H4 b = some u -> H7 b = some u := λ b u h => g47.keep b u h (no b)
          have k37 : ∀ b u, H3 b = some u -> H7 b = some u := λ b u h => k47 b u (k4 b u h)
          have f42 : ∀ a ∈ T2, H4 a = none := λ a z => (g47.own a (.inl z)).resolve_left (no a)
          have f32 : ∀ a ∈ T2, H3 a = none := λ a z => by
             cases e : H3 a with
             | none => rfl
             | some u => have := k4 a u e; rw [f42 a z] at this; cases this
          have rt := zjb R8 R8.tnd (λ a z => .inl z) ro8 hs
          have ro9 : Ro (λ _ v d => Rp K kd (Un2 (Lv F B (Gw [] ad1) true) (· ∈ T ++ T2)) H7 v d) (λ a => ¬ Un2 (Lv F B (Gw [] ad1) true) (· ∈ T ++ T2) a) H7 y o T2 :=
             Ro.mono (λ st v d r => r.less λ a z => z.elim (λ y => .inl (.inl y)) λ y => (zzJ.mp y).elim (λ x => .inl (.inr x)) .inr)
              (λ a vs n e => ⟨λ z => n (z.elim (λ y => .inl (.inl y)) λ y => (zzJ.mp y).elim (λ x => .inl (.inr x)) .inr), e⟩) (λ _ _ _ h => h) rt.ro
          refine ⟨m - 1, by omega, by omega, T ++ T2, os1 ++ [o], os3, by rw [eo, List.append_assoc]; rfl, e9, by rw [zzG, List.length_singleton]; omega, List.nodup_append.mpr ⟨tnd, rt.nd, λ a z b z' e => ?_⟩, λ a z => ?_, λ b u h => k37 b u (k3 b u h), (up k37 f32).append (RoL.one ro9)⟩
          · subst e
            exact (tf a z).2 (f32 a z')
          · rcases zzJ.mp z with z | z
            · refine ⟨(tf a z).1, ?_⟩
              cases e : H3 a with
              | none => exact absurd e (tf a z).2
              | some u => rw [k37 a u e]; simp
            · refine ⟨?_, rt.tr a z⟩
              cases e : H1 a with
              | none => rfl
              | some u => have := k3 a u e; rw [f32 a z] at this; cases this
        · have ec : (if o.str = true then (wJ g tt fe (YM cap as') (ds.drop (i + 1))).bind λ os => some (o :: os) else none) = some os2 := ec
          rw [if_neg hs] at ec
          cases ec
   · refine .inl ⟨i2 (by omega), λ p hp => ?_⟩
     rw [List.drop_eq_nil_of_le (by omega)] at ec
     cases ec
     rw [List.append_nil] at eo
     subst eo
     have pT : p ∉ T := λ z => (tf p z).2 hp
     have H1p : H1 p = none := by
      cases e : H1 p with
      | none => rfl
      | some u => have := k3 p u e; rw [hp] at this; cases this
     have kp : ∀ b u, H3 b = some u -> upd H3 p (.lst ys) b = some u := λ b u h => by rw [ye (xj h hp)]; exact h
     obtain ⟨R9, g9⟩ := R1.news (T' := p :: T) (H' := upd H3 p (.lst ys)) (zzT.mpr ⟨pT, tnd⟩) (λ a z => (zI.mp z).elim (λ e => by rw [e]; exact H1p) λ z => (tf a z).1) (λ b u h => kp b u (k3 b u h)) (λ a z => by
      rcases zI.mp z with e | z
      · rw [e, yU]; simp
      · cases e : H3 a with
        | none => exact absurd e (tf a z).2
        | some u => rw [kp a u e]; simp)
     refine q _ (p :: T) ad1 _ R9 (.ls yU ?_) (g1.trans g9)
     have le : ∀ st a, Lv F B (Gw (p :: T) ad1) st a -> Un2 (Un2 (Lv F B (Gw [] ad1) true) (· ∈ T)) (· = p) a := λ st a z => by
      rcases z with (z | z) | z | z
      · exact .inl (.inl (.inl (.inl ⟨rfl, z.2⟩)))
      · exact .inl (.inl (.inl (.inr z)))
      · exact (zI.mp z).elim .inr λ y => .inl (.inr y)
      · exact .inl (.inl (.inr (.inr z)))
     exact RoL.mono (λ st v d r => (r.since kp (T := (· = p)) λ a z => by rw [z]; exact hp).less (le st)) (λ a vs n e => ⟨λ z => (le true a z).elim n λ y => (by rw [y, hp] at e; cases e), kp _ _ e⟩) (λ a _ u h => kp a u h) rl
 · have e : (if ds.length <= sizeLine then (wJ g tt fe (YM cap as1) ds).bind λ os => some (RV.ow (.nd .ls os), as1) else none) = some (r, as') := e
   rw [if_neg hz] at e
   cases e
end
section
variable {X : Cx} {kd : KD} {elt tg iter e a b c : Expr} {es ifs : List Expr} {scope : Scope} {pos : Pos} {N : List Str} {cap : List (Option Nat)} {g : GF} {tt : TF} {fe fa fb : EF} {fi : IF} {S : List Nat} {fr : AF} {fd : DF}
theorem yE : PTs X [] (alT X.K kd yV) := λ pins s σ H Q I h => by
 obtain ⟨F, B, ad, as, b, as', R, e, q⟩ := h
 cases e
 exact znu pins s σ H Q I (q ad H R Grow.refl)
theorem zgC (h : AT X kd c tt) : PTs X [c] (alT X.K kd tt) := by with_unfolding_all exact (znm h)
theorem yO (hc : X.calm = true) (hi : AIc X kd tg iter fi) (hk : scope.kind = .function) (hcap : xU N X.N scope.names X.env.scope.names cap = true) (hS : S.all (λ i => cap[i]? == some none) = true)
 (hg : ∀ cl s H fp, AG (vL X N scope cl s H fp) kd tg S g) (ht : ∀ cl s H fp, PTs (vL X N scope cl s H fp) ifs (alT X.K kd tt)) (he : ∀ cl s H fp, AE (vL X N scope cl s H fp) kd elt fe)
 (hs : ∀ x, foldedSetIterable iter X.env x = pure x) : AE X kd (.ListComp elt [⟨tg, iter, ifs, 0⟩] scope pos) (yc fi cap g tt fe) := by with_unfolding_all exact (wC (zol (g := alG X.K kd S g) (te := al X.K kd fe) hc hi hk hcap hg ht he hs) λ σ H Q h => zls (λ i m => by simpa using List.all_eq_true.mp hS i m) h)
theorem Xz {z : Bool} {i : Nat} {y : Str} {py spos : Pos} (hN : X.N.Nodup) (hiy : X.N[i]? = some y) (hy : Loc X.env.scope y) (hf : X.fn y = true \/ X.env.scope.names.lookup y = some .local)
 (hsw : swapsWith (.ListComp elt [⟨tg, iter, ifs, 0⟩] scope pos) (some (.Name y py)) spos.line X.env = pure true)
 (hc : X.calm = true) (hi : AIc X kd tg iter fi) (hk : scope.kind = .function) (hcap : xU N X.N scope.names X.env.scope.names cap = true) (hS : S.all (λ i => cap[i]? == some none) = true)
 (hg : ∀ cl s H fp, AG (vL X N scope cl s H fp) kd tg S g) (ht : ∀ cl s H fp, PTs (vL X N scope cl s H fp) ifs (alT X.K kd tt)) (he : ∀ cl s H fp, AE (vL X N scope cl s H fp) kd elt fe)
 (hs : ∀ x, foldedSetIterable iter X.env x = pure x) : ASt X kd (.Assign [.Name y py] (.ListComp elt [⟨tg, iter, ifs, 0⟩] scope pos) spos) (zW z i (yc fi cap g tt fe)) := by with_unfolding_all exact (ZP (znn (g := alG X.K kd S g) (te := al X.K kd fe) hN hiy hy hf hsw hc hi hk hcap hg ht he hs) λ D σ H h => by
 obtain ⟨F, B, ad, as, o, R, e, q⟩ := h
 obtain ⟨⟨p, as1⟩, h1, e⟩ := bS_ (show (yc fi cap g tt fe as).bind _ = _ from e)
 obtain ⟨⟨y, as2⟩, h2, e⟩ := bS_ e
 obtain ⟨hl, e⟩ := yt e
 cases e
 refine zls (Q := λ x H1 => zhq i x σ H1 D.nx) (λ i m => by simpa using List.all_eq_true.mp hS i m) ⟨F, B, ad, as, p, as1, R, h1, λ v T' ad' H' R' rv g => ?_⟩
 obtain ⟨ad2, R2, le⟩ := ziH R' rv h2 hl
 exact q _ ad2 H' R2 (g.trans (Grow.less le)))
theorem zP {k : Nat} {f : Addr} {fdt : FuncData} {ps : List Str} {gg : List (Bool × D) -> Option O} {x : Str} {p : Pos} (F : FnOk X.prog X.w X.K X.mg X.base CX0 k f fdt ps (spD X.K kd gg)) (hr : Room k X.A) (hg : Gl X x) (hm : X.mg x = some (.ref f)) (hk : PySem.W.keepIn X.K (.ref f) = true)
 (hb : Binds X.K fdt ps []) (hx : zgV CX0 X (λ _ _ _ => False)) (ha : AA X kd (e :: es) fr) (hdb : (x == ("__debug__" : Str)) = false) (he : starEach (e :: es) X.env = (false, eval e X.env) :: starEach es X.env) (hpl : (backTo pos (starEach es X.env)).any (·.1) = false) :
 AE X kd (.Call (.Name x p) (e :: es) [] pos) (zN fr gg) := by with_unfolding_all exact (wC (zoF F hr hg hm hk hb .nil hx ha hdb he hpl) λ σ H Q h => zqn h)
theorem YH {id : String} {gg : List D -> Option R0} {x : Str} {p : Pos} (hc : CallD X kd (.builtin id) gg) (hg : Gl X x) (hm : X.mg x = none) (hv : bootBuiltins x = some (.builtin id)) (ha : AA X kd (e :: es) fr) (hn : x ≠ "__name__") (hdb : (x == ("__debug__" : Str)) = false)
 (he : starEach (e :: es) X.env = (false, eval e X.env) :: starEach es X.env) (hpl : (backTo pos (starEach es X.env)).any (·.1) = false) : AE X kd (.Call (.Name x p) (e :: es) [] pos) (fP fr gg) := by with_unfolding_all exact (wC (zhg hc hg hm hv ha hn hdb he hpl) λ σ H Q h => alP (λ _ _ _ z => z) h)
theorem WQ {T : String} {gg : List D -> Option R0} {x : Str} {p : Pos} (hc : CallD X kd (.type T) gg) (hg : Gl X x) (hm : X.mg x = none) (hv : bootBuiltins x = some (.type T)) (ha : AA X kd (e :: es) fr) (hn : x ≠ "__name__") (hdb : (x == ("__debug__" : Str)) = false)
 (he : starEach (e :: es) X.env = (false, eval e X.env) :: starEach es X.env) (hpl : (backTo pos (starEach es X.env)).any (·.1) = false) : AE X kd (.Call (.Name x p) (e :: es) [] pos) (fP fr gg) := by with_unfolding_all exact (wC (zkK hc hg hm hv ha hn hdb he hpl) λ σ H Q h => alP (λ _ _ _ z => z) h)
def wO : MG := λ os es => match es with | [o] => if os.length < sizeLine then some (os ++ [o], .lf true .non) else none | _ => none
def Vx : MG := λ os es => match es with | [.lf _ (.int i)] => if -(2 ^ 63) <= i /\ i < 2 ^ 63 then (seqIndex? i os.length).bind λ k => (os[k]?).bind λ o => some (os.eraseIdx k, o) else none | _ => none
def zkt : MG := λ os es => match es with | [.nd .ls ps] => if os.length + ps.length <= sizeLine then some (os ++ ps, .lf true .non) else none | _ => none
theorem znX {l f fo g : List Addr} (h : l.Nodup) (e : l = f ++ (fo ++ g)) : ((f ++ g) ++ fo).Nodup /\ ∀ a ∈ (f ++ g) ++ fo, a ∈ l := by
 subst e
 have p : (f ++ (fo ++ g)).Perm ((f ++ g) ++ fo) := by
  rw [List.append_assoc]
  exact (List.perm_append_comm).append_left f
 exact ⟨p.nodup_iff.mp h, λ a m => p.mem_iff.mpr m⟩
theorem ZW : MuD X kd zjJ wO := by
 intro F B G l vs ws os es os' o fp fq H Q hH rl rw' hn e k
 unfold wO at e
 split at e
 · obtain ⟨hz, e⟩ := yt e
   cases e
   cases rw' with
   | cons h1 h2 =>
    cases h2
    rw [List.append_nil] at hn k
    exact ⟨l, vs, _, rfl, rfl, hH, by rw [rl.length]; exact hz, k _ _ _ [] (rl.append (RoL.one h1)) (.lf .non) (λ a m => by rwa [List.append_nil] at m) (by rw [List.append_nil]; exact hn)⟩
 · cases e
theorem zll : MuD X kd zln Vx := by
 intro F B G l vs ws os es os' o fp fq H Q hH rl rw' hn e k
 unfold Vx at e
 split at e
 · rename_i st i
   split at e
   · rename_i hi
     obtain ⟨j, hj, e⟩ := bS_ e
     obtain ⟨o1, ho, e⟩ := bS_ e
     cases e
     obtain ⟨v, f, fo, gg, hv, hf, ro, r1, r2⟩ := rl.at_ ho
     cases rw' with
     | cons h1 h2 =>
      cases h2
      cases h1 with
      | lf rp =>
       cases rp
       rw [List.append_nil, List.append_nil] at hn k
       obtain ⟨n1, n2⟩ := znX hn hf
       refine ⟨l, vs, i, j, v, rfl, rfl, hH, hi.1, hi.2, by rw [rl.length]; exact hj, hv, k v _ (f ++ gg) fo ?_ ro n2 n1⟩
       rw [zcJ, zcJ]
       exact r1.append r2
   · cases e
 · cases e
theorem zqo : MuD X kd zkj zkt := by
 intro F B G l vs ws os es os' o fp fq H Q hH rl rw' hn e k
 unfold zkt at e
 split at e
 · rename_i ps
   obtain ⟨hz, e⟩ := yt e
   cases e
   cases rw' with
   | cons h1 h2 =>
    cases h2
    cases h1 with
    | ls hb rb =>
     rename_i b zs fz
     rw [List.append_nil] at hn k
     obtain ⟨n1, n2, n3⟩ := List.nodup_append.mp hn
     obtain ⟨n4, n5⟩ := zzT.mp n2
     refine ⟨l, b, vs, zs, rfl, rfl, hH, hb, by rw [rl.length, rb.length]; exact hz, k .non _ _ [] (rl.append rb) (.lf .non) (λ a m => ?_) ?_⟩
     · rw [List.append_nil] at m
       rcases zzJ.mp m with m | m
       · exact zzM _ m
       · exact zzI _ (zzA _ m)
     · rw [List.append_nil]
       exact List.nodup_append.mpr ⟨n1, n5, λ a m b m' => n3 a m b (zzA _ m')⟩
 · cases e
theorem Zn {i : Nat} {x : Str} {gg : MG} {r : V -> List V -> Hp -> VK -> Prop} {name : Str} {id : String} {apos cpos p : Pos} (hm : MtM X id r) (hr : MuD X kd r gg) (slot : Slot "list" name id) (hty : typeOf (.builtin id) = pure (.type "method_descriptor")) (ho : PE X (.Name x p) (zcB i)) (ha : AD X kd (e :: es) fd)
 (hbase : attributeBase (.Name x p) name X.env (eval (.Name x p) X.env) = eval (.Name x p) X.env)
 (hfew : ((backTo cpos (starEach (e :: es) X.env)).all (λ x => !x.1) && (backToKw cpos (keywordEach [] X.env)).all (λ x => x.1.isSome)
  && decide ((e :: es).length + ([] : List Keyword).length + (if ([] : List Keyword).isEmpty then 0 else 1) < 30)) = true)
 (hline : (apos.endLine == cpos.line) = true) (hs : starEach (e :: es) X.env = (false, eval e X.env) :: starEach es X.env) (hplain : (backTo cpos (starEach es X.env)).any (·.1) = false) :
 AE X kd (.Call (.Attribute (.Name x p) name apos) (e :: es) [] cpos) (wI i fd gg) := by with_unfolding_all exact (wC (zri PySem.F.plainAttrs_list slot hty hm ho ha hbase hfew hline hs hplain) λ σ H Q h => zrj hr h)
end
inductive Ty where
 | str | lst | dct | int
def Ty.nm : Ty -> String
 | .str => "str" | .lst => "list" | .dct => "dict" | .int => "int"
def zof : Ty -> D -> Bool
 | .str, .str _ => true
 | .lst, .lst _ => true
 | .dct, .dct _ => true
 | .int, .int _ => true
 | _, _ => false
def tyS (X : Cx) (T : String) (x : V) (H : Hp) : Prop := ∀ (pins : List (Addr × Obj)) (σ : St) (s : Shared) (v : Value), Inv X pins σ H s -> RelV x v -> s.TypeIs v T /\ ∀ a, v = .ref a -> ∃ ob, s.heap.get? a = some ob /\ ob.dict = none
def tMD (X : Cx) (T : String) (r : V -> List V -> Hp -> VK -> Prop) (to : TE) (t : TA) : TE := λ σ H Q => to σ H λ x H1 => tyS X T x H1 /\ t σ H1 λ xs H2 => r x xs H2 Q
section
variable {X : Cx} {kd : KD} {o e : Expr} {es : List Expr} {to : TE} {t : TA} {name : Str} {apos cpos : Pos} {T id : String} {r : V -> List V -> Hp -> VK -> Prop}
theorem zrJ (pa : PlainAttrs T) (slot : Slot T name id) (hty : typeOf (.builtin id) = pure (.type "method_descriptor")) (hm : MtR X id r) (ho : PE X o to) (ha : PA X (e :: es) t)
 (hbase : attributeBase o name X.env (eval o X.env) = eval o X.env)
 (hfew : ((backTo cpos (starEach (e :: es) X.env)).all (λ x => !x.1) && (backToKw cpos (keywordEach [] X.env)).all (λ x => x.1.isSome)
  && decide ((e :: es).length + ([] : List Keyword).length + (if ([] : List Keyword).isEmpty then 0 else 1) < 30)) = true)
 (hline : (apos.endLine == cpos.line) = true) (hs : starEach (e :: es) X.env = (false, eval e X.env) :: starEach es X.env) (hplain : (backTo cpos (starEach es X.env)).any (·.1) = false) :
 PE X (.Call (.Attribute o name apos) (e :: es) [] cpos) (tMD X T r to t) := by
 intro pins s σ H Q I h
 refine wpAny_Call_method_late hbase hfew hline rfl (thn (ho pins s σ H _ I h) λ v s1 ⟨x, H1, I1, r1, ty, q1⟩ => ?_)
 obtain ⟨h1, h2⟩ := ty _ _ _ _ I1 r1
 refine ⟨T, id, pa, slot, hty, h1, h2, ?_⟩
 have hA := ha cpos pins s1 σ H1 _ I1 q1
 rw [hs] at hA ⊢
 refine Calls.callWith_builtin (by show (false || (backTo cpos (starEach es X.env)).any (·.1)) = false; rw [hplain] <;> rfl) (Calls.evalArgs_plain ?_)
 exact thn hA λ us s2 ⟨vs, H2, I2, r2, q2⟩ => hm pins s2 σ H2 x vs v us Q I2 r1 r2 q2
def MtD (X : Cx) (kd : KD) (id : String) (g : D -> List D -> Option R0) : Prop :=
 MtR X id (λ x xs H Q => ∃ O d ds r, (∀ a, O a -> H a ≠ none) /\ Vw X.K kd O H x d /\ VwL X.K kd O H xs ds /\ g d ds = some r /\ RQ X.K kd O H Q r)
theorem zrH (hk : KdOk X kd) {O : Addr -> Prop} {H : Hp} {x : V} {d : D} {ty : Ty} (h : Vw X.K kd O H x d) (e : zof ty d = true) : tyS X ty.nm x H := by
 intro pins σ s v I rx
 cases h with
 | str z =>
  obtain ⟨t, rfl⟩ := rx
  cases ty <;> first | (cases e; done) | exact ⟨typeIs_str s z t, λ _ e => nomatch e⟩
 | int z =>
  obtain ⟨t, rfl⟩ := rx
  cases ty <;> first | (cases e; done) | exact ⟨typeIs_int s z t, λ _ e => nomatch e⟩
 | lst hr rl =>
  cases rx
  obtain ⟨its, _, pl, _⟩ := I.list hr.sq
  cases ty <;> first | (cases e; done) | skip
  refine ⟨pl.isList.typeIs, λ a e => ?_⟩
  cases e
  obtain ⟨o, n, e, c, hd, _⟩ := pl
  exact ⟨o, e, hd⟩
 | dct hr rm =>
  cases rx
  obtain ⟨z, hd, vs, rel, dd⟩ := zfL I hk hr
  cases ty <;> first | (cases e; done) | skip
  refine ⟨dd.typeIs, λ b q => ?_⟩
  cases q
  obtain ⟨ob, _, _, h1, h2, _⟩ := dd
  exact ⟨ob, h1, h2.2.1⟩
 | non => cases ty <;> cases e
 | bl => cases ty <;> cases e
 | tup => cases ty <;> cases e
 | cl => cases ty <;> cases e
 | ob => cases ty <;> cases e
 | dt => cases ty <;> cases e
def WL (ty : Ty) (fa : EF) (fr : AF) (g : D -> List D -> Option R0) : EF := λ as => (fa as).bind λ p => (p.1.frz.view p.2).bind λ w => if zof ty w.1 = true then (fr p.2).bind λ q => (p.1.frz.view q.2).bind λ x => (views q.2 q.1).bind λ y => (g x.1 y.1).bind λ r => (wrap (meet x.2 y.2) r).bind λ z => some (z, q.2) else none
theorem zpN (hk : KdOk X kd) {ty : Ty} {fa : EF} {fr : AF} {g : D -> List D -> Option R0} {σ : St} {H : Hp} {Q : VK} (h : al X.K kd (WL ty fa fr g) σ H Q) :
 tMD X ty.nm (λ x xs H Q => ∃ O d ds r, (∀ a, O a -> H a ≠ none) /\ Vw X.K kd O H x d /\ VwL X.K kd O H xs ds /\ g d ds = some r /\ RQ X.K kd O H Q r) (al X.K kd fa) (alA X.K kd fr) σ H Q := by
 obtain ⟨F, B, ad, as, r, as', R, e, q⟩ := h
 obtain ⟨⟨p, as1⟩, h1, e⟩ := bS_ (show (fa as).bind _ = _ from e)
 obtain ⟨⟨d0, l0⟩, h0, e⟩ := bS_ e
 obtain ⟨hty, e⟩ := ite_some' e
 obtain ⟨⟨ps, as2⟩, h2, e⟩ := bS_ e
 obtain ⟨⟨d, lv⟩, h3, e⟩ := bS_ e
 obtain ⟨⟨ds, lv2⟩, h4, e⟩ := bS_ e
 obtain ⟨r0, h5, e⟩ := bS_ e
 obtain ⟨z, h6, e⟩ := bS_ e
 cases e
 refine YS R h1 λ v ad1 H1 R1 rv1 g1 => ⟨zrH hk (Zq.vw R1 rv1 h0) hty, F, B, ad1, as1, ps, _, R1, h2, λ vs ad2 H2 R2 rv2 g2 => ?_⟩
 exact ⟨_, d, ds, r0, R2.tr _, (Zq.vw R2 (rv1.grow g2) h3).less Obl.meet1, (zbe R2 rv2 h4).less Obl.meet2, h5, Wt R2 h6 λ w T' H' R' rv' g' => q w T' ad2 H' R' rv' ((g1.trans g2).trans g')⟩
theorem zgY {ty : Ty} {a : Expr} {fa : EF} {fr : AF} {g : D -> List D -> Option R0} (hk : KdOk X kd) (hm : MtD X kd id g) (pa : PlainAttrs ty.nm) (slot : Slot ty.nm name id) (hty : typeOf (.builtin id) = pure (.type "method_descriptor")) (ho : AE X kd a fa) (ha : AA X kd (e :: es) fr)
 (hbase : attributeBase a name X.env (eval a X.env) = eval a X.env)
 (hfew : ((backTo cpos (starEach (e :: es) X.env)).all (λ x => !x.1) && (backToKw cpos (keywordEach [] X.env)).all (λ x => x.1.isSome)
  && decide ((e :: es).length + ([] : List Keyword).length + (if ([] : List Keyword).isEmpty then 0 else 1) < 30)) = true)
 (hline : (apos.endLine == cpos.line) = true) (hs : starEach (e :: es) X.env = (false, eval e X.env) :: starEach es X.env) (hplain : (backTo cpos (starEach es X.env)).any (·.1) = false) :
 AE X kd (.Call (.Attribute a name apos) (e :: es) [] cpos) (WL ty fa fr g) := by with_unfolding_all exact (wC (zrJ pa slot hty hm ho ha hbase hfew hline hs hplain) λ σ H Q h => zpN hk h)
end
section
variable {K : zC} {kd : KD} {F B G : Addr -> Prop} {T : List Addr} {ad : Ad} {as : AS} {σ : St} {H H' : Hp}
theorem Rel.wrT {p : Addr} {u : HO} (R : Rel K kd F B T ad as σ H) (hp : p ∈ T) : Rel K kd F B T ad as σ (upd H p u) /\ Grow (Gw T ad) H (Gw T ad) (upd H p u) := by
 have g : Grow (Gw T ad) H (Gw T ad) (upd H p u) := Grow.wr (.inl hp)
 have kn : ∀ a, H a ≠ none -> upd H p u a ≠ none := λ a z => by
  by_cases e : a = p
  · subst e; rw [yU]; simp
  · rw [ye e]; exact z
 exact ⟨⟨R.len, R.out, R.nd, R.inj, R.tnd, R.dis, λ a z => kn a (R.ftr a z), λ a z => ⟨kn a (R.btr a z).1, (R.btr a z).2⟩, λ a z => ⟨kn a (R.gtr a z).1, (R.gtr a z).2⟩, λ i s e => (R.sl i s e).grow g λ a m w h => by
  rw [ye (λ z => R.dis i a m (by rw [z]; exact hp))]; exact h⟩, g⟩
inductive RPs (K : zC) (kd : KD) (F B G : Addr -> Prop) (H : Hp) : List (V × V) -> List (Key × O) -> Prop
 | nil : RPs K kd F B G H [] []
 | cons {k : Key} {v : V} {o : O} {ps : List (V × V)} {kos : List (Key × O)} : RoS K kd F B G H v o [] -> RPs K kd F B G H ps kos -> RPs K kd F B G H ((kV k, v) :: ps) ((k, o) :: kos)
end
section
variable {X : Cx} {kd : KD} {e a b c o i : Expr} {pos pos' : Pos} {fa fb fk fv : EF}
def zmb {κ : Type} [DecidableEq κ] (ks : List κ) (k : κ) : Bool := ks.any λ x => decide (x = k)
def zcF {κ : Type} [DecidableEq κ] (ks : List κ) (k : κ) : List κ := if zmb ks k = true then ks else ks ++ [k]
def Vs {κ α : Type} [DecidableEq κ] (ks : List κ) (os : List α) (k : κ) (o : α) : List α := if zmb ks k = true then (ks.zip os).map (λ p => if p.1 = k then o else p.2) else os ++ [o]
theorem zkn {κ α : Type} [DecidableEq κ] (k : κ) : ∀ (ks : List κ) (vs : List α), ks.length = vs.length -> ((ks.zip vs).any λ kv => decide (kv.1 = k)) = zmb ks k
 | [], _, _ => rfl
 | x :: r, [], h => by simp at h
 | x :: r, v :: vs, h => by
  show (decide (x = k) || (r.zip vs).any _) = (decide (x = k) || _)
  rw [zkn k r vs (by simpa using h)]
  rfl
theorem zjK {κ : Type} [DecidableEq κ] {v : V} {k : κ} : ∀ (ks : List κ) (vs : List V), ks.length = vs.length -> (ks.zip vs).map (λ kv => if kv.1 = k then (kv.1, v) else kv) = ks.zip ((ks.zip vs).map λ p => if p.1 = k then v else p.2)
 | [], _, _ => rfl
 | x :: r, [], h => by simp at h
 | x :: r, w :: vs, h => by
  show _ :: (r.zip vs).map _ = (x, _) :: r.zip ((r.zip vs).map _)
  rw [zjK r vs (by simpa using h)]
  congr 1
  by_cases e : x = k
  · simp [e]
  · simp [e]
theorem zmq {κ : Type} [DecidableEq κ] {ks : List κ} {vs : List V} {k : κ} {v : V} (h : ks.length = vs.length) : putK (ks.zip vs) k v = (zcF ks k).zip (Vs ks vs k v) := by
 unfold putK zcF Vs
 rw [zkn k ks vs h]
 split
 · exact zjK ks vs h
 · rw [List.zip_append h]
   rfl
theorem zgh {κ α : Type} [DecidableEq κ] {ks : List κ} {os : List α} {k : κ} {o : α} (h : ks.length = os.length) : (zcF ks k).length = (Vs ks os k o).length := by
 unfold zcF Vs
 split
 · rw [zD, List.length_zip, h]; simp
 · rw [zzG, zzG, h]; rfl
theorem zmw {L : Bool -> V -> D -> Prop} {Nn : Addr -> Prop} {κ : Type} [DecidableEq κ] {H : Hp} {k : κ} {v : V} {o : O} (ho : Ro L Nn H v o []) : ∀ {ks : List κ} {vs : List V} {os : List O} {fp : List Addr}, ks.length = vs.length -> RoL L Nn H vs os fp ->
 ∃ fp', fp'.Sublist fp /\ RoL L Nn H ((ks.zip vs).map λ p => if p.1 = k then v else p.2) ((ks.zip os).map λ p => if p.1 = k then o else p.2) fp'
 | [], [], _, _, _, .nil => ⟨[], .slnil, .nil⟩
 | x :: r, _, _, _, hl, .cons (fp := f) (fq := g) h t => by
  obtain ⟨fp', s, q⟩ := zmw ho (ks := r) (by simpa using hl) t
  by_cases e : x = k
  · refine ⟨fp', s.trans (List.sublist_append_right _ _), ?_⟩
    have := RoL.cons ho q
    simpa [e] using this
  · refine ⟨f ++ fp', List.Sublist.append (List.Sublist.refl _) s, ?_⟩
    have := RoL.cons h q
    simpa [e] using this
 | [], _ :: _, _, _, hl, _ => by simp at hl
end
abbrev Fn := List (Bool × D) -> Option O
section
variable {P : Program} {w : World} {K : zC} {mg : Str -> Option Value} {base : Heap} {kd : KD}
theorem yX {A : Around} {k : Nat} (hr : Room k A) : A.units + 100 < cLine := by have := hr.un; omega
def KD1 (P : Program) (w : World) (K : zC) (kd : KD) : Prop := ∀ X : Cx, X.prog = P -> X.w = w -> X.K = K -> KdOk X kd
theorem Vm {O : Addr -> Prop} {H : Hp} : ∀ ns : List Int, RpL K kd O H (ns.map V.int) (ns.map D.int)
 | [] => .nil
 | _ :: r => .cons (.int _) (Vm r)
theorem zpl {H : Hp} {a : Addr} {ns : List Int} {g : Fn} {E : XK} (hg : g [(true, .lst (ns.map D.int))] = some (.lf true (.bl true))) (hS : RdL K H a (ns.map V.int)) : spD K kd g [.ref a] H (λ v _ => v = .bl true) E := by
 refine ⟨λ _ => False, [(true, .lst (ns.map D.int))], .lf true (.bl true), (λ _ z => z.elim), .cons ?_ .nil, hg, λ v T H' _ _ _ _ ro => ?_⟩
 · rcases hS with h | ⟨its, n, k, z, r⟩
   · exact .lst (λ z => z.2) h (Vm ns)
   · exact .lstK k z r (Vm ns)
 · cases ro with
   | lf rp => cases rp; rfl
end
namespace Bt
theorem len : bootBuiltins "len" = some (.builtin "len") := by decide +kernel
theorem max : bootBuiltins "max" = some (.builtin "max") := by decide +kernel
theorem sorted : bootBuiltins "sorted" = some (.builtin "sorted") := by decide +kernel
theorem int : bootBuiltins "int" = some (.type "int") := by decide +kernel
theorem list : bootBuiltins "list" = some (.type "list") := by decide +kernel
theorem tuple : bootBuiltins "tuple" = some (.type "tuple") := by decide +kernel
theorem dict : bootBuiltins "dict" = some (.type "dict") := by decide +kernel
theorem n (x : Str) (h : (x == ("__name__" : Str)) = false) : x ≠ "__name__" := λ e => by subst e; simp at h
end Bt
def WD (f : EF) (as : AS) (st : Bool) (d : D) : Prop := f as = some (.ow (.lf st d), as)
def WT (f : TF) (as : AS) (b : Bool) : Prop := f as = some (b, as)
def WA (f : AF) (as : AS) (rs : List (Bool × D)) : Prop := f as = some (rs.map (λ x => .ow (.lf x.1 x.2)), as)
def WO (f : DF) (as : AS) (os : List O) : Prop := f as = some (os, as)
section
variable {as : AS} {f a b : EF} {s t : Bool} {x y z : D} {i j : Int}
theorem zc : WD (fC x) as true x := rfl
theorem zb {i : Nat} (h : as[i]? = some (some (.lf s x))) : WD (fV i) as s x := by unfold WD fV; rw [h]
theorem zoH {g : D -> D -> Option R0} (ha : WD a as s x) (hb : WD b as t y) (hg : g x y = some (.im z)) : WD (f2 a b g) as (yu z || (s && t)) z := by
 unfold WD f2 at *
 rw [ha]; show ((b as).bind _) = _
 rw [hb]; show ((g x y).bind _) = _
 rw [hg]
 show (if (yu z || (meet (some s) (some t)).isSome) = true then _ else _ : Option RV).bind _ = _
 rw [if_pos (by unfold meet; simp)]
 rfl
theorem zrt {g : D -> D -> Option R0} {oa ob : O} (ha : a as = some (.ow oa, as)) (hb : b as = some (.ow ob, as)) (hg : g oa.toD ob.toD = some (.im z)) : WD (f2 a b g) as (yu z || (oa.str && ob.str)) z := by
 unfold WD f2 at *
 rw [ha]; show ((b as).bind _) = _
 rw [hb]; show ((g oa.toD ob.toD).bind _) = _
 rw [hg]
 show (if (yu z || (meet (some oa.str) (some ob.str)).isSome) = true then _ else _ : Option RV).bind _ = _
 rw [if_pos (by unfold meet; simp)]
 rfl
theorem zM {g : D -> D -> Option R0} (ha : WD a as s x) (hb : WD b as t y) (hg : g x y = some (.im z)) (e : yu z = true) : WD (f2 a b g) as true z := by
 have := zoH ha hb hg; rw [e] at this; exact this
theorem xW (ha : WD a as s (.int i)) (hb : WD b as t (.int j)) : WD (f2 a b (zbK .Add)) as true (.int (i + j)) := zM ha hb rfl rfl
theorem ziX (ha : WD a as s (.int i)) (hb : WD b as t (.int j)) : WD (f2 a b (zbK .Sub)) as true (.int (i - j)) := zM ha hb rfl rfl
theorem wX (ha : WD a as s (.int i)) (hb : WD b as t (.int j)) (h1 : i.natAbs < big) (h2 : j.natAbs < big) : WD (f2 a b (zbK .Mult)) as true (.int (i * j)) := zM ha hb (by show (if _ then _ else _) = _; rw [if_pos ⟨h1, h2⟩]) rfl
theorem v8 (ha : WD a as s (.int i)) (hb : WD b as t (.int j)) (h1 : 0 < j) (h2 : j.natAbs < big) : WD (f2 a b (zbK .FloorDiv)) as true (.int (i / j)) := zM ha hb (by show (if _ then _ else _) = _; rw [if_pos ⟨h1, h2⟩]) rfl
theorem yz (ha : WD a as s (.int i)) (hb : WD b as t (.int j)) (h1 : 0 < j) : WD (f2 a b (zbK .Mod)) as true (.int (i % j)) := zM ha hb (by show (if _ then _ else _) = _; rw [if_pos h1]) rfl
theorem yD {c : Bool} (ha : WD a as s x) (hb : WD b as t y) (h : eqF 60 x y = some c) : WD (f2 a b (yf .Eq)) as true (.bl c) := zM ha hb (by show (eqF 60 x y).bind _ = _; rw [h]; rfl) rfl
theorem zrd {c : Bool} (ha : WD a as s x) (hb : WD b as t y) (h : eqF 60 x y = some c) : WD (f2 a b (yf .NotEq)) as true (.bl (!c)) := zM ha hb (by show (eqF 60 x y).bind _ = _; rw [h]; rfl) rfl
theorem zfI (ha : WD a as s (.int i)) (hb : WD b as t (.int j)) : WD (f2 a b (yf .Lt)) as true (.bl (decide (i < j))) := zM ha hb rfl rfl
theorem zbf (ha : WD a as s (.int i)) (hb : WD b as t (.int j)) : WD (f2 a b (yf .Gt)) as true (.bl (decide (j < i))) := zM ha hb rfl rfl
theorem zqp (ha : WD a as s (.int i)) : WD (f1 a zmM) as true (.int (-i)) := by
 unfold WD f1 at *
 rw [ha]
 rfl
theorem zV {c : Bool} (h : WD f as s x) (e : truth x = some c) : WT (fT f) as c := by
 unfold WT fT; unfold WD at h
 rw [h]; show ((truth x).bind _) = _
 rw [e]; rfl
theorem zpY {c : TF} {k : Bool} (h : WT c as k) : WT (zgb c) as (!k) := by unfold WT zgb at *; rw [h]; rfl
theorem zgK {c e : TF} {k l : Bool} (h : WT c as k) (h2 : k = true -> WT e as l) (h3 : k = false -> l = false) : WT (zdD c e) as l := by
 unfold WT zdD at *; rw [h]
 cases k with
 | true => exact h2 rfl
 | false => rw [h3 rfl]; rfl
theorem zhj {c e : TF} {k l : Bool} (h : WT c as k) (h2 : k = false -> WT e as l) (h3 : k = true -> l = true) : WT (zfk c e) as l := by
 unfold WT zfk at *; rw [h]
 cases k with
 | false => exact h2 rfl
 | true => rw [h3 rfl]; rfl
theorem zQ : WA aN as [] := rfl
theorem zJ {fr : AF} {rs : List (Bool × D)} (ha : WD a as s x) (hr : WA fr as rs) : WA (aC a fr) as ((s, x) :: rs) := by
 unfold WA aC at *; unfold WD at ha
 rw [ha]; show ((fr as).bind _) = _
 rw [hr]; rfl
theorem zbT : ∀ rs : List (Bool × D), zaD as (rs.map (λ x => .ow (.lf x.1 x.2))) = some (rs.map λ x => (yu x.2 || x.1, x.2))
 | [] => rfl
 | r :: rs => by
  show (zmF as (.ow (.lf r.1 r.2))).bind _ = _
  show (zaD as (rs.map _)).bind _ = _
  rw [zbT rs]; rfl
theorem Xv : ∀ rs : List (Bool × D), views as (rs.map (λ x => .ow (.lf x.1 x.2))) = some (rs.map (·.2), some (rs.all (·.1)))
 | [] => rfl
 | r :: rs => by
  show (views as (rs.map _)).bind _ = _
  rw [Xv rs]; rfl
theorem Ws {fr : AF} {rs : List (Bool × D)} {g : List (Bool × D) -> Option O} (ha : WA fr as rs) (hg : g (rs.map λ x => (yu x.2 || x.1, x.2)) = some (.lf s x)) : WD (zN fr g) as s x := by
 unfold WD zN; unfold WA at ha
 rw [ha]; show (zaD as _).bind _ = _
 rw [zbT]; show (g _).bind _ = _
 rw [hg]; rfl
theorem XQ {fr : AF} {rs : List (Bool × D)} {o : O} {g : List (Bool × D) -> Option O} (ha : WA fr as rs) (hg : g (rs.map λ x => (yu x.2 || x.1, x.2)) = some o) : zN fr g as = some (.ow o, as) := by
 unfold zN; unfold WA at ha
 rw [ha]; show (zaD as _).bind _ = _
 rw [zbT]; show (g _).bind _ = _
 rw [hg]; rfl
theorem zjY {fr : AF} {rs : List (Bool × D)} {g : List D -> Option R0} (ha : WA fr as rs) (hg : g (rs.map (·.2)) = some (.im x)) : WD (fP fr g) as (yu x || rs.all (·.1)) x := by
 unfold WD fP; unfold WA at ha
 rw [ha]; show (views as _).bind _ = _
 rw [Xv]; show (g _).bind _ = _
 rw [hg]
 show (if (yu x || (some (rs.all (·.1))).isSome) = true then _ else _ : Option RV).bind _ = _
 rw [if_pos (by simp)]; rfl
theorem vP {fr : AF} {rs : List (Bool × D)} {g : List D -> Option R0} (ha : WA fr as rs) (hg : g (rs.map (·.2)) = some (.im x)) (e : yu x = true) : WD (fP fr g) as true x := by
 have := zjY ha hg; rw [e] at this; exact this
theorem yo : WO dN as [] := rfl
theorem zu {fr : DF} {os : List O} (ha : WD a as s x) (hr : WO fr as os) : WO (dC a fr) as (.lf s x :: os) := by
 unfold WO dC at *; unfold WD at ha
 rw [ha]; show ((fr as).bind _) = _
 rw [hr]; rfl
theorem vO {fr : DF} {os : List O} (h : WO fr as os) (hl : os.length <= sizeLine) : xN fr as = some (.ow (.nd .ls os), as) := by
 unfold xN; unfold WO at h
 rw [h]; show (if os.length <= sizeLine then _ else _) = _
 rw [if_pos hl]
theorem yw {f g : SF} {as1 : AS} {o : Option Out} (h1 : f as = some (.nx as1)) (h2 : g as1 = o) : zL f g as = o := by unfold zL; rw [h1]; exact h2
theorem Zk {f g : SF} {o : O} (h1 : f as = some (.rt o)) : zL f g as = some (.rt o) := by unfold zL; rw [h1]; rfl
theorem wV {c : TF} {f g : SF} {o : Option Out} (h : WT c as true) (h1 : f as = o) : sIf c f g as = o := by unfold sIf; unfold WT at h; rw [h]; exact h1
theorem ym {c : TF} {f g : SF} {o : Option Out} (h : WT c as false) (h1 : g as = o) : sIf c f g as = o := by unfold sIf; unfold WT at h; rw [h]; exact h1
theorem xr {i : Nat} {st : Bool} (h : WD f as s x) (hi : i < as.length) : zW st i f as = some (.nx (as.set i (some (.lf s x)))) := by
 unfold zW; unfold WD at h
 rw [h]
 cases st <;> exact if_pos hi
theorem wy {i : Nat} {o : O} (h : f as = some (.ow o, as)) (hi : i < as.length) : zW false i f as = some (.nx (as.set i (some o))) := by
 unfold zW
 rw [h]
 exact if_pos hi
theorem znt {i : Nat} {o : O} (h : f as = some (.ow o, as)) (hi : i < as.length) : zW true i f as = some (.nx (as.set i (some o.frz))) := by
 unfold zW
 rw [h]
 exact if_pos hi
theorem Za (h : WD f as true x) : xf f as = some (.rt (.lf true x)) := by unfold xf; unfold WD at h; rw [h]; rfl
theorem ZJ {n m : Nat} {c : SF} {ds : List (Bool × D)} {o : O} (hl : ds.length = m) (h : c (zat n ds) = some (.rt o)) : fnR n m c ds = some o := by unfold fnR; rw [if_pos hl, h]; rfl
theorem wG {g : GF} {f : SF} (I : Nat -> AS -> Prop) : ∀ (xs : List It1) (k : Nat) (as : AS), (∀ i x as, xs[i]? = some x -> I (k + i) as -> ∃ as1, g x as = some as1 /\ ∃ as2, f as1 = some (.nx as2) /\ I (k + i + 1) as2) -> I k as -> ∃ as', forL g f xs as = some (.nx as') /\ I (k + xs.length) as'
 | [], k, as, _, h => ⟨as, rfl, h⟩
 | x :: r, k, as, st, h => by
  obtain ⟨as1, h1, as2, h2, h3⟩ := st 0 x as rfl h
  obtain ⟨as', h4, h5⟩ := wG I r (k + 1) as2 (λ i y as e q => by
   obtain ⟨u, k1, v, k2, k3⟩ := st (i + 1) y as e (by rw [show k + (i + 1) = k + 1 + i by omega]; exact q)
   exact ⟨u, k1, v, k2, by rw [show k + 1 + i + 1 = k + (i + 1) + 1 by omega]; exact k3⟩) h3
  refine ⟨as', ?_, by rw [zzQ, show k + (r.length + 1) = k + 1 + r.length by omega]; exact h5⟩
  show (g x as).bind _ = _
  rw [h1]; show (f as1).bind _ = _
  rw [h2]; exact h4
theorem wD {fi : IF} {g : GF} {f : SF} {xs : List It1} {as' : AS} {o : Option Out} (h : fi as = some (xs, as')) (h2 : forL g f xs as' = o) : Z2 fi g f as = o := by unfold Z2; rw [h]; exact h2
theorem Yk {lo : Int} {n i : Nat} {x : It1} (h : (vH lo n)[i]? = some x) : x = (true, .int (lo + i)) /\ i < n := by
 unfold vH at h
 rw [zzF] at h
 cases e : (List.range n)[i]? with
 | none => rw [e] at h; cases h
 | some k =>
  rw [e] at h
  obtain ⟨h1, h2⟩ := zzD.mp e
  rw [List.length_range] at h1
  rw [List.getElem_range] at h2
  subst h2
  exact ⟨(Option.some.inj h).symm, h1⟩
theorem vR {fr : AF} {j : Int} {u : Bool} (h : WA fr as [(u, .int j)]) (h0 : 0 <= j) (h1 : j < 1000000) : xJ fr xG as = some (vH 0 j.toNat, as) := by
 unfold xJ; unfold WA at h
 rw [h]
 simp only [Option.bind_some, Xv]
 show ((if -(2 ^ 62) <= j /\ j < 2 ^ 62 then some (vH 0 j.toNat) else none).bind _) = _
 rw [if_pos ⟨by omega, by omega⟩]; rfl
theorem zlS {fr : AF} {rs : List (Bool × D)} {o : O} (ha : a as = some (.ow o, as)) (hr : WA fr as rs) : WA (aC a fr) as ((o.str, o.toD) :: rs) := by
 unfold WA aC at *
 rw [ha]; show ((fr as).bind _) = _
 rw [hr]; rfl
theorem V7 {i : Nat} {o : O} (h : as[i]? = some (some o)) : RV.view as (.bo i) = some (o.toD, o.kl) := by simp only [RV.view, h]
theorem zlz {i : Nat} {o : O} (h : as[i]? = some (some o)) : toO as (.bo i) = some (o.frz, as.set i (some o.frz)) := by simp only [toO, h]
theorem znf {i : Nat} {o : O} (h : as[i]? = some (some o)) (hs : o.str = true) : zlX as (.bo i) = some o := by simp only [zlX, h, hs, if_true]
theorem zbu {i : Nat} {k : Kind} {os : List O} (h : as[i]? = some (some (.nd k os))) : fV i as = some (.bo i, as) := by unfold fV; rw [h]
theorem zpB {i : Nat} {os : List O} (h : as[i]? = some (some (.nd .ls os))) : WD (fP (aC (fV i) aN) Xr) as true (.int os.length) := by
 have e : views as [.bo i] = some ([.lst (O.toDs os)], meet (O.nd .ls os).kl (some true)) := by
  show (RV.view as (.bo i)).bind _ = _
  rw [V7 h]; rfl
 unfold WD fP aC
 rw [zbu h]
 simp only [Option.bind_some, aN, RV.frz, e]
 rw [show Xr [.lst (O.toDs os)] = some (.im (.int os.length)) by show some (R0.im (.int ((O.toDs os).length : Nat))) = _; rw [WW]]
 rfl
theorem vV {g : GF} {f : SF} {d : It1} {r : List It1} {as1 as2 : AS} {o : Option Out} (h1 : g d as = some as1) (h2 : f as1 = some (.nx as2)) (h3 : forL g f r as2 = o) : forL g f (d :: r) as = o := by
 show (g d as).bind _ = _
 rw [h1]; show (f as1).bind _ = _
 rw [h2]; exact h3
theorem zhK {g : GF} {f : SF} {d : It1} {r : List It1} {as1 : AS} {o : O} (h1 : g d as = some as1) (h2 : f as1 = some (.rt o)) : forL g f (d :: r) as = some (.rt o) := by
 show (g d as).bind _ = _
 rw [h1]; show (f as1).bind _ = _
 rw [h2]; rfl
theorem zmf {i : Nat} {os : List O} (h : as[i]? = some (some (.nd .ls os))) (hl : os.length < sizeLine) (ha : WD a as s x) : xO (wI i (dC a dN) wO) as = some (.nx (as.set i (some (.nd .ls (os ++ [.lf s x]))))) := by
 unfold xO wI; rw [h]
 have e : dC a dN as = some ([.lf s x], as) := zu ha yo
 show ((dC a dN as).bind _).bind _ = _
 rw [e]; show (Option.bind (match as[i]? with | some (some (.nd .ls os)) => _ | _ => none) _) = _
 rw [h]; show ((wO os [.lf s x]).bind _).bind _ = _
 have e2 : wO os [.lf s x] = some (os ++ [.lf s x], .lf true .non) := by unfold wO; exact if_pos hl
 rw [e2]; rfl
theorem zmT {i : Nat} {os : List O} {k : Int} {o : O} (h : as[i]? = some (some (.nd .ls os))) (ha : WD a as s (.int k)) (h0 : 0 <= k) (h1 : k < os.length) (hs : os.length < 2 ^ 60) (ho : os[k.toNat]? = some o) : wI i (dC a dN) Vx as = some (.ow o, as.set i (some (.nd .ls (os.eraseIdx k.toNat)))) := by
 unfold wI; rw [h]
 have e : dC a dN as = some ([.lf s (.int k)], as) := zu ha yo
 show ((dC a dN as).bind _) = _
 rw [e]; show (match as[i]? with | some (some (.nd .ls os)) => _ | _ => none) = _
 rw [h]; show ((Vx os [.lf s (.int k)]).bind _) = _
 have e2 : Vx os [.lf s (.int k)] = some (os.eraseIdx k.toNat, o) := by
  unfold Vx
  show (if -(2 ^ 63) <= k /\ k < 2 ^ 63 then _ else _) = _
  rw [if_pos ⟨by omega, by omega⟩]
  have e3 : seqIndex? k os.length = some k.toNat := by unfold seqIndex?; simp; omega
  rw [e3]; show ((os[k.toNat]?).bind _) = _
  rw [ho]; rfl
 rw [e2]; rfl
theorem zpP {g : GF} {o : O} {as' : AS} (h : f as = some (.ow o, as)) (hg : g (o.str, o.toD) as = some as') : zgr f g as = some (.nx as') := by
 unfold zgr; rw [h]
 show (g (o.str, o.toD) as).bind _ = _
 rw [hg]; rfl
theorem zjP {i : Nat} {o : O} (h : as[i]? = some (some o)) (hs : o.str = true) : xf (fV i) as = some (.rt o) := by
 cases o with
 | lf st d => unfold xf fV; rw [h]; have : st = true := hs; subst this; rfl
 | nd k os =>
  unfold xf; rw [zbu h]; show (zlX as (.bo i)).bind _ = _
  rw [znf h hs]; rfl
theorem zaq {fr : DF} {os : List O} (h : WO fr as os) (hl : os.length <= sizeLine) (ha : os.all O.isLf = true) : WD (yN fr) as (O.strs os) (.tup (O.toDs os)) := by
 unfold WD yN; unfold WO at h
 rw [h]; show (if os.length <= sizeLine then some (RV.ow (Y4 os), as) else _) = _
 rw [if_pos hl]; unfold Y4; rw [if_pos ha]
theorem zqu {g : D -> D -> Option R0} {oa ob : O} {zs : List D} {as1 as2 : AS} (ha : a as = some (.ow oa, as1)) (hb : b as1 = some (.ow ob, as2)) (hg : g oa.toD ob.toD = some (.fl zs)) : f2 a b g as = some (.ow (.nd .ls (zs.map (lfs (oa.str && ob.str)))), as2) := by
 unfold f2
 rw [ha]; show ((b as1).bind _) = _
 rw [hb]; show ((g oa.toD ob.toD).bind _) = _
 rw [hg]
 show (if (zs.all yu || (meet (some oa.str) (some ob.str)).isSome) = true then _ else _ : Option RV).bind _ = _
 rw [if_pos (by unfold meet; simp)]
 rfl
theorem yd {g : D -> D -> Option R0} (ha : WD a as true x) (hb : WD b as true y) (hg : g x y = some (.im z)) : WD (f2 a b g) as true z := by
 have := zoH ha hb hg
 rw [show (yu z || (true && true)) = true by simp] at this
 exact this
theorem XX : ∀ zs : List D, zs.map (lfs true) = zs.map (O.lf true)
 | [] => rfl
 | z :: r => by
  show lfs true z :: r.map (lfs true) = _
  rw [XX r]; unfold lfs; rw [Bool.or_true]; rfl
theorem znz {g : D -> D -> Option R0} {oa ob : O} {zs : List D} {as1 as2 : AS} (ha : a as = some (.ow oa, as1)) (hb : b as1 = some (.ow ob, as2)) (hg : g oa.toD ob.toD = some (.fl zs)) (h1 : oa.str = true) (h2 : ob.str = true) : f2 a b g as = some (.ow (.nd .ls (zs.map (O.lf true))), as2) := by
 have := zqu ha hb hg
 rw [h1, h2, show (true && true) = true from rfl, XX] at this
 exact this
theorem wg {fr : DF} {o : O} {os : List O} {as1 as2 : AS} (ha : a as = some (.ow o, as1)) (hr : fr as1 = some (os, as2)) : dC a fr as = some (o :: os, as2) := by
 unfold dC
 rw [ha]; show ((fr as1).bind _) = _
 rw [hr]; rfl
theorem add_lists {xs ys : List D} (h : xs.length + ys.length <= sizeLine) : zbK .Add (.lst xs) (.lst ys) = some (.fl (xs ++ ys)) := if_pos h
theorem zbX (lo : Int) (n : Nat) : vH lo (n + 1) = (true, .int lo) :: vH (lo + 1) n := by
 unfold vH
 rw [List.range_succ_eq_map, List.map_cons, List.map_map]
 congr 1
 · simp
 · apply List.map_congr_left
   intro i _
   show (true, D.int _) = (true, D.int _)
   congr 2
   show lo + ((i + 1 : Nat) : Int) = _
   omega
theorem zmU {fr : AF} {rs : List (Bool × D)} {g : List D -> Option R0} (ha : WA fr as rs) (hg : g (rs.map (·.2)) = some (.im x)) (e : rs.all (·.1) = true) : WD (fP fr g) as true x := by
 have := zjY ha hg; rw [e, Bool.or_true] at this; exact this
theorem zgn {ty : Ty} {fr : AF} {rs : List (Bool × D)} {g : D -> List D -> Option R0} (ha : WD a as s y) (ht : zof ty y = true) (hr : WA fr as rs) (hg : g y (rs.map (·.2)) = some (.im x)) (e : yu x = true) : WD (WL ty a fr g) as true x := by
 unfold WD WL; unfold WD at ha; unfold WA at hr
 rw [ha]
 show (if zof ty y = true then _ else _ : Option (RV × AS)) = _
 rw [if_pos ht, hr]
 simp only [Option.bind_some, Xv]
 show ((g y (rs.map (·.2))).bind _) = _
 rw [hg]
 show (if (yu x || _) = true then _ else _ : Option RV).bind _ = _
 rw [if_pos (by rw [e]; rfl)]
 show some (RV.ow (.lf (yu x || _) x), as) = _
 rw [e]; rfl
theorem zmv {fl fh : OF} {lo hi : Option Int} {g : D -> Option Int -> Option Int -> Option R0} (ha : WD a as s y) (hl : fl as = some (lo, as)) (hh : fh as = some (hi, as)) (hg : g y lo hi = some (.im x)) : WD (fSl a fl fh g) as (yu x || s) x := by
 unfold WD fSl; unfold WD at ha
 rw [ha]; show ((fl as).bind _) = _
 rw [hl]; show ((fh as).bind _) = _
 rw [hh]; show ((g y lo hi).bind _) = _
 rw [hg]
 show (if (yu x || (some s).isSome) = true then _ else _ : Option RV).bind _ = _
 rw [if_pos (by simp)]; rfl
theorem V3 {fi : IF} {cap : List (Option Nat)} {g : GF} {tt : TF} {fe : EF} {xs : List It1} {os : List O} (h1 : fi as = some (xs, as)) (hl : xs.length <= sizeLine) (h2 : wJ g tt fe (YM cap as) xs = some os) : yc fi cap g tt fe as = some (.ow (.nd .ls os), as) := by
 unfold yc
 rw [h1]; show (if xs.length <= sizeLine then _ else _) = _
 rw [if_pos hl]; show (wJ g tt fe (YM cap as) xs).bind _ = _
 rw [h2]; rfl
end
theorem szl {n : Nat} (h : Nat.ble n 1000 = true) : n <= sizeLine := Nat.le_of_lt (ZR (Nat.le_of_ble_eq_true h))
theorem zG {a b : Nat} (h : Nat.ble (a + 1) b = true) : a < b := Nat.le_of_ble_eq_true h
theorem yg {i : Int} (h0 : -(10 ^ 200) < i) (h1 : i < 10 ^ 200) : i.natAbs < big := by
 have : (10 : Nat) ^ 200 < big := by unfold big; decide +kernel
 have e : ((10 ^ 200 : Nat) : Int) = (10 : Int) ^ 200 := by norm_cast
 have : (i.natAbs : Int) < ((10 ^ 200 : Nat) : Int) := by rw [e]; omega
 omega
theorem zod {ns : List Int} {k : Int} (h0 : 0 <= k) (h1 : k < ns.length) : ∃ x, ixP (.lst (ns.map D.int)) (.int k) = some (.im (.int x)) := by
 have hk : k.toNat < ns.length := by omega
 refine ⟨ns[k.toNat], ?_⟩
 have h := Y9 (xs := ns.map D.int) (j := k.toNat) (v := D.int ns[k.toNat]) (by rw [zzF, zzB hk]; rfl)
 rw [show ((k.toNat : Nat) : Int) = k by omega] at h
 show imR (atI _ _) = _
 rw [h]; rfl
section
variable {X : Cx} {kd : KD} {K : zC} {mg : Str -> Option Value}
def spL (K : zC) (g : Fn) : Sp := λ vs H Q E => ∀ kd : KD, spD K kd g vs H Q E
end
def lfO : O -> Option (Bool × D)
 | .lf s d => some (s, d)
 | _ => none
theorem zmJ {o : O} {p : Bool × D} (h : lfO o = some p) : o = .lf p.1 p.2 := by
 cases o with
 | lf s d => cases h; rfl
 | nd k os => cases h
def zli (i j : Nat) (fd : DF) : SF := λ as => (fd as).bind λ p => (zog p.1).bind λ o => (lfO o.1).bind λ a => (lfO o.2).bind λ b => if i < p.2.length /\ j < p.2.length then some (.nx ((p.2.set i (some (.lf a.1 a.2))).set j (some (.lf b.1 b.2)))) else none
section
variable {X : Cx} {kd : KD} {a b : Expr} {fd : DF} {pos : Pos}
theorem zpk {i j : Nat} {x y : Str} {px py pt : Pos} {kt k2 pt2} (hc : X.calm = true) (hN : X.N.Nodup) (hi : X.N[i]? = some x) (hj : X.N[j]? = some y) (hij : i ≠ j)
 (hx : X.env.scope.names.lookup x = some .local) (hy : X.env.scope.names.lookup y = some .local) (ha : AD X kd [a, b] fd)
 (hw : swappedStores [.Tuple [.Name x px, .Name y py] kt pt] (.Tuple [a, b] k2 pt2) X.env = pure (some [x, y]))
 (hs : swapsWithSole [.Tuple [.Name x px, .Name y py] kt pt] (.Tuple [a, b] k2 pt2) pos.line X.env = pure false) :
 ASt X kd (.Assign [.Tuple [.Name x px, .Name y py] kt pt] (.Tuple [a, b] k2 pt2) pos) (zli i j fd) := by with_unfolding_all exact (ZP (zpF hc hN hi hj hij hx hy ha hw hs) λ D σ H h => by
 obtain ⟨F, B, ad, as, o, R, e, q⟩ := h
 obtain ⟨⟨os, as1⟩, h1, e⟩ := bS_ (show (fd as).bind _ = _ from e)
 obtain ⟨⟨o1, o2⟩, e1, e⟩ := bS_ e
 obtain ⟨⟨s1, d1⟩, e2, e⟩ := bS_ e
 obtain ⟨⟨s2, d2⟩, e3, e⟩ := bS_ e
 cases zgq e1
 cases zmJ e2
 cases zmJ e3
 · obtain ⟨⟨l1, l2⟩, e⟩ := yt e
   cases e
   refine ⟨F, B, ad, as, _, as1, R, h1, λ vs T' ad' H' R' rl g => ?_⟩
   cases rl with
   | cons ra rb =>
    cases rb with
    | cons rb rn =>
     cases rn
     cases ra with
     | lf ra =>
      cases rb with
      | lf rb =>
       refine ⟨_, _, rfl, ?_⟩
       have R2 := R'.put (T := []) (i := i) (o := .lf s1 d1) l1 (.lf ra)
       have R3 := R2.put (T := []) (i := j) (o := .lf s2 d2) (by rw [zzR]; exact l2) (RoS.less v4 (.lf rb))
       exact q _ _ _ R3 (g.trans (Grow.less λ a z => v4 a (v4 a z))))
end
inductive Ents (w : World) : List DictEntry -> List (Key × V) -> Prop
 | nil : Ents w [] []
 | str {x : Str} {t : Tok} {v : V} {u : Value} {r : List DictEntry} {s : List (Key × V)} : RelV v u -> Ents w r s -> Ents w (⟨PyData.keyHash w.params x, .str x t, u⟩ :: r) ((.inr x, v) :: s)
theorem Ents.keys {P : Program} {w : World} : ∀ {es : List DictEntry} {kvs : List (Key × V)}, Ents w es kvs -> ∀ e ∈ es, ∃ k, (wu P w).is k e.key = true /\ e.hash = (wu P w).hash k
 | _, _, .nil, _, m => nomatch m
 | _, _, .str (x := x) (t := t) _ r, e, m => by
  rcases zI.mp m with rfl | m
  · exact ⟨.inr x, VF P w x t, rfl⟩
  · exact r.keys e m
theorem Ents.pairs {P : Program} {w : World} : ∀ {es : List DictEntry} {kvs : List (Key × V)}, Ents w es kvs -> ∃ vs, KV kvs vs /\ Pairs (wu P w) es vs /\ vs.map (·.1) = kvs.map (·.1)
 | _, _, .nil => ⟨[], .nil, .nil, rfl⟩
 | _, _, .str (x := x) (t := t) (u := u) h r => by
  obtain ⟨vs, h1, h2, h3⟩ := r.pairs (P := P)
  exact ⟨(.inr x, u) :: vs, .cons ⟨rfl, h⟩ h1, .cons (VF P w x t) rfl h2, by rw [List.map_cons, List.map_cons, h3]⟩
structure DctAt (w : World) (K : zC) (a : Addr) (kvs : List (Key × V)) : Prop where
 ex : ∃ es ep, K.lookup a = some { cls := .type "dict", data := .dict es ep } /\ Ents w es.toList kvs
 nd : (kvs.map (·.1)).Nodup
 le : kvs.length <= sizeLine
 ns : (a == sysModules) = false
def kdL (l : List (Addr × List (Key × V))) (c : Str -> Addr := λ _ => 0) : KD := ⟨λ a k => l.lookup a = some k, c⟩
theorem lookup_mem {l : List (Addr × List (Key × V))} {a : Addr} {k : List (Key × V)} (h : l.lookup a = some k) : (a, k) ∈ l := by
 induction l with
 | nil => cases h
 | cons p r ih =>
  rw [List.lookup_cons] at h
  by_cases e : a = p.1
  · subst e
    rw [beq_self_eq_true] at h
    cases h
    exact zzC
  · rw [show (a == p.1) = false from beq_eq_false_iff_ne.mpr e] at h
    exact zzA _ (ih h)
theorem zpT {P : Program} {w : World} {K : zC} {l : List (Addr × List (Key × V))} {c : Str -> Addr} (h : ∀ p ∈ l, DctAt w K p.1 p.2) : KD1 P w K (kdL l c) := λ X e1 e2 e3 => by
 subst e1; subst e2; subst e3
 refine ⟨λ a k k' h1 h2 => Option.some.inj (h1.symm.trans h2), λ a k h1 => ?_, λ a k hp h1 hin => ?_⟩
 · obtain ⟨es, ep, e, _⟩ := (h _ (lookup_mem h1)).ex
   exact ⟨_, e⟩
 · have q := h _ (lookup_mem h1)
   obtain ⟨es, ep, e, en⟩ := q.ex
   obtain ⟨vs, h2, h3, h4⟩ := en.pairs (P := X.prog)
   refine ⟨q.le, q.ns, vs, h2, _, es, ep, hin _ _ e, ⟨rfl, rfl, rfl⟩, rfl, λ x m => en.keys x (by simpa using m), h3, by rw [h4]; exact q.nd⟩
def isStar : Expr -> Bool
 | .Starred .. => true
 | _ => false
theorem za {a : Expr} {es : List Expr} {env : Env} (h : isStar a = false) : starEach (a :: es) env = (false, eval a env) :: starEach es env := by
 cases a <;> first | rfl | cases h
section
variable {as : AS} {f a b c : EF} {s t u : Bool} {x y z : D} {i j k : Int}
theorem zfv {fl fh : OF} {lo hi : Option Int} {g : D -> Option Int -> Option Int -> Option R0} (ha : WD a as true y) (hl : fl as = some (lo, as)) (hh : fh as = some (hi, as)) (hg : g y lo hi = some (.im x)) : WD (fSl a fl fh g) as true x := by
 have := zmv ha hl hh hg; rw [Bool.or_true] at this; exact this
theorem ziA {cc : TF} {g : SF} {n : Nat} {as1 : AS} {o : Option Out} (h : WT cc as true) (h1 : g as = some (.nx as1)) (h2 : whL cc g n as1 = o) : whL cc g (n + 1) as = o := by
 unfold WT at h
 show (cc as).bind _ = _
 rw [h]; show (g as).bind _ = _
 rw [h1]; exact h2
theorem zlR {cc : TF} {g : SF} {n : Nat} (h : WT cc as false) : whL cc g (n + 1) as = some (.nx as) := by
 unfold WT at h
 show (cc as).bind _ = _
 rw [h]; rfl
theorem zqy {cc : TF} {g : SF} {n : Nat} {o : O} (h : WT cc as true) (h1 : g as = some (.rt o)) : whL cc g (n + 1) as = some (.rt o) := by
 unfold WT at h
 show (cc as).bind _ = _
 rw [h]; show (g as).bind _ = _
 rw [h1]; rfl
theorem zqF {p q : Nat} {fd : DF} (h : WO fd as [.lf s x, .lf t y]) (hi : p < as.length) (hj : q < as.length) : zli p q fd as = some (.nx ((as.set p (some (.lf s x))).set q (some (.lf t y)))) := by
 unfold zli; unfold WO at h
 rw [h]; show (if _ then _ else _) = _
 rw [if_pos ⟨hi, hj⟩]
theorem zfF {g : GF} {tt : TF} {fe : EF} {as0 as1 : AS} {w : It1} {r : List It1} {o : Option (List O)} (h1 : g w as0 = some as1) (h2 : WT tt as1 false) (h3 : wJ g tt fe as0 r = o) : wJ g tt fe as0 (w :: r) = o := by
 unfold WT at h2
 show (g w as0).bind _ = _
 rw [h1]; show (tt as1).bind _ = _
 rw [h2]; exact h3
theorem zkS {g : GF} {tt : TF} {fe : EF} {as0 as1 : AS} {w : It1} {r : List It1} {os : List O} (h1 : g w as0 = some as1) (h2 : WT tt as1 true) (h3 : WD fe as1 true x) (h4 : wJ g tt fe as0 r = some os) : wJ g tt fe as0 (w :: r) = some (.lf true x :: os) := by
 unfold WT at h2; unfold WD at h3
 show (g w as0).bind _ = _
 rw [h1]; show (tt as1).bind _ = _
 rw [h2]; show (fe as1).bind _ = _
 rw [h3]; show (wJ g tt fe as0 r).bind _ = _
 rw [h4]; rfl
def WE (f : EF) (as : AS) (x : D) : Prop := ∃ o, f as = some (.ow o, as) /\ o.str = true /\ o.toD = x
def RE (r : Option O) (x : D) : Prop := ∃ o, r = some o /\ o.str = true /\ o.toD = x
theorem WD.e (h : WD f as true x) : WE f as x := ⟨_, h, rfl, rfl⟩
theorem vg {fr : DF} {os : List O} (h : WO fr as os) (hl : os.length <= sizeLine) (hs : O.strs os = true) (e : D.lst (O.toDs os) = x) : WE (xN fr) as x := ⟨_, vO h hl, hs, e⟩
theorem Yr {fr : AF} {rs : List (Bool × D)} (h : WE a as x) (hr : WA fr as rs) : WA (aC a fr) as ((true, x) :: rs) := by
 obtain ⟨o, h1, h2, rfl⟩ := h
 have := zlS h1 hr
 rw [h2] at this
 exact this
theorem zjo {g : List (Bool × D) -> Option O} (ha : WE a as x) (hg : RE (g [(true, x)]) z) : WE (zN (aC a aN) g) as z := by
 obtain ⟨o, h1, h2, h3⟩ := hg
 exact ⟨o, XQ (Yr ha zQ) (by show g [(yu x || true, x)] = _; rw [Bool.or_true]; exact h1), h2, h3⟩
theorem Yp {g : List (Bool × D) -> Option O} (ha : WE a as x) (hb : WE b as y) (hg : RE (g [(true, x), (true, y)]) z) : WE (zN (aC a (aC b aN)) g) as z := by
 obtain ⟨o, h1, h2, h3⟩ := hg
 exact ⟨o, XQ (Yr ha (Yr hb zQ)) (by show g [(yu x || true, x), (yu y || true, y)] = _; rw [Bool.or_true, Bool.or_true]; exact h1), h2, h3⟩
theorem Z0 {w : D} {g : List (Bool × D) -> Option O} (ha : WE a as x) (hb : WE b as y) (hc : WE c as w) (hg : RE (g [(true, x), (true, y), (true, w)]) z) : WE (zN (aC a (aC b (aC c aN))) g) as z := by
 obtain ⟨o, h1, h2, h3⟩ := hg
 exact ⟨o, XQ (Yr ha (Yr hb (Yr hc zQ))) (by show g [(yu x || true, x), (yu y || true, y), (yu w || true, w)] = _; rw [Bool.or_true, Bool.or_true, Bool.or_true]; exact h1), h2, h3⟩
theorem zcC {w : D} {g : List (Bool × D) -> Option O} (ha : WE a as x) (hb : WE b as y) (hc : WE c as w) (hg : g [(true, x), (true, y), (true, w)] = some (.lf s z)) : WD (zN (aC a (aC b (aC c aN))) g) as s z := XQ (Yr ha (Yr hb (Yr hc zQ))) (by show g [(yu x || true, x), (yu y || true, y), (yu w || true, w)] = _; rw [Bool.or_true, Bool.or_true, Bool.or_true]; exact hg)
theorem f2E {g : D -> D -> Option R0} (ha : WE a as x) (hb : WE b as y) (hg : g x y = some (.im z)) : WD (f2 a b g) as true z := by
 obtain ⟨o, h1, h2, rfl⟩ := ha
 obtain ⟨p, h3, h4, rfl⟩ := hb
 have := zrt h1 h3 hg
 rw [h2, h4, Bool.and_true, Bool.or_true] at this
 exact this
theorem f2L {g : D -> D -> Option R0} {zs : List D} (ha : WE a as x) (hb : WE b as y) (hg : g x y = some (.fl zs)) : f2 a b g as = some (.ow (.nd .ls (zs.map (O.lf true))), as) := by
 obtain ⟨o, h1, h2, rfl⟩ := ha
 obtain ⟨p, h3, h4, rfl⟩ := hb
 exact znz h1 h3 hg h2 h4
theorem zeO : ∀ zs : List D, O.strs (zs.map (O.lf true)) = true
 | [] => rfl
 | _ :: r => zeO r
theorem zcN : ∀ zs : List D, O.toDs (zs.map (O.lf true)) = zs
 | [] => rfl
 | z :: r => congrArg (z :: ·) (zcN r)
theorem zms {g : D -> D -> Option R0} {zs : List D} (ha : WE a as x) (hb : WE b as y) (hg : g x y = some (.fl zs)) : WE (f2 a b g) as (.lst zs) := ⟨_, f2L ha hb hg, zeO zs, congrArg D.lst (zcN zs)⟩
theorem Zg {p : Nat} (h : WE f as x) (hi : p < as.length) : zW true p f as = some (.nx (as.set p (some (.lf true x)))) := by
 obtain ⟨o, h1, h2, rfl⟩ := h
 have := znt h1 hi
 rw [show o.frz = .lf true o.toD by unfold O.frz; rw [h2]] at this
 exact this
theorem zgQ {q : Bool} (ha : WE a as x) (hb : WE b as y) (h : eqF 60 x y = some q) : WD (f2 a b (yf .Eq)) as true (.bl q) := f2E ha hb (by show (eqF 60 x y).bind _ = _; rw [h]; rfl)
theorem ziS {q : Bool} (ha : WE a as x) (hb : WE b as y) (h : eqF 60 x y = some q) : WD (f2 a b (yf .NotEq)) as true (.bl (!q)) := f2E ha hb (by show (eqF 60 x y).bind _ = _; rw [h]; rfl)
theorem zqd {g : List D -> Option R0} (ha : WE a as x) (hg : g [x] = some (.im z)) : WD (fP (aC a aN) g) as true z := zmU (Yr ha zQ) hg rfl
theorem ZS {fr : DF} {o : O} {os : List O} (ha : a as = some (.ow o, as)) (hr : WO fr as os) : WO (dC a fr) as (o :: os) := wg ha hr
theorem zdE {fr : DF} {os : List O} (h : WO fr as os) (hl : os.length <= sizeLine) : yN fr as = some (.ow (Y4 os), as) := by
 unfold yN; unfold WO at h
 rw [h]; show (if os.length <= sizeLine then some (RV.ow (Y4 os), as) else _) = _
 rw [if_pos hl]
theorem zbg {fl fh : OF} {lo hi : Option Int} {g : D -> Option Int -> Option Int -> Option R0} {zs : List D} (ha : WE a as y) (hl : fl as = some (lo, as)) (hh : fh as = some (hi, as)) (hg : g y lo hi = some (.fl zs)) : WE (fSl a fl fh g) as (.lst zs) := by
 obtain ⟨o, h1, h2, rfl⟩ := ha
 refine ⟨.nd .ls (zs.map (O.lf true)), ?_, zeO zs, congrArg D.lst (zcN zs)⟩
 unfold fSl
 rw [h1]; show ((fl as).bind _) = _
 rw [hl]; show ((fh as).bind _) = _
 rw [hh]; show ((g o.toD lo hi).bind _) = _
 rw [hg]
 show (if (zs.all yu || (some o.str).isSome) = true then some (RV.ow (.nd .ls (zs.map (lfs ((some o.str).getD false))))) else none : Option RV).bind _ = _
 rw [if_pos (by simp), h2]
 show some (RV.ow (.nd .ls (zs.map (lfs true))), as) = _
 rw [XX]
theorem zmh {xs ys : List D} : slP (.lst (xs ++ ys)) (some (xs.length : Int)) none = some (.fl ys) := by
 show some (R0.fl (cutD (xs ++ ys) (some (xs.length : Int)) none)) = _
 congr 2
 unfold cutD
 rw [HT.zdt, HT.zih, zzG, Nat.min_eq_left (by omega), List.drop_left, List.take_of_length_le (by omega)]
theorem zgM : ∀ ds : List D, kids true ds = ds.map λ d => (true, d)
 | [] => rfl
 | d :: r => by show (yu d || true, d) :: kids true r = _; rw [zgM r, Bool.or_true]; rfl
theorem zbw {ds : List D} (h : WE f as (.lst ds)) : Yg f as = some (ds.map λ d => (true, d), as) := by
 obtain ⟨o, h1, h2, h3⟩ := h
 unfold Yg
 rw [h1]; show (zii (o.str, o.toD)).bind _ = _
 rw [h2, h3]; show some (kids true ds, as) = _
 rw [zgM]
theorem zae {ds : List D} (h : WD f as true (.lst ds)) : zaR f as = some (ds.map λ d => (true, d), as) := by
 unfold zaR; unfold WD at h
 rw [h]; show some (kids true ds, as) = _
 rw [zgM]
end
def zcO : List D -> Option (List Str)
 | [] => some []
 | .str x :: r => (zcO r).bind λ s => some (x :: s)
 | _ :: _ => none
theorem znM {K : zC} {kd : KD} {O : Addr -> Prop} {H : Hp} {vs : List V} {us : List Value} {ds : List D} {ns : List Str} (h : RpL K kd O H vs ds) (hv : Vals vs us) (e : zcO ds = some ns) : StrsAre us ns :=
 RpL.ind (P := λ vs ds => ∀ us ns, Vals vs us -> zcO ds = some ns -> StrsAre us ns) (λ us ns hv e => by cases e; cases hv; exact .nil) (λ {v d vs ds} a _ ih us ns hv e => by
  cases hv with
  | cons b t =>
   cases a with
   | str x =>
    obtain ⟨ys, h1, h2⟩ := bS_ (show (zcO _).bind _ = _ from e)
    cases h2
    obtain ⟨tk, rfl⟩ := b
    exact .cons _ _ (ih _ _ t h1)
   | _ => cases e) h us ns hv e
def zkl : D -> List D -> Option R0
 | .str sep, [.lst ds] => (zcO ds).bind λ ys => if (ys.map (·.length)).sum + ys.length * sep.length <= 16777216 then some (.im (.str (Txt.join sep ys))) else none
 | _, _ => none
section
variable {X : Cx} {kd : KD}
theorem znD : MtD X kd "str.join" zkl := by
 intro pins s σ H x xs v us Q I rx r h
 obtain ⟨O, d, ds, r0, ht, vx, vl, he, q⟩ := h
 unfold zkl at he
 split at he
 · rename_i sep es
   obtain ⟨ys, h1, he⟩ := bS_ he
   obtain ⟨hz, he⟩ := yt he
   cases he
   cases vx
   obtain ⟨t, rfl⟩ := rx
   obtain ⟨y, rfl, vy⟩ := zdw vl
   cases vy with
   | lst hr rl =>
    obtain ⟨u, rfl, ru⟩ := vals1 r
    cases ru
    obtain ⟨its, rv, pl, _⟩ := I.list hr.sq
    exact join_list pl.isList (znM rl (by simpa using rv) h1) hz λ t' k => ⟨.str _, H, I.tok _, ⟨t', rfl⟩, yS q (.str _)⟩
 · cases he
def zst : D -> Option R0
 | .str x => if x.length <= 640 then (PySem.intText? x).bind λ n => some (.im (.int n)) else none
 | d => zsx d
def zhZ : List D -> Option R0 := on1 zst
theorem zeW : CallD X kd (.type "int") zhZ := by
 intro pins s σ H xs us Q I r h
 obtain ⟨O, ds, z, ht, vl, he, q⟩ := h
 obtain ⟨x, d, rfl, vx, he⟩ := zbY vl he
 cases vx with
 | str y =>
  obtain ⟨hl, he⟩ := ite_some' he
  obtain ⟨n, hn, he⟩ := bS_ he
  cases he
  obtain ⟨u, rfl, ru⟩ := vals1 r
  obtain ⟨t, rfl⟩ := ru
  exact PySem.W.KIN.call_text hn hl ⟨.int _, H, I.tok _, ⟨_, rfl⟩, yS q (.int _)⟩
 | int i => cases he; exact zfZ pins s σ H _ us Q I r (.inl ⟨_, rfl, yS q (.int _)⟩)
 | bl b => cases he; exact zfZ pins s σ H _ us Q I r (.inr ⟨_, rfl, yS q (.int _)⟩)
 | _ => cases he
end
section
variable {X : Cx} {pins : List (Addr × Obj)} {σ : List (Option V)} {H : Hp} {s : Shared} {h' : Heap}
theorem zbb {t' : Nat} {ch : List Addr} {T : Addr} {o : HO} (I : Inv X pins σ H s) (hf : ∀ b ∈ ch, zdi X pins H b) (k : ∀ b u, b ∉ ch -> s.heap.get? b = some u -> h'.get? b = some u) (hp : s.heap.objs.size <= T)
 (new : vA X.prog X.w (upd H T o) h' T o) : Inv X pins σ (upd H T o) { s with heap := h', toks := t' } := by
 have hn : H T = none := I.hok.fresh hp
 have nT : ∀ b u, s.heap.get? b = some u -> b ≠ T := λ b u e z => absurd (zzH (Heap.lt_size e) (by rw [z]; exact hp)) (Nat.lt_irrefl _)
 have nc : ∀ b u, H b = some u -> b ∉ ch := λ b u e z => by have := (hf b z).1; rw [e] at this; cases this
 refine I.step (g' := s.gens) (d' := s.drawn) (ch := ch) (λ b hb => ?_) (λ b o _ _ hc e _ => k b o hc e) (λ b o _ _ hc e _ => ⟨o.slots, k b o hc e⟩) (λ b o _ e n => by rw [ye (nT b o e)]; exact n)
  (λ b o hc e => ⟨o, k b o hc e⟩) (λ b xs e => by rw [ye (xj e hn)]; exact e) (λ b o u e => by rw [ye (xj e hn)]; exact e) (λ b ps e => ⟨#[], by rw [ye (xj e hn), e]; simp⟩) (λ m hm => ?_) (λ b u e => ?_) I.bare
 · obtain ⟨f0, f1, f2, f3, f4, f5⟩ := hf b hb
   exact ⟨f3, f1, f4, f5⟩
 · obtain ⟨o, es, ep, ho, r⟩ := hm
   exact ⟨o, es, ep, k _ o (λ z => (hf _ z).2.1 rfl) ho, r⟩
 · by_cases hb : b = T
   · subst hb; rw [yU] at e; cases e; exact new
   · rw [ye hb] at e
     refine (I.hok b u e).stay (λ c v hc q => k c v ?_ q) (λ c q => by rw [ye (xj q hn)]; exact q) λ c xs q => by rw [ye (xj q hn)]; exact q
     rcases hc with z | z
     · rw [z]; exact nc b u e
     · exact nc c _ z
end
def Ite (K : zC) (a : Addr) : It :=
 ⟨λ i H => ∃ xs x, SqL K H a xs /\ xs[i]? = some x, λ i H v H' => ∃ T x, H T = none /\ v = .ref T /\ H' = upd H T (.tup [.int i, x]) /\ ∀ xs, SqL K H a xs -> xs[i]? = some x, λ i H => ∃ xs, SqL K H a xs /\ xs.length <= i⟩
theorem zkJ {P : Program} {w : World} {K : zC} {elts : List Expr} {k : Nat} {pos : Pos} (a e it : Addr) (hei : e ≠ it) : Turn P w K (.Tuple elts k pos) (Ite K a) [e, it] e (λ i h => (∃ old, IsEnum h e it i old) /\ h.IsListIter it a i) where
 mem := by simp
 obj := λ i h st b hb => by
  obtain ⟨⟨old, he⟩, ⟨o, e1, c, d⟩⟩ := st
  rcases zI.mp hb with rfl | hb
  · exact ⟨_, he, λ v z => by cases z⟩
  · rw [zzO.mp hb]
    exact ⟨o, e1, λ v z => by rw [d] at z; cases z⟩
 keep := λ i h h' st kk => ⟨st.1.imp λ old he => kk e (by simp) _ he, st.2.at λ o q => kk it (by simp) o q⟩
 item := by
  intro X hP hw hK hc i pins s σ H E I hf st hg
  subst hP hw hK
  obtain ⟨xs, x, hq, hx⟩ := hg
  obtain ⟨its, rv, p, hz⟩ := I.list hq
  obtain ⟨u, hu, ru⟩ := rv.get hx
  have hil : i < its.toArray.size := by have := (zzD.mp hu).1; simpa using this
  obtain ⟨ol, hol, hcl, _⟩ := p.isList
  have hae : a ≠ e := λ z => by
   obtain ⟨⟨old, he⟩, _⟩ := st
   rw [z] at hol; rw [show s.heap.get? e = _ from he] at hol; cases hol
   injection hcl with q; exact absurd q (by decide)
  have hai : a ≠ it := λ z => by
   obtain ⟨_, ⟨o, e1, c, d⟩⟩ := st
   rw [z, e1] at hol; cases hol; rw [c] at hcl
   injection hcl with q; exact absurd q (by decide)
  have W := WalksT.enumerate (prog := X.prog) (w := X.w) (A := X.A) (I.ok.hd hc) e it a hei hae hai its.toArray
  refine W.item i s _ _ hil ⟨st.1, st.2, p.isList⟩ λ T vals h1 tk hP hT hTup hMid kk => ?_
  obtain ⟨t, v, hv, rfl⟩ := hP
  have : v = u := by rw [show its.toArray[i]? = its[i]? by simp, hu] at hv; cases hv; rfl
  subst this
  refine ⟨_, rfl, W.go elts k pos i T { s with heap := h1, toks := tk } _ _ hMid λ h2 hSt kk2 => ?_⟩
  have hn : H T = none := I.hok.fresh hT
  have hTw := W.apart i T h1 hMid
  have k2 : ∀ b o, b ∉ [e, it] -> s.heap.get? b = some o -> h2.get? b = some o := λ b o hb q => kk2 b o hb (kk b o hb q)
  have hT2 : IsTup h2 T #[.int i t, v] := by
   obtain ⟨o, q1, q2⟩ := hTup
   exact ⟨o, kk2 T o hTw q1, q2⟩
  refine ⟨.ref T, upd H T (.tup [.int i, x]), zbb (s := s) (t' := tk) (ch := [e, it]) I hf k2 hT ⟨by show 2 <= sizeLine; decide, [.int i t, v], .cons ⟨t, rfl⟩ (.cons ru .nil), hT2⟩, rfl, ⟨T, x, hn, rfl, rfl, λ ys hy => by rw [I.list_inj hy hq]; exact hx⟩, ⟨hSt.1, hSt.2.1⟩, λ b hb => ?_⟩
  have hbT : b ≠ T := λ z => hTw (by rw [<- z]; exact hb)
  rw [ye hbT]
  exact (hf b hb).1
 done := by
  intro X hP hw hK hc i pins s σ H E I hf st hg
  subst hP hw hK
  obtain ⟨xs, hq, hx⟩ := hg
  obtain ⟨its, rv, p, hz⟩ := I.list hq
  have hl := rv.length
  obtain ⟨⟨old, he⟩, hit⟩ := st
  obtain ⟨f0, f1, f2, f3, f4, f5⟩ := hf it (by simp)
  exact wpAny_pyNext_enum_end (I.ok.hd hc) he hit p.isList (by simp; omega) λ h' eb => ⟨rfl, I.turned (t' := s.toks) (λ b o hb e => eb b o hb e) f0 f1 f3 f4 f5⟩
 self := λ _ _ _ _ _ st h => by
  obtain ⟨⟨old, he⟩, _⟩ := st
  exact wpAny_pyIter_enum he h
section
variable {X : Cx} {tg : Expr}
def zqv (K : zC) (ta : TA) : TI := λ σ H R => ta σ H λ vs H1 => ∃ a, vs = [.ref a] /\ (∃ xs, SqL K H1 a xs) /\ R (Ite K a) H1
theorem zou {l : Expr} {ta : TA} {p pos pos' : Pos} {elts : List Expr} {k : Nat} (hg : Gl X "enumerate") (hm : X.mg "enumerate" = none) (ha : PA X [l] ta) (hs : starEach [l] X.env = [(false, eval l X.env)]) :
 PI X (.Tuple elts k pos') (.Call (.Name "enumerate" p) [l] [] pos) (zqv X.K ta) := by
 intro pins s σ H R I h
 refine Call_ (zap I hg hm boot_enumerate (PyProof.Rows.callWith_type1 (thn (ha pos pins s σ H _ I h) λ us s1 ⟨vs, H1, I1, r1, q1⟩ => ?_) hs rfl))
 obtain ⟨a, rfl, ⟨xs, hq⟩, q⟩ := q1
 cases r1 with
 | cons r rr =>
  cases rr
  cases r
  obtain ⟨its, rv, pl, hz⟩ := I1.list hq
  refine call_enumerate_list pl.isList λ h' he hit hsz hk => ?_
  refine wpAny_pyIter_enum he ⟨s1.heap.objs.size + 1, [s1.heap.objs.size + 1, s1.heap.objs.size], _, _, H1, rfl, I1.kept (t' := s1.toks) hk, zkJ a _ _ (Nat.succ_ne_self _), ⟨⟨_, he⟩, hit⟩, λ b hb => ?_, q⟩
  have hb' : s1.heap.objs.size <= b := by
   rcases zI.mp hb with rfl | hb
   · exact Nat.le_succ _
   · rw [zzO.mp hb]; exact zzK _
  exact I1.fpOk hb' (I1.hok.fresh hb')
end
section
variable {X : Cx} {kd : KD} {tg e : Expr} {fa : EF}
def zac (st : Bool) : Nat -> List D -> List It1
 | _, [] => []
 | i, d :: r => (st, .tup [.int i, d]) :: zac st (i + 1) r
theorem zfO (st : Bool) : ∀ (i : Nat) (ds : List D), (zac st i ds).length = ds.length
 | _, [] => rfl
 | i, _ :: r => congrArg (· + 1) (zfO st (i + 1) r)
theorem zfJ {st : Bool} : ∀ {j : Nat} {ds : List D} {i : Nat} {y : It1}, (zac st j ds)[i]? = some y -> ∃ d, ds[i]? = some d /\ y = (st, .tup [.int ((j + i : Nat) : Int), d])
 | _, [], _, _, h => by simp [zac] at h
 | j, d :: r, 0, y, h => by
  simp only [zac, List.getElem?_cons_zero] at h
  cases h
  exact ⟨d, rfl, rfl⟩
 | j, d :: r, i + 1, y, h => by
  simp only [zac, List.getElem?_cons_succ] at h
  obtain ⟨d', h1, h2⟩ := zfJ h
  exact ⟨d', by simpa using h1, by rw [h2, show j + 1 + i = j + (i + 1) by omega]⟩
def zok (f : EF) : IF := λ as => (f as).bind λ p => (Va p.2 p.1).bind λ q => match q.1 with
 | (st, .lst ds) => some (zac st 0 ds, q.2)
 | _ => none
end
theorem zlM (sep : Str) (ys : List Str) : Txt.join sep ys = Str.join sep ys := StrLaws.glued_eq_join sep ys
section
variable {as : AS} {f a b : EF} {s t : Bool} {x y z : D}
theorem zlG {xs ys : List D} : slP (.lst (xs ++ ys)) none (some (xs.length : Int)) = some (.fl xs) := by
 show some (R0.fl (cutD (xs ++ ys) none (some (xs.length : Int)))) = _
 congr 2
 unfold cutD
 rw [HT.zdt, HT.zih, zzG, Nat.min_eq_left (by omega), List.drop_zero, Nat.sub_zero, List.take_left]
end
def Itz (K : zC) (a b : Addr) : It :=
 ⟨λ i H => ∃ xs ys x y, SqL K H a xs /\ SqL K H b ys /\ xs[i]? = some x /\ ys[i]? = some y,
  λ i H v H' => ∃ T x y, H T = none /\ v = .ref T /\ H' = upd H T (.tup [x, y]) /\ (∀ xs, SqL K H a xs -> xs[i]? = some x) /\ ∀ ys, SqL K H b ys -> ys[i]? = some y,
  λ i H => ∃ xs ys, SqL K H a xs /\ SqL K H b ys /\ (xs.length <= i \/ ys.length <= i)⟩
theorem zjn {X : Cx} {pins : List (Addr × Obj)} {σ : List (Option V)} {H : Hp} {s : Shared} {h' : Heap} {t' : Nat} {ch : List Addr} (I : Inv X pins σ H s) (hf : ∀ b ∈ ch, zdi X pins H b) (k : ∀ b u, b ∉ ch -> s.heap.get? b = some u -> h'.get? b = some u) : Inv X pins σ H { s with heap := h', toks := t' } := by
 have nc : ∀ b u, H b = some u -> b ∉ ch := λ b u e z => by have := (hf b z).1; rw [e] at this; cases this
 refine I.step (g' := s.gens) (d' := s.drawn) (ch := ch) (λ b hb => ?_) (λ b o _ _ hc e _ => k b o hc e) (λ b o _ _ hc e _ => ⟨o.slots, k b o hc e⟩) (λ b o _ e n => n)
  (λ b o hc e => ⟨o, k b o hc e⟩) (λ b xs e => e) (λ b o u e => e) (λ b ps e => ⟨#[], by rw [e]; simp⟩) (λ m hm => ?_) (λ b u e => ?_) I.bare
 · obtain ⟨f0, f1, f2, f3, f4, f5⟩ := hf b hb
   exact ⟨f3, f1, f4, f5⟩
 · obtain ⟨o, es, ep, ho, r⟩ := hm
   exact ⟨o, es, ep, k _ o (λ z => (hf _ z).2.1 rfl) ho, r⟩
 · refine (I.hok b u e).stay (λ c v hc q => k c v ?_ q) (λ c q => q) λ c xs q => q
   rcases hc with z | z
   · rw [z]; exact nc b u e
   · exact nc c _ z
theorem zlZ {P : Program} {w : World} {K : zC} {elts : List Expr} {k : Nat} {pos : Pos} (a b z TI TO i1 i2 : Addr) (D : ZipApart z TI TO i1 i2 a b) : Turn P w K (.Tuple elts k pos) (Itz K a b) [z, TI, TO, i1, i2] z
 (λ i h => IsZip h z TI TO .none /\ IsPair h TI (.ref i1) (.ref i2) /\ (∃ p q, IsPair h TO p q) /\ h.IsListIter i1 a i /\ h.IsListIter i2 b i) where
 mem := by simp
 obj := λ i h st c hc => by
  obtain ⟨hz, hTI, ⟨p, q, hTO⟩, ⟨o1, e1, c1, d1⟩, ⟨o2, e2, c2, d2⟩⟩ := st
  simp only [zI, List.not_mem_nil, or_false] at hc
  rcases hc with rfl | rfl | rfl | rfl | rfl
  · exact ⟨_, hz, λ v z => by cases z⟩
  · exact ⟨_, hTI, λ v z => by cases z⟩
  · exact ⟨_, hTO, λ v z => by cases z⟩
  · exact ⟨o1, e1, λ v z => by rw [d1] at z; cases z⟩
  · exact ⟨o2, e2, λ v z => by rw [d2] at z; cases z⟩
 keep := λ i h h' st kk => by
  obtain ⟨hz, hTI, ⟨p, q, hTO⟩, h1, h2⟩ := st
  exact ⟨kk z (by simp) _ hz, kk TI (by simp) _ hTI, ⟨p, q, kk TO (by simp) _ hTO⟩, h1.at λ o e => kk i1 (by simp) o e, h2.at λ o e => kk i2 (by simp) o e⟩
 item := by
  intro X hP hw hK hc i pins s σ H E I hf st hg
  subst hP hw hK
  obtain ⟨xs, ys, x, y, hq, hr, hx, hy⟩ := hg
  obtain ⟨its, rv, p, hz⟩ := I.list hq
  obtain ⟨jts, rw', p', hz'⟩ := I.list hr
  obtain ⟨u, hu, ru⟩ := rv.get hx
  obtain ⟨u', hu', ru'⟩ := rw'.get hy
  have W := WalksT.zip2 (prog := X.prog) (w := X.w) (A := X.A) (I.ok.hd hc) z TI TO i1 i2 a b D its.toArray jts.toArray
  obtain ⟨s1, s2, s3, s4, s5⟩ := st
  have hil : i < min its.toArray.size jts.toArray.size := by
   have := (zzD.mp hu).1
   have := (zzD.mp hu').1
   simp only [zzE]; omega
  refine W.item i s _ _ hil ⟨s1, s2, s3, s4, s5, p.isList, p'.isList⟩ λ T vals h1 tk hP hT hTup hMid kk => ?_
  obtain ⟨v, v', hv, hv', rfl⟩ := hP
  have e1 : v = u := by rw [show its.toArray[i]? = its[i]? by simp, hu] at hv; cases hv; rfl
  have e2 : v' = u' := by rw [show jts.toArray[i]? = jts[i]? by simp, hu'] at hv'; cases hv'; rfl
  subst e1 e2
  refine ⟨_, rfl, W.go elts k pos i T { s with heap := h1, toks := tk } _ _ hMid λ h2 hSt kk2 => ?_⟩
  have hn : H T = none := I.hok.fresh hT
  have hTw := W.apart i T h1 hMid
  have sub : ∀ c, c ∉ [z, TI, TO, i1, i2] -> c ∉ [z, TO, i1, i2] := λ c hc m => hc (by simp only [zI, List.not_mem_nil, or_false] at m ⊢; rcases m with rfl | rfl | rfl | rfl <;> simp)
  have k2 : ∀ c o, c ∉ [z, TI, TO, i1, i2] -> s.heap.get? c = some o -> h2.get? c = some o := λ c o hb q => kk2 c o (sub c hb) (kk c o (sub c hb) q)
  have hT2 : IsTup h2 T #[v, v'] := by
   obtain ⟨o, q1, q2⟩ := hTup
   exact ⟨o, kk2 T o hTw q1, q2⟩
  obtain ⟨t1, t2, t3, t4, t5, _, _⟩ := hSt
  refine ⟨.ref T, upd H T (.tup [x, y]), zbb (s := s) (t' := tk) (ch := [z, TI, TO, i1, i2]) I hf k2 hT ⟨by show 2 <= sizeLine; decide, [v, v'], .cons ru (.cons ru' .nil), hT2⟩, rfl, ⟨T, x, y, hn, rfl, rfl, λ q hq' => by rw [I.list_inj hq' hq]; exact hx, λ q hq' => by rw [I.list_inj hq' hr]; exact hy⟩, ⟨t1, t2, t3, t4, t5⟩, λ c hc => ?_⟩
  have hcT : c ≠ T := λ e => by
   have : c < s.heap.objs.size := by
    have hob : ∀ d ∈ [z, TI, TO, i1, i2], ∃ o, s.heap.get? d = some o := λ d hd => by
     obtain ⟨pp, qq, hTO⟩ := s3
     obtain ⟨o1, e1, _⟩ := s4
     obtain ⟨o2, e2, _⟩ := s5
     simp only [zI, List.not_mem_nil, or_false] at hd
     rcases hd with rfl | rfl | rfl | rfl | rfl
     · exact ⟨_, s1⟩
     · exact ⟨_, s2⟩
     · exact ⟨_, hTO⟩
     · exact ⟨_, e1⟩
     · exact ⟨_, e2⟩
    obtain ⟨o, ho⟩ := hob c hc
    exact Heap.lt_size ho
   rw [e] at this
   exact absurd (zzH this hT) (Nat.lt_irrefl _)
  rw [ye hcT]
  exact (hf c hc).1
 done := by
  intro X hP hw hK hc i pins s σ H E I hf st hg
  subst hP hw hK
  obtain ⟨xs, ys, hq, hr, hx⟩ := hg
  obtain ⟨its, rv, p, hz⟩ := I.list hq
  obtain ⟨jts, rw', p', hz'⟩ := I.list hr
  have hl := rv.length
  have hl' := rw'.length
  obtain ⟨s1, s2, ⟨pp, qq, s3⟩, s4, s5⟩ := st
  refine wpAny_pyNext_zip_end (I.ok.hd hc) D s1 s2 s3 s4 s5 p.isList p'.isList (hx.imp (λ h => by simp; omega) (λ h => by simp; omega)) λ h' eb => ⟨rfl, zjn (t' := s.toks) (ch := [z, TI, TO, i1, i2]) I hf λ c o hc q => eb c o ?_ ?_ ?_ ?_ q⟩ <;> (intro e; exact hc (by simp [e]))
 self := λ _ _ _ _ _ st h => wpAny_pyIter_zip st.1 h
section
variable {X : Cx} {tg : Expr}
def zrz (K : zC) (ta : TA) : TI := λ σ H R => ta σ H λ vs H1 => ∃ a b, vs = [.ref a, .ref b] /\ (∃ xs, SqL K H1 a xs) /\ (∃ ys, SqL K H1 b ys) /\ R (Itz K a b) H1
theorem zkB (I l1 l2 : Nat) (h1 : l1 < I) (h2 : l2 < I) : ZipApart (I + 4) (I + 2) (I + 3) I (I + 1) l1 l2 := by
 constructor <;> (show (_ : Nat) ≠ _; omega)
theorem zqz {l l' : Expr} {ta : TA} {p pos pos' : Pos} {elts : List Expr} {k : Nat} (hg : Gl X "zip") (hm : X.mg "zip" = none) (ha : PA X [l, l'] ta) (hs : starEach [l, l'] X.env = [(false, eval l X.env), (false, eval l' X.env)]) (hs2 : starEach [l'] X.env = [(false, eval l' X.env)]) :
 PI X (.Tuple elts k pos') (.Call (.Name "zip" p) [l, l'] [] pos) (zrz X.K ta) := by
 intro pins s σ H R I h
 refine Call_ (zap I hg hm boot_zip (PyProof.Rows.callWith_type1 (thn (ha pos pins s σ H _ I h) λ us s1 ⟨vs, H1, I1, r1, q1⟩ => ?_) (by rw [hs, hs2]) (by rw [hs2]; rfl)))
 obtain ⟨a, b, rfl, ⟨xs, hq⟩, ⟨ys, hr⟩, q⟩ := q1
 cases r1 with
 | cons r rr =>
  cases rr with
  | cons r' rr =>
   cases rr
   cases r
   cases r'
   obtain ⟨its, rv, pl, hz⟩ := I1.list hq
   obtain ⟨jts, rw', pl', hz'⟩ := I1.list hr
   obtain ⟨o1, ho1, _⟩ := pl.isList
   obtain ⟨o2, ho2, _⟩ := pl'.isList
   refine call_zip_2 pl.isList pl'.isList λ h' hZ hTI hTO hi1 hi2 hsz hk => ?_
   refine wpAny_pyIter_zip hZ ⟨s1.heap.objs.size + 4, [s1.heap.objs.size + 4, s1.heap.objs.size + 2, s1.heap.objs.size + 3, s1.heap.objs.size, s1.heap.objs.size + 1], _, _, H1, rfl, I1.kept (t' := s1.toks) hk, zlZ a b _ _ _ _ _ (zkB _ _ _ (Heap.lt_size ho1) (Heap.lt_size ho2)), ⟨hZ, hTI, ⟨_, _, hTO⟩, hi1, hi2⟩, λ c hc => ?_, q⟩
   have hb' : s1.heap.objs.size <= c := by
    simp only [zI, List.not_mem_nil, or_false] at hc
    rcases hc with rfl | rfl | rfl | rfl | rfl <;> first | exact zzK _ | exact Nat.le_add_right _ _
   exact I1.fpOk hb' (I1.hok.fresh hb')
end
section
variable {X : Cx} {kd : KD} {tg e : Expr} {fa : EF}
def Wo (st : Bool) : List D -> List D -> List It1
 | x :: r, y :: t => (st, .tup [x, y]) :: Wo st r t
 | _, _ => []
theorem zaY (st : Bool) : ∀ (xs ys : List D), (Wo st xs ys).length = min xs.length ys.length
 | [], _ => by simp [Wo]
 | _ :: _, [] => by simp [Wo]
 | _ :: r, _ :: t => by simp only [Wo, zzQ, zaY st r t]; omega
theorem W7 {st : Bool} : ∀ {xs ys : List D} {i : Nat} {y : It1}, (Wo st xs ys)[i]? = some y -> ∃ d e, xs[i]? = some d /\ ys[i]? = some e /\ y = (st, .tup [d, e])
 | [], _, _, _, h => by simp [Wo] at h
 | _ :: _, [], _, _, h => by simp [Wo] at h
 | x :: r, y :: t, 0, z, h => by
  simp only [Wo, List.getElem?_cons_zero] at h
  cases h
  exact ⟨x, y, rfl, rfl, rfl⟩
 | x :: r, y :: t, i + 1, z, h => by
  simp only [Wo, List.getElem?_cons_succ] at h
  obtain ⟨d, e, h1, h2, h3⟩ := W7 h
  exact ⟨d, e, by simpa using h1, by simpa using h2, h3⟩
theorem zqf {K : zC} {F B : Addr -> Prop} {ad : Ad} {H : Hp} {a b : Addr} {vs ws : List V} {st : Bool} {ds es : List D} (hs : ∀ (ad3 : Ad) (H3 : Hp), Grow (Gw [] ad) H (Gw [] ad3) H3 -> SqL K H3 a vs) (hs' : ∀ (ad3 : Ad) (H3 : Hp), Grow (Gw [] ad) H (Gw [] ad3) H3 -> SqL K H3 b ws)
 (r : RpL K kd (Lv F B (Gw [] ad) st) H vs ds) (r' : RpL K kd (Lv F B (Gw [] ad) st) H ws es) : ItOk K kd F B ad H (Itz K a b) (Wo st ds es) := ⟨λ ad3 H3 g3 tr i => by
 have hr3 := hs ad3 H3 g3
 have hr4 := hs' ad3 H3 g3
 have rl3 : RpL K kd (Lv F B (Gw [] ad3) st) H3 vs ds := RpL.grow g3 r
 have rl4 : RpL K kd (Lv F B (Gw [] ad3) st) H3 ws es := RpL.grow g3 r'
 have hlen := zaY st ds es
 have l1 : vs.length = ds.length := r.length
 have l2 : ws.length = es.length := r'.length
 refine ⟨λ hi => ?_, λ hi => ⟨_, _, hr3, hr4, by omega⟩, λ v H4 hy => ?_⟩
 · obtain ⟨u, hu, _⟩ := r.get (zzB (show i < ds.length by omega))
   obtain ⟨u', hu', _⟩ := r'.get (zzB (show i < es.length by omega))
   exact ⟨_, _, u, u', hr3, hr4, hu, hu'⟩
 · obtain ⟨T, x, y, hn, rfl, rfl, hv, hv'⟩ := hy
   refine ⟨Zh hn, λ q hq => ?_⟩
   obtain ⟨d, e, hd, he, rfl⟩ := W7 hq
   obtain ⟨u, hu, ru⟩ := rl3.get hd
   obtain ⟨u', hu', ru'⟩ := rl4.get he
   have := hv _ hr3
   rw [hu] at this
   cases this
   have := hv' _ hr4
   rw [hu'] at this
   cases this
   exact .tup (λ z => tr _ _ z hn) yU (.cons (Rp.grow ⟨λ b o q _ => Zh hn b o q, λ b z => .inl z⟩ ru) (.cons (Rp.grow ⟨λ b o q _ => Zh hn b o q, λ b z => .inl z⟩ ru') .nil))⟩
def zkO (fr : AF) : IF := λ as => (fr as).bind λ p => (zog p.1).bind λ o => (rvL o.1).bind λ a => (rvL o.2).bind λ b => some (Wo (a.1 && b.1) a.2 b.2, p.2)
theorem zgy {K : zC} {F B : Addr -> Prop} {ad : Ad} {H : Hp} {v : V} {st q : Bool} {ds : List D} (rp : Rp K kd (Lv F B (Gw [] ad) st) H v (.lst ds)) (hq : q = true -> st = true) : ∃ a vs, v = .ref a /\ (∀ (ad3 : Ad) (H3 : Hp), Grow (Gw [] ad) H (Gw [] ad3) H3 -> SqL K H3 a vs) /\ RpL K kd (Lv F B (Gw [] ad) q) H vs ds := by
 have le : ∀ a, Lv F B (Gw [] ad) q a -> Lv F B (Gw [] ad) st a := λ a z => z.imp (λ y => y.imp (λ x => ⟨hq x.1, x.2⟩) id) id
 cases rp with
 | lst hn hr rl => exact ⟨_, _, rfl, λ ad3 H3 g3 => .inl (zbn g3 (λ z => hn (.inr z)) hr), rl.less le⟩
 | lstK a b c rl => exact ⟨_, _, rfl, λ ad3 H3 g3 => .inr ⟨_, _, _, a, rfl, rfl, rfl, b, c⟩, rl.less le⟩
theorem zjp {l l' : Expr} {fr : AF} {p pos pos' : Pos} {elts : List Expr} {k : Nat} (hg : Gl X "zip") (hm : X.mg "zip" = none) (ha : AA X kd [l, l'] fr) (hs : starEach [l, l'] X.env = [(false, eval l X.env), (false, eval l' X.env)]) (hs2 : starEach [l'] X.env = [(false, eval l' X.env)]) :
 AI X kd (.Tuple elts k pos') (.Call (.Name "zip" p) [l, l'] [] pos) (zkO fr) := by
 with_unfolding_all (
 intro pins s σ H R I h
 obtain ⟨F, B, ad, as, ds, as', Rl, e', q⟩ := h
 obtain ⟨⟨rs, as1⟩, h1, e'⟩ := bS_ (show (fr as).bind _ = _ from e')
 obtain ⟨⟨o1, o2⟩, e1, e'⟩ := bS_ e'
 obtain ⟨⟨s1, d1⟩, e2, e'⟩ := bS_ e'
 obtain ⟨⟨s2, d2⟩, e3, e'⟩ := bS_ e'
 cases zgq e1
 cases zmY e2
 cases zmY e3
 · cases e'
   refine zqz hg hm ha hs hs2 pins s σ H R I ⟨F, B, ad, as, _, as1, Rl, h1, λ vs ad1 H1 R1 rv1 g1 => ?_⟩
   cases rv1 with
   | cons r1 rr =>
    cases rr with
    | cons r2 rr =>
     cases rr
     cases r1 with
     | lf rp1 =>
      cases r2 with
      | lf rp2 =>
       obtain ⟨a, vs, rfl, ha, ra⟩ := zgy (q := s1 && s2) rp1 (λ z => (Bool.and_eq_true_iff.mp z).1)
       obtain ⟨b, ws, rfl, hb, rb⟩ := zgy (q := s1 && s2) rp2 (λ z => (Bool.and_eq_true_iff.mp z).2)
       exact ⟨a, b, rfl, ⟨_, ha _ _ Grow.refl⟩, ⟨_, hb _ _ Grow.refl⟩, q _ ad1 H1 R1 g1 (zqf ha hb ra rb)⟩)
end
def insI (x : Int) : List Int -> List Int
 | [] => [x]
 | y :: r => if x <= y then x :: y :: r else y :: insI x r
def sortI : List Int -> List Int
 | [] => []
 | x :: r => insI x (sortI r)
theorem insI_perm (x : Int) : ∀ l : List Int, (insI x l).Perm (x :: l)
 | [] => List.Perm.refl _
 | y :: r => by
  unfold insI
  split
  · exact List.Perm.refl _
  · exact ((insI_perm x r).cons y).trans (List.Perm.swap x y r)
theorem sortI_perm : ∀ l : List Int, (sortI l).Perm l
 | [] => List.Perm.refl _
 | x :: r => (insI_perm x (sortI r)).trans ((sortI_perm r).cons x)
theorem zcS (x : Int) : ∀ l : List Int, l.Pairwise (· <= ·) -> (insI x l).Pairwise (· <= ·)
 | [], _ => by simp [insI]
 | y :: r, h => by
  unfold insI
  rw [List.pairwise_cons] at h
  split
  · rename_i hxy
    rw [List.pairwise_cons, List.pairwise_cons]
    refine ⟨λ z hz => ?_, h⟩
    rcases zI.mp hz with rfl | hz
    · exact hxy
    · exact Int.le_trans hxy (h.1 z hz)
  · rename_i hxy
    rw [List.pairwise_cons]
    refine ⟨λ z hz => ?_, zcS x r h.2⟩
    rcases zI.mp ((insI_perm x r).mem_iff.mp hz) with rfl | hz
    · omega
    · exact h.1 z hz
theorem zbt : ∀ l : List Int, (sortI l).Pairwise (· <= ·)
 | [] => List.Pairwise.nil
 | x :: r => zcS x _ (zbt r)
theorem zfC : ∀ (a b : List Int), a.Perm b -> a.Pairwise (· <= ·) -> b.Pairwise (· <= ·) -> a = b
 | [], b, p, _, _ => by rw [List.nil_perm] at p; exact p.symm
 | x :: r, [], p, _, _ => by rw [List.perm_nil] at p; cases p
 | x :: r, y :: t, p, ha, hb => by
  rw [List.pairwise_cons] at ha hb
  have hxy : x = y := by
   have h1 : x ∈ y :: t := p.mem_iff.mp (zzC ..)
   have h2 : y ∈ x :: r := p.mem_iff.mpr (zzC ..)
   rcases zI.mp h1 with e | e
   · exact e
   · rcases zI.mp h2 with e' | e'
     · exact e'.symm
     · have := hb.1 x e
       have := ha.1 y e'
       omega
  subst hxy
  rw [zfC r t (List.Perm.cons_inv p) ha.2 hb.2]
theorem ints_of {K : zC} {kd : KD} {O : Addr -> Prop} {H : Hp} {vs : List V} {us : List Value} {ds : List D} {ns : List Int} (h : RpL K kd O H vs ds) (hv : Vals vs us) (e : WF ds = some ns) : IntsAre us ns :=
 RpL.ind (P := λ vs ds => ∀ us ns, Vals vs us -> WF ds = some ns -> IntsAre us ns) (λ us ns hv e => by cases e; cases hv; exact .nil) (λ {v d vs ds} a _ ih us ns hv e => by
  cases hv with
  | cons b t =>
   cases a with
   | int x =>
    obtain ⟨ys, h1, h2⟩ := bS_ (show (WF _).bind _ = _ from e)
    cases h2
    obtain ⟨tk, rfl⟩ := b
    exact .cons _ _ (ih _ _ t h1)
   | _ => cases e) h us ns hv e
theorem Xp : ∀ {us : List Value} {ns : List Int}, IntsAre us ns -> Vals (ns.map V.int) us
 | _, _, .nil => .nil
 | _, _, .cons n t r => .cons ⟨t, rfl⟩ (Xp r)
theorem ziu {K : zC} {kd : KD} {O : Addr -> Prop} {H : Hp} : ∀ ns : List Int, RpL K kd O H (ns.map V.int) (ns.map D.int)
 | [] => .nil
 | y :: r => .cons (.int y) (ziu r)
def zmz : List D -> Option R0 := on1 λ x => (asL x).bind λ ds => (WF ds).bind λ ns => if ns.length < 64 then some (.fl ((sortI ns).map .int)) else none
section
variable {X : Cx} {kd : KD}
theorem zjy : CallD X kd (.builtin "sorted") zmz := by
 intro pins s σ H xs us Q I r h
 obtain ⟨O, ds, z, ht, vl, he, q⟩ := h
 obtain ⟨x, d, rfl, vx, he⟩ := zbY vl he
 obtain ⟨ds, h0, he2⟩ := bS_ (show (asL d).bind _ = _ from he)
 cases zco h0
 · obtain ⟨ns, h1, he⟩ := bS_ he2
   obtain ⟨hz, he⟩ := yt he
   cases he
   cases vx with
   | lst hr rl =>
    obtain ⟨u, rfl, ru⟩ := vals1 r
    cases ru
    obtain ⟨its, rv, pl, _⟩ := I.list hr.sq
    have hI := ints_of rl rv h1
    have hl := hI.length
    refine sorted_ints pl.isList hI (by omega) λ out ns' a1 a2 a3 => ?_
    have e : ns' = sortI ns := zfC _ _ (a2.trans (sortI_perm ns).symm) a3 (zbt ns)
    subst e
    obtain ⟨ee, hob⟩ := sortedAll_at s.heap its out
    have hn : H (s.heap.objs.size + 1) = none := I.hok.fresh (Nat.le_succ _)
    refine ⟨.ref (s.heap.objs.size + 1), _, I.laid (t' := s.toks) (λ b o e => sortedAll_old e) (Nat.le_succ _) (show vA X.prog X.w _ _ _ (.lst ((sortI ns).map V.int)) from ⟨?_, out.toList, ee, Xp a1, by simpa [seqObj] using hob⟩), rfl, zcj q (ziu _) _ hn⟩
    rw [zD, (sortI_perm ns).length_eq]
    exact Nat.le_of_lt (ZR (by omega))
end
def zfi (f : D -> Option Bool) : List D -> Option Nat
 | [] => none
 | x :: r => (f x).bind λ b => if b = true then (anyF f r).bind λ _ => some 0 else (zfi f r).bind λ j => some (j + 1)
def Vz (d : D) : List D -> Option R0 := on1 λ x => (asL d).bind λ ds => (zfi (λ y => eqF 50 y x) ds).bind λ j => if ds.length <= 1000 then some (.im (.int j)) else none
theorem zhE {f : D -> Option Bool} : ∀ {ds : List D} {j : Nat}, zfi f ds = some j -> ∀ d ∈ ds, ∃ c, f d = some c
 | [], _, h, _, m => nomatch m
 | x :: r, j, h, d, m => by
  obtain ⟨b, h1, h⟩ := bS_ (show (f x).bind _ = _ from h)
  rcases zI.mp m with rfl | m
  · exact ⟨b, h1⟩
  · cases b with
    | true =>
     obtain ⟨c, h2, _⟩ := bS_ (show (anyF f r).bind _ = _ from h)
     exact Xu h2 d m
    | false =>
     obtain ⟨k, h2, _⟩ := bS_ (show (zfi f r).bind _ = _ from h)
     exact zhE h2 d m
section
variable {X : Cx} {kd : KD} {pins : List (Addr × Obj)} {σ : St} {H : Hp} {s : Shared} {O : Addr -> Prop}
theorem zos (I : Inv X pins σ H s) (hk : KdOk X kd) {n : Nat} {x : D} {vs : List V} {us : List Value} {ds : List D} {j : Nat} (hv : Vals vs us) (h : RpL X.K kd O H vs ds) (e : zfi (λ y => eqF n y x) ds = some j) : ∃ h : j < us.length, eqW X.K kd O H n x us[j] = true /\ ∀ m (hm : m < us.length), m < j -> eqW X.K kd O H n x us[m] = false :=
 RpL.ind (P := λ vs ds => ∀ us j, Vals vs us -> zfi (λ y => eqF n y x) ds = some j -> ∃ h : j < us.length, eqW X.K kd O H n x us[j] = true /\ ∀ m (hm : m < us.length), m < j -> eqW X.K kd O H n x us[m] = false) (λ us j hv e => by cases e) (λ {v d vs ds} a _ ih us j hv h => by
  cases hv with
  | cons r t =>
   obtain ⟨b, h1, h⟩ := bS_ (show (eqF n _ x).bind _ = _ from h)
   cases b with
   | true =>
    obtain ⟨c, h2, h3⟩ := bS_ (show (anyF _ _).bind _ = _ from h)
    cases h3
    exact ⟨by simp, zgU I hk r a h1, λ m hm hlt => by omega⟩
   | false =>
    obtain ⟨k, h2, h3⟩ := bS_ (show (zfi _ _).bind _ = _ from h)
    cases h3
    obtain ⟨hk', e1, e2⟩ := ih _ _ t h2
    refine ⟨by simpa using hk', by simpa using e1, λ m hm hlt => ?_⟩
    cases m with
    | zero => exact zgU I hk r a h1
    | succ m => simpa using e2 m (by simpa using hm) (by omega)) h us j hv e
theorem zhN (hk : KdOk X kd) (hu : X.A.units + 100 < cLine) : MtD X kd "list.index" Vz := by
 intro pins s σ H x xs v us Q I rx r h
 obtain ⟨O, d, ds, r0, ht, vx, vl, he, q⟩ := h
 obtain ⟨y', y, rfl, vy, he⟩ := zbY vl he
 obtain ⟨es, h0, he2⟩ := bS_ (show (asL d).bind _ = _ from he)
 cases zco h0
 · obtain ⟨j, h1, he⟩ := bS_ he2
   obtain ⟨hz, he⟩ := yt he
   cases he
   obtain ⟨u, rfl, ru⟩ := vals1 r
   cases vx with
   | lst hr rl =>
    cases rx
    obtain ⟨its, rv, pl, _⟩ := I.list hr.sq
    obtain ⟨⟨cls, dd, data, sl⟩, ho, hc, n, hd⟩ := pl.isList
    simp only at hc hd
    subst hc hd
    obtain ⟨hj, e1, e2⟩ := zos I hk rv rl h1
    have hlen := rv.length
    have hlen2 := rl.length
    refine call_meets PySem.F.slot_list_index ⟨_, ho, rfl⟩ PySem.F.entry_list_index (PySem.F.args_list_index_2 _ _)
     (SeqAt.list_indexAt _ its.toArray n dd sl _ (eqW X.K kd O H 50 y) j (by simpa using hj) (by omega) (by simpa using e1) (λ m hm hlt => by simpa using e2 m (by simpa using hm) hlt))
     ⟨ho, λ w hw => zbF I hk (by show X.A.units + 1 + 50 < cLine; omega) vy ru rv rl (zhE h1) w (by simpa using hw), ⟨.int j, H, I.tok _, ⟨_, rfl⟩, yS q (.int _)⟩⟩
end
theorem zcG : ∀ {vs : List V} {us : List Value}, vs.length = us.length -> (∀ (i : Nat) v u, vs[i]? = some v -> us[i]? = some u -> RelV v u) -> Vals vs us
 | [], [], _, _ => .nil
 | [], _ :: _, h, _ => by simp at h
 | _ :: _, [], h, _ => by simp at h
 | v :: vs, u :: us, h, k => .cons (k 0 v u rfl rfl) (zcG (by simpa using h) λ i a b x y => k (i + 1) a b (by simpa using x) (by simpa using y))
section
variable {X : Cx} {tg : Expr}
def zrG (ta : TA) : TE := λ σ H Q => ta σ H λ vs H1 => ∃ j : Int, vs = [.int j] /\ -(2 ^ 62) <= j /\ j < 2 ^ 62 /\ ∀ r, H1 r = none -> Q (.ref r) (upd H1 r (.rng 0 j))
theorem zlJ {a : Expr} {ta : TA} {p pos : Pos} (hg : Gl X "range") (hm : X.mg "range" = none) (ha : PA X [a] ta) (hs : starEach [a] X.env = [(false, eval a X.env)]) : PE X (.Call (.Name "range" p) [a] [] pos) (zrG ta) := by
 intro pins s σ H Q I h
 refine Call_ (zap I hg hm boot_range (PyProof.Rows.callWith_type1 (thn (ha pos pins s σ H _ I h) λ us s1 ⟨vs, H1, I1, r1, q1⟩ => ?_) hs rfl))
 obtain ⟨j, e, b1, b2, q⟩ := q1
 subst e
 cases r1 with
 | cons r rr =>
  cases rr
  obtain ⟨t, rfl⟩ := r
  exact call_range_1 ⟨.ref s1.heap.objs.size, _, I1.laid (λ b o e => Heap.get?_push_of_some _ e) (zzK _) (show vA X.prog X.w _ _ _ (.rng 0 j) from ⟨_, _, _, Heap.get?_push_size _ rfl⟩), rfl, q _ (I1.hok.fresh (zzK _))⟩
def tLR (ta : TA) : TE := λ σ H Q => zoR (zrG ta) zrm σ H λ vs H2 => ∃ r H1, ∃ j : Int, vs = [.ref r] /\ H1 r = none /\ H2 = upd H1 r (.rng 0 j) /\ 0 <= j /\ j <= 100000 /\ ∀ l, H2 l = none -> Q (.ref l) (upd H2 l (.lst ((List.range j.toNat).map λ (i : Nat) => V.int i)))
theorem zla {a : Expr} {ta : TA} {p p' pos pos' : Pos} (hc : X.calm = true) (hg : Gl X "range") (hm : X.mg "range" = none) (hgl : Gl X "list") (hml : X.mg "list" = none) (ha : PA X [a] ta) (hs : starEach [a] X.env = [(false, eval a X.env)])
 (hs' : starEach [.Call (.Name "range" p) [a] [] pos] X.env = [(false, eval (.Call (.Name "range" p) [a] [] pos) X.env)]) : PE X (.Call (.Name "list" p') [.Call (.Name "range" p) [a] [] pos] [] pos') (tLR ta) := by
 intro pins s σ H Q I h
 refine Call_ (zap I hgl hml Bt.list (PyProof.Rows.callWith_type1 (thn ((zbi (zlJ hg hm ha hs) zdU hs') pos' pins s σ H (λ vs H2 => ∃ r H1, ∃ j : Int, vs = [.ref r] /\ H1 r = none /\ H2 = upd H1 r (.rng 0 j) /\ 0 <= j /\ j <= 100000 /\ ∀ l, H2 l = none -> Q (.ref l) (upd H2 l (.lst ((List.range j.toNat).map λ (i : Nat) => V.int i)))) I ?_) λ us s1 ⟨vs, H2, I2, r1, q1⟩ => ?_) hs' rfl))
 · exact h
 obtain ⟨r, H1, j, rfl, hn, rfl, h0, h1, q⟩ := q1
 cases r1 with
 | cons rr rs =>
  cases rs
  cases rr
  obtain ⟨t, u, v, ho⟩ := I2.hok r _ (yU ..)
  have hsz : Builtin.Range.rangeSize 0 j 1 = (j.toNat : Nat) := by rw [rangeSize_one]; split <;> omega
  refine call_list_range (I2.ok.hd hc) ho (small_one (by omega) (by omega) (by omega) (by omega)) (n := j.toNat) (by exact_mod_cast hsz) (by omega) λ h' tk acc c' hk hob hit => ?_
  refine ⟨.ref s1.heap.objs.size, _, I2.laid hk (zzK _) (show vA X.prog X.w _ _ _ (.lst ((List.range j.toNat).map λ (i : Nat) => V.int i)) from ⟨?_, acc.toList, c', ?_, by simpa using hob⟩), rfl, q _ (I2.hok.fresh (zzK _))⟩
  · rw [zD, List.length_range]; exact zzL (show j.toNat <= 100000 by omega) (by decide)
  · refine zcG (by rw [zD, List.length_range]; simpa using hit.1.symm) λ i x y hx hy => ?_
    rw [zzF] at hx
    obtain ⟨tk', e⟩ := hit.2 i y (by simpa using hy)
    cases hr : (List.range j.toNat)[i]? with
    | none => rw [hr] at hx; cases hx
    | some k =>
     rw [hr] at hx
     obtain ⟨_, hk'⟩ := zzD.mp hr
     rw [List.getElem_range] at hk'
     subst hk'
     cases hx
     exact ⟨tk', by rw [e]; simp⟩
end
section
variable {X : Cx} {kd : KD}
def lrP : List D -> Option R0
 | [.int j] => if 0 <= j /\ j <= 100000 then some (.fl ((List.range j.toNat).map λ (i : Nat) => .int i)) else none
 | _ => none
theorem zkk {K : zC} {O : Addr -> Prop} {H : Hp} : ∀ l : List Nat, RpL K kd O H (l.map λ (i : Nat) => V.int i) (l.map λ (i : Nat) => D.int i)
 | [] => .nil
 | y :: r => .cons (.int y) (zkk r)
theorem zfS {a : Expr} {fr : AF} {p p' pos pos' : Pos} (hc : X.calm = true) (hg : Gl X "range") (hm : X.mg "range" = none) (hgl : Gl X "list") (hml : X.mg "list" = none) (ha : AA X kd [a] fr) (hs : starEach [a] X.env = [(false, eval a X.env)])
 (hs' : starEach [.Call (.Name "range" p) [a] [] pos] X.env = [(false, eval (.Call (.Name "range" p) [a] [] pos) X.env)]) : AE X kd (.Call (.Name "list" p') [.Call (.Name "range" p) [a] [] pos] [] pos') (fP fr lrP) := by
 with_unfolding_all exact (wC (zla hc hg hm hgl hml ha hs hs') λ σ H Q h => by
  obtain ⟨F, B, ad, as, r, as', R, e, q⟩ := h
  obtain ⟨⟨rs, as1⟩, h1, e⟩ := bS_ (show (fr as).bind _ = _ from e)
  obtain ⟨⟨ds, lv⟩, h2, e⟩ := bS_ e
  obtain ⟨r0, h3, e⟩ := bS_ e
  obtain ⟨z, h4, e⟩ := bS_ e
  cases e
  match ds, h3, h2 with
  | [.int j], h3, h2 =>
   obtain ⟨⟨b1, b2⟩, e3⟩ := yt (show (if 0 <= j /\ j <= 100000 then some (R0.fl ((List.range j.toNat).map λ (i : Nat) => .int i)) else none) = some r0 from h3)
   cases e3
   refine (show alA X.K kd fr σ H _ from ⟨F, B, ad, as, rs, as1, R, h1, λ vs ad1 H1 R1 rv1 g1 => ?_⟩)
   have vl := zbe R1 rv1 h2
   have rq := Wt R1 h4 (Q := Q) λ w T' H' R' rv' g' => q w T' ad1 H' R' rv' (g1.trans g')
   cases vl with
   | cons v1 v2 =>
    cases v2
    cases v1
    refine ⟨j, rfl, by omega, by omega, λ r hr => ⟨r, H1, j, rfl, hr, rfl, b1, b2, λ l hl => ?_⟩⟩
    have hlr : l ≠ r := λ e => by rw [e, yU] at hl; cases hl
    have hl1 : H1 l = none := by rw [ye hlr] at hl; exact hl
    exact rq l _ _ hl1 (λ b o q => Zh hl b o (Zh hr b o q)) yU (zkk _))
end
theorem zjQ {L : Bool -> V -> D -> Prop} {N : Addr -> Prop} {H : Hp} {vs : List V} {ls : List O} {fp : List Addr} (h : RoL L N H vs ls fp) : vs.length = ls.length := RoL.length h
section
variable {K : zC} {kd : KD} {F B G : Addr -> Prop} {H : Hp}
theorem zbc {p : Addr} {u : HO} (hp : G p) : Grow G H G (upd H p u) := ⟨λ b w h n => by rw [ye (λ e => n (by subst e; exact hp))]; exact h, λ b z => .inl z⟩
theorem zgo : ∀ (os : List O) {vs : List V} {fp : List Addr} {n : Nat} {o : O}, Zx K kd F B G H vs os fp -> fp.Nodup -> (∀ a ∈ fp, G a) -> os[n]? = some o ->
 ∃ v f, vs[n]? = some v /\ RoS K kd F B G H v o f /\ f.Nodup /\ (∀ a ∈ f, a ∈ fp) /\ ∀ (p : Addr) (u : HO) (o' : O), p ∈ f -> RoS K kd F B G (upd H p u) v o' f -> Zx K kd F B G (upd H p u) vs (os.set n o') fp
 | [], _, _, _, _, _, _, _, e => by simp at e
 | o1 :: os, _, _, n, o, r, hn, hG, e => by
  cases r with
  | cons a r =>
   rename_i v vs fp fq
   obtain ⟨n1, n2, n3⟩ := List.nodup_append.mp hn
   cases n with
   | zero =>
    simp at e
    subst e
    exact ⟨v, fp, rfl, a, n1, λ x m => zzM _ m, λ p u o' hp ro => .cons ro (Zx.grow (zbc (hG p (zzM _ hp))) (λ x m w h => by rw [ye (λ e => n3 p hp x m e.symm)]; exact h) r)⟩
   | succ n =>
    obtain ⟨v', f, h1, h2, h3, h4, h5⟩ := zgo os (n := n) (o := o) r n2 (λ x m => hG x (zzI _ m)) (by simpa using e)
    exact ⟨v', f, by simpa using h1, h2, h3, λ x m => zzI _ (h4 x m), λ p u o' hp ro => .cons (RoS.grow (zbc (hG p (zzI _ (h4 p hp)))) (λ x m w h => by rw [ye (λ e => n3 x m p (h4 p hp) e)]; exact h) a) (h5 p u o' hp ro)⟩
theorem zfW {L : Bool -> V -> D -> Prop} {N : Addr -> Prop} {v : V} {st' : Bool} {d' : D} (h : L st' v d') : ∀ (os : List O) {vs : List V} {fp : List Addr} {n : Nat} {st : Bool} {d : D}, RoL L N H vs os fp -> os[n]? = some (.lf st d) -> RoL L N H (vs.set n v) (os.set n (.lf st' d')) fp
 | [], _, _, _, _, _, _, e => by simp at e
 | o1 :: os, _, _, n, st, d, r, e => by
  cases r with
  | cons a r =>
   cases n with
   | zero =>
    simp at e
    subst e
    cases a with
    | lf _ => exact .cons (.lf h) r
   | succ n => exact .cons a (zfW h os (n := n) (st := st) (d := d) r (by simpa using e))
theorem zgB {v : V} {inner : List O} {fp : List Addr} {n : Nat} {st : Bool} {d : D} (c : Int) (r : RoS K kd F B G H v (.nd .ls inner) fp) (hn : fp.Nodup) (hG : ∀ a ∈ fp, G a) (e : inner[n]? = some (.lf st d)) :
 ∃ p ivs, v = .ref p /\ p ∈ fp /\ H p = some (.lst ivs) /\ n < ivs.length /\ RoS K kd F B G (upd H p (.lst (ivs.set n (.int c)))) v (.nd .ls (inner.set n (.lf true (.int c)))) fp := by
 cases r with
 | ls hp ir =>
  rename_i p ivs ifp
  have hpfp : p ∉ ifp := (zzT.mp hn).1
  refine ⟨p, ivs, rfl, zzC .., hp, by rw [zjQ ir]; exact (zzD.mp e).1, .ls yU (zfW (.int c) inner (Zx.grow (zbc (hG p (zzC ..))) (λ x m w h => by rw [ye (λ e => hpfp (by subst e; exact m))]; exact h) ir) e)⟩
theorem zjh {v : V} {os : List O} {fp : List Addr} {n : Nat} {o : O} (r : RoS K kd F B G H v (.nd .ls os) fp) (hn : fp.Nodup) (hG : ∀ a ∈ fp, G a) (e : os[n]? = some o) :
 ∃ l vs w f, v = .ref l /\ H l = some (.lst vs) /\ vs[n]? = some w /\ RoS K kd F B G H w o f /\ f.Nodup /\ (∀ a ∈ f, a ∈ fp) /\ ∀ (p : Addr) (u : HO) (o' : O), p ∈ f -> RoS K kd F B G (upd H p u) w o' f -> RoS K kd F B G (upd H p u) v (.nd .ls (os.set n o')) fp := by
 cases r with
 | ls hp ir =>
  rename_i l vs ifp
  obtain ⟨w, f, h1, h2, h3, h4, h5⟩ := zgo os ir (zzT.mp hn).2 (λ a m => hG a (zzA _ m)) e
  exact ⟨l, vs, w, f, rfl, hp, h1, h2, h3, λ a m => zzA _ (h4 a m), λ p u o' hpf ro => .ls (by rw [ye (λ e => (zzT.mp hn).1 (by rw [e]; exact h4 p hpf))]; exact hp) (h5 p u o' hpf ro)⟩
theorem zqa {v : V} {os : List O} {fp : List Addr} {n : Nat} {o : O} (r : RoS K kd F B G H v (.nd .tp os) fp) (hn : fp.Nodup) (hG : ∀ a ∈ fp, G a) (e : os[n]? = some o) :
 ∃ l vs w f, v = .ref l /\ H l = some (.tup vs) /\ vs[n]? = some w /\ RoS K kd F B G H w o f /\ f.Nodup /\ (∀ a ∈ f, a ∈ fp) /\ ∀ (p : Addr) (u : HO) (o' : O), p ∈ f -> RoS K kd F B G (upd H p u) w o' f -> RoS K kd F B G (upd H p u) v (.nd .tp (os.set n o')) fp := by
 cases r with
 | tp hN hp ir =>
  rename_i l vs
  obtain ⟨w, f, h1, h2, h3, h4, h5⟩ := zgo os ir hn hG e
  exact ⟨l, vs, w, f, rfl, hp, h1, h2, h3, h4, λ p u o' hpf ro => .tp hN (by rw [ye (λ e => hN (.inr (by rw [e]; exact hG p (h4 p hpf))))]; exact hp) (h5 p u o' hpf ro)⟩
end
section
variable {K : zC} {kd : KD} {F B : Addr -> Prop} {ad : Ad} {as : AS} {σ : St} {H : Hp} {i : Nat} {o : O}
theorem Rel.slotU (R : Rel K kd F B [] ad as σ H) (k : as[i]? = some (some o)) :
 ∃ v, σ[i]? = some (some v) /\ RoS K kd F B (Gw [] ad) H v o (ad i) /\ (ad i).Nodup /\ (∀ a ∈ ad i, Gw [] ad a) /\
  ∀ (p : Addr) (u : HO) (o' : O), p ∈ ad i -> RoS K kd F B (Gw [] ad) (upd H p u) v o' (ad i) -> Rel K kd F B [] ad (as.set i (some o')) σ (upd H p u) /\ Grow (Gw [] ad) H (Gw [] ad) (upd H p u) := by
 obtain ⟨v, hv, ro⟩ := R.sl i _ k
 have hi : i < as.length := (zzD.mp k).1
 refine ⟨v, hv, ro, R.nd i, λ a m => .inr ⟨i, m⟩, λ p u o' hp ro' => ?_⟩
 have g : Grow (Gw [] ad) H (Gw [] ad) (upd H p u) := zbc (.inr ⟨i, hp⟩)
 have kn : ∀ a, H a ≠ none -> upd H p u a ≠ none := λ a z => by
  by_cases e : a = p
  · subst e; rw [yU]; simp
  · rw [ye e]; exact z
 refine ⟨⟨by rw [zzR]; exact R.len, λ j hj => R.out j (by rw [zzR] at hj; exact hj), R.nd, R.inj, R.tnd, R.dis, λ a z => kn a (R.ftr a z), λ a z => ⟨kn a (R.btr a z).1, (R.btr a z).2⟩, λ a z => ⟨kn a (R.gtr a z).1, (R.gtr a z).2⟩, λ j s e => ?_⟩, g⟩
 by_cases q : j = i
 · subst q
   rw [List.getElem?_set_self hi] at e
   cases e
   exact ⟨v, hv, ro'⟩
 · rw [zzV (Ne.symm q)] at e
   exact (R.sl j s e).grow g λ a m u h => by rw [ye (λ e => q (R.inj j i a m (by rw [e]; exact hp)))]; exact h
theorem Rel.any {y : Nat} {v : Option V} (R : Rel K kd F B [] ad as σ H) (hy : as[y]? = some none) : Rel K kd F B [] ad as (σ.set y v) H := by
 refine ⟨by rw [zzR]; exact R.len, R.out, R.nd, R.inj, R.tnd, R.dis, R.ftr, R.btr, R.gtr, λ j s e => ?_⟩
 by_cases q : j = y
 · subst q
   rw [hy] at e
   cases e
   exact R.sl j none hy
 · rw [zzV (Ne.symm q)]
   exact R.sl j s e
end
abbrev IXF := AS -> Option Int
def tSt (K : zC) (kd : KD) (f : IXF) : TE := λ σ H Q => ∃ F B ad as k, Rel K kd F B [] ad as σ H /\ f as = some k /\ Q (.int k) H
@[irreducible] def AK (X : Cx) (kd : KD) (e : Expr) (f : IXF) : Prop := PE X e (tSt X.K kd f)
def xC (c : Int) : IXF := λ _ => some c
def Vt : O -> Option (List O)
 | .nd .ls os => some os
 | _ => none
def zoa : O -> Option (List O)
 | .nd .tp os => some os
 | _ => none
def zct : O -> Option D
 | .lf _ d => some d
 | _ => none
def atO {α : Type} (f : O -> Option α) (os : List O) (k : Nat) : Option α := os[k]?.bind f
def slO {α : Type} (f : O -> Option α) (as : AS) (i : Nat) : Option α := as[i]?.bind λ s => s.bind f
theorem zkp {o : O} {os : List O} (h : Vt o = some os) : o = .nd .ls os := by
 cases o with
 | lf s d => cases h
 | nd k os => cases k <;> cases h; rfl
theorem zoy {o : O} {os : List O} (h : zoa o = some os) : o = .nd .tp os := by
 cases o with
 | lf s d => cases h
 | nd k os => cases k <;> cases h; rfl
theorem zjU {o : O} {d : D} (h : zct o = some d) : ∃ st, o = .lf st d := by
 cases o with
 | lf s d => cases h; exact ⟨s, rfl⟩
 | nd k os => cases h
theorem zjz {α : Type} {f : O -> Option α} {os : List O} {k : Nat} {a : α} (h : atO f os k = some a) : ∃ o, os[k]? = some o /\ f o = some a := bS_ h
theorem zmx {α : Type} {f : O -> Option α} {as : AS} {k : Nat} {a : α} (h : slO f as k = some a) : ∃ o, as[k]? = some (some o) /\ f o = some a := by
 obtain ⟨s, h1, h⟩ := bS_ h
 obtain ⟨o, rfl, h⟩ := bS_ h
 exact ⟨o, h1, h⟩
theorem zpI {os inner : List O} {k : Nat} (h : atO Vt os k = some inner) : os[k]? = some (.nd .ls inner) := by
 obtain ⟨o, h1, h⟩ := zjz h
 cases zkp h
 exact h1
theorem zsn {os inner : List O} {k : Nat} (h : atO zoa os k = some inner) : os[k]? = some (.nd .tp inner) := by
 obtain ⟨o, h1, h⟩ := zjz h
 cases zoy h
 exact h1
theorem zqE {os : List O} {d : D} {k : Nat} (h : atO zct os k = some d) : ∃ st, os[k]? = some (.lf st d) := by
 obtain ⟨o, h1, h⟩ := zjz h
 obtain ⟨st, rfl⟩ := zjU h
 exact ⟨st, h1⟩
theorem znN {as : AS} {inner : List O} {k : Nat} (h : slO Vt as k = some inner) : as[k]? = some (some (.nd .ls inner)) := by
 obtain ⟨o, h1, h⟩ := zmx h
 cases zkp h
 exact h1
theorem zqZ {as : AS} {d : D} {k : Nat} (h : slO zct as k = some d) : ∃ st, as[k]? = some (some (.lf st d)) := by
 obtain ⟨o, h1, h⟩ := zmx h
 obtain ⟨st, rfl⟩ := zjU h
 exact ⟨st, h1⟩
theorem VL {α : Type} {f : O -> Option α} {os : List O} {k : Nat} {o : O} {a : α} (h : os[k]? = some o) (e : f o = some a) : atO f os k = some a := by unfold atO; rw [h]; exact e
theorem zbC {α : Type} {f : O -> Option α} {as : AS} {k : Nat} {o : O} {a : α} (h : as[k]? = some (some o)) (e : f o = some a) : slO f as k = some a := by unfold slO; rw [h]; exact e
def xV (i : Nat) : IXF := λ as => (slO zct as i).bind asI
def xAt (i : Nat) (f : IXF) : IXF := λ as => (f as).bind λ k => if 0 <= k then (slO zct as i).bind λ d => (asL d).bind λ ds => ds[k.toNat]?.bind asI else none
def Vi (f g : IXF) : IXF := λ as => (f as).bind λ a => (g as).bind λ b => if 0 < b then some (a % b) else none
def zmd (i : Nat) : IXF := λ as => (slO Vt as i).bind λ os => some (os.length : Int)
section
variable {X : Cx} {kd : KD} {f g : IXF} {a b : Expr}
theorem XM {c : Int} {j pos} : AK X kd (.Constant (.int c) j pos) (xC c) := by
 with_unfolding_all exact (wC zgw λ σ H Q h => by
  obtain ⟨F, B, ad, as, k, R, e, q⟩ := h
  cases e
  exact q)
theorem zci {i : Nat} {x : Str} {p : Pos} (hv : PE X (.Name x p) (zcB i)) : AK X kd (.Name x p) (xV i) := by
 with_unfolding_all exact (wC hv λ σ H Q h => by
  obtain ⟨F, B, ad, as, k, R, e, q⟩ := h
  obtain ⟨d, e1, e⟩ := bS_ (show (slO zct as i).bind _ = _ from e)
  cases zgD e
  obtain ⟨st, k1⟩ := zqZ e1
  obtain ⟨v, hv, ro⟩ := R.sl i _ k1
  generalize ad i = fp at ro
  cases ro with
  | lf rp => cases rp; exact ⟨_, hv, q⟩)
theorem zeU {i : Nat} {x : Str} {p pos : Pos} (hv : PE X (.Name x p) (zcB i)) (hb : AK X kd b f) (hs : Xe b) : AK X kd (.Subscript (.Name x p) b pos) (xAt i f) := by
 with_unfolding_all exact (wC (zfx zbJ hv hb hs) λ σ H Q h => by
  obtain ⟨F, B, ad, as, c, R, e, q⟩ := h
  obtain ⟨k, h1, e⟩ := bS_ (show (f as).bind _ = _ from e)
  obtain ⟨hk, e⟩ := ite_some' e
  obtain ⟨d0, e1, e3⟩ := bS_ e
  obtain ⟨ds, e2, e4⟩ := bS_ e3
  obtain ⟨d, k2, e5⟩ := bS_ e4
  cases zco e2
  cases zgD e5
  obtain ⟨st, k1⟩ := zqZ e1
  obtain ⟨v, hv, ro⟩ := R.sl i _ k1
  generalize ad i = fp at ro
  cases ro with
  | lf rp =>
   obtain ⟨l, vs, rfl, hq, rl⟩ := zgy (ad := ad) (q := st) rp (λ z => z)
   obtain ⟨w, hw, rw'⟩ := rl.get k2
   cases rw'
   refine ⟨_, hv, F, B, ad, as, k, R, h1, l, vs, k, _, rfl, rfl, hq ad H Grow.refl, ?_, q⟩
   have := Y9 hw
   rw [Int.toNat_of_nonneg hk] at this
   exact this)
theorem zaO {pos : Pos} (ha : AK X kd a f) (hb : AK X kd b g) : AK X kd (.BinOp a .Mod b pos) (Vi f g) := by
 with_unfolding_all exact (wC (zoT zlt ha hb) λ σ H Q h => by
  obtain ⟨F, B, ad, as, c, R, e, q⟩ := h
  obtain ⟨m, h1, e⟩ := bS_ (show (f as).bind _ = _ from e)
  obtain ⟨n, h2, e⟩ := bS_ e
  obtain ⟨hn, e⟩ := yt e
  cases e
  exact ⟨F, B, ad, as, m, R, h1, F, B, ad, as, n, R, h2, m, n, rfl, rfl, hn, q⟩)
theorem zpg {i : Nat} {x : Str} {p p0 pos : Pos} (hg : Gl X "len") (hm : X.mg "len" = none) (hb : bootBuiltins "len" = some (.builtin "len")) (hv : PE X (.Name x p) (zcB i)) (hst : starEach [.Name x p] X.env = (false, eval (.Name x p) X.env) :: starEach [] X.env) (hpl : (backTo pos (starEach [] X.env)).any (·.1) = false) : AK X kd (.Call (.Name "len" p0) [.Name x p] [] pos) (zmd i) := by
 with_unfolding_all exact (wC (zhg Wa hg hm hb (zbi hv zdU hst) (by decide) (by decide) hst hpl) λ σ H Q h => by
  obtain ⟨F, B, ad, as, c, R, e, q⟩ := h
  obtain ⟨os, e1, e⟩ := bS_ (show (slO Vt as i).bind _ = _ from e)
  cases e
  obtain ⟨v, hv, ro⟩ := R.sl i _ (znN e1)
  generalize ad i = fp at ro
  cases ro with
  | ls hH rl =>
   rename_i l vs fp
   refine ⟨_, hv, l, vs, rfl, .inl (.inl (.inl hH)), ?_⟩
   rw [zjQ rl]
   exact q)
end
def zlT (i : Nat) (f fv : IXF) : SF := λ as => (f as).bind λ k => (fv as).bind λ c => if 0 <= k then (slO Vt as i).bind λ os => (atO zct os k.toNat).bind λ _ => some (.nx (as.set i (some (.nd .ls (os.set k.toNat (.lf true (.int c))))))) else none
def zhs (i : Nat) (f1 f2 fv : IXF) : SF := λ as => (f1 as).bind λ k1 => (f2 as).bind λ k2 => (fv as).bind λ c => if 0 <= k1 /\ 0 <= k2 then (slO Vt as i).bind λ os => (atO Vt os k1.toNat).bind λ inner => (atO zct inner k2.toNat).bind λ _ => some (.nx (as.set i (some (.nd .ls (os.set k1.toNat (.nd .ls (inner.set k2.toNat (.lf true (.int c))))))))) else none
def noS (as : AS) (y : Nat) : Bool := match as[y]? with
 | some none => true
 | _ => false
theorem zqg {as : AS} {y : Nat} (h : noS as y = true) : as[y]? = some none := by
 unfold noS at h
 cases k : as[y]? with
 | none => rw [k] at h; cases h
 | some s =>
  cases s with
  | none => rfl
  | some _ => rw [k] at h; cases h
def zlE (y i : Nat) (f1 : IXF) (n : Nat) (f2 f3 fv : IXF) : SF := λ as => (f1 as).bind λ k1 => (f2 as).bind λ k2 => (f3 as).bind λ k3 => (fv as).bind λ c => if 0 <= k1 /\ 0 <= k2 /\ 0 <= k3 /\ noS as y = true then
 (slO Vt as i).bind λ os => (atO zoa os k1.toNat).bind λ ps => (atO Vt ps n).bind λ rows => (atO Vt rows k2.toNat).bind λ inner => (atO zct inner k3.toNat).bind λ _ => some (.nx (as.set i (some (.nd .ls (os.set k1.toNat (.nd .tp (ps.set n (.nd .ls (rows.set k2.toNat (.nd .ls (inner.set k3.toNat (.lf true (.int c))))))))))))) else none
theorem zny {n j : Nat} (h : j < n) : ixN n (j : Int) = some j := by
 unfold ixN
 rw [if_pos (by omega), if_pos (by omega)]; simp
theorem zgL {n : Nat} {k : Int} (h0 : 0 <= k) (h : k.toNat < n) : ixN n k = some k.toNat := by
 have := zny h
 rw [show ((k.toNat : Nat) : Int) = k by omega] at this
 exact this
theorem zha {α : Type} {xs : List α} {k : Int} {v : α} (h0 : 0 <= k) (h : xs[k.toNat]? = some v) : atI xs k = some v := by
 have := Y9 h
 rw [show ((k.toNat : Nat) : Int) = k by omega] at this
 exact this
section
variable {X : Cx} {kd : KD} {f f1 f2 f3 fv : IXF} {e1 e2 e3 ev : Expr} {i y : Nat}
theorem znh {x : Str} {p tpos pos : Pos} (ho : PE X (.Name x p) (zcB i)) (h1 : AK X kd e1 f) (hv : AK X kd ev fv)
 (ha : ∀ v, assign (.Subscript (.Name x p) e1 tpos) X.env v = (do
  let ov <- holding [v] (eval (.Name x p) X.env)
  let iv <- holding [v, ov] (eval e1 X.env)
  standAt tpos
  holding [v, ov, iv] (setItem ov iv v)
  release [v, ov, iv] []))
 (hs : swapsWithSole [.Subscript (.Name x p) e1 tpos] ev pos.line X.env = pure false) (hw : swappedStores [.Subscript (.Name x p) e1 tpos] ev X.env = pure none)
 (hm : (assignEach [.Subscript (.Name x p) e1 tpos] X.env).map (·.2) = [assign (.Subscript (.Name x p) e1 tpos) X.env]) :
 ASt X kd (.Assign [.Subscript (.Name x p) e1 tpos] ev pos) (zlT i f fv) := by
 with_unfolding_all exact (ZP (zgS hv (zjs ho h1 set_list ha) hs hw hm) λ D σ H h => by
  obtain ⟨F, B, ad, as, o, R, e, q⟩ := h
  obtain ⟨k, j1, e⟩ := bS_ (show (f as).bind _ = _ from e)
  obtain ⟨c, j2, e⟩ := bS_ e
  obtain ⟨hk, e⟩ := ite_some' e
  obtain ⟨os, e1, e⟩ := bS_ e
  obtain ⟨d, e2, e⟩ := bS_ e
  have k1 := znN e1
  obtain ⟨st, k2⟩ := zqE e2
  cases e
  obtain ⟨v, sv, ro, hn, hG, up⟩ := R.slotU k1
  obtain ⟨p, ivs, rfl, hp, hH, hl, ro'⟩ := zgB c ro hn hG k2
  obtain ⟨R2, g2⟩ := up p _ _ hp ro'
  exact ⟨F, B, ad, as, c, R, j2, _, sv, F, B, ad, as, k, R, j1, p, ivs, k, k.toNat, rfl, rfl, hH, zgL hk hl, q σ ad _ R2 g2⟩)
theorem zoj {x : Str} {p p1 tpos pos : Pos} (ho : PE X (.Name x p) (zcB i)) (h1 : AK X kd e1 f1) (hp1 : Xe e1) (h2 : AK X kd e2 f2) (hv : AK X kd ev fv)
 (ha : ∀ v, assign (.Subscript (.Subscript (.Name x p) e1 p1) e2 tpos) X.env v = (do
  let ov <- holding [v] (eval (.Subscript (.Name x p) e1 p1) X.env)
  let iv <- holding [v, ov] (eval e2 X.env)
  standAt tpos
  holding [v, ov, iv] (setItem ov iv v)
  release [v, ov, iv] []))
 (hs : swapsWithSole [.Subscript (.Subscript (.Name x p) e1 p1) e2 tpos] ev pos.line X.env = pure false) (hw : swappedStores [.Subscript (.Subscript (.Name x p) e1 p1) e2 tpos] ev X.env = pure none)
 (hm : (assignEach [.Subscript (.Subscript (.Name x p) e1 p1) e2 tpos] X.env).map (·.2) = [assign (.Subscript (.Subscript (.Name x p) e1 p1) e2 tpos) X.env]) :
 ASt X kd (.Assign [.Subscript (.Subscript (.Name x p) e1 p1) e2 tpos] ev pos) (zhs i f1 f2 fv) := by
 with_unfolding_all exact (ZP (zgS hv (zjs (zfx zbJ ho h1 hp1) h2 set_list ha) hs hw hm) λ D σ H h => by
  obtain ⟨F, B, ad, as, o, R, e, q⟩ := h
  obtain ⟨n1, j1, e⟩ := bS_ (show (f1 as).bind _ = _ from e)
  obtain ⟨n2, j2, e⟩ := bS_ e
  obtain ⟨c, j3, e⟩ := bS_ e
  obtain ⟨⟨hk1, hk2⟩, e⟩ := ite_some' e
  obtain ⟨os, e1, e⟩ := bS_ e
  obtain ⟨inner, e2, e⟩ := bS_ e
  obtain ⟨d, e3, e⟩ := bS_ e
  have k1 := znN e1
  have k2 := zpI e2
  obtain ⟨st, k3⟩ := zqE e3
  cases e
  obtain ⟨v, sv, ro, hn, hG, up⟩ := R.slotU k1
  obtain ⟨l, vs, w, fw, rfl, hH, hvs, rw1, fn, fs, up1⟩ := zjh ro hn hG k2
  obtain ⟨p, ivs, rfl, hp, hHp, hl, ro'⟩ := zgB c rw1 fn (λ a m => hG a (fs a m)) k3
  obtain ⟨R2, g2⟩ := up p _ _ (fs p hp) (up1 p _ _ hp ro')
  exact ⟨F, B, ad, as, c, R, j3, _, sv, F, B, ad, as, n1, R, j1, l, vs, n1, _, rfl, rfl, .inl (.inl hH), zha hk1 hvs, F, B, ad, as, n2, R, j2, p, ivs, n2, n2.toNat, rfl, rfl, hHp, zgL hk2 hl, q σ ad _ R2 g2⟩)
theorem znq {x z : Str} {n : Nat} {ec : Expr} {p p1 p2 py pos0 q0 q1 tpos pos : Pos} (hN : X.N.Nodup) (hyi : X.N[y]? = some z) (hyl : Loc X.env.scope z) (hyf : X.fn z = true \/ X.env.scope.names.lookup z = some .local)
 (ho : PE X (.Name x p) (zcB i)) (h1 : AK X kd e1 f1) (hp1 : Xe e1) (hc : PE X ec (tC (.int n))) (hpc : Xe ec) (hsw : swapsWith (.Subscript (.Subscript (.Name x p) e1 p1) ec p2) (some (.Name z py)) pos0.line X.env = pure false)
 (ho2 : PE X (.Name z q0) (zcB y)) (h2 : AK X kd e2 f2) (hp2 : Xe e2) (h3 : AK X kd e3 f3) (hv : AK X kd ev fv)
 (ha : ∀ v, assign (.Subscript (.Subscript (.Name z q0) e2 q1) e3 tpos) X.env v = (do
  let ov <- holding [v] (eval (.Subscript (.Name z q0) e2 q1) X.env)
  let iv <- holding [v, ov] (eval e3 X.env)
  standAt tpos
  holding [v, ov, iv] (setItem ov iv v)
  release [v, ov, iv] []))
 (hs : swapsWithSole [.Subscript (.Subscript (.Name z q0) e2 q1) e3 tpos] ev pos.line X.env = pure false) (hw : swappedStores [.Subscript (.Subscript (.Name z q0) e2 q1) e3 tpos] ev X.env = pure none)
 (hm : (assignEach [.Subscript (.Subscript (.Name z q0) e2 q1) e3 tpos] X.env).map (·.2) = [assign (.Subscript (.Subscript (.Name z q0) e2 q1) e3 tpos) X.env]) :
 ASs X kd [.Assign [.Name z py] (.Subscript (.Subscript (.Name x p) e1 p1) ec p2) pos0, .Assign [.Subscript (.Subscript (.Name z q0) e2 q1) e3 tpos] ev pos] (zlE y i f1 n f2 f3 fv) := by
 with_unfolding_all exact (zgu (zhy (zlI hN hyi hyl (zfx zlw (zfx zbJ ho h1 hp1) hc hpc) hsw hyf) (zjN (zgS hv (zjs (zfx zbJ ho2 h2 hp2) h3 set_list ha) hs hw hm))) λ D σ H h => by
  obtain ⟨F, B, ad, as, o, R, e, q⟩ := h
  obtain ⟨n1, j1, e⟩ := bS_ (show (f1 as).bind _ = _ from e)
  obtain ⟨n2, j2, e⟩ := bS_ e
  obtain ⟨n3, j3, e⟩ := bS_ e
  obtain ⟨c, j4, e⟩ := bS_ e
  obtain ⟨⟨hk1, hk2, hk3, hy⟩, e⟩ := ite_some' e
  have hy := zqg hy
  obtain ⟨os, e1, e⟩ := bS_ e
  obtain ⟨ps, e2, e⟩ := bS_ e
  obtain ⟨rows, e3, e⟩ := bS_ e
  obtain ⟨inner, e4, e⟩ := bS_ e
  obtain ⟨d, e5, e⟩ := bS_ e
  have k1 := znN e1
  have k2 := zsn e2
  have k3 := zpI e3
  have k4 := zpI e4
  obtain ⟨st, k5⟩ := zqE e5
  cases e
  obtain ⟨v, sv, ro, hn, hG, up⟩ := R.slotU k1
  obtain ⟨l, vs, w, fw, rfl, hH, hvs, rw1, fn, fs, up1⟩ := zjh ro hn hG k2
  obtain ⟨l2, vs2, w2, fw2, rfl, hH2, hvs2, rw2, fn2, fs2, up2⟩ := zqa rw1 fn (λ a m => hG a (fs a m)) k3
  obtain ⟨l3, vs3, w3, fw3, rfl, hH3, hvs3, rw3, fn3, fs3, up3⟩ := zjh rw2 fn2 (λ a m => hG a (fs a (fs2 a m))) k4
  obtain ⟨p, ivs, rfl, hp, hHp, hl, ro'⟩ := zgB c rw3 fn3 (λ a m => hG a (fs a (fs2 a (fs3 a m)))) k5
  have m3 := fs3 p hp
  have m2 := fs2 p m3
  have m1 := fs p m2
  obtain ⟨R2, g2⟩ := up p _ _ m1 (up1 p _ _ m2 (up2 p _ _ m3 (up3 p _ _ hp ro')))
  have yl : y < σ.length := by rw [<- R.len]; exact (zzD.mp hy).1
  have R' := R.any (y := y) (v := some (.ref l3)) hy
  have niy : i ≠ y := λ e => by subst e; rw [hy] at k1; cases k1
  have R2' := R2.any (y := y) (v := some (.ref l3)) (by rw [zzV niy]; exact hy)
  refine ⟨_, sv, F, B, ad, as, n1, R, j1, l, vs, n1, _, rfl, rfl, .inl (.inl hH), zha hk1 hvs, l2, vs2, (n : Int), _, rfl, rfl, .inl (.inl hH2), Y9 hvs2, ?_⟩
  exact ⟨F, B, ad, as, c, R', j4, _, List.getElem?_set_self yl, F, B, ad, as, n2, R', j2, l3, vs3, n2, _, rfl, rfl, .inl (.inl hH3), zha hk2 hvs3, F, B, ad, as, n3, R', j3, p, ivs, n3, n3.toNat, rfl, rfl, hHp, zgL hk3 hl, q _ ad _ R2' g2⟩)
end
section
variable {X : Cx} {kd : KD}
theorem zpE : SlR X (λ x lo hi H Q => ∃ z, x = .str z /\ z.length <= sizeLine /\ Q (.str (Txt.slice z lo hi)) H) := by
 intro pins s σ H x v vl vu lo hi sl Q I rx hs pl pu h
 obtain ⟨z, rfl, hz, q⟩ := h
 obtain ⟨t, rfl⟩ := rx
 refine ⟨"str", _, F.slot_str_getitem.lookup, typeIs_str _ _ _, ?_⟩
 cases pl with
 | none =>
  cases pu with
  | none => exact wpAny_getItem_str_slice (l := none) (u := none) (st := none) hs rfl (post_val_or_str ⟨zzL (Txt.slice_le z _ _) hz, λ t' k => ⟨.str _, H, I.kept (λ _ _ e => e), ⟨_, rfl⟩, q⟩⟩)
  | int j uj => exact wpAny_getItem_str_slice (l := none) (u := some (j, uj)) (st := none) hs rfl (post_val_or_str ⟨zzL (Txt.slice_le z _ _) hz, λ t' k => ⟨.str _, H, I.kept (λ _ _ e => e), ⟨_, rfl⟩, q⟩⟩)
 | int i ui =>
  cases pu with
  | none => exact wpAny_getItem_str_slice (l := some (i, ui)) (u := none) (st := none) hs rfl (post_val_or_str ⟨zzL (Txt.slice_le z _ _) hz, λ t' k => ⟨.str _, H, I.kept (λ _ _ e => e), ⟨_, rfl⟩, q⟩⟩)
  | int j uj => exact wpAny_getItem_str_slice (l := some (i, ui)) (u := some (j, uj)) (st := none) hs rfl (post_val_or_str ⟨zzL (Txt.slice_le z _ _) hz, λ t' k => ⟨.str _, H, I.kept (λ _ _ e => e), ⟨_, rfl⟩, q⟩⟩)
def slS : D -> Option Int -> Option Int -> Option R0
 | .str z, lo, hi => if z.length <= sizeLine then some (.im (.str (Txt.slice z lo hi))) else none
 | _, _, _ => none
theorem zrR : SlR X (λ x lo hi H Q => ∃ O d r, (∀ a, O a -> H a ≠ none) /\ Vw X.K kd O H x d /\ slS d lo hi = some r /\ RQ X.K kd O H Q r) := by
 intro pins s σ H x v vl vu lo hi sl Q I rx hs pl pu h
 obtain ⟨O, d, r, ht, vx, he, q⟩ := h
 unfold slS at he
 split at he
 · obtain ⟨c, rfl⟩ := yt he
   cases vx
   exact zpE pins s σ H _ v vl vu lo hi sl Q I rx hs pl pu ⟨_, rfl, c, yS q (.str _)⟩
 · cases he
theorem zfz {a : Expr} {lo hi : Option Expr} {fa : EF} {fl fh : OF} {pos p2 : Pos} (ha : AE X kd a fa) (hl : AO X kd lo fl) (hh : AO X kd hi fh) : AE X kd (.Subscript a (.Slice lo hi none p2) pos) (fSl fa fl fh slS) := by with_unfolding_all exact (wC (zhO zrR ha hl hh) λ σ H Q h => by
 obtain ⟨F, B, ad, as, r, as', R, e, q⟩ := h
 obtain ⟨⟨p, as1⟩, h1, e⟩ := bS_ (show (fa as).bind _ = _ from e)
 obtain ⟨⟨l, as2⟩, h2, e⟩ := bS_ e
 obtain ⟨⟨u, as3⟩, h3, e⟩ := bS_ e
 obtain ⟨⟨d, lv⟩, h4, e⟩ := bS_ e
 obtain ⟨r', h5, e⟩ := bS_ e
 obtain ⟨z, h6, e⟩ := bS_ e
 cases e
 refine YS R h1 λ v ad1 H1 R1 rv1 g1 => ⟨F, B, ad1, as1, l, as2, R1, h2, λ ad2 H2 R2 g2 => ⟨F, B, ad2, as2, u, _, R2, h3, λ ad3 H3 R3 g3 => ?_⟩⟩
 exact ⟨_, d, r', R3.tr _, Zq.vw R3 ((rv1.grow g2).grow g3) h4, h5, Wt R3 h6 λ w T' H' R' rv' g' => q w T' ad3 H' R' rv' (((g1.trans g2).trans g3).trans g')⟩)
end
theorem zgJ : typeLookup (.type "list") "keys" = pure none := am_miss_of_fast (by decide +kernel)
theorem zjv {prog : Program} {w : World} {A : Around} {E : Value -> Shared -> Prop} {s : Shared} {a : Addr} {o : Obj} {xs : Array Value} {k : Nat} {Q : Option Value -> Shared -> Prop}
 (hx : s.heap.get? a = some o) (hc : o.cls = .type "list") (hdat : o.data = .seq xs k) (hd : o.dict = none) (hA : A.handled = none)
 (h : ∀ h' tk, (∀ b o, s.heap.get? b = some o -> h'.get? b = some o) -> Q none { s with heap := h', toks := tk }) :
 wpAny (model prog w) A (getAttr? (.ref a) "keys") Q E s := by
 obtain ⟨c, dct, dat, sl⟩ := o
 simp only at hc hdat hd
 subst hc hdat hd
 obtain ⟨hp, g, d, tk, os⟩ := s
 have hT : ∀ tk', (⟨hp, g, d, tk', os⟩ : Shared).TypeIs (.ref a) "list" := λ _ => ⟨_, hx, rfl⟩
 have f1 := sub_AttributeError
 have f3 := F.slot_list_getattribute.lookup
 have f4 := F.slot_list_getattribute.bind (.ref a)
 have f5 := am_list_getattr_none
 unfold getAttr? getAttrBy? getAttrBy
 repeat (any_goals (first | assumption | exact hT _ | ((with_reducible show wpAny _ _ (call (Value.builtin "list.__getattribute__") _ _) _ _ _); refine call_meets F.slot_list_getattribute (hT _) am_entry_list_getattribute (F.args_list_getattribute_2 _ _) (meets_getattribute_miss_list a xs k sl "keys" _ zgJ (by decide +kernel)) ⟨hx, hA, λ h' tk' e hx' => ?_⟩) | wp_step))
 obtain ⟨t', u', he⟩ := hx'.there
 show wpAny _ _ (getattributeRaised _ _ _ _ _ _ _) _ _ _
 unfold getattributeRaised
 repeat (any_goals (first | assumption | wp_step))
 exact h _ _ hx'.keeps
theorem ZM : plainId "dict.update.loop" = true := by decide +kernel
theorem Vd : entryFor table "dict.update.loop" = some Builtin.«dict.update.loop» := entryFor_of_fast (by kernel_rfl)
section
variable {prog : Program} {w : World} {κ : Type} [DecidableEq κ] {knd : KeyKind prog w κ} {A : Around} {R : Result -> Shared -> Prop} {d I l : Addr} {items : Array Value} {N : Nat}
def putAll (kvs : List (κ × Value)) : List (κ × Value) -> List (κ × Value)
 | [] => kvs
 | p :: r => putAll (stored kvs p.1 p.2) r
theorem zjr (kvs : List (κ × Value)) (k : κ) (v : Value) : (stored kvs k v).length <= kvs.length + 1 := by
 unfold stored
 split
 · rw [zD]; omega
 · rw [zzG]; exact zzK _
theorem zmP (hh : A.handled = none) (hdN : N <= d) (hIN : N <= I) (hdI : d ≠ I) (hlN : l < N) : ∀ (rest : List (κ × Value)) (i : Nat) (s : Shared) (kvs : List (κ × Value)), s.heap.IsListIter I l i -> s.heap.IsList l items -> s.heap.DictOf knd d kvs -> kvs.length + rest.length <= sizeLine ->
 (∀ j p, rest[j]? = some p -> ∃ q key, items[i + j]? = some (.ref q) /\ q < N /\ IsTup s.heap q #[key, p.2] /\ knd.is p.1 key = true) -> items[i + rest.length]? = none ->
 (∀ h' tk, h'.DictOf knd d (putAll kvs rest) -> (∀ b o, b < N -> s.heap.get? b = some o -> h'.get? b = some o) -> R (.ok (.ret .none)) { s with heap := h', toks := tk }) ->
 codeAny (model prog w) A (.builtin "dict.update.loop" ⟨[.ref d, .ref I, rawInt i, .none], []⟩) R s := by
 intro rest
 induction rest with
 | nil =>
  intro i s kvs hit hl hm hz hp he hR
  refine codeAny_builtin Vd ?_
  rw [Around.under_plainId ZM _]
  show wpAny _ A.in1 (pyNext (.ref I) >>= _) _ _ s
  refine wpAny_bind (wpAny_pyNext_list_end hh hit hl he λ h' hx => ?_)
  show wpAny _ _ (Builtin.Dict.addKeywords d [] >>= _) _ _ _
  refine wpAny_bind (wpAny_pure (wpAny_pure ?_))
  obtain ⟨o, es, ep, ho, r⟩ := hm
  exact hR h' s.toks ⟨o, es, ep, hx d o hdI ho, r⟩ λ b o hb e => hx b o (zzN (zzH hb hIN)) e
 | cons p rest ih =>
  intro i s kvs hit hl hm hz hp he hR
  obtain ⟨q, key, hq, hqN, ht, hkey⟩ := hp 0 p rfl
  refine codeAny_builtin Vd ?_
  rw [Around.under_plainId ZM _]
  show wpAny _ A.in1 (pyNext (.ref I) >>= _) _ _ s
  refine wpAny_bind (wpAny_pyNext_list_item hit hl hq λ h' hit' hs => ?_)
  have sm : ∀ b o, b ≠ I -> s.heap.get? b = some o -> h'.get? b = some o := λ b o hb e => (hs.2 b hb).trans e
  obtain ⟨oq, hoq, hcq, nq, hdq⟩ := ht
  have hoq' := sm q oq (zzN (zzH hqN hIN)) hoq
  have hm' : h'.DictOf knd d kvs := let ⟨o, es, ep, ho, r⟩ := hm; ⟨o, es, ep, sm d o hdI ho, r⟩
  have hl' : h'.IsList l items := let ⟨o, ho, r⟩ := hl; ⟨o, sm l o (zzN (zzH hlN hIN)) ho, r⟩
  have hT : ({ s with heap := h' } : Shared).TypeIs (.ref q) "tuple" := ⟨oq, hoq', hcq⟩
  show wpAny _ _ (holding [.ref q] _ >>= _) _ _ _
  refine wpAny_bind (wpAny_holding (wpAny_bind (wpAny_tryCatch ?_)))
  unfold Builtin.Dict.pairItems
  refine wpAny_bind (wpAny_typeOf hT ?_)
  show wpAny _ _ (if (Value.type "tuple" == Value.type "list" || Value.type "tuple" == Value.type "tuple") = true then _ else _) _ _ _
  rw [if_pos (by decide)]
  refine wpAny_bind (wpAny_seqItems hoq' hdq (wpAny_pure ?_))
  show wpAny _ _ (holding [key, p.2] (dictSet d key p.2)) _ _ _
  refine wpAny_holding (wpAny_dictSet_pairs (hsz := by simp only [zzQ] at hz; omega) hkey hm' λ h'' hm'' hs'' => ?_)
  have sm2 : ∀ b o, b ≠ d -> h'.get? b = some o -> h''.get? b = some o := λ b o hb e => (hs''.2 b hb).trans e
  refine wpAny_pure ⟨plainId_quiet ZM _, ?_⟩
  have hit'' : h''.IsListIter I l (i + 1) := let ⟨o, ho, r⟩ := hit'; ⟨o, sm2 I o (Ne.symm hdI) ho, r⟩
  have hl'' : h''.IsList l items := let ⟨o, ho, r⟩ := hl'; ⟨o, sm2 l o (zzN (zzH hlN hdN)) ho, r⟩
  have keep : ∀ b o, b < N -> s.heap.get? b = some o -> h''.get? b = some o := λ b o hb e => sm2 b o (zzN (zzH hb hdN)) (sm b o (zzN (zzH hb hIN)) e)
  have := ih (i + 1) { s with heap := h'', toks := s.toks + 1 } (stored kvs p.1 p.2) hit'' hl'' hm'' (by have := zjr kvs p.1 p.2; simp only [zzQ] at hz; omega)
   (λ j p' hj => by
    obtain ⟨q', key', a1, a2, ⟨o', a3, a4⟩, a5⟩ := hp (j + 1) p' (by simpa using hj)
    exact ⟨q', key', by rw [show i + 1 + j = i + (j + 1) by omega]; exact a1, a2, ⟨o', keep q' o' a2 a3, a4⟩, a5⟩)
   (by rw [show i + 1 + rest.length = i + (p :: rest).length by simp only [zzQ]; omega]; exact he)
   (λ h3 tk hm3 k3 => hR h3 tk hm3 λ b o hb e => k3 b o hb (keep b o hb e))
  exact this
end
theorem zdZ {prog : Program} {w : World} {κ : Type} [DecidableEq κ] {knd : KeyKind prog w κ} {A : Around} {E : Value -> Shared -> Prop} {s : Shared} {l : Addr} {o : Obj} {items : Array Value} {n : Nat} {ps : List (κ × Value)} {Q : Value -> Shared -> Prop} (hh : A.handled = none)
 (ho : s.heap.get? l = some o) (hc : o.cls = .type "list") (hd : o.data = .seq items n) (hn : o.dict = none) (hsz : ps.length <= sizeLine)
 (hp : ∀ (j : Nat) (p : κ × Value), ps[j]? = some p -> ∃ (q : Addr) (key : Value), items[j]? = some (Value.ref q) /\ IsTup s.heap q #[key, p.2] /\ knd.is p.1 key = true) (he : items[ps.length]? = none)
 (h : ∀ h' tk, h'.DictOf knd s.heap.objs.size (putAll [] ps) -> (∀ b o, s.heap.get? b = some o -> h'.get? b = some o) -> Q (.ref s.heap.objs.size) { s with heap := h', toks := tk }) : wpAny (model prog w) A (call (.type "dict") [.ref l]) Q E s := by
 refine callType_codes (Q₁ := λ obj s₁ => obj = .ref s.heap.objs.size /\ s₁ = { s with heap := s.heap.push { cls := .type "dict", data := .dict #[] } }) F.kt_called_dict (F.kt_typeCall_dict_1 _) F.entry_dict_init (kt_code_dict_new _ ⟨rfl, rfl⟩) ?_
 rintro obj s₁ ⟨rfl, rfl⟩
 have hnew : (s.heap.push { cls := .type "dict", data := .dict #[] }).DictOf knd s.heap.objs.size [] := Heap.DictOf.new s.heap
 have k1 : ∀ b o, s.heap.get? b = some o -> (s.heap.push { cls := .type "dict", data := .dict #[] }).get? b = some o := λ b o e => Heap.get?_push_of_some _ e
 have hT : ({ s with heap := s.heap.push { cls := .type "dict", data := .dict #[] } } : Shared).TypeIs (.ref l) "list" := ⟨o, k1 l o ho, hc⟩
 refine ⟨hnew.typeIs, F.args_dict_init_2 _ _, ?_⟩
 unfold Builtin.«dict.__init__»
 refine wpAny_bind ?_
 unfold Builtin.Dict.selfAndRest
 refine wpAny_bind (wpAny_notOrdered_dict hnew.typeIs ?_)
 show wpAny _ _ (pure (s.heap.objs.size, [Value.ref l])) _ _ _
 refine wpAny_pure ?_
 show wpAny _ _ (Builtin.Dict.updateFrom "dict.__init__" s.heap.objs.size (.ref l) [] .none) _ _ _
 unfold Builtin.Dict.updateFrom
 refine wpAny_bind (wpAny_typeOf hT ?_)
 rw [if_pos (by decide)]
 refine wpAny_bind (zjv (k1 l o ho) hc hd hn hh λ h2 tk2 k2 => ?_)
 rw [if_pos (by decide)]
 refine wpAny_bind (wpAny_rule ?_)
 have ho2 := k2 l o (k1 l o ho)
 have hl2 : h2.IsList l items := ⟨o, ho2, hc, n, hd⟩
 refine wpAny_bind (wpAny_pyIter_list hl2 ?_)
 have k3 : ∀ b o, h2.get? b = some o -> (h2.push { cls := .type "list_iterator", data := .fields #[.ref l, .int 0 0] }).get? b = some o := λ b o e => Heap.get?_push_of_some _ e
 have hd2 : s.heap.objs.size < h2.objs.size := by
  obtain ⟨o', _, _, ho', _⟩ := hnew
  exact Heap.lt_size (k2 _ _ ho')
 refine wpAny_pure ⟨plainId_quiet ZM _, ?_⟩
 refine zmP (A := A.in1) (N := s.heap.objs.size) (knd := knd) (items := items) hh (zzK _) (Nat.le_of_lt hd2) (zzN hd2) (Heap.lt_size ho) ps 0 { s with heap := h2.push { cls := .type "list_iterator", data := .fields #[.ref l, .int 0 0] }, toks := tk2 } [] ⟨_, Heap.get?_push_size _ rfl, rfl, rfl⟩ ⟨o, k3 l o ho2, hc, n, hd⟩ ?_ (by rw [List.length_nil]; omega) (λ j p hj => ?_) (by rw [Nat.zero_add]; exact he) (λ h' tk dd kk => ?_)
 · obtain ⟨o', es, ep, ho', r⟩ := hnew
   exact ⟨o', es, ep, k3 _ _ (k2 _ _ ho'), r⟩
 · obtain ⟨q, key, a1, ⟨o', a3, a4⟩, a5⟩ := hp j p hj
   exact ⟨q, key, by rw [Nat.zero_add]; exact a1, Heap.lt_size a3, ⟨o', k3 _ _ (k2 _ _ (k1 _ _ a3)), a4⟩, a5⟩
 · exact ⟨rfl, h h' tk dd λ b o e => kk b o (Heap.lt_size e) (k3 _ _ (k2 _ _ (k1 _ _ e)))⟩
def zaw : List D -> Option (List (Key × D))
 | [] => some []
 | d :: r => (asT d).bind λ l => (zog l).bind λ p => (ziL p.1).bind λ k => (zaw r).bind λ t => some ((k, p.2) :: t)
def zsq : D -> Option R0
 | .dct kvs => some (.fd kvs)
 | .lst ds => (zaw ds).bind λ kvs => if (kvs.map (·.1)).Nodup then some (.fd kvs) else none
 | _ => none
def zhH : List D -> Option R0 := on1 zsq
theorem zeF {κ : Type} [DecidableEq κ] : ∀ (ps acc : List (κ × Value)), ((acc ++ ps).map (·.1)).Nodup -> putAll acc ps = acc ++ ps
 | [], acc, _ => (List.append_nil acc).symm
 | p :: r, acc, h => by
  have hs : stored acc p.1 p.2 = acc ++ [p] := by
   unfold stored
   rw [if_neg]
   rw [List.map_append, List.map_cons] at h
   obtain ⟨_, _, n3⟩ := List.nodup_append.mp h
   intro z
   obtain ⟨q, m, e⟩ := List.any_eq_true.mp z
   exact n3 q.1 (List.mem_map_of_mem m) p.1 (zzC ..) (of_decide_eq_true e)
  show putAll (stored acc p.1 p.2) r = _
  rw [hs, zeF r (acc ++ [p]) (by rw [List.append_assoc]; exact h), List.append_assoc]; rfl
section
variable {X : Cx} {kd : KD} {O : Addr -> Prop} {pins : List (Addr × Obj)} {σ : St} {H : Hp} {s : Shared}
theorem zeX (I : Inv X pins σ H s) : ∀ {vs : List V} {us : List Value} {ds : List D} {dk : List (Key × D)}, RpL X.K kd O H vs ds -> Vals vs us -> zaw ds = some dk ->
 ∃ (kvs : List (Key × V)) (ps : List (Key × Value)), KV kvs ps /\ RpM X.K kd O H kvs dk /\ ps.length = us.length /\ ps.map (·.1) = dk.map (·.1) /\ kvs.length = ps.length /\
  ∀ (j : Nat) (p : Key × Value), ps[j]? = some p -> ∃ (q : Addr) (key : Value), us[j]? = some (Value.ref q) /\ IsTup s.heap q #[key, p.2] /\ (wu X.prog X.w).is p.1 key = true
 | _, _, [], _, rl, r, e => by
  cases rl
  cases r
  cases e
  exact ⟨[], [], .nil, .nil, rfl, rfl, rfl, λ j p h => by simp at h⟩
 | _, _, d :: ds, dk, rl, r, e => by
  cases rl with
  | cons rp rl =>
   rename_i v vs
   cases r with
   | cons r0 r =>
    rename_i u us
    obtain ⟨l0, e0, e2⟩ := bS_ (show (asT d).bind _ = _ from e)
    obtain ⟨⟨k, dv⟩, e1, e3⟩ := bS_ e2
    cases zma e0
    cases zgq e1
    · obtain ⟨kk, h1, e⟩ := bS_ e3
      obtain ⟨t, h2, e⟩ := bS_ e
      cases e
      obtain ⟨kvs, ps, a1, a2, a3, a4, a5, a6⟩ := zeX I (ds := ds) (dk := t) rl r h2
      cases rp.vw with
      | tup rp' hq rl' =>
       rename_i q ws
       cases rl' with
       | cons k1 rl' =>
        cases rl' with
        | cons k2 rl' =>
         cases rl'
         rename_i kv' vv'
         have ek := zmA k1.vw h1
         subst ek
         obtain ⟨its, rv, ht, _⟩ := I.tuple hq
         obtain ⟨u1, u2, rfl, r1, r2⟩ := vals2 rv
         cases r0
         refine ⟨(kk, vv') :: kvs, (kk, u2) :: ps, .cons ⟨rfl, r2⟩ a1, .cons k2 a2, congrArg (· + 1) a3, congrArg (kk :: ·) a4, congrArg (· + 1) a5, λ j p h => ?_⟩
         cases j with
         | zero =>
          simp at h
          subst h
          exact ⟨q, u1, rfl, ht, zbk r1⟩
         | succ j => simpa using a6 j p (by simpa using h)
theorem zjx (hc : X.calm = true) (hk : KdOk X kd) : CallD X kd (.type "dict") zhH := by
 intro pins s σ H xs us Q I r h
 obtain ⟨O, ds, z, ht, vl, he, q⟩ := h
 obtain ⟨x, d, rfl, vx, he⟩ := zbY vl he
 cases vx with
 | dct hr rm => exact zkw hk pins s σ H _ us Q I r ⟨O, [.dct _], z, ht, .cons (.dct hr rm) .nil, he, q⟩
 | lst hr rl =>
  obtain ⟨dk, h1, he⟩ := bS_ (show (zaw _).bind _ = _ from he)
  obtain ⟨hn, he⟩ := yt he
  cases he
  obtain ⟨u, rfl, ru⟩ := vals1 r
  cases ru
  obtain ⟨its, rv, ⟨o, n, ho, hcl, hdi, hda⟩, hz⟩ := I.list hr.sq
  obtain ⟨kvs, ps, a1, a2, a3, a4, a5, a6⟩ := zeX I rl rv h1
  have hlen := rv.length
  refine zdZ (knd := wu X.prog X.w) (ps := ps) (I.ok.hd hc) ho hcl hda hdi (by omega) (λ j p hj => ?_) (by rw [a3]; simp) λ h' tk dd kp => ?_
  · obtain ⟨q', key, b1, b2, b3⟩ := a6 j p hj
    exact ⟨q', key, by simpa using b1, b2, b3⟩
  · rw [zeF ps [] (by rw [List.nil_append, a4]; exact hn), List.nil_append] at dd
    exact ⟨.ref _, _, I.laid (a := s.heap.objs.size) (o := .dK kvs) (t' := tk) kp (zzK _) (ziB (by omega) (beq_eq_false_iff_ne.mpr (Ne.symm (zzN I.big))) a1 dd), rfl, zlq q a2 _ (I.hok.fresh (zzK _))⟩
 | _ => cases he
end
theorem l1_ {α : Type} {P : List α -> Prop} (h : ∀ a, P [a]) : ∀ us : List α, us.length = 1 -> P us
 | [a], _ => h a
theorem l2_ {α : Type} {P : List α -> Prop} (h : ∀ a b, P [a, b]) : ∀ us : List α, us.length = 2 -> P us
 | [a, b], _ => h a b
theorem l3_ {α : Type} {P : List α -> Prop} (h : ∀ a b c, P [a, b, c]) : ∀ us : List α, us.length = 3 -> P us
 | [a, b, c], _ => h a b c
theorem l4_ {α : Type} {P : List α -> Prop} (h : ∀ a b c d, P [a, b, c, d]) : ∀ us : List α, us.length = 4 -> P us
 | [a, b, c, d], _ => h a b c d
theorem l5_ {α : Type} {P : List α -> Prop} (h : ∀ a b c d e, P [a, b, c, d, e]) : ∀ us : List α, us.length = 5 -> P us
 | [a, b, c, d, e], _ => h a b c d e
section
variable {X : Cx} {kd : KD}
theorem aI {c : Int} {j pos} : AE X kd (.Constant (.int c) j pos) (fC (.int c)) := zgl zgw λ _ _ => .int _
theorem aS {c : Str} {j pos} : AE X kd (.Constant (.str c) j pos) (fC (.str c)) := zgl zpG λ _ _ => .str _
theorem aZ {j pos} : AE X kd (.Constant .none j pos) (fC .non) := zgl zqm λ _ _ => .non
theorem aB {c : Bool} {j pos} : AE X kd (.Constant (.bool c) j pos) (fC (.bl c)) := zgl zrf λ _ _ => .bl _
theorem ax {P : Program} {w : World} {K : zC} {a b : Expr} {fa fb : EF} {pos : Pos} (hkd : KD1 P w K kd) (ha : AE X kd a fa) (hb : AE X kd b fb) (h1 : X.prog = P := by rfl) (h2 : X.w = w := by rfl) (h3 : X.K = K := by rfl) (hm : Xe b := by exact λ _ _ => rfl) : AE X kd (.Subscript a b pos) (f2 fa fb ixP) := zlH (zsi (hkd _ h1 h2 h3)) ha hb hm
theorem sv (z : Bool) (i : Nat) {x : Str} {pos pos' : Pos} {e : Expr} {fa : EF} (hN : X.N.Nodup) (he : AE X kd e fa) (hi : X.N[i]? = some x := by rfl) (hx : Loc X.env.scope x := by first | exact Or.inl rfl | exact Or.inr rfl) (hs : swapsWith e (some (.Name x pos')) pos.line X.env = pure false := by rfl) (hf : X.fn x = true \/ X.env.scope.names.lookup x = some .local := by first | exact Or.inl rfl | exact Or.inr rfl) :
 ASt X kd (.Assign [.Name x pos'] e pos) (zW z i fa) := zpK hN hi hx he hs hf
theorem an (i : Nat) {x : Str} {pos : Pos} (hN : X.N.Nodup) (hi : X.N[i]? = some x := by rfl) (hx : Loc X.env.scope x := by first | exact Or.inl rfl | exact Or.inr rfl) (hf : X.fn x = true \/ X.env.scope.names.lookup x = some .local := by first | exact Or.inl rfl | exact Or.inr rfl) : AG X kd (.Name x pos) [i] (gN i) := znB hN hi hx hf
theorem av (i : Nat) {x : Str} {pos : Pos} (hN : X.N[i]? = some x := by rfl) (hv : Vis X.env.scope x := by first | exact Or.inl rfl | exact Or.inr (Or.inl rfl) | exact Or.inr (Or.inr rfl)) (hd : (x == ("__debug__" : Str)) = false := by decide)
 (hcd : (x == ("__classdict__" : Str)) = false := by decide) : AE X kd (.Name x pos) (fV i) := zqG (zmB hN hv hd hcd)
end
structure CI (K : zC) (kd : KD) (mg : Str -> Option Value) (c : Str) (C : Addr) : Prop where
 eq : kd.c c = C
 cl : Cls K C
 mks : PySem.W.makesIn K C = true
 kp : PySem.W.keepIn K (.ref C) = true
 mg : mg c = some (.ref C)
theorem szs {n : Nat} (h : n <= 1000000) : n <= sizeLine := zzL h (by decide)
section
variable {as : AS} {f fo a b : EF} {fr : AF} {s t : Bool} {x y z d : D} {c m : Str} {ns cs : List Str} {ds : List D} {tbl : List (Str × Fn)} {g : Fn} {o : O}
inductive SqD : D -> List D -> Prop
 | l (ds : List D) : SqD (.lst ds) ds
 | t (ds : List D) : SqD (.tup ds) ds
theorem zcg {α : Type} {h : α -> D} {it : α -> It1} {gg : GF} {fe : EF} {as0 : AS} : ∀ (l : List α), (∀ q ∈ l, ∃ as1, gg (it q) as0 = some as1 /\ WE fe as1 (h q)) -> ∃ os, wJ gg yV fe as0 (l.map it) = some os /\ O.strs os = true /\ O.toDs os = l.map h
 | [], _ => ⟨[], rfl, rfl, rfl⟩
 | q :: l, H => by
  obtain ⟨os, e1, e2, e3⟩ := zcg l λ p m => H p (zzA _ m)
  obtain ⟨as1, h1, o, h2, h3, h4⟩ := H q zzC
  refine ⟨o :: os, ?_, by show (o.str && O.strs os) = true; rw [h3, e2]; rfl, by show o.toD :: O.toDs os = _; rw [h4, e3]; rfl⟩
  show wJ gg yV fe as0 (it q :: l.map it) = _
  unfold wJ
  rw [h1]; show ((fe as1).bind _) = _
  rw [h2]; show (if o.str = true then _ else _) = _
  rw [if_pos h3, e1]; rfl
theorem zfD {α : Type} {h : α -> D} {p : α -> Bool} {it : α -> It1} {gg : GF} {tt : TF} {fe : EF} {as0 : AS} : ∀ (l : List α), (∀ q ∈ l, ∃ as1, gg (it q) as0 = some as1 /\ WT tt as1 (p q) /\ (p q = true -> WE fe as1 (h q))) -> ∃ os, wJ gg tt fe as0 (l.map it) = some os /\ O.strs os = true /\ O.toDs os = (l.filter p).map h
 | [], _ => ⟨[], rfl, rfl, rfl⟩
 | q :: l, H => by
  obtain ⟨os, e1, e2, e3⟩ := zfD l λ p m => H p (zzA _ m)
  obtain ⟨as1, h1, h2, h3⟩ := H q zzC
  cases hp : p q with
  | false =>
   rw [hp] at h2
   refine ⟨os, zfF h1 h2 e1, e2, ?_⟩
   rw [List.filter_cons_of_neg (by simp [hp])]; exact e3
  | true =>
   rw [hp] at h2
   obtain ⟨o, k1, k2, k3⟩ := h3 hp
   refine ⟨o :: os, ?_, by show (o.str && O.strs os) = true; rw [k2, e2]; rfl, ?_⟩
   · unfold WT at h2
     show wJ gg tt fe as0 (it q :: l.map it) = _
     unfold wJ
     rw [h1]; show (tt as1).bind _ = _
     rw [h2]; show ((fe as1).bind _) = _
     rw [k1]; show (if o.str = true then _ else _) = _
     rw [if_pos k2, e1]; rfl
   · rw [List.filter_cons_of_pos hp]
     show o.toD :: O.toDs os = _
     rw [k3, e3]; rfl
theorem zhR {fi : IF} {cap : List (Option Nat)} {gg : GF} {tt : TF} {fe : EF} {xs : List It1} {os : List O} {zs : List D} (h1 : fi as = some (xs, as)) (hl : xs.length <= 1000000) (h2 : wJ gg tt fe (YM cap as) xs = some os) (hs : O.strs os = true) (e : O.toDs os = zs) : WE (yc fi cap gg tt fe) as (.lst zs) := by
 refine ⟨.nd .ls os, ?_, hs, congrArg D.lst e⟩
 unfold yc
 rw [h1]; show (if xs.length <= sizeLine then _ else _) = _
 rw [if_pos (szs hl), h2]; rfl
theorem zgZ {α : Type} {h : α -> D} {it : α -> It1} {fi : IF} {cap : List (Option Nat)} {gg : GF} {fe : EF} (l : List α) (h1 : fi as = some (l.map it, as)) (hl : l.length <= 1000000) (H : ∀ q ∈ l, ∃ as1, gg (it q) (YM cap as) = some as1 /\ WE fe as1 (h q)) : WE (yc fi cap gg yV fe) as (.lst (l.map h)) := by
 obtain ⟨os, e1, e2, e3⟩ := zcg l H
 exact zhR h1 (by rw [zD]; exact hl) e1 e2 e3
theorem zpC {α : Type} {h : α -> D} {p : α -> Bool} {it : α -> It1} {fi : IF} {cap : List (Option Nat)} {gg : GF} {tt : TF} {fe : EF} (l : List α) (h1 : fi as = some (l.map it, as)) (hl : l.length <= 1000000) (H : ∀ q ∈ l, ∃ as1, gg (it q) (YM cap as) = some as1 /\ WT tt as1 (p q) /\ (p q = true -> WE fe as1 (h q))) : WE (yc fi cap gg tt fe) as (.lst ((l.filter p).map h)) := by
 obtain ⟨os, e1, e2, e3⟩ := zfD l H
 exact zhR h1 (by rw [zD]; exact hl) e1 e2 e3
theorem znJ {g : List D -> Option R0} (ha : WE a as x) (hg : g [x] = some (.im z)) : WE (fP (aC a aN) g) as z := WD.e (zqd ha hg)
theorem zlQ {fd : DF} {os : List O} {zs : List D} (h : WO fd as os) (hl : os.length <= 1000000) (hs : O.strs os = true) (e : O.toDs os = zs) : WE (yN fd) as (.tup zs) := by
 refine ⟨Y4 os, zdE h (szs hl), ?_, ?_⟩
 · unfold Y4; split
   · exact hs
   · exact hs
 · subst e
   unfold Y4; split
   · rfl
   · rfl
theorem zqD {fd : DF} {os : List O} (h : WE a as x) (hr : WO fd as os) : ∃ o, o.str = true /\ o.toD = x /\ WO (dC a fd) as (o :: os) := by
 obtain ⟨o, h1, h2, h3⟩ := h
 exact ⟨o, h2, h3, ZS h1 hr⟩
theorem zjG (ha : WE a as x) : WE (yN (dC a dN)) as (.tup [x]) := by
 obtain ⟨o, h1, rfl, h3⟩ := zqD ha yo
 exact zlQ h3 (by show 1 <= _; omega) (by show (o.str && true) = true; rw [h1]; rfl) rfl
theorem Wn (ha : WE a as x) (hb : WE b as y) : WE (yN (dC a (dC b dN))) as (.tup [x, y]) := by
 obtain ⟨p, k1, rfl, k3⟩ := zqD hb yo
 obtain ⟨o, h1, rfl, h3⟩ := zqD ha k3
 exact zlQ h3 (by show 2 <= _; omega) (by show (o.str && (p.str && true)) = true; rw [h1, k1]; rfl) rfl
theorem zro {g : D -> D -> Option R0} (ha : WE a as x) (hb : WE b as y) (hg : g x y = some (.im z)) : WE (f2 a b g) as z := WD.e (f2E ha hb hg)
end
open AutoSeq1 (wpAny_loadPart')
def ixT (x y : D) : Option R0 := match x with
 | .dt ks ds => (zhd y).bind λ k => imR (zbL ks ds k)
 | _ => none
def zot (tk tv : TE) : TE := λ σ H Q => ∀ p, H p = none -> tk σ (upd H p (.dT [])) λ x H1 => tv σ H1 λ y H2 => H2 p = some (.dT []) /\ ∃ (k : List Key) (b : Addr), x = .ref b /\ H2 b = some (.tup (k.map kV)) /\ Q (.ref p) (upd H2 p (.dT [(k, y)]))
theorem zkY {X : Cx} {pos : Pos} {k v : Expr} {tk tv : TE} (hu : X.A.units + 1 < cLine) (hk : PE X k tk) (hv : PE X v tv) : PE X (.Dict [some k] [v] pos) (zot tk tv) := by
 intro pins s σ H Q I q
 have hn := I.hok.fresh (zzK s.heap.objs.size)
 have I1 := I.laid (a := s.heap.objs.size) (o := .dT []) (h' := s.heap.push { cls := .type "dict", data := .dict #[] }) (t' := s.toks) (λ _ _ q => Heap.get?_push_of_some _ q) (zzK _) (zmI s.heap I.big)
 refine wpAny_Dict_any rfl rfl (by simp) (by show 1 <= 15; decide) (thn (znc (pos := pos) hk hv znk pins _ σ _ (λ ps H2 => match ps with
  | [(x, y)] => H2 s.heap.objs.size = some (.dT []) /\ ∃ (k : List Key) (b : Addr), x = .ref b /\ H2 b = some (.tup (k.map kV)) /\ Q (.ref s.heap.objs.size) (upd H2 s.heap.objs.size (.dT [(k, y)]))
  | _ => False) I1 (q _ hn)) λ ws s2 ⟨ps, H2, I2, rel, q3⟩ => ?_)
 match ps, rel, q3 with
 | [(x, y)], rel, ⟨e, k, b, ex, eb, q2⟩ =>
  subst ex
  cases rel with
  | @cons p1 q1 _ _ h t =>
     cases t
     obtain ⟨w1, w2⟩ := q1
     cases (show w1 = Value.ref b from h.1)
     obtain ⟨z, hd, xs, r0, dd⟩ := zoY I2.hok e
     cases r0
     unfold storeAll
     rw [List.forIn_cons]
     refine wpAny_bind (wpAny_bind (wpAny_dictSet_heap (hsz := Nat.zero_le _) (show X.A.units < cLine by omega) (zcu I2.hok eb) dd λ h' dd' hs => wpAny_pure ?_))
     show wpAny _ _ (forIn ([] : List (Value × Value)) PUnit.unit _) _ _ _
     rw [List.forIn_nil]
     refine wpAny_pure ⟨.ref s.heap.objs.size, _, ?_, rfl, q2⟩
     obtain ⟨q, es, ep, hq, h2, h3, h4, _, h5⟩ := dd'
     have r0 : KT H2 ([] : List (List Key × V)) [] := .nil
     refine zgE I2 (by rw [e]; exact True.intro) hs ⟨q, hq⟩ ⟨by show 1 <= _; rw [sizeLine_eq]; decide, hd, _, (r0.put k eb h.2).keeps λ c ys ec => ?_, q, es, ep, hq, h2, h3, h4, h5⟩
     rw [ye (zoS ec e (λ z => nomatch z))]
     exact ec
def zhw (i : Nat) (fk fv : EF) : SF := λ as => (fv as).bind λ p => (Va p.2 p.1).bind λ x => match x.2[i]? with
 | some (some (.nd (.dt _) _)) => (fk x.2).bind λ q => (q.1.frz.view q.2).bind λ kd => (zhd kd.1).bind λ k => match q.2[i]? with
  | some (some (.nd (.dt ks) os)) => if ks.length < sizeLine then some (.nx (q.2.set i (some (.nd (.dt (zcF ks k)) (Vs ks os k (.lf x.1.1 x.1.2)))))) else none
  | _ => none
 | _ => none
section
variable {X : Cx} {kd : KD} {e a b c o i : Expr} {pos pos' : Pos} {fa fb fk fv : EF}
theorem zor {j : Nat} {x : Str} {p : Pos} (hu : X.A.units + 1 < cLine) (ho : PE X (.Name x p) (zcB j)) (hk : AE X kd i fk) (hv : AE X kd e fv) (hs : swapsWith e (some (.Subscript (.Name x p) i pos')) pos.line X.env = pure false) :
 ASt X kd (.Assign [.Subscript (.Name x p) i pos'] e pos) (zhw j fk fv) := by with_unfolding_all exact (ZP (znl hu ho hk hv hs) λ D σ H h => by
 obtain ⟨F, B, ad, as, o, R, e, q⟩ := h
 obtain ⟨⟨p, as1⟩, h1, e⟩ := bS_ (show (fv as).bind _ = _ from e)
 obtain ⟨⟨⟨st, d⟩, as2⟩, h2, e⟩ := bS_ e
 cases k1 : as2[j]? with
 | none => rw [k1] at e; cases e
 | some a0 =>
  rw [k1] at e
  match a0, e, k1 with
  | some (.nd (.dt ks0) os0), e, k1 =>
   obtain ⟨⟨pk, as3⟩, h3, e⟩ := bS_ (show (fk as2).bind _ = _ from e)
   obtain ⟨⟨dk, lk⟩, h4, e⟩ := bS_ e
   obtain ⟨k, h5, e⟩ := bS_ e
   refine ⟨F, B, ad, as, p, as1, R, h1, λ v T1 ad1 H1 R1 rv1 g1 => ?_⟩
   obtain ⟨ad2, R2, rp, le⟩ := Xq R1 rv1 h2
   obtain ⟨v0, hs0, ro0⟩ := R2.sl j _ k1
   refine ⟨v0, hs0, YS R2 h3 λ u ad3 H3 R3 rv3 g3 => ?_⟩
   cases k2 : as3[j]? with
   | none => rw [k2] at e; cases e
   | some a2 =>
    rw [k2] at e
    match a2, e, k2 with
    | some (.nd (.dt ks) os), e, k2 =>
     obtain ⟨hz, e⟩ := yt e
     cases e
     obtain ⟨v1, hs1, ro1⟩ := R3.sl j _ k2
     rw [hs0] at hs1
     cases hs1
     generalize hfp : ad3 j = fp1 at ro1
     cases ro1 with
     | dt hH hl rl =>
          rename_i l vs fp
          obtain ⟨bk, rfl, hbk⟩ := zbr (Zq.vw R3 rv3 h4) h5
          have ro : RoS X.K kd F B (Gw [] ad3) H3 v (.lf st d) [] := .lf (Rp.grow g3 rp)
          have hlo : ks.length = os.length := by rw [hl, rl.length]
          have hex : ∃ fp', fp'.Sublist fp /\ Zx X.K kd F B (Gw [] ad3) H3 (Vs ks vs k v) (Vs ks os k (.lf st d)) fp' := by
           unfold Vs
           split
           · exact zmw ro hl rl
           · exact ⟨fp, List.Sublist.refl _, by have := rl.append (RoL.one ro); rw [List.append_nil] at this; exact this⟩
          obtain ⟨fp', hsub, rl'⟩ := hex
          have hnd := R3.nd j
          rw [hfp] at hnd
          refine ⟨l, _, rfl, .inr ⟨_, k, bk, hH, rfl, hbk, by rw [List.length_zip, hl, Nat.min_self, <- hl]; exact hz, rfl⟩, ?_⟩
          rw [zmq hl]
          obtain ⟨R4, g4⟩ := R3.mut (fo := []) (n := .nd (.dt (zcF ks k)) (Vs ks os k (.lf st d))) (u := .dT ((zcF ks k).zip (Vs ks vs k v))) (zzD.mp k2).1 hfp hs0 (fp' := fp') (λ a m => by
           rw [List.append_nil] at m ⊢; exact hsub.mem m) (by rw [List.append_nil]; exact (zzT.mp hnd).2.sublist hsub) (by rw [hH]; simp) λ H' G' hl' gr kp => .dt hl' (zgh hl) (Zx.grow gr kp rl')
          exact q σ _ _ R4 (((g1.trans (Grow.less le)).trans g3).trans g4))
def zdu (fk fv : EF) : EF := λ as => (fk as).bind λ p => (fv p.2).bind λ q => match p.1, q.1 with
 | .ow ko, .ow vo => (zhd ko.toD).bind λ k => some (.ow (.nd (.dt [k]) [vo.frz]), q.2)
 | _, _ => none
theorem zku (hu : X.A.units + 1 < cLine) (ha : AE X kd a fk) (hb : AE X kd b fv) : AE X kd (.Dict [some a] [b] pos) (zdu fk fv) := by with_unfolding_all exact (wC (zkY hu ha hb) λ σ H Q h => by
 obtain ⟨F, B, ad, as, r, as', R, e, q⟩ := h
 obtain ⟨⟨p1, as1⟩, h1, e⟩ := bS_ (show (fk as).bind _ = _ from e)
 obtain ⟨⟨p2, as2⟩, h2, e⟩ := bS_ e
 match p1, p2, e, h1, h2 with
 | .ow ko, .ow vo, e, h1, h2 =>
  obtain ⟨k, hk, e⟩ := bS_ (show (zhd ko.toD).bind _ = _ from e)
  cases e
  intro p hp
  have kp : ∀ b o, H b = some o -> upd H p (.dT []) b = some o := λ b o hb => by rw [ye (xj hb hp)]; exact hb
  obtain ⟨R2, g2⟩ := R.news (T' := [p]) (by simp) (λ a m => by rw [zzO.mp m]; exact hp) kp (λ a m => by rw [zzO.mp m, yU]; simp)
  refine YS R2.hide h1 λ v ad1 H1 R1 rv1 g1 => YS R1 h2 λ u ad3 H3 R3 rv2 g3' => ?_
  have g3 := g1.trans g3'
  have np : ¬ Gw [] ad p := λ z => (R.gtr p z).1 hp
  have hp3 : H3 p = some (.dT []) := g3.keep p _ yU np
  have rk := zdP (show RoS X.K kd F _ (Gw [] ad1) H1 v ko.frz [] from rv1)
  obtain ⟨bk, rfl, hbk⟩ := zbr (Rp.grow g3' rk).vw hk
  have rl : Zx X.K kd F _ (Gw [] ad3) H3 [u] [vo.frz] [] := RoL.one rv2
  have Ru := R3.unhide (T1 := [p]) (T2 := []) (by simp) (λ a m z => by rw [zzO.mp m] at z; exact (R.btr p z).1 hp)
  rw [List.append_nil] at Ru
  have rlu : Zx X.K kd F B (Gw [p] ad3) H3 [u] [vo.frz] [] := Zx.lv (V4 (T1 := [p]) (T2 := [])) rl
  refine ⟨hp3, k, bk, rfl, hbk, ?_⟩
  obtain ⟨R4, g4⟩ := Ru.wrT (u := .dT [(k, u)]) (show p ∈ [p] by simp)
  refine q _ [p] ad3 _ R4 (.dt (ks := [k]) (vs := [u]) yU rfl (Zx.grow g4 (λ _ m => nomatch m) rlu)) ((g2.trans ⟨λ b u e n => g3.keep b u e λ z => n (Gw.drop b z), λ b z => ?_⟩).trans g4)
  rcases z with z | z
  · exact .inl (.inl z)
  · exact (g3.own b (.inr z)).elim (λ y => .inl (Gw.drop b y)) .inr)
theorem zoG (hu : X.A.units + 1 < cLine) : IxD X kd ixT := by
 intro value slice pins s σ H x y v u Q I rx ry h hs
 obtain ⟨O, d, e, r, ht, vx, vy, he, q⟩ := h
 cases vx with
 | dt hH l rl =>
  obtain ⟨k, h1, he⟩ := bS_ (show (zhd e).bind _ = _ from he)
  obtain ⟨d, h2, rfl⟩ := zbB he
  cases rx
  obtain ⟨b, rfl, hb⟩ := zbr vy h1
  rcases zel k rl l with ⟨v1, d1, e1, e2, rp⟩ | ⟨e1, e2⟩
  · rw [h2] at e2
    cases e2
    obtain ⟨_, _, _, _, dd⟩ := zhz I.hok (.inl hH)
    have g := zhu.t hH hb
    rw [e1] at g
    exact tail_any dd.typeIs PySem.F.slot_dict_getitem.lookup (zks hu I g ry λ w' s' I' rw' => ⟨v1, H, I', rw', yS q rp⟩) hs
  · rw [h2] at e2; cases e2
 | _ => cases he
end
theorem zhJ {K : zC} {kd : KD} {F : Addr -> Prop} {H : Hp} {a : Addr} {vs : List V} {st : Bool} {ds : List D} (ft : ∀ a, F a -> H a ≠ none) (hs : ∀ H3 : Hp, (∀ b u, H b = some u -> H3 b = some u) -> SqL K H3 a vs) (r : RpL K kd (λ a => st = true /\ F a) H vs ds) : ItC K kd F H (Ite K a) (zac st 0 ds) := ⟨λ H3 T k hT i => by
 have hr3 := hs H3 k
 have hlen := zfO st 0 ds
 refine ⟨λ hi => ?_, λ hi => ⟨_, hr3, by rw [r.length]; omega⟩, λ v H4 hy => ?_⟩
 · obtain ⟨u, hu, _⟩ := r.get (zzB (by rw [<- hlen]; exact hi))
   exact ⟨_, u, hr3, hu⟩
 · obtain ⟨A, x, hn, rfl, rfl, hv⟩ := hy
   have hnH : H A = none := by
    cases e : H A with
    | none => rfl
    | some u => rw [k A u e] at hn; cases hn
   refine ⟨Zh hn, λ y hy => ?_⟩
   obtain ⟨d, hd, rfl⟩ := zfJ hy
   obtain ⟨u, hu, ru⟩ := r.get hd
   have := hv _ hr3
   rw [hu] at this
   cases this
   rw [Nat.zero_add]
   exact .tup (λ z => z.2.elim (λ y => ft A y hnH) λ y => (hT A y).2 hn) yU (.cons (.int _) (.cons ((ru.since (λ b o q => Zh hn b o (k b o q)) λ a z => (hT a z).1).less λ a z => z.2.elim (λ y => .inl ⟨z.1, y⟩) .inr) .nil))⟩
def zld (i : Nat) (k : Int) : SF := λ as => match as[i]? with
 | some (some (.lf _ (.int n))) => some (.nx (as.set i (some (.lf true (.int (n + k))))))
 | _ => none
section
variable {X : Cx} {kd : KD} {e : Expr} {fa : EF} {pos pos' : Pos}
theorem znP {p : Pos} {elts : List Expr} {k : Nat} (hg : Gl X "enumerate") (hm : X.mg "enumerate" = none) (he : AE X kd e fa) (hs : starEach [e] X.env = [(false, eval e X.env)]) :
 AIc X kd (.Tuple elts k pos') (.Call (.Name "enumerate" p) [e] [] pos) (zok fa) := by
 with_unfolding_all (
 intro pins s σ H R I h
 obtain ⟨F, B, ad, as, ds, as', Rl, e', q⟩ := h
 obtain ⟨⟨p, as1⟩, h1, e'⟩ := bS_ (show (fa as).bind _ = _ from e')
 obtain ⟨⟨⟨st, x⟩, as2⟩, h2, e'⟩ := bS_ e'
 match x, e', h2 with
 | .lst xs, e', h2 =>
  cases e'
  refine zou hg hm (zbi he zdU hs) hs pins s σ H R I (show al X.K kd fa σ H _ from ⟨F, B, ad, as, p, as1, Rl, h1, λ v T1 ad1 H1 R1 rv1 g1 => ?_⟩)
  obtain ⟨ad2, R2, rp, le⟩ := Xq R1 rv1 h2
  cases rp with
  | lst hn hr rl => exact ⟨_, rfl, ⟨_, .inl hr⟩, q _ ad2 H1 R2 (g1.trans (Grow.less le)) (zhJ (R2.trk true) (λ H3 k => .inl (hr.elim (λ h => .inl (k _ _ h)) λ ⟨o, h⟩ => .inr ⟨o, k _ _ h⟩)) (rl.less λ a z => by have z1 := z.1; rw [z1]; exact z.2))⟩
  | lstK a b c rl => exact ⟨_, rfl, ⟨_, .inr ⟨_, _, _, a, rfl, rfl, rfl, b, c⟩⟩, q _ ad2 H1 R2 (g1.trans (Grow.less le)) (zhJ (R2.trk true) (λ H3 k => .inr ⟨_, _, _, a, rfl, rfl, rfl, b, c⟩) (rl.less λ a z => by have z1 := z.1; rw [z1]; exact z.2))⟩)
theorem zpO {i : Nat} {x : Str} {k : Int} {z : Nat} {p2 : Pos} (hN : X.N.Nodup) (hi : X.N[i]? = some x) (hx : Loc X.env.scope x) (hf : X.fn x = true \/ X.env.scope.names.lookup x = some .local) :
 ASt X kd (.AugAssign (.Name x pos') .Add (.Constant (.int k) z p2) pos) (zld i k) := by with_unfolding_all exact (ZP (zqi hN hi hx zgw zpZ hf) λ D σ H h => by
 obtain ⟨F, B, ad, as, o, R, e, q⟩ := h
 cases k1 : as[i]? with
 | none => unfold zld at e; rw [k1] at e; cases e
 | some a0 =>
  unfold zld at e
  rw [k1] at e
  match a0, e, k1 with
  | some (.lf st (.int n)), e, k1 =>
   cases e
   obtain ⟨v, hs, ro⟩ := R.sl i _ k1
   generalize ad i = fp1 at ro
   cases ro with
   | lf rp =>
    cases rp
    obtain ⟨ad2, R2, le⟩ := ziH (v := .int (n + k)) (z := true) (r := .ow (.lf true (.int (n + k)))) (o := .lf true (.int (n + k))) (i := i) R (show RoS _ _ _ _ _ _ _ _ _ from .lf (.int _)) rfl (zzD.mp k1).1
    exact ⟨_, hs, _, _, rfl, rfl, q _ ad2 H R2 (Grow.less le)⟩)
end
end PF
end
section
namespace G52
open PySem PySem.Spec PyProof.Rows L2 PF
abbrev zE : EF := fV 1
abbrev yL : EF := fC (.int 0)
abbrev zB : EF := fV 0
abbrev xg : EF := fC (.int 2)
abbrev yq : EF := fC (.int 1)
abbrev zR : EF := fV 2
abbrev Zf : EF := fC (.int 4)
abbrev Yt : GF := gN 4
abbrev yW : EF := fV 4
abbrev yI : EF := fV 3
abbrev xm : GF := gN 0
abbrev zK := zbK .Add
abbrev vQ : EF := fV 5
abbrev zdj : EF := fC (.int 5)
abbrev Zc : EF := fV 6
abbrev vK : EF := fV 7
abbrev wk : EF := fV 11
abbrev zH := zbK .Mod
abbrev zY := zbK .Mult
abbrev Y5 : EF := fC (.int 8)
abbrev zU := zbK .FloorDiv
abbrev Zr : EF := fC (.int 3)
abbrev Xy := zbK .Sub
abbrev zaU : EF := fC (.int 6)
abbrev Xo : AF := aC (fV 3) aN
abbrev WP : AF := aC (fV 0) aN
abbrev Zm : AF := aC (fV 1) aN
abbrev Yq : AF := aC (fV 2) aN
abbrev zjt : AF := aC (fV 5) aN
abbrev zhf : AF := aC (fV 7) aN
def top (i : Nat) : Stmt := PySem.Challenge.pw_stretchdeeds_k52_alike_by_any_frame.main.body.getD i (.Pass ⟨0, 0, 0, 0⟩)
abbrev VP : Stmt := top 1
abbrev zfN : List Str := ["algebra", "step", "value"]
theorem ziT : FnScope zfN ["algebra", "step", "value"] (zy VP) := ⟨rfl, rfl, rfl, by decide +kernel, rfl, by decide +kernel, by decide +kernel⟩
def zfV : SF :=
 (zL (sIf (fT (f2 (f2 zE yL ixP) (fC (.str "left")) (yf .Eq))) (xf (f2 (f2 (f2 zB xg ixP) (f2 zE yq ixP) ixP) zR ixP)) sNx)
  (zL (sIf (fT (f2 (f2 zE yL ixP) (fC (.str "right")) (yf .Eq))) (xf (f2 (f2 (f2 zB xg ixP) zR ixP) (f2 zE yq ixP) ixP)) sNx)
  (xf (f2 (f2 (f2 (fP (aC (f2 zB Zf ixP) aN) zhH) (f2 zE yq ixP) ixP) (f2 zE xg ixP) ixP) zR ixP))))
def vD : Fn := fnR 3 3 zfV
abbrev zbp : Stmt := top 2
abbrev zhr : List Str := ["algebra", "steps", "value", "came", "step"]
theorem V2 : FnScope zhr ["algebra", "steps", "value"] (zy zbp) := ⟨rfl, rfl, rfl, by decide +kernel, rfl, by decide +kernel, by decide +kernel⟩
def zir : SF :=
 (zL (zW true 3 zR)
  (zL (Z2 (zaR zE) Yt (zW true 3 (zN (aC zB (aC yW Xo)) vD)))
  (xf yI)))
def Zy : Fn := fnR 5 3 zir
abbrev vM : Stmt := top 3
abbrev Yd : List Str := ["algebra", "join", "places", "found", "name", "rows"]
theorem vU : FnScope Yd ["algebra"] (zy vM) := ⟨rfl, rfl, rfl, by decide +kernel, rfl, by decide +kernel, by decide +kernel⟩
theorem zeT : (["x", "join"] : List Str).Nodup := by decide +kernel
theorem zeg : (["x", "join"] : List Str).Nodup := by decide +kernel
theorem zeo : (["row", "x"] : List Str).Nodup := by decide +kernel
theorem Vj : (["c", "row", "name"] : List Str).Nodup := by decide +kernel
def zcZ : SF :=
 (zL (zW true 1 (f2 zB xg ixP))
  (zL (zW true 2 (fP (aC (f2 zB yL ixP) aN) lrP))
  (zL (zW false 3 (f2 (yc (Yg zR) [none, some 1] xm yV (yN (dC (yN (dC (fC (.str "left")) (dC zB dN))) (dC (f2 zE zB ixP) dN)))) (yc (Yg zR) [none, some 1] xm yV (yN (dC (yN (dC (fC (.str "right")) (dC zB dN))) (dC (yc (Yg zE) [none, some 0] xm yV (f2 zB zE ixP)) dN)))) zK))
  (zL (Z2 (zaR (f2 zB Zf ixP)) (gT 2 (gsC Yt (gsC (gN 5) gsN))) (xO (wI 3 (dC (yc (zok vQ) [none, none, some 4] (gT 2 (gsC xm (gsC (gN 1) gsN))) yV (yN (dC (yN (dC (fC (.str "deed")) (dC zR (dC zB dN)))) (dC zE dN)))) dN) zkt)))
  (xf yI)))))
def Zu : Fn := fnR 6 1 zcZ
abbrev ZD : Stmt := top 4
abbrev W3 : List Str := ["algebra", "one", "other", "name", "values"]
theorem Yo : FnScope W3 ["algebra", "one", "other"] (zy ZD) := ⟨rfl, rfl, rfl, by decide +kernel, rfl, by decide +kernel, by decide +kernel⟩
def Vu : SF :=
 (zL (Z2 (zaR (f2 zB zdj ixP)) (gT 2 (gsC (gN 3) (gsC Yt gsN))) (sIf (fT (f2 (f2 zE yW (yf .In)) (f2 zR yW (yf .In)) (yf .NotEq))) (xf yI) sNx))
  (xf (fC .non)))
def xQ : Fn := fnR 5 3 Vu
abbrev Yy : Stmt := top 5
abbrev zbD : List Str := ["algebra", "one", "other", "steps", "pairs", "frames", "at", "pair", "name", "step", "row", "came"]
theorem xF : FnScope zbD ["algebra", "one", "other"] (zy Yy) := ⟨rfl, rfl, rfl, by decide +kernel, rfl, by decide +kernel, by decide +kernel⟩
def zbA : SF :=
 (zL (zW true 3 (zN WP Zu))
  (zL (zW false 4 (xN (dC (yN (dC zE (dC zR dN))) dN)))
  (zL (zW false 5 (zdu (yN (dC zE (dC zR dN))) (xN dN)))
  (zL (zW true 6 yL)
  (zL (whL (fT (f2 Zc (fP (aC yW aN) Xr) (yf .Lt))) (zL (zW true 7 (f2 yW Zc ixP))
  (zL (zW true 8 (zN (aC zB (aC (f2 vK yL ixP) (aC (f2 vK yq ixP) aN))) xQ))
  (zL (sIf (fT (f2 (fV 8) (fC .non) (yf .IsNot))) (xf (yN (dC (fC (.str "frame")) (dC (f2 vQ vK ixT) (dC (fV 8) dN))))) sNx)
  (zL (Z2 (zaR yI) (gT 2 (gsC (gN 9) (gsC (gN 10) gsN))) (zL (zW true 11 (yN (dC (f2 (fV 10) (f2 vK yL ixP) ixP) (dC (f2 (fV 10) (f2 vK yq ixP) ixP) dN))))
  (sIf (fT (f2 wk vQ (yf .NotIn))) (zL (zhw 5 wk (f2 (f2 vQ vK ixT) (xN (dC (fV 9) dN)) zK))
  (xO (wI 4 (dC wk dN) wO))) sNx)))
  (zld 6 1))))) 10000)
  (xf (yN (dC (fC (.str "alike")) dN))))))))
def yx : Fn := fnR 12 3 zbA
abbrev Z3 : Stmt := top 7
abbrev zam : List Str := ["_law_script", "_law_k"]
theorem zey : FnScope zam ["_law_script", "_law_k"] (zy Z3) := ⟨rfl, rfl, rfl, by decide +kernel, rfl, by decide +kernel, by decide +kernel⟩
def zab : SF :=
 (zL (sIf (fT (f2 zE (fP WP Xr) (yf .Lt))) (xf (f2 zB zE ixP)) sNx)
  (xf yL))
def zZ : Fn := fnR 2 2 zab
abbrev VD : Stmt := top 8
abbrev YC : Stmt := top 9
abbrev zbl : List Str := ["_law_cell", "_law_many", "_law_found", "_law_number", "_law_k"]
theorem Zi : FnScope zbl ["_law_cell", "_law_many"] (zy YC) := ⟨rfl, rfl, rfl, by decide +kernel, rfl, by decide +kernel, by decide +kernel⟩
def zbd : SF :=
 (zL (zW false 2 (xN dN))
  (zL (zW true 3 (f2 (f2 zB (fC (.int 2147483647)) zH) (fC (.int 48271)) zK))
  (zL (Z2 (xJ (aC (f2 zE yq zK) aN) xG) Yt (zL (zW true 3 (f2 (f2 (f2 (f2 yI yI zY) (f2 (fC (.int 48271)) yI zY) zK) yW zK) (fC (.int 2147483647)) zH))
  (xO (wI 2 (dC (f2 (f2 (f2 yI (fC (.int 40692)) zY) (f2 (fC (.int 7)) yW zY) zK) (fC (.int 2147483399)) zH) dN) wO))))
  (xf (fSl zR (oS yq) oN slP)))))
def zO : Fn := fnR 5 2 zbd
abbrev Yi : Stmt := top 10
abbrev Vr : List Str := ["_law_cell", "_law_many", "_law_letters", "_law_xs", "_law_base", "_law_at", "_law_found", "_law_k"]
theorem vm : FnScope Vr ["_law_cell", "_law_many"] (zy Yi) := ⟨rfl, rfl, rfl, by decide +kernel, rfl, by decide +kernel, by decide +kernel⟩
theorem zdO : (["_law_x", "_law_letters"] : List Str).Nodup := by decide +kernel
def zcH : SF :=
 (zL (zW true 2 (fC (.str "abcdefghijklmnopqrstuvwxyz")))
  (zL (zW true 3 (zN (aC zB (aC (fC (.int 9)) aN)) zO))
  (zL (zW true 4 (WL .str (fC (.str "")) (aC (yc (Yg (fSl yI oN (oS (f2 yq (f2 zB Y5 zH) zK)) slP)) [none, some 2] xm yV (f2 zE (f2 zB (fC (.int 26)) zH) ixP)) aN) zkl))
  (zL (zW true 5 (f2 (f2 zB Y5 zU) (fP (aC yW aN) Xr) zH))
  (zL (zW false 6 (xN dN))
  (zL (Z2 (xJ Zm xG) (gN 7) (xO (wI 6 (dC (f2 (f2 (fSl yW oN (oS vQ) slS) (f2 zR (f2 (f2 (f2 yI Y5 ixP) (f2 Zr vK zY) zK) (fC (.int 26)) zH) ixP) zK) (fSl yW (oS (f2 vQ yq zK)) oN slS) zK) dN) wO)))
  (xf Zc)))))))
def Z8 : Fn := fnR 8 2 zcH
abbrev Z6 : Stmt := top 11
abbrev zah : List Str := ["_law_one", "_law_other"]
theorem Vv : FnScope zah ["_law_one", "_law_other"] (zy Z6) := ⟨rfl, rfl, rfl, by decide +kernel, rfl, by decide +kernel, by decide +kernel⟩
def zag : SF :=
 (zL (whL (fT (f2 zE yL (yf .Gt))) (zli 0 1 (dC zE (dC (f2 zB zE zH) dN))) 10000)
  (xf zB))
def Zd : Fn := fnR 2 2 zag
abbrev Y6 : Stmt := top 12
abbrev zaG : List Str := ["_law_n", "_law_m", "_law_xs", "_law_step_here", "_law_rows_here", "_law_c"]
theorem Xd : FnScope zaG ["_law_n", "_law_m", "_law_xs"] (zy Y6) := ⟨rfl, rfl, rfl, by decide +kernel, rfl, by decide +kernel, by decide +kernel⟩
theorem zff : (["_law_a", "_law_n", "_law_xs", "_law_c", "_law_step_here"] : List Str).Nodup := by decide +kernel
def zeD : SF :=
 (zL (zW true 3 (f2 zB (zN (aC zB Zm) Zd) zU))
  (zL (zW false 4 (xN dN))
  (zL (Z2 (xJ Zm xG) (gN 5) (xO (wI 4 (dC (yc (xJ WP xG) [none, some 0, some 2, some 5, some 3] xm yV (f2 (f2 (f2 zB (f2 zR yL ixP) zY) (f2 (f2 yI yW zY) (f2 zR yq ixP) zY) zK) zE zH)) dN) wO)))
  (xf yW))))
def YK : Fn := fnR 6 3 zeD
abbrev vY : Stmt := top 13
abbrev Yw : List Str := ["_law_n", "_law_m", "_law_xs", "_law_row"]
theorem zan : FnScope Yw ["_law_n", "_law_m", "_law_xs"] (zy vY) := ⟨rfl, rfl, rfl, by decide +kernel, rfl, by decide +kernel, by decide +kernel⟩
theorem zdk : (["_law_k", "_law_n", "_law_xs"] : List Str).Nodup := by decide +kernel
theorem zdg : (["_law_c", "_law_row"] : List Str).Nodup := by decide +kernel
def zbH : SF :=
 (zL (zW false 3 (fP (aC (f2 (xN (dC yL dN)) (yc (xJ (aC (f2 zB yq Xy) aN) xG) [none, some 0, some 2] xm yV (f2 (f2 zR zB ixP) zE zH)) zK) aN) zmz))
  (zL (zlT 3 (xC 0) (xC 0))
  (xf (yc (xJ Zm xG) [none, some 3] xm yV (fP Zm lstP)))))
def ZC : Fn := fnR 4 3 zbH
abbrev Z1 : Stmt := top 14
abbrev XJ : List Str := ["_law_n", "_law_m", "_law_xs", "_law_row"]
theorem zcI : FnScope XJ ["_law_n", "_law_m", "_law_xs"] (zy Z1) := ⟨rfl, rfl, rfl, by decide +kernel, rfl, by decide +kernel, by decide +kernel⟩
theorem zfl : (["_law_k", "_law_xs", "_law_n"] : List Str).Nodup := by decide +kernel
theorem zfd : (["_law_c", "_law_row"] : List Str).Nodup := by decide +kernel
def zeR : SF :=
 (zL (zW true 3 (f2 (xN (dC yL dN)) (yc (xJ (aC (f2 zB yq Xy) aN) xG) [none, some 2, some 0] xm yV (f2 yq (f2 (f2 zE zB ixP) (f2 zR yq Xy) zH) zK)) zK))
  (xf (yc (xJ Zm xG) [none, some 3] xm yV (fP Zm lstP))))
def YT : Fn := fnR 4 3 zeR
abbrev wM : Stmt := top 15
abbrev vN : List Str := ["_law_kind", "_law_n", "_law_maps"]
theorem zbG : FnScope vN ["_law_kind", "_law_n"] (zy wM) := ⟨rfl, rfl, rfl, by decide +kernel, rfl, by decide +kernel, by decide +kernel⟩
theorem zeH : (["_law_a", "_law_n"] : List Str).Nodup := by decide +kernel
theorem zdQ : (["_law_b", "_law_n", "_law_a"] : List Str).Nodup := by decide +kernel
theorem zdM : (["_law_a", "_law_n"] : List Str).Nodup := by decide +kernel
theorem zeL : (["_law_b", "_law_a"] : List Str).Nodup := by decide +kernel
theorem zdV : (["_law_a", "_law_n"] : List Str).Nodup := by decide +kernel
theorem zez : (["_law_b", "_law_a"] : List Str).Nodup := by decide +kernel
theorem zdG : (["_law_a", "_law_n"] : List Str).Nodup := by decide +kernel
theorem zeB : (["_law_b", "_law_a"] : List Str).Nodup := by decide +kernel
theorem zer : (["_law_one", "_law_maps"] : List Str).Nodup := by decide +kernel
theorem zdm : (["_law_two", "_law_maps", "_law_one"] : List Str).Nodup := by decide +kernel
def zcL : SF :=
 (zL (sIf (fT (f2 zB yL (yf .Eq))) (xf (yc (xJ Zm xG) [none, some 1] xm yV (yc (xJ Zm xG) [none, some 1, some 0] xm yV (f2 (f2 zR zB zK) zE zH)))) sNx)
  (zL (sIf (fT (f2 zB yq (yf .Eq))) (xf (yc (xJ Zm xG) [none, some 1] xm yV (yc (xJ Zm xG) [none, some 0] xm yV (fP (aC zE WP) zpn)))) sNx)
  (zL (sIf (fT (f2 zB xg (yf .Eq))) (xf (yc (xJ Zm xG) [none, some 1] xm yV (yc (xJ Zm xG) [none, some 0] xm yV (f2 (xN (dC zB (dC zE dN))) (fP (aC (f2 zB yL (yf .Eq)) aN) zhZ) ixP)))) sNx)
  (zL (sIf (fT (f2 zB Zr (yf .Eq))) (xf (yc (xJ Zm xG) [none, some 1] xm yV (yc (xJ Zm xG) [none, some 0] xm yV (f2 (xN (dC zE (dC zB dN))) (fP (aC (f2 zE yL (yf .Eq)) aN) zhZ) ixP)))) sNx)
  (zL (zW true 2 (xN (dC (yN (dC yL (dC yq dN))) (dC (yN (dC yq (dC yL dN))) (dC (yN (dC yL (dC yL dN))) (dC (yN (dC yq (dC yq dN))) dN))))))
  (xf (yc (Yg zR) [none, some 2] xm yV (yc (Yg zE) [none, some 1, some 0] xm yV (WL .lst zE (aC (yN (dC (f2 zB (f2 zR yL ixP) ixP) (dC (f2 zB (f2 zR yq ixP) ixP) dN))) aN) Vz)))))))))
def Zt : Fn := fnR 3 2 zcL
abbrev YL : Stmt := top 16
abbrev zaJ : List Str := ["_law_kind", "_law_n", "_law_m", "_law_xs"]
theorem zhD : FnScope zaJ ["_law_kind", "_law_n", "_law_m", "_law_xs"] (zy YL) := ⟨rfl, rfl, rfl, by decide +kernel, rfl, by decide +kernel, by decide +kernel⟩
theorem zfm : (["_law_c", "_law_xs"] : List Str).Nodup := by decide +kernel
def zeI : SF :=
 (zL (sIf (fT (f2 zB yL (yf .Eq))) (xf (zN (aC zE (aC zR Xo)) YK)) sNx)
  (zL (sIf (fT (f2 zB yq (yf .Eq))) (xf (zN (aC zE (aC zR Xo)) ZC)) sNx)
  (zL (sIf (fT (f2 zB Zf (yf .Lt))) (xf (zN (aC zE (aC zR Xo)) YT)) sNx)
  (xf (yc (xJ Yq xG) [none, some 3] xm yV (f2 (xN (dC (xN (dC yL (dC yq (dC xg (dC Zr dN))))) (dC (xN (dC yL (dC yq (dC Zr (dC xg dN))))) dN))) (f2 (f2 zE yL ixP) xg zH) ixP))))))
def ZX : Fn := fnR 4 4 zeI
abbrev Yb : Stmt := top 17
abbrev WX : List Str := ["_law_kind", "_law_n", "_law_m", "_law_many", "_law_cell", "_law_rows_here"]
theorem zaZ : FnScope WX ["_law_kind", "_law_n", "_law_m", "_law_many", "_law_cell"] (zy Yb) := ⟨rfl, rfl, rfl, by decide +kernel, rfl, by decide +kernel, by decide +kernel⟩
theorem zeS : (["_law_k", "_law_kind", "_law_n", "_law_m", "_law_cell"] : List Str).Nodup := by decide +kernel
def zcE : SF :=
 (zL (zW true 5 (yc (xJ Xo xG) [none, some 0, some 1, some 2, some 4] xm yV (zN (aC zE (aC zR (aC yI (aC (zN (aC (f2 yW (f2 (fC (.int 31)) zB zY) zK) (aC (fC (.int 9)) aN)) zO) aN)))) ZX)))
  (xf (yN (dC zE (dC (zN (aC zB Zm) Zt) (dC vQ dN))))))
def wA : Fn := fnR 6 5 zcE
abbrev ZG : Stmt := top 18
abbrev Wl : List Str := ["_law_one", "_law_other", "_law_m", "_law_n", "_law_by", "_law_join", "_law_p", "_law_here", "_law_there", "_law_deeds", "_law_rows_here", "_law_c", "_law_made_here", "_law_ahead"]
theorem yK : FnScope Wl ["_law_one", "_law_other", "_law_m"] (zy ZG) := ⟨rfl, rfl, rfl, by decide +kernel, rfl, by decide +kernel, by decide +kernel⟩
theorem zdn : (["_law_q", "_law_by", "_law_there", "_law_here"] : List Str).Nodup := by decide +kernel
def zbo : SF :=
 (zL (zW true 3 (f2 (f2 zB yL ixP) (f2 zE yL ixP) zY))
  (zL (zW true 4 (f2 zE yL ixP))
  (zL (zW false 5 (xN dN))
  (zL (Z2 (xJ Xo xG) (gN 6) (zL (zW true 7 (f2 (f2 zB yq ixP) (f2 Zc yW zU) ixP))
  (zL (zW true 8 (f2 (f2 zE yq ixP) (f2 Zc yW zH) ixP))
  (xO (wI 5 (dC (yc (xJ Xo xG) [none, some 4, some 8, some 7] xm yV (f2 (f2 (f2 yI (f2 zB zE zU) ixP) zE zY) (f2 zR (f2 zB zE zH) ixP) zK)) dN) wO)))))
  (zL (zW false 9 (xN dN))
  (zL (Z2 (zkO (aC (f2 zB xg ixP) (aC (f2 zE xg ixP) aN))) (gT 2 (gsC (gN 7) (gsC (gN 8) gsN))) (zL (zW false 10 (xN dN))
  (zL (Z2 (xJ Yq xG) (gN 11) (zL (zW false 12 (xN dN))
  (zL (Z2 (xJ Xo xG) (gN 6) (zL (zW true 13 (f2 (f2 (f2 vK wk ixP) (f2 Zc yW zU) ixP) yW zY))
  (xO (wI 12 (dC (f2 (fV 13) (f2 (f2 (fV 8) wk ixP) (f2 Zc yW zH) ixP) zK) dN) wO))))
  (xO (wI 10 (dC (fV 12) dN) wO)))))
  (xO (wI 9 (dC (fV 10) dN) wO)))))
  (xf (yN (dC yI (dC vQ (dC (fV 9) dN)))))))))))
def ZL : Fn := fnR 14 3 zbo
abbrev XC : Stmt := top 19
abbrev zeY : List Str := ["_law_cell", "_law_m", "_law_many", "_law_xs", "_law_kind", "_law_sizes", "_law_one", "_law_n"]
theorem wZ : FnScope zeY ["_law_cell", "_law_m", "_law_many"] (zy XC) := ⟨rfl, rfl, rfl, by decide +kernel, rfl, by decide +kernel, by decide +kernel⟩
def zeV : SF :=
 (zL (zW true 3 (zN (aC zB (aC zdj aN)) zO))
  (zL (zW true 4 (f2 (f2 yI yL ixP) (fC (.int 7)) zH))
  (zL (sIf (fT (f2 yW Zf (yf .Gt))) (zL (zW true 5 (f2 (xN (dC (yN (dC xg (dC xg dN))) (dC (yN (dC Zr (dC xg dN))) (dC (yN (dC xg (dC Zr dN))) (dC (yN (dC Zf (dC xg dN))) (dC (yN (dC xg (dC Zf dN))) (dC (yN (dC xg (dC xg dN))) dN))))))) (f2 (f2 yI yq ixP) zaU zH) ixP))
  (zL (zW true 6 (zN (aC (f2 (f2 yI xg ixP) Zf zH) (aC (f2 vQ yL ixP) (aC zE (aC zR (aC (f2 yI Zr ixP) aN))))) wA))
  (xf (zN (aC Zc (aC (zN (aC (f2 (f2 yI Zf ixP) Zf zH) (aC (f2 vQ yq ixP) (aC zE (aC zR (aC (f2 (f2 yI Zr ixP) (fC (.int 7)) zK) aN))))) wA) Zm)) ZL)))) sNx)
  (zL (zW true 7 (f2 (xN (dC xg (dC Zr (dC Zf (dC zdj (dC Zr (dC Zf (dC zaU (dC Y5 dN))))))))) (f2 (f2 yI yq ixP) Y5 zH) ixP))
  (zL (sIf (zdD (fT (f2 yW yL (yf .Eq))) (fT (f2 (f2 (f2 yI xg ixP) (fC (.int 9)) zH) yL (yf .Eq)))) (zW true 7 yq) sNx)
  (zL (sIf (fT (f2 yW Zf (yf .Eq))) (zW true 7 Zf) sNx)
  (xf (zN (aC yW (aC vK (aC zE (aC zR (aC (f2 yI Zr ixP) aN))))) wA))))))))
def YW : Fn := fnR 8 3 zeV
abbrev Xa : Stmt := top 20
abbrev zcK : List Str := ["_law_cell", "_law_n", "_law_left", "_law_found", "_law_x"]
theorem Ys : FnScope zcK ["_law_cell", "_law_n"] (zy Xa) := ⟨rfl, rfl, rfl, by decide +kernel, rfl, by decide +kernel, by decide +kernel⟩
def zcX : SF :=
 (zL (zW false 2 (fP Zm lrP))
  (zL (zW false 3 (xN dN))
  (zL (Z2 (zaR (zN (aC zB Zm) zO)) Yt (xO (wI 3 (dC (wI 2 (dC (f2 yW (fP Yq Xr) zH) dN) Vx) dN) wO)))
  (xf yI))))
def Z9 : Fn := fnR 5 2 zcX
abbrev Yj : Stmt := top 21
abbrev Ve : List Str := ["_law_cell", "_law_n", "_law_names_here", "_law_signs_here", "_law_x", "_law_name"]
theorem Yu : FnScope Ve ["_law_cell", "_law_n", "_law_names_here"] (zy Yj) := ⟨rfl, rfl, rfl, by decide +kernel, rfl, by decide +kernel, by decide +kernel⟩
theorem zek : (["_law_v", "_law_x"] : List Str).Nodup := by decide +kernel
def zcD : SF :=
 (zL (zW false 3 (xN dN))
  (zL (Z2 (zkO (aC (zN (aC zB (aC (fP Yq Xr) aN)) zO) Yq)) (gT 2 (gsC Yt (gsC (gN 5) gsN))) (xO (wI 3 (dC (yN (dC vQ (dC (yc (xJ Zm xG) [none, some 4] xm (fT (f2 (f2 (f2 zE (f2 (xN (dC yq (dC xg (dC Zf (dC Y5 (dC (fC (.int 16)) (dC (fC (.int 32)) (dC (fC (.int 64)) (dC (fC (.int 128)) dN))))))))) zB ixP) zU) xg zH) yq (yf .Eq))) zB) dN))) dN) wO)))
  (xf yI)))
def Zv : Fn := fnR 6 3 zcD
abbrev wR : Stmt := top 22
abbrev Ze : List Str := ["_law_cell", "_law_other", "_law_ys", "_law_m", "_law_many", "_law_n", "_law_join", "_law_deeds", "_law_order_here", "_law_back", "_law_joins_here", "_law_names_here", "_law_told", "_law_name", "_law_rows_here", "_law_signs_here"]
theorem yp : FnScope Ze ["_law_cell", "_law_other"] (zy wR) := ⟨rfl, rfl, rfl, by decide +kernel, rfl, by decide +kernel, by decide +kernel⟩
theorem zcb : (["_law_v", "_law_order_here"] : List Str).Nodup := by decide +kernel
theorem zcs : (["_law_a", "_law_order_here", "_law_n", "_law_join", "_law_back"] : List Str).Nodup := by decide +kernel
theorem zbU : (["_law_b", "_law_order_here", "_law_join", "_law_back", "_law_a"] : List Str).Nodup := by decide +kernel
theorem zbZ : (["_law_row", "_law_order_here", "_law_n", "_law_back"] : List Str).Nodup := by decide +kernel
theorem zcd : (["_law_a", "_law_order_here", "_law_row", "_law_back"] : List Str).Nodup := by decide +kernel
def zao : SF :=
 (zL (zW true 2 (zN (aC zE (aC zaU aN)) zO))
  (zL (zW true 3 (f2 yq (f2 (f2 zR yL ixP) zaU zH) zK))
  (zL (sIf (fT (f2 (f2 (f2 (f2 zR yL ixP) zaU zU) xg zH) yL (yf .Eq))) (zW true 3 (f2 yq (f2 (f2 (f2 zR yL ixP) (fC (.int 12)) zU) Zr zH) zK)) sNx)
  (zL (zW true 4 (f2 (xN (dC yq (dC xg (dC yL (dC Zf (dC Zr (dC xg (dC zaU (dC zdj dN))))))))) (f2 (f2 zR yq ixP) Y5 zH) ixP))
  (zL (sIf (fT (f2 yW Zr (yf .Gt))) (zW true 3 (f2 yq (f2 yI xg zH) zK)) sNx)
  (zL (zgr (zN (aC zB (aC yI (aC yW aN))) YW) (gT 3 (gsC (gN 5) (gsC (gN 6) (gsC (gN 7) gsN)))))
  (zL (zW true 8 (zN (aC (f2 zR xg ixP) zjt) Z9))
  (zL (zW true 9 (yc (xJ zjt xG) [none, some 8] xm yV (WL .lst zE WP Vz)))
  (zL (zW true 10 (yc (xJ zjt xG) [none, some 8, some 5, some 6, some 9] xm yV (yc (xJ Yq xG) [none, some 1, some 3, some 4, some 0] xm yV (f2 zE (f2 (f2 zR (f2 yI yW ixP) ixP) (f2 yI zB ixP) ixP) ixP))))
  (zL (zW true 11 (zN (aC (f2 zR Zr ixP) (aC (fC (.int 10)) aN)) Z8))
  (zL (zW false 12 (xN dN))
  (zL (Z2 (zkO (aC (fSl wk oN (oS zaU) slP) zhf)) (gT 2 (gsC (gN 13) (gsC (gN 14) gsN))) (xO (wI 12 (dC (yN (dC (fV 13) (dC (yc (Yg (fV 14)) [none, some 8, some 5, some 9] xm yV (yc (xJ Yq xG) [none, some 1, some 0, some 3] xm yV (f2 zE (f2 zR (f2 yI zB ixP) ixP) ixP))) dN))) dN) wO)))
  (zL (zW true 15 (zN (aC (f2 zR Zf ixP) (aC vQ (aC (fSl wk (oS zaU) (oS (f2 zaU (f2 (xN (dC yq (dC xg (dC yq (dC Zf (dC yL (dC xg (dC Zr (dC yq dN))))))))) (f2 (f2 zR zdj ixP) Y5 zH) ixP) zK)) slP) aN))) Zv))
  (xf (yN (dC vQ (dC yI (dC (fV 10) (dC (f2 (fV 8) yL ixP) (dC (fV 12) (dC (fV 15) dN)))))))))))))))))))))
def vC : Fn := fnR 16 2 zao
abbrev ZZ : Stmt := top 23
abbrev XH : List Str := ["_law_algebra_here", "_law_cell", "_law_n", "_law_m", "_law_join", "_law_nothing", "_law_deeds", "_law_signs_here", "_law_xs", "_law_joins_here", "_law_told", "_law_way", "_law_rows_here"]
theorem xM : FnScope XH ["_law_algebra_here", "_law_cell"] (zy ZZ) := ⟨rfl, rfl, rfl, by decide +kernel, rfl, by decide +kernel, by decide +kernel⟩
theorem zfe : (["_law_row"] : List Str).Nodup := by decide +kernel
theorem zaa : (["_law_name", "_law_rows_here"] : List Str).Nodup := by decide +kernel
theorem zfj : (["_law_row"] : List Str).Nodup := by decide +kernel
def zeZ : SF :=
 (zL (zgr zB (gT 6 (gsC (gN 2) (gsC (gN 3) (gsC Yt (gsC (gN 5) (gsC (gN 6) (gsC (gN 7) gsN))))))))
  (zL (zW true 8 (zN (aC zE (aC Y5 aN)) zO))
  (zL (zW false 9 (yc (Yg yW) [none] xm yV (fP WP lstP)))
  (zL (zW false 10 (yc (Yg Zc) [none, none] (gT 2 (gsC xm (gsC (gN 1) gsN))) yV (yN (dC zB (dC (yc (Yg zE) [none] xm yV (fP WP lstP)) dN)))))
  (zL (zW true 11 (f2 (f2 (fV 8) yL ixP) zaU zH))
  (zL (sIf (fT (f2 wk yL (yf .Eq))) (zW true 5 (f2 (f2 (fV 8) yq ixP) zR zH)) sNx)
  (zL (sIf (zfk (fT (f2 wk yq (yf .Eq))) (fT (f2 wk xg (yf .Eq)))) (zhs 9 (Vi (xAt 8 (xC 2)) (xV 2)) (Vi (xAt 8 (xC 3)) (xV 2)) (Vi (xAt 8 (xC 4)) (xV 2))) sNx)
  (zL (sIf (zdD (fT (f2 wk xg (yf .Gt))) (fT (f2 (fV 10) (xN dN) (yf .NotEq)))) (zlE 12 10 (Vi (xAt 8 (xC 5)) (zmd 10)) 1 (Vi (xAt 8 (xC 6)) (xV 3)) (Vi (xAt 8 (xC 7)) (xV 2)) (Vi (xAt 8 (xC 4)) (xV 2))) sNx)
  (xf (yN (dC zR (dC yI (dC (fV 9) (dC vQ (dC (fV 10) (dC vK dN))))))))))))))))
def YX : Fn := fnR 13 2 zeZ
abbrev XR : Stmt := top 24
abbrev zed : List Str := ["_law_algebra_here", "_law_step_here", "_law_value", "_law_name", "_law_rows_here"]
theorem W0 : FnScope zed ["_law_algebra_here", "_law_step_here", "_law_value"] (zy XR) := ⟨rfl, rfl, rfl, by decide +kernel, rfl, by decide +kernel, by decide +kernel⟩
def zeJ : SF :=
 (zL (sIf (fT (f2 (f2 zE yL ixP) (fC (.str "left")) (yf .Eq))) (xf (f2 (f2 (f2 zB xg ixP) (f2 zE yq ixP) ixP) zR ixP)) sNx)
  (zL (sIf (fT (f2 (f2 zE yL ixP) (fC (.str "right")) (yf .Eq))) (xf (f2 (f2 (f2 zB xg ixP) zR ixP) (f2 zE yq ixP) ixP)) sNx)
  (zL (Z2 (zaR (f2 zB Zf ixP)) (gT 2 (gsC (gN 3) (gsC Yt gsN))) (sIf (fT (f2 yI (f2 zE yq ixP) (yf .Eq))) (xf (f2 (f2 yW (f2 zE xg ixP) ixP) zR ixP)) sNx))
  (xf (fC .non)))))
def wH : Fn := fnR 5 3 zeJ
abbrev Z7 : Stmt := top 25
abbrev Vf : List Str := ["_law_algebra_here", "_law_found", "_law_x", "_law_name", "_law_rows_here"]
theorem vh : FnScope Vf ["_law_algebra_here"] (zy Z7) := ⟨rfl, rfl, rfl, by decide +kernel, rfl, by decide +kernel, by decide +kernel⟩
theorem zet : (["_law_c", "_law_name"] : List Str).Nodup := by decide +kernel
def zcR : SF :=
 (zL (zW true 1 (xN dN))
  (zL (Z2 (xJ (aC (f2 zB yL ixP) aN) xG) (gN 2) (zW true 1 (f2 zE (xN (dC (yN (dC (fC (.str "left")) (dC zR dN))) (dC (yN (dC (fC (.str "right")) (dC zR dN))) dN))) zK)))
  (zL (Z2 (zaR (f2 zB Zf ixP)) (gT 2 (gsC (gN 3) (gsC Yt gsN))) (zW true 1 (f2 zE (yc (xJ (aC (f2 zB yq ixP) aN) xG) [none, some 3] xm yV (yN (dC (fC (.str "deed")) (dC zE (dC zB dN))))) zK)))
  (xf zE))))
def Ye : Fn := fnR 5 1 zcR
abbrev YZ : Stmt := top 26
abbrev zar : List Str := ["_law_algebra_here", "_law_value"]
theorem zhW : FnScope zar ["_law_algebra_here", "_law_value"] (zy YZ) := ⟨rfl, rfl, rfl, by decide +kernel, rfl, by decide +kernel, by decide +kernel⟩
theorem zai : (["_law_name", "_law_values", "_law_value"] : List Str).Nodup := by decide +kernel
def zeN : SF :=
 (xf (fP (aC (yc (Yg (f2 zB zdj ixP)) [none, none, some 1] (gT 2 (gsC xm (gsC (gN 1) gsN))) yV (f2 zR zE (yf .In))) aN) tupP))
def xX : Fn := fnR 2 2 zeN
abbrev Xw : Stmt := top 27
abbrev zbQ : List Str := ["_law_algebra_here", "_law_cell", "_law_n", "_law_m", "_law_join", "_law_nothing", "_law_deeds", "_law_signs_here", "_law_x", "_law_values"]
theorem vp : FnScope zbQ ["_law_algebra_here", "_law_cell"] (zy Xw) := ⟨rfl, rfl, rfl, by decide +kernel, rfl, by decide +kernel, by decide +kernel⟩
theorem zgA : (["_law_v", "_law_n", "_law_join", "_law_x"] : List Str).Nodup := by decide +kernel
def zfp : SF :=
 (zL (zgr zB (gT 6 (gsC (gN 2) (gsC (gN 3) (gsC Yt (gsC (gN 5) (gsC (gN 6) (gsC (gN 7) gsN))))))))
  (zL (sIf (zfk (fT (f2 (f2 zE xg zH) yL (yf .Eq))) (fT (f2 vK (xN dN) (yf .Eq)))) (xf zB) sNx)
  (zL (zW true 8 (f2 (zN (aC zE (aC yq aN)) zO) yL ixP))
  (zL (zW true 9 (yc (xJ Yq xG) [none, some 2, some 4, some 8] xm (fT (f2 (f2 (f2 zR zB ixP) (f2 yI zE zH) ixP) (f2 (f2 yI Y5 zU) zE zH) (yf .Eq))) zB))
  (xf (yN (dC zR (dC yI (dC yW (dC vQ (dC Zc (dC (xN (dC (yN (dC (f2 (f2 vK yL ixP) yL ixP) (dC (fV 9) dN))) dN)) dN))))))))))))
def YF : Fn := fnR 10 2 zfp
abbrev Yv : Stmt := top 28
abbrev zbz : List Str := ["_law_algebra_here", "_law_steps_here", "_law_one", "_law_other", "_law_step_here"]
theorem Z5 : FnScope zbz ["_law_algebra_here", "_law_steps_here", "_law_one", "_law_other"] (zy Yv) := ⟨rfl, rfl, rfl, by decide +kernel, rfl, by decide +kernel, by decide +kernel⟩
def zbN : SF :=
 (zL (Z2 (zaR zE) Yt (zL (sIf (fT (f2 (zN (aC zB Yq) xX) (zN (aC zB Xo) xX) (yf .NotEq))) (xf (fC (.bl false))) sNx)
  (zL (zW true 2 (zN (aC zB (aC yW Yq)) wH))
  (zW true 3 (zN (aC zB (aC yW Xo)) wH)))))
  (xf (f2 (zN (aC zB Yq) xX) (zN (aC zB Xo) xX) (yf .Eq))))
def vd : Fn := fnR 5 4 zbN
abbrev Yz : Stmt := top 29
abbrev zbE : List Str := ["_law_cell", "_law_base", "_law_many", "_law_found", "_law_k"]
theorem Z4 : FnScope zbE ["_law_cell", "_law_base", "_law_many"] (zy Yz) := ⟨rfl, rfl, rfl, by decide +kernel, rfl, by decide +kernel, by decide +kernel⟩
def zbv : SF :=
 (zL (zW false 3 (xN dN))
  (zL (Z2 (xJ Yq xG) Yt (zL (xO (wI 3 (dC (f2 zB zE zH) dN) wO))
  (zW true 0 (f2 zB zE zU))))
  (xf yI)))
def wL : Fn := fnR 5 3 zbv
abbrev wK : Stmt := top 30
abbrev Zj : List Str := ["_law_algebra_here", "_law_cell", "_law_n", "_law_m", "_law_join", "_law_nothing", "_law_deeds", "_law_signs_here", "_law_digits_here", "_law_joins_here", "_law_told", "_law_k", "_law_at"]
theorem yH : FnScope Zj ["_law_algebra_here", "_law_cell"] (zy wK) := ⟨rfl, rfl, rfl, by decide +kernel, rfl, by decide +kernel, by decide +kernel⟩
theorem zaB : (["_law_a", "_law_digits_here", "_law_n"] : List Str).Nodup := by decide +kernel
theorem zaI : (["_law_c", "_law_digits_here", "_law_at", "_law_n"] : List Str).Nodup := by decide +kernel
def WK : SF :=
 (zL (zgr zB (gT 6 (gsC (gN 2) (gsC (gN 3) (gsC Yt (gsC (gN 5) (gsC (gN 6) (gsC (gN 7) gsN))))))))
  (zL (zW true 8 (zN (aC zE (aC zR (aC (f2 (f2 yq (f2 zR zR zY) zK) (f2 (f2 zR yI zY) (fP (aC Zc aN) Xr) zY) zK) aN))) wL))
  (zL (zW true 9 (yc (xJ Yq xG) [none, some 8, some 2] xm yV (fSl zE (oS (f2 yq (f2 zR zB zY) zK)) (oS (f2 (f2 yq (f2 zR zB zY) zK) zR zK)) slP)))
  (zL (zW false 10 (xN dN))
  (zL (Z2 (xJ (aC (fP (aC Zc aN) Xr) aN) xG) (gN 11) (zL (zW true 12 (f2 (f2 yq (f2 zR zR zY) zK) (f2 (f2 zR yI zY) wk zY) zK))
  (xO (wI 10 (dC (yN (dC (f2 (f2 Zc wk ixP) yL ixP) (dC (yc (xJ Xo xG) [none, some 8, some 12, some 2] xm yV (fSl zE (oS (f2 zR (f2 yI zB zY) zK)) (oS (f2 (f2 zR (f2 yI zB zY) zK) yI zK)) slP)) dN))) dN) wO))))
  (xf (yN (dC zR (dC yI (dC (fV 9) (dC (f2 (fV 8) yL ixP) (dC (fV 10) (dC vK dN)))))))))))))
def vz : Fn := fnR 13 2 WK
abbrev VN : Stmt := top 31
abbrev zfH : List Str := ["_law_script", "_law_cell", "_law_algebra_here"]
theorem zav : FnScope zfH ["_law_script"] (zy VN) := ⟨rfl, rfl, rfl, by decide +kernel, rfl, by decide +kernel, by decide +kernel⟩
def zfG : SF :=
 (zL (zW true 1 (zN (aC zB (aC xg aN)) zZ))
  (zL (zW true 2 (zN (aC (zN (aC zB (aC yL aN)) zZ) (aC (zN (aC zB (aC yq aN)) zZ) aN)) vC))
  (zL (sIf (fT (f2 (f2 zE xg zH) yq (yf .Eq))) (xf (zN (aC zR (aC (f2 zE xg zU) aN)) vz)) sNx)
  (xf (zN (aC zR (aC (f2 zE xg zU) aN)) YX)))))
def Xn : Fn := fnR 3 1 zfG
abbrev Zw : Stmt := top 32
abbrev Xb : List Str := ["_law_script", "_law_some", "_law_cell", "_law_cells"]
theorem YD : FnScope Xb ["_law_script", "_law_some"] (zy Zw) := ⟨rfl, rfl, rfl, by decide +kernel, rfl, by decide +kernel, by decide +kernel⟩
theorem zep : (["_law_d", "_law_some"] : List Str).Nodup := by decide +kernel
theorem zes : (["_law_one", "_law_some"] : List Str).Nodup := by decide +kernel
def zdb : SF :=
 (zL (zW true 2 (zN (aC zB (aC Zr aN)) zZ))
  (zL (sIf (fT (f2 (f2 zR xg zH) yq (yf .Eq))) (xf (yc (Yg (zN (aC (f2 zR (fC (.int 128)) zU) (aC (fP Zm Xr) (aC (f2 (f2 (f2 zR xg zU) (fC (.int 64)) zH) (fC (.int 59)) zH) aN))) wL)) [none, some 1] xm yV (f2 zE zB ixP))) sNx)
  (zL (zW true 3 (fSl zB (oS zdj) (oS (fC (.int 63))) slP))
  (zL (sIf (fT (f2 (f2 zR Y5 zH) Zf (yf .Eq))) (zW true 3 (zN (aC zR (aC (fC (.int 40)) aN)) zO)) sNx)
  (xf (yc (Yg yI) [none, some 1] xm yV (f2 zE (f2 (f2 (zN (aC zB (aC yq aN)) zO) yL ixP) (fP Zm Xr) zH) ixP)))))))
def Yh : Fn := fnR 4 2 zdb
abbrev zhT : Stmt := top 33
abbrev zlC : List Str := ["_law_script", "_law_algebra_here", "_law_n", "_law_some", "_law_steps_here", "_law_first", "_law_alike", "_law_v"]
theorem X6 : FnScope zlC ["_law_script"] (zy zhT) := ⟨rfl, rfl, rfl, by decide +kernel, rfl, by decide +kernel, by decide +kernel⟩
theorem zlP : (["_law_v", "_law_algebra_here", "_law_first"] : List Str).Nodup := by decide +kernel
def zoJ : SF :=
 (zL (zW true 1 (zN WP Xn))
  (zL (zW true 1 (zN (aC zE (aC (zN (aC zB (aC Zf aN)) zZ) aN)) YF))
  (zL (zW true 2 (f2 zE yL ixP))
  (zL (zW true 3 (zN Zm Ye))
  (zL (zW true 4 (zN (aC zB Xo) Yh))
  (zL (zW true 5 (f2 (f2 (zN (aC zB (aC Zr aN)) zZ) Y5 zU) zR zH))
  (zL (zW true 6 (yc (xJ Yq xG) [none, some 1, some 5] xm (fT (f2 (zN (aC zE (aC zR WP)) yx) (yN (dC (fC (.str "alike")) dN)) (yf .Eq))) zB))
  (zL (sIf (fT (f2 vQ Zc (yf .NotIn))) (xf (fC (.bl false))) sNx)
  (zL (Z2 (zaR Zc) (gN 7) (zL (sIf (zfk (zgb (fT (zN (aC zE (aC yW (aC vQ zhf))) vd))) (fT (f2 (zN (aC zE (aC vK zjt)) yx) (yN (dC (fC (.str "alike")) dN)) (yf .NotEq)))) (xf (fC (.bl false))) sNx)
  (zL (sIf (fT (f2 (zN (aC zE (aC (f2 Zc (f1 yq zmM) ixP) zhf)) yx) (yN (dC (fC (.str "alike")) dN)) (yf .NotEq))) (xf (fC (.bl false))) sNx)
  (sIf (fT (f2 (zN (aC zE (aC (zN (aC zE (aC yW zjt)) Zy) (aC (zN (aC zE (aC yW zhf)) Zy) aN))) yx) (yN (dC (fC (.str "alike")) dN)) (yf .NotEq))) (xf (fC (.bl false))) sNx))))
  (xf (fC (.bl true))))))))))))
def zen : Fn := fnR 8 1 zoJ
set_option genInjectivity false in
set_option genSizeOf false in
structure Adr where
 zbV : Addr
 zcw : FuncData
 zeM : Addr
 zdW : FuncData
 Vy : Addr
 WN : FuncData
 Y7 : Addr
 Y8 : FuncData
 Ww : Addr
 Wc : FuncData
 Xl : Addr
 Xg : FuncData
 zcP : Addr
 zde : FuncData
 X8 : Addr
 XD : FuncData
 Vk : Addr
 Vb : FuncData
 Xf : Addr
 Xi : FuncData
 zaK : Addr
 zaH : FuncData
 XS : Addr
 Wj : FuncData
 zaM : Addr
 zaA : FuncData
 VH : Addr
 W5 : FuncData
 zaQ : Addr
 zaN : FuncData
 VB : Addr
 VG : FuncData
 Wg : Addr
 Wf : FuncData
 zaF : Addr
 zaS : FuncData
 W9 : Addr
 W6 : FuncData
 WY : Addr
 Vg : FuncData
 Xj : Addr
 Xk : FuncData
 zaW : Addr
 zaC : FuncData
 zau : Addr
 zay : FuncData
 WR : Addr
 Vc : FuncData
 zaz : Addr
 zaT : FuncData
 zbO : Addr
 zcp : FuncData
 X5 : Addr
 Wx : FuncData
 Wv : Addr
 Wd : FuncData
 Yl : Addr
 Yn : FuncData
 zcc : Addr
 zcz : FuncData
 Vn : Addr
 Vl : FuncData
 zlx : Addr
 zlU : FuncData
structure Txt (K : zC) (kd : KD) (mg : Str -> Option Value) (t : Adr) : Prop where
 zfA : Fun K "stepped" "stepped" VP t.zbV t.zcw
 zkD : Binds K t.zcw ["algebra", "step", "value"] []
 vD : mg "stepped" = some (.ref t.zbV)
 zdR : Fun K "framed" "framed" zbp t.zeM t.zdW
 zhY : Binds K t.zdW ["algebra", "steps", "value"] []
 Zy : mg "framed" = some (.ref t.zeM)
 zdc : Fun K "all_steps" "all_steps" vM t.Vy t.WN
 zhx : Binds K t.WN ["algebra"] []
 Zu : mg "all_steps" = some (.ref t.Vy)
 W8 : Fun K "telling_sign" "telling_sign" ZD t.Y7 t.Y8
 zdC : Binds K t.Y8 ["algebra", "one", "other"] []
 xQ : mg "telling_sign" = some (.ref t.Y7)
 ZF : Fun K "told_apart" "told_apart" Yy t.Ww t.Wc
 YB : Binds K t.Wc ["algebra", "one", "other"] []
 yx : mg "told_apart" = some (.ref t.Ww)
 wQ : Fun K "_law_cell_at" "_law_cell_at" Z3 t.Xl t.Xg
 vB : Binds K t.Xg ["_law_script", "_law_k"] []
 zZ : mg "_law_cell_at" = some (.ref t.Xl)
 zoP : Fun K "_law_whole" "_law_whole" VD t.zcP t.zde
 zoN : Binds K t.zde ["_law_found"] []
 zoI : mg "_law_whole" = some (.ref t.zcP)
 xR : Fun K "_law_stream" "_law_stream" YC t.X8 t.XD
 xZ : Binds K t.XD ["_law_cell", "_law_many"] []
 zO : mg "_law_stream" = some (.ref t.X8)
 zda : Fun K "_law_names" "_law_names" Yi t.Vk t.Vb
 zie : Binds K t.Vb ["_law_cell", "_law_many"] []
 Z8 : mg "_law_names" = some (.ref t.Vk)
 zaj : Fun K "_law_divisor" "_law_divisor" Z6 t.Xf t.Xi
 zfa : Binds K t.Xi ["_law_one", "_law_other"] []
 Zd : mg "_law_divisor" = some (.ref t.Xf)
 zef : Fun K "_law_sums" "_law_sums" Y6 t.zaK t.zaH
 zjf : Binds K t.zaH ["_law_n", "_law_m", "_law_xs"] []
 YK : mg "_law_sums" = some (.ref t.zaK)
 zbm : Fun K "_law_rising" "_law_rising" vY t.XS t.Wj
 zgp : Binds K t.Wj ["_law_n", "_law_m", "_law_xs"] []
 ZC : mg "_law_rising" = some (.ref t.XS)
 zdL : Fun K "_law_kept" "_law_kept" Z1 t.zaM t.zaA
 zjc : Binds K t.zaA ["_law_n", "_law_m", "_law_xs"] []
 YT : mg "_law_kept" = some (.ref t.zaM)
 zcU : Fun K "_law_joins" "_law_joins" wM t.VH t.W5
 zia : Binds K t.W5 ["_law_kind", "_law_n"] []
 Zt : mg "_law_joins" = some (.ref t.VH)
 zew : Fun K "_law_rows" "_law_rows" YL t.zaQ t.zaN
 zjA : Binds K t.zaN ["_law_kind", "_law_n", "_law_m", "_law_xs"] []
 ZX : mg "_law_rows" = some (.ref t.zaQ)
 Xc : Fun K "_law_plain" "_law_plain" Yb t.VB t.VG
 W4 : Binds K t.VG ["_law_kind", "_law_n", "_law_m", "_law_many", "_law_cell"] []
 wA : mg "_law_plain" = some (.ref t.VB)
 zbh : Fun K "_law_beside" "_law_beside" ZG t.Wg t.Wf
 zgg : Binds K t.Wf ["_law_one", "_law_other", "_law_m"] []
 ZL : mg "_law_beside" = some (.ref t.Wg)
 zei : Fun K "_law_made" "_law_made" XC t.zaF t.zaS
 zjm : Binds K t.zaS ["_law_cell", "_law_m", "_law_many"] []
 YW : mg "_law_made" = some (.ref t.zaF)
 zdd : Fun K "_law_order" "_law_order" Xa t.W9 t.W6
 ziw : Binds K t.W6 ["_law_cell", "_law_n"] []
 Z9 : mg "_law_order" = some (.ref t.W9)
 zcV : Fun K "_law_signs" "_law_signs" Yj t.WY t.Vg
 zhh : Binds K t.Vg ["_law_cell", "_law_n", "_law_names_here"] []
 Zv : mg "_law_signs" = some (.ref t.WY)
 zaf : Fun K "_law_algebra" "_law_algebra" wR t.Xj t.Xk
 zfb : Binds K t.Xk ["_law_cell", "_law_other"] []
 vC : mg "_law_algebra" = some (.ref t.Xj)
 zeh : Fun K "_law_bent" "_law_bent" ZZ t.zaW t.zaC
 ziV : Binds K t.zaC ["_law_algebra_here", "_law_cell"] []
 YX : mg "_law_bent" = some (.ref t.zaW)
 zaE : Fun K "_law_step" "_law_step" XR t.zau t.zay
 zee : Binds K t.zay ["_law_algebra_here", "_law_step_here", "_law_value"] []
 wH : mg "_law_step" = some (.ref t.zau)
 zdf : Fun K "_law_steps" "_law_steps" Z7 t.WR t.Vc
 ziq : Binds K t.Vc ["_law_algebra_here"] []
 Ye : mg "_law_steps" = some (.ref t.WR)
 YG : Fun K "_law_held" "_law_held" YZ t.zaz t.zaT
 X4 : Binds K t.zaT ["_law_algebra_here", "_law_value"] []
 xX : mg "_law_held" = some (.ref t.zaz)
 zfU : Fun K "_law_few" "_law_few" Xw t.zbO t.zcp
 zlc : Binds K t.zcp ["_law_algebra_here", "_law_cell"] []
 YF : mg "_law_few" = some (.ref t.zbO)
 zbj : Fun K "_law_walked" "_law_walked" Yv t.X5 t.Wx
 zgc : Binds K t.Wx ["_law_algebra_here", "_law_steps_here", "_law_one", "_law_other"] []
 vd : mg "_law_walked" = some (.ref t.X5)
 Xx : Fun K "_law_digits" "_law_digits" Yz t.Wv t.Wd
 zby : Binds K t.Wd ["_law_cell", "_law_base", "_law_many"] []
 wL : mg "_law_digits" = some (.ref t.Wv)
 Wy : Fun K "_law_by_digits" "_law_by_digits" wK t.Yl t.Yn
 zdh : Binds K t.Yn ["_law_algebra_here", "_law_cell"] []
 vz : mg "_law_by_digits" = some (.ref t.Yl)
 zfX : Fun K "_law_any" "_law_any" VN t.zcc t.zcz
 zle : Binds K t.zcz ["_law_script"] []
 Xn : mg "_law_any" = some (.ref t.zcc)
 zcQ : Fun K "_law_frame" "_law_frame" Zw t.Vn t.Vl
 zhp : Binds K t.Vl ["_law_script", "_law_some"] []
 Yh : mg "_law_frame" = some (.ref t.Vn)
 zrM : Fun K "law" "law" zhT t.zlx t.zlU
 zsU : Binds K t.zlU ["_law_script"] []
 zen : mg "law" = some (.ref t.zlx)
 zsD : mg "bool" = none
 zqL : mg "dict" = none
 zhG : mg "enumerate" = none
 zoO : mg "int" = none
 zon : mg "isinstance" = none
 zal : mg "len" = none
 zce : mg "list" = none
 zrq : mg "max" = none
 yF : mg "range" = none
 zmN : mg "sorted" = none
 zoc : mg "tuple" = none
 zmC : mg "zip" = none
set_option maxHeartbeats 8000000
section
variable {P : Program} {w : World} {K : zC} {mg : Str -> Option Value} {base : Heap} {kd : KD} {t : Adr}
theorem zkT (T : Txt K kd mg t) (hkd : KD1 P w K kd) : FnOk P w K mg base CX0 1 t.zbV t.zcw ["algebra", "step", "value"] (spD K kd vD) := by
 refine wF (N := zfN) (ps := ["algebra", "step", "value"]) (k := 0) (c := zfV) T.zfA ziT λ cdv A outer s H E hr => ?_
 exact (by
  refine zj ?_ ?_; exact (ww (yM (yC (hkd _ rfl rfl rfl) (yX hr) .Eq) (yr .Eq) (ax hkd (av 1) aI) aS (yJ _)) (zx (yh (ax hkd (ax hkd (ax hkd (av 0) aI) (ax hkd (av 1) aI)) (av 2)))) yP)
  refine zj ?_ ?_; exact (ww (yM (yC (hkd _ rfl rfl rfl) (yX hr) .Eq) (yr .Eq) (ax hkd (av 1) aI) aS (yJ _)) (zx (yh (ax hkd (ax hkd (ax hkd (av 0) aI) (av 2)) (ax hkd (av 1) aI)))) yP)
  exact zx (yh (ax hkd (ax hkd (ax hkd (WQ (zjx rfl (hkd _ rfl rfl rfl)) rfl T.zqL Bt.dict (zf (ax hkd (av 0) aI) zr (za rfl)) (Bt.n _ rfl) (by decide) rfl rfl) (ax hkd (av 1) aI)) (ax hkd (av 1) aI)) (av 2))))
theorem zij (T : Txt K kd mg t) (hkd : KD1 P w K kd) : FnOk P w K mg base CX0 2 t.zeM t.zdW ["algebra", "steps", "value"] (spD K kd Zy) := by
 refine wF (N := zhr) (ps := ["algebra", "steps", "value"]) (k := 1) (c := zir) T.zdR V2 λ cdv A outer s H E hr => ?_
 exact (by
  refine zj ?_ ?_; exact (by refine sv true 3 V2.nd ?_; exact (av 2))
  refine zj ?_ ?_; exact (wU PassesOwn.never rfl (Wb (av 1)) (an 4 V2.nd) (zx (by refine sv true 3 V2.nd ?_; exact (zP (zkT T hkd) (hr.mono (by omega)) rfl T.vD T.zfA.kp T.zkD yQ (by refine zf ?_ ?_ ?_; exact (av 0); refine zf ?_ ?_ ?_; exact (av 4); refine zf ?_ ?_ ?_; exact (av 3); exact zr; exact za rfl; exact za rfl; exact za rfl) (by decide) rfl rfl))) (λ _ => rfl))
  exact zx (yh (av 3)))
theorem zhB (T : Txt K kd mg t) (hkd : KD1 P w K kd) : FnOk P w K mg base CX0 1 t.Vy t.WN ["algebra"] (spD K kd Zu) := by
 refine wF (N := Yd) (ps := ["algebra"]) (k := 0) (c := zcZ) T.zdc vU λ cdv A outer s H E hr => ?_
 exact (by
  refine zj ?_ ?_; exact (by refine sv true 1 vU.nd ?_; exact (ax hkd (av 0) aI))
  refine zj ?_ ?_; exact (by refine sv true 2 vU.nd ?_; exact (zfS rfl rfl T.yF rfl T.zce (zf (ax hkd (av 0) aI) zr (za rfl)) rfl rfl))
  refine zj ?_ ?_; exact (by refine sv false 3 vU.nd ?_; exact (zm (zp .Add) (yO (N := ["x", "join"]) (cap := [none, some 1]) (S := [0]) rfl (ZV (av 2)) rfl (by change xU _ Yd _ (zy vM).names _ = true; decide +kernel) (by decide) (λ cl s H fp => (an 0 zeT)) (λ cl s H fp => yE) (λ cl s H fp => (yR (by refine zg ?_ ?_ ?_; exact (yR (zg aS (zg (av 0) zF (za rfl)) (za rfl))); refine zg ?_ ?_ ?_; exact (ax hkd (av 1) (av 0)); exact zF; exact za rfl; exact za rfl))) (λ _ => rfl)) (yO (N := ["x", "join"]) (cap := [none, some 1]) (S := [0]) rfl (ZV (av 2)) rfl (by change xU _ Yd _ (zy vM).names _ = true; decide +kernel) (by decide) (λ cl s H fp => (an 0 zeg)) (λ cl s H fp => yE) (λ cl s H fp => (yR (by refine zg ?_ ?_ ?_; exact (yR (zg aS (zg (av 0) zF (za rfl)) (za rfl))); refine zg ?_ ?_ ?_; exact (yO (N := ["row", "x"]) (cap := [none, some 0]) (S := [0]) rfl (ZV (av 1)) rfl (by with_unfolding_all rfl) (by decide) (λ cl s H fp => (an 0 zeo)) (λ cl s H fp => yE) (λ cl s H fp => (ax hkd (av 0) (av 1))) (λ _ => rfl)); exact zF; exact za rfl; exact za rfl))) (λ _ => rfl))))
  refine zj ?_ ?_; exact (wU PassesOwn.never rfl (Wb (ax hkd (av 0) aI)) (Zo rfl (zX (an 4 vU.nd) (zX (an 5 vU.nd) vf rfl) rfl) rfl rfl) (zx (vJ (Zn zlg zqo PySem.F.slot_list_extend PySem.F.type_list_extend (pv 3) (zg (yO (N := ["c", "row", "name"]) (cap := [none, none, some 4]) (S := [0, 1]) rfl (znP rfl T.zhG (av 5) rfl) rfl (by change xU _ Yd _ (zy vM).names _ = true; decide +kernel) (by decide) (λ cl s H fp => (Zo rfl (zX (an 0 Vj) (zX (an 1 Vj) vf rfl) rfl) rfl rfl)) (λ cl s H fp => yE) (λ cl s H fp => (yR (by refine zg ?_ ?_ ?_; exact (yR (by refine zg ?_ ?_ ?_; exact aS; refine zg ?_ ?_ ?_; exact (av 2); refine zg ?_ ?_ ?_; exact (av 0); exact zF; exact za rfl; exact za rfl; exact za rfl)); refine zg ?_ ?_ ?_; exact (av 1); exact zF; exact za rfl; exact za rfl))) (λ _ => rfl)) zF (za rfl)) rfl rfl rfl rfl rfl) rfl)) (λ _ => rfl))
  exact zx (yh (av 3)))
theorem zdI (T : Txt K kd mg t) (hkd : KD1 P w K kd) : FnOk P w K mg base CX0 1 t.Y7 t.Y8 ["algebra", "one", "other"] (spD K kd xQ) := by
 refine wF (N := W3) (ps := ["algebra", "one", "other"]) (k := 0) (c := Vu) T.W8 Yo λ cdv A outer s H E hr => ?_
 exact (by
  refine zj ?_ ?_; exact (wU PassesOwn.never rfl (Wb (ax hkd (av 0) aI)) (Zo rfl (zX (an 3 Yo.nd) (zX (an 4 Yo.nd) vf rfl) rfl) rfl rfl) (zx (ww (yM (yC (hkd _ rfl rfl rfl) (yX hr) .NotEq) (yr .NotEq) (zcn (yC (hkd _ rfl rfl rfl) (yX hr) .In) (av 1) (av 4) rfl) (zcn (yC (hkd _ rfl rfl rfl) (yX hr) .In) (av 2) (av 4) rfl) (yJ _)) (zx (yh (av 3))) yP)) (λ _ => rfl))
  exact zx (yh aZ))
theorem Yx (T : Txt K kd mg t) (hkd : KD1 P w K kd) : FnOk P w K mg base CX0 2 t.Ww t.Wc ["algebra", "one", "other"] (spD K kd yx) := by
 refine wF (N := zbD) (ps := ["algebra", "one", "other"]) (k := 1) (c := zbA) T.ZF xF λ cdv A outer s H E hr => ?_
 exact (by
  refine zj ?_ ?_; exact (by refine sv true 3 xF.nd ?_; exact (zP (zhB T hkd) (hr.mono (by omega)) rfl T.Zu T.zdc.kp T.zhx yQ (zf (av 0) zr (za rfl)) (by decide) rfl rfl))
  refine zj ?_ ?_; exact (by refine sv false 4 xF.nd ?_; exact (xu (by refine zg ?_ ?_ ?_; exact (yR (zg (av 1) (zg (av 2) zF (za rfl)) (za rfl))); exact zF; exact za rfl)))
  refine zj ?_ ?_; exact (by refine sv false 5 xF.nd ?_; exact (zku (zjR hr) (yR (zg (av 1) (zg (av 2) zF (za rfl)) (za rfl))) (xu zF)))
  refine zj ?_ ?_; exact (by refine sv true 6 xF.nd ?_; exact aI)
  refine zj ?_ ?_; exact (zhQ (n := 10000) PassesOwn.never (yM (yC (hkd _ rfl rfl rfl) (yX hr) .Lt) (yr .Lt) (av 6) (YH (vW (hkd _ rfl rfl rfl)) rfl T.zal Bt.len (zf (av 4) zr (za rfl)) (Bt.n _ rfl) (by decide) rfl rfl) (yJ _)) (by
  refine zj ?_ ?_; exact (by refine sv true 7 xF.nd ?_; exact (ax hkd (av 4) (av 6)))
  refine zj ?_ ?_; exact (by refine sv true 8 xF.nd ?_; exact (zP (zdI T hkd) (hr.mono (by omega)) rfl T.xQ T.W8.kp T.zdC yQ (by refine zf ?_ ?_ ?_; exact (av 0); refine zf ?_ ?_ ?_; exact (ax hkd (av 7) aI); refine zf ?_ ?_ ?_; exact (ax hkd (av 7) aI); exact zr; exact za rfl; exact za rfl; exact za rfl) (by decide) rfl rfl))
  refine zj ?_ ?_; exact (ww (yM (yC (hkd _ rfl rfl rfl) (yX hr) .IsNot) (yr .IsNot) (av 8) aZ (yJ _)) (zx (yh (yR (by refine zg ?_ ?_ ?_; exact aS; refine zg ?_ ?_ ?_; exact (zlH (zoG (zjR hr)) (av 5) (av 7) (λ _ _ => rfl)); refine zg ?_ ?_ ?_; exact (av 8); exact zF; exact za rfl; exact za rfl; exact za rfl)))) yP)
  refine zj ?_ ?_; exact (wU PassesOwn.never rfl (Wb (av 3)) (Zo rfl (zX (an 9 xF.nd) (zX (an 10 xF.nd) vf rfl) rfl) rfl rfl) (by
  refine zj ?_ ?_; exact (by refine sv true 11 xF.nd ?_; exact (yR (zg (ax hkd (av 10) (ax hkd (av 7) aI)) (zg (ax hkd (av 10) (ax hkd (av 7) aI)) zF (za rfl)) (za rfl))))
  exact zx (ww (yM (yC (hkd _ rfl rfl rfl) (yX hr) .NotIn) (yr .NotIn) (av 11) (av 5) rfl) (by
  refine zj ?_ ?_; exact (zor (zjR hr) (pv 5) (av 11) (zm (zp .Add) (zlH (zoG (zjR hr)) (av 5) (av 7) (λ _ _ => rfl)) (xu (zg (av 9) zF (za rfl)))) rfl)
  exact zx (vJ (Zn wB ZW PySem.F.slot_list_append PySem.F.type_list_append (pv 4) (zg (av 11) zF (za rfl)) rfl rfl rfl rfl rfl) rfl)) yP)) (λ _ => rfl))
  exact zx (zpO (i := 6) xF.nd rfl (.inl rfl) (by first | exact Or.inl rfl | exact Or.inr rfl))))
  exact zx (yh (yR (zg aS zF (za rfl)))))
theorem vG (T : Txt K kd mg t) (hkd : KD1 P w K kd) : FnOk P w K mg base CX0 1 t.Xl t.Xg ["_law_script", "_law_k"] (spD K kd zZ) := by
 refine wF (N := zam) (ps := ["_law_script", "_law_k"]) (k := 0) (c := zab) T.wQ zey λ cdv A outer s H E hr => ?_
 exact (by
  refine zj ?_ ?_; exact (ww (yM (yC (hkd _ rfl rfl rfl) (yX hr) .Lt) (yr .Lt) (av 1) (YH (vW (hkd _ rfl rfl rfl)) rfl T.zal Bt.len (zf (av 0) zr (za rfl)) (Bt.n _ rfl) (by decide) rfl rfl) (yJ _)) (zx (yh (ax hkd (av 0) (av 1)))) yP)
  exact zx (yh aI))
theorem xY (T : Txt K kd mg t) (hkd : KD1 P w K kd) : FnOk P w K mg base CX0 1 t.X8 t.XD ["_law_cell", "_law_many"] (spD K kd zO) := by
 refine wF (N := zbl) (ps := ["_law_cell", "_law_many"]) (k := 0) (c := zbd) T.xR Zi λ cdv A outer s H E hr => ?_
 exact (by
  refine zj ?_ ?_; exact (by refine sv false 2 Zi.nd ?_; exact (xu zF))
  refine zj ?_ ?_; exact (by refine sv true 3 Zi.nd ?_; exact (zm (zp .Add) (zm (zp .Mod) (av 0) aI) aI))
  refine zj ?_ ?_; exact (wU PassesOwn.never rfl (vX rfl T.yF (zf (zm (zp .Add) (av 1) aI) zr (za rfl)) rfl) (an 4 Zi.nd) (by
  refine zj ?_ ?_; exact (by refine sv true 3 Zi.nd ?_; exact (zm (zp .Mod) (zm (zp .Add) (zm (zp .Add) (zm (zp .Mult) (av 3) (av 3)) (zm (zp .Mult) aI (av 3))) (av 4)) aI))
  exact zx (vJ (Zn wB ZW PySem.F.slot_list_append PySem.F.type_list_append (pv 2) (zg (zm (zp .Mod) (zm (zp .Add) (zm (zp .Mult) (av 3) aI) (zm (zp .Mult) aI (av 4))) aI) zF (za rfl)) rfl rfl rfl rfl rfl) rfl)) (λ _ => rfl))
  exact zx (yh (YQ (av 2) (v5 aI) zba)))
theorem zil (T : Txt K kd mg t) (hkd : KD1 P w K kd) : FnOk P w K mg base CX0 2 t.Vk t.Vb ["_law_cell", "_law_many"] (spD K kd Z8) := by
 refine wF (N := Vr) (ps := ["_law_cell", "_law_many"]) (k := 1) (c := zcH) T.zda vm λ cdv A outer s H E hr => ?_
 exact (by
  refine zj ?_ ?_; exact (by refine sv true 2 vm.nd ?_; exact aS)
  refine zj ?_ ?_; exact (by refine sv true 3 vm.nd ?_; exact (zP (xY T hkd) (hr.mono (by omega)) rfl T.zO T.xR.kp T.xZ yQ (zf (av 0) (zf aI zr (za rfl)) (za rfl)) (by decide) rfl rfl))
  refine zj ?_ ?_; exact (by refine sv true 4 vm.nd ?_; exact (zgY (ty := .str) (hkd _ rfl rfl rfl) znD PySem.F.plainAttrs_str PySem.F.slot_str_join PySem.F.type_str_join aS (zf (yO (N := ["_law_x", "_law_letters"]) (cap := [none, some 2]) (S := [0]) rfl (ZV (YQ (av 3) zba (v5 (zm (zp .Add) aI (zm (zp .Mod) (av 0) aI))))) rfl (by change xU _ Vr _ (zy Yi).names _ = true; decide +kernel) (by decide) (λ cl s H fp => (an 0 zdO)) (λ cl s H fp => yE) (λ cl s H fp => (ax hkd (av 1) (zm (zp .Mod) (av 0) aI))) (λ _ => rfl)) zr (za rfl)) rfl rfl rfl rfl rfl))
  refine zj ?_ ?_; exact (by refine sv true 5 vm.nd ?_; exact (zm (zp .Mod) (zm (zp .FloorDiv) (av 0) aI) (YH (vW (hkd _ rfl rfl rfl)) rfl T.zal Bt.len (zf (av 4) zr (za rfl)) (Bt.n _ rfl) (by decide) rfl rfl)))
  refine zj ?_ ?_; exact (by refine sv false 6 vm.nd ?_; exact (xu zF))
  refine zj ?_ ?_; exact (wU PassesOwn.never rfl (vX rfl T.yF (zf (av 1) zr (za rfl)) rfl) (an 7 vm.nd) (zx (vJ (Zn wB ZW PySem.F.slot_list_append PySem.F.type_list_append (pv 6) (zg (zm (zp .Add) (zm (zp .Add) (zfz (av 4) zba (v5 (av 5))) (ax hkd (av 2) (zm (zp .Mod) (zm (zp .Add) (ax hkd (av 3) aI) (zm (zp .Mult) aI (av 7))) aI))) (zfz (av 4) (v5 (zm (zp .Add) (av 5) aI)) zba)) zF (za rfl)) rfl rfl rfl rfl rfl) rfl)) (λ _ => rfl))
  exact zx (yh (av 6)))
theorem zfh (T : Txt K kd mg t) (hkd : KD1 P w K kd) : FnOk P w K mg base CX0 1 t.Xf t.Xi ["_law_one", "_law_other"] (spD K kd Zd) := by
 refine wF (N := zah) (ps := ["_law_one", "_law_other"]) (k := 0) (c := zag) T.zaj Vv λ cdv A outer s H E hr => ?_
 exact (by
  refine zj ?_ ?_; exact (zhQ (n := 10000) PassesOwn.never (yM (yC (hkd _ rfl rfl rfl) (yX hr) .Gt) (yr .Gt) (av 1) aI (yJ _)) (zx (zpk (i := 0) (j := 1) rfl Vv.nd rfl rfl (by decide) rfl rfl (zg (av 1) (zg (zm (zp .Mod) (av 0) (av 1)) zF (za rfl)) (za rfl)) rfl rfl)))
  exact zx (yh (av 0)))
theorem zja (T : Txt K kd mg t) (hkd : KD1 P w K kd) : FnOk P w K mg base CX0 2 t.zaK t.zaH ["_law_n", "_law_m", "_law_xs"] (spD K kd YK) := by
 refine wF (N := zaG) (ps := ["_law_n", "_law_m", "_law_xs"]) (k := 1) (c := zeD) T.zef Xd λ cdv A outer s H E hr => ?_
 exact (by
  refine zj ?_ ?_; exact (by refine sv true 3 Xd.nd ?_; exact (zm (zp .FloorDiv) (av 0) (zP (zfh T hkd) (hr.mono (by omega)) rfl T.Zd T.zaj.kp T.zfa yQ (zf (av 0) (zf (av 1) zr (za rfl)) (za rfl)) (by decide) rfl rfl)))
  refine zj ?_ ?_; exact (by refine sv false 4 Xd.nd ?_; exact (xu zF))
  refine zj ?_ ?_; exact (wU PassesOwn.never rfl (vX rfl T.yF (zf (av 1) zr (za rfl)) rfl) (an 5 Xd.nd) (zx (vJ (Zn wB ZW PySem.F.slot_list_append PySem.F.type_list_append (pv 4) (zg (yO (N := ["_law_a", "_law_n", "_law_xs", "_law_c", "_law_step_here"]) (cap := [none, some 0, some 2, some 5, some 3]) (S := [0]) rfl (yG rfl T.yF (zf (av 0) zr (za rfl)) rfl) rfl (by change xU _ zaG _ (zy Y6).names _ = true; decide +kernel) (by decide) (λ cl s H fp => (an 0 zff)) (λ cl s H fp => yE) (λ cl s H fp => (zm (zp .Mod) (zm (zp .Add) (zm (zp .Mult) (av 0) (ax hkd (av 2) aI)) (zm (zp .Mult) (zm (zp .Mult) (av 3) (av 4)) (ax hkd (av 2) aI))) (av 1))) (λ _ => rfl)) zF (za rfl)) rfl rfl rfl rfl rfl) rfl)) (λ _ => rfl))
  exact zx (yh (av 4)))
theorem zgs (T : Txt K kd mg t) (hkd : KD1 P w K kd) : FnOk P w K mg base CX0 1 t.XS t.Wj ["_law_n", "_law_m", "_law_xs"] (spD K kd ZC) := by
 refine wF (N := Yw) (ps := ["_law_n", "_law_m", "_law_xs"]) (k := 0) (c := zbH) T.zbm zan λ cdv A outer s H E hr => ?_
 exact (by
  refine zj ?_ ?_; exact (by refine sv false 3 zan.nd ?_; exact (YH zjy rfl T.zmN Bt.sorted (zf (zm (zp .Add) (xu (zg aI zF (za rfl))) (yO (N := ["_law_k", "_law_n", "_law_xs"]) (cap := [none, some 0, some 2]) (S := [0]) rfl (yG rfl T.yF (zf (zm (zp .Sub) (av 0) aI) zr (za rfl)) rfl) rfl (by change xU _ Yw _ (zy vY).names _ = true; decide +kernel) (by decide) (λ cl s H fp => (an 0 zdk)) (λ cl s H fp => yE) (λ cl s H fp => (zm (zp .Mod) (ax hkd (av 2) (av 0)) (av 1))) (λ _ => rfl))) zr (za rfl)) (Bt.n _ rfl) (by decide) rfl rfl))
  refine zj ?_ ?_; exact (znh (pv 3) XM XM (λ _ => rfl) rfl rfl rfl)
  exact zx (yh (yO (N := ["_law_c", "_law_row"]) (cap := [none, some 3]) (S := [0]) rfl (yG rfl T.yF (zf (av 1) zr (za rfl)) rfl) rfl (by change xU _ Yw _ (zy vY).names _ = true; decide +kernel) (by decide) (λ cl s H fp => (an 0 zdg)) (λ cl s H fp => yE) (λ cl s H fp => (WQ VJ rfl T.zce Bt.list (zf (av 1) zr (za rfl)) (Bt.n _ rfl) (by decide) rfl rfl)) (λ _ => rfl))))
theorem ziG (T : Txt K kd mg t) (hkd : KD1 P w K kd) : FnOk P w K mg base CX0 1 t.zaM t.zaA ["_law_n", "_law_m", "_law_xs"] (spD K kd YT) := by
 refine wF (N := XJ) (ps := ["_law_n", "_law_m", "_law_xs"]) (k := 0) (c := zeR) T.zdL zcI λ cdv A outer s H E hr => ?_
 exact (by
  refine zj ?_ ?_; exact (by refine sv true 3 zcI.nd ?_; exact (zm (zp .Add) (xu (zg aI zF (za rfl))) (yO (N := ["_law_k", "_law_xs", "_law_n"]) (cap := [none, some 2, some 0]) (S := [0]) rfl (yG rfl T.yF (zf (zm (zp .Sub) (av 0) aI) zr (za rfl)) rfl) rfl (by change xU _ XJ _ (zy Z1).names _ = true; decide +kernel) (by decide) (λ cl s H fp => (an 0 zfl)) (λ cl s H fp => yE) (λ cl s H fp => (zm (zp .Add) aI (zm (zp .Mod) (ax hkd (av 1) (av 0)) (zm (zp .Sub) (av 2) aI)))) (λ _ => rfl))))
  exact zx (yh (yO (N := ["_law_c", "_law_row"]) (cap := [none, some 3]) (S := [0]) rfl (yG rfl T.yF (zf (av 1) zr (za rfl)) rfl) rfl (by change xU _ XJ _ (zy Z1).names _ = true; decide +kernel) (by decide) (λ cl s H fp => (an 0 zfd)) (λ cl s H fp => yE) (λ cl s H fp => (WQ VJ rfl T.zce Bt.list (zf (av 1) zr (za rfl)) (Bt.n _ rfl) (by decide) rfl rfl)) (λ _ => rfl))))
theorem zix (T : Txt K kd mg t) (hkd : KD1 P w K kd) : FnOk P w K mg base CX0 1 t.VH t.W5 ["_law_kind", "_law_n"] (spD K kd Zt) := by
 refine wF (N := vN) (ps := ["_law_kind", "_law_n"]) (k := 0) (c := zcL) T.zcU zbG λ cdv A outer s H E hr => ?_
 exact (by
  refine zj ?_ ?_; exact (ww (yM (yC (hkd _ rfl rfl rfl) (yX hr) .Eq) (yr .Eq) (av 0) aI (yJ _)) (zx (yh (yO (N := ["_law_a", "_law_n"]) (cap := [none, some 1]) (S := [0]) rfl (yG rfl T.yF (zf (av 1) zr (za rfl)) rfl) rfl (by change xU _ vN _ (zy wM).names _ = true; decide +kernel) (by decide) (λ cl s H fp => (an 0 zeH)) (λ cl s H fp => yE) (λ cl s H fp => (yO (N := ["_law_b", "_law_n", "_law_a"]) (cap := [none, some 1, some 0]) (S := [0]) rfl (yG rfl T.yF (zf (av 1) zr (za rfl)) rfl) rfl (by with_unfolding_all rfl) (by decide) (λ cl s H fp => (an 0 zdQ)) (λ cl s H fp => yE) (λ cl s H fp => (zm (zp .Mod) (zm (zp .Add) (av 2) (av 0)) (av 1))) (λ _ => rfl))) (λ _ => rfl)))) yP)
  refine zj ?_ ?_; exact (ww (yM (yC (hkd _ rfl rfl rfl) (yX hr) .Eq) (yr .Eq) (av 0) aI (yJ _)) (zx (yh (yO (N := ["_law_a", "_law_n"]) (cap := [none, some 1]) (S := [0]) rfl (yG rfl T.yF (zf (av 1) zr (za rfl)) rfl) rfl (by change xU _ vN _ (zy wM).names _ = true; decide +kernel) (by decide) (λ cl s H fp => (an 0 zdM)) (λ cl s H fp => yE) (λ cl s H fp => (yO (N := ["_law_b", "_law_a"]) (cap := [none, some 0]) (S := [0]) rfl (yG rfl T.yF (zf (av 1) zr (za rfl)) rfl) rfl (by with_unfolding_all rfl) (by decide) (λ cl s H fp => (an 0 zeL)) (λ cl s H fp => yE) (λ cl s H fp => (YH (zlf rfl) rfl T.zrq Bt.max (zf (av 1) (zf (av 0) zr (za rfl)) (za rfl)) (Bt.n _ rfl) (by decide) rfl rfl)) (λ _ => rfl))) (λ _ => rfl)))) yP)
  refine zj ?_ ?_; exact (ww (yM (yC (hkd _ rfl rfl rfl) (yX hr) .Eq) (yr .Eq) (av 0) aI (yJ _)) (zx (yh (yO (N := ["_law_a", "_law_n"]) (cap := [none, some 1]) (S := [0]) rfl (yG rfl T.yF (zf (av 1) zr (za rfl)) rfl) rfl (by change xU _ vN _ (zy wM).names _ = true; decide +kernel) (by decide) (λ cl s H fp => (an 0 zdV)) (λ cl s H fp => yE) (λ cl s H fp => (yO (N := ["_law_b", "_law_a"]) (cap := [none, some 0]) (S := [0]) rfl (yG rfl T.yF (zf (av 1) zr (za rfl)) rfl) rfl (by with_unfolding_all rfl) (by decide) (λ cl s H fp => (an 0 zez)) (λ cl s H fp => yE) (λ cl s H fp => (ax hkd (xu (zg (av 0) (zg (av 1) zF (za rfl)) (za rfl))) (WQ zeW rfl T.zoO Bt.int (zf (zcn (yC (hkd _ rfl rfl rfl) (yX hr) .Eq) (av 0) aI (yJ _)) zr (za rfl)) (Bt.n _ rfl) (by decide) rfl rfl))) (λ _ => rfl))) (λ _ => rfl)))) yP)
  refine zj ?_ ?_; exact (ww (yM (yC (hkd _ rfl rfl rfl) (yX hr) .Eq) (yr .Eq) (av 0) aI (yJ _)) (zx (yh (yO (N := ["_law_a", "_law_n"]) (cap := [none, some 1]) (S := [0]) rfl (yG rfl T.yF (zf (av 1) zr (za rfl)) rfl) rfl (by change xU _ vN _ (zy wM).names _ = true; decide +kernel) (by decide) (λ cl s H fp => (an 0 zdG)) (λ cl s H fp => yE) (λ cl s H fp => (yO (N := ["_law_b", "_law_a"]) (cap := [none, some 0]) (S := [0]) rfl (yG rfl T.yF (zf (av 1) zr (za rfl)) rfl) rfl (by with_unfolding_all rfl) (by decide) (λ cl s H fp => (an 0 zeB)) (λ cl s H fp => yE) (λ cl s H fp => (ax hkd (xu (zg (av 1) (zg (av 0) zF (za rfl)) (za rfl))) (WQ zeW rfl T.zoO Bt.int (zf (zcn (yC (hkd _ rfl rfl rfl) (yX hr) .Eq) (av 1) aI (yJ _)) zr (za rfl)) (Bt.n _ rfl) (by decide) rfl rfl))) (λ _ => rfl))) (λ _ => rfl)))) yP)
  refine zj ?_ ?_; exact (by refine sv true 2 zbG.nd ?_; exact (xu (by refine zg ?_ ?_ ?_; exact (yR (zg aI (zg aI zF (za rfl)) (za rfl))); refine zg ?_ ?_ ?_; exact (yR (zg aI (zg aI zF (za rfl)) (za rfl))); refine zg ?_ ?_ ?_; exact (yR (zg aI (zg aI zF (za rfl)) (za rfl))); refine zg ?_ ?_ ?_; exact (yR (zg aI (zg aI zF (za rfl)) (za rfl))); exact zF; exact za rfl; exact za rfl; exact za rfl; exact za rfl)))
  exact zx (yh (yO (N := ["_law_one", "_law_maps"]) (cap := [none, some 2]) (S := [0]) rfl (ZV (av 2)) rfl (by change xU _ vN _ (zy wM).names _ = true; decide +kernel) (by decide) (λ cl s H fp => (an 0 zer)) (λ cl s H fp => yE) (λ cl s H fp => (yO (N := ["_law_two", "_law_maps", "_law_one"]) (cap := [none, some 1, some 0]) (S := [0]) rfl (ZV (av 1)) rfl (by with_unfolding_all rfl) (by decide) (λ cl s H fp => (an 0 zdm)) (λ cl s H fp => yE) (λ cl s H fp => (zgY (ty := .lst) (hkd _ rfl rfl rfl) (zhN (hkd _ rfl rfl rfl) (yX hr)) PySem.F.plainAttrs_list PySem.F.slot_list_index PySem.F.type_list_index (av 1) (by refine zf ?_ ?_ ?_; exact (yR (zg (ax hkd (av 0) (ax hkd (av 2) aI)) (zg (ax hkd (av 0) (ax hkd (av 2) aI)) zF (za rfl)) (za rfl))); exact zr; exact za rfl) rfl rfl rfl rfl rfl)) (λ _ => rfl))) (λ _ => rfl))))
theorem zjk (T : Txt K kd mg t) (hkd : KD1 P w K kd) : FnOk P w K mg base CX0 3 t.zaQ t.zaN ["_law_kind", "_law_n", "_law_m", "_law_xs"] (spD K kd ZX) := by
 refine wF (N := zaJ) (ps := ["_law_kind", "_law_n", "_law_m", "_law_xs"]) (k := 2) (c := zeI) T.zew zhD λ cdv A outer s H E hr => ?_
 exact (by
  refine zj ?_ ?_; exact (ww (yM (yC (hkd _ rfl rfl rfl) (yX hr) .Eq) (yr .Eq) (av 0) aI (yJ _)) (zx (yh (zP (zja T hkd) (hr.mono (by omega)) rfl T.YK T.zef.kp T.zjf yQ (by refine zf ?_ ?_ ?_; exact (av 1); refine zf ?_ ?_ ?_; exact (av 2); refine zf ?_ ?_ ?_; exact (av 3); exact zr; exact za rfl; exact za rfl; exact za rfl) (by decide) rfl rfl))) yP)
  refine zj ?_ ?_; exact (ww (yM (yC (hkd _ rfl rfl rfl) (yX hr) .Eq) (yr .Eq) (av 0) aI (yJ _)) (zx (yh (zP (zgs T hkd) (hr.mono (by omega)) rfl T.ZC T.zbm.kp T.zgp yQ (by refine zf ?_ ?_ ?_; exact (av 1); refine zf ?_ ?_ ?_; exact (av 2); refine zf ?_ ?_ ?_; exact (av 3); exact zr; exact za rfl; exact za rfl; exact za rfl) (by decide) rfl rfl))) yP)
  refine zj ?_ ?_; exact (ww (yM (yC (hkd _ rfl rfl rfl) (yX hr) .Lt) (yr .Lt) (av 0) aI (yJ _)) (zx (yh (zP (ziG T hkd) (hr.mono (by omega)) rfl T.YT T.zdL.kp T.zjc yQ (by refine zf ?_ ?_ ?_; exact (av 1); refine zf ?_ ?_ ?_; exact (av 2); refine zf ?_ ?_ ?_; exact (av 3); exact zr; exact za rfl; exact za rfl; exact za rfl) (by decide) rfl rfl))) yP)
  exact zx (yh (yO (N := ["_law_c", "_law_xs"]) (cap := [none, some 3]) (S := [0]) rfl (yG rfl T.yF (zf (av 2) zr (za rfl)) rfl) rfl (by change xU _ zaJ _ (zy YL).names _ = true; decide +kernel) (by decide) (λ cl s H fp => (an 0 zfm)) (λ cl s H fp => yE) (λ cl s H fp => (ax hkd (xu (by refine zg ?_ ?_ ?_; exact (xu (by refine zg ?_ ?_ ?_; exact aI; refine zg ?_ ?_ ?_; exact aI; refine zg ?_ ?_ ?_; exact aI; refine zg ?_ ?_ ?_; exact aI; exact zF; exact za rfl; exact za rfl; exact za rfl; exact za rfl)); refine zg ?_ ?_ ?_; exact (xu (by refine zg ?_ ?_ ?_; exact aI; refine zg ?_ ?_ ?_; exact aI; refine zg ?_ ?_ ?_; exact aI; refine zg ?_ ?_ ?_; exact aI; exact zF; exact za rfl; exact za rfl; exact za rfl; exact za rfl)); exact zF; exact za rfl; exact za rfl)) (zm (zp .Mod) (ax hkd (av 1) aI) aI))) (λ _ => rfl))))
theorem WM (T : Txt K kd mg t) (hkd : KD1 P w K kd) : FnOk P w K mg base CX0 4 t.VB t.VG ["_law_kind", "_law_n", "_law_m", "_law_many", "_law_cell"] (spD K kd wA) := by
 refine wF (N := WX) (ps := ["_law_kind", "_law_n", "_law_m", "_law_many", "_law_cell"]) (k := 3) (c := zcE) T.Xc zaZ λ cdv A outer s H E hr => ?_
 exact (by
  refine zj ?_ ?_; exact (Xz (z := true) (i := 5) (N := ["_law_k", "_law_kind", "_law_n", "_law_m", "_law_cell"]) (cap := [none, some 0, some 1, some 2, some 4]) (S := [0]) zaZ.nd rfl (by exact Or.inl rfl) (by exact Or.inr rfl) rfl rfl (yG rfl T.yF (zf (av 3) zr (za rfl)) rfl) rfl (by change xU _ WX _ (zy Yb).names _ = true; decide +kernel) (by decide) (λ cl s H fp => (an 0 zeS)) (λ cl s H fp => yE) (λ cl s H fp => (zP (zjk T hkd) (hr.mono (by omega)) rfl T.ZX T.zew.kp T.zjA yQ (by refine zf ?_ ?_ ?_; exact (av 1); refine zf ?_ ?_ ?_; exact (av 2); refine zf ?_ ?_ ?_; exact (av 3); refine zf ?_ ?_ ?_; exact (zP (xY T hkd) (hr.mono (by omega)) rfl T.zO T.xR.kp T.xZ yQ (zf (zm (zp .Add) (av 4) (zm (zp .Mult) aI (av 0))) (zf aI zr (za rfl)) (za rfl)) (by decide) rfl rfl); exact zr; exact za rfl; exact za rfl; exact za rfl; exact za rfl) (by decide) rfl rfl)) (λ _ => rfl))
  exact zx (yh (yR (by refine zg ?_ ?_ ?_; exact (av 1); refine zg ?_ ?_ ?_; exact (zP (zix T hkd) (hr.mono (by omega)) rfl T.Zt T.zcU.kp T.zia yQ (zf (av 0) (zf (av 1) zr (za rfl)) (za rfl)) (by decide) rfl rfl); refine zg ?_ ?_ ?_; exact (av 5); exact zF; exact za rfl; exact za rfl; exact za rfl))))
theorem zgH (T : Txt K kd mg t) (hkd : KD1 P w K kd) : FnOk P w K mg base CX0 1 t.Wg t.Wf ["_law_one", "_law_other", "_law_m"] (spD K kd ZL) := by
 refine wF (N := Wl) (ps := ["_law_one", "_law_other", "_law_m"]) (k := 0) (c := zbo) T.zbh yK λ cdv A outer s H E hr => ?_
 exact (by
  refine zj ?_ ?_; exact (by refine sv true 3 yK.nd ?_; exact (zm (zp .Mult) (ax hkd (av 0) aI) (ax hkd (av 1) aI)))
  refine zj ?_ ?_; exact (by refine sv true 4 yK.nd ?_; exact (ax hkd (av 1) aI))
  refine zj ?_ ?_; exact (by refine sv false 5 yK.nd ?_; exact (xu zF))
  refine zj ?_ ?_; exact (wU PassesOwn.never rfl (vX rfl T.yF (zf (av 3) zr (za rfl)) rfl) (an 6 yK.nd) (by
  refine zj ?_ ?_; exact (by refine sv true 7 yK.nd ?_; exact (ax hkd (ax hkd (av 0) aI) (zm (zp .FloorDiv) (av 6) (av 4))))
  refine zj ?_ ?_; exact (by refine sv true 8 yK.nd ?_; exact (ax hkd (ax hkd (av 1) aI) (zm (zp .Mod) (av 6) (av 4))))
  exact zx (vJ (Zn wB ZW PySem.F.slot_list_append PySem.F.type_list_append (pv 5) (zg (yO (N := ["_law_q", "_law_by", "_law_there", "_law_here"]) (cap := [none, some 4, some 8, some 7]) (S := [0]) rfl (yG rfl T.yF (zf (av 3) zr (za rfl)) rfl) rfl (by change xU _ Wl _ (zy ZG).names _ = true; decide +kernel) (by decide) (λ cl s H fp => (an 0 zdn)) (λ cl s H fp => yE) (λ cl s H fp => (zm (zp .Add) (zm (zp .Mult) (ax hkd (av 3) (zm (zp .FloorDiv) (av 0) (av 1))) (av 1)) (ax hkd (av 2) (zm (zp .Mod) (av 0) (av 1))))) (λ _ => rfl)) zF (za rfl)) rfl rfl rfl rfl rfl) rfl)) (λ _ => rfl))
  refine zj ?_ ?_; exact (by refine sv false 9 yK.nd ?_; exact (xu zF))
  refine zj ?_ ?_; exact (wU PassesOwn.never rfl (zjp rfl T.zmC (zf (ax hkd (av 0) aI) (zf (ax hkd (av 1) aI) zr (za rfl)) (za rfl)) rfl rfl) (Zo rfl (zX (an 7 yK.nd) (zX (an 8 yK.nd) vf rfl) rfl) rfl rfl) (by
  refine zj ?_ ?_; exact (by refine sv false 10 yK.nd ?_; exact (xu zF))
  refine zj ?_ ?_; exact (wU PassesOwn.never rfl (vX rfl T.yF (zf (av 2) zr (za rfl)) rfl) (an 11 yK.nd) (by
  refine zj ?_ ?_; exact (by refine sv false 12 yK.nd ?_; exact (xu zF))
  refine zj ?_ ?_; exact (wU PassesOwn.never rfl (vX rfl T.yF (zf (av 3) zr (za rfl)) rfl) (an 6 yK.nd) (by
  refine zj ?_ ?_; exact (by refine sv true 13 yK.nd ?_; exact (zm (zp .Mult) (ax hkd (ax hkd (av 7) (av 11)) (zm (zp .FloorDiv) (av 6) (av 4))) (av 4)))
  exact zx (vJ (Zn wB ZW PySem.F.slot_list_append PySem.F.type_list_append (pv 12) (zg (zm (zp .Add) (av 13) (ax hkd (ax hkd (av 8) (av 11)) (zm (zp .Mod) (av 6) (av 4)))) zF (za rfl)) rfl rfl rfl rfl rfl) rfl)) (λ _ => rfl))
  exact zx (vJ (Zn wB ZW PySem.F.slot_list_append PySem.F.type_list_append (pv 10) (zg (av 12) zF (za rfl)) rfl rfl rfl rfl rfl) rfl)) (λ _ => rfl))
  exact zx (vJ (Zn wB ZW PySem.F.slot_list_append PySem.F.type_list_append (pv 9) (zg (av 10) zF (za rfl)) rfl rfl rfl rfl rfl) rfl)) (λ _ => rfl))
  exact zx (yh (yR (by refine zg ?_ ?_ ?_; exact (av 3); refine zg ?_ ?_ ?_; exact (av 5); refine zg ?_ ?_ ?_; exact (av 9); exact zF; exact za rfl; exact za rfl; exact za rfl))))
theorem zji (T : Txt K kd mg t) (hkd : KD1 P w K kd) : FnOk P w K mg base CX0 5 t.zaF t.zaS ["_law_cell", "_law_m", "_law_many"] (spD K kd YW) := by
 refine wF (N := zeY) (ps := ["_law_cell", "_law_m", "_law_many"]) (k := 4) (c := zeV) T.zei wZ λ cdv A outer s H E hr => ?_
 exact (by
  refine zj ?_ ?_; exact (by refine sv true 3 wZ.nd ?_; exact (zP (xY T hkd) (hr.mono (by omega)) rfl T.zO T.xR.kp T.xZ yQ (zf (av 0) (zf aI zr (za rfl)) (za rfl)) (by decide) rfl rfl))
  refine zj ?_ ?_; exact (by refine sv true 4 wZ.nd ?_; exact (zm (zp .Mod) (ax hkd (av 3) aI) aI))
  refine zj ?_ ?_; exact (ww (yM (yC (hkd _ rfl rfl rfl) (yX hr) .Gt) (yr .Gt) (av 4) aI (yJ _)) (by
  refine zj ?_ ?_; exact (by refine sv true 5 wZ.nd ?_; exact (ax hkd (xu (by refine zg ?_ ?_ ?_; exact (yR (zg aI (zg aI zF (za rfl)) (za rfl))); refine zg ?_ ?_ ?_; exact (yR (zg aI (zg aI zF (za rfl)) (za rfl))); refine zg ?_ ?_ ?_; exact (yR (zg aI (zg aI zF (za rfl)) (za rfl))); refine zg ?_ ?_ ?_; exact (yR (zg aI (zg aI zF (za rfl)) (za rfl))); refine zg ?_ ?_ ?_; exact (yR (zg aI (zg aI zF (za rfl)) (za rfl))); refine zg ?_ ?_ ?_; exact (yR (zg aI (zg aI zF (za rfl)) (za rfl))); exact zF; exact za rfl; exact za rfl; exact za rfl; exact za rfl; exact za rfl; exact za rfl)) (zm (zp .Mod) (ax hkd (av 3) aI) aI)))
  refine zj ?_ ?_; exact (by refine sv true 6 wZ.nd ?_; exact (zP (WM T hkd) (hr.mono (by omega)) rfl T.wA T.Xc.kp T.W4 yQ (by refine zf ?_ ?_ ?_; exact (zm (zp .Mod) (ax hkd (av 3) aI) aI); refine zf ?_ ?_ ?_; exact (ax hkd (av 5) aI); refine zf ?_ ?_ ?_; exact (av 1); refine zf ?_ ?_ ?_; exact (av 2); refine zf ?_ ?_ ?_; exact (ax hkd (av 3) aI); exact zr; exact za rfl; exact za rfl; exact za rfl; exact za rfl; exact za rfl) (by decide) rfl rfl))
  exact zx (yh (zP (zgH T hkd) (hr.mono (by omega)) rfl T.ZL T.zbh.kp T.zgg yQ (by refine zf ?_ ?_ ?_; exact (av 6); refine zf ?_ ?_ ?_; exact (zP (WM T hkd) (hr.mono (by omega)) rfl T.wA T.Xc.kp T.W4 yQ (by refine zf ?_ ?_ ?_; exact (zm (zp .Mod) (ax hkd (av 3) aI) aI); refine zf ?_ ?_ ?_; exact (ax hkd (av 5) aI); refine zf ?_ ?_ ?_; exact (av 1); refine zf ?_ ?_ ?_; exact (av 2); refine zf ?_ ?_ ?_; exact (zm (zp .Add) (ax hkd (av 3) aI) aI); exact zr; exact za rfl; exact za rfl; exact za rfl; exact za rfl; exact za rfl) (by decide) rfl rfl); refine zf ?_ ?_ ?_; exact (av 1); exact zr; exact za rfl; exact za rfl; exact za rfl) (by decide) rfl rfl))) yP)
  refine zj ?_ ?_; exact (by refine sv true 7 wZ.nd ?_; exact (ax hkd (xu (by refine zg ?_ ?_ ?_; exact aI; refine zg ?_ ?_ ?_; exact aI; refine zg ?_ ?_ ?_; exact aI; refine zg ?_ ?_ ?_; exact aI; refine zg ?_ ?_ ?_; exact aI; refine zg ?_ ?_ ?_; exact aI; refine zg ?_ ?_ ?_; exact aI; refine zg ?_ ?_ ?_; exact aI; exact zF; exact za rfl; exact za rfl; exact za rfl; exact za rfl; exact za rfl; exact za rfl; exact za rfl; exact za rfl)) (zm (zp .Mod) (ax hkd (av 3) aI) aI)))
  refine zj ?_ ?_; exact (ww (AW.at_ (zlk (yM (yC (hkd _ rfl rfl rfl) (yX hr) .Eq) (yr .Eq) (av 4) aI (yJ _)) (zdz (yM (yC (hkd _ rfl rfl rfl) (yX hr) .Eq) (yr .Eq) (zm (zp .Mod) (ax hkd (av 3) aI) aI) aI (yJ _))))) (zx (by refine sv true 7 wZ.nd ?_; exact aI)) yP)
  refine zj ?_ ?_; exact (ww (yM (yC (hkd _ rfl rfl rfl) (yX hr) .Eq) (yr .Eq) (av 4) aI (yJ _)) (zx (by refine sv true 7 wZ.nd ?_; exact aI)) yP)
  exact zx (yh (zP (WM T hkd) (hr.mono (by omega)) rfl T.wA T.Xc.kp T.W4 yQ (by refine zf ?_ ?_ ?_; exact (av 4); refine zf ?_ ?_ ?_; exact (av 7); refine zf ?_ ?_ ?_; exact (av 1); refine zf ?_ ?_ ?_; exact (av 2); refine zf ?_ ?_ ?_; exact (ax hkd (av 3) aI); exact zr; exact za rfl; exact za rfl; exact za rfl; exact za rfl; exact za rfl) (by decide) rfl rfl)))
theorem zhm (T : Txt K kd mg t) (hkd : KD1 P w K kd) : FnOk P w K mg base CX0 2 t.W9 t.W6 ["_law_cell", "_law_n"] (spD K kd Z9) := by
 refine wF (N := zcK) (ps := ["_law_cell", "_law_n"]) (k := 1) (c := zcX) T.zdd Ys λ cdv A outer s H E hr => ?_
 exact (by
  refine zj ?_ ?_; exact (by refine sv false 2 Ys.nd ?_; exact (zfS rfl rfl T.yF rfl T.zce (zf (av 1) zr (za rfl)) rfl rfl))
  refine zj ?_ ?_; exact (by refine sv false 3 Ys.nd ?_; exact (xu zF))
  refine zj ?_ ?_; exact (wU PassesOwn.never rfl (Wb (zP (xY T hkd) (hr.mono (by omega)) rfl T.zO T.xR.kp T.xZ yQ (zf (av 0) (zf (av 1) zr (za rfl)) (za rfl)) (by decide) rfl rfl)) (an 4 Ys.nd) (zx (vJ (Zn wB ZW PySem.F.slot_list_append PySem.F.type_list_append (pv 3) (zg (Zn zmr zll PySem.F.slot_list_pop PySem.F.type_list_pop (pv 2) (zg (zm (zp .Mod) (av 4) (YH (vW (hkd _ rfl rfl rfl)) rfl T.zal Bt.len (zf (av 2) zr (za rfl)) (Bt.n _ rfl) (by decide) rfl rfl)) zF (za rfl)) rfl rfl rfl rfl rfl) zF (za rfl)) rfl rfl rfl rfl rfl) rfl)) (λ _ => rfl))
  exact zx (yh (av 3)))
theorem zhP (T : Txt K kd mg t) (hkd : KD1 P w K kd) : FnOk P w K mg base CX0 2 t.WY t.Vg ["_law_cell", "_law_n", "_law_names_here"] (spD K kd Zv) := by
 refine wF (N := Ve) (ps := ["_law_cell", "_law_n", "_law_names_here"]) (k := 1) (c := zcD) T.zcV Yu λ cdv A outer s H E hr => ?_
 exact (by
  refine zj ?_ ?_; exact (by refine sv false 3 Yu.nd ?_; exact (xu zF))
  refine zj ?_ ?_; exact (wU PassesOwn.never rfl (zjp rfl T.zmC (zf (zP (xY T hkd) (hr.mono (by omega)) rfl T.zO T.xR.kp T.xZ yQ (zf (av 0) (zf (YH (vW (hkd _ rfl rfl rfl)) rfl T.zal Bt.len (zf (av 2) zr (za rfl)) (Bt.n _ rfl) (by decide) rfl rfl) zr (za rfl)) (za rfl)) (by decide) rfl rfl) (zf (av 2) zr (za rfl)) (za rfl)) rfl rfl) (Zo rfl (zX (an 4 Yu.nd) (zX (an 5 Yu.nd) vf rfl) rfl) rfl rfl) (zx (vJ (Zn wB ZW PySem.F.slot_list_append PySem.F.type_list_append (pv 3) (by refine zg ?_ ?_ ?_; exact (yR (zg (av 5) (zg (yO (N := ["_law_v", "_law_x"]) (cap := [none, some 4]) (S := [0]) rfl (yG rfl T.yF (zf (av 1) zr (za rfl)) rfl) rfl (by change xU _ Ve _ (zy Yj).names _ = true; decide +kernel) (by decide) (λ cl s H fp => (an 0 zek)) (λ cl s H fp => (zgC (yM (yC (hkd _ rfl rfl rfl) (yX hr) .Eq) (yr .Eq) (zm (zp .Mod) (zm (zp .FloorDiv) (av 1) (ax hkd (xu (by refine zg ?_ ?_ ?_; exact aI; refine zg ?_ ?_ ?_; exact aI; refine zg ?_ ?_ ?_; exact aI; refine zg ?_ ?_ ?_; exact aI; refine zg ?_ ?_ ?_; exact aI; refine zg ?_ ?_ ?_; exact aI; refine zg ?_ ?_ ?_; exact aI; refine zg ?_ ?_ ?_; exact aI; exact zF; exact za rfl; exact za rfl; exact za rfl; exact za rfl; exact za rfl; exact za rfl; exact za rfl; exact za rfl)) (av 0))) aI) aI (yJ _)))) (λ cl s H fp => (av 0)) (λ _ => rfl)) zF (za rfl)) (za rfl))); exact zF; exact za rfl) rfl rfl rfl rfl rfl) rfl)) (λ _ => rfl))
  exact zx (yh (av 3)))
theorem zfc (T : Txt K kd mg t) (hkd : KD1 P w K kd) : FnOk P w K mg base CX0 6 t.Xj t.Xk ["_law_cell", "_law_other"] (spD K kd vC) := by
 refine wF (N := Ze) (ps := ["_law_cell", "_law_other"]) (k := 5) (c := zao) T.zaf yp λ cdv A outer s H E hr => ?_
 exact (by
  refine zj ?_ ?_; exact (by refine sv true 2 yp.nd ?_; exact (zP (xY T hkd) (hr.mono (by omega)) rfl T.zO T.xR.kp T.xZ yQ (zf (av 1) (zf aI zr (za rfl)) (za rfl)) (by decide) rfl rfl))
  refine zj ?_ ?_; exact (by refine sv true 3 yp.nd ?_; exact (zm (zp .Add) aI (zm (zp .Mod) (ax hkd (av 2) aI) aI)))
  refine zj ?_ ?_; exact (ww (yM (yC (hkd _ rfl rfl rfl) (yX hr) .Eq) (yr .Eq) (zm (zp .Mod) (zm (zp .FloorDiv) (ax hkd (av 2) aI) aI) aI) aI (yJ _)) (zx (by refine sv true 3 yp.nd ?_; exact (zm (zp .Add) aI (zm (zp .Mod) (zm (zp .FloorDiv) (ax hkd (av 2) aI) aI) aI)))) yP)
  refine zj ?_ ?_; exact (by refine sv true 4 yp.nd ?_; exact (ax hkd (xu (by refine zg ?_ ?_ ?_; exact aI; refine zg ?_ ?_ ?_; exact aI; refine zg ?_ ?_ ?_; exact aI; refine zg ?_ ?_ ?_; exact aI; refine zg ?_ ?_ ?_; exact aI; refine zg ?_ ?_ ?_; exact aI; refine zg ?_ ?_ ?_; exact aI; refine zg ?_ ?_ ?_; exact aI; exact zF; exact za rfl; exact za rfl; exact za rfl; exact za rfl; exact za rfl; exact za rfl; exact za rfl; exact za rfl)) (zm (zp .Mod) (ax hkd (av 2) aI) aI)))
  refine zj ?_ ?_; exact (ww (yM (yC (hkd _ rfl rfl rfl) (yX hr) .Gt) (yr .Gt) (av 4) aI (yJ _)) (zx (by refine sv true 3 yp.nd ?_; exact (zm (zp .Add) aI (zm (zp .Mod) (av 3) aI)))) yP)
  refine zj ?_ ?_; exact (zgX (zP (zji T hkd) (hr.mono (by omega)) rfl T.YW T.zei.kp T.zjm yQ (by refine zf ?_ ?_ ?_; exact (av 0); refine zf ?_ ?_ ?_; exact (av 3); refine zf ?_ ?_ ?_; exact (av 4); exact zr; exact za rfl; exact za rfl; exact za rfl) (by decide) rfl rfl) (Zo rfl (zX (an 5 yp.nd) (zX (an 6 yp.nd) (zX (an 7 yp.nd) vf rfl) rfl) rfl) rfl rfl) rfl rfl rfl)
  refine zj ?_ ?_; exact (by refine sv true 8 yp.nd ?_; exact (zP (zhm T hkd) (hr.mono (by omega)) rfl T.Z9 T.zdd.kp T.ziw yQ (zf (ax hkd (av 2) aI) (zf (av 5) zr (za rfl)) (za rfl)) (by decide) rfl rfl))
  refine zj ?_ ?_; exact (by refine sv true 9 yp.nd ?_; exact (yO (N := ["_law_v", "_law_order_here"]) (cap := [none, some 8]) (S := [0]) rfl (yG rfl T.yF (zf (av 5) zr (za rfl)) rfl) rfl (by change xU _ Ze _ (zy wR).names _ = true; decide +kernel) (by decide) (λ cl s H fp => (an 0 zcb)) (λ cl s H fp => yE) (λ cl s H fp => (zgY (ty := .lst) (hkd _ rfl rfl rfl) (zhN (hkd _ rfl rfl rfl) (yX hr)) PySem.F.plainAttrs_list PySem.F.slot_list_index PySem.F.type_list_index (av 1) (zf (av 0) zr (za rfl)) rfl rfl rfl rfl rfl)) (λ _ => rfl)))
  refine zj ?_ ?_; exact (Xz (z := true) (i := 10) (N := ["_law_a", "_law_order_here", "_law_n", "_law_join", "_law_back"]) (cap := [none, some 8, some 5, some 6, some 9]) (S := [0]) yp.nd rfl (by exact Or.inl rfl) (by exact Or.inr rfl) rfl rfl (yG rfl T.yF (zf (av 5) zr (za rfl)) rfl) rfl (by change xU _ Ze _ (zy wR).names _ = true; decide +kernel) (by decide) (λ cl s H fp => (an 0 zcs)) (λ cl s H fp => yE) (λ cl s H fp => (yO (N := ["_law_b", "_law_order_here", "_law_join", "_law_back", "_law_a"]) (cap := [none, some 1, some 3, some 4, some 0]) (S := [0]) rfl (yG rfl T.yF (zf (av 2) zr (za rfl)) rfl) rfl (by with_unfolding_all rfl) (by decide) (λ cl s H fp => (an 0 zbU)) (λ cl s H fp => yE) (λ cl s H fp => (ax hkd (av 1) (ax hkd (ax hkd (av 2) (ax hkd (av 3) (av 4))) (ax hkd (av 3) (av 0))))) (λ _ => rfl))) (λ _ => rfl))
  refine zj ?_ ?_; exact (by refine sv true 11 yp.nd ?_; exact (zP (zil T hkd) (hr.mono (by omega)) rfl T.Z8 T.zda.kp T.zie yQ (zf (ax hkd (av 2) aI) (zf aI zr (za rfl)) (za rfl)) (by decide) rfl rfl))
  refine zj ?_ ?_; exact (by refine sv false 12 yp.nd ?_; exact (xu zF))
  refine zj ?_ ?_; exact (wU PassesOwn.never rfl (zjp rfl T.zmC (zf (YQ (av 11) zba (v5 aI)) (zf (av 7) zr (za rfl)) (za rfl)) rfl rfl) (Zo rfl (zX (an 13 yp.nd) (zX (an 14 yp.nd) vf rfl) rfl) rfl rfl) (zx (vJ (Zn wB ZW PySem.F.slot_list_append PySem.F.type_list_append (pv 12) (by refine zg ?_ ?_ ?_; exact (yR (zg (av 13) (zg (yO (N := ["_law_row", "_law_order_here", "_law_n", "_law_back"]) (cap := [none, some 8, some 5, some 9]) (S := [0]) rfl (ZV (av 14)) rfl (by change xU _ Ze _ (zy wR).names _ = true; decide +kernel) (by decide) (λ cl s H fp => (an 0 zbZ)) (λ cl s H fp => yE) (λ cl s H fp => (yO (N := ["_law_a", "_law_order_here", "_law_row", "_law_back"]) (cap := [none, some 1, some 0, some 3]) (S := [0]) rfl (yG rfl T.yF (zf (av 2) zr (za rfl)) rfl) rfl (by with_unfolding_all rfl) (by decide) (λ cl s H fp => (an 0 zcd)) (λ cl s H fp => yE) (λ cl s H fp => (ax hkd (av 1) (ax hkd (av 2) (ax hkd (av 3) (av 0))))) (λ _ => rfl))) (λ _ => rfl)) zF (za rfl)) (za rfl))); exact zF; exact za rfl) rfl rfl rfl rfl rfl) rfl)) (λ _ => rfl))
  refine zj ?_ ?_; exact (by refine sv true 15 yp.nd ?_; exact (zP (zhP T hkd) (hr.mono (by omega)) rfl T.Zv T.zcV.kp T.zhh yQ (by refine zf ?_ ?_ ?_; exact (ax hkd (av 2) aI); refine zf ?_ ?_ ?_; exact (av 5); refine zf ?_ ?_ ?_; exact (YQ (av 11) (v5 aI) (v5 (zm (zp .Add) aI (ax hkd (xu (by refine zg ?_ ?_ ?_; exact aI; refine zg ?_ ?_ ?_; exact aI; refine zg ?_ ?_ ?_; exact aI; refine zg ?_ ?_ ?_; exact aI; refine zg ?_ ?_ ?_; exact aI; refine zg ?_ ?_ ?_; exact aI; refine zg ?_ ?_ ?_; exact aI; refine zg ?_ ?_ ?_; exact aI; exact zF; exact za rfl; exact za rfl; exact za rfl; exact za rfl; exact za rfl; exact za rfl; exact za rfl; exact za rfl)) (zm (zp .Mod) (ax hkd (av 2) aI) aI))))); exact zr; exact za rfl; exact za rfl; exact za rfl) (by decide) rfl rfl))
  exact zx (yh (yR (by refine zg ?_ ?_ ?_; exact (av 5); refine zg ?_ ?_ ?_; exact (av 3); refine zg ?_ ?_ ?_; exact (av 10); refine zg ?_ ?_ ?_; exact (ax hkd (av 8) aI); refine zg ?_ ?_ ?_; exact (av 12); refine zg ?_ ?_ ?_; exact (av 15); exact zF; exact za rfl; exact za rfl; exact za rfl; exact za rfl; exact za rfl; exact za rfl))))
theorem ziy (T : Txt K kd mg t) (hkd : KD1 P w K kd) : FnOk P w K mg base CX0 2 t.zaW t.zaC ["_law_algebra_here", "_law_cell"] (spD K kd YX) := by
 refine wF (N := XH) (ps := ["_law_algebra_here", "_law_cell"]) (k := 1) (c := zeZ) T.zeh xM λ cdv A outer s H E hr => ?_
 exact (by
  refine zj ?_ ?_; exact (zgX (av 0) (Zo rfl (zX (an 2 xM.nd) (zX (an 3 xM.nd) (zX (an 4 xM.nd) (zX (an 5 xM.nd) (zX (an 6 xM.nd) (zX (an 7 xM.nd) vf rfl) rfl) rfl) rfl) rfl) rfl) rfl rfl) rfl rfl rfl)
  refine zj ?_ ?_; exact (by refine sv true 8 xM.nd ?_; exact (zP (xY T hkd) (hr.mono (by omega)) rfl T.zO T.xR.kp T.xZ yQ (zf (av 1) (zf aI zr (za rfl)) (za rfl)) (by decide) rfl rfl))
  refine zj ?_ ?_; exact (Xz (z := false) (i := 9) (N := ["_law_row"]) (cap := [none]) (S := [0]) xM.nd rfl (by exact Or.inl rfl) (by exact Or.inr rfl) rfl rfl (ZV (av 4)) rfl (by change xU _ XH _ (zy ZZ).names _ = true; decide +kernel) (by decide) (λ cl s H fp => (an 0 zfe)) (λ cl s H fp => yE) (λ cl s H fp => (WQ VJ rfl T.zce Bt.list (zf (av 0) zr (za rfl)) (Bt.n _ rfl) (by decide) rfl rfl)) (λ _ => rfl))
  refine zj ?_ ?_; exact (Xz (z := false) (i := 10) (N := ["_law_name", "_law_rows_here"]) (cap := [none, none]) (S := [0, 1]) xM.nd rfl (by exact Or.inl rfl) (by exact Or.inr rfl) rfl rfl (ZV (av 6)) rfl (by change xU _ XH _ (zy ZZ).names _ = true; decide +kernel) (by decide) (λ cl s H fp => (Zo rfl (zX (an 0 zaa) (zX (an 1 zaa) vf rfl) rfl) rfl rfl)) (λ cl s H fp => yE) (λ cl s H fp => (yR (zg (av 0) (zg (yO (N := ["_law_row"]) (cap := [none]) (S := [0]) rfl (ZV (av 1)) rfl (by with_unfolding_all rfl) (by decide) (λ cl s H fp => (an 0 zfj)) (λ cl s H fp => yE) (λ cl s H fp => (WQ VJ rfl T.zce Bt.list (zf (av 0) zr (za rfl)) (Bt.n _ rfl) (by decide) rfl rfl)) (λ _ => rfl)) zF (za rfl)) (za rfl)))) (λ _ => rfl))
  refine zj ?_ ?_; exact (by refine sv true 11 xM.nd ?_; exact (zm (zp .Mod) (ax hkd (av 8) aI) aI))
  refine zj ?_ ?_; exact (ww (yM (yC (hkd _ rfl rfl rfl) (yX hr) .Eq) (yr .Eq) (av 11) aI (yJ _)) (zx (by refine sv true 5 xM.nd ?_; exact (zm (zp .Mod) (ax hkd (av 8) aI) (av 2)))) yP)
  refine zj ?_ ?_; exact (ww (AW.at_ (zmV (yM (yC (hkd _ rfl rfl rfl) (yX hr) .Eq) (yr .Eq) (av 11) aI (yJ _)) (zcx (yM (yC (hkd _ rfl rfl rfl) (yX hr) .Eq) (yr .Eq) (av 11) aI (yJ _))))) (zx (zoj (pv 9) (zaO (zeU (pv 8) XM (λ _ _ => rfl)) (zci (pv 2))) (λ _ _ => rfl) (zaO (zeU (pv 8) XM (λ _ _ => rfl)) (zci (pv 2))) (zaO (zeU (pv 8) XM (λ _ _ => rfl)) (zci (pv 2))) (λ _ => rfl) rfl rfl rfl)) yP)
  refine zj ?_ ?_; exact (ww (AW.at_ (zlk (yM (yC (hkd _ rfl rfl rfl) (yX hr) .Gt) (yr .Gt) (av 11) aI (yJ _)) (zdz (yM (yC (hkd _ rfl rfl rfl) (yX hr) .NotEq) (yr .NotEq) (av 10) (xu zF) (yJ _))))) (znq (y := 12) (n := 1) xM.nd rfl (by exact Or.inl rfl) (by exact Or.inr rfl) (pv 10) (zaO (zeU (pv 8) XM (λ _ _ => rfl)) (zpg rfl T.zal Bt.len (pv 10) rfl rfl)) (λ _ _ => rfl) zgw (λ _ _ => rfl) rfl (pv 12) (zaO (zeU (pv 8) XM (λ _ _ => rfl)) (zci (pv 3))) (λ _ _ => rfl) (zaO (zeU (pv 8) XM (λ _ _ => rfl)) (zci (pv 2))) (zaO (zeU (pv 8) XM (λ _ _ => rfl)) (zci (pv 2))) (λ _ => rfl) rfl rfl rfl) yP)
  exact zx (yh (yR (by refine zg ?_ ?_ ?_; exact (av 2); refine zg ?_ ?_ ?_; exact (av 3); refine zg ?_ ?_ ?_; exact (av 9); refine zg ?_ ?_ ?_; exact (av 5); refine zg ?_ ?_ ?_; exact (av 10); refine zg ?_ ?_ ?_; exact (av 7); exact zF; exact za rfl; exact za rfl; exact za rfl; exact za rfl; exact za rfl; exact za rfl))))
theorem zdK (T : Txt K kd mg t) (hkd : KD1 P w K kd) : FnOk P w K mg base CX0 1 t.zau t.zay ["_law_algebra_here", "_law_step_here", "_law_value"] (spD K kd wH) := by
 refine wF (N := zed) (ps := ["_law_algebra_here", "_law_step_here", "_law_value"]) (k := 0) (c := zeJ) T.zaE W0 λ cdv A outer s H E hr => ?_
 exact (by
  refine zj ?_ ?_; exact (ww (yM (yC (hkd _ rfl rfl rfl) (yX hr) .Eq) (yr .Eq) (ax hkd (av 1) aI) aS (yJ _)) (zx (yh (ax hkd (ax hkd (ax hkd (av 0) aI) (ax hkd (av 1) aI)) (av 2)))) yP)
  refine zj ?_ ?_; exact (ww (yM (yC (hkd _ rfl rfl rfl) (yX hr) .Eq) (yr .Eq) (ax hkd (av 1) aI) aS (yJ _)) (zx (yh (ax hkd (ax hkd (ax hkd (av 0) aI) (av 2)) (ax hkd (av 1) aI)))) yP)
  refine zj ?_ ?_; exact (wU PassesOwn.never rfl (Wb (ax hkd (av 0) aI)) (Zo rfl (zX (an 3 W0.nd) (zX (an 4 W0.nd) vf rfl) rfl) rfl rfl) (zx (ww (yM (yC (hkd _ rfl rfl rfl) (yX hr) .Eq) (yr .Eq) (av 3) (ax hkd (av 1) aI) (yJ _)) (zx (yh (ax hkd (ax hkd (av 4) (ax hkd (av 1) aI)) (av 2)))) yP)) (λ _ => rfl))
  exact zx (yh aZ))
theorem zhc (T : Txt K kd mg t) (hkd : KD1 P w K kd) : FnOk P w K mg base CX0 1 t.WR t.Vc ["_law_algebra_here"] (spD K kd Ye) := by
 refine wF (N := Vf) (ps := ["_law_algebra_here"]) (k := 0) (c := zcR) T.zdf vh λ cdv A outer s H E hr => ?_
 exact (by
  refine zj ?_ ?_; exact (by refine sv true 1 vh.nd ?_; exact (xu zF))
  refine zj ?_ ?_; exact (wU PassesOwn.never rfl (vX rfl T.yF (zf (ax hkd (av 0) aI) zr (za rfl)) rfl) (an 2 vh.nd) (zx (by refine sv true 1 vh.nd ?_; exact (zm (zp .Add) (av 1) (xu (by refine zg ?_ ?_ ?_; exact (yR (zg aS (zg (av 2) zF (za rfl)) (za rfl))); refine zg ?_ ?_ ?_; exact (yR (zg aS (zg (av 2) zF (za rfl)) (za rfl))); exact zF; exact za rfl; exact za rfl))))) (λ _ => rfl))
  refine zj ?_ ?_; exact (wU PassesOwn.never rfl (Wb (ax hkd (av 0) aI)) (Zo rfl (zX (an 3 vh.nd) (zX (an 4 vh.nd) vf rfl) rfl) rfl rfl) (zx (by refine sv true 1 vh.nd ?_; exact (zm (zp .Add) (av 1) (yO (N := ["_law_c", "_law_name"]) (cap := [none, some 3]) (S := [0]) rfl (yG rfl T.yF (zf (ax hkd (av 0) aI) zr (za rfl)) rfl) rfl (by change xU _ Vf _ (zy Z7).names _ = true; decide +kernel) (by decide) (λ cl s H fp => (an 0 zet)) (λ cl s H fp => yE) (λ cl s H fp => (yR (by refine zg ?_ ?_ ?_; exact aS; refine zg ?_ ?_ ?_; exact (av 1); refine zg ?_ ?_ ?_; exact (av 0); exact zF; exact za rfl; exact za rfl; exact za rfl))) (λ _ => rfl))))) (λ _ => rfl))
  exact zx (yh (av 1)))
theorem Wq (T : Txt K kd mg t) (hkd : KD1 P w K kd) : FnOk P w K mg base CX0 1 t.zaz t.zaT ["_law_algebra_here", "_law_value"] (spD K kd xX) := by
 refine wF (N := zar) (ps := ["_law_algebra_here", "_law_value"]) (k := 0) (c := zeN) T.YG zhW λ cdv A outer s H E hr => ?_
 exact (zx (yh (WQ zky rfl T.zoc Bt.tuple (zf (yO (N := ["_law_name", "_law_values", "_law_value"]) (cap := [none, none, some 1]) (S := [0, 1]) rfl (ZV (ax hkd (av 0) aI)) rfl (by change xU _ zar _ (zy YZ).names _ = true; decide +kernel) (by decide) (λ cl s H fp => (Zo rfl (zX (an 0 zai) (zX (an 1 zai) vf rfl) rfl) rfl rfl)) (λ cl s H fp => yE) (λ cl s H fp => (zcn (yC (hkd _ rfl rfl rfl) (yX hr) .In) (av 2) (av 1) rfl)) (λ _ => rfl)) zr (za rfl)) (Bt.n _ rfl) (by decide) rfl rfl)))
theorem zkv (T : Txt K kd mg t) (hkd : KD1 P w K kd) : FnOk P w K mg base CX0 2 t.zbO t.zcp ["_law_algebra_here", "_law_cell"] (spD K kd YF) := by
 refine wF (N := zbQ) (ps := ["_law_algebra_here", "_law_cell"]) (k := 1) (c := zfp) T.zfU vp λ cdv A outer s H E hr => ?_
 exact (by
  refine zj ?_ ?_; exact (zgX (av 0) (Zo rfl (zX (an 2 vp.nd) (zX (an 3 vp.nd) (zX (an 4 vp.nd) (zX (an 5 vp.nd) (zX (an 6 vp.nd) (zX (an 7 vp.nd) vf rfl) rfl) rfl) rfl) rfl) rfl) rfl rfl) rfl rfl rfl)
  refine zj ?_ ?_; exact (ww (AW.at_ (zmV (yM (yC (hkd _ rfl rfl rfl) (yX hr) .Eq) (yr .Eq) (zm (zp .Mod) (av 1) aI) aI (yJ _)) (zcx (yM (yC (hkd _ rfl rfl rfl) (yX hr) .Eq) (yr .Eq) (av 7) (xu zF) (yJ _))))) (zx (yh (av 0))) yP)
  refine zj ?_ ?_; exact (by refine sv true 8 vp.nd ?_; exact (ax hkd (zP (xY T hkd) (hr.mono (by omega)) rfl T.zO T.xR.kp T.xZ yQ (zf (av 1) (zf aI zr (za rfl)) (za rfl)) (by decide) rfl rfl) aI))
  refine zj ?_ ?_; exact (Xz (z := true) (i := 9) (N := ["_law_v", "_law_n", "_law_join", "_law_x"]) (cap := [none, some 2, some 4, some 8]) (S := [0]) vp.nd rfl (by exact Or.inl rfl) (by exact Or.inr rfl) rfl rfl (yG rfl T.yF (zf (av 2) zr (za rfl)) rfl) rfl (by change xU _ zbQ _ (zy Xw).names _ = true; decide +kernel) (by decide) (λ cl s H fp => (an 0 zgA)) (λ cl s H fp => (zgC (yM (yC (hkd _ rfl rfl rfl) (yX hr) .Eq) (yr .Eq) (ax hkd (ax hkd (av 2) (av 0)) (zm (zp .Mod) (av 3) (av 1))) (zm (zp .Mod) (zm (zp .FloorDiv) (av 3) aI) (av 1)) (yJ _)))) (λ cl s H fp => (av 0)) (λ _ => rfl))
  exact zx (yh (yR (by refine zg ?_ ?_ ?_; exact (av 2); refine zg ?_ ?_ ?_; exact (av 3); refine zg ?_ ?_ ?_; exact (av 4); refine zg ?_ ?_ ?_; exact (av 5); refine zg ?_ ?_ ?_; exact (av 6); refine zg ?_ ?_ ?_; exact (xu (by refine zg ?_ ?_ ?_; exact (yR (zg (ax hkd (ax hkd (av 7) aI) aI) (zg (av 9) zF (za rfl)) (za rfl))); exact zF; exact za rfl)); exact zF; exact za rfl; exact za rfl; exact za rfl; exact za rfl; exact za rfl; exact za rfl))))
theorem zgz (T : Txt K kd mg t) (hkd : KD1 P w K kd) : FnOk P w K mg base CX0 2 t.X5 t.Wx ["_law_algebra_here", "_law_steps_here", "_law_one", "_law_other"] (spD K kd vd) := by
 refine wF (N := zbz) (ps := ["_law_algebra_here", "_law_steps_here", "_law_one", "_law_other"]) (k := 1) (c := zbN) T.zbj Z5 λ cdv A outer s H E hr => ?_
 exact (by
  refine zj ?_ ?_; exact (wU PassesOwn.never rfl (Wb (av 1)) (an 4 Z5.nd) (by
  refine zj ?_ ?_; exact (ww (yM (yC (hkd _ rfl rfl rfl) (yX hr) .NotEq) (yr .NotEq) (zP (Wq T hkd) (hr.mono (by omega)) rfl T.xX T.YG.kp T.X4 yQ (zf (av 0) (zf (av 2) zr (za rfl)) (za rfl)) (by decide) rfl rfl) (zP (Wq T hkd) (hr.mono (by omega)) rfl T.xX T.YG.kp T.X4 yQ (zf (av 0) (zf (av 3) zr (za rfl)) (za rfl)) (by decide) rfl rfl) (yJ _)) (zx (yh aB)) yP)
  refine zj ?_ ?_; exact (by refine sv true 2 Z5.nd ?_; exact (zP (zdK T hkd) (hr.mono (by omega)) rfl T.wH T.zaE.kp T.zee yQ (by refine zf ?_ ?_ ?_; exact (av 0); refine zf ?_ ?_ ?_; exact (av 4); refine zf ?_ ?_ ?_; exact (av 2); exact zr; exact za rfl; exact za rfl; exact za rfl) (by decide) rfl rfl))
  exact zx (by refine sv true 3 Z5.nd ?_; exact (zP (zdK T hkd) (hr.mono (by omega)) rfl T.wH T.zaE.kp T.zee yQ (by refine zf ?_ ?_ ?_; exact (av 0); refine zf ?_ ?_ ?_; exact (av 4); refine zf ?_ ?_ ?_; exact (av 3); exact zr; exact za rfl; exact za rfl; exact za rfl) (by decide) rfl rfl))) (λ _ => rfl))
  exact zx (yh (zcn (yC (hkd _ rfl rfl rfl) (yX hr) .Eq) (zP (Wq T hkd) (hr.mono (by omega)) rfl T.xX T.YG.kp T.X4 yQ (zf (av 0) (zf (av 2) zr (za rfl)) (za rfl)) (by decide) rfl rfl) (zP (Wq T hkd) (hr.mono (by omega)) rfl T.xX T.YG.kp T.X4 yQ (zf (av 0) (zf (av 3) zr (za rfl)) (za rfl)) (by decide) rfl rfl) (yJ _))))
theorem zbx (T : Txt K kd mg t) (hkd : KD1 P w K kd) : FnOk P w K mg base CX0 1 t.Wv t.Wd ["_law_cell", "_law_base", "_law_many"] (spD K kd wL) := by
 refine wF (N := zbE) (ps := ["_law_cell", "_law_base", "_law_many"]) (k := 0) (c := zbv) T.Xx Z4 λ cdv A outer s H E hr => ?_
 exact (by
  refine zj ?_ ?_; exact (by refine sv false 3 Z4.nd ?_; exact (xu zF))
  refine zj ?_ ?_; exact (wU PassesOwn.never rfl (vX rfl T.yF (zf (av 2) zr (za rfl)) rfl) (an 4 Z4.nd) (by
  refine zj ?_ ?_; exact (vJ (Zn wB ZW PySem.F.slot_list_append PySem.F.type_list_append (pv 3) (zg (zm (zp .Mod) (av 0) (av 1)) zF (za rfl)) rfl rfl rfl rfl rfl) rfl)
  exact zx (by refine sv true 0 Z4.nd ?_; exact (zm (zp .FloorDiv) (av 0) (av 1)))) (λ _ => rfl))
  exact zx (yh (av 3)))
theorem zdo (T : Txt K kd mg t) (hkd : KD1 P w K kd) : FnOk P w K mg base CX0 2 t.Yl t.Yn ["_law_algebra_here", "_law_cell"] (spD K kd vz) := by
 refine wF (N := Zj) (ps := ["_law_algebra_here", "_law_cell"]) (k := 1) (c := WK) T.Wy yH λ cdv A outer s H E hr => ?_
 exact (by
  refine zj ?_ ?_; exact (zgX (av 0) (Zo rfl (zX (an 2 yH.nd) (zX (an 3 yH.nd) (zX (an 4 yH.nd) (zX (an 5 yH.nd) (zX (an 6 yH.nd) (zX (an 7 yH.nd) vf rfl) rfl) rfl) rfl) rfl) rfl) rfl rfl) rfl rfl rfl)
  refine zj ?_ ?_; exact (by refine sv true 8 yH.nd ?_; exact (zP (zbx T hkd) (hr.mono (by omega)) rfl T.wL T.Xx.kp T.zby yQ (by refine zf ?_ ?_ ?_; exact (av 1); refine zf ?_ ?_ ?_; exact (av 2); refine zf ?_ ?_ ?_; exact (zm (zp .Add) (zm (zp .Add) aI (zm (zp .Mult) (av 2) (av 2))) (zm (zp .Mult) (zm (zp .Mult) (av 2) (av 3)) (YH (vW (hkd _ rfl rfl rfl)) rfl T.zal Bt.len (zf (av 6) zr (za rfl)) (Bt.n _ rfl) (by decide) rfl rfl))); exact zr; exact za rfl; exact za rfl; exact za rfl) (by decide) rfl rfl))
  refine zj ?_ ?_; exact (Xz (z := true) (i := 9) (N := ["_law_a", "_law_digits_here", "_law_n"]) (cap := [none, some 8, some 2]) (S := [0]) yH.nd rfl (by exact Or.inl rfl) (by exact Or.inr rfl) rfl rfl (yG rfl T.yF (zf (av 2) zr (za rfl)) rfl) rfl (by change xU _ Zj _ (zy wK).names _ = true; decide +kernel) (by decide) (λ cl s H fp => (an 0 zaB)) (λ cl s H fp => yE) (λ cl s H fp => (YQ (av 1) (v5 (zm (zp .Add) aI (zm (zp .Mult) (av 2) (av 0)))) (v5 (zm (zp .Add) (zm (zp .Add) aI (zm (zp .Mult) (av 2) (av 0))) (av 2))))) (λ _ => rfl))
  refine zj ?_ ?_; exact (by refine sv false 10 yH.nd ?_; exact (xu zF))
  refine zj ?_ ?_; exact (wU PassesOwn.never rfl (vX rfl T.yF (zf (YH (vW (hkd _ rfl rfl rfl)) rfl T.zal Bt.len (zf (av 6) zr (za rfl)) (Bt.n _ rfl) (by decide) rfl rfl) zr (za rfl)) rfl) (an 11 yH.nd) (by
  refine zj ?_ ?_; exact (by refine sv true 12 yH.nd ?_; exact (zm (zp .Add) (zm (zp .Add) aI (zm (zp .Mult) (av 2) (av 2))) (zm (zp .Mult) (zm (zp .Mult) (av 2) (av 3)) (av 11))))
  exact zx (vJ (Zn wB ZW PySem.F.slot_list_append PySem.F.type_list_append (pv 10) (by refine zg ?_ ?_ ?_; exact (yR (zg (ax hkd (ax hkd (av 6) (av 11)) aI) (zg (yO (N := ["_law_c", "_law_digits_here", "_law_at", "_law_n"]) (cap := [none, some 8, some 12, some 2]) (S := [0]) rfl (yG rfl T.yF (zf (av 3) zr (za rfl)) rfl) rfl (by change xU _ Zj _ (zy wK).names _ = true; decide +kernel) (by decide) (λ cl s H fp => (an 0 zaI)) (λ cl s H fp => yE) (λ cl s H fp => (YQ (av 1) (v5 (zm (zp .Add) (av 2) (zm (zp .Mult) (av 3) (av 0)))) (v5 (zm (zp .Add) (zm (zp .Add) (av 2) (zm (zp .Mult) (av 3) (av 0))) (av 3))))) (λ _ => rfl)) zF (za rfl)) (za rfl))); exact zF; exact za rfl) rfl rfl rfl rfl rfl) rfl)) (λ _ => rfl))
  exact zx (yh (yR (by refine zg ?_ ?_ ?_; exact (av 2); refine zg ?_ ?_ ?_; exact (av 3); refine zg ?_ ?_ ?_; exact (av 9); refine zg ?_ ?_ ?_; exact (ax hkd (av 8) aI); refine zg ?_ ?_ ?_; exact (av 10); refine zg ?_ ?_ ?_; exact (av 7); exact zF; exact za rfl; exact za rfl; exact za rfl; exact za rfl; exact za rfl; exact za rfl))))
theorem zkQ (T : Txt K kd mg t) (hkd : KD1 P w K kd) : FnOk P w K mg base CX0 7 t.zcc t.zcz ["_law_script"] (spD K kd Xn) := by
 refine wF (N := zfH) (ps := ["_law_script"]) (k := 6) (c := zfG) T.zfX zav λ cdv A outer s H E hr => ?_
 exact (by
  refine zj ?_ ?_; exact (by refine sv true 1 zav.nd ?_; exact (zP (vG T hkd) (hr.mono (by omega)) rfl T.zZ T.wQ.kp T.vB yQ (zf (av 0) (zf aI zr (za rfl)) (za rfl)) (by decide) rfl rfl))
  refine zj ?_ ?_; exact (by refine sv true 2 zav.nd ?_; exact (zP (zfc T hkd) (hr.mono (by omega)) rfl T.vC T.zaf.kp T.zfb yQ (zf (zP (vG T hkd) (hr.mono (by omega)) rfl T.zZ T.wQ.kp T.vB yQ (zf (av 0) (zf aI zr (za rfl)) (za rfl)) (by decide) rfl rfl) (zf (zP (vG T hkd) (hr.mono (by omega)) rfl T.zZ T.wQ.kp T.vB yQ (zf (av 0) (zf aI zr (za rfl)) (za rfl)) (by decide) rfl rfl) zr (za rfl)) (za rfl)) (by decide) rfl rfl))
  refine zj ?_ ?_; exact (ww (yM (yC (hkd _ rfl rfl rfl) (yX hr) .Eq) (yr .Eq) (zm (zp .Mod) (av 1) aI) aI (yJ _)) (zx (yh (zP (zdo T hkd) (hr.mono (by omega)) rfl T.vz T.Wy.kp T.zdh yQ (zf (av 2) (zf (zm (zp .FloorDiv) (av 1) aI) zr (za rfl)) (za rfl)) (by decide) rfl rfl))) yP)
  exact zx (yh (zP (ziy T hkd) (hr.mono (by omega)) rfl T.YX T.zeh.kp T.ziV yQ (zf (av 2) (zf (zm (zp .FloorDiv) (av 1) aI) zr (za rfl)) (za rfl)) (by decide) rfl rfl)))
theorem zin (T : Txt K kd mg t) (hkd : KD1 P w K kd) : FnOk P w K mg base CX0 2 t.Vn t.Vl ["_law_script", "_law_some"] (spD K kd Yh) := by
 refine wF (N := Xb) (ps := ["_law_script", "_law_some"]) (k := 1) (c := zdb) T.zcQ YD λ cdv A outer s H E hr => ?_
 exact (by
  refine zj ?_ ?_; exact (by refine sv true 2 YD.nd ?_; exact (zP (vG T hkd) (hr.mono (by omega)) rfl T.zZ T.wQ.kp T.vB yQ (zf (av 0) (zf aI zr (za rfl)) (za rfl)) (by decide) rfl rfl))
  refine zj ?_ ?_; exact (ww (yM (yC (hkd _ rfl rfl rfl) (yX hr) .Eq) (yr .Eq) (zm (zp .Mod) (av 2) aI) aI (yJ _)) (zx (yh (yO (N := ["_law_d", "_law_some"]) (cap := [none, some 1]) (S := [0]) rfl (ZV (zP (zbx T hkd) (hr.mono (by omega)) rfl T.wL T.Xx.kp T.zby yQ (by refine zf ?_ ?_ ?_; exact (zm (zp .FloorDiv) (av 2) aI); refine zf ?_ ?_ ?_; exact (YH (vW (hkd _ rfl rfl rfl)) rfl T.zal Bt.len (zf (av 1) zr (za rfl)) (Bt.n _ rfl) (by decide) rfl rfl); refine zf ?_ ?_ ?_; exact (zm (zp .Mod) (zm (zp .Mod) (zm (zp .FloorDiv) (av 2) aI) aI) aI); exact zr; exact za rfl; exact za rfl; exact za rfl) (by decide) rfl rfl)) rfl (by change xU _ Xb _ (zy Zw).names _ = true; decide +kernel) (by decide) (λ cl s H fp => (an 0 zep)) (λ cl s H fp => yE) (λ cl s H fp => (ax hkd (av 1) (av 0))) (λ _ => rfl)))) yP)
  refine zj ?_ ?_; exact (by refine sv true 3 YD.nd ?_; exact (YQ (av 0) (v5 aI) (v5 aI)))
  refine zj ?_ ?_; exact (ww (yM (yC (hkd _ rfl rfl rfl) (yX hr) .Eq) (yr .Eq) (zm (zp .Mod) (av 2) aI) aI (yJ _)) (zx (by refine sv true 3 YD.nd ?_; exact (zP (xY T hkd) (hr.mono (by omega)) rfl T.zO T.xR.kp T.xZ yQ (zf (av 2) (zf aI zr (za rfl)) (za rfl)) (by decide) rfl rfl))) yP)
  exact zx (yh (yO (N := ["_law_one", "_law_some"]) (cap := [none, some 1]) (S := [0]) rfl (ZV (av 3)) rfl (by change xU _ Xb _ (zy Zw).names _ = true; decide +kernel) (by decide) (λ cl s H fp => (an 0 zes)) (λ cl s H fp => yE) (λ cl s H fp => (ax hkd (av 1) (zm (zp .Mod) (ax hkd (zP (xY T hkd) (hr.mono (by omega)) rfl T.zO T.xR.kp T.xZ yQ (zf (av 0) (zf aI zr (za rfl)) (za rfl)) (by decide) rfl rfl) aI) (YH (vW (hkd _ rfl rfl rfl)) rfl T.zal Bt.len (zf (av 1) zr (za rfl)) (Bt.n _ rfl) (by decide) rfl rfl)))) (λ _ => rfl))))
theorem o_law (T : Txt K kd mg t) (hkd : KD1 P w K kd) : FnOk P w K mg base CX0 8 t.zlx t.zlU ["_law_script"] (spD K kd zen) := by
 refine wF (N := zlC) (ps := ["_law_script"]) (k := 7) (c := zoJ) T.zrM X6 λ cdv A outer s H E hr => ?_
 exact (by
  refine zj ?_ ?_; exact (by refine sv true 1 X6.nd ?_; exact (zP (zkQ T hkd) (hr.mono (by omega)) rfl T.Xn T.zfX.kp T.zle yQ (zf (av 0) zr (za rfl)) (by decide) rfl rfl))
  refine zj ?_ ?_; exact (by refine sv true 1 X6.nd ?_; exact (zP (zkv T hkd) (hr.mono (by omega)) rfl T.YF T.zfU.kp T.zlc yQ (zf (av 1) (zf (zP (vG T hkd) (hr.mono (by omega)) rfl T.zZ T.wQ.kp T.vB yQ (zf (av 0) (zf aI zr (za rfl)) (za rfl)) (by decide) rfl rfl) zr (za rfl)) (za rfl)) (by decide) rfl rfl))
  refine zj ?_ ?_; exact (by refine sv true 2 X6.nd ?_; exact (ax hkd (av 1) aI))
  refine zj ?_ ?_; exact (by refine sv true 3 X6.nd ?_; exact (zP (zhc T hkd) (hr.mono (by omega)) rfl T.Ye T.zdf.kp T.ziq yQ (zf (av 1) zr (za rfl)) (by decide) rfl rfl))
  refine zj ?_ ?_; exact (by refine sv true 4 X6.nd ?_; exact (zP (zin T hkd) (hr.mono (by omega)) rfl T.Yh T.zcQ.kp T.zhp yQ (zf (av 0) (zf (av 3) zr (za rfl)) (za rfl)) (by decide) rfl rfl))
  refine zj ?_ ?_; exact (by refine sv true 5 X6.nd ?_; exact (zm (zp .Mod) (zm (zp .FloorDiv) (zP (vG T hkd) (hr.mono (by omega)) rfl T.zZ T.wQ.kp T.vB yQ (zf (av 0) (zf aI zr (za rfl)) (za rfl)) (by decide) rfl rfl) aI) (av 2)))
  refine zj ?_ ?_; exact (Xz (z := true) (i := 6) (N := ["_law_v", "_law_algebra_here", "_law_first"]) (cap := [none, some 1, some 5]) (S := [0]) X6.nd rfl (by exact Or.inl rfl) (by exact Or.inr rfl) rfl rfl (yG rfl T.yF (zf (av 2) zr (za rfl)) rfl) rfl (by change xU _ zlC _ (zy zhT).names _ = true; decide +kernel) (by decide) (λ cl s H fp => (an 0 zlP)) (λ cl s H fp => (zgC (yM (yC (hkd _ rfl rfl rfl) (yX hr) .Eq) (yr .Eq) (zP (Yx T hkd) (hr.mono (by omega)) rfl T.yx T.ZF.kp T.YB yQ (by refine zf ?_ ?_ ?_; exact (av 1); refine zf ?_ ?_ ?_; exact (av 2); refine zf ?_ ?_ ?_; exact (av 0); exact zr; exact za rfl; exact za rfl; exact za rfl) (by decide) rfl rfl) (yR (zg aS zF (za rfl))) (yJ _)))) (λ cl s H fp => (av 0)) (λ _ => rfl))
  refine zj ?_ ?_; exact (ww (yM (yC (hkd _ rfl rfl rfl) (yX hr) .NotIn) (yr .NotIn) (av 5) (av 6) rfl) (zx (yh aB)) yP)
  refine zj ?_ ?_; exact (wU PassesOwn.never rfl (Wb (av 6)) (an 7 X6.nd) (by
  refine zj ?_ ?_; exact (ww (AW.at_ (zmV (zqM (zpU (zP (zgz T hkd) (hr.mono (by omega)) rfl T.vd T.zbj.kp T.zgc yQ (by refine zf ?_ ?_ ?_; exact (av 1); refine zf ?_ ?_ ?_; exact (av 4); refine zf ?_ ?_ ?_; exact (av 5); refine zf ?_ ?_ ?_; exact (av 7); exact zr; exact za rfl; exact za rfl; exact za rfl; exact za rfl) (by decide) rfl rfl) (λ _ => rfl))) (zcx (yM (yC (hkd _ rfl rfl rfl) (yX hr) .NotEq) (yr .NotEq) (zP (Yx T hkd) (hr.mono (by omega)) rfl T.yx T.ZF.kp T.YB yQ (by refine zf ?_ ?_ ?_; exact (av 1); refine zf ?_ ?_ ?_; exact (av 7); refine zf ?_ ?_ ?_; exact (av 5); exact zr; exact za rfl; exact za rfl; exact za rfl) (by decide) rfl rfl) (yR (zg aS zF (za rfl))) (yJ _))))) (zx (yh aB)) yP)
  refine zj ?_ ?_; exact (ww (yM (yC (hkd _ rfl rfl rfl) (yX hr) .NotEq) (yr .NotEq) (zP (Yx T hkd) (hr.mono (by omega)) rfl T.yx T.ZF.kp T.YB yQ (by refine zf ?_ ?_ ?_; exact (av 1); refine zf ?_ ?_ ?_; exact (ax hkd (av 6) (zrP zsK aI)); refine zf ?_ ?_ ?_; exact (av 7); exact zr; exact za rfl; exact za rfl; exact za rfl) (by decide) rfl rfl) (yR (zg aS zF (za rfl))) (yJ _)) (zx (yh aB)) yP)
  exact zx (ww (yM (yC (hkd _ rfl rfl rfl) (yX hr) .NotEq) (yr .NotEq) (zP (Yx T hkd) (hr.mono (by omega)) rfl T.yx T.ZF.kp T.YB yQ (by refine zf ?_ ?_ ?_; exact (av 1); refine zf ?_ ?_ ?_; exact (zP (zij T hkd) (hr.mono (by omega)) rfl T.Zy T.zdR.kp T.zhY yQ (by refine zf ?_ ?_ ?_; exact (av 1); refine zf ?_ ?_ ?_; exact (av 4); refine zf ?_ ?_ ?_; exact (av 5); exact zr; exact za rfl; exact za rfl; exact za rfl) (by decide) rfl rfl); refine zf ?_ ?_ ?_; exact (zP (zij T hkd) (hr.mono (by omega)) rfl T.Zy T.zdR.kp T.zhY yQ (by refine zf ?_ ?_ ?_; exact (av 1); refine zf ?_ ?_ ?_; exact (av 4); refine zf ?_ ?_ ?_; exact (av 7); exact zr; exact za rfl; exact za rfl; exact za rfl) (by decide) rfl rfl); exact zr; exact za rfl; exact za rfl; exact za rfl) (by decide) rfl rfl) (yR (zg aS zF (za rfl))) (yJ _)) (zx (yh aB)) yP)) (λ _ => rfl))
  exact zx (yh aB))
end
abbrev NsR (K : zC) (x : Str) (f : Addr) : Prop := PySem.W.nsIn K mainGlobals x = some (some (.ref f))
abbrev FnAt (K : zC) (x q : Str) (s : Stmt) (f : Addr) : Prop := ∃ d, Fun K x q s f d
theorem zpi {l : PySem.W.OpenLaw} {w : World} {K : zC} {h : Heap} {mg : Str -> Option Value} {fa : Addr} (X : K.In h) (G : h.Ns mainGlobals mg) (hfa : mg "law" = some (.ref fa))
 {f0 f1 f2 f3 f4 f5 f6 f7 f8 f9 f10 f11 f12 f13 f14 f15 f16 f17 f18 f19 f20 f21 f22 f23 f24 f25 f26 f27 f28 f29 f30 f31 : Addr}
 (a0 : NsR K "stepped" f0) (l0 : FnAt K "stepped" "stepped" VP f0)
 (a1 : NsR K "framed" f1) (l1 : FnAt K "framed" "framed" zbp f1)
 (a2 : NsR K "all_steps" f2) (l2 : FnAt K "all_steps" "all_steps" vM f2)
 (a3 : NsR K "telling_sign" f3) (l3 : FnAt K "telling_sign" "telling_sign" ZD f3)
 (a4 : NsR K "told_apart" f4) (l4 : FnAt K "told_apart" "told_apart" Yy f4)
 (a5 : NsR K "_law_cell_at" f5) (l5 : FnAt K "_law_cell_at" "_law_cell_at" Z3 f5)
 (a6 : NsR K "_law_whole" f6) (l6 : FnAt K "_law_whole" "_law_whole" VD f6)
 (a7 : NsR K "_law_stream" f7) (l7 : FnAt K "_law_stream" "_law_stream" YC f7)
 (a8 : NsR K "_law_names" f8) (l8 : FnAt K "_law_names" "_law_names" Yi f8)
 (a9 : NsR K "_law_divisor" f9) (l9 : FnAt K "_law_divisor" "_law_divisor" Z6 f9)
 (a10 : NsR K "_law_sums" f10) (l10 : FnAt K "_law_sums" "_law_sums" Y6 f10)
 (a11 : NsR K "_law_rising" f11) (l11 : FnAt K "_law_rising" "_law_rising" vY f11)
 (a12 : NsR K "_law_kept" f12) (l12 : FnAt K "_law_kept" "_law_kept" Z1 f12)
 (a13 : NsR K "_law_joins" f13) (l13 : FnAt K "_law_joins" "_law_joins" wM f13)
 (a14 : NsR K "_law_rows" f14) (l14 : FnAt K "_law_rows" "_law_rows" YL f14)
 (a15 : NsR K "_law_plain" f15) (l15 : FnAt K "_law_plain" "_law_plain" Yb f15)
 (a16 : NsR K "_law_beside" f16) (l16 : FnAt K "_law_beside" "_law_beside" ZG f16)
 (a17 : NsR K "_law_made" f17) (l17 : FnAt K "_law_made" "_law_made" XC f17)
 (a18 : NsR K "_law_order" f18) (l18 : FnAt K "_law_order" "_law_order" Xa f18)
 (a19 : NsR K "_law_signs" f19) (l19 : FnAt K "_law_signs" "_law_signs" Yj f19)
 (a20 : NsR K "_law_algebra" f20) (l20 : FnAt K "_law_algebra" "_law_algebra" wR f20)
 (a21 : NsR K "_law_bent" f21) (l21 : FnAt K "_law_bent" "_law_bent" ZZ f21)
 (a22 : NsR K "_law_step" f22) (l22 : FnAt K "_law_step" "_law_step" XR f22)
 (a23 : NsR K "_law_steps" f23) (l23 : FnAt K "_law_steps" "_law_steps" Z7 f23)
 (a24 : NsR K "_law_held" f24) (l24 : FnAt K "_law_held" "_law_held" YZ f24)
 (a25 : NsR K "_law_few" f25) (l25 : FnAt K "_law_few" "_law_few" Xw f25)
 (a26 : NsR K "_law_walked" f26) (l26 : FnAt K "_law_walked" "_law_walked" Yv f26)
 (a27 : NsR K "_law_digits" f27) (l27 : FnAt K "_law_digits" "_law_digits" Yz f27)
 (a28 : NsR K "_law_by_digits" f28) (l28 : FnAt K "_law_by_digits" "_law_by_digits" wK f28)
 (a29 : NsR K "_law_any" f29) (l29 : FnAt K "_law_any" "_law_any" VN f29)
 (a30 : NsR K "_law_frame" f30) (l30 : FnAt K "_law_frame" "_law_frame" Zw f30)
 (a31 : NsR K "law" f31) (l31 : FnAt K "law" "law" zhT f31)
 (z0 : PySem.W.nsIn K mainGlobals "bool" = some none) (z1 : PySem.W.nsIn K mainGlobals "dict" = some none) (z2 : PySem.W.nsIn K mainGlobals "enumerate" = some none) (z3 : PySem.W.nsIn K mainGlobals "int" = some none) (z4 : PySem.W.nsIn K mainGlobals "isinstance" = some none) (z5 : PySem.W.nsIn K mainGlobals "len" = some none) (z6 : PySem.W.nsIn K mainGlobals "list" = some none) (z7 : PySem.W.nsIn K mainGlobals "max" = some none) (z8 : PySem.W.nsIn K mainGlobals "range" = some none) (z9 : PySem.W.nsIn K mainGlobals "sorted" = some none) (z10 : PySem.W.nsIn K mainGlobals "tuple" = some none) (z11 : PySem.W.nsIn K mainGlobals "zip" = some none) :
 ∃ fd : FuncData, (∀ (s : Shared) (v : Value), BindsTo s fd ⟨[v], []⟩ [("_law_script", v)]) /\ ∀ base : Heap, K.In base -> base.Ns mainGlobals mg -> FnOk l.prog w K mg base CX0 8 fa fd ["_law_script"] (spL K zen) := by
 have e := hfa.symm.trans (PySem.W.mg_of X G a31)
 cases e
 obtain ⟨_, F0⟩ := l0
 have b0 := F0.binds (ps := ["algebra", "step", "value"]) λ _ _ _ _ _ _ => l3_ λ _ _ _ => rfl
 obtain ⟨_, F1⟩ := l1
 have b1 := F1.binds (ps := ["algebra", "steps", "value"]) λ _ _ _ _ _ _ => l3_ λ _ _ _ => rfl
 obtain ⟨_, F2⟩ := l2
 have b2 := F2.binds (ps := ["algebra"]) λ _ _ _ _ _ _ => l1_ λ _ => rfl
 obtain ⟨_, F3⟩ := l3
 have b3 := F3.binds (ps := ["algebra", "one", "other"]) λ _ _ _ _ _ _ => l3_ λ _ _ _ => rfl
 obtain ⟨_, F4⟩ := l4
 have b4 := F4.binds (ps := ["algebra", "one", "other"]) λ _ _ _ _ _ _ => l3_ λ _ _ _ => rfl
 obtain ⟨_, F5⟩ := l5
 have b5 := F5.binds (ps := ["_law_script", "_law_k"]) λ _ _ _ _ _ _ => l2_ λ _ _ => rfl
 obtain ⟨_, F6⟩ := l6
 have b6 := F6.binds (ps := ["_law_found"]) λ _ _ _ _ _ _ => l1_ λ _ => rfl
 obtain ⟨_, F7⟩ := l7
 have b7 := F7.binds (ps := ["_law_cell", "_law_many"]) λ _ _ _ _ _ _ => l2_ λ _ _ => rfl
 obtain ⟨_, F8⟩ := l8
 have b8 := F8.binds (ps := ["_law_cell", "_law_many"]) λ _ _ _ _ _ _ => l2_ λ _ _ => rfl
 obtain ⟨_, F9⟩ := l9
 have b9 := F9.binds (ps := ["_law_one", "_law_other"]) λ _ _ _ _ _ _ => l2_ λ _ _ => rfl
 obtain ⟨_, F10⟩ := l10
 have b10 := F10.binds (ps := ["_law_n", "_law_m", "_law_xs"]) λ _ _ _ _ _ _ => l3_ λ _ _ _ => rfl
 obtain ⟨_, F11⟩ := l11
 have b11 := F11.binds (ps := ["_law_n", "_law_m", "_law_xs"]) λ _ _ _ _ _ _ => l3_ λ _ _ _ => rfl
 obtain ⟨_, F12⟩ := l12
 have b12 := F12.binds (ps := ["_law_n", "_law_m", "_law_xs"]) λ _ _ _ _ _ _ => l3_ λ _ _ _ => rfl
 obtain ⟨_, F13⟩ := l13
 have b13 := F13.binds (ps := ["_law_kind", "_law_n"]) λ _ _ _ _ _ _ => l2_ λ _ _ => rfl
 obtain ⟨_, F14⟩ := l14
 have b14 := F14.binds (ps := ["_law_kind", "_law_n", "_law_m", "_law_xs"]) λ _ _ _ _ _ _ => l4_ λ _ _ _ _ => rfl
 obtain ⟨_, F15⟩ := l15
 have b15 := F15.binds (ps := ["_law_kind", "_law_n", "_law_m", "_law_many", "_law_cell"]) λ _ _ _ _ _ _ => l5_ λ _ _ _ _ _ => rfl
 obtain ⟨_, F16⟩ := l16
 have b16 := F16.binds (ps := ["_law_one", "_law_other", "_law_m"]) λ _ _ _ _ _ _ => l3_ λ _ _ _ => rfl
 obtain ⟨_, F17⟩ := l17
 have b17 := F17.binds (ps := ["_law_cell", "_law_m", "_law_many"]) λ _ _ _ _ _ _ => l3_ λ _ _ _ => rfl
 obtain ⟨_, F18⟩ := l18
 have b18 := F18.binds (ps := ["_law_cell", "_law_n"]) λ _ _ _ _ _ _ => l2_ λ _ _ => rfl
 obtain ⟨_, F19⟩ := l19
 have b19 := F19.binds (ps := ["_law_cell", "_law_n", "_law_names_here"]) λ _ _ _ _ _ _ => l3_ λ _ _ _ => rfl
 obtain ⟨_, F20⟩ := l20
 have b20 := F20.binds (ps := ["_law_cell", "_law_other"]) λ _ _ _ _ _ _ => l2_ λ _ _ => rfl
 obtain ⟨_, F21⟩ := l21
 have b21 := F21.binds (ps := ["_law_algebra_here", "_law_cell"]) λ _ _ _ _ _ _ => l2_ λ _ _ => rfl
 obtain ⟨_, F22⟩ := l22
 have b22 := F22.binds (ps := ["_law_algebra_here", "_law_step_here", "_law_value"]) λ _ _ _ _ _ _ => l3_ λ _ _ _ => rfl
 obtain ⟨_, F23⟩ := l23
 have b23 := F23.binds (ps := ["_law_algebra_here"]) λ _ _ _ _ _ _ => l1_ λ _ => rfl
 obtain ⟨_, F24⟩ := l24
 have b24 := F24.binds (ps := ["_law_algebra_here", "_law_value"]) λ _ _ _ _ _ _ => l2_ λ _ _ => rfl
 obtain ⟨_, F25⟩ := l25
 have b25 := F25.binds (ps := ["_law_algebra_here", "_law_cell"]) λ _ _ _ _ _ _ => l2_ λ _ _ => rfl
 obtain ⟨_, F26⟩ := l26
 have b26 := F26.binds (ps := ["_law_algebra_here", "_law_steps_here", "_law_one", "_law_other"]) λ _ _ _ _ _ _ => l4_ λ _ _ _ _ => rfl
 obtain ⟨_, F27⟩ := l27
 have b27 := F27.binds (ps := ["_law_cell", "_law_base", "_law_many"]) λ _ _ _ _ _ _ => l3_ λ _ _ _ => rfl
 obtain ⟨_, F28⟩ := l28
 have b28 := F28.binds (ps := ["_law_algebra_here", "_law_cell"]) λ _ _ _ _ _ _ => l2_ λ _ _ => rfl
 obtain ⟨_, F29⟩ := l29
 have b29 := F29.binds (ps := ["_law_script"]) λ _ _ _ _ _ _ => l1_ λ _ => rfl
 obtain ⟨_, F30⟩ := l30
 have b30 := F30.binds (ps := ["_law_script", "_law_some"]) λ _ _ _ _ _ _ => l2_ λ _ _ => rfl
 obtain ⟨_, F31⟩ := l31
 obtain ⟨_, _, _, _, _, _, _, _, _, rfl, _, _⟩ := F31.ex
 have b31 := F31.binds (ps := ["_law_script"]) λ _ _ _ _ _ _ => l1_ λ _ => rfl
 let KL : List (Addr × List (Key × V)) := []
 have hkd : KD1 l.prog w K (kdL KL) := zpT λ p m => by
  exact absurd (show p ∈ ([] : List (Addr × List (Key × V))) from m) List.not_mem_nil
 have T : Txt K (kdL KL) mg ⟨_, _, _, _, _, _, _, _, _, _, _, _, _, _, _, _, _, _, _, _, _, _, _, _, _, _, _, _, _, _, _, _, _, _, _, _, _, _, _, _, _, _, _, _, _, _, _, _, _, _, _, _, _, _, _, _, _, _, _, _, _, _, _, _⟩ := ⟨F0, b0, PySem.W.mg_of X G a0, F1, b1, PySem.W.mg_of X G a1, F2, b2, PySem.W.mg_of X G a2, F3, b3, PySem.W.mg_of X G a3, F4, b4, PySem.W.mg_of X G a4, F5, b5, PySem.W.mg_of X G a5, F6, b6, PySem.W.mg_of X G a6, F7, b7, PySem.W.mg_of X G a7, F8, b8, PySem.W.mg_of X G a8, F9, b9, PySem.W.mg_of X G a9, F10, b10, PySem.W.mg_of X G a10, F11, b11, PySem.W.mg_of X G a11, F12, b12, PySem.W.mg_of X G a12, F13, b13, PySem.W.mg_of X G a13, F14, b14, PySem.W.mg_of X G a14, F15, b15, PySem.W.mg_of X G a15, F16, b16, PySem.W.mg_of X G a16, F17, b17, PySem.W.mg_of X G a17, F18, b18, PySem.W.mg_of X G a18, F19, b19, PySem.W.mg_of X G a19, F20, b20, PySem.W.mg_of X G a20, F21, b21, PySem.W.mg_of X G a21, F22, b22, PySem.W.mg_of X G a22, F23, b23, PySem.W.mg_of X G a23, F24, b24, PySem.W.mg_of X G a24, F25, b25, PySem.W.mg_of X G a25, F26, b26, PySem.W.mg_of X G a26, F27, b27, PySem.W.mg_of X G a27, F28, b28, PySem.W.mg_of X G a28, F29, b29, PySem.W.mg_of X G a29, F30, b30, PySem.W.mg_of X G a30, F31, b31, PySem.W.mg_of X G a31, PySem.W.mg_none_of X G z0, PySem.W.mg_none_of X G z1, PySem.W.mg_none_of X G z2, PySem.W.mg_none_of X G z3, PySem.W.mg_none_of X G z4, PySem.W.mg_none_of X G z5, PySem.W.mg_none_of X G z6, PySem.W.mg_none_of X G z7, PySem.W.mg_none_of X G z8, PySem.W.mg_none_of X G z9, PySem.W.mg_none_of X G z10, PySem.W.mg_none_of X G z11⟩
 exact ⟨_, λ s v => .of_eq rfl, λ base _ _ => (o_law T hkd).imp λ vs H Q E h => h _⟩
theorem walk {l : PySem.W.OpenLaw} {q : Program} {loose : List Str} {XP : (Str -> Option Value) -> Heap -> Prop} {YP : World -> Heap -> Prop} {d : DefRec} {K : Params -> zC} (hn : l.most = some 63) (hdf : d.params.defaults = [])
 (hY : ∀ (w : World) (h : Heap), YP w h -> (K w.params).In h) (hm : ∀ ns : List Int, ns.length <= 63 -> zen [(true, .lst (ns.map D.int))] = some (.lf true (.bl true)))
 (F : ∀ (w : World) (mg : Str -> Option Value) (fa : Addr) (h : Heap), (K w.params).In h -> h.Ns mainGlobals mg -> mg d.name = some (.ref fa) ->
  ∃ fd : FuncData, (∀ (s : Shared) (u : Value), BindsTo s fd ⟨[u], []⟩ [("_law_script", u)]) /\ ∀ base : Heap, (K w.params).In base -> base.Ns mainGlobals mg -> FnOk l.prog w (K w.params) mg base CX0 8 fa fd ["_law_script"] (spL (K w.params) zen)) :
 PySem.W.WalkO q loose XP YP l.row.toRowW d [] (λ f vs => PySem.call f vs) :=
 L2.walk_of (n := 63) (k := 8) (x := "_law_script") (CX := λ _ => CX0) (sp := λ w => spL (K w.params) zen) hn (by decide) hdf ⟨rfl, by decide, by decide, rfl⟩ hY F (λ _ _ a ns hl _ hS kd => zpl (hm ns hl) hS) λ _ _ _ _ _ z => z
abbrev lfI (x : Int) : O := .lf true (.int x)
abbrev sI (x : Int) : Option O := some (lfI x)
abbrev sT (d : D) : Option O := some (.lf true d)
abbrev sN (os : List O) : Option O := some (.nd .ls os)
abbrev TZ : Type := List (List Int)
abbrev DZ : Type := List (Str × TZ)
abbrev SS : Type := List (Str × List Int)
theorem VM {f : EF} {as as1 : AS} {o : O} (h : f as = some (.ow o, as1)) (hs : o.str = true) : xf f as = some (.rt o) := by
 unfold xf; rw [h]
 show ((if o.str = true then some o else none).bind _) = _
 rw [if_pos hs]; rfl
theorem szs {n : Nat} (h : n <= 1000000) : n <= sizeLine := zzL h (by decide)
theorem vq : ∀ xs : List Int, (xs.map lfI).all O.isLf = true /\ O.strs (xs.map lfI) = true /\ O.toDs (xs.map lfI) = xs.map D.int
 | [] => ⟨rfl, rfl, rfl⟩
 | x :: r => ⟨(vq r).1, (vq r).2.1, congrArg (D.int x :: ·) (vq r).2.2⟩
theorem zgG (xs : List Int) : (xs.map D.int).map (O.lf true) = xs.map lfI := by rw [List.map_map]; rfl
theorem zpr {as : AS} {i : Nat} {os : List O} {fl fh : OF} {lo hi : Option Int} (h : as[i]? = some (sN os)) (hl : os.all O.isLf = true) (hs : O.strs os = true) (h1 : fl as = some (lo, as)) (h2 : fh as = some (hi, as)) :
 fSl (fV i) fl fh slP as = some (.ow (.nd .ls ((cutD (O.toDs os) lo hi).map (O.lf true))), as) := by
 unfold fSl
 rw [zbu h]; show ((fl as).bind _) = _
 rw [h1]; show ((fh as).bind _) = _
 rw [h2]; show ((RV.view as (.bo i)).bind _) = _
 rw [V7 h]
 have e : (O.nd .ls os).kl = some true := by simp only [O.kl, hl, if_true, hs]
 rw [e]
 show (wrap (some true) (.fl (cutD (O.toDs os) lo hi))).bind _ = _
 show (if ((cutD (O.toDs os) lo hi).all yu || true) = true then some (RV.ow (.nd .ls ((cutD (O.toDs os) lo hi).map (lfs true)))) else none : Option RV).bind _ = _
 rw [if_pos (by simp), XX]; rfl
theorem zkN {x : D} {xs : List D} : cutD (x :: xs) (some 1) none = xs := by
 have := zmh (xs := [x]) (ys := xs)
 have e : slP (.lst ([x] ++ xs)) (some (([x] : List D).length : Int)) none = some (.fl (cutD (x :: xs) (some 1) none)) := rfl
 rw [e] at this
 injection this with this
 injection this
abbrev stB : SF := (zL (zW true 3 (f2 (f2 (f2 (f2 yI yI zY) (f2 (fC (.int 48271)) yI zY) zK) yW zK) (fC (.int 2147483647)) zH))
 (xO (wI 2 (dC (f2 (f2 (f2 yI (fC (.int 40692)) zY) (f2 (fC (.int 7)) yW zY) zK) (fC (.int 2147483399)) zH) dN) wO)))
theorem zhA (ys : List Int) (w : Int) : (ys ++ [w]).map lfI = ys.map lfI ++ [O.lf true (.int w)] := by rw [List.map_append]; rfl
theorem zex {A B : Option O} : ∀ (n : Nat) (k x : Int) (ys : List Int) (e4 : Option O), 0 <= k -> k + n <= 1000 -> 0 <= x -> x < 2 ^ 40 -> ys.length + n <= 1000 -> (∀ y ∈ ys, 0 <= y /\ y < 2147483399) -> ∃ (x' : Int) (zs : List Int) (e4' : Option O), zs.length = ys.length + n /\ (∀ z ∈ zs, 0 <= z /\ z < 2147483399) /\
 forL Yt stB (vH k n) [A, B, sN (ys.map lfI), sI x, e4] = some (.nx [A, B, sN (zs.map lfI), sI x', e4'])
 | 0, k, x, ys, e4, _, _, _, _, _, h => ⟨x, ys, e4, rfl, h, rfl⟩
 | n + 1, k, x, ys, e4, hk, hkn, hx0, hx1, hl, h => by
  have y0 := Int.emod_nonneg (x * x + 48271 * x + k) (show (2147483647 : Int) ≠ 0 by decide)
  have y1 := Int.emod_lt_of_pos (x * x + 48271 * x + k) (show (0 : Int) < 2147483647 by decide)
  have w0 := Int.emod_nonneg ((x * x + 48271 * x + k) % 2147483647 * 40692 + 7 * k) (show (2147483399 : Int) ≠ 0 by decide)
  have w1 := Int.emod_lt_of_pos ((x * x + 48271 * x + k) % 2147483647 * 40692 + 7 * k) (show (0 : Int) < 2147483399 by decide)
  obtain ⟨x', zs, e4', h1, h2, h3⟩ := zex (A := A) (B := B) n (k + 1) ((x * x + 48271 * x + k) % 2147483647) (ys ++ [((x * x + 48271 * x + k) % 2147483647 * 40692 + 7 * k) % 2147483399]) (sI k) (by omega) (by omega) y0 (Int.lt_trans y1 (by decide)) (by rw [zzG]; show ys.length + 1 + n <= _; omega) (λ z m => by
   rcases zzJ.mp m with m | m
   · exact h z m
   · rw [zzO.mp m]; exact ⟨w0, w1⟩)
  refine ⟨x', zs, e4', by rw [h1, zzG]; show ys.length + 1 + n = _; omega, h2, ?_⟩
  rw [zhA] at h3
  rw [zbX]
  have bx : x.natAbs < big := yg (Int.lt_of_lt_of_le (by decide) hx0) (Int.lt_trans hx1 (by decide))
  have bk : k.natAbs < big := yg (by omega) (by omega)
  exact vV (as1 := [A, B, sN (ys.map lfI), sI x, sI k]) rfl (yw (xr (i := 3) (yz (xW (xW (wX (zb rfl) (zb rfl) bx bx) (wX zc (zb rfl) (yg (by decide) (by decide)) bx)) (zb rfl)) zc (by decide)) (zG rfl))
   (zmf (i := 2) rfl (by rw [zD]; exact ZR (by omega)) (yz (xW (wX (zb rfl) zc (yg (Int.lt_of_lt_of_le (by decide) y0) (Int.lt_trans y1 (by decide))) (yg (by decide) (by decide))) (wX zc (zb rfl) (yg (by decide) (by decide)) bk)) zc (by decide)))) h3
theorem zkA {s : Bool} {c m : Int} (h0 : 0 <= m) (h1 : m <= 900) : ∃ xs : List Int, (xs.length : Int) = m /\ (∀ x ∈ xs, 0 <= x /\ x < 2147483399) /\ zO [(true, .int c), (true, .int m)] = sN (xs.map lfI) := by
 have y0 := Int.emod_nonneg c (show (2147483647 : Int) ≠ 0 by decide)
 have y1 := Int.emod_lt_of_pos c (show (0 : Int) < 2147483647 by decide)
 obtain ⟨x', zs, e4, z1, z2, hf⟩ := zex (A := sI c) (B := sI m) (m + 1).toNat 0 (c % 2147483647 + 48271) [] none (by omega) (by omega) (by omega) (by omega) (by show 0 + _ <= _; omega) (λ _ m => nomatch m)
 cases zs with
 | nil => rw [List.length_nil] at z1; simp at z1; omega
 | cons z r =>
  refine ⟨r, by rw [zzQ] at z1; simp at z1; omega, λ x hx => z2 x (zzA _ hx), ?_⟩
  obtain ⟨i1, i2, i3⟩ := vq (z :: r)
  have hs := zpr (as := [sI c, sI m, sN ((z :: r).map lfI), sI x', e4]) (i := 2) (fl := oS yq) (fh := oN) (lo := some 1) (hi := none) rfl i1 i2 rfl rfl
  rw [i3] at hs
  have hc : cutD ((z :: r).map D.int) (some 1) none = r.map D.int := zkN
  rw [hc, zgG] at hs
  refine ZJ rfl (yw (wy (i := 2) (vO yo (szl rfl)) (zG rfl)) (yw (xr (i := 3) (xW (yz (zb rfl) zc (by decide)) zc) (zG rfl)) (yw (wD (vR (zJ (xW (zb rfl) zc) zQ) (by omega) (by omega)) hf) ?_)))
  exact VM hs (vq r).2.1
theorem V9 (xs : List Int) : (O.nd .ls (xs.map lfI)).str = true /\ (O.nd .ls (xs.map lfI)).toD = .lst (xs.map D.int) := ⟨(vq xs).2.1, congrArg D.lst (vq xs).2.2⟩
abbrev Ym (r : List Int) : O := .nd .ls (r.map lfI)
abbrev yj (r : List Int) : D := .lst (r.map D.int)
theorem V0 : ∀ T : TZ, O.strs (T.map Ym) = true /\ O.toDs (T.map Ym) = T.map yj
 | [] => ⟨rfl, rfl⟩
 | r :: T => ⟨by show (O.strs (r.map lfI) && O.strs (T.map Ym)) = true; rw [(vq r).2.1, (V0 T).1]; rfl, by
  show D.lst (O.toDs (r.map lfI)) :: O.toDs (T.map Ym) = _
  rw [(vq r).2.2, (V0 T).2]; rfl⟩
theorem zeu {g : GF} {fe : EF} {as0 as1 : AS} {y : It1} {r : List It1} {o : O} {os : List O} (h1 : g y as0 = some as1) (h2 : fe as1 = some (.ow o, as1)) (hs : o.str = true) (h3 : wJ g yV fe as0 r = some os) : wJ g yV fe as0 (y :: r) = some (o :: os) := by
 unfold wJ
 rw [h1]; show ((fe as1).bind _) = _
 rw [h2]; show (if o.str = true then _ else _) = _
 rw [if_pos hs, h3]; rfl
theorem wY : ∀ (n : Nat) (k : Int), (vH k n).length = n
 | 0, _ => rfl
 | n + 1, k => by rw [zbX]; exact congrArg (· + 1) (wY n (k + 1))
theorem zhe {f : D -> D -> Option Bool} : ∀ {xs : List D}, (∀ x ∈ xs, f x x = some true) -> eqL f xs xs = some true
 | [], _ => rfl
 | x :: r, h => by
  show (f x x).bind _ = _
  rw [h x (zzC), Option.bind_some, zhe (xs := r) λ y m => h y (zzA _ m)]; rfl
theorem zdv : ∀ {n : Nat} {k : Int} {y : It1}, y ∈ vH k n -> ∃ b : Int, y = (true, .int b) /\ k <= b /\ b < k + n
 | 0, _, _, h => nomatch h
 | n + 1, k, y, h => by
  rw [zbX] at h
  rcases zI.mp h with rfl | h
  · exact ⟨k, rfl, by omega, by omega⟩
  · obtain ⟨b, e, h1, h2⟩ := zdv h
    exact ⟨b, e, by omega, by omega⟩
theorem zft {α : Type} (toD : α -> D) {Q : α -> Prop} {g : GF} {fe : EF} {as0 : AS} : ∀ {xs : List It1}, (∀ y ∈ xs, ∃ as1 a, g y as0 = some as1 /\ WE fe as1 (toD a) /\ Q a) -> ∃ (os : List O) (l : List α), wJ g yV fe as0 xs = some os /\ O.strs os = true /\ O.toDs os = l.map toD /\ l.length = xs.length /\ ∀ a ∈ l, Q a
 | [], _ => ⟨[], [], rfl, rfl, rfl, rfl, λ _ m => nomatch m⟩
 | y :: xs, H => by
  obtain ⟨as1, a, h1, ⟨o, h2, h3, h4⟩, h5⟩ := H y (zzC ..)
  obtain ⟨os, l, a1, a2, a3, a4, a5⟩ := zft toD (Q := Q) (g := g) (fe := fe) (as0 := as0) (xs := xs) λ z m => H z (zzA _ m)
  refine ⟨o :: os, a :: l, zeu h1 h2 h3 a1, by show (o.str && O.strs os) = true; rw [h3, a2]; rfl, by show o.toD :: O.toDs os = _; rw [h4, a3]; rfl, congrArg (· + 1) a4, λ b m => ?_⟩
  rcases zI.mp m with rfl | m
  · exact h5
  · exact a5 b m
theorem Wr {α : Type} (toD : α -> D) {Q : α -> Prop} {fi : IF} {cap : List (Option Nat)} {g : GF} {fe : EF} {as : AS} {xs : List It1} (h1 : fi as = some (xs, as)) (hl : xs.length <= 1000) (H : ∀ y ∈ xs, ∃ as1 a, g y (YM cap as) = some as1 /\ WE fe as1 (toD a) /\ Q a) :
 ∃ l : List α, l.length = xs.length /\ (∀ a ∈ l, Q a) /\ WE (yc fi cap g yV fe) as (.lst (l.map toD)) := by
 obtain ⟨os, l, a1, a2, a3, a4, a5⟩ := zft toD H
 exact ⟨l, a4, a5, _, V3 h1 (szs (by omega)) a1, a2, congrArg D.lst a3⟩
theorem Zb {α : Type} (toD : α -> D) {Q : α -> Prop} {fr : AF} {cap : List (Option Nat)} {fe : EF} {as : AS} {n : Nat} {u : Bool} (h1 : WA fr as [(u, .int n)]) (hl : n <= 1000) (H : ∀ b : Int, 0 <= b -> b < n -> ∃ as1 a, gN 0 (true, .int b) (YM cap as) = some as1 /\ WE fe as1 (toD a) /\ Q a) :
 ∃ l : List α, l.length = n /\ (∀ a ∈ l, Q a) /\ WE (yc (xJ fr xG) cap xm yV fe) as (.lst (l.map toD)) := by
 obtain ⟨l, a1, a2, a3⟩ := Wr toD (Q := Q) (cap := cap) (g := gN 0) (fe := fe) (vR h1 (by omega) (by omega)) (by rw [wY]; omega) (λ y m => by
  obtain ⟨b, rfl, h0, h2⟩ := zdv m
  exact H b h0 (by omega))
 rw [wY] at a1
 exact ⟨l, by omega, a2, a3⟩
theorem zmi {f : EF} {as : AS} {x : D} (h : WE f as x) : ∃ o, xf f as = some (.rt o) /\ o.str = true /\ o.toD = x := by
 obtain ⟨o, h1, h2, h3⟩ := h
 exact ⟨o, VM h1 h2, h2, h3⟩
theorem xT {n m : Nat} {c : SF} {ds : List (Bool × D)} {x : D} (hl : ds.length = m) (h : ∃ o, c (zat n ds) = some (.rt o) /\ o.str = true /\ o.toD = x) : RE (fnR n m c ds) x := by
 obtain ⟨o, h1, h2, h3⟩ := h
 exact ⟨o, ZJ hl h1, h2, h3⟩
abbrev Rt (r : Option Out) (x : D) : Prop := ∃ o, r = some (.rt o) /\ o.str = true /\ o.toD = x
theorem zq {f g : SF} {as as1 : AS} {x : D} (h1 : f as = some (.nx as1)) (h2 : Rt (g as1) x) : Rt (zL f g as) x := by
 obtain ⟨o, a, b, c⟩ := h2
 exact ⟨o, yw h1 a, b, c⟩
theorem vI {f g : SF} {as : AS} {x : D} (h1 : Rt (f as) x) : Rt (zL f g as) x := by
 obtain ⟨o, a, b, c⟩ := h1
 exact ⟨o, Zk a, b, c⟩
theorem ZQ {c : TF} {f g : SF} {as : AS} {x : D} (h : WT c as true) (h1 : Rt (f as) x) : Rt (sIf c f g as) x := by
 obtain ⟨o, a, b, d⟩ := h1
 exact ⟨o, wV h a, b, d⟩
theorem wj {f : EF} {as : AS} {x : D} (h : WE f as x) : Rt (xf f as) x := zmi h
def Row (n : Nat) (r : List Int) : Prop := r.length = n /\ ∀ x ∈ r, 0 <= x /\ x < (n : Int)
def Tab (k n : Nat) (T : TZ) : Prop := T.length = k /\ ∀ r ∈ T, Row n r
abbrev zT (T : TZ) : D := .lst (T.map yj)
theorem Xh {r : List Int} {P : Int -> Prop} {k : Int} (h0 : 0 <= k) (h1 : k < r.length) (hp : ∀ x ∈ r, P x) : ∃ x, ixP (.lst (r.map D.int)) (.int k) = some (.im (.int x)) /\ P x := by
 have hk : k.toNat < r.length := by omega
 refine ⟨r[k.toNat], ?_, hp _ (List.getElem_mem hk)⟩
 have h := Y9 (xs := r.map D.int) (j := k.toNat) (v := D.int r[k.toNat]) (by rw [zzF, zzB hk]; rfl)
 rw [show ((k.toNat : Nat) : Int) = k by omega] at h
 show imR (atI _ _) = _
 rw [h]; rfl
theorem zeK {α : Type} (toD : α -> D) {T : List α} {P : α -> Prop} {k : Int} (h0 : 0 <= k) (h1 : k < T.length) (hp : ∀ r ∈ T, P r) : ∃ r, ixP (.lst (T.map toD)) (.int k) = some (.im (toD r)) /\ P r := by
 have hk : k.toNat < T.length := by omega
 refine ⟨T[k.toNat], ?_, hp _ (List.getElem_mem hk)⟩
 have h := Y9 (xs := T.map toD) (j := k.toNat) (v := toD T[k.toNat]) (by rw [zzF, zzB hk]; rfl)
 rw [show ((k.toNat : Nat) : Int) = k by omega] at h
 show imR (atI _ _) = _
 rw [h]; rfl
abbrev St (x : Int) : Prop := 0 <= x /\ x < 2147483399
theorem stE {a b : EF} {as : AS} {c : Int} {m : Nat} (hm : m <= 900) (ha : WE a as (.int c)) (hb : WE b as (.int m)) : ∃ xs : List Int, xs.length = m /\ (∀ x ∈ xs, St x) /\ WE (zN (aC a (aC b aN)) zO) as (.lst (xs.map D.int)) := by
 obtain ⟨xs, h1, h2, h3⟩ := zkA (s := true) (c := c) (m := m) (by omega) (by omega)
 exact ⟨xs, by omega, h2, Yp ha hb ⟨_, h3, (V9 xs).1, (V9 xs).2⟩⟩
theorem ziD : ∀ (b : Nat) (a : Int) (f : Nat), b < f -> 0 < a -> a < 1000 -> b < 1000 -> ∃ g e, 0 < g /\ g < 1000 /\ whL (fT (f2 zE yL (yf .Gt))) (zli 0 1 (dC zE (dC (f2 zB zE zH) dN))) f [sI a, sI b] = some (.nx [sI g, e]) := by
 intro b
 induction b using Nat.strongRecOn with
 | ind b ih =>
  intro a f hf ha ha2 hb2
  cases f with
  | zero => omega
  | succ f =>
   by_cases hb : b = 0
   · subst hb
     exact ⟨a, _, ha, ha2, zlR (zV (zbf (zb rfl) zc) rfl)⟩
   · have m0 := Int.emod_nonneg a (show (b : Int) ≠ 0 by omega)
     have m1 := Int.emod_lt_of_pos a (show (0 : Int) < b by omega)
     obtain ⟨g, e, g0, g1, hg⟩ := ih (a % b).toNat (by omega) b f (by omega) (by omega) (by omega) (by omega)
     rw [show (((a % b).toNat : Nat) : Int) = a % b by omega] at hg
     exact ⟨g, e, g0, g1, ziA (zV (zbf (zb rfl) zc) (congrArg some (decide_eq_true (show (0 : Int) < b by omega)))) (zqF (zu (zb rfl) (zu (yz (zb rfl) (zb rfl) (by omega)) yo)) (zG rfl) (zG rfl)) hg⟩
theorem zjg {n m : Nat} {s t : Bool} (hn : 0 < n) (hn2 : n <= 8) (hm : m <= 8) : ∃ g : Int, 0 < g /\ g < 1000 /\ Zd [(true, .int n), (true, .int m)] = sI g := by
 obtain ⟨g, e, g0, g1, hg⟩ := ziD m n 10000 (by omega) (by omega) (by omega) (by omega)
 exact ⟨g, g0, g1, ZJ rfl (yw hg (Za (zb rfl)))⟩
theorem strs_snoc : ∀ (os : List O) (o : O), O.strs os = true -> o.str = true -> O.strs (os ++ [o]) = true
 | [], o, _, h => by show (o.str && true) = true; rw [h]; rfl
 | p :: r, o, h, h' => by
  have h := (Bool.and_eq_true _ _).mp (show (p.str && O.strs r) = true from h)
  show (p.str && O.strs (r ++ [o])) = true
  rw [h.1, strs_snoc r o h.2 h']; rfl
theorem zfy : ∀ (os : List O) (o : O), O.toDs (os ++ [o]) = O.toDs os ++ [o.toD]
 | [], o => rfl
 | p :: r, o => congrArg (p.toD :: ·) (zfy r o)
structure Ows {α : Type} (toD : α -> D) (Q : α -> Prop) (os : List O) (l : List α) : Prop where
 st : O.strs os = true
 ds : O.toDs os = l.map toD
 al : ∀ a ∈ l, Q a
 ln : os.length = l.length
theorem Ows.nil {α : Type} {toD : α -> D} {Q : α -> Prop} : Ows toD Q [] [] := ⟨rfl, rfl, (λ _ m => nomatch m), rfl⟩
theorem Ows.snoc {α : Type} {toD : α -> D} {Q : α -> Prop} {os : List O} {l : List α} {o : O} {a : α} (h : Ows toD Q os l) (h1 : o.str = true) (h2 : o.toD = toD a) (h3 : Q a) : Ows toD Q (os ++ [o]) (l ++ [a]) :=
 ⟨strs_snoc os o h.st h1, (by rw [zfy, h.ds, h2, List.map_append]; rfl), (λ b m => (zzJ.mp m).elim (h.al b) λ m => (by rw [zzO.mp m]; exact h3)), (by rw [zzG, zzG, h.ln]; rfl)⟩
theorem zke {as as1 : AS} {a : EF} {i : Nat} {os0 os : List O} {o : O} (h : as[i]? = some (sN os0)) (ha : a as = some (.ow o, as1)) (h1 : as1[i]? = some (sN os)) (hl : os.length < sizeLine) : xO (wI i (dC a dN) wO) as = some (.nx (as1.set i (sN (os ++ [o])))) := by
 unfold xO wI; rw [h]
 have e : dC a dN as = some ([o], as1) := wg ha rfl
 show ((dC a dN as).bind _).bind _ = _
 rw [e]; show (Option.bind (match as1[i]? with | some (some (.nd .ls os)) => _ | _ => none) _) = _
 rw [h1]; show ((wO os [o]).bind _).bind _ = _
 have e2 : wO os [o] = some (os ++ [o], .lf true .non) := by unfold wO; exact if_pos hl
 rw [e2]; rfl
theorem zhC {α : Type} {toD : α -> D} {Q : α -> Prop} {as : AS} {a : EF} {i : Nat} {os : List O} {l : List α} {x : α} (h : as[i]? = some (sN os)) (ho : Ows toD Q os l) (hl : l.length < 1000) (ha : WE a as (toD x)) (hx : Q x) :
 ∃ os', Ows toD Q os' (l ++ [x]) /\ xO (wI i (dC a dN) wO) as = some (.nx (as.set i (sN os'))) := by
 obtain ⟨o, h1, h2, h3⟩ := ha
 exact ⟨os ++ [o], ho.snoc h2 h3 hx, zke h h1 h (by rw [ho.ln]; exact ZR (by omega))⟩
theorem Ows.retB {α : Type} {toD : α -> D} {Q : α -> Prop} {as : AS} {i : Nat} {os : List O} {l : List α} (h : as[i]? = some (sN os)) (ho : Ows toD Q os l) : Rt (xf (fV i) as) (.lst (l.map toD)) :=
 ⟨_, zjP h ho.st, ho.st, congrArg D.lst ho.ds⟩
theorem at2 {xs : List Int} (h : ∀ x ∈ xs, St x) {k : Int} (h0 : 0 <= k) (h1 : k < xs.length) : ∃ x, ixP (.lst (xs.map D.int)) (.int k) = some (.im (.int x)) /\ St x := Xh h0 h1 h
theorem vZ {x : Int} {n : Nat} (hn : 0 < n) : 0 <= x % n /\ x % n < (n : Int) := ⟨Int.emod_nonneg _ (by omega), Int.emod_lt_of_pos _ (by omega)⟩
theorem zoD {n m : Nat} {xs : List Int} (hn : 0 < n) (hn2 : n <= 8) (hm : m <= 8) (hl : xs.length = 9) (hx : ∀ x ∈ xs, St x) : ∃ T, Tab m n T /\ RE (YK [(true, .int n), (true, .int m), (true, .lst (xs.map D.int))]) (zT T) := by
 obtain ⟨g, g0, g1, hg⟩ := zjg (s := true) (t := true) (n := n) (m := m) hn hn2 hm
 obtain ⟨x0, a0, b0⟩ := at2 hx (k := 0) (by omega) (by omega)
 obtain ⟨x1, a1, b1⟩ := at2 hx (k := 1) (by omega) (by omega)
 have q0 : 0 <= (n : Int) / g := Int.ediv_nonneg (by omega) (by omega)
 have q1 : (n : Int) / g <= n := Int.ediv_le_self _ (by omega)
 generalize hst : (n : Int) / g = st at q0 q1
 have st4 : ∀ (os : List O) (c : Int), 0 <= c -> c < 8 -> ∃ l : List Int, l.length = n /\ (∀ x ∈ l, 0 <= x /\ x < (n : Int)) /\ WE (yc (xJ WP xG) [none, some 0, some 2, some 5, some 3] xm yV (f2 (f2 (f2 zB (f2 zR yL ixP) zY) (f2 (f2 yI yW zY) (f2 zR yq ixP) zY) zK) zE zH))
  [sI n, sI m, sT (.lst (xs.map D.int)), sI st, sN os, sI c] (.lst (l.map D.int)) := λ os c c0 c1 =>
  Zb D.int (n := n) (zJ (zb rfl) zQ) (by omega) λ b h0 h1 => by
   have cs : 0 <= c * st /\ c * st <= 64 := ⟨Int.mul_nonneg c0 q0, by have := Int.mul_le_mul (show c <= 8 by omega) (show st <= 8 by omega) q0 (by omega); omega⟩
   exact ⟨[sI b, sI n, sT (.lst (xs.map D.int)), sI c, sI st], _, rfl, WD.e (yz (xW (wX (zb rfl) (zM (zb rfl) zc a0 rfl) (yg (by omega) (by omega)) (yg (by omega) (by omega))) (wX (wX (zb rfl) (zb rfl) (yg (by omega) (by omega)) (yg (by omega) (by omega))) (zM (zb rfl) zc a1 rfl) (yg (by omega) (by omega)) (yg (by omega) (by omega)))) (zb rfl) (by omega)), vZ hn⟩
 obtain ⟨as', hf, os, l, e5, rfl, ho, hlen⟩ := wG (g := gN 5) (f := xO (wI 4 (dC (yc (xJ WP xG) [none, some 0, some 2, some 5, some 3] xm yV (f2 (f2 (f2 zB (f2 zR yL ixP) zY) (f2 (f2 yI yW zY) (f2 zR yq ixP) zY) zK) zE zH)) dN) wO))
  (λ i as => ∃ (os : List O) (l : TZ) (e5 : Option O), as = [sI n, sI m, sT (.lst (xs.map D.int)), sI st, sN os, e5] /\ Ows yj (Row n) os l /\ l.length = i)
  (vH 0 m) 0 [sI n, sI m, sT (.lst (xs.map D.int)), sI st, sN [], none] (λ i x as hx' hI => by
   obtain ⟨os, l, e5, rfl, ho, hlen⟩ := hI
   obtain ⟨rfl, hi⟩ := Yk hx'
   obtain ⟨r, r1, r2, r3⟩ := st4 os (0 + i) (by omega) (by omega)
   obtain ⟨os', o1, o2⟩ := zhC (x := r) (i := 4) (toD := yj) (Q := Row n) rfl ho (by omega) r3 ⟨r1, r2⟩
   exact ⟨[sI n, sI m, sT (.lst (xs.map D.int)), sI st, sN os, sI (0 + i)], rfl, _, o2, os', l ++ [r], _, rfl, o1, by rw [zzG, hlen]; show 0 + i + 1 = _; omega⟩)
  ⟨[], [], none, rfl, Ows.nil, rfl⟩
 rw [wY] at hlen
 refine ⟨l, ⟨by omega, ho.al⟩, xT rfl (zq (as1 := [sI n, sI m, sT (.lst (xs.map D.int)), sI st, none, none]) ?_ (zq (wy (i := 4) (vO yo (szl rfl)) (zG rfl)) (zq (wD (vR (zJ (zb rfl) zQ) (by omega) (by omega)) hf) (Ows.retB (i := 4) rfl ho))))⟩
 have := xr (st := true) (i := 3) (as := [sI n, sI m, sT (.lst (xs.map D.int)), none, none, none]) (v8 (zb (i := 0) rfl) (Ws (zJ (zb (i := 0) rfl) (zJ (zb (i := 1) rfl) zQ)) hg) g0 (yg (by omega) (by omega))) (zG rfl)
 rw [hst] at this
 exact this
theorem zpa {fr : AF} {as : AS} {rs : List (Bool × D)} {g : List D -> Option R0} {zs : List D} (ha : WA fr as rs) (hg : g (rs.map (·.2)) = some (.fl zs)) : fP fr g as = some (.ow (.nd .ls (zs.map (lfs (rs.all (·.1))))), as) := by
 unfold fP; unfold WA at ha
 rw [ha]; show (views as _).bind _ = _
 rw [Xv]; show (g _).bind _ = _
 rw [hg]
 show (if (zs.all yu || (some (rs.all (·.1))).isSome) = true then _ else _ : Option RV).bind _ = _
 rw [if_pos (by simp)]; rfl
theorem ziP {a : EF} {as : AS} {x : D} {g : List D -> Option R0} {zs : List D} (ha : WE a as x) (hg : g [x] = some (.fl zs)) : fP (aC a aN) g as = some (.ow (.nd .ls (zs.map (O.lf true))), as) := by
 have := zpa (g := g) (Yr ha (zQ (as := as))) hg
 rw [show ([(true, x)].all (·.1)) = true from rfl, XX] at this
 exact this
theorem zoZ {a : EF} {as : AS} {s : Bool} {r : List Int} (h : WD a as s (.lst (r.map D.int))) : fP (aC a aN) lstP as = some (.ow (Ym r), as) := by
 have := zpa (g := lstP) (zJ h (zQ (as := as))) rfl
 rw [List.map_map] at this
 exact this
theorem zpd {a : EF} {as : AS} {s : Bool} {r : List Int} (h : WD a as s (.lst (r.map D.int))) : WE (fP (aC a aN) lstP) as (yj r) := ⟨_, zoZ h, (V9 r).1, (V9 r).2⟩
theorem zpy {a b c d : EF} {as : AS} {x y z u w : D} {g : List (Bool × D) -> Option O} (ha : WE a as x) (hb : WE b as y) (hc : WE c as z) (hd : WE d as u) (hg : RE (g [(true, x), (true, y), (true, z), (true, u)]) w) : WE (zN (aC a (aC b (aC c (aC d aN)))) g) as w := by
 obtain ⟨o, h1, h2⟩ := hg
 exact ⟨o, XQ (Yr ha (Yr hb (Yr hc (Yr hd zQ)))) (by show g [(yu x || true, x), (yu y || true, y), (yu z || true, z), (yu u || true, u)] = _; rw [Bool.or_true, Bool.or_true, Bool.or_true, Bool.or_true]; exact h1), h2⟩
theorem ziK {a b c d e : EF} {as : AS} {x y z u v w : D} {g : List (Bool × D) -> Option O} (ha : WE a as x) (hb : WE b as y) (hc : WE c as z) (hd : WE d as u) (he : WE e as v) (hg : RE (g [(true, x), (true, y), (true, z), (true, u), (true, v)]) w) : WE (zN (aC a (aC b (aC c (aC d (aC e aN))))) g) as w := by
 obtain ⟨o, h1, h2⟩ := hg
 exact ⟨o, XQ (Yr ha (Yr hb (Yr hc (Yr hd (Yr he zQ))))) (by show g [(yu x || true, x), (yu y || true, y), (yu z || true, z), (yu u || true, u), (yu v || true, v)] = _; rw [Bool.or_true, Bool.or_true, Bool.or_true, Bool.or_true, Bool.or_true]; exact h1), h2⟩
theorem zhL {fr : DF} {as : AS} {os : List O} {x : D} (h : WO fr as os) (hl : os.length <= sizeLine) (hs : O.strs os = true) (e : D.tup (O.toDs os) = x) : WE (yN fr) as x := by
 refine ⟨_, zdE h hl, ?_, ?_⟩
 · unfold Y4
   split
   · exact hs
   · exact hs
 · unfold Y4
   split
   · exact e
   · exact e
theorem ints_of : ∀ l : List Int, WF (l.map D.int) = some l
 | [] => rfl
 | x :: r => by
  show (WF (r.map D.int)).bind _ = _
  rw [ints_of r]; rfl
theorem copies {n m : Nat} {fr : AF} {cap : List (Option Nat)} {as : AS} {u s : Bool} {r : List Int} (hr : Row n r) (hm : m <= 8) (h1 : WA fr as [(u, .int m)]) (h2 : ∀ b : Int, ∃ as1, gN 0 (true, .int b) (YM cap as) = some as1 /\ WD zE as1 s (.lst (r.map D.int))) :
 ∃ T, Tab m n T /\ WE (yc (xJ fr xG) cap xm yV (fP Zm lstP)) as (zT T) := by
 obtain ⟨l, a1, a2, a3⟩ := Zb yj (Q := Row n) (n := m) (cap := cap) (fe := fP Zm lstP) h1 (by omega) λ b _ _ => by
  obtain ⟨as1, g1, g2⟩ := h2 b
  exact ⟨as1, r, g1, zpd g2, hr⟩
 exact ⟨l, ⟨a1, a2⟩, a3⟩
theorem zkE {n m : Nat} {xs : List Int} (hn : 0 < n) (hn2 : n <= 8) (hm : m <= 8) (hl : xs.length = 9) (hx : ∀ x ∈ xs, St x) : ∃ T, Tab m n T /\ RE (ZC [(true, .int n), (true, .int m), (true, .lst (xs.map D.int))]) (zT T) := by
 obtain ⟨l, l1, l2, l3⟩ := Zb (as := [sI n, sI m, sT (.lst (xs.map D.int)), none]) (u := true) D.int (Q := λ x => 0 <= x /\ x < (n : Int)) (n := n - 1) (cap := [none, some 0, some 2]) (fr := aC (f2 zB yq Xy) aN) (fe := f2 (f2 zR zB ixP) zE zH)
  (by rw [show (((n - 1 : Nat) : Nat) : Int) = (n : Int) - 1 by omega]; exact zJ (ziX (zb rfl) zc) zQ) (by omega) (λ b h0 h1 => by
   obtain ⟨x, hx1, hx2⟩ := at2 hx (k := b) h0 (by omega)
   exact ⟨[sI b, sI n, sT (.lst (xs.map D.int))], _, rfl, WD.e (yz (zM (zb rfl) (zb rfl) hx1 rfl) (zb rfl) (by omega)), vZ hn⟩)
 have w0 : WE (f2 (xN (dC yL dN)) (yc (xJ (aC (f2 zB yq Xy) aN) xG) [none, some 0, some 2] xm yV (f2 (f2 zR zB ixP) zE zH)) zK) [sI n, sI m, sT (.lst (xs.map D.int)), none] (.lst ((0 :: l).map D.int)) :=
  zms (vg (os := [lfI 0]) (zu zc yo) (szl rfl) rfl rfl) l3 (add_lists (by rw [zD]; exact szs (by show 1 + _ <= _; omega)))
 have hp := sortI_perm (0 :: l)
 have hlen : (sortI (0 :: l)).length = n := by rw [hp.length_eq, zzQ]; omega
 have hr : Row n ((sortI (0 :: l)).set 0 0) := by
  refine ⟨by rw [zzR]; exact hlen, λ x m => ?_⟩
  rcases List.mem_or_eq_of_mem_set m with m | rfl
  · rcases zI.mp (hp.mem_iff.mp m) with rfl | m
    · omega
    · exact l2 x m
  · omega
 have s3 := wy (i := 3) (ziP (g := zmz) w0 (by
  show (WF ((0 :: l).map D.int)).bind _ = _
  rw [ints_of]
  show (if (0 :: l).length < 64 then _ else _) = _
  rw [if_pos (by rw [zzQ]; omega)])) (zG rfl)
 rw [zgG] at s3
 have s4 : zlT 3 (xC 0) (xC 0) [sI n, sI m, sT (.lst (xs.map D.int)), sN ((sortI (0 :: l)).map lfI)] = some (.nx [sI n, sI m, sT (.lst (xs.map D.int)), sN (((sortI (0 :: l)).set 0 0).map lfI)]) := by
  cases hs : sortI (0 :: l) with
  | nil => rw [hs] at hlen; simp at hlen; omega
  | cons y t => rfl
 obtain ⟨T, t1, t2⟩ := copies (n := n) (m := m) (s := false) (u := true) (cap := [none, some 3]) (as := [sI n, sI m, sT (.lst (xs.map D.int)), sN (((sortI (0 :: l)).set 0 0).map lfI)]) (fr := aC zE aN) hr hm (zJ (zb rfl) zQ) (λ b => ⟨[sI b, some (.lf false (.lst (O.toDs (((sortI (0 :: l)).set 0 0).map lfI))))], rfl, by rw [(vq _).2.2]; exact zb rfl⟩)
 exact ⟨T, t1, xT rfl (zq s3 (zq s4 (wj t2)))⟩
theorem zjC {n m : Nat} {xs : List Int} (hn : 2 <= n) (hn2 : n <= 8) (hm : m <= 8) (hl : xs.length = 9) (hx : ∀ x ∈ xs, St x) : ∃ T, Tab m n T /\ RE (YT [(true, .int n), (true, .int m), (true, .lst (xs.map D.int))]) (zT T) := by
 obtain ⟨l, l1, l2, l3⟩ := Zb (as := [sI n, sI m, sT (.lst (xs.map D.int)), none]) (u := true) D.int (Q := λ x => 0 <= x /\ x < (n : Int)) (n := n - 1) (cap := [none, some 2, some 0]) (fr := aC (f2 zB yq Xy) aN) (fe := f2 yq (f2 (f2 zE zB ixP) (f2 zR yq Xy) zH) zK)
  (by rw [show (((n - 1 : Nat) : Nat) : Int) = (n : Int) - 1 by omega]; exact zJ (ziX (zb rfl) zc) zQ) (by omega) (λ b h0 h1 => by
   obtain ⟨x, hx1, hx2⟩ := at2 hx (k := b) h0 (by omega)
   have m0 := Int.emod_nonneg x (show (n : Int) - 1 ≠ 0 by omega)
   have m1 := Int.emod_lt_of_pos x (show (0 : Int) < (n : Int) - 1 by omega)
   exact ⟨[sI b, sT (.lst (xs.map D.int)), sI n], _, rfl, WD.e (xW zc (yz (zM (zb rfl) (zb rfl) hx1 rfl) (ziX (zb rfl) zc) (by omega))), by omega, by omega⟩)
 have w0 : WE (f2 (xN (dC yL dN)) (yc (xJ (aC (f2 zB yq Xy) aN) xG) [none, some 2, some 0] xm yV (f2 yq (f2 (f2 zE zB ixP) (f2 zR yq Xy) zH) zK)) zK) [sI n, sI m, sT (.lst (xs.map D.int)), none] (.lst ((0 :: l).map D.int)) :=
  zms (vg (os := [lfI 0]) (zu zc yo) (szl rfl) rfl rfl) l3 (add_lists (by rw [zD]; exact szs (by show 1 + _ <= _; omega)))
 have hr : Row n (0 :: l) := ⟨by rw [zzQ]; omega, λ x m => by
  rcases zI.mp m with rfl | m
  · omega
  · exact l2 x m⟩
 obtain ⟨T, t1, t2⟩ := copies (n := n) (m := m) (s := true) (u := true) (cap := [none, some 3]) (as := [sI n, sI m, sT (.lst (xs.map D.int)), sT (.lst ((0 :: l).map D.int))]) (fr := aC zE aN) hr hm (zJ (zb rfl) zQ) (λ b => ⟨[sI b, sT (.lst ((0 :: l).map D.int))], rfl, zb rfl⟩)
 exact ⟨T, t1, xT rfl (zq (Zg (p := 3) w0 (zG rfl)) (wj t2))⟩
def KN (k : Int) (n : Nat) : Prop := (k = 0 /\ 1 <= n) \/ (k = 1 /\ 1 <= n) \/ (k = 2 /\ 2 <= n) \/ (k = 3 /\ 2 <= n) \/ (k = 4 /\ n = 4)
theorem zoV {x y : Int} {c : Bool} : ixP (.lst [.int x, .int y]) (.int (if c = true then 1 else 0)) = some (.im (.int (if c = true then y else x))) := by cases c <;> rfl
theorem zox {as : AS} {n : Nat} {cap cap2 : List (Option Nat)} {fr : AF} {u : Bool} {fe : EF} (hn2 : n <= 8) (h1 : WA fr as [(true, .int n)]) (H : ∀ a : Int, 0 <= a -> a < n -> ∃ as1, gN 0 (true, .int a) (YM cap as) = some as1 /\ WA Zm as1 [(true, .int n)] /\ ∀ b : Int, 0 <= b -> b < n -> ∃ as2 x, gN 0 (true, .int b) (YM cap2 as1) = some as2 /\ WD fe as2 true (.int x) /\ 0 <= x /\ x < (n : Int)) :
 ∃ T, Tab n n T /\ WE (yc (xJ fr xG) cap xm yV (yc (xJ Zm xG) cap2 xm yV fe)) as (zT T) := by
 obtain ⟨T, a1, a2, a3⟩ := Zb yj (Q := Row n) (n := n) (cap := cap) (fe := yc (xJ Zm xG) cap2 xm yV fe) h1 (by omega) λ a h0 h1 => by
  obtain ⟨as1, g1, g2, g3⟩ := H a h0 h1
  obtain ⟨r, b1, b2, b3⟩ := Zb D.int (Q := λ x => 0 <= x /\ x < (n : Int)) (n := n) (cap := cap2) (fe := fe) g2 (by omega) λ b h0 h1 => by
   obtain ⟨as2, x, c1, c2, c3⟩ := g3 b h0 h1
   exact ⟨as2, x, c1, WD.e c2, c3⟩
  exact ⟨as1, r, g1, b3, b1, b2⟩
 exact ⟨T, ⟨a1, a2⟩, a3⟩
abbrev zcW : List D := [.tup [.int 0, .int 1], .tup [.int 1, .int 0], .tup [.int 0, .int 0], .tup [.int 1, .int 1]]
theorem zhI {y : It1} (m : y ∈ zcW.map λ d => (true, d)) : ∃ p q : Int, y = (true, .tup [.int p, .int q]) /\ (p = 0 \/ p = 1) /\ (q = 0 \/ q = 1) := by
 simp only [List.map_cons, List.map_nil, zI, List.not_mem_nil, or_false] at m
 rcases m with rfl | rfl | rfl | rfl
 · exact ⟨0, 1, rfl, .inl rfl, .inr rfl⟩
 · exact ⟨1, 0, rfl, .inr rfl, .inl rfl⟩
 · exact ⟨0, 0, rfl, .inl rfl, .inl rfl⟩
 · exact ⟨1, 1, rfl, .inr rfl, .inr rfl⟩
theorem zmy {u v : Int} (hu : u = 0 \/ u = 1) (hv : v = 0 \/ v = 1) : ∃ j : Int, 0 <= j /\ j < 4 /\ Vz (.lst zcW) [.tup [.int u, .int v]] = some (.im (.int j)) := by
 rcases hu with rfl | rfl <;> rcases hv with rfl | rfl
 · exact ⟨2, by decide, by decide, rfl⟩
 · exact ⟨0, by decide, by decide, rfl⟩
 · exact ⟨1, by decide, by decide, rfl⟩
 · exact ⟨3, by decide, by decide, rfl⟩
theorem zjX {p q k : Int} (hp : p = 0 \/ p = 1) (hq : q = 0 \/ q = 1) (hk : k = 0 \/ k = 1) : ∃ u : Int, (u = 0 \/ u = 1) /\ ixP (.tup [.int p, .int q]) (.int k) = some (.im (.int u)) := by
 rcases hk with rfl | rfl
 · exact ⟨p, hp, rfl⟩
 · exact ⟨q, hq, rfl⟩
theorem zqk : ∃ T, Tab 4 4 T /\ RE (Zt [(true, .int 4), (true, .int (4 : Nat))]) (zT T) := by
 obtain ⟨T, t1, t2, t3⟩ := Wr (as := [sI 4, sI (4 : Nat), sT (.lst zcW)]) yj (Q := Row 4) (cap := [none, some 2]) (g := gN 0) (fe := yc (Yg zE) [none, some 1, some 0] xm yV (WL .lst zE (aC (yN (dC (f2 zB (f2 zR yL ixP) ixP) (dC (f2 zB (f2 zR yq ixP) ixP) dN))) aN) Vz)) (zbw (f := fV 2) (WD.e (zb rfl))) (by rw [zD]; show 4 <= 1000; decide) λ y m => by
  obtain ⟨p, q, rfl, hp, hq⟩ := zhI m
  obtain ⟨r, r1, r2, r3⟩ := Wr (as := [sT (.tup [.int p, .int q]), sT (.lst zcW)]) D.int (Q := λ x => 0 <= x /\ x < ((4 : Nat) : Int)) (cap := [none, some 1, some 0]) (g := gN 0) (fe := WL .lst zE (aC (yN (dC (f2 zB (f2 zR yL ixP) ixP) (dC (f2 zB (f2 zR yq ixP) ixP) dN))) aN) Vz) (zbw (f := fV 1) (WD.e (zb rfl))) (by rw [zD]; show 4 <= 1000; decide) λ y m => by
   obtain ⟨p', q', rfl, hp', hq'⟩ := zhI m
   obtain ⟨u, hu, eu⟩ := zjX hp' hq' hp
   obtain ⟨v, hv, ev⟩ := zjX hp' hq' hq
   obtain ⟨j, j0, j1, ej⟩ := zmy hu hv
   exact ⟨[sT (.tup [.int p', .int q']), sT (.lst zcW), sT (.tup [.int p, .int q])], j, rfl, WD.e (zgn (zb rfl) rfl (zJ (zaq (os := [lfI u, lfI v]) (zu (zM (zb rfl) (zM (zb rfl) zc rfl rfl) eu rfl) (zu (zM (zb rfl) (zM (zb rfl) zc rfl rfl) ev rfl) yo)) (szl rfl) rfl) zQ) ej rfl), j0, j1⟩
  rw [zD] at r1
  exact ⟨[sT (.tup [.int p, .int q]), sT (.lst zcW)], r, rfl, r3, r1, r2⟩
 rw [zD] at t1
 refine ⟨T, ⟨t1, t2⟩, xT rfl (zq (ym (zV (yD (zb rfl) zc rfl) rfl) rfl) (zq (ym (zV (yD (zb rfl) zc rfl) rfl) rfl) (zq (ym (zV (yD (zb rfl) zc rfl) rfl) rfl) (zq (ym (zV (yD (zb rfl) zc rfl) rfl) rfl) (zq (Zg (p := 2) (x := .lst zcW) (vg (os := zcW.map (O.lf true)) ?_ (szl rfl) rfl rfl) (zG rfl)) (wj t3))))))⟩
 exact zu (zaq (os := [lfI 0, lfI 1]) (zu zc (zu zc yo)) (szl rfl) rfl) (zu (zaq (os := [lfI 1, lfI 0]) (zu zc (zu zc yo)) (szl rfl) rfl) (zu (zaq (os := [lfI 0, lfI 0]) (zu zc (zu zc yo)) (szl rfl) rfl) (zu (zaq (os := [lfI 1, lfI 1]) (zu zc (zu zc yo)) (szl rfl) rfl) yo)))
theorem zmn {k : Int} {n : Nat} (h : KN k n) (hn2 : n <= 8) : ∃ T, Tab n n T /\ RE (Zt [(true, .int k), (true, .int n)]) (zT T) := by
 rcases h with ⟨rfl, hn⟩ | ⟨rfl, hn⟩ | ⟨rfl, hn⟩ | ⟨rfl, hn⟩ | ⟨rfl, rfl⟩
 · obtain ⟨T, t1, t2⟩ := zox (as := [sI 0, sI n, none]) (n := n) (u := true) (cap := [none, some 1]) (cap2 := [none, some 1, some 0]) (fr := aC zE aN) (fe := f2 (f2 zR zB zK) zE zH) hn2 (zJ (zb rfl) zQ) λ a _ _ => ⟨[sI a, sI n], rfl, zJ (zb rfl) zQ, λ b _ _ => ⟨[sI b, sI n, sI a], _, rfl, yz (xW (zb rfl) (zb rfl)) (zb rfl) (by omega), vZ hn⟩⟩
   exact ⟨T, t1, xT rfl (vI (ZQ (zV (yD (zb rfl) zc rfl) rfl) (wj t2)))⟩
 · obtain ⟨T, t1, t2⟩ := zox (as := [sI 1, sI n, none]) (n := n) (u := true) (cap := [none, some 1]) (cap2 := [none, some 0]) (fr := aC zE aN) (fe := fP (aC zE WP) zpn) hn2 (zJ (zb rfl) zQ) λ a a0 a1 => ⟨[sI a, sI n], rfl, zJ (zb rfl) zQ, λ b b0 b1 => ⟨[sI b, sI a], if b > a then b else a, rfl, vP (zJ (zb rfl) (zJ (zb rfl) zQ)) rfl rfl, by split <;> omega, by split <;> omega⟩⟩
   exact ⟨T, t1, xT rfl (zq (ym (zV (yD (zb rfl) zc rfl) rfl) rfl) (vI (ZQ (zV (yD (zb rfl) zc rfl) rfl) (wj t2))))⟩
 · obtain ⟨T, t1, t2⟩ := zox (as := [sI 2, sI n, none]) (n := n) (u := true) (cap := [none, some 1]) (cap2 := [none, some 0]) (fr := aC zE aN) (fe := f2 (xN (dC zB (dC zE dN))) (fP (aC (f2 zB yL (yf .Eq)) aN) zhZ) ixP) hn2 (zJ (zb rfl) zQ) λ a a0 a1 => ⟨[sI a, sI n], rfl, zJ (zb rfl) zQ, λ b b0 b1 => ⟨[sI b, sI a], _, rfl, f2E (vg (os := [lfI b, lfI a]) (zu (zb rfl) (zu (zb rfl) yo)) (szl rfl) rfl rfl) (WD.e (vP (zJ (yD (zb rfl) zc rfl) zQ) rfl rfl)) zoV, by split <;> omega, by split <;> omega⟩⟩
   exact ⟨T, t1, xT rfl (zq (ym (zV (yD (zb rfl) zc rfl) rfl) rfl) (zq (ym (zV (yD (zb rfl) zc rfl) rfl) rfl) (vI (ZQ (zV (yD (zb rfl) zc rfl) rfl) (wj t2)))))⟩
 · obtain ⟨T, t1, t2⟩ := zox (as := [sI 3, sI n, none]) (n := n) (u := true) (cap := [none, some 1]) (cap2 := [none, some 0]) (fr := aC zE aN) (fe := f2 (xN (dC zE (dC zB dN))) (fP (aC (f2 zE yL (yf .Eq)) aN) zhZ) ixP) hn2 (zJ (zb rfl) zQ) λ a a0 a1 => ⟨[sI a, sI n], rfl, zJ (zb rfl) zQ, λ b b0 b1 => ⟨[sI b, sI a], _, rfl, f2E (vg (os := [lfI a, lfI b]) (zu (zb rfl) (zu (zb rfl) yo)) (szl rfl) rfl rfl) (WD.e (vP (zJ (yD (zb rfl) zc rfl) zQ) rfl rfl)) zoV, by split <;> omega, by split <;> omega⟩⟩
   exact ⟨T, t1, xT rfl (zq (ym (zV (yD (zb rfl) zc rfl) rfl) rfl) (zq (ym (zV (yD (zb rfl) zc rfl) rfl) rfl) (zq (ym (zV (yD (zb rfl) zc rfl) rfl) rfl) (vI (ZQ (zV (yD (zb rfl) zc rfl) rfl) (wj t2))))))⟩
 · exact zqk
theorem znF {k : Int} {n m : Nat} {xs : List Int} (h : KN k n) (hn2 : n <= 8) (hm : m <= 8) (hl : xs.length = 9) (hx : ∀ x ∈ xs, St x) : ∃ T, Tab m n T /\ RE (ZX [(true, .int k), (true, .int n), (true, .int m), (true, .lst (xs.map D.int))]) (zT T) := by
 rcases h with ⟨rfl, hn⟩ | ⟨rfl, hn⟩ | ⟨rfl, hn⟩ | ⟨rfl, hn⟩ | ⟨rfl, rfl⟩
 · obtain ⟨T, t1, t2⟩ := zoD (m := m) (xs := xs) hn hn2 hm hl hx
   exact ⟨T, t1, xT rfl (vI (ZQ (zV (yD (zb rfl) zc rfl) rfl) (wj (Z0 (WD.e (zb rfl)) (WD.e (zb rfl)) (WD.e (zb rfl)) t2))))⟩
 · obtain ⟨T, t1, t2⟩ := zkE (m := m) (xs := xs) hn hn2 hm hl hx
   exact ⟨T, t1, xT rfl (zq (ym (zV (yD (zb rfl) zc rfl) rfl) rfl) (vI (ZQ (zV (yD (zb rfl) zc rfl) rfl) (wj (Z0 (WD.e (zb rfl)) (WD.e (zb rfl)) (WD.e (zb rfl)) t2)))))⟩
 · obtain ⟨T, t1, t2⟩ := zjC (m := m) (xs := xs) hn hn2 hm hl hx
   exact ⟨T, t1, xT rfl (zq (ym (zV (yD (zb rfl) zc rfl) rfl) rfl) (zq (ym (zV (yD (zb rfl) zc rfl) rfl) rfl) (vI (ZQ (zV (zfI (zb rfl) zc) rfl) (wj (Z0 (WD.e (zb rfl)) (WD.e (zb rfl)) (WD.e (zb rfl)) t2))))))⟩
 · obtain ⟨T, t1, t2⟩ := zjC (m := m) (xs := xs) hn hn2 hm hl hx
   exact ⟨T, t1, xT rfl (zq (ym (zV (yD (zb rfl) zc rfl) rfl) rfl) (zq (ym (zV (yD (zb rfl) zc rfl) rfl) rfl) (vI (ZQ (zV (zfI (zb rfl) zc) rfl) (wj (Z0 (WD.e (zb rfl)) (WD.e (zb rfl)) (WD.e (zb rfl)) t2))))))⟩
 · obtain ⟨x0, a0, b0⟩ := at2 hx (k := 0) (by omega) (by omega)
   have hp : ∃ r : List Int, Row 4 r /\ ixP (.lst [yj [0, 1, 2, 3], yj [0, 1, 3, 2]]) (.int (x0 % 2)) = some (.im (yj r)) := by
    rcases (show x0 % 2 = 0 \/ x0 % 2 = 1 by omega) with e | e <;> rw [e]
    · exact ⟨[0, 1, 2, 3], ⟨rfl, by decide⟩, rfl⟩
    · exact ⟨[0, 1, 3, 2], ⟨rfl, by decide⟩, rfl⟩
   obtain ⟨r, r1, r2⟩ := hp
   obtain ⟨T, c1, c2, c3⟩ := Zb (as := [sI 4, sI (4 : Nat), sI m, sT (.lst (xs.map D.int))]) (u := true) yj (Q := Row 4) (n := m) (cap := [none, some 3]) (fr := aC zR aN) (fe := f2 (xN (dC (xN (dC yL (dC yq (dC xg (dC Zr dN))))) (dC (xN (dC yL (dC yq (dC Zr (dC xg dN))))) dN))) (f2 (f2 zE yL ixP) xg zH) ixP) (zJ (zb rfl) zQ) (by omega) λ b _ _ =>
    ⟨[sI b, sT (.lst (xs.map D.int))], r, rfl, WD.e (f2E (vg (ZS (vO (zu zc (zu zc (zu zc (zu zc yo)))) (szl rfl)) (ZS (vO (zu zc (zu zc (zu zc (zu zc yo)))) (szl rfl)) yo)) (szl rfl) rfl rfl) (WD.e (yz (zM (zb rfl) zc a0 rfl) zc (by decide))) r2), r1⟩
   exact ⟨T, ⟨c1, c2⟩, xT rfl (zq (ym (zV (yD (zb rfl) zc rfl) rfl) rfl) (zq (ym (zV (yD (zb rfl) zc rfl) rfl) rfl) (zq (ym (zV (zfI (zb rfl) zc) rfl) rfl) (wj c3))))⟩
abbrev plD (n : Nat) (J : TZ) (Ds : List TZ) : D := .tup [.int n, zT J, .lst (Ds.map zT)]
theorem zdB {k c : Int} {n m w : Nat} (h : KN k n) (hn2 : n <= 8) (hm : m <= 8) (hw : w <= 8) : ∃ J Ds, Tab n n J /\ Ds.length = w /\ (∀ T ∈ Ds, Tab m n T) /\ RE (wA [(true, .int k), (true, .int n), (true, .int m), (true, .int w), (true, .int c)]) (plD n J Ds) := by
 obtain ⟨J, j1, oj, j2, j3, j4⟩ := zmn h hn2
 obtain ⟨Ds, d1, d2, d3⟩ := Zb (as := [sI k, sI n, sI m, sI w, sI c, none]) (u := true) zT (Q := Tab m n) (n := w) (cap := [none, some 0, some 1, some 2, some 4]) (fr := aC yI aN) (fe := zN (aC zE (aC zR (aC yI (aC (zN (aC (f2 yW (f2 (fC (.int 31)) zB zY) zK) (aC (fC (.int 9)) aN)) zO) aN)))) ZX) (zJ (zb rfl) zQ) (by omega) λ b b0 b1 => by
  obtain ⟨xs, x1, x2, x3⟩ := stE (as := [sI b, sI k, sI n, sI m, sI c]) (a := f2 yW (f2 (fC (.int 31)) zB zY) zK) (b := fC (.int 9)) (m := 9) (by omega) (WD.e (xW (zb rfl) (wX zc (zb rfl) (yg (by decide) (by decide)) (yg (by omega) (by omega))))) (WD.e zc)
  obtain ⟨T, t1, t2⟩ := znF h hn2 hm x1 x2
  exact ⟨[sI b, sI k, sI n, sI m, sI c], T, rfl, zpy (WD.e (zb rfl)) (WD.e (zb rfl)) (WD.e (zb rfl)) x3 t2, t1⟩
 refine ⟨J, Ds, j1, d1, d2, xT rfl (zq (Zg (p := 5) d3 (zG rfl)) (wj (zhL (os := [lfI n, oj, .lf true (.lst (Ds.map zT))]) (zu (zb rfl) (ZS (XQ (zJ (zb rfl) (zJ (zb rfl) zQ)) j2) (zu (zb rfl) yo))) (szl rfl) ?_ ?_)))⟩
 · show (true && (oj.str && (true && true))) = true
   rw [j3]; rfl
 · show D.tup [.int n, oj.toD, .lst (Ds.map zT)] = _
   rw [j4]
theorem mix {x y a b : Int} (hx : 0 <= x /\ x < a) (hy : 0 <= y /\ y < b) : 0 <= x * b + y /\ x * b + y < a * b := by
 have h1 : 0 <= x * b := Int.mul_nonneg hx.1 (by omega)
 have h2 : x * b <= (a - 1) * b := Int.mul_le_mul_of_nonneg_right (by omega) (by omega)
 rw [Int.sub_mul, Int.one_mul] at h2
 omega
theorem zlr {p a b : Int} (hp : 0 <= p) (h : p < a * b) (hb : 0 < b) : (0 <= p / b /\ p / b < a) /\ 0 <= p % b /\ p % b < b :=
 ⟨⟨Int.ediv_nonneg hp (by omega), Int.ediv_lt_of_lt_mul hb h⟩, Int.emod_nonneg _ (by omega), Int.emod_lt_of_pos _ hb⟩
theorem zkc {as : AS} {i j : Nat} {os ps : List O} (hij : i ≠ j) (h : as[i]? = some (sN os)) (hj : as[j]? = some (sN ps)) (hl : os.length < sizeLine) :
 xO (wI i (dC (fV j) dN) wO) as = some (.nx ((as.set j (some (O.nd .ls ps).frz)).set i (sN (os ++ [(O.nd .ls ps).frz])))) := by
 have e : dC (fV j) dN as = some ([(O.nd .ls ps).frz], as.set j (some (O.nd .ls ps).frz)) := by
  unfold dC
  rw [zbu hj]
  show ((toO as (.bo j)).bind _) = _
  rw [zlz hj]; rfl
 unfold xO wI; rw [h]
 show ((dC (fV j) dN as).bind _).bind _ = _
 rw [e]; show (Option.bind (match (as.set j (some (O.nd .ls ps).frz))[i]? with | some (some (.nd .ls os)) => _ | _ => none) _) = _
 rw [zzV (Ne.symm hij), h]; show ((wO os [(O.nd .ls ps).frz]).bind _).bind _ = _
 have e2 : wO os [(O.nd .ls ps).frz] = some (os ++ [(O.nd .ls ps).frz], .lf true .non) := by unfold wO; exact if_pos hl
 rw [e2]; rfl
theorem Ows.frz {α : Type} {toD : α -> D} {Q : α -> Prop} {os : List O} {l : List α} (h : Ows toD Q os l) : (O.nd .ls os).frz = .lf true (.lst (l.map toD)) := by
 show O.lf (O.strs os) (.lst (O.toDs os)) = _
 rw [h.st, h.ds]
section
variable {n1 n2 m : Nat} {J1 J2 : TZ} {D1 D2 : List TZ}
theorem zme (h1 : 0 < n1) (h2 : 0 < n2) (hn : n1 * n2 <= 8) (j1 : Tab n1 n1 J1) (j2 : Tab n2 n2 J2) :
 ∃ os l e6 e7 e8, Ows yj (Row (n1 * n2)) os l /\ l.length = n1 * n2 /\ forL (gN 6) (zL (zW true 7 (f2 (f2 zB yq ixP) (f2 Zc yW zU) ixP))
 (zL (zW true 8 (f2 (f2 zE yq ixP) (f2 Zc yW zH) ixP))
 (xO (wI 5 (dC (yc (xJ Xo xG) [none, some 4, some 8, some 7] xm yV (f2 (f2 (f2 yI (f2 zB zE zU) ixP) zE zY) (f2 zR (f2 zB zE zH) ixP) zK)) dN) wO))))
  (vH 0 (n1 * n2)) [sT (plD n1 J1 D1), sT (plD n2 J2 D2), sI m, sI ((n1 * n2 : Nat) : Int), sI n2, sN [], none, none, none, none, none, none, none, none]
  = some (.nx [sT (plD n1 J1 D1), sT (plD n2 J2 D2), sI m, sI ((n1 * n2 : Nat) : Int), sI n2, sN os, e6, e7, e8, none, none, none, none, none]) := by
 have hn2 : n2 <= 8 := zzL (Nat.le_mul_of_pos_left n2 h1) hn
 obtain ⟨as', hf, os, l, e6, e7, e8, rfl, ho, hlen⟩ := wG (g := gN 6) (f := (zL (zW true 7 (f2 (f2 zB yq ixP) (f2 Zc yW zU) ixP))
  (zL (zW true 8 (f2 (f2 zE yq ixP) (f2 Zc yW zH) ixP))
  (xO (wI 5 (dC (yc (xJ Xo xG) [none, some 4, some 8, some 7] xm yV (f2 (f2 (f2 yI (f2 zB zE zU) ixP) zE zY) (f2 zR (f2 zB zE zH) ixP) zK)) dN) wO)))))
  (λ i as => ∃ (os : List O) (l : TZ) (e6 e7 e8 : Option O), as = [sT (plD n1 J1 D1), sT (plD n2 J2 D2), sI m, sI ((n1 * n2 : Nat) : Int), sI n2, sN os, e6, e7, e8, none, none, none, none, none] /\ Ows yj (Row (n1 * n2)) os l /\ l.length = i)
  (vH 0 (n1 * n2)) 0 [sT (plD n1 J1 D1), sT (plD n2 J2 D2), sI m, sI ((n1 * n2 : Nat) : Int), sI n2, sN [], none, none, none, none, none, none, none, none] (λ i x as hx' hI => by
   obtain ⟨os, l, e6, e7, e8, rfl, ho, hlen⟩ := hI
   obtain ⟨rfl, hi⟩ := Yk hx'
   have hp : ((0 : Int) + i) < (n1 : Int) * n2 := by rw [<- zzS]; omega
   obtain ⟨u1, u2⟩ := zlr (by omega) hp (show (0 : Int) < n2 by omega)
   obtain ⟨r1, a1, b1⟩ := zeK yj (T := J1) (P := Row n1) u1.1 (by rw [j1.1]; exact u1.2) j1.2
   obtain ⟨r2, a2, b2⟩ := zeK yj (T := J2) (P := Row n2) u2.1 (by rw [j2.1]; exact u2.2) j2.2
   obtain ⟨r, c1, c2, c3⟩ := Zb (as := [sT (plD n1 J1 D1), sT (plD n2 J2 D2), sI m, sI ((n1 * n2 : Nat) : Int), sI n2, sN os, sI (0 + i), sT (yj r1), sT (yj r2), none, none, none, none, none]) (u := true) D.int (Q := λ x => 0 <= x /\ x < ((n1 * n2 : Nat) : Int)) (n := n1 * n2) (cap := [none, some 4, some 8, some 7]) (fr := aC yI aN) (fe := f2 (f2 (f2 yI (f2 zB zE zU) ixP) zE zY) (f2 zR (f2 zB zE zH) ixP) zK) (zJ (zb rfl) zQ) (by omega) λ b h0 h3 => by
    obtain ⟨v1, v2⟩ := zlr h0 (show b < (n1 : Int) * n2 by rw [<- zzS]; exact h3) (show (0 : Int) < n2 by omega)
    obtain ⟨x, x1, x2⟩ := Xh (r := r1) (P := λ x => 0 <= x /\ x < (n1 : Int)) v1.1 (by rw [b1.1]; exact v1.2) b1.2
    obtain ⟨y, y1, y2⟩ := Xh (r := r2) (P := λ x => 0 <= x /\ x < (n2 : Int)) v2.1 (by rw [b2.1]; exact v2.2) b2.2
    have n18 : n1 <= 8 := zzL (Nat.le_mul_of_pos_right n1 h2) hn
    refine ⟨[sI b, sI n2, sT (yj r2), sT (yj r1)], x * n2 + y, rfl, WD.e (xW (wX (zM (zb rfl) (v8 (zb rfl) (zb rfl) (by omega) (yg (by omega) (by omega))) x1 rfl) (zb rfl) (yg (by omega) (by omega)) (yg (by omega) (by omega))) (zM (zb rfl) (yz (zb rfl) (zb rfl) (by omega)) y1 rfl)), ?_⟩
    rw [zzS]
    exact mix x2 y2
   obtain ⟨os', o1, o2⟩ := zhC (x := r) (i := 5) (toD := yj) (Q := Row (n1 * n2)) rfl ho (by omega) c3 ⟨c1, c2⟩
   refine ⟨[sT (plD n1 J1 D1), sT (plD n2 J2 D2), sI m, sI ((n1 * n2 : Nat) : Int), sI n2, sN os, sI (0 + i), e7, e8, none, none, none, none, none], rfl, _, yw (xr (i := 7) (yd (yd (zb (i := 0) rfl) zc rfl) (v8 (zb (i := 6) rfl) (zb (i := 4) rfl) (by omega) (yg (by omega) (by omega))) a1) (zG rfl)) (yw (xr (i := 8) (yd (yd (zb (i := 1) rfl) zc rfl) (yz (zb (i := 6) rfl) (zb (i := 4) rfl) (by omega)) a2) (zG rfl)) o2), os', l ++ [r], _, _, _, rfl, o1, by rw [zzG, hlen]; show 0 + i + 1 = _; omega⟩)
  ⟨[], [], none, none, none, rfl, Ows.nil, rfl⟩
 rw [wY] at hlen
 exact ⟨os, l, e6, e7, e8, ho, by omega, hf⟩
end
abbrev B14 (n1 n2 m : Nat) (J1 J2 : TZ) (D1 D2 : List TZ) (os5 : List O) (e6 e7 e8 e9 e10 e11 e12 e13 : Option O) : AS :=
 [sT (plD n1 J1 D1), sT (plD n2 J2 D2), sI m, sI ((n1 * n2 : Nat) : Int), sI n2, sN os5, e6, e7, e8, e9, e10, e11, e12, e13]
abbrev bs1 : SF := (zL (zW true 13 (f2 (f2 (f2 vK wk ixP) (f2 Zc yW zU) ixP) yW zY))
 (xO (wI 12 (dC (f2 (fV 13) (f2 (f2 (fV 8) wk ixP) (f2 Zc yW zH) ixP) zK) dN) wO)))
abbrev bs2 : SF := (zL (zW false 12 (xN dN))
 (zL (Z2 (xJ Xo xG) (gN 6) bs1)
 (xO (wI 10 (dC (fV 12) dN) wO))))
abbrev bs3 : SF := (zL (zW false 10 (xN dN))
 (zL (Z2 (xJ Yq xG) (gN 11) bs2)
 (xO (wI 9 (dC (fV 10) dN) wO))))
section
variable {n1 n2 m : Nat} {J1 J2 : TZ} {D1 D2 : List TZ} {os5 : List O}
theorem zrV {T1 T2 : TZ} {c : Int} {e6 e9 e10 e13 : Option O} (h1 : 0 < n1) (h2 : 0 < n2) (hn : n1 * n2 <= 8) (t1 : Tab m n1 T1) (t2 : Tab m n2 T2) (c0 : 0 <= c) (c1 : c < m) :
 ∃ os r f6 f13, Ows D.int (λ x => 0 <= x /\ x < ((n1 * n2 : Nat) : Int)) os r /\ r.length = n1 * n2 /\ forL (gN 6) bs1 (vH 0 (n1 * n2)) (B14 n1 n2 m J1 J2 D1 D2 os5 e6 (sT (zT T1)) (sT (zT T2)) e9 e10 (sI c) (sN []) e13)
  = some (.nx (B14 n1 n2 m J1 J2 D1 D2 os5 f6 (sT (zT T1)) (sT (zT T2)) e9 e10 (sI c) (sN os) f13)) := by
 have n28 : n2 <= 8 := zzL (Nat.le_mul_of_pos_left n2 h1) hn
 have n18 : n1 <= 8 := zzL (Nat.le_mul_of_pos_right n1 h2) hn
 obtain ⟨r1, a1, b1⟩ := zeK yj (T := T1) (P := Row n1) c0 (by rw [t1.1]; exact c1) t1.2
 obtain ⟨r2, a2, b2⟩ := zeK yj (T := T2) (P := Row n2) c0 (by rw [t2.1]; exact c1) t2.2
 obtain ⟨as', hf, os, l, f6, f13, rfl, ho, hlen⟩ := wG (g := gN 6) (f := bs1)
  (λ i as => ∃ (os : List O) (l : List Int) (f6 f13 : Option O), as = B14 n1 n2 m J1 J2 D1 D2 os5 f6 (sT (zT T1)) (sT (zT T2)) e9 e10 (sI c) (sN os) f13 /\ Ows D.int (λ x => 0 <= x /\ x < ((n1 * n2 : Nat) : Int)) os l /\ l.length = i)
  (vH 0 (n1 * n2)) 0 (B14 n1 n2 m J1 J2 D1 D2 os5 e6 (sT (zT T1)) (sT (zT T2)) e9 e10 (sI c) (sN []) e13) (λ i x as hx' hI => by
   obtain ⟨os, l, f6, f13, rfl, ho, hlen⟩ := hI
   obtain ⟨rfl, hi⟩ := Yk hx'
   have hp : ((0 : Int) + i) < (n1 : Int) * n2 := by rw [<- zzS]; omega
   obtain ⟨u1, u2⟩ := zlr (by omega) hp (show (0 : Int) < n2 by omega)
   obtain ⟨x, x1, x2⟩ := Xh (r := r1) (P := λ x => 0 <= x /\ x < (n1 : Int)) u1.1 (by rw [b1.1]; exact u1.2) b1.2
   obtain ⟨y, y1, y2⟩ := Xh (r := r2) (P := λ x => 0 <= x /\ x < (n2 : Int)) u2.1 (by rw [b2.1]; exact u2.2) b2.2
   have q : 0 <= x * n2 + y /\ x * n2 + y < ((n1 * n2 : Nat) : Int) := by rw [zzS]; exact mix x2 y2
   obtain ⟨os', o1, o2⟩ := zhC (as := B14 n1 n2 m J1 J2 D1 D2 os5 (sI (0 + i)) (sT (zT T1)) (sT (zT T2)) e9 e10 (sI c) (sN os) (sI (x * n2))) (x := x * n2 + y) (i := 12) (toD := D.int) (Q := λ x => 0 <= x /\ x < ((n1 * n2 : Nat) : Int)) (a := f2 (fV 13) (f2 (f2 (fV 8) wk ixP) (f2 Zc yW zH) ixP) zK) rfl ho (by omega)
    (WD.e (xW (zb rfl) (zM (yd (zb rfl) (zb rfl) a2) (yz (zb rfl) (zb rfl) (by omega)) y1 rfl))) q
   exact ⟨B14 n1 n2 m J1 J2 D1 D2 os5 (sI (0 + i)) (sT (zT T1)) (sT (zT T2)) e9 e10 (sI c) (sN os) f13, rfl, _, yw (xr (i := 13) (wX (zM (yd (zb (i := 7) rfl) (zb (i := 11) rfl) a1) (v8 (zb (i := 6) rfl) (zb (i := 4) rfl) (by omega) (yg (by omega) (by omega))) x1 rfl) (zb (i := 4) rfl) (yg (by omega) (by omega)) (yg (by omega) (by omega))) (zG rfl)) o2, os', l ++ [x * n2 + y], _, _, rfl, o1, by rw [zzG, hlen]; show 0 + i + 1 = _; omega⟩)
  ⟨[], [], _, _, rfl, Ows.nil, rfl⟩
 rw [wY] at hlen
 exact ⟨os, l, f6, f13, ho, by omega, hf⟩
theorem zsE {T1 T2 : TZ} {e6 e9 e11 e12 e13 : Option O} (h1 : 0 < n1) (h2 : 0 < n2) (hn : n1 * n2 <= 8) (hm : m <= 8) (t1 : Tab m n1 T1) (t2 : Tab m n2 T2) :
 ∃ os T f6 f11 f12 f13, Ows yj (Row (n1 * n2)) os T /\ T.length = m /\ forL (gN 11) bs2 (vH 0 m) (B14 n1 n2 m J1 J2 D1 D2 os5 e6 (sT (zT T1)) (sT (zT T2)) e9 (sN []) e11 e12 e13)
  = some (.nx (B14 n1 n2 m J1 J2 D1 D2 os5 f6 (sT (zT T1)) (sT (zT T2)) e9 (sN os) f11 f12 f13)) := by
 obtain ⟨as', hf, os, l, f6, f11, f12, f13, rfl, ho, hlen⟩ := wG (g := gN 11) (f := bs2)
  (λ i as => ∃ (os : List O) (l : TZ) (f6 f11 f12 f13 : Option O), as = B14 n1 n2 m J1 J2 D1 D2 os5 f6 (sT (zT T1)) (sT (zT T2)) e9 (sN os) f11 f12 f13 /\ Ows yj (Row (n1 * n2)) os l /\ l.length = i)
  (vH 0 m) 0 (B14 n1 n2 m J1 J2 D1 D2 os5 e6 (sT (zT T1)) (sT (zT T2)) e9 (sN []) e11 e12 e13) (λ i x as hx' hI => by
   obtain ⟨os, l, f6, f11, f12, f13, rfl, ho, hlen⟩ := hI
   obtain ⟨rfl, hi⟩ := Yk hx'
   obtain ⟨ps, r, g6, g13, p1, p2, p3⟩ := zrV (J1 := J1) (J2 := J2) (D1 := D1) (D2 := D2) (os5 := os5) (e6 := f6) (e9 := e9) (e10 := sN os) (e13 := f13) h1 h2 hn t1 t2 (c := 0 + i) (by omega) (by omega)
   have ap := zkc (as := B14 n1 n2 m J1 J2 D1 D2 os5 g6 (sT (zT T1)) (sT (zT T2)) e9 (sN os) (sI (0 + i)) (sN ps) g13) (i := 10) (j := 12) (by decide) rfl rfl (by rw [ho.ln]; exact ZR (by omega))
   rw [p1.frz] at ap
   exact ⟨B14 n1 n2 m J1 J2 D1 D2 os5 f6 (sT (zT T1)) (sT (zT T2)) e9 (sN os) (sI (0 + i)) f12 f13, rfl, _, yw (wy (i := 12) (vO yo (szl rfl)) (zG rfl)) (yw (wD (vR (zJ (zb (i := 3) rfl) zQ) (by omega) (by omega)) p3) ap), _, l ++ [r], _, _, _, _, rfl, ho.snoc (o := .lf true (yj r)) (a := r) rfl rfl ⟨p2, p1.al⟩, by rw [zzG, hlen]; show 0 + i + 1 = _; omega⟩)
  ⟨[], [], _, _, _, _, rfl, Ows.nil, rfl⟩
 rw [wY] at hlen
 exact ⟨os, l, f6, f11, f12, f13, ho, by omega, hf⟩
theorem zbI {α : Type} {f : α -> D} {l : List α} {i : Nat} {d : D} (h : (l.map f)[i]? = some d) : ∃ a ∈ l, d = f a := by
 rw [zzF] at h
 obtain ⟨a, h1, h2⟩ := zzU.mp h
 exact ⟨a, List.mem_of_getElem? h1, h2.symm⟩
theorem zsO {w : Nat} {e6 e7 e8 e10 e11 e12 e13 : Option O} (h1 : 0 < n1) (h2 : 0 < n2) (hn : n1 * n2 <= 8) (hm : m <= 8) (hw : w <= 8) (l1 : D1.length = w) (l2 : D2.length = w) (t1 : ∀ T ∈ D1, Tab m n1 T) (t2 : ∀ T ∈ D2, Tab m n2 T) :
 ∃ os Ds f6 f7 f8 f10 f11 f12 f13, Ows zT (Tab m (n1 * n2)) os Ds /\ Ds.length = w /\ forL (gT 2 (gsC (gN 7) (gsC (gN 8) gsN))) bs3 (Wo true (D1.map zT) (D2.map zT)) (B14 n1 n2 m J1 J2 D1 D2 os5 e6 e7 e8 (sN []) e10 e11 e12 e13)
  = some (.nx (B14 n1 n2 m J1 J2 D1 D2 os5 f6 f7 f8 (sN os) f10 f11 f12 f13)) := by
 obtain ⟨as', hf, os, l, f6, f7, f8, f10, f11, f12, f13, rfl, ho, hlen⟩ := wG (g := gT 2 (gsC (gN 7) (gsC (gN 8) gsN))) (f := bs3)
  (λ i as => ∃ (os : List O) (l : List TZ) (f6 f7 f8 f10 f11 f12 f13 : Option O), as = B14 n1 n2 m J1 J2 D1 D2 os5 f6 f7 f8 (sN os) f10 f11 f12 f13 /\ Ows zT (Tab m (n1 * n2)) os l /\ l.length = i)
  (Wo true (D1.map zT) (D2.map zT)) 0 (B14 n1 n2 m J1 J2 D1 D2 os5 e6 e7 e8 (sN []) e10 e11 e12 e13) (λ i x as hx' hI => by
   obtain ⟨os, l, f6, f7, f8, f10, f11, f12, f13, rfl, ho, hlen⟩ := hI
   obtain ⟨d, e, z1, z2, rfl⟩ := W7 hx'
   have hil : i < D1.length := by have := (zzD.mp z1).1; rw [zD] at this; exact this
   obtain ⟨T1, m1, rfl⟩ := zbI z1
   obtain ⟨T2, m2, rfl⟩ := zbI z2
   obtain ⟨ps, T, g6, g11, g12, g13, p1, p2, p3⟩ := zsE (J1 := J1) (J2 := J2) (D1 := D1) (D2 := D2) (os5 := os5) (e6 := f6) (e9 := sN os) (e11 := f11) (e12 := f12) (e13 := f13) h1 h2 hn hm (t1 T1 m1) (t2 T2 m2)
   have ap := zkc (as := B14 n1 n2 m J1 J2 D1 D2 os5 g6 (sT (zT T1)) (sT (zT T2)) (sN os) (sN ps) g11 g12 g13) (i := 9) (j := 10) (by decide) rfl rfl (by rw [ho.ln]; exact ZR (by omega))
   rw [p1.frz] at ap
   exact ⟨B14 n1 n2 m J1 J2 D1 D2 os5 f6 (sT (zT T1)) (sT (zT T2)) (sN os) f10 f11 f12 f13, rfl, _, yw (wy (i := 10) (vO yo (szl rfl)) (zG rfl)) (yw (wD (vR (zJ (zb (i := 2) rfl) zQ) (by omega) (by omega)) p3) ap), _, l ++ [T], _, _, _, _, _, _, _, rfl, ho.snoc (o := .lf true (zT T)) (a := T) rfl rfl ⟨p2, p1.al⟩, by rw [zzG, hlen]; show 0 + i + 1 = _; omega⟩)
  ⟨[], [], _, _, _, _, _, _, _, rfl, Ows.nil, rfl⟩
 rw [zaY, zD, zD, l1, l2, Nat.min_self] at hlen
 exact ⟨os, l, f6, f7, f8, f10, f11, f12, f13, ho, by omega, hf⟩
theorem zcr {as as2 : AS} {j : Nat} {ps : List O} {fr : DF} {os : List O} (hj : as[j]? = some (sN ps)) (hr : fr (as.set j (some (O.nd .ls ps).frz)) = some (os, as2)) : dC (fV j) fr as = some ((O.nd .ls ps).frz :: os, as2) := by
 unfold dC
 rw [zbu hj]
 show ((toO as (.bo j)).bind _) = _
 rw [zlz hj]
 show (fr (as.set j (some (O.nd .ls ps).frz))).bind _ = _
 rw [hr]; rfl
theorem zdy {as as1 : AS} {fr : DF} {os : List O} (h : fr as = some (os, as1)) (hl : os.length <= sizeLine) : yN fr as = some (.ow (Y4 os), as1) := by
 unfold yN
 rw [h]; show (if os.length <= sizeLine then _ else _) = _
 rw [if_pos hl]
theorem zkL {w : Nat} (h1 : 0 < n1) (h2 : 0 < n2) (hn : n1 * n2 <= 8) (hm : m <= 8) (hw : w <= 8) (j1 : Tab n1 n1 J1) (j2 : Tab n2 n2 J2) (l1 : D1.length = w) (l2 : D2.length = w) (t1 : ∀ T ∈ D1, Tab m n1 T) (t2 : ∀ T ∈ D2, Tab m n2 T) :
 ∃ J Ds, Tab (n1 * n2) (n1 * n2) J /\ Ds.length = w /\ (∀ T ∈ Ds, Tab m (n1 * n2) T) /\ RE (ZL [(true, plD n1 J1 D1), (true, plD n2 J2 D2), (true, .int m)]) (plD (n1 * n2) J Ds) := by
 have n28 : n2 <= 8 := zzL (Nat.le_mul_of_pos_left n2 h1) hn
 have n18 : n1 <= 8 := zzL (Nat.le_mul_of_pos_right n1 h2) hn
 obtain ⟨os, J, e6, e7, e8, ho, hl, hf⟩ := zme (m := m) (D1 := D1) (D2 := D2) h1 h2 hn j1 j2
 obtain ⟨ps, Ds, f6, f7, f8, f10, f11, f12, f13, po, pl, pf⟩ := zsO (J1 := J1) (J2 := J2) (os5 := os) (e6 := e6) (e7 := e7) (e8 := e8) (e10 := none) (e11 := none) (e12 := none) (e13 := none) h1 h2 hn hm hw l1 l2 t1 t2
 refine ⟨J, Ds, ⟨hl, ho.al⟩, pl, po.al, xT rfl (zq (as1 := [sT (plD n1 J1 D1), sT (plD n2 J2 D2), sI m, sI ((n1 * n2 : Nat) : Int), none, none, none, none, none, none, none, none, none, none]) ?_ (zq (xr (i := 4) (zM (zb rfl) zc rfl rfl) (zG rfl)) (zq (wy (i := 5) (vO yo (szl rfl)) (zG rfl)) (zq (wD (vR (zJ (zb rfl) zQ) (by omega) (by omega)) hf) (zq (wy (i := 9) (vO yo (szl rfl)) (zG rfl)) (zq (wD ?_ pf) ?_))))))⟩
 · have := xr (st := true) (i := 3) (as := [sT (plD n1 J1 D1), sT (plD n2 J2 D2), sI m, none, none, none, none, none, none, none, none, none, none, none]) (wX (zM (g := ixP) (zb (i := 0) rfl) (zc (x := .int 0)) rfl rfl) (zM (g := ixP) (zb (i := 1) rfl) (zc (x := .int 0)) rfl rfl) (yg (i := (n1 : Int)) (by omega) (by omega)) (yg (i := (n2 : Int)) (by omega) (by omega))) (zG rfl)
   rw [zzS]
   exact this
 · rfl
 · have e := wg (as := B14 n1 n2 m J1 J2 D1 D2 os f6 f7 f8 (sN ps) f10 f11 f12 f13) (a := fV 3) (zb rfl) (zcr (j := 5) (fr := dC (fV 9) dN) rfl (zcr (j := 9) (fr := dN) rfl rfl))
   rw [ho.frz, po.frz] at e
   exact ⟨_, VM (zdy e (szl rfl)) rfl, rfl, rfl⟩
end
abbrev ziY : List D := [.tup [.int 2, .int 2], .tup [.int 3, .int 2], .tup [.int 2, .int 3], .tup [.int 4, .int 2], .tup [.int 2, .int 4], .tup [.int 2, .int 2]]
theorem zmQ (x : Int) : ∃ a b : Nat, 2 <= a /\ 2 <= b /\ a * b <= 8 /\ ixP (.lst ziY) (.int (x % 6)) = some (.im (.tup [.int a, .int b])) := by
 rcases (show x % 6 = 0 \/ x % 6 = 1 \/ x % 6 = 2 \/ x % 6 = 3 \/ x % 6 = 4 \/ x % 6 = 5 by omega) with e | e | e | e | e | e <;> rw [e]
 · exact ⟨2, 2, by decide, by decide, by decide, rfl⟩
 · exact ⟨3, 2, by decide, by decide, by decide, rfl⟩
 · exact ⟨2, 3, by decide, by decide, by decide, rfl⟩
 · exact ⟨4, 2, by decide, by decide, by decide, rfl⟩
 · exact ⟨2, 4, by decide, by decide, by decide, rfl⟩
 · exact ⟨2, 2, by decide, by decide, by decide, rfl⟩
theorem zrp (x : Int) : ∃ n : Nat, 2 <= n /\ n <= 8 /\ ixP (.lst [.int 2, .int 3, .int 4, .int 5, .int 3, .int 4, .int 6, .int 8]) (.int (x % 8)) = some (.im (.int n)) := by
 rcases (show x % 8 = 0 \/ x % 8 = 1 \/ x % 8 = 2 \/ x % 8 = 3 \/ x % 8 = 4 \/ x % 8 = 5 \/ x % 8 = 6 \/ x % 8 = 7 by omega) with e | e | e | e | e | e | e | e <;> rw [e]
 · exact ⟨2, by decide, by decide, rfl⟩
 · exact ⟨3, by decide, by decide, rfl⟩
 · exact ⟨4, by decide, by decide, rfl⟩
 · exact ⟨5, by decide, by decide, rfl⟩
 · exact ⟨3, by decide, by decide, rfl⟩
 · exact ⟨4, by decide, by decide, rfl⟩
 · exact ⟨6, by decide, by decide, rfl⟩
 · exact ⟨8, by decide, by decide, rfl⟩
theorem KN4 {x : Int} {n : Nat} (h : 2 <= n) : KN (x % 4) n := by
 rcases (show x % 4 = 0 \/ x % 4 = 1 \/ x % 4 = 2 \/ x % 4 = 3 by omega) with e | e | e | e <;> rw [e]
 · exact .inl ⟨rfl, by omega⟩
 · exact .inr (.inl ⟨rfl, by omega⟩)
 · exact .inr (.inr (.inl ⟨rfl, h⟩))
 · exact .inr (.inr (.inr (.inl ⟨rfl, h⟩)))
theorem zpH {as : AS} : WE (xN (dC (yN (dC xg (dC xg dN))) (dC (yN (dC Zr (dC xg dN))) (dC (yN (dC xg (dC Zr dN))) (dC (yN (dC Zf (dC xg dN))) (dC (yN (dC xg (dC Zf dN))) (dC (yN (dC xg (dC xg dN))) dN))))))) as (.lst ziY) := by
 have t : ∀ a b : Int, WD (yN (dC (fC (.int a)) (dC (fC (.int b)) dN))) as true (.tup [.int a, .int b]) := λ a b => zaq (os := [lfI a, lfI b]) (zu zc (zu zc yo)) (szl rfl) rfl
 exact vg (os := ziY.map (O.lf true)) (zu (t 2 2) (zu (t 3 2) (zu (t 2 3) (zu (t 4 2) (zu (t 2 4) (zu (t 2 2) yo)))))) (szl rfl) rfl rfl
theorem znj {c : Int} {m w : Nat} (hm : m <= 8) (hw : w <= 8) : ∃ (n : Nat) (J : TZ) (Ds : List TZ), 1 <= n /\ n <= 8 /\ Tab n n J /\ Ds.length = w /\ (∀ T ∈ Ds, Tab m n T) /\ RE (YW [(true, .int c), (true, .int m), (true, .int w)]) (plD n J Ds) := by
 obtain ⟨xs, hl, hx, ws⟩ := stE (as := [sI c, sI m, sI w, none, none, none, none, none]) (a := fV 0) (b := fC (.int 5)) (c := c) (m := 5) (by omega) (WD.e (zb rfl)) (WD.e zc)
 obtain ⟨x0, a0, _⟩ := at2 hx (k := 0) (by omega) (by omega)
 obtain ⟨x1, a1, _⟩ := at2 hx (k := 1) (by omega) (by omega)
 obtain ⟨x2, a2, _⟩ := at2 hx (k := 2) (by omega) (by omega)
 obtain ⟨x3, a3, _⟩ := at2 hx (k := 3) (by omega) (by omega)
 obtain ⟨x4, a4, _⟩ := at2 hx (k := 4) (by omega) (by omega)
 have y0 : 0 <= x0 % 7 /\ x0 % 7 < 7 := ⟨by omega, by omega⟩
 have start : ∀ (C : SF) (x : D), Rt (C [sI c, sI m, sI w, sT (.lst (xs.map D.int)), sI (x0 % 7), none, none, none]) x -> Rt (zL (zW true 3 (zN (aC zB (aC zdj aN)) zO)) (zL (zW true 4 (f2 (f2 yI yL ixP) (fC (.int 7)) zH)) C) [sI c, sI m, sI w, none, none, none, none, none]) x := λ C x h =>
  zq (Zg (p := 3) ws (zG rfl)) (zq (xr (i := 4) (yz (zM (zb rfl) zc a0 rfl) zc (by decide)) (zG rfl)) h)
 generalize x0 % 7 = k at y0 start
 by_cases hk : 4 < k
 · obtain ⟨a, b, ha, hb, hab, es⟩ := zmQ x1
   obtain ⟨J1, D1, j1, l1, t1, p1⟩ := zdB (k := x2 % 4) (c := x3) (m := m) (w := w) (KN4 ha) (zzL (Nat.le_mul_of_pos_right a (by omega)) hab) hm hw
   obtain ⟨J2, D2, j2, l2, t2, p2⟩ := zdB (k := x4 % 4) (c := x3 + 7) (m := m) (w := w) (KN4 hb) (zzL (Nat.le_mul_of_pos_left b (by omega)) hab) hm hw
   obtain ⟨J, Ds, q1, q2, q3, q4⟩ := zkL (n1 := a) (n2 := b) (m := m) (w := w) (by omega) (by omega) hab hm hw j1 j2 l1 l2 t1 t2
   refine ⟨a * b, J, Ds, Nat.mul_pos (by omega) (by omega), hab, q1, q2, q3, xT rfl (start _ _ (vI (ZQ (zV (zbf (zb rfl) zc) (congrArg some (decide_eq_true hk))) (zq (xr (i := 5) (f2E zpH (WD.e (yz (zM (zb rfl) zc a1 rfl) zc (by decide))) es) (zG rfl)) (zq (Zg (p := 6) (ziK (WD.e (yz (zM (zb rfl) zc a2 rfl) zc (by decide))) (WD.e (zM (zb rfl) zc rfl rfl)) (WD.e (zb rfl)) (WD.e (zb rfl)) (WD.e (zM (zb rfl) zc a3 rfl)) p1) (zG rfl)) (wj (Z0 (WD.e (zb rfl)) (ziK (WD.e (yz (zM (zb rfl) zc a4 rfl) zc (by decide))) (WD.e (zM (zb rfl) zc rfl rfl)) (WD.e (zb rfl)) (WD.e (zb rfl)) (WD.e (xW (zM (zb rfl) zc a3 rfl) zc)) p2) (WD.e (zb rfl)) q4)))))))⟩
 · obtain ⟨n, n2, n8, en⟩ := zrp x1
   have fin : ∀ n' : Nat, KN k n' -> n' <= 8 -> ∃ (n : Nat) (J : TZ) (Ds : List TZ), 1 <= n /\ n <= 8 /\ Tab n n J /\ Ds.length = w /\ (∀ T ∈ Ds, Tab m n T) /\ Rt (xf (zN (aC yW (aC vK (aC zE (aC zR (aC (f2 yI Zr ixP) aN))))) wA) [sI c, sI m, sI w, sT (.lst (xs.map D.int)), sI k, none, none, sI n']) (plD n J Ds) := λ n' hK h8 => by
    obtain ⟨J, Ds, j1, l1, t1, p1⟩ := zdB (k := k) (c := x3) (m := m) (w := w) hK h8 hm hw
    refine ⟨n', J, Ds, ?_, h8, j1, l1, t1, wj (ziK (WD.e (zb rfl)) (WD.e (zb rfl)) (WD.e (zb rfl)) (WD.e (zb rfl)) (WD.e (zM (zb rfl) zc a3 rfl)) p1)⟩
    unfold KN at hK
    omega
   have hk' := congrArg some (decide_eq_false hk)
   have set7 : zW true 7 (f2 (xN (dC xg (dC Zr (dC Zf (dC zdj (dC Zr (dC Zf (dC zaU (dC Y5 dN))))))))) (f2 (f2 yI yq ixP) Y5 zH) ixP) [sI c, sI m, sI w, sT (.lst (xs.map D.int)), sI k, none, none, none] = some (.nx [sI c, sI m, sI w, sT (.lst (xs.map D.int)), sI k, none, none, sI n]) :=
    xr (i := 7) (f2E (vg (os := ([2, 3, 4, 5, 3, 4, 6, 8] : List Int).map lfI) (zu zc (zu zc (zu zc (zu zc (zu zc (zu zc (zu zc (zu zc yo)))))))) (szl rfl) rfl rfl) (WD.e (yz (zM (zb rfl) zc a1 rfl) zc (by decide))) en) (zG rfl)
   by_cases h4 : k = 4
   · subst h4
     obtain ⟨n', J, Ds, r1, r2, r3, r4, r5, r6⟩ := fin 4 (.inr (.inr (.inr (.inr ⟨rfl, rfl⟩)))) (by decide)
     exact ⟨n', J, Ds, r1, r2, r3, r4, r5, xT rfl (start _ _ (zq (ym (zV (zbf (zb rfl) zc) hk') rfl) (zq set7 (zq (ym (zgK (k := false) (zV (yD (zb rfl) zc rfl) rfl) (λ h => nomatch h) (λ _ => rfl)) rfl) (zq (wV (zV (yD (zb rfl) zc rfl) rfl) (xr (i := 7) zc (zG rfl))) r6)))))⟩
   · have f4 : ∀ e : Option O, WT (fT (f2 yW Zf (yf .Eq))) [sI c, sI m, sI w, sT (.lst (xs.map D.int)), sI k, none, none, e] false := λ e => zV (yD (zb rfl) zc rfl) (by show some (k == 4) = _; simp [h4])
     by_cases h0 : k = 0 /\ x2 % 9 = 0
     · obtain ⟨rfl, h9⟩ := h0
       obtain ⟨n', J, Ds, r1, r2, r3, r4, r5, r6⟩ := fin 1 (.inl ⟨rfl, zzK _⟩) (by decide)
       exact ⟨n', J, Ds, r1, r2, r3, r4, r5, xT rfl (start _ _ (zq (ym (zV (zbf (zb rfl) zc) hk') rfl) (zq set7 (zq (wV (zgK (k := true) (zV (yD (zb rfl) zc rfl) rfl) (λ _ => zV (yD (yz (zM (zb rfl) zc a2 rfl) zc (by decide)) zc rfl) (by show some (x2 % 9 == 0) = _; simp [h9])) (λ h => nomatch h)) (xr (i := 7) zc (zG rfl))) (zq (ym (f4 _) rfl) r6)))))⟩
     · have hK : KN k n := by unfold KN; omega
       obtain ⟨n', J, Ds, r1, r2, r3, r4, r5, r6⟩ := fin n hK n8
       refine ⟨n', J, Ds, r1, r2, r3, r4, r5, xT rfl (start _ _ (zq (ym (zV (zbf (zb rfl) zc) hk') rfl) (zq set7 (zq (ym (zgK (k := k == 0) (zV (yD (zb rfl) zc rfl) rfl) (λ h => zV (yD (yz (zM (zb rfl) zc a2 rfl) zc (by decide)) zc rfl) ?_) (λ _ => rfl)) rfl) (zq (ym (f4 _) rfl) r6)))))⟩
       have hk0 : k = 0 := by simpa using h
       show some (x2 % 9 == 0) = some false
       have : ¬ x2 % 9 = 0 := λ z => h0 ⟨hk0, z⟩
       simp [this]
theorem zqh {f : EF} {as : AS} {ds : List D} (h : WE f as (.lst ds)) : zaR f as = some (ds.map λ d => (true, d), as) := by
 obtain ⟨o, h1, h2, h3⟩ := h
 unfold zaR
 rw [h1]
 have e : Va as (.ow o) = some ((o.str, o.toD), as) := rfl
 show (Va as (RV.ow o)).bind (λ q => (zii q.1).bind λ ds => some (ds, q.2)) = _
 rw [e, h2, h3]
 show some (kids true ds, as) = _
 rw [zgM]
theorem zdY : ∀ (l : List Int) (k : Nat) (h : k < l.length), (l[k] :: l.eraseIdx k).Perm l
 | x :: r, 0, _ => List.Perm.refl _
 | x :: r, k + 1, h => (List.Perm.swap _ _ _).trans ((zdY r k (by simpa using h)).cons x)
abbrev v9 (n : Nat) : List Int := (List.range n).map λ (i : Nat) => (i : Int)
theorem zlN {c : Int} {n : Nat} (hn : 0 < n) (hn8 : n <= 8) : ∃ F : List Int, F.Perm (v9 n) /\ RE (Z9 [(true, .int c), (true, .int n)]) (.lst (F.map D.int)) := by
 obtain ⟨xs, hl, hx, ws⟩ := stE (as := [sI c, sI n, sN ((v9 n).map lfI), sN [], none]) (a := fV 0) (b := fV 1) (c := c) (m := n) (by omega) (WD.e (zb rfl)) (WD.e (zb rfl))
 obtain ⟨as', hf, L, F, e4, rfl, hp, hlen⟩ := wG (g := gN 4) (f := xO (wI 3 (dC (wI 2 (dC (f2 yW (fP Yq Xr) zH) dN) Vx) dN) wO))
  (λ i as => ∃ (L F : List Int) (e4 : Option O), as = [sI c, sI n, sN (L.map lfI), sN (F.map lfI), e4] /\ (L ++ F).Perm (v9 n) /\ L.length + i = n)
  ((xs.map D.int).map λ d => (true, d)) 0 [sI c, sI n, sN ((v9 n).map lfI), sN [], none] (λ i x as hx' hI => by
    obtain ⟨L, F, e4, rfl, hp, hlen⟩ := hI
    have hi : i < n := by
     have := (zzD.mp hx').1
     rw [zD, zD, hl] at this
     exact this
    obtain ⟨y, rfl⟩ : ∃ y : Int, x = (true, .int y) := by
     rw [List.map_map, zzF] at hx'
     obtain ⟨a, _, h2⟩ := zzU.mp hx'
     exact ⟨a, h2.symm⟩
    have l0 : (0 : Int) < ((L.map lfI).length : Int) := by rw [zD]; omega
    have z0 := Int.emod_nonneg y (show ((L.map lfI).length : Int) ≠ 0 by omega)
    have z1 := Int.emod_lt_of_pos y l0
    have hk : (y % ((L.map lfI).length : Int)).toNat < L.length := by rw [zD] at z0 z1 ⊢; omega
    generalize hkk : (y % ((L.map lfI).length : Int)).toNat = k at hk
    have pop := zmT (as := [sI c, sI n, sN (L.map lfI), sN (F.map lfI), sI y]) (i := 2) (os := L.map lfI) (o := lfI L[k]) rfl (yz (zb (i := 4) rfl) (zpB (i := 2) rfl) l0) z0 z1 (by rw [zD]; omega) (by rw [hkk, zzF, zzB hk]; rfl)
    rw [hkk, show (L.map lfI).eraseIdx k = (L.eraseIdx k).map lfI by rw [List.eraseIdx_eq_take_drop_succ, List.eraseIdx_eq_take_drop_succ, List.map_append, List.map_take, List.map_drop]] at pop
    have ap := zke (i := 3) (os := F.map lfI) (as := [sI c, sI n, sN (L.map lfI), sN (F.map lfI), sI y]) rfl pop rfl (by rw [zD]; have := hp.length_eq; rw [zzG, zD, List.length_range] at this; exact ZR (by omega))
    rw [<- zhA] at ap
    refine ⟨[sI c, sI n, sN (L.map lfI), sN (F.map lfI), sI y], rfl, _, ap, L.eraseIdx k, F ++ [L[k]], _, rfl, ?_, by rw [List.length_eraseIdx_of_lt hk]; omega⟩
    rw [<- List.append_assoc]
    refine (List.perm_append_singleton _ _).trans ?_
    rw [<- List.cons_append]
    exact ((zdY L k hk).append_right F).trans hp)
  ⟨v9 n, [], none, rfl, by rw [List.append_nil], by rw [zD, List.length_range]; rfl⟩
 rw [zD, zD, hl] at hlen
 have hL : L = [] := List.eq_nil_of_length_eq_zero (by omega)
 subst hL
 have s2 := wy (i := 2) (as := [sI c, sI n, none, none, none]) (ziP (a := fV 1) (x := .int n) (g := lrP) (zs := (v9 n).map D.int) (WD.e (zb rfl)) (by
  show (if (0 : Int) <= n /\ (n : Int) <= 100000 then _ else _) = _
  rw [if_pos ⟨by omega, by omega⟩, List.map_map]; rfl)) (zG rfl)
 rw [zgG] at s2
 exact ⟨F, hp, xT rfl (zq s2 (zq (wy (i := 3) (vO yo (szl rfl)) (zG rfl)) (zq (wD (zqh ws) hf) ⟨_, zjP (i := 3) rfl (vq F).2.1, (V9 F).1, (V9 F).2⟩)))⟩
abbrev abc : Str := "abcdefghijklmnopqrstuvwxyz"
theorem zow : ∀ k, k < 26 -> abc.cps.toList[k]? = some (97 + k) := by decide +kernel
theorem zmg {i : Int} (h0 : 0 <= i) (h1 : i < 26) : ixP (.str abc) (.int i) = some (.im (.str ⟨#[97 + i.toNat]⟩)) := by
 show (if abc.length <= sizeLine then (atI abc.cps.toList i).bind (λ c => some (R0.im (.str ⟨#[c]⟩))) else none) = _
 rw [if_pos (show abc.length <= sizeLine by decide +kernel)]
 have := Y9 (zow i.toNat (by omega))
 rw [show ((i.toNat : Nat) : Int) = i by omega] at this
 rw [this]; rfl
theorem zig : ∀ l : List Str, zcO (l.map D.str) = some l
 | [] => rfl
 | x :: r => by
  show (zcO (r.map D.str)).bind _ = _
  rw [zig r]; rfl
theorem zrB : ∀ l : List Str, (∀ s ∈ l, s.length = 1) -> (l.map (·.length)).sum = l.length
 | [], _ => rfl
 | x :: r, h => by
  show x.length + (r.map (·.length)).sum = r.length + 1
  rw [h x (zzC ..), zrB r λ s m => h s (zzA _ m)]; omega
theorem len_app (a b : Str) : (a ++ b).length = a.length + b.length := by
 show (a ++ b).cps.size = a.cps.size + b.cps.size
 rw [Str.cps_append, Array.size_append]
theorem zhk : ∀ l : List Str, (∀ s ∈ l, s.length = 1) -> (Str.join "" l).length = l.length
 | [], _ => rfl
 | [x], h => h x (zzC ..)
 | x :: y :: r, h => by
  show (x ++ "" ++ Str.join "" (y :: r)).length = _
  rw [len_app, len_app, h x (zzC ..), zhk (y :: r) λ s m => h s (zzA _ m)]
  show 1 + 0 + (r.length + 1) = r.length + 1 + 1
  omega
theorem add_str {a b : Str} (h : a.length + b.length <= 1000) : zbK .Add (.str a) (.str b) = some (.im (.str (a ++ b))) := if_pos (szs (by omega))
abbrev nm (A B : Str) (x : Int) (k : Nat) : Str := A ++ ⟨#[97 + ((x + 3 * (k : Int)) % 26).toNat]⟩ ++ B
theorem zpL {A B : Str} {x : Int} {k j : Nat} (hk : k < 10) (hj : j < 10) (h : nm A B x k = nm A B x j) : k = j := by
 have h := congrArg (λ s : Str => s.cps.toList) h
 simp only [Str.cps_append, Array.toList_append, List.append_assoc, List.append_cancel_left_eq] at h
 have h := (List.append_cancel_right h)
 injection h with h
 omega
theorem zlV {c : Int} : ∃ ss : List Str, ss.length = 10 /\ ss.Nodup /\ RE (Z8 [(true, .int c), (true, .int (10 : Nat))]) (.lst (ss.map D.str)) := by
 obtain ⟨xs, hl, hx, ws⟩ := stE (as := [sI c, sI (10 : Nat), sT (.str abc), none, none, none, none, none]) (a := fV 0) (b := fC (.int 9)) (c := c) (m := 9) (by omega) (WD.e (zb rfl)) (WD.e zc)
 obtain ⟨x8, a8, _⟩ := at2 hx (k := 8) (by omega) (by omega)
 have hk : (1 + c % 8).toNat <= 9 := by omega
 have sl : WE (fSl yI oN (oS (f2 yq (f2 zB Y5 zH) zK)) slP) [sI c, sI (10 : Nat), sT (.str abc), sT (.lst (xs.map D.int)), none, none, none, none] (.lst ((xs.take (1 + c % 8).toNat).map D.int)) := by
  refine zbg (lo := none) (hi := some (1 + c % 8)) (WD.e (zb rfl)) rfl ?_ ?_
  · have := xW (as := [sI c, sI (10 : Nat), sT (.str abc), sT (.lst (xs.map D.int)), none, none, none, none]) (zc (x := .int 1)) (yz (zb (i := 0) rfl) (zc (x := .int 8)) (by decide))
    unfold oS
    unfold WD at this
    rw [this]; rfl
  · have := zlG (xs := (xs.take (1 + c % 8).toNat).map D.int) (ys := (xs.drop (1 + c % 8).toNat).map D.int)
    rw [<- List.map_append, List.take_append_drop, zD, zzP, Nat.min_eq_left (by omega), show (((1 + c % 8).toNat : Nat) : Int) = 1 + c % 8 by omega] at this
    exact this
 obtain ⟨l, l1, l2, l3⟩ := Wr D.str (Q := λ s => s.length = 1) (cap := [none, some 2]) (g := gN 0) (fe := f2 zE (f2 zB (fC (.int 26)) zH) ixP) (zbw sl) (by rw [zD, zD, zzP]; omega) λ y m => by
  rw [List.map_map] at m
  obtain ⟨z, _, rfl⟩ := List.mem_map.mp m
  exact ⟨[sI z, sT (.str abc)], ⟨#[97 + (z % 26).toNat]⟩, rfl, WD.e (zM (zb rfl) (yz (zb rfl) zc (by decide)) (zmg (by omega) (by omega)) rfl), rfl⟩
 rw [zD, zD, zzP] at l1
 have hb : (Str.join "" l).length = l.length := zhk l l2
 have hm : WD (WL .str (fC (.str "")) (aC (yc (Yg (fSl yI oN (oS (f2 yq (f2 zB Y5 zH) zK)) slP)) [none, some 2] xm yV (f2 zE (f2 zB (fC (.int 26)) zH) ixP)) aN) zkl) [sI c, sI (10 : Nat), sT (.str abc), sT (.lst (xs.map D.int)), none, none, none, none] true (.str (Str.join "" l)) :=
  zgn zc rfl (Yr l3 zQ) (by
   show (zcO (l.map D.str)).bind _ = _
   rw [zig]
   show (if (l.map (·.length)).sum + l.length * 0 <= 16777216 then some (R0.im (.str (Txt.join "" l))) else none) = _
   rw [if_pos (by rw [zrB l l2]; omega), zlM]) rfl
 generalize Str.join "" l = base at hb hm
 have lb : (0 : Int) < (base.length : Int) := by omega
 have lz : base.length <= sizeLine := szs (by omega)
 have z0 := Int.emod_nonneg (c / 8) (show (base.length : Int) ≠ 0 by omega)
 have z1 := Int.emod_lt_of_pos (c / 8) lb
 generalize hat : c / 8 % (base.length : Int) = at_ at z0 z1
 have lA := Txt.slice_le base none (some at_)
 have lB := Txt.slice_le base (some (at_ + 1)) none
 have eA : slS (.str base) none (some at_) = some (.im (.str (Txt.slice base none (some at_)))) := if_pos lz
 have eB : slS (.str base) (some (at_ + 1)) none = some (.im (.str (Txt.slice base (some (at_ + 1)) none))) := if_pos lz
 generalize Txt.slice base none (some at_) = A at lA eA
 generalize Txt.slice base (some (at_ + 1)) none = B at lB eB
 have lo1 : ∀ (f : EF) (as : AS) (k : Int), WD f as true (.int k) -> oS f as = some (some k, as) := λ f as k h => by
  unfold oS
  unfold WD at h
  rw [h]; rfl
 obtain ⟨as', hf, os, e7, rfl, ho⟩ := wG (g := gN 7) (f := xO (wI 6 (dC (f2 (f2 (fSl yW oN (oS vQ) slS) (f2 zR (f2 (f2 (f2 yI Y5 ixP) (f2 Zr vK zY) zK) (fC (.int 26)) zH) ixP) zK) (fSl yW (oS (f2 vQ yq zK)) oN slS) zK) dN) wO))
  (λ i as => ∃ (os : List O) (e7 : Option O), as = [sI c, sI (10 : Nat), sT (.str abc), sT (.lst (xs.map D.int)), sT (.str base), sI at_, sN os, e7] /\ Ows D.str (λ _ => True) os ((List.range i).map (nm A B x8)))
  (vH 0 10) 0 [sI c, sI (10 : Nat), sT (.str abc), sT (.lst (xs.map D.int)), sT (.str base), sI at_, sN [], none] (λ i x as hx' hI => by
   obtain ⟨os, e7, rfl, ho⟩ := hI
   obtain ⟨rfl, hi⟩ := Yk hx'
   rw [Nat.zero_add] at ho
   have d1 := zmg (i := (x8 + 3 * ((0 : Int) + i)) % 26) (by omega) (by omega)
   have e0 : (x8 + 3 * ((0 : Int) + i)) % 26 = (x8 + 3 * (i : Int)) % 26 := by rw [Int.zero_add]
   obtain ⟨os', o1, o2⟩ := zhC (as := [sI c, sI (10 : Nat), sT (.str abc), sT (.lst (xs.map D.int)), sT (.str base), sI at_, sN os, sI (0 + i)]) (x := nm A B x8 i) (i := 6) (toD := D.str) (Q := λ _ => True) (a := f2 (f2 (fSl yW oN (oS vQ) slS) (f2 zR (f2 (f2 (f2 yI Y5 ixP) (f2 Zr vK zY) zK) (fC (.int 26)) zH) ixP) zK) (fSl yW (oS (f2 vQ yq zK)) oN slS) zK) rfl ho (by rw [zD, List.length_range]; omega)
    (WD.e (yd (yd (zfv (zb (i := 4) rfl) rfl (lo1 _ _ _ (zb (i := 5) rfl)) eA) (zM (zb (i := 2) rfl) (yz (xW (zM (zb (i := 3) rfl) zc a8 rfl) (wX zc (zb (i := 7) rfl) (yg (by decide) (by decide)) (yg (by omega) (by omega)))) zc (by decide)) d1 rfl) (add_str (by show A.length + 1 <= _; omega))) (zfv (zb (i := 4) rfl) (lo1 _ _ _ (xW (zb (i := 5) rfl) zc)) rfl eB) (by
     rw [e0]
     exact add_str (by rw [len_app]; show A.length + 1 + B.length <= _; omega)))) trivial
   refine ⟨[sI c, sI (10 : Nat), sT (.str abc), sT (.lst (xs.map D.int)), sT (.str base), sI at_, sN os, sI (0 + i)], rfl, _, o2, os', _, rfl, ?_⟩
   rw [show 0 + i + 1 = i + 1 by omega, List.range_succ, List.map_append]
   exact o1)
  ⟨[], none, rfl, Ows.nil⟩
 rw [wY, Nat.zero_add] at ho
 have s5 := xr (st := true) (i := 5) (as := [sI c, sI (10 : Nat), sT (.str abc), sT (.lst (xs.map D.int)), sT (.str base), none, none, none]) (yz (v8 (zb (i := 0) rfl) (zc (x := .int 8)) (by decide) (yg (by decide) (by decide))) (vP (g := Xr) (x := .int base.length) (zJ (zb (i := 4) rfl) zQ) (if_pos lz) rfl) lb) (zG rfl)
 rw [hat] at s5
 refine ⟨(List.range 10).map (nm A B x8), by rw [zD, List.length_range], ?_, xT rfl (zq (xr (i := 2) zc (zG rfl)) (zq (Zg (p := 3) ws (zG rfl)) (zq (xr (i := 4) hm (zG rfl)) (zq s5 (zq (wy (i := 6) (vO yo (szl rfl)) (zG rfl)) (zq (wD (vR (zJ (zb rfl) zQ) (by decide) (by decide)) hf) (Ows.retB (i := 6) rfl ho)))))))⟩
 exact List.pairwise_map.mpr ((List.nodup_range (n := 10)).imp_of_mem λ ha hb hne he => hne (zpL (List.mem_range.mp ha) (List.mem_range.mp hb) he))
theorem zrQ {a b : EF} {as : AS} {d1 d2 : List D} (ha : WE a as (.lst d1)) (hb : WE b as (.lst d2)) : zkO (aC a (aC b aN)) as = some (Wo true d1 d2, as) := by
 have h := Yr ha (Yr hb (zQ (as := as)))
 unfold WA at h
 unfold zkO
 rw [h]; rfl
theorem zbW {g : GF} {tt : TF} {fe : EF} {as0 : AS} : ∀ {xs : List It1}, (∀ y ∈ xs, ∃ as1 b x, g y as0 = some as1 /\ WT tt as1 b /\ WD fe as1 true (.int x)) -> ∃ l : List Int, wJ g tt fe as0 xs = some (l.map lfI)
 | [], _ => ⟨[], rfl⟩
 | y :: xs, H => by
  obtain ⟨as1, b, x, h1, h2, h3⟩ := H y (zzC ..)
  obtain ⟨l, hl⟩ := zbW (g := g) (tt := tt) (fe := fe) (as0 := as0) (xs := xs) λ z m => H z (zzA _ m)
  cases b with
  | true => exact ⟨x :: l, zkS h1 h2 h3 hl⟩
  | false => exact ⟨l, zfF h1 h2 hl⟩
abbrev wz (p : Str × List Int) : D := .tup [.str p.1, yj p.2]
abbrev zoM : List Int := [1, 2, 4, 8, 16, 32, 64, 128]
theorem zkq (st : Bool) : ∀ (a b : List D), (Wo st a b).length <= b.length
 | [], b => Nat.zero_le _
 | _ :: _, [] => zzK _
 | _ :: a, _ :: b => Nat.succ_le_succ (zkq st a b)
theorem znb {c : Int} {n : Nat} {ns : List Str} (hn : n <= 8) (hl : ns.length <= 10) : ∃ ss : SS, ss.length <= 10 /\ RE (Zv [(true, .int c), (true, .int n), (true, .lst (ns.map D.str))]) (.lst (ss.map wz)) := by
 obtain ⟨xs, xl, hx, ws⟩ := stE (as := [sI c, sI n, sT (.lst (ns.map D.str)), sN [], none, none]) (a := fV 0) (b := fP Yq Xr) (c := c) (m := ns.length) (by omega) (WD.e (zb rfl)) (WD.e (vP (zJ (zb rfl) zQ) (by show some (R0.im (.int ((ns.map D.str).length : Int))) = _; rw [zD]) rfl))
 obtain ⟨as', hf, os, l, e4, e5, rfl, ho⟩ := wG (g := gT 2 (gsC Yt (gsC (gN 5) gsN))) (f := xO (wI 3 (dC (yN (dC vQ (dC (yc (xJ Zm xG) [none, some 4] xm (fT (f2 (f2 (f2 zE (f2 (xN (dC yq (dC xg (dC Zf (dC Y5 (dC (fC (.int 16)) (dC (fC (.int 32)) (dC (fC (.int 64)) (dC (fC (.int 128)) dN))))))))) zB ixP) zU) xg zH) yq (yf .Eq))) zB) dN))) dN) wO))
  (λ i as => ∃ (os : List O) (l : SS) (e4 e5 : Option O), as = [sI c, sI n, sT (.lst (ns.map D.str)), sN os, e4, e5] /\ Ows wz (λ _ => True) os l /\ l.length = i)
  (Wo true (xs.map D.int) (ns.map D.str)) 0 [sI c, sI n, sT (.lst (ns.map D.str)), sN [], none, none] (λ i x as hx' hI => by
   obtain ⟨os, l, e4, e5, rfl, ho, hlen⟩ := hI
   obtain ⟨d, e, z1, z2, rfl⟩ := W7 hx'
   have hil : i < ns.length := by have := (zzD.mp z2).1; rw [zD] at this; exact this
   obtain ⟨y, m1, rfl⟩ := zbI z1
   obtain ⟨s, m2, rfl⟩ := zbI z2
   obtain ⟨r, hr⟩ := zbW (g := gN 0) (as0 := [none, sI y]) (tt := fT (f2 (f2 (f2 zE (f2 (xN (dC yq (dC xg (dC Zf (dC Y5 (dC (fC (.int 16)) (dC (fC (.int 32)) (dC (fC (.int 64)) (dC (fC (.int 128)) dN))))))))) zB ixP) zU) xg zH) yq (yf .Eq))) (fe := fV 0) (xs := vH 0 n) λ w m => by
    obtain ⟨b, rfl, b0, b1⟩ := zdv m
    obtain ⟨q, q1, q2⟩ := Xh (r := zoM) (P := λ x => 0 < x /\ x < 1000) (k := b) b0 (by show b < 8; omega) (by decide)
    exact ⟨[sI b, sI y], _, b, rfl, zV (yD (yz (v8 (zb rfl) (f2E (vg (os := zoM.map lfI) (zu zc (zu zc (zu zc (zu zc (zu zc (zu zc (zu zc (zu zc yo)))))))) (szl rfl) rfl rfl) (WD.e (zb rfl)) q1) q2.1 (yg (by omega) (by omega))) zc (by decide)) zc rfl) rfl, zb rfl⟩
   have hc := V3 (as := [sI c, sI n, sT (.lst (ns.map D.str)), sN os, sI y, sT (.str s)]) (cap := [none, some 4]) (vR (zJ (zb (i := 1) rfl) zQ) (by omega) (by omega)) (by rw [wY]; exact szs (by omega)) hr
   obtain ⟨os', o1, o2⟩ := zhC (as := [sI c, sI n, sT (.lst (ns.map D.str)), sN os, sI y, sT (.str s)]) (x := (s, r)) (i := 3) (toD := wz) (Q := λ _ => True) rfl ho (by omega) (zhL (zu (zb (i := 5) rfl) (ZS hc yo)) (szl rfl) (by show (true && ((O.nd .ls (r.map lfI)).str && true)) = true; rw [(V9 r).1]; rfl) (by show D.tup [.str s, (O.nd .ls (r.map lfI)).toD] = _; rw [(V9 r).2])) trivial
   exact ⟨[sI c, sI n, sT (.lst (ns.map D.str)), sN os, sI y, sT (.str s)], rfl, _, o2, os', l ++ [(s, r)], _, _, rfl, o1, by rw [zzG, hlen]; show 0 + i + 1 = _; omega⟩)
  ⟨[], [], none, none, rfl, Ows.nil, rfl⟩
 have hz : l.length <= 10 := zzL (Nat.le_of_eq (ho.2.trans (Nat.zero_add _))) (zzL (zkq _ _ _) (zzL (Nat.le_of_eq (zD ..)) hl))
 exact ⟨l, hz, xT rfl (zq (wy (i := 3) (vO yo (szl rfl)) (zG rfl)) (zq (wD (zrQ ws (WD.e (zb rfl))) hf) (Ows.retB (i := 3) rfl ho.1)))⟩
theorem any_ints (b : Int) : ∀ r : List Int, ∃ t, anyF (λ y => eqF 50 y (.int b)) (r.map D.int) = some t
 | [] => ⟨_, rfl⟩
 | x :: r => by
  obtain ⟨t, h⟩ := any_ints b r
  refine ⟨(x == b) || t, ?_⟩
  show (some (x == b)).bind _ = _
  rw [Option.bind_some, h]; rfl
theorem zic {b : Int} : ∀ {r : List Int}, b ∈ r -> ∃ j : Nat, j < r.length /\ zfi (λ y => eqF 50 y (.int b)) (r.map D.int) = some j
 | x :: r, m => by
  by_cases e : x = b
  · obtain ⟨t, h⟩ := any_ints b r
    refine ⟨0, Nat.succ_pos _, ?_⟩
    show (some (x == b)).bind _ = _
    rw [Option.bind_some, show (x == b) = true by simp [e]]
    show (anyF _ (r.map D.int)).bind _ = _
    rw [h]; rfl
  · obtain ⟨j, h1, h2⟩ := zic (r := r) ((zI.mp m).resolve_left λ z => e z.symm)
    refine ⟨j + 1, Nat.succ_lt_succ h1, ?_⟩
    show (some (x == b)).bind _ = _
    rw [Option.bind_some, show (x == b) = false by simp [e]]
    show (zfi _ (r.map D.int)).bind _ = _
    rw [h2]; rfl
theorem zik {F : List Int} {n : Nat} (h : F.Perm (v9 n)) : Row n F /\ ∀ b : Int, 0 <= b -> b < n -> b ∈ F := by
 refine ⟨⟨by rw [h.length_eq, zD, List.length_range], λ x m => ?_⟩, λ b b0 b1 => h.mem_iff.mpr ?_⟩
 · obtain ⟨i, hi, rfl⟩ := List.mem_map.mp (h.mem_iff.mp m)
   have := List.mem_range.mp hi
   omega
 · exact List.mem_map.mpr ⟨b.toNat, List.mem_range.mpr (by omega), by omega⟩
theorem zrK {as : AS} {F : List Int} {n : Nat} {cap : List (Option Nat)} {fr : AF} (hF : F.Perm (v9 n)) (hn : n <= 8) (h1 : WA fr as [(true, .int n)]) (h2 : ∀ b : Int, gN 0 (true, .int b) (YM cap as) = some [sI b, sT (.lst (F.map D.int))]) :
 ∃ B, Row n B /\ WE (yc (xJ fr xG) cap xm yV (WL .lst zE WP Vz)) as (.lst (B.map D.int)) := by
 obtain ⟨r1, r2⟩ := zik hF
 obtain ⟨B, b1, b2, b3⟩ := Zb D.int (Q := λ x => 0 <= x /\ x < (n : Int)) (n := n) (cap := cap) (fe := WL .lst zE WP Vz) h1 (by omega) λ b b0 b1 => by
  obtain ⟨j, j1, j2⟩ := zic (r2 b b0 b1)
  refine ⟨_, (j : Int), h2 b, WD.e (zgn (zb rfl) rfl (zJ (zb rfl) zQ) ?_ rfl), by omega, by rw [r1.1] at j1; omega⟩
  show (zfi _ (F.map D.int)).bind _ = _
  rw [j2]
  show (if (F.map D.int).length <= 1000 then some (R0.im (.int j)) else none) = _
  rw [if_pos (by rw [zD, r1.1]; omega)]
 exact ⟨B, ⟨b1, b2⟩, b3⟩
theorem znT {f : EF} {g : GF} {as as' : AS} {x : D} (h : WE f as x) (hg : g (true, x) as = some as') : zgr f g as = some (.nx as') := by
 obtain ⟨o, h1, h2, h3⟩ := h
 exact zpP h1 (by rw [h2, h3]; exact hg)
theorem Yc {n : Nat} {r : List Int} (hr : Row n r) {k : Int} (h0 : 0 <= k) (h1 : k < n) : ∃ x, ixP (.lst (r.map D.int)) (.int k) = some (.im (.int x)) /\ 0 <= x /\ x < (n : Int) := Xh h0 (by rw [hr.1]; exact h1) hr.2
theorem zmG {k n : Nat} {T : TZ} (hT : Tab k n T) {i : Int} (h0 : 0 <= i) (h1 : i < k) : ∃ r, ixP (.lst (T.map yj)) (.int i) = some (.im (yj r)) /\ Row n r := zeK yj h0 (by rw [hT.1]; exact h1) hT.2
theorem zrO {as : AS} {F B : List Int} {J : TZ} {n : Nat} {fr : AF} {cap : List (Option Nat)} (hn : n <= 8) (hF : Row n F) (hB : Row n B) (hJ : Tab n n J) (h1 : WA fr as [(true, .int n)]) (h2 : ∀ a : Int, gN 0 (true, .int a) (YM cap as) = some [sI a, sT (.lst (F.map D.int)), sI n, sT (zT J), sT (.lst (B.map D.int))]) :
 ∃ T, Tab n n T /\ WE (yc (xJ fr xG) cap xm yV (yc (xJ Yq xG) [none, some 1, some 3, some 4, some 0] xm yV (f2 zE (f2 (f2 zR (f2 yI yW ixP) ixP) (f2 yI zB ixP) ixP) ixP))) as (zT T) := by
 obtain ⟨T, t1, t2, t3⟩ := Zb yj (Q := Row n) (n := n) (cap := cap) (fe := yc (xJ Yq xG) [none, some 1, some 3, some 4, some 0] xm yV (f2 zE (f2 (f2 zR (f2 yI yW ixP) ixP) (f2 yI zB ixP) ixP) ixP)) h1 (by omega) λ a a0 a1 => by
  obtain ⟨r, r1, r2, r3⟩ := Zb (as := [sI a, sT (.lst (F.map D.int)), sI n, sT (zT J), sT (.lst (B.map D.int))]) (u := true) D.int (Q := λ x => 0 <= x /\ x < (n : Int)) (n := n) (fr := aC zR aN) (cap := [none, some 1, some 3, some 4, some 0]) (fe := f2 zE (f2 (f2 zR (f2 yI yW ixP) ixP) (f2 yI zB ixP) ixP) ixP) (zJ (zb rfl) zQ) (by omega) λ b b0 b1 => by
   obtain ⟨p, p1, p2⟩ := Yc hB a0 a1
   obtain ⟨q, q1, q2⟩ := Yc hB b0 b1
   obtain ⟨t, t1, t2⟩ := zmG hJ p2.1 p2.2
   obtain ⟨v, v1, v2⟩ := Yc t2 q2.1 q2.2
   obtain ⟨w, w1, w2⟩ := Yc hF v2.1 v2.2
   exact ⟨[sI b, sT (.lst (F.map D.int)), sT (zT J), sT (.lst (B.map D.int)), sI a], w, rfl, WD.e (zM (zb rfl) (zM (yd (zb rfl) (zM (zb rfl) (zb rfl) p1 rfl) t1) (zM (zb rfl) (zb rfl) q1 rfl) v1 rfl) w1 rfl), w2⟩
  exact ⟨_, r, h2 a, r3, r1, r2⟩
 exact ⟨T, ⟨t1, t2⟩, t3⟩
abbrev xx (p : Str × TZ) : D := .tup [.str p.1, zT p.2]
abbrev zlK : EF := yc (Yg (fV 14)) [none, some 8, some 5, some 9] xm yV (yc (xJ Yq xG) [none, some 1, some 0, some 3] xm yV (f2 zE (f2 zR (f2 yI zB ixP) ixP) ixP))
theorem zrg {as : AS} {F B : List Int} {T : TZ} {m n : Nat} (hn : n <= 8) (hm : m <= 8) (hF : Row n F) (hB : Row n B) (hT : Tab m n T) (h1 : as[14]? = some (sT (zT T))) (h2 : ∀ d : D, gN 0 (true, d) (YM [none, some 8, some 5, some 9] as) = some [sT d, sT (.lst (F.map D.int)), sI n, sT (.lst (B.map D.int))]) :
 ∃ T', Tab m n T' /\ WE zlK as (zT T') := by
 obtain ⟨T', t1, t2, t3⟩ := Wr yj (Q := Row n) (cap := [none, some 8, some 5, some 9]) (g := gN 0) (fe := yc (xJ Yq xG) [none, some 1, some 0, some 3] xm yV (f2 zE (f2 zR (f2 yI zB ixP) ixP) ixP)) (zbw (f := fV 14) (as := as) (WD.e (zb h1))) (by rw [zD, zD, hT.1]; omega) λ y my => by
  rw [List.map_map] at my
  obtain ⟨r, mr, rfl⟩ := List.mem_map.mp my
  have hr := hT.2 r mr
  obtain ⟨l, l1, l2, l3⟩ := Zb (as := [sT (yj r), sT (.lst (F.map D.int)), sI n, sT (.lst (B.map D.int))]) (u := true) D.int (Q := λ x => 0 <= x /\ x < (n : Int)) (n := n) (fr := aC zR aN) (cap := [none, some 1, some 0, some 3]) (fe := f2 zE (f2 zR (f2 yI zB ixP) ixP) ixP) (zJ (zb rfl) zQ) (by omega) λ a a0 a1 => by
   obtain ⟨p, p1, p2⟩ := Yc hB a0 a1
   obtain ⟨v, v1, v2⟩ := Yc hr p2.1 p2.2
   obtain ⟨w, w1, w2⟩ := Yc hF v2.1 v2.2
   exact ⟨[sI a, sT (.lst (F.map D.int)), sT (yj r), sT (.lst (B.map D.int))], w, rfl, WD.e (zM (zb rfl) (zM (zb rfl) (zM (zb rfl) (zb rfl) p1 rfl) v1 rfl) w1 rfl), w2⟩
  exact ⟨_, l, h2 _, l3, l1, l2⟩
 rw [zD, zD] at t1
 exact ⟨T', ⟨by rw [t1, hT.1], t2⟩, t3⟩
structure Alg (n m : Nat) (J : TZ) (e : Int) (Ds : DZ) : Prop where
 n1 : 1 <= n
 n8 : n <= 8
 m1 : 1 <= m
 m6 : m <= 6
 j : Tab n n J
 e0 : 0 <= e
 en : e < n
 dl : Ds.length <= 6
 ds : ∀ p ∈ Ds, Tab m n p.2
 nd : (Ds.map (·.1)).Nodup
abbrev zA (n m : Nat) (J : TZ) (e : Int) (Ds : DZ) (S : SS) : D := .tup [.int n, .int m, zT J, .int e, .lst (Ds.map xx), .lst (S.map wz)]
theorem zna {A0 A1 A2 A3 A4 A6 A7 A10 A11 A15 : Option O} {F B : List Int} {Ds : List TZ} {ns : List Str} {m n : Nat} (hn : n <= 8) (hm : m <= 8) (hF : Row n F) (hB : Row n B) (hD : ∀ T ∈ Ds, Tab m n T) (hl : Ds.length <= ns.length) (hl8 : Ds.length <= 8) :
 ∃ os l e13 e14, Ows xx (λ p => Tab m n p.2) os l /\ l.map (·.1) = ns.take Ds.length /\ l.length = Ds.length /\ forL (gT 2 (gsC (gN 13) (gsC (gN 14) gsN))) (xO (wI 12 (dC (yN (dC (fV 13) (dC zlK dN))) dN) wO)) (Wo true (ns.map D.str) (Ds.map zT))
  [A0, A1, A2, A3, A4, sI n, A6, A7, sT (.lst (F.map D.int)), sT (.lst (B.map D.int)), A10, A11, sN [], none, none, A15]
  = some (.nx [A0, A1, A2, A3, A4, sI n, A6, A7, sT (.lst (F.map D.int)), sT (.lst (B.map D.int)), A10, A11, sN os, e13, e14, A15]) := by
 obtain ⟨as', hf, os, l, e13, e14, rfl, ho, hlm, hlen⟩ := wG (g := gT 2 (gsC (gN 13) (gsC (gN 14) gsN))) (f := xO (wI 12 (dC (yN (dC (fV 13) (dC zlK dN))) dN) wO))
  (λ i as => ∃ (os : List O) (l : DZ) (e13 e14 : Option O), as = [A0, A1, A2, A3, A4, sI n, A6, A7, sT (.lst (F.map D.int)), sT (.lst (B.map D.int)), A10, A11, sN os, e13, e14, A15] /\ Ows xx (λ p => Tab m n p.2) os l /\ l.map (·.1) = ns.take i /\ l.length = i)
  (Wo true (ns.map D.str) (Ds.map zT)) 0 [A0, A1, A2, A3, A4, sI n, A6, A7, sT (.lst (F.map D.int)), sT (.lst (B.map D.int)), A10, A11, sN [], none, none, A15] (λ i x as hx' hI => by
   obtain ⟨os, l, e13, e14, rfl, ho, hlm, hlen⟩ := hI
   obtain ⟨d, e, z1, z2, rfl⟩ := W7 hx'
   have hil : i < Ds.length := by have := (zzD.mp z2).1; rw [zD] at this; exact this
   obtain ⟨T, mT, rfl⟩ := zbI z2
   rw [zzF] at z1
   obtain ⟨s, s1, rfl⟩ := zzU.mp z1
   obtain ⟨T', t1, o, t2, t3, t4⟩ := zrg (as := [A0, A1, A2, A3, A4, sI n, A6, A7, sT (.lst (F.map D.int)), sT (.lst (B.map D.int)), A10, A11, sN os, sT (.str s), sT (zT T), A15]) hn hm hF hB (hD T mT) rfl (λ _ => rfl)
   obtain ⟨os', o1, o2⟩ := zhC (as := [A0, A1, A2, A3, A4, sI n, A6, A7, sT (.lst (F.map D.int)), sT (.lst (B.map D.int)), A10, A11, sN os, sT (.str s), sT (zT T), A15]) (x := (s, T')) (i := 12) (toD := xx) (Q := λ p => Tab m n p.2) rfl ho (by omega) (zhL (zu (zb (i := 13) rfl) (ZS t2 yo)) (szl rfl) (by show (true && (o.str && true)) = true; rw [t3]; rfl) (by show D.tup [.str s, o.toD] = _; rw [t4])) t1
   refine ⟨[A0, A1, A2, A3, A4, sI n, A6, A7, sT (.lst (F.map D.int)), sT (.lst (B.map D.int)), A10, A11, sN os, sT (.str s), sT (zT T), A15], rfl, _, o2, os', l ++ [(s, T')], _, _, rfl, o1, ?_, by rw [zzG, hlen]; show 0 + i + 1 = _; omega⟩
   rw [List.map_append, hlm, show 0 + i + 1 = i + 1 by omega, Nat.zero_add, List.take_succ, s1]; rfl)
  ⟨[], [], none, none, rfl, Ows.nil, rfl, rfl⟩
 rw [zaY, zD, zD, Nat.min_eq_right hl, Nat.zero_add] at hlm hlen
 exact ⟨os, l, e13, e14, ho, hlm, hlen, hf⟩
theorem znI (x : Int) : ∃ n : Nat, n <= 6 /\ ixP (.lst (([1, 2, 0, 4, 3, 2, 6, 5] : List Int).map D.int)) (.int (x % 8)) = some (.im (.int n)) := by
 obtain ⟨v, h1, h2⟩ := Xh (r := [1, 2, 0, 4, 3, 2, 6, 5]) (P := λ x => 0 <= x /\ x <= 6) (k := x % 8) (by omega) (by show x % 8 < 8; omega) (by decide)
 exact ⟨v.toNat, by omega, by rw [show ((v.toNat : Nat) : Int) = v by omega]; exact h1⟩
theorem zpx (x : Int) : ∃ n : Nat, n <= 4 /\ ixP (.lst (([1, 2, 1, 4, 0, 2, 3, 1] : List Int).map D.int)) (.int (x % 8)) = some (.im (.int n)) := by
 obtain ⟨v, h1, h2⟩ := Xh (r := [1, 2, 1, 4, 0, 2, 3, 1]) (P := λ x => 0 <= x /\ x <= 4) (k := x % 8) (by omega) (by show x % 8 < 8; omega) (by decide)
 exact ⟨v.toNat, by omega, by rw [show ((v.toNat : Nat) : Int) = v by omega]; exact h1⟩
theorem zaV {f : EF} {as : AS} {k : Int} (h : WD f as true (.int k)) : oS f as = some (some k, as) := by
 unfold oS
 unfold WD at h
 rw [h]; rfl
theorem zka {α : Type} (f : α -> D) (l : List α) (lo hi : Option Int) : ∃ l' : List α, l'.length <= l.length /\ PF.cutD (l.map f) lo hi = l'.map f := by
 unfold PF.cutD
 rw [zD, <- List.map_drop, <- List.map_take]
 exact ⟨_, by rw [zzP, List.length_drop]; omega, rfl⟩
theorem zoK {as : AS} {a b c d e f g h : Int} : WE (xN (dC (fC (.int a)) (dC (fC (.int b)) (dC (fC (.int c)) (dC (fC (.int d)) (dC (fC (.int e)) (dC (fC (.int f)) (dC (fC (.int g)) (dC (fC (.int h)) dN))))))))) as (.lst (([a, b, c, d, e, f, g, h] : List Int).map D.int)) :=
 vg (os := ([a, b, c, d, e, f, g, h] : List Int).map lfI) (zu zc (zu zc (zu zc (zu zc (zu zc (zu zc (zu zc (zu zc yo)))))))) (szl rfl) rfl rfl
theorem ziz {c c' : Int} : ∃ n m J e Ds S, Alg n m J e Ds /\ S.length <= 10 /\ RE (vC [(true, .int c), (true, .int c')]) (zA n m J e Ds S) := by
 obtain ⟨ys, hl, hy, ws⟩ := stE (as := [sI c, sI c', none, none, none, none, none, none, none, none, none, none, none, none, none, none]) (a := fV 1) (b := fC (.int 6)) (c := c') (m := 6) (by omega) (WD.e (zb rfl)) (WD.e zc)
 obtain ⟨y0, a0, _⟩ := at2 hy (k := 0) (by omega) (by omega)
 obtain ⟨y1, a1, _⟩ := at2 hy (k := 1) (by omega) (by omega)
 obtain ⟨y2, a2, _⟩ := at2 hy (k := 2) (by omega) (by omega)
 obtain ⟨y3, a3, _⟩ := at2 hy (k := 3) (by omega) (by omega)
 obtain ⟨y4, a4, _⟩ := at2 hy (k := 4) (by omega) (by omega)
 obtain ⟨y5, a5, _⟩ := at2 hy (k := 5) (by omega) (by omega)
 obtain ⟨w, w6, ew⟩ := znI y1
 obtain ⟨k, k4, ek⟩ := zpx y5
 have b3 : (2 : Int).natAbs < big := yg (by decide) (by decide)
 obtain ⟨m1, m11, m16, hC⟩ : ∃ m1 : Int, 1 <= m1 /\ m1 <= 6 /\ sIf (fT (f2 (f2 (f2 (f2 zR yL ixP) zaU zU) xg zH) yL (yf .Eq))) (zW true 3 (f2 yq (f2 (f2 (f2 zR yL ixP) (fC (.int 12)) zU) Zr zH) zK)) sNx
  [sI c, sI c', sT (.lst (ys.map D.int)), sI (1 + y0 % 6), none, none, none, none, none, none, none, none, none, none, none, none] = some (.nx [sI c, sI c', sT (.lst (ys.map D.int)), sI m1, none, none, none, none, none, none, none, none, none, none, none, none]) := by
  by_cases h : y0 / 6 % 2 = 0
  · exact ⟨1 + y0 / 12 % 3, by omega, by omega, wV (zV (yD (yz (v8 (zM (zb rfl) zc a0 rfl) zc (by decide) (yg (by decide) (by decide))) zc (by decide)) zc rfl) (by show some (y0 / 6 % 2 == 0) = _; simp [h])) (xr (i := 3) (xW zc (yz (v8 (zM (zb rfl) zc a0 rfl) zc (by decide) (yg (by decide) (by decide))) zc (by decide))) (zG rfl))⟩
  · exact ⟨1 + y0 % 6, by omega, by omega, ym (zV (yD (yz (v8 (zM (zb rfl) zc a0 rfl) zc (by decide) (yg (by decide) (by decide))) zc (by decide)) zc rfl) (by show some (y0 / 6 % 2 == 0) = _; simp [h])) rfl⟩
 obtain ⟨m, mm1, mm6, hE⟩ : ∃ m : Nat, 1 <= m /\ m <= 6 /\ sIf (fT (f2 yW Zr (yf .Gt))) (zW true 3 (f2 yq (f2 yI xg zH) zK)) sNx
  [sI c, sI c', sT (.lst (ys.map D.int)), sI m1, sI w, none, none, none, none, none, none, none, none, none, none, none] = some (.nx [sI c, sI c', sT (.lst (ys.map D.int)), sI m, sI w, none, none, none, none, none, none, none, none, none, none, none]) := by
  by_cases h : (3 : Int) < w
  · refine ⟨(1 + m1 % 2).toNat, by omega, by omega, ?_⟩
    rw [show (((1 + m1 % 2).toNat : Nat) : Int) = 1 + m1 % 2 by omega]
    exact wV (zV (zbf (zb rfl) zc) (congrArg some (decide_eq_true h))) (xr (i := 3) (xW zc (yz (zb rfl) zc (by decide))) (zG rfl))
  · refine ⟨m1.toNat, by omega, by omega, ?_⟩
    rw [show ((m1.toNat : Nat) : Int) = m1 by omega]
    exact ym (zV (zbf (zb rfl) zc) (congrArg some (decide_eq_false h))) rfl
 obtain ⟨n, J, Ds, n1, n8, hJ, dl, hD, hmade⟩ := znj (c := c) (m := m) (w := w) (by omega) (by omega)
 obtain ⟨F, hF, hord⟩ := zlN (c := y2) n1 n8
 obtain ⟨rF, _⟩ := zik hF
 obtain ⟨B, rB, hback⟩ := zrK (as := [sI c, sI c', sT (.lst (ys.map D.int)), sI m, sI w, sI n, sT (zT J), sT (.lst (Ds.map zT)), sT (.lst (F.map D.int)), none, none, none, none, none, none, none]) (cap := [none, some 8]) (fr := aC vQ aN) hF n8 (zJ (zb rfl) zQ) (λ b => rfl)
 obtain ⟨J', hJ', hjoin⟩ := zrO (as := [sI c, sI c', sT (.lst (ys.map D.int)), sI m, sI w, sI n, sT (zT J), sT (.lst (Ds.map zT)), sT (.lst (F.map D.int)), sT (.lst (B.map D.int)), none, none, none, none, none, none]) (cap := [none, some 8, some 5, some 6, some 9]) (fr := aC vQ aN) n8 rF rB hJ (zJ (zb rfl) zQ) (λ a => rfl)
 obtain ⟨ns, nl, nnd, hnames⟩ := zlV (c := y3)
 obtain ⟨os, l, e13, e14, ho, hlm, hlen, hf⟩ := zna (A0 := sI c) (A1 := sI c') (A2 := sT (.lst (ys.map D.int))) (A3 := sI m) (A4 := sI w) (A6 := sT (zT J)) (A7 := sT (.lst (Ds.map zT))) (A10 := sT (zT J')) (A11 := sT (.lst (ns.map D.str))) (A15 := none) (ns := ns.take 6) n8 (by omega) rF rB hD (by rw [zzP, nl]; omega) (by omega)
 obtain ⟨f0, ef, ff⟩ := Yc rF (k := 0) (by omega) (by omega)
 obtain ⟨ks, kl, ck⟩ := zka D.str ns (some 6) (some (6 + (k : Int)))
 obtain ⟨S, hSl, hS⟩ := znb (c := y4) (n := n) (ns := ks) n8 (by omega)
 refine ⟨n, m, J', f0, l, S, ⟨n1, n8, mm1, mm6, hJ', ff.1, ff.2, by omega, ho.al, ?_⟩, hSl, ?_⟩
 · rw [hlm]
   exact (nnd.sublist (List.take_sublist _ _)).sublist (List.take_sublist _ _)
 have z6 : WE (fSl wk oN (oS zaU) slP) [sI c, sI c', sT (.lst (ys.map D.int)), sI m, sI w, sI n, sT (zT J), sT (.lst (Ds.map zT)), sT (.lst (F.map D.int)), sT (.lst (B.map D.int)), sT (zT J'), sT (.lst (ns.map D.str)), sN [], none, none, none] (.lst ((ns.take 6).map D.str)) := by
  refine zbg (lo := none) (hi := some 6) (WD.e (zb rfl)) rfl (zaV zc) ?_
  have := zlG (xs := (ns.take 6).map D.str) (ys := (ns.drop 6).map D.str)
  rw [<- List.map_append, List.take_append_drop, zD, zzP, nl] at this
  exact this
 have zS : WE (zN (aC (f2 zR Zf ixP) (aC vQ (aC (fSl wk (oS zaU) (oS (f2 zaU (f2 (xN (dC yq (dC xg (dC yq (dC Zf (dC yL (dC xg (dC Zr (dC yq dN))))))))) (f2 (f2 zR zdj ixP) Y5 zH) ixP) zK)) slP) aN))) Zv) [sI c, sI c', sT (.lst (ys.map D.int)), sI m, sI w, sI n, sT (zT J), sT (.lst (Ds.map zT)), sT (.lst (F.map D.int)), sT (.lst (B.map D.int)), sT (zT J'), sT (.lst (ns.map D.str)), sN os, e13, e14, none] (.lst (S.map wz)) :=
  Z0 (WD.e (zM (zb rfl) zc a4 rfl)) (WD.e (zb rfl)) (zbg (lo := some 6) (hi := some (6 + (k : Int))) (WD.e (zb rfl)) (zaV zc) (zaV (xW zc (f2E zoK (WD.e (yz (zM (zb rfl) zc a5 rfl) zc (by decide))) ek))) (by show some (R0.fl (PF.cutD (ns.map D.str) (some 6) (some (6 + (k : Int))))) = _; rw [ck])) hS
 refine xT rfl (zq (Zg (p := 2) ws (zG rfl)) (zq (xr (i := 3) (xW zc (yz (zM (zb rfl) zc a0 rfl) zc (by decide))) (zG rfl)) (zq hC (zq (xr (i := 4) (f2E zoK (WD.e (yz (zM (zb rfl) zc a1 rfl) zc (by decide))) ew) (zG rfl)) (zq hE
  (zq (as1 := [sI c, sI c', sT (.lst (ys.map D.int)), sI m, sI w, sI n, sT (zT J), sT (.lst (Ds.map zT)), none, none, none, none, none, none, none, none]) (znT (Z0 (WD.e (zb rfl)) (WD.e (zb rfl)) (WD.e (zb rfl)) hmade) rfl)
  (zq (Zg (p := 8) (Yp (WD.e (zM (zb rfl) zc a2 rfl)) (WD.e (zb rfl)) hord) (zG rfl)) (zq (Zg (p := 9) hback (zG rfl)) (zq (Zg (p := 10) hjoin (zG rfl)) (zq (Zg (p := 11) (Yp (WD.e (zM (zb rfl) zc a3 rfl)) (WD.e zc) hnames) (zG rfl)) (zq (wy (i := 12) (vO yo (szl rfl)) (zG rfl)) (zq (wD (zrQ z6 (WD.e (zb rfl))) hf) (zq (Zg (p := 15) zS (zG rfl)) ?_)))))))))))))
 have e := wg (as := [sI c, sI c', sT (.lst (ys.map D.int)), sI m, sI w, sI n, sT (zT J), sT (.lst (Ds.map zT)), sT (.lst (F.map D.int)), sT (.lst (B.map D.int)), sT (zT J'), sT (.lst (ns.map D.str)), sN os, e13, e14, sT (.lst (S.map wz))]) (a := fV 5) (zb rfl) (wg (a := fV 3) (zb rfl) (wg (a := fV 10) (zb rfl) (wg (a := f2 (fV 8) yL ixP) (zM (zb rfl) zc ef rfl) (zcr (j := 12) (fr := dC (fV 15) dN) rfl (wg (a := fV 15) (zb rfl) rfl)))))
 rw [ho.frz] at e
 exact ⟨_, VM (zdy e (szl rfl)) rfl, rfl, rfl⟩
abbrev InR (n : Nat) (x : Int) : Prop := 0 <= x /\ x < (n : Int)
theorem zfu {c : Int} {n k : Nat} (hn : 0 < n) (hn8 : n <= 800) (hk : k <= 900) : ∃ ds : List Int, ds.length = k /\ (∀ x ∈ ds, InR n x) /\ RE (wL [(true, .int c), (true, .int n), (true, .int k)]) (.lst (ds.map D.int)) := by
 obtain ⟨as', hf, x, os, l, e4, rfl, ho, hlen⟩ := wG (g := gN 4) (f := zL (xO (wI 3 (dC (f2 zB zE zH) dN) wO)) (zW true 0 (f2 zB zE zU)))
  (λ i as => ∃ (x : Int) (os : List O) (l : List Int) (e4 : Option O), as = [sI x, sI n, sI k, sN os, e4] /\ Ows D.int (InR n) os l /\ l.length = i)
  (vH 0 k) 0 [sI c, sI n, sI k, sN [], none] (λ i y as hx' hI => by
   obtain ⟨x, os, l, e4, rfl, ho, hlen⟩ := hI
   obtain ⟨rfl, hi⟩ := Yk hx'
   obtain ⟨os', o1, o2⟩ := zhC (as := [sI x, sI n, sI k, sN os, sI (0 + i)]) (x := x % n) (i := 3) (toD := D.int) (Q := InR n) (a := f2 zB zE zH) rfl ho (by omega) (WD.e (yz (zb rfl) (zb rfl) (by omega))) (vZ hn)
   exact ⟨[sI x, sI n, sI k, sN os, sI (0 + i)], rfl, _, yw o2 (xr (i := 0) (v8 (zb rfl) (zb rfl) (by omega) (yg (by omega) (by omega))) (zG rfl)), x / n, os', l ++ [x % n], _, rfl, o1, by rw [zzG, hlen]; show 0 + i + 1 = _; omega⟩)
  ⟨c, [], [], none, rfl, Ows.nil, rfl⟩
 rw [wY] at hlen
 exact ⟨l, by omega, ho.al, xT rfl (zq (wy (i := 3) (vO yo (szl rfl)) (zG rfl)) (zq (wD (vR (zJ (zb rfl) zQ) (by omega) (by omega)) hf) (Ows.retB (i := 3) rfl ho)))⟩
theorem V1 {ns : List Int} {k : Int} {s t : Bool} (hk : 0 <= k) : ∃ x, zZ [(s, .lst (ns.map .int)), (t, .int k)] = sT (.int x) := by
 by_cases h : k < ((ns.map D.int).length : Int)
 · obtain ⟨x, hx⟩ := zod (ns := ns) hk (by rw [zD] at h; exact h)
   exact ⟨x, ZJ rfl (Zk (wV (zV (zfI (zb rfl) (vP (zJ (zb rfl) zQ) rfl rfl)) (congrArg some (decide_eq_true h))) (Za (zM (zb rfl) (zb rfl) hx rfl))))⟩
 · exact ⟨0, ZJ rfl (yw (ym (zV (zfI (zb rfl) (vP (zJ (zb rfl) zQ) rfl rfl)) (congrArg some (decide_eq_false h))) rfl) (Za zc))⟩
theorem znA {ds : List Int} {a n : Nat} (h : a + n <= ds.length) : slP (.lst (ds.map D.int)) (some (a : Int)) (some ((a + n : Nat) : Int)) = some (.fl (((ds.drop a).take n).map D.int)) := by
 show some (R0.fl (PF.cutD (ds.map D.int) (some (a : Int)) (some ((a + n : Nat) : Int)))) = _
 congr 2
 unfold PF.cutD
 rw [HT.zdt, HT.zdt, zD, Nat.min_eq_left h, Nat.min_eq_left (show a <= ds.length by omega), <- List.map_drop, <- List.map_take, Nat.add_sub_cancel_left]
theorem zjT {ds : List Int} {a n N : Nat} (h : a + n <= ds.length) (hd : ∀ x ∈ ds, InR N x) (e : n = N) : Row N ((ds.drop a).take n) := by
 refine ⟨by rw [zzP, List.length_drop]; omega, λ x m => hd x (List.mem_of_mem_drop (List.mem_of_mem_take m))⟩
theorem cutE {f fl fh : EF} {as : AS} {ds : List Int} {a n : Nat} {lo hi : Int} (h : a + n <= ds.length) (hf : WD f as true (.lst (ds.map D.int))) (h1 : WD fl as true (.int lo)) (h2 : WD fh as true (.int hi)) (e1 : lo = (a : Int)) (e2 : hi = ((a + n : Nat) : Int)) : WE (fSl f (oS fl) (oS fh) slP) as (yj ((ds.drop a).take n)) := by
 subst e1 e2
 exact zbg (lo := some (a : Int)) (hi := some ((a + n : Nat) : Int)) (WD.e hf) (zaV h1) (zaV h2) (znA h)
theorem zaP {α : Type} {f : α -> D} {l : List α} {i : Nat} {p : α} (h : l[i]? = some p) : ixP (.lst (l.map f)) (.int (i : Int)) = some (.im (f p)) := by
 have h := Y9 (xs := l.map f) (j := i) (v := f p) (by rw [zzF, h]; rfl)
 show imR (atI _ _) = _
 rw [h]; rfl
abbrev bdC : EF := yc (xJ Xo xG) [none, some 8, some 12, some 2] xm yV (fSl zE (oS (f2 zR (f2 yI zB zY) zK)) (oS (f2 (f2 zR (f2 yI zB zY) zK) yI zK)) slP)
abbrev bdB : SF := (zL (zW true 12 (f2 (f2 yq (f2 zR zR zY) zK) (f2 (f2 zR yI zY) wk zY) zK))
 (xO (wI 10 (dC (yN (dC (f2 (f2 Zc wk ixP) yL ixP) (dC bdC dN))) dN) wO)))
abbrev Y13 (n m : Nat) (a0 a1 a4 a5 a7 a9 : Option O) (Ds : DZ) (ds : List Int) (e10 e11 e12 : Option O) : AS :=
 [a0, a1, sI n, sI m, a4, a5, sT (.lst (Ds.map xx)), a7, sT (.lst (ds.map D.int)), a9, e10, e11, e12]
theorem zpt {n m : Nat} {a0 a1 a4 a5 a7 a9 : Option O} {Ds : DZ} {ds : List Int} (n1 : 1 <= n) (n8 : n <= 8) (m6 : m <= 6) (dl : Ds.length <= 6) (d1 : ds.length = 1 + n * n + n * m * Ds.length) (d2 : ∀ x ∈ ds, InR n x) :
 ∃ os l e11 e12, Ows xx (λ p => Tab m n p.2) os l /\ l.map (·.1) = Ds.map (·.1) /\ l.length = Ds.length /\ forL (gN 11) bdB (vH 0 Ds.length) (Y13 n m a0 a1 a4 a5 a7 a9 Ds ds (sN []) none none) = some (.nx (Y13 n m a0 a1 a4 a5 a7 a9 Ds ds (sN os) e11 e12)) := by
 have nn : n * n <= 64 := Nat.mul_le_mul n8 n8
 have nm : n * m <= 48 := Nat.mul_le_mul n8 m6
 obtain ⟨as', hf, os, l, e11, e12, rfl, ho, hlm, hlen⟩ := wG (g := gN 11) (f := bdB)
  (λ i as => ∃ (os : List O) (l : DZ) (e11 e12 : Option O), as = Y13 n m a0 a1 a4 a5 a7 a9 Ds ds (sN os) e11 e12 /\ Ows xx (λ p => Tab m n p.2) os l /\ l.map (·.1) = (Ds.map (·.1)).take i /\ l.length = i)
  (vH 0 Ds.length) 0 (Y13 n m a0 a1 a4 a5 a7 a9 Ds ds (sN []) none none) (λ i x as hx' hI => by
   obtain ⟨os, l, e11, e12, rfl, ho, hlm, hlen⟩ := hI
   obtain ⟨rfl, hi⟩ := Yk hx'
   rw [Int.zero_add] at hx' ⊢
   have g0 := zzB hi
   generalize Ds[i] = p at g0
   have hk : n * m * i + n * m <= n * m * Ds.length := by rw [<- Nat.mul_succ]; exact Nat.mul_le_mul_left _ hi
   have hk2 : n * m * i <= 288 := zzL (zzL (Nat.le_add_right _ _) hk) (Nat.mul_le_mul nm dl)
   have eat : ((1 + n * n + n * m * i : Nat) : Int) = 1 + n * n + n * m * i := by rw [Int.natCast_add, Int.natCast_add, zzS, zzS, zzS]; rfl
   have enm : ((n * m : Nat) : Int) = n * m := zzS n m
   obtain ⟨T, t1, t2, o, t3, t4, t5⟩ := Zb (as := Y13 n m a0 a1 a4 a5 a7 a9 Ds ds (sN os) (sI i) (sI ((1 + n * n + n * m * i : Nat) : Int))) (u := true) yj (Q := Row n) (n := m) (fr := aC yI aN) (cap := [none, some 8, some 12, some 2]) (fe := fSl zE (oS (f2 zR (f2 yI zB zY) zK)) (oS (f2 (f2 zR (f2 yI zB zY) zK) yI zK)) slP) (zJ (zb rfl) zQ) (by omega) λ c c0 c1 => by
    have ha : n * c.toNat + n <= n * m := by rw [<- Nat.mul_succ]; exact Nat.mul_le_mul_left n (by omega)
    have ec : (c.toNat : Int) = c := by omega
    have w : WD (f2 zR (f2 yI zB zY) zK) [sI c, sT (.lst (ds.map D.int)), sI ((1 + n * n + n * m * i : Nat) : Int), sI n] true (.int (((1 + n * n + n * m * i : Nat) : Int) + n * c)) := xW (zb rfl) (wX (zb rfl) (zb rfl) (yg (by omega) (by omega)) (yg (by omega) (by omega)))
    exact ⟨[sI c, sT (.lst (ds.map D.int)), sI ((1 + n * n + n * m * i : Nat) : Int), sI n], _, rfl, cutE (a := (1 + n * n + n * m * i) + n * c.toNat) (n := n) (by omega) (zb rfl) w (xW w (zb rfl)) (by rw [Int.natCast_add (1 + n * n + n * m * i), zzS n c.toNat, ec]) (by rw [Int.natCast_add (1 + n * n + n * m * i + n * c.toNat), Int.natCast_add (1 + n * n + n * m * i), zzS n c.toNat, ec]), zjT (by omega) d2 rfl⟩
   obtain ⟨os', o1, o2⟩ := zhC (as := Y13 n m a0 a1 a4 a5 a7 a9 Ds ds (sN os) (sI i) (sI ((1 + n * n + n * m * i : Nat) : Int))) (a := yN (dC (f2 (f2 Zc wk ixP) yL ixP) (dC bdC dN))) (x := (p.1, T)) (i := 10) (toD := xx) (Q := λ p => Tab m n p.2) rfl ho (by omega) (zhL (zu (zM (yd (zb (i := 6) rfl) (zb (i := 11) rfl) (zaP g0)) zc rfl rfl) (ZS t3 yo)) (szl rfl) (by show (true && (o.str && true)) = true; rw [t4]; rfl) (by show D.tup [.str p.1, o.toD] = _; rw [t5])) ⟨t1, t2⟩
   refine ⟨Y13 n m a0 a1 a4 a5 a7 a9 Ds ds (sN os) (sI i) e12, rfl, _, yw (as1 := Y13 n m a0 a1 a4 a5 a7 a9 Ds ds (sN os) (sI i) (sI ((1 + n * n + n * m * i : Nat) : Int))) ?_ o2, os', l ++ [(p.1, T)], _, _, rfl, o1, ?_, by rw [zzG, hlen]; show 0 + i + 1 = _; omega⟩
   · rw [eat]
     exact xr (i := 12) (xW (xW zc (wX (zb (i := 2) rfl) (zb (i := 2) rfl) (yg (by omega) (by omega)) (yg (by omega) (by omega)))) (wX (wX (zb (i := 2) rfl) (zb (i := 3) rfl) (yg (by omega) (by omega)) (yg (by omega) (by omega))) (zb (i := 11) rfl) (by rw [<- enm]; exact yg (by omega) (by omega)) (yg (by omega) (by omega)))) (zG rfl)
   · rw [List.map_append, hlm, show 0 + i + 1 = i + 1 by omega, Nat.zero_add, List.take_succ, zzF, g0]; rfl)
  ⟨[], [], none, none, rfl, Ows.nil, rfl, rfl⟩
 rw [wY, Nat.zero_add] at hlm hlen
 exact ⟨os, l, e11, e12, ho, by rw [hlm, <- zD (f := λ p : Str × TZ => p.1), List.take_length], hlen, hf⟩
theorem zgx {n m : Nat} {J : TZ} {e c : Int} {Ds : DZ} {S : SS} (A : Alg n m J e Ds) : ∃ J' e' Ds', Alg n m J' e' Ds' /\ RE (vz [(true, zA n m J e Ds S), (true, .int c)]) (zA n m J' e' Ds' S) := by
 have n1 := A.n1
 have n8 := A.n8
 have m6 := A.m6
 have dl := A.dl
 have nn : n * n <= 64 := Nat.mul_le_mul n8 n8
 have nm : n * m <= 48 := Nat.mul_le_mul n8 m6
 have nmd : n * m * Ds.length <= 288 := Nat.mul_le_mul nm dl
 obtain ⟨ds, d1, d2, d3⟩ := zfu (c := c) (n := n) (k := 1 + n * n + n * m * Ds.length) n1 (zzL n8 (by decide)) (by omega)
 obtain ⟨e', e1, e2⟩ := Xh (r := ds) (P := InR n) (k := 0) (by omega) (by omega) d2
 obtain ⟨J', j1, j2, j3⟩ := Zb (as := [sT (zA n m J e Ds S), sI c, sI n, sI m, sT (zT J), sI e, sT (.lst (Ds.map xx)), sT (.lst (S.map wz)), sT (.lst (ds.map D.int)), none, none, none, none]) (u := true) yj (Q := Row n) (n := n) (fr := aC zR aN) (cap := [none, some 8, some 2]) (fe := fSl zE (oS (f2 yq (f2 zR zB zY) zK)) (oS (f2 (f2 yq (f2 zR zB zY) zK) zR zK)) slP) (zJ (zb rfl) zQ) (by omega) λ a a0 a1 => by
  have ha : n * a.toNat + n <= n * n := by rw [<- Nat.mul_succ]; exact Nat.mul_le_mul_left n (by omega)
  have ea : (a.toNat : Int) = a := by omega
  have w : WD (f2 yq (f2 zR zB zY) zK) [sI a, sT (.lst (ds.map D.int)), sI n] true (.int (1 + n * a)) := xW zc (wX (zb rfl) (zb rfl) (yg (by omega) (by omega)) (yg (by omega) (by omega)))
  exact ⟨[sI a, sT (.lst (ds.map D.int)), sI n], _, rfl, cutE (a := 1 + n * a.toNat) (n := n) (by omega) (zb rfl) w (xW w (zb rfl)) (by rw [Int.natCast_add, zzS, ea]; rfl) (by rw [Int.natCast_add, Int.natCast_add, zzS, ea]; rfl), zjT (by omega) d2 rfl⟩
 obtain ⟨os, l, e11, e12, ho, hlm, hlen, hf⟩ := zpt (a0 := sT (zA n m J e Ds S)) (a1 := sI c) (a4 := sT (zT J)) (a5 := sI e) (a7 := sT (.lst (S.map wz))) (a9 := sT (zT J')) n1 n8 m6 dl d1 d2
 refine ⟨J', e', l, ⟨n1, n8, A.m1, m6, ⟨j1, j2⟩, e2.1, e2.2, by omega, ho.al, by rw [hlm]; exact A.nd⟩, ?_⟩
 have ek : ((1 + n * n + n * m * Ds.length : Nat) : Int) = 1 + n * n + n * m * ((Ds.map xx).length : Int) := by rw [Int.natCast_add, Int.natCast_add, zzS, zzS, zzS, zD]; rfl
 have enm : ((n * m : Nat) : Int) = n * m := zzS n m
 rw [ek] at d3
 refine xT rfl (zq (as1 := [sT (zA n m J e Ds S), sI c, sI n, sI m, sT (zT J), sI e, sT (.lst (Ds.map xx)), sT (.lst (S.map wz)), none, none, none, none, none]) (znT (WD.e (zb rfl)) rfl) (zq (Zg (p := 8) (Z0 (WD.e (zb rfl)) (WD.e (zb rfl)) (WD.e (xW (xW zc (wX (zb rfl) (zb rfl) (yg (by omega) (by omega)) (yg (by omega) (by omega)))) (wX (wX (zb rfl) (zb rfl) (yg (by omega) (by omega)) (yg (by omega) (by omega))) (vP (zJ (zb rfl) zQ) rfl rfl) (by rw [<- enm]; exact yg (by omega) (by omega)) (yg (by rw [zD]; omega) (by rw [zD]; omega))))) d3) (zG rfl)) (zq (Zg (p := 9) j3 (zG rfl)) (zq (wy (i := 10) (vO yo (szl rfl)) (zG rfl)) (zq (wD (vR (j := ((Ds.map xx).length : Int)) (zJ (vP (zJ (zb rfl) zQ) rfl rfl) zQ) (by omega) (by rw [zD]; omega)) (by rw [zD]; exact hf)) ?_)))))
 have q := wg (as := Y13 n m (sT (zA n m J e Ds S)) (sI c) (sT (zT J)) (sI e) (sT (.lst (S.map wz))) (sT (zT J')) Ds ds (sN os) e11 e12) (a := fV 2) (zb rfl) (wg (a := fV 3) (zb rfl) (wg (a := fV 9) (zb rfl) (wg (a := f2 (fV 8) yL ixP) (zM (zb rfl) zc e1 rfl) (zcr (j := 10) (fr := dC vK dN) rfl (wg (a := fV 7) (zb rfl) rfl)))))
 rw [ho.frz] at q
 exact ⟨_, VM (zdy q (szl rfl)) rfl, rfl, rfl⟩
abbrev zhS (T : TZ) : O := .nd .ls (T.map Ym)
abbrev v6 (p : Str × TZ) : O := .nd .tp [.lf true (.str p.1), zhS p.2]
abbrev zqr : EF := fP WP lstP
theorem zfM : ∀ T : TZ, wJ xm yV zqr [none] ((T.map yj).map λ d => (true, d)) = some (T.map Ym)
 | [] => rfl
 | r :: T => zeu (as1 := [sT (yj r)]) rfl (zoZ (zb rfl)) (vq r).2.1 (zfM T)
theorem zmK {f : EF} {as : AS} {T : TZ} (hl : T.length <= 1000) (h : WE f as (zT T)) : yc (Yg f) [none] xm yV zqr as = some (.ow (zhS T), as) :=
 V3 (zbw h) (by rw [zD, zD]; exact szs (by omega)) (zfM T)
theorem zcl (p : Str × TZ) : (v6 p).str = true /\ (v6 p).toD = xx p := by
 constructor
 · show (true && (O.strs (p.2.map Ym) && true)) = true
   rw [(V0 p.2).1]; rfl
 · show D.tup [.str p.1, .lst (O.toDs (p.2.map Ym))] = _
   rw [(V0 p.2).2]
theorem V5 : ∀ Ds : DZ, O.strs (Ds.map v6) = true /\ O.toDs (Ds.map v6) = Ds.map xx
 | [] => ⟨rfl, rfl⟩
 | p :: Ds => ⟨by show ((v6 p).str && O.strs (Ds.map v6)) = true; rw [(zcl p).1, (V5 Ds).1]; rfl, by
  show (v6 p).toD :: O.toDs (Ds.map v6) = _
  rw [(zcl p).2, (V5 Ds).2]; rfl⟩
abbrev zqY : EF := yN (dC zB (dC (yc (Yg zE) [none] xm yV zqr) dN))
theorem zlv {p : Str × TZ} (hl : p.2.length <= 1000) : zqY [sT (.str p.1), sT (zT p.2)] = some (.ow (v6 p), [sT (.str p.1), sT (zT p.2)]) :=
 zdE (os := [.lf true (.str p.1), zhS p.2]) (zu (zb (i := 0) rfl) (ZS (zmK hl (WD.e (zb (i := 1) rfl))) yo)) (szl rfl)
theorem zdX : ∀ Ds : DZ, (∀ p ∈ Ds, p.2.length <= 1000) -> wJ (gT 2 (gsC xm (gsC (gN 1) gsN))) yV zqY [none, none] ((Ds.map xx).map λ d => (true, d)) = some (Ds.map v6)
 | [], _ => rfl
 | p :: Ds, h => zeu (as1 := [sT (.str p.1), sT (zT p.2)]) rfl (zlv (h p (zzC ..))) (zcl p).1 (zdX Ds λ q m => h q (zzA _ m))
theorem We {as : AS} {i : Nat} {xs : List Int} {k x : Int} {s : Bool} (h : as[i]? = some (some (.lf s (.lst (xs.map D.int))))) (hk : 0 <= k) (hx : xs[k.toNat]? = some x) : xAt i (xC k) as = some x := by
 have e : (xs.map D.int)[k.toNat]? = some (.int x) := by rw [zzF, hx]; rfl
 unfold xAt xC
 show (if 0 <= k then _ else none : Option Int) = _
 rw [if_pos hk, zbC (f := zct) h rfl]
 show ((xs.map D.int)[k.toNat]?).bind asI = _
 rw [e]; rfl
theorem zca {as : AS} {i : Nat} {k : Int} {s : Bool} (h : as[i]? = some (some (.lf s (.int k)))) : xV i as = some k := by
 unfold xV; rw [zbC (f := zct) h rfl]; rfl
theorem zlO {as : AS} {i : Nat} {os : List O} (h : as[i]? = some (sN os)) : zmd i as = some (os.length : Int) := by
 unfold zmd; rw [zbC (f := Vt) h rfl]; rfl
theorem YJ {as : AS} {f g : IXF} {a b : Int} (h1 : f as = some a) (h2 : g as = some b) (hb : 0 < b) : Vi f g as = some (a % b) := by
 unfold Vi; simp only [h1, h2, Option.bind_some, if_pos hb]
theorem zlu {r : List Int} {k : Int} (h : k.toNat < r.length) : (r.map lfI)[k.toNat]? = sT (.int r[k.toNat]) := by
 rw [zzF, zzB h]; rfl
theorem zkX {as : AS} {i : Nat} {f1 f2 fv : IXF} {k1 k2 c : Int} {T : TZ} {r : List Int} (h1 : f1 as = some k1) (h2 : f2 as = some k2) (hv : fv as = some c) (p1 : 0 <= k1) (p2 : 0 <= k2) (hi : as[i]? = some (some (zhS T))) (hr : T[k1.toNat]? = some r) (hk : k2.toNat < r.length) :
 zhs i f1 f2 fv as = some (.nx (as.set i (some (zhS (T.set k1.toNat (r.set k2.toNat c)))))) := by
 have e1 : (T.map Ym)[k1.toNat]? = sN (r.map lfI) := by rw [zzF, hr]; rfl
 have e2 := zlu hk
 have e3 : (T.map Ym).set k1.toNat (.nd .ls ((r.map lfI).set k2.toNat (.lf true (.int c)))) = (T.set k1.toNat (r.set k2.toNat c)).map Ym := by
  rw [List.map_set]
  show _ = (T.map Ym).set k1.toNat (.nd .ls ((r.set k2.toNat c).map lfI))
  rw [List.map_set]
 unfold zhs
 simp only [h1, h2, hv, Option.bind_some, if_pos (show 0 <= k1 /\ 0 <= k2 from ⟨p1, p2⟩), (zbC hi rfl : slO Vt as i = some (T.map Ym)), (VL e1 rfl : atO Vt _ _ = some (r.map lfI)), (VL e2 rfl : atO zct _ _ = some (.int r[k2.toNat])), e3]
theorem zlj {as : AS} {y i : Nat} {f1 f2 f3 fv : IXF} {k1 k2 k3 c : Int} {Ds : DZ} {p : Str × TZ} {r : List Int} (h1 : f1 as = some k1) (h2 : f2 as = some k2) (h3 : f3 as = some k3) (hv : fv as = some c) (p1 : 0 <= k1) (p2 : 0 <= k2) (p3 : 0 <= k3) (hy : noS as y = true) (hi : as[i]? = some (sN (Ds.map v6))) (hp : Ds[k1.toNat]? = some p) (hr : p.2[k2.toNat]? = some r) (hk : k3.toNat < r.length) :
 zlE y i f1 1 f2 f3 fv as = some (.nx (as.set i (sN ((Ds.set k1.toNat (p.1, p.2.set k2.toNat (r.set k3.toNat c))).map v6)))) := by
 have e1 : (Ds.map v6)[k1.toNat]? = some (.nd .tp [.lf true (.str p.1), .nd .ls (p.2.map Ym)]) := by rw [zzF, hp]; rfl
 have e2 : ([.lf true (.str p.1), .nd .ls (p.2.map Ym)] : List O)[1]? = sN (p.2.map Ym) := rfl
 have e3 : (p.2.map Ym)[k2.toNat]? = sN (r.map lfI) := by rw [zzF, hr]; rfl
 have e4 := zlu hk
 have e6 : (p.2.map Ym).set k2.toNat (.nd .ls ((r.map lfI).set k3.toNat (.lf true (.int c)))) = (p.2.set k2.toNat (r.set k3.toNat c)).map Ym := by
  rw [List.map_set]
  show _ = (p.2.map Ym).set k2.toNat (.nd .ls ((r.set k3.toNat c).map lfI))
  rw [List.map_set]
 have e5 : (Ds.map v6).set k1.toNat (.nd .tp ([.lf true (.str p.1), .nd .ls (p.2.map Ym)].set 1 (.nd .ls ((p.2.set k2.toNat (r.set k3.toNat c)).map Ym)))) = (Ds.set k1.toNat (p.1, p.2.set k2.toNat (r.set k3.toNat c))).map v6 := by
  symm; rw [List.map_set]; rfl
 unfold zlE
 simp only [h1, h2, h3, hv, Option.bind_some, if_pos (show 0 <= k1 /\ 0 <= k2 /\ 0 <= k3 /\ noS as y = true from ⟨p1, p2, p3, hy⟩), (zbC hi rfl : slO Vt as i = some (Ds.map v6)), (VL e1 rfl : atO zoa _ _ = some [.lf true (.str p.1), .nd .ls (p.2.map Ym)]), (VL e2 rfl : atO Vt _ _ = some (p.2.map Ym)), (VL e3 rfl : atO Vt _ _ = some (r.map lfI)), (VL e4 rfl : atO zct _ _ = some (.int r[k3.toNat])), e6, e5]
theorem zsQ {as : AS} {i : Nat} {os : List O} {b : EF} (h : as[i]? = some (sN os)) (hb : b as = some (.ow (.nd .ls []), as)) : WD (f2 (fV i) b (yf .NotEq)) as true (.bl (!os.isEmpty)) := by
 have hc : yf .NotEq (O.nd .ls os).toD (.lst []) = some (.im (.bl (!os.isEmpty))) := by
  cases os with
  | nil => rfl
  | cons o r => rfl
 have hv : RV.view as (RV.ow (O.nd .ls [])).frz = some (.lst [], some true) := rfl
 have hi : RV.view as (RV.bo i).frz = some ((O.nd .ls os).toD, (O.nd .ls os).kl) := V7 h
 have hw : wrap (meet (O.nd .ls os).kl (some true)) (.im (.bl (!os.isEmpty))) = some (.ow (.lf true (.bl (!os.isEmpty)))) := by
  simp [wrap, yu, lfs]
 unfold WD f2
 rw [zbu h]
 simp only [Option.bind_some, hb, hi, hv, hc, hw]
theorem neB {as : AS} {i : Nat} {os : List O} (h : as[i]? = some (sN os)) : WD (f2 (fV i) (xN dN) (yf .NotEq)) as true (.bl (!os.isEmpty)) := zsQ h (vO yo (szl rfl))
theorem zjD {n i : Nat} {r : List Int} {c : Int} (hr : Row n r) (hc : InR n c) : Row n (r.set i c) := by
 refine ⟨by rw [zzR]; exact hr.1, λ x m => ?_⟩
 rcases List.mem_or_eq_of_mem_set m with m | rfl
 · exact hr.2 x m
 · exact hc
theorem zkd {k n i : Nat} {T : TZ} {r : List Int} (hT : Tab k n T) (hr : Row n r) : Tab k n (T.set i r) := by
 refine ⟨by rw [zzR]; exact hT.1, λ x m => ?_⟩
 rcases List.mem_or_eq_of_mem_set m with m | rfl
 · exact hT.2 x m
 · exact hr
theorem set_same {α : Type} : ∀ {l : List α} {i : Nat} {a : α}, l[i]? = some a -> l.set i a = l
 | [], _, _, h => by simp at h
 | x :: l, 0, a, h => by
  simp at h
  rw [h]; rfl
 | x :: l, i + 1, a, h => congrArg (x :: ·) (set_same (l := l) (i := i) (by simpa using h))
abbrev B13 (n m : Nat) (a0 a1 a4 a6 a7 : Option O) (xs : List Int) (w : Int) (e : Int) (J : TZ) (Ds : DZ) : AS :=
 [a0, a1, sI n, sI m, a4, sI e, a6, a7, sT (.lst (xs.map D.int)), some (zhS J), sN (Ds.map v6), sI w, none]
section
variable {n m : Nat} {a0 a1 a4 a6 a7 : Option O} {xs : List Int} {w e : Int} {J : TZ} {Ds : DZ}
theorem Wh (hl : xs.length = 8) (k : Nat) (hk : k < 8) : ∃ x, xs[k]? = some x /\ ixP (.lst (xs.map D.int)) (.int (k : Int)) = some (.im (.int x)) := by
 have g := zzB (l := xs) (i := k) (by omega)
 exact ⟨_, g, zaP g⟩
theorem zrE (hl : xs.length = 8) (n1 : 1 <= n) (he : InR n e) : ∃ e', InR n e' /\ sIf (fT (f2 wk yL (yf .Eq))) (zW true 5 (f2 (f2 (fV 8) yq ixP) zR zH)) sNx (B13 n m a0 a1 a4 a6 a7 xs w e J Ds) = some (.nx (B13 n m a0 a1 a4 a6 a7 xs w e' J Ds)) := by
 obtain ⟨x, _, hx⟩ := Wh hl 1 (by omega)
 by_cases h : w = 0
 · exact ⟨x % n, vZ n1, wV (zV (yD (zb (i := 11) rfl) zc rfl) (by show some (w == 0) = _; simp [h])) (xr (i := 5) (yz (zM (zb (i := 8) rfl) zc hx rfl) (zb (i := 2) rfl) (by omega)) (zG rfl))⟩
 · exact ⟨e, he, ym (zV (yD (zb (i := 11) rfl) zc rfl) (by show some (w == 0) = _; simp [h])) rfl⟩
theorem zqU (hl : xs.length = 8) (n1 : 1 <= n) (hJ : Tab n n J) : ∃ J', Tab n n J' /\ sIf (zfk (fT (f2 wk yq (yf .Eq))) (fT (f2 wk xg (yf .Eq)))) (zhs 9 (Vi (xAt 8 (xC 2)) (xV 2)) (Vi (xAt 8 (xC 3)) (xV 2)) (Vi (xAt 8 (xC 4)) (xV 2))) sNx (B13 n m a0 a1 a4 a6 a7 xs w e J Ds) = some (.nx (B13 n m a0 a1 a4 a6 a7 xs w e J' Ds)) := by
 obtain ⟨x2, g2, _⟩ := Wh hl 2 (by omega)
 obtain ⟨x3, g3, _⟩ := Wh hl 3 (by omega)
 obtain ⟨x4, g4, _⟩ := Wh hl 4 (by omega)
 have t1 : WT (fT (f2 wk yq (yf .Eq))) (B13 n m a0 a1 a4 a6 a7 xs w e J Ds) (w == 1) := zV (yD (zb (i := 11) rfl) zc rfl) rfl
 have t2 : WT (fT (f2 wk xg (yf .Eq))) (B13 n m a0 a1 a4 a6 a7 xs w e J Ds) (w == 2) := zV (yD (zb (i := 11) rfl) zc rfl) rfl
 have t : WT (zfk (fT (f2 wk yq (yf .Eq))) (fT (f2 wk xg (yf .Eq)))) (B13 n m a0 a1 a4 a6 a7 xs w e J Ds) (w == 1 || w == 2) := zhj t1 (λ h => by rw [h, Bool.false_or]; exact t2) (λ h => by rw [h]; rfl)
 cases hw : (w == 1 || w == 2) with
 | false => rw [hw] at t; exact ⟨J, hJ, ym t rfl⟩
 | true =>
  rw [hw] at t
  have m2 := vZ (x := x2) n1
  have m3 := vZ (x := x3) n1
  have m4 := vZ (x := x4) n1
  have hk : (x2 % (n : Int)).toNat < J.length := by rw [hJ.1]; omega
  have hr := zzB hk
  have hR := hJ.2 _ (List.getElem_mem hk)
  generalize J[(x2 % (n : Int)).toNat] = r at hr hR
  have hn : (0 : Int) < n := by omega
  exact ⟨_, zkd hJ (zjD hR m4), wV t (zkX (YJ (We (i := 8) rfl (by decide) g2) (zca (i := 2) rfl) hn) (YJ (We (i := 8) rfl (by decide) g3) (zca (i := 2) rfl) hn) (YJ (We (i := 8) rfl (by decide) g4) (zca (i := 2) rfl) hn) m2.1 m3.1 rfl hr (by rw [hR.1]; omega))⟩
theorem zrn (hl : xs.length = 8) (n1 : 1 <= n) (m1 : 1 <= m) (hD : ∀ p ∈ Ds, Tab m n p.2) : ∃ Ds', Ds'.map (·.1) = Ds.map (·.1) /\ (∀ p ∈ Ds', Tab m n p.2) /\ sIf (zdD (fT (f2 wk xg (yf .Gt))) (fT (f2 (fV 10) (xN dN) (yf .NotEq)))) (zlE 12 10 (Vi (xAt 8 (xC 5)) (zmd 10)) 1 (Vi (xAt 8 (xC 6)) (xV 3)) (Vi (xAt 8 (xC 7)) (xV 2)) (Vi (xAt 8 (xC 4)) (xV 2))) sNx (B13 n m a0 a1 a4 a6 a7 xs w e J Ds) = some (.nx (B13 n m a0 a1 a4 a6 a7 xs w e J Ds')) := by
 obtain ⟨x4, g4, _⟩ := Wh hl 4 (by omega)
 obtain ⟨x5, g5, _⟩ := Wh hl 5 (by omega)
 obtain ⟨x6, g6, _⟩ := Wh hl 6 (by omega)
 obtain ⟨x7, g7, _⟩ := Wh hl 7 (by omega)
 have t1 : WT (fT (f2 wk xg (yf .Gt))) (B13 n m a0 a1 a4 a6 a7 xs w e J Ds) (decide (2 < w)) := zV (zbf (zb (i := 11) rfl) zc) rfl
 have t2 : WT (fT (f2 (fV 10) (xN dN) (yf .NotEq))) (B13 n m a0 a1 a4 a6 a7 xs w e J Ds) (!(Ds.map v6).isEmpty) := zV (neB (i := 10) rfl) rfl
 have t : WT (zdD (fT (f2 wk xg (yf .Gt))) (fT (f2 (fV 10) (xN dN) (yf .NotEq)))) (B13 n m a0 a1 a4 a6 a7 xs w e J Ds) (decide (2 < w) && !(Ds.map v6).isEmpty) := zgK t1 (λ h => by rw [h, Bool.true_and]; exact t2) (λ h => by rw [h]; rfl)
 cases hw : (decide (2 < w) && !(Ds.map v6).isEmpty) with
 | false => rw [hw] at t; exact ⟨Ds, rfl, hD, ym t rfl⟩
 | true =>
  rw [hw] at t
  have hne : 0 < Ds.length := by
   cases Ds with
   | nil => simp at hw
   | cons p r => exact Nat.zero_lt_succ _
  have hlen : ((Ds.map v6).length : Int) = Ds.length := by rw [zD]
  have m4 := vZ (x := x4) n1
  have m5 := vZ (x := x5) hne
  have m6 := vZ (x := x6) m1
  have m7 := vZ (x := x7) n1
  have hk : (x5 % (Ds.length : Int)).toNat < Ds.length := by omega
  have hp := zzB hk
  have hP := hD _ (List.getElem_mem hk)
  generalize Ds[(x5 % (Ds.length : Int)).toNat] = p at hp hP
  have hk2 : (x6 % (m : Int)).toNat < p.2.length := by rw [hP.1]; omega
  have hr := zzB hk2
  have hR := hP.2 _ (List.getElem_mem hk2)
  generalize p.2[(x6 % (m : Int)).toNat] = r at hr hR
  have hn : (0 : Int) < n := by omega
  have hm : (0 : Int) < m := by omega
  refine ⟨Ds.set (x5 % (Ds.length : Int)).toNat (p.1, p.2.set (x6 % (m : Int)).toNat (r.set (x7 % (n : Int)).toNat (x4 % n))), ?_, λ q mq => ?_, wV t (zlj (YJ (We (i := 8) rfl (by decide) g5) (by rw [<- hlen]; exact zlO (i := 10) rfl) (by omega)) (YJ (We (i := 8) rfl (by decide) g6) (zca (i := 3) rfl) hm) (YJ (We (i := 8) rfl (by decide) g7) (zca (i := 2) rfl) hn) (YJ (We (i := 8) rfl (by decide) g4) (zca (i := 2) rfl) hn) m5.1 m6.1 m7.1 rfl rfl hp hr (by rw [hR.1]; omega))⟩
  · rw [List.map_set]
    exact set_same (by rw [zzF, hp]; rfl)
  · rcases List.mem_or_eq_of_mem_set mq with mq | rfl
    · exact hD q mq
    · exact zkd hP (zjD hR m4)
end
theorem znR (T : TZ) : (zhS T).frz = .lf true (zT T) := by
 show O.lf (O.strs _) (.lst (O.toDs _)) = _
 rw [(V0 T).1, (V0 T).2]
theorem zkV (Ds : DZ) : (O.nd .ls (Ds.map v6)).frz = .lf true (.lst (Ds.map xx)) := by
 show O.lf (O.strs _) (.lst (O.toDs _)) = _
 rw [(V5 Ds).1, (V5 Ds).2]
theorem zoe {n m : Nat} {J : TZ} {e c : Int} {Ds : DZ} {S : SS} (A : Alg n m J e Ds) : ∃ J' e' Ds', Alg n m J' e' Ds' /\ RE (YX [(true, zA n m J e Ds S), (true, .int c)]) (zA n m J' e' Ds' S) := by
 have n8 := A.n8
 have m6 := A.m6
 have dl := A.dl
 obtain ⟨xs, xl, hx, ws⟩ := stE (as := [sT (zA n m J e Ds S), sI c, sI n, sI m, sT (zT J), sI e, sT (.lst (Ds.map xx)), sT (.lst (S.map wz)), none, none, none, none, none]) (a := fV 1) (b := fC (.int 8)) (c := c) (m := 8) (by omega) (WD.e (zb rfl)) (WD.e zc)
 obtain ⟨x0, _, a0⟩ := Wh xl 0 (by omega)
 obtain ⟨e', he, s1⟩ := zrE (m := m) (a0 := sT (zA n m J e Ds S)) (a1 := sI c) (a4 := sT (zT J)) (a6 := sT (.lst (Ds.map xx))) (a7 := sT (.lst (S.map wz))) (w := x0 % 6) (J := J) (Ds := Ds) xl A.n1 ⟨A.e0, A.en⟩
 obtain ⟨J', hJ, s2⟩ := zqU (m := m) (a0 := sT (zA n m J e Ds S)) (a1 := sI c) (a4 := sT (zT J)) (a6 := sT (.lst (Ds.map xx))) (a7 := sT (.lst (S.map wz))) (w := x0 % 6) (e := e') (Ds := Ds) xl A.n1 A.j
 obtain ⟨Ds', hn, hD, s3⟩ := zrn (a0 := sT (zA n m J e Ds S)) (a1 := sI c) (a4 := sT (zT J)) (a6 := sT (.lst (Ds.map xx))) (a7 := sT (.lst (S.map wz))) (w := x0 % 6) (e := e') (J := J') xl A.n1 A.m1 A.ds
 have hlen : Ds'.length = Ds.length := by rw [<- zD (f := λ p : Str × TZ => p.1), hn, zD]
 refine ⟨J', e', Ds', ⟨A.n1, n8, A.m1, m6, hJ, he.1, he.2, by omega, hD, by rw [hn]; exact A.nd⟩, ?_⟩
 have c9 := wy (i := 9) (zmK (T := J) (f := fV 4) (as := [sT (zA n m J e Ds S), sI c, sI n, sI m, sT (zT J), sI e, sT (.lst (Ds.map xx)), sT (.lst (S.map wz)), sT (.lst (xs.map D.int)), none, none, none, none]) (by rw [A.j.1]; omega) (WD.e (zb rfl))) (zG rfl)
 have c10 := wy (i := 10) (V3 (cap := [none, none]) (zbw (f := fV 6) (as := [sT (zA n m J e Ds S), sI c, sI n, sI m, sT (zT J), sI e, sT (.lst (Ds.map xx)), sT (.lst (S.map wz)), sT (.lst (xs.map D.int)), some (zhS J), none, none, none]) (WD.e (zb rfl))) (by rw [zD, zD]; exact szs (by omega)) (zdX Ds λ p mp => by rw [(A.ds p mp).1]; omega)) (zG rfl)
 refine xT rfl (zq (as1 := [sT (zA n m J e Ds S), sI c, sI n, sI m, sT (zT J), sI e, sT (.lst (Ds.map xx)), sT (.lst (S.map wz)), none, none, none, none, none]) (znT (WD.e (zb rfl)) rfl) (zq (Zg (p := 8) ws (zG rfl)) (zq c9 (zq c10 (zq (xr (i := 11) (yz (zM (zb rfl) zc a0 rfl) zc (by decide)) (zG rfl)) (zq s1 (zq s2 (zq s3 ?_))))))))
 have q := wg (as := B13 n m (sT (zA n m J e Ds S)) (sI c) (sT (zT J)) (sT (.lst (Ds.map xx))) (sT (.lst (S.map wz))) xs (x0 % 6) e' J' Ds') (a := fV 2) (zb rfl) (wg (a := fV 3) (zb rfl) (zcr (j := 9) (fr := dC vQ (dC (fV 10) (dC vK dN))) rfl (wg (a := fV 5) (zb rfl) (zcr (j := 10) (fr := dC vK dN) rfl (wg (a := fV 7) (zb rfl) rfl)))))
 rw [znR, zkV] at q
 exact ⟨_, VM (zdy q (szl rfl)) rfl, rfl, rfl⟩
theorem zpu {ns : List Int} : ∃ n m J e Ds S, Alg n m J e Ds /\ S.length <= 10 /\ RE (Xn [(true, .lst (ns.map .int))]) (zA n m J e Ds S) := by
 obtain ⟨c, hc⟩ := V1 (ns := ns) (k := 2) (s := true) (t := true) (by omega)
 obtain ⟨c0, hc0⟩ := V1 (ns := ns) (k := 0) (s := true) (t := true) (by omega)
 obtain ⟨c1, hc1⟩ := V1 (ns := ns) (k := 1) (s := true) (t := true) (by omega)
 obtain ⟨n, m, J, e, Ds, S, A, hSl, hA⟩ := ziz (c := c0) (c' := c1)
 have s1 : zW true 1 (zN (aC zB (aC xg aN)) zZ) [sT (.lst (ns.map .int)), none, none] = some (.nx [sT (.lst (ns.map .int)), sI c, none]) := xr (i := 1) (Ws (zJ (zb rfl) (zJ zc zQ)) hc) (zG rfl)
 have s2 : zW true 2 (zN (aC (zN (aC zB (aC yL aN)) zZ) (aC (zN (aC zB (aC yq aN)) zZ) aN)) vC) [sT (.lst (ns.map .int)), sI c, none] = some (.nx [sT (.lst (ns.map .int)), sI c, sT (zA n m J e Ds S)]) :=
  Zg (p := 2) (Yp (WD.e (Ws (zJ (zb rfl) (zJ zc zQ)) hc0)) (WD.e (Ws (zJ (zb rfl) (zJ zc zQ)) hc1)) hA) (zG rfl)
 by_cases h : c % 2 = 1
 · obtain ⟨J', e', Ds', A', h'⟩ := zgx (c := c / 2) (S := S) A
   exact ⟨n, m, J', e', Ds', S, A', hSl, xT rfl (zq s1 (zq s2 (vI (ZQ (zV (yD (yz (zb rfl) zc (by decide)) zc rfl) (by show some (c % 2 == 1) = _; simp [h])) (wj (Yp (WD.e (zb rfl)) (WD.e (v8 (zb rfl) zc (by decide) (yg (by decide) (by decide)))) h'))))))⟩
 · obtain ⟨J', e', Ds', A', h'⟩ := zoe (c := c / 2) (S := S) A
   exact ⟨n, m, J', e', Ds', S, A', hSl, xT rfl (zq s1 (zq s2 (zq (ym (zV (yD (yz (zb rfl) zc (by decide)) zc rfl) (by show some (c % 2 == 1) = _; simp [h])) rfl) (wj (Yp (WD.e (zb rfl)) (WD.e (v8 (zb rfl) zc (by decide) (yg (by decide) (by decide)))) h')))))⟩
def rAt (r : List Int) (v : Int) : Int := (r[v.toNat]?).getD 0
def jAt (J : TZ) (w v : Int) : Int := rAt ((J[w.toNat]?).getD []) v
theorem XF {n : Nat} {r : List Int} {v : Int} (hr : Row n r) (hv : InR n v) : ixP (yj r) (.int v) = some (.im (.int (rAt r v))) /\ InR n (rAt r v) := by
 have hk : v.toNat < r.length := by rw [hr.1]; omega
 have g := zzB hk
 have e : rAt r v = r[v.toNat] := by unfold rAt; rw [g]; rfl
 rw [e]
 refine ⟨?_, hr.2 _ (List.getElem_mem hk)⟩
 have := zaP (f := D.int) g
 rw [show ((v.toNat : Nat) : Int) = v by omega] at this
 exact this
theorem X3 {k n : Nat} {T : TZ} {w : Int} (hT : Tab k n T) (hw : InR k w) : ixP (zT T) (.int w) = some (.im (yj ((T[w.toNat]?).getD []))) /\ Row n ((T[w.toNat]?).getD []) := by
 have hk : w.toNat < T.length := by rw [hT.1]; omega
 have g := zzB hk
 rw [g]
 refine ⟨?_, hT.2 _ (List.getElem_mem hk)⟩
 have := zaP (f := yj) g
 rw [show ((w.toNat : Nat) : Int) = w by omega] at this
 exact this
theorem zmR {n : Nat} {J : TZ} {w v : Int} (hJ : Tab n n J) (hw : InR n w) (hv : InR n v) : InR n (jAt J w v) := (XF (X3 hJ hw).2 hv).2
theorem zaL {a b c : EF} {as : AS} {n : Nat} {J : TZ} {w v : Int} (hJ : Tab n n J) (hw : InR n w) (hv : InR n v) (ha : WD a as true (zT J)) (hb : WD b as true (.int w)) (hc : WD c as true (.int v)) : WD (f2 (f2 a b ixP) c ixP) as true (.int (jAt J w v)) :=
 zM (yd ha hb (X3 hJ hw).1) hc (XF (X3 hJ hw).2 hv).1 rfl
abbrev ziI (p : Str × TZ) : Key × D := (.inr p.1, zT p.2)
theorem zcM : ∀ Ds : DZ, zaw (Ds.map xx) = some (Ds.map ziI)
 | [] => rfl
 | p :: Ds => by
  show (zaw (Ds.map xx)).bind _ = _
  rw [zcM Ds]; rfl
theorem zfR {p : Str × TZ} : ∀ {Ds : DZ}, p ∈ Ds -> (Ds.map (·.1)).Nodup -> zcq (Ds.map ziI) (.inr p.1) = some (zT p.2)
 | [], h, _ => nomatch h
 | q :: Ds, h, nd => by
  have nd' := zzT.mp (show (q.1 :: Ds.map (·.1)).Nodup from nd)
  by_cases e : q.1 = p.1
  · have : p = q := by
     rcases zI.mp h with h | h
     · exact h
     · exact absurd (List.mem_map_of_mem (f := λ p : Str × TZ => p.1) h) (by rw [<- e]; exact nd'.1)
    subst this
    unfold zcq
    simp
  · have hp : p ∈ Ds := by
     rcases zI.mp h with h | h
     · exact absurd (by rw [h]) e
     · exact h
    have ih := zfR hp nd'.2
    unfold zcq at ih ⊢
    rw [List.map_cons, List.find?_cons_of_neg (by simp [e])]
    exact ih
theorem keys_nodup {Ds : DZ} (nd : (Ds.map (·.1)).Nodup) : ((Ds.map ziI).map (·.1)).Nodup := by
 rw [List.map_map]
 exact List.pairwise_map.mpr ((List.pairwise_map.mp nd).imp λ h e => h (Sum.inr.inj e))
theorem zmS : ∀ (kvs : List (Key × D)), (kvs.map (·.1)).zip (kvs.map (·.2)) = kvs
 | [] => rfl
 | p :: r => congrArg (p :: ·) (zmS r)
theorem zqX {fr : AF} {as : AS} {rs : List (Bool × D)} {g : List D -> Option R0} {kvs : List (Key × D)} (ha : WA fr as rs) (hg : g (rs.map (·.2)) = some (.fd kvs)) : fP fr g as = some (.ow (.nd (.dc (kvs.map (·.1))) ((kvs.map (·.2)).map (lfs (rs.all (·.1))))), as) := by
 unfold fP; unfold WA at ha
 rw [ha]; show (views as _).bind _ = _
 rw [Xv]; show (g _).bind _ = _
 rw [hg]
 show (if ((kvs.map (·.2)).all yu || (some (rs.all (·.1))).isSome) = true then _ else _ : Option RV).bind _ = _
 rw [if_pos (by simp)]; rfl
theorem zsN {a : EF} {as : AS} {Ds : DZ} (nd : (Ds.map (·.1)).Nodup) (h : WE a as (.lst (Ds.map xx))) : WE (fP (aC a aN) zhH) as (.dct (Ds.map ziI)) := by
 have hg : zhH [.lst (Ds.map xx)] = some (.fd (Ds.map ziI)) := by
  show (zaw (Ds.map xx)).bind _ = _
  rw [zcM]
  exact if_pos (keys_nodup nd)
 have k := zqX (g := zhH) (Yr h (zQ (as := as))) hg
 rw [show ([(true, D.lst (Ds.map xx))].all (·.1)) = true from rfl, XX] at k
 generalize Ds.map ziI = kvs at k
 refine ⟨_, k, zeO _, ?_⟩
 show D.dct ((kvs.map (·.1)).zip (O.toDs ((kvs.map (·.2)).map (O.lf true)))) = _
 rw [zcN, zmS]
theorem eqS {k : Nat} {a : Str} : eqF (k + 1) (.str a) (.str a) = some true := by show some (a == a) = _; simp
abbrev sL (x : Int) : D := .tup [.str "left", .int x]
abbrev sR (x : Int) : D := .tup [.str "right", .int x]
abbrev sD (s : Str) (c : Int) : D := .tup [.str "deed", .str s, .int c]
inductive Stp (n m : Nat) (Ds : DZ) : D -> Prop
 | l {x : Int} (h : InR n x) : Stp n m Ds (sL x)
 | r {x : Int} (h : InR n x) : Stp n m Ds (sR x)
 | d {p : Str × TZ} {c : Int} (hp : p ∈ Ds) (h : InR m c) : Stp n m Ds (sD p.1 c)
abbrev dAt (p : Str × TZ) (c v : Int) : Int := rAt ((p.2[c.toNat]?).getD []) v
abbrev lsB : SF := (sIf (fT (f2 yI (f2 zE yq ixP) (yf .Eq))) (xf (f2 (f2 yW (f2 zE xg ixP) ixP) zR ixP)) sNx)
section
variable {n m : Nat} {J : TZ} {e : Int} {Ds : DZ} {S : SS} {d : D} {v : Int}
theorem zbR {p : Str × TZ} {c : Int} {B : Option O} (hT : Tab m n p.2) (h : InR m c) (hv : InR n v) : ∀ (Es : DZ) (e3 e4 : Option O), p ∈ Es -> (Es.map (·.1)).Nodup -> forL (gT 2 (gsC (gN 3) (gsC Yt gsN))) lsB ((Es.map xx).map λ d => (true, d)) [B, sT (sD p.1 c), sI v, e3, e4] = some (.rt (lfI (dAt p c v)))
 | [], _, _, h, _ => nomatch h
 | q :: Es, e3, e4, hm, nd => by
  have nd' := zzT.mp (show (q.1 :: Es.map (·.1)).Nodup from nd)
  by_cases eq : q.1 = p.1
  · have : p = q := by
     rcases zI.mp hm with h | h
     · exact h
     · exact absurd (List.mem_map_of_mem (f := λ p : Str × TZ => p.1) h) (by rw [<- eq]; exact nd'.1)
    subst this
    exact zhK (as1 := [B, sT (sD p.1 c), sI v, sT (.str p.1), sT (zT p.2)]) rfl (wV (zV (yD (c := true) (zb (i := 3) rfl) (yd (zb (i := 1) rfl) zc rfl) eqS) rfl) (Za (zM (yd (zb (i := 4) rfl) (yd (zb (i := 1) rfl) zc rfl) (X3 hT h).1) (zb (i := 2) rfl) (XF (X3 hT h).2 hv).1 rfl)))
  · have hp : p ∈ Es := by
     rcases zI.mp hm with h | h
     · exact absurd (by rw [h]) eq
     · exact h
    exact vV (as1 := [B, sT (sD p.1 c), sI v, sT (.str q.1), sT (zT q.2)]) rfl (ym (zV (yD (c := false) (zb (i := 3) rfl) (yd (zb (i := 1) rfl) zc rfl) (by show some (q.1 == p.1) = some false; simp [eq])) rfl) rfl) (zbR hT h hv Es _ _ hp nd'.2)
theorem zgt (A : Alg n m J e Ds) (hd : Stp n m Ds d) (hv : InR n v) : ∃ w, InR n w /\ vD [(true, zA n m J e Ds S), (true, d), (true, .int v)] = sI w /\ wH [(true, zA n m J e Ds S), (true, d), (true, .int v)] = sI w := by
 cases hd with
 | @l x h =>
  exact ⟨jAt J x v, zmR A.j h hv,
   ZJ rfl (Zk (wV (zV (yD (c := true) (yd (zb (i := 1) rfl) zc rfl) zc eqS) rfl) (Za (zaL A.j h hv (yd (zb (i := 0) rfl) zc rfl) (yd (zb (i := 1) rfl) zc rfl) (zb (i := 2) rfl))))),
   ZJ rfl (Zk (wV (zV (yD (c := true) (yd (zb (i := 1) rfl) zc rfl) zc eqS) rfl) (Za (zaL A.j h hv (yd (zb (i := 0) rfl) zc rfl) (yd (zb (i := 1) rfl) zc rfl) (zb (i := 2) rfl)))))⟩
 | @r x h =>
  exact ⟨jAt J v x, zmR A.j hv h,
   ZJ rfl (yw (ym (zV (yD (c := false) (yd (zb (i := 1) rfl) zc rfl) zc rfl) rfl) rfl) (Zk (wV (zV (yD (c := true) (yd (zb (i := 1) rfl) zc rfl) zc eqS) rfl) (Za (zaL A.j hv h (yd (zb (i := 0) rfl) zc rfl) (zb (i := 2) rfl) (yd (zb (i := 1) rfl) zc rfl)))))),
   ZJ rfl (yw (ym (zV (yD (c := false) (yd (zb (i := 1) rfl) zc rfl) zc rfl) rfl) rfl) (Zk (wV (zV (yD (c := true) (yd (zb (i := 1) rfl) zc rfl) zc eqS) rfl) (Za (zaL A.j hv h (yd (zb (i := 0) rfl) zc rfl) (zb (i := 2) rfl) (yd (zb (i := 1) rfl) zc rfl))))))⟩
 | @d p c hp h =>
  obtain ⟨t1, t2⟩ := X3 (A.ds p hp) h
  refine ⟨dAt p c v, (XF t2 hv).2, ?_, ?_⟩
  · exact ZJ rfl (yw (ym (zV (yD (c := false) (yd (zb (i := 1) rfl) zc rfl) zc rfl) rfl) rfl) (yw (ym (zV (yD (c := false) (yd (zb (i := 1) rfl) zc rfl) zc rfl) rfl) rfl) (Za (zM (yd (f2E (zsN A.nd (WD.e (yd (zb (i := 0) rfl) zc rfl))) (WD.e (yd (zb (i := 1) rfl) zc rfl)) (by show imR (zcq (Ds.map ziI) (.inr p.1)) = _; rw [zfR hp A.nd]; rfl)) (yd (zb (i := 1) rfl) zc rfl) t1) (zb (i := 2) rfl) (XF t2 hv).1 rfl))))
  · exact ZJ rfl (yw (ym (zV (yD (c := false) (yd (zb (i := 1) rfl) zc rfl) zc rfl) rfl) rfl) (yw (ym (zV (yD (c := false) (yd (zb (i := 1) rfl) zc rfl) zc rfl) rfl) rfl) (Zk (wD (zae (yd (zb (i := 0) rfl) zc rfl)) (zbR (A.ds p hp) h hv Ds none none hp A.nd)))))
@[irreducible] def stp (A d : D) (v : Int) : Int := match vD [(true, A), (true, d), (true, .int v)] with
 | some (.lf _ (.int w)) => w
 | _ => 0
theorem zax (A : Alg n m J e Ds) (hd : Stp n m Ds d) (hv : InR n v) : InR n (stp (zA n m J e Ds S) d v) /\ vD [(true, zA n m J e Ds S), (true, d), (true, .int v)] = sI (stp (zA n m J e Ds S) d v) /\ wH [(true, zA n m J e Ds S), (true, d), (true, .int v)] = sI (stp (zA n m J e Ds S) d v) := by
 obtain ⟨w, h1, h2, h3⟩ := zgt (S := S) A hd hv
 have : stp (zA n m J e Ds S) d v = w := by unfold stp; rw [h2]
 rw [this]; exact ⟨h1, h2, h3⟩
abbrev frm (A : D) (r : List D) (v : Int) : Int := r.foldl (λ w d => stp A d w) v
theorem zjw (A : Alg n m J e Ds) : ∀ (r : List D) (v : Int), (∀ d ∈ r, Stp n m Ds d) -> InR n v -> InR n (frm (zA n m J e Ds S) r v)
 | [], v, _, h => h
 | d :: r, v, hr, h => zjw A r _ (λ x m => hr x (zzA _ m)) (zax A (hr d (zzC ..)) h).1
abbrev frB : SF := zW true 3 (zN (aC zB (aC yW Xo)) vD)
theorem zdT {B C : Option O} (A : Alg n m J e Ds) : ∀ (t : List D) (w : Int) (e4 : Option O), (∀ d ∈ t, Stp n m Ds d) -> InR n w -> ∃ e4', forL Yt frB (t.map λ d => (true, d)) [sT (zA n m J e Ds S), B, C, sI w, e4] = some (.nx [sT (zA n m J e Ds S), B, C, sI (frm (zA n m J e Ds S) t w), e4'])
 | [], w, e4, _, _ => ⟨e4, rfl⟩
 | d :: t, w, e4, ht, hw => by
  obtain ⟨s1, s2, _⟩ := zax (S := S) A (ht d (zzC ..)) hw
  obtain ⟨e4', hf⟩ := zdT (B := B) (C := C) A t _ (sT d) (λ x m => ht x (zzA _ m)) s1
  exact ⟨e4', vV (as1 := [sT (zA n m J e Ds S), B, C, sI w, sT d]) rfl (xr (i := 3) (zcC (WD.e (zb (i := 0) rfl)) (WD.e (zb (i := 4) rfl)) (WD.e (zb (i := 3) rfl)) s2) (zG rfl)) hf⟩
theorem zfs {r : List D} (A : Alg n m J e Ds) (hr : ∀ d ∈ r, Stp n m Ds d) (hv : InR n v) : Zy [(true, zA n m J e Ds S), (true, .lst r), (true, .int v)] = sI (frm (zA n m J e Ds S) r v) := by
 obtain ⟨e4, hf⟩ := zdT (S := S) (B := sT (.lst r)) (C := sI v) A r v none hr hv
 exact ZJ rfl (yw (xr (i := 3) (zb (i := 2) rfl) (zG rfl)) (yw (wD (zae (zb (i := 1) rfl)) hf) (Za (zb (i := 3) rfl))))
abbrev sp1 : SF := (zW true 1 (f2 zE (xN (dC (yN (dC (fC (.str "left")) (dC zR dN))) (dC (yN (dC (fC (.str "right")) (dC zR dN))) dN))) zK))
abbrev sp2 : SF := (zW true 1 (f2 zE (yc (xJ (aC (f2 zB yq ixP) aN) xG) [none, some 3] xm yV (yN (dC (fC (.str "deed")) (dC zE (dC zB dN))))) zK))
theorem zkW {as : AS} {x : Int} (h : as[2]? = some (sI x)) : WE (xN (dC (yN (dC (fC (.str "left")) (dC zR dN))) (dC (yN (dC (fC (.str "right")) (dC zR dN))) dN))) as (.lst [sL x, sR x]) :=
 vg (os := [Y4 [.lf true (.str "left"), lfI x], Y4 [.lf true (.str "right"), lfI x]]) (ZS (zdE (zu zc (zu (zb h) yo)) (szl rfl)) (ZS (zdE (zu zc (zu (zb h) yo)) (szl rfl)) yo)) (szl rfl) rfl rfl
theorem zqH (A : Alg n m J e Ds) : ∃ (r : List D) (e2 : Option O), r.length = 2 * n /\ (∀ d ∈ r, Stp n m Ds d) /\ forL (gN 2) sp1 (vH 0 n) [sT (zA n m J e Ds S), sT (.lst []), none, none, none] = some (.nx [sT (zA n m J e Ds S), sT (.lst r), e2, none, none]) := by
 have n8 := A.n8
 obtain ⟨as', hf, r, e2, rfl, hl, hr⟩ := wG (g := gN 2) (f := sp1)
  (λ i as => ∃ (r : List D) (e2 : Option O), as = [sT (zA n m J e Ds S), sT (.lst r), e2, none, none] /\ r.length = 2 * i /\ ∀ d ∈ r, Stp n m Ds d)
  (vH 0 n) 0 [sT (zA n m J e Ds S), sT (.lst []), none, none, none] (λ i x as hx' hI => by
   obtain ⟨r, e2, rfl, hl, hr⟩ := hI
   obtain ⟨rfl, hi⟩ := Yk hx'
   have hx : InR n (0 + (i : Int)) := ⟨by omega, by omega⟩
   refine ⟨[sT (zA n m J e Ds S), sT (.lst r), sI (0 + i), none, none], rfl, _, Zg (p := 1) (zms (WD.e (zb (i := 1) rfl)) (zkW rfl) (add_lists (szs (by rw [hl]; show _ + 2 <= _; omega)))) (zG rfl), r ++ [sL (0 + i), sR (0 + i)], sI (0 + i), rfl, by rw [zzG, hl]; show _ + 2 = _; omega, λ d hd => ?_⟩
   rcases zzJ.mp hd with h | h
   · exact hr d h
   · rcases zI.mp h with rfl | h
     · exact .l hx
     · rcases zI.mp h with rfl | h
       · exact .r hx
       · exact nomatch h)
  ⟨[], none, rfl, rfl, λ _ h => nomatch h⟩
 rw [wY] at hl
 exact ⟨r, e2, by omega, hr, hf⟩
theorem zpp {r0 : List D} {e2 : Option O} (A : Alg n m J e Ds) (hl0 : r0.length = 2 * n) (hr0 : ∀ d ∈ r0, Stp n m Ds d) : ∃ (r : List D) (e3 e4 : Option O), 2 * n <= r.length /\ r.length <= 100 /\ (∀ d ∈ r, Stp n m Ds d) /\ forL (gT 2 (gsC (gN 3) (gsC Yt gsN))) sp2 ((Ds.map xx).map λ d => (true, d)) [sT (zA n m J e Ds S), sT (.lst r0), e2, none, none] = some (.nx [sT (zA n m J e Ds S), sT (.lst r), e2, e3, e4]) := by
 have n8 := A.n8
 have m6 := A.m6
 have dl := A.dl
 obtain ⟨as', hf, r, e3, e4, rfl, hl, hl2, hr⟩ := wG (g := gT 2 (gsC (gN 3) (gsC Yt gsN))) (f := sp2)
  (λ i as => ∃ (r : List D) (e3 e4 : Option O), as = [sT (zA n m J e Ds S), sT (.lst r), e2, e3, e4] /\ 2 * n <= r.length /\ r.length <= 2 * n + 6 * i /\ ∀ d ∈ r, Stp n m Ds d)
  ((Ds.map xx).map λ d => (true, d)) 0 [sT (zA n m J e Ds S), sT (.lst r0), e2, none, none] (λ i x as hx' hI => by
    obtain ⟨r, e3, e4, rfl, hl, hl2, hr⟩ := hI
    rw [List.map_map, zzF] at hx'
    obtain ⟨p, hp, rfl⟩ := zzU.mp hx'
    have hi : i < Ds.length := (zzD.mp hp).1
    have mp := List.mem_of_getElem? hp
    obtain ⟨l, l1, l2, l3⟩ := Zb (as := [sT (zA n m J e Ds S), sT (.lst r), e2, sT (.str p.1), sT (zT p.2)]) (u := true) (sD p.1) (Q := InR m) (n := m) (cap := [none, some 3]) (fr := aC (f2 zB yq ixP) aN) (fe := yN (dC (fC (.str "deed")) (dC zE (dC zB dN)))) (zJ (zM (zb (i := 0) rfl) zc rfl rfl) zQ) (by omega) λ b h0 h1 => ⟨[sI b, sT (.str p.1)], b, rfl, zhL (os := [.lf true (.str "deed"), .lf true (.str p.1), lfI b]) (zu zc (zu (zb (i := 1) rfl) (zu (zb (i := 0) rfl) yo))) (szl rfl) rfl rfl, h0, h1⟩
    refine ⟨_, rfl, _, Zg (p := 1) (zms (WD.e (zb (i := 1) rfl)) l3 (add_lists (szs (by rw [zD]; omega)))) (zG rfl), r ++ l.map (sD p.1), sT (.str p.1), sT (zT p.2), rfl, by rw [zzG]; omega, by rw [zzG, zD]; omega, λ d hd => ?_⟩
    rcases zzJ.mp hd with h | h
    · exact hr d h
    · obtain ⟨c, hc, rfl⟩ := List.mem_map.mp h
      exact .d mp (l2 c hc))
  ⟨r0, none, none, rfl, by omega, by omega, hr0⟩
 rw [zD, zD] at hl2
 exact ⟨r, e3, e4, hl, by omega, hr, hf⟩
theorem zmt (A : Alg n m J e Ds) : ∃ r : List D, 0 < r.length /\ r.length <= 100 /\ (∀ d ∈ r, Stp n m Ds d) /\ RE (Ye [(true, zA n m J e Ds S)]) (.lst r) := by
 have n1 := A.n1
 have n8 := A.n8
 obtain ⟨r0, e2, l0, h0, f0⟩ := zqH (S := S) A
 obtain ⟨r, e3, e4, l1, l2, h1, f1⟩ := zpp (S := S) (e2 := e2) A l0 h0
 exact ⟨r, by omega, l2, h1, xT rfl (zq (Zg (p := 1) (vg yo (szl rfl) rfl rfl) (zG rfl)) (zq (wD (vR (zJ (zM (zb (i := 0) rfl) zc rfl rfl) zQ) (by omega) (by omega)) (by rw [Int.toNat_natCast]; exact f0)) (zq (wD (zae (yd (zb (i := 0) rfl) zc rfl)) f1) (wj (WD.e (zb (i := 1) rfl))))))⟩
end
section
variable {n m : Nat} {J : TZ} {e : Int} {Ds : DZ} {S : SS} {v : Int}
theorem zjO {r : List D} {k : Int} {P : D -> Prop} (h0 : 0 <= k) (h1 : k < r.length) (hp : ∀ d ∈ r, P d) : ∃ d, ixP (.lst r) (.int k) = some (.im d) /\ P d := by
 have g := zzB (l := r) (i := k.toNat) (by omega)
 refine ⟨r[k.toNat], ?_, hp _ (List.getElem_mem (by omega))⟩
 have := zaP (f := λ d : D => d) g
 rw [List.map_id', show ((k.toNat : Nat) : Int) = k by omega] at this
 exact this
theorem zmk {ns : List Int} {r : List D} {P : D -> Prop} (hns : ns.length <= 63) (r0 : 0 < r.length) (r1 : r.length <= 100) (hr : ∀ d ∈ r, P d) : ∃ q : List D, q.length <= 63 /\ (∀ d ∈ q, P d) /\ RE (Yh [(true, .lst (ns.map .int)), (true, .lst r)]) (.lst q) := by
 obtain ⟨c, hc⟩ := V1 (ns := ns) (k := 3) (s := true) (t := true) (by omega)
 have s2 : zW true 2 (zN (aC zB (aC Zr aN)) zZ) [sT (.lst (ns.map .int)), sT (.lst r), none, none] = some (.nx [sT (.lst (ns.map .int)), sT (.lst r), sI c, none]) := xr (i := 2) (Ws (zJ (zb rfl) (zJ zc zQ)) hc) (zG rfl)
 by_cases h1 : c % 2 = 1
 · obtain ⟨ds, d1, d2, d3⟩ := zfu (c := c / 128) (n := r.length) (k := (c / 2 % 64 % 59).toNat) r0 (by omega) (by omega)
   rw [show (((c / 2 % 64 % 59).toNat : Nat) : Int) = c / 2 % 64 % 59 by omega] at d3
   have ws : WE (zN (aC (f2 zR (fC (.int 128)) zU) (aC (fP Zm Xr) (aC (f2 (f2 (f2 zR xg zU) (fC (.int 64)) zH) (fC (.int 59)) zH) aN))) wL) [sT (.lst (ns.map .int)), sT (.lst r), sI c, none] (.lst (ds.map D.int)) :=
    Z0 (WD.e (v8 (zb (i := 2) rfl) zc (by decide) (yg (by decide) (by decide)))) (WD.e (vP (zJ (zb (i := 1) rfl) zQ) rfl rfl)) (WD.e (yz (yz (v8 (zb (i := 2) rfl) zc (by decide) (yg (by decide) (by decide))) zc (by decide)) zc (by decide))) d3
   obtain ⟨q, q1, q2, q3⟩ := Wr (λ d : D => d) (Q := P) (cap := [none, some 1]) (g := gN 0) (fe := f2 zE zB ixP) (zbw ws) (by rw [zD, zD]; omega) λ y my => by
    rw [List.map_map] at my
    obtain ⟨z, mz, rfl⟩ := List.mem_map.mp my
    obtain ⟨d, g1, g2⟩ := zjO (d2 z mz).1 (d2 z mz).2 hr
    exact ⟨[sI z, sT (.lst r)], d, rfl, WD.e (yd (zb (i := 1) rfl) (zb (i := 0) rfl) g1), g2⟩
   rw [zD, zD] at q1
   rw [List.map_id'] at q3
   exact ⟨q, by omega, q2, xT rfl (zq s2 (vI (ZQ (zV (yD (yz (zb (i := 2) rfl) zc (by decide)) zc rfl) (by show some (c % 2 == 1) = _; simp [h1])) (wj q3))))⟩
 · obtain ⟨ks, kl, ck⟩ := zka D.int ns (some 5) (some 63)
   have s3 : zW true 3 (fSl zB (oS zdj) (oS (fC (.int 63))) slP) [sT (.lst (ns.map .int)), sT (.lst r), sI c, none] = some (.nx [sT (.lst (ns.map .int)), sT (.lst r), sI c, sT (.lst (ks.map D.int))]) :=
    Zg (p := 3) (zbg (lo := some 5) (hi := some 63) (WD.e (zb (i := 0) rfl)) (zaV zc) (zaV zc) (by show some (R0.fl (PF.cutD (ns.map D.int) (some 5) (some 63))) = _; rw [ck])) (zG rfl)
   have s4 : ∃ xs : List Int, xs.length <= 63 /\ sIf (fT (f2 (f2 zR Y5 zH) Zf (yf .Eq))) (zW true 3 (zN (aC zR (aC (fC (.int 40)) aN)) zO)) sNx [sT (.lst (ns.map .int)), sT (.lst r), sI c, sT (.lst (ks.map D.int))] = some (.nx [sT (.lst (ns.map .int)), sT (.lst r), sI c, sT (.lst (xs.map D.int))]) := by
    by_cases h4 : c % 8 = 4
    · obtain ⟨xs, xl, _, ws⟩ := stE (as := [sT (.lst (ns.map .int)), sT (.lst r), sI c, sT (.lst (ks.map D.int))]) (a := fV 2) (b := fC (.int 40)) (c := c) (m := 40) (by omega) (WD.e (zb (i := 2) rfl)) (WD.e zc)
      exact ⟨xs, by omega, wV (zV (yD (yz (zb (i := 2) rfl) zc (by decide)) zc rfl) (by show some (c % 8 == 4) = _; simp [h4])) (Zg (p := 3) ws (zG rfl))⟩
    · exact ⟨ks, by omega, ym (zV (yD (yz (zb (i := 2) rfl) zc (by decide)) zc rfl) (by show some (c % 8 == 4) = _; simp [h4])) rfl⟩
   obtain ⟨xs, xl, s4⟩ := s4
   obtain ⟨q, q1, q2, q3⟩ := Wr (as := [sT (.lst (ns.map .int)), sT (.lst r), sI c, sT (.lst (xs.map D.int))]) (λ d : D => d) (Q := P) (cap := [none, some 1]) (g := gN 0) (fe := f2 zE (f2 (f2 (zN (aC zB (aC yq aN)) zO) yL ixP) (fP Zm Xr) zH) ixP) (zbw (WD.e (zb (i := 3) rfl))) (by rw [zD, zD]; omega) λ y my => by
    rw [List.map_map] at my
    obtain ⟨z, _, rfl⟩ := List.mem_map.mp my
    obtain ⟨ys, yl, hy, ws⟩ := stE (as := [sI z, sT (.lst r)]) (a := fV 0) (b := fC (.int 1)) (c := z) (m := 1) (by omega) (WD.e (zb rfl)) (WD.e zc)
    obtain ⟨x0, a0, _⟩ := at2 hy (k := 0) (by omega) (by omega)
    have hi : InR r.length (x0 % (r.length : Int)) := vZ r0
    obtain ⟨d, g1, g2⟩ := zjO hi.1 hi.2 hr
    exact ⟨[sI z, sT (.lst r)], d, rfl, WD.e (yd (zb (i := 1) rfl) (yz (f2E ws (WD.e zc) a0) (vP (zJ (zb (i := 1) rfl) zQ) rfl rfl) (by omega)) g1), g2⟩
   rw [zD, zD] at q1
   rw [List.map_id'] at q3
   exact ⟨q, by omega, q2, xT rfl (zq s2 (zq (ym (zV (yD (yz (zb (i := 2) rfl) zc (by decide)) zc rfl) (by show some (c % 2 == 1) = some false; simp [h1])) rfl) (zq s3 (zq s4 (wj q3)))))⟩
end
def hld (S : SS) (v : Int) : List Bool := S.map λ p => decide (v ∈ p.2)
theorem ziZ (v : Int) : ∀ xs : List Int, inP (.int v) (yj xs) = some (decide (v ∈ xs))
 | [] => rfl
 | x :: xs => by
  have ih : anyF (λ y => eqF 50 y (.int v)) (xs.map D.int) = some (decide (v ∈ xs)) := ziZ v xs
  show (some (x == v)).bind (λ b => (anyF (λ y => eqF 50 y (.int v)) (xs.map D.int)).bind λ c => some (b || c)) = _
  rw [ih]
  show some ((x == v) || decide (v ∈ xs)) = _
  by_cases h : x = v
  · subst h; simp
  · have h' : ¬ v = x := λ z => h z.symm
    simp [h, h']
theorem zmj {a b : EF} {as : AS} {v : Int} {xs : List Int} (ha : WD a as true (.int v)) (hb : WD b as true (yj xs)) : WD (f2 a b (yf .In)) as true (.bl (decide (v ∈ xs))) :=
 zM ha hb (by show (inP (.int v) (yj xs)).bind _ = _; rw [ziZ]; rfl) rfl
theorem zmE {α : Type} {f : EF} {as : AS} {g : α -> D} {l : List α} (h : WE f as (.lst (l.map g))) : Yg f as = some (l.map λ a => (true, g a), as) := by
 have := zbw h
 rw [List.map_map] at this
 exact this
abbrev tsB : SF := (sIf (fT (f2 (f2 zE yW (yf .In)) (f2 zR yW (yf .In)) (yf .NotEq))) (xf yI) sNx)
theorem zib {B : Option O} {a b : Int} : ∀ (T : SS) (e3 e4 : Option O), (hld T a = hld T b /\ ∃ e3' e4', forL (gT 2 (gsC (gN 3) (gsC Yt gsN))) tsB ((T.map wz).map λ d => (true, d)) [B, sI a, sI b, e3, e4] = some (.nx [B, sI a, sI b, e3', e4'])) \/
 (hld T a ≠ hld T b /\ ∃ s, forL (gT 2 (gsC (gN 3) (gsC Yt gsN))) tsB ((T.map wz).map λ d => (true, d)) [B, sI a, sI b, e3, e4] = some (.rt (.lf true (.str s))))
 | [], e3, e4 => .inl ⟨rfl, e3, e4, rfl⟩
 | p :: T, e3, e4 => by
  have w1 : WD (f2 zE yW (yf .In)) [B, sI a, sI b, sT (.str p.1), sT (yj p.2)] true (.bl (decide (a ∈ p.2))) := zmj (zb (i := 1) rfl) (zb (i := 4) rfl)
  have w2 : WD (f2 zR yW (yf .In)) [B, sI a, sI b, sT (.str p.1), sT (yj p.2)] true (.bl (decide (b ∈ p.2))) := zmj (zb (i := 2) rfl) (zb (i := 4) rfl)
  have t := zV (zrd (c := decide (a ∈ p.2) == decide (b ∈ p.2)) w1 w2 rfl) rfl
  by_cases h : decide (a ∈ p.2) = decide (b ∈ p.2)
  · rw [h, beq_self_eq_true] at t
    rcases zib (B := B) (a := a) (b := b) T (sT (.str p.1)) (sT (yj p.2)) with ⟨h1, e3', e4', hf⟩ | ⟨h1, s, hf⟩
    · exact .inl ⟨by show decide (a ∈ p.2) :: hld T a = decide (b ∈ p.2) :: hld T b; rw [h, h1], e3', e4', vV (as1 := [B, sI a, sI b, sT (.str p.1), sT (yj p.2)]) rfl (ym t rfl) hf⟩
    · exact .inr ⟨λ z => h1 (List.cons.inj z).2, s, vV (as1 := [B, sI a, sI b, sT (.str p.1), sT (yj p.2)]) rfl (ym t rfl) hf⟩
  · rw [show (decide (a ∈ p.2) == decide (b ∈ p.2)) = false by simpa using h] at t
    exact .inr ⟨λ z => h (List.cons.inj z).1, p.1, zhK (as1 := [B, sI a, sI b, sT (.str p.1), sT (yj p.2)]) rfl (wV t (Za (zb (i := 3) rfl)))⟩
section
variable {n m : Nat} {J : TZ} {e : Int} {Ds : DZ} {S : SS} {v : Int}
theorem znH {a b : Int} : (hld S a = hld S b /\ xQ [(true, zA n m J e Ds S), (true, .int a), (true, .int b)] = sT .non) \/ (hld S a ≠ hld S b /\ ∃ s, xQ [(true, zA n m J e Ds S), (true, .int a), (true, .int b)] = sT (.str s)) := by
 rcases zib (B := sT (zA n m J e Ds S)) (a := a) (b := b) S none none with ⟨h, _, _, hf⟩ | ⟨h, s, hf⟩
 · exact .inl ⟨h, ZJ rfl (yw (wD (zae (yd (zb (i := 0) rfl) zc rfl)) hf) (Za zc))⟩
 · exact .inr ⟨h, s, ZJ rfl (Zk (wD (zae (yd (zb (i := 0) rfl) zc rfl)) hf))⟩
theorem zdp (sl : S.length <= 10) : RE (xX [(true, zA n m J e Ds S), (true, .int v)]) (.tup ((hld S v).map D.bl)) := by
 have w := zgZ (as := [sT (zA n m J e Ds S), sI v]) (h := λ p : Str × List Int => D.bl (decide (v ∈ p.2))) (it := λ p => (true, wz p)) (cap := [none, none, some 1]) (gg := gT 2 (gsC xm (gsC (gN 1) gsN))) (fe := f2 zR zE (yf .In)) (fi := Yg (f2 zB zdj ixP)) S (zmE (g := wz) (WD.e (yd (zb (i := 0) rfl) zc rfl))) (by omega) λ p mp => ⟨[sT (.str p.1), sT (yj p.2), sI v], rfl, WD.e (zmj (zb (i := 2) rfl) (zb (i := 1) rfl))⟩
 refine xT rfl (wj (znJ w ?_))
 show some (R0.im (.tup (S.map λ p => D.bl (decide (v ∈ p.2))))) = some (R0.im (.tup ((S.map λ p => decide (v ∈ p.2)).map D.bl)))
 rw [List.map_map]; rfl
theorem eqH (l : List Bool) : eqF 60 (.tup (l.map D.bl)) (.tup (l.map D.bl)) = some true := by
 show eqL (eqF 59) _ _ = _
 refine zhe λ x mx => ?_
 obtain ⟨b, _, rfl⟩ := List.mem_map.mp mx
 show some (b == b) = _
 simp
abbrev wkB : SF := (zL (sIf (fT (f2 (zN (aC zB Yq) xX) (zN (aC zB Xo) xX) (yf .NotEq))) (xf (fC (.bl false))) sNx)
 (zL (zW true 2 (zN (aC zB (aC yW Yq)) wH))
 (zW true 3 (zN (aC zB (aC yW Xo)) wH))))
def Rr (n m : Nat) (J : TZ) (e : Int) (Ds : DZ) (S : SS) (a b : Int) : Prop := ∀ r : List D, (∀ d ∈ r, Stp n m Ds d) -> hld S (frm (zA n m J e Ds S) r a) = hld S (frm (zA n m J e Ds S) r b)
theorem zhX {L : Option O} (A : Alg n m J e Ds) (sl : S.length <= 10) : ∀ (t : List D) (a b : Int) (e4 : Option O), (∀ d ∈ t, Stp n m Ds d) -> InR n a -> InR n b -> Rr n m J e Ds S a b -> ∃ e4', forL Yt wkB (t.map λ d => (true, d)) [sT (zA n m J e Ds S), L, sI a, sI b, e4] = some (.nx [sT (zA n m J e Ds S), L, sI (frm (zA n m J e Ds S) t a), sI (frm (zA n m J e Ds S) t b), e4'])
 | [], a, b, e4, _, _, _, _ => ⟨e4, rfl⟩
 | d :: t, a, b, e4, ht, ha, hb, hR => by
  have hd := ht d (zzC ..)
  obtain ⟨a1, _, a3⟩ := zax (S := S) A hd ha
  obtain ⟨b1, _, b3⟩ := zax (S := S) A hd hb
  obtain ⟨e4', hf⟩ := zhX (L := L) A sl t _ _ (sT d) (λ x m => ht x (zzA _ m)) a1 b1 λ r hr => hR (d :: r) λ x mx => (zI.mp mx).elim (λ z => z ▸ hd) (hr x)
  have h0 : hld S a = hld S b := hR [] λ _ m => nomatch m
  have t1 := zV (ziS (as := [sT (zA n m J e Ds S), L, sI a, sI b, sT d]) (Yp (WD.e (zb (i := 0) rfl)) (WD.e (zb (i := 2) rfl)) (zdp (n := n) (m := m) (J := J) (e := e) (Ds := Ds) (v := a) sl)) (Yp (WD.e (zb (i := 0) rfl)) (WD.e (zb (i := 3) rfl)) (zdp (v := b) sl)) (q := true) (by rw [h0]; exact eqH _)) rfl
  exact ⟨e4', vV (as1 := [sT (zA n m J e Ds S), L, sI a, sI b, sT d]) rfl (yw (ym t1 rfl) (yw (xr (i := 2) (zcC (WD.e (zb (i := 0) rfl)) (WD.e (zb (i := 4) rfl)) (WD.e (zb (i := 2) rfl)) a3) (zG rfl)) (xr (i := 3) (zcC (WD.e (zb (i := 0) rfl)) (WD.e (zb (i := 4) rfl)) (WD.e (zb (i := 3) rfl)) b3) (zG rfl)))) hf⟩
theorem zkF {r : List D} {a b : Int} (A : Alg n m J e Ds) (sl : S.length <= 10) (hr : ∀ d ∈ r, Stp n m Ds d) (ha : InR n a) (hb : InR n b) (hR : Rr n m J e Ds S a b) : vd [(true, zA n m J e Ds S), (true, .lst r), (true, .int a), (true, .int b)] = sT (.bl true) := by
 obtain ⟨e4, hf⟩ := zhX (L := sT (.lst r)) A sl r a b none hr ha hb hR
 exact ZJ rfl (yw (wD (zae (zb (i := 1) rfl)) hf) (Za (zgQ (Yp (WD.e (zb (i := 0) rfl)) (WD.e (zb (i := 2) rfl)) (zdp (n := n) (m := m) (J := J) (e := e) (Ds := Ds) (v := frm (zA n m J e Ds S) r a) sl)) (Yp (WD.e (zb (i := 0) rfl)) (WD.e (zb (i := 3) rfl)) (zdp (v := frm (zA n m J e Ds S) r b) sl)) (q := true) (by rw [hR r hr]; exact eqH _))))
end
abbrev stD (q : D × List Int) : D := .tup [q.1, yj q.2]
theorem zsf {a b : EF} {as : AS} {ds es : List D} (ha : WE a as (.lst ds)) (hb : WE b as (.lst es)) (hl : ds.length + es.length <= sizeLine) : f2 a b zK as = some (.ow (.nd .ls ((ds ++ es).map (O.lf true))), as) := by
 obtain ⟨o, h1, h2, h3⟩ := ha
 obtain ⟨p, k1, k2, k3⟩ := hb
 have e1 : RV.view as (.ow o.frz) = some (.lst ds, some true) := by
  show some (o.toD, some o.str) = _
  rw [h2, h3]
 have e2 : RV.view as (.ow p.frz) = some (.lst es, some true) := by
  show some (p.toD, some p.str) = _
  rw [k2, k3]
 unfold f2
 simp only [h1, k1, Option.bind_some, RV.frz, e1, e2]
 show ((zbK .Add (.lst ds) (.lst es)).bind _) = _
 rw [add_lists hl]
 show (if ((ds ++ es).all yu || true) = true then some (RV.ow (.nd .ls ((ds ++ es).map (lfs true)))) else none : Option RV).bind _ = _
 rw [if_pos (by simp), XX]; rfl
theorem zhM : ∀ (a b : List O), O.toDs (a ++ b) = O.toDs a ++ O.toDs b
 | [], _ => rfl
 | x :: a, b => congrArg (x.toD :: ·) (zhM a b)
theorem zid : ∀ {a b : List O}, O.strs a = true -> O.strs b = true -> O.strs (a ++ b) = true
 | [], _, _, h => h
 | x :: a, b, h, h' => by
  have h := (Bool.and_eq_true _ _).mp (show (x.str && O.strs a) = true from h)
  show (x.str && O.strs (a ++ b)) = true
  rw [h.1, zid h.2 h']; rfl
theorem zsG {α : Type} {toD : α -> D} {Q : α -> Prop} {as : AS} {fi : IF} {cap : List (Option Nat)} {g : GF} {fe : EF} {i : Nat} {os ps : List O} {l k : List α} {xs : List It1} (h : as[i]? = some (sN os)) (ho : Ows toD Q os l) (hi : fi as = some (xs, as)) (hx : xs.length <= 1000) (hc : wJ g yV fe (YM cap as) xs = some ps) (hs : O.strs ps = true) (hd : O.toDs ps = k.map toD) (hk : ∀ a ∈ k, Q a) (hl : l.length + k.length <= 1000) :
 xO (wI i (dC (yc fi cap g yV fe) dN) zkt) as = some (.nx (as.set i (sN (os ++ ps)))) /\ Ows toD Q (os ++ ps) (l ++ k) := by
 have hlp : ps.length = k.length := by have := congrArg List.length hd; rw [WW, zD] at this; exact this
 refine ⟨?_, zid ho.st hs, by rw [zhM, ho.ds, hd, List.map_append], λ a m => (zzJ.mp m).elim (ho.al a) (hk a), by rw [zzG, zzG, ho.ln, hlp]⟩
 have e1 : yc fi cap g yV fe as = some (.ow (.nd .ls ps), as) := V3 hi (szs (by omega)) hc
 unfold xO wI
 rw [h]
 show (((dC (yc fi cap g yV fe) dN as).bind _).bind _) = _
 unfold dC
 rw [e1]
 show ((match as[i]? with | some (some (.nd .ls os)) => (zkt os [.nd .ls ps]).bind λ z => some (RV.ow z.2, as.set i (sN z.1)) | _ => none).bind _) = _
 rw [h]
 show (((if os.length + ps.length <= sizeLine then some (os ++ ps, O.lf true .non) else none : Option (List O × O)).bind _).bind _) = _
 rw [if_pos (szs (by rw [ho.ln, hlp]; omega))]; rfl
section
variable {n m : Nat} {J : TZ} {e : Int} {Ds : DZ} {S : SS} {v : Int}
theorem zqR {x : Int} (A : Alg n m J e Ds) (h : InR n x) (hv : InR n v) : stp (zA n m J e Ds S) (sL x) v = jAt J x v := by
 have k : vD [(true, zA n m J e Ds S), (true, sL x), (true, .int v)] = sI (jAt J x v) := ZJ rfl (Zk (wV (zV (yD (c := true) (yd (zb (i := 1) rfl) zc rfl) zc eqS) rfl) (Za (zaL A.j h hv (yd (zb (i := 0) rfl) zc rfl) (yd (zb (i := 1) rfl) zc rfl) (zb (i := 2) rfl)))))
 unfold stp; rw [k]
theorem zra {x : Int} (A : Alg n m J e Ds) (h : InR n x) (hv : InR n v) : stp (zA n m J e Ds S) (sR x) v = jAt J v x := by
 have k : vD [(true, zA n m J e Ds S), (true, sR x), (true, .int v)] = sI (jAt J v x) := ZJ rfl (yw (ym (zV (yD (c := false) (yd (zb (i := 1) rfl) zc rfl) zc rfl) rfl) rfl) (Zk (wV (zV (yD (c := true) (yd (zb (i := 1) rfl) zc rfl) zc eqS) rfl) (Za (zaL A.j hv h (yd (zb (i := 0) rfl) zc rfl) (zb (i := 2) rfl) (yd (zb (i := 1) rfl) zc rfl))))))
 unfold stp; rw [k]
theorem zrw {p : Str × TZ} {c : Int} (A : Alg n m J e Ds) (hp : p ∈ Ds) (h : InR m c) (hv : InR n v) : stp (zA n m J e Ds S) (sD p.1 c) v = dAt p c v := by
 obtain ⟨t1, t2⟩ := X3 (A.ds p hp) h
 have k : wH [(true, zA n m J e Ds S), (true, sD p.1 c), (true, .int v)] = sI (dAt p c v) := ZJ rfl (yw (ym (zV (yD (c := false) (yd (zb (i := 1) rfl) zc rfl) zc rfl) rfl) rfl) (yw (ym (zV (yD (c := false) (yd (zb (i := 1) rfl) zc rfl) zc rfl) rfl) rfl) (Zk (wD (zae (yd (zb (i := 0) rfl) zc rfl)) (zbR (A.ds p hp) h hv Ds none none hp A.nd)))))
 have := (zax (S := S) A (.d hp h) hv).2.2
 rw [k] at this
 have := Option.some.inj this
 injection this with _ h2
 injection h2 with h3
 exact h3.symm
structure Gd (n m : Nat) (J : TZ) (e : Int) (Ds : DZ) (S : SS) (q : D × List Int) : Prop where
 s : Stp n m Ds q.1
 r : Row n q.2
 at_ : ∀ v, InR n v -> rAt q.2 v = stp (zA n m J e Ds S) q.1 v
abbrev tR (T : TZ) (x : Int) : List Int := (T[x.toNat]?).getD []
abbrev col (J : TZ) (x : Int) : List Int := J.map λ r => rAt r x
theorem zcf {x : Int} (h : x ∈ v9 n) : InR n x := by
 obtain ⟨i, hi, rfl⟩ := List.mem_map.mp h
 have := List.mem_range.mp hi
 exact ⟨by omega, by omega⟩
theorem zjl {x : Int} (h : InR n x) : x ∈ v9 n := List.mem_map.mpr ⟨x.toNat, List.mem_range.mpr (by have := h.1; have := h.2; omega), by have := h.1; omega⟩
theorem zrW {x : Int} (A : Alg n m J e Ds) (h : InR n x) : Gd n m J e Ds S (sL x, tR J x) := ⟨.l h, (X3 A.j h).2, λ v hv => (zqR A h hv).symm⟩
theorem zsP {x : Int} (A : Alg n m J e Ds) (h : InR n x) : Gd n m J e Ds S (sR x, col J x) := by
 refine ⟨.r h, ⟨by rw [zD]; exact A.j.1, λ y my => ?_⟩, λ v hv => ?_⟩
 · obtain ⟨r, mr, rfl⟩ := List.mem_map.mp my
   exact (XF (A.j.2 r mr) h).2
 · rw [zra A h hv]
   have hk : v.toNat < J.length := by have := hv.1; have := hv.2; have := A.j.1; omega
   unfold jAt
   rw [zzB hk]
   show rAt (J.map λ r => rAt r x) v = rAt J[v.toNat] x
   conv => lhs; unfold rAt
   rw [zzF, zzB hk]; rfl
theorem zsI {p : Str × TZ} {i : Nat} {r : List Int} (A : Alg n m J e Ds) (hp : p ∈ Ds) (h : p.2[i]? = some r) : Gd n m J e Ds S (sD p.1 i, r) := by
 have hT := A.ds p hp
 have hi : i < m := by have := (zzD.mp h).1; rw [hT.1] at this; exact this
 have hc : InR m (i : Int) := ⟨by omega, by omega⟩
 refine ⟨.d hp hc, hT.2 r (List.mem_of_getElem? h), λ v hv => ?_⟩
 rw [zrw A hp hc hv]
 show _ = rAt ((p.2[((i : Nat) : Int).toNat]?).getD []) v
 rw [Int.toNat_natCast, h]; rfl
abbrev asB : SF := (xO (wI 3 (dC (yc (zok vQ) [none, none, some 4] (gT 2 (gsC xm (gsC (gN 1) gsN))) yV (yN (dC (yN (dC (fC (.str "deed")) (dC zR (dC zB dN)))) (dC zE dN)))) dN) zkt))
theorem zjI : ∀ (T : TZ) (k : Nat), zac true k (T.map yj) = ((List.range' k T.length).zip T).map λ q => (true, D.tup [.int (q.1 : Int), yj q.2])
 | [], _ => rfl
 | r :: T, k => by
  show (true, D.tup [.int (k : Int), yj r]) :: zac true (k + 1) (T.map yj) = _
  rw [zjI T (k + 1)]; rfl
theorem zmZ (A : Alg n m J e Ds) {p : Str × TZ} (hp : p ∈ Ds) {B C L : Option O} {os : List O} {l : List (D × List Int)} (ho : Ows stD (Gd n m J e Ds S) os l) (hl : l.length + 6 <= 1000) :
 ∃ ps k, asB [B, C, L, sN os, sT (.str p.1), sT (zT p.2)] = some (.nx [B, C, L, sN (os ++ ps), sT (.str p.1), sT (zT p.2)]) /\ Ows stD (Gd n m J e Ds S) (os ++ ps) (l ++ k) /\ k.length = m /\ ∀ c, InR m c -> ∃ r, (sD p.1 c, r) ∈ k := by
 have hT := A.ds p hp
 have m6 := A.m6
 have hz : ∀ q ∈ (List.range' 0 p.2.length).zip p.2, p.2[q.1]? = some q.2 := λ q hq => by
  obtain ⟨i, hi⟩ := List.mem_iff_getElem?.mp hq
  obtain ⟨h1, h2⟩ := List.getElem?_zip_eq_some.mp hi
  have := (zzD.mp h1)
  obtain ⟨h3, h4⟩ := this
  rw [List.getElem_range'] at h4
  rw [<- h4]; simpa using h2
 obtain ⟨ps, c1, c2, c3⟩ := zcg (gg := gT 2 (gsC xm (gsC (gN 1) gsN))) (fe := yN (dC (yN (dC (fC (.str "deed")) (dC zR (dC zB dN)))) (dC zE dN))) (it := λ q : Nat × List Int => (true, D.tup [.int (q.1 : Int), yj q.2])) (h := λ q => stD (sD p.1 (q.1 : Int), q.2)) (as0 := [none, none, sT (.str p.1)]) ((List.range' 0 p.2.length).zip p.2) λ q hq => ⟨[sI q.1, sT (yj q.2), sT (.str p.1)], rfl, Wn (zhL (os := [.lf true (.str "deed"), .lf true (.str p.1), lfI q.1]) (zu zc (zu (zb (i := 2) rfl) (zu (zb (i := 0) rfl) yo))) (szl rfl) rfl rfl) (WD.e (zb (i := 1) rfl))⟩
 have hi : zok vQ [B, C, L, sN os, sT (.str p.1), sT (zT p.2)] = some (((List.range' 0 p.2.length).zip p.2).map λ q => (true, D.tup [.int (q.1 : Int), yj q.2]), [B, C, L, sN os, sT (.str p.1), sT (zT p.2)]) := by
  rw [<- zjI]; rfl
 have zl : ((List.range' 0 p.2.length).zip p.2).length = m := by rw [List.length_zip, List.length_range', Nat.min_self]; exact hT.1
 obtain ⟨x1, x2⟩ := zsG (i := 3) (cap := [none, none, some 4]) (k := ((List.range' 0 p.2.length).zip p.2).map λ q => (sD p.1 (q.1 : Int), q.2)) rfl ho hi (by rw [zD, zl]; omega) c1 c2 (by rw [c3, List.map_map]; rfl) (λ a ma => by
  obtain ⟨q, mq, rfl⟩ := List.mem_map.mp ma
  exact zsI A hp (hz q mq)) (by rw [zD, zl]; omega)
 refine ⟨ps, _, x1, x2, by rw [zD, zl], λ c hc => ?_⟩
 have hk : c.toNat < p.2.length := by have := hc.1; have := hc.2; have := hT.1; omega
 refine ⟨p.2[c.toNat], List.mem_map.mpr ⟨(c.toNat, p.2[c.toNat]), ?_, by rw [show ((c.toNat : Nat) : Int) = c by have := hc.1; omega]⟩⟩
 refine List.mem_iff_getElem?.mpr ⟨c.toNat, List.getElem?_zip_eq_some.mpr ⟨?_, zzB hk⟩⟩
 rw [List.getElem?_range' hk]; simp
end
section
variable {n m : Nat} {J : TZ} {e : Int} {Ds : DZ} {S : SS} {v : Int}
theorem zeC : (v9 n).length = n := by rw [zD, List.length_range]
theorem zgi (A : Alg n m J e Ds) : ∃ sts : List (D × List Int), sts.length <= 60 /\ (∀ q ∈ sts, Gd n m J e Ds S q) /\ (∀ d, Stp n m Ds d -> ∃ r, (d, r) ∈ sts) /\ RE (Zu [(true, zA n m J e Ds S)]) (.lst (sts.map stD)) := by
 have n8 := A.n8
 have m6 := A.m6
 have dl := A.dl
 have s1 : zW true 1 (f2 zB xg ixP) [sT (zA n m J e Ds S), none, none, none, none, none] = some (.nx [sT (zA n m J e Ds S), sT (zT J), none, none, none, none]) := xr (i := 1) (yd (zb (i := 0) rfl) zc rfl) (zG rfl)
 have w2 : WE (fP (aC (f2 zB yL ixP) aN) lrP) [sT (zA n m J e Ds S), sT (zT J), none, none, none, none] (yj (v9 n)) := ⟨_, ziP (x := .int n) (g := lrP) (zs := (v9 n).map D.int) (WD.e (yd (zb (i := 0) rfl) zc rfl)) (by
  show (if (0 : Int) <= n /\ (n : Int) <= 100000 then _ else _) = _
  rw [if_pos ⟨by omega, by omega⟩, List.map_map]; rfl), zeO _, congrArg D.lst (zcN _)⟩
 have s2 := Zg (p := 2) w2 (zG rfl)
 have ib : ∀ e3 e4 e5, Yg zR [sT (zA n m J e Ds S), sT (zT J), sT (yj (v9 n)), e3, e4, e5] = some ((v9 n).map λ x => (true, D.int x), [sT (zA n m J e Ds S), sT (zT J), sT (yj (v9 n)), e3, e4, e5]) := λ _ _ _ => zmE (g := D.int) (WD.e (zb (i := 2) rfl))
 have wl := zgZ (as := [sT (zA n m J e Ds S), sT (zT J), sT (yj (v9 n)), none, none, none]) (h := λ x => stD (sL x, tR J x)) (it := λ x : Int => (true, D.int x)) (cap := [none, some 1]) (gg := gN 0) (fe := yN (dC (yN (dC (fC (.str "left")) (dC zB dN))) (dC (f2 zE zB ixP) dN))) (v9 n) (ib none none none) (by rw [zeC]; omega) λ x mx => ⟨[sI x, sT (zT J)], rfl, Wn (Wn (WD.e zc) (WD.e (zb (i := 0) rfl))) (WD.e (yd (zb (i := 1) rfl) (zb (i := 0) rfl) (X3 A.j (zcf mx)).1))⟩
 have wr := zgZ (as := [sT (zA n m J e Ds S), sT (zT J), sT (yj (v9 n)), none, none, none]) (h := λ x => stD (sR x, col J x)) (it := λ x : Int => (true, D.int x)) (cap := [none, some 1]) (gg := gN 0) (fe := yN (dC (yN (dC (fC (.str "right")) (dC zB dN))) (dC (yc (Yg zE) [none, some 0] xm yV (f2 zB zE ixP)) dN))) (v9 n) (ib none none none) (by rw [zeC]; omega) λ x mx => ⟨[sI x, sT (zT J)], rfl, by
  have wc := zgZ (as := [sI x, sT (zT J)]) (h := λ r => D.int (rAt r x)) (it := λ r : List Int => (true, yj r)) (cap := [none, some 0]) (gg := gN 0) (fe := f2 zB zE ixP) (fi := Yg zE) J (zmE (g := yj) (WD.e (zb (i := 1) rfl))) (by rw [A.j.1]; omega) λ r mr => ⟨[sT (yj r), sI x], rfl, WD.e (zM (zb (i := 0) rfl) (zb (i := 1) rfl) (XF (A.j.2 r mr) (zcf mx)).1 rfl)⟩
  have ec : (J.map λ r => D.int (rAt r x)) = (col J x).map D.int := by rw [List.map_map]; rfl
  rw [ec] at wc
  exact Wn (Wn (WD.e zc) (WD.e (zb (i := 0) rfl))) wc⟩
 have s3 := wy (i := 3) (zsf wl wr (szs (by simp only [zD, List.length_range]; omega))) (zG rfl)
 have l0 : Ows stD (Gd n m J e Ds S) ((((v9 n).map λ x => stD (sL x, tR J x)) ++ ((v9 n).map λ x => stD (sR x, col J x))).map (O.lf true)) (((v9 n).map λ x => (sL x, tR J x)) ++ ((v9 n).map λ x => (sR x, col J x))) := by
  refine ⟨zeO _, ?_, λ q mq => ?_, ?_⟩
  · rw [zcN]
    simp only [List.map_append, List.map_map]
    rfl
  · rcases zzJ.mp mq with h | h
    · obtain ⟨x, mx, rfl⟩ := List.mem_map.mp h
      exact zrW A (zcf mx)
    · obtain ⟨x, mx, rfl⟩ := List.mem_map.mp h
      exact zsP A (zcf mx)
  · simp only [zD, zzG]
 obtain ⟨as', hf, os, l, e4, e5, rfl, ho, hl, hx, hd⟩ := wG (g := gT 2 (gsC Yt (gsC (gN 5) gsN))) (f := asB)
  (λ i as => ∃ (os : List O) (l : List (D × List Int)) (e4 e5 : Option O), as = [sT (zA n m J e Ds S), sT (zT J), sT (yj (v9 n)), sN os, e4, e5] /\ Ows stD (Gd n m J e Ds S) os l /\ l.length <= 16 + 6 * i /\ (∀ x, InR n x -> (∃ r, (sL x, r) ∈ l) /\ ∃ r, (sR x, r) ∈ l) /\ ∀ p ∈ Ds.take i, ∀ c, InR m c -> ∃ r, (sD p.1 c, r) ∈ l)
  ((Ds.map xx).map λ d => (true, d)) 0 [sT (zA n m J e Ds S), sT (zT J), sT (yj (v9 n)), sN ((((v9 n).map λ x => stD (sL x, tR J x)) ++ ((v9 n).map λ x => stD (sR x, col J x))).map (O.lf true)), none, none] (λ i x as hx' hI => by
    obtain ⟨os, l, e4, e5, rfl, ho, hl, hx, hd⟩ := hI
    rw [List.map_map, zzF] at hx'
    obtain ⟨p, hp, rfl⟩ := zzU.mp hx'
    have hi : i < Ds.length := (zzD.mp hp).1
    have mp := List.mem_of_getElem? hp
    rw [Nat.zero_add] at hl hd ⊢
    obtain ⟨ps, k, x1, x2, x3, x4⟩ := zmZ A mp (B := sT (zA n m J e Ds S)) (C := sT (zT J)) (L := sT (yj (v9 n))) ho (by omega)
    refine ⟨[sT (zA n m J e Ds S), sT (zT J), sT (yj (v9 n)), sN os, sT (.str p.1), sT (zT p.2)], rfl, _, x1, _, _, _, _, rfl, x2, by rw [zzG, x3]; omega, λ x hxx => ?_, λ q mq c hc => ?_⟩
    · obtain ⟨⟨r, h1⟩, r', h2⟩ := hx x hxx
      exact ⟨⟨r, zzM _ h1⟩, r', zzM _ h2⟩
    · rw [List.take_succ, hp] at mq
      rcases zzJ.mp mq with h | h
      · obtain ⟨r, h1⟩ := hd q h c hc
        exact ⟨r, zzM _ h1⟩
      · have : q = p := by simpa using h
        subst this
        obtain ⟨r, h1⟩ := x4 c hc
        exact ⟨r, zzI _ h1⟩)
  ⟨_, _, none, none, rfl, l0, by simp only [zD, zzG, List.length_range]; omega, λ x hx => ⟨⟨_, zzM _ (List.mem_map.mpr ⟨x, zjl hx, rfl⟩)⟩, _, zzI _ (List.mem_map.mpr ⟨x, zjl hx, rfl⟩)⟩, λ p hp => by simp at hp⟩
 rw [zD, zD, Nat.zero_add] at hl hd
 rw [List.take_length] at hd
 refine ⟨l, by omega, ho.al, λ d hs => ?_, xT rfl (zq s1 (zq s2 (zq s3 (zq (wD (zae (yd (zb (i := 0) rfl) zc rfl)) hf) (Ows.retB (i := 3) rfl ho)))))⟩
 cases hs with
 | l h => exact (hx _ h).1
 | r h => exact (hx _ h).2
 | d hp h => exact hd _ hp _ h
end
abbrev pD (p : Int × Int) : D := .tup [.int p.1, .int p.2]
abbrev kP (p : Int × Int) : List Key := [.inl p.1, .inl p.2]
theorem zpz (ds : List D) : (ds.map (O.lf true)).all O.isLf = true := by
 rw [List.all_eq_true]
 intro x mx
 obtain ⟨d, _, rfl⟩ := List.mem_map.mp mx
 rfl
theorem zmH {k : PF.Kind} (ds : List D) : (O.nd k (ds.map (O.lf true))).kl = some true := by
 show (if (ds.map (O.lf true)).all O.isLf = true then some (O.strs (ds.map (O.lf true))) else none) = _
 rw [if_pos (zpz ds), zeO]
theorem ziM {as : AS} {i : Nat} {b : EF} {g : D -> D -> Option R0} {k : PF.Kind} {ds : List D} {X y z : D} (h : as[i]? = some (some (.nd k (ds.map (O.lf true))))) (hX : (O.nd k (ds.map (O.lf true))).toD = X) (hb : WD b as true y) (hg : g X y = some (.im z)) : WE (f2 (fV i) b g) as z := by
 have e2 : RV.view as (.bo i) = some (X, some true) := by rw [V7 h, zmH, hX]
 refine ⟨.lf (yu z || true) z, ?_, Bool.or_true _, rfl⟩
 unfold WD at hb
 unfold f2
 simp only [zbu h, hb, Option.bind_some, RV.frz, e2]
 show ((g X y).bind _) = _
 rw [hg]
 show ((if (yu z || true) = true then some (RV.ow (lfs true z)) else none : Option RV).bind _) = _
 rw [if_pos (Bool.or_true _)]; rfl
theorem zqx {as : AS} {i : Nat} {a : EF} {g : D -> D -> Option R0} {k : PF.Kind} {ds : List D} {X x z : D} (ha : WD a as true x) (h : as[i]? = some (some (.nd k (ds.map (O.lf true))))) (hX : (O.nd k (ds.map (O.lf true))).toD = X) (hg : g x X = some (.im z)) : WE (f2 a (fV i) g) as z := by
 have e2 : RV.view as (.bo i) = some (X, some true) := by rw [V7 h, zmH, hX]
 refine ⟨.lf (yu z || true) z, ?_, Bool.or_true _, rfl⟩
 unfold WD at ha
 unfold f2
 simp only [zbu h, ha, Option.bind_some, RV.frz, e2]
 show ((g x X).bind _) = _
 rw [hg]
 show ((if (yu z || true) = true then some (RV.ow (lfs true z)) else none : Option RV).bind _) = _
 rw [if_pos (Bool.or_true _)]; rfl
theorem zjj {p q : Int × Int} (h : kP p = kP q) : p = q := by
 obtain ⟨a, b⟩ := p
 obtain ⟨c, d⟩ := q
 have h1 := (List.cons.inj h).1
 have h2 := (List.cons.inj (List.cons.inj h).2).1
 have e1 : a = c := Sum.inl.inj h1
 have e2 : b = d := Sum.inl.inj h2
 rw [e1, e2]
theorem zdr {p : Int × Int} : ∀ {ps : List (Int × Int)} {fs : List D}, ps.length = fs.length -> p ∈ ps -> ∃ x ∈ fs, zbL (ps.map kP) fs (kP p) = some x
 | [], _, _, h => nomatch h
 | q :: ps, [], h, _ => by simp at h
 | q :: ps, f :: fs, hl, h => by
  unfold zbL
  rw [List.map_cons, List.zip_cons_cons]
  by_cases e : q = p
  · rw [List.find?_cons_of_pos (by simp [e])]; exact ⟨f, zzC .., rfl⟩
  · rw [List.find?_cons_of_neg (by simpa using λ z : kP q = kP p => e (zjj z))]
    obtain ⟨x, mx, hx⟩ := zdr (ps := ps) (fs := fs) (by simpa using hl) ((zI.mp h).resolve_left λ z => e z.symm)
    exact ⟨x, zzA _ mx, hx⟩
theorem zhF {p : Int × Int} : ∀ {ps : List (Int × Int)} {fs : List D}, p ∉ ps -> zbL (ps.map kP) fs (kP p) = none
 | [], _, _ => rfl
 | q :: ps, [], _ => rfl
 | q :: ps, f :: fs, h => by
  unfold zbL
  rw [List.map_cons, List.zip_cons_cons, List.find?_cons_of_neg (by simpa using λ z : kP q = kP p => h (by rw [<- zjj z]; exact zzC ..))]
  exact zhF (ps := ps) (fs := fs) λ z => h (zzA _ z)
theorem zrr {p : Int × Int} {ps : List (Int × Int)} {fs : List D} (hl : ps.length = fs.length) : inP (pD p) (.dt (ps.map kP) fs) = some (decide (p ∈ ps)) := by
 show some (zbL (ps.map kP) fs (kP p)).isSome = _
 by_cases h : p ∈ ps
 · obtain ⟨x, _, hx⟩ := zdr hl h
   rw [hx, decide_eq_true h]; rfl
 · rw [zhF h, decide_eq_false h]; rfl
abbrev lP (ps : List (Int × Int)) : Option O := sN ((ps.map pD).map (O.lf true))
abbrev dP (ps : List (Int × Int)) (fs : List D) : Option O := some (.nd (.dt (ps.map kP)) (fs.map (O.lf true)))
theorem ziU {ks : List (List Key)} (fs : List D) : (O.nd (.dt ks) (fs.map (O.lf true))).toD = .dt ks fs := by
 show D.dt ks (O.toDs (fs.map (O.lf true))) = _
 rw [zcN]
theorem zlW (ds : List D) : (O.nd .ls (ds.map (O.lf true))).toD = .lst ds := by
 show D.lst (O.toDs (ds.map (O.lf true))) = _
 rw [zcN]
theorem znQ {p : Int × Int} {ps : List (Int × Int)} (h : p ∉ ps) : zmb (ps.map kP) (kP p) = false := by
 unfold zmb
 rw [List.any_eq_false]
 intro k mk
 obtain ⟨q, mq, rfl⟩ := List.mem_map.mp mk
 simpa using λ z : kP q = kP p => h (by rw [<- zjj z]; exact mq)
theorem zng {as : AS} {fv : EF} {p : Int × Int} {ps : List (Int × Int)} {fs : List D} {x : D} (h5 : as[5]? = some (dP ps fs)) (h11 : as[11]? = some (sT (pD p))) (hv : WE fv as x) (hn : p ∉ ps) (hl : ps.length <= 1000) :
 zhw 5 wk fv as = some (.nx (as.set 5 (dP (ps ++ [p]) (fs ++ [x])))) := by
 obtain ⟨o, h1, h2, h3⟩ := hv
 have e : Va as (.ow o) = some ((o.str, o.toD), as) := rfl
 have e1 : fV 11 as = some (.ow (.lf true (pD p)), as) := zb h11
 have e3 : (RV.ow (.lf true (pD p))).frz.view as = some (pD p, some true) := rfl
 have e4 : zhd (pD p) = some (kP p) := rfl
 unfold zhw
 simp only [h1, Option.bind_some, e, h5, e1, e3, e4, zD, if_pos (show ps.length < sizeLine from Nat.lt_of_le_of_lt hl (by decide))]
 unfold zcF Vs
 rw [znQ hn, h2, h3]
 simp only [Bool.false_eq_true, if_false, dP, List.map_append, List.map_cons, List.map_nil]
theorem zly {n : Nat} {ps : List (Int × Int)} (nd : ps.Nodup) (h : ∀ p ∈ ps, InR n p.1 /\ InR n p.2) : ps.length <= n * n := by
 have hs : ps ⊆ (List.range (n * n)).map λ k => (((k / n : Nat) : Int), ((k % n : Nat) : Int)) := λ p mp => by
  obtain ⟨h1, h2⟩ := h p mp
  have a := h1.1
  have b := h1.2
  have c := h2.1
  have d := h2.2
  have hn : 0 < n := by omega
  refine List.mem_map.mpr ⟨p.1.toNat * n + p.2.toNat, List.mem_range.mpr ?_, ?_⟩
  · calc p.1.toNat * n + p.2.toNat < p.1.toNat * n + n := by omega
     _ = (p.1.toNat + 1) * n := by rw [Nat.add_mul, Nat.one_mul]
     _ <= n * n := Nat.mul_le_mul_right _ (by omega)
  · have e1 : (p.1.toNat * n + p.2.toNat) / n = p.1.toNat := by
     rw [Nat.mul_comm, Nat.mul_add_div hn, Nat.div_eq_of_lt (by omega)]; rfl
    have e2 : (p.1.toNat * n + p.2.toNat) % n = p.2.toNat := by
     rw [Nat.mul_comm, Nat.mul_add_mod, Nat.mod_eq_of_lt (by omega)]
    rw [e1, e2]
    exact Prod.ext (by show ((p.1.toNat : Nat) : Int) = p.1; omega) (by show ((p.2.toNat : Nat) : Int) = p.2; omega)
 have := nd.length_le_of_subset hs
 rwa [zD, List.length_range] at this
abbrev T12 (A : D) (a b : Int) (sts : List (D × List Int)) (ps : List (Int × Int)) (fs : List D) (i : Nat) (e7 e8 e9 e10 e11 : Option O) : AS :=
 [sT A, sI a, sI b, sT (.lst (sts.map stD)), lP ps, dP ps fs, sI i, e7, e8, e9, e10, e11]
abbrev taF : SF := (zL (zW true 11 (yN (dC (f2 (fV 10) (f2 vK yL ixP) ixP) (dC (f2 (fV 10) (f2 vK yq ixP) ixP) dN))))
 (sIf (fT (f2 wk vQ (yf .NotIn))) (zL (zhw 5 wk (f2 (f2 vQ vK ixT) (xN (dC (fV 9) dN)) zK))
 (xO (wI 4 (dC wk dN) wO))) sNx))
abbrev taB : SF := (zL (zW true 7 (f2 yW Zc ixP))
 (zL (zW true 8 (zN (aC zB (aC (f2 vK yL ixP) (aC (f2 vK yq ixP) aN))) xQ))
 (zL (sIf (fT (f2 (fV 8) (fC .non) (yf .IsNot))) (xf (yN (dC (fC (.str "frame")) (dC (f2 vQ vK ixT) (dC (fV 8) dN))))) sNx)
 (zL (Z2 (zaR yI) (gT 2 (gsC (gN 9) (gsC (gN 10) gsN))) taF)
 (zld 6 1)))))
abbrev taT : TF := fT (f2 Zc (fP (aC yW aN) Xr) (yf .Lt))
theorem zqQ {f : EF} {as : AS} {c : Bool} (h : WE f as (.bl c)) : WD f as true (.bl c) := by
 obtain ⟨o, h1, h2, h3⟩ := h
 cases o with
 | lf st d =>
  have e1 : st = true := h2
  have e2 : d = .bl c := h3
  subst e1 e2
  exact h1
 | nd k os => cases k <;> cases h3
theorem zpb {p : Int × Int} {ps : List (Int × Int)} {fs : List D} (hl : ps.length = fs.length) : yf .NotIn (pD p) (.dt (ps.map kP) fs) = some (.im (.bl (!decide (p ∈ ps)))) := by
 unfold yf
 simp only [zrr hl]
 rfl
theorem zoU {A : D} {a b : Int} {sts : List (D × List Int)} {ps : List (Int × Int)} {fs : List D} {i : Nat} {e7 e8 e9 e10 e11 : Option O} (q : D × List Int) : gT 2 (gsC (gN 9) (gsC (gN 10) gsN)) (true, stD q) (T12 A a b sts ps fs i e7 e8 e9 e10 e11) = some (T12 A a b sts ps fs i e7 e8 (sT q.1) (sT (yj q.2)) e11) := by
 have k : kids true [q.1, yj q.2] = [(true, q.1), (true, yj q.2)] := by
  show [(yu q.1 || true, q.1), (yu (yj q.2) || true, yj q.2)] = _
  rw [Bool.or_true, Bool.or_true]
 unfold gT
 simp only [stD, k]
 rfl
section
variable {n m : Nat} {J : TZ} {e : Int} {Ds : DZ} {S : SS} {a b : Int} {sts : List (D × List Int)}
structure Bf (n m : Nat) (J : TZ) (e : Int) (Ds : DZ) (S : SS) (a b : Int) (ps : List (Int × Int)) (fs : List D) : Prop where
 nd : ps.Nodup
 fl : ps.length = fs.length
 ab : (a, b) ∈ ps
 re : ∀ p ∈ ps, InR n p.1 /\ InR n p.2 /\ ∃ r : List D, (∀ d ∈ r, Stp n m Ds d) /\ p = (frm (zA n m J e Ds S) r a, frm (zA n m J e Ds S) r b)
 fr : ∀ x ∈ fs, ∃ l : List D, x = .lst l /\ l.length < ps.length
theorem Bf.le {ps : List (Int × Int)} {fs : List D} (h : Bf n m J e Ds S a b ps fs) (n8 : n <= 8) : ps.length <= 64 :=
 zzL (zly h.nd λ p mp => ⟨(h.re p mp).1, (h.re p mp).2.1⟩) (zzL (Nat.mul_le_mul n8 n8) (by decide))
theorem Bf.add {ps : List (Int × Int)} {fs : List D} {p : Int × Int} {d : D} {l : List D} (A : Alg n m J e Ds) (h : Bf n m J e Ds S a b ps fs) (hp : p ∈ ps) (hd : Stp n m Ds d) (hn : (stp (zA n m J e Ds S) d p.1, stp (zA n m J e Ds S) d p.2) ∉ ps) (hl : l.length < ps.length) :
 Bf n m J e Ds S a b (ps ++ [(stp (zA n m J e Ds S) d p.1, stp (zA n m J e Ds S) d p.2)]) (fs ++ [.lst (l ++ [d])]) := by
 refine ⟨List.nodup_append.mpr ⟨h.nd, by simp, λ x mx y my => ?_⟩, by rw [zzG, zzG, h.fl]; rfl, zzM _ h.ab, λ q mq => ?_, λ x mx => ?_⟩
 · rw [zzO.mp my]; exact λ z => hn (z ▸ mx)
 · rcases zzJ.mp mq with k | k
   · exact h.re q k
   · rw [zzO.mp k]
     obtain ⟨h1, h2, r, hr, ep⟩ := h.re p hp
     refine ⟨(zax A hd h1).1, (zax A hd h2).1, r ++ [d], λ x mx => (zzJ.mp mx).elim (hr x) (λ z => zzO.mp z ▸ hd), ?_⟩
     show _ = ((r ++ [d]).foldl (λ w d => stp (zA n m J e Ds S) d w) a, (r ++ [d]).foldl (λ w d => stp (zA n m J e Ds S) d w) b)
     rw [List.foldl_append, List.foldl_append]
     have e1 : p.1 = frm (zA n m J e Ds S) r a := congrArg Prod.fst ep
     have e2 : p.2 = frm (zA n m J e Ds S) r b := congrArg Prod.snd ep
     rw [e1, e2]; rfl
 · rcases zzJ.mp mx with k | k
   · obtain ⟨l', e1, e2⟩ := h.fr x k
     exact ⟨l', e1, by rw [zzG]; exact zzH e2 (Nat.le_add_right _ _)⟩
   · exact ⟨_, zzO.mp k, by rw [zzG, zzG]; exact Nat.add_lt_add_right hl 1⟩
theorem ziN (A : Alg n m J e Ds) {p : Int × Int} {i : Nat} {e8 : Option O} : ∀ (t : List (D × List Int)) (ps : List (Int × Int)) (fs : List D) (e9 e10 e11 : Option O), (∀ q ∈ t, Gd n m J e Ds S q) -> Bf n m J e Ds S a b ps fs -> p ∈ ps ->
 ∃ ps' fs' e9' e10' e11', forL (gT 2 (gsC (gN 9) (gsC (gN 10) gsN))) taF ((t.map stD).map λ d => (true, d)) (T12 (zA n m J e Ds S) a b sts ps fs i (sT (pD p)) e8 e9 e10 e11) = some (.nx (T12 (zA n m J e Ds S) a b sts ps' fs' i (sT (pD p)) e8 e9' e10' e11')) /\ Bf n m J e Ds S a b ps' fs' /\ (∃ more, ps' = ps ++ more) /\ ∀ q ∈ t, (stp (zA n m J e Ds S) q.1 p.1, stp (zA n m J e Ds S) q.1 p.2) ∈ ps'
 | [], ps, fs, e9, e10, e11, _, h, _ => ⟨ps, fs, e9, e10, e11, rfl, h, ⟨[], (List.append_nil _).symm⟩, λ _ m => nomatch m⟩
 | q :: t, ps, fs, e9, e10, e11, ht, h, hp => by
  have gq := ht q (zzC ..)
  have ht' : ∀ q ∈ t, Gd n m J e Ds S q := λ x mx => ht x (zzA _ mx)
  obtain ⟨h1, h2, _⟩ := h.re p hp
  have a1 := gq.at_ p.1 h1
  have a2 := gq.at_ p.2 h2
  have le := h.le A.n8
  have w1 : WD (f2 (fV 10) (f2 vK yL ixP) ixP) (T12 (zA n m J e Ds S) a b sts ps fs i (sT (pD p)) e8 (sT q.1) (sT (yj q.2)) e11) true (.int (stp (zA n m J e Ds S) q.1 p.1)) := by
   have := zM (as := T12 (zA n m J e Ds S) a b sts ps fs i (sT (pD p)) e8 (sT q.1) (sT (yj q.2)) e11) (zb (i := 10) rfl) (zM (g := ixP) (zb (i := 7) rfl) (zc (x := .int 0)) rfl rfl) (XF gq.r h1).1 rfl
   rw [a1] at this
   exact this
  have w2 : WD (f2 (fV 10) (f2 vK yq ixP) ixP) (T12 (zA n m J e Ds S) a b sts ps fs i (sT (pD p)) e8 (sT q.1) (sT (yj q.2)) e11) true (.int (stp (zA n m J e Ds S) q.1 p.2)) := by
   have := zM (as := T12 (zA n m J e Ds S) a b sts ps fs i (sT (pD p)) e8 (sT q.1) (sT (yj q.2)) e11) (zb (i := 10) rfl) (zM (g := ixP) (zb (i := 7) rfl) (zc (x := .int 1)) rfl rfl) (XF gq.r h2).1 rfl
   rw [a2] at this
   exact this
  have s11 := Zg (p := 11) (Wn (WD.e w1) (WD.e w2)) (zG rfl)
  have tn := zV (zqQ (zqx (as := T12 (zA n m J e Ds S) a b sts ps fs i (sT (pD p)) e8 (sT q.1) (sT (yj q.2)) (sT (pD (stp (zA n m J e Ds S) q.1 p.1, stp (zA n m J e Ds S) q.1 p.2)))) (i := 5) (g := yf .NotIn) (z := .bl (!decide ((stp (zA n m J e Ds S) q.1 p.1, stp (zA n m J e Ds S) q.1 p.2) ∈ ps))) (zb (i := 11) rfl) rfl (ziU fs) (zpb h.fl))) rfl
  by_cases hc : (stp (zA n m J e Ds S) q.1 p.1, stp (zA n m J e Ds S) q.1 p.2) ∈ ps
  · rw [decide_eq_true hc] at tn
    obtain ⟨ps', fs', e9', e10', e11', hf, B', ⟨more, em⟩, hall⟩ := ziN A t ps fs (sT q.1) (sT (yj q.2)) (sT (pD (stp (zA n m J e Ds S) q.1 p.1, stp (zA n m J e Ds S) q.1 p.2))) ht' h hp
    exact ⟨ps', fs', e9', e10', e11', vV (as1 := T12 (zA n m J e Ds S) a b sts ps fs i (sT (pD p)) e8 (sT q.1) (sT (yj q.2)) e11) (zoU q) (yw s11 (ym tn rfl)) hf, B', ⟨more, em⟩, λ x mx => (zI.mp mx).elim (λ z => by rw [z, em]; exact zzM _ hc) (hall x)⟩
  · rw [decide_eq_false hc] at tn
    obtain ⟨x, mx, hx⟩ := zdr h.fl hp
    obtain ⟨l, rfl, ll⟩ := h.fr x mx
    have wv := zms (ziM (as := T12 (zA n m J e Ds S) a b sts ps fs i (sT (pD p)) e8 (sT q.1) (sT (yj q.2)) (sT (pD (stp (zA n m J e Ds S) q.1 p.1, stp (zA n m J e Ds S) q.1 p.2)))) (i := 5) (b := fV 7) (g := ixT) (z := .lst l) rfl (ziU fs) (zb (i := 7) rfl) (by show imR (zbL (ps.map kP) fs (kP p)) = _; rw [hx]; rfl)) (vg (os := [.lf true q.1]) (zu (zb (i := 9) rfl) yo) (szl rfl) rfl rfl) (add_lists (ys := [q.1]) (szs (by show l.length + 1 <= _; omega)))
    have sd := zng rfl rfl wv hc (by omega)
    have sa := zmf (as := T12 (zA n m J e Ds S) a b sts ps fs i (sT (pD p)) e8 (sT q.1) (sT (yj q.2)) (sT (pD (stp (zA n m J e Ds S) q.1 p.1, stp (zA n m J e Ds S) q.1 p.2))) |>.set 5 (dP (ps ++ [(stp (zA n m J e Ds S) q.1 p.1, stp (zA n m J e Ds S) q.1 p.2)]) (fs ++ [.lst (l ++ [q.1])]))) (i := 4) (a := fV 11) (os := (ps.map pD).map (O.lf true)) rfl (by rw [zD, zD]; exact Nat.lt_of_le_of_lt le (by decide)) (zb (i := 11) rfl)
    have B1 := h.add A hp gq.s hc ll
    obtain ⟨ps', fs', e9', e10', e11', hf, B', ⟨more, em⟩, hall⟩ := ziN A t _ _ (sT q.1) (sT (yj q.2)) (sT (pD (stp (zA n m J e Ds S) q.1 p.1, stp (zA n m J e Ds S) q.1 p.2))) ht' B1 (zzM _ hp)
    have el : (ps.map pD).map (O.lf true) ++ [O.lf true (pD (stp (zA n m J e Ds S) q.1 p.1, stp (zA n m J e Ds S) q.1 p.2))] = ((ps ++ [(stp (zA n m J e Ds S) q.1 p.1, stp (zA n m J e Ds S) q.1 p.2)]).map pD).map (O.lf true) := by rw [List.map_append, List.map_append]; rfl
    rw [el] at sa
    exact ⟨ps', fs', e9', e10', e11', vV (as1 := T12 (zA n m J e Ds S) a b sts ps fs i (sT (pD p)) e8 (sT q.1) (sT (yj q.2)) e11) (zoU q) (yw s11 (wV tn (yw sd sa))) hf, B', ⟨_ :: more, by rw [em, List.append_assoc]; rfl⟩, λ x mx => (zI.mp mx).elim (λ z => by rw [z, em]; exact zzM _ (zzI _ (zzO.mpr rfl))) (hall x)⟩
end
theorem zpB {as : AS} {i : Nat} {ds : List D} (h : as[i]? = some (sN (ds.map (O.lf true)))) : WD (fP (aC (fV i) aN) Xr) as true (.int (ds.length : Nat)) := by
 have e : views as [.bo i] = some ([.lst ds], some true) := by
  show (RV.view as (.bo i)).bind _ = _
  rw [V7 h, zmH, zlW]; rfl
 unfold WD fP aC
 rw [zbu h]
 simp only [Option.bind_some, aN, RV.frz, e]
 rfl
section
variable {n m : Nat} {J : TZ} {e : Int} {Ds : DZ} {S : SS} {a b : Int} {sts : List (D × List Int)}
theorem closed {ps : List (Int × Int)} (h : ∀ p ∈ ps, hld S p.1 = hld S p.2 /\ ∀ d, Stp n m Ds d -> (stp (zA n m J e Ds S) d p.1, stp (zA n m J e Ds S) d p.2) ∈ ps) : ∀ (r : List D) (p : Int × Int), (∀ d ∈ r, Stp n m Ds d) -> p ∈ ps -> (frm (zA n m J e Ds S) r p.1, frm (zA n m J e Ds S) r p.2) ∈ ps
 | [], _, _, hp => hp
 | d :: r, p, hr, hp => closed h r _ (λ x mx => hr x (zzA _ mx)) ((h p hp).2 d (hr d (zzC ..)))
abbrev Dn (n m : Nat) (J : TZ) (e : Int) (Ds : DZ) (S : SS) (ps : List (Int × Int)) (i : Nat) : Prop := ∀ p ∈ ps.take i, hld S p.1 = hld S p.2 /\ ∀ d, Stp n m Ds d -> (stp (zA n m J e Ds S) d p.1, stp (zA n m J e Ds S) d p.2) ∈ ps
theorem zns (A : Alg n m J e Ds) (hg : ∀ q ∈ sts, Gd n m J e Ds S q) (hc : ∀ d, Stp n m Ds d -> ∃ r, (d, r) ∈ sts) {i : Nat} {ps : List (Int × Int)} {fs : List D} {e7 e8 e9 e10 e11 : Option O} (hlt : i < ps.length) (h : Bf n m J e Ds S a b ps fs) (hpr : Dn n m J e Ds S ps i) :
 (∃ ps' fs' e7' e8' e9' e10' e11', taB (T12 (zA n m J e Ds S) a b sts ps fs i e7 e8 e9 e10 e11) = some (.nx (T12 (zA n m J e Ds S) a b sts ps' fs' (i + 1) e7' e8' e9' e10' e11')) /\ Bf n m J e Ds S a b ps' fs' /\ i + 1 <= ps'.length /\ Dn n m J e Ds S ps' (i + 1)) \/
 ((∃ o x y, taB (T12 (zA n m J e Ds S) a b sts ps fs i e7 e8 e9 e10 e11) = some (.rt o) /\ o.str = true /\ o.toD = .tup [.str "frame", x, y]) /\ ¬ Rr n m J e Ds S a b) := by
 have hp := zzB hlt
 have mp := List.getElem_mem hlt
 generalize ps[i] = p at hp mp
 obtain ⟨p1, p2, r, hr, ep⟩ := h.re p mp
 have s7 : zW true 7 (f2 yW Zc ixP) (T12 (zA n m J e Ds S) a b sts ps fs i e7 e8 e9 e10 e11) = some (.nx (T12 (zA n m J e Ds S) a b sts ps fs i (sT (pD p)) e8 e9 e10 e11)) := Zg (p := 7) (ziM (i := 4) (b := fV 6) (g := ixP) (z := pD p) rfl (zlW _) (zb (i := 6) rfl) (zaP (f := pD) hp)) (zG rfl)
 have c8 : ∀ {x : D}, xQ [(true, zA n m J e Ds S), (true, .int p.1), (true, .int p.2)] = sT x -> zW true 8 (zN (aC zB (aC (f2 vK yL ixP) (aC (f2 vK yq ixP) aN))) xQ) (T12 (zA n m J e Ds S) a b sts ps fs i (sT (pD p)) e8 e9 e10 e11) = some (.nx (T12 (zA n m J e Ds S) a b sts ps fs i (sT (pD p)) (sT x) e9 e10 e11)) := λ hx =>
  xr (i := 8) (zcC (WD.e (zb (i := 0) rfl)) (WD.e (zM (zb (i := 7) rfl) zc rfl rfl)) (WD.e (zM (zb (i := 7) rfl) zc rfl rfl)) hx) (zG rfl)
 rcases znH (n := n) (m := m) (J := J) (e := e) (Ds := Ds) (S := S) (a := p.1) (b := p.2) with ⟨hh, ht⟩ | ⟨hh, s, ht⟩
 · obtain ⟨ps', fs', e9', e10', e11', hfor, B', ⟨more, em⟩, hall⟩ := ziN (sts := sts) (i := i) (e8 := sT .non) A sts ps fs e9 e10 e11 hg h mp
   have t8 : WT (fT (f2 (fV 8) (fC .non) (yf .IsNot))) (T12 (zA n m J e Ds S) a b sts ps fs i (sT (pD p)) (sT .non) e9 e10 e11) false := zV (zM (zb (i := 8) rfl) zc rfl rfl) rfl
   have sg : zld 6 1 (T12 (zA n m J e Ds S) a b sts ps' fs' i (sT (pD p)) (sT .non) e9' e10' e11') = some (.nx (T12 (zA n m J e Ds S) a b sts ps' fs' (i + 1) (sT (pD p)) (sT .non) e9' e10' e11')) := rfl
   refine .inl ⟨ps', fs', _, _, _, _, _, yw s7 (yw (c8 ht) (yw (ym t8 rfl) (yw (wD (zae (zb (i := 3) rfl)) hfor) sg))), B', by rw [em, zzG]; omega, λ q mq => ?_⟩
   have et : ps'.take (i + 1) = ps.take i ++ [p] := by
    rw [em, List.take_append_of_le_length (by omega), List.take_succ, hp]; rfl
   rw [et] at mq
   rcases zzJ.mp mq with k' | k'
   · exact ⟨(hpr q k').1, λ d hd => by rw [em]; exact zzM _ ((hpr q k').2 d hd)⟩
   · rw [zzO.mp k']
     refine ⟨hh, λ d hd => ?_⟩
     obtain ⟨r, mr⟩ := hc d hd
     exact hall _ mr
 · have t8 : WT (fT (f2 (fV 8) (fC .non) (yf .IsNot))) (T12 (zA n m J e Ds S) a b sts ps fs i (sT (pD p)) (sT (.str s)) e9 e10 e11) true := zV (zM (zb (i := 8) rfl) zc rfl rfl) rfl
   obtain ⟨x, mx, hx⟩ := zdr h.fl mp
   obtain ⟨o, o1, o2, o3⟩ := ziM (as := T12 (zA n m J e Ds S) a b sts ps fs i (sT (pD p)) (sT (.str s)) e9 e10 e11) (i := 5) (b := fV 7) (g := ixT) (z := x) rfl (ziU fs) (zb (i := 7) rfl) (by show imR (zbL (ps.map kP) fs (kP p)) = _; rw [hx]; rfl)
   obtain ⟨q, q1, q2, q3⟩ := wj (zhL (x := .tup [.str "frame", x, .str s]) (os := [.lf true (.str "frame"), o, .lf true (.str s)]) (zu zc (ZS o1 (zu (zb (i := 8) rfl) yo))) (szl rfl) (by show (true && (o.str && (true && true))) = true; rw [o2]; rfl) (by show D.tup [.str "frame", o.toD, .str s] = _; rw [o3]))
   refine .inr ⟨⟨q, x, .str s, yw s7 (yw (c8 ht) (Zk (wV t8 q1))), q2, q3⟩, λ hR => hh ?_⟩
   have := hR r hr
   rw [ep]; exact this
theorem zrx (A : Alg n m J e Ds) (hg : ∀ q ∈ sts, Gd n m J e Ds S q) (hc : ∀ d, Stp n m Ds d -> ∃ r, (d, r) ∈ sts) (f : Nat) : ∀ (k i : Nat) (ps : List (Int × Int)) (fs : List D) (e7 e8 e9 e10 e11 : Option O), 65 <= i + k -> k < f -> i <= ps.length -> Bf n m J e Ds S a b ps fs -> Dn n m J e Ds S ps i ->
 ((∃ as', whL taT taB f (T12 (zA n m J e Ds S) a b sts ps fs i e7 e8 e9 e10 e11) = some (.nx as')) /\ Rr n m J e Ds S a b) \/
 ((∃ o x y, whL taT taB f (T12 (zA n m J e Ds S) a b sts ps fs i e7 e8 e9 e10 e11) = some (.rt o) /\ o.str = true /\ o.toD = .tup [.str "frame", x, y]) /\ ¬ Rr n m J e Ds S a b) := by
 induction f with
 | zero => exact λ k i ps fs e7 e8 e9 e10 e11 hk hf => absurd hf (Nat.not_lt_zero _)
 | succ f ihf =>
  intro k i ps fs e7 e8 e9 e10 e11 hk hf hi h hpr
  have le := h.le A.n8
  have lt : WD (f2 Zc (fP (aC yW aN) Xr) (yf .Lt)) (T12 (zA n m J e Ds S) a b sts ps fs i e7 e8 e9 e10 e11) true (.bl (decide ((i : Int) < ((ps.map pD).length : Nat)))) := zfI (zb (i := 6) rfl) (zpB (i := 4) rfl)
  rw [zD] at lt
  by_cases hlt : i < ps.length
  · rw [decide_eq_true (Int.ofNat_lt.mpr hlt)] at lt
    have tt : WT taT (T12 (zA n m J e Ds S) a b sts ps fs i e7 e8 e9 e10 e11) true := zV lt rfl
    rcases zns A hg hc (e7 := e7) (e8 := e8) (e9 := e9) (e10 := e10) (e11 := e11) hlt h hpr with ⟨ps', fs', e7', e8', e9', e10', e11', sb, B', hl', D'⟩ | ⟨⟨o, x, y, sb, h1, h2⟩, hR⟩
    · rcases ihf (k - 1) (i + 1) ps' fs' e7' e8' e9' e10' e11' (by omega) (by omega) hl' B' D' with ⟨⟨as', hw⟩, hR⟩ | ⟨⟨o, x, y, hw, h1, h2⟩, hR⟩
      · exact .inl ⟨⟨as', ziA tt sb hw⟩, hR⟩
      · exact .inr ⟨⟨o, x, y, ziA tt sb hw, h1, h2⟩, hR⟩
    · exact .inr ⟨⟨o, x, y, zqy tt sb, h1, h2⟩, hR⟩
  · rw [decide_eq_false (λ z => hlt (Int.ofNat_lt.mp z))] at lt
    have hil : i = ps.length := by omega
    refine .inl ⟨⟨_, zlR (zV lt rfl)⟩, λ r hr => ?_⟩
    rw [hil] at hpr
    unfold Dn at hpr
    rw [List.take_length] at hpr
    exact (hpr _ (closed hpr r (a, b) hr h.ab)).1
theorem znp (A : Alg n m J e Ds) (ha : InR n a) (hb : InR n b) : (Rr n m J e Ds S a b /\ RE (yx [(true, zA n m J e Ds S), (true, .int a), (true, .int b)]) (.tup [.str "alike"])) \/ (¬ Rr n m J e Ds S a b /\ ∃ x y, RE (yx [(true, zA n m J e Ds S), (true, .int a), (true, .int b)]) (.tup [.str "frame", x, y])) := by
 obtain ⟨sts, sl, hg, hc, hst⟩ := zgi (S := S) A
 have s3 : zW true 3 (zN WP Zu) [sT (zA n m J e Ds S), sI a, sI b, none, none, none, none, none, none, none, none, none] = some (.nx [sT (zA n m J e Ds S), sI a, sI b, sT (.lst (sts.map stD)), none, none, none, none, none, none, none, none]) := Zg (p := 3) (zjo (WD.e (zb (i := 0) rfl)) hst) (zG rfl)
 have wt : ∀ as : AS, as[1]? = some (sI a) -> as[2]? = some (sI b) -> WD (yN (dC zE (dC zR dN))) as true (pD (a, b)) := λ as h1 h2 => zaq (os := [lfI a, lfI b]) (zu (zb h1) (zu (zb h2) yo)) (szl rfl) rfl
 have s4 := wy (i := 4) (as := [sT (zA n m J e Ds S), sI a, sI b, sT (.lst (sts.map stD)), none, none, none, none, none, none, none, none]) (vO (zu (wt _ rfl rfl) yo) (szl rfl)) (zG rfl)
 have f5 : zdu (yN (dC zE (dC zR dN))) (xN dN) [sT (zA n m J e Ds S), sI a, sI b, sT (.lst (sts.map stD)), lP [(a, b)], none, none, none, none, none, none, none] = some (.ow (.nd (.dt [kP (a, b)]) [.lf true (.lst [])]), [sT (zA n m J e Ds S), sI a, sI b, sT (.lst (sts.map stD)), lP [(a, b)], none, none, none, none, none, none, none]) := by
  have h1 := wt [sT (zA n m J e Ds S), sI a, sI b, sT (.lst (sts.map stD)), lP [(a, b)], none, none, none, none, none, none, none] rfl rfl
  unfold WD at h1
  unfold zdu
  rw [h1]; rfl
 have s5 := wy (i := 5) f5 (zG rfl)
 have s6 : zW true 6 yL [sT (zA n m J e Ds S), sI a, sI b, sT (.lst (sts.map stD)), lP [(a, b)], dP [(a, b)] [.lst []], none, none, none, none, none, none] = some (.nx (T12 (zA n m J e Ds S) a b sts [(a, b)] [.lst []] 0 none none none none none)) := xr (i := 6) zc (zG rfl)
 have B0 : Bf n m J e Ds S a b [(a, b)] [.lst []] := ⟨by simp, rfl, by simp, λ p mp => by
  rw [zzO.mp mp]
  exact ⟨ha, hb, [], (λ _ m => nomatch m), rfl⟩, λ x mx => ⟨[], zzO.mp mx, by show 0 < 1; decide⟩⟩
 rcases zrx A hg hc 10000 65 0 [(a, b)] [.lst []] none none none none none (by omega) (by decide) (Nat.zero_le _) B0 (λ p mp => by simp at mp) with ⟨⟨as', hw⟩, hR⟩ | ⟨⟨o, x, y, hw, h1, h2⟩, hR⟩
 · exact .inl ⟨hR, xT rfl (zq s3 (zq s4 (zq s5 (zq s6 (zq hw (wj (zjG (WD.e zc))))))))⟩
 · exact .inr ⟨hR, x, y, xT rfl (zq s3 (zq s4 (zq s5 (zq s6 (vI ⟨o, hw, h1, h2⟩)))))⟩
end
section
variable {n m : Nat} {J : TZ} {e : Int} {Ds : DZ} {S : SS} {a b c : Int}
theorem zqt {k : Int} (A : Alg n m J e Ds) (sl : S.length <= 10) : ∃ S' : SS, S'.length <= 10 /\ RE (YF [(true, zA n m J e Ds S), (true, .int k)]) (zA n m J e Ds S') := by
 have n1 := A.n1
 have n8 := A.n8
 have s0 : zgr zB (gT 6 (gsC (gN 2) (gsC (gN 3) (gsC Yt (gsC (gN 5) (gsC (gN 6) (gsC (gN 7) gsN))))))) [sT (zA n m J e Ds S), sI k, none, none, none, none, none, none, none, none] = some (.nx [sT (zA n m J e Ds S), sI k, sI n, sI m, sT (zT J), sI e, sT (.lst (Ds.map xx)), sT (.lst (S.map wz)), none, none]) := znT (WD.e (zb (i := 0) rfl)) rfl
 have t1 : WT (fT (f2 (f2 zE xg zH) yL (yf .Eq))) [sT (zA n m J e Ds S), sI k, sI n, sI m, sT (zT J), sI e, sT (.lst (Ds.map xx)), sT (.lst (S.map wz)), none, none] (k % 2 == 0) := zV (yD (yz (zb (i := 1) rfl) zc (by decide)) zc rfl) rfl
 have t2 : WT (fT (f2 vK (xN dN) (yf .Eq))) [sT (zA n m J e Ds S), sI k, sI n, sI m, sT (zT J), sI e, sT (.lst (Ds.map xx)), sT (.lst (S.map wz)), none, none] S.isEmpty := zV (zgQ (WD.e (zb (i := 7) rfl)) (vg (os := []) yo (szl rfl) rfl rfl) (q := S.isEmpty) (by cases S <;> rfl)) rfl
 by_cases h : (k % 2 == 0) = true
 · exact ⟨S, sl, xT rfl (zq s0 (vI (ZQ (zhj (l := true) t1 (λ z => by rw [h] at z; cases z) (λ _ => rfl)) (wj (WD.e (zb (i := 0) rfl))))))⟩
 cases S with
 | nil => exact ⟨[], sl, xT rfl (zq s0 (vI (ZQ (zhj (l := true) t1 (λ _ => t2) (λ _ => rfl)) (wj (WD.e (zb (i := 0) rfl))))))⟩
 | cons p S =>
  have tf : WT (zfk (fT (f2 (f2 zE xg zH) yL (yf .Eq))) (fT (f2 vK (xN dN) (yf .Eq)))) [sT (zA n m J e Ds (p :: S)), sI k, sI n, sI m, sT (zT J), sI e, sT (.lst (Ds.map xx)), sT (.lst ((p :: S).map wz)), none, none] false := zhj (l := false) t1 (λ _ => t2) (λ z => absurd z h)
  obtain ⟨ys, hl, hy, ws⟩ := stE (as := [sT (zA n m J e Ds (p :: S)), sI k, sI n, sI m, sT (zT J), sI e, sT (.lst (Ds.map xx)), sT (.lst ((p :: S).map wz)), none, none]) (a := fV 1) (b := fC (.int 1)) (c := k) (m := 1) (by omega) (WD.e (zb rfl)) (WD.e zc)
  obtain ⟨y, a0, _⟩ := at2 hy (k := 0) (by omega) (by omega)
  have s8 := Zg (p := 8) (zro ws (WD.e (zc (x := .int 0))) a0) (zG rfl)
  have yn : InR n (y % n) := ⟨Int.emod_nonneg _ (by omega), Int.emod_lt_of_pos _ (by omega)⟩
  obtain ⟨r, hr⟩ := zbW (g := gN 0) (as0 := [none, sI n, sT (zT J), sI y]) (tt := fT (f2 (f2 (f2 zR zB ixP) (f2 yI zE zH) ixP) (f2 (f2 yI Y5 zU) zE zH) (yf .Eq))) (fe := fV 0) (xs := vH 0 n) λ w mw => by
   obtain ⟨x, rfl, b0, b1⟩ := zdv mw
   have hx : InR n x := ⟨b0, by omega⟩
   exact ⟨[sI x, sI n, sT (zT J), sI y], _, x, rfl, zV (yD (zaL A.j hx yn (zb (i := 2) rfl) (zb (i := 0) rfl) (yz (zb (i := 3) rfl) (zb (i := 1) rfl) (by omega))) (yz (v8 (zb (i := 3) rfl) zc (by decide) (yg (by decide) (by decide))) (zb (i := 1) rfl) (by omega)) rfl) rfl, zb (i := 0) rfl⟩
  have hc := V3 (as := [sT (zA n m J e Ds (p :: S)), sI k, sI n, sI m, sT (zT J), sI e, sT (.lst (Ds.map xx)), sT (.lst ((p :: S).map wz)), sI y, none]) (cap := [none, some 2, some 4, some 8]) (fi := xJ Yq xG) (vR (zJ (zb (i := 2) rfl) zQ) (by omega) (by omega)) (by rw [wY]; exact szs (by omega)) hr
  have s9 := Zg (p := 9) (⟨_, hc, (V9 r).1, (V9 r).2⟩ : WE _ _ (yj r)) (zG rfl)
  obtain ⟨o1, h1, h2, h3⟩ := Wn (as := [sT (zA n m J e Ds (p :: S)), sI k, sI n, sI m, sT (zT J), sI e, sT (.lst (Ds.map xx)), sT (.lst ((p :: S).map wz)), sI y, sT (yj r)]) (a := f2 (f2 vK yL ixP) yL ixP) (b := fV 9) (x := .str p.1) (y := yj r) (WD.e (zM (yd (g := ixP) (z := wz p) (zb (i := 7) rfl) (zc (x := .int 0)) (zaP (l := p :: S) (f := wz) (i := 0) rfl)) (zc (x := .int 0)) rfl rfl)) (WD.e (zb (i := 9) rfl))
  obtain ⟨o2, g1, g2, g3⟩ := vg (x := .lst [wz (p.1, r)]) (os := [o1]) (ZS h1 yo) (szl rfl) (by show (o1.str && true) = true; rw [h2]; rfl) (by show D.lst [o1.toD] = _; rw [h3])
  refine ⟨[(p.1, r)], by show 1 <= 10; decide, xT rfl (zq s0 (zq (ym tf rfl) (zq s8 (zq s9 (wj (zhL (os := [lfI n, lfI m, .lf true (zT J), lfI e, .lf true (.lst (Ds.map xx)), o2]) (zu (zb (i := 2) rfl) (zu (zb (i := 3) rfl) (zu (zb (i := 4) rfl) (zu (zb (i := 5) rfl) (zu (zb (i := 6) rfl) (ZS g1 yo)))))) (szl rfl) (by show (true && (true && (true && (true && (true && (o2.str && true)))))) = true; rw [g2]; rfl) (by show D.tup [.int n, .int m, zT J, .int e, .lst (Ds.map xx), o2.toD] = _; rw [g3]; rfl)))))))⟩
theorem Rr.symm (h : Rr n m J e Ds S a b) : Rr n m J e Ds S b a := λ r hr => (h r hr).symm
theorem Rr.trans (h : Rr n m J e Ds S a b) (k : Rr n m J e Ds S b c) : Rr n m J e Ds S a c := λ r hr => (h r hr).trans (k r hr)
theorem Rr.frm {q : List D} (hq : ∀ d ∈ q, Stp n m Ds d) (h : Rr n m J e Ds S a b) : Rr n m J e Ds S (frm (zA n m J e Ds S) q a) (frm (zA n m J e Ds S) q b) := λ r hr => by
 have := h (q ++ r) λ d md => (zzJ.mp md).elim (hq d) (hr d)
 unfold G52.frm at this ⊢
 rw [List.foldl_append, List.foldl_append] at this
 exact this
abbrev zhn : EF := yN (dC (fC (.str "alike")) dN)
theorem zov {as : AS} : WE zhn as (.tup [.str "alike"]) := zjG (WD.e zc)
theorem zjF {as : AS} {fx fy fz : EF} (A : Alg n m J e Ds) (ha : InR n a) (hb : InR n b) (h1 : WD fx as true (zA n m J e Ds S)) (h2 : WD fy as true (.int a)) (h3 : WD fz as true (.int b)) : ∃ q : Bool, (q = true ↔ Rr n m J e Ds S a b) /\ WD (f2 (zN (aC fx (aC fy (aC fz aN))) yx) zhn (yf .Eq)) as true (.bl q) /\ WD (f2 (zN (aC fx (aC fy (aC fz aN))) yx) zhn (yf .NotEq)) as true (.bl (!q)) := by
 rcases znp (S := S) A ha hb with ⟨hR, h⟩ | ⟨hR, x, y, h⟩
 · exact ⟨true, ⟨λ _ => hR, λ _ => rfl⟩, zgQ (Z0 (WD.e h1) (WD.e h2) (WD.e h3) h) zov (by rfl), ziS (Z0 (WD.e h1) (WD.e h2) (WD.e h3) h) zov (by rfl)⟩
 · exact ⟨false, ⟨(λ z => nomatch z), λ z => absurd z hR⟩, zgQ (Z0 (WD.e h1) (WD.e h2) (WD.e h3) h) zov (by rfl), ziS (Z0 (WD.e h1) (WD.e h2) (WD.e h3) h) zov (by rfl)⟩
theorem zdN {as : AS} {fx fy fz : EF} (A : Alg n m J e Ds) (ha : InR n a) (hb : InR n b) (hR : Rr n m J e Ds S a b) (h1 : WD fx as true (zA n m J e Ds S)) (h2 : WD fy as true (.int a)) (h3 : WD fz as true (.int b)) : WT (fT (f2 (zN (aC fx (aC fy (aC fz aN))) yx) zhn (yf .NotEq))) as false := by
 obtain ⟨q, hq, _, hw⟩ := zjF (S := S) A ha hb h1 h2 h3
 rw [hq.mpr hR] at hw
 exact zV hw rfl
theorem zoi : vH 0 n = (v9 n).map λ x => (true, D.int x) := by
 unfold vH
 rw [List.map_map]
 exact List.map_congr_left λ i _ => by show (true, D.int (0 + (i : Int))) = _; rw [Int.zero_add]; rfl
theorem znO : ∀ {l : List Int}, l ≠ [] -> ∃ w ∈ l, ixP (yj l) (.int (-1)) = some (.im (.int w)) := λ {l} h => by
 have hl : 0 < l.length := List.length_pos_iff.mpr h
 have e : ixN (l.map D.int).length (-1) = some (l.length - 1) := by
  rw [zD]
  unfold ixN
  rw [if_neg (by decide), if_pos (by omega)]
  exact congrArg some (by omega)
 refine ⟨l[l.length - 1]'(by omega), List.getElem_mem _, ?_⟩
 show imR ((ixN (l.map D.int).length (-1)).bind λ j => (l.map D.int)[j]?) = _
 rw [e]
 show imR ((l.map D.int)[l.length - 1]?) = _
 rw [zzF, zzB (by omega)]; rfl
end
section
variable {n m : Nat} {J : TZ} {e : Int} {Ds : DZ} {S : SS} {ns : List Int}
abbrev c8 (ns : List Int) (A : D) (n : Nat) (sm q : List D) (f : Int) (e6 e7 : Option O) : AS := [sT (.lst (ns.map .int)), sT A, sI n, sT (.lst sm), sT (.lst q), sI f, e6, e7]
abbrev lwB : SF := (zL (sIf (zfk (zgb (fT (zN (aC zE (aC yW (aC vQ zhf))) vd))) (fT (f2 (zN (aC zE (aC vK zjt)) yx) zhn (yf .NotEq)))) (xf (fC (.bl false))) sNx)
 (zL (sIf (fT (f2 (zN (aC zE (aC (f2 Zc (f1 yq zmM) ixP) zhf)) yx) zhn (yf .NotEq))) (xf (fC (.bl false))) sNx)
 (sIf (fT (f2 (zN (aC zE (aC (zN (aC zE (aC yW zjt)) Zy) (aC (zN (aC zE (aC yW zhf)) Zy) aN))) yx) zhn (yf .NotEq))) (xf (fC (.bl false))) sNx)))
theorem zjZ {sm q : List D} {f : Int} {al : List Int} (A : Alg n m J e Ds) (sl : S.length <= 10) (hq : ∀ d ∈ q, Stp n m Ds d) (hf : InR n f) (hal : ∀ x ∈ al, InR n x /\ Rr n m J e Ds S f x) (h0 : al ≠ []) : ∀ (t : List Int) (e7 : Option O), (∀ x ∈ t, x ∈ al) -> ∃ e7', forL (gN 7) lwB ((t.map D.int).map λ d => (true, d)) (c8 ns (zA n m J e Ds S) n sm q f (sT (yj al)) e7) = some (.nx (c8 ns (zA n m J e Ds S) n sm q f (sT (yj al)) e7'))
 | [], e7, _ => ⟨e7, rfl⟩
 | v :: t, e7, ht => by
  obtain ⟨hv, hR⟩ := hal v (ht v (zzC ..))
  obtain ⟨w, mw, hw⟩ := znO h0
  obtain ⟨hwn, hRw⟩ := hal w mw
  obtain ⟨e7', ih⟩ := zjZ A sl hq hf hal h0 t (sI v) (λ x mx => ht x (zzA _ mx))
  have w1 : ∀ e6 e7, WD zE (c8 ns (zA n m J e Ds S) n sm q f e6 e7) true (zA n m J e Ds S) := λ _ _ => zb (i := 1) rfl
  have w4 : ∀ e6 e7, WD yW (c8 ns (zA n m J e Ds S) n sm q f e6 e7) true (.lst q) := λ _ _ => zb (i := 4) rfl
  have w5 : ∀ e6 e7, WD vQ (c8 ns (zA n m J e Ds S) n sm q f e6 e7) true (.int f) := λ _ _ => zb (i := 5) rfl
  have w7 : ∀ e6, WD vK (c8 ns (zA n m J e Ds S) n sm q f e6 (sI v)) true (.int v) := λ _ => zb (i := 7) rfl
  have k1 : WT (zgb (fT (zN (aC zE (aC yW (aC vQ zhf))) vd))) (c8 ns (zA n m J e Ds S) n sm q f (sT (yj al)) (sI v)) false := zpY (k := true) (zV (Ws (zJ (w1 _ _) (zJ (w4 _ _) (zJ (w5 _ _) (zJ (w7 _) zQ)))) (zkF A sl hq hf hv hR)) rfl)
  have k2 := zdN (S := S) A hv hf hR.symm (w1 (sT (yj al)) (sI v)) (w7 (sT (yj al))) (w5 (sT (yj al)) (sI v))
  have k3 := zdN (S := S) (fy := f2 Zc (f1 yq zmM) ixP) A hwn hv (hRw.symm.trans hR) (w1 (sT (yj al)) (sI v)) (zM (zb (i := 6) rfl) (zqp zc) hw rfl) (w7 (sT (yj al)))
  have f1' := zcC (WD.e (w1 (sT (yj al)) (sI v))) (WD.e (w4 (sT (yj al)) (sI v))) (WD.e (w5 (sT (yj al)) (sI v))) (zfs (S := S) A hq hf)
  have f2' := zcC (WD.e (w1 (sT (yj al)) (sI v))) (WD.e (w4 (sT (yj al)) (sI v))) (WD.e (w7 (sT (yj al)))) (zfs (S := S) A hq hv)
  have k4 := zdN (S := S) A (zjw (S := S) A q f hq hf) (zjw (S := S) A q v hq hv) (hR.frm hq) (w1 (sT (yj al)) (sI v)) f1' f2'
  exact ⟨e7', vV (as1 := c8 ns (zA n m J e Ds S) n sm q f (sT (yj al)) (sI v)) rfl (yw (ym (zhj (l := false) k1 (λ _ => k2) (λ z => nomatch z)) rfl) (yw (ym k3 rfl) (ym k4 rfl))) ih⟩
end
theorem zlA : ∀ ns : List Int, ns.length <= 63 -> zen [(true, .lst (ns.map .int))] = sT (.bl true) := λ ns hns => by
 obtain ⟨n, m, J, e, Ds, S0, A, sl0, hA⟩ := zpu (ns := ns)
 obtain ⟨c4, h4⟩ := V1 (ns := ns) (k := 4) (s := true) (t := true) (by omega)
 obtain ⟨c3, h3⟩ := V1 (ns := ns) (k := 3) (s := true) (t := true) (by omega)
 obtain ⟨S, sl, hF⟩ := zqt (k := c4) A sl0
 obtain ⟨sm, r0, r1, hsm, hst⟩ := zmt (S := S) A
 obtain ⟨q, ql, hq, hqe⟩ := zmk (ns := ns) hns r0 r1 hsm
 have n1 := A.n1
 have n8 := A.n8
 have hf : InR n (c3 / 8 % n) := ⟨Int.emod_nonneg _ (by omega), Int.emod_lt_of_pos _ (by omega)⟩
 have cl : ∀ (as : AS) (k x : Int), as[0]? = some (sT (.lst (ns.map .int))) -> zZ [(true, .lst (ns.map .int)), (true, .int k)] = sT (.int x) -> WD (zN (aC zB (aC (fC (.int k)) aN)) zZ) as true (.int x) := λ as k x h hh => Ws (zJ (zb h) (zJ zc zQ)) hh
 have s1 := Zg (p := 1) (as := [sT (.lst (ns.map .int)), none, none, none, none, none, none, none]) (zjo (WD.e (zb (i := 0) rfl)) hA) (zG rfl)
 have s2 : zW true 1 (zN (aC zE (aC (zN (aC zB (aC Zf aN)) zZ) aN)) YF) [sT (.lst (ns.map .int)), sT (zA n m J e Ds S0), none, none, none, none, none, none] = some (.nx [sT (.lst (ns.map .int)), sT (zA n m J e Ds S), none, none, none, none, none, none]) := Zg (p := 1) (Yp (WD.e (zb (i := 1) rfl)) (WD.e (cl _ 4 c4 rfl h4)) hF) (zG rfl)
 have s3 : zW true 2 (f2 zE yL ixP) [sT (.lst (ns.map .int)), sT (zA n m J e Ds S), none, none, none, none, none, none] = some (.nx [sT (.lst (ns.map .int)), sT (zA n m J e Ds S), sI n, none, none, none, none, none]) := xr (i := 2) (zM (zb (i := 1) rfl) zc rfl rfl) (zG rfl)
 have s4 := Zg (p := 3) (as := [sT (.lst (ns.map .int)), sT (zA n m J e Ds S), sI n, none, none, none, none, none]) (zjo (WD.e (zb (i := 1) rfl)) hst) (zG rfl)
 have s5 := Zg (p := 4) (as := [sT (.lst (ns.map .int)), sT (zA n m J e Ds S), sI n, sT (.lst sm), none, none, none, none]) (Yp (WD.e (zb (i := 0) rfl)) (WD.e (zb (i := 3) rfl)) hqe) (zG rfl)
 have s6 := xr (st := true) (i := 5) (as := [sT (.lst (ns.map .int)), sT (zA n m J e Ds S), sI n, sT (.lst sm), sT (.lst q), none, none, none]) (yz (v8 (cl _ 3 c3 rfl h3) (zc (x := .int 8)) (by decide) (yg (by decide) (by decide))) (zb (i := 2) rfl) (show (0 : Int) < n by omega)) (zG rfl)
 have wf := zpC (as := c8 ns (zA n m J e Ds S) n sm q (c3 / 8 % n) none none) (h := D.int) (p := λ x => @decide (Rr n m J e Ds S (c3 / 8 % n) x) (Classical.propDecidable _)) (it := λ x : Int => (true, D.int x)) (cap := [none, some 1, some 5]) (gg := gN 0) (tt := fT (f2 (zN (aC zE (aC zR WP)) yx) zhn (yf .Eq))) (fe := fV 0) (fi := xJ Yq xG) (v9 n) (by
  rw [vR (zJ (zb (i := 2) rfl) zQ) (by omega) (by omega), Int.toNat_natCast, zoi]) (by rw [zeC]; omega) λ x mx => ⟨[sI x, sT (zA n m J e Ds S), sI (c3 / 8 % n)], rfl, by
   obtain ⟨b, hb, hw, _⟩ := zjF (S := S) (as := [sI x, sT (zA n m J e Ds S), sI (c3 / 8 % n)]) A hf (zcf mx) (zb (i := 1) rfl) (zb (i := 2) rfl) (zb (i := 0) rfl)
   have eb : @decide (Rr n m J e Ds S (c3 / 8 % n) x) (Classical.propDecidable _) = b := by
    cases b with
    | true => exact @decide_eq_true _ (Classical.propDecidable _) (hb.mp rfl)
    | false => exact @decide_eq_false _ (Classical.propDecidable _) (λ z => nomatch hb.mpr z)
   show WT _ _ (@decide (Rr n m J e Ds S (c3 / 8 % n) x) (Classical.propDecidable _))
   rw [eb]
   exact zV hw rfl, λ _ => WD.e (zb (i := 0) rfl)⟩
 have s7 := Zg (p := 6) wf (zG rfl)
 generalize hal : (v9 n).filter (λ x => @decide (Rr n m J e Ds S (c3 / 8 % n) x) (Classical.propDecidable _)) = al at s7
 have hin : ∀ x ∈ al, InR n x /\ Rr n m J e Ds S (c3 / 8 % n) x := λ x mx => by
  rw [<- hal] at mx
  obtain ⟨h1, h2⟩ := List.mem_filter.mp mx
  exact ⟨zcf h1, @of_decide_eq_true _ (Classical.propDecidable _) h2⟩
 have hfa : (c3 / 8 % n) ∈ al := by
  rw [<- hal]
  exact List.mem_filter.mpr ⟨zjl hf, @decide_eq_true _ (Classical.propDecidable _) λ _ _ => rfl⟩
 have h0 : al ≠ [] := λ z => by rw [z] at hfa; cases hfa
 have t8 : WT (fT (f2 vQ Zc (yf .NotIn))) (c8 ns (zA n m J e Ds S) n sm q (c3 / 8 % n) (sT (yj al)) none) false := zV (x := .bl false) (zM (zb (i := 5) rfl) (zb (i := 6) rfl) (by show (inP (.int (c3 / 8 % n)) (yj al)).bind _ = _; rw [ziZ, decide_eq_true hfa]; rfl) rfl) rfl
 obtain ⟨e7, hfor⟩ := zjZ (ns := ns) (sm := sm) A sl hq hf hin h0 al none (λ _ m => m)
 exact ZJ rfl (yw s1 (yw s2 (yw s3 (yw s4 (yw s5 (yw s6 (yw s7 (yw (ym t8 rfl) (yw (wD (zae (zb (i := 6) rfl)) hfor) (Za zc))))))))))
end G52
end
namespace G52
open PySem PySem.W PyProof.Rows L2
abbrev kF (n q : Str) (s : Stmt) (pm cd : Value) : Obj := ⟨.type "function", none, .func (fnOf n q (zgI s) (zbM s) (zy s) .none .none .none pm none cd .none), #[]⟩
abbrev kC (n : Str) (a : Nat) (q : Str) (b c : Nat) (i3 i4 i5 i6 i7 : Int) (r8 : Addr) (b9 : Bool) (i10 : Int) (r11 r13 r14 r15 : Addr) (i16 i17 : Int) (d : Nat) : Obj := ⟨.type "code", none, .fields #[.str n a, .str q b, .str "/claim/cut.py" c, .int i3 0, .int i4 0, .int i5 0, .int i6 0, .int i7 0, .ref r8, .bool b9, .int i10 0, .ref r11, .none, .ref r13, .ref r14, .ref r15, .int i16 0, .int i17 0, .str "/claim/cut.py" d], #[]⟩
abbrev kD (es : List DictEntry) (n : Nat) : Obj := ⟨.type "dict", none, .dict es.toArray n, #[]⟩
abbrev kE (P : Params) (x : Str) (t : Nat) (v : Value) : DictEntry := ⟨PyData.keyHash P x, .str x t, v⟩
abbrev kR (P : Params) (x : Str) (t : Nat) (a : Addr) : DictEntry := kE P x t (.ref a)
def K (P : Params) : Frag :=
 (nat_lit 3, kD [kE P "__name__" 165 (.str "law_stretchdeeds_k52_alike_by_any_frame" 244), kE P "__doc__" 166 .none, kE P "__package__" 167 .none, kE P "__loader__" 168 (.builtin "__main__.__loader__#opaque"), kE P "__spec__" 169 .none, kR P "__annotations__" 170 6, kR P "__builtins__" 171 4, kE P "__file__" 173 (.str "/claim/cut.py" 172), kE P "__cached__" 174 .none, kR P "stepped" 197 21, kR P "framed" 208 28, kR P "all_steps" 214 33, kR P "telling_sign" 225 40, kR P "told_apart" 243 47, kR P "_law_cell_at" 253 54, kR P "_law_whole" 260 61, kR P "_law_stream" 271 68, kR P "_law_names" 277 73, kR P "_law_divisor" 285 80, kR P "_law_sums" 291 85, kR P "_law_rising" 297 90, kR P "_law_kept" 303 95, kR P "_law_joins" 309 100, kR P "_law_rows" 315 105, kR P "_law_plain" 321 110, kR P "_law_beside" 327 115, kR P "_law_made" 341 122, kR P "_law_order" 352 129, kR P "_law_signs" 358 134, kR P "_law_algebra" 364 139, kR P "_law_bent" 370 144, kR P "_law_step" 381 151, kR P "_law_steps" 387 156, kR P "_law_held" 393 161, kR P "_law_few" 399 166, kR P "_law_walked" 410 173, kR P "_law_digits" 421 180, kR P "_law_by_digits" 427 185, kR P "_law_any" 436 192, kR P "_law_frame" 442 197, kR P "law" 448 202] 41) ::
 (nat_lit 20, kC "stepped" 189 "stepped" 190 191 2 3 0 0 3 15 true 181 16 17 18 19 195 2 196) ::
 (nat_lit 21, kF "stepped" "stepped" VP (.str "stretchdeeds.alikes" 187) (.ref 20)) ::
 (nat_lit 27, kC "framed" 198 "framed" 199 200 8 3 0 0 3 22 true 181 23 24 25 26 206 8 207) ::
 (nat_lit 28, kF "framed" "framed" zbp (.str "stretchdeeds.alikes" 187) (.ref 27)) ::
 (nat_lit 32, ⟨.type "code", none, .fields #[(.str "all_steps" 209), (.str "all_steps" 210), (.str "/claim/cut.py" 211), (.int (13) 0), (.int (1) 0), (.int (0) 0), (.int (0) 0), (.int (3) 0), (.ref 29), (.bool true), (.int (181) 0), (.ref 30), .none, .none, .none, (.ref 31), (.int (212) 0), (.int (13) 0), (.str "/claim/cut.py" 213)], #[]⟩) ::
 (nat_lit 33, kF "all_steps" "all_steps" vM (.str "stretchdeeds.alikes" 187) (.ref 32)) ::
 (nat_lit 39, kC "telling_sign" 215 "telling_sign" 216 217 20 3 0 0 3 34 true 181 35 36 37 38 223 20 224) ::
 (nat_lit 40, kF "telling_sign" "telling_sign" ZD (.str "stretchdeeds.alikes" 187) (.ref 39)) ::
 (nat_lit 46, kC "told_apart" 226 "told_apart" 227 228 25 3 0 0 3 41 true 181 42 43 44 45 241 25 242) ::
 (nat_lit 47, kF "told_apart" "told_apart" Yy (.str "stretchdeeds.alikes" 187) (.ref 46)) ::
 (nat_lit 53, kC "_law_cell_at" 246 "_law_cell_at" 247 248 43 2 0 0 3 48 true 181 49 50 51 52 251 43 252) ::
 (nat_lit 54, kF "_law_cell_at" "_law_cell_at" Z3 (.str "law_stretchdeeds_k52_alike_by_any_frame" 244) (.ref 53)) ::
 (nat_lit 60, kC "_law_whole" 254 "_law_whole" 255 256 47 1 0 0 3 55 true 181 56 57 58 59 258 47 259) ::
 (nat_lit 61, kF "_law_whole" "_law_whole" VD (.str "law_stretchdeeds_k52_alike_by_any_frame" 244) (.ref 60)) ::
 (nat_lit 67, kC "_law_stream" 261 "_law_stream" 262 263 49 2 0 0 3 62 true 181 63 64 65 66 269 49 270) ::
 (nat_lit 68, kF "_law_stream" "_law_stream" YC (.str "law_stretchdeeds_k52_alike_by_any_frame" 244) (.ref 67)) ::
 (nat_lit 72, ⟨.type "code", none, .fields #[(.str "_law_names" 272), (.str "_law_names" 273), (.str "/claim/cut.py" 274), (.int (56) 0), (.int (2) 0), (.int (0) 0), (.int (0) 0), (.int (3) 0), (.ref 69), (.bool true), (.int (181) 0), (.ref 70), .none, .none, .none, (.ref 71), (.int (275) 0), (.int (56) 0), (.str "/claim/cut.py" 276)], #[]⟩) ::
 (nat_lit 73, kF "_law_names" "_law_names" Yi (.str "law_stretchdeeds_k52_alike_by_any_frame" 244) (.ref 72)) ::
 (nat_lit 79, kC "_law_divisor" 278 "_law_divisor" 279 280 65 2 0 0 3 74 true 181 75 76 77 78 283 65 284) ::
 (nat_lit 80, kF "_law_divisor" "_law_divisor" Z6 (.str "law_stretchdeeds_k52_alike_by_any_frame" 244) (.ref 79)) ::
 (nat_lit 84, ⟨.type "code", none, .fields #[(.str "_law_sums" 286), (.str "_law_sums" 287), (.str "/claim/cut.py" 288), (.int (69) 0), (.int (3) 0), (.int (0) 0), (.int (0) 0), (.int (3) 0), (.ref 81), (.bool true), (.int (181) 0), (.ref 82), .none, .none, .none, (.ref 83), (.int (289) 0), (.int (69) 0), (.str "/claim/cut.py" 290)], #[]⟩) ::
 (nat_lit 85, kF "_law_sums" "_law_sums" Y6 (.str "law_stretchdeeds_k52_alike_by_any_frame" 244) (.ref 84)) ::
 (nat_lit 89, ⟨.type "code", none, .fields #[(.str "_law_rising" 292), (.str "_law_rising" 293), (.str "/claim/cut.py" 294), (.int (75) 0), (.int (3) 0), (.int (0) 0), (.int (0) 0), (.int (3) 0), (.ref 86), (.bool true), (.int (181) 0), (.ref 87), .none, .none, .none, (.ref 88), (.int (295) 0), (.int (75) 0), (.str "/claim/cut.py" 296)], #[]⟩) ::
 (nat_lit 90, kF "_law_rising" "_law_rising" vY (.str "law_stretchdeeds_k52_alike_by_any_frame" 244) (.ref 89)) ::
 (nat_lit 94, ⟨.type "code", none, .fields #[(.str "_law_kept" 298), (.str "_law_kept" 299), (.str "/claim/cut.py" 300), (.int (79) 0), (.int (3) 0), (.int (0) 0), (.int (0) 0), (.int (3) 0), (.ref 91), (.bool true), (.int (181) 0), (.ref 92), .none, .none, .none, (.ref 93), (.int (301) 0), (.int (79) 0), (.str "/claim/cut.py" 302)], #[]⟩) ::
 (nat_lit 95, kF "_law_kept" "_law_kept" Z1 (.str "law_stretchdeeds_k52_alike_by_any_frame" 244) (.ref 94)) ::
 (nat_lit 99, ⟨.type "code", none, .fields #[(.str "_law_joins" 304), (.str "_law_joins" 305), (.str "/claim/cut.py" 306), (.int (82) 0), (.int (2) 0), (.int (0) 0), (.int (0) 0), (.int (3) 0), (.ref 96), (.bool true), (.int (181) 0), (.ref 97), .none, .none, .none, (.ref 98), (.int (307) 0), (.int (82) 0), (.str "/claim/cut.py" 308)], #[]⟩) ::
 (nat_lit 100, kF "_law_joins" "_law_joins" wM (.str "law_stretchdeeds_k52_alike_by_any_frame" 244) (.ref 99)) ::
 (nat_lit 104, ⟨.type "code", none, .fields #[(.str "_law_rows" 310), (.str "_law_rows" 311), (.str "/claim/cut.py" 312), (.int (93) 0), (.int (4) 0), (.int (0) 0), (.int (0) 0), (.int (3) 0), (.ref 101), (.bool true), (.int (181) 0), (.ref 102), .none, .none, .none, (.ref 103), (.int (313) 0), (.int (93) 0), (.str "/claim/cut.py" 314)], #[]⟩) ::
 (nat_lit 105, kF "_law_rows" "_law_rows" YL (.str "law_stretchdeeds_k52_alike_by_any_frame" 244) (.ref 104)) ::
 (nat_lit 109, ⟨.type "code", none, .fields #[(.str "_law_plain" 316), (.str "_law_plain" 317), (.str "/claim/cut.py" 318), (.int (101) 0), (.int (5) 0), (.int (0) 0), (.int (0) 0), (.int (3) 0), (.ref 106), (.bool true), (.int (181) 0), (.ref 107), .none, .none, .none, (.ref 108), (.int (319) 0), (.int (101) 0), (.str "/claim/cut.py" 320)], #[]⟩) ::
 (nat_lit 110, kF "_law_plain" "_law_plain" Yb (.str "law_stretchdeeds_k52_alike_by_any_frame" 244) (.ref 109)) ::
 (nat_lit 114, ⟨.type "code", none, .fields #[(.str "_law_beside" 322), (.str "_law_beside" 323), (.str "/claim/cut.py" 324), (.int (104) 0), (.int (3) 0), (.int (0) 0), (.int (0) 0), (.int (3) 0), (.ref 111), (.bool true), (.int (181) 0), (.ref 112), .none, .none, .none, (.ref 113), (.int (325) 0), (.int (104) 0), (.str "/claim/cut.py" 326)], #[]⟩) ::
 (nat_lit 115, kF "_law_beside" "_law_beside" ZG (.str "law_stretchdeeds_k52_alike_by_any_frame" 244) (.ref 114)) ::
 (nat_lit 121, kC "_law_made" 328 "_law_made" 329 330 123 3 0 0 3 116 true 181 117 118 119 120 339 123 340) ::
 (nat_lit 122, kF "_law_made" "_law_made" XC (.str "law_stretchdeeds_k52_alike_by_any_frame" 244) (.ref 121)) ::
 (nat_lit 128, kC "_law_order" 342 "_law_order" 343 344 136 2 0 0 3 123 true 181 124 125 126 127 350 136 351) ::
 (nat_lit 129, kF "_law_order" "_law_order" Xa (.str "law_stretchdeeds_k52_alike_by_any_frame" 244) (.ref 128)) ::
 (nat_lit 133, ⟨.type "code", none, .fields #[(.str "_law_signs" 353), (.str "_law_signs" 354), (.str "/claim/cut.py" 355), (.int (142) 0), (.int (3) 0), (.int (0) 0), (.int (0) 0), (.int (3) 0), (.ref 130), (.bool true), (.int (181) 0), (.ref 131), .none, .none, .none, (.ref 132), (.int (356) 0), (.int (142) 0), (.str "/claim/cut.py" 357)], #[]⟩) ::
 (nat_lit 134, kF "_law_signs" "_law_signs" Yj (.str "law_stretchdeeds_k52_alike_by_any_frame" 244) (.ref 133)) ::
 (nat_lit 138, ⟨.type "code", none, .fields #[(.str "_law_algebra" 359), (.str "_law_algebra" 360), (.str "/claim/cut.py" 361), (.int (147) 0), (.int (2) 0), (.int (0) 0), (.int (0) 0), (.int (3) 0), (.ref 135), (.bool true), (.int (181) 0), (.ref 136), .none, .none, .none, (.ref 137), (.int (362) 0), (.int (147) 0), (.str "/claim/cut.py" 363)], #[]⟩) ::
 (nat_lit 139, kF "_law_algebra" "_law_algebra" wR (.str "law_stretchdeeds_k52_alike_by_any_frame" 244) (.ref 138)) ::
 (nat_lit 143, ⟨.type "code", none, .fields #[(.str "_law_bent" 365), (.str "_law_bent" 366), (.str "/claim/cut.py" 367), (.int (165) 0), (.int (2) 0), (.int (0) 0), (.int (0) 0), (.int (3) 0), (.ref 140), (.bool true), (.int (181) 0), (.ref 141), .none, .none, .none, (.ref 142), (.int (368) 0), (.int (165) 0), (.str "/claim/cut.py" 369)], #[]⟩) ::
 (nat_lit 144, kF "_law_bent" "_law_bent" ZZ (.str "law_stretchdeeds_k52_alike_by_any_frame" 244) (.ref 143)) ::
 (nat_lit 150, kC "_law_step" 371 "_law_step" 372 373 179 3 0 0 3 145 true 181 146 147 148 149 379 179 380) ::
 (nat_lit 151, kF "_law_step" "_law_step" XR (.str "law_stretchdeeds_k52_alike_by_any_frame" 244) (.ref 150)) ::
 (nat_lit 155, ⟨.type "code", none, .fields #[(.str "_law_steps" 382), (.str "_law_steps" 383), (.str "/claim/cut.py" 384), (.int (188) 0), (.int (1) 0), (.int (0) 0), (.int (0) 0), (.int (3) 0), (.ref 152), (.bool true), (.int (181) 0), (.ref 153), .none, .none, .none, (.ref 154), (.int (385) 0), (.int (188) 0), (.str "/claim/cut.py" 386)], #[]⟩) ::
 (nat_lit 156, kF "_law_steps" "_law_steps" Z7 (.str "law_stretchdeeds_k52_alike_by_any_frame" 244) (.ref 155)) ::
 (nat_lit 160, ⟨.type "code", none, .fields #[(.str "_law_held" 388), (.str "_law_held" 389), (.str "/claim/cut.py" 390), (.int (195) 0), (.int (2) 0), (.int (0) 0), (.int (0) 0), (.int (3) 0), (.ref 157), (.bool true), (.int (181) 0), (.ref 158), .none, .none, .none, (.ref 159), (.int (391) 0), (.int (195) 0), (.str "/claim/cut.py" 392)], #[]⟩) ::
 (nat_lit 161, kF "_law_held" "_law_held" YZ (.str "law_stretchdeeds_k52_alike_by_any_frame" 244) (.ref 160)) ::
 (nat_lit 165, ⟨.type "code", none, .fields #[(.str "_law_few" 394), (.str "_law_few" 395), (.str "/claim/cut.py" 396), (.int (197) 0), (.int (2) 0), (.int (0) 0), (.int (0) 0), (.int (3) 0), (.ref 162), (.bool true), (.int (181) 0), (.ref 163), .none, .none, .none, (.ref 164), (.int (397) 0), (.int (197) 0), (.str "/claim/cut.py" 398)], #[]⟩) ::
 (nat_lit 166, kF "_law_few" "_law_few" Xw (.str "law_stretchdeeds_k52_alike_by_any_frame" 244) (.ref 165)) ::
 (nat_lit 172, kC "_law_walked" 400 "_law_walked" 401 402 204 4 0 0 3 167 true 181 168 169 170 171 408 204 409) ::
 (nat_lit 173, kF "_law_walked" "_law_walked" Yv (.str "law_stretchdeeds_k52_alike_by_any_frame" 244) (.ref 172)) ::
 (nat_lit 179, kC "_law_digits" 411 "_law_digits" 412 413 211 3 0 0 3 174 true 181 175 176 177 178 419 211 420) ::
 (nat_lit 180, kF "_law_digits" "_law_digits" Yz (.str "law_stretchdeeds_k52_alike_by_any_frame" 244) (.ref 179)) ::
 (nat_lit 184, ⟨.type "code", none, .fields #[(.str "_law_by_digits" 422), (.str "_law_by_digits" 423), (.str "/claim/cut.py" 424), (.int (217) 0), (.int (2) 0), (.int (0) 0), (.int (0) 0), (.int (3) 0), (.ref 181), (.bool true), (.int (181) 0), (.ref 182), .none, .none, .none, (.ref 183), (.int (425) 0), (.int (217) 0), (.str "/claim/cut.py" 426)], #[]⟩) ::
 (nat_lit 185, kF "_law_by_digits" "_law_by_digits" wK (.str "law_stretchdeeds_k52_alike_by_any_frame" 244) (.ref 184)) ::
 (nat_lit 191, kC "_law_any" 428 "_law_any" 429 430 226 1 0 0 3 186 true 181 187 188 189 190 434 226 435) ::
 (nat_lit 192, kF "_law_any" "_law_any" VN (.str "law_stretchdeeds_k52_alike_by_any_frame" 244) (.ref 191)) ::
 (nat_lit 196, ⟨.type "code", none, .fields #[(.str "_law_frame" 437), (.str "_law_frame" 438), (.str "/claim/cut.py" 439), (.int (232) 0), (.int (2) 0), (.int (0) 0), (.int (0) 0), (.int (3) 0), (.ref 193), (.bool true), (.int (181) 0), (.ref 194), .none, .none, .none, (.ref 195), (.int (440) 0), (.int (232) 0), (.str "/claim/cut.py" 441)], #[]⟩) ::
 (nat_lit 197, kF "_law_frame" "_law_frame" Zw (.str "law_stretchdeeds_k52_alike_by_any_frame" 244) (.ref 196)) ::
 (nat_lit 201, ⟨.type "code", none, .fields #[(.str "law" 443), (.str "law" 444), (.str "/claim/cut.py" 445), (.int (240) 0), (.int (1) 0), (.int (0) 0), (.int (0) 0), (.int (3) 0), (.ref 198), (.bool true), (.int (181) 0), (.ref 199), .none, .none, .none, (.ref 200), (.int (446) 0), (.int (240) 0), (.str "/claim/cut.py" 447)], #[]⟩) ::
 (nat_lit 202, kF "law" "law" zhT (.str "law_stretchdeeds_k52_alike_by_any_frame" 244) (.ref 201)) ::
 []
def kA : List Addr := [3, 20, 21, 27, 28, 32, 33, 39, 40, 46, 47, 53, 54, 60, 61, 67, 68, 72, 73, 79, 80, 84, 85, 89, 90, 94, 95, 99, 100, 104, 105, 109, 110, 114, 115, 121, 122, 128, 129, 133, 134, 138, 139, 143, 144, 150, 151, 155, 156, 160, 161, 165, 166, 172, 173, 179, 180, 184, 185, 191, 192, 196, 197, 201, 202]
def qv : Program := { PySem.Challenge.pw_stretchdeeds_k52_alike_by_any_frame with main := { PySem.Challenge.pw_stretchdeeds_k52_alike_by_any_frame.main with body := [1, 2, 3, 4, 5, 7, 8, 9, 10, 11, 12, 13, 14, 15, 16, 17, 18, 19, 20, 21, 22, 23, 24, 25, 26, 27, 28, 29, 30, 31, 32, 33].map top } }
theorem kAe (P : Params) : kA = (K P).map (·.1) := by kernel_rfl
set_option maxRecDepth 100000
theorem ws : PySem.Challenge.rw_stretchdeeds_k52_alike_by_any_frame.wellSaid = true := by kernel_rfl
abbrev Xt (s : Shared) : Bool := xlAt qv [] s && recOk (RowW.records (OpenRow.toRowW PySem.Challenge.rw_stretchdeeds_k52_alike_by_any_frame.row)) s
abbrev hk : Hook := kHook K kA kAe
theorem hl : LeftO PySem.Challenge.pw_stretchdeeds_k52_alike_by_any_frame qv [] Xt hk.obs hk.val 4000 := λ w => by kernel_rfl
end G52
open PySem PySem.W PyProof.Rows
set_option maxRecDepth 100000 in
set_option maxHeartbeats 0 in
theorem PySem.Challenge.cw_stretchdeeds_k52_alike_by_any_frame_holds : PySem.Challenge.rw_stretchdeeds_k52_alike_by_any_frame.Holds := by
 w_on; refine holds_law G52.ws λ said => ?_
 refine holds_open (q := G52.qv) (loose := []) (Xt := G52.Xt) (XP := XL G52.qv []) (Yf := Hook.obs (kHook G52.K G52.kA G52.kAe)) (Ya := Hook.val (kHook G52.K G52.kA G52.kAe)) (YP := Hook.says (kHook G52.K G52.kA G52.kAe)) (N := 4000) G52.hl (Hook.of (kHook G52.K G52.kA G52.kAe)) (Hook.keeps (kHook G52.K G52.kA G52.kAe)) (λ s e => xl_of s (Bool.and_eq_true_iff.mp e).1) XL.keeps (by rfl) (by rfl) (by rfl) (λ s e => recFacts_of (Bool.and_eq_true_iff.mp e).2) (by rfl) (by first | assumption | decide +kernel) (by decide +kernel) ⟨rfl, rfl, rfl, rfl, rfl, by decide +kernel⟩ ?hw ?hc
 (case hw => w_witness2)
 k_fill
 refine G52.walk (l := PySem.Challenge.rw_stretchdeeds_k52_alike_by_any_frame) rfl rfl (λ w h Y => PySem.W.kIn_of Y) G52.zlA ?F
 case F =>
  intro w mg fa h KX G hmg
  refine' G52.zpi KX G hmg ?_ ?_ ?_ ?_ ?_ ?_ ?_ ?_ ?_ ?_ ?_ ?_ ?_ ?_ ?_ ?_ ?_ ?_ ?_ ?_ ?_ ?_ ?_ ?_ ?_ ?_ ?_ ?_ ?_ ?_ ?_ ?_ ?_ ?_ ?_ ?_ ?_ ?_ ?_ ?_ ?_ ?_ ?_ ?_ ?_ ?_ ?_ ?_ ?_ ?_ ?_ ?_ ?_ ?_ ?_ ?_ ?_ ?_ ?_ ?_ ?_ ?_ ?_ ?_ ?_ ?_ ?_ ?_ ?_ ?_ ?_ ?_ ?_ ?_ ?_ ?_
  all_goals try first | k_is | (change _ = _; k_is) | exact ⟨_, ⟨_, _, _, _, _, _, _, _, _, rfl, by k_is, by k_is⟩, by k_is⟩ | rfl
#print axioms PySem.Challenge.cw_stretchdeeds_k52_alike_by_any_frame_holds
