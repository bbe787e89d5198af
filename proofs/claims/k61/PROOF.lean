import PyProof.Rows.All
import Wide.All
import OpenK.AllK
import Wide.FinOn
import PyProof.EqAt
import PyProof.EqKinds
import PyProof.TupleCall
import PyProof.NeKinds
import PyProof.AutoSeq1
import KE.LcSums
import PyProof.Rows.StrWeight2
import PyProof.StrBlockG
import KE.KIntText
import PyProof.CallStr
import PyProof.WalksEnum
import PyProof.Rows.EnumRows
import PyProof.Rows.FactsT2
import KE.KRevIter
import PyProof.StrWalks
import PyProof.ReprRoads
import PyProof.StrLawsTight
import PyProof.Rows.StrItems
import PyProof.Rows.ReprOcc
import PyProof.Rows.StrJoinMade
import PyProof.ReprLen
import PyProof.ZipIter
import PyProof.Rows.SortWalk
import PyProof.ListRange
import PyProof.AttrMissHeap
import PyProof.Rows.SumAny
import PyProof.Rows.TupDisplay
import Lean
import PySem.Challenge.RW_stretchdeeds_k61_whole_rows_that_come
set_option Elab.async false
set_option linter.all false
set_option maxRecDepth 100000
abbrev zC := PySem.W.Frag
abbrev zD := @List.length_map
abbrev zS := @List.mem_cons
abbrev zzA := @List.mem_cons_of_mem
abbrev zzB := @List.getElem?_eq_getElem
abbrev zzC := @List.mem_cons_self
abbrev zzD := @List.getElem?_eq_some_iff
abbrev zzE := @List.size_toArray
abbrev zzF := @List.getElem?_map
abbrev zzG := @List.length_append
abbrev zzH := @Nat.lt_of_lt_of_le
abbrev zzI := @List.mem_append_right
abbrev zzJ := @List.mem_append
abbrev zzK := @Nat.le_refl
abbrev zzL := @Nat.le_trans
abbrev zzM := @List.mem_append_left
abbrev zzN := @Nat.ne_of_lt
abbrev zzO := @List.mem_singleton
abbrev zzP := @List.length_take
abbrev zzQ := @List.length_cons
abbrev zzR := @List.length_set
abbrev zzS := @Int.natCast_mul
abbrev zzT := @List.nodup_cons
abbrev zzU := @Option.map_eq_some_iff
abbrev zzV := @List.getElem?_set_ne
section
namespace L2
open PySem PySem.Spec PyProof.Rows
abbrev Key := Sum Int Str
def zcO : Key -> Value -> Bool
 | .inl k, v => Value.isInt k v
 | .inr x, v => Value.isStrOf x v
def zou (w : World) : Key -> Int
 | .inl k => hashInt k
 | .inr x => hashStr w x
theorem xG : ∀ {k : Key} {v : Value}, zcO k v = true -> (∃ i t, k = Sum.inl i /\ v = Value.int i t) \/ (∃ x t, k = Sum.inr x /\ v = Value.str x t)
 | .inl i, v, h => by
  obtain ⟨t, e⟩ := Value.isInt_shape (k := i) (v := v) h
  exact .inl ⟨i, t, rfl, e⟩
 | .inr x, v, h => by
  obtain ⟨t, e⟩ := Value.isStrOf_shape (x := x) (v := v) h
  exact .inr ⟨x, t, rfl, e⟩
theorem zhb (i : Int) (t : Tok) : zcO (.inl i) (.int i t) = true := by simp [zcO, Value.isInt]
theorem zhh (x : Str) (t : Tok) : zcO (.inr x) (.str x t) = true := by simp [zcO, Value.isStrOf]
theorem zlN (a b : Int) : decide ((Sum.inl a : Key) = Sum.inl b) = (a == b) := by
 by_cases e : a = b
 · subst e; simp
 · have h : ¬ (Sum.inl a : Key) = Sum.inl b := λ q => e (Sum.inl.inj q)
   rw [decide_eq_false h]
   exact (beq_eq_false_iff_ne.mpr e).symm
theorem zmD (a b : Str) : decide ((Sum.inr a : Key) = Sum.inr b) = decide (a = b) := by
 by_cases e : a = b
 · subst e; simp
 · have h : ¬ (Sum.inr a : Key) = Sum.inr b := λ q => e (Sum.inr.inj q)
   rw [decide_eq_false h, decide_eq_false e]
theorem zmk (a : Int) (b : Str) : decide ((Sum.inl a : Key) = Sum.inr b) = false := decide_eq_false (λ q => nomatch q)
theorem zlI (a : Str) (b : Int) : decide ((Sum.inr a : Key) = Sum.inl b) = false := decide_eq_false (λ q => nomatch q)
def xu (prog : Program) (w : World) : PySem.KeyKind prog w Key where
 is := zcO
 hash := zou w
 inj := λ v a b ha hb => by
  rcases xG ha with ⟨i, t, rfl, rfl⟩ | ⟨x, t, rfl, rfl⟩
  · rcases xG hb with ⟨j, u, rfl, e⟩ | ⟨y, u, rfl, e⟩
    · injection e with e1 _; rw [e1]
    · exact nomatch e
  · rcases xG hb with ⟨j, u, rfl, e⟩ | ⟨y, u, rfl, e⟩
    · exact nomatch e
    · injection e with e1 _; rw [e1]
 byValue := λ k v h => by
  rcases xG h with ⟨i, t, rfl, rfl⟩ | ⟨x, t, rfl, rfl⟩ <;> rfl
 pyHash := λ hv h => by
  rcases xG hv with ⟨i, t, rfl, rfl⟩ | ⟨x, t, rfl, rfl⟩
  · exact wpAny_pyHash_int h
  · exact wpAny_pyHash_str h
 eqBool := λ hu hv h => by
  rcases xG hu with ⟨i, t, rfl, rfl⟩ | ⟨x, t, rfl, rfl⟩
  · rcases xG hv with ⟨j, u, rfl, rfl⟩ | ⟨y, u, rfl, rfl⟩
    · rw [zlN] at h; exact wpAny_eqBool_int h
    · rw [zmk] at h; exact SeqAt.EqAt.int_str i t y u _ _ _ _ h
  · rcases xG hv with ⟨j, u, rfl, rfl⟩ | ⟨y, u, rfl, rfl⟩
    · rw [zlI] at h; exact SeqAt.EqAt.str_int x t j u _ _ _ _ h
    · rw [zmD] at h; exact wpAny_eqBool_str h
 «strs» := λ k x t v h => by
  rcases xG h with ⟨i, u, rfl, e⟩ | ⟨y, u, rfl, e⟩
  · exact nomatch e
  · injection e with e1 _
    subst e1
    cases v <;> rfl
theorem zeM (prog : Program) (w : World) (i : Int) (t : Tok) : (xu prog w).is (.inl i) (.int i t) = true := zhb i t
theorem Xx (prog : Program) (w : World) (x : Str) (t : Tok) : (xu prog w).is (.inr x) (.str x t) = true := zhh x t
end L2
namespace L2
open PySem PySem.Spec PyProof.Rows
inductive V where
 | non | bl (b : Bool) | int (i : Int) | str (x : Str) | byt (b : Array UInt8) | flt (b : UInt64) | ref (a : Addr) | ty (n : String)
 deriving DecidableEq
def RelV : V -> Value -> Prop
 | .non, u => u = Value.none
 | .bl b, u => u = Value.bool b
 | .int i, u => ∃ t, u = Value.int i t
 | .str x, u => ∃ t, u = Value.str x t
 | .byt b, u => ∃ t, u = Value.bytes b t
 | .flt b, u => ∃ t, u = Value.float b t
 | .ref a, u => u = Value.ref a
 | .ty n, u => u = Value.type n
abbrev Vals : List V -> List Value -> Prop := Paired RelV
theorem Vals.length (r : Vals xs us) : xs.length = us.length := Paired.length r
theorem Vals.get : ∀ {xs : List V} {us : List Value} {i : Nat} {x : V}, Vals xs us -> xs[i]? = some x -> ∃ u, us[i]? = some u /\ RelV x u
 | _, _, _, _, .nil, e => by simp at e
 | _, _, 0, _, .cons r _, e => by simp at e; subst e; exact ⟨_, rfl, r⟩
 | _, _, i + 1, x, .cons _ t, e => by
  obtain ⟨u, h1, h2⟩ := Vals.get (i := i) (x := x) t (by simpa using e)
  exact ⟨u, by simpa using h1, h2⟩
theorem Vals.set (r : RelV x u) : ∀ {xs : List V} {us : List Value} (i : Nat), Vals xs us -> Vals (xs.set i x) (us.set i u)
 | _, _, _, .nil => .nil
 | _, _, 0, .cons _ t => .cons r t
 | _, _, i + 1, .cons q t => .cons q (Vals.set r i t)
theorem Vals.append : ∀ {xs ys : List V} {us ws : List Value}, Vals xs us -> Vals ys ws -> Vals (xs ++ ys) (us ++ ws)
 | _, _, _, _, .nil, s => s
 | _, _, _, _, .cons r t, s => .cons r (Vals.append t s)
theorem Vals.take : ∀ {xs : List V} {us : List Value} (n : Nat), Vals xs us -> Vals (xs.take n) (us.take n)
 | _, _, 0, _ => .nil
 | _, _, _ + 1, .nil => .nil
 | _, _, n + 1, .cons r t => .cons r (Vals.take n t)
theorem Vals.drop : ∀ {xs : List V} {us : List Value} (n : Nat), Vals xs us -> Vals (xs.drop n) (us.drop n)
 | _, _, 0, r => r
 | _, _, _ + 1, .nil => .nil
 | _, _, n + 1, .cons _ t => Vals.drop n t
def zdj : Option V -> Option Value -> Prop
 | some v, some u => RelV v u
 | none, none => True
 | _, _ => False
def KV {κ : Type} : List (κ × V) -> List (κ × Value) -> Prop := Paired λ (p : κ × V) (q : κ × Value) => p.1 = q.1 /\ RelV p.2 q.2
def kV : Key -> V
 | .inl i => .int i
 | .inr x => .str x
inductive HO where
 | lst (xs : List V)
 | tup (xs : List V)
 | dK (kvs : List (Key × V)) | dT (kvs : List (List Key × V))
 | set (S : Int -> Bool) (n : Nat)
 | ins (C dx : Addr) (fs : List (Str × V))
 | own (x : Addr)
 | xd (fs : List (Str × V))
 | met (f x : Addr)
 | rng (lo hi : Int)
 | frz (o : Obj) (u : HO)
 | tbl (ps : Array Value)
 | ext (φ : Heap -> Prop)
abbrev Hp := Addr -> Option HO
def upd (H : Hp) (a : Addr) (o : HO) : Hp := λ b => if b = a then some o else H b
theorem yz : upd H a o a = some o := by unfold upd; rw [if_pos rfl]
theorem zX (h : b ≠ a) : upd H a o b = H b := by unfold upd; rw [if_neg h]
theorem znQ {H : Hp} {a b : Addr} {o u : HO} (h : H a = some o) (h' : H b = some u) (d : o ≠ u) : a ≠ b := by
 intro e; subst e; rw [h] at h'; exact d (Option.some.inj h')
theorem xm {H : Hp} {a b : Addr} {o : HO} (h : H a = some o) (h' : H b = none) : a ≠ b := by
 intro e; subst e; rw [h] at h'; cases h'
section
variable (P : Program) (w : World)
def wI (H : Hp) (h : Heap) (a : Addr) : HO -> Prop
 | .lst xs => xs.length <= sizeLine /\ ∃ (its : List Value) (n : Nat), Vals xs its /\ h.get? a = some { cls := .type "list", data := .seq its.toArray n }
 | .tup xs => xs.length <= sizeLine /\ ∃ its : List Value, Vals xs its /\ IsTup h a its.toArray
 | .dK kvs => kvs.length <= sizeLine /\ (a == sysModules) = false /\ ∃ vs, KV kvs vs /\ h.DictOf (xu P w) a vs
 | .dT kvs => kvs.length <= sizeLine /\ (a == sysModules) = false /\ ∃ xs : List (List Key × Addr × Value),
  Paired (λ (p : List Key × V) (q : List Key × Addr × Value) => p.1 = q.1 /\ H q.2.1 = some (.tup (p.1.map kV)) /\ RelV p.2 q.2.2) kvs xs /\
  ∃ o es ep, h.get? a = some o /\ o.ExactDict /\ o.data = .dict es ep /\ es.toList = xs.map (entryOfKey (tupleKind (xu P w))) /\ (xs.map (·.1)).Nodup
 | .set S n => h.SetOf (intKind P w) a S n
 | .ins C dx fs => H dx = some (.own a) /\ fs.length <= 1000 /\ dx ≠ a /\ h.get? a = some (PySem.W.instObj C dx) /\
  ∃ mA, h.Ns1 dx mA /\ (∀ f, zdj (fs.lookup f) (mA f)) /\ PySem.Within mA (fs.map (·.1))
 | .own _ => ∃ o, h.get? a = some o
 | .xd fs => ∃ mA, h.Ns1 a mA /\ ∀ f, zdj (fs.lookup f) (mA f)
 | .rng lo hi => ∃ t u v, h.get? a = some { cls := .type "range", data := .fields #[.int lo t, .int hi u, .int 1 v] }
 | .frz o u => h.get? a = some o /\ wI H h a u
 | .tbl ps => h.get? a = some { cls := .none, data := .fields ps }
 | .met f x => h.get? a = some (PySem.W.methodObj (.ref f) (.ref x))
 | .ext φ => φ h /\ (∃ o, h.get? a = some o) /\ ∀ h1 h2 : Heap, φ h1 -> (∀ o, h1.get? a = some o -> h2.get? a = some o) -> φ h2
def HOk (H : Hp) (h : Heap) : Prop := ∀ a o, H a = some o -> wI P w H h a o
end
section
variable {P : Program} {w : World} {H H' : Hp} {h h' : Heap} {a : Addr} {o : HO}
theorem wI.lt (x : wI P w H h a o) : a < h.objs.size := by
 cases o with
 | lst xs => obtain ⟨_, _, _, _, e⟩ := x; exact Heap.lt_size e
 | tup xs => obtain ⟨_, _, _, p⟩ := x; exact p.lt
 | dK kvs => obtain ⟨_, _, _, _, o, _, _, e, _⟩ := x; exact Heap.lt_size e
 | dT kvs => obtain ⟨_, _, _, _, o, _, _, e, _⟩ := x; exact Heap.lt_size e
 | set S n => obtain ⟨o, _, _, _, e, _⟩ := x; exact Heap.lt_size e
 | ins C dx fs => obtain ⟨_, _, _, e, _⟩ := x; exact Heap.lt_size e
 | own y => obtain ⟨_, e⟩ := x; exact Heap.lt_size e
 | xd fs => obtain ⟨_, ⟨_, _, _, e, _⟩, _⟩ := x; exact Heap.lt_size e
 | rng lo hi => obtain ⟨_, _, _, e⟩ := x; exact Heap.lt_size e
 | frz ob u => obtain ⟨e, _⟩ := x; exact Heap.lt_size e
 | tbl ps => exact Heap.lt_size (show h.get? a = some _ from x)
 | met f y => exact Heap.lt_size (show h.get? a = some _ from x)
 | ext φ => obtain ⟨_, ⟨_, e⟩, _⟩ := x; exact Heap.lt_size e
theorem Paired.mapP : ∀ {l₁ : List α} {l₂ : List β}, Paired F l₁ l₂ -> (∀ a b, F a b -> G a b) -> Paired G l₁ l₂
 | _, _, .nil, _ => .nil
 | _, _, .cons r t, f => .cons (f _ _ r) (Paired.mapP t f)
theorem wI.stay (x : wI P w H h a o) (k : ∀ b u, (b = a \/ H b = some (.own a)) -> h.get? b = some u -> h'.get? b = some u)
 (ho : ∀ b, H b = some (.own a) -> H' b = some (.own a)) (ht : ∀ b xs, H b = some (.tup xs) -> H' b = some (.tup xs)) : wI P w H' h' a o := by
 induction o with
 | lst xs => obtain ⟨z, its, n, r, e⟩ := x; exact ⟨z, its, n, r, k _ _ (.inl rfl) e⟩
 | tup xs => obtain ⟨z, its, r, ob, e, c⟩ := x; exact ⟨z, its, r, ob, k _ _ (.inl rfl) e, c⟩
 | dK kvs => obtain ⟨z, y, vs, r, ob, es, ep, e, c⟩ := x; exact ⟨z, y, vs, r, ob, es, ep, k _ _ (.inl rfl) e, c⟩
 | dT kvs =>
  obtain ⟨z, y, xs, r, ob, es, ep, e, c⟩ := x
  exact ⟨z, y, xs, Paired.mapP r λ p q z => ⟨z.1, ht _ _ z.2.1, z.2.2⟩, ob, es, ep, k _ _ (.inl rfl) e, c⟩
 | set S n => obtain ⟨ob, es, ep, t, e, c⟩ := x; exact ⟨ob, es, ep, t, k _ _ (.inl rfl) e, c⟩
 | ins C dx fs =>
  obtain ⟨d, z, ne, e, mA, ⟨od, es, ep, e2, c⟩, r⟩ := x
  exact ⟨ho _ d, z, ne, k _ _ (.inl rfl) e, mA, ⟨od, es, ep, k _ _ (.inr d) e2, c⟩, r⟩
 | own y => obtain ⟨ob, e⟩ := x; exact ⟨ob, k _ _ (.inl rfl) e⟩
 | xd fs => obtain ⟨mA, ⟨od, es, ep, e, c⟩, r⟩ := x; exact ⟨mA, ⟨od, es, ep, k _ _ (.inl rfl) e, c⟩, r⟩
 | rng lo hi => obtain ⟨t, u, v, e⟩ := x; exact ⟨t, u, v, k _ _ (.inl rfl) e⟩
 | frz ob u ih => obtain ⟨e, q⟩ := x; exact ⟨k _ _ (.inl rfl) e, ih q⟩
 | tbl ps =>
  have e : h.get? a = some { cls := .none, data := .fields ps } := x
  show h'.get? a = some { cls := .none, data := .fields ps }
  exact k a _ (.inl rfl) e
 | met f y =>
  have e : h.get? a = some (PySem.W.methodObj (.ref f) (.ref y)) := x
  show h'.get? a = some (PySem.W.methodObj (.ref f) (.ref y))
  exact k a _ (.inl rfl) e
 | ext φ => obtain ⟨p, ⟨o, e⟩, st⟩ := x; exact ⟨st _ _ p λ o q => k _ _ (.inl rfl) q, ⟨o, k _ _ (.inl rfl) e⟩, st⟩
theorem HOk.lt (x : HOk P w H h) (e : H a = some o) : a < h.objs.size := (x a o e).lt
theorem HOk.fresh (x : HOk P w H h) (e : h.objs.size <= a) : H a = none := by
 cases q : H a with
 | none => rfl
 | some u => exact absurd (zzH (x.lt q) e) (Nat.lt_irrefl _)
theorem HOk.kept (x : HOk P w H h) (k : ∀ b u, h.get? b = some u -> h'.get? b = some u) : HOk P w H h' := λ a o e =>
 (x a o e).stay (λ b u _ q => k b u q) (λ _ q => q) λ _ _ q => q
theorem HOk.laid (x : HOk P w H h) (k : ∀ b u, h.get? b = some u -> h'.get? b = some u) (hp : h.objs.size <= a) (new : wI P w (upd H a o) h' a o) : HOk P w (upd H a o) h' := λ b u e => by
 have hn := x.fresh hp
 by_cases hb : b = a
 · subst hb; rw [yz] at e; cases e; exact new
 · rw [zX hb] at e
   exact (x b u e).stay (λ c v _ q => k c v q) (λ c q => by rw [zX (xm q hn)]; exact q) λ c xs q => by rw [zX (xm q hn)]; exact q
end
def Rd (H : Hp) (a : Addr) (u : HO) : Prop := H a = some u \/ ∃ o, H a = some (.frz o u)
theorem Rd.ok (r : Rd H a u) (x : HOk P w H h) : wI P w H h a u := by
 rcases r with r | ⟨o, r⟩
 · exact x a u r
 · obtain ⟨_, q⟩ := x a _ r
   exact q
def Mut : Option HO -> Prop
 | some (.lst _) => True
 | some (.dK _) => True
 | some (.dT _) => True
 | some (.set _ _) => True
 | some (.ins _ _ _) => True
 | some (.ext _) => True
 | _ => False
section
variable {P : Program} {w : World} {H : Hp} {h h' : Heap} {x e : Addr} {o' : HO}
theorem HOk.write (ok : HOk P w H h) (mu : Mut (H x)) (he : e = x \/ H e = some (.own x)) (k : ∀ b u, b ≠ e -> h.get? b = some u -> h'.get? b = some u) (heo : ∃ u, h'.get? e = some u)
 (new : wI P w (upd H x o') h' x o') : HOk P w (upd H x o') h' := λ b u q => by
 have nown : ∀ c y, H c = some (.own y) -> c ≠ x := λ c y r z => by subst z; rw [r] at mu; exact mu
 have ntup : ∀ c xs, H c = some (.tup xs) -> c ≠ x := λ c xs r z => by subst z; rw [r] at mu; exact mu
 by_cases hb : b = x
 · subst hb; rw [yz] at q; cases q; exact new
 · rw [zX hb] at q
   by_cases hbe : b = e
   · have q' : H b = some (.own x) := by
      rcases he with z | z
      · exact absurd (hbe.trans z) hb
      · rw [hbe]; exact z
     rw [q] at q'; cases q'
     obtain ⟨v, hv⟩ := heo
     exact ⟨v, by rw [hbe]; exact hv⟩
   · refine (ok b u q).stay (λ c v hc r => k c v ?_ r) (λ c r => by rw [zX (nown c b r)]; exact r) λ c xs r => by rw [zX (ntup c xs r)]; exact r
     rcases hc with rfl | hc
     · exact hbe
     · rintro rfl
       rcases he with z | z
       · exact nown c b hc z
       · rw [hc] at z; cases z; exact hb rfl
end
structure Un (fs ex : List Addr) (H H' : Hp) (h h' : Heap) : Prop where
 keep : ∀ b o, h.get? b = some o -> H b = none -> b ∉ fs -> b ∉ ex -> h'.get? b = some o
 slot : ∀ b o, h.get? b = some o -> H b = none -> b ∈ fs -> b ∉ ex -> ∃ sl, h'.get? b = some { o with slots := sl }
 free : ∀ b o, h.get? b = some o -> H b = none -> b ∉ ex -> H' b = none
 there : ∀ b o, h.get? b = some o -> b ∉ ex -> ∃ o', h'.get? b = some o'
 tups : ∀ b xs, H b = some (.tup xs) -> H' b = some (.tup xs)
 frzs : ∀ b o u, H b = some (.frz o u) -> H' b = some (.frz o u)
 tbls : ∀ b ps, H b = some (.tbl ps) -> ∃ more, H' b = some (.tbl (ps ++ more))
section
variable {fs fs' ex ex' : List Addr} {H H1 H2 : Hp} {h h1 h2 h' : Heap} {a x e : Addr} {o : HO}
theorem Un.any (u : Un fs ex H H1 h h1) (q : h.get? b = some ob) (n : H b = none) (hx : b ∉ ex) : ∃ sl, h1.get? b = some { ob with slots := sl } := by
 by_cases hb : b ∈ fs
 · exact u.slot b ob q n hb hx
 · exact ⟨ob.slots, u.keep b ob q n hb hx⟩
theorem Un.kept (k : ∀ b u, h.get? b = some u -> h'.get? b = some u) : Un fs ex H H h h' :=
 ⟨λ b ob q _ _ _ => k b ob q, λ b ob q _ _ _ => ⟨ob.slots, k b ob q⟩, λ _ _ _ n _ => n, λ b ob q _ => ⟨ob, k b ob q⟩, λ _ _ q => q, λ _ _ _ q => q, λ _ ps q => ⟨#[], by rw [q]; simp⟩⟩
theorem Un.refl : Un fs ex H H h h := Un.kept λ _ _ q => q
theorem Un.laid (k : ∀ b u, h.get? b = some u -> h'.get? b = some u) (hp : h.objs.size <= a) (hn : H a = none) : Un fs ex H (upd H a o) h h' where
 keep := λ b u q _ _ _ => k b u q
 slot := λ b u q _ _ _ => ⟨u.slots, k b u q⟩
 free := λ b u q n _ => by rw [zX (zzN (zzH (Heap.lt_size q) hp))]; exact n
 there := λ b u q _ => ⟨u, k b u q⟩
 tups := λ b xs q => by rw [zX (xm q hn)]; exact q
 frzs := λ b u xs q => by rw [zX (xm q hn)]; exact q
 tbls := λ b ps q => ⟨#[], by rw [zX (xm q hn), q]; simp⟩
theorem Un.write (mu : Mut (H x)) (he : e = x \/ H e = some (.own x)) (k : ∀ b u, b ≠ e -> h.get? b = some u -> h'.get? b = some u) (heo : ∃ u, h'.get? e = some u) : Un fs ex H (upd H x o) h h' := by
 have hx : ∀ b, H b = none -> b ≠ x := λ b n z => by subst z; rw [n] at mu; exact mu
 have hb : ∀ b, H b = none -> b ≠ e := λ b n z => by
  subst z
  rcases he with r | r
  · exact hx b n r
  · rw [n] at r; cases r
 have hm : ∀ b u, H b = some u -> ¬ Mut (some u) -> b ≠ x := λ b u q nm z => by subst z; rw [q] at mu; exact nm mu
 refine ⟨λ b u q n _ _ => k b u (hb b n) q, λ b u q n _ _ => ⟨u.slots, k b u (hb b n) q⟩, λ b u q n _ => by rw [zX (hx b n)]; exact n, λ b u q _ => ?_,
  λ b xs q => by rw [zX (hm b _ q λ z => z)]; exact q, λ b u xs q => by rw [zX (hm b _ q λ z => z)]; exact q, λ b ps q => ⟨#[], by rw [zX (hm b _ q λ z => z), q]; simp⟩⟩
 by_cases hbe : b = e
 · subst hbe; exact heo
 · exact ⟨u, k b u hbe q⟩
end
def trk (h : Heap) (H : Hp) : List Addr := (List.range h.objs.size).filter λ a => (H a).isSome
def zdE (h : Heap) (H : Hp) : Heap := PySem.W.hideAll h (trk h H)
theorem zhc (h : Heap) (H : Hp) : (zdE h H).objs.size = h.objs.size := PySem.W.hideAll_size _ _
theorem ziM (e : h.get? b = some o) (n : H b = none) : (zdE h H).get? b = some o :=
 PySem.W.hideAll_get _ e λ hm => by
  have q : (H b).isSome = true := (List.mem_filter.mp hm).2
  rw [n] at q; simp at q
theorem zjZ (e : (zdE h H).get? b = some o) : h.get? b = some o /\ H b = none := by
 have e' : h.get? b = some o := PySem.W.of_hideAll (trk h H) e
 refine ⟨e', ?_⟩
 cases q : H b with
 | none => rfl
 | some x =>
  have hm : b ∈ trk h H := List.mem_filter.mpr ⟨List.mem_range.mpr (Heap.lt_size e'), by simp [q]⟩
  have z : (zdE h H).get? b = none := PySem.W.hideAll_none (trk h H) hm
  rw [z] at e; cases e
end L2
namespace L2
open PySem PySem.Spec PyProof.Rows
structure Mod (K : zC) (mg : Str -> Option Value) (base : Heap) : Prop where
 kin : K.In base
 glob : base.Ns mainGlobals mg
 blt : ∃ mb, base.Ns builtinsNs mb /\ ∀ x : Str, x ≠ "__name__" -> mb x = bootBuiltins x
 nolimit : base.NoLimit
structure Cx where
 prog : Program
 w : World
 K : zC
 mg : Str -> Option Value
 base : Heap
 A : Around
 N : List Str
 s₀ : Shared
 H₀ : Hp
 env : Env
 outer : List Env
 stack : List Env
 ex : List Addr
 fn : Str -> Bool
 calm : Bool
 pn : List (Addr × Obj)
 xe : Value -> Shared -> Prop
def frs (l : List Env) : List Addr := l.filterMap (·.frame)
abbrev Cx.fs (X : Cx) : List Addr := frs X.outer
def Vis (sc : Scope) (x : Str) : Prop := sc.names.lookup x = some .local \/ sc.names.lookup x = some .cell \/ sc.names.lookup x = some .free
def Loc (sc : Scope) (x : Str) : Prop := sc.names.lookup x = some .local \/ sc.names.lookup x = some .cell
def Look (env : Env) (h : Heap) (m : Str -> Option Value) (x : Str) (u : Value) : Prop :=
 (env.kindOf x = some .local /\ m x = some u) \/ ((env.kindOf x = some .cell \/ env.kindOf x = some .free) /\ ∃ c, env.cells.lookup x = some c /\ h.IsCell c (some u))
structure Cx.Ok (X : Cx) : Prop where
 mod : Mod X.K X.mg X.base
 kind : X.env.scope.kind = .function
 glob : X.env.globals = mainGlobals
 blt : X.env.builtins = builtinsNs
 above : X.s₀.heap.objs.size <= X.env.locals
 inj : ∀ x y c, X.env.cells.lookup x = some c -> X.env.cells.lookup y = some c -> x = y
 has : ∀ x, (X.env.kindOf x = some .cell \/ X.env.kindOf x = some .free) -> ∃ c, X.env.cells.lookup x = some c
 cab : ∀ x c, X.fn x = true -> X.env.cells.lookup x = some c -> X.s₀.heap.objs.size <= c
 hd : X.calm = true -> X.A.handled = none
 frames : X.A.frames = some X.stack
 stk : X.stack = X.outer \/ (X.stack = X.env :: X.outer /\ X.env.frame = some X.env.locals)
 exf : ∀ b ∈ X.ex, b ≠ X.env.locals /\ ∀ x c, X.env.cells.lookup x = some c -> c ≠ b
 bs : ∀ b o, X.base.get? b = some o -> X.s₀.heap.get? b = some o /\ X.H₀ b = none
 bsz : X.base.objs.size <= X.s₀.heap.objs.size
 noex : ∀ b o, X.base.get? b = some o -> b ∉ X.ex
 exfs : ∀ b ∈ X.ex, b ∉ X.fs
 funs : X.s₀.heap.FunFrames X.base X.outer
 frf : ∀ b ∈ X.fs, X.H₀ b = none
structure Inv (X : Cx) (pins : List (Addr × Obj)) (σ : List (Option V)) (H : Hp) (s : Shared) : Prop where
 ok : X.Ok
 os : s.os = X.s₀.os
 bare : AllBare s.gens
 base : Un X.fs X.ex X.H₀ H X.s₀.heap s.heap
 loc : ∃ m, s.heap.Ns X.env.locals m /\ ∀ (i : Nat) (x : Str) (v : V), X.N[i]? = some x -> σ[i]? = some (some v) -> Vis X.env.scope x -> ∃ u, RelV v u /\ Look X.env s.heap m x u
 cell : ∀ x c, X.env.cells.lookup x = some c -> ∃ v, s.heap.IsCell c v
 free : H X.env.locals = none
 freeC : ∀ x c, X.env.cells.lookup x = some c -> H c = none
 pin : ∀ p ∈ X.pn ++ pins, s.heap.get? p.1 = some p.2 /\ H p.1 = none /\ p.1 ≠ X.env.locals /\ p.1 ∉ X.fs /\ ∀ v, p.2.data ≠ .cell v
 hok : HOk X.prog X.w H s.heap
 len : σ.length = X.N.length
section
variable {X : Cx} {pins : List (Addr × Obj)} {σ : List (Option V)} {H H' : Hp} {s : Shared} {h' : Heap}
theorem Cx.Ok.nofr (ok : X.Ok) (e : X.base.get? b = some o) : b ∉ X.fs := λ hb => by
 have := (ok.funs.mem hb).1
 rw [e] at this; cases this
theorem Inv.bs (I : Inv X pins σ H s) : ∀ b o, X.base.get? b = some o -> s.heap.get? b = some o /\ H b = none := λ b o e =>
 ⟨I.base.keep b o (I.ok.bs b o e).1 (I.ok.bs b o e).2 (I.ok.nofr e) (I.ok.noex b o e), I.base.free b o (I.ok.bs b o e).1 (I.ok.bs b o e).2 (I.ok.noex b o e)⟩
theorem Inv.bk (I : Inv X pins σ H s) : ∀ b o, X.base.get? b = some o -> s.heap.get? b = some o := λ b o e => (I.bs b o e).1
theorem Inv.mod (I : Inv X pins σ H s) : Mod X.K X.mg X.base := I.ok.mod
theorem Inv.kIn (I : Inv X pins σ H s) : X.K.In s.heap := I.ok.mod.kin.keeps I.bk
theorem Inv.lt (I : Inv X pins σ H s) : X.env.locals < s.heap.objs.size := let ⟨_, hn, _⟩ := I.loc; hn.lt
theorem Inv.sz (I : Inv X pins σ H s) : X.s₀.heap.objs.size <= s.heap.objs.size := zzL I.ok.above (Nat.le_of_lt I.lt)
theorem Inv.nofs (I : Inv X pins σ H s) (h : s.heap.objs.size <= a) : a ∉ X.fs := λ hb => by
 obtain ⟨_, o, ho, _⟩ := I.ok.funs.mem hb
 exact absurd (zzH (Heap.lt_size ho) (zzL I.sz h)) (Nat.lt_irrefl _)
theorem Inv.cne (I : Inv X pins σ H s) : ∀ x c, X.env.cells.lookup x = some c -> c ≠ X.env.locals := λ x c e z => by
 obtain ⟨v, o, ho, hd⟩ := I.cell x c e
 obtain ⟨m, ⟨o', es, ep, ho', hd', _⟩, _⟩ := I.loc
 rw [z, ho'] at ho; cases ho; rw [hd'] at hd; cases hd
theorem Inv.funs (I : Inv X pins σ H s) : s.heap.FunFrames X.base X.outer := by
 have all : ∀ (l : List Env), (∀ b ∈ frs l, b ∈ X.fs) -> X.s₀.heap.FunFrames X.base l -> s.heap.FunFrames X.base l := by
  intro l
  induction l with
  | nil => intro _ _; trivial
  | cons env r ih =>
   intro hs hl
   obtain ⟨hk, ⟨L, o, hf, hn, ho, hd⟩, hr⟩ := hl
   have hL : L ∈ X.fs := hs L (by unfold frs; rw [List.filterMap_cons, hf]; exact zzC)
   obtain ⟨sl, e⟩ := I.base.slot L o ho (I.ok.frf L hL) hL λ z => I.ok.exfs L z hL
   exact ⟨hk, ⟨L, _, hf, hn, e, hd⟩, ih (λ b hb => hs b (by unfold frs; rw [List.filterMap_cons, hf]; exact zzA _ hb)) hr⟩
 exact all X.outer (λ _ hb => hb) I.ok.funs
theorem Inv.stack (I : Inv X pins σ H s) : s.heap.FunFrames X.base X.stack := by
 rcases I.ok.stk with e | ⟨e, hf⟩
 · rw [e]; exact I.funs
 · rw [e]
   obtain ⟨m, hn, _⟩ := I.loc
   refine .cons (by rw [I.ok.kind]; decide) hf hn ?_ I.funs
   exact Heap.get?_none_of_le (zzL I.ok.bsz I.ok.above)
theorem Inv.stkSub (I : Inv X pins σ H s) : ∀ b ∈ frs X.stack, b ∈ X.env.locals :: X.fs := λ b hb => by
 rcases I.ok.stk with e | ⟨e, hf⟩
 · rw [e] at hb; exact zzA _ hb
 · rw [e] at hb
   unfold frs at hb
   rw [List.filterMap_cons, hf] at hb
   exact hb
theorem Inv.stkFree (I : Inv X pins σ H s) : ∀ b ∈ frs X.stack, H b = none := λ b hb => by
 rcases zS.mp (I.stkSub b hb) with e | hb
 · rw [e]; exact I.free
 · obtain ⟨_, o, ho, _⟩ := I.ok.funs.mem hb
   exact I.base.free b o ho (I.ok.frf b hb) λ z => I.ok.exfs b z hb
theorem Inv.step {g' : Array GenState} {t' : Nat} {d' : Drawn} {ch : List Addr} (I : Inv X pins σ H s)
 (hch : ∀ b ∈ ch, (b ∈ X.ex \/ X.s₀.heap.objs.size <= b) /\ b ≠ X.env.locals /\ (∀ x c, X.env.cells.lookup x = some c -> c ≠ b) /\ ∀ p ∈ X.pn ++ pins, p.1 ≠ b)
 (keep : ∀ b o, b ≠ X.env.locals -> b ∉ X.fs -> b ∉ ch -> s.heap.get? b = some o -> H b = none -> h'.get? b = some o)
 (slot : ∀ b o, b ≠ X.env.locals -> b ∈ X.fs -> b ∉ ch -> s.heap.get? b = some o -> H b = none -> ∃ sl, h'.get? b = some { o with slots := sl }) (free : ∀ b o, b ∉ ch -> s.heap.get? b = some o -> H b = none -> H' b = none)
 (there : ∀ b o, b ∉ ch -> s.heap.get? b = some o -> ∃ o', h'.get? b = some o')
 (tups : ∀ b xs, H b = some (.tup xs) -> H' b = some (.tup xs)) (frzs : ∀ b o u, H b = some (.frz o u) -> H' b = some (.frz o u)) (tbls : ∀ b ps, H b = some (.tbl ps) -> ∃ more, H' b = some (.tbl (ps ++ more)))
 (ns : ∀ m, s.heap.Ns X.env.locals m -> h'.Ns X.env.locals m) (hok : HOk X.prog X.w H' h') (hg : AllBare g') :
 Inv X pins σ H' { s with heap := h', gens := g', drawn := d', toks := t' } := by
 have neL : ∀ b o, X.s₀.heap.get? b = some o -> b ≠ X.env.locals := λ b o e => zzN (zzH (Heap.lt_size e) I.ok.above)
 have neC : ∀ b o, X.s₀.heap.get? b = some o -> b ∉ X.ex -> b ∉ ch := λ b o e hx hb => by
  rcases (hch b hb).1 with z | z
  · exact hx z
  · exact absurd (zzH (Heap.lt_size e) z) (Nat.lt_irrefl _)
 have cellK : ∀ x c, X.env.cells.lookup x = some c -> ∀ v, s.heap.IsCell c v -> h'.IsCell c v := λ x c e v ⟨o, ho, hd⟩ => by
  have nch : c ∉ ch := λ z => (hch c z).2.2.1 x c e rfl
  by_cases hc : c ∈ X.fs
  · obtain ⟨sl, q⟩ := slot c o (I.cne x c e) hc nch ho (I.freeC x c e)
    exact ⟨_, q, hd⟩
  · exact ⟨o, keep c o (I.cne x c e) hc nch ho (I.freeC x c e), hd⟩
 refine ⟨I.ok, I.os, hg, ⟨λ b o e n hb hx => ?_, λ b o e n hb hx => ?_, λ b o e n hx => ?_, λ b o e hx => ?_, λ b xs e => tups b xs (I.base.tups b xs e), λ b o xs e => frzs b o xs (I.base.frzs b o xs e), λ b ps e => ?_⟩, ?_, λ x c e => ?_, ?_, λ x c e => ?_, λ p hp => ?_, hok, I.len⟩
 · exact keep b o (neL b o e) hb (neC b o e hx) (I.base.keep b o e n hb hx) (I.base.free b o e n hx)
 · obtain ⟨sl, e1⟩ := I.base.slot b o e n hb hx
   obtain ⟨sl', e2⟩ := slot b _ (neL b o e) hb (neC b o e hx) e1 (I.base.free b o e n hx)
   exact ⟨sl', e2⟩
 · obtain ⟨o', e1⟩ := I.base.there b o e hx
   exact free b o' (neC b o e hx) e1 (I.base.free b o e n hx)
 · obtain ⟨o', e1⟩ := I.base.there b o e hx
   exact there b o' (neC b o e hx) e1
 · obtain ⟨m1, e1⟩ := I.base.tbls b ps e
   obtain ⟨m2, e2⟩ := tbls b _ e1
   exact ⟨m1 ++ m2, by rw [e2, Array.append_assoc]⟩
 · obtain ⟨m, hn, hl⟩ := I.loc
   refine ⟨m, ns m hn, λ i x v e1 e2 e3 => ?_⟩
   obtain ⟨u, r, l⟩ := hl i x v e1 e2 e3
   refine ⟨u, r, ?_⟩
   rcases l with l | ⟨k, c, e, z⟩
   · exact .inl l
   · exact .inr ⟨k, c, e, cellK x c e _ z⟩
 · obtain ⟨v, z⟩ := I.cell x c e
   exact ⟨v, cellK x c e v z⟩
 · obtain ⟨m, ⟨o, _, _, ho, _⟩, _⟩ := I.loc
   exact free _ o (λ z => (hch _ z).2.1 rfl) ho I.free
 · obtain ⟨v, o, ho, hd⟩ := I.cell x c e
   exact free c o (λ z => (hch c z).2.2.1 x c e rfl) ho (I.freeC x c e)
 · obtain ⟨e, n, ne, nf, d⟩ := I.pin p hp
   have nch : p.1 ∉ ch := λ z => (hch p.1 z).2.2.2 p hp rfl
   exact ⟨keep p.1 p.2 ne nf nch e n, free p.1 p.2 nch e n, ne, nf, d⟩
theorem Inv.un {t' : Nat} (I : Inv X pins σ H s) (u : Un X.fs [] H H' s.heap h') (hok : HOk X.prog X.w H' h') : Inv X pins σ H' { s with heap := h', toks := t' } := by
 obtain ⟨m, ⟨o, es, ep, ho, r⟩, _⟩ := id I.loc
 obtain ⟨sl, hL⟩ := u.any ho I.free (by simp)
 exact I.step (g' := s.gens) (d' := s.drawn) (ch := []) (λ _ z => nomatch z) (λ b o _ hb _ e n => u.keep b o e n hb (by simp)) (λ b o _ hb _ e n => u.slot b o e n hb (by simp)) (λ b o _ e n => u.free b o e n (by simp)) (λ b o _ e => u.there b o e (by simp)) u.tups u.frzs u.tbls (λ m' hm => by
  obtain ⟨o', es', ep', ho', r'⟩ := hm
  rw [ho] at ho'; cases ho'
  exact ⟨_, es', ep', hL, r'⟩) hok I.bare
theorem Inv.call {g' : Array GenState} {t' : Nat} {d' : Drawn} {ch : List Addr} (I : Inv X pins σ H s) (u : Un (frs X.stack) ch H H' s.heap h') (hok : HOk X.prog X.w H' h') (hg : AllBare g')
 (hch : ∀ b ∈ ch, (b ∈ X.ex \/ X.s₀.heap.objs.size <= b) /\ b ≠ X.env.locals /\ (∀ x c, X.env.cells.lookup x = some c -> c ≠ b) /\ ∀ p ∈ X.pn ++ pins, p.1 ≠ b) :
 Inv X pins σ H' { s with heap := h', gens := g', drawn := d', toks := t' } := by
 obtain ⟨m, ⟨o, es, ep, ho, r⟩, _⟩ := id I.loc
 obtain ⟨sl, hL⟩ := u.any ho I.free λ z => (hch _ z).2.1 rfl
 exact I.step (ch := ch) hch (λ b o hL hb hc e n => u.keep b o e n (λ z => (zS.mp (I.stkSub b z)).elim hL hb) hc) (λ b o _ _ hc e n => u.any e n hc) (λ b o hc e n => u.free b o e n hc) (λ b o hc e => u.there b o e hc) u.tups u.frzs u.tbls (λ m' hm => by
  obtain ⟨o', es', ep', ho', r'⟩ := hm
  rw [ho] at ho'; cases ho'
  exact ⟨_, es', ep', hL, r'⟩) hok hg
theorem Inv.turned {t' : Nat} {it : Addr} (I : Inv X pins σ H s) (k : ∀ b o, b ≠ it -> s.heap.get? b = some o -> h'.get? b = some o) (hn : H it = none) (hL : it ≠ X.env.locals)
 (h1 : it ∈ X.ex \/ X.s₀.heap.objs.size <= it) (h2 : ∀ x c, X.env.cells.lookup x = some c -> c ≠ it) (h3 : ∀ p ∈ X.pn ++ pins, p.1 ≠ it) : Inv X pins σ H { s with heap := h', toks := t' } := by
 have nit : ∀ b u, H b = some u -> b ≠ it := λ b u e z => by rw [z, hn] at e; cases e
 refine I.step (g' := s.gens) (d' := s.drawn) (ch := [it]) (λ b hb => ?_) (λ b o _ _ hc e _ => k b o (λ z => hc (by simp [z])) e) (λ b o _ _ hc e _ => ⟨o.slots, k b o (λ z => hc (by simp [z])) e⟩) (λ _ _ _ _ n => n)
  (λ b o hc e => ⟨o, k b o (λ z => hc (by simp [z])) e⟩) (λ _ _ e => e) (λ _ _ _ e => e) (λ b ps e => ⟨#[], by rw [e]; simp⟩) (λ m hm => ?_) (λ b u e => ?_) I.bare
 · have e : b = it := by simpa using hb
   subst e
   exact ⟨h1, hL, h2, h3⟩
 · obtain ⟨o, es, ep, ho, r⟩ := hm
   exact ⟨o, es, ep, k _ o (Ne.symm hL) ho, r⟩
 · refine (I.hok b u e).stay (λ c v hc q => k c v ?_ q) (λ _ q => q) λ _ _ q => q
   rcases hc with z | z
   · rw [z]; exact nit b u e
   · exact nit c _ z
theorem Inv.tok (I : Inv X pins σ H s) (t : Nat) : Inv X pins σ H { s with toks := t } := I.un (h' := s.heap) (t' := t) Un.refl I.hok
theorem Inv.kept (I : Inv X pins σ H s) (k : ∀ b u, s.heap.get? b = some u -> h'.get? b = some u) : Inv X pins σ H { s with heap := h', toks := t' } := I.un (Un.kept k) (I.hok.kept k)
theorem Inv.laid (I : Inv X pins σ H s) (k : ∀ b u, s.heap.get? b = some u -> h'.get? b = some u) (hp : s.heap.objs.size <= a) (new : wI X.prog X.w (upd H a o) h' a o) :
 Inv X pins σ (upd H a o) { s with heap := h', toks := t' } := I.un (Un.laid k hp (I.hok.fresh hp)) (I.hok.laid k hp new)
theorem Inv.write (I : Inv X pins σ H s) (mu : Mut (H x)) (he : e = x \/ H e = some (.own x)) (k : ∀ b u, b ≠ e -> s.heap.get? b = some u -> h'.get? b = some u) (heo : ∃ u, h'.get? e = some u)
 (new : wI X.prog X.w (upd H x o) h' x o) : Inv X pins σ (upd H x o) { s with heap := h', toks := t' } := I.un (Un.write mu he k heo) (I.hok.write mu he k heo new)
theorem Inv.weak (I : Inv X pins σ H s) (hl : σ'.length = σ.length) (w : ∀ (i : Nat) v, σ'[i]? = some (some v) -> σ[i]? = some (some v)) : Inv X pins σ' H s :=
 ⟨I.ok, I.os, I.bare, I.base, let ⟨m, hn, hl'⟩ := I.loc; ⟨m, hn, λ i x v e1 e2 e3 => hl' i x v e1 (w i v e2) e3⟩, I.cell, I.free, I.freeC, I.pin, I.hok, hl.trans I.len⟩
theorem Inv.pins_of (I : Inv X pins σ H s) (h : ∀ p ∈ pins', s.heap.get? p.1 = some p.2 /\ H p.1 = none /\ p.1 ≠ X.env.locals /\ p.1 ∉ X.fs /\ ∀ v, p.2.data ≠ .cell v) : Inv X pins' σ H s :=
 ⟨I.ok, I.os, I.bare, I.base, I.loc, I.cell, I.free, I.freeC, λ p hp => (zzJ.mp hp).elim (λ z => I.pin p (zzM _ z)) (h p), I.hok, I.len⟩
theorem zef {N : List Str} (hN : N.Nodup) {i j : Nat} {x : Str} (a : N[i]? = some x) (b : N[j]? = some x) : i = j := by
 obtain ⟨h1, e1⟩ := zzD.mp a
 obtain ⟨h2, e2⟩ := zzD.mp b
 exact (List.getElem_inj hN).mp (e1.trans e2.symm)
theorem zcy {M : Model} {A : Around} {E : Value -> Shared -> Prop} {i : Nat} {x : Str} {v : V} {u : Value} {Q : Unit -> Shared -> Prop} (I : Inv X pins σ H s) (hN : X.N.Nodup) (hi : X.N[i]? = some x) (hx : Loc X.env.scope x) (r : RelV v u)
 (h : ∀ s', Inv X pins (σ.set i (some v)) H s' -> (∃ a, Heap.SameBut a s.heap s'.heap /\ (a = X.env.locals \/ X.env.cells.lookup x = some a)) -> Q () s') (hf : X.fn x = true \/ X.env.scope.names.lookup x = some .local := by first | exact .inl rfl | exact .inr rfl | assumption) : wpAny M A (storeName X.env x u) Q E s := by
 obtain ⟨m, hn, hl⟩ := id I.loc
 have hcls : (X.env.scope.kind == .class || (X.env.scope.kind == .module && X.env.locals != X.env.globals)) = false := by rw [I.ok.kind]; rfl
 have hiσ : i < σ.length := by rw [I.len]; exact (zzD.mp hi).1
 have cne := I.cne
 have tracked : ∀ {a : Addr} {h' : Heap}, (∃ o, s.heap.get? a = some o /\ H a = none) -> Heap.SameBut a s.heap h' -> HOk X.prog X.w H h' := λ {a h'} ha hs b ob e => by
  obtain ⟨_, _, hfree⟩ := ha
  refine (I.hok b ob e).stay (λ c w' hc q => (hs.2 c ?_).trans q) (λ _ q => q) λ _ _ q => q
  rintro rfl
  rcases hc with rfl | hc
  · rw [hfree] at e; cases e
  · rw [hfree] at hc; cases hc
 rcases hx with hk | hk
 · refine wpAny_storeName_local hk hn (λ h' hn' hs => ?_) hcls
   obtain ⟨oL, _, _, hoL, _⟩ := id hn
   refine h _ ⟨I.ok, I.os, I.bare, ⟨λ b o e n hb hx => ?_, λ b o e n hb hx => ?_, I.base.free, λ b o e hx => ?_, I.base.tups, I.base.frzs, I.base.tbls⟩, ⟨_, hn', λ j y v' e1 e2 e3 => ?_⟩, λ y c e => ?_, I.free, I.freeC, λ p hp => ?_, tracked ⟨oL, hoL, I.free⟩ hs, by simpa using I.len⟩ ⟨_, hs, .inl rfl⟩
   · exact (hs.2 b (zzN (zzH (Heap.lt_size e) I.ok.above))).trans (I.base.keep b o e n hb hx)
   · obtain ⟨sl, e1⟩ := I.base.slot b o e n hb hx
     exact ⟨sl, (hs.2 b (zzN (zzH (Heap.lt_size e) I.ok.above))).trans e1⟩
   · obtain ⟨o', e1⟩ := I.base.there b o e hx
     exact ⟨o', (hs.2 b (zzN (zzH (Heap.lt_size e) I.ok.above))).trans e1⟩
   · by_cases hj : j = i
     · subst hj
       rw [hi] at e1; cases e1
       rw [List.getElem?_set_self hiσ] at e2
       cases e2
       exact ⟨u, r, .inl ⟨hk, by simp⟩⟩
     · rw [zzV (Ne.symm hj)] at e2
       obtain ⟨u', r', q⟩ := hl j y v' e1 e2 e3
       refine ⟨u', r', ?_⟩
       rcases q with ⟨k, e⟩ | ⟨k, c, e, z⟩
       · refine .inl ⟨k, ?_⟩
         have : y ≠ x := λ e => hj (zef hN e1 (e ▸ hi))
         simp [this, e]
       · exact .inr ⟨k, c, e, z.sameBut hs (cne y c e)⟩
   · obtain ⟨w', z⟩ := I.cell y c e
     exact ⟨w', z.sameBut hs (cne y c e)⟩
   · obtain ⟨e, n, ne, nf, d⟩ := I.pin p hp
     exact ⟨(hs.2 p.1 ne).trans e, n, ne, nf, d⟩
 · have hfn : X.fn x = true := by
    rcases hf with z | z
    · exact z
    · rw [z] at hk; cases hk
   obtain ⟨c, hc⟩ := I.ok.has x (.inl hk)
   obtain ⟨w', z⟩ := I.cell x c hc
   refine wpAny_storeName_cell I.ok.kind hk hc z (λ h' hc' hs => ?_)
   obtain ⟨oc, hoc, hocd⟩ := id z
   refine h { s with heap := h' } ⟨I.ok, I.os, I.bare, ⟨λ b o e n hb hx => ?_, λ b o e n hb hx => ?_, I.base.free, λ b o e hx => ?_, I.base.tups, I.base.frzs, I.base.tbls⟩, ⟨m, hn.sameBut hs (Ne.symm (cne x c hc)), λ j y v' e1 e2 e3 => ?_⟩, λ y c' e => ?_, I.free, I.freeC, λ p hp => ?_, tracked ⟨oc, hoc, I.freeC x c hc⟩ hs, by simpa using I.len⟩ ⟨c, hs, .inr hc⟩
   · exact (hs.2 b (zzN (zzH (Heap.lt_size e) (I.ok.cab x c hfn hc)))).trans (I.base.keep b o e n hb hx)
   · obtain ⟨sl, e1⟩ := I.base.slot b o e n hb hx
     exact ⟨sl, (hs.2 b (zzN (zzH (Heap.lt_size e) (I.ok.cab x c hfn hc)))).trans e1⟩
   · obtain ⟨o', e1⟩ := I.base.there b o e hx
     exact ⟨o', (hs.2 b (zzN (zzH (Heap.lt_size e) (I.ok.cab x c hfn hc)))).trans e1⟩
   · by_cases hj : j = i
     · subst hj
       rw [hi] at e1; cases e1
       rw [List.getElem?_set_self hiσ] at e2
       cases e2
       exact ⟨u, r, .inr ⟨.inl hk, c, hc, hc'⟩⟩
     · rw [zzV (Ne.symm hj)] at e2
       obtain ⟨u', r', q⟩ := hl j y v' e1 e2 e3
       refine ⟨u', r', ?_⟩
       rcases q with q | ⟨k, c', e, z'⟩
       · exact .inl q
       · refine .inr ⟨k, c', e, z'.sameBut hs ?_⟩
         rintro rfl
         exact hj (zef hN e1 (I.ok.inj _ _ _ e hc ▸ hi))
   · by_cases hcc : c' = c
     · subst hcc; exact ⟨_, hc'⟩
     · obtain ⟨w2, z2⟩ := I.cell y c' e
       exact ⟨w2, z2.sameBut hs hcc⟩
   · obtain ⟨e, n, ne, nf, d⟩ := I.pin p hp
     refine ⟨(hs.2 p.1 ?_).trans e, n, ne, nf, d⟩
     intro q
     rw [q, hoc] at e
     have q' : oc = p.2 := Option.some.inj e
     exact d w' (by rw [<- q']; exact hocd)
theorem XJ (I : Inv X pins σ H s) (hN : X.N.Nodup) (hi : X.N[i]? = some x) (hx : Loc X.env.scope x) (r : RelV v u)
 (h : ∀ s', Inv X pins (σ.set i (some v)) H s' -> Q () s') (hf : X.fn x = true \/ X.env.scope.names.lookup x = some .local := by first | exact .inl rfl | exact .inr rfl | assumption) : wpAny M A (storeName X.env x u) Q E s :=
 zcy I hN hi hx r (λ s' I' _ => h s' I') hf
theorem Inv.call' (I : Inv X pins σ H s) (ho : s'.os = s.os) (u : Un (frs X.stack) ch H H' s.heap s'.heap) (hok : HOk X.prog X.w H' s'.heap) (hg : AllBare s'.gens)
 (hch : ∀ b ∈ ch, (b ∈ X.ex \/ X.s₀.heap.objs.size <= b) /\ b ≠ X.env.locals /\ (∀ x c, X.env.cells.lookup x = some c -> c ≠ b) /\ ∀ p ∈ X.pn ++ pins, p.1 ≠ b) : Inv X pins σ H' s' := by
 obtain ⟨h', g', d', t', o'⟩ := s'
 have e : o' = s.os := ho
 subst e
 exact I.call (g' := g') (t' := t') (d' := d') u hok hg hch
end
abbrev XK := Value -> Option Addr -> Hp -> Prop
abbrev St := List (Option V)
abbrev VK := V -> Hp -> Prop
abbrev TE := St -> Hp -> VK -> Prop
abbrev TT := St -> Hp -> (Bool -> Hp -> Prop) -> Prop
abbrev TA := St -> Hp -> (List V -> Hp -> Prop) -> Prop
structure Ends where
 nx : St -> Hp -> Prop
 rt : VK
 bk : St -> Hp -> Prop := λ _ _ => False
 ct : St -> Hp -> Prop := λ _ _ => False
abbrev TS := Ends -> St -> Hp -> Prop
def EP (X : Cx) (pins : List (Addr × Obj)) (σ : St) (Q : VK) (u : Value) (s' : Shared) : Prop := ∃ v H', Inv X pins σ H' s' /\ RelV v u /\ Q v H'
def TP (X : Cx) (pins : List (Addr × Obj)) (σ : St) (Q : Bool -> Hp -> Prop) (b : Bool) (s' : Shared) : Prop := ∃ H', Inv X pins σ H' s' /\ Q b H'
def AP (X : Cx) (pins : List (Addr × Obj)) (σ : St) (Q : List V -> Hp -> Prop) (us : List Value) (s' : Shared) : Prop := ∃ vs H', Inv X pins σ H' s' /\ Vals vs us /\ Q vs H'
def SP (X : Cx) (pins : List (Addr × Obj)) (D : Ends) (f : Flow) (s' : Shared) : Prop :=
 match f with
 | .next => ∃ σ' H', Inv X pins σ' H' s' /\ D.nx σ' H'
 | .brk => ∃ σ' H', Inv X pins σ' H' s' /\ D.bk σ' H'
 | .cont => ∃ σ' H', Inv X pins σ' H' s' /\ D.ct σ' H'
 | .ret u => ∃ v σ' H', Inv X pins σ' H' s' /\ RelV v u /\ D.rt v H'
def PE (X : Cx) (e : Expr) (t : TE) : Prop :=
 ∀ (pins : List (Addr × Obj)) (s : Shared) (σ : St) (H : Hp) (Q : VK), Inv X pins σ H s -> t σ H Q -> wpAny (model X.prog X.w) X.A (eval e X.env) (EP X pins σ Q) X.xe s
def PT (X : Cx) (e : Expr) (t : TT) : Prop :=
 ∀ (pins : List (Addr × Obj)) (s : Shared) (σ : St) (H : Hp) (Q : Bool -> Hp -> Prop), Inv X pins σ H s -> t σ H Q -> wpAny (model X.prog X.w) X.A (isTrue e X.env (eval e X.env)) (TP X pins σ Q) X.xe s
def PW (X : Cx) (e : Expr) (t : TT) : Prop :=
 ∀ (whole : Sem Value) (pins : List (Addr × Obj)) (s : Shared) (σ : St) (H : Hp) (Q : Bool -> Hp -> Prop), Inv X pins σ H s -> t σ H Q -> wpAny (model X.prog X.w) X.A (isTrue e X.env whole) (TP X pins σ Q) X.xe s
theorem PW.pt (h : PW X e t) : PT X e t := h _
def PA (X : Cx) (es : List Expr) (t : TA) : Prop :=
 ∀ (pos : Pos) (pins : List (Addr × Obj)) (s : Shared) (σ : St) (H : Hp) (Q : List V -> Hp -> Prop), Inv X pins σ H s -> t σ H Q -> wpAny (model X.prog X.w) X.A (spliced (backTo pos (starEach es X.env))) (AP X pins σ Q) X.xe s
def PS (X : Cx) (st : Stmt) (t : TS) : Prop :=
 ∀ (pins : List (Addr × Obj)) (s : Shared) (σ : St) (H : Hp) (D : Ends), Inv X pins σ H s -> t D σ H -> wpAny (model X.prog X.w) X.A (exec st X.env) (SP X pins D) X.xe s
def PSs (X : Cx) (st : List Stmt) (t : TS) : Prop :=
 ∀ (pins : List (Addr × Obj)) (s : Shared) (σ : St) (H : Hp) (D : Ends), Inv X pins σ H s -> t D σ H -> wpAny (model X.prog X.w) X.A (execs st X.env) (SP X pins D) X.xe s
theorem thn (h : wpAny M A t Q E s) (hQ : ∀ a s, Q a s -> Q' a s) : wpAny M A t Q' E s := wpAny_mono h hQ λ _ _ x => x
end L2
namespace L2
open PySem PySem.Spec PyProof.Rows
section
variable {X : Cx}
def zbc (i : Nat) : TE := λ σ H Q => ∃ v, σ[i]? = some (some v) /\ Q v H
def tC (v : V) : TE := λ _ H Q => Q v H
theorem zim (hN : X.N[i]? = some x) (hv : Vis X.env.scope x) (hd : (x == ("__debug__" : Str)) = false := by decide) (hcd : (x == ("__classdict__" : Str)) = false := by decide) : PE X (.Name x pos) (zbc i) := by
 intro pins s σ H Q I h
 obtain ⟨v, e, h⟩ := h
 obtain ⟨m, hn, hl⟩ := I.loc
 obtain ⟨u, r, l⟩ := hl i x v hN e hv
 have fin : EP X pins σ Q u s := ⟨v, H, I, r, h⟩
 rcases l with ⟨hk, hm⟩ | ⟨hk, c, hc, hcell⟩
 · exact wpAny_Name (wpAny_loadName_local I.ok.kind hk hn hm fin) hd
 · rcases hk with hk | hk
   · exact wpAny_Name (wpAny_loadName_cell I.ok.kind hk hc hcell fin) hd
   · exact wpAny_Name (wpAny_loadName_free I.ok.kind hk hc hcell fin hcd) hd
theorem ziU : PE X (.Constant (.int i) j pos) (tC (.int i)) := λ _ _ _ H _ I h => wpAny_Constant_int ⟨.int i, H, I.tok _, ⟨_, rfl⟩, h⟩
theorem znY : PE X (.Constant (.bool b) j pos) (tC (.bl b)) := λ _ _ _ H _ I h => Constant_bool ⟨.bl b, H, I, rfl, h⟩
theorem zmM : PE X (.Constant .none j pos) (tC .non) := λ _ _ _ H _ I h => Constant_none ⟨.non, H, I, rfl, h⟩
theorem zmV : PE X (.Constant (.str x) j pos) (tC (.str x)) := λ _ _ _ H _ I h => Calls.Constant_str ⟨.str x, H, I.tok _, ⟨_, rfl⟩, h⟩
def Gl (X : Cx) (x : Str) : Prop := X.env.kindOf x = some .globalImplicit
theorem zky (I : Inv X pins σ H s) (hg : Gl X x) (hm : X.mg x = some u) (h : Q u s)
 (hd : (x == ("__debug__" : Str)) = false := by decide) : wpAny (model X.prog X.w) X.A (eval (.Name x pos) X.env) Q E s :=
 Calls.Name_function_global I.ok.kind hg (Calls.loadGlobal_global (by rw [I.ok.glob]; exact I.mod.glob.keeps I.bk) hm h) hd
theorem zac (I : Inv X pins σ H s) (hg : Gl X x) (hm : X.mg x = none) (hv : bootBuiltins x = some u) (h : Q u s)
 (hn : x ≠ "__name__" := by decide) (hd : (x == ("__debug__" : Str)) = false := by decide) : wpAny (model X.prog X.w) X.A (eval (.Name x pos) X.env) Q E s := by
 obtain ⟨mb, h1, h2⟩ := I.mod.blt
 exact Calls.Name_function_global I.ok.kind hg (Calls.loadGlobal_builtin (by rw [I.ok.glob]; exact I.mod.glob.keeps I.bk) hm (by rw [I.ok.blt]; exact h1.keeps I.bk) ((h2 x hn).trans hv) h) hd
variable {a b : Expr} {ta tb : TE} {pos : Pos}
variable {tA tB' : TT} {rest : List Expr}
def zoy (t u : TT) : TT := λ σ H Q => t σ H λ c H1 => if c = true then u σ H1 Q else Q false H1
def tOr (t u : TT) : TT := λ σ H Q => t σ H λ c H1 => if c = true then Q true H1 else u σ H1 Q
def zoO (t : TT) : TT := λ σ H Q => t σ H λ c H1 => Q (!c) H1
theorem zjB (ha : PT X a tA) : PW X (.BoolOp .And [a] pos) tA := by
 intro wh pins s σ H Q I h
 refine isTrue_and (thn (ha pins s σ H Q I h) λ c s1 e => ?_)
 cases c with
 | true => exact isTrue_and_nil e
 | false => exact e
theorem zmS (ha : PT X a tA) : PW X (.BoolOp .Or [a] pos) tA := by
 intro wh pins s σ H Q I h
 refine isTrue_or (thn (ha pins s σ H Q I h) λ c s1 e => ?_)
 cases c with
 | false => exact isTrue_or_nil e
 | true => exact e
theorem zmb (ha : PT X a tA) (hb : PW X (.BoolOp .And (b :: rest) pos) tB') : PW X (.BoolOp .And (a :: b :: rest) pos) (zoy tA tB') := by
 intro wh pins s σ H Q I h
 refine isTrue_and (thn (ha pins s σ H _ I h) λ c s1 ⟨H1, I1, q1⟩ => ?_)
 cases c with
 | true => exact hb wh pins s1 σ H1 Q I1 q1
 | false => exact ⟨H1, I1, q1⟩
theorem znv (ha : PT X a tA) (hb : PW X (.BoolOp .Or (b :: rest) pos) tB') : PW X (.BoolOp .Or (a :: b :: rest) pos) (tOr tA tB') := by
 intro wh pins s σ H Q I h
 refine isTrue_or (thn (ha pins s σ H _ I h) λ c s1 ⟨H1, I1, q1⟩ => ?_)
 cases c with
 | true => exact ⟨H1, I1, q1⟩
 | false => exact hb wh pins s1 σ H1 Q I1 q1
theorem zmT (ha : PT X a tA) : PT X (.UnaryOp .Not a pos) (zoO tA) := by
 intro pins s σ H Q I h
 exact isTrue_not (ha pins s σ H (λ c H1 => Q (!c) H1) I h)
end
end L2
namespace L2
open PySem PySem.Spec PyProof.Rows
def SqL (K : zC) (H : Hp) (a : Addr) (xs : List V) : Prop :=
 Rd H a (.lst xs) \/
  ∃ (o : Obj) (its : Array Value) (n : Nat), K.lookup a = some o /\ o.cls = .type "list" /\ o.dict = none /\ o.data = .seq its n /\ its.size <= sizeLine /\ Vals xs its.toList
def RdL (K : zC) (H : Hp) (a : Addr) (xs : List V) : Prop :=
 Rd H a (.lst xs) \/ ∃ (its : Array Value) (n : Nat), K.lookup a = some { cls := .type "list", data := .seq its n } /\ its.size <= sizeLine /\ Vals xs its.toList
def SqT (K : zC) (H : Hp) (a : Addr) (xs : List V) : Prop :=
 Rd H a (.tup xs) \/
  ∃ (o : Obj) (its : Array Value) (n : Nat), K.lookup a = some o /\ o.cls = .type "tuple" /\ o.data = .seq its n /\ its.size <= sizeLine /\ Vals xs its.toList
def zom : Value -> Option V
 | .none => some .non
 | .bool b => some (.bl b)
 | .int i _ => some (.int i)
 | .str x _ => some (.str x)
 | .bytes b _ => some (.byt b)
 | .float b _ => some (.flt b)
 | .ref a => some (.ref a)
 | .type n => some (.ty n)
 | _ => none
theorem RelV.abs (r : RelV x u) : zom u = some x := by
 cases x with
 | non => cases r; rfl
 | bl _ => cases r; rfl
 | int _ => obtain ⟨t, rfl⟩ := r; rfl
 | str _ => obtain ⟨t, rfl⟩ := r; rfl
 | byt _ => obtain ⟨t, rfl⟩ := r; rfl
 | flt _ => obtain ⟨t, rfl⟩ := r; rfl
 | ref _ => cases r; rfl
 | ty _ => cases r; rfl
theorem RelV.inj (r : RelV x u) (q : RelV y u) : x = y := Option.some.inj (r.abs.symm.trans q.abs)
theorem Vals.inj : ∀ {xs ys : List V} {us : List Value}, Vals xs us -> Vals ys us -> xs = ys
 | _, _, _, .nil, .nil => rfl
 | _, _, _, .cons r t, .cons r' t' => by rw [r.inj r', Vals.inj t t']
section
variable {X : Cx} {pins : List (Addr × Obj)} {σ : St} {H : Hp} {s : Shared} {a : Addr} {xs ys : List V}
theorem Inv.list (I : Inv X pins σ H s) (h : SqL X.K H a xs) : ∃ its : List Value, Vals xs its /\ PlainL s.heap a its.toArray /\ xs.length <= sizeLine := by
 rcases h with h | ⟨o, its, n, hk, hc, hd, hs, hz, r⟩
 · obtain ⟨z, its, n, r, e⟩ := h.ok I.hok
   exact ⟨its, r, ⟨_, n, e, rfl, rfl, rfl⟩, z⟩
 · refine ⟨its.toList, r, ⟨o, n, I.kIn a o hk, hc, hd, by simpa using hs⟩, ?_⟩
   have e := r.length
   simp only [Array.length_toList] at e
   omega
theorem Inv.tuple (I : Inv X pins σ H s) (h : SqT X.K H a xs) : ∃ its : List Value, Vals xs its /\ IsTup s.heap a its.toArray /\ xs.length <= sizeLine := by
 rcases h with h | ⟨o, its, n, hk, hc, hs, hz, r⟩
 · obtain ⟨z, its, r, p⟩ := h.ok I.hok
   exact ⟨its, r, p, z⟩
 · refine ⟨its.toList, r, ⟨o, I.kIn a o hk, hc, n, by simpa using hs⟩, ?_⟩
   have e := r.length
   simp only [Array.length_toList] at e
   omega
theorem Inv.list_inj (I : Inv X pins σ H s) (h : SqL X.K H a xs) (h' : SqL X.K H a ys) : xs = ys := by
 obtain ⟨its, r, ⟨o, n, e, _, _, d⟩, _⟩ := I.list h
 obtain ⟨its', r', ⟨o', n', e', _, _, d'⟩, _⟩ := I.list h'
 rw [e] at e'; cases e'
 rw [d] at d'
 injection d' with d1 _
 have : its = its' := by simpa using congrArg Array.toList d1
 subst this
 exact r.inj r'
theorem Inv.tuple_inj (I : Inv X pins σ H s) (h : SqT X.K H a xs) (h' : SqT X.K H a ys) : xs = ys := by
 obtain ⟨its, r, ⟨o, e, _, n, d⟩, _⟩ := I.tuple h
 obtain ⟨its', r', ⟨o', e', _, n', d'⟩, _⟩ := I.tuple h'
 rw [e] at e'; cases e'
 rw [d] at d'
 injection d' with d1 _
 have : its = its' := by simpa using congrArg Array.toList d1
 subst this
 exact r.inj r'
end
abbrev Cx.wish (X : Cx) (E : Value -> Shared -> Prop) : Cx := { X with xe := E }
abbrev Cx.nox (X : Cx) : Cx := X.wish λ _ _ => False
theorem Cx.Ok.wish {X : Cx} (ok : X.Ok) (E : Value -> Shared -> Prop) : (X.wish E).Ok :=
 ⟨ok.mod, ok.kind, ok.glob, ok.blt, ok.above, ok.inj, ok.has, ok.cab, ok.hd, ok.frames, ok.stk, ok.exf, ok.bs, ok.bsz, ok.noex, ok.exfs, ok.funs, ok.frf⟩
theorem Cx.Ok.unwish {X : Cx} {E : Value -> Shared -> Prop} (ok : (X.wish E).Ok) : X.Ok :=
 ⟨ok.mod, ok.kind, ok.glob, ok.blt, ok.above, ok.inj, ok.has, ok.cab, ok.hd, ok.frames, ok.stk, ok.exf, ok.bs, ok.bsz, ok.noex, ok.exfs, ok.funs, ok.frf⟩
section
variable {X : Cx} {pins : List (Addr × Obj)} {σ : St} {H : Hp} {s : Shared} {E : Value -> Shared -> Prop}
theorem Inv.wish (I : Inv X pins σ H s) (E : Value -> Shared -> Prop) : Inv (X.wish E) pins σ H s := ⟨I.ok.wish E, I.os, I.bare, I.base, I.loc, I.cell, I.free, I.freeC, I.pin, I.hok, I.len⟩
theorem Inv.unwish (I : Inv (X.wish E) pins σ H s) : Inv X pins σ H s := ⟨I.ok.unwish, I.os, I.bare, I.base, I.loc, I.cell, I.free, I.freeC, I.pin, I.hok, I.len⟩
theorem SP.unwish (h : SP (X.wish E) pins D f s') : SP X pins D f s' := by
 cases f with
 | next => obtain ⟨σ', H', I, q⟩ := h; exact ⟨σ', H', I.unwish, q⟩
 | brk => obtain ⟨σ', H', I, q⟩ := h; exact ⟨σ', H', I.unwish, q⟩
 | cont => obtain ⟨σ', H', I, q⟩ := h; exact ⟨σ', H', I.unwish, q⟩
 | ret u => obtain ⟨v, σ', H', I, r, q⟩ := h; exact ⟨v, σ', H', I.unwish, r, q⟩
theorem PSs.nox {st : List Stmt} {t : TS} (h : PSs X.nox st t) : PSs X st t := λ pins s σ H D I hw =>
 wpAny_mono (h pins s σ H D (I.wish _) hw) (λ _ _ q => q.unwish) λ _ _ z => False.elim z
end
section
variable {X : Cx} {st : Stmt} {rest : List Stmt} {t u : TS} {e : Expr} {te : TE} {pos : Pos}
def znK : TS := λ D σ H => D.nx σ H
def zoZ (t u : TS) : TS := λ D σ H => t { D with nx := u D } σ H
theorem zgy : PSs X [] znK := λ _ _ σ H _ I h => wpAny_execs_nil ⟨σ, H, I, h⟩
theorem zeE (h1 : PS X st t) (h2 : PSs X rest u) : PSs X (st :: rest) (zoZ t u) := by
 intro pins s σ H D I h
 refine wpAny_execs_cons (thn (h1 pins s σ H { D with nx := u D } I h) λ f s1 q => ?_)
 cases f with
 | next =>
  obtain ⟨σ', H', I', q⟩ := q
  exact h2 pins s1 σ' H' D I' q
 | ret v => exact q
 | brk => exact q
 | cont => exact q
theorem zfY (h1 : PS X st t) : PSs X [st] t := by
 intro pins s σ H D I h
 refine wpAny_execs_cons (thn (h1 pins s σ H D I h) λ f s1 q => ?_)
 cases f with
 | next => exact wpAny_execs_nil q
 | ret v => exact q
 | brk => exact q
 | cont => exact q
theorem Inv.quiet (I : Inv X pins σ H s) : interactive X.env = false := by simp [interactive, I.ok.kind]
def znA (te : TE) : TS := λ D σ H => te σ H λ _ H1 => D.nx σ H1
theorem zcS (he : PE X e te) (hs : swapsWith e none pos.line X.env = pure false := by rfl) : PS X (.Expr e pos) (znA te) := by
 intro pins s σ H D I h
 exact wpAny_Expr_any (thn (he pins s σ H _ I h) λ v s1 ⟨x, H1, I1, r1, q1⟩ => ⟨σ, H1, I1, q1⟩) I.quiet hs
def zoP (te : TE) : TS := λ D σ H => te σ H D.rt
theorem zmc (he : PE X e te) : PS X (.Return (some e) pos) (zoP te) := by
 intro pins s σ H D I h
 exact wpAny_Return_some (thn (he pins s σ H _ I h) λ v s1 ⟨x, H1, I1, r1, q1⟩ => ⟨x, σ, H1, I1, r1, q1⟩)
def zoR (c : TT) (t u : TS) : TS := λ D σ H => c σ H λ b H1 => if b = true then t D σ H1 else u D σ H1
theorem zkZ (hc : PT X c tc) (ha : PSs X a t) (hb : PSs X b u) : PS X (.If c a b pos) (zoR tc t u) := by
 intro pins s σ H D I h
 refine wpAny_If (thn (hc pins s σ H _ I h) λ d s1 ⟨H1, I1, q1⟩ => ?_)
 cases d with
 | true => exact ha pins s1 σ H1 D I1 q1
 | false => exact hb pins s1 σ H1 D I1 q1
end
abbrev TG := V -> St -> Hp -> (St -> Hp -> Prop) -> Prop
abbrev TGs := List V -> St -> Hp -> (St -> Hp -> Prop) -> Prop
def PG (X : Cx) (target : Expr) (t : TG) : Prop :=
 ∀ (pins : List (Addr × Obj)) (s : Shared) (σ : St) (H : Hp) (v : V) (u : Value) (Q : St -> Hp -> Prop), Inv X pins σ H s -> RelV v u -> t v σ H Q ->
  wpAny (model X.prog X.w) X.A (assign target X.env u) (λ _ s' => ∃ σ' H', Inv X pins σ' H' s' /\ Q σ' H') X.xe s
def PGs (X : Cx) (ts : List Expr) (t : TGs) : Prop :=
 ∀ (pins : List (Addr × Obj)) (s : Shared) (σ : St) (H : Hp) (vs : List V) (us : List Value) (Q : St -> Hp -> Prop), Inv X pins σ H s -> Vals vs us -> t vs σ H Q ->
  wpAny (model X.prog X.w) X.A (assignInOrder ((assignEach ts X.env).map (·.2)) us) (λ _ s' => ∃ σ' H', Inv X pins σ' H' s' /\ Q σ' H') X.xe s
abbrev znP := V -> V -> V -> Hp -> (Hp -> Prop) -> Prop
def znk (X : Cx) (t : znP) : Prop :=
 ∀ (pins : List (Addr × Obj)) (s : Shared) (σ : St) (H : Hp) (o i v : V) (ov iv u : Value) (Q : Hp -> Prop), Inv X pins σ H s -> RelV o ov -> RelV i iv -> RelV v u -> t o i v H Q ->
  wpAny (model X.prog X.w) X.A (setItem ov iv u) (λ _ s' => ∃ H', Inv X pins σ H' s' /\ Q H') X.xe s
abbrev TIp := V -> V -> Hp -> VK -> Prop
def PIp (X : Cx) (op : Operator) (t : TIp) : Prop :=
 ∀ (pins : List (Addr × Obj)) (s : Shared) (σ : St) (H : Hp) (x y : V) (v u : Value) (Q : VK), Inv X pins σ H s -> RelV x v -> RelV y u -> t x y H Q ->
  wpAny (model X.prog X.w) X.A (inplaceOp op v u) (EP X pins σ Q) X.xe s
section
variable {X : Cx} {pos : Pos}
def zdX (i : Nat) : TG := λ v σ H Q => Q (σ.set i (some v)) H
theorem zjF (hN : X.N.Nodup) (hi : X.N[i]? = some x) (hx : Loc X.env.scope x) (hf : X.fn x = true \/ X.env.scope.names.lookup x = some .local := by first | exact .inl rfl | exact .inr rfl | assumption) : PG X (.Name x pos) (zdX i) := by
 intro pins s σ H v u Q I r h
 exact wpAny_assign_Name (XJ I hN hi hx r (λ s' I' => ⟨_, H, I', h⟩) hf)
def zos : TGs := λ vs σ H Q => vs = [] /\ Q σ H
def zoj (t : TG) (u : TGs) : TGs := λ vs σ H Q => ∃ v r, vs = v :: r /\ t v σ H λ σ' H' => u r σ' H' Q
theorem zkR : PGs X [] zos := by
 intro pins s σ H vs us Q I r h
 obtain ⟨e, h⟩ := h
 subst e
 cases r
 exact assignInOrder_nil ⟨σ, H, I, h⟩
theorem zjf (h1 : PG X e t) (h2 : PGs X es u)
 (hs : (assignEach (e :: es) X.env).map (·.2) = assign e X.env :: (assignEach es X.env).map (·.2) := by rfl) : PGs X (e :: es) (zoj t u) := by
 intro pins s σ H vs us Q I r h
 obtain ⟨v, vr, e1, h⟩ := h
 subst e1
 cases r with
 | cons r rr =>
  rw [hs]
  refine assignInOrder_cons (thn (h1 pins s σ H _ _ _ I r h) λ _ s1 ⟨σ1, H1, I1, q1⟩ => ?_)
  exact h2 pins s1 σ1 H1 _ _ Q I1 rr q1
def zoT (K : zC) (n : Nat) (t : TGs) : TG := λ v σ H Q => ∃ a xs, v = .ref a /\ SqT K H a xs /\ xs.length = n /\ t xs σ H Q
theorem zmK (hc : X.calm = true) (h : PGs X es t)
 (hn : (assignEach es X.env).length = n := by rfl) (hst : (assignEach es X.env).findIdx? (·.1) = none := by rfl) : PG X (.Tuple es k pos) (zoT X.K n t) := by
 intro pins s σ H v u Q I r hw
 obtain ⟨a, xs, e1, hq, hl, hw⟩ := hw
 subst e1
 cases r
 obtain ⟨its, rv, ht, hz⟩ := I.tuple hq
 refine assign_Tuple_tuple (I.ok.hd hc) ht (by simp [hn, <- hl, rv.length]) hst λ h' hx => ?_
 have I1 : Inv X pins σ H { s with heap := h' } := I.kept (t' := s.toks) λ b o e => hx b o (zzN (Heap.lt_size e)) e
 exact h pins _ σ H xs _ Q I1 (by simpa using rv) hw
def zpa (to ti : TE) (t : znP) : TG := λ v σ H Q => to σ H λ o H1 => ti σ H1 λ i H2 => t o i v H2 λ H3 => Q σ H3
theorem zlo (ho : PE X o to) (hi : PE X i ti) (hs : znk X t)
 (ha : ∀ v, assign (.Subscript o i pos) X.env v = (do
  let ov <- holding [v] (eval o X.env)
  let iv <- holding [v, ov] (eval i X.env)
  standAt pos
  holding [v, ov, iv] (setItem ov iv v)
  release [v, ov, iv] []) := by intro _; rfl) : PG X (.Subscript o i pos) (zpa to ti t) := by
 intro pins s σ H v u Q I r h
 rw [ha]
 refine wpAny_bind (wpAny_holding (thn (ho pins s σ H _ I h) λ ov s1 ⟨x, H1, I1, r1, q1⟩ => ?_))
 refine wpAny_bind (wpAny_holding (thn (hi pins s1 σ H1 _ I1 q1) λ iv s2 ⟨y, H2, I2, r2, q2⟩ => ?_))
 refine wpAny_bind (wpAny_standAt (wpAny_bind (wpAny_holding (thn (hs pins s2 σ H2 x y v ov iv u _ I2 r1 r2 r q2) λ _ s3 ⟨H3, I3, q3⟩ => ?_))))
 exact wpAny_release ⟨σ, H3, I3, q3⟩
def zmr (te : TE) (g : TG) : TS := λ D σ H => te σ H λ x H1 => g x σ H1 D.nx
theorem zhM (he : PE X e te) (hg : PG X tg g) (hs : swapsWithSole [tg] e pos.line X.env = pure false := by rfl) (hw : swappedStores [tg] e X.env = pure none := by rfl)
 (h1 : (assignEach [tg] X.env).map (·.2) = [assign tg X.env] := by rfl) : PS X (.Assign [tg] e pos) (zmr te g) := by
 intro pins s σ H D I h
 refine wpAny_Assign_stores (thn (he pins s σ H _ I h) λ v s1 ⟨x, H1, I1, r1, q1⟩ => ?_) hs hw
 rw [h1]
 exact thn (hg pins s1 σ H1 x v _ I1 r1 q1) λ _ s2 q => q
theorem ziN (hN : X.N.Nodup) (hi : X.N[i]? = some x) (hx : Loc X.env.scope x) (he : PE X e te) (hs : swapsWith e (some (.Name x pos')) pos.line X.env = pure false := by rfl) (hf : X.fn x = true \/ X.env.scope.names.lookup x = some .local := by first | exact .inl rfl | exact .inr rfl | assumption) :
 PS X (.Assign [.Name x pos'] e pos) (zmr te (zdX i)) := by
 intro pins s σ H D I h
 refine wpAny_Assign_Name (thn (he pins s σ H _ I h) λ v s1 ⟨y, H1, I1, r1, q1⟩ => ?_) hs
 exact XJ I1 hN hi hx r1 (λ s2 I2 => ⟨_, H1, I2, q1⟩) hf
def zoQ (i j : Nat) (ta : TA) : TS := λ D σ H => ta σ H λ vs H1 => ∃ v w, vs = [v, w] /\ D.nx ((σ.set i (some v)).set j (some w)) H1
theorem zlT (hc : X.calm = true) (hN : X.N.Nodup) (hi : X.N[i]? = some x) (hj : X.N[j]? = some y) (hij : i ≠ j)
 (hx : X.env.scope.names.lookup x = some .local) (hy : X.env.scope.names.lookup y = some .local) (ha : PA X [a, b] ta)
 (hw : swappedStores [.Tuple [.Name x px, .Name y py] kt pt] (.Tuple [a, b] k2 pt2) X.env = pure (some [x, y]))
 (hs : swapsWithSole [.Tuple [.Name x px, .Name y py] kt pt] (.Tuple [a, b] k2 pt2) pos.line X.env = pure false := by rfl) :
 PS X (.Assign [.Tuple [.Name x px, .Name y py] kt pt] (.Tuple [a, b] k2 pt2) pos) (zoQ i j ta) := by
 intro pins s σ H D I h
 rw [exec_Assign_arm]
 refine wpAny_bind (wpAny_standAt ?_)
 rw [hs]
 refine wpAny_bind (wpAny_pure ?_)
 rw [if_neg (by decide)]
 refine wpAny_bind (Tuple_ (thn (ha _ pins s σ H _ I h) λ us s1 ⟨vs, H1, I1, r1, q1⟩ => ?_))
 obtain ⟨v, w, e1, q1⟩ := q1
 subst e1
 obtain ⟨u1, u2, rfl, rv, rw'⟩ : ∃ u1 u2, us = [u1, u2] /\ RelV v u1 /\ RelV w u2 := by
  cases r1 with
  | cons p q =>
   cases q with
   | cons p' q' =>
    cases q'
    exact ⟨_, _, rfl, p, p'⟩
 refine wpAny_newObj_type ?_ (by show 2 <= sizeLine; decide)
 have I2 : Inv X pins σ H1 { s1 with heap := s1.heap.push { cls := .type "tuple", data := .seq [u1, u2].toArray } } := I1.kept (t' := s1.toks) λ b o e => Heap.get?_push_of_some _ e
 rw [hw]
 refine wpAny_bind (wpAny_pure ?_)
 show wpAny (model X.prog X.w) X.A (do rule "assign.swapped-stores"; let items <- unpackItems (.ref s1.heap.objs.size) 2 none; assignInOrder [λ v => bindName X.env y v, λ v => bindName X.env x v] items.reverse; pure Flow.next) _ _ _
 refine wpAny_bind (wpAny_rule (wpAny_bind (unpackItems_tuple (items := #[u1, u2]) (I.ok.hd hc) (IsTup.new s1.heap _) λ h' hx' => ?_)))
 have I3 := I2.kept (h' := h') (t' := s1.toks) λ b o e => hx' b o (zzN (Heap.lt_size e)) e
 show wpAny _ _ (assignInOrder [λ v => bindName X.env y v, λ v => bindName X.env x v] [u2, u1] >>= λ _ => pure Flow.next) _ _ _
 refine wpAny_bind (assignInOrder_cons (wpAny_bindName (XJ I3 hN hj (.inl hy) rw' (λ s2 I4 => ?_) (.inr hy))))
 refine assignInOrder_cons (wpAny_bindName (XJ I4 hN hi (.inl hx) rv (λ s3 I5 => assignInOrder_nil (wpAny_pure ?_)) (.inr hx)))
 rw [List.set_comm _ _ (Ne.symm hij)] at I5
 exact ⟨_, H1, I5, q1⟩
def zoz (i : Nat) (te : TE) (ti : TIp) : TS := λ D σ H => ∃ x, σ[i]? = some (some x) /\ te σ H λ y H1 => ti x y H1 λ z H2 => D.nx (σ.set i (some z)) H2
theorem zlK (hN : X.N.Nodup) (hi : X.N[i]? = some x) (hx : Loc X.env.scope x) (he : PE X e te) (ho : PIp X op ti) (hf : X.fn x = true \/ X.env.scope.names.lookup x = some .local := by first | exact .inl rfl | exact .inr rfl | assumption) :
 PS X (.AugAssign (.Name x pos') op e pos) (zoz i te ti) := by
 intro pins s σ H D I h
 obtain ⟨v, e1, h⟩ := h
 obtain ⟨m, hn, hl⟩ := I.loc
 have vis : Vis X.env.scope x := by rcases hx with k | k; exact .inl k; exact .inr (.inl k)
 obtain ⟨u, r, l⟩ := hl i x v hi e1 vis
 refine wpAny_AugAssign_Name ?_
 have go : wpAny (model X.prog X.w) X.A (eval e X.env) (λ w s₂ => wpAny (model X.prog X.w) X.A (inplaceOp op u w) (λ r s₃ => wpAny (model X.prog X.w) X.A (storeName X.env x r) (λ _ => SP X pins D .next) X.xe s₃) X.xe s₂) X.xe s := by
  refine thn (he pins s σ H _ I h) λ w s1 ⟨y, H1, I1, r1, q1⟩ => ?_
  refine thn (ho pins s1 σ H1 v y u w _ I1 r r1 q1) λ z s2 ⟨zv, H2, I2, r2, q2⟩ => ?_
  exact XJ I2 hN hi hx r2 (λ s3 I3 => ⟨_, H2, I3, q2⟩) hf
 rcases l with ⟨hk, hm⟩ | ⟨hk, c, hc, hcell⟩
 · exact wpAny_loadName_local I.ok.kind hk hn hm go
 · rcases hk with hk | hk
   · exact wpAny_loadName_cell I.ok.kind hk hc hcell go
   · rcases hx with k | k
     · have : X.env.scope.names.lookup x = some .free := hk
       rw [k] at this; cases this
     · have : X.env.scope.names.lookup x = some .free := hk
       rw [k] at this; cases this
def ipI (f : Int -> Int -> Int) : TIp := λ x y H Q => ∃ i j, x = .int i /\ y = .int j /\ Q (.int (f i j)) H
theorem zlB : PIp X .Add (ipI λ i j => i + j) := by
 intro pins s σ H x y v u Q I r1 r2 h
 obtain ⟨i, j, e1, e2, q⟩ := h
 subst e1; subst e2
 obtain ⟨t, rfl⟩ := r1
 obtain ⟨t', rfl⟩ := r2
 exact iadd_int ⟨.int _, H, I.tok _, ⟨_, rfl⟩, q⟩
end
section
variable {X : Cx} {pos : Pos}
def zma (c : TT) (tb : TS) : TS := λ D σ H => ∃ W : Nat -> St -> Hp -> Prop, (∃ m, W m σ H) /\ ∀ m σ H, W m σ H ->
 c σ H λ b H1 => if b = true then ∃ N : St -> Hp -> Prop, (∀ σ' H', N σ' H' -> ∃ m', m' < m /\ W m' σ' H') /\ tb { D with nx := N, ct := N, bk := D.nx } σ H1 else D.nx σ H1
theorem zir (hp : PassesOwn (model X.prog X.w) X.A X.env X.xe) (hc : PT X c tc) (hb : PSs X body tb) : PS X (.While c body [] pos) (zma tc tb) := by
 intro pins s σ H D I h
 obtain ⟨W, ⟨m0, w0⟩, turn⟩ := h
 refine wpAny_While (codeAny_whileLoop (λ n s' => ∃ σ' H', Inv X pins σ' H' s' /\ W n σ' H') ?_ m0 ⟨σ, H, I, w0⟩)
 rintro n s1 ⟨σ1, H1, I1, w1⟩
 refine wpAny_passesOwn hp (thn (hc pins s1 σ1 H1 _ I1 (turn n σ1 H1 w1)) λ b s2 ⟨H2, I2, q2⟩ => ?_)
 cases b with
 | true =>
  obtain ⟨N, hN, q2⟩ := q2
  rw [if_pos rfl]
  refine wpAny_passesOwn hp (thn (hb pins s2 σ1 H2 _ I2 q2) λ f s3 q3 => ?_)
  cases f with
  | next =>
   obtain ⟨σ3, H3, I3, n3⟩ := q3
   obtain ⟨m', hm, w3⟩ := hN σ3 H3 n3
   exact ⟨m', hm, σ3, H3, I3, w3⟩
  | cont =>
   obtain ⟨σ3, H3, I3, n3⟩ := q3
   obtain ⟨m', hm, w3⟩ := hN σ3 H3 n3
   exact ⟨m', hm, σ3, H3, I3, w3⟩
  | brk => exact q3
  | ret v => exact q3
 | false =>
  rw [if_neg Bool.false_ne_true]
  exact wpAny_execs_nil ⟨σ1, H2, I2, q2⟩
end
structure It where
 go : Nat -> Hp -> Prop
 yld : Nat -> Hp -> V -> Hp -> Prop
 stop : Nat -> Hp -> Prop
def zcn (X : Cx) (pins : List (Addr × Obj)) (H : Hp) (b : Addr) : Prop :=
 H b = none /\ b ≠ X.env.locals /\ b ∉ X.fs /\ (b ∈ X.ex \/ X.s₀.heap.objs.size <= b) /\ (∀ x c, X.env.cells.lookup x = some c -> c ≠ b) /\ ∀ p ∈ X.pn ++ pins, p.1 ≠ b
theorem Inv.fpOk (I : Inv X pins σ H s) (hb : s.heap.objs.size <= b) (hn : H' b = none) : zcn X pins H' b := by
 refine ⟨hn, Nat.ne_of_gt (zzH I.lt hb), I.nofs hb, .inr (zzL I.sz hb), λ x c e z => ?_, λ p hp z => ?_⟩
 · obtain ⟨v, q⟩ := I.cell x c e
   exact absurd (zzH q.lt (by rw [z]; exact hb)) (Nat.lt_irrefl _)
 · exact absurd (zzH (Heap.lt_size (I.pin p hp).1) (by rw [z]; exact hb)) (Nat.lt_irrefl _)
structure Turn (P : Program) (w : World) (K : zC) (tg : Expr) (J : It) (fp : List Addr) (it : Addr) (tn : Nat -> Heap -> Prop) : Prop where
 mem : it ∈ fp
 obj : ∀ i h, tn i h -> ∀ b ∈ fp, ∃ o, h.get? b = some o /\ ∀ v, o.data ≠ .cell v
 keep : ∀ i h h', tn i h -> (∀ b ∈ fp, ∀ o, h.get? b = some o -> h'.get? b = some o) -> tn i h'
 item : ∀ (X : Cx), X.prog = P -> X.w = w -> X.K = K -> X.calm = true -> ∀ (i : Nat) (pins : List (Addr × Obj)) (s : Shared) (σ : St) (H : Hp) (E : Value -> Shared -> Prop), Inv X pins σ H s -> (∀ b ∈ fp, zcn X pins H b) -> tn i s.heap -> J.go i H ->
  wpAny (model P w) X.A (pyNext (.ref it)) (λ r s1 => ∃ u, r = some u /\
   wpAny (model P w) X.A (letOwnedTupleGo tg (.ref it) u) (λ _ s2 => ∃ x H', Inv X pins σ H' s2 /\ RelV x u /\ J.yld i H x H' /\ tn (i + 1) s2.heap /\ ∀ b ∈ fp, H' b = none) E s1) E s
 done : ∀ (X : Cx), X.prog = P -> X.w = w -> X.K = K -> X.calm = true -> ∀ (i : Nat) (pins : List (Addr × Obj)) (s : Shared) (σ : St) (H : Hp) (E : Value -> Shared -> Prop), Inv X pins σ H s -> (∀ b ∈ fp, zcn X pins H b) -> tn i s.heap -> J.stop i H ->
  wpAny (model P w) X.A (pyNext (.ref it)) (λ r s1 => r = none /\ Inv X pins σ H s1) E s
 self : ∀ (A : Around) (i : Nat) (s : Shared) (Q : Value -> Shared -> Prop) (E : Value -> Shared -> Prop), tn i s.heap -> Q (.ref it) s -> wpAny (model P w) A (pyIter (.ref it)) Q E s
abbrev TI := St -> Hp -> (It -> Hp -> Prop) -> Prop
def PIE (X : Cx) (pins : List (Addr × Obj)) (σ : St) (tg : Expr) (R : It -> Hp -> Prop) (itv : Value) (s2 : Shared) : Prop :=
 ∃ (it : Addr) (fp : List Addr) (tn : Nat -> Heap -> Prop) (J : It) (H' : Hp), itv = .ref it /\ Inv X pins σ H' s2 /\ Turn X.prog X.w X.K tg J fp it tn /\ tn 0 s2.heap /\ (∀ b ∈ fp, zcn X pins H' b) /\ R J H'
def PI (X : Cx) (tg iter : Expr) (wi : TI) : Prop :=
 ∀ (pins : List (Addr × Obj)) (s : Shared) (σ : St) (H : Hp) (R : It -> Hp -> Prop), Inv X pins σ H s -> wi σ H R ->
  wpAny (model X.prog X.w) X.A (eval iter X.env) (λ v s1 => wpAny (model X.prog X.w) X.A (pyIter v) (PIE X pins σ tg R) X.xe s1) X.xe s
theorem ziy (ho : s.heap.get? it = some o) (hc : o.cls = .type n) (hd : o.data = .fields vs)
 (hn : ["enumerate", "zip", "dict_itemiterator", "dict_reverseitemiterator", "odict_iterator", "itertools.zip_longest", "itertools.pairwise"].contains n = false) (hQ : Q () s) : wpAny M A (letOwnedTupleGo tg (.ref it) u) Q E s := by
 unfold letOwnedTupleGo
 cases tg <;> first
  | exact wpAny_pure hQ
  | (cases u <;> first
   | exact wpAny_pure hQ
   | (refine wpAny_bind (wpAny_load ho ?_)
      rw [hc, hd]
      show wpAny M A (if (["enumerate", "zip", "dict_itemiterator", "dict_reverseitemiterator", "odict_iterator", "itertools.zip_longest", "itertools.pairwise"].contains n && vs[0]? == some (rawInt _)) = true then _ else _) Q E s
      rw [if_neg (by intro h; rw [hn, Bool.false_and] at h; cases h)]
      exact wpAny_pure hQ))
def Itl (K : zC) (a : Addr) : It :=
 ⟨λ i H => ∃ xs x, SqL K H a xs /\ xs[i]? = some x, λ i H x H' => H' = H /\ ∀ xs, SqL K H a xs -> xs[i]? = some x, λ i H => ∃ xs, SqL K H a xs /\ xs.length <= i⟩
def Itt (K : zC) (a : Addr) : It :=
 ⟨λ i H => ∃ xs x, SqT K H a xs /\ xs[i]? = some x, λ i H x H' => H' = H /\ ∀ xs, SqT K H a xs -> xs[i]? = some x, λ i H => ∃ xs, SqT K H a xs /\ xs.length <= i⟩
def Itr (lo : Int) (n : Nat) : It := ⟨λ i _ => i < n, λ i H x H' => H' = H /\ x = .int (lo + i), λ i _ => n <= i⟩
theorem zgX {P : Program} {w : World} {K : zC} {tg : Expr} (a it : Addr) : Turn P w K tg (Itl K a) [it] it (λ i h => h.IsListIter it a i) where
 mem := by simp
 obj := λ i h st b hb => by
  have e : b = it := by simpa using hb
  subst e
  obtain ⟨o, e, c, d⟩ := st
  exact ⟨o, e, λ v z => by rw [d] at z; cases z⟩
 keep := λ i h h' st k => st.at λ o e => k it (by simp) o e
 item := by
  intro X hP hw hK hc i pins s σ H E I hf st hg
  subst hP hw hK
  obtain ⟨xs, x, hq, hx⟩ := hg
  obtain ⟨its, rv, p, hz⟩ := I.list hq
  obtain ⟨u, hu, ru⟩ := rv.get hx
  obtain ⟨f0, f1, f2, f3, f4, f5⟩ := hf it (by simp)
  refine wpAny_pyNext_list_item st p.isList (x := u) (by simpa using hu) λ h' st' sb => ?_
  have I1 : Inv X pins σ H { s with heap := h' } := I.turned (t' := s.toks) (λ b o hb e => (sb.2 b hb).trans e) f0 f1 f3 f4 f5
  obtain ⟨o, e, c, d⟩ := id st'
  exact ⟨u, rfl, ziy (s := { s with heap := h' }) e c d (by decide) ⟨x, H, I1, ru, ⟨rfl, λ ys hy => by rw [I.list_inj hy hq]; exact hx⟩, st', λ b hb => (hf b hb).1⟩⟩
 done := by
  intro X hP hw hK hc i pins s σ H E I hf st hg
  subst hP hw hK
  obtain ⟨xs, hq, hx⟩ := hg
  obtain ⟨its, rv, p, hz⟩ := I.list hq
  obtain ⟨f0, f1, f2, f3, f4, f5⟩ := hf it (by simp)
  have hl := rv.length
  exact wpAny_pyNext_list_end (I.ok.hd hc) st p.isList (by simp; omega) λ h' eb => ⟨rfl, I.turned (t' := s.toks) (λ b o hb e => eb b o hb e) f0 f1 f3 f4 f5⟩
 self := λ _ _ _ _ _ st h => wpAny_pyIter_listiter st h
theorem zfn {P : Program} {w : World} {K : zC} {tg : Expr} (a it : Addr) : Turn P w K tg (Itt K a) [it] it (λ i h => h.IsTupleIter it a i) where
 mem := by simp
 obj := λ i h st b hb => by
  have e : b = it := by simpa using hb
  subst e
  obtain ⟨o, e, c, d⟩ := st
  exact ⟨o, e, λ v z => by rw [d] at z; cases z⟩
 keep := λ i h h' st k => st.at λ o e => k it (by simp) o e
 item := by
  intro X hP hw hK hc i pins s σ H E I hf st hg
  subst hP hw hK
  obtain ⟨xs, x, hq, hx⟩ := hg
  obtain ⟨its, rv, p, hz⟩ := I.tuple hq
  obtain ⟨u, hu, ru⟩ := rv.get hx
  obtain ⟨f0, f1, f2, f3, f4, f5⟩ := hf it (by simp)
  refine wpAny_pyNext_tuple_item st (show s.heap.IsTuple a its.toArray from p) (x := u) (by simpa using hu) λ h' st' sb => ?_
  have I1 : Inv X pins σ H { s with heap := h' } := I.turned (t' := s.toks) (λ b o hb e => (sb.2 b hb).trans e) f0 f1 f3 f4 f5
  obtain ⟨o, e, c, d⟩ := id st'
  exact ⟨u, rfl, ziy (s := { s with heap := h' }) e c d (by decide) ⟨x, H, I1, ru, ⟨rfl, λ ys hy => by rw [I.tuple_inj hy hq]; exact hx⟩, st', λ b hb => (hf b hb).1⟩⟩
 done := by
  intro X hP hw hK hc i pins s σ H E I hf st hg
  subst hP hw hK
  obtain ⟨xs, hq, hx⟩ := hg
  obtain ⟨its, rv, p, hz⟩ := I.tuple hq
  obtain ⟨f0, f1, f2, f3, f4, f5⟩ := hf it (by simp)
  have hl := rv.length
  exact wpAny_pyNext_tuple_end (I.ok.hd hc) st (show s.heap.IsTuple a its.toArray from p) (by simp; omega) λ h' eb => ⟨rfl, I.turned (t' := s.toks) (λ b o hb e => eb b o hb e) f0 f1 f3 f4 f5⟩
 self := λ _ _ _ _ _ st h => wpAny_pyIter_tupleiter st h
theorem zft {P : Program} {w : World} {K : zC} {tg : Expr} (it : Addr) (lo : Int) (n : Nat) : Turn P w K tg (Itr lo n) [it] it (λ i h => IsRangeIter h it (lo + (i : Nat) * 1) ((n : Int) - (i : Nat)) 1) where
 mem := by simp
 obj := λ i h st b hb => by
  have e : b = it := by simpa using hb
  subst e
  exact ⟨_, st, λ v z => by
   have z' : Data.fields _ = Data.cell v := z
   cases z'⟩
 keep := λ i h h' st k => k it (by simp) _ st
 item := by
  intro X hP hw hK hc i pins s σ H E I hf st hg
  subst hP hw hK
  obtain ⟨f0, f1, f2, f3, f4, f5⟩ := hf it (by simp)
  have W := Walks.range (prog := X.prog) (w := X.w) (I.ok.hd hc) it lo 1 n
  refine W.item i s _ _ hg st λ v h' tk hv st' kk => ?_
  obtain ⟨t, rfl⟩ := hv
  have I1 : Inv X pins σ H { s with heap := h', toks := tk } := I.turned (λ b o hb e => kk b o (by simpa using hb) e) f0 f1 f3 f4 f5
  refine ⟨_, rfl, ziy (s := { s with heap := h', toks := tk }) (n := "range_iterator") st' rfl rfl (by decide) ⟨.int (lo + i), H, I1, ⟨t, ?_⟩, ⟨rfl, rfl⟩, st', λ b hb => (hf b hb).1⟩⟩
  rw [Int.mul_one]
 done := by
  intro X hP hw hK hc i pins s σ H E I hf st hg
  subst hP hw hK
  obtain ⟨f0, f1, f2, f3, f4, f5⟩ := hf it (by simp)
  exact wpAny_pyNext_range_end (I.ok.hd hc) st (by have : n <= i := hg; omega) λ h' eb => ⟨rfl, I.turned (t' := s.toks) (λ b o hb e => eb b o hb e) f0 f1 f3 f4 f5⟩
 self := λ _ _ _ _ _ st h => wpAny_pyIter_rangeiter st h
end L2
namespace L2
open PySem PySem.Spec PyProof.Rows
section
variable {X : Cx} {tg : Expr}
def znU (K : zC) (tl : TE) : TI := λ σ H R => tl σ H λ x H1 => ∃ a, x = .ref a /\ (∃ xs, SqL K H1 a xs) /\ R (Itl K a) H1
def zoA (K : zC) (tl : TE) : TI := λ σ H R => tl σ H λ x H1 => ∃ a, x = .ref a /\ (∃ xs, SqT K H1 a xs) /\ R (Itt K a) H1
theorem zcX {l : Expr} {tl : TE} (hl : PE X l tl) : PI X tg l (znU X.K tl) := by
 intro pins s σ H R I h
 refine thn (hl pins s σ H _ I h) λ v s1 ⟨x, H1, I1, r1, q1⟩ => ?_
 obtain ⟨a, e, ⟨xs, hq⟩, q⟩ := q1
 subst e
 cases r1
 obtain ⟨its, rv, p, hz⟩ := I1.list hq
 refine wpAny_pyIter_list p.isList ?_
 refine ⟨s1.heap.objs.size, [s1.heap.objs.size], _, _, H1, rfl, I1.kept (t' := s1.toks) λ b o e => Heap.get?_push_of_some _ e, zgX a _, ⟨_, Heap.get?_push_size _ rfl, rfl, rfl⟩, λ b hb => ?_, q⟩
 have e : b = s1.heap.objs.size := by simpa using hb
 subst e
 exact I1.fpOk (zzK _) (I1.hok.fresh (zzK _))
theorem zfg {l : Expr} {tl : TE} (hl : PE X l tl) : PI X tg l (zoA X.K tl) := by
 intro pins s σ H R I h
 refine thn (hl pins s σ H _ I h) λ v s1 ⟨x, H1, I1, r1, q1⟩ => ?_
 obtain ⟨a, e, ⟨xs, hq⟩, q⟩ := q1
 subst e
 cases r1
 obtain ⟨its, rv, p, hz⟩ := I1.tuple hq
 refine wpAny_pyIter_tuple (show s1.heap.IsTuple a its.toArray from p) ?_
 refine ⟨s1.heap.objs.size, [s1.heap.objs.size], _, _, H1, rfl, I1.kept (t' := s1.toks) λ b o e => Heap.get?_push_of_some _ e, zfn a _, ⟨_, Heap.get?_push_size _ rfl, rfl, rfl⟩, λ b hb => ?_, q⟩
 have e : b = s1.heap.objs.size := by simpa using hb
 subst e
 exact I1.fpOk (zzK _) (I1.hok.fresh (zzK _))
theorem zeu {pins : List (Addr × Obj)} {σ : St} {H : Hp} {s : Shared} {R : It -> Hp -> Prop} {E : Value -> Shared -> Prop} {lo hi : Int} {t u v : Tok} {tk : Nat} (I : Inv X pins σ H s) (h1 : -(2 ^ 62) <= lo) (h2 : lo < 2 ^ 62) (h3 : -(2 ^ 62) <= hi) (h4 : hi < 2 ^ 62)
 (q : R (Itr lo (hi - lo).toNat) H) : wpAny (model X.prog X.w) X.A (pyIter (.ref s.heap.objs.size)) (PIE X pins σ tg R) E { s with heap := s.heap.push { cls := .type "range", data := .fields #[.int lo t, .int hi u, .int 1 v] }, toks := tk } := by
 refine wpAny_pyIter_range (IsRange.new ..) (small_one h1 h2 h3 h4) ?_
 have I1 : Inv X pins σ H { s with heap := s.heap.push { cls := .type "range", data := .fields #[.int lo t, .int hi u, .int 1 v] }, toks := tk } := I.kept λ b o e => Heap.get?_push_of_some _ e
 refine ⟨(s.heap.push { cls := .type "range", data := .fields #[.int lo t, .int hi u, .int 1 v] }).objs.size, [(s.heap.push { cls := .type "range", data := .fields #[.int lo t, .int hi u, .int 1 v] }).objs.size], _, _, H, rfl,
  I1.kept (t' := tk) λ b o e => Heap.get?_push_of_some _ e, zft _ lo (hi - lo).toNat, ?_, λ b hb => ?_, q⟩
 · have e1 : lo + ((0 : Nat) : Int) * 1 = lo := by simp
   have e2 : (((hi - lo).toNat : Nat) : Int) - ((0 : Nat) : Int) = Builtin.Range.rangeSize lo hi 1 := by rw [rangeSize_one]; split <;> omega
   show IsRangeIter _ _ (lo + ((0 : Nat) : Int) * 1) ((((hi - lo).toNat : Nat) : Int) - ((0 : Nat) : Int)) 1
   rw [e1, e2]
   exact Heap.get?_push_size _ rfl
 · have e : b = (s.heap.push { cls := .type "range", data := .fields #[.int lo t, .int hi u, .int 1 v] }).objs.size := by simpa using hb
   subst e
   exact I1.fpOk (zzK _) (I1.hok.fresh (zzK _))
def znN (ta : TA) : TI := λ σ H R => ta σ H λ vs H1 => ∃ j : Int, vs = [.int j] /\ -(2 ^ 62) <= j /\ j < 2 ^ 62 /\ R (Itr 0 j.toNat) H1
def znW (ta : TA) : TI := λ σ H R => ta σ H λ vs H1 => ∃ i j : Int, vs = [.int i, .int j] /\ (-(2 ^ 62) <= i /\ i < 2 ^ 62 /\ -(2 ^ 62) <= j /\ j < 2 ^ 62) /\ R (Itr i (j - i).toNat) H1
theorem zcw {a : Expr} {ta : TA} {p pos : Pos} (hg : Gl X "range") (hm : X.mg "range" = none) (ha : PA X [a] ta) (hs : starEach [a] X.env = [(false, eval a X.env)] := by rfl) : PI X tg (.Call (.Name "range" p) [a] [] pos) (znN ta) := by
 intro pins s σ H R I h
 refine Call_ (zac I hg hm boot_range (PyProof.Rows.callWith_type1 (thn (ha pos pins s σ H _ I h) λ us s1 ⟨vs, H1, I1, r1, q1⟩ => ?_) hs rfl))
 obtain ⟨j, e, q1, q2, q⟩ := q1
 subst e
 cases r1 with
 | cons r rr =>
  cases rr
  obtain ⟨t, rfl⟩ := r
  exact call_range_1 (zeu I1 (by omega) (by omega) q1 q2 (by simpa using q))
theorem zgM (hg : Gl X "range") (hm : X.mg "range" = none) (ha : PA X [a, b] ta) (hs : starEach [a, b] X.env = [(false, eval a X.env), (false, eval b X.env)] := by rfl) (hs2 : starEach [b] X.env = [(false, eval b X.env)] := by rfl) :
 PI X tg (.Call (.Name "range" p) [a, b] [] pos) (znW ta) := by
 intro pins s σ H R I h
 refine Call_ (zac I hg hm boot_range (PyProof.Rows.callWith_type1 (thn (ha pos pins s σ H _ I h) λ us s1 ⟨vs, H1, I1, r1, q1⟩ => ?_) (by rw [hs, hs2]) (by rw [hs2]; rfl)))
 obtain ⟨i, j, e, ⟨q1, q2, q3, q4⟩, q⟩ := q1
 subst e
 cases r1 with
 | cons r rr =>
  cases rr with
  | cons r' rr =>
   cases rr
   obtain ⟨t, rfl⟩ := r
   obtain ⟨t', rfl⟩ := r'
   exact call_range_2 (zeu I1 q1 q2 q3 q4 q)
def zoV (wi : TI) (g : TG) (tb : TS) : TS := λ D σ H => wi σ H λ J H1 => ∃ W : Nat -> Nat -> St -> Hp -> Prop, (∃ m, W 0 m σ H1) /\ ∀ i m σ H, W i m σ H ->
 (J.stop i H /\ D.nx σ H) \/ (J.go i H /\ ∃ N : St -> Hp -> Prop, (∀ σ' H', N σ' H' -> ∃ m', m' < m /\ W (i + 1) m' σ' H') /\ ∀ x H', J.yld i H x H' -> g x σ H' λ σ2 H2 => tb { D with nx := N, ct := N, bk := D.nx } σ2 H2)
def zbM (fp : List Addr) (h : Heap) : List (Addr × Obj) := fp.filterMap λ b => (h.get? b).map λ o => (b, o)
theorem YL (hb : b ∈ fp) (e : h.get? b = some o) : (b, o) ∈ zbM fp h := List.mem_filterMap.mpr ⟨b, hb, by rw [e]; rfl⟩
theorem zgI (hp : p ∈ zbM fp h) : p.1 ∈ fp /\ h.get? p.1 = some p.2 := by
 obtain ⟨b, hb, e⟩ := List.mem_filterMap.mp hp
 cases q : h.get? b with
 | none => rw [q] at e; cases e
 | some o =>
  rw [q] at e
  have e' : (b, o) = p := Option.some.inj e
  subst e'
  exact ⟨hb, q⟩
theorem Inv.pinned (I : Inv X pins σ H s) (hf : ∀ b ∈ fp, zcn X pins H b) (ho : ∀ b ∈ fp, ∃ o, s.heap.get? b = some o /\ ∀ v, o.data ≠ .cell v) : Inv X (pins ++ zbM fp s.heap) σ H s :=
 I.pins_of λ p hp => (zzJ.mp hp).elim (λ z => I.pin p (zzI _ z)) λ z => by
  obtain ⟨hb, e⟩ := zgI z
  obtain ⟨f0, f1, f2, _⟩ := hf p.1 hb
  obtain ⟨o, e', d⟩ := ho p.1 hb
  rw [e] at e'; cases e'
  exact ⟨e, f0, f1, f2, d⟩
theorem Inv.unpinned (I : Inv X (pins ++ pl) σ H s) : Inv X pins σ H s := I.pins_of λ p hp => I.pin p (zzI _ (zzM _ hp))
theorem ziS (hp : PassesOwn (model X.prog X.w) X.A X.env X.xe) (hc : X.calm = true) (hi : PI X tg iter wi) (hg : PG X tg g) (hb : PSs X body tb)
 (hs : ∀ x, foldedSetIterable iter X.env x = pure x := by intro _; rfl) : PS X (.For tg iter body [] pos) (zoV wi g tb) := by
 intro pins s σ H D I h
 refine wpAny_For (thn (hi pins s σ H _ I h) λ v s1 h1 => thn h1 λ itv s2 h2 => ?_) hs
 obtain ⟨it, fp, tn, J, H2, e, I2, T, st2, f2, W, ⟨m0, w0⟩, turn⟩ := h2
 subst e
 have stat : ∀ {H' : Hp}, (∀ b ∈ fp, H' b = none) -> ∀ b ∈ fp, zcn X pins H' b := λ hn b hb => ⟨hn b hb, (f2 b hb).2⟩
 refine codeAny_forLoop_any (λ n s' => ∃ i σ' H', Inv X pins σ' H' s' /\ tn i s'.heap /\ (∀ b ∈ fp, H' b = none) /\ W i n σ' H') ?_ m0 ⟨0, σ, H2, I2, st2, λ b hb => (f2 b hb).1, w0⟩
 rintro n s3 ⟨i, σ3, H3, I3, st3, fr3, w3⟩
 rcases turn i n σ3 H3 w3 with ⟨stop, qn⟩ | ⟨go, N, hN, step⟩
 · refine wpAny_passesOwn hp (thn (T.done X rfl rfl rfl hc i pins s3 σ3 H3 X.xe I3 (stat fr3) st3 stop) λ r s4 ⟨hr, I4⟩ => ?_)
   subst hr
   exact wpAny_execs_nil ⟨σ3, H3, I4, qn⟩
 · refine wpAny_passesOwn hp (thn (T.item X rfl rfl rfl hc i pins s3 σ3 H3 X.xe I3 (stat fr3) st3 go) λ r s4 ⟨u, hr, h4⟩ => ?_)
   subst hr
   refine wpAny_passesOwn hp (thn h4 λ _ s5 ⟨x, H5, I5, r5, y5, st5, fr5⟩ => ?_)
   have I5' := I5.pinned (stat fr5) (T.obj _ _ st5)
   refine wpAny_passesOwn hp (thn (hg _ s5 σ3 H5 x u _ I5' r5 (step x H5 y5)) λ _ s6 ⟨σ6, H6, I6, q6⟩ => ?_)
   refine wpAny_passesOwn hp (thn (hb _ s6 σ6 H6 _ I6 q6) λ f s7 q7 => ?_)
   have again : ∀ {σ7 : St} {H7 : Hp}, Inv X (pins ++ zbM fp s5.heap) σ7 H7 s7 -> N σ7 H7 -> ∃ m, m < n /\ ∃ i σ' H', Inv X pins σ' H' s7 /\ tn i s7.heap /\ (∀ b ∈ fp, H' b = none) /\ W i m σ' H' := λ {σ7 H7} I7 n7 => by
    obtain ⟨m', hm, w7⟩ := hN σ7 H7 n7
    refine ⟨m', hm, i + 1, σ7, H7, I7.unpinned, T.keep _ _ _ st5 λ b hb o e => (I7.pin (b, o) (zzI _ (zzI _ (YL hb e)))).1, λ b hb => ?_, w7⟩
    obtain ⟨o, e, d⟩ := T.obj _ _ st5 b hb
    exact (I7.pin (b, o) (zzI _ (zzI _ (YL hb e)))).2.1
   cases f with
   | next => obtain ⟨σ7, H7, I7, n7⟩ := q7; exact again I7 n7
   | cont => obtain ⟨σ7, H7, I7, n7⟩ := q7; exact again I7 n7
   | brk => obtain ⟨σ7, H7, I7, q7⟩ := q7; exact ⟨σ7, H7, I7.unpinned, q7⟩
   | ret v => obtain ⟨x7, σ7, H7, I7, r7, q7⟩ := q7; exact ⟨x7, σ7, H7, I7.unpinned, r7, q7⟩
end
end L2
namespace L2
open PySem PySem.Spec PyProof.Rows
abbrev R2 := V -> V -> Hp -> VK -> Prop
def OpR (X : Cx) (f : Value -> Value -> Sem Value) (r : R2) : Prop :=
 ∀ (pins : List (Addr × Obj)) (s : Shared) (σ : St) (H : Hp) (x y : V) (v u : Value) (Q : VK), Inv X pins σ H s -> RelV x v -> RelV y u -> r x y H Q ->
  wpAny (model X.prog X.w) X.A (f v u) (EP X pins σ Q) X.xe s
def zaF (X : Cx) (f : Value) (r : List V -> Hp -> VK -> Prop) : Prop :=
 ∀ (pins : List (Addr × Obj)) (s : Shared) (σ : St) (H : Hp) (xs : List V) (us : List Value) (Q : VK), Inv X pins σ H s -> Vals xs us -> r xs H Q ->
  wpAny (model X.prog X.w) X.A (call f us) (EP X pins σ Q) X.xe s
def zoE (X : Cx) (r : V -> Hp -> (Bool -> Hp -> Prop) -> Prop) : Prop :=
 ∀ (pins : List (Addr × Obj)) (s : Shared) (σ : St) (H : Hp) (x : V) (v : Value) (Q : Bool -> Hp -> Prop), Inv X pins σ H s -> RelV x v -> r x H Q ->
  wpAny (model X.prog X.w) X.A (truthy v) (TP X pins σ Q) X.xe s
def tOp (r : R2) (ta tb : TE) : TE := λ σ H Q => ta σ H λ x H1 => tb σ H1 λ y H2 => r x y H2 Q
def rI (C : Int -> Int -> Prop) (g : Int -> Int -> V) : R2 := λ x y H Q => ∃ i j, x = .int i /\ y = .int j /\ C i j /\ Q (g i j) H
def rI0 (g : Int -> Int -> V) : R2 := λ x y H Q => ∃ i j, x = .int i /\ y = .int j /\ Q (g i j) H
section
variable {X : Cx} {a b c : Expr} {ta tb tc : TE} {pos : Pos}
theorem zml (ha : PE X a ta) (hb : PE X b tb) {pins : List (Addr × Obj)} {s : Shared} {σ : St} {H : Hp} {R : V -> V -> Hp -> Prop} (I : Inv X pins σ H s)
 (h : ta σ H λ x H1 => tb σ H1 λ y H2 => R x y H2) {Q : Value -> Shared -> Prop} {f : Value -> Value -> Sem Value}
 (hf : ∀ v u s2 x y H2, Inv X pins σ H2 s2 -> RelV x v -> RelV y u -> R x y H2 -> wpAny (model X.prog X.w) X.A (f v u) Q X.xe s2) :
 wpAny (model X.prog X.w) X.A (eval a X.env) (λ v s₁ => wpAny (model X.prog X.w) X.A (eval b X.env) (λ u s₂ => wpAny (model X.prog X.w) X.A (f v u) Q X.xe s₂) X.xe s₁) X.xe s := by
 refine thn (ha pins s σ H _ I h) λ v s1 ⟨x, H1, I1, r1, q1⟩ => ?_
 refine thn (hb pins s1 σ H1 _ I1 q1) λ u s2 ⟨y, H2, I2, r2, q2⟩ => ?_
 exact hf v u s2 x y H2 I2 r1 r2 q2
theorem znt {op : Operator} {r : R2} (ho : OpR X (binaryOp op) r) (ha : PE X a ta) (hb : PE X b tb) : PE X (.BinOp a op b pos) (tOp r ta tb) := by
 intro pins s σ H Q I h
 exact wpAny_BinOp (zml ha hb I h λ v u s2 x y H2 I2 rx ry q => ho pins s2 σ H2 x y v u Q I2 rx ry q)
theorem opI {f : Value -> Value -> Sem Value} {C : Int -> Int -> Prop} {g : Int -> Int -> Int}
 (rule : ∀ (i j : Int) (t u : Tok) (s : Shared) (Q : Value -> Shared -> Prop) (E : Value -> Shared -> Prop), C i j -> Q (.int (g i j) s.toks) { s with toks := s.toks + 1 } -> wpAny (model X.prog X.w) X.A (f (.int i t) (.int j u)) Q E s) :
 OpR X f (rI C λ i j => .int (g i j)) := by
 intro pins s σ H x y v u Q I rx ry h
 obtain ⟨i, j, rfl, rfl, hc, q⟩ := h
 obtain ⟨t, rfl⟩ := rx
 obtain ⟨t', rfl⟩ := ry
 exact rule i j t t' s _ _ hc ⟨.int (g i j), H, I.tok _, ⟨_, rfl⟩, q⟩
theorem zof {f : Value -> Value -> Sem Value} {g : Int -> Int -> Int}
 (rule : ∀ (i j : Int) (t u : Tok) (s : Shared) (Q : Value -> Shared -> Prop) (E : Value -> Shared -> Prop), Q (.int (g i j) s.toks) { s with toks := s.toks + 1 } -> wpAny (model X.prog X.w) X.A (f (.int i t) (.int j u)) Q E s) :
 OpR X f (rI0 λ i j => .int (g i j)) := by
 intro pins s σ H x y v u Q I rx ry h
 obtain ⟨i, j, rfl, rfl, q⟩ := h
 obtain ⟨t, rfl⟩ := rx
 obtain ⟨t', rfl⟩ := ry
 exact rule i j t t' s _ _ ⟨.int (g i j), H, I.tok _, ⟨_, rfl⟩, q⟩
theorem zkz {f : Value -> Value -> Sem Value} {g : Int -> Int -> Bool}
 (rule : ∀ (i j : Int) (t u : Tok) (s : Shared) (Q : Value -> Shared -> Prop) (E : Value -> Shared -> Prop), Q (.bool (g i j)) s -> wpAny (model X.prog X.w) X.A (f (.int i t) (.int j u)) Q E s) :
 OpR X f (rI0 λ i j => .bl (g i j)) := by
 intro pins s σ H x y v u Q I rx ry h
 obtain ⟨i, j, rfl, rfl, q⟩ := h
 obtain ⟨t, rfl⟩ := rx
 obtain ⟨t', rfl⟩ := ry
 exact rule i j t t' s _ _ ⟨.bl (g i j), H, I, rfl, q⟩
def znE (i j : Int) : Prop := 0 <= j /\ j <= 1000000 /\ i.natAbs < 2 ^ 64
theorem zly : OpR X (binaryOp .Add) (rI0 λ i j => .int (i + j)) := zof λ _ _ _ _ _ _ _ q => add_int q
theorem zmG : OpR X (binaryOp .Sub) (rI0 λ i j => .int (i - j)) := zof λ _ _ _ _ _ _ _ q => sub_int q
theorem zmX : OpR X (binaryOp .Mod) (rI (λ _ j => 0 < j) λ i j => .int (i % j)) := opI λ i j _ _ _ _ _ hc q => by
 have h1 : (0 : Int) < j := hc
 exact mod_int' (by omega) (by rw [Int.fmod_eq_emod_of_nonneg i (by omega)]; exact q)
theorem zmQ : OpR X (binaryOp .Pow) (rI znE λ i j => .int (i ^ j.toNat)) := opI λ _ _ _ _ _ _ _ hc q => pow_int_small hc.1 hc.2.1 hc.2.2 q
theorem zlO : OpR X (binaryOp .LShift) (rI znE λ i j => .int (i * 2 ^ j.toNat)) := opI λ _ _ _ _ _ _ _ hc q => lshift_int_small hc.1 hc.2.1 hc.2.2 q
end
section
variable {X : Cx} {a b c : Expr} {ta tb tc : TE} {pos : Pos}
theorem xT (I : Inv X pins σ H s) (q : Q (.bl k) H) (e : k = k') : EP X pins σ Q (.bool k') s := by
 subst e
 exact ⟨.bl k, H, I, rfl, q⟩
theorem zno : OpR X (compareOp .Lt) (rI0 λ i j => .bl (decide (i < j))) := zkz λ _ _ _ _ _ _ _ q => lt_int q
theorem znc : OpR X (compareOp .LtE) (rI0 λ i j => .bl (decide (i <= j))) := zkz λ _ _ _ _ _ _ _ q => le_int q
theorem znR : OpR X (compareOp .Gt) (rI0 λ i j => .bl (decide (j < i))) := zkz λ _ _ _ _ _ _ _ q => gt_int q
theorem znV : OpR X (compareOp .GtE) (rI0 λ i j => .bl (decide (j <= i))) := zkz λ _ _ _ _ _ _ _ q => ge_int q
theorem zgV : OpR X (compareOp .In) (λ x y H Q => ∃ i j, x = .str i /\ y = .str j /\ Q (.bl (!(Builtin.Str.occurrences j i 0 j.length 1).isEmpty)) H) := by
 intro pins s σ H x y v u Q I rx ry h
 obtain ⟨i, j, rfl, rfl, q⟩ := h
 obtain ⟨t, rfl⟩ := rx
 obtain ⟨t', rfl⟩ := ry
 exact in_str (xT I q rfl)
theorem zmB : OpR X (compareOp .Is) (λ x y H Q => y = .non /\ Q (.bl (decide (x = .non))) H) := by
 intro pins s σ H x y v u Q I rx ry h
 obtain ⟨rfl, q⟩ := h
 cases ry
 refine is_none_gen (xT I q ?_)
 cases x <;> first
  | (cases rx; rfl)
  | (obtain ⟨t, rfl⟩ := rx; rfl)
theorem zjQ : OpR X (compareOp .IsNot) (λ x y H Q => y = .non /\ Q (.bl (!decide (x = .non))) H) := by
 intro pins s σ H x y v u Q I rx ry h
 obtain ⟨rfl, q⟩ := h
 cases ry
 refine isnot_none_gen (xT I q ?_)
 cases x <;> first
  | (cases rx; rfl)
  | (obtain ⟨t, rfl⟩ := rx; rfl)
theorem zdr : OpR X (compareOp .NotIn) (λ x y H Q => ∃ i j, x = .str i /\ y = .str j /\ Q (.bl (!(!(Builtin.Str.occurrences j i 0 j.length 1).isEmpty))) H) := by
 intro pins s σ H x y v u Q I rx ry h
 obtain ⟨i, j, rfl, rfl, q⟩ := h
 obtain ⟨t, rfl⟩ := rx
 obtain ⟨t', rfl⟩ := ry
 exact notIn_str (xT I q rfl)
theorem yH (b : Expr) (h : op ≠ .In := by decide) (h2 : op ≠ .NotIn := by decide) : behindInMarks op b = false := by
 have e1 : (op == CmpOp.In) = false := by cases op <;> first | rfl | exact absurd rfl h
 have e2 : (op == CmpOp.NotIn) = false := by cases op <;> first | rfl | exact absurd rfl h2
 cases b <;> simp [behindInMarks, e1, e2]
theorem zkT {op : CmpOp} {r : R2} (ho : OpR X (compareOp op) r) (ha : PE X a ta) (hb : PE X b tb) (hm : behindInMarks op b = false) : PE X (.Compare a [op] [b] pos) (tOp r ta tb) := by
 intro pins s σ H Q I h
 exact wpAny_Compare1 (zml ha hb I h λ v u s2 x y H2 I2 rx ry q => ho pins s2 σ H2 x y v u Q I2 rx ry q) hm
def zoe (t : TE) : TT := λ σ H Q => t σ H λ x H' => ∃ k, x = .bl k /\ Q k H'
theorem zkp (ho : OpR X (compareOp op) r) (ha : PE X a ta) (hb : PE X b tb) (hm : behindInMarks op b = false) : PT X (.Compare a [op] [b] pos) (zoe (tOp r ta tb)) := by
 intro pins s σ H Q I h
 refine wpAny_isTrue_Compare1 (thn (ha pins s σ H _ I h) λ v s1 ⟨x, H1, I1, r1, q1⟩ => thn (hb pins s1 σ H1 _ I1 q1) λ u s2 ⟨y, H2, I2, r2, q2⟩ =>
  thn (ho pins s2 σ H2 x y v u _ I2 r1 r2 q2) λ c s3 ⟨z, H3, I3, r3, k, e, q3⟩ => ?_) hm
 subst e
 cases r3
 exact wpAny_truthy_bool ⟨H3, I3, q3⟩
def zlR (K : zC) (x : V) (H : Hp) (k : Bool) : Prop :=
 match x with
 | .non => k = false
 | .bl b => k = b
 | .int i => k = (i != 0)
 | .str y => y.length <= sizeLine /\ k = ((y.length : Int) != 0)
 | .byt y => y.size <= sizeLine /\ k = ((y.size : Int) != 0)
 | .ref p => (∃ xs, SqL K H p xs /\ k = !xs.isEmpty) \/ (∃ xs, SqT K H p xs /\ k = !xs.isEmpty) \/ ∃ kvs, H p = some (.dK kvs) /\ k = !kvs.isEmpty
 | _ => False
theorem zfc (r : KV kvs vs) : (!vs.isEmpty) = !kvs.isEmpty := by
 cases r <;> rfl
theorem zbW (r : Vals xs its) : (!its.toArray.isEmpty) = !xs.isEmpty := by
 cases r <;> simp
theorem W8 : (sizeLine : Nat) < 2 ^ 63 := by rw [sizeLine_eq]; decide
theorem zmw : zoE X (λ x H Q => ∃ k, zlR X.K x H k /\ Q k H) := by
 intro pins s σ H x v Q I rx h
 obtain ⟨k, e, q⟩ := h
 have hl := W8
 have hs : sizeLine = 16777216 := sizeLine_eq
 cases x with
 | non =>
  cases rx
  have e' : k = false := e
  subst e'
  exact truthy_none ⟨H, I, q⟩
 | bl b =>
  cases rx
  have e' : k = b := e
  subst e'
  exact wpAny_truthy_bool ⟨H, I, q⟩
 | int i =>
  obtain ⟨t, rfl⟩ := rx
  have e' : k = (i != 0) := e
  subst e'
  exact PySem.P.truthy_int ⟨H, I, q⟩
 | str y =>
  obtain ⟨t, rfl⟩ := rx
  obtain ⟨hy, e'⟩ : y.length <= sizeLine /\ k = ((y.length : Int) != 0) := e
  subst e'
  exact PySem.P.truthy_str (by omega) ⟨H, I.tok _, q⟩
 | byt y =>
  obtain ⟨t, rfl⟩ := rx
  obtain ⟨hy, e'⟩ : y.size <= sizeLine /\ k = ((y.size : Int) != 0) := e
  subst e'
  exact PySem.W.truthy_bytes (by omega) ⟨H, I.tok _, q⟩
 | ref p =>
  cases rx
  have e' : (∃ xs, SqL X.K H p xs /\ k = !xs.isEmpty) \/ (∃ xs, SqT X.K H p xs /\ k = !xs.isEmpty) \/ ∃ kvs, H p = some (.dK kvs) /\ k = !kvs.isEmpty := e
  rcases e' with ⟨xs, hx, e'⟩ | ⟨xs, hx, e'⟩ | ⟨kvs, hx, e'⟩
  · subst e'
    obtain ⟨its, r, pl, hz⟩ := I.list hx
    have hlen := r.length
    exact wpAny_truthy_list pl.isList (by simp only [zzE]; omega) ⟨H, I.tok _, by rw [zbW r]; exact q⟩
  · subst e'
    obtain ⟨its, r, pl, hz⟩ := I.tuple hx
    have hlen := r.length
    exact truthy_tuple pl (by simp only [zzE]; omega) ⟨H, I.tok _, by rw [zbW r]; exact q⟩
  · subst e'
    obtain ⟨hz, hS, vs, r, m⟩ : kvs.length <= sizeLine /\ (p == sysModules) = false /\ ∃ vs, KV kvs vs /\ s.heap.DictOf (xu X.prog X.w) p vs := I.hok p _ hx
    have hlen : kvs.length = vs.length := Paired.length r
    exact wpAny_truthy_dict hS m (by omega) ⟨H, I.tok _, by rw [zfc r]; exact q⟩
 | _ => exact (show False from e).elim
theorem zig (ha : PE X a ta) (he : ∀ whole, isTrue a X.env whole = (do let v <- whole; standAt a.pos; holding [v] (truthy v))) :
 PT X a (λ σ H Q => ta σ H λ x H' => ∃ k, zlR X.K x H' k /\ Q k H') := by
 intro pins s σ H Q I h
 exact isTrue_plain (thn (ha pins s σ H _ I h) λ v s1 ⟨x, H1, I1, r1, q1⟩ => zmw pins s1 σ H1 x v Q I1 r1 q1) (he _)
theorem zfk : OpR X (binaryOp .Add) (λ x y H Q => ∃ i j, x = .str i /\ y = .str j /\ i.length + j.length <= sizeLine /\ Q (.str (i ++ j)) H) := by
 intro pins s σ H x y v u Q I rx ry h
 obtain ⟨i, j, rfl, rfl, hz, q⟩ := h
 obtain ⟨t, rfl⟩ := rx
 obtain ⟨t', rfl⟩ := ry
 exact add_str (λ t' tk => ⟨.str (i ++ j), H, I.tok _, ⟨_, rfl⟩, q⟩) hz
theorem vals1 (r : Vals [x] us) : ∃ u, us = [u] /\ RelV x u := by
 cases r with
 | cons r1 r2 => cases r2; exact ⟨_, rfl, r1⟩
theorem vals2 (r : Vals [x, y] us) : ∃ u w', us = [u, w'] /\ RelV x u /\ RelV y w' := by
 cases r with
 | cons r1 r2 =>
  cases r2 with
  | cons r3 r4 => cases r4; exact ⟨_, _, rfl, r1, r3⟩
theorem zgP (hc : X.calm = true) : zaF X (.builtin "max") (λ xs H Q => ∃ i j, xs = [.int i, .int j] /\ Q (.int (if j > i then j else i)) H) := by
 intro pins s σ H xs us Q I r h
 obtain ⟨i, j, rfl, q⟩ := h
 obtain ⟨u, w', rfl, ⟨t, rfl⟩, ⟨t', rfl⟩⟩ := vals2 r
 refine max_two_ints (I.ok.hd hc) λ h' tk k => ⟨_, H, I.kept k, ?_, q⟩
 by_cases hj : j > i
 · rw [if_pos hj, if_pos hj]; exact ⟨_, rfl⟩
 · rw [if_neg hj, if_neg hj]; exact ⟨_, rfl⟩
theorem zcE : zaF X (.type "int") (λ xs H Q => (∃ i, xs = [.int i] /\ Q (.int i) H) \/ ∃ k, xs = [.bl k] /\ Q (.int (if k then 1 else 0)) H) := by
 intro pins s σ H xs us Q I r h
 rcases h with ⟨i, rfl, q⟩ | ⟨k, rfl, q⟩
 · obtain ⟨u, rfl, t, rfl⟩ := vals1 r
   exact call_int_int ⟨.int i, H, I, ⟨_, rfl⟩, q⟩
 · obtain ⟨u, rfl, r1⟩ := vals1 r
   cases r1
   exact call_int_bool ⟨.int (if k then 1 else 0), H, I.tok _, ⟨_, rfl⟩, q⟩
end
end L2
namespace L2
open PySem PySem.Spec PyProof.Rows
structure ObjM (h : Heap) (x dx C : Addr) (mA : Str -> Option Value) : Prop where
 obj : h.get? x = some (PySem.W.instObj C dx)
 ns : h.Ns1 dx mA
 ne : dx ≠ x
theorem zdj.some_of (r : zdj (some v) o) : ∃ u, o = some u /\ RelV v u := by
 cases o with
 | none => exact (show False from r).elim
 | some u => exact ⟨u, rfl, r⟩
structure Cls (K : zC) (C : Addr) : Prop where
 pg : PySem.W.plainGet K C Str.empty = true
 hd : PySem.W.hasDictIn K C = true
 po : PySem.W.plainOver K C = true
 sa : PySem.W.findIn K (.ref C) "__setattr__" = some (some (.builtin "object.__setattr__"))
structure Con (K : zC) (C : Addr) (f : Str) (v : V) (u : Value) : Prop where
 at_ : PySem.W.findIn K (.ref C) f = some (some u)
 rel : RelV v u
 get : PySem.W.specialIn K u "__get__" = some none
 cp : PySem.W.copiedNames.contains f = false
structure Meth (K : zC) (C : Addr) (m : Str) (f : Addr) : Prop where
 at_ : PySem.W.findIn K (.ref C) m = some (some (.ref f))
 fn : PySem.W.isFn K (.ref f) = true
 kp : PySem.W.keepIn K (.ref f) = true
section
variable {X : Cx} {pins : List (Addr × Obj)} {σ : St} {H : Hp} {s : Shared} {A : Around} {E : Value -> Shared -> Prop} {Q : Value -> Shared -> Prop} {c : Value} {b : Bool}
inductive TyOf (K : zC) (H : Hp) : V -> Value -> Prop where
 | non : TyOf K H .non (.type "NoneType")
 | bl (x : Bool) : TyOf K H (.bl x) (.type "bool")
 | int (i : Int) : TyOf K H (.int i) (.type "int")
 | str (x : Str) : TyOf K H (.str x) (.type "str")
 | flt (x : UInt64) : TyOf K H (.flt x) (.type "float")
 | lst {a : Addr} {xs : List V} (e : H a = some (.lst xs)) : TyOf K H (.ref a) (.type "list")
 | frz {a : Addr} {o : Obj} {xs : List V} (e : H a = some (.frz o (.lst xs))) : TyOf K H (.ref a) (.type "list")
 | tup {a : Addr} {xs : List V} (e : H a = some (.tup xs)) : TyOf K H (.ref a) (.type "tuple")
 | dK {a : Addr} {kvs : List (Key × V)} (e : H a = some (.dK kvs)) : TyOf K H (.ref a) (.type "dict")
 | dT {a : Addr} {kvs : List (List Key × V)} (e : H a = some (.dT kvs)) : TyOf K H (.ref a) (.type "dict")
 | ins {a C dx : Addr} {fs : List (Str × V)} (e : H a = some (.ins C dx fs)) (cl : Cls K C) (ha : PySem.W.findIn K (.ref C) "__class__" = some (some (.builtin "object.__class__")))
  (hn : PySem.W.specialIn K (.builtin "object.__class__") "__get__" = some (some (.builtin "getset_descriptor.__get__"))) (htk : PySem.W.takesIn K (.builtin "object.__class__") = some true)
  (hm : PySem.W.mroIn K C (.type "object") = some true) : TyOf K H (.ref a) (.ref C)
end
end L2
namespace L2
open PySem PySem.Spec PyProof.Rows
structure Room (k : Nat) (A : Around) : Prop where
 hd : A.handled = none
 dp : A.depth + 3 * k + 5 < recursionLimit
 un : A.units + 16 * k + 200 < cLine
 gd : A.guards = some []
theorem Room.mono (r : Room k A) (h : j <= k) : Room j A := ⟨r.hd, by have := r.dp; omega, by have := r.un; omega, r.gd⟩
theorem Room.deeper (r : Room (k + 1) A) (env : Env) : Room k (A.deeper env) :=
 ⟨r.hd, by have := r.dp; show A.depth + 1 + 3 * k + 5 < _; omega, by have := r.un; show A.units + 3 + 16 * k + 200 < _; omega, r.gd⟩
theorem Room.depth (r : Room k A) : A.depth < recursionLimit := by have := r.dp; omega
theorem Room.units (r : Room k A) : A.units + 64 < cLine := by have := r.un; omega
def znX : TA := λ _ H Q => Q [] H
def zlj (ta : TE) (tr : TA) : TA := λ σ H Q => ta σ H λ x H1 => tr σ H1 λ xs H2 => Q (x :: xs) H2
section
variable {X : Cx} {e : Expr} {es : List Expr} {te : TE} {t : TA} {pos : Pos}
theorem zcW : PA X [] znX := λ _ _ _ _ H Q I h => Calls.spliced_nil ⟨[], H, I, .nil, h⟩
theorem Wt (ha : PE X e te) (hr : PA X es t) (hs : starEach (e :: es) X.env = (false, eval e X.env) :: starEach es X.env := by rfl) : PA X (e :: es) (zlj te t) := by
 intro pos pins s σ H Q I h
 rw [hs]
 show wpAny _ _ (spliced ((false, eval e X.env) :: backTo pos (starEach es X.env))) _ _ s
 refine Calls.spliced_cons (thn (ha pins s σ H _ I h) λ u s1 ⟨x, H1, I1, r1, q1⟩ => ?_)
 exact thn (hr pos pins s1 σ H1 _ I1 q1) λ us s2 ⟨xs, H2, I2, r2, q2⟩ => ⟨x :: xs, H2, I2, .cons r1 r2, q2⟩
def zov (t : TA) : TE := λ σ H Q => t σ H λ xs H1 => xs.length <= sizeLine /\ ∀ p, H1 p = none -> Q (.ref p) (upd H1 p (.tup xs))
def zoF (t : TA) : TE := λ σ H Q => t σ H λ xs H1 => xs.length <= sizeLine /\ ∀ p, H1 p = none -> Q (.ref p) (upd H1 p (.lst xs))
theorem zlD (h : PA X es t) : PE X (.Tuple es x1 pos) (zov t) := by
 intro pins s σ H Q I hq
 refine wpAny_Tuple_spliced (thn (h pos pins s σ H _ I hq) λ us s1 ⟨xs, H1, I1, r, z, q⟩ => ⟨by rw [<- r.length]; exact z, ?_⟩)
 have hf : H1 s1.heap.objs.size = none := I1.hok.fresh (zzK _)
 refine ⟨.ref s1.heap.objs.size, upd H1 s1.heap.objs.size (.tup xs), I1.laid (t' := s1.toks) (λ b u e => Heap.get?_push_of_some _ e) (zzK _) ?_, rfl, q _ hf⟩
 exact ⟨z, us, r, ⟨_, Heap.get?_push_size _ rfl, rfl, _, rfl⟩⟩
theorem zlW (h : PA X es t) : PE X (.List es pos) (zoF t) := by
 intro pins s σ H Q I hq
 refine wpAny_List_spliced (thn (h pos pins s σ H _ I hq) λ us s1 ⟨xs, H1, I1, r, z, q⟩ => ⟨by rw [<- r.length]; exact z, ?_⟩)
 have hf : H1 s1.heap.objs.size = none := I1.hok.fresh (zzK _)
 refine ⟨.ref s1.heap.objs.size, upd H1 s1.heap.objs.size (.lst xs), I1.laid (t' := s1.toks) (λ b u e => Heap.get?_push_of_some _ e) (zzK _) ?_, rfl, q _ hf⟩
 exact ⟨z, us, 0, r, Heap.get?_push_size _ rfl⟩
end
abbrev Sp := List V -> Hp -> VK -> XK -> Prop
abbrev CXT := List Env -> Hp -> Shared -> XK -> Value -> Shared -> Prop
structure Env0 (P : Program) (w : World) (K : zC) (mg : Str -> Option Value) (base : Heap) (A : Around) (outer : List Env) (s : Shared) (H : Hp) : Prop where
 frames : A.frames = some outer
 mod : Mod K mg base
 bs : ∀ b o, base.get? b = some o -> s.heap.get? b = some o /\ H b = none
 bsz : base.objs.size <= s.heap.objs.size
 funs : s.heap.FunFrames base outer
 frf : ∀ b ∈ frs outer, H b = none
 hok : HOk P w H s.heap
 bare : AllBare s.gens
def CE (outer : List Env) (P : Program) (w : World) (H : Hp) (s : Shared) (Q : VK) (u : Value) (s' : Shared) : Prop :=
 ∃ v H', s'.os = s.os /\ AllBare s'.gens /\ Un (frs outer) [] H H' s.heap s'.heap /\ HOk P w H' s'.heap /\ RelV v u /\ Q v H'
def CR (CX : CXT) (outer : List Env) (P : Program) (w : World) (H : Hp) (s : Shared) (Q : VK) (E : XK) (r : Result) (s' : Shared) : Prop :=
 match r with
 | .ok (.ret u) => CE outer P w H s Q u s'
 | .ok _ => False
 | .error e => CX outer H s E e s'
structure FnOk (P : Program) (w : World) (K : zC) (mg : Str -> Option Value) (base : Heap) (CX : CXT) (k : Nat) (f : Addr) (fd : FuncData) (ps : List Str) (sp : Sp) : Prop where
 len : ∀ vs H Q E, sp vs H Q E -> vs.length = ps.length
 run : ∀ (A : Around) (outer : List Env) (s : Shared) (H : Hp) (args : Args) (us : List Value) (vs : List V) (Q : VK) (E : XK), Room k A -> Env0 P w K mg base A outer s H -> BindsTo s fd args (ps.zip us) -> Vals vs us -> sp vs H Q E ->
  codeAny (model P w) A (.call (.ref f) args) (CR CX outer P w H s Q E) s
theorem FnOk.imp {P : Program} {w : World} {K : zC} {mg : Str -> Option Value} {base : Heap} {CX : CXT} {k : Nat} {f : Addr} {fd : FuncData} {ps : List Str} {sp sp' : Sp} (F : FnOk P w K mg base CX k f fd ps sp)
 (h : ∀ vs H Q E, sp' vs H Q E -> sp vs H Q E) : FnOk P w K mg base CX k f fd ps sp' :=
 ⟨λ vs H Q E q => F.len vs H Q E (h _ _ _ _ q), λ A outer s H args us vs Q E hr he hb hv hs => F.run A outer s H args us vs Q E hr he hb hv (h _ _ _ _ hs)⟩
section
variable {X : Cx} {pins : List (Addr × Obj)} {σ : St} {H : Hp} {s s' : Shared}
theorem Inv.env0 (I : Inv X pins σ H s) : Env0 X.prog X.w X.K X.mg X.base X.A X.stack s H :=
 ⟨I.ok.frames, I.ok.mod, I.bs, zzL I.ok.bsz I.sz, I.stack, I.stkFree, I.hok, I.bare⟩
theorem Inv.after (I : Inv X pins σ H s) (h : CE X.stack X.prog X.w H s Q u s') : EP X pins σ Q u s' := by
 obtain ⟨v, H', os, bare, un, hok, r, q⟩ := h
 obtain ⟨hh, g, d, t, os'⟩ := s'
 obtain rfl : os' = s.os := os
 exact ⟨v, H', I.call (h' := hh) (g' := g) (d' := d) (t' := t) (ch := []) un hok bare (λ b z => absurd z (by simp)), r, q⟩
end
def zll (sp : Sp) (dvs : List V) (E : XK) (t : TA) : TE := λ σ H Q => t σ H λ vs H1 => sp (vs ++ dvs) H1 Q E
def Binds (K : zC) (fd : FuncData) (ps : List Str) (ds : List Value) : Prop :=
 ∀ (s : Shared) (us : List Value), K.In s.heap -> (us ++ ds).length = ps.length -> BindsTo s fd ⟨us, []⟩ (ps.zip (us ++ ds))
theorem Binds.all {K : zC} {fd : FuncData} {ps : List Str} (h : ∀ us : List Value, us.length = ps.length -> bindArgs fd ⟨us, []⟩ = pure (ps.zip us)) : Binds K fd ps [] := λ s us _ hl => by
 rw [List.append_nil] at hl ⊢
 exact .of_eq (h us hl)
def zbu (CX : CXT) (X : Cx) (E : XK) : Prop := ∀ (pins : List (Addr × Obj)) (σ : St) (H : Hp) (s : Shared) (e : Value) (s' : Shared), Inv X pins σ H s -> CX X.stack H s E e s' -> X.xe e s'
section
variable {X : Cx} {CX : CXT} {k : Nat} {f C : Addr} {fd : FuncData} {ps : List Str} {sp : Sp} {dvs : List V} {ds : List Value} {E : XK} {x m : Str} {p pos apos : Pos} {e o : Expr} {es : List Expr} {ta : TE} {t : TA}
theorem zlA (F : FnOk X.prog X.w X.K X.mg X.base CX k f fd ps sp) (hr : Room k X.A) (hb : Binds X.K fd ps ds) (hd : Vals dvs ds) (hx : zbu CX X E)
 (I : Inv X pins σ H s) (r : Vals vs us) (h : sp (vs ++ dvs) H Q E) : wpAny (model X.prog X.w) X.A (call (.ref f) us) (EP X pins σ Q) X.xe s := by
 have r2 : Vals (vs ++ dvs) (us ++ ds) := r.append hd
 have hl : (us ++ ds).length = ps.length := by rw [<- r2.length]; exact F.len _ _ _ _ h
 refine wpAny_call (codeAny_mono (F.run X.A X.stack s H ⟨us, []⟩ (us ++ ds) (vs ++ dvs) Q E hr I.env0 (hb s us I.kIn hl) r2 h) λ r s' hq => ?_)
 cases r with
 | error e => exact hx pins σ H s e s' I hq
 | ok fl =>
  cases fl with
  | ret u => exact I.after hq
  | next => exact False.elim hq
  | brk => exact False.elim hq
  | cont => exact False.elim hq
theorem zgG (F : FnOk X.prog X.w X.K X.mg X.base CX k f fd ps sp) (hr : Room k X.A) (hg : Gl X x) (hm : X.mg x = some (.ref f)) (hk : PySem.W.keepIn X.K (.ref f) = true) (hb : Binds X.K fd ps ds) (hd : Vals dvs ds) (hx : zbu CX X E)
 (ha : PA X (e :: es) t) (hdb : (x == ("__debug__" : Str)) = false := by decide) (he : starEach (e :: es) X.env = (false, eval e X.env) :: starEach es X.env := by rfl) (hpl : (backTo pos (starEach es X.env)).any (·.1) = false := by rfl) :
 PE X (.Call (.Name x p) (e :: es) [] pos) (zll sp dvs E t) := by
 intro pins s σ H Q I h
 refine wpAny_Call_Name_kw (zky I hg hm ?_ hdb)
 refine PySem.W.callWith_K (h₀ := X.base) I.ok.mod.kin hk (thn (ha pos pins s σ H _ I h) λ us s1 ⟨vs, H1, I1, r, q⟩ => ⟨I1.kIn, ?_⟩) he hpl
 exact zlA F hr hb hd hx I1 r q
structure Mk (K : zC) (C f : Addr) : Prop where
 makes : PySem.W.makesIn K C = true
 init : PySem.W.findIn K (.ref C) "__init__" = some (some (.ref f))
 fn : PySem.W.isFn K (.ref f) = true
 kp : PySem.W.keepIn K (.ref C) = true
end
section
variable {X : Cx} {CX : CXT} {k : Nat} {f C : Addr} {fd : FuncData} {ps ks : List Str} {sp : Sp} {E : XK} {x m : Str} {p pos apos kpos : Pos} {e o : Expr} {es : List Expr} {kws : List Keyword} {te ta : TE} {t tk : TA} {nm : Option Str}
structure KBinds (K : zC) (fd : FuncData) (ps ks : List Str) (g : List Value -> List Value -> List Value) (gV : List V -> List V -> List V) : Prop where
 to : ∀ (s : Shared) (us ws : List Value), K.In s.heap -> (g us ws).length = ps.length -> BindsTo s fd ⟨us, ks.zip ws⟩ (ps.zip (g us ws))
 rel : ∀ {vs : List V} {us : List Value} {zs : List V} {ws : List Value}, Vals vs us -> Vals zs ws -> Vals (gV vs zs) (g us ws)
variable {g : List Value -> List Value -> List Value} {gV : List V -> List V -> List V}
end
structure FnScope (N P : List Str) (sc : Scope) : Prop where
 kind : sc.kind = .function
 co : sc.isCoroutine = false
 gen : sc.isGenerator = false
 nd : N.Nodup
 pre : N.take P.length = P
 par : ∀ x ∈ P, sc.names.lookup x = some .local \/ sc.names.lookup x = some .cell
 nofree : ∀ y ∈ sc.names, y.2 ≠ .free
theorem zcM {kindOf : Str -> Option NameKind} {x : Str} : ∀ {binds : List (Str × Value)} {m : Str -> Option Value}, (∀ v, (x, v) ∉ binds) -> bindL kindOf binds m x = m x
 | [], _, _ => rfl
 | (n, v) :: r, m, h => by
  unfold bindL
  rw [zcM λ w hw => h w (zzA _ hw)]
  split
  · have : x ≠ n := by rintro rfl; exact h v zzC
    simp [this]
  · rfl
theorem zcK {kindOf : Str -> Option NameKind} {x : Str} : ∀ {binds : List (Str × Value)} {m : Str -> Option Value}, (∀ v, (x, v) ∉ binds) -> bindC kindOf binds m x = m x
 | [], _, _ => rfl
 | (n, v) :: r, m, h => by
  unfold bindC
  rw [zcK λ w hw => h w (zzA _ hw)]
  split
  · rfl
  · have : x ≠ n := by rintro rfl; exact h v zzC
    simp [this]
theorem zcP {kindOf : Str -> Option NameKind} {x : Str} {v : Value} : ∀ {P : List Str} {vs : List Value} {i : Nat} {m : Str -> Option Value}, P.Nodup -> P[i]? = some x -> vs[i]? = some v -> kindOf x = some .local ->
 bindL kindOf (P.zip vs) m x = some v
 | [], _, _, _, _, h, _, _ => by simp at h
 | _ :: _, [], _, _, _, _, h, _ => by simp at h
 | p :: P, w :: vs, 0, m, nd, h1, h2, hk => by
  simp at h1 h2; subst h1; subst h2
  show bindL kindOf ((p, w) :: P.zip vs) m p = _
  unfold bindL
  rw [zcM λ v hv => (zzT.mp nd).1 (List.of_mem_zip hv).1, if_pos hk]
  simp
 | p :: P, w :: vs, i + 1, m, nd, h1, h2, hk => by
  show bindL kindOf ((p, w) :: P.zip vs) m x = _
  unfold bindL
  exact zcP (i := i) (zzT.mp nd).2 (by simpa using h1) (by simpa using h2) hk
theorem zcx {kindOf : Str -> Option NameKind} {x : Str} {v : Value} : ∀ {P : List Str} {vs : List Value} {i : Nat} {m : Str -> Option Value}, P.Nodup -> P[i]? = some x -> vs[i]? = some v -> kindOf x ≠ some .local ->
 bindC kindOf (P.zip vs) m x = some v
 | [], _, _, _, _, h, _, _ => by simp at h
 | _ :: _, [], _, _, _, _, h, _ => by simp at h
 | p :: P, w :: vs, 0, m, nd, h1, h2, hk => by
  simp at h1 h2; subst h1; subst h2
  show bindC kindOf ((p, w) :: P.zip vs) m p = _
  unfold bindC
  rw [zcK λ v hv => (zzT.mp nd).1 (List.of_mem_zip hv).1, if_neg hk]
  simp
 | p :: P, w :: vs, i + 1, m, nd, h1, h2, hk => by
  show bindC kindOf ((p, w) :: P.zip vs) m x = _
  unfold bindC
  exact zcx (i := i) (zzT.mp nd).2 (by simpa using h1) (by simpa using h2) hk
def start (N : List Str) (vs : List V) : St := vs.map some ++ List.replicate (N.length - vs.length) none
def zeC (CX : CXT) (P : Program) (w : World) (K : zC) (mg : Str -> Option Value) (base : Heap) (N : List Str) (qual : Str) (scope : Scope) (f : Addr) (cd : Value) (A : Around) (outer : List Env) (s : Shared) (H : Hp) (E : XK) : Cx where
 prog := P
 w := w
 K := K
 mg := mg
 base := base
 A := A.deeper (envOfC qual scope s.heap.objs.size f cd)
 N := N
 s₀ := s
 H₀ := H
 env := envOfC qual scope s.heap.objs.size f cd
 outer := outer
 stack := envOfC qual scope s.heap.objs.size f cd :: outer
 ex := []
 calm := true
 fn := λ _ => true
 pn := []
 xe := λ e s' => wpAny (model P w) (A.deeper (envOfC qual scope s.heap.objs.size f cd)) (leaving (envOfC qual scope s.heap.objs.size f cd) e) (λ _ s'' => CX outer H s E e s'') (λ e' s'' => CX outer H s E e' s'') s'
theorem zeA {sc : Scope} {n : Nat} {x : Str} (h : sc.names.lookup x = some .cell) : ∃ c, (cellsFrom n sc.names []).lookup x = some c := by
 have q := PySem.W.cellsFrom_some sc.names n [] (.inl h)
 exact Option.isSome_iff_exists.mp q
theorem zhj {CX : CXT} {P : Program} {w : World} {K : zC} {mg : Str -> Option Value} {base : Heap} {N ps : List Str} {qual : Str} {scope : Scope} {f : Addr} {cd : Value} {A : Around} {outer : List Env} {s s1 : Shared} {H : Hp} {E : XK} {us : List Value} {vs : List V}
 (S : FnScope N ps scope) (hd : A.handled = none) (e0 : Env0 P w K mg base A outer s H) (hl : vs.length = ps.length) (r : Vals vs us)
 (x : InCallC s s.heap.objs.size (bindL (envOfC qual scope s.heap.objs.size f cd).kindOf (ps.zip us) λ _ => none) (cellsFrom (s.heap.objs.size + 1) scope.names []) (bindC (envOfC qual scope s.heap.objs.size f cd).kindOf (ps.zip us) λ _ => none) s1) :
 Inv (zeC CX P w K mg base N qual scope f cd A outer s H E) [] (start N vs) H s1 := by
 have hpl : ps.length <= N.length := by have := congrArg List.length S.pre; rw [zzP] at this; omega
 obtain ⟨h1, tk, rfl, hk⟩ := x.done
 have noA : ∀ b : Addr, b ∉ (zeC CX P w K mg base N qual scope f cd A outer s H E).ex := λ b z => absurd (show b ∈ ([] : List Addr) from z) (by simp)
 refine ⟨⟨e0.mod, S.kind, rfl, rfl, zzK _, λ y z c h1 h2 => ?_, λ y hy => ?_, λ y c _ h => ?_, λ _ => hd, Around.frames_deeper e0.frames, .inr ⟨rfl, rfl⟩, λ b z => absurd z (noA b), e0.bs, e0.bsz, λ b _ _ => noA b, λ b z => absurd z (noA b), e0.funs, e0.frf⟩,
  rfl, e0.bare, Un.kept hk, ⟨_, x.toInCall.ns, λ i y v h1 h2 h3 => ?_⟩, λ y c h => ⟨_, x.cell y c h⟩, e0.hok.fresh (zzK _), λ y c h => ?_, λ p hp => absurd (show p ∈ ([] : List (Addr × Obj)) from hp) (by simp), e0.hok.kept hk, ?_⟩
 · exact name_of_addr x.apart (PySem.mem_of_lookup h1) (PySem.mem_of_lookup h2)
 · have hy : scope.names.lookup y = some .cell \/ scope.names.lookup y = some .free := hy
   rcases hy with hy | hy
   · exact zeA hy
   · exact absurd rfl (S.nofree _ (PySem.mem_of_lookup hy))
 · exact Nat.le_of_lt (x.above y c (PySem.mem_of_lookup h))
 · have hi : i < vs.length := by
    unfold start at h2
    by_cases hi : i < vs.length
    · exact hi
    · rw [List.getElem?_append_right (by simpa using hi)] at h2
      rw [List.getElem?_replicate] at h2
      split at h2 <;> cases h2
   have ha : vs[i]? = some v := by
    unfold start at h2
    rw [List.getElem?_append_left (by simpa using hi), zzF] at h2
    cases e : vs[i]? with
    | none => rw [e] at h2; cases h2
    | some a => rw [e] at h2; cases h2; rfl
   obtain ⟨u, hu, rv⟩ := r.get ha
   have hp : ps[i]? = some y := by
    rw [<- S.pre, List.getElem?_take_of_lt (by omega)]; exact h1
   have ndP : ps.Nodup := by rw [<- S.pre]; exact S.nd.sublist (List.take_sublist _ _)
   refine ⟨u, rv, ?_⟩
   rcases S.par y (List.mem_of_getElem? hp) with k | k
   · exact .inl ⟨k, zcP ndP hp hu k⟩
   · obtain ⟨c, e⟩ := zeA (n := s.heap.objs.size + 1) k
     refine .inr ⟨.inl k, c, e, ?_⟩
     have q := x.cell y c e
     rw [zcx ndP hp hu (by show scope.names.lookup y ≠ _; rw [k]; decide)] at q
     exact q
 · exact e0.hok.fresh (Nat.le_of_lt (x.above y c (PySem.mem_of_lookup h)))
 · unfold start
   show _ = N.length
   rw [zzG, zD, List.length_replicate]
   omega
theorem znw {CX : CXT} {P : Program} {w : World} {K : zC} {mg : Str -> Option Value} {base : Heap} {k : Nat} {f : Addr} {name qual : Str} {params : Arguments} {body : List Stmt} {scope : Scope} {dV kV doc pm cdv ct oc : Value} {an od : Option Addr}
 {osl : Array (Option Value)} {N ps : List Str} {sp : Sp} (lk : K.lookup f = some ⟨oc, od, .func (PySem.W.fnOf name qual params body scope dV kV doc pm an cdv ct), osl⟩) (hcd : PySem.W.codeIn K cdv qual = true) (S : FnScope N ps scope)
 (len : ∀ vs H Q E, sp vs H Q E -> vs.length = ps.length)
 (hbody : ∀ (A : Around) (outer : List Env) (s : Shared) (H : Hp) (vs : List V) (Q : VK) (E : XK), Room k (A.deeper (envOfC qual scope s.heap.objs.size f cdv)) -> sp vs H Q E ->
  ∃ t, PSs (zeC CX P w K mg base N qual scope f cdv A outer s H E) body t /\ t { nx := λ _ H' => Q .non H', rt := Q } (start N vs) H) :
 FnOk P w K mg base CX (k + 1) f (PySem.W.fnOf name qual params body scope dV kV doc pm an cdv ct) ps sp := by
 refine ⟨len, λ A outer s H args us vs Q E hr e0 hb r hsp => ?_⟩
 have hl := len _ _ _ _ hsp
 have KX : K.In s.heap := e0.mod.kin.keeps λ b o e => (e0.bs b o e).1
 have lim : s.heap.NoLimit := e0.mod.nolimit.keeps λ b o e => (e0.bs b o e).1
 have hkind : ∀ y ∈ ps.zip us, scope.names.lookup y.1 = some .local \/ (scope.names.lookup y.1 = some .cell /\ ((cellsFrom (s.heap.objs.size + 1) scope.names []).lookup y.1).isSome = true) := λ ⟨n, v⟩ hy => by
  rcases S.par n (List.of_mem_zip hy).1 with q | q
  · exact .inl q
  · exact .inr ⟨q, PySem.W.cellsFrom_some _ _ _ (.inl q)⟩
 refine codeAny_call_function hr.depth (KX _ _ lk) rfl S.co S.gen rfl (PySem.W.codeRec_of KX hcd) (hb _ _ _ _ ?_)
 refine wpAny_newFunctionEnv_cells S.kind hkind λ env he s1 x => ?_
 subst he
 refine ⟨lim.keeps x.toInCall.keep, codeAny_func ?_⟩
 obtain ⟨t, ht, hq⟩ := hbody A outer s H vs Q E (hr.deeper _) hsp
 have I : Inv (zeC CX P w K mg base N qual scope f cdv A outer s H E) [] (start N vs) H s1 := zhj S hr.hd e0 hl r x
 refine wpAny_mono (ht [] s1 (start N vs) H _ I hq) (λ fl s' hs => ?_) λ e s' hs => hs
 have fin : ∀ {σ' : St} {H' : Hp} {v : V} {u : Value}, Inv (zeC CX P w K mg base N qual scope f cdv A outer s H E) [] σ' H' s' -> RelV v u -> Q v H' -> CE outer P w H s Q u s' :=
  λ {σ' H' v u} J rv q => ⟨v, H', J.os, J.bare, J.base, J.hok, rv, q⟩
 cases fl with
 | ret u =>
  obtain ⟨v, σ', H', J, rv, q⟩ := hs
  exact fin J rv q
 | next =>
  obtain ⟨σ', H', J, q⟩ := hs
  exact fin (v := V.non) (u := Value.none) J rfl q
 | brk =>
  obtain ⟨_, _, _, q⟩ := hs
  exact False.elim q
 | cont =>
  obtain ⟨_, _, _, q⟩ := hs
  exact False.elim q
end L2
namespace L2
open PySem PySem.Spec PyProof.Rows
section
variable {X : Cx} {x : Str} {p pos : Pos} {e : Expr} {es : List Expr} {t : TA} {id T : String} {r : List V -> Hp -> VK -> Prop}
def tCB (r : List V -> Hp -> VK -> Prop) (t : TA) : TE := λ σ H Q => t σ H λ vs H1 => r vs H1 Q
theorem ziA (hc : zaF X (.builtin id) r) (hg : Gl X x) (hm : X.mg x = none) (hv : bootBuiltins x = some (.builtin id)) (ha : PA X (e :: es) t) (hn : x ≠ "__name__" := by decide) (hdb : (x == ("__debug__" : Str)) = false := by decide)
 (he : starEach (e :: es) X.env = (false, eval e X.env) :: starEach es X.env := by rfl) (hpl : (backTo pos (starEach es X.env)).any (·.1) = false := by rfl) : PE X (.Call (.Name x p) (e :: es) [] pos) (tCB r t) := by
 intro pins s σ H Q I h
 refine wpAny_Call_Name_kw (zac I hg hm hv ?_ hn hdb)
 exact PyProof.Rows.callWith_builtin1 (thn (ha pos pins s σ H _ I h) λ us s1 ⟨vs, H1, I1, r1, q1⟩ => hc pins s1 σ H1 vs us Q I1 r1 q1) he hpl
theorem zhd (hc : zaF X (.type T) r) (hg : Gl X x) (hm : X.mg x = none) (hv : bootBuiltins x = some (.type T)) (ha : PA X (e :: es) t) (hn : x ≠ "__name__" := by decide) (hdb : (x == ("__debug__" : Str)) = false := by decide)
 (he : starEach (e :: es) X.env = (false, eval e X.env) :: starEach es X.env := by rfl) (hpl : (backTo pos (starEach es X.env)).any (·.1) = false := by rfl) : PE X (.Call (.Name x p) (e :: es) [] pos) (tCB r t) := by
 intro pins s σ H Q I h
 refine wpAny_Call_Name_kw (zac I hg hm hv ?_ hn hdb)
 exact PyProof.Rows.callWith_type1 (thn (ha pos pins s σ H _ I h) λ us s1 ⟨vs, H1, I1, r1, q1⟩ => hc pins s1 σ H1 vs us Q I1 r1 q1) he hpl
end
end L2
namespace L2
open PySem PySem.Spec PyProof.Rows
section
variable {κ : Type} [DecidableEq κ]
def Z0 (kvs : List (κ × V)) (k : κ) : Option V := (kvs.find? λ kv => decide (kv.1 = k)).map (·.2)
def putK (kvs : List (κ × V)) (k : κ) (v : V) : List (κ × V) :=
 if (kvs.any λ kv => decide (kv.1 = k)) = true then kvs.map (λ kv => if kv.1 = k then (kv.1, v) else kv) else kvs ++ [(k, v)]
theorem zci {p : κ × V} {r : List (κ × V)} {k : κ} (e : p.1 = k) : Z0 (p :: r) k = some p.2 := by simp [Z0, List.find?_cons, e]
theorem zbX {p : κ × V} {r : List (κ × V)} {k : κ} (e : ¬ p.1 = k) : Z0 (p :: r) k = Z0 r k := by simp [Z0, List.find?_cons, e]
theorem zeg (k : κ) : ∀ kvs : List (κ × V), (kvs.any λ kv => decide (kv.1 = k)) = (Z0 kvs k).isSome
 | [] => rfl
 | p :: r => by
  rw [List.any_cons]
  by_cases e : p.1 = k
  · simp only [zci e, decide_eq_true e, Bool.true_or, Option.isSome_some]
  · rw [zbX e, decide_eq_false e, Bool.false_or]; exact zeg k r
theorem zaQ (kvs : List (κ × V)) (k : κ) (v : V) : (putK kvs k v).length <= kvs.length + 1 := by
 unfold putK
 split
 · rw [zD]; omega
 · rw [zzG, zzQ, List.length_nil]; omega
theorem zdj.isSome_eq (r : zdj o u) : o.isSome = u.isSome := by
 cases o with
 | none => cases u with
  | none => rfl
  | some _ => exact (show False from r).elim
 | some _ => cases u with
  | none => exact (show False from r).elim
  | some _ => rfl
theorem KV.val {kvs : List (κ × V)} {vs : List (κ × Value)} (r : KV kvs vs) (k : κ) : zdj (Z0 kvs k) (valueAt vs k) := by
 unfold KV at r
 induction r with
 | nil => exact True.intro
 | @cons p q ps qs h t ih =>
  obtain ⟨h1, h2⟩ := h
  by_cases e : p.1 = k
  · have e' : q.1 = k := h1.symm.trans e
    have b : valueAt (q :: qs) k = some q.2 := by simp [valueAt, List.find?_cons, e']
    rw [zci e, b]; exact h2
  · have e' : ¬ q.1 = k := λ z => e (h1.trans z)
    have b : valueAt (q :: qs) k = valueAt qs k := by simp [valueAt, List.find?_cons, e']
    rw [zbX e, b]; exact ih
theorem KV.any (r : KV kvs vs) (k : κ) : (kvs.any λ kv => decide (kv.1 = k)) = vs.any λ kv => decide (kv.1 = k) := by
 unfold KV at r
 induction r with
 | nil => rfl
 | cons h t ih => rw [List.any_cons, List.any_cons, ih, h.1]
theorem KV.repl (r : KV kvs vs) (k : κ) (ry : RelV y u) :
 KV (kvs.map λ kv => if kv.1 = k then (kv.1, y) else kv) (vs.map λ kv => if kv.1 = k then (kv.1, u) else kv) := by
 unfold KV at r ⊢
 induction r with
 | nil => exact .nil
 | @cons p q ps qs h t ih =>
  rw [List.map_cons, List.map_cons]
  refine .cons ?_ ih
  obtain ⟨h1, h2⟩ := h
  by_cases e : p.1 = k
  · rw [if_pos e, if_pos (h1.symm.trans e)]; exact ⟨h1, ry⟩
  · rw [if_neg e, if_neg (λ z => e (h1.trans z))]; exact ⟨h1, h2⟩
theorem KV.put (r : KV kvs vs) (k : κ) (ry : RelV y u) : KV (putK kvs k y) (stored vs k u) := by
 unfold putK stored
 rw [r.any k]
 by_cases e : (vs.any λ kv => decide (kv.1 = k)) = true
 · rw [if_pos e, if_pos e]; exact r.repl k ry
 · rw [if_neg e, if_neg e]; exact Paired.snoc r ⟨rfl, ry⟩
theorem KV.length (r : KV kvs vs) : kvs.length = vs.length := Paired.length r
end
theorem zbS (r : RelV (kV k) u) : (xu P w).is k u = true := by
 cases k with
 | inl i => obtain ⟨t, e⟩ := (show ∃ t, u = Value.int i t from r); subst e; exact zeM P w i t
 | inr x => obtain ⟨t, e⟩ := (show ∃ t, u = Value.str x t from r); subst e; exact Xx P w x t
theorem zcB : ∀ {ks : List Key} {us : List Value}, Vals (ks.map kV) us -> ItemsAre (xu P w) ks us
 | [], _, r => by rw [List.map_nil] at r; cases r; exact .nil
 | k :: ks, _, r => by
  rw [List.map_cons] at r
  cases r with
  | cons h t => exact .cons (zbS h) (zcB t)
abbrev KT (H : Hp) : List (List Key × V) -> List (List Key × Addr × Value) -> Prop := Paired λ p q => p.1 = q.1 /\ H q.2.1 = some (.tup (p.1.map kV)) /\ RelV p.2 q.2.2
theorem KT.val {H : Hp} {kvs : List (List Key × V)} {xs : List (List Key × Addr × Value)} (r : KT H kvs xs) (k : List Key) : zdj (Z0 kvs k) ((atKey xs k).map (·.2)) := by
 induction r with
 | nil => exact True.intro
 | @cons p q ps qs h t ih =>
  obtain ⟨h1, _, h2⟩ := h
  by_cases e : p.1 = k
  · have e' : q.1 = k := h1.symm.trans e
    have b : atKey (q :: qs) k = some q.2 := by simp [atKey, List.find?_cons, e']
    rw [zci e, b]; exact h2
  · have e' : ¬ q.1 = k := λ z => e (h1.trans z)
    have b : atKey (q :: qs) k = atKey qs k := by simp [atKey, List.find?_cons, e']
    rw [zbX e, b]; exact ih
theorem KT.repl (r : KT H kvs xs) (k : List Key) (ry : RelV y u) :
 KT H (kvs.map λ kv => if kv.1 = k then (kv.1, y) else kv) (xs.map (putAt k u)) := by
 induction r with
 | nil => exact .nil
 | @cons p q ps qs h t ih =>
  rw [List.map_cons, List.map_cons]
  refine .cons ?_ ih
  obtain ⟨h1, h2, h3⟩ := h
  unfold putAt
  by_cases e : p.1 = k
  · rw [if_pos e, if_pos (h1.symm.trans e)]; exact ⟨h1, h2, ry⟩
  · rw [if_neg e, if_neg (λ z => e (h1.trans z))]; exact ⟨h1, h2, h3⟩
theorem KT.put (r : KT H kvs xs) (k : List Key) (hb : H b = some (.tup (k.map kV))) (ry : RelV y u) :
 KT H (putK kvs k y) (storedH xs k b u) := by
 have e : (kvs.any λ kv => decide (kv.1 = k)) = (atKey xs k).isSome := by
  rw [zeg, (r.val k).isSome_eq, Option.isSome_map]
 unfold putK storedH
 rw [e]
 by_cases q : (atKey xs k).isSome = true
 · rw [if_pos q, if_pos q]; exact r.repl k ry
 · rw [if_neg q, if_neg q]; exact Paired.snoc r ⟨rfl, hb, ry⟩
theorem KT.keeps (r : KT H kvs xs) (ht : ∀ b ys, H b = some (.tup ys) -> H' b = some (.tup ys)) : KT H' kvs xs :=
 Paired.mapP r λ _ _ z => ⟨z.1, ht _ _ z.2.1, z.2.2⟩
section
variable {P : Program} {w : World} {H : Hp} {h : Heap} {a : Addr}
theorem zli (ok : HOk P w H h) (e : Rd H a u) : wI P w H h a u := e.ok ok
theorem zfM (ok : HOk P w H h) (e : Rd H a (.dK kvs)) : kvs.length <= sizeLine /\ (a == sysModules) = false /\ ∃ vs, KV kvs vs /\ h.DictOf (xu P w) a vs :=
 show wI P w H h a (.dK kvs) from zli ok e
theorem zny (ok : HOk P w H h) (e : H a = some (.dK kvs)) : kvs.length <= sizeLine /\ (a == sysModules) = false /\ ∃ vs, KV kvs vs /\ h.DictOf (xu P w) a vs := zfM ok (.inl e)
theorem zdh (ok : HOk P w H h) (e : H a = some (.tup (ks.map kV))) : (tupleKind (xu P w)).is h ks a := by
 obtain ⟨_, its, r, o, h1, h2, n, h3⟩ := (show wI P w H h a (.tup (ks.map kV)) from ok a _ e)
 exact ⟨o, its.toArray, n, h1, h2, h3, by simpa using zcB r⟩
theorem ziP (ok : HOk P w H h) (e : Rd H a (.dT kvs)) : kvs.length <= sizeLine /\ (a == sysModules) = false /\
 ∃ xs, KT H kvs xs /\ h.DictOfH (tupleKind (xu P w)) a xs := by
 obtain ⟨z, y, xs, r, o, es, ep, h1, h2, h3, h4, h5⟩ := (show wI P w H h a (.dT kvs) from zli ok e)
 refine ⟨z, y, xs, r, o, es, ep, h1, h2, h3, h4, λ x hx => ?_, h5⟩
 have all : ∀ {l : List (List Key × V)} {m : List (List Key × Addr × Value)}, KT H l m -> ∀ x ∈ m, (tupleKind (xu P w)).is h x.1 x.2.1 := by
  intro l m q
  induction q with
  | nil => intro x hx; exact nomatch hx
  | @cons p q ps qs hq t ih =>
   intro x hx
   rcases zS.mp hx with e | hx
   · subst e
     exact zdh ok (by rw [<- hq.1]; exact hq.2.1)
   · exact ih x hx
 exact all r x hx
theorem zoc (ok : HOk P w H h) (e : H a = some (.dT kvs)) : kvs.length <= sizeLine /\ (a == sysModules) = false /\
 ∃ xs, KT H kvs xs /\ h.DictOfH (tupleKind (xu P w)) a xs := ziP ok (.inl e)
end
def zgW (H : Hp) (a : Addr) (y : V) (r : Option V) : Prop :=
 (∃ kvs k, Rd H a (.dK kvs) /\ y = kV k /\ r = Z0 kvs k) \/ ∃ kvs k b, Rd H a (.dT kvs) /\ y = .ref b /\ H b = some (.tup (k.map kV)) /\ r = Z0 kvs k
def znd (H : Hp) (a : Addr) (y v : V) (H' : Hp) : Prop :=
 (∃ kvs k, H a = some (.dK kvs) /\ y = kV k /\ kvs.length < sizeLine /\ H' = upd H a (.dK (putK kvs k v))) \/
 ∃ kvs k b, H a = some (.dT kvs) /\ y = .ref b /\ H b = some (.tup (k.map kV)) /\ kvs.length < sizeLine /\ H' = upd H a (.dT (putK kvs k v))
theorem zgW.t {H : Hp} {a b : Addr} {kvs : List (List Key × V)} {k : List Key} (e : H a = some (.dT kvs)) (eb : H b = some (.tup (k.map kV))) : zgW H a (.ref b) (Z0 kvs k) := .inr ⟨kvs, k, b, .inl e, rfl, eb, rfl⟩
section
variable {X : Cx} {pins : List (Addr × Obj)} {σ : St} {H : Hp} {s : Shared} {a : Addr} {y v : V} {u r : Value} {o : Option V} {A : Around} {E : Value -> Shared -> Prop}
theorem Inv.big (I : Inv X pins σ H s) : sysModules < s.heap.objs.size := by
 have h : mainGlobals < s.heap.objs.size := (I.mod.glob.keeps I.bk).lt
 exact Nat.lt_trans (by decide) h
theorem zol (hu : A.units + 1 < cLine) (I : Inv X pins σ H s) (g : zgW H a y o) (ry : RelV y u) (h : ∀ s', Inv X pins σ H s' -> Q (.bool o.isSome) s') :
 wpAny (model X.prog X.w) A (compareOp .In u (.ref a)) Q E s := by
 rcases g with ⟨kvs, k, e, ey, l⟩ | ⟨kvs, k, b, e, ey, eb, l⟩
 · subst ey
   obtain ⟨z, hd, vs, rel, dd⟩ := zfM I.hok e
   refine wpAny_in_of (zbS ry) hd dd.mapOf ?_
   rw [<- (rel.val k).isSome_eq, <- l]
   exact h _ (I.tok _)
 · subst ey
   cases (show u = Value.ref b from ry)
   obtain ⟨z, hd, xs, rel, dd⟩ := ziP I.hok e
   refine wpAny_in_heap (tupleKind_room_in1 hu) (zdh I.hok eb) hd dd ?_
   have q := (rel.val k).isSome_eq
   rw [Option.isSome_map] at q
   rw [<- q, <- l]
   exact h _ (I.tok _)
theorem zkv (hu : A.units + 1 < cLine) (I : Inv X pins σ H s) (g : zgW H a y o) (ry : RelV y u) (h : ∀ s', Inv X pins σ H s' -> Q (.bool (!o.isSome)) s') :
 wpAny (model X.prog X.w) A (compareOp .NotIn u (.ref a)) Q E s := by
 rcases g with ⟨kvs, k, e, ey, l⟩ | ⟨kvs, k, b, e, ey, eb, l⟩
 · subst ey
   obtain ⟨z, hd, vs, rel, dd⟩ := zfM I.hok e
   refine wpAny_notIn_of (zbS ry) hd dd.mapOf ?_
   rw [<- (rel.val k).isSome_eq, <- l]
   exact h _ (I.tok _)
 · subst ey
   cases (show u = Value.ref b from ry)
   obtain ⟨z, hd, xs, rel, dd⟩ := ziP I.hok e
   refine wpAny_notIn_heap (tupleKind_room_in1 hu) (zdh I.hok eb) hd dd ?_
   have q := (rel.val k).isSome_eq
   rw [Option.isSome_map] at q
   rw [<- q, <- l]
   exact h _ (I.tok _)
theorem zgl (I : Inv X pins σ H s) (mu : Mut (H a)) (hs : Heap.SameBut a s.heap h') (he : ∃ q, h'.get? a = some q) (new : wI X.prog X.w (upd H a ob) h' a ob) :
 Inv X pins σ (upd H a ob) { s with heap := h', toks := t' } :=
 I.write (x := a) (e := a) mu (.inl rfl) (λ b q hb z => (hs.2 b hb).trans z) he new
theorem zmU (z : kvs.length <= sizeLine) (hd : (a == sysModules) = false) (rel : KV kvs vs) (dd : h'.DictOf (xu P w) a vs) :
 wI P w H' h' a (.dK kvs) := ⟨z, hd, vs, rel, dd⟩
theorem zgQ (hu : A.units + 1 < cLine) (I : Inv X pins σ H s) (g : znd H a y v H') (ry : RelV y u) (rv : RelV v r) (h : ∀ s', Inv X pins σ H' s' -> Q () s') :
 wpAny (model X.prog X.w) A (setItem (.ref a) u r) Q E s := by
 rcases g with ⟨kvs, k, e, ey, l, eH⟩ | ⟨kvs, k, b, e, ey, eb, l, eH⟩
 · subst ey eH
   obtain ⟨z, hd, vs, rel, dd⟩ := zny I.hok e
   have hz : vs.length <= sizeLine := by rw [<- rel.length]; exact z
   have hl : (putK kvs k v).length <= sizeLine := by have := zaQ kvs k v; omega
   refine wpAny_setItem_pairs (hsz := hz) (zbS ry) dd λ h' dd' hs => h _ ?_
   have he : ∃ q, h'.get? a = some q := let ⟨q, _, _, hq, _⟩ := dd'; ⟨q, hq⟩
   exact zgl I (by rw [e]; exact True.intro) hs he (zmU hl hd (rel.put k rv) dd')
 · subst ey eH
   cases (show u = Value.ref b from ry)
   obtain ⟨z, hd, xs, rel, dd⟩ := zoc I.hok e
   have hz : xs.length <= sizeLine := by rw [<- Paired.length rel]; exact z
   have hl : (putK kvs k v).length <= sizeLine := by have := zaQ kvs k v; omega
   refine wpAny_setItem_heap (hsz := hz) (tupleKind_room_in1 hu) (zdh I.hok eb) dd λ h' dd' hs => h _ ?_
   obtain ⟨q, es, ep, hq, h2, h3, h4, _, h5⟩ := dd'
   refine zgl I (by rw [e]; exact True.intro) hs ⟨q, hq⟩ ⟨hl, hd, _, (rel.put k eb rv).keeps λ c ys ec => ?_, q, es, ep, hq, h2, h3, h4, h5⟩
   rw [zX (znQ ec e (λ z => nomatch z))]
   exact ec
end
def znz (td ty tv : TE) : TS := λ D σ H => tv σ H λ v H1 => td σ H1 λ x H2 => ty σ H2 λ y H3 => ∃ a H4, x = .ref a /\ znd H3 a y v H4 /\ D.nx σ H4
section
variable {X : Cx} {o i e value : Expr} {pos pos' tpos : Pos} {td ty tv : TE}
theorem zgc (hu : X.A.units + 1 < cLine) (ho : PE X o td) (hi : PE X i ty) (hv : PE X value tv) (hs : swapsWith value (some (.Subscript o i pos')) pos.line X.env = pure false) :
 PS X (.Assign [.Subscript o i pos'] value pos) (znz td ty tv) := by
 intro pins s σ H D I h
 refine wpAny_Assign_Subscript (thn (hv pins s σ H _ I h) λ r s1 ⟨v, H1, I1, rv, q1⟩ => thn (ho pins s1 σ H1 _ I1 q1) λ u s2 ⟨x, H2, I2, rx, q2⟩ => thn (hi pins s2 σ H2 _ I2 q2) λ iv s3 ⟨y, H3, I3, ry, a, H4, ex, g, q3⟩ => ?_) hs
 subst ex
 obtain rfl : u = Value.ref a := rx
 exact zgQ hu I3 g ry rv λ s4 I4 => ⟨σ, H4, I4, q3⟩
end
theorem zhN (h : Heap) (hb : sysModules < h.objs.size) : wI P w H (h.push { cls := .type "dict", data := .dict #[] }) h.objs.size (.dT []) :=
 ⟨Nat.zero_le _, beq_eq_false_iff_ne.mpr (Ne.symm (zzN hb)), [], .nil, _, #[], 0, Heap.get?_push_size _ rfl, ⟨rfl, rfl, rfl⟩, rfl, rfl, List.nodup_nil⟩
def zmn : TE := λ _ H Q => ∀ p, H p = none -> Q (.ref p) (upd H p (.dT []))
section
variable {X : Cx} {pos : Pos}
theorem ziB : PE X (.Dict [] [] pos) zmn := λ pins s σ H Q I h =>
 wpAny_Dict_empty ⟨.ref s.heap.objs.size, _, I.laid (a := s.heap.objs.size) (o := .dT []) (t' := s.toks) (λ _ _ q => Heap.get?_push_of_some _ q) (zzK _) (zhN s.heap I.big), rfl, h _ (I.hok.fresh (zzK _))⟩
end
structure M1 (X : Cx) (o : Expr) (m : Str) (apos : Pos) (e : Expr) (cpos : Pos) : Prop where
 base : attributeBase o m X.env (eval o X.env) = eval o X.env
 few : ((backTo cpos (starEach [e] X.env)).all (λ x => !x.1) && (backToKw cpos (keywordEach [] X.env)).all (λ x => x.1.isSome)
  && decide (([e] : List Expr).length + ([] : List Keyword).length + (if ([] : List Keyword).isEmpty then 0 else 1) < 30)) = true
 line : (apos.endLine == cpos.line) = true
 trees : backTo cpos (starEach [e] X.env) = [(false, eval e X.env)]
structure M2 (X : Cx) (o : Expr) (m : Str) (apos : Pos) (e f : Expr) (cpos : Pos) : Prop where
 base : attributeBase o m X.env (eval o X.env) = eval o X.env
 few : ((backTo cpos (starEach [e, f] X.env)).all (λ x => !x.1) && (backToKw cpos (keywordEach [] X.env)).all (λ x => x.1.isSome)
  && decide (([e, f] : List Expr).length + ([] : List Keyword).length + (if ([] : List Keyword).isEmpty then 0 else 1) < 30)) = true
 line : (apos.endLine == cpos.line) = true
 trees : backTo cpos (starEach [e, f] X.env) = [(false, eval e X.env), (false, eval f X.env)]
end L2
namespace HT
open PySem PyProof.Rows
section
variable {prog : Program} {w : World} {A : Around} {E : Value -> Shared -> Prop} {s : Shared}
theorem zkq (ht : IsTup s.heap t vs.toArray) (hb : IsTup s.heap b ws.toArray) (hv : vs ≠ [])
 (h1 : ws = [] -> Q (.ref t) s) (h2 : ws ≠ [] -> Q (.ref s.heap.objs.size) { s with heap := s.heap.push { cls := .type "tuple", data := .seq (vs ++ ws).toArray } })
 (hsz : vs.length + ws.length <= sizeLine) : wpAny (model prog w) A (binaryOp .Add (.ref t) (.ref b)) Q E s := by
 obtain ⟨⟨cls, dd, data, sl⟩, ho, hc, n, hd⟩ := id ht
 obtain ⟨⟨cls2, dd2, data2, sl2⟩, ho2, hc2, n2, hd2⟩ := id hb
 simp only at hc hd hc2 hd2
 subst hc hd hc2 hd2
 have e : vs.toArray ++ ws.toArray = (vs ++ ws).toArray := by simp
 by_cases hw : ws = []
 · exact concat_meets ⟨_, ho, rfl⟩ ⟨_, ho2, rfl⟩ noFill_tuple_add seq_tuple_add PySem.F.slot_tuple_add PySem.F.entry_tuple_add (PySem.F.args_tuple_add_2 _ _)
    (tuple_addW1 t b vs.toArray ws.toArray n n2 dd dd2 sl sl2 (by simpa using hv) (by simp [hw])) ⟨ho, ho2, h1 hw⟩
 · refine concat_meets ⟨_, ho, rfl⟩ ⟨_, ho2, rfl⟩ noFill_tuple_add seq_tuple_add PySem.F.slot_tuple_add PySem.F.entry_tuple_add (PySem.F.args_tuple_add_2 _ _)
    (tuple_addW2 t b vs.toArray ws.toArray n n2 dd dd2 sl sl2 (by simpa using hv) (by simpa using hw) (by rw [zzE, zzE]; exact hsz)) ⟨ho, ho2, ?_⟩
   rw [e]
   exact h2 hw
def sIx (n d : Nat) : Option Int -> Nat
 | none => d
 | some v => if v < 0 then (v + (n : Int)).toNat else min v.toNat n
theorem zeV (n d : Nat) : sIx n d none = d := rfl
theorem zbn (n d k : Nat) : sIx n d (some (k : Int)) = min k n := by
 show (if (k : Int) < 0 then ((k : Int) + (n : Int)).toNat else min (k : Int).toNat n) = min k n
 rw [if_neg (by omega), Int.toNat_natCast]
theorem zlZ (n d : Nat) (hd : d <= n) (o : Option Int) : sIx n d o <= n := by
 cases o with
 | none => exact hd
 | some v =>
  show (if v < 0 then (v + (n : Int)).toNat else min v.toNat n) <= n
  by_cases hv : v < 0
  · rw [if_pos hv]; omega
  · rw [if_neg hv]; exact Nat.min_le_right _ _
theorem zge (v : Int) (n d : Nat) : (if v < 0 then max (v + (n : Int)) 0 else min v (n : Int)) = ((sIx n d (some v) : Nat) : Int) := by
 show (if v < 0 then max (v + (n : Int)) 0 else min v (n : Int)) = (((if v < 0 then (v + (n : Int)).toNat else min v.toNat n) : Nat) : Int)
 by_cases hv : v < 0
 · simp only [if_pos hv]; omega
 · simp only [if_neg hv]; omega
theorem zfp (lo hi : Option Int) (n : Nat) : Builtin.Slice.sliceAdjust lo hi 1 (n : Int) = (((sIx n 0 lo : Nat) : Int), ((sIx n n hi : Nat) : Int)) := by
 have h1 : ¬ ((1 : Int) < 0) := by omega
 unfold Builtin.Slice.sliceAdjust
 simp only [h1, if_false]
 refine Prod.ext ?_ ?_
 · cases lo with
   | none => rfl
   | some v => exact zge v n 0
 · cases hi with
   | none => rfl
   | some v => exact zge v n n
theorem zfe (i j : Nat) : Builtin.Slice.slicePlaces (i : Int) (j : Int) 1 = j - i := by
 unfold Builtin.Slice.slicePlaces
 have h1 : (1 : Int) > 0 := by omega
 simp only [h1, if_true, Int.ediv_one]
 split <;> omega
theorem zcf (p : IsPart v o) (h : Q o s) : wpAny (model prog w) A (Builtin.Slice.slicePartIndex v) Q E s := by
 cases p with
 | none => exact slicePart_none h
 | int i t => exact slicePart_int h
theorem zan {sl : Addr} {vl vu : Value} {lo hi : Option Int} {n : Nat} {Q : Int × Int × Nat -> Shared -> Prop} (hs : s.heap.IsSliceOf sl vl vu .none) (pl : IsPart vl lo) (pu : IsPart vu hi)
 (h : Q (((sIx n 0 lo : Nat) : Int), 1, sIx n n hi - sIx n 0 lo) s) : wpAny (model prog w) A (Builtin.Slice.sliceApplied (.ref sl) (pure (n : Int))) Q E s := by
 obtain ⟨os, hos, hcs, hds⟩ := id hs
 unfold Builtin.Slice.sliceApplied Builtin.Slice.sliceFields
 refine wpAny_bind (wpAny_bind (wpAny_field hos hds (x := vl) rfl (wpAny_bind (wpAny_field hos hds (x := vu) rfl (wpAny_bind (wpAny_field hos hds (x := .none) rfl (wpAny_pure ?_)))))))
 refine wpAny_bind (slicePart_none ?_)
 show wpAny _ _ (if ((1 : Int) == 0) = true then _ else _) _ _ s
 rw [if_neg (by decide)]
 refine wpAny_bind (zcf pl (wpAny_bind (zcf pu (wpAny_bind (wpAny_pure ?_)))))
 show wpAny _ _ (match Builtin.Slice.sliceAdjust lo hi 1 (n : Int) with | (lo, hi) => pure (lo, (1 : Int), Builtin.Slice.slicePlaces lo hi 1)) _ _ s
 rw [zfp lo hi n]
 show wpAny _ _ (pure (((sIx n 0 lo : Nat) : Int), (1 : Int), Builtin.Slice.slicePlaces ((sIx n 0 lo : Nat) : Int) ((sIx n n hi : Nat) : Int) 1)) _ _ s
 rw [zfe]
 exact wpAny_pure h
theorem zhA (xs : Array Value) (i k : Nat) : ((List.range k).filterMap λ (m : Nat) => xs[((i : Int) + (m : Int) * 1).toNat]?).toArray = ((xs.toList.drop i).take k).toArray := by
 have e : (λ (m : Nat) => xs[((i : Int) + (m : Int) * 1).toNat]?) = λ m => xs[i + m]? := by
  funext m
  have : ((i : Int) + (m : Int) * 1).toNat = i + m := by omega
  rw [this]
 rw [e]
 have := pick_run xs i k
 rw [List.filterMap_map] at this
 have e2 : ((λ x => xs[x]?) ∘ λ x => i + x) = λ m => xs[i + m]? := rfl
 rw [e2] at this
 rw [this]
theorem V0 {t sl : Addr} {items : Array Value} {vl vu : Value} {lo hi : Option Int} {Q : Value -> Shared -> Prop} (ht : IsTup s.heap t items) (hs : s.heap.IsSliceOf sl vl vu .none) (pl : IsPart vl lo) (pu : IsPart vu hi)
 (hw : ¬ (sIx items.size 0 lo = 0 /\ sIx items.size items.size hi = items.size))
 (h : Q (.ref s.heap.objs.size) { s with heap := s.heap.push { cls := .type "tuple", data := .seq ((items.toList.drop (sIx items.size 0 lo)).take (sIx items.size items.size hi - sIx items.size 0 lo)).toArray } })
 (hsz : items.size <= sizeLine) : wpAny (model prog w) A (getItem (.ref t) (.ref sl)) Q E s := by
 have htake : sizeOk (.seq ((items.toList.drop (sIx items.size 0 lo)).take (sIx items.size items.size hi - sIx items.size 0 lo)).toArray) := by
  show ((items.toList.drop (sIx items.size 0 lo)).take (sIx items.size items.size hi - sIx items.size 0 lo)).toArray.size <= sizeLine
  rw [zzE, zzP, List.length_drop, Array.length_toList]
  omega
 have hj : sIx items.size items.size hi <= items.size := zlZ _ _ (zzK _) hi
 obtain ⟨os, hos, hcs, hds⟩ := id hs
 have hTs : s.TypeIs (.ref sl) "slice" := ⟨os, hos, hcs⟩
 unfold getItem
 try with_reducible refine wpAny_holding ?_
 first | refine wpAny_bind (wpAny_pure ?_) | skip
 refine wpAny_bind (wpAny_sequenceKey ht.typeIs (by decide) ?_)
 refine wpAny_bind (wpAny_callSpecial?_slot (name := Str.ofString "__getitem__") ht.typeIs PyProof.Rows.slot_tuple_getitem
  (wpAny_call_entry PyProof.Rows.slot_tuple_getitem ht.typeIs entry_tuple_getitem ?_ (args_tuple_getitem _ _)))
 show wpAny _ _ (Builtin.Tuple.tupleItemsOf (.ref t) >>= _) _ _ s
 refine wpAny_bind (tupleItemsOf_ ht ?_)
 refine wpAny_bind (wpAny_typeOf hTs ?_)
 rw [if_pos (by decide)]
 refine wpAny_bind (zan hs pl pu ?_)
 have hno : ¬ ((((sIx items.size 0 lo : Nat) : Int) == 0 && (1 : Int) == 1 && (sIx items.size items.size hi - sIx items.size 0 lo) == items.size) = true) := by
  intro q
  rw [Bool.and_eq_true, Bool.and_eq_true] at q
  have q1 : ((sIx items.size 0 lo : Nat) : Int) = 0 := eq_of_beq q.1.1
  have q2 : sIx items.size items.size hi - sIx items.size 0 lo = items.size := eq_of_beq q.2
  exact hw ⟨by omega, by omega⟩
 show wpAny _ _ (if (((sIx items.size 0 lo : Nat) : Int) == 0 && (1 : Int) == 1 && (sIx items.size items.size hi - sIx items.size 0 lo) == items.size) = true then _ else _) _ _ s
 rw [if_neg hno, zhA]
 first
  | exact wpAny_bind (m := Builtin.Tuple.tupleExact _) (wpAny_newObj_type (wpAny_pure ⟨_, rfl, wpAny_pure h⟩) htake)
  | exact wpAny_bind (m := Builtin.Tuple.tupleExact _) (wpAny_newObj_type (wpAny_bind (wpAny_pure (wpAny_pure ⟨_, rfl, wpAny_pure h⟩))) htake)
  | exact wpAny_bind (wpAny_bind (m := Builtin.Tuple.tupleExact _) (wpAny_newObj_type (wpAny_pure (wpAny_pure ⟨_, rfl, wpAny_pure h⟩)) htake))
  | exact wpAny_bind (wpAny_bind (m := Builtin.Tuple.tupleExact _) (wpAny_newObj_type (wpAny_pure ⟨_, rfl, wpAny_pure h⟩) htake))
end
end HT
namespace L2
open PySem PySem.Spec PyProof.Rows
abbrev TO := St -> Hp -> (Option Int -> Hp -> Prop) -> Prop
def PO (X : Cx) (e : Option Expr) (t : TO) : Prop :=
 ∀ (pins : List (Addr × Obj)) (s : Shared) (σ : St) (H : Hp) (Q : Option Int -> Hp -> Prop), Inv X pins σ H s -> t σ H Q ->
  wpAny (model X.prog X.w) X.A (evalPart e X.env) (λ u s' => ∃ o H', Inv X pins σ H' s' /\ IsPart u o /\ Q o H') X.xe s
def zjz : TO := λ _ H Q => Q none H
def znm (t : TE) : TO := λ σ H Q => t σ H λ x H1 => ∃ i, x = .int i /\ Q (some i) H1
theorem intsAre_of : ∀ {us : List Value}, Vals (ns.map V.int) us -> IntsAre us ns := by
 induction ns with
 | nil => intro us r; rw [List.map_nil] at r; cases r; exact .nil
 | cons n ns ih =>
  intro us r
  rw [List.map_cons] at r
  cases r with
  | cons r1 r2 =>
   obtain ⟨t, e⟩ := r1
   subst e
   exact .cons n t (ih r2)
section
variable {X : Cx} {e : Expr} {te : TE} {lo hi : Option Expr} {tl th : TO} {pos p2 : Pos}
theorem zka : PO X none zjz := by
 intro pins s σ H Q I h
 rw [evalPart_none]
 exact wpAny_pure ⟨none, H, I, .none, h⟩
theorem zkK (h : PE X e te) : PO X (some e) (znm te) := by
 intro pins s σ H Q I hw
 rw [evalPart_some]
 refine thn (h pins s σ H _ I hw) λ u s1 ⟨x, H1, I1, r1, q1⟩ => ?_
 obtain ⟨i, rfl, q⟩ := q1
 obtain ⟨t, rfl⟩ := r1
 exact ⟨some i, H1, I1, .int i t, q⟩
def SlR (X : Cx) (r : V -> Option Int -> Option Int -> Hp -> VK -> Prop) : Prop :=
 ∀ (pins : List (Addr × Obj)) (s : Shared) (σ : St) (H : Hp) (x : V) (v vl vu : Value) (lo hi : Option Int) (sl : Addr) (Q : VK), Inv X pins σ H s -> RelV x v -> s.heap.IsSliceOf sl vl vu .none -> IsPart vl lo -> IsPart vu hi -> r x lo hi H Q ->
  ∃ T id, typeLookup (.type T) "__getitem__" = pure (some (.builtin id)) /\ s.TypeIs v T /\ wpAny (model X.prog X.w) X.A (getItem v (.ref sl)) (EP X pins σ Q) X.xe s
def tSl (r : V -> Option Int -> Option Int -> Hp -> VK -> Prop) (te : TE) (tl th : TO) : TE := λ σ H Q => te σ H λ x H1 => tl σ H1 λ l H2 => th σ H2 λ u H3 => r x l u H3 Q
theorem zhB (hr : SlR X r) (he : PE X e te) (hl : PO X lo tl) (hu : PO X hi th) : PE X (.Subscript e (.Slice lo hi none p2) pos) (tSl r te tl th) := by
 intro pins s σ H Q I h
 refine Subscript_ (thn (he pins s σ H _ I h) λ v s1 ⟨x, H1, I1, r1, q1⟩ => ?_)
 refine wpAny_Slice (thn (hl pins s1 σ H1 _ I1 q1) λ vl s2 ⟨l, H2, I2, pl, q2⟩ => thn (hu pins s2 σ H2 _ I2 q2) λ vu s3 ⟨u, H3, I3, pu, q3⟩ => ?_)
 rw [evalPart_none]
 refine wpAny_pure ?_
 have I4 : Inv X pins σ H3 { s3 with heap := s3.heap.push { cls := .type "slice", data := .fields #[vl, vu, .none] } } := I3.kept (t' := s3.toks) λ b ob q => Heap.get?_push_of_some _ q
 obtain ⟨T, id, hT, ht, hg⟩ := hr pins { s3 with heap := s3.heap.push { cls := .type "slice", data := .fields #[vl, vu, .none] } } σ H3 x v vl vu l u s3.heap.objs.size Q I4 r1 (Heap.IsSliceOf.new ..) pl pu q3
 show wpAny (model X.prog X.w) X.A (subscriptTail e (.Slice lo hi none p2) v (.ref s3.heap.objs.size)) (EP X pins σ Q) X.xe { s3 with heap := s3.heap.push { cls := .type "slice", data := .fields #[vl, vu, .none] } }
 exact tail_any (ops := [.ref s3.heap.objs.size, v]) ht hT hg (by with_unfolding_all rfl)
def zeB (xs : List V) (lo hi : Option Int) : List V := (xs.drop (HT.sIx xs.length 0 lo)).take (HT.sIx xs.length xs.length hi - HT.sIx xs.length 0 lo)
theorem zaP (xs : List V) (lo hi : Option Int) : (zeB xs lo hi).length <= xs.length := by
 unfold zeB
 rw [zzP, List.length_drop]
 omega
def zoY (K : zC) : V -> Option Int -> Option Int -> Hp -> VK -> Prop := λ x lo hi H Q => ∃ a xs, x = .ref a /\ SqT K H a xs /\
 ¬ (HT.sIx xs.length 0 lo = 0 /\ HT.sIx xs.length xs.length hi = xs.length) /\ ∀ p, H p = none -> Q (.ref p) (upd H p (.tup (zeB xs lo hi)))
theorem zls : SlR X (zoY X.K) := by
 intro pins s σ H x v vl vu lo hi sl Q I rx hs pl pu h
 obtain ⟨a, xs, rfl, hx, hw, q⟩ := h
 cases rx
 obtain ⟨its, r, ht, hz⟩ := I.tuple hx
 have hlen : its.toArray.size = xs.length := by rw [zzE]; exact r.length.symm
 refine ⟨"tuple", _, PyProof.Rows.slot_tuple_getitem.lookup, ht.typeIs, ?_⟩
 refine HT.V0 ht hs pl pu (by rw [hlen]; exact hw) ?_ (by rw [hlen]; exact hz)
 rw [hlen]
 refine ⟨.ref s.heap.objs.size, _, I.laid (t' := s.toks) (o := .tup (zeB xs lo hi)) (λ b ob q => Heap.get?_push_of_some _ q) (zzK _) ?_, rfl, q _ (I.hok.fresh (zzK _))⟩
 exact ⟨zzL (zaP xs lo hi) hz, _, (r.drop (HT.sIx xs.length 0 lo)).take (HT.sIx xs.length xs.length hi - HT.sIx xs.length 0 lo), IsTup.new _ _⟩
def znT (K : zC) : R2 := λ x y H Q => ∃ a b xs ys, x = .ref a /\ y = .ref b /\ SqT K H a xs /\ SqT K H b ys /\ xs ≠ [] /\ xs.length + ys.length <= sizeLine /\
 (ys = [] -> Q (.ref a) H) /\ (ys ≠ [] -> ∀ p, H p = none -> Q (.ref p) (upd H p (.tup (xs ++ ys))))
theorem Vals.nil_iff (r : Vals xs us) : us = [] ↔ xs = [] := by
 cases r with
 | nil => simp
 | cons _ _ => simp
theorem zko : OpR X (binaryOp .Add) (znT X.K) := by
 intro pins s σ H x y v u Q I rx ry h
 obtain ⟨a, b, xs, ys, rfl, rfl, ha, hb, hx, hz, q1, q2⟩ := h
 cases rx
 cases ry
 obtain ⟨its, r1, p1, _⟩ := I.tuple ha
 obtain ⟨its2, r2, p2, _⟩ := I.tuple hb
 refine HT.zkq p1 p2 (λ z => hx (r1.nil_iff.mp z)) (λ z => ⟨.ref a, H, I, rfl, q1 (r2.nil_iff.mp z)⟩) (λ z => ?_) (by rw [<- r1.length, <- r2.length]; exact hz)
 refine ⟨.ref s.heap.objs.size, _, I.laid (t' := s.toks) (o := .tup (xs ++ ys)) (λ b ob q => Heap.get?_push_of_some _ q) (zzK _) ?_, rfl, q2 (λ w => z (r2.nil_iff.mpr w)) _ (I.hok.fresh (zzK _))⟩
 exact ⟨by rw [zzG]; exact hz, _, r1.append r2, IsTup.new _ _⟩
end
end L2
namespace L2
open PySem PySem.Spec PyProof.Rows
def ixN (n : Nat) (i : Int) : Option Nat := if 0 <= i then (if i < n then some i.toNat else none) else if -(n : Int) <= i then some (i + n).toNat else none
def atI {α : Type} (xs : List α) (i : Int) : Option α := (ixN xs.length i).bind λ j => xs[j]?
theorem zfJ (h : ixN n i = some j) : seqIndex? i n = some j /\ j < n /\ -(n : Int) <= i /\ i < n := by
 unfold ixN at h
 by_cases h0 : 0 <= i
 · rw [if_pos h0] at h
   by_cases h1 : i < n
   · rw [if_pos h1] at h
     have e : i.toNat = j := Option.some.inj h
     exact ⟨by rw [seqIndex_of h0 h1, e], by omega, by omega, h1⟩
   · rw [if_neg h1] at h; cases h
 · rw [if_neg h0] at h
   by_cases h1 : -(n : Int) <= i
   · rw [if_pos h1] at h
     have e : (i + n).toNat = j := Option.some.inj h
     exact ⟨by rw [seqIndex_neg (by omega) h1, e], by omega, h1, by omega⟩
   · rw [if_neg h1] at h; cases h
theorem zdm (h : atI xs i = some v) : ∃ j, seqIndex? i xs.length = some j /\ xs[j]? = some v /\ j < xs.length /\ -(xs.length : Int) <= i /\ i < xs.length := by
 unfold atI at h
 cases e : ixN xs.length i with
 | none => rw [e] at h; cases h
 | some j =>
  rw [e] at h
  obtain ⟨h1, h2, h3, h4⟩ := zfJ e
  exact ⟨j, h1, h, h2, h3, h4⟩
theorem Wk {α : Type} {xs : List α} {j : Nat} {v : α} (h : xs[j]? = some v) : atI xs (j : Int) = some v := by
 have hj : j < xs.length := (zzD.mp h).1
 have e : ixN xs.length (j : Int) = some j := by
  unfold ixN
  rw [if_pos (by omega), if_pos (by omega)]; simp
 unfold atI; rw [e]; exact h
def Vg (b : Expr) : Prop := ∀ o i, subscripted b false o i = operate [o, i] (getItem o i)
def IxR (X : Cx) (r : R2) : Prop :=
 ∀ (value slice : Expr) (pins : List (Addr × Obj)) (s : Shared) (σ : St) (H : Hp) (x y : V) (v u : Value) (Q : VK), Inv X pins σ H s -> RelV x v -> RelV y u -> r x y H Q ->
  subscripted slice false v u = operate [v, u] (getItem v u) -> wpAny (model X.prog X.w) X.A (subscriptTail value slice v u) (EP X pins σ Q) X.xe s
def MtR (X : Cx) (id : String) (r : V -> List V -> Hp -> VK -> Prop) : Prop :=
 ∀ (pins : List (Addr × Obj)) (s : Shared) (σ : St) (H : Hp) (x : V) (xs : List V) (v : Value) (us : List Value) (Q : VK), Inv X pins σ H s -> RelV x v -> Vals xs us -> r x xs H Q ->
  wpAny (model X.prog X.w) X.A (call (.builtin id) (v :: us)) (EP X pins σ Q) X.xe s
section
variable {X : Cx} {a b : Expr} {ta tb : TE} {pos : Pos}
theorem ziX (hr : IxR X r) (ha : PE X a ta) (hb : PE X b tb) (hs : Vg b) : PE X (.Subscript a b pos) (tOp r ta tb) := by
 intro pins s σ H Q I h
 exact Subscript_ (zml ha hb I h λ v u s2 x y H2 I2 rx ry q => hr a b pins s2 σ H2 x y v u Q I2 rx ry q (hs _ _))
def zoH (K : zC) : R2 := λ x y H Q => ∃ p xs i v, x = .ref p /\ y = .int i /\ SqL K H p xs /\ atI xs i = some v /\ Q v H
def zoI (K : zC) : R2 := λ x y H Q => ∃ p xs i v, x = .ref p /\ y = .int i /\ SqT K H p xs /\ atI xs i = some v /\ Q v H
def zoK : R2 := λ x y H Q => ∃ z i c, x = .str z /\ y = .int i /\ z.length <= sizeLine /\ atI z.cps.toList i = some c /\ Q (.str ⟨#[c]⟩) H
theorem zde : IxR X (zoH X.K) := by
 intro value slice pins s σ H x y v u Q I rx ry h hs
 obtain ⟨p, xs, i, z, rfl, rfl, hq, he, q⟩ := h
 cases rx
 obtain ⟨t, rfl⟩ := ry
 obtain ⟨its, r, pl, hz⟩ := I.list hq
 obtain ⟨j, h1, h2, h3, h4, h5⟩ := zdm he
 obtain ⟨w, ew, rw'⟩ := r.get h2
 have hl := r.length
 have hn := W8
 have fin : EP X pins σ Q w s := ⟨z, H, I, rw', q⟩
 by_cases h0 : 0 <= i
 · have hj : i.toNat = j := by
    rw [seqIndex_of h0 h5] at h1
    exact Option.some.inj h1
   exact item_listR pl.isList h0 (by omega) (by rw [hj]; simpa using ew) fin hs
 · have hj : (i + (its.toArray.size : Int)).toNat = j := by
    rw [seqIndex_neg (by omega) h4] at h1
    rw [zzE, <- hl]
    exact Option.some.inj h1
   exact subscriptTail_builtinR (x := w) pl.isList.typeIs slot_list_getitem.lookup
    (wpAny_getItem_list_neg (Q := λ r s' => r = w /\ EP X pins σ Q r s') pl.isList (by omega) (by rw [zzE] <;> omega) (by omega) (by rw [hj]; simpa using ew) ⟨rfl, fin⟩) hs
theorem zlq : IxR X (zoI X.K) := by
 intro value slice pins s σ H x y v u Q I rx ry h hs
 obtain ⟨p, xs, i, z, rfl, rfl, hq, he, q⟩ := h
 cases rx
 obtain ⟨t, rfl⟩ := ry
 obtain ⟨its, r, pl, hz⟩ := I.tuple hq
 obtain ⟨j, h1, h2, h3, h4, h5⟩ := zdm he
 obtain ⟨w, ew, rw'⟩ := r.get h2
 have hl := r.length
 have hn := W8
 have fin : EP X pins σ Q w s := ⟨z, H, I, rw', q⟩
 exact subscriptTail_builtinR (x := w) pl.typeIs slot_tuple_getitem.lookup
  (getItem_tuple (j := j) (Q := λ r s' => r = w /\ EP X pins σ Q r s') pl (by omega) (by omega) (by rw [zzE, <- hl]; exact h1) (by simpa using ew) ⟨rfl, fin⟩) hs
theorem zlw : IxR X zoK := by
 intro value slice pins s σ H x y v u Q I rx ry h hs
 obtain ⟨z, i, c, rfl, rfl, hz, he, q⟩ := h
 obtain ⟨t, rfl⟩ := rx
 obtain ⟨t', rfl⟩ := ry
 obtain ⟨j, h1, h2, h3, h4, h5⟩ := zdm he
 have hl : z.cps.toList.length = z.length := by simp [Str.length]
 rw [hl] at h1 h4 h5
 have hn := W8
 exact tail_any (typeIs_str s z t) slot_str_getitem.lookup (getItem_str (c := c) (by
  have e1 : decide (i < -(2 ^ 63 : Int)) = false := decide_eq_false (by omega)
  have e2 : decide (i ≥ 2 ^ 63) = false := decide_eq_false (by omega)
  rw [e1, e2, Bool.or_false]) (by rw [h1]; simpa using h2) ⟨.str ⟨#[c]⟩, H, I.tok _, ⟨_, rfl⟩, q⟩) hs
theorem zfj (its : List Value) (n j : Nat) (u : Value) : Obj.mapSeq (·.setIfInBounds j u) { cls := .type "list", data := .seq its.toArray n } = { cls := .type "list", data := .seq (its.set j u).toArray n } := by
 simp [Obj.mapSeq]
theorem Inv.lst (I : Inv X pins σ H s) (h : H p = some (.lst xs)) :
 ∃ (its : List Value) (n : Nat), Vals xs its /\ s.heap.get? p = some { cls := .type "list", data := .seq its.toArray n } /\ xs.length <= sizeLine := by
 obtain ⟨z, its, n, r, e⟩ := I.hok p _ h
 exact ⟨its, n, r, e, z⟩
theorem Inv.lstUpd {pins : List (Addr × Obj)} {σ : St} {H : Hp} {s : Shared} {p : Addr} {xs ys : List V} {its its' : List Value} {n n' : Nat} {f : Obj -> Obj} (I : Inv X pins σ H s) (h : H p = some (.lst xs))
 (ho : s.heap.get? p = some { cls := .type "list", data := .seq its.toArray n }) (hf : f { cls := .type "list", data := .seq its.toArray n } = { cls := .type "list", data := .seq its'.toArray n' }) (r : Vals ys its') (hz : ys.length <= sizeLine) (t : Nat) :
 Inv X pins σ (upd H p (.lst ys)) { s with heap := s.heap.update p f, toks := t } := by
 have e : (s.heap.update p f).get? p = some { cls := .type "list", data := .seq its'.toArray n' } := by
  rw [Heap.get?_update_self f ho (by rw [hf] <;> rfl), hf]
 refine I.write (x := p) (e := p) (by rw [h]; trivial) (.inl rfl) (λ b u hb q => (Heap.get?_update_other _ _ (Ne.symm hb)).trans q) ⟨_, e⟩ ?_
 exact ⟨hz, its', n', r, e⟩
def znx : V -> V -> V -> Hp -> (Hp -> Prop) -> Prop := λ o i v H Q => ∃ p xs k j, o = .ref p /\ i = .int k /\ H p = some (.lst xs) /\ ixN xs.length k = some j /\ Q (upd H p (.lst (xs.set j v)))
theorem set_list : znk X znx := by
 intro pins s σ H o i v ov iv u Q I ro ri rv h
 obtain ⟨p, xs, k, j, rfl, rfl, hp, hj, q⟩ := h
 cases ro
 obtain ⟨t, rfl⟩ := ri
 obtain ⟨its, n, r, ho, hz⟩ := I.lst hp
 obtain ⟨h1, h2, h3, h4⟩ := zfJ hj
 have hl := r.length
 have hn := W8
 have I' : Inv X pins σ (upd H p (.lst (xs.set j v))) { s with heap := s.heap.update p (Obj.mapSeq (·.setIfInBounds j u)) } :=
  I.lstUpd hp ho (zfj its n j u) (r.set rv j) (by rw [zzR]; exact hz) s.toks
 by_cases h0 : 0 <= k
 · have hk : k.toNat = j := by
    rw [seqIndex_of h0 h4] at h1
    exact Option.some.inj h1
   exact PySem.W.ki_setAt ho h0 (by omega) (by rw [zzE, <- hl]; exact h4) (by rw [hk]; exact ⟨_, I', q⟩)
 · have hk : (k + (its.toArray.size : Int)).toNat = j := by
    rw [seqIndex_neg (by omega) h3] at h1
    rw [zzE, <- hl]
    exact Option.some.inj h1
   exact PySem.W.ki_setBack ho (by omega) (by rw [zzE, <- hl]; exact h3) (by omega) (by rw [hk]; exact ⟨_, I', q⟩)
theorem zcR (lo hi : Option Int) (n : Nat) : (sliceBounds lo hi none n).1 = ((HT.sIx n 0 lo : Nat) : Int) /\ (sliceBounds lo hi none n).2.1 = ((HT.sIx n n hi : Nat) : Int) /\ (sliceBounds lo hi none n).2.2 = 1 := by
 refine ⟨?_, ?_, rfl⟩
 · cases lo with
   | none => simp [sliceBounds, HT.sIx]
   | some i =>
    simp only [sliceBounds, HT.sIx, Option.getD_none, show (1 : Int) > 0 by decide, if_true]
    by_cases h : i < 0
    · simp only [h, if_true] <;> omega
    · simp only [h, if_false] <;> omega
 · cases hi with
   | none => simp [sliceBounds, HT.sIx]
   | some i =>
    simp only [sliceBounds, HT.sIx, Option.getD_none, show (1 : Int) > 0 by decide, if_true]
    by_cases h : i < 0
    · simp only [h, if_true] <;> omega
    · simp only [h, if_false] <;> omega
theorem zcm (its : List Value) (lo hi : Option Int) : slicePick its.toArray lo hi none = ((its.drop (HT.sIx its.length 0 lo)).take (HT.sIx its.length its.length hi - HT.sIx its.length 0 lo)).toArray := by
 obtain ⟨h1, h2, h3⟩ := zcR lo hi its.toArray.size
 unfold slicePick
 rw [h1, h2, h3]
 simp only [sliceRange_one, pick_run, zzE] <;> rfl
def zoS (K : zC) : V -> Option Int -> Option Int -> Hp -> VK -> Prop := λ x lo hi H Q => ∃ a xs, x = .ref a /\ SqL K H a xs /\ ∀ p, H p = none -> Q (.ref p) (upd H p (.lst (zeB xs lo hi)))
theorem zkQ : SlR X (zoS X.K) := by
 intro pins s σ H x v vl vu lo hi sl Q I rx hs pl pu h
 obtain ⟨a, xs, rfl, hx, q⟩ := h
 cases rx
 obtain ⟨its, r, ht, hz⟩ := I.list hx
 have hlen := r.length
 refine ⟨"list", _, slot_list_getitem.lookup, ht.isList.typeIs, ?_⟩
 refine wpAny_getItem_list_slice ht.isList hs pl pu .none (by simp) ?_ (by rw [zzE] <;> omega)
 rw [zcm, <- hlen]
 refine ⟨.ref s.heap.objs.size, _, I.laid (t' := s.toks) (o := .lst (zeB xs lo hi)) (λ b ob q => Heap.get?_push_of_some _ q) (zzK _) ?_, rfl, q _ (I.hok.fresh (zzK _))⟩
 exact ⟨zzL (zaP xs lo hi) hz, _, 0, (r.drop (HT.sIx xs.length 0 lo)).take (HT.sIx xs.length xs.length hi - HT.sIx xs.length 0 lo), Heap.get?_push_size _ rfl⟩
theorem Vn : zaF X (.builtin "len") (λ xs H Q => ∃ p ys, xs = [.ref p] /\ (SqL X.K H p ys \/ SqT X.K H p ys) /\ Q (.int ys.length) H) := by
 intro pins s σ H xs us Q I r h
 obtain ⟨p, ys, rfl, hq, q⟩ := h
 obtain ⟨u, rfl, rx⟩ := vals1 r
 cases rx
 have hn := W8
 rcases hq with hq | hq
 · obtain ⟨its, r', pl, hz⟩ := I.list hq
   have hlen := r'.length
   exact Calls.call_len_list pl.isList (by simp only [zzE] <;> omega) ⟨.int ys.length, H, I.tok _, ⟨s.toks + 1, by rw [zzE, hlen]⟩, q⟩
 · obtain ⟨its, r', pl, hz⟩ := I.tuple hq
   have hlen := r'.length
   exact len_tuple pl (by simp only [zzE] <;> omega) ⟨.int ys.length, H, I.tok _, ⟨s.toks + 1, by rw [zzE, hlen]⟩, q⟩
theorem zdJ : zaF X (.builtin "len") (λ xs H Q => ∃ z, xs = [.str z] /\ z.length <= sizeLine /\ Q (.int z.length) H) := by
 intro pins s σ H xs us Q I r h
 obtain ⟨z, rfl, hz, q⟩ := h
 obtain ⟨u, rfl, t, rfl⟩ := vals1 r
 have hn := W8
 exact len_str (by omega) ⟨.int z.length, H, I.tok _, ⟨_, rfl⟩, q⟩
theorem Vl : zaF X (.type "list") (λ xs H Q => ∃ p ys, xs = [.ref p] /\ (SqL X.K H p ys \/ SqT X.K H p ys) /\ ∀ l, H l = none -> Q (.ref l) (upd H l (.lst ys))) := by
 intro pins s σ H xs us Q I r h
 obtain ⟨p, ys, rfl, hq, q⟩ := h
 obtain ⟨u, rfl, rx⟩ := vals1 r
 cases rx
 have fin : ∀ (its : List Value), Vals ys its -> ys.length <= sizeLine -> ∀ (h' : Heap) (c' : Nat), (∀ b o', s.heap.get? b = some o' -> h'.get? b = some o') ->
  h'.get? s.heap.objs.size = some { cls := .type "list", dict := none, data := .seq its.toArray c', slots := #[] } -> EP X pins σ Q (.ref s.heap.objs.size) { s with heap := h' } := λ its r' hz h' c' kp e =>
  ⟨.ref s.heap.objs.size, _, I.laid (t' := s.toks) kp (zzK _) (show wI X.prog X.w _ h' _ (.lst ys) from ⟨hz, its, c', r', e⟩), rfl, q _ (I.hok.fresh (zzK _))⟩
 rcases hq with hq | hq
 · obtain ⟨its, r', pl, hz⟩ := I.list hq
   have hlen := r'.length
   obtain ⟨o, ho, hc, n, hd⟩ := pl.isList
   exact call_list_seq p (.inl rfl) ho hc hd (λ h' c' kp e => fin its r' hz h' c' kp e) (by simp only [zzE] <;> omega)
 · obtain ⟨its, r', pl, hz⟩ := I.tuple hq
   have hlen := r'.length
   obtain ⟨o, ho, hc, n, hd⟩ := pl
   exact call_list_seq p (.inr rfl) ho hc hd (λ h' c' kp e => fin its r' hz h' c' kp e) (by simp only [zzE] <;> omega)
def tyV (K : zC) (T : String) (x : V) (H : Hp) : Prop := match x with
 | .str _ => T = "str"
 | .int _ => T = "int"
 | .ref p => (T = "list" /\ ∃ xs, SqL K H p xs) \/ (T = "tuple" /\ ∃ o, K.lookup p = some o /\ o.cls = .type "tuple" /\ o.dict = none) \/
  (T = "dict" /\ ((∃ kvs, H p = some (.dK kvs)) \/ ∃ kvs, H p = some (.dT kvs))) \/ (T = "set" /\ ∃ S n, H p = some (.set S n))
 | _ => False
theorem zlV (I : Inv X pins σ H s) (r : RelV x v) (ty : tyV X.K T x H) :
 s.TypeIs v T /\ ∀ a, v = .ref a -> ∃ ob, s.heap.get? a = some ob /\ ob.dict = none := by
 cases x with
 | str z =>
  obtain ⟨t, rfl⟩ := r
  cases (show T = "str" from ty)
  exact ⟨typeIs_str s z t, λ _ e => nomatch e⟩
 | int i =>
  obtain ⟨t, rfl⟩ := r
  cases (show T = "int" from ty)
  exact ⟨typeIs_int s i t, λ _ e => nomatch e⟩
 | ref p =>
  cases r
  rcases ty with ⟨rfl, xs, hq⟩ | ⟨rfl, o, hk, hc, hd⟩ | ⟨rfl, hk⟩ | ⟨rfl, S, n, hk⟩
  · obtain ⟨its, _, pl, _⟩ := I.list hq
    refine ⟨pl.isList.typeIs, λ a e => ?_⟩
    cases e
    obtain ⟨o, n, e, c, hd, _⟩ := pl
    exact ⟨o, e, hd⟩
  · refine ⟨⟨o, I.kIn p o hk, hc⟩, λ a e => ?_⟩
    cases e
    exact ⟨o, I.kIn _ o hk, hd⟩
  · have z : ∃ o, s.heap.get? p = some o /\ o.ExactDict := by
     rcases hk with ⟨kvs, hk⟩ | ⟨kvs, hk⟩
     · obtain ⟨_, _, _, _, o, _, _, e, ex, _⟩ := I.hok p _ hk
       exact ⟨o, e, ex⟩
     · obtain ⟨_, _, _, _, o, _, _, e, ex, _⟩ := I.hok p _ hk
       exact ⟨o, e, ex⟩
    obtain ⟨o, e, ex⟩ := z
    refine ⟨⟨o, e, ex.1⟩, λ a e2 => ?_⟩
    cases e2
    exact ⟨o, e, ex.2.1⟩
  · obtain ⟨o, _, _, _, e, ex, _⟩ := I.hok p _ hk
    refine ⟨⟨o, e, ex.1⟩, λ a e2 => ?_⟩
    cases e2
    exact ⟨o, e, ex.2.1⟩
 | _ => exact False.elim ty
def tBM (K : zC) (T : String) (r : V -> List V -> Hp -> VK -> Prop) (to : TE) (t : TA) : TE := λ σ H Q => to σ H λ x H1 => tyV K T x H1 /\ t σ H1 λ xs H2 => r x xs H2 Q
variable {o e : Expr} {es : List Expr} {to : TE} {t : TA} {name : Str} {apos cpos : Pos} {T id : String} {r : V -> List V -> Hp -> VK -> Prop}
theorem zne (pa : PlainAttrs T) (slot : Slot T name id) (hty : typeOf (.builtin id) = pure (.type "method_descriptor")) (hm : MtR X id r) (ho : PE X o to) (ha : PA X (e :: es) t)
 (hbase : attributeBase o name X.env (eval o X.env) = eval o X.env := by rfl)
 (hfew : ((backTo cpos (starEach (e :: es) X.env)).all (λ x => !x.1) && (backToKw cpos (keywordEach [] X.env)).all (λ x => x.1.isSome)
  && decide ((e :: es).length + ([] : List Keyword).length + (if ([] : List Keyword).isEmpty then 0 else 1) < 30)) = true := by rfl)
 (hline : (apos.endLine == cpos.line) = true := by rfl) (hs : starEach (e :: es) X.env = (false, eval e X.env) :: starEach es X.env := by rfl) (hplain : (backTo cpos (starEach es X.env)).any (·.1) = false := by rfl) :
 PE X (.Call (.Attribute o name apos) (e :: es) [] cpos) (tBM X.K T r to t) := by
 intro pins s σ H Q I h
 refine wpAny_Call_method_late hbase hfew hline rfl (thn (ho pins s σ H _ I h) λ v s1 ⟨x, H1, I1, r1, ty, q1⟩ => ?_)
 obtain ⟨h1, h2⟩ := zlV I1 r1 ty
 refine ⟨T, id, pa, slot, hty, h1, h2, ?_⟩
 have hA := ha cpos pins s1 σ H1 _ I1 q1
 rw [hs] at hA ⊢
 refine Calls.callWith_builtin (by show (false || (backTo cpos (starEach es X.env)).any (·.1)) = false; rw [hplain] <;> rfl) (Calls.evalArgs_plain ?_)
 exact thn hA λ us s2 ⟨vs, H2, I2, r2, q2⟩ => hm pins s2 σ H2 x vs v us Q I2 r1 r2 q2
end
end L2
namespace L2
open PySem PySem.Spec PyProof.Rows
def MtM (X : Cx) (id : String) (r : V -> List V -> Hp -> VK -> Prop) : Prop :=
 ∀ (pins : List (Addr × Obj)) (s : Shared) (σ : St) (H : Hp) (x : V) (xs : List V) (v : Value) (us : List Value) (Q : VK), Inv X pins σ H s -> RelV x v -> Vals xs us -> r x xs H Q ->
  wpAny (model X.prog X.w) X.A (call (.builtin id) (v :: us)) (EP X pins σ Q) X.xe s
theorem Vals.one : ∀ {x : V} {us : List Value}, Vals [x] us -> ∃ u, us = [u] /\ RelV x u
 | _, _, .cons r .nil => ⟨_, rfl, r⟩
theorem Vals.eraseIdx : ∀ {xs : List V} {us : List Value} (i : Nat), Vals xs us -> Vals (xs.eraseIdx i) (us.eraseIdx i)
 | _, _, _, .nil => .nil
 | _, _, 0, .cons _ t => t
 | _, _, i + 1, .cons r t => .cons r (Vals.eraseIdx i t)
theorem Vals.rep (h : Vals xs us) : ∀ k : Nat, Vals (List.replicate k xs).flatten (List.replicate k us).flatten
 | 0 => .nil
 | k + 1 => by
  rw [List.replicate_succ, List.replicate_succ, List.flatten_cons, List.flatten_cons]
  exact Vals.append h (Vals.rep h k)
theorem zcJ : ∀ (l : List α) (i : Nat), (l.eraseIdx i).length <= l.length
 | [], _ => zzK _
 | _ :: _, 0 => Nat.le_succ _
 | _ :: r, i + 1 => Nat.succ_le_succ (zcJ r i)
theorem foldl_rep (its : List Value) : ∀ (k : Nat) (acc : List Value),
 List.foldl (λ x1 x2 => x1 ++ x2) acc.toArray (List.replicate k its.toArray) = (acc ++ (List.replicate k its).flatten).toArray
 | 0, acc => by simp
 | k + 1, acc => by
  have e : acc.toArray ++ its.toArray = (acc ++ its).toArray := by simp
  have e2 : (acc ++ its) ++ (List.replicate k its).flatten = acc ++ (List.replicate (k + 1) its).flatten := by
   rw [List.replicate_succ, List.flatten_cons, List.append_assoc]
  rw [<- e2, <- foldl_rep its k (acc ++ its), <- e, List.replicate_succ, List.foldl_cons]
section
variable {X : Cx} {pins : List (Addr × Obj)} {σ : St} {H : Hp} {s : Shared} {l b : Addr} {xs ys zs : List V}
theorem Inv.lset {its its' : List Value} {n : Nat} {f : Array Value -> Array Value} {t' : Nat} (I : Inv X pins σ H s) (hH : H l = some (.lst xs))
 (e : s.heap.get? l = some { cls := .type "list", data := .seq its.toArray n }) (hf : f its.toArray = its'.toArray) (hv : Vals ys its') (hz : ys.length <= sizeLine) :
 Inv X pins σ (upd H l (.lst ys)) { s with heap := s.heap.update l (Obj.mapSeq f), toks := t' } := by
 have q := PySem.IsL.update e f
 rw [hf] at q
 refine I.write (x := l) (e := l) (by rw [hH]; exact trivial) (.inl rfl) (λ b' u hb hu => (Heap.get?_update_other s.heap (Obj.mapSeq f) (Ne.symm hb)).trans hu) ⟨_, q⟩ ?_
 exact ⟨hz, its', _, hv, q⟩
theorem Inv.lnew (I : Inv X pins σ H s) (hv : Vals ys its) (hz : ys.length <= sizeLine) :
 Inv X pins σ (upd H s.heap.objs.size (.lst ys)) { s with heap := s.heap.push { cls := .type "list", data := .seq its.toArray }, toks := t' } :=
 I.laid (λ _ _ q => Heap.get?_push_of_some _ q) (zzK _) ⟨hz, its, 0, hv, Heap.get?_push_size _ rfl⟩
theorem Inv.fresh (I : Inv X pins σ H s) : H s.heap.objs.size = none := I.hok.fresh (zzK _)
theorem Inv.lstM (I : Inv X pins σ H s) (hH : H l = some (.lst xs)) : xs.length <= sizeLine /\ ∃ (its : List Value) (n : Nat), Vals xs its /\ xs.length = its.length /\ s.heap.get? l = some { cls := .type "list", data := .seq its.toArray n } := by
 obtain ⟨z, its, n, r, e⟩ := I.hok l _ hH
 exact ⟨z, its, n, r, r.length, e⟩
theorem zem (h : n <= sizeLine) : Builtin.List.listTooLong n = false := by
 unfold Builtin.List.listTooLong
 exact decide_eq_false (by omega)
end
section
variable {X : Cx}
def zgo : V -> List V -> Hp -> VK -> Prop := λ x vs H Q => ∃ l xs y, x = .ref l /\ vs = [y] /\ H l = some (.lst xs) /\ xs.length < sizeLine /\ Q .non (upd H l (.lst (xs ++ [y])))
theorem wB : MtM X "list.append" zgo := by
 intro pins s σ H x vs v us Q I rx rv h
 obtain ⟨l, xs, y, rfl, rfl, hH, hz, q⟩ := h
 cases rx
 obtain ⟨u, rfl, ru⟩ := rv.one
 obtain ⟨z, its, n, r, hl, e⟩ := I.lstM hH
 refine call_meets F.slot_list_append ⟨_, e, rfl⟩ F.entry_list_append (F.args_list_append_2 _ _) (PySem.list_append l its.toArray n u (by rw [zzE]; omega)) ⟨e, ?_⟩
 refine ⟨.non, _, I.lset (its' := its ++ [u]) hH e (by simp) (r.append (.cons ru .nil)) ?_, rfl, q⟩
 rw [zzG, List.length_singleton]
 omega
def zgh : V -> List V -> Hp -> VK -> Prop := λ x vs H Q => ∃ l b xs zs, x = .ref l /\ vs = [.ref b] /\ H l = some (.lst xs) /\ H b = some (.lst zs) /\ xs.length + zs.length <= sizeLine /\ Q .non (upd H l (.lst (xs ++ zs)))
theorem zgS : MtM X "list.extend" zgh := by
 intro pins s σ H x vs v us Q I rx rv h
 obtain ⟨l, b, xs, zs, rfl, rfl, hH, hB, hz, q⟩ := h
 cases rx
 obtain ⟨u, rfl, ru⟩ := rv.one
 cases ru
 obtain ⟨z, its, n, r, hl, e⟩ := I.lstM hH
 obtain ⟨z2, its2, n2, r2, hl2, e2⟩ := I.lstM hB
 have hsz : its.toArray.size + its2.toArray.size <= sizeLine := by rw [zzE, zzE]; omega
 have hlong : ¬ (!its.toArray.isEmpty && Builtin.List.listTooLong (its.toArray.size + its2.toArray.size)) = true := by
  rw [zem hsz, Bool.and_false]
  exact Bool.false_ne_true
 refine call_meets F.slot_list_extend ⟨_, e, rfl⟩ F.entry_list_extend (F.args_list_extend_2 _ _)
  (AutoSeq1.list_extend_list_list_0 l its.toArray n b its2.toArray n2 hlong (by rw [zzE]; omega) (by omega)) ⟨e, e2, ?_⟩
 refine ⟨.non, _, I.lset (its' := its ++ its2) hH e (by simp) (r.append r2) ?_, rfl, q⟩
 rw [zzG]
 omega
def zhR : V -> List V -> Hp -> VK -> Prop := λ x vs H Q => ∃ l xs i k y, x = .ref l /\ vs = [.int i] /\ H l = some (.lst xs) /\ -(2 ^ 63) <= i /\ i < 2 ^ 63 /\ seqIndex? i xs.length = some k /\ xs[k]? = some y /\ Q y (upd H l (.lst (xs.eraseIdx k)))
theorem zit : MtM X "list.pop" zhR := by
 intro pins s σ H x vs v us Q I rx rv h
 obtain ⟨l, xs, i, k, y, rfl, rfl, hH, h1, h2, hk, hy, q⟩ := h
 cases rx
 obtain ⟨u, rfl, ru⟩ := rv.one
 obtain ⟨t, rfl⟩ := ru
 obtain ⟨z, its, n, r, hl, e⟩ := I.lstM hH
 obtain ⟨w, hw, rw'⟩ := r.get hy
 refine call_meets F.slot_list_pop ⟨_, e, rfl⟩ F.entry_list_pop (F.args_list_pop_2 _ _)
  (MeetsSeq.list_pop_at l its.toArray n i t k w (fitsIndex_both h1 h2) (by rw [zzE, <- hl]; exact hk) (by rw [<- Array.getElem?_toList]; exact hw) (by rw [zzE]; omega)) ⟨e, ?_⟩
 refine ⟨y, _, I.lset (its' := its.eraseIdx k) hH e ?_ (r.eraseIdx k) ?_, rw', q⟩
 · show its.toArray.eraseIdxIfInBounds k = (its.eraseIdx k).toArray
   rw [List.eraseIdxIfInBounds_toArray]
 · have := zcJ xs k
   omega
theorem len_rep (xs : List α) (k : Nat) : (List.replicate k xs).flatten.length = k * xs.length := by
 induction k with
 | zero => simp
 | succ k ih => rw [List.replicate_succ, List.flatten_cons, zzG, ih, Nat.succ_mul, Nat.add_comm]
end
end L2
namespace Att
open PySem PySem.W PySem.Calls PyProof.Rows
theorem zaZ : ∀ (ns : List Int) (vs : List Value), WellAll P h vs (ns.map WData.int) -> IntsAre vs ns := by
 intro ns
 induction ns with
 | nil =>
  intro vs w
  rw [List.map_nil] at w
  cases w
  exact .nil
 | cons n ns ih =>
  intro vs w
  rw [List.map_cons] at w
  cases w with
  | cons a b =>
   cases a
   exact .cons _ _ (ih _ b)
theorem zhp {l : OpenLaw} {n : Nat} (hn : l.most = some n) {P : Params} {h : Heap} {args : List WData} {vals : List Value}
 (hpre : l.row.toRowW.claim.pre args = true) (hwl : WellAll P h vals args) :
 ∃ a vs ns, vals = [Value.ref a] /\ args = [WData.list (ns.map WData.int)] /\ h.get? a = some { cls := .type "list", data := .seq vs.toArray } /\ IntsAre vs ns /\ ns.length <= n := by
 have hsh : WShape.hasAll [] args [.list .int] = true := (pre_splitW hpre).1
 have hc : l.pre.holds [] { args := args } = true := (pre_splitW hpre).2
 obtain ⟨d, r, rfl, h1, h2⟩ := hasAllW_cons hsh
 obtain rfl := hasAllW_nil h2
 obtain ⟨xs, rfl, h3⟩ := hasW_list h1
 obtain ⟨ns, rfl⟩ := items_int h3
 have hlen : ns.length <= n := by
  unfold OpenLaw.pre at hc
  have h4 : (WTm.not (.lt (.lit (.int (n : Int))) (.len (.arg 0)))).holds [] { args := [.list (ns.map .int)] } = true := by
   have h4 := (holds_andW hc).1
   rw [hn] at h4
   exact h4
  have h5 := condW_of h4 (w_not (w_lt w_lit (w_len_list (w_arg rfl))))
  rw [zD] at h5
  refine Nat.le_of_not_lt λ q => ?_
  have q' : (n : Int) < ((ns.length : Nat) : Int) := by omega
  first
   | (rw [decide_eq_true q'] at h5; exact absurd h5 (by decide))
   | (simp at h5; omega)
 cases hwl with
 | cons w1 w2 =>
  cases w2
  cases w1 with
  | list ho hall => exact ⟨_, _, ns, rfl, rfl, ho, zaZ ns _ hall, hlen⟩
theorem zht (l : OpenLaw) (args : List WData) : l.row.toRowW.claim.post args (.bool true) args = true :=
 postW_of (r := l.row.toRowW) (X := (true == true))
  (show WShape.has [] (.bool true) .bool = true by first | rfl | decide | simp [WShape.has, WShape.arms, WShape.armsAll])
  (show (WTm.eq .res (.lit (.bool true))).value [] { args := args, res := some (.bool true), after := args } = some (.bool (true == true)) from w_eq_bool (w_res rfl) w_lit) rfl
theorem zeb {l : OpenLaw} {n : Nat} {q : Program} {loose : List Str} {XP : (Str -> Option Value) -> Heap -> Prop} {YP : World -> Heap -> Prop} {d : DefRec}
 (hn : l.most = some n) (hdf : d.params.defaults = [])
 (call : ∀ (w : World) (s₀ s₁ : Shared) (mg mb : Str -> Option Value) (fa : Addr) (o : Obj) (pm cd doc : Value) (a : Addr) (vs : List Value) (ns : List Int),
  Ground q loose [] XP w s₀ mg mb s₁.heap -> YP w s₁.heap ->
  s₁.heap.get? fa = some o -> o.data = .func (docDef d.name d.params d.body d.scope pm cd doc) -> s₁.heap.CodeRec cd d.name -> mg d.name = some (.ref fa) ->
  s₁.heap.get? a = some { cls := .type "list", data := .seq vs.toArray } -> IntsAre vs ns -> ns.length <= n -> s₁.gens = #[] ->
  codeAny (model l.prog w) callerA (.call (.ref fa) ⟨[.ref a], []⟩) (λ r s' => r = .ok (.ret (.bool true)) /\ OldK s₁.heap s'.heap /\ s'.os = s₁.os /\ AllBare s'.gens) s₁) :
 WalkO q loose XP YP l.row.toRowW d [] (λ f vs => PySem.call f vs) := by
 intro w s₀ s₁ mg mb G Y fa o pm cd doc dV kV ho hd hcd hD hmg hg args vals as hpre hlay hrd hwl hlo
 obtain rfl : dV = .none := Dflts.none hD hdf
 obtain rfl : kV = .none := Dflts.noKw hD
 obtain ⟨a, vs, ns, rfl, rfl, hobj, hints, hlen⟩ := zhp hn hpre hwl
 refine enter_call (codeAny_mono (call w s₀ s₁ mg mb fa o pm cd doc a vs ns G Y ho (fd_plain hd) hcd hmg hobj hints hlen hg) λ r s' hq => ?_)
 obtain ⟨rfl, h2, h3, h4⟩ := hq
 exact ⟨.inl ⟨.bool true, .bool true, [], rfl, λ _ => rfl, .bool true, zht l _, λ _ => ⟨List.Pairwise.nil, λ _ hm => (nomatch hm)⟩⟩, h2, h3, h4⟩
end Att
namespace L2
open PySem PySem.Spec PyProof.Rows
theorem Yr : ∀ {vs : List Value} {ns : List Int}, IntsAre vs ns -> Vals (ns.map V.int) vs
 | _, _, .nil => .nil
 | _, _, .cons n t h => .cons ⟨t, rfl⟩ (Yr h)
def Only (H : Hp) : Prop := ∀ b, H b = none \/ ∃ o xs, H b = some (.frz o (.lst xs))
theorem zhZ {P : Program} {w : World} {K : zC} {mg mb : Str -> Option Value} {CX : CXT} {k : Nat} {fa a : Addr} {fd : FuncData} {x : Str} {sp : Sp} {s₁ : Shared} {vs : List Value} {ns : List Int}
 (KX : K.In s₁.heap) (hns : s₁.heap.Ns mainGlobals mg) (hb : s₁.heap.Ns builtinsNs mb) (hbb : ∀ x : Str, x ≠ "__name__" -> mb x = bootBuiltins x) (hlim : s₁.heap.NoLimit) (hg : s₁.gens = #[])
 (ha : s₁.heap.get? a = some { cls := .type "list", data := .seq vs.toArray }) (hi : IntsAre vs ns) (hl : ns.length <= sizeLine) (hr : Room k callerA)
 (F : ∀ base : Heap, K.In base -> base.Ns mainGlobals mg -> FnOk P w K mg base CX k fa fd [x] sp) (hbind : ∀ (s : Shared) (u : Value), BindsTo s fd ⟨[u], []⟩ [(x, u)])
 (hsp : ∀ H : Hp, Only H -> RdL K H a (ns.map V.int) -> sp [.ref a] H (λ v _ => v = .bl true) λ _ _ _ => False)
 (hCX : ∀ H e s', CX [] H s₁ (λ _ _ _ => False) e s' -> False) :
 codeAny (model P w) callerA (.call (.ref fa) ⟨[.ref a], []⟩) (λ r s' => r = .ok (.ret (.bool true)) /\ OldK s₁.heap s'.heap /\ s'.os = s₁.os /\ AllBare s'.gens) s₁ := by
 have rv := Yr hi
 have lenV := hi.length
 have core : ∀ H : Hp, Only H -> RdL K H a (ns.map V.int) -> HOk P w H s₁.heap -> (∀ b, H b ≠ none -> b = a) -> (H a ≠ none -> K.lookup a = none) ->
  codeAny (model P w) callerA (.call (.ref fa) ⟨[.ref a], []⟩) (λ r s' => r = .ok (.ret (.bool true)) /\ OldK s₁.heap s'.heap /\ s'.os = s₁.os /\ AllBare s'.gens) s₁ := by
  intro H hO hS hok hA hK
  have base_of : ∀ {b : Addr} {o : Obj}, s₁.heap.get? b = some o -> H b = none -> (zdE s₁.heap H).get? b = some o := λ e n => ziM e n
  have noA : ∀ {b : Addr} {o : Obj} {es : Array DictEntry} {ep : Nat}, s₁.heap.get? b = some o -> o.data = .dict es ep -> H b = none := λ {b o es ep} e d => by
   cases q : H b with
   | none => rfl
   | some u =>
    have e' : b = a := hA b (by rw [q]; simp)
    subst e'
    rw [ha] at e; cases e
    have d' : Data.seq vs.toArray _ = Data.dict es ep := d
    cases d'
  have nsK : ∀ {b : Addr} {m : Str -> Option Value}, s₁.heap.Ns b m -> (zdE s₁.heap H).Ns b m := λ {b m} ⟨o, es, ep, e, d, r⟩ => ⟨o, es, ep, base_of e (noA e d), d, r⟩
  have hKb : K.In (zdE s₁.heap H) := λ b o e => base_of (KX b o e) (by
   cases q : H b with
   | none => rfl
   | some u =>
    have e' : b = a := hA b (by rw [q]; simp)
    subst e'
    rw [hK (by rw [q]; simp)] at e; cases e)
  have hM : Mod K mg (zdE s₁.heap H) := ⟨hKb, nsK hns, ⟨mb, nsK hb, hbb⟩, let ⟨mc, h1, h2⟩ := hlim; ⟨mc, nsK h1, h2⟩⟩
  have e0 : Env0 P w K mg (zdE s₁.heap H) callerA [] s₁ H := ⟨rfl, hM, λ b o e => zjZ e, Nat.le_of_eq (zhc _ _), trivial, λ b hb => absurd (show b ∈ ([] : List Addr) from hb) (by simp), hok, .of_eq hg⟩
  refine codeAny_mono ((F _ hKb (nsK hns)).run callerA [] s₁ H ⟨[.ref a], []⟩ [.ref a] [.ref a] _ _ hr e0 (hbind s₁ (.ref a)) (.cons rfl .nil) (hsp H hO hS)) λ r s' h => ?_
  cases r with
  | error e => exact (hCX H e s' h).elim
  | ok fl =>
   cases fl with
   | next => exact False.elim h
   | brk => exact False.elim h
   | cont => exact False.elim h
   | ret u =>
    obtain ⟨v, H', os, bare, un, hok', r', q⟩ := h
    have q' : v = .bl true := q
    subst q'
    obtain rfl : u = Value.bool true := r'
    refine ⟨rfl, OldK.of_keep λ b o e => ?_, os, bare⟩
    cases q : H b with
    | none => exact un.keep b o e q (by intro z; exact absurd (show b ∈ ([] : List Addr) from z) (by simp)) (by simp)
    | some u =>
     rcases hO b with z | ⟨ob, xs, z⟩
     · rw [q] at z; cases z
     · have z2 := un.frzs b ob _ z
       obtain ⟨e1, _⟩ := hok b _ z
       obtain ⟨e2, _⟩ := hok' b _ z2
       rw [e] at e1; cases e1
       exact e2
 cases hk : K.lookup a with
 | some o =>
  have e := KX a o hk
  rw [ha] at e
  cases e
  refine core (λ _ => none) (λ _ => .inl rfl) (.inr ⟨vs.toArray, _, hk, by rw [zzE, lenV]; exact hl, by simpa using rv⟩) (λ b u z => by have z' : (none : Option HO) = some u := z; cases z') (λ b z => absurd rfl z) λ z => absurd rfl z
 | none =>
  refine core (λ b => if b = a then some (.frz { cls := .type "list", data := .seq vs.toArray } (.lst (ns.map V.int))) else none) (λ b => ?_) (.inl (.inr ⟨{ cls := .type "list", data := .seq vs.toArray }, if_pos rfl⟩)) (λ b u z => ?_) (λ b z => ?_) λ _ => hk
  · by_cases hb : b = a
    · exact .inr ⟨_, _, if_pos hb⟩
    · exact .inl (if_neg hb)
  · by_cases hb : b = a
    · have z' := (if_pos hb).symm.trans z
      cases z'
      subst hb
      exact ⟨ha, by rw [zD]; exact hl, vs, _, rv, ha⟩
    · have z' := (if_neg hb).symm.trans z
      cases z'
  · by_cases hb : b = a
    · exact hb
    · exact absurd (if_neg hb) z
end L2
namespace L2
open PySem PySem.Spec PyProof.Rows
theorem walk_of {l : PySem.W.OpenLaw} {n k : Nat} {q : Program} {loose : List Str} {XP : (Str -> Option Value) -> Heap -> Prop} {YP : World -> Heap -> Prop} {d : DefRec} {K : Params -> zC} {CX : World -> CXT} {sp : World -> Sp} {x : Str}
 (hn : l.most = some n) (hn2 : n <= sizeLine) (hdf : d.params.defaults = []) (hr : Room k callerA)
 (hY : ∀ (w : World) (h : Heap), YP w h -> (K w.params).In h)
 (F : ∀ (w : World) (mg : Str -> Option Value) (fa : Addr) (h : Heap), (K w.params).In h -> h.Ns mainGlobals mg -> mg d.name = some (.ref fa) ->
  ∃ fd : FuncData, (∀ (s : Shared) (u : Value), BindsTo s fd ⟨[u], []⟩ [(x, u)]) /\
   ∀ base : Heap, (K w.params).In base -> base.Ns mainGlobals mg -> FnOk l.prog w (K w.params) mg base (CX w) k fa fd [x] (sp w))
 (hsp : ∀ (w : World) (H : Hp) (a : Addr) (ns : List Int), ns.length <= n -> Only H -> RdL (K w.params) H a (ns.map V.int) -> sp w [.ref a] H (λ v _ => v = .bl true) λ _ _ _ => False)
 (hCX : ∀ (w : World) (H : Hp) (s : Shared) (e : Value) (s' : Shared), CX w [] H s (λ _ _ _ => False) e s' -> False) :
 PySem.W.WalkO q loose XP YP l.row.toRowW d [] (λ f vs => PySem.call f vs) := by
 refine Att.zeb hn hdf λ w s₀ s₁ mg mb fa o pm cd doc a vs ns G Y ho hd hcd hmg hobj hints hlen hg => ?_
 have KX := hY w _ Y
 obtain ⟨fd, hb, hF⟩ := F w mg fa _ KX G.T.g hmg
 exact zhZ KX G.T.g G.T.b G.T.builtins G.T.nolimit hg hobj hints (zzL hlen hn2) hr hF hb (λ H hO hS => hsp w H a ns hlen hO hS) λ H e s' => hCX w H s₁ e s'
end L2
namespace L2
open PySem PySem.Spec PyProof.Rows
def zcV (s : Stmt) : Arguments := match s with
 | .FunctionDef _ a _ _ _ _ _ _ _ _ => a
 | _ => { posonlyargs := [], args := [], vararg := none, kwonlyargs := [], kw_defaults := [], kwarg := none, defaults := [] }
def Wq (s : Stmt) : List Stmt := match s with
 | .FunctionDef _ _ b _ _ _ _ _ _ _ => b
 | _ => []
def zF (s : Stmt) : Scope := match s with
 | .FunctionDef _ _ _ _ _ _ sc _ _ _ => sc
 | _ => { kind := .function, names := [], isGenerator := false, isCoroutine := false }
abbrev CX0 : CXT := λ _ _ _ _ _ _ => False
abbrev E0 : XK := λ _ _ _ => False
theorem yo : zbu CX0 X E0 := λ _ _ _ _ _ _ _ h => h.elim
structure Fun (K : zC) (x qual : Str) (st : Stmt) (f : Addr) (fd : FuncData) : Prop where
 ex : ∃ (oc : Value) (od : Option Addr) (kV doc pm : Value) (an : Option Addr) (cdv ct : Value) (osl : Array (Option Value)),
  fd = PySem.W.fnOf x qual (zcV st) (Wq st) (zF st) .none kV doc pm an cdv ct /\ K.lookup f = some ⟨oc, od, .func fd, osl⟩ /\ PySem.W.codeIn K cdv qual = true
 kp : PySem.W.keepIn K (.ref f) = true
section
variable {P : Program} {w : World} {K : zC} {mg : Str -> Option Value} {base : Heap}
theorem Fun.ok {x qual : Str} {st : Stmt} {f : Addr} {fd : FuncData} {N ps : List Str} {k : Nat} {sp : Sp} (F : Fun K x qual st f fd) (S : FnScope N ps (zF st)) (len : ∀ vs H Q E, sp vs H Q E -> vs.length = ps.length)
 (hbody : ∀ (cdv : Value) (A : Around) (outer : List Env) (s : Shared) (H : Hp) (vs : List V) (Q : VK) (E : XK), Room k (A.deeper (envOfC qual (zF st) s.heap.objs.size f cdv)) -> sp vs H Q E ->
  ∃ t, PSs (zeC CX0 P w K mg base N qual (zF st) f cdv A outer s H E).nox (Wq st) t /\ t { nx := λ _ H' => Q .non H', rt := Q } (start N vs) H) : FnOk P w K mg base CX0 (k + 1) f fd ps sp := by
 obtain ⟨oc, od, kV, doc, pm, an, cdv, ct, osl, rfl, lk, hcd⟩ := F.ex
 refine znw lk hcd S len λ A outer s H vs Q E hr hsp => ?_
 obtain ⟨t, h, q⟩ := hbody cdv A outer s H vs Q E hr hsp
 exact ⟨t, h.nox, q⟩
theorem Fun.binds {x qual : Str} {st : Stmt} {f : Addr} {fd : FuncData} {ps : List Str} (F : Fun K x qual st f fd)
 (h : ∀ (kV doc pm : Value) (an : Option Addr) (cdv ct : Value) (us : List Value), us.length = ps.length -> bindArgs (PySem.W.fnOf x qual (zcV st) (Wq st) (zF st) .none kV doc pm an cdv ct) ⟨us, []⟩ = pure (ps.zip us)) : Binds K fd ps [] := by
 obtain ⟨oc, od, kV, doc, pm, an, cdv, ct, osl, rfl, lk, hcd⟩ := F.ex
 exact .all (h kV doc pm an cdv ct)
end
theorem zkY (hr : Room k A) : A.units + 1 < cLine := Nat.lt_of_le_of_lt (Nat.add_le_add_left (by decide : 1 <= 64) _) hr.units
theorem yq (h : n <= 1000) : n < sizeLine := Nat.lt_of_le_of_lt h (by decide)
section
variable {X : Cx}
theorem pv (i : Nat) (hN : X.N[i]? = some x := by rfl) (hv : Vis X.env.scope x := by first | exact Or.inl rfl | exact Or.inr (Or.inl rfl) | exact Or.inr (Or.inr rfl)) (hd : (x == ("__debug__" : Str)) = false := by decide)
 (hcd : (x == ("__classdict__" : Str)) = false := by decide) : PE X (.Name x pos) (zbc i) := zim hN hv hd hcd
end
end L2
end
section
namespace PF
open PySem PySem.Spec PyProof.Rows L2
abbrev St := L2.St
structure KD where
 d : Addr -> List (Key × V) -> Prop
 c : Str -> Addr
instance : CoeFun KD (λ _ => Addr -> List (Key × V) -> Prop) := ⟨KD.d⟩
inductive D where
 | non | bl (b : Bool) | int (i : Int) | str (x : Str) | tup (ds : List D) | lst (ds : List D) | dct (kvs : List (Key × D)) | cl (c : Str) | ob (c : Str) (ns : List Str) (ds : List D) | dt (ks : List (List Key)) (ds : List D)
mutual
inductive Rp (K : zC) (kd : KD) (O : Addr -> Prop) (H : Hp) : V -> D -> Prop
 | non : Rp K kd O H .non .non
 | bl (b : Bool) : Rp K kd O H (.bl b) (.bl b)
 | int (i : Int) : Rp K kd O H (.int i) (.int i)
 | str (x : Str) : Rp K kd O H (.str x) (.str x)
 | tup {a : Addr} {vs : List V} {ds : List D} : ¬ O a -> H a = some (.tup vs) -> RpL K kd O H vs ds -> Rp K kd O H (.ref a) (.tup ds)
 | lst {a : Addr} {vs : List V} {ds : List D} : ¬ O a -> Rd H a (.lst vs) -> RpL K kd O H vs ds -> Rp K kd O H (.ref a) (.lst ds)
 | lstK {a : Addr} {its : Array Value} {n : Nat} {vs : List V} {ds : List D} : K.lookup a = some { cls := .type "list", data := .seq its n } -> its.size <= sizeLine -> Vals vs its.toList -> RpL K kd O H vs ds -> Rp K kd O H (.ref a) (.lst ds)
 | dct {a : Addr} {kvs : List (Key × V)} {ds : List (Key × D)} : ¬ O a -> Rd H a (.dK kvs) -> RpM K kd O H kvs ds -> Rp K kd O H (.ref a) (.dct ds)
 | dctK {a : Addr} {kvs : List (Key × V)} {ds : List (Key × D)} : kd a kvs -> RpM K kd O H kvs ds -> Rp K kd O H (.ref a) (.dct ds)
 | cl (c : Str) : Rp K kd O H (.ref (kd.c c)) (.cl c)
 | ob {a dx : Addr} {c : Str} {ns : List Str} {vs : List V} {ds : List D} : ¬ O a -> H a = some (.ins (kd.c c) dx (ns.zip vs)) -> ns.length = vs.length -> RpL K kd O H vs ds -> Rp K kd O H (.ref a) (.ob c ns ds)
 | dt {a : Addr} {ks : List (List Key)} {vs : List V} {ds : List D} : ¬ O a -> H a = some (.dT (ks.zip vs)) -> ks.length = vs.length -> RpL K kd O H vs ds -> Rp K kd O H (.ref a) (.dt ks ds)
inductive RpL (K : zC) (kd : KD) (O : Addr -> Prop) (H : Hp) : List V -> List D -> Prop
 | nil : RpL K kd O H [] []
 | cons {v : V} {d : D} {vs : List V} {ds : List D} : Rp K kd O H v d -> RpL K kd O H vs ds -> RpL K kd O H (v :: vs) (d :: ds)
inductive RpM (K : zC) (kd : KD) (O : Addr -> Prop) (H : Hp) : List (Key × V) -> List (Key × D) -> Prop
 | nil : RpM K kd O H [] []
 | cons {k : Key} {v : V} {d : D} {vs : List (Key × V)} {ds : List (Key × D)} : Rp K kd O H v d -> RpM K kd O H vs ds -> RpM K kd O H ((k, v) :: vs) ((k, d) :: ds)
end
structure Grow (W : Addr -> Prop) (H : Hp) (W' : Addr -> Prop) (H' : Hp) : Prop where
 keep : ∀ b o, H b = some o -> ¬ W b -> H' b = some o
 own : ∀ b, W' b -> W b \/ H b = none
theorem Grow.refl {W : Addr -> Prop} {H : Hp} : Grow W H W H := ⟨λ _ _ h _ => h, λ _ h => .inl h⟩
theorem Grow.trans {W W1 W2 : Addr -> Prop} {H H1 H2 : Hp} (a : Grow W H W1 H1) (b : Grow W1 H1 W2 H2) : Grow W H W2 H2 where
 keep := λ x o h n => b.keep x o (a.keep x o h n) λ q => (a.own x q).elim n λ z => by rw [z] at h; cases h
 own := λ x q => by
  rcases b.own x q with h | h
  · exact a.own x h
  · cases e : H x with
    | none => exact .inr rfl
    | some o =>
     refine .inl (Classical.byContradiction λ n => ?_)
     rw [a.keep x o e n] at h
     cases h
theorem Grow.less {W W' : Addr -> Prop} {H : Hp} (h : ∀ a, W' a -> W a) : Grow W H W' H := ⟨λ _ _ q _ => q, λ b q => .inl (h b q)⟩
abbrev Un2 (F W : Addr -> Prop) : Addr -> Prop := λ a => F a \/ W a
section
variable {K : zC} {kd : KD} {F W W' : Addr -> Prop} {H H' : Hp}
theorem VN {a : Addr} {u : HO} (g : Grow W H W' H') (n : ¬ W a) (h : Rd H a u) : Rd H' a u := by
 rcases h with h | ⟨o, h⟩
 · exact .inl (g.keep _ _ h n)
 · exact .inr ⟨o, g.keep _ _ h n⟩
theorem zkm {a : Addr} {u : HO} (h : Rd H a u) : H a ≠ none := by
 rcases h with h | ⟨o, h⟩ <;> (rw [h]; simp)
theorem Xr {a : Addr} {u : HO} (g : Grow W H W' H') (n : ¬ Un2 F W a) (h : Rd H a u) : ¬ Un2 F W' a := λ q =>
 q.elim (λ z => n (.inl z)) λ z => (g.own a z).elim (λ y => n (.inr y)) λ y => zkm h y
theorem Rp.grow (g : Grow W H W' H') {v : V} {d : D} (h : Rp K kd (Un2 F W) H v d) : Rp K kd (Un2 F W') H' v d :=
 Rp.rec (motive_1 := λ v d _ => Rp K kd (Un2 F W') H' v d) (motive_2 := λ vs ds _ => RpL K kd (Un2 F W') H' vs ds) (motive_3 := λ vs ds _ => RpM K kd (Un2 F W') H' vs ds) .non .bl .int .str (λ n h _ r => .tup (Xr g n (.inl h)) (g.keep _ _ h λ z => n (.inr z)) r) (λ n h _ r => .lst (Xr g n h) (VN g (λ z => n (.inr z)) h) r) (λ a e f _ r => .lstK a e f r) (λ n h _ r => .dct (Xr g n h) (VN g (λ z => n (.inr z)) h) r) (λ h _ r => .dctK h r) .cl (λ n h l _ r => .ob (Xr g n (.inl h)) (g.keep _ _ h λ z => n (.inr z)) l r) (λ n h l _ r => .dt (Xr g n (.inl h)) (g.keep _ _ h λ z => n (.inr z)) l r) .nil (λ _ _ h r => .cons h r) .nil (λ _ _ h r => .cons h r) h
theorem RpL.ind {O : Addr -> Prop} {P : List V -> List D -> Prop} (h0 : P [] []) (h1 : ∀ {v d vs ds}, Rp K kd O H v d -> RpL K kd O H vs ds -> P vs ds -> P (v :: vs) (d :: ds)) {vs : List V} {ds : List D} (h : RpL K kd O H vs ds) : P vs ds :=
 RpL.rec (motive_1 := λ _ _ _ => True) (motive_2 := λ vs ds _ => P vs ds) (motive_3 := λ _ _ _ => True) ⟨⟩ (λ _ => ⟨⟩) (λ _ => ⟨⟩) (λ _ => ⟨⟩) (λ _ _ _ _ => ⟨⟩) (λ _ _ _ _ => ⟨⟩) (λ _ _ _ _ _ => ⟨⟩) (λ _ _ _ _ => ⟨⟩) (λ _ _ _ => ⟨⟩) (λ _ => ⟨⟩) (λ _ _ _ _ _ => ⟨⟩) (λ _ _ _ _ _ => ⟨⟩) h0 (λ a r _ ih => h1 a r ih) ⟨⟩ (λ _ _ _ _ => ⟨⟩) h
theorem RpM.ind {O : Addr -> Prop} {P : List (Key × V) -> List (Key × D) -> Prop} (h0 : P [] []) (h1 : ∀ {k v d vs ds}, Rp K kd O H v d -> RpM K kd O H vs ds -> P vs ds -> P ((k, v) :: vs) ((k, d) :: ds)) {vs : List (Key × V)} {ds : List (Key × D)} (h : RpM K kd O H vs ds) : P vs ds :=
 RpM.rec (motive_1 := λ _ _ _ => True) (motive_2 := λ _ _ _ => True) (motive_3 := λ vs ds _ => P vs ds) ⟨⟩ (λ _ => ⟨⟩) (λ _ => ⟨⟩) (λ _ => ⟨⟩) (λ _ _ _ _ => ⟨⟩) (λ _ _ _ _ => ⟨⟩) (λ _ _ _ _ _ => ⟨⟩) (λ _ _ _ _ => ⟨⟩) (λ _ _ _ => ⟨⟩) (λ _ => ⟨⟩) (λ _ _ _ _ _ => ⟨⟩) (λ _ _ _ _ _ => ⟨⟩) ⟨⟩ (λ _ _ _ _ => ⟨⟩) h0 (λ a r _ ih => h1 a r ih) h
theorem RpL.grow (g : Grow W H W' H') {vs : List V} {ds : List D} (h : RpL K kd (Un2 F W) H vs ds) : RpL K kd (Un2 F W') H' vs ds := RpL.ind .nil (λ a _ r => .cons (Rp.grow g a) r) h
theorem Rp.less {O O' : Addr -> Prop} (g : ∀ a, O' a -> O a) {v : V} {d : D} (h : Rp K kd O H v d) : Rp K kd O' H v d :=
 Rp.rec (motive_1 := λ v d _ => Rp K kd O' H v d) (motive_2 := λ vs ds _ => RpL K kd O' H vs ds) (motive_3 := λ vs ds _ => RpM K kd O' H vs ds) .non .bl .int .str (λ n h _ r => .tup (λ z => n (g _ z)) h r) (λ n h _ r => .lst (λ z => n (g _ z)) h r) (λ a e f _ r => .lstK a e f r) (λ n h _ r => .dct (λ z => n (g _ z)) h r) (λ h _ r => .dctK h r) .cl (λ n h l _ r => .ob (λ z => n (g _ z)) h l r) (λ n h l _ r => .dt (λ z => n (g _ z)) h l r) .nil (λ _ _ h r => .cons h r) .nil (λ _ _ h r => .cons h r) h
theorem RpL.less {O O' : Addr -> Prop} (g : ∀ a, O' a -> O a) {vs : List V} {ds : List D} (h : RpL K kd O H vs ds) : RpL K kd O' H vs ds := RpL.ind .nil (λ a _ r => .cons (Rp.less g a) r) h
theorem RpM.less {O O' : Addr -> Prop} (g : ∀ a, O' a -> O a) {vs : List (Key × V)} {ds : List (Key × D)} (h : RpM K kd O H vs ds) : RpM K kd O' H vs ds := RpM.ind .nil (λ a _ r => .cons (Rp.less g a) r) h
theorem RpL.length {O : Addr -> Prop} {vs : List V} {ds : List D} (h : RpL K kd O H vs ds) : vs.length = ds.length := RpL.ind (P := λ vs ds => vs.length = ds.length) rfl (λ _ _ r => congrArg (· + 1) r) h
theorem RpM.length {O : Addr -> Prop} {vs : List (Key × V)} {ds : List (Key × D)} (h : RpM K kd O H vs ds) : vs.length = ds.length := RpM.ind (P := λ vs ds => vs.length = ds.length) rfl (λ _ _ r => congrArg (· + 1) r) h
theorem RpL.get {O : Addr -> Prop} {vs : List V} {ds : List D} {i : Nat} {d : D} (h : RpL K kd O H vs ds) (e : ds[i]? = some d) : ∃ v, vs[i]? = some v /\ Rp K kd O H v d :=
 RpL.ind (P := λ vs ds => ∀ i, ds[i]? = some d -> ∃ v, vs[i]? = some v /\ Rp K kd O H v d) (λ i e => by rw [List.getElem?_nil] at e; cases e) (λ a _ ih i e => by
  cases i with
  | zero => cases e; exact ⟨_, rfl, a⟩
  | succ i => exact ih i e) h i e
theorem RpL.append {O : Addr -> Prop} {vs ws : List V} {ds es : List D} (h : RpL K kd O H vs ds) (r : RpL K kd O H ws es) : RpL K kd O H (vs ++ ws) (ds ++ es) := RpL.ind (P := λ vs ds => RpL K kd O H (vs ++ ws) (ds ++ es)) r (λ a _ t => .cons a t) h
theorem RpL.take {O : Addr -> Prop} {vs : List V} {ds : List D} (n : Nat) (h : RpL K kd O H vs ds) : RpL K kd O H (vs.take n) (ds.take n) :=
 RpL.ind (P := λ vs ds => ∀ n, RpL K kd O H (vs.take n) (ds.take n)) (λ n => by rw [List.take_nil, List.take_nil]; exact .nil) (λ a _ ih n => by
  cases n with
  | zero => exact .nil
  | succ n => exact .cons a (ih n)) h n
theorem RpL.drop {O : Addr -> Prop} {vs : List V} {ds : List D} (n : Nat) (h : RpL K kd O H vs ds) : RpL K kd O H (vs.drop n) (ds.drop n) :=
 RpL.ind (P := λ vs ds => ∀ n, RpL K kd O H (vs.drop n) (ds.drop n)) (λ n => by rw [List.drop_nil, List.drop_nil]; exact .nil) (λ a b ih n => by
  cases n with
  | zero => exact .cons a b
  | succ n => exact ih n) h n
theorem RpL.rep {O : Addr -> Prop} {vs : List V} {ds : List D} (h : RpL K kd O H vs ds) : ∀ k : Nat, RpL K kd O H (List.replicate k vs).flatten (List.replicate k ds).flatten
 | 0 => .nil
 | k + 1 => by
  rw [List.replicate_succ, List.replicate_succ, List.flatten_cons, List.flatten_cons]
  exact h.append (RpL.rep h k)
end
inductive Vw (K : zC) (kd : KD) (O : Addr -> Prop) (H : Hp) : V -> D -> Prop
 | non : Vw K kd O H .non .non
 | bl (b : Bool) : Vw K kd O H (.bl b) (.bl b)
 | int (i : Int) : Vw K kd O H (.int i) (.int i)
 | str (x : Str) : Vw K kd O H (.str x) (.str x)
 | tup {a : Addr} {vs : List V} {ds : List D} : Rp K kd O H (.ref a) (.tup ds) -> SqT K H a vs -> RpL K kd O H vs ds -> Vw K kd O H (.ref a) (.tup ds)
 | lst {a : Addr} {vs : List V} {ds : List D} : RdL K H a vs -> RpL K kd O H vs ds -> Vw K kd O H (.ref a) (.lst ds)
 | dct {a : Addr} {kvs : List (Key × V)} {ds : List (Key × D)} : (Rd H a (.dK kvs) \/ kd a kvs) -> RpM K kd O H kvs ds -> Vw K kd O H (.ref a) (.dct ds)
 | cl (c : Str) : Vw K kd O H (.ref (kd.c c)) (.cl c)
 | ob {a dx : Addr} {c : Str} {ns : List Str} {vs : List V} {ds : List D} : H a = some (.ins (kd.c c) dx (ns.zip vs)) -> ns.length = vs.length -> RpL K kd O H vs ds -> Vw K kd O H (.ref a) (.ob c ns ds)
 | dt {a : Addr} {ks : List (List Key)} {vs : List V} {ds : List D} : H a = some (.dT (ks.zip vs)) -> ks.length = vs.length -> RpL K kd O H vs ds -> Vw K kd O H (.ref a) (.dt ks ds)
theorem Rp.vw {K : zC} {kd : KD} {O : Addr -> Prop} {H : Hp} {v : V} {d : D} (h : Rp K kd O H v d) : Vw K kd O H v d := by
 cases h with
 | non => exact .non
 | bl b => exact .bl b
 | int i => exact .int i
 | str x => exact .str x
 | tup n h r => exact .tup (.tup n h r) (.inl (.inl h)) r
 | lst n h r => exact .lst (.inl h) r
 | lstK a e f r => exact .lst (.inr ⟨_, _, a, e, f⟩) r
 | dct n h r => exact .dct (.inl h) r
 | dctK h r => exact .dct (.inr h) r
 | cl c => exact .cl c
 | ob n h l r => exact .ob h l r
 | dt n h l r => exact .dt h l r
theorem _root_.L2.RdL.sq {K : zC} {H : Hp} {a : Addr} {xs : List V} (h : RdL K H a xs) : SqL K H a xs := by
 rcases h with h | ⟨its, n, k, z, r⟩
 · exact .inl h
 · exact .inr ⟨_, its, n, k, rfl, rfl, rfl, z, r⟩
theorem zfu {X : Cx} {pins : List (Addr × Obj)} {σ : St} {H : Hp} {s : Shared} {a : Addr} {xs : List V} (I : Inv X pins σ H s) (h : RdL X.K H a xs) :
 xs.length <= sizeLine /\ ∃ (its : List Value) (n : Nat), Vals xs its /\ s.heap.get? a = some { cls := .type "list", data := .seq its.toArray n } := by
 rcases h with h | ⟨its, n, k, z, r⟩
 · exact h.ok I.hok
 · refine ⟨by rw [r.length]; simpa using z, its.toList, n, r, by simpa using I.kIn _ _ k⟩
theorem Rp.cl_eq {K : zC} {kd : KD} {O : Addr -> Prop} {H : Hp} {C : Addr} {c : Str} (h : Rp K kd O H (.ref C) (.cl c)) : C = kd.c c := by
 cases h; rfl
def zL : D -> Bool
 | .non => true | .bl _ => true | .int _ => true | .str _ => true | _ => false
theorem Rp.flat {K : zC} {kd : KD} {O O' : Addr -> Prop} {H H' : Hp} {v : V} {d : D} (h : Rp K kd O H v d) (e : zL d = true) : Rp K kd O' H' v d := by
 cases h with
 | non => exact .non
 | bl b => exact .bl b
 | int i => exact .int i
 | str x => exact .str x
 | _ => cases e
inductive Kind where
 | ls | tp | dc (ks : List Key) | ob (c : Str) (ns : List Str) | dt (ks : List (List Key))
inductive O where
 | lf (st : Bool) (d : D) | nd (k : Kind) (os : List O)
abbrev lfs (st : Bool) (d : D) : O := .lf (zL d || st) d
mutual
inductive Ro (L : Bool -> V -> D -> Prop) (N : Addr -> Prop) (H : Hp) : V -> O -> List Addr -> Prop
 | lf {st : Bool} {v : V} {d : D} : L st v d -> Ro L N H v (.lf st d) []
 | ls {a : Addr} {vs : List V} {os : List O} {fp : List Addr} : H a = some (.lst vs) -> RoL L N H vs os fp -> Ro L N H (.ref a) (.nd .ls os) (a :: fp)
 | dc {a : Addr} {ks : List Key} {vs : List V} {os : List O} {fp : List Addr} : H a = some (.dK (ks.zip vs)) -> ks.length = vs.length -> RoL L N H vs os fp -> Ro L N H (.ref a) (.nd (.dc ks) os) (a :: fp)
 | ob {a dx C : Addr} {c : Str} {ns : List Str} {vs : List V} {os : List O} {fp : List Addr} : L true (.ref C) (.cl c) -> H a = some (.ins C dx (ns.zip vs)) -> ns.length = vs.length -> RoL L N H vs os fp -> Ro L N H (.ref a) (.nd (.ob c ns) os) (a :: fp)
 | dt {a : Addr} {ks : List (List Key)} {vs : List V} {os : List O} {fp : List Addr} : H a = some (.dT (ks.zip vs)) -> ks.length = vs.length -> RoL L N H vs os fp -> Ro L N H (.ref a) (.nd (.dt ks) os) (a :: fp)
 | tp {a : Addr} {vs : List V} {os : List O} {fp : List Addr} : N a -> H a = some (.tup vs) -> RoL L N H vs os fp -> Ro L N H (.ref a) (.nd .tp os) fp
inductive RoL (L : Bool -> V -> D -> Prop) (N : Addr -> Prop) (H : Hp) : List V -> List O -> List Addr -> Prop
 | nil : RoL L N H [] [] []
 | cons {v : V} {o : O} {vs : List V} {os : List O} {fp fq : List Addr} : Ro L N H v o fp -> RoL L N H vs os fq -> RoL L N H (v :: vs) (o :: os) (fp ++ fq)
end
mutual
def O.toD : O -> D
 | .lf _ d => d
 | .nd .ls os => .lst (O.toDs os)
 | .nd .tp os => .tup (O.toDs os)
 | .nd (.dc ks) os => .dct (ks.zip (O.toDs os))
 | .nd (.ob c ns) os => .ob c ns (O.toDs os)
 | .nd (.dt ks) os => .dt ks (O.toDs os)
def O.toDs : List O -> List D
 | [] => []
 | o :: r => o.toD :: O.toDs r
end
mutual
def O.str : O -> Bool
 | .lf st _ => st
 | .nd _ os => O.strs os
def O.strs : List O -> Bool
 | [] => true
 | o :: r => o.str && O.strs r
end
section
variable {L L' : Bool -> V -> D -> Prop} {N N' : Addr -> Prop} {H H' : Hp} {K : zC} {kd : KD} {Ob : Addr -> Prop}
theorem Ro.mono (hL : ∀ st v d, L st v d -> L' st v d) (hN : ∀ a vs, N a -> H a = some (.tup vs) -> N' a /\ H' a = some (.tup vs)) {v : V} {o : O} {fp : List Addr} (k : ∀ a ∈ fp, ∀ u, H a = some u -> H' a = some u) (h : Ro L N H v o fp) : Ro L' N' H' v o fp :=
 Ro.rec (motive_1 := λ v o fp _ => (∀ a ∈ fp, ∀ u, H a = some u -> H' a = some u) -> Ro L' N' H' v o fp) (motive_2 := λ vs os fp _ => (∀ a ∈ fp, ∀ u, H a = some u -> H' a = some u) -> RoL L' N' H' vs os fp)
  (λ h _ => .lf (hL _ _ _ h)) (λ h _ r k => .ls (k _ zzC _ h) (r λ a m => k a (zzA _ m))) (λ h l _ r k => .dc (k _ zzC _ h) l (r λ a m => k a (zzA _ m))) (λ c h l _ r k => .ob (hL _ _ _ c) (k _ zzC _ h) l (r λ a m => k a (zzA _ m))) (λ h l _ r k => .dt (k _ zzC _ h) l (r λ a m => k a (zzA _ m))) (λ n h _ r k => .tp (hN _ _ n h).1 (hN _ _ n h).2 (r k))
  (λ _ => .nil) (λ _ _ h r k => .cons (h λ a m => k a (zzM _ m)) (r λ a m => k a (zzI _ m))) h k
theorem RoL.ind {P : List V -> List O -> List Addr -> Prop} (h0 : P [] [] []) (h1 : ∀ {v o vs os fp fq}, Ro L N H v o fp -> RoL L N H vs os fq -> P vs os fq -> P (v :: vs) (o :: os) (fp ++ fq)) {vs : List V} {os : List O} {fp : List Addr} (h : RoL L N H vs os fp) : P vs os fp :=
 RoL.rec (motive_1 := λ _ _ _ _ => True) (motive_2 := λ vs os fp _ => P vs os fp) (λ _ => ⟨⟩) (λ _ _ _ => ⟨⟩) (λ _ _ _ _ => ⟨⟩) (λ _ _ _ _ _ => ⟨⟩) (λ _ _ _ _ => ⟨⟩) (λ _ _ _ _ => ⟨⟩) h0 (λ a r _ ih => h1 a r ih) h
theorem RoL.mono (hL : ∀ st v d, L st v d -> L' st v d) (hN : ∀ a vs, N a -> H a = some (.tup vs) -> N' a /\ H' a = some (.tup vs)) {vs : List V} {os : List O} {fp : List Addr} (k : ∀ a ∈ fp, ∀ u, H a = some u -> H' a = some u) (h : RoL L N H vs os fp) : RoL L' N' H' vs os fp :=
 RoL.ind (P := λ vs os fp => (∀ a ∈ fp, ∀ u, H a = some u -> H' a = some u) -> RoL L' N' H' vs os fp) (λ _ => .nil) (λ h _ r k => .cons (Ro.mono hL hN (λ a m => k a (zzM _ m)) h) (r λ a m => k a (zzI _ m))) h k
theorem zbj : ∀ {ks : List Key} {vs : List V} {ds : List D}, RpL K kd Ob H vs ds -> ks.length = vs.length -> RpM K kd Ob H (ks.zip vs) (ks.zip ds)
 | [], _, _, _, _ => .nil
 | _ :: _, _, _, .nil, e => by simp at e
 | _ :: _, _, _, .cons h r, e => .cons h (zbj r (by simpa using e))
theorem Ro.rp (b : Bool) (hL : ∀ st v d, (b = true -> st = true) -> L st v d -> Rp K kd Ob H v d) (hN : ∀ a, N a -> ¬ Ob a) {v : V} {o : O} {fp : List Addr} (s : b = true -> o.str = true) (k : ∀ a ∈ fp, ¬ Ob a) (h : Ro L N H v o fp) : Rp K kd Ob H v o.toD :=
 Ro.rec (motive_1 := λ v o fp _ => (b = true -> o.str = true) -> (∀ a ∈ fp, ¬ Ob a) -> Rp K kd Ob H v o.toD) (motive_2 := λ vs os fp _ => (b = true -> O.strs os = true) -> (∀ a ∈ fp, ¬ Ob a) -> RpL K kd Ob H vs (O.toDs os))
  (λ h s _ => hL _ _ _ s h) (λ h _ r s k => .lst (k _ zzC) (.inl h) (r s λ a m => k a (zzA _ m))) (λ h l _ r s k => .dct (k _ zzC) (.inl h) (zbj (r s λ a m => k a (zzA _ m)) l)) (λ c h l _ r s k => by
   have e := (hL _ _ _ (λ _ => rfl) c).cl_eq
   subst e
   exact .ob (k _ zzC) h l (r s λ a m => k a (zzA _ m))) (λ h l _ r s k => .dt (k _ zzC) h l (r s λ a m => k a (zzA _ m))) (λ n h _ r s k => .tup (hN _ n) h (r s k))
  (λ _ _ => .nil) (λ _ _ h r s k => .cons (h (λ z => ((Bool.and_eq_true _ _).mp (s z)).1) λ a m => k a (zzM _ m)) (r (λ z => ((Bool.and_eq_true _ _).mp (s z)).2) λ a m => k a (zzI _ m))) h s k
theorem RoL.rp (b : Bool) (hL : ∀ st v d, (b = true -> st = true) -> L st v d -> Rp K kd Ob H v d) (hN : ∀ a, N a -> ¬ Ob a) {vs : List V} {os : List O} {fp : List Addr} (s : b = true -> O.strs os = true) (k : ∀ a ∈ fp, ¬ Ob a) (h : RoL L N H vs os fp) : RpL K kd Ob H vs (O.toDs os) :=
 RoL.ind (P := λ vs os fp => (b = true -> O.strs os = true) -> (∀ a ∈ fp, ¬ Ob a) -> RpL K kd Ob H vs (O.toDs os)) (λ _ _ => .nil) (λ h _ r s k => .cons (Ro.rp b hL hN (λ z => ((Bool.and_eq_true _ _).mp (s z)).1) (λ a m => k a (zzM _ m)) h) (r (λ z => ((Bool.and_eq_true _ _).mp (s z)).2) λ a m => k a (zzI _ m))) h s k
theorem RoL.length {vs : List V} {os : List O} {fp : List Addr} (h : RoL L N H vs os fp) : vs.length = os.length := RoL.ind (P := λ vs os _ => vs.length = os.length) rfl (λ _ _ r => congrArg (· + 1) r) h
theorem Xz : ∀ os : List O, (O.toDs os).length = os.length
 | [] => rfl
 | _ :: r => congrArg (· + 1) (Xz r)
theorem RoL.append {vs ws : List V} {os ps : List O} {f g : List Addr} (h : RoL L N H vs os f) (r : RoL L N H ws ps g) : RoL L N H (vs ++ ws) (os ++ ps) (f ++ g) := RoL.ind (P := λ vs os f => RoL L N H (vs ++ ws) (os ++ ps) (f ++ g)) r (λ h _ t => by rw [List.append_assoc]; exact .cons h t) h
theorem RoL.one {v : V} {o : O} {f : List Addr} (h : Ro L N H v o f) : RoL L N H [v] [o] f := by
 have := RoL.cons h (RoL.nil (L := L) (N := N) (H := H))
 rw [List.append_nil] at this
 exact this
theorem RoL.at_ {k : Nat} {o : O} : ∀ {vs : List V} {os : List O} {fp : List Addr}, RoL L N H vs os fp -> os[k]? = some o -> ∃ v f fo g, vs[k]? = some v /\ fp = f ++ (fo ++ g) /\ Ro L N H v o fo /\ RoL L N H (vs.take k) (os.take k) f /\ RoL L N H (vs.drop (k + 1)) (os.drop (k + 1)) g := by
 induction k with
 | zero =>
  intro vs os fp h e
  cases h with
  | nil => cases e
  | cons h r =>
   rw [List.getElem?_cons_zero] at e
   cases e
   exact ⟨_, [], _, _, rfl, rfl, h, .nil, r⟩
 | succ k ih =>
  intro vs os fp h e
  cases h with
  | nil => cases e
  | cons h r =>
   rw [List.getElem?_cons_succ] at e
   obtain ⟨v, f, fo, g, e1, e2, h1, h2, h3⟩ := ih r e
   subst e2
   exact ⟨v, _, fo, g, by rw [List.getElem?_cons_succ]; exact e1, (List.append_assoc _ _ _).symm, h1, .cons h h2, h3⟩
theorem zaK {α : Type} (l : List α) (k : Nat) : l.eraseIdx k = l.take k ++ l.drop (k + 1) := List.eraseIdx_eq_take_drop_succ l k
end
abbrev AS := List (Option O)
abbrev Ad := Nat -> List Addr
def Gw (T : List Addr) (ad : Ad) : Addr -> Prop := λ a => a ∈ T \/ ∃ i, a ∈ ad i
abbrev Lv (F B G : Addr -> Prop) (st : Bool) : Addr -> Prop := Un2 (λ a => (st = true /\ F a) \/ B a) G
abbrev Lf (K : zC) (kd : KD) (F B G : Addr -> Prop) (H : Hp) : Bool -> V -> D -> Prop := λ st v d => Rp K kd (Lv F B G st) H v d
abbrev Nf (F B G : Addr -> Prop) : Addr -> Prop := λ a => ¬ Lv F B G true a
abbrev RoS (K : zC) (kd : KD) (F B G : Addr -> Prop) (H : Hp) : V -> O -> List Addr -> Prop := Ro (Lf K kd F B G H) (Nf F B G) H
abbrev v5 (K : zC) (kd : KD) (F B G : Addr -> Prop) (H : Hp) : List V -> List O -> List Addr -> Prop := RoL (Lf K kd F B G H) (Nf F B G) H
def zbx (K : zC) (kd : KD) (F B G : Addr -> Prop) (H : Hp) : Option O -> Option (Option V) -> List Addr -> Prop
 | none, _, fp => fp = []
 | some o, s, fp => ∃ v, s = some (some v) /\ RoS K kd F B G H v o fp
structure Rel (K : zC) (kd : KD) (F B : Addr -> Prop) (T : List Addr) (ad : Ad) (as : AS) (σ : St) (H : Hp) : Prop where
 len : as.length = σ.length
 out : ∀ i, as.length <= i -> ad i = []
 nd : ∀ i, (ad i).Nodup
 inj : ∀ i j a, a ∈ ad i -> a ∈ ad j -> i = j
 tnd : T.Nodup
 dis : ∀ i a, a ∈ ad i -> a ∉ T
 ftr : ∀ a, F a -> H a ≠ none
 btr : ∀ a, B a -> H a ≠ none /\ ¬ F a /\ ¬ Gw T ad a
 gtr : ∀ a, Gw T ad a -> H a ≠ none /\ ¬ F a
 sl : ∀ i s, as[i]? = some s -> zbx K kd F B (Gw T ad) H s σ[i]? (ad i)
inductive RV where
 | ow (o : O) | bo (i : Nat)
def vJ (K : zC) (kd : KD) (F B : Addr -> Prop) (T : List Addr) (ad : Ad) (σ : St) (H : Hp) (v : V) : RV -> Prop
 | .ow o => RoS K kd F B (Gw T ad) H v o T
 | .bo i => T = [] /\ σ[i]? = some (some v)
def O.frz (o : O) : O := .lf o.str o.toD
def RV.frz : RV -> RV
 | .ow o => .ow o.frz
 | .bo i => .bo i
def O.isLf : O -> Bool
 | .lf _ _ => true
 | _ => false
def O.kl : O -> Option Bool
 | .lf st _ => some st
 | .nd _ os => if os.all O.isLf = true then some (O.strs os) else none
def RV.view (as : AS) : RV -> Option (D × Option Bool)
 | .ow o => some (o.toD, some o.str)
 | .bo i => match as[i]? with
  | some (some o) => some (o.toD, o.kl)
  | _ => none
def Obl (F B G : Addr -> Prop) : Option Bool -> Addr -> Prop
 | some st => Lv F B G st
 | none => λ _ => False
section
variable {K : zC} {kd : KD} {F B F' B' : Addr -> Prop} {G G' : Addr -> Prop} {T T' : List Addr} {ad ad1 : Ad} {as as1 : AS} {σ : St} {H H1 H' : Hp} {v : V} {r : RV} {o : O} {fp : List Addr} {vs : List V} {os : List O}
theorem RoS.grow (g : Grow G H G' H') (k : ∀ a ∈ fp, ∀ u, H a = some u -> H' a = some u) (h : RoS K kd F B G H v o fp) : RoS K kd F B G' H' v o fp :=
 Ro.mono (λ st v d r => Rp.grow g r) (λ a vs n e => ⟨λ z => z.elim (λ y => n (.inl y)) λ y => (g.own a y).elim (λ w => n (.inr w)) λ w => (by rw [w] at e; cases e), g.keep a _ e (λ w => n (.inr w))⟩) k h
theorem v5.grow (g : Grow G H G' H') (k : ∀ a ∈ fp, ∀ u, H a = some u -> H' a = some u) (h : v5 K kd F B G H vs os fp) : v5 K kd F B G' H' vs os fp :=
 RoL.mono (λ st v d r => Rp.grow g r) (λ a vs n e => ⟨λ z => z.elim (λ y => n (.inl y)) λ y => (g.own a y).elim (λ w => n (.inr w)) λ w => (by rw [w] at e; cases e), g.keep a _ e (λ w => n (.inr w))⟩) k h
theorem RoS.lv (g : ∀ st a, Lv F' B' G' st a -> Lv F B G st a) (h : RoS K kd F B G H v o fp) : RoS K kd F' B' G' H v o fp :=
 Ro.mono (λ st v d r => r.less (g st)) (λ a vs n e => ⟨λ z => n (g true a z), e⟩) (λ _ _ _ e => e) h
theorem v5.lv (g : ∀ st a, Lv F' B' G' st a -> Lv F B G st a) (h : v5 K kd F B G H vs os fp) : v5 K kd F' B' G' H vs os fp :=
 RoL.mono (λ st v d r => r.less (g st)) (λ a vs n e => ⟨λ z => n (g true a z), e⟩) (λ _ _ _ e => e) h
theorem RoS.less (g : ∀ a, G' a -> G a) (h : RoS K kd F B G H v o fp) : RoS K kd F B G' H v o fp := RoS.lv (λ _ a z => z.elim .inl λ y => .inr (g a y)) h
theorem Gw.drop : ∀ a, Gw [] ad a -> Gw T ad a := λ _ h => h.elim (λ z => nomatch z) .inr
theorem Rel.trk (R : Rel K kd F B T ad as σ H) (st : Bool) : ∀ a, Lv F B (Gw T ad) st a -> H a ≠ none := λ a h => by
 rcases h with (h | h) | h
 · exact R.ftr a h.2
 · exact (R.btr a h).1
 · exact (R.gtr a h).1
theorem Rel.tr (R : Rel K kd F B T ad as σ H) (lv : Option Bool) : ∀ a, Obl F B (Gw T ad) lv a -> H a ≠ none := λ a h => by
 cases lv with
 | none => exact h.elim
 | some st => exact R.trk st a h
theorem zbx.lv {s : Option O} {x : Option (Option V)} (g : ∀ st a, Lv F' B' G' st a -> Lv F B G st a) (h : zbx K kd F B G H s x fp) : zbx K kd F' B' G' H s x fp := by
 cases s with
 | none => exact h
 | some o => obtain ⟨v, e, r⟩ := h; exact ⟨v, e, RoS.lv g r⟩
theorem zbx.less {s : Option O} {x : Option (Option V)} (g : ∀ a, G' a -> G a) (h : zbx K kd F B G H s x fp) : zbx K kd F B G' H s x fp := h.lv (λ _ a z => z.elim .inl λ y => .inr (g a y))
theorem zbx.grow {s : Option O} {x : Option (Option V)} (g : Grow G H G' H') (k : ∀ a ∈ fp, ∀ u, H a = some u -> H' a = some u) (h : zbx K kd F B G H s x fp) : zbx K kd F B G' H' s x fp := by
 cases s with
 | none => exact h
 | some o => obtain ⟨v, e, r⟩ := h; exact ⟨v, e, RoS.grow g k r⟩
theorem Rel.drop (R : Rel K kd F B T ad as σ H) : Rel K kd F B [] ad as σ H where
 len := R.len
 out := R.out
 nd := R.nd
 inj := R.inj
 tnd := List.nodup_nil
 dis := λ _ _ _ z => nomatch z
 ftr := R.ftr
 btr := λ a h => let ⟨h1, h2, h3⟩ := R.btr a h; ⟨h1, h2, λ z => h3 (Gw.drop a z)⟩
 gtr := λ a h => R.gtr a (Gw.drop a h)
 sl := λ i s e => (R.sl i s e).less Gw.drop
theorem zfH (R : Rel K kd F B T ad as σ H) (h : RoS K kd F B (Gw T ad) H v o T) : Rp K kd (Lv F B (Gw [] ad) o.str) H v o.toD :=
 Ro.rp o.str (λ st v d hs r => r.less λ a z => z.elim (λ y => .inl (y.elim (λ x => .inl ⟨hs x.1, x.2⟩) .inr)) λ y => .inr (Gw.drop a y))
  (λ a n z => n (z.elim (λ y => .inl (y.elim (λ x => .inl ⟨rfl, x.2⟩) .inr)) λ y => .inr (Gw.drop a y))) id
  (λ a m z => by
   rcases z with (z | z) | z | ⟨i, z⟩
   · exact (R.gtr a (.inl m)).2 z.2
   · exact (R.btr a z).2.2 (.inl m)
   · cases z
   · exact R.dis i a z m) h
theorem vJ.drop (R : Rel K kd F B T ad as σ H) (h : vJ K kd F B T ad σ H v r) : vJ K kd F B [] ad σ H v r.frz := by
 cases r with
 | ow o => exact .lf (zfH R h)
 | bo i => exact ⟨rfl, h.2⟩
theorem vJ.grow (g : Grow (Gw [] ad) H (Gw [] ad1) H1) (h : vJ K kd F B [] ad σ H v r) : vJ K kd F B [] ad1 σ H1 v r := by
 cases r with
 | ow o => exact RoS.grow g (λ _ m => nomatch m) h
 | bo i => exact h
theorem zjw {vs : List V} {os : List O} {fp : List Addr} (h : v5 K kd F B G H vs os fp) : os.all O.isLf = true -> fp = [] :=
 RoL.ind (P := λ _ os fp => os.all O.isLf = true -> fp = []) (λ _ => rfl) (λ h _ ih e => by
  rw [List.all_cons, Bool.and_eq_true] at e
  rw [ih e.2, List.append_nil]
  cases h with
  | lf => rfl
  | ls => cases e.1
  | dc => cases e.1
  | ob => cases e.1
  | dt => cases e.1
  | tp => cases e.1) h
theorem zcc {st : Bool} {b : Bool} (hs : b = true -> st = true) : ∀ a, Lv F B G b a -> Lv F B G st a := λ a z => z.elim (λ y => .inl (y.elim (λ x => .inl ⟨hs x.1, x.2⟩) .inr)) .inr
theorem zab (h : v5 K kd F B G H vs os fp) (e : os.all O.isLf = true) : RpL K kd (Lv F B G (O.strs os)) H vs (O.toDs os) := by
 have := zjw h e
 subst this
 exact RoL.rp (O.strs os) (λ st v d hs r => r.less (zcc hs)) (λ a n z => n (zcc (λ _ => rfl) a z)) id (by intro a m; cases m) h
theorem Wo (h : v5 K kd F B G H vs os fp) : RpL K kd (λ _ => False) H vs (O.toDs os) := RoL.rp false (λ st v d _ r => r.less λ _ z => z.elim) (λ _ _ z => z) (λ z => Bool.noConfusion z) (λ _ _ z => z) h
theorem zdu (h : RoS K kd F B G H v o fp) : Rp K kd (λ _ => False) H v o.toD := Ro.rp false (λ st v d _ r => r.less λ _ z => z.elim) (λ _ _ z => z) (λ z => Bool.noConfusion z) (λ _ _ z => z) h
theorem zdK (h : RoS K kd F B G H v o []) : Rp K kd (Lv F B G o.str) H v o.toD :=
 Ro.rp o.str (λ st v d hs r => r.less (zcc hs)) (λ a n z => n (zcc (λ _ => rfl) a z)) id (by intro a m; cases m) h
theorem RoS.vw (h : RoS K kd F B G H v o fp) : Vw K kd (Obl F B G o.kl) H v o.toD := by
 cases h with
 | lf h => exact h.vw
 | ls hH r =>
  rename_i a vs' os' fp'
  show Vw K kd (Obl F B G (if os'.all O.isLf = true then some (O.strs os') else none)) H _ (.lst (O.toDs os'))
  by_cases e : os'.all O.isLf = true
  · rw [if_pos e]; exact .lst (.inl (.inl hH)) (zab r e)
  · rw [if_neg e]; exact .lst (.inl (.inl hH)) (Wo r)
 | dc hH l r =>
  rename_i a ks vs' os' fp'
  show Vw K kd (Obl F B G (if os'.all O.isLf = true then some (O.strs os') else none)) H _ (.dct (ks.zip (O.toDs os')))
  by_cases e : os'.all O.isLf = true
  · rw [if_pos e]; exact .dct (.inl (.inl hH)) (zbj (zab r e) l)
  · rw [if_neg e]; exact .dct (.inl (.inl hH)) (zbj (Wo r) l)
 | ob hc hH l r =>
  rename_i a dx C c ns vs' os' fp'
  have ec : C = kd.c c := hc.cl_eq
  subst ec
  show Vw K kd (Obl F B G (if os'.all O.isLf = true then some (O.strs os') else none)) H _ (.ob c ns (O.toDs os'))
  by_cases e : os'.all O.isLf = true
  · rw [if_pos e]; exact .ob hH l (zab r e)
  · rw [if_neg e]; exact .ob hH l (Wo r)
 | dt hH l r =>
  rename_i a ks vs' os' fp'
  show Vw K kd (Obl F B G (if os'.all O.isLf = true then some (O.strs os') else none)) H _ (.dt ks (O.toDs os'))
  by_cases e : os'.all O.isLf = true
  · rw [if_pos e]; exact .dt hH l (zab r e)
  · rw [if_neg e]; exact .dt hH l (Wo r)
 | tp n hH r =>
  rename_i a vs' os'
  show Vw K kd (Obl F B G (if os'.all O.isLf = true then some (O.strs os') else none)) H _ (.tup (O.toDs os'))
  by_cases e : os'.all O.isLf = true
  · rw [if_pos e]
    have rl := zab r e
    exact .tup (.tup (λ z => n (zcc (λ _ => rfl) _ z)) hH rl) (.inl (.inl hH)) rl
  · rw [if_neg e]; exact .tup (.tup (λ z => z) hH (Wo r)) (.inl (.inl hH)) (Wo r)
theorem vJ.vw (R : Rel K kd F B [] ad as σ H) (h : vJ K kd F B [] ad σ H v r) {d : D} {lv : Option Bool} (e : r.view as = some (d, lv)) : Vw K kd (Obl F B (Gw [] ad) lv) H v d := by
 cases r with
 | ow o =>
  cases e
  exact (zdK h).vw
 | bo i =>
  have e : (match as[i]? with | some (some o) => some (o.toD, o.kl) | _ => none) = some (d, lv) := e
  cases k : as[i]? with
  | none => rw [k] at e; cases e
  | some s =>
   cases s with
   | none => rw [k] at e; cases e
   | some o =>
    rw [k] at e
    cases e
    obtain ⟨w, hw, ro⟩ := R.sl i _ k
    rw [h.2] at hw
    cases hw
    exact ro.vw
theorem Rel.add {N : List Addr} (R : Rel K kd F B T ad as σ H) (hn : N.Nodup) (hl : ∀ a ∈ N, H a = none) (k : ∀ b u, H b = some u -> H' b = some u) (h1 : ∀ a ∈ N, H' a ≠ none) : Rel K kd F B (N ++ T) ad as σ H' /\ Grow (Gw T ad) H (Gw (N ++ T) ad) H' := by
 have g : Grow (Gw T ad) H (Gw (N ++ T) ad) H' := ⟨λ b u h _ => k b u h, λ b h => by
  rcases h with h | h
  · rcases zzJ.mp h with h | h
    · exact .inr (hl b h)
    · exact .inl (.inl h)
  · exact .inl (.inr h)⟩
 have kn : ∀ a, H a ≠ none -> H' a ≠ none := λ a z => by
  cases e : H a with
  | none => exact absurd e z
  | some u => rw [k a u e]; simp
 refine ⟨⟨R.len, R.out, R.nd, R.inj, ?_, λ i a m z => ?_, λ a z => kn a (R.ftr a z), λ a z => ?_, λ a z => ?_, λ i s e => (R.sl i s e).grow g λ a _ u h => k a u h⟩, g⟩
 · refine List.nodup_append.mpr ⟨hn, R.tnd, λ a m b m' e => ?_⟩
   subst e
   exact (R.gtr a (.inl m')).1 (hl a m)
 · rcases zzJ.mp z with z | z
   · exact (R.gtr a (.inr ⟨i, m⟩)).1 (hl a z)
   · exact R.dis i a m z
 · obtain ⟨b1, b2, b3⟩ := R.btr a z
   refine ⟨kn a b1, b2, λ y => ?_⟩
   rcases y with y | y
   · rcases zzJ.mp y with y | y
     · exact b1 (hl a y)
     · exact b3 (.inl y)
   · exact b3 (.inr y)
 · rcases z with z | z
   · rcases zzJ.mp z with z | z
     · exact ⟨h1 a z, λ f => R.ftr a f (hl a z)⟩
     · exact ⟨kn a (R.gtr a (.inl z)).1, (R.gtr a (.inl z)).2⟩
   · exact ⟨kn a (R.gtr a (.inr z)).1, (R.gtr a (.inr z)).2⟩
theorem Rel.more (R : Rel K kd F B T ad as σ H) (k : ∀ b u, H b = some u -> H' b = some u) : Rel K kd F B T ad as σ H' /\ Grow (Gw T ad) H (Gw T ad) H' :=
 R.add (N := []) List.nodup_nil (λ _ m => nomatch m) k (λ _ m => nomatch m)
theorem Rel.news (R : Rel K kd F B [] ad as σ H) (hn : T'.Nodup) (hl : ∀ a ∈ T', H a = none) (k : ∀ b u, H b = some u -> H' b = some u) (h1 : ∀ a ∈ T', H' a ≠ none) : Rel K kd F B T' ad as σ H' /\ Grow (Gw [] ad) H (Gw T' ad) H' := by
 have := R.add hn hl k h1
 rw [List.append_nil] at this
 exact this
end
inductive R0 where
 | im (d : D) | fl (ds : List D) | fd (kvs : List (Key × D))
def RQ (K : zC) (kd : KD) (O : Addr -> Prop) (H : Hp) (Q : VK) : R0 -> Prop
 | .im d => ∀ v H', (∀ b o, H b = some o -> H' b = some o) -> Rp K kd O H' v d -> Q v H'
 | .fl ds => ∀ l vs H', H l = none -> (∀ b o, H b = some o -> H' b = some o) -> H' l = some (.lst vs) -> RpL K kd (Un2 O (· = l)) H' vs ds -> Q (.ref l) H'
 | .fd ds => ∀ l vs H', H l = none -> (∀ b o, H b = some o -> H' b = some o) -> H' l = some (.dK vs) -> RpM K kd (Un2 O (· = l)) H' vs ds -> Q (.ref l) H'
def wrap (lv : Option Bool) : R0 -> Option RV
 | .im d => if (zL d || lv.isSome) = true then some (.ow (lfs (lv.getD false) d)) else none
 | .fl ds => if (ds.all zL || lv.isSome) = true then some (.ow (.nd .ls (ds.map (lfs (lv.getD false))))) else none
 | .fd kvs => if ((kvs.map (·.2)).all zL || lv.isSome) = true then some (.ow (.nd (.dc (kvs.map (·.1))) ((kvs.map (·.2)).map (lfs (lv.getD false))))) else none
theorem bS_ {α β : Type} {o : Option α} {f : α -> Option β} {b : β} (h : o.bind f = some b) : ∃ a, o = some a /\ f a = some b := by
 cases o with
 | none => cases h
 | some a => exact ⟨a, rfl, h⟩
theorem ite_some' {α : Type} {c : Prop} [Decidable c] {a : Option α} {b : α} (h : (if c then a else none) = some b) : c /\ a = some b := by
 by_cases hc : c
 · rw [if_pos hc] at h; exact ⟨hc, h⟩
 · rw [if_neg hc] at h; cases h
theorem zR {α : Type} {c : Prop} [Decidable c] {a b : α} (h : (if c then some a else none) = some b) : c /\ a = b := by
 by_cases hc : c
 · rw [if_pos hc] at h; cases h; exact ⟨hc, rfl⟩
 · rw [if_neg hc] at h; cases h
section
variable {K : zC} {kd : KD} {F B : Addr -> Prop} {G : Addr -> Prop} {ad : Ad} {as : AS} {σ : St} {H H' : Hp} {v : V} {r : R0} {rv : RV} {Q : VK} {lv : Option Bool}
theorem zla {Ob : Addr -> Prop} {d : D} (h : zL d = true \/ lv.isSome = true) (hO : ∀ st, lv = some st -> ∀ a, Lv F B G st a -> Ob a) (rp : Rp K kd Ob H v d) : Lf K kd F B G H (zL d || lv.getD false) v d := by
 cases e : zL d with
 | true => exact rp.flat e
 | false =>
  rw [e] at h
  cases lv with
  | none => rcases h with h | h <;> cases h
  | some st => exact rp.less (hO st rfl)
theorem zix {Ob : Addr -> Prop} {N : Addr -> Prop} (hO : ∀ st, lv = some st -> ∀ a, Lv F B G st a -> Ob a) {vs : List V} {ds : List D} (e : (ds.all zL || lv.isSome) = true) (h : RpL K kd Ob H vs ds) : RoL (Lf K kd F B G H) N H vs (ds.map (lfs (lv.getD false))) [] :=
 RpL.ind (P := λ vs ds => (ds.all zL || lv.isSome) = true -> RoL (Lf K kd F B G H) N H vs (ds.map (lfs (lv.getD false))) []) (λ _ => .nil) (λ {v d vs ds} h _ ih e => by
  rw [List.all_cons] at e
  have e1 : zL d = true \/ lv.isSome = true := by
   cases h1 : lv.isSome <;> cases h2 : zL d <;> simp [h1, h2] at e ⊢
  have e2 : (ds.all zL || lv.isSome) = true := by
   cases h1 : lv.isSome with
   | true => simp
   | false =>
    rw [h1, Bool.or_false, Bool.and_eq_true] at e
    rw [Bool.or_false]; exact e.2
  exact RoL.cons (.lf (zla e1 hO h)) (ih e2)) h e
theorem zha {O : Addr -> Prop} {vs : List (Key × V)} {ds : List (Key × D)} (h : RpM K kd O H vs ds) : vs = (ds.map (·.1)).zip (vs.map (·.2)) /\ RpL K kd O H (vs.map (·.2)) (ds.map (·.2)) :=
 RpM.ind (P := λ vs ds => vs = (ds.map (·.1)).zip (vs.map (·.2)) /\ RpL K kd O H (vs.map (·.2)) (ds.map (·.2))) ⟨rfl, .nil⟩ (λ h _ ih => by
  obtain ⟨h1, h2⟩ := ih
  refine ⟨?_, .cons h h2⟩
  conv => lhs; rw [h1]
  rfl) h
theorem Vt (R : Rel K kd F B [] ad as σ H) (e : wrap lv r = some rv) (q : ∀ v T' H', Rel K kd F B T' ad as σ H' -> vJ K kd F B T' ad σ H' v rv -> Grow (Gw [] ad) H (Gw T' ad) H' -> Q v H') : RQ K kd (Obl F B (Gw [] ad) lv) H Q r := by
 have hO : ∀ (l : List Addr) st, lv = some st -> ∀ a, Lv F B (Gw l ad) st a -> Un2 (Obl F B (Gw [] ad) lv) (· ∈ l) a := by
  intro l st e a z
  subst e
  rcases z with z | z | z
  · exact .inl (.inl z)
  · exact .inr z
  · exact .inl (.inr (.inr z))
 cases r with
 | im d =>
  obtain ⟨c, rfl⟩ := zR e
  intro v H' k rp
  obtain ⟨R', g⟩ := R.more k
  refine q v [] H' R' (.lf (zla ((Bool.or_eq_true _ _).mp c) (λ st e a z => ?_) rp)) g
  exact (hO [] st e a z).elim id λ m => nomatch m
 | fl ds =>
  obtain ⟨c, rfl⟩ := zR e
  intro l vs H' hl k hl' rp
  obtain ⟨R', g⟩ := R.news (T' := [l]) (by simp) (λ a m => by rw [zzO.mp m]; exact hl) k (λ a m => by rw [zzO.mp m, hl']; simp)
  exact q _ [l] H' R' (.ls hl' (zix (λ st e a z => (hO [l] st e a z).elim .inl λ m => .inr (zzO.mp m)) c rp)) g
 | fd ds =>
  obtain ⟨c, rfl⟩ := zR e
  intro l vs H' hl k hl' rp
  obtain ⟨R', g⟩ := R.news (T' := [l]) (by simp) (λ a m => by rw [zzO.mp m]; exact hl) k (λ a m => by rw [zzO.mp m, hl']; simp)
  obtain ⟨e1, r1⟩ := zha rp
  refine q _ [l] H' R' (.dc (vs := vs.map (·.2)) (by rw [hl', <- e1]) (by rw [zD, zD, rp.length]) (zix (λ st e a z => (hO [l] st e a z).elim .inl λ m => .inr (zzO.mp m)) c r1)) g
end
abbrev EF := AS -> Option (RV × AS)
def al (K : zC) (kd : KD) (f : EF) : TE := λ σ H Q => ∃ F B ad as r as', Rel K kd F B [] ad as σ H /\ f as = some (r, as') /\
 ∀ v T' ad' H', Rel K kd F B T' ad' as' σ H' -> vJ K kd F B T' ad' σ H' v r -> Grow (Gw [] ad) H (Gw T' ad') H' -> Q v H'
@[irreducible] def AE (X : Cx) (kd : KD) (e : Expr) (f : EF) : Prop := PE X e (al X.K kd f)
theorem wG {X : Cx} {e : Expr} {t t' : TE} (h : PE X e t) (k : ∀ σ H Q, t' σ H Q -> t σ H Q) : PE X e t' := λ pins s σ H Q I q => h pins s σ H Q I (k σ H Q q)
section
variable {K : zC} {kd : KD} {F B : Addr -> Prop} {ad : Ad} {as as1 : AS} {σ : St} {H : Hp} {r : RV} {f : EF} {P : VK}
theorem Wi (R : Rel K kd F B [] ad as σ H) (e : f as = some (r, as1)) (k : ∀ v ad1 H1, Rel K kd F B [] ad1 as1 σ H1 -> vJ K kd F B [] ad1 σ H1 v r.frz -> Grow (Gw [] ad) H (Gw [] ad1) H1 -> P v H1) : al K kd f σ H P :=
 ⟨F, B, ad, as, r, as1, R, e, λ v T' ad' H' R' rv g => k v ad' H' R'.drop (vJ.drop R' rv) (g.trans (Grow.less Gw.drop))⟩
end
def OpD (X : Cx) (kd : KD) (f : Value -> Value -> Sem Value) (g : D -> D -> Option R0) : Prop :=
 OpR X f (λ x y H Q => ∃ O d e r, (∀ a, O a -> H a ≠ none) /\ Vw X.K kd O H x d /\ Vw X.K kd O H y e /\ g d e = some r /\ RQ X.K kd O H Q r)
inductive VwL (K : zC) (kd : KD) (O : Addr -> Prop) (H : Hp) : List V -> List D -> Prop
 | nil : VwL K kd O H [] []
 | cons {v : V} {d : D} {vs : List V} {ds : List D} : Vw K kd O H v d -> VwL K kd O H vs ds -> VwL K kd O H (v :: vs) (d :: ds)
def CallD (X : Cx) (kd : KD) (f : Value) (g : List D -> Option R0) : Prop :=
 zaF X f (λ xs H Q => ∃ O ds r, (∀ a, O a -> H a ≠ none) /\ VwL X.K kd O H xs ds /\ g ds = some r /\ RQ X.K kd O H Q r)
def IxD (X : Cx) (kd : KD) (g : D -> D -> Option R0) : Prop :=
 IxR X (λ x y H Q => ∃ O d e r, (∀ a, O a -> H a ≠ none) /\ Vw X.K kd O H x d /\ Vw X.K kd O H y e /\ g d e = some r /\ RQ X.K kd O H Q r)
def meet : Option Bool -> Option Bool -> Option Bool
 | some a, some b => some (a && b)
 | _, _ => none
theorem Obl.meet1 {F B G : Addr -> Prop} {a b : Option Bool} : ∀ x, Obl F B G (meet a b) x -> Obl F B G a x := λ x h => by
 cases a with
 | none => cases b <;> exact h.elim
 | some p =>
  cases b with
  | none => exact h.elim
  | some q => exact zcc (λ z => ((Bool.and_eq_true _ _).mp z).1) x h
theorem Obl.meet2 {F B G : Addr -> Prop} {a b : Option Bool} : ∀ x, Obl F B G (meet a b) x -> Obl F B G b x := λ x h => by
 cases a with
 | none => cases b <;> exact h.elim
 | some p =>
  cases b with
  | none => exact h.elim
  | some q => exact zcc (λ z => ((Bool.and_eq_true _ _).mp z).2) x h
theorem Vw.less {K : zC} {kd : KD} {O O' : Addr -> Prop} {H : Hp} {v : V} {d : D} (g : ∀ a, O' a -> O a) (h : Vw K kd O H v d) : Vw K kd O' H v d := by
 cases h with
 | non => exact .non
 | bl b => exact .bl b
 | int i => exact .int i
 | str x => exact .str x
 | tup r s l => exact .tup (r.less g) s (l.less g)
 | lst h l => exact .lst h (l.less g)
 | dct h l => exact .dct h (l.less g)
 | cl c => exact .cl c
 | ob h k l => exact .ob h k (l.less g)
 | dt h k l => exact .dt h k (l.less g)
def f2 (fa fb : EF) (g : D -> D -> Option R0) : EF := λ as => (fa as).bind λ p => (fb p.2).bind λ q => (p.1.frz.view q.2).bind λ x => (q.1.frz.view q.2).bind λ y => (g x.1 y.1).bind λ r => (wrap (meet x.2 y.2) r).bind λ z => some (z, q.2)
theorem zgj {fa fb : EF} {g : D -> D -> Option R0} {as as' : AS} {rv : RV} (h : f2 fa fb g as = some (rv, as')) :
 ∃ p as1 q x y lx ly r, fa as = some (p, as1) /\ fb as1 = some (q, as') /\ p.frz.view as' = some (x, lx) /\ q.frz.view as' = some (y, ly) /\ g x y = some r /\ wrap (meet lx ly) r = some rv := by
 unfold f2 at h
 obtain ⟨⟨p, as1⟩, h1, h⟩ := bS_ h
 obtain ⟨⟨q, as2⟩, h2, h⟩ := bS_ h
 obtain ⟨⟨x, lx⟩, h3, h⟩ := bS_ h
 obtain ⟨⟨y, ly⟩, h4, h⟩ := bS_ h
 obtain ⟨r, h5, h⟩ := bS_ h
 obtain ⟨z, h6, h⟩ := bS_ h
 cases h
 exact ⟨p, as1, q, x, y, lx, ly, r, h1, h2, h3, h4, h5, h6⟩
section
variable {X : Cx} {kd : KD} {a b c : Expr} {fa fb fc : EF} {pos : Pos}
theorem al2 {g : D -> D -> Option R0} {R2' : R2} (hr : ∀ x y H Q, (∃ O d e r, (∀ a, O a -> H a ≠ none) /\ Vw X.K kd O H x d /\ Vw X.K kd O H y e /\ g d e = some r /\ RQ X.K kd O H Q r) -> R2' x y H Q)
 {σ : St} {H : Hp} {Q : VK} (h : al X.K kd (f2 fa fb g) σ H Q) : tOp R2' (al X.K kd fa) (al X.K kd fb) σ H Q := by
 obtain ⟨F, B, ad, as, r, as', R, e, q⟩ := h
 obtain ⟨p, as1, z, x, y, lx, ly, r0, h1, h2, h3, h4, h5, h6⟩ := zgj e
 refine Wi R h1 λ v ad1 H1 R1 rv1 g1 => Wi R1 h2 λ u ad2 H2 R2 rv2 g2 => hr _ _ _ _ ?_
 exact ⟨_, x, y, r0, R2.tr _, (vJ.vw R2 (rv1.grow g2) h3).less Obl.meet1, (vJ.vw R2 rv2 h4).less Obl.meet2, h5, Vt R2 h6 λ w T' H' R' rv' g' => q w T' ad2 H' R' rv' ((g1.trans g2).trans g')⟩
theorem zj {op : Operator} {g : D -> D -> Option R0} (ho : OpD X kd (binaryOp op) g) (ha : AE X kd a fa) (hb' : AE X kd b fb) : AE X kd (.BinOp a op b pos) (f2 fa fb g) := by with_unfolding_all exact (wG (znt ho ha hb') λ σ H Q h => al2 (λ _ _ _ _ z => z) h)
theorem zbE {op : CmpOp} {g : D -> D -> Option R0} (ho : OpD X kd (compareOp op) g) (ha : AE X kd a fa) (hb' : AE X kd b fb) (hm : behindInMarks op b = false) : AE X kd (.Compare a [op] [b] pos) (f2 fa fb g) := by with_unfolding_all exact (wG (zkT ho ha hb' hm) λ σ H Q h => al2 (λ _ _ _ _ z => z) h)
theorem znI {g : D -> D -> Option R0} (ho : IxD X kd g) (ha : AE X kd a fa) (hb' : AE X kd b fb) (hm : Vg b) : AE X kd (.Subscript a b pos) (f2 fa fb g) := by with_unfolding_all exact (wG (ziX ho ha hb' hm) λ σ H Q h => al2 (λ _ _ _ _ z => z) h)
def fC (d : D) : EF := λ as => some (.ow (.lf true d), as)
def fV (i : Nat) : EF := λ as => match as[i]? with
 | some (some (.lf st d)) => some (.ow (.lf st d), as)
 | some (some (.nd _ _)) => some (.bo i, as)
 | _ => none
theorem zdv {v : V} {d : D} (h : PE X a (tC v)) (hr : ∀ O H, Rp X.K kd O H v d) : AE X kd a (fC d) := by with_unfolding_all exact (wG h λ σ H Q h => by
 obtain ⟨F, B, ad, as, r, as', R, e, q⟩ := h
 cases e
 exact q v [] ad H R (.lf (hr _ _)) Grow.refl)
theorem zlJ {i : Nat} (h : PE X a (zbc i)) : AE X kd a (fV i) := by with_unfolding_all exact (wG h λ σ H Q h => by
 obtain ⟨F, B, ad, as, r, as', R, e, q⟩ := h
 unfold fV at e
 cases k : as[i]? with
 | none => rw [k] at e; cases e
 | some s =>
  rw [k] at e
  cases s with
  | none => cases e
  | some o =>
   obtain ⟨v, h1, h2⟩ := R.sl i _ k
   cases o with
   | lf st d =>
    cases e
    have e0 : ad i = [] := by
     generalize hfp : ad i = fp at h2
     cases h2
     rfl
    rw [e0] at h2
    exact ⟨v, h1, q v [] ad H R h2 Grow.refl⟩
   | nd kk os =>
    cases e
    exact ⟨_, h1, q _ [] ad H R ⟨rfl, h1⟩ Grow.refl⟩)
end
def xN (ad : Ad) (i : Nat) (x : List Addr) : Ad := λ j => if j = i then x else ad j
section
variable {K : zC} {kd : KD} {F B : Addr -> Prop} {T T1 T2 : List Addr} {ad ad1 : Ad} {as as1 : AS} {σ : St} {H H1 : Hp} {v : V} {r : RV} {o : O} {i : Nat}
theorem zY {x : List Addr} : xN ad i x i = x := if_pos rfl
theorem z6 {j : Nat} {x : List Addr} (h : j ≠ i) : xN ad i x j = ad j := if_neg h
theorem yX : ∀ a, Gw T (xN ad i []) a -> Gw T ad a := λ a h => by
 rcases h with h | ⟨j, h⟩
 · exact .inl h
 · by_cases e : j = i
   · subst e; rw [zY] at h; cases h
   · rw [z6 e] at h; exact .inr ⟨j, h⟩
theorem YJ : ∀ a, Gw [] (xN ad i T) a -> Gw T ad a := λ a h => by
 rcases h with h | ⟨j, h⟩
 · cases h
 · by_cases e : j = i
   · subst e; rw [zY] at h; exact .inl h
   · rw [z6 e] at h; exact .inr ⟨j, h⟩
theorem zgx : ∀ st a, Lv F (λ a => B a \/ a ∈ T) (Gw [] ad) st a -> Lv F B (Gw T ad) st a := λ st a z => by
 rcases z with (z | z | z) | z
 · exact .inl (.inl z)
 · exact .inl (.inr z)
 · exact .inr (.inl z)
 · exact .inr (Gw.drop a z)
theorem zat : ∀ st a, Lv F B (Gw (T1 ++ T2) ad) st a -> Lv F (λ a => B a \/ a ∈ T1) (Gw T2 ad) st a := λ st a z => by
 rcases z with (z | z) | z | z
 · exact .inl (.inl z)
 · exact .inl (.inr (.inl z))
 · rcases zzJ.mp z with z | z
   · exact .inl (.inr (.inr z))
   · exact .inr (.inl z)
 · exact .inr (.inr z)
theorem Rel.hide (R : Rel K kd F B T ad as σ H) : Rel K kd F (λ a => B a \/ a ∈ T) [] ad as σ H where
 len := R.len
 out := R.out
 nd := R.nd
 inj := R.inj
 tnd := List.nodup_nil
 dis := λ _ _ _ z => nomatch z
 ftr := R.ftr
 btr := λ a h => by
  rcases h with h | h
  · obtain ⟨h1, h2, h3⟩ := R.btr a h
    exact ⟨h1, h2, λ z => h3 (Gw.drop a z)⟩
  · exact ⟨(R.gtr a (.inl h)).1, (R.gtr a (.inl h)).2, λ z => z.elim (λ m => nomatch m) λ ⟨j, y⟩ => R.dis j a y h⟩
 gtr := λ a h => R.gtr a (Gw.drop a h)
 sl := λ i s e => (R.sl i s e).lv zgx
theorem Rel.unhide (hn : T1.Nodup) (hb : ∀ a ∈ T1, ¬ B a) (R : Rel K kd F (λ a => B a \/ a ∈ T1) T2 ad as σ H) : Rel K kd F B (T1 ++ T2) ad as σ H where
 len := R.len
 out := R.out
 nd := R.nd
 inj := R.inj
 tnd := List.nodup_append.mpr ⟨hn, R.tnd, λ a m b m' e => by subst e; exact (R.btr a (.inr m)).2.2 (.inl m')⟩
 dis := λ i a m z => by
  rcases zzJ.mp z with z | z
  · exact (R.btr a (.inr z)).2.2 (.inr ⟨i, m⟩)
  · exact R.dis i a m z
 ftr := R.ftr
 btr := λ a h => by
  obtain ⟨h1, h2, h3⟩ := R.btr a (.inl h)
  refine ⟨h1, h2, λ z => ?_⟩
  rcases z with z | z
  · rcases zzJ.mp z with z | z
    · exact hb a z h
    · exact h3 (.inl z)
  · exact h3 (.inr z)
 gtr := λ a h => by
  rcases h with h | h
  · rcases zzJ.mp h with h | h
    · exact ⟨(R.btr a (.inr h)).1, (R.btr a (.inr h)).2.1⟩
    · exact R.gtr a (.inl h)
  · exact R.gtr a (.inr h)
 sl := λ i s e => (R.sl i s e).lv zat
theorem Rel.frz (R : Rel K kd F B T ad as σ H) (h : as[i]? = some (some o)) :
 Rel K kd F B T (xN ad i []) (as.set i (some o.frz)) σ H /\ ∃ v, σ[i]? = some (some v) /\ Rp K kd (Lv F B (Gw T (xN ad i [])) o.str) H v o.toD := by
 obtain ⟨v, hv, ro⟩ := R.sl i _ h
 have rp : Rp K kd (Lv F B (Gw T (xN ad i [])) o.str) H v o.toD :=
  Ro.rp o.str (λ st v d hs r => r.less λ a z => z.elim (λ y => .inl (y.elim (λ x => .inl ⟨hs x.1, x.2⟩) .inr)) λ y => .inr (yX a y))
   (λ a n z => n (z.elim (λ y => .inl (y.elim (λ x => .inl ⟨rfl, x.2⟩) .inr)) λ y => .inr (yX a y))) id
   (λ a m z => by
    rcases z with (z | z) | z | ⟨j, z⟩
    · exact (R.gtr a (.inr ⟨i, m⟩)).2 z.2
    · exact (R.btr a z).2.2 (.inr ⟨i, m⟩)
    · exact R.dis i a m z
    · by_cases e : j = i
      · subst e; rw [zY] at z; cases z
      · rw [z6 e] at z; exact e (R.inj j i a z m)) ro
 have hi : i < as.length := (zzD.mp h).1
 refine ⟨⟨by rw [zzR]; exact R.len, λ j hj => ?_, λ j => ?_, λ j k a h1 h2 => ?_, R.tnd, λ j a h1 => ?_, R.ftr, λ a h1 => ?_, λ a h1 => R.gtr a (yX a h1), λ j s e => ?_⟩, v, hv, rp⟩
 · rw [zzR] at hj
   rw [z6 (by omega)]; exact R.out j hj
 · by_cases e : j = i
   · subst e; rw [zY]; exact List.nodup_nil
   · rw [z6 e]; exact R.nd j
 · by_cases e : j = i
   · subst e; rw [zY] at h1; cases h1
   · by_cases e' : k = i
     · subst e'; rw [zY] at h2; cases h2
     · rw [z6 e] at h1; rw [z6 e'] at h2; exact R.inj j k a h1 h2
 · by_cases e : j = i
   · subst e; rw [zY] at h1; cases h1
   · rw [z6 e] at h1; exact R.dis j a h1
 · obtain ⟨b1, b2, b3⟩ := R.btr a h1
   exact ⟨b1, b2, λ z => b3 (yX a z)⟩
 · by_cases q : j = i
   · subst q
     rw [List.getElem?_set_self hi] at e
     cases e
     rw [zY]
     exact ⟨v, hv, .lf rp⟩
   · rw [zzV (Ne.symm q)] at e
     rw [z6 q]
     exact (R.sl j s e).less yX
theorem Rel.put (R : Rel K kd F B T ad as σ H) (hi : i < as.length) (h : RoS K kd F B (Gw T ad) H v o T) : Rel K kd F B [] (xN ad i T) (as.set i (some o)) (σ.set i (some v)) H := by
 have hi' : i < σ.length := by rw [<- R.len]; exact hi
 refine ⟨by rw [zzR, zzR]; exact R.len, λ j hj => ?_, λ j => ?_, λ j k a h1 h2 => ?_, List.nodup_nil, (λ _ _ _ z => nomatch z), R.ftr, λ a h1 => ?_, λ a h1 => R.gtr a (YJ a h1), λ j s e => ?_⟩
 · rw [zzR] at hj
   rw [z6 (by omega)]; exact R.out j hj
 · by_cases e : j = i
   · subst e; rw [zY]; exact R.tnd
   · rw [z6 e]; exact R.nd j
 · by_cases e : j = i
   · subst e
     rw [zY] at h1
     by_cases e' : k = j
     · exact e'.symm
     · rw [z6 e'] at h2
       exact (R.dis k a h2 h1).elim
   · rw [z6 e] at h1
     by_cases e' : k = i
     · subst e'
       rw [zY] at h2
       exact (R.dis j a h1 h2).elim
     · rw [z6 e'] at h2
       exact R.inj j k a h1 h2
 · obtain ⟨b1, b2, b3⟩ := R.btr a h1
   exact ⟨b1, b2, λ z => b3 (YJ a z)⟩
 · by_cases q : j = i
   · subst q
     rw [List.getElem?_set_self hi] at e
     cases e
     rw [zY, List.getElem?_set_self hi']
     exact ⟨v, rfl, h.less YJ⟩
   · rw [zzV (Ne.symm q)] at e
     rw [z6 q, zzV (Ne.symm q)]
     exact (R.sl j s e).less YJ
def toO (as : AS) : RV -> Option (O × AS)
 | .ow o => some (o, as)
 | .bo i => match as[i]? with
  | some (some o) => some (o.frz, as.set i (some o.frz))
  | _ => none
theorem zbI {as' : AS} (R : Rel K kd F B T ad as σ H) (h : vJ K kd F B T ad σ H v r) (e : toO as r = some (o, as')) : ∃ ad', Rel K kd F B T ad' as' σ H /\ RoS K kd F B (Gw T ad') H v o T /\ ∀ a, Gw T ad' a -> Gw T ad a := by
 cases r with
 | ow o' => cases e; exact ⟨ad, R, h, λ _ z => z⟩
 | bo i =>
  have e : (match as[i]? with | some (some o) => some (o.frz, as.set i (some o.frz)) | _ => none) = some (o, as') := e
  cases k : as[i]? with
  | none => rw [k] at e; cases e
  | some s =>
   cases s with
   | none => rw [k] at e; cases e
   | some o1 =>
    rw [k] at e
    cases e
    obtain ⟨hT, hs⟩ := h
    subst hT
    obtain ⟨R', w, hw, rp⟩ := R.frz k
    rw [hs] at hw
    cases hw
    exact ⟨_, R', .lf rp, yX⟩
end
abbrev TF := AS -> Option (Bool × AS)
def alT (K : zC) (kd : KD) (f : TF) : TT := λ σ H Q => ∃ F B ad as b as', Rel K kd F B [] ad as σ H /\ f as = some (b, as') /\
 ∀ ad' H', Rel K kd F B [] ad' as' σ H' -> Grow (Gw [] ad) H (Gw [] ad') H' -> Q b H'
@[irreducible] def AT (X : Cx) (kd : KD) (e : Expr) (f : TF) : Prop := PT X e (alT X.K kd f)
@[irreducible] def AW (X : Cx) (kd : KD) (e : Expr) (f : TF) : Prop := PW X e (alT X.K kd f)
def truth : D -> Option Bool
 | .non => some false
 | .bl b => some b
 | .int i => some (i != 0)
 | .str x => if x.length <= sizeLine then some ((x.length : Int) != 0) else none
 | .tup ds => some (!ds.isEmpty)
 | .lst ds => some (!ds.isEmpty)
 | _ => none
def fT (f : EF) : TF := λ as => (f as).bind λ p => (p.1.frz.view p.2).bind λ x => (truth x.1).bind λ b => some (b, p.2)
def zeS (f g : TF) : TF := λ as => (f as).bind λ p => if p.1 = true then g p.2 else some (false, p.2)
def zgJ (f g : TF) : TF := λ as => (f as).bind λ p => if p.1 = true then some (true, p.2) else g p.2
def zcA (f : TF) : TF := λ as => (f as).bind λ p => some (!p.1, p.2)
def asI : D -> Option Int
 | .int i => some i
 | _ => none
def asS : D -> Option Str
 | .str i => some i
 | _ => none
def asL : D -> Option (List D)
 | .lst i => some i
 | _ => none
def asT : D -> Option (List D)
 | .tup i => some i
 | _ => none
theorem zdg {d : D} {i : List D} (e : asL d = some i) : d = .lst i := by
 cases d with
 | lst j => cases e; rfl
 | _ => cases e
theorem zln {d : D} {i : List D} (e : asT d = some i) : d = .tup i := by
 cases d with
 | tup j => cases e; rfl
 | _ => cases e
theorem zdq {d : D} {c : Int} (h : asI d = some c) : d = .int c := by
 cases d with
 | int i => cases h; rfl
 | _ => cases h
def rvD : RV -> Option D
 | .ow (.lf _ d) => some d
 | _ => none
theorem zmu {r : RV} {d : D} (h : rvD r = some d) : ∃ st, r = .ow (.lf st d) := by
 cases r with
 | bo i => cases h
 | ow o =>
  cases o with
  | nd k os => cases h
  | lf st d => cases h; exact ⟨st, rfl⟩
def rvI (r : RV) : Option Int := (rvD r).bind asI
theorem zlQ {r : RV} {c : Int} (h : rvI r = some c) : ∃ st, r = .ow (.lf st (.int c)) := by
 obtain ⟨d, h1, h⟩ := bS_ h
 cases zdq h
 exact zmu h1
def znH {α : Type} : List α -> Option (α × α)
 | [a, b] => some (a, b)
 | _ => none
theorem zjx {α : Type} {os : List α} {p : α × α} (h : znH os = some p) : os = [p.1, p.2] := by
 cases os with
 | nil => cases h
 | cons x r =>
  cases r with
  | nil => cases h
  | cons y r =>
   cases r with
   | nil => cases h; rfl
   | cons _ _ => cases h
section
variable {X : Cx} {kd : KD} {a b c : Expr} {fa fb : EF} {ta tb : TF} {pos : Pos} {es rest : List Expr}
theorem zeY {e : Expr} {t t' : TT} (h : PT X e t) (k : ∀ σ H Q, t' σ H Q -> t σ H Q) : PT X e t' := λ pins s σ H Q I q => h pins s σ H Q I (k σ H Q q)
theorem ziv {e : Expr} {t t' : TT} (h : PW X e t) (k : ∀ σ H Q, t' σ H Q -> t σ H Q) : PW X e t' := λ w pins s σ H Q I q => h w pins s σ H Q I (k σ H Q q)
theorem zmi {O : Addr -> Prop} {H : Hp} {v : V} {d : D} {k : Bool} (h : Vw X.K kd O H v d) (e : truth d = some k) : zlR X.K v H k := by
 cases h with
 | non => cases e; rfl
 | bl b => cases e; rfl
 | int i => cases e; rfl
 | str x =>
  have e : (if x.length <= sizeLine then some ((x.length : Int) != 0) else none) = some k := e
  by_cases hl : x.length <= sizeLine
  · rw [if_pos hl] at e; cases e; exact ⟨hl, rfl⟩
  · rw [if_neg hl] at e; cases e
 | tup r hs hr =>
  cases e
  refine .inr (.inl ⟨_, hs, ?_⟩)
  cases hr <;> rfl
 | lst hs hr =>
  cases e
  refine .inl ⟨_, hs.sq, ?_⟩
  cases hr <;> rfl
 | dct => cases e
 | cl => cases e
 | ob => cases e
 | dt => cases e
theorem zjl (ha : AE X kd a fa) (he : ∀ whole, isTrue a X.env whole = (do let v <- whole; standAt a.pos; holding [v] (truthy v))) : AT X kd a (fT fa) := by with_unfolding_all exact (zeY (zig ha he) λ σ H Q h => by
 obtain ⟨F, B, ad, as, bb, as', R, e, q⟩ := h
 obtain ⟨⟨p, as1⟩, h1, e⟩ := bS_ (show (fa as).bind _ = _ from e)
 obtain ⟨⟨d, lv⟩, h2, e⟩ := bS_ e
 obtain ⟨k, h3, e⟩ := bS_ e
 cases e
 exact Wi R h1 λ v ad1 H1 R1 rv1 g1 => ⟨_, zmi (vJ.vw R1 rv1 h2) h3, q ad1 H1 R1 g1⟩)
theorem yQ {op : CmpOp} {g : D -> D -> Option R0} (ho : OpD X kd (compareOp op) g) (hg : ∀ x y r, g x y = some r -> ∃ k, r = .im (.bl k)) (ha : AE X kd a fa) (hb : AE X kd b fb) (hm : behindInMarks op b = false) :
 AT X kd (.Compare a [op] [b] pos) (fT (f2 fa fb g)) := by with_unfolding_all exact (zeY (zkp ho ha hb hm) λ σ H Q h => by
 obtain ⟨F, B, ad, as, bb, as', R, e, q⟩ := h
 obtain ⟨⟨p, as1⟩, h1, e⟩ := bS_ (show (f2 fa fb g as).bind _ = _ from e)
 obtain ⟨⟨d, lv⟩, h2, e⟩ := bS_ e
 obtain ⟨k, h3, e⟩ := bS_ e
 cases e
 obtain ⟨_, _, _, x, y, _, _, r0, _, _, _, _, hp, hw⟩ := zgj h1
 obtain ⟨k', rfl⟩ := hg _ _ _ hp
 cases hw
 cases h2
 cases h3
 refine al2 (λ _ _ _ _ z => z) ⟨F, B, ad, as, _, _, R, h1, λ v T' ad' H' R' rv g' => ?_⟩
 generalize hT : T' = T2 at rv R' g'
 cases rv with
 | lf rp =>
  cases rp
  exact ⟨_, rfl, q ad' H' R' g'⟩)
theorem zjm (ha : AT X kd a ta) : AT X kd (.UnaryOp .Not a pos) (zcA ta) := by with_unfolding_all exact (zeY (zmT ha) λ σ H Q h => by
 obtain ⟨F, B, ad, as, bb, as', R, e, q⟩ := h
 obtain ⟨⟨p, as1⟩, h1, e⟩ := bS_ (show (ta as).bind _ = _ from e)
 cases e
 exact ⟨F, B, ad, as, p, _, R, h1, λ ad' H' R' g => q ad' H' R' g⟩)
theorem zfd (ha : AT X kd a ta) : AW X kd (.BoolOp .And [a] pos) ta := by with_unfolding_all exact (zjB ha)
theorem zhe (ha : AT X kd a ta) : AW X kd (.BoolOp .Or [a] pos) ta := by with_unfolding_all exact (zmS ha)
theorem zmp (ha : AT X kd a ta) (hb : AW X kd (.BoolOp .And (b :: rest) pos) tb) : AW X kd (.BoolOp .And (a :: b :: rest) pos) (zeS ta tb) := by with_unfolding_all exact (ziv (zmb ha hb) λ σ H Q h => by
 obtain ⟨F, B, ad, as, bb, as', R, e, q⟩ := h
 obtain ⟨⟨p, as1⟩, h1, e⟩ := bS_ (show (ta as).bind _ = _ from e)
 refine ⟨F, B, ad, as, p, as1, R, h1, λ ad' H' R' g => ?_⟩
 cases p with
 | true => exact ⟨F, B, ad', as1, bb, as', R', e, λ ad2 H2 R2 g2 => q ad2 H2 R2 (g.trans g2)⟩
 | false => cases e; exact q ad' H' R' g)
theorem znn (ha : AT X kd a ta) (hb : AW X kd (.BoolOp .Or (b :: rest) pos) tb) : AW X kd (.BoolOp .Or (a :: b :: rest) pos) (zgJ ta tb) := by with_unfolding_all exact (ziv (znv ha hb) λ σ H Q h => by
 obtain ⟨F, B, ad, as, bb, as', R, e, q⟩ := h
 obtain ⟨⟨p, as1⟩, h1, e⟩ := bS_ (show (ta as).bind _ = _ from e)
 refine ⟨F, B, ad, as, p, as1, R, h1, λ ad' H' R' g => ?_⟩
 cases p with
 | false => exact ⟨F, B, ad', as1, bb, as', R', e, λ ad2 H2 R2 g2 => q ad2 H2 R2 (g.trans g2)⟩
 | true => cases e; exact q ad' H' R' g)
theorem AW.at_ {e : Expr} (h : AW X kd e ta) : AT X kd e ta := by with_unfolding_all exact (PW.pt h)
end
abbrev AF := AS -> Option (List RV × AS)
inductive RVs (K : zC) (kd : KD) (F B : Addr -> Prop) (ad : Ad) (σ : St) (H : Hp) : List V -> List RV -> Prop
 | nil : RVs K kd F B ad σ H [] []
 | cons {v : V} {r : RV} {vs : List V} {rs : List RV} : vJ K kd F B [] ad σ H v r -> RVs K kd F B ad σ H vs rs -> RVs K kd F B ad σ H (v :: vs) (r :: rs)
def alA (K : zC) (kd : KD) (f : AF) : TA := λ σ H Q => ∃ F B ad as rs as', Rel K kd F B [] ad as σ H /\ f as = some (rs, as') /\
 ∀ vs ad' H', Rel K kd F B [] ad' as' σ H' -> RVs K kd F B ad' σ H' vs rs -> Grow (Gw [] ad) H (Gw [] ad') H' -> Q vs H'
@[irreducible] def AA (X : Cx) (kd : KD) (es : List Expr) (f : AF) : Prop := PA X es (alA X.K kd f)
def aN : AF := λ as => some ([], as)
def aC (fa : EF) (fr : AF) : AF := λ as => (fa as).bind λ p => (fr p.2).bind λ q => some (p.1.frz :: q.1, q.2)
theorem zdf {X : Cx} {e : List Expr} {t t' : TA} (h : PA X e t) (k : ∀ σ H Q, t' σ H Q -> t σ H Q) : PA X e t' := λ pos pins s σ H Q I q => h pos pins s σ H Q I (k σ H Q q)
abbrev DF := AS -> Option (List O × AS)
def alD (K : zC) (kd : KD) (f : DF) : TA := λ σ H Q => ∃ F B ad as os as', Rel K kd F B [] ad as σ H /\ f as = some (os, as') /\
 ∀ vs T' ad' H', Rel K kd F B T' ad' as' σ H' -> v5 K kd F B (Gw T' ad') H' vs os T' -> Grow (Gw [] ad) H (Gw T' ad') H' -> Q vs H'
@[irreducible] def AD (X : Cx) (kd : KD) (es : List Expr) (f : DF) : Prop := PA X es (alD X.K kd f)
def dN : DF := λ as => some ([], as)
def dC (fa : EF) (fr : DF) : DF := λ as => (fa as).bind λ p => (toO p.2 p.1).bind λ x => (fr x.2).bind λ q => some (x.1 :: q.1, q.2)
def views (as : AS) : List RV -> Option (List D × Option Bool)
 | [] => some ([], some true)
 | r :: rs => (r.view as).bind λ x => (views as rs).bind λ y => some (x.1 :: y.1, meet x.2 y.2)
def fP (fr : AF) (g : List D -> Option R0) : EF := λ as => (fr as).bind λ p => (views p.2 p.1).bind λ x => (g x.1).bind λ r => (wrap x.2 r).bind λ z => some (z, p.2)
def zje (as : AS) : RV -> Option (Bool × D)
 | .ow o => some (zL o.toD || o.str, o.toD)
 | .bo i => match as[i]? with
  | some (some o) => some (false, o.toD)
  | _ => none
def YG (as : AS) : List RV -> Option (List (Bool × D))
 | [] => some []
 | r :: rs => (zje as r).bind λ x => (YG as rs).bind λ y => some (x :: y)
def zG (fr : AF) (g : List (Bool × D) -> Option O) : EF := λ as => (fr as).bind λ p => (YG p.2 p.1).bind λ x => (g x).bind λ o => some (.ow o, p.2)
def RQO (K : zC) (kd : KD) (F : Addr -> Prop) (H : Hp) (Q : VK) (o : O) : Prop :=
 ∀ v T H', T.Nodup -> (∀ a ∈ T, H a = none) -> (∀ b u, H b = some u -> H' b = some u) -> (∀ a ∈ T, H' a ≠ none) -> Ro (λ _ v d => Rp K kd (Un2 F (· ∈ T)) H' v d) (λ a => ¬ Un2 F (· ∈ T) a) H' v o T -> Q v H'
inductive RpA (K : zC) (kd : KD) (F : Addr -> Prop) (H : Hp) : List V -> List (Bool × D) -> Prop
 | nil : RpA K kd F H [] []
 | cons {v : V} {st : Bool} {d : D} {vs : List V} {ds : List (Bool × D)} : Rp K kd (λ a => st = true /\ F a) H v d -> RpA K kd F H vs ds -> RpA K kd F H (v :: vs) ((st, d) :: ds)
def spD (K : zC) (kd : KD) (g : List (Bool × D) -> Option O) : Sp := λ vs H Q _ => ∃ F ds o, (∀ a, F a -> H a ≠ none) /\ RpA K kd F H vs ds /\ g ds = some o /\ RQO K kd F H Q o
def ZV (os : List O) : O := if os.all O.isLf = true then .lf (O.strs os) (.tup (O.toDs os)) else .nd .tp os
def yV (fr : DF) : EF := λ as => (fr as).bind λ p => if p.1.length <= sizeLine then some (.ow (ZV p.1), p.2) else none
def wH (fr : DF) : EF := λ as => (fr as).bind λ p => if p.1.length <= sizeLine then some (.ow (.nd .ls p.1), p.2) else none
section
variable {X : Cx} {kd : KD} {a b c : Expr} {fa fb : EF} {ta tb : TF} {pos : Pos} {es rest : List Expr} {fr : AF} {fd : DF}
theorem RpA.length {K : zC} {F : Addr -> Prop} {H : Hp} {vs : List V} {ds : List (Bool × D)} (h : RpA K kd F H vs ds) : vs.length = ds.length := by
 induction h with
 | nil => rfl
 | cons _ _ ih => exact congrArg (· + 1) ih
theorem zy : AA X kd [] aN := by with_unfolding_all exact (zdf zcW λ σ H Q h => by
 obtain ⟨F, B, ad, as, rs, as', R, e, q⟩ := h
 cases e
 exact q [] ad H R .nil Grow.refl)
theorem zc (ha : AE X kd a fa) (hr : AA X kd es fr) (hs : starEach (a :: es) X.env = (false, eval a X.env) :: starEach es X.env) : AA X kd (a :: es) (aC fa fr) := by with_unfolding_all exact (zdf (Wt ha hr hs) λ σ H Q h => by
 obtain ⟨F, B, ad, as, rs, as', R, e, q⟩ := h
 obtain ⟨⟨p, as1⟩, h1, e⟩ := bS_ (show (fa as).bind _ = _ from e)
 obtain ⟨⟨z, as2⟩, h2, e⟩ := bS_ e
 cases e
 refine Wi R h1 λ v ad1 H1 R1 rv1 g1 => ⟨F, B, ad1, as1, z, _, R1, h2, λ vs ad2 H2 R2 rv2 g2 => ?_⟩
 exact q _ ad2 H2 R2 (.cons (rv1.grow g2) rv2) (g1.trans g2))
theorem zQ : AD X kd [] dN := by with_unfolding_all exact (zdf zcW λ σ H Q h => by
 obtain ⟨F, B, ad, as, rs, as', R, e, q⟩ := h
 cases e
 exact q [] [] ad H R .nil Grow.refl)
theorem zq (ha : AE X kd a fa) (hr : AD X kd es fd) (hs : starEach (a :: es) X.env = (false, eval a X.env) :: starEach es X.env) : AD X kd (a :: es) (dC fa fd) := by with_unfolding_all exact (zdf (Wt ha hr hs) λ σ H Q h => by
 obtain ⟨F, B, ad, as, rs, as', R, e, q⟩ := h
 obtain ⟨⟨p, as1⟩, h1, e⟩ := bS_ (show (fa as).bind _ = _ from e)
 obtain ⟨⟨o, as2⟩, h2, e⟩ := bS_ e
 obtain ⟨⟨os, as3⟩, h3, e⟩ := bS_ e
 cases e
 refine ⟨F, B, ad, as, p, as1, R, h1, λ v T1 ad1 H1 R1 rv1 g1 => ?_⟩
 obtain ⟨ad2, R2, ro2, le2⟩ := zbI R1 rv1 h2
 refine ⟨F, _, ad2, as2, os, _, R2.hide, h3, λ vs T3 ad3 H3 R3 ro3 g3 => ?_⟩
 have kT : ∀ a ∈ T1, ∀ u, H1 a = some u -> H3 a = some u := λ a m u e => g3.keep a u e λ z => z.elim (λ y => nomatch y) λ ⟨i, y⟩ => R2.dis i a y m
 have r1 : RoS X.K kd F B (Gw (T1 ++ T3) ad3) H3 v o T1 := RoS.lv zat (RoS.grow g3 kT (RoS.lv zgx ro2))
 have r3 : v5 X.K kd F B (Gw (T1 ++ T3) ad3) H3 vs os T3 := v5.lv zat ro3
 refine q _ (T1 ++ T3) ad3 H3 (R3.unhide R2.tnd λ a m z => (R2.btr a z).2.2 (.inl m)) (.cons r1 r3) ((g1.trans (Grow.less le2)).trans ⟨λ b u e n => g3.keep b u e λ z => n (Gw.drop b z), λ b z => ?_⟩)
 rcases z with z | z
 · rcases zzJ.mp z with z | z
   · exact .inl (.inl z)
   · exact (g3.own b (.inl z)).elim (λ y => .inl (Gw.drop b y)) .inr
 · exact (g3.own b (.inr z)).elim (λ y => .inl (Gw.drop b y)) .inr)
theorem xZ {x1} (h : AD X kd es fd) : AE X kd (.Tuple es x1 pos) (yV fd) := by with_unfolding_all exact (wG (zlD h) λ σ H Q h => by
 obtain ⟨F, B, ad, as, r, as', R, e, q⟩ := h
 obtain ⟨⟨os, as1⟩, h1, e⟩ := bS_ (show (fd as).bind _ = _ from e)
 obtain ⟨hz, e⟩ := zR e
 cases e
 refine ⟨F, B, ad, as, os, _, R, h1, λ vs T1 ad1 H1 R1 ro1 g1 => ⟨by rw [ro1.length]; exact hz, λ p hp => ?_⟩⟩
 have k : ∀ b o, H1 b = some o -> upd H1 p (.tup vs) b = some o := λ b o hb => by rw [zX (xm hb hp)]; exact hb
 obtain ⟨R2, g2⟩ := R1.more k
 have ro2 := v5.grow g2 (λ a _ u h => k a u h) ro1
 have np : ∀ st, ¬ Lv F B (Gw T1 ad1) st p := λ st z => R1.trk st p z hp
 refine q _ T1 ad1 _ R2 ?_ (g1.trans g2)
 show RoS X.K kd F B (Gw T1 ad1) _ _ (ZV os) T1
 unfold ZV
 by_cases hl : os.all O.isLf = true
 · rw [if_pos hl]
   have := zjw ro2 hl
   subst this
   exact .lf (.tup (np _) yz (zab ro2 hl))
 · rw [if_neg hl]
   exact .tp (np _) yz ro2)
theorem xO (h : AD X kd es fd) : AE X kd (.List es pos) (wH fd) := by with_unfolding_all exact (wG (zlW h) λ σ H Q h => by
 obtain ⟨F, B, ad, as, r, as', R, e, q⟩ := h
 obtain ⟨⟨os, as1⟩, h1, e⟩ := bS_ (show (fd as).bind _ = _ from e)
 obtain ⟨hz, e⟩ := zR e
 cases e
 refine ⟨F, B, ad, as, os, _, R, h1, λ vs T1 ad1 H1 R1 ro1 g1 => ⟨by rw [ro1.length]; exact hz, λ p hp => ?_⟩⟩
 have k : ∀ b o, H1 b = some o -> upd H1 p (.lst vs) b = some o := λ b o hb => by rw [zX (xm hb hp)]; exact hb
 obtain ⟨R2, g2⟩ := R1.add (N := [p]) (by simp) (λ a m => by rw [zzO.mp m]; exact hp) k (λ a m => by rw [zzO.mp m, yz]; simp)
 exact q _ _ ad1 _ R2 (.ls yz (v5.grow g2 (λ a _ u h => k a u h) ro1)) (g1.trans g2))
theorem VwL.less {K : zC} {O O' : Addr -> Prop} {H : Hp} (g : ∀ a, O' a -> O a) {vs : List V} {ds : List D} (h : VwL K kd O H vs ds) : VwL K kd O' H vs ds := by
 induction h with
 | nil => exact .nil
 | cons h _ ih => exact .cons (h.less g) ih
theorem Wn {K : zC} {F B : Addr -> Prop} {ad : Ad} {as : AS} {σ : St} {H : Hp} (R : Rel K kd F B [] ad as σ H) {vs : List V} {rs : List RV} {ds : List D} {lv : Option Bool} (h : RVs K kd F B ad σ H vs rs) (e : views as rs = some (ds, lv)) : VwL K kd (Obl F B (Gw [] ad) lv) H vs ds := by
 induction h generalizing ds lv with
 | nil => cases e; exact .nil
 | cons h t ih =>
  obtain ⟨⟨d, l⟩, h1, e⟩ := bS_ (show (RV.view as _).bind _ = _ from e)
  obtain ⟨⟨ds, l2⟩, h2, e⟩ := bS_ e
  cases e
  exact .cons ((vJ.vw R h h1).less Obl.meet1) ((ih h2).less Obl.meet2)
theorem alP {g : List D -> Option R0} {σ : St} {H : Hp} {Q : VK} {R' : List V -> Hp -> VK -> Prop} (hr : ∀ vs H Q, (∃ O ds r, (∀ a, O a -> H a ≠ none) /\ VwL X.K kd O H vs ds /\ g ds = some r /\ RQ X.K kd O H Q r) -> R' vs H Q)
 (h : al X.K kd (fP fr g) σ H Q) : alA X.K kd fr σ H λ vs H1 => R' vs H1 Q := by
 obtain ⟨F, B, ad, as, r, as', R, e, q⟩ := h
 obtain ⟨⟨p, as1⟩, h1, e⟩ := bS_ (show (fr as).bind _ = _ from e)
 obtain ⟨⟨ds, lv⟩, h2, e⟩ := bS_ e
 obtain ⟨z, h3, e⟩ := bS_ e
 obtain ⟨y, h4, e⟩ := bS_ e
 cases e
 exact ⟨F, B, ad, as, p, _, R, h1, λ vs ad1 H1 R1 rv1 g1 => hr _ _ _ ⟨_, ds, z, R1.tr _, Wn R1 rv1 h2, h3, Vt R1 h4 λ w T' H' R' rv' g' => q w T' ad1 H' R' rv' (g1.trans g')⟩⟩
theorem zkx {K : zC} {F B : Addr -> Prop} {ad : Ad} {as : AS} {σ : St} {H : Hp} (R : Rel K kd F B [] ad as σ H) {vs : List V} {rs : List RV} {ds : List (Bool × D)} (h : RVs K kd F B ad σ H vs rs) (e : YG as rs = some ds) : RpA K kd (Lv F B (Gw [] ad) true) H vs ds := by
 induction h generalizing ds with
 | nil => cases e; exact .nil
 | cons h t ih =>
  rename_i v r vs rs
  obtain ⟨⟨st, d⟩, h1, e⟩ := bS_ (show (zje as r).bind _ = _ from e)
  obtain ⟨ds, h2, e⟩ := bS_ e
  cases e
  refine .cons ?_ (ih h2)
  cases r with
  | ow o =>
   cases h1
   cases hf : zL o.toD with
   | true => exact (zdu h).flat hf
   | false =>
    refine (zdK h).less λ a z => ?_
    have zs : o.str = true := z.1
    rw [zs]
    exact z.2
  | bo i =>
   have e : (match as[i]? with | some (some o) => some (false, o.toD) | _ => none) = some (st, d) := h1
   cases k : as[i]? with
   | none => rw [k] at e; cases e
   | some s =>
    cases s with
    | none => rw [k] at e; cases e
    | some o =>
     rw [k] at e
     cases e
     obtain ⟨w, hw, ro⟩ := R.sl i _ k
     rw [h.2] at hw
     cases hw
     exact (zdu ro).less λ a z => nomatch z.1
theorem zlS {K : zC} {F B : Addr -> Prop} {ad : Ad} {as : AS} {σ : St} {H : Hp} {Q : VK} {o : O} (R : Rel K kd F B [] ad as σ H) (q : ∀ v T' H', Rel K kd F B T' ad as σ H' -> vJ K kd F B T' ad σ H' v (.ow o) -> Grow (Gw [] ad) H (Gw T' ad) H' -> Q v H') :
 RQO K kd (Lv F B (Gw [] ad) true) H Q o := λ v T H' hn hl k h1 ro => by
 obtain ⟨R', g⟩ := R.news hn hl k h1
 have le : ∀ st a, Lv F B (Gw T ad) st a -> Un2 (Lv F B (Gw [] ad) true) (· ∈ T) a := λ st a z => by
  rcases z with (z | z) | z | z
  · exact .inl (.inl (.inl ⟨rfl, z.2⟩))
  · exact .inl (.inl (.inr z))
  · exact .inr z
  · exact .inl (.inr (.inr z))
 exact q v T H' R' (Ro.mono (λ st v d r => r.less (le st)) (λ a vs n e => ⟨λ z => n (le true a z), e⟩) (λ _ _ _ e => e) ro) g
theorem zlP {g : List (Bool × D) -> Option O} {σ : St} {H : Hp} {Q : VK} {E : XK} (h : al X.K kd (zG fr g) σ H Q) : zll (spD X.K kd g) [] E (alA X.K kd fr) σ H Q := by
 obtain ⟨F, B, ad, as, r, as', R, e, q⟩ := h
 obtain ⟨⟨p, as1⟩, h1, e⟩ := bS_ (show (fr as).bind _ = _ from e)
 obtain ⟨ds, h2, e⟩ := bS_ e
 obtain ⟨o, h3, e⟩ := bS_ e
 cases e
 refine ⟨F, B, ad, as, p, _, R, h1, λ vs ad1 H1 R1 rv1 g1 => ?_⟩
 show spD X.K kd g (vs ++ []) H1 Q E
 rw [List.append_nil]
 exact ⟨_, ds, o, R1.trk true, zkx R1 rv1 h2, h3, zlS R1 λ w T' H' R' rv' g' => q w T' ad1 H' R' rv' (g1.trans g')⟩
end
inductive Out where
 | nx (as : AS) | rt (o : O) | bk (as : AS) | ct (as : AS)
abbrev SF := AS -> Option Out
structure RetOk (K : zC) (kd : KD) (F : Addr -> Prop) (T : List Addr) (H : Hp) (v : V) (o : O) : Prop where
 nd : T.Nodup
 tr : ∀ a ∈ T, H a ≠ none
 ro : Ro (λ _ v d => Rp K kd (Un2 F (· ∈ T)) H v d) (λ a => ¬ Un2 F (· ∈ T) a) H v o T
def zcD (K : zC) (kd : KD) (F B : Addr -> Prop) (ad : Ad) (H : Hp) (D : Ends) : Out -> Prop
 | .nx as' => ∀ σ' ad' H', Rel K kd F B [] ad' as' σ' H' -> Grow (Gw [] ad) H (Gw [] ad') H' -> D.nx σ' H'
 | .bk as' => ∀ σ' ad' H', Rel K kd F B [] ad' as' σ' H' -> Grow (Gw [] ad) H (Gw [] ad') H' -> D.bk σ' H'
 | .ct as' => ∀ σ' ad' H', Rel K kd F B [] ad' as' σ' H' -> Grow (Gw [] ad) H (Gw [] ad') H' -> D.ct σ' H'
 | .rt o => ∀ v T H', RetOk K kd F T H' v o -> Grow (Gw [] ad) H (· ∈ T) H' -> D.rt v H'
def be (K : zC) (kd : KD) (f : SF) : TS := λ D σ H => ∃ F B ad as o, Rel K kd F B [] ad as σ H /\ f as = some o /\ zcD K kd F B ad H D o
@[irreducible] def ASt (X : Cx) (kd : KD) (st : Stmt) (f : SF) : Prop := PS X st (be X.K kd f)
@[irreducible] def ASs (X : Cx) (kd : KD) (st : List Stmt) (f : SF) : Prop := PSs X st (be X.K kd f)
theorem wF {X : Cx} {e : Stmt} {t t' : TS} (h : PS X e t) (k : ∀ D σ H, t' D σ H -> t D σ H) : PS X e t' := λ pins s σ H D I q => h pins s σ H D I (k D σ H q)
theorem VV {X : Cx} {e : List Stmt} {t t' : TS} (h : PSs X e t) (k : ∀ D σ H, t' D σ H -> t D σ H) : PSs X e t' := λ pins s σ H D I q => h pins s σ H D I (k D σ H q)
theorem zcD.pre {K : zC} {kd : KD} {F B : Addr -> Prop} {ad ad1 : Ad} {H H1 : Hp} {D : Ends} {o : Out} (g : Grow (Gw [] ad) H (Gw [] ad1) H1) (h : zcD K kd F B ad H D o) : zcD K kd F B ad1 H1 D o := by
 cases o with
 | nx as => exact λ σ' ad' H' R g' => h σ' ad' H' R (g.trans g')
 | bk as => exact λ σ' ad' H' R g' => h σ' ad' H' R (g.trans g')
 | ct as => exact λ σ' ad' H' R g' => h σ' ad' H' R (g.trans g')
 | rt r => exact λ v T H' R g' => h v T H' R (g.trans g')
def sNx : SF := λ as => some (.nx as)
def zB (f g : SF) : SF := λ as => (f as).bind λ o => match o with | .nx as' => g as' | o => some o
def sIf (c : TF) (f g : SF) : SF := λ as => (c as).bind λ p => if p.1 = true then f p.2 else g p.2
def yO (f : EF) : SF := λ as => (f as).bind λ p => some (.nx p.2)
def zjb (as : AS) : RV -> Option O
 | .ow o => if o.str = true then some o else none
 | .bo i => match as[i]? with
  | some (some o) => if o.str = true then some o else none
  | _ => none
def yp (f : EF) : SF := λ as => (f as).bind λ p => (zjb p.2 p.1).bind λ o => some (.rt o)
def zJ (z : Bool) (i : Nat) (f : EF) : SF := λ as => (f as).bind λ p => (toO p.2 (if z = true then p.1.frz else p.1)).bind λ x => if i < x.2.length then some (.nx (x.2.set i (some x.1))) else none
theorem Ro.strong {L : Bool -> V -> D -> Prop} {N : Addr -> Prop} {H : Hp} {v : V} {o : O} {fp : List Addr} (h : Ro L N H v o fp) (e : o.str = true) : Ro (λ st v d => st = true /\ L st v d) N H v o fp :=
 Ro.rec (motive_1 := λ v o fp _ => o.str = true -> Ro (λ st v d => st = true /\ L st v d) N H v o fp) (motive_2 := λ vs os fp _ => O.strs os = true -> RoL (λ st v d => st = true /\ L st v d) N H vs os fp)
  (λ h e => .lf ⟨e, h⟩) (λ h _ r e => .ls h (r e)) (λ h l _ r e => .dc h l (r e)) (λ c h l _ r e => .ob ⟨rfl, c⟩ h l (r e)) (λ h l _ r e => .dt h l (r e)) (λ n h _ r e => .tp n h (r e)) (λ _ => .nil) (λ _ _ h r e => .cons (h ((Bool.and_eq_true _ _).mp e).1) (r ((Bool.and_eq_true _ _).mp e).2)) h e
section
variable {K : zC} {kd : KD} {F B : Addr -> Prop} {T : List Addr} {ad ad1 : Ad} {as as1 : AS} {σ : St} {H H1 : Hp} {v : V} {r : RV} {o : O}
theorem zfE {T' : List Addr} (R : Rel K kd F B T ad as σ H) (hn : T'.Nodup) (hs : ∀ a ∈ T', Gw T ad a) (h : RoS K kd F B (Gw T ad) H v o T') (e : o.str = true) : RetOk K kd F T' H v o := by
 have le : ∀ a, Un2 F (· ∈ T') a -> Lv F B (Gw T ad) true a := λ a z => z.elim (λ y => .inl (.inl ⟨rfl, y⟩)) λ y => .inr (hs a y)
 exact ⟨hn, λ a m => (R.gtr a (hs a m)).1, Ro.mono (λ st v d r => by obtain ⟨rfl, r⟩ := r; exact r.less le) (λ a vs n e => ⟨λ z => n (le a z), e⟩) (λ _ _ _ e => e) (Ro.strong h e)⟩
theorem Rel.ret (R : Rel K kd F B T ad as σ H) (hr : vJ K kd F B T ad σ H v r) (e : zjb as r = some o) : ∃ T', RetOk K kd F T' H v o /\ ∀ b ∈ T', Gw T ad b := by
 cases r with
 | ow o' =>
  obtain ⟨hs, rfl⟩ := zR e
  exact ⟨T, zfE R R.tnd (λ a m => .inl m) hr hs, λ a m => .inl m⟩
 | bo i =>
  have e : (match as[i]? with | some (some o) => if o.str = true then some o else none | _ => none) = some o := e
  cases k : as[i]? with
  | none => rw [k] at e; cases e
  | some s =>
   cases s with
   | none => rw [k] at e; cases e
   | some o1 =>
    rw [k] at e
    obtain ⟨hs, rfl⟩ := zR e
    obtain ⟨w, hw, ro⟩ := R.sl i _ k
    rw [hr.2] at hw
    cases hw
    exact ⟨ad i, zfE R (R.nd i) (λ a m => .inr ⟨i, m⟩) ro hs, λ a m => .inr ⟨i, m⟩⟩
end
section
variable {X : Cx} {kd : KD} {st : Stmt} {sts rest : List Stmt} {a b c e : Expr} {fa fb : EF} {ta : TF} {pos : Pos} {f g : SF}
theorem yP : ASs X kd [] sNx := by with_unfolding_all exact (VV zgy λ D σ H h => by
 obtain ⟨F, B, ad, as, o, R, e, q⟩ := h
 cases e
 exact q σ ad H R Grow.refl)
theorem zg (h1 : ASt X kd st f) (h2 : ASs X kd rest g) : ASs X kd (st :: rest) (zB f g) := by with_unfolding_all exact (VV (zeE h1 h2) λ D σ H h => by
 obtain ⟨F, B, ad, as, o, R, e, q⟩ := h
 obtain ⟨o1, e1, e⟩ := bS_ (show (f as).bind _ = _ from e)
 refine ⟨F, B, ad, as, o1, R, e1, ?_⟩
 cases o1 with
 | nx as1 => exact λ σ' ad' H' R' g' => ⟨F, B, ad', as1, o, R', e, q.pre g'⟩
 | bk as1 => cases e; exact q
 | ct as1 => cases e; exact q
 | rt r => cases e; exact q)
theorem zu (h1 : ASt X kd st f) : ASs X kd [st] f := by with_unfolding_all exact (zfY h1)
def sNo : SF := λ _ => none
theorem znh : ASt X kd st sNo := by with_unfolding_all exact (λ pins s σ H D I h => by obtain ⟨F, B, ad, as, o, R, e, q⟩ := h; cases e)
theorem vh (hc : AT X kd c ta) (ha : ASs X kd sts f) (hb : ASs X kd rest g) : ASt X kd (.If c sts rest pos) (sIf ta f g) := by with_unfolding_all exact (wF (zkZ hc ha hb) λ D σ H h => by
 obtain ⟨F, B, ad, as, o, R, e, q⟩ := h
 obtain ⟨⟨p, as1⟩, h1, e⟩ := bS_ (show (ta as).bind _ = _ from e)
 refine ⟨F, B, ad, as, p, as1, R, h1, λ ad' H' R' g => ?_⟩
 cases p with
 | true => exact ⟨F, B, ad', as1, o, R', e, q.pre g⟩
 | false => exact ⟨F, B, ad', as1, o, R', e, q.pre g⟩)
theorem vX (he : AE X kd e fa) (hs : swapsWith e none pos.line X.env = pure false) : ASt X kd (.Expr e pos) (yO fa) := by with_unfolding_all exact (wF (zcS he hs) λ D σ H h => by
 obtain ⟨F, B, ad, as, o, R, e, q⟩ := h
 obtain ⟨⟨p, as1⟩, h1, e⟩ := bS_ (show (fa as).bind _ = _ from e)
 cases e
 exact ⟨F, B, ad, as, p, as1, R, h1, λ v T' ad' H' R' rv g => q σ ad' H' R'.drop (g.trans (Grow.less Gw.drop))⟩)
theorem yh (he : AE X kd e fa) : ASt X kd (.Return (some e) pos) (yp fa) := by with_unfolding_all exact (wF (zmc he) λ D σ H h => by
 obtain ⟨F, B, ad, as, o, R, e, q⟩ := h
 obtain ⟨⟨p, as1⟩, h1, e⟩ := bS_ (show (fa as).bind _ = _ from e)
 obtain ⟨r, h2, e⟩ := bS_ e
 cases e
 refine ⟨F, B, ad, as, p, as1, R, h1, λ v T' ad' H' R' rv g => ?_⟩
 obtain ⟨T2, ro, le⟩ := R'.ret rv h2
 exact q v T2 H' ro (g.trans (Grow.less le)))
theorem zdx {K : zC} {F B : Addr -> Prop} {T : List Addr} {ad : Ad} {as as2 : AS} {σ : St} {H : Hp} {v : V} {r : RV} {z : Bool} {o : O} {i : Nat} (R : Rel K kd F B T ad as σ H) (rv : vJ K kd F B T ad σ H v r)
 (h2 : toO as (if z = true then r.frz else r) = some (o, as2)) (hl : i < as2.length) : ∃ ad', Rel K kd F B [] ad' (as2.set i (some o)) (σ.set i (some v)) H /\ ∀ a, Gw [] ad' a -> Gw T ad a := by
 cases z with
 | true =>
  obtain ⟨ad1, R1, ro, le⟩ := zbI R.drop (vJ.drop R rv) h2
  exact ⟨_, R1.put hl ro, λ a y => Gw.drop a (le a (YJ a y))⟩
 | false =>
  obtain ⟨ad1, R1, ro, le⟩ := zbI R rv h2
  exact ⟨_, R1.put hl ro, λ a y => le a (YJ a y)⟩
theorem zlX {z : Bool} {i : Nat} {x : Str} {pos' : Pos} (hN : X.N.Nodup) (hi : X.N[i]? = some x) (hx : Loc X.env.scope x) (he : AE X kd e fa) (hs : swapsWith e (some (.Name x pos')) pos.line X.env = pure false) (hf : X.fn x = true \/ X.env.scope.names.lookup x = some .local) :
 ASt X kd (.Assign [.Name x pos'] e pos) (zJ z i fa) := by with_unfolding_all exact (wF (ziN hN hi hx he hs hf) λ D σ H h => by
 obtain ⟨F, B, ad, as, o, R, e, q⟩ := h
 obtain ⟨⟨p, as1⟩, h1, e⟩ := bS_ (show (fa as).bind _ = _ from e)
 obtain ⟨⟨y, as2⟩, h2, e⟩ := bS_ e
 obtain ⟨hl, e⟩ := zR e
 cases e
 refine ⟨F, B, ad, as, p, as1, R, h1, λ v T' ad' H' R' rv g => ?_⟩
 obtain ⟨ad2, R2, le⟩ := zdx R' rv h2 hl
 exact q _ ad2 H' R2 (g.trans (Grow.less le)))
end
def xj (n : Nat) (ds : List (Bool × D)) : AS := ds.map (λ x => some (.lf x.1 x.2)) ++ List.replicate (n - ds.length) none
def zoD : Out -> Option O
 | .nx _ => some (.lf true .non)
 | .rt o => some o
 | _ => none
def fnR (n m : Nat) (f : SF) (ds : List (Bool × D)) : Option O := if ds.length = m then (f (xj n ds)).bind zoD else none
theorem RpA.get {K : zC} {kd : KD} {F : Addr -> Prop} {H : Hp} : ∀ {vs : List V} {ds : List (Bool × D)} {i : Nat} {x : Bool × D}, RpA K kd F H vs ds -> ds[i]? = some x -> ∃ v, vs[i]? = some v /\ Rp K kd (λ a => x.1 = true /\ F a) H v x.2
 | _, _, _, _, .nil, e => by simp at e
 | _, _, 0, _, .cons h _, e => by simp at e; subst e; exact ⟨_, rfl, h⟩
 | _, _, i + 1, _, .cons _ r, e => by
  obtain ⟨v, h1, h2⟩ := RpA.get (i := i) r (by simpa using e)
  exact ⟨v, by simpa using h1, h2⟩
theorem zhr {K : zC} {kd : KD} {F : Addr -> Prop} {H : Hp} {N : List Str} {vs : List V} {ds : List (Bool × D)} (ht : ∀ a, F a -> H a ≠ none) (rp : RpA K kd F H vs ds) :
 Rel K kd F (λ _ => False) [] (λ _ => []) (xj N.length ds) (L2.start N vs) H := by
 have hl := rp.length
 have no : ∀ a, ¬ Gw [] (λ _ => []) a := λ a z => z.elim (λ y => nomatch y) λ ⟨_, y⟩ => nomatch y
 refine ⟨by unfold xj L2.start; simp [hl], λ _ _ => rfl, λ _ => List.nodup_nil, (λ _ _ _ z => nomatch z), List.nodup_nil, (λ _ _ _ z => nomatch z), ht, (λ _ z => z.elim), λ a z => (no a z).elim, λ i s e => ?_⟩
 unfold xj at e
 unfold L2.start
 by_cases hi : i < ds.length
 · rw [List.getElem?_append_left (by rw [zD]; exact hi), zzF] at e
   obtain ⟨d, hd, ea⟩ := zzU.mp e
   subst ea
   obtain ⟨v, hv, rv⟩ := rp.get hd
   rw [List.getElem?_append_left (by rw [zD, hl]; exact hi), zzF, hv]
   refine ⟨v, rfl, .lf (rv.less λ a z => ?_)⟩
   rcases z with (z | z) | z
   · exact z
   · exact z.elim
   · exact (no a z).elim
 · rw [List.getElem?_append_right (by rw [zD]; omega)] at e
   have := List.mem_of_getElem? e
   have ea : s = none := (List.mem_replicate.mp this).2
   subst ea
   rfl
section
variable {P : Program} {w : World} {K : zC} {mg : Str -> Option Value} {base : Heap}
theorem zhT {kd : KD} {F : Addr -> Prop} {H H' : Hp} {Q : VK} {o : O} {v : V} {T : List Addr} (q : RQO K kd F H Q o) (ro : RetOk K kd F T H' v o) (g : Grow (Gw [] λ _ => []) H (· ∈ T) H') : Q v H' := by
 have no : ∀ a, ¬ Gw [] (λ _ => []) a := λ a z => z.elim (λ y => nomatch y) λ ⟨_, y⟩ => nomatch y
 exact q v T H' ro.nd (λ a m => (g.own a m).resolve_left (no a)) (λ b u h => g.keep b u h (no b)) ro.tr ro.ro
theorem wK {kd : KD} {x qual : Str} {st : Stmt} {f : Addr} {fd : FuncData} {N ps : List Str} {k : Nat} {c : SF} (Fn : Fun K x qual st f fd) (S : FnScope N ps (zF st))
 (hb : ∀ (cdv : Value) (A : Around) (outer : List Env) (s : Shared) (H : Hp) (E : XK), Room k (A.deeper (envOfC qual (zF st) s.heap.objs.size f cdv)) -> ASs (zeC CX0 P w K mg base N qual (zF st) f cdv A outer s H E).nox kd (Wq st) c) :
 FnOk P w K mg base CX0 (k + 1) f fd ps (spD K kd (fnR N.length ps.length c)) := by
 with_unfolding_all (
 refine Fn.ok S (λ vs H Q E h => ?_) (λ cdv A outer s H vs Q E hr h => ⟨_, hb cdv A outer s H E hr, ?_⟩)
 · obtain ⟨F, ds, r, _, rp, e, _⟩ := h
   unfold fnR at e
   by_cases hl : ds.length = ps.length
   · rw [rp.length, hl]
   · rw [if_neg hl] at e; cases e
 · obtain ⟨F, ds, r, ht, rp, e, q⟩ := h
   unfold fnR at e
   by_cases hl : ds.length = ps.length
   · rw [if_pos hl] at e
     obtain ⟨o, e1, e⟩ := bS_ e
     refine ⟨F, λ _ => False, λ _ => [], xj N.length ds, o, zhr ht rp, e1, ?_⟩
     cases o with
     | nx as => cases e; exact λ σ' ad' H' R g => zhT q (T := []) ⟨List.nodup_nil, (λ _ m => nomatch m), .lf .non⟩ (g.trans (Grow.less (λ _ z => nomatch z)))
     | rt o => cases e; exact λ v T H' ro g => zhT q ro g
     | bk => cases e
     | ct => cases e
   · rw [if_neg hl] at e; cases e)
end
abbrev It1 := Bool × D
abbrev GF := It1 -> AS -> Option AS
abbrev GFs := List It1 -> AS -> Option AS
def kids (st : Bool) (ds : List D) : List It1 := ds.map λ d => (zL d || st, d)
inductive RpI (K : zC) (kd : KD) (F B G : Addr -> Prop) (H : Hp) : List V -> List It1 -> Prop
 | nil : RpI K kd F B G H [] []
 | cons {v : V} {x : It1} {vs : List V} {ds : List It1} : Rp K kd (Lv F B G x.1) H v x.2 -> RpI K kd F B G H vs ds -> RpI K kd F B G H (v :: vs) (x :: ds)
def alG (K : zC) (kd : KD) (S : List Nat) (g : GF) : TG := λ v σ H Q => ∃ F B ad as x as', Rel K kd F B [] ad as σ H /\ Rp K kd (Lv F B (Gw [] ad) x.1) H v x.2 /\ g x as = some as' /\
 ∀ σ' ad' H', Rel K kd F B [] ad' as' σ' H' -> Grow (Gw [] ad) H (Gw [] ad') H' -> (∀ j, j ∉ S -> σ'[j]? = σ[j]?) -> Q σ' H'
def zoM (K : zC) (kd : KD) (S : List Nat) (g : GFs) : TGs := λ vs σ H Q => ∃ F B ad as ds as', Rel K kd F B [] ad as σ H /\ RpI K kd F B (Gw [] ad) H vs ds /\ g ds as = some as' /\
 ∀ σ' ad' H', Rel K kd F B [] ad' as' σ' H' -> Grow (Gw [] ad) H (Gw [] ad') H' -> (∀ j, j ∉ S -> σ'[j]? = σ[j]?) -> Q σ' H'
@[irreducible] def AG (X : Cx) (kd : KD) (tg : Expr) (S : List Nat) (g : GF) : Prop := PG X tg (alG X.K kd S g)
@[irreducible] def AGs (X : Cx) (kd : KD) (tg : List Expr) (S : List Nat) (g : GFs) : Prop := PGs X tg (zoM X.K kd S g)
theorem zmF {X : Cx} {e : Expr} {t t' : TG} (h : PG X e t) (k : ∀ v σ H Q, t' v σ H Q -> t v σ H Q) : PG X e t' := λ pins s σ H v u Q I r q => h pins s σ H v u Q I r (k v σ H Q q)
theorem zfU {X : Cx} {e : List Expr} {t t' : TGs} (h : PGs X e t) (k : ∀ v σ H Q, t' v σ H Q -> t v σ H Q) : PGs X e t' := λ pins s σ H v u Q I r q => h pins s σ H v u Q I r (k v σ H Q q)
def gN (i : Nat) : GF := λ x as => if i < as.length then some (as.set i (some (.lf x.1 x.2))) else none
def gsN : GFs := λ ds as => match ds with | [] => some as | _ :: _ => none
def gsC (g : GF) (gs : GFs) : GFs := λ ds as => match ds with | [] => none | d :: r => (g d as).bind λ as1 => gs r as1
def gT (n : Nat) (gs : GFs) : GF := λ x as => match x.2 with
 | .tup ds => if ds.length = n then gs (kids x.1 ds) as else none
 | .lst ds => if ds.length = n then gs (kids x.1 ds) as else none
 | _ => none
section
variable {K : zC} {kd : KD} {F B G G' : Addr -> Prop} {H H' : Hp}
theorem RpI.length {vs : List V} {ds : List It1} (h : RpI K kd F B G H vs ds) : vs.length = ds.length := by
 induction h with
 | nil => rfl
 | cons _ _ ih => exact congrArg (· + 1) ih
theorem RpI.grow (g : Grow G H G' H') {vs : List V} {ds : List It1} (h : RpI K kd F B G H vs ds) : RpI K kd F B G' H' vs ds := by
 induction h with
 | nil => exact .nil
 | cons h _ ih => exact .cons (Rp.grow g h) ih
theorem RpI.get {vs : List V} {ds : List It1} {i : Nat} {x : It1} (h : RpI K kd F B G H vs ds) (e : ds[i]? = some x) : ∃ v, vs[i]? = some v /\ Rp K kd (Lv F B G x.1) H v x.2 := by
 induction h generalizing i with
 | nil => simp at e
 | cons h r ih =>
  cases i with
  | zero => simp at e; subst e; exact ⟨_, rfl, h⟩
  | succ i =>
   obtain ⟨v, h1, h2⟩ := ih (i := i) (by simpa using e)
   exact ⟨v, by simpa using h1, h2⟩
theorem Wr {st : Bool} {vs : List V} {ds : List D} (h : RpL K kd (Lv F B G st) H vs ds) : RpI K kd F B G H vs (kids st ds) :=
 RpL.ind (P := λ vs ds => RpI K kd F B G H vs (kids st ds)) .nil (λ {v d vs ds} h _ ih => by
  refine .cons (x := (zL d || st, d)) ?_ ih
  cases e : zL d with
  | true => exact h.flat e
  | false => exact h) h
end
section
variable {prog : Program} {w : World} {A : Around} {E : Value -> Shared -> Prop} {s : Shared}
theorem zcN {it l : Addr} {items : Array Value} (hne : l ≠ it) : ∀ (n i : Nat) (s : Shared) (Q : List Value -> Shared -> Prop), s.heap.IsListIter it l i -> s.heap.IsList l items -> i + n <= items.size ->
 (∀ h', h'.IsListIter it l (i + n) -> Heap.SameBut it s.heap h' -> Q ((items.toList.drop i).take n) { s with heap := h' }) -> wpAny (model prog w) A (draw (.ref it) n) Q E s
 | 0, i, s, Q, hit, _, _, hQ => by
  show wpAny _ _ (pure []) Q E s
  exact wpAny_pure (by simpa using hQ s.heap hit (Heap.SameBut.refl ..))
 | n + 1, i, s, Q, hit, ht, hle, hQ => by
  have hlt : i < items.size := by omega
  show wpAny _ _ (pyNext (.ref it) >>= _) Q E s
  refine wpAny_bind (wpAny_pyNext_list_item hit ht (x := items[i]) (by simp [hlt]) λ h₁ hit₁ hs₁ => ?_)
  refine wpAny_bind (wpAny_holding (zcN hne n (i + 1) _ _ hit₁ (ht.extBut hs₁.extBut hne) (by omega) λ h₂ hit₂ hs₂ => wpAny_pure ?_))
  have hd : items.toList.drop i = items[i] :: items.toList.drop (i + 1) := by simp [List.drop_eq_getElem_cons, hlt]
  have := hQ h₂ (by rw [show i + (n + 1) = i + 1 + n by omega]; exact hit₂) (hs₁.trans hs₂)
  rw [hd, List.take_succ_cons] at this
  exact this
theorem zeD {l : Addr} {items : Array Value} {targets : List (Bool × (Value -> Sem Unit))} {Q : Unit -> Shared -> Prop} (hh : A.handled = none) (ht : s.heap.IsList l items)
 (hn : targets.length = items.size) (hstar : targets.findIdx? (·.1) = none)
 (h : ∀ h', Heap.ExtBut s.heap.objs.size s.heap h' -> wpAny (model prog w) A (assignInOrder (targets.map (·.2)) items.toList) Q E { s with heap := h' }) :
 wpAny (model prog w) A (unpack (.ref l) targets) Q E s := by
 unfold unpack
 rw [hn, hstar]
 refine wpAny_bind (wpAny_holding ?_)
 have hlt : l ≠ s.heap.objs.size := by obtain ⟨o, ho, _⟩ := ht; exact zzN (Heap.lt_size ho)
 unfold unpackItems
 refine wpAny_bind ?_
 unfold notIterableAtAll
 refine wpAny_bind (wpAny_specialOf ht.typeIs PySem.F.slot_list_iter.lookup ?_)
 refine wpAny_pure ?_
 simp only [Bool.false_eq_true, if_false]
 refine wpAny_bind (wpAny_holding (wpAny_pyIter_list ht ?_))
 refine wpAny_bind (wpAny_holding (zcN hlt items.size 0 _ _ ⟨_, Heap.get?_push_size _ rfl, rfl, rfl⟩ (ht.push _) (by omega) λ h₁ hit₁ hs₁ => ?_))
 have hall : List.take items.size (List.drop 0 items.toList) = items.toList := by
  rw [List.drop_zero]; exact List.take_of_length_le (by simp)
 rw [hall]
 rw [if_neg (by simp)]
 have ht₁ : h₁.IsList l items := (ht.push _).extBut hs₁.extBut hlt
 refine wpAny_bind (wpAny_holding (wpAny_pyNext_list_end hh hit₁ ht₁ (by simp) λ h₂ he₂ => ?_))
 simp only [Option.isSome_none, Bool.false_eq_true, if_false]
 exact wpAny_pure (h h₂ λ b o hb e => he₂ b o hb (hs₁.extBut b o hb (Heap.get?_push_of_some _ e)))
end
section
variable {X : Cx} {kd : KD} {a b c e tg iter : Expr} {es : List Expr} {body : List Stmt} {fa fb : EF} {pos : Pos} {g : GF} {gs : GFs} {f : SF} {ta : TF} {S S1 S2 : List Nat}
def zoo (K : zC) (n : Nat) (t : TGs) : TG := λ v σ H Q => ∃ a xs, v = .ref a /\ SqL K H a xs /\ xs.length = n /\ t xs σ H Q
theorem ziq {es : List Expr} {k : Nat} {t : TGs} {n : Nat} (hc : X.calm = true) (h : PGs X es t) (hn : (assignEach es X.env).length = n) (hst : (assignEach es X.env).findIdx? (·.1) = none) : PG X (.Tuple es k pos) (zoo X.K n t) := by
 intro pins s σ H v u Q I r hw
 obtain ⟨a, xs, e1, hq, hl, hw⟩ := hw
 subst e1
 cases r
 obtain ⟨its, rv, ht, hz⟩ := I.list hq
 rw [assign_Tuple]
 refine wpAny_bind (wpAny_standAt (zeD (I.ok.hd hc) ht.isList (by simp [hn, <- hl, rv.length]) hst λ h' hx => ?_))
 have I1 : Inv X pins σ H { s with heap := h' } := I.kept (t' := s.toks) λ b o e => hx b o (zzN (Heap.lt_size e)) e
 exact h pins _ σ H xs _ Q I1 (by simpa using rv) hw
theorem zkj {i : Nat} {x : Str} (hN : X.N.Nodup) (hi : X.N[i]? = some x) (hx : Loc X.env.scope x) (hf : X.fn x = true \/ X.env.scope.names.lookup x = some .local) : AG X kd (.Name x pos) [i] (gN i) := by with_unfolding_all exact (zmF (zjF hN hi hx hf) λ v σ H Q h => by
 obtain ⟨F, B, ad, as, y, as', R, rp, e, q⟩ := h
 obtain ⟨hl, e⟩ := zR e
 cases e
 exact q _ _ H (R.put hl (o := .lf y.1 y.2) (.lf rp)) (Grow.less YJ) λ j hj => zzV (λ z => hj (by rw [z]; simp)))
theorem Vo : AGs X kd [] [] gsN := by with_unfolding_all exact (zfU zkR λ vs σ H Q h => by
 obtain ⟨F, B, ad, as, ds, as', R, rp, e, q⟩ := h
 cases rp with
 | nil => cases e; exact ⟨rfl, q σ ad H R Grow.refl λ _ _ => rfl⟩
 | cons => cases e)
theorem xU (h1 : AG X kd a S1 g) (h2 : AGs X kd es S2 gs) (hs : (assignEach (a :: es) X.env).map (·.2) = assign a X.env :: (assignEach es X.env).map (·.2)) : AGs X kd (a :: es) (S1 ++ S2) (gsC g gs) := by with_unfolding_all exact (zfU (zjf h1 h2 hs) λ vs σ H Q h => by
 obtain ⟨F, B, ad, as, ds, as', R, rp, e, q⟩ := h
 cases rp with
 | nil => cases e
 | cons r rr =>
  obtain ⟨as1, e1, e⟩ := bS_ (show (g _ as).bind _ = _ from e)
  refine ⟨_, _, rfl, F, B, ad, as, _, as1, R, r, e1, λ σ' ad' H' R' g' k' => ?_⟩
  exact ⟨F, B, ad', as1, _, as', R', rr.grow g', e, λ σ2 ad2 H2 R2 g2 k2 => q σ2 ad2 H2 R2 (g'.trans g2) λ j hj => (k2 j λ z => hj (zzI _ z)).trans (k' j λ z => hj (zzM _ z))⟩)
theorem zby {k n : Nat} (hc : X.calm = true) (h : AGs X kd es S gs) (hn : (assignEach es X.env).length = n) (hst : (assignEach es X.env).findIdx? (·.1) = none) : AG X kd (.Tuple es k pos) S (gT n gs) := by
 with_unfolding_all (
 intro pins s σ H v u Q I r hw
 obtain ⟨F, B, ad, as, ⟨st, d⟩, as', R, rp, e, q⟩ := hw
 cases d with
 | tup ds =>
  have e : (if ds.length = n then gs (kids st ds) as else none) = some as' := e
  by_cases hl : ds.length = n
  · rw [if_pos hl] at e
    have go : ∃ a xs, v = .ref a /\ SqT X.K H a xs /\ RpL X.K kd (Lv F B (Gw [] ad) st) H xs ds := by
     cases rp with
     | tup n h r => exact ⟨_, _, rfl, .inl (.inl h), r⟩
    obtain ⟨a, xs, rfl, hs, rl⟩ := go
    exact zmK hc h hn hst pins s σ H _ u Q I r ⟨a, xs, rfl, hs, by rw [rl.length, hl], F, B, ad, as, _, as', R, Wr rl, e, q⟩
  · rw [if_neg hl] at e; cases e
 | lst ds =>
  have e : (if ds.length = n then gs (kids st ds) as else none) = some as' := e
  by_cases hl : ds.length = n
  · rw [if_pos hl] at e
    cases rp with
    | lstK a b c r' => exact ziq hc h hn hst pins s σ H _ u Q I r ⟨_, _, rfl, .inr ⟨_, _, _, a, rfl, rfl, rfl, b, c⟩, by rw [r'.length, hl], F, B, ad, as, _, as', R, Wr r', e, q⟩
    | lst n h' r' => exact ziq hc h hn hst pins s σ H _ u Q I r ⟨_, _, rfl, .inl h', by rw [r'.length, hl], F, B, ad, as, _, as', R, Wr r', e, q⟩
  · rw [if_neg hl] at e; cases e
 | _ => cases e)
def XF (as : AS) (r : RV) : Option (It1 × AS) := (toO as r.frz).bind λ x => match x.1 with | .lf st d => some ((st, d), x.2) | _ => none
theorem ZK {K : zC} {F B : Addr -> Prop} {T : List Addr} {ad : Ad} {as as' : AS} {σ : St} {H : Hp} {v : V} {r : RV} {x : It1} (R : Rel K kd F B T ad as σ H) (h : vJ K kd F B T ad σ H v r) (e : XF as r = some (x, as')) :
 ∃ ad', Rel K kd F B [] ad' as' σ H /\ Rp K kd (Lv F B (Gw [] ad') x.1) H v x.2 /\ ∀ a, Gw [] ad' a -> Gw T ad a := by
 obtain ⟨⟨o, as1⟩, h1, e⟩ := bS_ e
 obtain ⟨ad1, R1, ro, le⟩ := zbI R.drop (vJ.drop R h) h1
 cases o with
 | lf st d =>
  cases e
  refine ⟨ad1, R1, ?_, λ a y => Gw.drop a (le a y)⟩
  have := zdK ro
  exact this
 | nd k os => cases e
def zes (f : EF) (g : GF) : SF := λ as => (f as).bind λ p => (XF p.2 p.1).bind λ q => (g q.1 q.2).bind λ as' => some (.nx as')
theorem ziL (he : AE X kd e fa) (hg : AG X kd tg S g) (hs : swapsWithSole [tg] e pos.line X.env = pure false) (hw : swappedStores [tg] e X.env = pure none) (h1 : (assignEach [tg] X.env).map (·.2) = [assign tg X.env]) :
 ASt X kd (.Assign [tg] e pos) (zes fa g) := by with_unfolding_all exact (wF (zhM he hg hs hw h1) λ D σ H h => by
 obtain ⟨F, B, ad, as, o, R, e, q⟩ := h
 obtain ⟨⟨p, as1⟩, h1, e⟩ := bS_ (show (fa as).bind _ = _ from e)
 obtain ⟨⟨x, as2⟩, h2, e⟩ := bS_ e
 obtain ⟨as3, h3, e⟩ := bS_ e
 cases e
 refine ⟨F, B, ad, as, p, as1, R, h1, λ v T' ad' H' R' rv g1 => ?_⟩
 obtain ⟨ad2, R2, rp, le⟩ := ZK R' rv h2
 exact ⟨F, B, ad2, as2, _, as3, R2, rp, h3, λ σ' ad' H' R' g' _ => q σ' ad' H' R' ((g1.trans (Grow.less le)).trans g')⟩)
structure ItOk (K : zC) (kd : KD) (F B : Addr -> Prop) (ad : Ad) (H : Hp) (J : It) (ds : List It1) : Prop where
 all : ∀ (ad2 : Ad) (H2 : Hp), Grow (Gw [] ad) H (Gw [] ad2) H2 -> (∀ st a, Lv F B (Gw [] ad2) st a -> H2 a ≠ none) -> ∀ i, (i < ds.length -> J.go i H2) /\ (ds.length <= i -> J.stop i H2) /\
  ∀ v H3, J.yld i H2 v H3 -> (∀ b o, H2 b = some o -> H3 b = some o) /\ ∀ x, ds[i]? = some x -> Rp K kd (Lv F B (Gw [] ad2) x.1) H3 v x.2
abbrev IF := AS -> Option (List It1 × AS)
def alI (K : zC) (kd : KD) (f : IF) : TI := λ σ H R => ∃ F B ad as ds as', Rel K kd F B [] ad as σ H /\ f as = some (ds, as') /\
 ∀ J ad' H', Rel K kd F B [] ad' as' σ H' -> Grow (Gw [] ad) H (Gw [] ad') H' -> ItOk K kd F B ad' H' J ds -> R J H'
@[irreducible] def AI (X : Cx) (kd : KD) (tg iter : Expr) (f : IF) : Prop := PI X tg iter (alI X.K kd f)
def forL (g : GF) (f : SF) : List It1 -> AS -> Option Out
 | [], as => some (.nx as)
 | d :: r, as => (g d as).bind λ as1 => (f as1).bind λ o => match o with
  | .nx as' => forL g f r as'
  | .ct as' => forL g f r as'
  | .bk as' => some (.nx as')
  | .rt r => some (.rt r)
def yM (fi : IF) (g : GF) (f : SF) : SF := λ as => (fi as).bind λ p => forL g f p.1 p.2
theorem yI {fi : IF} (hp : PassesOwn (model X.prog X.w) X.A X.env X.xe) (hc : X.calm = true) (hi : AI X kd tg iter fi) (hg : AG X kd tg S g) (hb : ASs X kd body f) (hs : ∀ x, foldedSetIterable iter X.env x = pure x) :
 ASt X kd (.For tg iter body [] pos) (yM fi g f) := by with_unfolding_all exact (wF (ziS hp hc hi hg hb hs) λ D σ H h => by
 obtain ⟨F, B, ad, as, o, R, e, q⟩ := h
 obtain ⟨⟨ds, as1⟩, h1, e⟩ := bS_ (show (fi as).bind _ = _ from e)
 refine ⟨F, B, ad, as, ds, as1, R, h1, λ J ad1 H1 R1 g1 it => ?_⟩
 refine ⟨λ i m σ2 H2 => m + i = ds.length /\ ∃ ad2 as2, Rel X.K kd F B [] ad2 as2 σ2 H2 /\ Grow (Gw [] ad1) H1 (Gw [] ad2) H2 /\ forL g f (ds.drop i) as2 = some o, ⟨ds.length, rfl, ad1, as1, R1, Grow.refl, e⟩, ?_⟩
 rintro i m σ2 H2 ⟨hm, ad2, as2, R2, g2, e2⟩
 obtain ⟨k1, k2, k3⟩ := it.all ad2 H2 g2 R2.trk i
 by_cases hi : i < ds.length
 · refine .inr ⟨k1 hi, λ σ3 H3 => ∃ ad3 as3, Rel X.K kd F B [] ad3 as3 σ3 H3 /\ Grow (Gw [] ad1) H1 (Gw [] ad3) H3 /\ forL g f (ds.drop (i + 1)) as3 = some o, λ σ3 H3 ⟨ad3, as3, R3, g3, e3⟩ => ⟨m - 1, by omega, by omega, ad3, as3, R3, g3, e3⟩, λ v H3 hy => ?_⟩
   obtain ⟨kp, rp⟩ := k3 v H3 hy
   rw [List.drop_eq_getElem_cons hi] at e2
   obtain ⟨as3, e3, e2⟩ := bS_ (show (g _ as2).bind _ = _ from e2)
   obtain ⟨o3, e4, e2⟩ := bS_ e2
   obtain ⟨R3, g3⟩ := R2.more kp
   refine ⟨F, B, ad2, as2, _, as3, R3, rp _ (zzB hi), e3, λ σ4 ad4 H4 R4 g4 _ => ?_⟩
   refine ⟨F, B, ad4, as3, o3, R4, e4, ?_⟩
   have gg := (g2.trans g3).trans g4
   cases o3 with
   | nx as5 => exact λ σ5 ad5 H5 R5 g5 => ⟨ad5, as5, R5, gg.trans g5, e2⟩
   | ct as5 => exact λ σ5 ad5 H5 R5 g5 => ⟨ad5, as5, R5, gg.trans g5, e2⟩
   | bk as5 =>
    cases e2
    exact λ σ5 ad5 H5 R5 g5 => q σ5 ad5 H5 R5 (g1.trans (gg.trans g5))
   | rt r =>
    cases e2
    exact λ v T H5 ro g5 => q v T H5 ro (g1.trans (gg.trans g5))
 · refine .inl ⟨k2 (by omega), ?_⟩
   rw [List.drop_eq_nil_of_le (by omega)] at e2
   cases e2
   exact q σ2 ad2 H2 R2 (g1.trans g2))
def whL (c : TF) (f : SF) : Nat -> AS -> Option Out
 | 0, _ => none
 | n + 1, as => (c as).bind λ p => if p.1 = true then (f p.2).bind λ o => match o with
  | .nx as' => whL c f n as'
  | .ct as' => whL c f n as'
  | .bk as' => some (.nx as')
  | .rt r => some (.rt r) else some (.nx p.2)
theorem zep {n : Nat} (hp : PassesOwn (model X.prog X.w) X.A X.env X.xe) (hc : AT X kd c ta) (hb : ASs X kd body f) : ASt X kd (.While c body [] pos) (whL ta f n) := by with_unfolding_all exact (wF (zir hp hc hb) λ D σ H h => by
 obtain ⟨F, B, ad, as, o, R, e, q⟩ := h
 refine ⟨λ m σ2 H2 => ∃ ad2 as2, Rel X.K kd F B [] ad2 as2 σ2 H2 /\ Grow (Gw [] ad) H (Gw [] ad2) H2 /\ whL ta f m as2 = some o, ⟨n, ad, as, R, Grow.refl, e⟩, ?_⟩
 rintro m σ2 H2 ⟨ad2, as2, R2, g2, e2⟩
 cases m with
 | zero => cases e2
 | succ m =>
  obtain ⟨⟨p, as3⟩, e3, e2⟩ := bS_ (show (ta as2).bind _ = _ from e2)
  refine ⟨F, B, ad2, as2, p, as3, R2, e3, λ ad3 H3 R3 g3 => ?_⟩
  cases p with
  | true =>
   rw [if_pos rfl] at e2 ⊢
   obtain ⟨o3, e4, e2⟩ := bS_ e2
   refine ⟨λ σ3 H3 => ∃ ad3 as3, Rel X.K kd F B [] ad3 as3 σ3 H3 /\ Grow (Gw [] ad) H (Gw [] ad3) H3 /\ whL ta f m as3 = some o, λ σ3 H3 h => ⟨m, by omega, h⟩, F, B, ad3, as3, o3, R3, e4, ?_⟩
   have gg := g2.trans g3
   cases o3 with
   | nx as5 => exact λ σ5 ad5 H5 R5 g5 => ⟨ad5, as5, R5, gg.trans g5, e2⟩
   | ct as5 => exact λ σ5 ad5 H5 R5 g5 => ⟨ad5, as5, R5, gg.trans g5, e2⟩
   | bk as5 =>
    cases e2
    exact λ σ5 ad5 H5 R5 g5 => q σ5 ad5 H5 R5 (gg.trans g5)
   | rt r =>
    cases e2
    exact λ v T H5 ro g5 => q v T H5 ro (gg.trans g5)
  | false =>
   rw [if_neg Bool.false_ne_true] at e2 ⊢
   cases e2
   exact q σ2 ad3 H3 R3 (g2.trans g3))
def zeo : It1 -> Option (List It1)
 | (st, .lst ds) => some (kids st ds)
 | (st, .tup ds) => some (kids st ds)
 | _ => none
def zap (f : EF) : IF := λ as => (f as).bind λ p => (XF p.2 p.1).bind λ q => (zeo q.1).bind λ ds => some (ds, q.2)
theorem zgv {K : zC} {F B : Addr -> Prop} {ad : Ad} {H : Hp} {a : Addr} {vs : List V} {ds : List It1} (hs : ∀ (ad3 : Ad) (H3 : Hp), Grow (Gw [] ad) H (Gw [] ad3) H3 -> SqL K H3 a vs) (r : RpI K kd F B (Gw [] ad) H vs ds) : ItOk K kd F B ad H (Itl K a) ds := ⟨λ ad3 H3 g3 _ i => by
 have hr3 := hs ad3 H3 g3
 have rl3 := r.grow g3
 refine ⟨λ hi => ?_, λ hi => ⟨_, hr3, by rw [r.length]; exact hi⟩, λ v H4 hy => ?_⟩
 · obtain ⟨u, hu, _⟩ := r.get (zzB hi)
   exact ⟨_, u, hr3, hu⟩
 · obtain ⟨rfl, hv⟩ := hy
   refine ⟨λ _ _ z => z, λ d hd => ?_⟩
   obtain ⟨u, hu, ru⟩ := rl3.get hd
   have := hv _ hr3
   rw [hu] at this
   cases this
   exact ru⟩
theorem zmY {K : zC} {F B : Addr -> Prop} {ad : Ad} {H : Hp} {a : Addr} {vs : List V} {ds : List It1} (hs : ∀ (ad3 : Ad) (H3 : Hp), Grow (Gw [] ad) H (Gw [] ad3) H3 -> SqT K H3 a vs) (r : RpI K kd F B (Gw [] ad) H vs ds) : ItOk K kd F B ad H (Itt K a) ds := ⟨λ ad3 H3 g3 _ i => by
 have hr3 := hs ad3 H3 g3
 have rl3 := r.grow g3
 refine ⟨λ hi => ?_, λ hi => ⟨_, hr3, by rw [r.length]; exact hi⟩, λ v H4 hy => ?_⟩
 · obtain ⟨u, hu, _⟩ := r.get (zzB hi)
   exact ⟨_, u, hr3, hu⟩
 · obtain ⟨rfl, hv⟩ := hy
   refine ⟨λ _ _ z => z, λ d hd => ?_⟩
   obtain ⟨u, hu, ru⟩ := rl3.get hd
   have := hv _ hr3
   rw [hu] at this
   cases this
   exact ru⟩
theorem zbU (he : AE X kd e fa) : AI X kd tg e (zap fa) := by
 with_unfolding_all (
 intro pins s σ H R I h
 obtain ⟨F, B, ad, as, ds, as', Rl, e, q⟩ := h
 obtain ⟨⟨p, as1⟩, h1, e⟩ := bS_ (show (fa as).bind _ = _ from e)
 obtain ⟨⟨⟨st, x⟩, as2⟩, h2, e⟩ := bS_ e
 obtain ⟨ys, h3, e⟩ := bS_ e
 cases e
 cases x with
 | lst xs =>
  cases h3
  refine zcX he pins s σ H R I ⟨F, B, ad, as, p, as1, Rl, h1, λ v T1 ad1 H1 R1 rv1 g1 => ?_⟩
  obtain ⟨ad2, R2, rp, le⟩ := ZK R1 rv1 h2
  cases rp with
  | lst hn hr rl => exact ⟨_, rfl, ⟨_, .inl hr⟩, q _ ad2 H1 R2 (g1.trans (Grow.less le)) (zgv (λ ad3 H3 g3 => .inl (VN g3 (λ z => hn (.inr z)) hr)) (Wr rl))⟩
  | lstK a b c rl => exact ⟨_, rfl, ⟨_, .inr ⟨_, _, _, a, rfl, rfl, rfl, b, c⟩⟩, q _ ad2 H1 R2 (g1.trans (Grow.less le)) (zgv (λ ad3 H3 g3 => .inr ⟨_, _, _, a, rfl, rfl, rfl, b, c⟩) (Wr rl))⟩
 | tup xs =>
  cases h3
  refine zfg he pins s σ H R I ⟨F, B, ad, as, p, as1, Rl, h1, λ v T1 ad1 H1 R1 rv1 g1 => ?_⟩
  obtain ⟨ad2, R2, rp, le⟩ := ZK R1 rv1 h2
  have go : ∃ a ys, v = .ref a /\ (∀ (ad3 : Ad) (H3 : Hp), Grow (Gw [] ad2) H1 (Gw [] ad3) H3 -> SqT X.K H3 a ys) /\ RpL X.K kd (Lv F B (Gw [] ad2) st) H1 ys xs := by
   cases rp with
   | tup n h r => exact ⟨_, _, rfl, λ ad3 H3 g3 => .inl (VN g3 (λ z => n (.inr z)) (.inl h)), r⟩
  obtain ⟨a, ys, rfl, hs, rl⟩ := go
  exact ⟨_, rfl, ⟨_, hs ad2 H1 Grow.refl⟩, q _ ad2 H1 R2 (g1.trans (Grow.less le)) (zmY hs (Wr rl))⟩
 | _ => cases h3)
def yL (lo : Int) (n : Nat) : List It1 := (List.range n).map λ (i : Nat) => (true, D.int (lo + (i : Int)))
theorem ziD {K : zC} {F B : Addr -> Prop} {ad : Ad} {H : Hp} (lo : Int) (n : Nat) : ItOk K kd F B ad H (Itr lo n) (yL lo n) := ⟨λ ad2 H2 g _ i => by
 have hl : (yL lo n).length = n := by unfold yL; simp
 refine ⟨λ hi => by rw [hl] at hi; exact hi, λ hi => by rw [hl] at hi; exact hi, λ v H3 hy => ?_⟩
 obtain ⟨rfl, rfl⟩ := hy
 refine ⟨λ _ _ z => z, λ d hd => ?_⟩
 have hi : i < n := by rw [<- hl]; exact (zzD.mp hd).1
 unfold yL at hd
 rw [zzF, List.getElem?_range hi] at hd
 cases hd
 exact .int _⟩
def znF : List D -> Option D
 | [x] => some x
 | _ => none
theorem zjO {ds : List D} {d : D} (h : znF ds = some d) : ds = [d] := by
 cases ds with
 | nil => cases h
 | cons x r =>
  cases r with
  | nil => cases h; rfl
  | cons _ _ => cases h
def yw (ds : List D) : Option (List It1) := ((znF ds).bind asI).bind λ j => if -(2 ^ 62) <= j /\ j < 2 ^ 62 then some (yL 0 j.toNat) else none
theorem zfN {ds : List D} {xs : List It1} (h : yw ds = some xs) : ∃ j, ds = [.int j] /\ (if -(2 ^ 62) <= j /\ j < 2 ^ 62 then some (yL 0 j.toNat) else none) = some xs := by
 obtain ⟨j, h1, h⟩ := bS_ h
 obtain ⟨d, h2, h1⟩ := bS_ h1
 cases zdq h1
 exact ⟨j, zjO h2, h⟩
def zlY : List D -> Option (List It1)
 | [.int i, .int j] => if -(2 ^ 62) <= i /\ i < 2 ^ 62 /\ -(2 ^ 62) <= j /\ j < 2 ^ 62 then some (yL i (j - i).toNat) else none
 | _ => none
def ym (fr : AF) (h : List D -> Option (List It1)) : IF := λ as => (fr as).bind λ p => (views p.2 p.1).bind λ ds => (h ds.1).bind λ xs => some (xs, p.2)
theorem z7 {fr : AF} {p : Pos} (hg : Gl X "range") (hm : X.mg "range" = none) (ha : AA X kd [a] fr) (hs : starEach [a] X.env = [(false, eval a X.env)]) : AI X kd tg (.Call (.Name "range" p) [a] [] pos) (ym fr yw) := by
 with_unfolding_all (
 intro pins s σ H R I h
 obtain ⟨F, B, ad, as, ds, as', Rl, e, q⟩ := h
 obtain ⟨⟨ps, as1⟩, h1, e⟩ := bS_ (show (fr as).bind _ = _ from e)
 obtain ⟨⟨xs, lv⟩, h2, e⟩ := bS_ e
 obtain ⟨ys, h3, e⟩ := bS_ e
 cases e
 obtain ⟨j, rfl, h3⟩ := zfN h3
 · obtain ⟨hj, e3⟩ := zR h3
   cases e3
   refine zcw hg hm ha hs pins s σ H R I ⟨F, B, ad, as, ps, _, Rl, h1, λ vs ad1 H1 R1 rv1 g1 => ?_⟩
   have vl := Wn R1 rv1 h2
   cases vl with
   | cons v1 v2 =>
    cases v2
    cases v1
    exact ⟨j, rfl, hj.1, hj.2, q _ ad1 H1 R1 g1 (ziD 0 _)⟩)
theorem zhv {fr : AF} {p : Pos} (hg : Gl X "range") (hm : X.mg "range" = none) (ha : AA X kd [a, b] fr) (hs : starEach [a, b] X.env = [(false, eval a X.env), (false, eval b X.env)]) (hs2 : starEach [b] X.env = [(false, eval b X.env)]) : AI X kd tg (.Call (.Name "range" p) [a, b] [] pos) (ym fr zlY) := by
 with_unfolding_all (
 intro pins s σ H R I h
 obtain ⟨F, B, ad, as, ds, as', Rl, e, q⟩ := h
 obtain ⟨⟨ps, as1⟩, h1, e⟩ := bS_ (show (fr as).bind _ = _ from e)
 obtain ⟨⟨xs, lv⟩, h2, e⟩ := bS_ e
 obtain ⟨ys, h3, e⟩ := bS_ e
 cases e
 match xs, h3, h2 with
 | [.int i, .int j], h3, h2 =>
  obtain ⟨hj, e3⟩ := zR (show (if -(2 ^ 62) <= i /\ i < 2 ^ 62 /\ -(2 ^ 62) <= j /\ j < 2 ^ 62 then some (yL i (j - i).toNat) else none) = some ds from h3)
  cases e3
  refine zgM hg hm ha hs hs2 pins s σ H R I ⟨F, B, ad, as, ps, _, Rl, h1, λ vs ad1 H1 R1 rv1 g1 => ?_⟩
  have vl := Wn R1 rv1 h2
  cases vl with
  | cons v1 v2 =>
   cases v2 with
   | cons v2 v3 =>
    cases v3
    cases v1
    cases v2
    exact ⟨i, j, rfl, hj, q _ ad1 H1 R1 g1 (ziD i _)⟩)
theorem Rel.mut {K : zC} {F B : Addr -> Prop} {T fo : List Addr} {ad : Ad} {as : AS} {σ : St} {H : Hp} {i : Nat} {l : Addr} {fp fp' : List Addr} {n : O} {u : HO} (R : Rel K kd F B T ad as σ H) (hi : i < as.length) (hl : ad i = l :: fp) (hs : σ[i]? = some (some (.ref l)))
 (hsub : ∀ a ∈ fp' ++ fo, a ∈ fp ++ T) (hnd : (fp' ++ fo).Nodup) (hu : H l ≠ none)
 (ro : ∀ (H' : Hp) (G' : Addr -> Prop), H' l = some u -> Grow (Gw T ad) H G' H' -> (∀ a ∈ fp', ∀ w, H a = some w -> H' a = some w) -> RoS K kd F B G' H' (.ref l) n (l :: fp')) :
 Rel K kd F B fo (xN ad i (l :: fp')) (as.set i (some n)) σ (upd H l u) /\ Grow (Gw T ad) H (Gw fo (xN ad i (l :: fp'))) (upd H l u) := by
 have hli : l ∈ ad i := by rw [hl]; exact zzC
 have lT : l ∉ T := R.dis i l hli
 have lfp : l ∉ fp := by have := R.nd i; rw [hl] at this; exact (zzT.mp this).1
 have lsub : ∀ a ∈ fp' ++ fo, a ≠ l := λ a m e => by
  subst e
  rcases zzJ.mp (hsub _ m) with z | z
  · exact lfp z
  · exact lT z
 have sub : ∀ a ∈ fp' ++ fo, Gw T ad a := λ a m => by
  rcases zzJ.mp (hsub a m) with z | z
  · exact .inr ⟨i, by rw [hl]; exact zzA _ z⟩
  · exact .inl z
 have gsub : ∀ a, Gw fo (xN ad i (l :: fp')) a -> Gw T ad a := λ a z => by
  rcases z with z | ⟨j, z⟩
  · exact sub a (zzI _ z)
  · by_cases e : j = i
    · subst e
      rw [zY] at z
      rcases zS.mp z with z | z
      · subst z; exact .inr ⟨j, hli⟩
      · exact sub a (zzM _ z)
    · rw [z6 e] at z; exact .inr ⟨j, z⟩
 have g : Grow (Gw T ad) H (Gw fo (xN ad i (l :: fp'))) (upd H l u) := ⟨λ b w h n => by rw [zX (λ e => n (by subst e; exact .inr ⟨i, hli⟩))]; exact h, λ b z => .inl (gsub b z)⟩
 have kn : ∀ a, H a ≠ none -> upd H l u a ≠ none := λ a z => by
  by_cases e : a = l
  · subst e; rw [yz]; simp
  · rw [zX e]; exact z
 obtain ⟨hnd1, hnd2, hnd3⟩ := List.nodup_append.mp hnd
 have inT : ∀ j a, j ≠ i -> a ∈ ad j -> a ∈ fp' ++ fo -> False := λ j a hj m m' => by
  rcases zzJ.mp (hsub a m') with z | z
  · exact hj (R.inj j i a m (by rw [hl]; exact zzA _ z))
  · exact R.dis j a m z
 refine ⟨⟨by rw [zzR]; exact R.len, λ j hj => ?_, λ j => ?_, λ j k a h1 h2 => ?_, hnd2, λ j a h1 h2 => ?_, λ a z => kn a (R.ftr a z), λ a z => ?_, λ a z => ⟨kn a (R.gtr a (gsub a z)).1, (R.gtr a (gsub a z)).2⟩, λ j s e => ?_⟩, g⟩
 · rw [zzR] at hj
   rw [z6 (by omega)]; exact R.out j hj
 · by_cases e : j = i
   · subst e; rw [zY]
     exact zzT.mpr ⟨λ m => lsub l (zzM _ m) rfl, hnd1⟩
   · rw [z6 e]; exact R.nd j
 · by_cases e : j = i
   · subst e
     by_cases e' : k = j
     · exact e'.symm
     · rw [zY] at h1
       rw [z6 e'] at h2
       rcases zS.mp h1 with z | z
       · subst z; exact R.inj j k a hli h2
       · exact (inT k a e' h2 (zzM _ z)).elim
   · rw [z6 e] at h1
     by_cases e' : k = i
     · subst e'
       rw [zY] at h2
       rcases zS.mp h2 with z | z
       · subst z; exact R.inj j k a h1 hli
       · exact (inT j a e h1 (zzM _ z)).elim
     · rw [z6 e'] at h2
       exact R.inj j k a h1 h2
 · by_cases e : j = i
   · subst e
     rw [zY] at h1
     rcases zS.mp h1 with z | z
     · subst z; exact lsub a (zzI _ h2) rfl
     · exact hnd3 a z a h2 rfl
   · rw [z6 e] at h1
     exact inT j a e h1 (zzI _ h2)
 · obtain ⟨b1, b2, b3⟩ := R.btr a z
   exact ⟨kn a b1, b2, λ y => b3 (gsub a y)⟩
 · by_cases q : j = i
   · subst q
     rw [List.getElem?_set_self hi] at e
     cases e
     rw [zY]
     refine ⟨_, hs, ro _ _ yz g λ a m w h => ?_⟩
     rw [zX (lsub a (zzM _ m))]; exact h
   · rw [zzV (Ne.symm q)] at e
     rw [z6 q]
     refine (R.sl j s e).grow g λ a m w h => ?_
     rw [zX (λ z => q (R.inj j i l (by rw [<- z]; exact m) hli))]; exact h
abbrev MG := List O -> List O -> Option (List O × O)
def ww (i : Nat) (fr : DF) (g : MG) : EF := λ as => match as[i]? with
 | some (some (.nd .ls _)) => (fr as).bind λ p => match p.2[i]? with
  | some (some (.nd .ls os)) => (g os p.1).bind λ z => some (.ow z.2, p.2.set i (some (.nd .ls z.1)))
  | _ => none
 | _ => none
def MuD (X : Cx) (kd : KD) (r : V -> List V -> Hp -> VK -> Prop) (g : MG) : Prop :=
 ∀ (F B G : Addr -> Prop) (l : Addr) (vs ws : List V) (os es os' : List O) (o : O) (fp fq : List Addr) (H : Hp) (Q : VK), H l = some (.lst vs) -> v5 X.K kd F B G H vs os fp -> v5 X.K kd F B G H ws es fq -> (fp ++ fq).Nodup -> g os es = some (os', o) ->
  (∀ v vs' fp' fo, v5 X.K kd F B G H vs' os' fp' -> RoS X.K kd F B G H v o fo -> (∀ a ∈ fp' ++ fo, a ∈ fp ++ fq) -> (fp' ++ fo).Nodup -> Q v (upd H l (.lst vs'))) -> r (.ref l) ws H Q
theorem znp {i : Nat} {fr : DF} {g : MG} {r : V -> List V -> Hp -> VK -> Prop} (hr : MuD X kd r g)
 {σ : St} {H : Hp} {Q : VK} (h : al X.K kd (ww i fr g) σ H Q) : tBM X.K "list" r (zbc i) (alD X.K kd fr) σ H Q := by
 obtain ⟨F, B, ad, as, z, as', R, e, q⟩ := h
 unfold ww at e
 cases k : as[i]? with
 | none => rw [k] at e; cases e
 | some a0 =>
  rw [k] at e
  match a0, e, k with
  | some (.nd .ls os0), e, k =>
   obtain ⟨⟨es, as1⟩, h1, e⟩ := bS_ (show (fr as).bind _ = _ from e)
   obtain ⟨v0, hs0, ro0⟩ := R.sl i _ k
   generalize hfp0 : ad i = fp0 at ro0
   cases ro0 with
   | ls hH0 rl0 =>
   rename_i l vs0 fp00
   refine ⟨_, hs0, .inl ⟨rfl, _, .inl (.inl hH0)⟩, F, B, ad, as, es, as1, R, h1, λ ws T1 ad1 H1 R1 ro1 g1 => ?_⟩
   cases k2 : as1[i]? with
   | none => rw [k2] at e; cases e
   | some a2 =>
    rw [k2] at e
    match a2, e, k2 with
    | some (.nd .ls os), e, k2 =>
     obtain ⟨⟨os', o⟩, h3, e⟩ := bS_ (show (g os es).bind _ = _ from e)
     cases e
     obtain ⟨v1, hs1, ro2⟩ := R1.sl i _ k2
     rw [hs0] at hs1
     cases hs1
     generalize hfp : ad1 i = fp1 at ro2
     cases ro2 with
     | ls hH rl =>
     rename_i vs fp
     have hnd : (fp ++ T1).Nodup := List.nodup_append.mpr ⟨by have := R1.nd i; rw [hfp] at this; exact (zzT.mp this).2, R1.tnd, λ a m b m' e => by
          subst e; exact R1.dis i a (by rw [hfp]; exact zzA _ m) m'⟩
     refine hr F B (Gw T1 ad1) _ vs ws os es os' o fp T1 H1 Q hH rl ro1 hnd h3 λ v vs' fp' fo rl' ro' hsub hnd' => ?_
     obtain ⟨R3, g3⟩ := R1.mut (n := .nd .ls os') (u := .lst vs') (zzD.mp k2).1 hfp hs0 hsub hnd' (by rw [hH]; simp) λ H' G' hl' gr kp => .ls hl' (v5.grow gr kp rl')
     have lno : ∀ a ∈ fo, ∀ w, H1 a = some w -> upd H1 l (.lst vs') a = some w := λ a m w h => by
          rw [zX (λ e => ?_)]
          · exact h
          · subst e
            rcases zzJ.mp (hsub _ (zzI _ m)) with z | z
            · have := R1.nd i; rw [hfp] at this; exact (zzT.mp this).1 z
            · exact R1.dis i _ (by rw [hfp]; exact zzC) z
     exact q v fo _ _ R3 (RoS.grow g3 lno ro') (g1.trans g3)
end
end PF
end
section
set_option exponentiation.threshold 5000
namespace PF
open PySem PySem.Spec PyProof.Rows L2
section
variable {K : zC} {kd : KD} {O : Addr -> Prop} {H : Hp} {Q : VK}
theorem yg {d : D} {v : V} (q : RQ K kd O H Q (.im d)) (r : Rp K kd O H v d) : Q v H := q v H (λ _ _ z => z) r
theorem zgp {vs : List V} {ds : List D} {p : Addr} {o : HO} (hp : H p = none) (r : RpL K kd O H vs ds) : RpL K kd (Un2 O (· = p)) (upd H p o) vs ds :=
 RpL.grow (F := O) (W := λ _ => False) ⟨λ b u q _ => by rw [zX (xm q hp)]; exact q, λ b z => .inr (by rw [z]; exact hp)⟩ (r.less λ a z => z.elim id False.elim)
theorem VM {p : Addr} {o : HO} (hp : H p = none) : ∀ b u, H b = some u -> upd H p o b = some u := λ b u q => by rw [zX (xm q hp)]; exact q
theorem zaB {vs : List V} {ds : List D} (q : RQ K kd O H Q (.fl ds)) (r : RpL K kd O H vs ds) : ∀ p, H p = none -> Q (.ref p) (upd H p (.lst vs)) := λ p hp =>
 q p vs _ hp (VM hp) yz (zgp hp r)
theorem zfw {vs : List V} {ds : List D} (ht : ∀ a, O a -> H a ≠ none) (q : RQ K kd O H Q (.im (.tup ds))) (r : RpL K kd O H vs ds) : ∀ p, H p = none -> Q (.ref p) (upd H p (.tup vs)) := λ p hp =>
 q _ _ (VM hp) (.tup (λ z => ht p z hp) yz ((zgp hp r).less λ a z => .inl z))
end
def big : Nat := 2 ^ 4000
theorem zel {i : Int} (h : i.natAbs < big) : Builtin.Int.intBits i <= 2 ^ 20 := by
 unfold Builtin.Int.intBits
 split
 · exact Nat.zero_le _
 · have : i.natAbs.log2 < 4000 := by
    rcases Nat.eq_zero_or_pos i.natAbs with h0 | hp
    · rw [h0]; decide
    · exact (Nat.log2_lt (Nat.ne_of_gt hp)).mpr h
   have e : (2 : Nat) ^ 20 = 1048576 := by decide
   omega
def onI (f : Int -> Int -> Option R0) (x y : D) : Option R0 := (asI x).bind λ i => (asI y).bind λ j => f i j
def zor (x y : D) : Option R0 := match x with
 | .int i => (asI y).bind λ j => some (.im (.int (i + j)))
 | .str x => (asS y).bind λ y => if x.length + y.length <= sizeLine then some (.im (.str (x ++ y))) else none
 | .lst xs => (asL y).bind λ ys => if xs.length + ys.length <= sizeLine then some (.fl (xs ++ ys)) else none
 | .tup xs => (asT y).bind λ ys => if xs.length + ys.length <= sizeLine then some (.im (.tup (xs ++ ys))) else none
 | _ => none
def zoC (x y : D) : Option R0 := match x with
 | .int i => (asI y).bind λ j => if i.natAbs < big /\ j.natAbs < big then some (.im (.int (i * j))) else none
 | .lst xs => (asI y).bind λ k => if -(2 ^ 63) <= k /\ k < 2 ^ 63 /\ xs.length * k.toNat <= sizeLine then some (.fl (List.replicate k.toNat xs).flatten) else none
 | .tup xs => (asI y).bind λ k => if 1 <= k /\ k < 2 ^ 63 /\ xs.length ≠ 0 /\ xs.length * k.toNat <= sizeLine then some (.im (.tup (List.replicate k.toNat xs).flatten)) else none
 | _ => none
def zp (o : Operator) (x y : D) : Option R0 := match o with
 | .Add => zor x y
 | .Sub => onI (λ i j => some (.im (.int (i - j)))) x y
 | .Mult => zoC x y
 | .FloorDiv => onI (λ i j => if 0 < j /\ j.natAbs < big then some (.im (.int (i / j))) else none) x y
 | .Mod => onI (λ i j => if 0 < j then some (.im (.int (i % j))) else none) x y
 | .Pow => onI (λ i j => if 0 <= j /\ j <= 1000000 /\ i.natAbs < 2 ^ 64 then some (.im (.int (i ^ j.toNat))) else none) x y
 | _ => none
theorem Yx {K : zC} {kd : KD} {O : Addr -> Prop} {H : Hp} {v : V} {d : D} {i : Int} (h : Vw K kd O H v d) (e : asI d = some i) : d = .int i /\ v = .int i := by
 cases h with
 | int j => cases e; exact ⟨rfl, rfl⟩
 | _ => cases e
theorem zmf {K : zC} {kd : KD} {O : Addr -> Prop} {H : Hp} {v : V} {d : D} {i : Str} (h : Vw K kd O H v d) (e : asS d = some i) : d = .str i /\ v = .str i := by
 cases h with
 | str j => cases e; exact ⟨rfl, rfl⟩
 | _ => cases e
theorem Yb {K : zC} {kd : KD} {O : Addr -> Prop} {H : Hp} {v w : V} {d e : D} {f : Int -> Int -> Option R0} {r : R0} (vx : Vw K kd O H v d) (vy : Vw K kd O H w e) (h : onI f d e = some r) : ∃ i j, v = .int i /\ w = .int j /\ f i j = some r := by
 obtain ⟨i, h1, h⟩ := bS_ (show (asI d).bind _ = _ from h)
 obtain ⟨j, h2, h⟩ := bS_ h
 exact ⟨i, j, (Yx vx h1).2, (Yx vy h2).2, h⟩
section
variable {X : Cx} {kd : KD}
theorem zjJ : OpR X (binaryOp .Add) (λ x y H Q => ∃ l b xs zs, x = .ref l /\ y = .ref b /\ RdL X.K H l xs /\ RdL X.K H b zs /\ xs.length + zs.length <= sizeLine /\ ∀ p, H p = none -> Q (.ref p) (upd H p (.lst (xs ++ zs)))) := by
 intro pins s σ H x y v u Q I rx ry h
 obtain ⟨l, b, xs, zs, rfl, rfl, hH, hB, hz, q⟩ := h
 cases rx
 cases ry
 obtain ⟨z, its, n, r, e⟩ := zfu I hH
 obtain ⟨z2, its2, n2, r2, e2⟩ := zfu I hB
 have hl := r.length
 have hl2 := r2.length
 refine PySem.P.add_list e e2 ?_ (by rw [zzE, zzE]; omega)
 have ea : its.toArray ++ its2.toArray = (its ++ its2).toArray := by simp
 rw [ea]
 exact ⟨.ref _, _, I.lnew (t' := s.toks) (r.append r2) (by rw [zzG]; omega), rfl, q _ I.fresh⟩
theorem zkl : OpR X (binaryOp .Mult) (λ x y H Q => ∃ l k xs, x = .ref l /\ y = .int k /\ RdL X.K H l xs /\ -(2 ^ 63) <= k /\ k < 2 ^ 63 /\ xs.length * k.toNat <= sizeLine /\
 ∀ p, H p = none -> Q (.ref p) (upd H p (.lst (List.replicate k.toNat xs).flatten))) := by
 intro pins s σ H x y v u Q I rx ry h
 obtain ⟨l, k, xs, rfl, rfl, hH, h1, h2, hz, q⟩ := h
 cases rx
 obtain ⟨t, rfl⟩ := ry
 obtain ⟨z, its, n, r, e⟩ := zfu I hH
 have hl := r.length
 have hlen : its.toArray.size * k.toNat <= sizeLine := by rw [zzE, <- hl]; exact hz
 have hcap : ¬ its.toArray.size * k.toNat > (2 ^ 63 - 1) / 8 := by
  have : (sizeLine : Nat) <= (2 ^ 63 - 1) / 8 := by decide
  omega
 have hfit : ¬ (!Builtin.List.listFitsIndex k) = true := by
  rw [fitsIndex_both h1 h2]
  exact Bool.false_ne_true
 have hlong : ¬ Builtin.List.listTooLong (its.toArray.size * k.toNat) = true := by
  rw [zem hlen]
  exact Bool.false_ne_true
 have hnew : List.foldl (λ x1 x2 => x1 ++ x2) #[] (List.replicate (if its.toArray.isEmpty = true then 0 else k.toNat) its.toArray) = (List.replicate k.toNat its).flatten.toArray := by
  have f0 : ∀ m : Nat, List.foldl (λ x1 x2 => x1 ++ x2) #[] (List.replicate m its.toArray) = (List.replicate m its).flatten.toArray := λ m => by
   have := foldl_rep its m []
   rw [List.nil_append] at this
   exact this
  rw [f0]
  cases its with
  | nil => simp
  | cons a r' => rw [if_neg (by simp)]
 refine wpAny_binaryOp_repeat_ref (T := "list") (U := "int") (by decide) ⟨_, e, rfl⟩ (λ s' => typeIs_int s' k t) noFill_list_mul F.fills_int_mul F.slot_int_rmul repeat_list F.slot_int_index.lookup
  (call_meets F.slot_int_rmul (typeIs_int s k t) F.entry_int_rmul (F.args_int_rmul_2 _ _) (int___rmul___int_list k t l its.toArray n)
   ⟨e, rfl, ⟨_, e, rfl⟩, call_meets F.slot_list_mul ⟨_, e, rfl⟩ F.entry_list_mul (F.args_list_mul_2 _ _) (AutoListH.list___mul___list_int_3 l its.toArray n k t hfit hcap hlong) ⟨e, ?_⟩⟩)
 rw [hnew]
 refine ⟨.ref _, _, I.lnew (t' := s.toks) (r.rep k.toNat) ?_, rfl, q _ I.fresh⟩
 rw [len_rep, Nat.mul_comm]
 exact hz
theorem tuple_addW0 (l b : Addr) (items items2 : Array Value) (n n2 : Nat) (dd dd2 : Option Addr) (sl sl2 : Array (Option Value)) (h0 : items.isEmpty = true) :
 Meets (Builtin.«tuple.__add__» { pos := [.ref l, .ref b] }) (λ _ R s => s.heap.get? l = some { cls := .type "tuple", dict := dd, data := .seq items n, slots := sl } /\ s.heap.get? b = some { cls := .type "tuple", dict := dd2, data := .seq items2 n2, slots := sl2 } /\ R (.ok (.ret (.ref b))) s) :=
 .of_wp λ prog w A R s h => by
  obtain ⟨hp, g, d, tk, os⟩ := s; obtain ⟨hl, hb, h⟩ := h
  have f2 := AutoSeq1.sub_tuple_tuple
  wp_walk using wpAny_loadPart' hl, wpAny_loadPart' hb
  exact ⟨_, rfl, h⟩
theorem zek (l : Addr) (items : Array Value) (n : Nat) (dd : Option Addr) (sl : Array (Option Value)) (u : Tok) :
 Meets (Builtin.«tuple.__mul__» { pos := [.ref l, .int 1 u] }) (λ _ R s => s.heap.get? l = some { cls := .type "tuple", dict := dd, data := .seq items n, slots := sl } /\ R (.ok (.ret (.ref l))) s) :=
 .of_wp λ prog w A R s h => by
  obtain ⟨hp, g, d, tk, os⟩ := s; obtain ⟨hl, h⟩ := h
  have f2 := AutoSeq1.sub_tuple_tuple
  wp_walk using wpAny_loadPart' hl
  exact ⟨_, rfl, h⟩
theorem zeU (l : Addr) (items its2 : Array Value) (n : Nat) (dd : Option Addr) (sl : Array (Option Value)) (x : Int) (u : Tok) (c1 : ¬ (decide (x < -2 ^ 63) || decide (x ≥ 2 ^ 63)) = true) (c2 : ¬ (items.isEmpty || x == 1) = true) (c3 : ¬ (decide (x <= 0) || items.isEmpty) = true)
 (hcap : ¬ (items.size : Int) * x > (2 ^ 63 - 1) / 8) (ht : ¬ Builtin.Tuple.tupleTooMany (items.size * x) = true) (hz : ¬ (List.foldl (λ x1 x2 => x1 ++ x2) #[] (List.replicate x.toNat items)).size > sizeLine) :
 Meets (Builtin.«tuple.__mul__» { pos := [.ref l, .int x u] }) (λ _ R s => s.heap.get? l = some { cls := .type "tuple", dict := dd, data := .seq items n, slots := sl } /\ R (.ok (.ret (.ref s.heap.objs.size))) { s with heap := s.heap.push { cls := .type "tuple", data := .seq (List.foldl (λ x1 x2 => x1 ++ x2) #[] (List.replicate x.toNat items)) } }) :=
 .of_wp λ prog w A R s h => by
  obtain ⟨hp, g, d, tk, os⟩ := s; obtain ⟨hl, h⟩ := h
  have f2 := AutoSeq1.sub_tuple_tuple
  wp_walk using wpAny_loadPart' hl
  rw [if_neg c1]
  wp_walk using wpAny_loadPart' hl
  rw [if_neg hcap]
  wp_walk
  exact ⟨_, rfl, h⟩
theorem zam : fillsNumberSlot (Value.type "tuple") "mul" = pure false := PySem.fillsNumberSlot_seq rfl rfl rfl rfl
theorem zcU : seqRepeat? (Value.type "tuple") = pure (some (Value.builtin "tuple.__mul__")) := W.of_pureOf rfl
theorem zbN (a : Int) (t : Tok) (l : Addr) (items : Array Value) (n : Nat) (dd : Option Addr) (sl : Array (Option Value)) :
 Meets (Builtin.«int.__rmul__» { pos := [.int a t, .ref l] }) (λ _ R s => s.heap.get? l = some { cls := .type "tuple", dict := dd, data := .seq items n, slots := sl } /\ R (.ok (.ret .notImplemented)) s) :=
 .of_wp λ prog w A R s h => by
  obtain ⟨hp, g, d, tk, os⟩ := s; obtain ⟨hl, h⟩ := h
  wp_walk using wpAny_load' hl, wpAny_loadPart' hl
  exact ⟨_, rfl, h⟩
theorem zjV : OpR X (binaryOp .Add) (λ x y H Q => ∃ a b ys, x = .ref a /\ y = .ref b /\ SqT X.K H a [] /\ SqT X.K H b ys /\ Q (.ref b) H) := by
 intro pins s σ H x y v u Q I rx ry h
 obtain ⟨a, b, ys, rfl, rfl, ha, hb, q⟩ := h
 cases rx
 cases ry
 obtain ⟨its, r1, p1, _⟩ := I.tuple ha
 obtain ⟨its2, r2, p2, _⟩ := I.tuple hb
 cases r1
 obtain ⟨⟨cls, dd, data, sl⟩, ho, hc, n, hd⟩ := id p1
 obtain ⟨⟨cls2, dd2, data2, sl2⟩, ho2, hc2, n2, hd2⟩ := id p2
 simp only at hc hd hc2 hd2
 subst hc hd hc2 hd2
 exact concat_meets ⟨_, ho, rfl⟩ ⟨_, ho2, rfl⟩ noFill_tuple_add seq_tuple_add PySem.F.slot_tuple_add PySem.F.entry_tuple_add (PySem.F.args_tuple_add_2 _ _) (tuple_addW0 a b _ _ n n2 dd dd2 sl sl2 rfl) ⟨ho, ho2, ⟨.ref b, H, I, rfl, q⟩⟩
theorem zkG : OpR X (binaryOp .Mult) (λ x y H Q => ∃ l k xs, x = .ref l /\ y = .int k /\ SqT X.K H l xs /\ xs ≠ [] /\ 1 <= k /\ k < 2 ^ 63 /\ xs.length * k.toNat <= sizeLine /\ (k = 1 -> Q (.ref l) H) /\
 (2 <= k -> ∀ p, H p = none -> Q (.ref p) (upd H p (.tup (List.replicate k.toNat xs).flatten)))) := by
 intro pins s σ H x y v u Q I rx ry h
 obtain ⟨l, k, xs, rfl, rfl, hH, hne, h1, h2, hz, q1, q2⟩ := h
 cases rx
 obtain ⟨t, rfl⟩ := ry
 obtain ⟨its, r, p, _⟩ := I.tuple hH
 have hl := r.length
 have hlen : its.toArray.size * k.toNat <= sizeLine := by rw [zzE, <- hl]; exact hz
 have hki : ((its.toArray.size : Int) * k) = ((its.toArray.size * k.toNat : Nat) : Int) := by
  rw [zzS, Int.toNat_of_nonneg (by omega)]
 have he : its.toArray.isEmpty = false := by
  cases its with
  | nil => rw [List.length_nil] at hl; exact absurd (List.length_eq_zero_iff.mp hl) hne
  | cons a r' => rfl
 have hnew : List.foldl (λ x1 x2 => x1 ++ x2) #[] (List.replicate k.toNat its.toArray) = (List.replicate k.toNat its).flatten.toArray := by
  have := foldl_rep its k.toNat []
  rw [List.nil_append] at this
  exact this
 obtain ⟨⟨cls, dd, data, sl⟩, ho, hc, n, hd⟩ := id p
 simp only at hc hd
 subst hc hd
 refine wpAny_binaryOp_repeat_ref (T := "tuple") (U := "int") (by decide) ⟨_, ho, rfl⟩ (λ s' => typeIs_int s' k t) zam F.fills_int_mul F.slot_int_rmul zcU F.slot_int_index.lookup
  (call_meets F.slot_int_rmul (typeIs_int s k t) F.entry_int_rmul (F.args_int_rmul_2 _ _) (zbN k t l its.toArray n dd sl) ⟨ho, rfl, ⟨_, ho, rfl⟩, ?_⟩)
 by_cases hk : k = 1
 · subst hk
   exact call_meets F.slot_tuple_mul ⟨_, ho, rfl⟩ F.entry_tuple_mul (F.args_tuple_mul_2 _ _) (zek l its.toArray n dd sl t) ⟨ho, ⟨.ref l, H, I, rfl, q1 rfl⟩⟩
 · have hfl : (List.replicate k.toNat xs).flatten.length <= sizeLine := by rw [len_rep, Nat.mul_comm]; exact hz
   refine call_meets F.slot_tuple_mul ⟨_, ho, rfl⟩ F.entry_tuple_mul (F.args_tuple_mul_2 _ _) (zeU l its.toArray #[] n dd sl k t (by simp; omega) (by rw [he]; simpa using hk) (by rw [he]; simp; omega) ?_ ?_ ?_) ⟨ho, ?_⟩
   · rw [hki]
     have : ((sizeLine : Nat) : Int) <= (2 ^ 63 - 1) / 8 := by decide
     omega
   · unfold Builtin.Tuple.tupleTooMany
     rw [hki]
     simp only [gt_iff_lt, decide_eq_true_eq]
     omega
   · rw [hnew, zzE, len_rep, Nat.mul_comm]
     rw [zzE] at hlen
     omega
   · rw [hnew]
     refine ⟨.ref s.heap.objs.size, _, I.laid (t' := s.toks) (o := .tup (List.replicate k.toNat xs).flatten) (λ b ob q => Heap.get?_push_of_some _ q) (zzK _) ?_, rfl, q2 (by omega) _ (I.hok.fresh (zzK _))⟩
     exact ⟨hfl, _, r.rep k.toNat, IsTup.new _ _⟩
theorem zm (op : Operator) : OpD X kd (binaryOp op) (zp op) := by
 intro pins s σ H x y v u Q I rx ry h
 obtain ⟨O, d, e, r, ht, vx, vy, he, q⟩ := h
 cases op with
 | Add =>
  cases vx with
  | int i =>
   obtain ⟨j, h1, he⟩ := bS_ (show (asI e).bind _ = _ from he)
   obtain ⟨rfl, rfl⟩ := Yx vy h1
   cases he
   exact zly pins s σ H _ _ v u Q I rx ry ⟨_, _, rfl, rfl, yg q (.int _)⟩
  | str i =>
   obtain ⟨j, h1, he⟩ := bS_ (show (asS e).bind _ = _ from he)
   obtain ⟨rfl, rfl⟩ := zmf vy h1
   obtain ⟨c, rfl⟩ := zR he
   exact zfk pins s σ H _ _ v u Q I rx ry ⟨_, _, rfl, rfl, c, yg q (.str _)⟩
  | lst hx rx' =>
   obtain ⟨j, h1, he⟩ := bS_ (show (asL e).bind _ = _ from he)
   cases zdg h1
   obtain ⟨c, rfl⟩ := zR he
   cases vy with
   | lst hy ry' => exact zjJ pins s σ H _ _ v u Q I rx ry ⟨_, _, _, _, rfl, rfl, hx, hy, by rw [rx'.length, ry'.length]; exact c, zaB q (rx'.append ry')⟩
  | @tup a1 vs1 ds1 r1 hx rx' =>
   obtain ⟨j, h1, he⟩ := bS_ (show (asT e).bind _ = _ from he)
   cases zln h1
   obtain ⟨c, rfl⟩ := zR he
   cases vy with
   | tup r2 hy ry' =>
    by_cases h0 : vs1 = ([] : List V)
    · subst h0
      cases rx'
      exact zjV pins s σ H _ _ v u Q I rx ry ⟨_, _, _, rfl, rfl, hx, hy, yg q r2⟩
    refine zko pins s σ H _ _ v u Q I rx ry ⟨_, _, _, _, rfl, rfl, hx, hy, h0, by rw [rx'.length, ry'.length]; exact c, λ hn => ?_, λ hn => zfw ht q (rx'.append ry')⟩
    · subst hn
      cases ry'
      rw [List.append_nil] at q
      exact yg q r1
  | _ => cases he
 | Sub =>
  obtain ⟨i, j, rfl, rfl, he⟩ := Yb vx vy he
  cases he
  exact zmG pins s σ H _ _ v u Q I rx ry ⟨_, _, rfl, rfl, yg q (.int _)⟩
 | Mult =>
  cases vx with
  | int i =>
   obtain ⟨j, h1, he⟩ := bS_ (show (asI e).bind _ = _ from he)
   obtain ⟨rfl, rfl⟩ := Yx vy h1
   obtain ⟨c, rfl⟩ := zR he
   obtain ⟨t, rfl⟩ := rx
   obtain ⟨t', rfl⟩ := ry
   exact mul_int ⟨.int _, H, I.tok _, ⟨_, rfl⟩, yg q (.int _)⟩ (IntMulOk.of_bits (zel c.1) (zel c.2))
  | lst hx rx' =>
   obtain ⟨j, h1, he⟩ := bS_ (show (asI e).bind _ = _ from he)
   obtain ⟨rfl, rfl⟩ := Yx vy h1
   obtain ⟨c, rfl⟩ := zR he
   exact zkl pins s σ H _ _ v u Q I rx ry ⟨_, _, _, rfl, rfl, hx, c.1, c.2.1, by rw [rx'.length]; exact c.2.2, zaB q (rx'.rep _)⟩
  | tup r1 hx rx' =>
   obtain ⟨j, h1, he⟩ := bS_ (show (asI e).bind _ = _ from he)
   obtain ⟨rfl, rfl⟩ := Yx vy h1
   obtain ⟨c, rfl⟩ := zR he
   refine zkG pins s σ H _ _ v u Q I rx ry ⟨_, _, _, rfl, rfl, hx, λ e => ?_, c.1, c.2.1, by rw [rx'.length]; exact c.2.2.2, λ e => ?_, λ _ => zfw ht q (rx'.rep _)⟩
   · have := rx'.length
     rw [e] at this
     exact c.2.2.1 this.symm
   · subst e
     refine yg q ?_
     rw [show (1 : Int).toNat = 1 from rfl, List.replicate_one, List.flatten_cons, List.flatten_nil, List.append_nil]
     exact r1
  | _ => cases he
 | FloorDiv =>
  obtain ⟨i, j, rfl, rfl, he⟩ := Yb vx vy he
  obtain ⟨c, rfl⟩ := zR he
  obtain ⟨t, rfl⟩ := rx
  obtain ⟨t', rfl⟩ := ry
  refine floordiv_int (by omega) ?_ (.inl (PyProof.noPylong_of_log2 ?_))
  · rw [Int.fdiv_eq_ediv_of_nonneg _ (by omega)]
    exact ⟨.int _, H, I.tok _, ⟨_, rfl⟩, yg q (.int _)⟩
  · exact zzH ((Nat.log2_lt (by have := c.1; omega)).mpr (show _ < 2 ^ 4000 from c.2)) (by decide)
 | Mod =>
  obtain ⟨i, j, rfl, rfl, he⟩ := Yb vx vy he
  obtain ⟨c, rfl⟩ := zR he
  exact zmX pins s σ H _ _ v u Q I rx ry ⟨_, _, rfl, rfl, c, yg q (.int _)⟩
 | Pow =>
  obtain ⟨i, j, rfl, rfl, he⟩ := Yb vx vy he
  obtain ⟨c, rfl⟩ := zR he
  exact zmQ pins s σ H _ _ v u Q I rx ry ⟨_, _, rfl, rfl, c, yg q (.int _)⟩
 | _ => cases he
end
def eqL (f : D -> D -> Option Bool) : List D -> List D -> Option Bool
 | [], [] => some true
 | x :: r, y :: t => (f x y).bind λ b => (eqL f r t).bind λ c => some (b && c)
 | _, _ => some false
def eqF : Nat -> D -> D -> Option Bool
 | 0, _, _ => none
 | _ + 1, .non, .non => some true
 | _ + 1, .bl a, .bl b => some (a == b)
 | _ + 1, .int a, .int b => some (a == b)
 | _ + 1, .str a, .str b => some (a == b)
 | _ + 1, .bl a, .int b => some ((if a then 1 else 0) == b)
 | _ + 1, .int a, .bl b => some (a == (if b then 1 else 0))
 | n + 1, .lst xs, .lst ys => eqL (eqF n) xs ys
 | n + 1, .tup xs, .tup ys => eqL (eqF n) xs ys
 | _ + 1, .dct _, _ => none
 | _ + 1, .cl _, _ => none
 | _ + 1, .ob _ _ _, _ => none
 | _ + 1, .dt _ _, _ => none
 | _ + 1, _, .dct _ => none
 | _ + 1, _, .cl _ => none
 | _ + 1, _, .ob _ _ _ => none
 | _ + 1, _, .dt _ _ => none
 | _ + 1, _, _ => some false
def eqJ (f : D -> D -> Option Bool) (xs ys : List D) (j : Nat) : Bool := match xs[j]?, ys[j]? with
 | some d, some e => (f d e).getD false
 | _, _ => false
theorem zbZ {f : D -> D -> Option Bool} : ∀ {xs ys : List D} {b : Bool}, eqL f xs ys = some b -> (∀ (j : Nat) d e, xs[j]? = some d -> ys[j]? = some e -> ∃ c, f d e = some c) /\
 b = ((List.range (min xs.length ys.length)).all (eqJ f xs ys) && xs.length == ys.length)
 | [], [], b, h => by cases h; exact ⟨λ j d e h => by simp at h, by simp⟩
 | [], y :: t, b, h => by cases h; exact ⟨λ j d e h => by simp at h, by simp⟩
 | x :: r, [], b, h => by cases h; exact ⟨λ j d e _ h => by simp at h, by simp⟩
 | x :: r, y :: t, b, h => by
  obtain ⟨b1, h1, h⟩ := bS_ (show (f x y).bind _ = _ from h)
  obtain ⟨c1, h2, h⟩ := bS_ h
  cases h
  obtain ⟨k1, k2⟩ := zbZ h2
  refine ⟨λ j d e hd he => ?_, ?_⟩
  · cases j with
    | zero => simp at hd he; subst hd he; exact ⟨b1, h1⟩
    | succ j => exact k1 j d e (by simpa using hd) (by simpa using he)
  · have e0 : min (x :: r).length (y :: t).length = min r.length t.length + 1 := by simp only [zzQ]; omega
    rw [e0, List.range_succ_eq_map, List.all_cons, List.all_map, k2]
    have e1 : eqJ f (x :: r) (y :: t) 0 = b1 := by show (f x y).getD false = b1; rw [h1]; rfl
    have e2 : (eqJ f (x :: r) (y :: t) ∘ Nat.succ) = eqJ f r t := by
     funext j
     show eqJ f (x :: r) (y :: t) (j + 1) = _
     unfold eqJ
     simp
    have e3 : ((x :: r).length == (y :: t).length) = (r.length == t.length) := by
     by_cases hh : r.length = t.length <;> simp [hh]
    rw [e1, e2, e3, Bool.and_assoc]
structure EqAll (A : Around) (s : Shared) (u v : Value) (b : Bool) : Prop where
 rc : SeqAt.RcAt A s u v b
 ne : SeqAt.RcNeAt A s u v (!b)
 eq : SeqAt.EqAt A s u v b
section
variable {X : Cx} {kd : KD} {pins : List (Addr × Obj)} {σ : St} {H : Hp} {s : Shared} {O : Addr -> Prop}
theorem zfZ (I : Inv X pins σ H s) {a : Addr} {xs ys : List V} (h : SqT X.K H a xs) (h' : SqL X.K H a ys) : False := by
 obtain ⟨_, _, ⟨o, e, c, _⟩, _⟩ := I.tuple h
 obtain ⟨_, _, ⟨o', n, e', c', _⟩, _⟩ := I.list h'
 rw [e] at e'
 cases e'
 rw [c] at c'
 exact absurd c' (by decide)
theorem zgk (I : Inv X pins σ H s) : ∀ (n : Nat) (v : V) (d e : D) (b : Bool), Vw X.K kd O H v d -> Vw X.K kd O H v e -> eqF n d e = some b -> b = true
 | 0, _, _, _, _, _, _, h => by cases h
 | n + 1, v, d, e, b, h1, h2, h => by
  have lst : ∀ (vs : List V) (ds es : List D) (b : Bool), RpL X.K kd O H vs ds -> RpL X.K kd O H vs es -> eqL (eqF n) ds es = some b -> b = true := by
   intro vs
   induction vs with
   | nil => intro ds es b r1 r2 h; cases r1; cases r2; cases h; rfl
   | cons v vs ih =>
    intro ds es b r1 r2 h
    cases r1 with
    | cons a1 r1 =>
     cases r2 with
     | cons a2 r2 =>
      obtain ⟨b1, k1, h⟩ := bS_ (show (eqF n _ _).bind _ = _ from h)
      obtain ⟨c1, k2, h⟩ := bS_ h
      cases h
      rw [zgk I n _ _ _ _ a1.vw a2.vw k1, ih _ _ _ r1 r2 k2]
      rfl
  cases h1 with
  | non => cases h2; cases h; rfl
  | bl x => cases h2; cases h; simp
  | int x => cases h2; cases h; simp
  | str x => cases h2; cases h; simp
  | tup r1 s1 l1 =>
   cases h2 with
   | tup r2 s2 l2 =>
    have := I.tuple_inj s1 s2
    subst this
    exact lst _ _ _ _ l1 l2 h
   | lst s2 l2 => exact (zfZ I s1 s2.sq).elim
   | _ => cases h
  | lst s1 l1 =>
   cases h2 with
   | tup r2 s2 l2 => exact (zfZ I s2 s1.sq).elim
   | lst s2 l2 =>
    have := I.list_inj s1.sq s2.sq
    subst this
    exact lst _ _ _ _ l1 l2 h
   | _ => cases h
  | _ => cases h
theorem zdH (I : Inv X pins σ H s) : ∀ (n : Nat) (A : Around) (x y : V) (d e : D) (u v : Value) (b : Bool), A.units + n < cLine -> Vw X.K kd O H x d -> Vw X.K kd O H y e -> RelV x u -> RelV y v -> eqF n d e = some b -> EqAll A s u v b
 | 0, _, _, _, _, _, _, _, _, _, _, _, _, _, h => by cases h
 | n + 1, A, x, y, d, e, u, v, b, hu, h1, h2, r1, r2, h => by
  have hu0 : A.units < cLine := by omega
  have itm : ∀ {vs ws : List V} {its its2 : List Value} {ds es : List D}, RpL X.K kd O H vs ds -> RpL X.K kd O H ws es -> Vals vs its -> Vals ws its2 -> (∀ (j : Nat) d e, ds[j]? = some d -> es[j]? = some e -> ∃ c, eqF n d e = some c) ->
   ∀ j (h1 : j < its.toArray.size) (h2 : j < its2.toArray.size), SeqAt.EqAt A.in1 s its.toArray[j] its2.toArray[j] (eqJ (eqF n) ds es j) := by
   intro vs ws its its2 ds es l1 l2 v1 v2 hd j j1 j2
   have q1 : j < ds.length := by rw [<- l1.length, v1.length]; simpa using j1
   have q2 : j < es.length := by rw [<- l2.length, v2.length]; simpa using j2
   obtain ⟨a1, ha1, ra1⟩ := l1.get (zzB q1)
   obtain ⟨a2, ha2, ra2⟩ := l2.get (zzB q2)
   obtain ⟨u1, hu1, ru1⟩ := v1.get ha1
   obtain ⟨u2, hu2, ru2⟩ := v2.get ha2
   obtain ⟨c, hc⟩ := hd j _ _ (zzB q1) (zzB q2)
   have e1 : its.toArray[j] = u1 := by
    have := (zzD.mp hu1).2
    simpa using this
   have e2 : its2.toArray[j] = u2 := by
    have := (zzD.mp hu2).2
    simpa using this
   rw [e1, e2]
   have e3 : eqJ (eqF n) ds es j = c := by
    unfold eqJ
    rw [zzB q1, zzB q2]
    show (eqF n _ _).getD false = c
    rw [hc]; rfl
   rw [e3]
   exact (zdH I n A.in1 a1 a2 _ _ u1 u2 c (by show A.units + 1 + n < cLine; omega) ra1.vw ra2.vw ru1 ru2 hc).eq
  have same : ∀ {a a' : Addr}, x = .ref a -> y = .ref a' -> a = a' -> b = true := by
   intro a a' e1 e2 e3
   subst e1 e2 e3
   exact zgk I (n + 1) _ _ _ _ h1 h2 h
  cases h1 with
  | non =>
   cases r1
   cases h2 with
   | non => cases r2; cases h; exact ⟨SeqAt.RcAt.none_none, SeqAt.RcNeAt.none_none, SeqAt.EqAt.same _⟩
   | bl => cases r2; cases h; exact ⟨SeqAt.RcAt.none_bool _, SeqAt.RcNeAt.none_bool _, SeqAt.EqAt.none_bool _⟩
   | int => obtain ⟨t, rfl⟩ := r2; cases h; exact ⟨SeqAt.RcAt.none_int _ _, SeqAt.RcNeAt.none_int _ _, SeqAt.EqAt.none_int _ _⟩
   | str => obtain ⟨t, rfl⟩ := r2; cases h; exact ⟨SeqAt.RcAt.none_str _ _, SeqAt.RcNeAt.none_str _ _, SeqAt.EqAt.none_str _ _⟩
   | tup r s2 l2 =>
    cases r2; cases h
    obtain ⟨its, rv, p, _⟩ := I.tuple s2
    exact ⟨SeqAt.RcAt.none_tuple p hu0, SeqAt.RcNeAt.none_tuple p hu0, SeqAt.EqAt.none_tuple p hu0⟩
   | lst s2 l2 =>
    cases r2; cases h
    obtain ⟨its, rv, p, _⟩ := I.list s2.sq
    exact ⟨SeqAt.RcAt.none_list p.isList hu0, SeqAt.RcNeAt.none_list p.isList hu0, SeqAt.EqAt.none_list p.isList hu0⟩
   | _ => cases h
  | bl c =>
   cases r1
   cases h2 with
   | non => cases r2; cases h; exact ⟨SeqAt.RcAt.bool_none _, SeqAt.RcNeAt.bool_none _, SeqAt.EqAt.bool_none _⟩
   | bl => cases r2; cases h; exact ⟨SeqAt.RcAt.bool_bool _ _, SeqAt.RcNeAt.bool_bool _ _, SeqAt.EqAt.bool_bool _ _⟩
   | int => obtain ⟨t, rfl⟩ := r2; cases h; exact ⟨SeqAt.RcAt.bool_int _ _ _, SeqAt.RcNeAt.bool_int _ _ _, SeqAt.EqAt.bool_int _ _ _⟩
   | str => obtain ⟨t, rfl⟩ := r2; cases h; exact ⟨SeqAt.RcAt.bool_str _ _ _, SeqAt.RcNeAt.bool_str _ _ _, SeqAt.EqAt.bool_str _ _ _⟩
   | tup r s2 l2 =>
    cases r2; cases h
    obtain ⟨its, rv, p, _⟩ := I.tuple s2
    exact ⟨SeqAt.RcAt.bool_tuple _ p hu0, SeqAt.RcNeAt.bool_tuple _ p hu0, SeqAt.EqAt.bool_tuple _ p hu0⟩
   | lst s2 l2 =>
    cases r2; cases h
    obtain ⟨its, rv, p, _⟩ := I.list s2.sq
    exact ⟨SeqAt.RcAt.bool_list _ p.isList hu0, SeqAt.RcNeAt.bool_list _ p.isList hu0, SeqAt.EqAt.bool_list _ p.isList hu0⟩
   | _ => cases h
  | int c =>
   obtain ⟨t0, rfl⟩ := r1
   cases h2 with
   | non => cases r2; cases h; exact ⟨SeqAt.RcAt.int_none _ _, SeqAt.RcNeAt.int_none _ _, SeqAt.EqAt.int_none _ _⟩
   | bl => cases r2; cases h; exact ⟨SeqAt.RcAt.int_bool _ _ _, SeqAt.RcNeAt.int_bool _ _ _, SeqAt.EqAt.int_bool _ _ _⟩
   | int => obtain ⟨t, rfl⟩ := r2; cases h; exact ⟨SeqAt.RcAt.int_int _ _ _ _, SeqAt.RcNeAt.int_int _ _ _ _, SeqAt.EqAt.int_int _ _ _ _⟩
   | str => obtain ⟨t, rfl⟩ := r2; cases h; exact ⟨SeqAt.RcAt.int_str _ _ _ _, SeqAt.RcNeAt.int_str _ _ _ _, SeqAt.EqAt.int_str _ _ _ _⟩
   | tup r s2 l2 =>
    cases r2; cases h
    obtain ⟨its, rv, p, _⟩ := I.tuple s2
    exact ⟨SeqAt.RcAt.int_tuple _ _ p hu0, SeqAt.RcNeAt.int_tuple _ _ p hu0, SeqAt.EqAt.int_tuple _ _ p hu0⟩
   | lst s2 l2 =>
    cases r2; cases h
    obtain ⟨its, rv, p, _⟩ := I.list s2.sq
    exact ⟨SeqAt.RcAt.int_list _ _ p.isList hu0, SeqAt.RcNeAt.int_list _ _ p.isList hu0, SeqAt.EqAt.int_list _ _ p.isList hu0⟩
   | _ => cases h
  | str c =>
   obtain ⟨t0, rfl⟩ := r1
   cases h2 with
   | non => cases r2; cases h; exact ⟨SeqAt.RcAt.str_none _ _, SeqAt.RcNeAt.str_none _ _, SeqAt.EqAt.str_none _ _⟩
   | bl => cases r2; cases h; exact ⟨SeqAt.RcAt.str_bool _ _ _, SeqAt.RcNeAt.str_bool _ _ _, SeqAt.EqAt.str_bool _ _ _⟩
   | int => obtain ⟨t, rfl⟩ := r2; cases h; exact ⟨SeqAt.RcAt.str_int _ _ _ _, SeqAt.RcNeAt.str_int _ _ _ _, SeqAt.EqAt.str_int _ _ _ _⟩
   | str => obtain ⟨t, rfl⟩ := r2; cases h; exact ⟨SeqAt.RcAt.str_str _ _ _ _, SeqAt.RcNeAt.str_str _ _ _ _, SeqAt.EqAt.str_str _ _ _ _⟩
   | tup r s2 l2 =>
    cases r2; cases h
    obtain ⟨its, rv, p, _⟩ := I.tuple s2
    exact ⟨SeqAt.RcAt.str_tuple _ _ p hu0, SeqAt.RcNeAt.str_tuple _ _ p hu0, SeqAt.EqAt.str_tuple _ _ p hu0⟩
   | lst s2 l2 =>
    cases r2; cases h
    obtain ⟨its, rv, p, _⟩ := I.list s2.sq
    exact ⟨SeqAt.RcAt.str_list _ _ p.isList hu0, SeqAt.RcNeAt.str_list _ _ p.isList hu0, SeqAt.EqAt.str_list _ _ p.isList hu0⟩
   | _ => cases h
  | @tup a1 vs1 ds1 r s1 l1 =>
   cases r1
   obtain ⟨its1, rv1, p1, _⟩ := I.tuple s1
   cases h2 with
   | non => cases r2; cases h; exact ⟨SeqAt.RcAt.tuple_none p1 hu0, SeqAt.RcNeAt.tuple_none p1 hu0, SeqAt.EqAt.tuple_none p1 hu0⟩
   | bl => cases r2; cases h; exact ⟨SeqAt.RcAt.tuple_bool _ p1 hu0, SeqAt.RcNeAt.tuple_bool _ p1 hu0, SeqAt.EqAt.tuple_bool _ p1 hu0⟩
   | int => obtain ⟨t, rfl⟩ := r2; cases h; exact ⟨SeqAt.RcAt.tuple_int _ _ p1 hu0, SeqAt.RcNeAt.tuple_int _ _ p1 hu0, SeqAt.EqAt.tuple_int _ _ p1 hu0⟩
   | str => obtain ⟨t, rfl⟩ := r2; cases h; exact ⟨SeqAt.RcAt.tuple_str _ _ p1 hu0, SeqAt.RcNeAt.tuple_str _ _ p1 hu0, SeqAt.EqAt.tuple_str _ _ p1 hu0⟩
   | @tup a2 vs2 ds2 r' s2 l2 =>
    cases r2
    obtain ⟨its2, rv2, p2, _⟩ := I.tuple s2
    obtain ⟨k1, k2⟩ := zbZ h
    have he := itm l1 l2 rv1 rv2 k1
    have eb : ((List.range (min its1.toArray.size its2.toArray.size)).all (eqJ (eqF n) ds1 ds2) && its1.toArray.size == its2.toArray.size) = b := by
     rw [k2, zzE, zzE, <- rv1.length, <- rv2.length, l1.length, l2.length]
    have b1 := SeqAt.RcAt.tuples p1 p2 hu0 he
    have b2 := SeqAt.RcNeAt.tuples p1 p2 hu0 he
    rw [eb] at b1 b2
    refine ⟨b1, b2, ?_⟩
    by_cases ha : a1 = a2
    · have hb := same rfl rfl ha
      subst ha
      rw [hb]
      exact SeqAt.EqAt.same _
    · exact SeqAt.EqAt.of_refs ha b1
   | lst s2 l2 =>
    cases r2; cases h
    obtain ⟨its, rv, p, _⟩ := I.list s2.sq
    exact ⟨SeqAt.RcAt.tuple_list p1 p.isList hu0, SeqAt.RcNeAt.tuple_list p1 p.isList hu0, SeqAt.EqAt.tuple_list p1 p.isList hu0⟩
   | _ => cases h
  | @lst a1 vs1 ds1 s1 l1 =>
   cases r1
   obtain ⟨its1, rv1, p1, _⟩ := I.list s1.sq
   cases h2 with
   | non => cases r2; cases h; exact ⟨SeqAt.RcAt.list_none p1.isList hu0, SeqAt.RcNeAt.list_none p1.isList hu0, SeqAt.EqAt.list_none p1.isList hu0⟩
   | bl => cases r2; cases h; exact ⟨SeqAt.RcAt.list_bool _ p1.isList hu0, SeqAt.RcNeAt.list_bool _ p1.isList hu0, SeqAt.EqAt.list_bool _ p1.isList hu0⟩
   | int => obtain ⟨t, rfl⟩ := r2; cases h; exact ⟨SeqAt.RcAt.list_int _ _ p1.isList hu0, SeqAt.RcNeAt.list_int _ _ p1.isList hu0, SeqAt.EqAt.list_int _ _ p1.isList hu0⟩
   | str => obtain ⟨t, rfl⟩ := r2; cases h; exact ⟨SeqAt.RcAt.list_str _ _ p1.isList hu0, SeqAt.RcNeAt.list_str _ _ p1.isList hu0, SeqAt.EqAt.list_str _ _ p1.isList hu0⟩
   | tup r' s2 l2 =>
    cases r2; cases h
    obtain ⟨its2, rv2, p2, _⟩ := I.tuple s2
    exact ⟨SeqAt.RcAt.list_tuple p1.isList p2 hu0, SeqAt.RcNeAt.list_tuple p1.isList p2 hu0, SeqAt.EqAt.list_tuple p1.isList p2 hu0⟩
   | @lst a2 vs2 ds2 s2 l2 =>
    cases r2
    obtain ⟨its2, rv2, p2, _⟩ := I.list s2.sq
    obtain ⟨k1, k2⟩ := zbZ h
    have he := itm l1 l2 rv1 rv2 k1
    have ez1 : its1.toArray.size = _ := zzE.trans (rv1.length.symm.trans l1.length)
    have ez2 : its2.toArray.size = _ := zzE.trans (rv2.length.symm.trans l2.length)
    have both : SeqAt.RcAt A s (.ref a1) (.ref a2) b /\ SeqAt.RcNeAt A s (.ref a1) (.ref a2) (!b) := by
     by_cases hz : its1.toArray.size = its2.toArray.size
     · have b1 := SeqAt.RcAt.lists p1.isList p2.isList hz hu0 he
       have b2 := SeqAt.RcNeAt.lists p1.isList p2.isList hz hu0 he
       have eb : (List.range its1.toArray.size).all (eqJ (eqF n) ds1 ds2) = b := by
        rw [k2, <- ez1, <- ez2, <- hz, Nat.min_self]
        simp
       rw [eb] at b1 b2
       exact ⟨b1, b2⟩
     · have hz' : (its1.toArray.size != its2.toArray.size) = true := by simpa using hz
       have eb : b = false := by
        rw [k2, <- ez1, <- ez2]
        have : (its1.toArray.size == its2.toArray.size) = false := by simpa using hz
        rw [this, Bool.and_false]
       rw [eb]
       exact ⟨SeqAt.RcAt.lists_lengths p1.isList p2.isList hz' hu0, SeqAt.RcNeAt.lists_lengths p1.isList p2.isList hz' hu0⟩
    refine ⟨both.1, both.2, ?_⟩
    by_cases ha : a1 = a2
    · have hb := same rfl rfl ha
      subst ha
      rw [hb]
      exact SeqAt.EqAt.same _
    · exact SeqAt.EqAt.of_refs ha both.1
   | _ => cases h
  | _ => cases h
end
structure DkAt (P : Program) (w : World) (h : Heap) (a : Addr) (kvs : List (Key × V)) : Prop where
 le : kvs.length <= sizeLine
 ns : (a == sysModules) = false
 ex : ∃ vs, KV kvs vs /\ h.DictOf (xu P w) a vs
structure KdOk (X : Cx) (kd : KD) : Prop where
 inj : ∀ a k k', kd a k -> kd a k' -> k = k'
 inK : ∀ a k, kd a k -> ∃ o, X.K.lookup a = some o
 at_ : ∀ a k h, kd a k -> X.K.In h -> DkAt X.prog X.w h a k
section
variable {X : Cx} {kd : KD} {pins : List (Addr × Obj)} {σ : St} {H : Hp} {s : Shared} {O : Addr -> Prop}
theorem zeh (I : Inv X pins σ H s) (hk : KdOk X kd) {a : Addr} {kvs : List (Key × V)} (h : Rd H a (.dK kvs) \/ kd a kvs) : DkAt X.prog X.w s.heap a kvs := by
 rcases h with h | h
 · obtain ⟨z, hd, vs, rel, dd⟩ := zfM I.hok h
   exact ⟨z, hd, vs, rel, dd⟩
 · exact hk.at_ _ _ _ h I.kIn
theorem zhF (I : Inv X pins σ H s) : ∀ (n : Nat) (v : V) (d e x : D) (b c : Bool), Vw X.K kd O H v d -> Vw X.K kd O H v e -> eqF n d x = some b -> eqF n e x = some c -> b = c
 | 0, _, _, _, _, _, _, _, _, h, _ => by cases h
 | n + 1, v, d, e, x, b, c, h1, h2, h, h' => by
  have lst : ∀ (vs : List V) (ds es xs : List D) (b c : Bool), RpL X.K kd O H vs ds -> RpL X.K kd O H vs es -> eqL (eqF n) ds xs = some b -> eqL (eqF n) es xs = some c -> b = c := by
   intro vs
   induction vs with
   | nil => intro ds es xs b c r1 r2 h h'; cases r1; cases r2; exact Option.some.inj (h.symm.trans h')
   | cons v vs ih =>
    intro ds es xs b c r1 r2 h h'
    cases r1 with
    | cons a1 r1 =>
     cases r2 with
     | cons a2 r2 =>
      cases xs with
      | nil => cases h; cases h'; rfl
      | cons x xs =>
       obtain ⟨b1, k1, h⟩ := bS_ (show (eqF n _ _).bind _ = _ from h)
       obtain ⟨c1, k2, h⟩ := bS_ h
       obtain ⟨b2, k3, h'⟩ := bS_ (show (eqF n _ _).bind _ = _ from h')
       obtain ⟨c2, k4, h'⟩ := bS_ h'
       cases h; cases h'
       rw [zhF I n _ _ _ _ _ _ a1.vw a2.vw k1 k3, ih _ _ _ _ _ r1 r2 k2 k4]
  cases h1 with
  | tup r1 s1 l1 =>
   cases h2 with
   | tup r2 s2 l2 =>
    have := I.tuple_inj s1 s2
    subst this
    cases x with
    | tup xs => exact lst _ _ _ _ _ _ l1 l2 h h'
    | _ => exact Option.some.inj (h.symm.trans h')
   | lst s2 l2 => exact (zfZ I s1 s2.sq).elim
   | _ => cases h'
  | lst s1 l1 =>
   cases h2 with
   | tup r2 s2 l2 => exact (zfZ I s2 s1.sq).elim
   | lst s2 l2 =>
    have := I.list_inj s1.sq s2.sq
    subst this
    cases x with
    | lst xs => exact lst _ _ _ _ _ _ l1 l2 h h'
    | _ => exact Option.some.inj (h.symm.trans h')
   | _ => cases h'
  | dct s1 l1 => cases h
  | cl => cases h
  | ob => cases h
  | dt => cases h
  | _ => cases h2; exact Option.some.inj (h.symm.trans h')
end
def zhn : D -> Option Key
 | .int i => some (.inl i)
 | .str x => some (.inr x)
 | _ => none
def zcT (kvs : List (Key × D)) (k : Key) : Option D := (kvs.find? λ kv => decide (kv.1 = k)).map (·.2)
theorem zdt {K : zC} {kd : KD} {O : Addr -> Prop} {H : Hp} (k : Key) {vs : List (Key × V)} {ds : List (Key × D)} (h : RpM K kd O H vs ds) : (∃ v d, Z0 vs k = some v /\ zcT ds k = some d /\ Rp K kd O H v d) \/ (Z0 vs k = none /\ zcT ds k = none) :=
 RpM.ind (P := λ vs ds => (∃ v d, Z0 vs k = some v /\ zcT ds k = some d /\ Rp K kd O H v d) \/ (Z0 vs k = none /\ zcT ds k = none)) (.inr ⟨rfl, rfl⟩) (λ {k' v d vs ds} a _ ih => by
  by_cases e : k' = k
  · left
    refine ⟨_, _, ?_, ?_, a⟩
    · unfold Z0; simp [e]
    · unfold zcT; simp [e]
  · rcases ih with ⟨v, d, h1, h2, h3⟩ | ⟨h1, h2⟩
    · left
      refine ⟨v, d, ?_, ?_, h3⟩
      · unfold Z0 at h1 ⊢; simpa [e] using h1
      · unfold zcT at h2 ⊢; simpa [e] using h2
    · right
      refine ⟨?_, ?_⟩
      · unfold Z0 at h1 ⊢; simpa [e] using h1
      · unfold zcT at h2 ⊢; simpa [e] using h2) h
def zfV : List D -> Option (List Key)
 | [] => some []
 | d :: r => (zhn d).bind λ k => (zfV r).bind λ ks => some (k :: ks)
def zii : D -> Option (List Key)
 | .tup ds => zfV ds
 | _ => none
def zcj (ks : List (List Key)) (ds : List D) (k : List Key) : Option D := ((ks.zip ds).find? λ kv => decide (kv.1 = k)).map (·.2)
theorem zhH {K : zC} {kd : KD} {O : Addr -> Prop} {H : Hp} {vs : List V} {ds : List D} (h : RpL K kd O H vs ds) : ∀ {k : List Key}, zfV ds = some k -> vs = k.map kV :=
 RpL.ind (P := λ vs ds => ∀ {k : List Key}, zfV ds = some k -> vs = k.map kV) (λ e => by cases e; rfl) (λ {v d vs ds} a _ ih k e => by
  obtain ⟨k1, h1, e⟩ := bS_ (show (zhn d).bind _ = _ from e)
  obtain ⟨k2, h2, e⟩ := bS_ e
  cases e
  have hv : v = kV k1 := by
   cases a with
   | int i => cases h1; rfl
   | str i => cases h1; rfl
   | _ => cases h1
  rw [hv, ih h2]; rfl) h
theorem zbh {K : zC} {kd : KD} {O : Addr -> Prop} {H : Hp} {v : V} {d : D} {k : List Key} (h : Vw K kd O H v d) (e : zii d = some k) : ∃ b, v = .ref b /\ H b = some (.tup (k.map kV)) := by
 cases h with
 | tup rp hs rl =>
  cases rp with
  | tup n h r => exact ⟨_, rfl, by rw [h, zhH r e]⟩
 | _ => cases e
theorem zdP {K : zC} {kd : KD} {O : Addr -> Prop} {H : Hp} (k : List Key) {vs : List V} {ds : List D} (h : RpL K kd O H vs ds) : ∀ {ks : List (List Key)}, ks.length = vs.length -> (∃ v d, Z0 (ks.zip vs) k = some v /\ zcj ks ds k = some d /\ Rp K kd O H v d) \/ (Z0 (ks.zip vs) k = none /\ zcj ks ds k = none) :=
 RpL.ind (P := λ vs ds => ∀ {ks : List (List Key)}, ks.length = vs.length -> (∃ v d, Z0 (ks.zip vs) k = some v /\ zcj ks ds k = some d /\ Rp K kd O H v d) \/ (Z0 (ks.zip vs) k = none /\ zcj ks ds k = none)) (λ {ks} e => by
  cases ks with
  | nil => exact .inr ⟨rfl, rfl⟩
  | cons => simp at e) (λ {v d vs ds} a _ ih ks e => by
  cases ks with
  | nil => simp at e
  | cons k1 ks =>
   have e' : ks.length = vs.length := by simpa using e
   unfold Z0 zcj
   rw [List.zip_cons_cons, List.zip_cons_cons]
   by_cases hk : k1 = k
   · rw [List.find?_cons_of_pos (by simpa using hk), List.find?_cons_of_pos (by simpa using hk)]
     exact .inl ⟨_, _, rfl, rfl, a⟩
   · rw [List.find?_cons_of_neg (by simpa using hk), List.find?_cons_of_neg (by simpa using hk)]
     exact ih e') h
def anyF (f : D -> Option Bool) : List D -> Option Bool
 | [] => some false
 | x :: r => (f x).bind λ b => (anyF f r).bind λ c => some (b || c)
def blR (b : Bool) : R0 := .im (.bl b)
def inP (x : D) : D -> Option Bool
 | .lst ys => anyF (λ y => eqF 50 y x) ys
 | .tup ys => anyF (λ y => eqF 50 y x) ys
 | .str y => match x with | .str i => some (!(Builtin.Str.occurrences y i 0 y.length 1).isEmpty) | _ => none
 | .dct kvs => (zhn x).bind λ k => some (zcT kvs k).isSome
 | .dt ks ds => (zii x).bind λ k => some (zcj ks ds k).isSome
 | _ => none
def isP : D -> D -> Option Bool
 | d, .non => some (match d with | .non => true | _ => false)
 | d, .bl b => match d with | .bl c => some (c == b) | _ => some false
 | _, _ => none
def ziE (f : Int -> Int -> Bool) : D -> D -> Option R0 := onI λ i j => some (blR (f i j))
def yj (o : CmpOp) (d e : D) : Option R0 := match o with
 | .Eq => (eqF 60 d e).bind λ b => some (blR b)
 | .NotEq => (eqF 60 d e).bind λ b => some (blR !b)
 | .Lt => ziE (λ i j => decide (i < j)) d e
 | .LtE => ziE (λ i j => decide (i <= j)) d e
 | .Gt => ziE (λ i j => decide (j < i)) d e
 | .GtE => ziE (λ i j => decide (j <= i)) d e
 | .In => (inP d e).bind λ b => some (blR b)
 | .NotIn => (inP d e).bind λ b => some (blR !b)
 | .Is => (isP d e).bind λ b => some (blR b)
 | .IsNot => (isP d e).bind λ b => some (blR !b)
theorem Wv {o : Option Bool} {f : Bool -> Bool} {r : R0} (h : (o.bind λ b => some (blR (f b))) = some r) : ∃ k, r = .im (.bl k) := by
 obtain ⟨b, _, h⟩ := bS_ h
 cases h
 exact ⟨_, rfl⟩
theorem zbm {x y : D} {f : Int -> Int -> Bool} {r : R0} (h : ziE f x y = some r) : ∃ k, r = .im (.bl k) := by
 obtain ⟨i, _, h⟩ := bS_ (show (asI x).bind _ = _ from h)
 obtain ⟨j, _, h⟩ := bS_ h
 cases h
 exact ⟨_, rfl⟩
theorem yu (op : CmpOp) (x y : D) (r : R0) (h : yj op x y = some r) : ∃ k, r = .im (.bl k) := by
 cases op with
 | Eq => exact Wv (f := id) h
 | NotEq => exact Wv (f := not) h
 | Lt => exact zbm h
 | LtE => exact zbm h
 | Gt => exact zbm h
 | GtE => exact zbm h
 | In => exact Wv (f := id) h
 | NotIn => exact Wv (f := not) h
 | Is => exact Wv (f := id) h
 | IsNot => exact Wv (f := not) h
section
variable {X : Cx} {kd : KD} {pins : List (Addr × Obj)} {σ : St} {H : Hp} {s : Shared} {O : Addr -> Prop}
noncomputable def eqW (K : zC) (kd : KD) (O : Addr -> Prop) (H : Hp) (n : Nat) (x : D) (u : Value) : Bool := @decide (∃ v d, RelV v u /\ Rp K kd O H v d /\ eqF n d x = some true) (Classical.propDecidable _)
theorem ziY (I : Inv X pins σ H s) (hk : KdOk X kd) {n : Nat} {x d : D} {v : V} {u : Value} {b : Bool} (r : RelV v u) (p : Rp X.K kd O H v d) (e : eqF n d x = some b) : eqW X.K kd O H n x u = b := by
 unfold eqW
 cases b with
 | true => exact @decide_eq_true _ (Classical.propDecidable _) ⟨v, d, r, p, e⟩
 | false =>
  refine @decide_eq_false _ (Classical.propDecidable _) λ ⟨v', d', r', p', e'⟩ => ?_
  have := r.inj r'
  subst this
  exact Bool.noConfusion (zhF I n _ _ _ _ _ _ p.vw p'.vw e e')
theorem zbl (I : Inv X pins σ H s) (hk : KdOk X kd) {n : Nat} {x : D} {vs : List V} {us : List Value} {ds : List D} {b : Bool} (hv : Vals vs us) (h : RpL X.K kd O H vs ds) (e : anyF (λ y => eqF n y x) ds = some b) : us.any (eqW X.K kd O H n x) = b :=
 RpL.ind (P := λ vs ds => ∀ us b, Vals vs us -> anyF (λ y => eqF n y x) ds = some b -> us.any (eqW X.K kd O H n x) = b) (λ us b hv e => by cases e; cases hv; rfl) (λ {v d vs ds} a _ ih us b hv h => by
  cases hv with
  | cons r t =>
   obtain ⟨b1, h1, h⟩ := bS_ (show (eqF n _ x).bind _ = _ from h)
   obtain ⟨c1, h2, h⟩ := bS_ h
   cases h
   rw [List.any_cons, ziY I hk r a h1, ih _ _ t h2]) h us b hv e
theorem Wf {f : D -> Option Bool} : ∀ {ds : List D} {b : Bool}, anyF f ds = some b -> ∀ d ∈ ds, ∃ c, f d = some c
 | [], _, _, d, hd => by simp at hd
 | x :: r, b, h, d, hd => by
  obtain ⟨b1, h1, h⟩ := bS_ (show (f x).bind _ = _ from h)
  obtain ⟨c1, h2, h⟩ := bS_ h
  rcases zS.mp hd with e | e
  · subst e; exact ⟨b1, h1⟩
  · exact Wf h2 d e
theorem zbe (I : Inv X pins σ H s) (hk : KdOk X kd) {n : Nat} {A : Around} (hu : A.units + n < cLine) {x : V} {v : Value} {d : D} (vx : Vw X.K kd O H x d) (rx : RelV x v) {vs : List V} {us : List Value} {ds : List D} (hv : Vals vs us) (h : RpL X.K kd O H vs ds) (k : ∀ e ∈ ds, ∃ c, eqF n e d = some c) : ∀ u ∈ us, SeqAt.EqAt A s u v (eqW X.K kd O H n d u) :=
 RpL.ind (P := λ vs ds => ∀ us, Vals vs us -> (∀ e ∈ ds, ∃ c, eqF n e d = some c) -> ∀ u ∈ us, SeqAt.EqAt A s u v (eqW X.K kd O H n d u)) (λ us hv _ u hu => by cases hv; simp at hu) (λ a q ih us hv h u hm => by
  cases hv with
  | cons r t =>
   rcases zS.mp hm with e | e
   · subst e
     obtain ⟨c, hc⟩ := h _ zzC
     rw [ziY I hk r a hc]
     exact (zdH I n A _ _ _ _ _ _ _ hu a.vw vx r rx hc).eq
   · exact ih _ t (λ e he => h e (zzA _ he)) u e) h us hv k
theorem zbH {A : Around} {E : Value -> Shared -> Prop} {x : V} {v : Value} {b c : Bool} {d : D} {Q : Bool -> Shared -> Prop} (vx : Vw X.K kd O H x d) (rx : RelV x v) (e : isP d (.bl b) = some c) (h : Q c s) : wpAny (model X.prog X.w) A (isSame v (.bool b)) Q E s := by
 cases vx with
 | non => cases rx; cases e; exact wpAny_pure h
 | bl k =>
  cases rx
  have e : some (k == b) = some c := e
  cases e
  refine wpAny_pure ?_
  cases k <;> cases b <;> exact h
 | int => obtain ⟨t, rfl⟩ := rx; cases e; exact wpAny_pure h
 | str => obtain ⟨t, rfl⟩ := rx; cases e; exact wpAny_pure h
 | tup => cases rx; cases e; exact wpAny_pure h
 | lst => cases rx; cases e; exact wpAny_pure h
 | dct => cases rx; cases e; exact wpAny_pure h
 | cl => cases rx; cases e; exact wpAny_pure h
 | ob => cases rx; cases e; exact wpAny_pure h
 | dt => cases rx; cases e; exact wpAny_pure h
theorem yD (hk : KdOk X kd) (hu : X.A.units + 100 < cLine) (op : CmpOp) : OpD X kd (compareOp op) (yj op) := by
 intro pins s σ H x y v u Q I rx ry h
 obtain ⟨O, d, e, r, ht, vx, vy, he, q⟩ := h
 cases op with
 | Eq =>
  obtain ⟨b, h1, he⟩ := bS_ (show (eqF 60 d e).bind _ = _ from he)
  cases he
  exact (zdH I 60 X.A x y d e v u b (by omega) vx vy rx ry h1).rc _ _ _ _ (xT I (yg q (.bl _)) rfl)
 | NotEq =>
  obtain ⟨b, h1, he⟩ := bS_ (show (eqF 60 d e).bind _ = _ from he)
  cases he
  exact (zdH I 60 X.A x y d e v u b (by omega) vx vy rx ry h1).ne _ _ _ _ (xT I (yg q (.bl _)) rfl)
 | Lt =>
  obtain ⟨i, j, rfl, rfl, he⟩ := Yb vx vy he
  cases he
  exact zno pins s σ H _ _ v u Q I rx ry ⟨_, _, rfl, rfl, yg q (.bl _)⟩
 | LtE =>
  obtain ⟨i, j, rfl, rfl, he⟩ := Yb vx vy he
  cases he
  exact znc pins s σ H _ _ v u Q I rx ry ⟨_, _, rfl, rfl, yg q (.bl _)⟩
 | Gt =>
  obtain ⟨i, j, rfl, rfl, he⟩ := Yb vx vy he
  cases he
  exact znR pins s σ H _ _ v u Q I rx ry ⟨_, _, rfl, rfl, yg q (.bl _)⟩
 | GtE =>
  obtain ⟨i, j, rfl, rfl, he⟩ := Yb vx vy he
  cases he
  exact znV pins s σ H _ _ v u Q I rx ry ⟨_, _, rfl, rfl, yg q (.bl _)⟩
 | In =>
  obtain ⟨b, h1, he⟩ := bS_ (show (inP d e).bind _ = _ from he)
  cases he
  cases vy with
  | lst hs rl =>
   cases ry
   obtain ⟨its, rv, p, _⟩ := I.list hs.sq
   refine SeqAt.in_listAt (eqW X.K kd O H 50 d) p.isList (λ w hw => zbe I hk (by show X.A.units + 1 + 50 < cLine; omega) vx rx rv rl (Wf h1) w (by simpa using hw)) ?_
   have := zbl I hk rv rl h1
   rw [show its.toArray.any (eqW X.K kd O H 50 d) = b by rw [<- this]; simp]
   exact xT (I) (yg q (.bl _)) rfl
  | tup rp hs rl =>
   cases ry
   obtain ⟨its, rv, p, _⟩ := I.tuple hs
   refine SeqAt.in_tupleAt (eqW X.K kd O H 50 d) p (λ w hw => zbe I hk (by show X.A.units + 1 + 50 < cLine; omega) vx rx rv rl (Wf h1) w (by simpa using hw)) ?_
   have := zbl I hk rv rl h1
   rw [show its.toArray.any (eqW X.K kd O H 50 d) = b by rw [<- this]; simp]
   exact xT (I) (yg q (.bl _)) rfl
  | str z =>
   cases vx with
   | str i => cases h1; exact zgV pins s σ H _ _ v u Q I rx ry ⟨_, _, rfl, rfl, yg q (.bl _)⟩
   | _ => cases h1
  | dct hs rm =>
   cases ry
   obtain ⟨k, k1, h1⟩ := bS_ h1
   cases h1
   obtain ⟨z, hd, vs, rel, dd⟩ := zeh I hk hs
   have ek : x = kV k := by
    cases vx with
    | int i => cases k1; rfl
    | str i => cases k1; rfl
    | _ => cases k1
   subst ek
   refine wpAny_in_of (zbS rx) hd dd.mapOf ?_
   rw [<- (rel.val k).isSome_eq]
   rcases zdt k rm with ⟨v1, d1, e1, e2, _⟩ | ⟨e1, e2⟩
   · rw [e1]; rw [e2] at q; exact xT (I.tok _) (yg q (.bl _)) rfl
   · rw [e1]; rw [e2] at q; exact xT (I.tok _) (yg q (.bl _)) rfl
  | dt hH l rl =>
   cases ry
   obtain ⟨k, k1, h1⟩ := bS_ h1
   cases h1
   obtain ⟨b, rfl, hb⟩ := zbh vx k1
   refine zol (by show X.A.units + 1 < cLine; omega) I (zgW.t hH hb) rx λ s' I' => ?_
   rcases zdP k rl l with ⟨v1, d1, e1, e2, _⟩ | ⟨e1, e2⟩
   · rw [e1]; rw [e2] at q; exact xT I' (yg q (.bl _)) rfl
   · rw [e1]; rw [e2] at q; exact xT I' (yg q (.bl _)) rfl
  | _ => cases h1
 | NotIn =>
  obtain ⟨b, h1, he⟩ := bS_ (show (inP d e).bind _ = _ from he)
  cases he
  cases vy with
  | lst hs rl =>
   cases ry
   obtain ⟨its, rv, p, _⟩ := I.list hs.sq
   refine SeqAt.notIn_listAt (eqW X.K kd O H 50 d) p.isList (λ w hw => zbe I hk (by show X.A.units + 1 + 50 < cLine; omega) vx rx rv rl (Wf h1) w (by simpa using hw)) ?_
   have := zbl I hk rv rl h1
   rw [show its.toArray.any (eqW X.K kd O H 50 d) = b by rw [<- this]; simp]
   exact xT (I) (yg q (.bl _)) rfl
  | tup rp hs rl =>
   cases ry
   obtain ⟨its, rv, p, _⟩ := I.tuple hs
   refine SeqAt.notIn_tupleAt (eqW X.K kd O H 50 d) p (λ w hw => zbe I hk (by show X.A.units + 1 + 50 < cLine; omega) vx rx rv rl (Wf h1) w (by simpa using hw)) ?_
   have := zbl I hk rv rl h1
   rw [show its.toArray.any (eqW X.K kd O H 50 d) = b by rw [<- this]; simp]
   exact xT (I) (yg q (.bl _)) rfl
  | str z =>
   cases vx with
   | str i => cases h1; exact zdr pins s σ H _ _ v u Q I rx ry ⟨_, _, rfl, rfl, yg q (.bl _)⟩
   | _ => cases h1
  | dct hs rm =>
   cases ry
   obtain ⟨k, k1, h1⟩ := bS_ h1
   cases h1
   obtain ⟨z, hd, vs, rel, dd⟩ := zeh I hk hs
   have ek : x = kV k := by
    cases vx with
    | int i => cases k1; rfl
    | str i => cases k1; rfl
    | _ => cases k1
   subst ek
   refine wpAny_notIn_of (zbS rx) hd dd.mapOf ?_
   rw [<- (rel.val k).isSome_eq]
   rcases zdt k rm with ⟨v1, d1, e1, e2, _⟩ | ⟨e1, e2⟩
   · rw [e1]; rw [e2] at q; exact xT (I.tok _) (yg q (.bl _)) rfl
   · rw [e1]; rw [e2] at q; exact xT (I.tok _) (yg q (.bl _)) rfl
  | dt hH l rl =>
   cases ry
   obtain ⟨k, k1, h1⟩ := bS_ h1
   cases h1
   obtain ⟨b, rfl, hb⟩ := zbh vx k1
   refine zkv (by show X.A.units + 1 < cLine; omega) I (zgW.t hH hb) rx λ s' I' => ?_
   rcases zdP k rl l with ⟨v1, d1, e1, e2, _⟩ | ⟨e1, e2⟩
   · rw [e1]; rw [e2] at q; exact xT I' (yg q (.bl _)) rfl
   · rw [e1]; rw [e2] at q; exact xT I' (yg q (.bl _)) rfl
  | _ => cases h1
 | Is =>
  obtain ⟨b, h1, he⟩ := bS_ (show (isP d e).bind _ = _ from he)
  cases he
  cases vy with
  | non =>
   refine zmB pins s σ H _ _ v u Q I rx ry ⟨rfl, ?_⟩
   have : decide (x = V.non) = b := by cases vx <;> (cases h1; rfl)
   rw [this]
   exact yg q (.bl b)
  | bl c =>
   cases ry
   exact wpAny_bind (zbH vx rx h1 (wpAny_pure (xT I (yg q (.bl _)) rfl)))
  | _ => cases h1
 | IsNot =>
  obtain ⟨b, h1, he⟩ := bS_ (show (isP d e).bind _ = _ from he)
  cases he
  cases vy with
  | non =>
   refine zjQ pins s σ H _ _ v u Q I rx ry ⟨rfl, ?_⟩
   have : decide (x = V.non) = b := by cases vx <;> (cases h1; rfl)
   rw [this]
   exact yg q (.bl _)
  | bl c =>
   cases ry
   exact wpAny_bind (zbH vx rx h1 (wpAny_pure (xT I (yg q (.bl _)) rfl)))
  | _ => cases h1
end
theorem zga {K : zC} {kd : KD} {O : Addr -> Prop} {H : Hp} {vs : List V} {ds : List D} {i : Int} {d : D} (r : RpL K kd O H vs ds) (h : atI ds i = some d) : ∃ v, atI vs i = some v /\ Rp K kd O H v d := by
 unfold atI at h ⊢
 obtain ⟨j, h1, h2⟩ := bS_ h
 rw [r.length, h1]
 exact r.get h2
def imR (o : Option D) : Option R0 := o.bind λ d => some (.im d)
def ixP (x y : D) : Option R0 := match x with
 | .lst xs => (asI y).bind λ i => imR (atI xs i)
 | .tup xs => (asI y).bind λ i => imR (atI xs i)
 | .str x => (asI y).bind λ i => if x.length <= sizeLine then (atI x.cps.toList i).bind λ c => some (.im (.str ⟨#[c]⟩)) else none
 | .dct kvs => (zhn y).bind λ k => imR (zcT kvs k)
 | _ => none
theorem zbz {o : Option D} {r : R0} (h : imR o = some r) : ∃ d, o = some d /\ r = .im d := by
 obtain ⟨d, h1, h2⟩ := bS_ (show o.bind _ = _ from h)
 cases h2
 exact ⟨d, h1, rfl⟩
section
variable {X : Cx} {kd : KD}
theorem zlp {K : zC} {O : Addr -> Prop} {H : Hp} {x : V} {d : D} {k : Key} (vx : Vw K kd O H x d) (e : zhn d = some k) : x = kV k := by
 cases vx with
 | int i => cases e; rfl
 | str i => cases e; rfl
 | _ => cases e
theorem zop (hk : KdOk X kd) : IxD X kd ixP := by
 intro value slice pins s σ H x y v u Q I rx ry h hs
 obtain ⟨O, d, e, r, ht, vx, vy, he, q⟩ := h
 cases vx with
 | lst hr rl =>
  obtain ⟨i, h0, he⟩ := bS_ (show (asI e).bind _ = _ from he)
  obtain ⟨rfl, rfl⟩ := Yx vy h0
  obtain ⟨d, h1, rfl⟩ := zbz he
  obtain ⟨w, hw, rw'⟩ := zga rl h1
  exact zde value slice pins s σ H _ _ v u Q I rx ry ⟨_, _, _, w, rfl, rfl, hr.sq, hw, yg q rw'⟩ hs
 | tup rp hr rl =>
  obtain ⟨i, h0, he⟩ := bS_ (show (asI e).bind _ = _ from he)
  obtain ⟨rfl, rfl⟩ := Yx vy h0
  obtain ⟨d, h1, rfl⟩ := zbz he
  obtain ⟨w, hw, rw'⟩ := zga rl h1
  exact zlq value slice pins s σ H _ _ v u Q I rx ry ⟨_, _, _, w, rfl, rfl, hr, hw, yg q rw'⟩ hs
 | str z =>
  obtain ⟨i, h0, he⟩ := bS_ (show (asI e).bind _ = _ from he)
  obtain ⟨rfl, rfl⟩ := Yx vy h0
  obtain ⟨hz, he⟩ := ite_some' he
  obtain ⟨c, h1, he⟩ := bS_ he
  cases he
  exact zlw value slice pins s σ H _ _ v u Q I rx ry ⟨_, _, c, rfl, rfl, hz, h1, yg q (.str _)⟩ hs
 | dct hr rm =>
  obtain ⟨k, h1, he⟩ := bS_ (show (zhn e).bind _ = _ from he)
  obtain ⟨d, h2, rfl⟩ := zbz he
  cases rx
  obtain ⟨z, hd, vs, rel, dd⟩ := zeh I hk hr
  have := zlp vy h1
  subst this
  rcases zdt k rm with ⟨v1, d1, e1, e2, rp⟩ | ⟨e1, e2⟩
  · rw [h2] at e2
    cases e2
    obtain ⟨w', hw, rw'⟩ := zdj.some_of (v := v1) (o := valueAt vs k) (by rw [<- e1]; exact rel.val k)
    exact tail_any dd.typeIs PySem.F.slot_dict_getitem.lookup (wpAny_getItem_of (zbS ry) dd.mapOf hw ⟨v1, H, I.tok _, rw', yg q rp⟩) hs
  · rw [h2] at e2; cases e2
 | _ => cases he
def cutD (xs : List D) (lo hi : Option Int) : List D := (xs.drop (HT.sIx xs.length 0 lo)).take (HT.sIx xs.length xs.length hi - HT.sIx xs.length 0 lo)
theorem zgd {K : zC} {O : Addr -> Prop} {H : Hp} {vs : List V} {ds : List D} (r : RpL K kd O H vs ds) (lo hi : Option Int) : RpL K kd O H (zeB vs lo hi) (cutD ds lo hi) := by
 unfold zeB cutD
 rw [r.length]
 exact (r.drop _).take _
def slP (x : D) (lo hi : Option Int) : Option R0 := match x with
 | .lst xs => some (.fl (cutD xs lo hi))
 | .tup xs => if HT.sIx xs.length 0 lo = 0 /\ HT.sIx xs.length xs.length hi = xs.length then none else some (.im (.tup (cutD xs lo hi)))
 | _ => none
abbrev OF := AS -> Option (Option Int × AS)
def oN : OF := λ as => some (none, as)
def oS (f : EF) : OF := λ as => (f as).bind λ p => (rvI p.1).bind λ i => some (some i, p.2)
def fSl (fa : EF) (fl fh : OF) (g : D -> Option Int -> Option Int -> Option R0) : EF := λ as => (fa as).bind λ p => (fl p.2).bind λ l => (fh l.2).bind λ h => (p.1.frz.view h.2).bind λ x => (g x.1 l.1 h.1).bind λ r => (wrap x.2 r).bind λ z => some (z, h.2)
def alO (K : zC) (kd : KD) (f : OF) : TO := λ σ H Q => ∃ F B ad as o as', Rel K kd F B [] ad as σ H /\ f as = some (o, as') /\
 ∀ ad' H', Rel K kd F B [] ad' as' σ H' -> Grow (Gw [] ad) H (Gw [] ad') H' -> Q o H'
@[irreducible] def AO (X : Cx) (kd : KD) (e : Option Expr) (f : OF) : Prop := PO X e (alO X.K kd f)
theorem zio {e : Option Expr} {t t' : TO} (h : PO X e t) (k : ∀ σ H Q, t' σ H Q -> t σ H Q) : PO X e t' := λ pins s σ H Q I q => h pins s σ H Q I (k σ H Q q)
theorem Vm : AO X kd none oN := by with_unfolding_all exact (zio zka λ σ H Q h => by
 obtain ⟨F, B, ad, as, o, as', R, e, q⟩ := h
 cases e
 exact q ad H R Grow.refl)
theorem zlx {K : zC} {F B : Addr -> Prop} {T : List Addr} {ad : Ad} {σ : St} {H : Hp} {v : V} {st : Bool} {c : Int} (h : vJ K kd F B T ad σ H v (.ow (.lf st (.int c)))) : T = [] /\ v = .int c := by
 have h : RoS K kd F B (Gw T ad) H v (.lf st (.int c)) T := h
 generalize hT : Gw T ad = G at h
 cases h with
 | lf rp => cases rp; exact ⟨rfl, rfl⟩
theorem Xc {a : Expr} {fa : EF} (ha : AE X kd a fa) : AO X kd (some a) (oS fa) := by with_unfolding_all exact (zio (zkK ha) λ σ H Q h => by
 obtain ⟨F, B, ad, as, o, as', R, e, q⟩ := h
 obtain ⟨⟨p, as1⟩, h1, e⟩ := bS_ (show (fa as).bind _ = _ from e)
 obtain ⟨i, e1, e⟩ := bS_ e
 obtain ⟨st, rfl⟩ := zlQ e1
 cases e
 refine ⟨F, B, ad, as, _, _, R, h1, λ v T' ad1 H1 R1 rv1 g1 => ?_⟩
 obtain ⟨rfl, rfl⟩ := zlx rv1
 exact ⟨i, rfl, q ad1 H1 R1 g1⟩)
theorem zoq : SlR X (λ x lo hi H Q => ∃ O d r, (∀ a, O a -> H a ≠ none) /\ Vw X.K kd O H x d /\ slP d lo hi = some r /\ RQ X.K kd O H Q r) := by
 intro pins s σ H x v vl vu lo hi sl Q I rx hs pl pu h
 obtain ⟨O, d, r, ht, vx, he, q⟩ := h
 cases vx with
 | lst hr rl => cases he; exact zkQ pins s σ H _ v vl vu lo hi sl Q I rx hs pl pu ⟨_, _, rfl, hr.sq, zaB q (zgd rl lo hi)⟩
 | tup rp hr rl =>
  have he : (if _ then none else some _ : Option R0) = _ := he
  split at he
  · cases he
  · rename_i hw
    cases he
    exact zls pins s σ H _ v vl vu lo hi sl Q I rx hs pl pu ⟨_, _, rfl, hr, by rw [rl.length]; exact hw, zfw ht q (zgd rl lo hi)⟩
 | _ => cases he
theorem Yw {a : Expr} {lo hi : Option Expr} {fa : EF} {fl fh : OF} {pos p2 : Pos} (ha : AE X kd a fa) (hl : AO X kd lo fl) (hh : AO X kd hi fh) : AE X kd (.Subscript a (.Slice lo hi none p2) pos) (fSl fa fl fh slP) := by with_unfolding_all exact (wG (zhB zoq ha hl hh) λ σ H Q h => by
 obtain ⟨F, B, ad, as, r, as', R, e, q⟩ := h
 obtain ⟨⟨p, as1⟩, h1, e⟩ := bS_ (show (fa as).bind _ = _ from e)
 obtain ⟨⟨l, as2⟩, h2, e⟩ := bS_ e
 obtain ⟨⟨u, as3⟩, h3, e⟩ := bS_ e
 obtain ⟨⟨d, lv⟩, h4, e⟩ := bS_ e
 obtain ⟨r', h5, e⟩ := bS_ e
 obtain ⟨z, h6, e⟩ := bS_ e
 cases e
 refine Wi R h1 λ v ad1 H1 R1 rv1 g1 => ⟨F, B, ad1, as1, l, as2, R1, h2, λ ad2 H2 R2 g2 => ⟨F, B, ad2, as2, u, _, R2, h3, λ ad3 H3 R3 g3 => ?_⟩⟩
 exact ⟨_, d, r', R3.tr _, vJ.vw R3 ((rv1.grow g2).grow g3) h4, h5, Vt R3 h6 λ w T' H' R' rv' g' => q w T' ad3 H' R' rv' (((g1.trans g2).trans g3).trans g')⟩)
end
def Xj : List D -> Option (List Int)
 | [] => some []
 | .int i :: r => (Xj r).bind λ s => some (i :: s)
 | _ :: _ => none
def zna : List Int -> Int
 | [] => 0
 | x :: r => r.foldl (λ a b => if a < b then b else a) x
theorem zcu : ∀ (r : List Int) (x : Int), r.foldl (λ a b => if a < b then b else a) x ∈ x :: r /\ ∀ a ∈ x :: r, a <= r.foldl (λ a b => if a < b then b else a) x
 | [], x => ⟨by simp, by simp⟩
 | y :: r, x => by
  rw [List.foldl_cons]
  obtain ⟨h1, h2⟩ := zcu r (if x < y then y else x)
  refine ⟨?_, λ a ha => ?_⟩
  · rcases zS.mp h1 with e | e
    · rw [e]; split <;> simp
    · exact zzA _ (zzA _ e)
  · have h3 := h2 _ zzC
    rcases zS.mp ha with e | e
    · subst e; exact Int.le_trans (by split <;> omega) h3
    · rcases zS.mp e with e | e
      · subst e; exact Int.le_trans (by split <;> omega) h3
      · exact h2 a (zzA _ e)
theorem zjP {ns : List Int} {M : Int} (h1 : M ∈ ns) (h2 : ∀ a ∈ ns, a <= M) : zna ns = M := by
 cases ns with
 | nil => simp at h1
 | cons x r =>
  obtain ⟨k1, k2⟩ := zcu r x
  have a1 := k2 M h1
  have a2 := h2 _ k1
  show r.foldl _ x = M
  omega
def on1 (f : D -> Option R0) (ds : List D) : Option R0 := match ds with
 | [x] => f x
 | _ => none
theorem zdI {K : zC} {kd : KD} {O : Addr -> Prop} {H : Hp} {f : D -> Option R0} {xs : List V} {ds : List D} {r : R0} (vl : VwL K kd O H xs ds) (h : on1 f ds = some r) : ∃ x d, xs = [x] /\ Vw K kd O H x d /\ f d = some r := by
 cases vl with
 | nil => cases h
 | cons a b =>
  cases b with
  | nil => exact ⟨_, _, rfl, a, h⟩
  | cons _ _ => cases h
def zoL : D -> Option R0
 | .lst ds => some (.im (.int ds.length))
 | .tup ds => some (.im (.int ds.length))
 | .str x => if x.length <= sizeLine then some (.im (.int x.length)) else none
 | .dct kvs => some (.im (.int kvs.length))
 | _ => none
def Z2 : List D -> Option R0 := on1 zoL
def zoU : D -> Option R0
 | .int i => some (.im (.int i))
 | .bl b => some (.im (.int (if b then 1 else 0)))
 | _ => none
def zoN : D -> Option R0
 | .lst ds => some (.fl ds)
 | .tup ds => some (.fl ds)
 | _ => none
def lstP : List D -> Option R0 := on1 zoN
def znj (ds : List D) : Option R0 := match ds with
 | [x, y] => onI (λ i j => some (.im (.int (if j > i then j else i)))) x y
 | [x] => (asL x).bind λ ds => (Xj ds).bind λ ns => if 0 < ns.length then some (.im (.int (zna ns))) else none
 | _ => none
theorem zjL {K : zC} {kd : KD} {O : Addr -> Prop} {H : Hp} {xs : List V} {d : D} (h : VwL K kd O H xs [d]) : ∃ x, xs = [x] /\ Vw K kd O H x d := by
 cases h with
 | cons a b => cases b; exact ⟨_, rfl, a⟩
theorem zid {K : zC} {kd : KD} {O : Addr -> Prop} {H : Hp} {vs : List V} {ds : List D} {ns : List Int} (h : RpL K kd O H vs ds) (e : Xj ds = some ns) : vs = ns.map V.int :=
 RpL.ind (P := λ vs ds => ∀ ns, Xj ds = some ns -> vs = ns.map V.int) (λ ns e => by cases e; rfl) (λ {v d vs ds} a _ ih ns e => by
  cases d with
  | int i =>
   obtain ⟨s, h1, h2⟩ := bS_ (show (Xj _).bind _ = _ from e)
   cases h2
   cases a
   rw [ih _ h1]
   rfl
  | _ => cases e) h ns e
section
variable {X : Cx} {kd : KD}
theorem wN (hk : KdOk X kd) : CallD X kd (.builtin "len") Z2 := by
 intro pins s σ H xs us Q I r h
 obtain ⟨O, ds, z, ht, vl, he, q⟩ := h
 obtain ⟨x, d, rfl, vx, he⟩ := zdI vl he
 cases vx with
 | lst hr rl => cases he; exact Vn pins s σ H _ us Q I r ⟨_, _, rfl, .inl hr.sq, by rw [rl.length]; exact yg q (.int _)⟩
 | tup rp hr rl => cases he; exact Vn pins s σ H _ us Q I r ⟨_, _, rfl, .inr hr, by rw [rl.length]; exact yg q (.int _)⟩
 | str y =>
  obtain ⟨c, rfl⟩ := zR he
  exact zdJ pins s σ H _ us Q I r ⟨_, rfl, c, yg q (.int _)⟩
 | dct hr rm =>
  cases he
  obtain ⟨u, rfl, ru⟩ := vals1 r
  cases ru
  obtain ⟨z, hd, vs, rel, dd⟩ := zeh I hk hr
  refine call_len_dict hd dd (by rw [<- rel.length]; rw [sizeLine_eq] at z; omega) ?_
  rw [<- rel.length, rm.length]
  exact ⟨.int _, H, I.tok _, ⟨_, rfl⟩, yg q (.int _)⟩
 | _ => cases he
theorem zgU : CallD X kd (.type "list") lstP := by
 intro pins s σ H xs us Q I r h
 obtain ⟨O, ds, z, ht, vl, he, q⟩ := h
 obtain ⟨x, d, rfl, vx, he⟩ := zdI vl he
 cases vx with
 | lst hr rl => cases he; exact Vl pins s σ H _ us Q I r ⟨_, _, rfl, .inl hr.sq, zaB q rl⟩
 | tup rp hr rl => cases he; exact Vl pins s σ H _ us Q I r ⟨_, _, rfl, .inr hr, zaB q rl⟩
 | _ => cases he
theorem zhk (hc : X.calm = true) : CallD X kd (.builtin "max") znj := by
 intro pins s σ H xs us Q I r h
 obtain ⟨O, ds, z, ht, vl, he, q⟩ := h
 cases vl with
 | nil => cases he
 | cons vx vl =>
  cases vl with
  | nil =>
   obtain ⟨ds, h0, he⟩ := bS_ (show (asL _).bind _ = _ from he)
   cases zdg h0
   obtain ⟨ns, h1, he⟩ := bS_ he
   obtain ⟨c, rfl⟩ := zR he
   cases vx with
   | lst hr rl =>
    obtain ⟨u, rfl, ru⟩ := vals1 r
    cases ru
    obtain ⟨its, rv, p, _⟩ := I.list hr.sq
    rw [zid rl h1] at rv
    have hi := intsAre_of rv
    obtain ⟨ys, e⟩ := hi.allInts.items
    have hns : ns = ys.toList.map (·.1) := by rw [<- hi.numsOf, <- nums_intItems, <- e]
    have hsz : 0 < ys.size := by
     have h3 := c; rw [hns, zD, Array.length_toList] at h3; exact h3
    have hl := p.isList
    rw [e] at hl
    refine max_intList (I.ok.hd hc) hl hsz λ v h' tk hv kp => ?_
    obtain ⟨t, rfl⟩ := intItems_at hv
    obtain ⟨k1, k2⟩ := argBest_gt (numAt ys) (ys.size - 1)
    refine ⟨.int (zna ns), H, I.kept kp, ⟨t, ?_⟩, yg q (.int _)⟩
    congr 1
    refine (zjP ?_ λ a ha => ?_).symm
    · rw [hns, numAt_eq]
      have hlt : argBest (λ i j => decide (numAt ys i > numAt ys j)) (ys.size - 1) < (ys.toList.map (·.1)).length := by rw [zD, Array.length_toList]; omega
      rw [List.getD_eq_getElem?_getD, zzB hlt]
      exact List.getElem_mem hlt
    · rw [hns] at ha
      obtain ⟨j, hj, rfl⟩ := List.getElem_of_mem ha
      have hj' := hj
      rw [zD, Array.length_toList] at hj
      have := k2 j (by omega)
      rw [numAt_eq ys j, List.getD_eq_getElem?_getD, zzB hj'] at this
      exact this
  | cons vy vl =>
   cases vl with
   | nil =>
    obtain ⟨i, j, rfl, rfl, he⟩ := Yb vx vy he
    cases he
    exact zgP hc pins s σ H _ us Q I r ⟨_, _, rfl, yg q (.int _)⟩
   | cons _ _ => cases he
end
def wU (env : Env) : List (Str × NameKind) -> List (Str × Addr) -> List (Str × Addr)
 | [], cs => cs
 | (n, k) :: r, cs => wU env r (if k == .free then ((n, (env.cells.lookup n).getD 0) :: cs) else cs)
theorem WR {scope : Scope} {env : Env} (h : ∀ x ∈ scope.names, x.2 = .free -> ∃ c, env.cells.lookup x.1 = some c) : closureFor scope env = pure (wU env scope.names []) := by
 have go : ∀ (names : List (Str × NameKind)) (cs : List (Str × Addr)) (f : Str × NameKind -> List (Str × Addr) -> Sem (ForInStep (List (Str × Addr)))),
  (∀ name kind cs, f (name, kind) cs = if kind == .free then (do let a <- cellOf env name; pure (.yield ((name, a) :: cs))) else pure (.yield cs)) ->
  (∀ x ∈ names, x.2 = .free -> ∃ c, env.cells.lookup x.1 = some c) -> (forIn names cs f : Sem (List (Str × Addr))) = pure (wU env names cs) := by
  intro names
  induction names with
  | nil => intro cs f _ _; rfl
  | cons x r ih =>
   intro cs f hf hx
   obtain ⟨n, k⟩ := x
   rw [List.forIn_cons, hf]
   unfold wU
   by_cases hk : (k == .free) = true
   · obtain ⟨c, hc⟩ := hx (n, k) zzC (by simpa using hk)
     rw [if_pos hk, if_pos hk]
     have e : cellOf env n = pure c := by unfold cellOf; rw [hc]
     rw [e, hc]
     exact ih _ f hf λ y hy => hx y (zzA _ hy)
   · rw [if_neg hk, if_neg hk]
     exact ih _ f hf λ y hy => hx y (zzA _ hy)
 simp only [closureFor]
 rw [go scope.names [] _ (λ name kind cs => ?_) h]
 · rfl
 · rfl
theorem zcz {env : Env} : ∀ (names : List (Str × NameKind)) (cs : List (Str × Addr)) (p : Str × Addr), p ∈ wU env names cs -> p ∈ cs \/ ((p.1, NameKind.free) ∈ names /\ p.2 = (env.cells.lookup p.1).getD 0)
 | [], _, _, h => .inl h
 | (n, k) :: r, cs, p, h => by
  unfold wU at h
  rcases zcz r _ p h with h | h
  · by_cases hk : (k == .free) = true
    · rw [if_pos hk] at h
      rcases zS.mp h with e | h
      · subst e
        have : k = .free := by simpa using hk
        subst this
        exact .inr ⟨zzC, rfl⟩
      · exact .inl h
    · rw [if_neg hk] at h; exact .inl h
  · exact .inr ⟨zzA _ h.1, h.2⟩
theorem zbr {env : Env} : ∀ (names : List (Str × NameKind)) (cs : List (Str × Addr)) (p : Str × Addr), p ∈ cs -> p ∈ wU env names cs
 | [], _, _, h => h
 | (n, k) :: r, cs, p, h => by
  unfold wU
  refine zbr r _ p ?_
  split
  · exact zzA _ h
  · exact h
theorem zcs {env : Env} : ∀ (names : List (Str × NameKind)) (cs : List (Str × Addr)) (x : Str), (x, NameKind.free) ∈ names -> (x, (env.cells.lookup x).getD 0) ∈ wU env names cs
 | (n, k) :: r, cs, x, h => by
  unfold wU
  rcases zS.mp h with e | h
  · cases e
    exact zbr r _ _ (by simp)
  · exact zcs r _ x h
theorem Z8 {α : Type} {x : Str} {a : α} : ∀ {l : List (Str × α)}, (∀ p ∈ l, p.1 = x -> p.2 = a) -> (∃ b, (x, b) ∈ l) -> l.lookup x = some a
 | [], _, h => by obtain ⟨_, h⟩ := h; cases h
 | (k, v) :: r, u, h => by
  rw [List.lookup_cons]
  cases hb : x == k with
  | true =>
   have := u (k, v) zzC (beq_iff_eq.mp hb).symm
   exact congrArg some this
  | false =>
   refine Z8 (λ p hp => u p (zzA _ hp)) ?_
   obtain ⟨b, h⟩ := h
   rcases zS.mp h with e | h
   · cases e; simp at hb
   · exact ⟨b, h⟩
theorem V7 : ∀ (names : List (Str × NameKind)) (h : Heap) (acc : List (Str × Addr)) (p : Str × Addr), p ∈ cellsFrom h.objs.size names acc ->
 p ∈ acc \/ ((p.1, NameKind.cell) ∈ names /\ (pushCells h names).IsCell p.2 none /\ h.objs.size <= p.2)
 | [], _, _, _, m => .inl m
 | (n, k) :: r, h, acc, p, m => by
  unfold cellsFrom at m
  unfold pushCells
  split at m
  · rename_i hk
    rw [if_pos hk]
    have e : (h.push { cls := .type "cell", data := .cell none }).objs.size = h.objs.size + 1 := Heap.size_push ..
    rw [<- e] at m
    rcases V7 r _ _ p m with m | ⟨m1, m2, m3⟩
    · rcases zS.mp m with e2 | m
      · subst e2
        have : k = .cell := by simpa using hk
        subst this
        refine .inr ⟨zzC, ?_, zzK _⟩
        have z : (h.push { cls := .type "cell", data := .cell none }).IsCell h.objs.size none := ⟨_, Heap.get?_push_size _ rfl, rfl⟩
        exact z.keeps (pushCells_keeps r _)
      · exact .inl m
    · exact .inr ⟨zzA _ m1, m2, by rw [e] at m3; omega⟩
  · rename_i hk
    rw [if_neg hk]
    rcases V7 r h acc p m with m | ⟨m1, m2, m3⟩
    · exact .inl m
    · exact .inr ⟨zzA _ m1, m2, m3⟩
theorem YS : ∀ (names : List (Str × NameKind)) (n : Nat) (acc : List (Str × Addr)) (p : Str × Addr), p ∈ acc -> p ∈ cellsFrom n names acc
 | [], _, _, _, m => m
 | (_, k) :: r, n, acc, p, m => by
  unfold cellsFrom
  split
  · exact YS r _ _ p (zzA _ m)
  · exact YS r _ _ p m
theorem zak : ∀ (names : List (Str × NameKind)) (n : Nat) (acc : List (Str × Addr)) (x : Str), (x, NameKind.cell) ∈ names -> ∃ c, (x, c) ∈ cellsFrom n names acc
 | (y, k) :: r, n, acc, x, m => by
  unfold cellsFrom
  rcases zS.mp m with e | m
  · cases e
    rw [if_pos (by decide)]
    exact ⟨n, YS r _ _ _ zzC⟩
  · split
    · exact zak r _ _ x m
    · exact zak r _ _ x m
theorem zaw : ∀ (names : List (Str × NameKind)) (n : Nat) (acc : List (Str × Addr)), (∀ p ∈ acc, p.2 < n) -> (∀ p ∈ acc, ∀ q ∈ acc, p.2 = q.2 -> p.1 = q.1) -> ∀ p ∈ cellsFrom n names acc, ∀ q ∈ cellsFrom n names acc, p.2 = q.2 -> p.1 = q.1
 | [], _, _, _, h => h
 | (y, k) :: r, n, acc, lt, h => by
  unfold cellsFrom
  split
  · refine zaw r (n + 1) _ (λ p m => ?_) (λ p m q m' e => ?_)
    · rcases zS.mp m with z | m
      · subst z; exact Nat.lt_succ_self _
      · exact Nat.lt_succ_of_lt (lt p m)
    · rcases zS.mp m with z | m
      · rcases zS.mp m' with z' | m'
        · rw [z, z']
        · subst z; have := lt q m'; rw [<- e] at this; exact absurd this (Nat.lt_irrefl _)
      · rcases zS.mp m' with z' | m'
        · subst z'; have := lt p m; rw [e] at this; exact absurd this (Nat.lt_irrefl _)
        · exact h p m q m' e
  · exact zaw r n acc lt h
section
variable {M : Model} {A : Around} {E : Value -> Shared -> Prop} {s : Shared}
def XC (scope : Scope) (env : Env) (cl : List (Str × Addr)) (L : Addr) : Env :=
 { scope := relabel scope env, locals := L, globals := env.globals, cells := cellsFrom (L + 1) scope.names cl, qual := env.qual, func := none, code := env.code, frame := env.frame, builtins := env.builtins }
theorem zdc {scope : Scope} {env : Env} {cl : List (Str × Addr)} {Q : Env -> Shared -> Prop}
 (h : ∀ h' env', { env' with scope := relabel scope env } = XC scope env cl s.heap.objs.size -> env'.locals = s.heap.objs.size -> (∀ b o, s.heap.get? b = some o -> h'.get? b = some o) -> h'.Ns s.heap.objs.size (λ _ => none) ->
  (∀ p ∈ cellsFrom (s.heap.objs.size + 1) scope.names cl, p ∈ cl \/ ((p.1, NameKind.cell) ∈ scope.names /\ h'.IsCell p.2 none /\ s.heap.objs.size + 1 <= p.2)) -> Q env' { s with heap := h' }) :
 wpAny M A (newFunctionEnv scope env.globals cl [] env.qual none .none (some env)) Q E s := by
 simp only [newFunctionEnv, Option.isSome_some, if_true]
 refine wpAny_bind (wpAny_alloc ?_)
 refine wpAny_bind (wpAny_layCells _ (λ name kind cells => by cases hkc : kind == NameKind.cell <;> simp [hkc]) _ _ _ _ ?_)
 have e : (s.heap.push { cls := .type "dict", data := .dict #[] }).objs.size = s.heap.objs.size + 1 := Heap.size_push ..
 refine wpAny_bind (wpAny_pure (wpAny_pure (h _ _ ?_ rfl (λ b o q => pushCells_keeps _ _ b o (Heap.get?_push_of_some _ q)) ((Heap.Ns.new s.heap (.type "dict")).keeps (pushCells_keeps _ _)) λ p m => ?_)))
 · unfold XC
   rw [<- e]
 · rw [<- e] at m
   rcases V7 _ _ _ p m with m | ⟨m1, m2, m3⟩
   · exact .inl m
   · exact .inr ⟨m1, m2, by rw [e] at m3; exact m3⟩
end
abbrev wJ (X : Cx) (N : List Str) (scope : Scope) (cl : List (Str × Addr)) (s : Shared) (H : Hp) (fp : List Addr) : Cx :=
 { X with N := N, s₀ := s, H₀ := H, env := XC scope X.env cl (s.heap.objs.size + 1), outer := X.stack, ex := fp, fn := λ x => scope.names.lookup x == some .cell, pn := [], xe := λ _ _ => False }
def zns (σ : St) : Option Nat -> Option V
 | none => none
 | some j => (σ[j]?).getD none
def vR (cap : List (Option Nat)) (σ : St) : St := cap.map (zns σ)
def Zy (N XN : List Str) (names : List (Str × NameKind)) (envNames : List (Str × NameKind)) (cap : List (Option Nat)) : Bool :=
 N.length == cap.length && (N.zip cap).all (λ p => match p.2 with | none => true | some j => XN[j]? == some p.1 && names.contains (p.1, NameKind.free)) &&
 names.all (λ p => p.2 != .free || envNames.lookup p.1 == some .cell || envNames.lookup p.1 == some .free) && decide (names.map (·.1)).Nodup
def PTs (X : Cx) (ifs : List Expr) (t : TT) : Prop :=
 ∀ (pins : List (Addr × Obj)) (s : Shared) (σ : St) (H : Hp) (Q : Bool -> Hp -> Prop), Inv X pins σ H s -> t σ H Q ->
  wpAny (model X.prog X.w) X.A (forIn ifs true λ c r => if r = true then do let ok <- isTrue c X.env (eval c X.env); pure (ForInStep.yield ok) else pure (ForInStep.yield r)) (TP X pins σ Q) X.xe s
theorem zjC {X : Cx} : PTs X [] (λ _ H Q => Q true H) := λ pins s σ H Q I h => wpAny_tests_nil ⟨H, I, h⟩
theorem zjK {X : Cx} {c : Expr} {t : TT} (h : PT X c t) : PTs X [c] t := λ pins s σ H Q I q => wpAny_tests_one (h pins s σ H Q I q)
def zia (wi : TI) (cap : List (Option Nat)) (g : TG) (tt : TT) (te : TE) : TE := λ σ H Q => wi σ H λ J H1 => ∃ W : Nat -> Nat -> List V -> Hp -> Prop, (∃ m, W 0 m [] H1) /\ ∀ i m ys H, W i m ys H -> ys.length <= sizeLine /\
 ((J.stop i H /\ ∀ p, H p = none -> Q (.ref p) (upd H p (.lst ys))) \/ (J.go i H /\ ∀ x H', J.yld i H x H' -> g x (vR cap σ) H' λ σ2 H2 => (∀ (j : Nat) v, (vR cap σ)[j]? = some (some v) -> σ2[j]? = some (some v)) /\
   tt σ2 H2 λ b H3 => if b = true then ys.length < sizeLine /\ te σ2 H3 λ y H4 => ∃ m', m' < m /\ W (i + 1) m' (ys ++ [y]) H4 else ∃ m', m' < m /\ W (i + 1) m' ys H3))
section
variable {prog : Program} {w : World} {A : Around} {E : Value -> Shared -> Prop} {R : Result -> Shared -> Prop} {s : Shared}
theorem zda {elt target iter : Expr} {ifs : List Expr} {scope : Scope} {pos : Pos} {it acc : Value} {env : Env} (I : Nat -> Shared -> Prop)
 (turn : ∀ n s (E : Value -> Shared -> Prop), I n s -> wpAny (model prog w) A (pyNext it) (λ r s₁ => match r with
  | none => R (.ok .next) s₁
  | some v => wpAny (model prog w) A (letOwnedTupleGo target it v) (λ _ s₁ => wpAny (model prog w) A (assign target env v) (λ _ s₂ =>
   wpAny (model prog w) A (forIn ifs true λ c r => if r = true then do let ok <- isTrue c env (eval c env); pure (ForInStep.yield ok) else pure (ForInStep.yield r)) (λ ok s₃ =>
    if ok = true then wpAny (model prog w) A (eval elt env) (λ x s₄ =>
     wpAny (model prog w) A (call (.builtin "list.append") [acc, x]) (λ _ s₅ => ∃ m, m < n /\ I m s₅) E s₄) E s₃
    else ∃ m, m < n /\ I m s₃) E s₂) E s₁) E s₁) E s)
 (n : Nat) (h : I n s) :
 codeAny (model prog w) A (.compLoop (.ListComp elt [⟨target, iter, ifs, 0⟩] scope pos) 0 it acc env) R s := by
 refine codeAny_loop rfl I (λ n s hI => ?_) n h
 show wpAny _ A ((compTurn (.ListComp elt [⟨target, iter, ifs, 0⟩] scope pos) 0 it acc env).onRaise (λ x => do noteFrame x env; theTreesLotGoes x)) _ _ s
 refine wpAny_noted ?_
 rw [compTurn_list]
 refine wpAny_bind (wpAny_standAt (wpAny_bind (wpAny_mono (turn n s _ hI) (λ r s₁ h₁ => ?_) λ _ _ h' => h')))
 cases r with
 | none => exact wpAny_pure h₁
 | some v =>
  refine wpAny_bind (wpAny_mono h₁ (λ _ s₁ h₁ => ?_) λ _ _ h' => h')
  refine wpAny_bind (wpAny_mono h₁ (λ _ s₂ h₂ => wpAny_bind (wpAny_mono h₂ (λ ok s₃ h₃ => ?_) λ _ _ h' => h')) λ _ _ h' => h')
  cases ok with
  | false => exact wpAny_pure ⟨rfl, h₃⟩
  | true =>
   exact wpAny_bind (wpAny_bind (wpAny_mono h₃ (λ x s₄ h₄ => wpAny_bind (wpAny_mono h₄ (λ _ s₅ h₅ => wpAny_pure (wpAny_pure ⟨rfl, h₅⟩)) λ _ _ h' => h')) λ _ _ h' => h'))
end
structure CapOk (N XN : List Str) (names : List (Str × NameKind)) (envNames : List (Str × NameKind)) (cap : List (Option Nat)) : Prop where
 len : N.length = cap.length
 at_ : ∀ (i : Nat) x (j : Nat), N[i]? = some x -> cap[i]? = some (some j) -> XN[j]? = some x /\ (x, NameKind.free) ∈ names
 fr : ∀ p ∈ names, p.2 = .free -> envNames.lookup p.1 = some .cell \/ envNames.lookup p.1 = some .free
 nd : (names.map (·.1)).Nodup
theorem zex {N XN : List Str} {names envNames : List (Str × NameKind)} {cap : List (Option Nat)} (h : Zy N XN names envNames cap = true) : CapOk N XN names envNames cap := by
 unfold Zy at h
 simp only [Bool.and_eq_true, beq_iff_eq, List.all_eq_true, decide_eq_true_eq] at h
 obtain ⟨⟨⟨h1, h2⟩, h3⟩, h4⟩ := h
 refine ⟨h1, λ i x j e1 e2 => ?_, λ p hp e => ?_, h4⟩
 · have m : (x, some j) ∈ N.zip cap := List.mem_of_getElem? (i := i) (by rw [List.getElem?_zip_eq_some]; exact ⟨e1, e2⟩)
   have := h2 _ m
   simp only [Bool.and_eq_true, beq_iff_eq] at this
   exact ⟨this.1, by simpa using this.2⟩
 · have := h3 p hp
   rw [e] at this
   simpa using this
theorem zdG {names : List (Str × NameKind)} (h : (names.map (·.1)).Nodup) {x : Str} {k k' : NameKind} (m : (x, k) ∈ names) (m' : (x, k') ∈ names) : k = k' := by
 induction names with
 | nil => cases m
 | cons p r ih =>
  obtain ⟨h1, h2⟩ := zzT.mp (show (p.1 :: r.map (·.1)).Nodup from h)
  rcases zS.mp m with e | m
  · rcases zS.mp m' with e' | m'
    · rw [<- e] at e'; cases e'; rfl
    · exact absurd (List.mem_map.mpr ⟨_, m', by rw [<- e]⟩) h1
  · rcases zS.mp m' with e' | m'
    · exact absurd (List.mem_map.mpr ⟨_, m, by rw [<- e']⟩) h1
    · exact ih h2 m m'
theorem zar {names : List (Str × NameKind)} (h : (names.map (·.1)).Nodup) {x : Str} {k : NameKind} (m : (x, k) ∈ names) : names.lookup x = some k :=
 Z8 (λ p hp e => by obtain ⟨y, k'⟩ := p; cases (show y = x from e); exact zdG h hp m) ⟨k, m⟩
theorem XR {env : Env} {scope : Scope} (x : Str) : (relabel scope env).names.lookup x = (scope.names.lookup x).map λ k => if (k == .free && env.scope.kind == .function && env.kindOf x == some .cell) = true then NameKind.cell else k := by
 unfold relabel
 show (scope.names.map _).lookup x = _
 generalize scope.names = names
 induction names with
 | nil => rfl
 | cons p r ih =>
  obtain ⟨n, k⟩ := p
  rw [List.map_cons, List.lookup_cons (k := n) (as := r)]
  cases hb : x == n with
  | true =>
   have e : x = n := beq_iff_eq.mp hb
   subst e
   show List.lookup x ((if (k == NameKind.free && env.scope.kind == .function && env.kindOf x == some .cell) = true then (x, NameKind.cell) else (x, k)) :: _) = _
   show _ = some (if (k == NameKind.free && env.scope.kind == .function && env.kindOf x == some .cell) = true then NameKind.cell else k)
   split
   · rw [List.lookup_cons, hb]
   · rw [List.lookup_cons, hb]
  | false =>
   show List.lookup x ((if (k == NameKind.free && env.scope.kind == .function && env.kindOf n == some .cell) = true then (n, NameKind.cell) else (n, k)) :: _) = _
   split
   · rw [List.lookup_cons, hb]; exact ih
   · rw [List.lookup_cons, hb]; exact ih
theorem zfh {X : Cx} {pins : List (Addr × Obj)} {σ : St} {H : Hp} {s : Shared} {N : List Str} {scope : Scope} {cap : List (Option Nat)} {fp : List Addr} {h' : Heap} (I : Inv X pins σ H s) (C : CapOk N X.N scope.names X.env.scope.names cap) (hk : scope.kind = .function)
 (hf : ∀ b ∈ fp, zcn X pins H b) (ho : ∀ b ∈ fp, ∃ o, s.heap.get? b = some o)
 (old : ∀ b o, s.heap.get? b = some o -> h'.get? b = some o) (ns : h'.Ns (s.heap.objs.size + 1) (λ _ => none))
 (hc : ∀ p ∈ cellsFrom (s.heap.objs.size + 1 + 1) scope.names (wU X.env scope.names []), p ∈ wU X.env scope.names [] \/ ((p.1, NameKind.cell) ∈ scope.names /\ h'.IsCell p.2 none /\ s.heap.objs.size + 1 + 1 <= p.2)) :
 Inv (wJ X N scope (wU X.env scope.names []) s H fp) [] (vR cap σ) H { s with heap := h' } := by
 have has : ∀ x, (x, NameKind.free) ∈ scope.names -> ∃ c, X.env.cells.lookup x = some c := λ x m => I.ok.has x (C.fr _ m rfl)
 have clo : ∀ p ∈ wU X.env scope.names [], X.env.cells.lookup p.1 = some p.2 /\ (p.1, NameKind.free) ∈ scope.names := λ p m => by
  rcases zcz _ _ p m with z | ⟨z1, z2⟩
  · cases z
  · obtain ⟨c, e⟩ := has _ z1
    rw [e] at z2
    exact ⟨by rw [e]; exact congrArg some z2.symm, z1⟩
 have look : ∀ x c, (cellsFrom (s.heap.objs.size + 1 + 1) scope.names (wU X.env scope.names [])).lookup x = some c -> (X.env.cells.lookup x = some c /\ (x, NameKind.free) ∈ scope.names) \/ ((x, NameKind.cell) ∈ scope.names /\ h'.IsCell c none /\ s.heap.objs.size + 1 + 1 <= c) := λ x c e => by
  rcases hc _ (mem_of_lookup e) with m | m
  · exact .inl (clo _ m)
  · exact .inr m
 have lt : ∀ x c, X.env.cells.lookup x = some c -> c < s.heap.objs.size := λ x c e => by obtain ⟨v, z⟩ := I.cell x c e; exact z.lt
 have lookF : ∀ x, (x, NameKind.free) ∈ scope.names -> ∃ c, (cellsFrom (s.heap.objs.size + 1 + 1) scope.names (wU X.env scope.names [])).lookup x = some c /\ X.env.cells.lookup x = some c := λ x m => by
  obtain ⟨c, e⟩ := has x m
  have m1 := YS scope.names (s.heap.objs.size + 1 + 1) _ _ (zcs (env := X.env) scope.names [] x m)
  refine ⟨c, Z8 (λ p hp ep => ?_) ⟨_, m1⟩, e⟩
  rcases hc p hp with z | z
  · have := (clo p z).1
    rw [ep, e] at this
    exact (Option.some.inj this).symm
  · rw [ep] at z
    exact absurd (zdG C.nd z.1 m) (by decide)
 have kinds : ∀ x, ((relabel scope X.env).names.lookup x = some .cell \/ (relabel scope X.env).names.lookup x = some .free) -> (x, NameKind.free) ∈ scope.names \/ (x, NameKind.cell) ∈ scope.names := λ x h => by
  rw [XR] at h
  cases e : scope.names.lookup x with
  | none => rw [e] at h; rcases h with h | h <;> cases h
  | some k =>
   have m := mem_of_lookup e
   cases k with
   | free => exact .inl m
   | cell => exact .inr m
   | _ => rw [e] at h; rcases h with h | h <;> (simp at h)
 have lsz : s.heap.objs.size + 1 < h'.objs.size := ns.lt
 refine ⟨⟨I.ok.mod, hk, I.ok.glob, I.ok.blt, Nat.le_succ _, ?_, ?_, ?_, I.ok.hd, I.ok.frames, .inl rfl, ?_, I.bs, zzL I.ok.bsz I.sz, ?_, ?_, I.stack, I.stkFree⟩, rfl, I.bare, (Un.kept old), ⟨_, ns, ?_⟩, ?_, I.hok.fresh (Nat.le_succ _), ?_, (λ _ z => nomatch z), I.hok.kept old, ?_⟩
 · intro x y c e1 e2
   refine zaw scope.names (s.heap.objs.size + 1 + 1) _ (λ p m => ?_) (λ p m q m' e => ?_) (x, c) (mem_of_lookup e1) (y, c) (mem_of_lookup e2) rfl
   · exact Nat.lt_succ_of_lt (Nat.lt_succ_of_lt (lt _ _ (clo p m).1))
   · refine I.ok.inj _ _ _ (clo p m).1 ?_
     rw [e]; exact (clo q m').1
 · intro x h
   rcases kinds x h with m | m
   · obtain ⟨c, e, _⟩ := lookF x m; exact ⟨c, e⟩
   · obtain ⟨c, e⟩ := zak scope.names (s.heap.objs.size + 1 + 1) (wU X.env scope.names []) x m
     cases q : (cellsFrom (s.heap.objs.size + 1 + 1) scope.names (wU X.env scope.names [])).lookup x with
     | some c' => exact ⟨c', q⟩
     | none =>
      exfalso
      have := List.lookup_eq_none_iff.mp q (x, c) e
      simp at this
 · intro x c hx e
   have hx : (scope.names.lookup x == some .cell) = true := hx
   have m := mem_of_lookup (beq_iff_eq.mp hx)
   rcases look x c e with z | z
   · exact absurd (zdG C.nd z.2 m) (by decide)
   · exact zzL (zzL (Nat.le_succ _) (Nat.le_succ _)) z.2.2
 · intro b hb
   obtain ⟨o, e⟩ := ho b hb
   refine ⟨zzN (Nat.lt_succ_of_lt (Heap.lt_size e)), λ x c ec => ?_⟩
   rcases look x c ec with z | z
   · exact (hf b hb).2.2.2.2.1 x c z.1
   · have := Heap.lt_size e
     intro q; subst q
     exact absurd (zzH this (zzL (zzL (Nat.le_succ _) (Nat.le_succ _)) z.2.2)) (Nat.lt_irrefl _)
 · intro b o e hb
   rcases (hf b hb).2.2.2.1 with z | z
   · exact I.ok.noex b o e z
   · exact absurd (zzH (Heap.lt_size e) (zzL I.ok.bsz z)) (Nat.lt_irrefl _)
 · intro b hb hm
   rcases zS.mp (I.stkSub b hm) with z | z
   · exact (hf b hb).2.1 z
   · exact (hf b hb).2.2.1 z
 · intro i x v e1 e2 e3
   have e2 : (vR cap σ)[i]? = some (some v) := e2
   unfold vR at e2
   rw [zzF] at e2
   cases ec : cap[i]? with
   | none => rw [ec] at e2; cases e2
   | some c =>
    cases c with
    | none => rw [ec] at e2; cases e2
    | some j =>
     rw [ec] at e2
     have e2 : (σ[j]?).getD none = some v := Option.some.inj e2
     obtain ⟨xn, m⟩ := C.at_ i x j e1 ec
     have es : σ[j]? = some (some v) := by
      cases q : σ[j]? with
      | none => rw [q] at e2; cases e2
      | some y => rw [q] at e2; exact congrArg some e2
     have kf := C.fr _ m rfl
     obtain ⟨mm, hn, hl⟩ := I.loc
     obtain ⟨u, r, l⟩ := hl j x v xn es (by rcases kf with k | k; exact .inr (.inl k); exact .inr (.inr k))
     refine ⟨u, r, .inr ⟨?_, ?_⟩⟩
     · show (relabel scope X.env).names.lookup x = some .cell \/ (relabel scope X.env).names.lookup x = some .free
       rw [XR, zar C.nd m]
       show some (if _ then _ else _) = _ \/ some (if _ then _ else _) = _
       split
       · exact .inl rfl
       · exact .inr rfl
     · obtain ⟨c, ec, eo⟩ := lookF x m
       refine ⟨c, ec, ?_⟩
       rcases l with ⟨k1, _⟩ | ⟨_, c2, e4, z⟩
       · have k1 : X.env.scope.names.lookup x = some .local := k1
         rcases kf with k | k <;> (rw [k1] at k; cases k)
       · rw [eo] at e4; cases e4
         exact z.keeps old
 · intro x c e
   rcases look x c e with z | z
   · obtain ⟨v, q⟩ := I.cell x c z.1; exact ⟨v, q.keeps old⟩
   · exact ⟨none, z.2.1⟩
 · intro x c e
   rcases look x c e with z | z
   · exact I.freeC x c z.1
   · exact I.hok.fresh (zzL (zzL (Nat.le_succ _) (Nat.le_succ _)) z.2.2)
 · show (vR cap σ).length = N.length
   unfold vR
   rw [zD, C.len]
abbrev lobj (its : List Value) : Obj := { cls := .type "list", data := .seq its.toArray its.length }
section
variable {X : Cx} {pins : List (Addr × Obj)} {σ : St} {H2 : Hp} {s2 : Shared} {elt tg iter : Expr} {ifs : List Expr} {scope : Scope} {pos : Pos} {N : List Str} {cap : List (Option Nat)} {g : TG} {tt : TT} {te : TE} {wi : TI}
set_option maxHeartbeats 1000000
theorem zbB {J : It} {it : Addr} {fp : List Addr} {tn : Nat -> Heap -> Prop} {Q : VK} {R : Value -> Addr -> Result -> Shared -> Prop} {E : Value -> Shared -> Prop}
 (hc : X.calm = true) (C : CapOk N X.N scope.names X.env.scope.names cap) (hk : scope.kind = .function)
 (hg : ∀ cl s H fp, PG (wJ X N scope cl s H fp) tg g) (ht : ∀ cl s H fp, PTs (wJ X N scope cl s H fp) ifs tt) (he : ∀ cl s H fp, PE (wJ X N scope cl s H fp) elt te)
 (I2 : Inv X pins σ H2 s2) (T : Turn X.prog X.w X.K tg J fp it tn) (st2 : tn 0 s2.heap) (f2 : ∀ b ∈ fp, zcn X pins H2 b)
 (W : Nat -> Nat -> List V -> Hp -> Prop) (m0 : Nat) (w0 : W 0 m0 [] H2)
 (turn : ∀ i m ys H, W i m ys H -> ys.length <= sizeLine /\ ((J.stop i H /\ ∀ p, H p = none -> Q (.ref p) (upd H p (.lst ys))) \/ (J.go i H /\ ∀ x H', J.yld i H x H' -> g x (vR cap σ) H' λ σ2 H2 => (∀ (j : Nat) v, (vR cap σ)[j]? = some (some v) -> σ2[j]? = some (some v)) /\
  tt σ2 H2 λ b H3 => if b = true then ys.length < sizeLine /\ te σ2 H3 λ y H4 => ∃ m', m' < m /\ W (i + 1) m' (ys ++ [y]) H4 else ∃ m', m' < m /\ W (i + 1) m' ys H3)))
 (fin : ∀ ys H3 s1 m, Inv X pins σ (upd H3 s2.heap.objs.size (.lst ys)) s1 -> s1.heap.Ns (s2.heap.objs.size + 1) m -> zcn X pins (upd H3 s2.heap.objs.size (.lst ys)) (s2.heap.objs.size + 1) ->
  Q (.ref s2.heap.objs.size) (upd H3 s2.heap.objs.size (.lst ys)) -> R (.ref s2.heap.objs.size) (s2.heap.objs.size + 1) (.ok .next) s1) :
 wpAny (model X.prog X.w) X.A (newList []) (λ acc s₃ => wpAny (model X.prog X.w) X.A (newFunctionEnv scope X.env.globals (wU X.env scope.names []) [] X.env.qual none .none (some X.env)) (λ cenv s₄ =>
  codeAny (model X.prog X.w) X.A (.compStart (.ListComp elt [⟨tg, iter, ifs, 0⟩] scope pos) 0 (.ref it) acc { cenv with scope := relabel scope X.env }) (R acc cenv.locals) s₄) E s₃) E s2 := by
 refine wpAny_newObj_type (zdc λ h' env' eE eL old hns hcells => ?_)
 have e1 : (s2.heap.push { cls := .type "list", dict := none, data := .seq ([] : List Value).toArray }).objs.size = s2.heap.objs.size + 1 := Heap.size_push ..
 dsimp only at eE eL old hns hcells
 rw [e1] at eE eL hns hcells
 have hD0 : (s2.heap.push { cls := .type "list", dict := none, data := .seq ([] : List Value).toArray }).get? s2.heap.objs.size = some (lobj []) := Heap.get?_push_size _ rfl
 have hD : h'.get? s2.heap.objs.size = some (lobj []) := old _ _ hD0
 have old' : ∀ b o, s2.heap.get? b = some o -> h'.get? b = some o := λ b o q => old b o (Heap.get?_push_of_some _ q)
 have fex : ∀ b ∈ fp, ∃ o, s2.heap.get? b = some o := λ b hb => by obtain ⟨o, e, _⟩ := T.obj _ _ st2 b hb; exact ⟨o, e⟩
 have flt : ∀ b ∈ fp, b < s2.heap.objs.size := λ b hb => by obtain ⟨o, e⟩ := fex b hb; exact Heap.lt_size e
 have I' := zfh I2 C hk f2 fex old' hns hcells
 rw [eE, eL]
 generalize hX : wJ X N scope (wU X.env scope.names []) s2 H2 fp = X' at I'
 have xP : X'.prog = X.prog := by rw [<- hX]
 have xw : X'.w = X.w := by rw [<- hX]
 have xK : X'.K = X.K := by rw [<- hX]
 have xA : X'.A = X.A := by rw [<- hX]
 have xe : X'.env = XC scope X.env (wU X.env scope.names []) (s2.heap.objs.size + 1) := by rw [<- hX]
 have xL : X'.env.locals = s2.heap.objs.size + 1 := by rw [xe]; rfl
 have xfs : X'.fs = frs X.stack := by rw [<- hX]
 have xex : X'.ex = fp := by rw [<- hX]
 have xs : X'.s₀ = s2 := by rw [<- hX]
 have xH : X'.H₀ = H2 := by rw [<- hX]
 have xpn : X'.pn = [] := by rw [<- hX]
 have xc : X'.calm = true := by rw [<- hX]; exact hc
 have xE : X'.xe = λ _ _ => False := by rw [<- hX]
 have hg' : PG X' tg g := by rw [<- hX]; exact hg _ _ _ _
 have ht' : PTs X' ifs tt := by rw [<- hX]; exact ht _ _ _ _
 have he' : PE X' elt te := by rw [<- hX]; exact he _ _ _ _
 have H2D : H2 s2.heap.objs.size = none := I2.hok.fresh (zzK _)
 have Dfs : s2.heap.objs.size ∉ X'.fs := by
  rw [xfs]
  intro hm
  rcases zS.mp (I2.stkSub _ hm) with z | z
  · exact absurd I2.lt (by rw [<- z]; exact Nat.lt_irrefl _)
  · exact I2.nofs (zzK _) z
 have DL : s2.heap.objs.size ≠ X'.env.locals := by rw [xL]; exact zzN (Nat.lt_succ_self _)
 have pinD : ∀ {σ' : St} {H' : Hp} {s' : Shared} {its : List Value} {ps : List (Addr × Obj)}, Inv X' ps σ' H' s' -> s'.heap.get? s2.heap.objs.size = some (lobj its) -> H' s2.heap.objs.size = none -> Inv X' [(s2.heap.objs.size, lobj its)] σ' H' s' := λ I e n =>
  I.pins_of λ p hp => by
   cases zzO.mp hp
   exact ⟨e, n, DL, Dfs, λ v z => by cases z⟩
 have stat : ∀ {H' : Hp} {its : List Value}, (∀ b ∈ fp, H' b = none) -> ∀ b ∈ fp, zcn X' [(s2.heap.objs.size, lobj its)] H' b := λ hn b hb => by
  refine ⟨hn b hb, ?_, ?_, .inl (by rw [xex]; exact hb), (I'.ok.exf b (by rw [xex]; exact hb)).2, λ p hp => ?_⟩
  · exact (I'.ok.exf b (by rw [xex]; exact hb)).1
  · exact I'.ok.exfs b (by rw [xex]; exact hb)
  · rw [xpn, List.nil_append] at hp
    cases zzO.mp hp
    exact Nat.ne_of_gt (flt b hb)
 have loop : ∀ (n : Nat) (s' : Shared), (∃ i ys its H3, Inv X' [(s2.heap.objs.size, lobj its)] (vR cap σ) H3 s' /\ tn i s'.heap /\ (∀ b ∈ fp, H3 b = none) /\ Vals ys its /\ W i n ys H3) ->
  codeAny (model X.prog X.w) X.A (.compLoop (.ListComp elt [⟨tg, iter, ifs, 0⟩] scope pos) 0 (.ref it) (.ref s2.heap.objs.size) (XC scope X.env (wU X.env scope.names []) (s2.heap.objs.size + 1)))
   (R (.ref s2.heap.objs.size) (s2.heap.objs.size + 1)) s' := by
  intro n s' h0
  refine zda (λ n s' => ∃ i ys its H3, Inv X' [(s2.heap.objs.size, lobj its)] (vR cap σ) H3 s' /\ tn i s'.heap /\ (∀ b ∈ fp, H3 b = none) /\ Vals ys its /\ W i n ys H3) ?_ n h0
  clear h0 n s'
  rintro n s3 E' ⟨i, ys, its, H3, I3, st3, fr3, rv3, w3⟩
  obtain ⟨hz, hstep⟩ := turn i n ys H3 w3
  rcases hstep with ⟨stop, qn⟩ | ⟨go, step⟩
  · have := T.done X' xP xw xK xc i _ s3 _ H3 E' I3 (stat fr3) st3 stop
    rw [xA] at this
    refine wpAny_mono this (λ r s4 ⟨hr, I4⟩ => ?_) λ _ _ z => z
    subst hr
    obtain ⟨gD, nD, _⟩ := I4.pin (s2.heap.objs.size, lobj its) (by rw [xpn]; simp)
    obtain ⟨m, hn, _⟩ := I4.loc
    rw [xL] at hn
    have b4 := I4.base
    rw [xfs, xex, xH, xs] at b4
    have nL : H3 (s2.heap.objs.size + 1) = none := by have := I4.free; rw [xL] at this; exact this
    have neD : ∀ b o, s2.heap.get? b = some o -> b ≠ s2.heap.objs.size := λ b o e => zzN (Heap.lt_size e)
    have neH : ∀ b u, H2 b = some u -> b ≠ s2.heap.objs.size := λ b u e z => by rw [z, H2D] at e; cases e
    have ne3 : ∀ b u, H3 b = some u -> b ≠ s2.heap.objs.size := λ b u e z => by rw [z, nD] at e; cases e
    have hok4 := I4.hok
    rw [xP, xw] at hok4
    refine fin ys H3 s4 m (I2.call' (ch := fp) ?_ ⟨b4.keep, b4.slot, λ b o e n hx => ?_, b4.there, λ b xs e => ?_, λ b o u e => ?_, λ b ps e => ?_⟩ ?_ I4.bare λ b hb => ?_) hn (I2.fpOk (Nat.le_succ _) (by rw [zX (Nat.ne_of_gt (Nat.lt_succ_self _))]; exact nL)) (qn _ nD)
    · have := I4.os; rw [xs] at this; exact this
    · rw [zX (neD b o e)]; exact b4.free b o e n hx
    · rw [zX (neH b _ e)]; exact b4.tups b xs e
    · rw [zX (neH b _ e)]; exact b4.frzs b o u e
    · rw [zX (neH b _ e)]; exact b4.tbls b ps e
    · intro b u e
      by_cases hb : b = s2.heap.objs.size
      · subst hb
        rw [yz] at e
        cases e
        exact ⟨hz, its, its.length, rv3, gD⟩
      · rw [zX hb] at e
        exact (hok4 b u e).stay (λ c v _ q => q) (λ c q => by rw [zX (ne3 c _ q)]; exact q) λ c xs q => by rw [zX (ne3 c _ q)]; exact q
    · obtain ⟨f0, f1, f3, f4, f5, f6⟩ := f2 b hb
      exact ⟨f4, f1, f5, f6⟩
  · have := T.item X' xP xw xK xc i _ s3 _ H3 E' I3 (stat fr3) st3 go
    rw [xA] at this
    refine wpAny_mono this (λ r s4 ⟨u, hr, h4⟩ => ?_) λ _ _ z => z
    subst hr
    refine wpAny_mono h4 (λ _ s5 ⟨x, H5, I5, r5, y5, st5, fr5⟩ => ?_) λ _ _ z => z
    have I5' := I5.pinned (stat fr5) (T.obj _ _ st5)
    have h6 := hg' _ s5 _ H5 x u _ I5' r5 (step x H5 y5)
    rw [xP, xw, xA, xe, xE] at h6
    refine wpAny_mono h6 (λ _ s6 ⟨σ6, H6, I6, cap6, q6⟩ => ?_) λ _ _ z => z.elim
    have h7 := ht' _ s6 σ6 H6 _ I6 q6
    rw [xP, xw, xA, xe, xE] at h7
    refine wpAny_mono h7 (λ b s7 ⟨H7, I7, q7⟩ => ?_) λ _ _ z => z.elim
    have keep : ∀ {H8 : Hp} {s8 : Shared}, Inv X' ([(s2.heap.objs.size, lobj its)] ++ zbM fp s5.heap) σ6 H8 s8 -> Inv X' [(s2.heap.objs.size, lobj its)] (vR cap σ) H8 s8 /\ tn (i + 1) s8.heap /\ ∀ b ∈ fp, H8 b = none := λ {H8 s8} I8 => by
     refine ⟨I8.unpinned.weak ?_ cap6, T.keep _ _ _ st5 λ b hb o e => (I8.pin (b, o) (zzI _ (zzI _ (YL hb e)))).1, λ b hb => ?_⟩
     · rw [I3.len]; exact I8.len.symm
     · obtain ⟨o, e, d⟩ := T.obj _ _ st5 b hb
       exact (I8.pin (b, o) (zzI _ (zzI _ (YL hb e)))).2.1
    cases b with
    | false =>
     obtain ⟨m', hm, w7⟩ := q7
     obtain ⟨k1, k2, k3⟩ := keep I7
     exact ⟨m', hm, i + 1, ys, its, H7, k1, k2, k3, rv3, w7⟩
    | true =>
     obtain ⟨hz2, q7⟩ := q7
     have h8 := he' _ s7 σ6 H7 _ I7 q7
     rw [xP, xw, xA, xe, xE] at h8
     show wpAny _ _ _ _ _ _
     refine wpAny_mono h8 (λ yv s8 ⟨y, H8, I8, ry, m', hm, w8⟩ => ?_) λ _ _ z => z.elim
     obtain ⟨k1, k2, k3⟩ := keep I8
     obtain ⟨gD, nD, _⟩ := k1.pin (s2.heap.objs.size, lobj its) (by rw [xpn]; simp)
     have hl := rv3.length
     refine append_at gD (λ h9 sb gD9 => ?_) (by rw [zzE]; omega)
     have I9 : Inv X' [] (vR cap σ) H8 { s8 with heap := h9 } := (k1.pins_of (pins' := []) (λ _ z => nomatch z)).turned (t' := s8.toks) (it := s2.heap.objs.size) (λ b o hb e => (sb.2 b hb).trans e) nD DL (.inr (by rw [xs]; exact zzK _)) (λ x c ec z => by
      obtain ⟨v, o, ho, hd⟩ := k1.cell x c ec
      rw [z, gD] at ho
      cases ho
      cases hd) (λ p hp => by rw [xpn] at hp; cases hp)
     have gD9' : h9.get? s2.heap.objs.size = some (lobj (its ++ [yv])) := by
      rw [gD9]
      congr 1
      show ({ cls := .type "list", data := .seq (its.toArray.push yv) (its.length + 1) } : Obj) = { cls := .type "list", data := .seq (its ++ [yv]).toArray (its ++ [yv]).length }
      rw [zzG, List.length_singleton, List.push_toArray]
     refine ⟨m', hm, i + 1, ys ++ [y], its ++ [yv], H8, pinD I9 gD9' nD, T.keep _ _ _ k2 λ b hb o e => (sb.2 b (zzN (flt b hb))).trans e, k3, rv3.append (.cons ry .nil), w8⟩
 have start : ∃ i ys its H3, Inv X' [(s2.heap.objs.size, lobj its)] (vR cap σ) H3 { s2 with heap := h' } /\ tn i h' /\ (∀ b ∈ fp, H3 b = none) /\ Vals ys its /\ W i m0 ys H3 :=
  ⟨0, [], [], H2, pinD I' hD H2D, T.keep _ _ _ st2 λ b hb o e => old' b o e, λ b hb => (f2 b hb).1, .nil, w0⟩
 exact codeAny_compStart_list (loop m0 _ start) (T.self _ 0 _ _ _ (T.keep _ _ _ st2 λ b hb o e => old' b o e) (loop m0 _ start))
theorem zkA (hc : X.calm = true) (hi : PI X tg iter wi) (hk : scope.kind = .function) (hcap : Zy N X.N scope.names X.env.scope.names cap = true)
 (hg : ∀ cl s H fp, PG (wJ X N scope cl s H fp) tg g) (ht : ∀ cl s H fp, PTs (wJ X N scope cl s H fp) ifs tt) (he : ∀ cl s H fp, PE (wJ X N scope cl s H fp) elt te)
 (hs : ∀ x, foldedSetIterable iter X.env x = pure x) : PE X (.ListComp elt [⟨tg, iter, ifs, 0⟩] scope pos) (zia wi cap g tt te) := by
 intro pins s σ H Q I h
 have C := zex hcap
 rw [eval_ListComp]
 refine wpAny_comprehension_free (use := none) rfl hs (WR λ x m e => I.ok.has x.1 (C.fr x m e)) hk (λ y m e => zar C.nd (by rw [<- e]; exact m)) ?_
 refine thn (hi pins s σ H _ I h) λ v s1 h1 => thn h1 λ itv s2 h2 => ?_
 obtain ⟨it, fp, tn, J, H2, e, I2, T, st2, f2, W, ⟨m0, w0⟩, turn⟩ := h2
 subst e
 refine zbB (R := λ acc C r s' => compPost (model X.prog X.w) X.A X.xe none (EP X pins σ Q) acc C r s') hc C hk hg ht he I2 T st2 f2 W m0 w0 turn λ ys H3 s3 m I3 hn fl q => ?_
 refine ⟨m, hn, λ h' sb => ?_⟩
 obtain ⟨f0, f1, f3, f4, f5, f6⟩ := fl
 exact ⟨.ref s2.heap.objs.size, _, I3.turned (t' := s3.toks) (λ b o hb e => (sb.2 b hb).trans e) f0 f1 f4 f5 f6, rfl, q⟩
theorem zkf {i : Nat} {y : Str} {py spos : Pos} (hN : X.N.Nodup) (hiy : X.N[i]? = some y) (hy : Loc X.env.scope y) (hf : X.fn y = true \/ X.env.scope.names.lookup y = some .local)
 (hsw : swapsWith (.ListComp elt [⟨tg, iter, ifs, 0⟩] scope pos) (some (.Name y py)) spos.line X.env = pure true)
 (hc : X.calm = true) (hi : PI X tg iter wi) (hk : scope.kind = .function) (hcap : Zy N X.N scope.names X.env.scope.names cap = true)
 (hg : ∀ cl s H fp, PG (wJ X N scope cl s H fp) tg g) (ht : ∀ cl s H fp, PTs (wJ X N scope cl s H fp) ifs tt) (he : ∀ cl s H fp, PE (wJ X N scope cl s H fp) elt te)
 (hs : ∀ x, foldedSetIterable iter X.env x = pure x) : PS X (.Assign [.Name y py] (.ListComp elt [⟨tg, iter, ifs, 0⟩] scope pos) spos) (zmr (zia wi cap g tt te) (zdX i)) := by
 intro pins s σ H D I h
 have C := zex hcap
 rw [exec_Assign_Name_used _ _ _ _ hsw]
 refine wpAny_bind (wpAny_standAt (wpAny_bind ?_))
 show wpAny _ X.A (do let _ <- comprehension (.ListComp elt [⟨tg, iter, ifs, 0⟩] scope pos) scope X.env _ (newList []) false (eval iter X.env) (some (assign (.Name y py) X.env))) _ _ s
 refine wpAny_bind (wpAny_mono (wpAny_comprehension_free (use := some (assign (.Name y py) X.env)) (Q := λ _ s' => SP X pins D .next s') rfl hs (WR λ x m e => I.ok.has x.1 (C.fr x m e)) hk (λ y m e => zar C.nd (by rw [<- e]; exact m)) ?_) (λ _ s' hq => wpAny_pure (wpAny_pure hq)) λ _ _ e => e)
 refine thn (hi pins s σ H _ I h) λ v s1 h1 => thn h1 λ itv s2 h2 => ?_
 obtain ⟨it, fp, tn, J, H2, e, I2, T, st2, f2, W, ⟨m0, w0⟩, turn⟩ := h2
 subst e
 refine zbB (Q := λ x H1 => zdX i x σ H1 D.nx) (R := λ acc C r s' => compPost (model X.prog X.w) X.A X.xe (some (assign (.Name y py) X.env)) (λ _ s' => SP X pins D .next s') acc C r s') hc C hk hg ht he I2 T st2 f2 W m0 w0 turn λ ys H3 s3 m I3 hn fl q => ?_
 obtain ⟨f0, f1, f3, f4, f5, f6⟩ := fl
 refine wpAny_assign_Name (zcy I3 hN hiy hy (v := .ref s2.heap.objs.size) rfl (λ s4 I4 ⟨a, sb, ha⟩ => ?_) hf)
 refine ⟨m, hn.sameBut sb (λ z => ?_), λ h' sb' => ?_⟩
 · rcases ha with ha | ha
   · exact f1 (z.trans ha)
   · exact f5 y a ha z.symm
 · exact ⟨_, _, I4.turned (t' := s4.toks) (λ b o hb e => (sb'.2 b hb).trans e) f0 f1 f4 f5 f6, q⟩
end
structure ItC (K : zC) (kd : KD) (F : Addr -> Prop) (H : Hp) (J : It) (ds : List It1) : Prop where
 all : ∀ (H2 : Hp) (T : Addr -> Prop), (∀ b u, H b = some u -> H2 b = some u) -> (∀ a, T a -> H a = none /\ H2 a ≠ none) -> ∀ i, (i < ds.length -> J.go i H2) /\ (ds.length <= i -> J.stop i H2) /\
  ∀ v H3, J.yld i H2 v H3 -> (∀ b o, H2 b = some o -> H3 b = some o) /\ ∀ x, ds[i]? = some x -> Rp K kd (λ a => x.1 = true /\ (F a \/ T a)) H3 v x.2
def alC (K : zC) (kd : KD) (f : IF) : TI := λ σ H R => ∃ F B ad as ds as', Rel K kd F B [] ad as σ H /\ f as = some (ds, as') /\
 ∀ J ad' H', Rel K kd F B [] ad' as' σ H' -> Grow (Gw [] ad) H (Gw [] ad') H' -> ItC K kd (Lv F B (Gw [] ad') true) H' J ds -> R J H'
@[irreducible] def AIc (X : Cx) (kd : KD) (tg iter : Expr) (f : IF) : Prop := PI X tg iter (alC X.K kd f)
def zas (os : List O) : List It1 := os.map λ o => match o with | .lf st d => (st, d) | o => (false, o.toD)
def zoW (as : AS) : RV -> Option (List It1)
 | .ow o => zeo (o.str, o.toD)
 | .bo i => match as[i]? with
  | some (some (.nd .ls os)) => some (zas os)
  | some (some (.nd .tp os)) => some (zas os)
  | _ => none
def Wx (f : EF) : IF := λ as => (f as).bind λ p => (zoW p.2 p.1).bind λ ds => some (ds, p.2)
section
variable {K : zC} {kd : KD} {F B : Addr -> Prop} {G : Addr -> Prop} {T : List Addr} {ad : Ad} {as : AS} {σ : St} {H H' : Hp}
inductive RpC (K : zC) (kd : KD) (F : Addr -> Prop) (H : Hp) : List V -> List It1 -> Prop
 | nil : RpC K kd F H [] []
 | cons {v : V} {x : It1} {vs : List V} {ds : List It1} : Rp K kd (λ a => x.1 = true /\ F a) H v x.2 -> RpC K kd F H vs ds -> RpC K kd F H (v :: vs) (x :: ds)
theorem RpC.length {vs : List V} {ds : List It1} (h : RpC K kd F H vs ds) : vs.length = ds.length := by
 induction h with
 | nil => rfl
 | cons _ _ ih => exact congrArg (· + 1) ih
theorem RpC.get {vs : List V} {ds : List It1} {i : Nat} {x : It1} (h : RpC K kd F H vs ds) (e : ds[i]? = some x) : ∃ v, vs[i]? = some v /\ Rp K kd (λ a => x.1 = true /\ F a) H v x.2 := by
 induction h generalizing i with
 | nil => simp at e
 | cons h r ih =>
  cases i with
  | zero => simp at e; subst e; exact ⟨_, rfl, h⟩
  | succ i =>
   obtain ⟨v, h1, h2⟩ := ih (i := i) (by simpa using e)
   exact ⟨v, by simpa using h1, h2⟩
theorem Rp.since {Ob : Addr -> Prop} {v : V} {d : D} {T : Addr -> Prop} (k : ∀ b u, H b = some u -> H' b = some u) (hT : ∀ a, T a -> H a = none) (h : Rp K kd Ob H v d) : Rp K kd (Un2 Ob T) H' v d :=
 Rp.grow (F := Ob) (W := λ _ => False) (W' := T) (H' := H') ⟨λ b u q _ => k b u q, λ b z => .inr (hT b z)⟩ (h.less λ a z => z.elim id False.elim)
theorem zbR {st : Bool} {vs : List V} {ds : List D} (h : RpL K kd (Lv F B G st) H vs ds) : RpC K kd (Lv F B G true) H vs (kids st ds) :=
 RpL.ind (P := λ vs ds => RpC K kd (Lv F B G true) H vs (kids st ds)) .nil (λ {v d vs ds} h _ ih => by
  refine .cons (x := (zL d || st, d)) ?_ ih
  cases e : zL d with
  | true => exact h.flat e
  | false =>
   refine h.less λ a z => ?_
   have zs : st = true := z.1
   rw [zs]; exact z.2) h
theorem zlc {vs : List V} {os : List O} {fp : List Addr} (h : v5 K kd F B G H vs os fp) : RpC K kd (Lv F B G true) H vs (zas os) :=
 RoL.ind (P := λ vs os _ => RpC K kd (Lv F B G true) H vs (zas os)) .nil (λ {v o vs os fp fq} h _ ih => by
  have ha := zdu h
  refine .cons ?_ ih
  cases h with
  | lf rp => exact rp.less λ a z => (by have zs := z.1; dsimp only at zs; rw [zs]; exact z.2)
  | ls => exact ha.less λ a z => nomatch z.1
  | dc => exact ha.less λ a z => nomatch z.1
  | ob => exact ha.less λ a z => nomatch z.1
  | dt => exact ha.less λ a z => nomatch z.1
  | tp => exact ha.less λ a z => nomatch z.1) h
theorem zbD {a : Addr} {vs : List V} {ds : List It1} (h : SqL K H a vs) (r : RpC K kd F H vs ds) : ItC K kd F H (Itl K a) ds := ⟨λ H3 T k hT i => by
 have hr3 : SqL K H3 a vs := by
  rcases h with (h | ⟨o, h⟩) | h
  · exact .inl (.inl (k _ _ h))
  · exact .inl (.inr ⟨o, k _ _ h⟩)
  · exact .inr h
 refine ⟨λ hi => ?_, λ hi => ⟨_, hr3, by rw [r.length]; exact hi⟩, λ v H4 hy => ?_⟩
 · obtain ⟨u, hu, _⟩ := r.get (zzB hi)
   exact ⟨_, u, hr3, hu⟩
 · obtain ⟨rfl, hv⟩ := hy
   refine ⟨λ _ _ z => z, λ d hd => ?_⟩
   obtain ⟨u, hu, ru⟩ := r.get hd
   have := hv _ hr3
   rw [hu] at this
   cases this
   exact (ru.since k λ a z => (hT a z).1).less λ a z => z.2.elim (λ y => .inl ⟨z.1, y⟩) .inr⟩
theorem zgm {a : Addr} {vs : List V} {ds : List It1} (h : SqT K H a vs) (r : RpC K kd F H vs ds) : ItC K kd F H (Itt K a) ds := ⟨λ H3 T k hT i => by
 have hr3 : SqT K H3 a vs := by
  rcases h with (h | ⟨o, h⟩) | h
  · exact .inl (.inl (k _ _ h))
  · exact .inl (.inr ⟨o, k _ _ h⟩)
  · exact .inr h
 refine ⟨λ hi => ?_, λ hi => ⟨_, hr3, by rw [r.length]; exact hi⟩, λ v H4 hy => ?_⟩
 · obtain ⟨u, hu, _⟩ := r.get (zzB hi)
   exact ⟨_, u, hr3, hu⟩
 · obtain ⟨rfl, hv⟩ := hy
   refine ⟨λ _ _ z => z, λ d hd => ?_⟩
   obtain ⟨u, hu, ru⟩ := r.get hd
   have := hv _ hr3
   rw [hu] at this
   cases this
   exact (ru.since k λ a z => (hT a z).1).less λ a z => z.2.elim (λ y => .inl ⟨z.1, y⟩) .inr⟩
theorem zkS (lo : Int) (n : Nat) : ItC K kd F H (Itr lo n) (yL lo n) := ⟨λ H2 T k hT i => by
 have hl : (yL lo n).length = n := by unfold yL; simp
 refine ⟨λ hi => by rw [hl] at hi; exact hi, λ hi => by rw [hl] at hi; exact hi, λ v H3 hy => ?_⟩
 obtain ⟨rfl, rfl⟩ := hy
 refine ⟨λ _ _ z => z, λ d hd => ?_⟩
 have hi : i < n := by rw [<- hl]; exact (zzD.mp hd).1
 unfold yL at hd
 rw [zzF, List.getElem?_range hi] at hd
 cases hd
 exact .int _⟩
end
theorem zaq {X : Cx} {kd : KD} {tg e : Expr} {fa : EF} (he : AE X kd e fa) : AIc X kd tg e (Wx fa) := by
 with_unfolding_all (
 intro pins s σ H R I h
 obtain ⟨F, B, ad, as, ds, as', Rl, e, q⟩ := h
 obtain ⟨⟨p, as1⟩, h1, e⟩ := bS_ (show (fa as).bind _ = _ from e)
 obtain ⟨ys, h2, e⟩ := bS_ e
 cases e
 cases p with
 | ow o =>
  have h2 : zeo (o.str, o.toD) = some ds := h2
  generalize hd : o.toD = d at h2
  cases d with
  | lst xs =>
   cases h2
   refine zcX he pins s σ H R I ⟨F, B, ad, as, _, as1, Rl, h1, λ v T1 ad1 H1 R1 rv1 g1 => ?_⟩
   have rp := zfH R1 rv1
   rw [hd] at rp
   cases rp with
   | lst hn hr rl => exact ⟨_, rfl, ⟨_, .inl hr⟩, q _ ad1 H1 R1.drop (g1.trans (Grow.less Gw.drop)) (zbD (.inl hr) (zbR rl))⟩
   | lstK a b c rl => exact ⟨_, rfl, ⟨_, .inr ⟨_, _, _, a, rfl, rfl, rfl, b, c⟩⟩, q _ ad1 H1 R1.drop (g1.trans (Grow.less Gw.drop)) (zbD (.inr ⟨_, _, _, a, rfl, rfl, rfl, b, c⟩) (zbR rl))⟩
  | tup xs =>
   cases h2
   refine zfg he pins s σ H R I ⟨F, B, ad, as, _, as1, Rl, h1, λ v T1 ad1 H1 R1 rv1 g1 => ?_⟩
   have rp := zfH R1 rv1
   rw [hd] at rp
   have go : ∃ a ys, v = .ref a /\ SqT X.K H1 a ys /\ RpL X.K kd (Lv F B (Gw [] ad1) o.str) H1 ys xs := by
    cases rp with
    | tup n h r => exact ⟨_, _, rfl, .inl (.inl h), r⟩
   obtain ⟨a, ys, rfl, hs, rl⟩ := go
   exact ⟨_, rfl, ⟨_, hs⟩, q _ ad1 H1 R1.drop (g1.trans (Grow.less Gw.drop)) (zgm hs (zbR rl))⟩
  | _ => cases h2
 | bo i =>
  have h2 : (match as1[i]? with | some (some (.nd .ls os)) => some (zas os) | some (some (.nd .tp os)) => some (zas os) | _ => none) = some ds := h2
  cases k : as1[i]? with
  | none => rw [k] at h2; cases h2
  | some s0 =>
   rw [k] at h2
   match s0, h2, k with
   | some (.nd .ls os), h2, k =>
    cases h2
    refine zcX he pins s σ H R I ⟨F, B, ad, as, _, as1, Rl, h1, λ v T1 ad1 H1 R1 rv1 g1 => ?_⟩
    obtain ⟨rfl, hs⟩ := rv1
    obtain ⟨w, hw, ro⟩ := R1.sl i _ k
    rw [hs] at hw
    cases hw
    generalize hfp : ad1 i = fp at ro
    cases ro with
    | ls hH rl => exact ⟨_, rfl, ⟨_, .inl (.inl hH)⟩, q _ ad1 H1 R1 g1 (zbD (.inl (.inl hH)) (zlc rl))⟩
   | some (.nd .tp os), h2, k =>
    cases h2
    refine zfg he pins s σ H R I ⟨F, B, ad, as, _, as1, Rl, h1, λ v T1 ad1 H1 R1 rv1 g1 => ?_⟩
    obtain ⟨rfl, hs⟩ := rv1
    obtain ⟨w, hw, ro⟩ := R1.sl i _ k
    rw [hs] at hw
    cases hw
    generalize hfp : ad1 i = fp at ro
    cases ro with
    | tp n hH rl => exact ⟨_, rfl, ⟨_, .inl (.inl hH)⟩, q _ ad1 H1 R1 g1 (zgm (.inl (.inl hH)) (zlc rl))⟩)
theorem v6 {X : Cx} {kd : KD} {tg a : Expr} {pos : Pos} {fr : AF} {p : Pos} (hg : Gl X "range") (hm : X.mg "range" = none) (ha : AA X kd [a] fr) (hs : starEach [a] X.env = [(false, eval a X.env)]) : AIc X kd tg (.Call (.Name "range" p) [a] [] pos) (ym fr yw) := by
 with_unfolding_all (
 intro pins s σ H R I h
 obtain ⟨F, B, ad, as, ds, as', Rl, e, q⟩ := h
 obtain ⟨⟨ps, as1⟩, h1, e⟩ := bS_ (show (fr as).bind _ = _ from e)
 obtain ⟨⟨xs, lv⟩, h2, e⟩ := bS_ e
 obtain ⟨ys, h3, e⟩ := bS_ e
 cases e
 obtain ⟨j, rfl, h3⟩ := zfN h3
 · obtain ⟨hj, e3⟩ := zR h3
   cases e3
   refine zcw hg hm ha hs pins s σ H R I ⟨F, B, ad, as, ps, _, Rl, h1, λ vs ad1 H1 R1 rv1 g1 => ?_⟩
   have vl := Wn R1 rv1 h2
   cases vl with
   | cons v1 v2 =>
    cases v2
    cases v1
    exact ⟨j, rfl, hj.1, hj.2, q _ ad1 H1 R1 g1 (zkS 0 _)⟩)
def zon (as : AS) : Option Nat -> Option O
 | none => none
 | some j => match as[j]? with
  | some (some (.lf st d)) => some (.lf st d)
  | some (some o) => some (.lf false o.toD)
  | _ => none
def Z4 (cap : List (Option Nat)) (as : AS) : AS := cap.map (zon as)
def xF (g : GF) (tt : TF) (fe : EF) (as0 : AS) : List It1 -> Option (List O)
 | [] => some []
 | x :: r => (g x as0).bind λ as1 => (tt as1).bind λ b => if b.1 = true then (fe b.2).bind λ p => (toO p.2 p.1).bind λ q => if q.1.str = true then (xF g tt fe as0 r).bind λ os => some (q.1 :: os) else none
  else xF g tt fe as0 r
def yE (fi : IF) (cap : List (Option Nat)) (g : GF) (tt : TF) (fe : EF) : EF := λ as => (fi as).bind λ p => if p.1.length <= sizeLine then (xF g tt fe (Z4 cap p.2) p.1).bind λ os => some (.ow (.nd .ls os), p.2) else none
def wk : TF := λ as => some (true, as)
section
variable {K : zC} {kd : KD} {F B : Addr -> Prop} {T : List Addr} {ad : Ad} {as : AS} {σ : St} {H H' : Hp} {cap : List (Option Nat)}
theorem zkk (R : Rel K kd F B [] ad as σ H) (k : ∀ b u, H b = some u -> H' b = some u) (hT : ∀ a ∈ T, H a = none) (hT' : ∀ a ∈ T, H' a ≠ none) :
 Rel K kd (Un2 (Lv F B (Gw [] ad) true) (· ∈ T)) (λ _ => False) [] (λ _ => []) (Z4 cap as) (vR cap σ) H' := by
 have no : ∀ a, ¬ Gw [] (λ _ => []) a := λ a z => z.elim (λ y => nomatch y) λ ⟨_, y⟩ => nomatch y
 have kn : ∀ a, H a ≠ none -> H' a ≠ none := λ a z => by
  cases e : H a with
  | none => exact absurd e z
  | some u => rw [k a u e]; simp
 have up : ∀ {st : Bool} {v : V} {d : D}, Rp K kd (λ a => st = true /\ Lv F B (Gw [] ad) true a) H v d -> Rp K kd (Lv (Un2 (Lv F B (Gw [] ad) true) (· ∈ T)) (λ _ => False) (Gw [] λ _ => []) st) H' v d := λ {st v d} h => by
  have := Rp.grow (F := λ a => st = true /\ Lv F B (Gw [] ad) true a) (W := λ _ => False) (W' := (· ∈ T)) (H' := H') ⟨λ b u q _ => k b u q, λ b z => .inr (hT b z)⟩ (h.less λ a z => z.elim id False.elim)
  refine this.less λ a z => ?_
  rcases z with (⟨z1, z2⟩ | z) | z
  · rcases z2 with z2 | z2
    · exact .inl ⟨z1, z2⟩
    · exact .inr z2
  · exact z.elim
  · exact (no a z).elim
 refine ⟨by unfold Z4 vR; rw [zD, zD], λ _ _ => rfl, λ _ => List.nodup_nil, (λ _ _ _ z => nomatch z), List.nodup_nil, (λ _ _ _ z => nomatch z), λ a z => z.elim (λ y => kn a (R.trk true a y)) (hT' a), (λ _ z => z.elim), λ a z => (no a z).elim, λ i s e => ?_⟩
 unfold Z4 at e
 rw [zzF] at e
 obtain ⟨c, hc, rfl⟩ := zzU.mp e
 have es : (vR cap σ)[i]? = some (zns σ c) := by
  unfold vR
  rw [zzF, hc]
  rfl
 rw [es]
 cases c with
 | none => rfl
 | some j =>
  show zbx _ _ _ _ _ _ (match as[j]? with | some (some (.lf st d)) => some (.lf st d) | some (some o) => some (.lf false o.toD) | _ => none) _ _
  cases k2 : as[j]? with
  | none => rfl
  | some s0 =>
   cases s0 with
   | none => rfl
   | some o =>
    obtain ⟨v, hv, ro⟩ := R.sl j _ k2
    cases o with
    | lf st d =>
     have e0 : ad j = [] := by
      generalize hfp : ad j = fp at ro
      cases ro
      rfl
     rw [e0] at ro
     refine ⟨v, by show some ((σ[j]?).getD none) = _; rw [hv]; rfl, .lf (up ?_)⟩
     exact (zdK ro).less λ a z => by have zs : st = true := z.1; show Lv F B (Gw [] ad) st a; rw [zs]; exact z.2
    | nd kk os => exact ⟨v, by show some ((σ[j]?).getD none) = _; rw [hv]; rfl, .lf (up ((zdu ro).less λ a z => nomatch z.1))⟩
theorem zhS {S : List Nat} {fi : IF} {g : GF} {tt : TF} {fe : EF} {Q : VK} (hS : ∀ i ∈ S, cap[i]? = some none) (h : al K kd (yE fi cap g tt fe) σ H Q) :
 zia (alC K kd fi) cap (alG K kd S g) (alT K kd tt) (al K kd fe) σ H Q := by
 obtain ⟨F, B, ad, as, r, as', R, e, q⟩ := h
 obtain ⟨⟨ds, as1⟩, h1, e⟩ := bS_ (show (fi as).bind _ = _ from e)
 by_cases hz : ds.length <= sizeLine
 · have e : (if ds.length <= sizeLine then (xF g tt fe (Z4 cap as1) ds).bind λ os => some (RV.ow (.nd .ls os), as1) else none) = some (r, as') := e
   rw [if_pos hz] at e
   obtain ⟨os, h2, e⟩ := bS_ e
   cases e
   refine ⟨F, B, ad, as, ds, as', R, h1, λ J ad1 H1 R1 g1 it => ?_⟩
   refine ⟨λ i m ys H3 => m + i = ds.length /\ ∃ T os1 os2, os = os1 ++ os2 /\ xF g tt fe (Z4 cap as') (ds.drop i) = some os2 /\ os1.length <= i /\ T.Nodup /\ (∀ a ∈ T, H1 a = none /\ H3 a ≠ none) /\ (∀ b u, H1 b = some u -> H3 b = some u) /\
    RoL (λ _ v d => Rp K kd (Un2 (Lv F B (Gw [] ad1) true) (· ∈ T)) H3 v d) (λ a => ¬ Un2 (Lv F B (Gw [] ad1) true) (· ∈ T) a) H3 ys os1 T, ⟨ds.length, rfl, [], [], os, rfl, h2, zzK _, List.nodup_nil, (λ _ m => nomatch m), (λ _ _ z => z), .nil⟩, ?_⟩
   rintro i m ys H3 ⟨hm, T, os1, os2, eo, ec, hl, tnd, tf, k3, rl⟩
   obtain ⟨i1, i2, i3⟩ := it.all H3 (· ∈ T) k3 tf i
   have yl := rl.length
   refine ⟨by omega, ?_⟩
   by_cases hi : i < ds.length
   · refine .inr ⟨i1 hi, λ v H4 hy => ?_⟩
     obtain ⟨k4, rp⟩ := i3 v H4 hy
     rw [List.drop_eq_getElem_cons hi] at ec
     obtain ⟨as2, e2, ec⟩ := bS_ (show (g _ _).bind _ = _ from ec)
     obtain ⟨⟨b, as3⟩, e3, ec⟩ := bS_ ec
     have k14 : ∀ b u, H1 b = some u -> H4 b = some u := λ b u h => k4 b u (k3 b u h)
     have kn4 : ∀ a, H3 a ≠ none -> H4 a ≠ none := λ a z => by
      cases e : H3 a with
      | none => exact absurd e z
      | some u => rw [k4 a u e]; simp
     have R4 := zkk (cap := cap) (T := T) R1 k14 (λ a z => (tf a z).1) (λ a z => kn4 a (tf a z).2)
     have no : ∀ a, ¬ Gw [] (λ _ => []) a := λ a z => z.elim (λ y => nomatch y) λ ⟨_, y⟩ => nomatch y
     refine ⟨_, _, _, _, ds[i], as2, R4, (rp _ (zzB hi)).less λ a z => ?_, e2, λ σ5 ad5 H5 R5 g5 keep5 => ⟨λ j w hw => ?_, _, _, ad5, as2, b, as3, R5, e3, λ ad6 H6 R6 g6 => ?_⟩⟩
     · rcases z with (z | z) | z
       · exact z
       · exact z.elim
       · exact (no a z).elim
     · rw [keep5 j λ z => ?_]
       · exact hw
       · have := hS j z
         unfold vR at hw
         rw [zzF, this] at hw
         cases hw
     · -- what stood is kept
       have g46 := g5.trans g6
       have k46 : ∀ b u, H4 b = some u -> H6 b = some u := λ b u h => g46.keep b u h (no b)
       have k36 : ∀ b u, H3 b = some u -> H6 b = some u := λ b u h => k46 b u (k4 b u h)
       have kn6 : ∀ a, H3 a ≠ none -> H6 a ≠ none := λ a z => by
        cases e : H3 a with
        | none => exact absurd e z
        | some u => rw [k36 a u e]; simp
       have up : ∀ {H7 : Hp} {T2 : List Addr}, (∀ b u, H3 b = some u -> H7 b = some u) -> (∀ a ∈ T2, H3 a = none) -> RoL (λ _ v d => Rp K kd (Un2 (Lv F B (Gw [] ad1) true) (· ∈ T ++ T2)) H7 v d) (λ a => ¬ Un2 (Lv F B (Gw [] ad1) true) (· ∈ T ++ T2) a) H7 ys os1 T := λ {H7 T2} k7 f7 =>
        RoL.mono (λ st v d r => (r.since k7 f7).less λ a z => z.elim (λ y => .inl (.inl y)) λ y => (zzJ.mp y).elim (λ x => .inl (.inr x)) .inr)
         (λ a vs n e => ⟨λ z => z.elim (λ y => n (.inl y)) λ y => (zzJ.mp y).elim (λ x => n (.inr x)) λ x => (by have := f7 a x; rw [this] at e; cases e), k7 _ _ e⟩) (λ a _ u h => k7 a u h) rl
       cases b with
       | false =>
        have := up (T2 := []) k36 (λ _ m => nomatch m)
        rw [List.append_nil] at this
        exact ⟨m - 1, by omega, by omega, T, os1, os2, eo, ec, Nat.le_succ_of_le hl, tnd, λ a z => ⟨(tf a z).1, kn6 a (tf a z).2⟩, λ b u h => k36 b u (k3 b u h), this⟩
       | true =>
        rw [if_pos rfl] at ec
        obtain ⟨⟨p, as7⟩, e7, ec⟩ := bS_ ec
        obtain ⟨⟨o, as8⟩, e8, ec⟩ := bS_ ec
        by_cases hs : o.str = true
        · have ec : (if o.str = true then (xF g tt fe (Z4 cap as') (ds.drop (i + 1))).bind λ os => some (o :: os) else none) = some os2 := ec
          rw [if_pos hs] at ec
          obtain ⟨os3, e9, ec⟩ := bS_ ec
          cases ec
          refine ⟨by omega, _, _, ad6, as3, p, as7, R6, e7, λ y T2 ad7 H7 R7 rv7 g7 => ?_⟩
          obtain ⟨ad8, R8, ro8, le8⟩ := zbI R7 rv7 e8
          have g47 := g46.trans g7
          have k47 : ∀ b u, H4 b = some u -> H7 b = some u := λ b u h => g47.keep b u h (no b)
          have k37 : ∀ b u, H3 b = some u -> H7 b = some u := λ b u h => k47 b u (k4 b u h)
          have f42 : ∀ a ∈ T2, H4 a = none := λ a z => (g47.own a (.inl z)).resolve_left (no a)
          have f32 : ∀ a ∈ T2, H3 a = none := λ a z => by
             cases e : H3 a with
             | none => rfl
             | some u => have := k4 a u e; rw [f42 a z] at this; cases this
          have rt := zfE R8 R8.tnd (λ a z => .inl z) ro8 hs
          have ro9 : Ro (λ _ v d => Rp K kd (Un2 (Lv F B (Gw [] ad1) true) (· ∈ T ++ T2)) H7 v d) (λ a => ¬ Un2 (Lv F B (Gw [] ad1) true) (· ∈ T ++ T2) a) H7 y o T2 :=
             Ro.mono (λ st v d r => r.less λ a z => z.elim (λ y => .inl (.inl y)) λ y => (zzJ.mp y).elim (λ x => .inl (.inr x)) .inr)
              (λ a vs n e => ⟨λ z => n (z.elim (λ y => .inl (.inl y)) λ y => (zzJ.mp y).elim (λ x => .inl (.inr x)) .inr), e⟩) (λ _ _ _ h => h) rt.ro
          refine ⟨m - 1, by omega, by omega, T ++ T2, os1 ++ [o], os3, by rw [eo, List.append_assoc]; rfl, e9, by rw [zzG, List.length_singleton]; omega, List.nodup_append.mpr ⟨tnd, rt.nd, λ a z b z' e => ?_⟩, λ a z => ?_, λ b u h => k37 b u (k3 b u h), (up k37 f32).append (RoL.one ro9)⟩
          · subst e
            exact (tf a z).2 (f32 a z')
          · rcases zzJ.mp z with z | z
            · refine ⟨(tf a z).1, ?_⟩
              cases e : H3 a with
              | none => exact absurd e (tf a z).2
              | some u => rw [k37 a u e]; simp
            · refine ⟨?_, rt.tr a z⟩
              cases e : H1 a with
              | none => rfl
              | some u => have := k3 a u e; rw [f32 a z] at this; cases this
        · have ec : (if o.str = true then (xF g tt fe (Z4 cap as') (ds.drop (i + 1))).bind λ os => some (o :: os) else none) = some os2 := ec
          rw [if_neg hs] at ec
          cases ec
   · refine .inl ⟨i2 (by omega), λ p hp => ?_⟩
     rw [List.drop_eq_nil_of_le (by omega)] at ec
     cases ec
     rw [List.append_nil] at eo
     subst eo
     have pT : p ∉ T := λ z => (tf p z).2 hp
     have H1p : H1 p = none := by
      cases e : H1 p with
      | none => rfl
      | some u => have := k3 p u e; rw [hp] at this; cases this
     have kp : ∀ b u, H3 b = some u -> upd H3 p (.lst ys) b = some u := λ b u h => by rw [zX (xm h hp)]; exact h
     obtain ⟨R9, g9⟩ := R1.news (T' := p :: T) (H' := upd H3 p (.lst ys)) (zzT.mpr ⟨pT, tnd⟩) (λ a z => (zS.mp z).elim (λ e => by rw [e]; exact H1p) λ z => (tf a z).1) (λ b u h => kp b u (k3 b u h)) (λ a z => by
      rcases zS.mp z with e | z
      · rw [e, yz]; simp
      · cases e : H3 a with
        | none => exact absurd e (tf a z).2
        | some u => rw [kp a u e]; simp)
     refine q _ (p :: T) ad1 _ R9 (.ls yz ?_) (g1.trans g9)
     have le : ∀ st a, Lv F B (Gw (p :: T) ad1) st a -> Un2 (Un2 (Lv F B (Gw [] ad1) true) (· ∈ T)) (· = p) a := λ st a z => by
      rcases z with (z | z) | z | z
      · exact .inl (.inl (.inl (.inl ⟨rfl, z.2⟩)))
      · exact .inl (.inl (.inl (.inr z)))
      · exact (zS.mp z).elim .inr λ y => .inl (.inr y)
      · exact .inl (.inl (.inr (.inr z)))
     exact RoL.mono (λ st v d r => (r.since kp (T := (· = p)) λ a z => by rw [z]; exact hp).less (le st)) (λ a vs n e => ⟨λ z => (le true a z).elim n λ y => (by rw [y, hp] at e; cases e), kp _ _ e⟩) (λ a _ u h => kp a u h) rl
 · have e : (if ds.length <= sizeLine then (xF g tt fe (Z4 cap as1) ds).bind λ os => some (RV.ow (.nd .ls os), as1) else none) = some (r, as') := e
   rw [if_neg hz] at e
   cases e
end
section
variable {X : Cx} {kd : KD} {elt tg iter e a b c : Expr} {es ifs : List Expr} {scope : Scope} {pos : Pos} {N : List Str} {cap : List (Option Nat)} {g : GF} {tt : TF} {fe fa fb : EF} {fi : IF} {S : List Nat} {fr : AF} {fd : DF}
theorem vB : PTs X [] (alT X.K kd wk) := λ pins s σ H Q I h => by
 obtain ⟨F, B, ad, as, b, as', R, e, q⟩ := h
 cases e
 exact zjC pins s σ H Q I (q ad H R Grow.refl)
theorem zkJ (h : AT X kd c tt) : PTs X [c] (alT X.K kd tt) := by with_unfolding_all exact (zjK h)
theorem Z6 (hc : X.calm = true) (hi : AIc X kd tg iter fi) (hk : scope.kind = .function) (hcap : Zy N X.N scope.names X.env.scope.names cap = true) (hS : S.all (λ i => cap[i]? == some none) = true)
 (hg : ∀ cl s H fp, AG (wJ X N scope cl s H fp) kd tg S g) (ht : ∀ cl s H fp, PTs (wJ X N scope cl s H fp) ifs (alT X.K kd tt)) (he : ∀ cl s H fp, AE (wJ X N scope cl s H fp) kd elt fe)
 (hs : ∀ x, foldedSetIterable iter X.env x = pure x) : AE X kd (.ListComp elt [⟨tg, iter, ifs, 0⟩] scope pos) (yE fi cap g tt fe) := by with_unfolding_all exact (wG (zkA (g := alG X.K kd S g) (te := al X.K kd fe) hc hi hk hcap hg ht he hs) λ σ H Q h => zhS (λ i m => by simpa using List.all_eq_true.mp hS i m) h)
theorem V2 {z : Bool} {i : Nat} {y : Str} {py spos : Pos} (hN : X.N.Nodup) (hiy : X.N[i]? = some y) (hy : Loc X.env.scope y) (hf : X.fn y = true \/ X.env.scope.names.lookup y = some .local)
 (hsw : swapsWith (.ListComp elt [⟨tg, iter, ifs, 0⟩] scope pos) (some (.Name y py)) spos.line X.env = pure true)
 (hc : X.calm = true) (hi : AIc X kd tg iter fi) (hk : scope.kind = .function) (hcap : Zy N X.N scope.names X.env.scope.names cap = true) (hS : S.all (λ i => cap[i]? == some none) = true)
 (hg : ∀ cl s H fp, AG (wJ X N scope cl s H fp) kd tg S g) (ht : ∀ cl s H fp, PTs (wJ X N scope cl s H fp) ifs (alT X.K kd tt)) (he : ∀ cl s H fp, AE (wJ X N scope cl s H fp) kd elt fe)
 (hs : ∀ x, foldedSetIterable iter X.env x = pure x) : ASt X kd (.Assign [.Name y py] (.ListComp elt [⟨tg, iter, ifs, 0⟩] scope pos) spos) (zJ z i (yE fi cap g tt fe)) := by with_unfolding_all exact (wF (zkf (g := alG X.K kd S g) (te := al X.K kd fe) hN hiy hy hf hsw hc hi hk hcap hg ht he hs) λ D σ H h => by
 obtain ⟨F, B, ad, as, o, R, e, q⟩ := h
 obtain ⟨⟨p, as1⟩, h1, e⟩ := bS_ (show (yE fi cap g tt fe as).bind _ = _ from e)
 obtain ⟨⟨y, as2⟩, h2, e⟩ := bS_ e
 obtain ⟨hl, e⟩ := zR e
 cases e
 refine zhS (Q := λ x H1 => zdX i x σ H1 D.nx) (λ i m => by simpa using List.all_eq_true.mp hS i m) ⟨F, B, ad, as, p, as1, R, h1, λ v T' ad' H' R' rv g => ?_⟩
 obtain ⟨ad2, R2, le⟩ := zdx R' rv h2 hl
 exact q _ ad2 H' R2 (g.trans (Grow.less le)))
theorem zT {k : Nat} {f : Addr} {fdt : FuncData} {ps : List Str} {gg : List (Bool × D) -> Option O} {x : Str} {p : Pos} (F : FnOk X.prog X.w X.K X.mg X.base CX0 k f fdt ps (spD X.K kd gg)) (hr : Room k X.A) (hg : Gl X x) (hm : X.mg x = some (.ref f)) (hk : PySem.W.keepIn X.K (.ref f) = true)
 (hb : Binds X.K fdt ps []) (hx : zbu CX0 X (λ _ _ _ => False)) (ha : AA X kd (e :: es) fr) (hdb : (x == ("__debug__" : Str)) = false) (he : starEach (e :: es) X.env = (false, eval e X.env) :: starEach es X.env) (hpl : (backTo pos (starEach es X.env)).any (·.1) = false) :
 AE X kd (.Call (.Name x p) (e :: es) [] pos) (zG fr gg) := by with_unfolding_all exact (wG (zgG F hr hg hm hk hb .nil hx ha hdb he hpl) λ σ H Q h => zlP h)
theorem ZR {id : String} {gg : List D -> Option R0} {x : Str} {p : Pos} (hc : CallD X kd (.builtin id) gg) (hg : Gl X x) (hm : X.mg x = none) (hv : bootBuiltins x = some (.builtin id)) (ha : AA X kd (e :: es) fr) (hn : x ≠ "__name__") (hdb : (x == ("__debug__" : Str)) = false)
 (he : starEach (e :: es) X.env = (false, eval e X.env) :: starEach es X.env) (hpl : (backTo pos (starEach es X.env)).any (·.1) = false) : AE X kd (.Call (.Name x p) (e :: es) [] pos) (fP fr gg) := by with_unfolding_all exact (wG (ziA hc hg hm hv ha hn hdb he hpl) λ σ H Q h => alP (λ _ _ _ z => z) h)
theorem V9 {T : String} {gg : List D -> Option R0} {x : Str} {p : Pos} (hc : CallD X kd (.type T) gg) (hg : Gl X x) (hm : X.mg x = none) (hv : bootBuiltins x = some (.type T)) (ha : AA X kd (e :: es) fr) (hn : x ≠ "__name__") (hdb : (x == ("__debug__" : Str)) = false)
 (he : starEach (e :: es) X.env = (false, eval e X.env) :: starEach es X.env) (hpl : (backTo pos (starEach es X.env)).any (·.1) = false) : AE X kd (.Call (.Name x p) (e :: es) [] pos) (fP fr gg) := by with_unfolding_all exact (wG (zhd hc hg hm hv ha hn hdb he hpl) λ σ H Q h => alP (λ _ _ _ z => z) h)
def vm : MG := λ os es => match es with | [o] => if os.length < sizeLine then some (os ++ [o], .lf true .non) else none | _ => none
def Xa : MG := λ os es => match es with | [.lf _ (.int i)] => if -(2 ^ 63) <= i /\ i < 2 ^ 63 then (seqIndex? i os.length).bind λ k => (os[k]?).bind λ o => some (os.eraseIdx k, o) else none | _ => none
def zgO : MG := λ os es => match es with | [.nd .ls ps] => if os.length + ps.length <= sizeLine then some (os ++ ps, .lf true .non) else none | _ => none
theorem zjY {l f fo g : List Addr} (h : l.Nodup) (e : l = f ++ (fo ++ g)) : ((f ++ g) ++ fo).Nodup /\ ∀ a ∈ (f ++ g) ++ fo, a ∈ l := by
 subst e
 have p : (f ++ (fo ++ g)).Perm ((f ++ g) ++ fo) := by
  rw [List.append_assoc]
  exact (List.perm_append_comm).append_left f
 exact ⟨p.nodup_iff.mp h, λ a m => p.mem_iff.mpr m⟩
theorem Yo : MuD X kd zgo vm := by
 intro F B G l vs ws os es os' o fp fq H Q hH rl rw' hn e k
 unfold vm at e
 split at e
 · obtain ⟨hz, e⟩ := zR e
   cases e
   cases rw' with
   | cons h1 h2 =>
    cases h2
    rw [List.append_nil] at hn k
    exact ⟨l, vs, _, rfl, rfl, hH, by rw [rl.length]; exact hz, k _ _ _ [] (rl.append (RoL.one h1)) (.lf .non) (λ a m => by rwa [List.append_nil] at m) (by rw [List.append_nil]; exact hn)⟩
 · cases e
theorem zib : MuD X kd zhR Xa := by
 intro F B G l vs ws os es os' o fp fq H Q hH rl rw' hn e k
 unfold Xa at e
 split at e
 · rename_i st i
   split at e
   · rename_i hi
     obtain ⟨j, hj, e⟩ := bS_ e
     obtain ⟨o1, ho, e⟩ := bS_ e
     cases e
     obtain ⟨v, f, fo, gg, hv, hf, ro, r1, r2⟩ := rl.at_ ho
     cases rw' with
     | cons h1 h2 =>
      cases h2
      cases h1 with
      | lf rp =>
       cases rp
       rw [List.append_nil, List.append_nil] at hn k
       obtain ⟨n1, n2⟩ := zjY hn hf
       refine ⟨l, vs, i, j, v, rfl, rfl, hH, hi.1, hi.2, by rw [rl.length]; exact hj, hv, k v _ (f ++ gg) fo ?_ ro n2 n1⟩
       rw [zaK, zaK]
       exact r1.append r2
   · cases e
 · cases e
theorem zmN : MuD X kd zgh zgO := by
 intro F B G l vs ws os es os' o fp fq H Q hH rl rw' hn e k
 unfold zgO at e
 split at e
 · rename_i ps
   obtain ⟨hz, e⟩ := zR e
   cases e
   cases rw' with
   | cons h1 h2 =>
    cases h2
    cases h1 with
    | ls hb rb =>
     rename_i b zs fz
     rw [List.append_nil] at hn k
     obtain ⟨n1, n2, n3⟩ := List.nodup_append.mp hn
     obtain ⟨n4, n5⟩ := zzT.mp n2
     refine ⟨l, b, vs, zs, rfl, rfl, hH, hb, by rw [rl.length, rb.length]; exact hz, k .non _ _ [] (rl.append rb) (.lf .non) (λ a m => ?_) ?_⟩
     · rw [List.append_nil] at m
       rcases zzJ.mp m with m | m
       · exact zzM _ m
       · exact zzI _ (zzA _ m)
     · rw [List.append_nil]
       exact List.nodup_append.mpr ⟨n1, n5, λ a m b m' => n3 a m b (zzA _ m')⟩
 · cases e
theorem Zu {i : Nat} {x : Str} {gg : MG} {r : V -> List V -> Hp -> VK -> Prop} {name : Str} {id : String} {apos cpos p : Pos} (hm : MtM X id r) (hr : MuD X kd r gg) (slot : Slot "list" name id) (hty : typeOf (.builtin id) = pure (.type "method_descriptor")) (ho : PE X (.Name x p) (zbc i)) (ha : AD X kd (e :: es) fd)
 (hbase : attributeBase (.Name x p) name X.env (eval (.Name x p) X.env) = eval (.Name x p) X.env)
 (hfew : ((backTo cpos (starEach (e :: es) X.env)).all (λ x => !x.1) && (backToKw cpos (keywordEach [] X.env)).all (λ x => x.1.isSome)
  && decide ((e :: es).length + ([] : List Keyword).length + (if ([] : List Keyword).isEmpty then 0 else 1) < 30)) = true)
 (hline : (apos.endLine == cpos.line) = true) (hs : starEach (e :: es) X.env = (false, eval e X.env) :: starEach es X.env) (hplain : (backTo cpos (starEach es X.env)).any (·.1) = false) :
 AE X kd (.Call (.Attribute (.Name x p) name apos) (e :: es) [] cpos) (ww i fd gg) := by with_unfolding_all exact (wG (zne PySem.F.plainAttrs_list slot hty hm ho ha hbase hfew hline hs hplain) λ σ H Q h => znp hr h)
end
inductive Ty where
 | str | lst | dct | int
def Ty.nm : Ty -> String
 | .str => "str" | .lst => "list" | .dct => "dict" | .int => "int"
def zjT : Ty -> D -> Bool
 | .str, .str _ => true
 | .lst, .lst _ => true
 | .dct, .dct _ => true
 | .int, .int _ => true
 | _, _ => false
def tyS (X : Cx) (T : String) (x : V) (H : Hp) : Prop := ∀ (pins : List (Addr × Obj)) (σ : St) (s : Shared) (v : Value), Inv X pins σ H s -> RelV x v -> s.TypeIs v T /\ ∀ a, v = .ref a -> ∃ ob, s.heap.get? a = some ob /\ ob.dict = none
def tMD (X : Cx) (T : String) (r : V -> List V -> Hp -> VK -> Prop) (to : TE) (t : TA) : TE := λ σ H Q => to σ H λ x H1 => tyS X T x H1 /\ t σ H1 λ xs H2 => r x xs H2 Q
section
variable {X : Cx} {kd : KD} {o e : Expr} {es : List Expr} {to : TE} {t : TA} {name : Str} {apos cpos : Pos} {T id : String} {r : V -> List V -> Hp -> VK -> Prop}
theorem znu (pa : PlainAttrs T) (slot : Slot T name id) (hty : typeOf (.builtin id) = pure (.type "method_descriptor")) (hm : MtR X id r) (ho : PE X o to) (ha : PA X (e :: es) t)
 (hbase : attributeBase o name X.env (eval o X.env) = eval o X.env)
 (hfew : ((backTo cpos (starEach (e :: es) X.env)).all (λ x => !x.1) && (backToKw cpos (keywordEach [] X.env)).all (λ x => x.1.isSome)
  && decide ((e :: es).length + ([] : List Keyword).length + (if ([] : List Keyword).isEmpty then 0 else 1) < 30)) = true)
 (hline : (apos.endLine == cpos.line) = true) (hs : starEach (e :: es) X.env = (false, eval e X.env) :: starEach es X.env) (hplain : (backTo cpos (starEach es X.env)).any (·.1) = false) :
 PE X (.Call (.Attribute o name apos) (e :: es) [] cpos) (tMD X T r to t) := by
 intro pins s σ H Q I h
 refine wpAny_Call_method_late hbase hfew hline rfl (thn (ho pins s σ H _ I h) λ v s1 ⟨x, H1, I1, r1, ty, q1⟩ => ?_)
 obtain ⟨h1, h2⟩ := ty _ _ _ _ I1 r1
 refine ⟨T, id, pa, slot, hty, h1, h2, ?_⟩
 have hA := ha cpos pins s1 σ H1 _ I1 q1
 rw [hs] at hA ⊢
 refine Calls.callWith_builtin (by show (false || (backTo cpos (starEach es X.env)).any (·.1)) = false; rw [hplain] <;> rfl) (Calls.evalArgs_plain ?_)
 exact thn hA λ us s2 ⟨vs, H2, I2, r2, q2⟩ => hm pins s2 σ H2 x vs v us Q I2 r1 r2 q2
def MtD (X : Cx) (kd : KD) (id : String) (g : D -> List D -> Option R0) : Prop :=
 MtR X id (λ x xs H Q => ∃ O d ds r, (∀ a, O a -> H a ≠ none) /\ Vw X.K kd O H x d /\ VwL X.K kd O H xs ds /\ g d ds = some r /\ RQ X.K kd O H Q r)
theorem znS (hk : KdOk X kd) {O : Addr -> Prop} {H : Hp} {x : V} {d : D} {ty : Ty} (h : Vw X.K kd O H x d) (e : zjT ty d = true) : tyS X ty.nm x H := by
 intro pins σ s v I rx
 cases h with
 | str z =>
  obtain ⟨t, rfl⟩ := rx
  cases ty <;> first | (cases e; done) | exact ⟨typeIs_str s z t, λ _ e => nomatch e⟩
 | int z =>
  obtain ⟨t, rfl⟩ := rx
  cases ty <;> first | (cases e; done) | exact ⟨typeIs_int s z t, λ _ e => nomatch e⟩
 | lst hr rl =>
  cases rx
  obtain ⟨its, _, pl, _⟩ := I.list hr.sq
  cases ty <;> first | (cases e; done) | skip
  refine ⟨pl.isList.typeIs, λ a e => ?_⟩
  cases e
  obtain ⟨o, n, e, c, hd, _⟩ := pl
  exact ⟨o, e, hd⟩
 | dct hr rm =>
  cases rx
  obtain ⟨z, hd, vs, rel, dd⟩ := zeh I hk hr
  cases ty <;> first | (cases e; done) | skip
  refine ⟨dd.typeIs, λ b q => ?_⟩
  cases q
  obtain ⟨ob, _, _, h1, h2, _⟩ := dd
  exact ⟨ob, h1, h2.2.1⟩
 | non => cases ty <;> cases e
 | bl => cases ty <;> cases e
 | tup => cases ty <;> cases e
 | cl => cases ty <;> cases e
 | ob => cases ty <;> cases e
 | dt => cases ty <;> cases e
def zbC (ty : Ty) (fa : EF) (fr : AF) (g : D -> List D -> Option R0) : EF := λ as => (fa as).bind λ p => (p.1.frz.view p.2).bind λ w => if zjT ty w.1 = true then (fr p.2).bind λ q => (p.1.frz.view q.2).bind λ x => (views q.2 q.1).bind λ y => (g x.1 y.1).bind λ r => (wrap (meet x.2 y.2) r).bind λ z => some (z, q.2) else none
theorem zms (hk : KdOk X kd) {ty : Ty} {fa : EF} {fr : AF} {g : D -> List D -> Option R0} {σ : St} {H : Hp} {Q : VK} (h : al X.K kd (zbC ty fa fr g) σ H Q) :
 tMD X ty.nm (λ x xs H Q => ∃ O d ds r, (∀ a, O a -> H a ≠ none) /\ Vw X.K kd O H x d /\ VwL X.K kd O H xs ds /\ g d ds = some r /\ RQ X.K kd O H Q r) (al X.K kd fa) (alA X.K kd fr) σ H Q := by
 obtain ⟨F, B, ad, as, r, as', R, e, q⟩ := h
 obtain ⟨⟨p, as1⟩, h1, e⟩ := bS_ (show (fa as).bind _ = _ from e)
 obtain ⟨⟨d0, l0⟩, h0, e⟩ := bS_ e
 obtain ⟨hty, e⟩ := ite_some' e
 obtain ⟨⟨ps, as2⟩, h2, e⟩ := bS_ e
 obtain ⟨⟨d, lv⟩, h3, e⟩ := bS_ e
 obtain ⟨⟨ds, lv2⟩, h4, e⟩ := bS_ e
 obtain ⟨r0, h5, e⟩ := bS_ e
 obtain ⟨z, h6, e⟩ := bS_ e
 cases e
 refine Wi R h1 λ v ad1 H1 R1 rv1 g1 => ⟨znS hk (vJ.vw R1 rv1 h0) hty, F, B, ad1, as1, ps, _, R1, h2, λ vs ad2 H2 R2 rv2 g2 => ?_⟩
 exact ⟨_, d, ds, r0, R2.tr _, (vJ.vw R2 (rv1.grow g2) h3).less Obl.meet1, (Wn R2 rv2 h4).less Obl.meet2, h5, Vt R2 h6 λ w T' H' R' rv' g' => q w T' ad2 H' R' rv' ((g1.trans g2).trans g')⟩
theorem zkM {ty : Ty} {a : Expr} {fa : EF} {fr : AF} {g : D -> List D -> Option R0} (hk : KdOk X kd) (hm : MtD X kd id g) (pa : PlainAttrs ty.nm) (slot : Slot ty.nm name id) (hty : typeOf (.builtin id) = pure (.type "method_descriptor")) (ho : AE X kd a fa) (ha : AA X kd (e :: es) fr)
 (hbase : attributeBase a name X.env (eval a X.env) = eval a X.env)
 (hfew : ((backTo cpos (starEach (e :: es) X.env)).all (λ x => !x.1) && (backToKw cpos (keywordEach [] X.env)).all (λ x => x.1.isSome)
  && decide ((e :: es).length + ([] : List Keyword).length + (if ([] : List Keyword).isEmpty then 0 else 1) < 30)) = true)
 (hline : (apos.endLine == cpos.line) = true) (hs : starEach (e :: es) X.env = (false, eval e X.env) :: starEach es X.env) (hplain : (backTo cpos (starEach es X.env)).any (·.1) = false) :
 AE X kd (.Call (.Attribute a name apos) (e :: es) [] cpos) (zbC ty fa fr g) := by with_unfolding_all exact (wG (znu pa slot hty hm ho ha hbase hfew hline hs hplain) λ σ H Q h => zms hk h)
end
section
variable {K : zC} {kd : KD} {F B G : Addr -> Prop} {T : List Addr} {ad : Ad} {as : AS} {σ : St} {H H' : Hp}
inductive RPs (K : zC) (kd : KD) (F B G : Addr -> Prop) (H : Hp) : List (V × V) -> List (Key × O) -> Prop
 | nil : RPs K kd F B G H [] []
 | cons {k : Key} {v : V} {o : O} {ps : List (V × V)} {kos : List (Key × O)} : RoS K kd F B G H v o [] -> RPs K kd F B G H ps kos -> RPs K kd F B G H ((kV k, v) :: ps) ((k, o) :: kos)
end
section
variable {X : Cx} {kd : KD} {e a b c o i : Expr} {pos pos' : Pos} {fa fb fk fv : EF}
def zhV {κ : Type} [DecidableEq κ] (ks : List κ) (k : κ) : Bool := ks.any λ x => decide (x = k)
def Xq {κ : Type} [DecidableEq κ] (ks : List κ) (k : κ) : List κ := if zhV ks k = true then ks else ks ++ [k]
def Ze {κ α : Type} [DecidableEq κ] (ks : List κ) (os : List α) (k : κ) (o : α) : List α := if zhV ks k = true then (ks.zip os).map (λ p => if p.1 = k then o else p.2) else os ++ [o]
theorem zgf {κ α : Type} [DecidableEq κ] (k : κ) : ∀ (ks : List κ) (vs : List α), ks.length = vs.length -> ((ks.zip vs).any λ kv => decide (kv.1 = k)) = zhV ks k
 | [], _, _ => rfl
 | x :: r, [], h => by simp at h
 | x :: r, v :: vs, h => by
  show (decide (x = k) || (r.zip vs).any _) = (decide (x = k) || _)
  rw [zgf k r vs (by simpa using h)]
  rfl
theorem zgi {κ : Type} [DecidableEq κ] {v : V} {k : κ} : ∀ (ks : List κ) (vs : List V), ks.length = vs.length -> (ks.zip vs).map (λ kv => if kv.1 = k then (kv.1, v) else kv) = ks.zip ((ks.zip vs).map λ p => if p.1 = k then v else p.2)
 | [], _, _ => rfl
 | x :: r, [], h => by simp at h
 | x :: r, w :: vs, h => by
  show _ :: (r.zip vs).map _ = (x, _) :: r.zip ((r.zip vs).map _)
  rw [zgi r vs (by simpa using h)]
  congr 1
  by_cases e : x = k
  · simp [e]
  · simp [e]
theorem zeK {κ : Type} [DecidableEq κ] {ks : List κ} {vs : List V} {k : κ} {v : V} (h : ks.length = vs.length) : putK (ks.zip vs) k v = (Xq ks k).zip (Ze ks vs k v) := by
 unfold putK Xq Ze
 rw [zgf k ks vs h]
 split
 · exact zgi ks vs h
 · rw [List.zip_append h]
   rfl
theorem VJ {κ α : Type} [DecidableEq κ] {ks : List κ} {os : List α} {k : κ} {o : α} (h : ks.length = os.length) : (Xq ks k).length = (Ze ks os k o).length := by
 unfold Xq Ze
 split
 · rw [zD, List.length_zip, h]; simp
 · rw [zzG, zzG, h]; rfl
theorem zfl {L : Bool -> V -> D -> Prop} {Nn : Addr -> Prop} {κ : Type} [DecidableEq κ] {H : Hp} {k : κ} {v : V} {o : O} (ho : Ro L Nn H v o []) : ∀ {ks : List κ} {vs : List V} {os : List O} {fp : List Addr}, ks.length = vs.length -> RoL L Nn H vs os fp ->
 ∃ fp', fp'.Sublist fp /\ RoL L Nn H ((ks.zip vs).map λ p => if p.1 = k then v else p.2) ((ks.zip os).map λ p => if p.1 = k then o else p.2) fp'
 | [], [], _, _, _, .nil => ⟨[], .slnil, .nil⟩
 | x :: r, _, _, _, hl, .cons (fp := f) (fq := g) h t => by
  obtain ⟨fp', s, q⟩ := zfl ho (ks := r) (by simpa using hl) t
  by_cases e : x = k
  · refine ⟨fp', s.trans (List.sublist_append_right _ _), ?_⟩
    have := RoL.cons ho q
    simpa [e] using this
  · refine ⟨f ++ fp', List.Sublist.append (List.Sublist.refl _) s, ?_⟩
    have := RoL.cons h q
    simpa [e] using this
 | [], _ :: _, _, _, hl, _ => by simp at hl
end
abbrev Fn := List (Bool × D) -> Option O
section
variable {P : Program} {w : World} {K : zC} {mg : Str -> Option Value} {base : Heap} {kd : KD}
theorem xx {A : Around} {k : Nat} (hr : Room k A) : A.units + 100 < cLine := by have := hr.un; omega
def KD1 (P : Program) (w : World) (K : zC) (kd : KD) : Prop := ∀ X : Cx, X.prog = P -> X.w = w -> X.K = K -> KdOk X kd
theorem X3 {O : Addr -> Prop} {H : Hp} : ∀ ns : List Int, RpL K kd O H (ns.map V.int) (ns.map D.int)
 | [] => .nil
 | _ :: r => .cons (.int _) (X3 r)
theorem zmh {H : Hp} {a : Addr} {ns : List Int} {g : Fn} {E : XK} (hg : g [(true, .lst (ns.map D.int))] = some (.lf true (.bl true))) (hS : RdL K H a (ns.map V.int)) : spD K kd g [.ref a] H (λ v _ => v = .bl true) E := by
 refine ⟨λ _ => False, [(true, .lst (ns.map D.int))], .lf true (.bl true), (λ _ z => z.elim), .cons ?_ .nil, hg, λ v T H' _ _ _ _ ro => ?_⟩
 · rcases hS with h | ⟨its, n, k, z, r⟩
   · exact .lst (λ z => z.2) h (X3 ns)
   · exact .lstK k z r (X3 ns)
 · cases ro with
   | lf rp => cases rp; rfl
end
namespace Bt
theorem len : bootBuiltins "len" = some (.builtin "len") := by decide +kernel
theorem max : bootBuiltins "max" = some (.builtin "max") := by decide +kernel
theorem sorted : bootBuiltins "sorted" = some (.builtin "sorted") := by decide +kernel
theorem int : bootBuiltins "int" = some (.type "int") := by decide +kernel
theorem list : bootBuiltins "list" = some (.type "list") := by decide +kernel
theorem n (x : Str) (h : (x == ("__name__" : Str)) = false) : x ≠ "__name__" := λ e => by subst e; simp at h
end Bt
def WD (f : EF) (as : AS) (st : Bool) (d : D) : Prop := f as = some (.ow (.lf st d), as)
def WT (f : TF) (as : AS) (b : Bool) : Prop := f as = some (b, as)
def WA (f : AF) (as : AS) (rs : List (Bool × D)) : Prop := f as = some (rs.map (λ x => .ow (.lf x.1 x.2)), as)
def WO (f : DF) (as : AS) (os : List O) : Prop := f as = some (os, as)
section
variable {as : AS} {f a b : EF} {s t : Bool} {x y z : D} {i j : Int}
theorem zf : WD (fC x) as true x := rfl
theorem zb {i : Nat} (h : as[i]? = some (some (.lf s x))) : WD (fV i) as s x := by unfold WD fV; rw [h]
theorem zin {g : D -> D -> Option R0} (ha : WD a as s x) (hb : WD b as t y) (hg : g x y = some (.im z)) : WD (f2 a b g) as (zL z || (s && t)) z := by
 unfold WD f2 at *
 rw [ha]; show ((b as).bind _) = _
 rw [hb]; show ((g x y).bind _) = _
 rw [hg]
 show (if (zL z || (meet (some s) (some t)).isSome) = true then _ else _ : Option RV).bind _ = _
 rw [if_pos (by unfold meet; simp)]
 rfl
theorem znO {g : D -> D -> Option R0} {oa ob : O} (ha : a as = some (.ow oa, as)) (hb : b as = some (.ow ob, as)) (hg : g oa.toD ob.toD = some (.im z)) : WD (f2 a b g) as (zL z || (oa.str && ob.str)) z := by
 unfold WD f2 at *
 rw [ha]; show ((b as).bind _) = _
 rw [hb]; show ((g oa.toD ob.toD).bind _) = _
 rw [hg]
 show (if (zL z || (meet (some oa.str) (some ob.str)).isSome) = true then _ else _ : Option RV).bind _ = _
 rw [if_pos (by unfold meet; simp)]
 rfl
theorem yx {g : D -> D -> Option R0} (ha : WD a as s x) (hb : WD b as t y) (hg : g x y = some (.im z)) (e : zL z = true) : WD (f2 a b g) as true z := by
 have := zin ha hb hg; rw [e] at this; exact this
theorem yd (ha : WD a as s (.int i)) (hb : WD b as t (.int j)) : WD (f2 a b (zp .Add)) as true (.int (i + j)) := yx ha hb rfl rfl
theorem zcl (ha : WD a as s (.int i)) (hb : WD b as t (.int j)) : WD (f2 a b (zp .Sub)) as true (.int (i - j)) := yx ha hb rfl rfl
theorem xY (ha : WD a as s (.int i)) (hb : WD b as t (.int j)) (h1 : i.natAbs < big) (h2 : j.natAbs < big) : WD (f2 a b (zp .Mult)) as true (.int (i * j)) := yx ha hb (by show (if _ then _ else _) = _; rw [if_pos ⟨h1, h2⟩]) rfl
theorem yR (ha : WD a as s (.int i)) (hb : WD b as t (.int j)) (h1 : 0 < j) (h2 : j.natAbs < big) : WD (f2 a b (zp .FloorDiv)) as true (.int (i / j)) := yx ha hb (by show (if _ then _ else _) = _; rw [if_pos ⟨h1, h2⟩]) rfl
theorem zU (ha : WD a as s (.int i)) (hb : WD b as t (.int j)) (h1 : 0 < j) : WD (f2 a b (zp .Mod)) as true (.int (i % j)) := yx ha hb (by show (if _ then _ else _) = _; rw [if_pos h1]) rfl
theorem zbQ {c : Bool} (ha : WD a as s x) (hb : WD b as t y) (h : eqF 60 x y = some c) : WD (f2 a b (yj .Eq)) as true (.bl c) := yx ha hb (by show (eqF 60 x y).bind _ = _; rw [h]; rfl) rfl
theorem zoi {c : Bool} (ha : WD a as s x) (hb : WD b as t y) (h : eqF 60 x y = some c) : WD (f2 a b (yj .NotEq)) as true (.bl (!c)) := yx ha hb (by show (eqF 60 x y).bind _ = _; rw [h]; rfl) rfl
theorem zjk (ha : WD a as s (.int i)) (hb : WD b as t (.int j)) : WD (f2 a b (yj .Lt)) as true (.bl (decide (i < j))) := yx ha hb rfl rfl
theorem zdY (ha : WD a as s (.int i)) (hb : WD b as t (.int j)) : WD (f2 a b (yj .Gt)) as true (.bl (decide (j < i))) := yx ha hb rfl rfl
theorem vg {c : Bool} (h : WD f as s x) (e : truth x = some c) : WT (fT f) as c := by
 unfold WT fT; unfold WD at h
 rw [h]; show ((truth x).bind _) = _
 rw [e]; rfl
theorem ziT {c : TF} {k : Bool} (h : WT c as k) : WT (zcA c) as (!k) := by unfold WT zcA at *; rw [h]; rfl
theorem zmd {c e : TF} {k l : Bool} (h : WT c as k) (h2 : k = true -> WT e as l) (h3 : k = false -> l = false) : WT (zeS c e) as l := by
 unfold WT zeS at *; rw [h]
 cases k with
 | true => exact h2 rfl
 | false => rw [h3 rfl]; rfl
theorem zog {c e : TF} {k l : Bool} (h : WT c as k) (h2 : k = false -> WT e as l) (h3 : k = true -> l = true) : WT (zgJ c e) as l := by
 unfold WT zgJ at *; rw [h]
 cases k with
 | false => exact h2 rfl
 | true => rw [h3 rfl]; rfl
theorem zP : WA aN as [] := rfl
theorem zx {fr : AF} {rs : List (Bool × D)} (ha : WD a as s x) (hr : WA fr as rs) : WA (aC a fr) as ((s, x) :: rs) := by
 unfold WA aC at *; unfold WD at ha
 rw [ha]; show ((fr as).bind _) = _
 rw [hr]; rfl
theorem zal : ∀ rs : List (Bool × D), YG as (rs.map (λ x => .ow (.lf x.1 x.2))) = some (rs.map λ x => (zL x.2 || x.1, x.2))
 | [] => rfl
 | r :: rs => by
  show (zje as (.ow (.lf r.1 r.2))).bind _ = _
  show (YG as (rs.map _)).bind _ = _
  rw [zal rs]; rfl
theorem Ys : ∀ rs : List (Bool × D), views as (rs.map (λ x => .ow (.lf x.1 x.2))) = some (rs.map (·.2), some (rs.all (·.1)))
 | [] => rfl
 | r :: rs => by
  show (views as (rs.map _)).bind _ = _
  rw [Ys rs]; rfl
theorem vq {fr : AF} {rs : List (Bool × D)} {g : List (Bool × D) -> Option O} (ha : WA fr as rs) (hg : g (rs.map λ x => (zL x.2 || x.1, x.2)) = some (.lf s x)) : WD (zG fr g) as s x := by
 unfold WD zG; unfold WA at ha
 rw [ha]; show (YG as _).bind _ = _
 rw [zal]; show (g _).bind _ = _
 rw [hg]; rfl
theorem Ws {fr : AF} {rs : List (Bool × D)} {o : O} {g : List (Bool × D) -> Option O} (ha : WA fr as rs) (hg : g (rs.map λ x => (zL x.2 || x.1, x.2)) = some o) : zG fr g as = some (.ow o, as) := by
 unfold zG; unfold WA at ha
 rw [ha]; show (YG as _).bind _ = _
 rw [zal]; show (g _).bind _ = _
 rw [hg]; rfl
theorem zjG {fr : AF} {rs : List (Bool × D)} {g : List D -> Option R0} (ha : WA fr as rs) (hg : g (rs.map (·.2)) = some (.im x)) : WD (fP fr g) as (zL x || rs.all (·.1)) x := by
 unfold WD fP; unfold WA at ha
 rw [ha]; show (views as _).bind _ = _
 rw [Ys]; show (g _).bind _ = _
 rw [hg]
 show (if (zL x || (some (rs.all (·.1))).isSome) = true then _ else _ : Option RV).bind _ = _
 rw [if_pos (by simp)]; rfl
theorem vK {fr : AF} {rs : List (Bool × D)} {g : List D -> Option R0} (ha : WA fr as rs) (hg : g (rs.map (·.2)) = some (.im x)) (e : zL x = true) : WD (fP fr g) as true x := by
 have := zjG ha hg; rw [e] at this; exact this
theorem yt : WO dN as [] := rfl
theorem zW {fr : DF} {os : List O} (ha : WD a as s x) (hr : WO fr as os) : WO (dC a fr) as (.lf s x :: os) := by
 unfold WO dC at *; unfold WD at ha
 rw [ha]; show ((fr as).bind _) = _
 rw [hr]; rfl
theorem Zm {fr : DF} {os : List O} (h : WO fr as os) (hl : os.length <= sizeLine) : wH fr as = some (.ow (.nd .ls os), as) := by
 unfold wH; unfold WO at h
 rw [h]; show (if os.length <= sizeLine then _ else _) = _
 rw [if_pos hl]
theorem zZ {f g : SF} {as1 : AS} {o : Option Out} (h1 : f as = some (.nx as1)) (h2 : g as1 = o) : zB f g as = o := by unfold zB; rw [h1]; exact h2
theorem Wm {f g : SF} {o : O} (h1 : f as = some (.rt o)) : zB f g as = some (.rt o) := by unfold zB; rw [h1]; rfl
theorem vZ {c : TF} {f g : SF} {o : Option Out} (h : WT c as true) (h1 : f as = o) : sIf c f g as = o := by unfold sIf; unfold WT at h; rw [h]; exact h1
theorem xW {c : TF} {f g : SF} {o : Option Out} (h : WT c as false) (h1 : g as = o) : sIf c f g as = o := by unfold sIf; unfold WT at h; rw [h]; exact h1
theorem yf {i : Nat} {st : Bool} (h : WD f as s x) (hi : i < as.length) : zJ st i f as = some (.nx (as.set i (some (.lf s x)))) := by
 unfold zJ; unfold WD at h
 rw [h]
 cases st <;> exact if_pos hi
theorem xr {i : Nat} {o : O} (h : f as = some (.ow o, as)) (hi : i < as.length) : zJ false i f as = some (.nx (as.set i (some o))) := by
 unfold zJ
 rw [h]
 exact if_pos hi
theorem zjE {i : Nat} {o : O} (h : f as = some (.ow o, as)) (hi : i < as.length) : zJ true i f as = some (.nx (as.set i (some o.frz))) := by
 unfold zJ
 rw [h]
 exact if_pos hi
theorem Wg (h : WD f as true x) : yp f as = some (.rt (.lf true x)) := by unfold yp; unfold WD at h; rw [h]; rfl
theorem VG {n m : Nat} {c : SF} {ds : List (Bool × D)} {o : O} (hl : ds.length = m) (h : c (xj n ds) = some (.rt o)) : fnR n m c ds = some o := by unfold fnR; rw [if_pos hl, h]; rfl
theorem xf {g : GF} {f : SF} (I : Nat -> AS -> Prop) : ∀ (xs : List It1) (k : Nat) (as : AS), (∀ i x as, xs[i]? = some x -> I (k + i) as -> ∃ as1, g x as = some as1 /\ ∃ as2, f as1 = some (.nx as2) /\ I (k + i + 1) as2) -> I k as -> ∃ as', forL g f xs as = some (.nx as') /\ I (k + xs.length) as'
 | [], k, as, _, h => ⟨as, rfl, h⟩
 | x :: r, k, as, st, h => by
  obtain ⟨as1, h1, as2, h2, h3⟩ := st 0 x as rfl h
  obtain ⟨as', h4, h5⟩ := xf I r (k + 1) as2 (λ i y as e q => by
   obtain ⟨u, k1, v, k2, k3⟩ := st (i + 1) y as e (by rw [show k + (i + 1) = k + 1 + i by omega]; exact q)
   exact ⟨u, k1, v, k2, by rw [show k + 1 + i + 1 = k + (i + 1) + 1 by omega]; exact k3⟩) h3
  refine ⟨as', ?_, by rw [zzQ, show k + (r.length + 1) = k + 1 + r.length by omega]; exact h5⟩
  show (g x as).bind _ = _
  rw [h1]; show (f as1).bind _ = _
  rw [h2]; exact h4
theorem xR {fi : IF} {g : GF} {f : SF} {xs : List It1} {as' : AS} {o : Option Out} (h : fi as = some (xs, as')) (h2 : forL g f xs as' = o) : yM fi g f as = o := by unfold yM; rw [h]; exact h2
theorem yW {lo : Int} {n i : Nat} {x : It1} (h : (yL lo n)[i]? = some x) : x = (true, .int (lo + i)) /\ i < n := by
 unfold yL at h
 rw [zzF] at h
 cases e : (List.range n)[i]? with
 | none => rw [e] at h; cases h
 | some k =>
  rw [e] at h
  obtain ⟨h1, h2⟩ := zzD.mp e
  rw [List.length_range] at h1
  rw [List.getElem_range] at h2
  subst h2
  exact ⟨(Option.some.inj h).symm, h1⟩
theorem xq {fr : AF} {j : Int} {u : Bool} (h : WA fr as [(u, .int j)]) (h0 : 0 <= j) (h1 : j < 1000000) : ym fr yw as = some (yL 0 j.toNat, as) := by
 unfold ym; unfold WA at h
 rw [h]
 simp only [Option.bind_some, Ys]
 show ((if -(2 ^ 62) <= j /\ j < 2 ^ 62 then some (yL 0 j.toNat) else none).bind _) = _
 rw [if_pos ⟨by omega, by omega⟩]; rfl
theorem zhY {fr : AF} {rs : List (Bool × D)} {o : O} (ha : a as = some (.ow o, as)) (hr : WA fr as rs) : WA (aC a fr) as ((o.str, o.toD) :: rs) := by
 unfold WA aC at *
 rw [ha]; show ((fr as).bind _) = _
 rw [hr]; rfl
theorem Wl {i : Nat} {o : O} (h : as[i]? = some (some o)) : RV.view as (.bo i) = some (o.toD, o.kl) := by simp only [RV.view, h]
theorem zme {i : Nat} {o : O} (h : as[i]? = some (some o)) : toO as (.bo i) = some (o.frz, as.set i (some o.frz)) := by simp only [toO, h]
theorem zjR {i : Nat} {o : O} (h : as[i]? = some (some o)) (hs : o.str = true) : zjb as (.bo i) = some o := by simp only [zjb, h, hs, if_true]
theorem zaR {i : Nat} {k : Kind} {os : List O} (h : as[i]? = some (some (.nd k os))) : fV i as = some (.bo i, as) := by unfold fV; rw [h]
theorem zoa {i : Nat} {os : List O} (h : as[i]? = some (some (.nd .ls os))) : WD (fP (aC (fV i) aN) Z2) as true (.int os.length) := by
 have e : views as [.bo i] = some ([.lst (O.toDs os)], meet (O.nd .ls os).kl (some true)) := by
  show (RV.view as (.bo i)).bind _ = _
  rw [Wl h]; rfl
 unfold WD fP aC
 rw [zaR h]
 simp only [Option.bind_some, aN, RV.frz, e]
 rw [show Z2 [.lst (O.toDs os)] = some (.im (.int os.length)) by show some (R0.im (.int ((O.toDs os).length : Nat))) = _; rw [Xz]]
 rfl
theorem zjv {i : Nat} {ds : List D} (h : as[i]? = some (some (.lf s (.lst ds)))) : zap (fV i) as = some (kids s ds, as) := by
 unfold zap fV; rw [h]; rfl
theorem vD {g : GF} {f : SF} {d : It1} {r : List It1} {as1 as2 : AS} {o : Option Out} (h1 : g d as = some as1) (h2 : f as1 = some (.nx as2)) (h3 : forL g f r as2 = o) : forL g f (d :: r) as = o := by
 show (g d as).bind _ = _
 rw [h1]; show (f as1).bind _ = _
 rw [h2]; exact h3
theorem zhK {g : GF} {f : SF} {d : It1} {r : List It1} {as1 : AS} {o : O} (h1 : g d as = some as1) (h2 : f as1 = some (.rt o)) : forL g f (d :: r) as = some (.rt o) := by
 show (g d as).bind _ = _
 rw [h1]; show (f as1).bind _ = _
 rw [h2]; rfl
theorem zaz {i : Nat} {os : List O} (h : as[i]? = some (some (.nd .ls os))) (hl : os.length < sizeLine) (ha : WD a as s x) : yO (ww i (dC a dN) vm) as = some (.nx (as.set i (some (.nd .ls (os ++ [.lf s x]))))) := by
 unfold yO ww; rw [h]
 have e : dC a dN as = some ([.lf s x], as) := zW ha yt
 show ((dC a dN as).bind _).bind _ = _
 rw [e]; show (Option.bind (match as[i]? with | some (some (.nd .ls os)) => _ | _ => none) _) = _
 rw [h]; show ((vm os [.lf s x]).bind _).bind _ = _
 have e2 : vm os [.lf s x] = some (os ++ [.lf s x], .lf true .non) := by unfold vm; exact if_pos hl
 rw [e2]; rfl
theorem zhL {i : Nat} {os : List O} {k : Int} {o : O} (h : as[i]? = some (some (.nd .ls os))) (ha : WD a as s (.int k)) (h0 : 0 <= k) (h1 : k < os.length) (hs : os.length < 2 ^ 60) (ho : os[k.toNat]? = some o) : ww i (dC a dN) Xa as = some (.ow o, as.set i (some (.nd .ls (os.eraseIdx k.toNat)))) := by
 unfold ww; rw [h]
 have e : dC a dN as = some ([.lf s (.int k)], as) := zW ha yt
 show ((dC a dN as).bind _) = _
 rw [e]; show (match as[i]? with | some (some (.nd .ls os)) => _ | _ => none) = _
 rw [h]; show ((Xa os [.lf s (.int k)]).bind _) = _
 have e2 : Xa os [.lf s (.int k)] = some (os.eraseIdx k.toNat, o) := by
  unfold Xa
  show (if -(2 ^ 63) <= k /\ k < 2 ^ 63 then _ else _) = _
  rw [if_pos ⟨by omega, by omega⟩]
  have e3 : seqIndex? k os.length = some k.toNat := by unfold seqIndex?; simp; omega
  rw [e3]; show ((os[k.toNat]?).bind _) = _
  rw [ho]; rfl
 rw [e2]; rfl
theorem ziV {g : GF} {o : O} {as' : AS} (h : f as = some (.ow o, as)) (hg : g (o.str, o.toD) as = some as') : zes f g as = some (.nx as') := by
 unfold zes; rw [h]
 show (g (o.str, o.toD) as).bind _ = _
 rw [hg]; rfl
theorem zdy {i : Nat} {o : O} (h : as[i]? = some (some o)) (hs : o.str = true) : yp (fV i) as = some (.rt o) := by
 cases o with
 | lf st d => unfold yp fV; rw [h]; have : st = true := hs; subst this; rfl
 | nd k os =>
  unfold yp; rw [zaR h]; show (zjb as (.bo i)).bind _ = _
  rw [zjR h hs]; rfl
theorem zmC {g : D -> D -> Option R0} {oa ob : O} {zs : List D} {as1 as2 : AS} (ha : a as = some (.ow oa, as1)) (hb : b as1 = some (.ow ob, as2)) (hg : g oa.toD ob.toD = some (.fl zs)) : f2 a b g as = some (.ow (.nd .ls (zs.map (lfs (oa.str && ob.str)))), as2) := by
 unfold f2
 rw [ha]; show ((b as1).bind _) = _
 rw [hb]; show ((g oa.toD ob.toD).bind _) = _
 rw [hg]
 show (if (zs.all zL || (meet (some oa.str) (some ob.str)).isSome) = true then _ else _ : Option RV).bind _ = _
 rw [if_pos (by unfold meet; simp)]
 rfl
theorem v4 {g : D -> D -> Option R0} (ha : WD a as true x) (hb : WD b as true y) (hg : g x y = some (.im z)) : WD (f2 a b g) as true z := by
 have := zin ha hb hg
 rw [show (zL z || (true && true)) = true by simp] at this
 exact this
theorem Wu : ∀ zs : List D, zs.map (lfs true) = zs.map (O.lf true)
 | [] => rfl
 | z :: r => by
  show lfs true z :: r.map (lfs true) = _
  rw [Wu r]; unfold lfs; rw [Bool.or_true]; rfl
theorem zkF {g : D -> D -> Option R0} {oa ob : O} {zs : List D} {as1 as2 : AS} (ha : a as = some (.ow oa, as1)) (hb : b as1 = some (.ow ob, as2)) (hg : g oa.toD ob.toD = some (.fl zs)) (h1 : oa.str = true) (h2 : ob.str = true) : f2 a b g as = some (.ow (.nd .ls (zs.map (O.lf true))), as2) := by
 have := zmC ha hb hg
 rw [h1, h2, show (true && true) = true from rfl, Wu] at this
 exact this
theorem ZZ {fr : DF} {o : O} {os : List O} {as1 as2 : AS} (ha : a as = some (.ow o, as1)) (hr : fr as1 = some (os, as2)) : dC a fr as = some (o :: os, as2) := by
 unfold dC
 rw [ha]; show ((fr as1).bind _) = _
 rw [hr]; rfl
theorem add_lists {xs ys : List D} (h : xs.length + ys.length <= sizeLine) : zp .Add (.lst xs) (.lst ys) = some (.fl (xs ++ ys)) := if_pos h
theorem zcF (lo : Int) (n : Nat) : yL lo (n + 1) = (true, .int lo) :: yL (lo + 1) n := by
 unfold yL
 rw [List.range_succ_eq_map, List.map_cons, List.map_map]
 congr 1
 · simp
 · apply List.map_congr_left
   intro i _
   show (true, D.int _) = (true, D.int _)
   congr 2
   show lo + ((i + 1 : Nat) : Int) = _
   omega
theorem zkt {ty : Ty} {fr : AF} {rs : List (Bool × D)} {g : D -> List D -> Option R0} (ha : WD a as s y) (ht : zjT ty y = true) (hr : WA fr as rs) (hg : g y (rs.map (·.2)) = some (.im x)) (e : zL x = true) : WD (zbC ty a fr g) as true x := by
 unfold WD zbC; unfold WD at ha; unfold WA at hr
 rw [ha]
 show (if zjT ty y = true then _ else _ : Option (RV × AS)) = _
 rw [if_pos ht, hr]
 simp only [Option.bind_some, Ys]
 show ((g y (rs.map (·.2))).bind _) = _
 rw [hg]
 show (if (zL x || _) = true then _ else _ : Option RV).bind _ = _
 rw [if_pos (by rw [e]; rfl)]
 show some (RV.ow (.lf (zL x || _) x), as) = _
 rw [e]; rfl
theorem zgL {g : GF} {fe : EF} {as0 as1 : AS} {y : It1} {r : List It1} {os : List O} (h1 : g y as0 = some as1) (h2 : WD fe as1 true x) (h3 : xF g wk fe as0 r = some os) : xF g wk fe as0 (y :: r) = some (.lf true x :: os) := by
 show (g y as0).bind _ = _
 rw [h1]; show (fe as1).bind _ = _
 unfold WD at h2
 rw [h2]; show (xF g wk fe as0 r).bind _ = _
 rw [h3]; rfl
theorem zbk {fi : IF} {cap : List (Option Nat)} {g : GF} {tt : TF} {fe : EF} {xs : List It1} {os : List O} (h1 : fi as = some (xs, as)) (hl : xs.length <= sizeLine) (h2 : xF g tt fe (Z4 cap as) xs = some os) : yE fi cap g tt fe as = some (.ow (.nd .ls os), as) := by
 unfold yE
 rw [h1]; show (if xs.length <= sizeLine then _ else _) = _
 rw [if_pos hl]; show (xF g tt fe (Z4 cap as) xs).bind _ = _
 rw [h2]; rfl
theorem zbs {fr : AF} {rs : List RV} {xs : List (Bool × D)} {o : O} {g : List (Bool × D) -> Option O} (ha : fr as = some (rs, as)) (hx : YG as rs = some xs) (hg : g xs = some o) : zG fr g as = some (.ow o, as) := by
 unfold zG
 rw [ha]; show (YG as rs).bind _ = _
 rw [hx]; show (g xs).bind _ = _
 rw [hg]; rfl
end
theorem szl {n : Nat} (h : Nat.ble n 1000 = true) : n <= sizeLine := Nat.le_of_lt (yq (Nat.le_of_ble_eq_true h))
theorem zE {a b : Nat} (h : Nat.ble (a + 1) b = true) : a < b := Nat.le_of_ble_eq_true h
theorem zM {i : Int} (h0 : -(10 ^ 200) < i) (h1 : i < 10 ^ 200) : i.natAbs < big := by
 have : (10 : Nat) ^ 200 < big := by unfold big; decide +kernel
 have e : ((10 ^ 200 : Nat) : Int) = (10 : Int) ^ 200 := by norm_cast
 have : (i.natAbs : Int) < ((10 ^ 200 : Nat) : Int) := by rw [e]; omega
 omega
theorem zkw {ns : List Int} {k : Int} (h0 : 0 <= k) (h1 : k < ns.length) : ∃ x, ixP (.lst (ns.map D.int)) (.int k) = some (.im (.int x)) := by
 have hk : k.toNat < ns.length := by omega
 refine ⟨ns[k.toNat], ?_⟩
 have h := Wk (xs := ns.map D.int) (j := k.toNat) (v := D.int ns[k.toNat]) (by rw [zzF, zzB hk]; rfl)
 rw [show ((k.toNat : Nat) : Int) = k by omega] at h
 show imR (atI _ _) = _
 rw [h]; rfl
section
variable {X : Cx} {kd : KD} {K : zC} {mg : Str -> Option Value}
def spL (K : zC) (g : Fn) : Sp := λ vs H Q E => ∀ kd : KD, spD K kd g vs H Q E
end
def lfO : O -> Option (Bool × D)
 | .lf s d => some (s, d)
 | _ => none
theorem zjr {o : O} {p : Bool × D} (h : lfO o = some p) : o = .lf p.1 p.2 := by
 cases o with
 | lf s d => cases h; rfl
 | nd k os => cases h
def zhO (i j : Nat) (fd : DF) : SF := λ as => (fd as).bind λ p => (znH p.1).bind λ o => (lfO o.1).bind λ a => (lfO o.2).bind λ b => if i < p.2.length /\ j < p.2.length then some (.nx ((p.2.set i (some (.lf a.1 a.2))).set j (some (.lf b.1 b.2)))) else none
section
variable {X : Cx} {kd : KD} {a b : Expr} {fd : DF} {pos : Pos}
theorem zmH {i j : Nat} {x y : Str} {px py pt : Pos} {kt k2 pt2} (hc : X.calm = true) (hN : X.N.Nodup) (hi : X.N[i]? = some x) (hj : X.N[j]? = some y) (hij : i ≠ j)
 (hx : X.env.scope.names.lookup x = some .local) (hy : X.env.scope.names.lookup y = some .local) (ha : AD X kd [a, b] fd)
 (hw : swappedStores [.Tuple [.Name x px, .Name y py] kt pt] (.Tuple [a, b] k2 pt2) X.env = pure (some [x, y]))
 (hs : swapsWithSole [.Tuple [.Name x px, .Name y py] kt pt] (.Tuple [a, b] k2 pt2) pos.line X.env = pure false) :
 ASt X kd (.Assign [.Tuple [.Name x px, .Name y py] kt pt] (.Tuple [a, b] k2 pt2) pos) (zhO i j fd) := by with_unfolding_all exact (wF (zlT hc hN hi hj hij hx hy ha hw hs) λ D σ H h => by
 obtain ⟨F, B, ad, as, o, R, e, q⟩ := h
 obtain ⟨⟨os, as1⟩, h1, e⟩ := bS_ (show (fd as).bind _ = _ from e)
 obtain ⟨⟨o1, o2⟩, e1, e⟩ := bS_ e
 obtain ⟨⟨s1, d1⟩, e2, e⟩ := bS_ e
 obtain ⟨⟨s2, d2⟩, e3, e⟩ := bS_ e
 cases zjx e1
 cases zjr e2
 cases zjr e3
 · obtain ⟨⟨l1, l2⟩, e⟩ := zR e
   cases e
   refine ⟨F, B, ad, as, _, as1, R, h1, λ vs T' ad' H' R' rl g => ?_⟩
   cases rl with
   | cons ra rb =>
    cases rb with
    | cons rb rn =>
     cases rn
     cases ra with
     | lf ra =>
      cases rb with
      | lf rb =>
       refine ⟨_, _, rfl, ?_⟩
       have R2 := R'.put (T := []) (i := i) (o := .lf s1 d1) l1 (.lf ra)
       have R3 := R2.put (T := []) (i := j) (o := .lf s2 d2) (by rw [zzR]; exact l2) (RoS.less yX (.lf rb))
       exact q _ _ _ R3 (g.trans (Grow.less λ a z => yX a (yX a z))))
end
inductive Ents (w : World) : List DictEntry -> List (Key × V) -> Prop
 | nil : Ents w [] []
 | str {x : Str} {t : Tok} {v : V} {u : Value} {r : List DictEntry} {s : List (Key × V)} : RelV v u -> Ents w r s -> Ents w (⟨PyData.keyHash w.params x, .str x t, u⟩ :: r) ((.inr x, v) :: s)
theorem Ents.keys {P : Program} {w : World} : ∀ {es : List DictEntry} {kvs : List (Key × V)}, Ents w es kvs -> ∀ e ∈ es, ∃ k, (xu P w).is k e.key = true /\ e.hash = (xu P w).hash k
 | _, _, .nil, _, m => nomatch m
 | _, _, .str (x := x) (t := t) _ r, e, m => by
  rcases zS.mp m with rfl | m
  · exact ⟨.inr x, Xx P w x t, rfl⟩
  · exact r.keys e m
theorem Ents.pairs {P : Program} {w : World} : ∀ {es : List DictEntry} {kvs : List (Key × V)}, Ents w es kvs -> ∃ vs, KV kvs vs /\ Pairs (xu P w) es vs /\ vs.map (·.1) = kvs.map (·.1)
 | _, _, .nil => ⟨[], .nil, .nil, rfl⟩
 | _, _, .str (x := x) (t := t) (u := u) h r => by
  obtain ⟨vs, h1, h2, h3⟩ := r.pairs (P := P)
  exact ⟨(.inr x, u) :: vs, .cons ⟨rfl, h⟩ h1, .cons (Xx P w x t) rfl h2, by rw [List.map_cons, List.map_cons, h3]⟩
structure DctAt (w : World) (K : zC) (a : Addr) (kvs : List (Key × V)) : Prop where
 ex : ∃ es ep, K.lookup a = some { cls := .type "dict", data := .dict es ep } /\ Ents w es.toList kvs
 nd : (kvs.map (·.1)).Nodup
 le : kvs.length <= sizeLine
 ns : (a == sysModules) = false
def kdL (l : List (Addr × List (Key × V))) (c : Str -> Addr := λ _ => 0) : KD := ⟨λ a k => l.lookup a = some k, c⟩
theorem lookup_mem {l : List (Addr × List (Key × V))} {a : Addr} {k : List (Key × V)} (h : l.lookup a = some k) : (a, k) ∈ l := by
 induction l with
 | nil => cases h
 | cons p r ih =>
  rw [List.lookup_cons] at h
  by_cases e : a = p.1
  · subst e
    rw [beq_self_eq_true] at h
    cases h
    exact zzC
  · rw [show (a == p.1) = false from beq_eq_false_iff_ne.mpr e] at h
    exact zzA _ (ih h)
theorem zmt {P : Program} {w : World} {K : zC} {l : List (Addr × List (Key × V))} {c : Str -> Addr} (h : ∀ p ∈ l, DctAt w K p.1 p.2) : KD1 P w K (kdL l c) := λ X e1 e2 e3 => by
 subst e1; subst e2; subst e3
 refine ⟨λ a k k' h1 h2 => Option.some.inj (h1.symm.trans h2), λ a k h1 => ?_, λ a k hp h1 hin => ?_⟩
 · obtain ⟨es, ep, e, _⟩ := (h _ (lookup_mem h1)).ex
   exact ⟨_, e⟩
 · have q := h _ (lookup_mem h1)
   obtain ⟨es, ep, e, en⟩ := q.ex
   obtain ⟨vs, h2, h3, h4⟩ := en.pairs (P := X.prog)
   refine ⟨q.le, q.ns, vs, h2, _, es, ep, hin _ _ e, ⟨rfl, rfl, rfl⟩, rfl, λ x m => en.keys x (by simpa using m), h3, by rw [h4]; exact q.nd⟩
def isStar : Expr -> Bool
 | .Starred .. => true
 | _ => false
theorem za {a : Expr} {es : List Expr} {env : Env} (h : isStar a = false) : starEach (a :: es) env = (false, eval a env) :: starEach es env := by
 cases a <;> first | rfl | cases h
section
variable {as : AS} {f a b c : EF} {s t u : Bool} {x y z : D} {i j k : Int}
theorem ziW {cc : TF} {g : SF} {n : Nat} {as1 : AS} {o : Option Out} (h : WT cc as true) (h1 : g as = some (.nx as1)) (h2 : whL cc g n as1 = o) : whL cc g (n + 1) as = o := by
 unfold WT at h
 show (cc as).bind _ = _
 rw [h]; show (g as).bind _ = _
 rw [h1]; exact h2
theorem zjp {cc : TF} {g : SF} {n : Nat} (h : WT cc as false) : whL cc g (n + 1) as = some (.nx as) := by
 unfold WT at h
 show (cc as).bind _ = _
 rw [h]; rfl
theorem zmW {p q : Nat} {fd : DF} (h : WO fd as [.lf s x, .lf t y]) (hi : p < as.length) (hj : q < as.length) : zhO p q fd as = some (.nx ((as.set p (some (.lf s x))).set q (some (.lf t y)))) := by
 unfold zhO; unfold WO at h
 rw [h]; show (if _ then _ else _) = _
 rw [if_pos ⟨hi, hj⟩]
theorem zho {g : GF} {tt : TF} {fe : EF} {as0 as1 : AS} {w : It1} {r : List It1} {o : Option (List O)} (h1 : g w as0 = some as1) (h2 : WT tt as1 false) (h3 : xF g tt fe as0 r = o) : xF g tt fe as0 (w :: r) = o := by
 unfold WT at h2
 show (g w as0).bind _ = _
 rw [h1]; show (tt as1).bind _ = _
 rw [h2]; exact h3
def WE (f : EF) (as : AS) (x : D) : Prop := ∃ o, f as = some (.ow o, as) /\ o.str = true /\ o.toD = x
def RE (r : Option O) (x : D) : Prop := ∃ o, r = some o /\ o.str = true /\ o.toD = x
theorem WD.e (h : WD f as true x) : WE f as x := ⟨_, h, rfl, rfl⟩
theorem v9 {fr : DF} {os : List O} (h : WO fr as os) (hl : os.length <= sizeLine) (hs : O.strs os = true) (e : D.lst (O.toDs os) = x) : WE (wH fr) as x := ⟨_, Zm h hl, hs, e⟩
theorem zch {fr : AF} {rs : List (Bool × D)} (h : WE a as x) (hr : WA fr as rs) : WA (aC a fr) as ((true, x) :: rs) := by
 obtain ⟨o, h1, h2, rfl⟩ := h
 have := zhY h1 hr
 rw [h2] at this
 exact this
theorem zaf {g : List (Bool × D) -> Option O} (ha : WE a as x) (hg : RE (g [(true, x)]) z) : WE (zG (aC a aN) g) as z := by
 obtain ⟨o, h1, h2, h3⟩ := hg
 exact ⟨o, Ws (zch ha zP) (by show g [(zL x || true, x)] = _; rw [Bool.or_true]; exact h1), h2, h3⟩
theorem zdb {g : List (Bool × D) -> Option O} (ha : WE a as x) (hb : WE b as y) (hg : RE (g [(true, x), (true, y)]) z) : WE (zG (aC a (aC b aN)) g) as z := by
 obtain ⟨o, h1, h2, h3⟩ := hg
 exact ⟨o, Ws (zch ha (zch hb zP)) (by show g [(zL x || true, x), (zL y || true, y)] = _; rw [Bool.or_true, Bool.or_true]; exact h1), h2, h3⟩
theorem zfG {w : D} {g : List (Bool × D) -> Option O} (ha : WE a as x) (hb : WE b as y) (hc : WE c as w) (hg : RE (g [(true, x), (true, y), (true, w)]) z) : WE (zG (aC a (aC b (aC c aN))) g) as z := by
 obtain ⟨o, h1, h2, h3⟩ := hg
 exact ⟨o, Ws (zch ha (zch hb (zch hc zP))) (by show g [(zL x || true, x), (zL y || true, y), (zL w || true, w)] = _; rw [Bool.or_true, Bool.or_true, Bool.or_true]; exact h1), h2, h3⟩
theorem f2E {g : D -> D -> Option R0} (ha : WE a as x) (hb : WE b as y) (hg : g x y = some (.im z)) : WD (f2 a b g) as true z := by
 obtain ⟨o, h1, h2, rfl⟩ := ha
 obtain ⟨p, h3, h4, rfl⟩ := hb
 have := znO h1 h3 hg
 rw [h2, h4, Bool.and_true, Bool.or_true] at this
 exact this
theorem f2L {g : D -> D -> Option R0} {zs : List D} (ha : WE a as x) (hb : WE b as y) (hg : g x y = some (.fl zs)) : f2 a b g as = some (.ow (.nd .ls (zs.map (O.lf true))), as) := by
 obtain ⟨o, h1, h2, rfl⟩ := ha
 obtain ⟨p, h3, h4, rfl⟩ := hb
 exact zkF h1 h3 hg h2 h4
theorem zbG : ∀ zs : List D, O.strs (zs.map (O.lf true)) = true
 | [] => rfl
 | _ :: r => zbG r
theorem zaT : ∀ zs : List D, O.toDs (zs.map (O.lf true)) = zs
 | [] => rfl
 | z :: r => congrArg (z :: ·) (zaT r)
theorem znM {g : D -> D -> Option R0} {zs : List D} (ha : WE a as x) (hb : WE b as y) (hg : g x y = some (.fl zs)) : WE (f2 a b g) as (.lst zs) := ⟨_, f2L ha hb hg, zbG zs, congrArg D.lst (zaT zs)⟩
theorem Xn {p : Nat} (h : WE f as x) (hi : p < as.length) : zJ true p f as = some (.nx (as.set p (some (.lf true x)))) := by
 obtain ⟨o, h1, h2, rfl⟩ := h
 have := zjE h1 hi
 rw [show o.frz = .lf true o.toD by unfold O.frz; rw [h2]] at this
 exact this
theorem zlM {q : Bool} (ha : WE a as x) (hb : WE b as y) (h : eqF 60 x y = some q) : WD (f2 a b (yj .Eq)) as true (.bl q) := f2E ha hb (by show (eqF 60 x y).bind _ = _; rw [h]; rfl)
theorem zmI {fr : DF} {o : O} {os : List O} (ha : a as = some (.ow o, as)) (hr : WO fr as os) : WO (dC a fr) as (o :: os) := ZZ ha hr
theorem zfa {fr : DF} {os : List O} (h : WO fr as os) (hl : os.length <= sizeLine) : yV fr as = some (.ow (ZV os), as) := by
 unfold yV; unfold WO at h
 rw [h]; show (if os.length <= sizeLine then some (RV.ow (ZV os), as) else _) = _
 rw [if_pos hl]
theorem zjd {xs ys : List D} : slP (.lst (xs ++ ys)) (some (xs.length : Int)) none = some (.fl ys) := by
 show some (R0.fl (cutD (xs ++ ys) (some (xs.length : Int)) none)) = _
 congr 2
 unfold cutD
 rw [HT.zbn, HT.zeV, zzG, Nat.min_eq_left (by omega), List.drop_left, List.take_of_length_le (by omega)]
theorem zdB : ∀ ds : List D, kids true ds = ds.map λ d => (true, d)
 | [] => rfl
 | d :: r => by show (zL d || true, d) :: kids true r = _; rw [zdB r, Bool.or_true]; rfl
theorem zhX {ds : List D} (h : WE f as (.lst ds)) : Wx f as = some (ds.map λ d => (true, d), as) := by
 obtain ⟨o, h1, h2, h3⟩ := h
 unfold Wx
 rw [h1]; show (zeo (o.str, o.toD)).bind _ = _
 rw [h2, h3]; show some (kids true ds, as) = _
 rw [zdB]
theorem zld {ds : List D} (h : WD f as true (.lst ds)) : zap f as = some (ds.map λ d => (true, d), as) := by
 unfold zap; unfold WD at h
 rw [h]; show some (kids true ds, as) = _
 rw [zdB]
end
def zaO : List D -> Option (List Str)
 | [] => some []
 | .str x :: r => (zaO r).bind λ s => some (x :: s)
 | _ :: _ => none
theorem zki {K : zC} {kd : KD} {O : Addr -> Prop} {H : Hp} {vs : List V} {us : List Value} {ds : List D} {ns : List Str} (h : RpL K kd O H vs ds) (hv : Vals vs us) (e : zaO ds = some ns) : StrsAre us ns :=
 RpL.ind (P := λ vs ds => ∀ us ns, Vals vs us -> zaO ds = some ns -> StrsAre us ns) (λ us ns hv e => by cases e; cases hv; exact .nil) (λ {v d vs ds} a _ ih us ns hv e => by
  cases hv with
  | cons b t =>
   cases a with
   | str x =>
    obtain ⟨ys, h1, h2⟩ := bS_ (show (zaO _).bind _ = _ from e)
    cases h2
    obtain ⟨tk, rfl⟩ := b
    exact .cons _ _ (ih _ _ t h1)
   | _ => cases e) h us ns hv e
def zec : D -> List D -> Option R0
 | .str sep, [.lst ds] => (zaO ds).bind λ ys => if (ys.map (·.length)).sum + ys.length * sep.length <= 16777216 then some (.im (.str (Txt.join sep ys))) else none
 | _, _ => none
section
variable {X : Cx} {kd : KD}
theorem zjD : MtD X kd "str.join" zec := by
 intro pins s σ H x xs v us Q I rx r h
 obtain ⟨O, d, ds, r0, ht, vx, vl, he, q⟩ := h
 unfold zec at he
 split at he
 · rename_i sep es
   obtain ⟨ys, h1, he⟩ := bS_ he
   obtain ⟨hz, he⟩ := zR he
   cases he
   cases vx
   obtain ⟨t, rfl⟩ := rx
   obtain ⟨y, rfl, vy⟩ := zjL vl
   cases vy with
   | lst hr rl =>
    obtain ⟨u, rfl, ru⟩ := vals1 r
    cases ru
    obtain ⟨its, rv, pl, _⟩ := I.list hr.sq
    exact join_list pl.isList (zki rl (by simpa using rv) h1) hz λ t' k => ⟨.str _, H, I.tok _, ⟨t', rfl⟩, yg q (.str _)⟩
 · cases he
def zoG : D -> Option R0
 | .str x => if x.length <= 640 then (PySem.intText? x).bind λ n => some (.im (.int n)) else none
 | d => zoU d
def Yu : List D -> Option R0 := on1 zoG
theorem Z3 : CallD X kd (.type "int") Yu := by
 intro pins s σ H xs us Q I r h
 obtain ⟨O, ds, z, ht, vl, he, q⟩ := h
 obtain ⟨x, d, rfl, vx, he⟩ := zdI vl he
 cases vx with
 | str y =>
  obtain ⟨hl, he⟩ := ite_some' he
  obtain ⟨n, hn, he⟩ := bS_ he
  cases he
  obtain ⟨u, rfl, ru⟩ := vals1 r
  obtain ⟨t, rfl⟩ := ru
  exact PySem.W.KIN.call_text hn hl ⟨.int _, H, I.tok _, ⟨_, rfl⟩, yg q (.int _)⟩
 | int i => cases he; exact zcE pins s σ H _ us Q I r (.inl ⟨_, rfl, yg q (.int _)⟩)
 | bl b => cases he; exact zcE pins s σ H _ us Q I r (.inr ⟨_, rfl, yg q (.int _)⟩)
 | _ => cases he
end
theorem zjo (sep : Str) (ys : List Str) : Txt.join sep ys = Str.join sep ys := StrLaws.glued_eq_join sep ys
section
variable {as : AS} {f a b : EF} {s t : Bool} {x y z : D}
theorem ziZ {xs ys : List D} : slP (.lst (xs ++ ys)) none (some (xs.length : Int)) = some (.fl xs) := by
 show some (R0.fl (cutD (xs ++ ys) none (some (xs.length : Int)))) = _
 congr 2
 unfold cutD
 rw [HT.zbn, HT.zeV, zzG, Nat.min_eq_left (by omega), List.drop_zero, Nat.sub_zero, List.take_left]
end
section
variable {X : Cx} {kd : KD} {tg e : Expr} {fa : EF}
theorem zjX {K : zC} {F B : Addr -> Prop} {ad : Ad} {H : Hp} {v : V} {st q : Bool} {ds : List D} (rp : Rp K kd (Lv F B (Gw [] ad) st) H v (.lst ds)) (hq : q = true -> st = true) : ∃ a vs, v = .ref a /\ (∀ (ad3 : Ad) (H3 : Hp), Grow (Gw [] ad) H (Gw [] ad3) H3 -> SqL K H3 a vs) /\ RpL K kd (Lv F B (Gw [] ad) q) H vs ds := by
 have le : ∀ a, Lv F B (Gw [] ad) q a -> Lv F B (Gw [] ad) st a := λ a z => z.imp (λ y => y.imp (λ x => ⟨hq x.1, x.2⟩) id) id
 cases rp with
 | lst hn hr rl => exact ⟨_, _, rfl, λ ad3 H3 g3 => .inl (VN g3 (λ z => hn (.inr z)) hr), rl.less le⟩
 | lstK a b c rl => exact ⟨_, _, rfl, λ ad3 H3 g3 => .inr ⟨_, _, _, a, rfl, rfl, rfl, b, c⟩, rl.less le⟩
end
def insI (x : Int) : List Int -> List Int
 | [] => [x]
 | y :: r => if x <= y then x :: y :: r else y :: insI x r
def sortI : List Int -> List Int
 | [] => []
 | x :: r => insI x (sortI r)
theorem insI_perm (x : Int) : ∀ l : List Int, (insI x l).Perm (x :: l)
 | [] => List.Perm.refl _
 | y :: r => by
  unfold insI
  split
  · exact List.Perm.refl _
  · exact ((insI_perm x r).cons y).trans (List.Perm.swap x y r)
theorem sortI_perm : ∀ l : List Int, (sortI l).Perm l
 | [] => List.Perm.refl _
 | x :: r => (insI_perm x (sortI r)).trans ((sortI_perm r).cons x)
theorem zaI (x : Int) : ∀ l : List Int, l.Pairwise (· <= ·) -> (insI x l).Pairwise (· <= ·)
 | [], _ => by simp [insI]
 | y :: r, h => by
  unfold insI
  rw [List.pairwise_cons] at h
  split
  · rename_i hxy
    rw [List.pairwise_cons, List.pairwise_cons]
    refine ⟨λ z hz => ?_, h⟩
    rcases zS.mp hz with rfl | hz
    · exact hxy
    · exact Int.le_trans hxy (h.1 z hz)
  · rename_i hxy
    rw [List.pairwise_cons]
    refine ⟨λ z hz => ?_, zaI x r h.2⟩
    rcases zS.mp ((insI_perm x r).mem_iff.mp hz) with rfl | hz
    · omega
    · exact h.1 z hz
theorem Y8 : ∀ l : List Int, (sortI l).Pairwise (· <= ·)
 | [] => List.Pairwise.nil
 | x :: r => zaI x _ (Y8 r)
theorem zcG : ∀ (a b : List Int), a.Perm b -> a.Pairwise (· <= ·) -> b.Pairwise (· <= ·) -> a = b
 | [], b, p, _, _ => by rw [List.nil_perm] at p; exact p.symm
 | x :: r, [], p, _, _ => by rw [List.perm_nil] at p; cases p
 | x :: r, y :: t, p, ha, hb => by
  rw [List.pairwise_cons] at ha hb
  have hxy : x = y := by
   have h1 : x ∈ y :: t := p.mem_iff.mp (zzC ..)
   have h2 : y ∈ x :: r := p.mem_iff.mpr (zzC ..)
   rcases zS.mp h1 with e | e
   · exact e
   · rcases zS.mp h2 with e' | e'
     · exact e'.symm
     · have := hb.1 x e
       have := ha.1 y e'
       omega
  subst hxy
  rw [zcG r t (List.Perm.cons_inv p) ha.2 hb.2]
theorem ints_of {K : zC} {kd : KD} {O : Addr -> Prop} {H : Hp} {vs : List V} {us : List Value} {ds : List D} {ns : List Int} (h : RpL K kd O H vs ds) (hv : Vals vs us) (e : Xj ds = some ns) : IntsAre us ns :=
 RpL.ind (P := λ vs ds => ∀ us ns, Vals vs us -> Xj ds = some ns -> IntsAre us ns) (λ us ns hv e => by cases e; cases hv; exact .nil) (λ {v d vs ds} a _ ih us ns hv e => by
  cases hv with
  | cons b t =>
   cases a with
   | int x =>
    obtain ⟨ys, h1, h2⟩ := bS_ (show (Xj _).bind _ = _ from e)
    cases h2
    obtain ⟨tk, rfl⟩ := b
    exact .cons _ _ (ih _ _ t h1)
   | _ => cases e) h us ns hv e
theorem Yr : ∀ {us : List Value} {ns : List Int}, IntsAre us ns -> Vals (ns.map V.int) us
 | _, _, .nil => .nil
 | _, _, .cons n t r => .cons ⟨t, rfl⟩ (Yr r)
theorem zeR {K : zC} {kd : KD} {O : Addr -> Prop} {H : Hp} : ∀ ns : List Int, RpL K kd O H (ns.map V.int) (ns.map D.int)
 | [] => .nil
 | y :: r => .cons (.int y) (zeR r)
def ziO : List D -> Option R0 := on1 λ x => (asL x).bind λ ds => (Xj ds).bind λ ns => if ns.length < 64 then some (.fl ((sortI ns).map .int)) else none
section
variable {X : Cx} {kd : KD}
theorem zfb : CallD X kd (.builtin "sorted") ziO := by
 intro pins s σ H xs us Q I r h
 obtain ⟨O, ds, z, ht, vl, he, q⟩ := h
 obtain ⟨x, d, rfl, vx, he⟩ := zdI vl he
 obtain ⟨ds, h0, he2⟩ := bS_ (show (asL d).bind _ = _ from he)
 cases zdg h0
 · obtain ⟨ns, h1, he⟩ := bS_ he2
   obtain ⟨hz, he⟩ := zR he
   cases he
   cases vx with
   | lst hr rl =>
    obtain ⟨u, rfl, ru⟩ := vals1 r
    cases ru
    obtain ⟨its, rv, pl, _⟩ := I.list hr.sq
    have hI := ints_of rl rv h1
    have hl := hI.length
    refine sorted_ints pl.isList hI (by omega) λ out ns' a1 a2 a3 => ?_
    have e : ns' = sortI ns := zcG _ _ (a2.trans (sortI_perm ns).symm) a3 (Y8 ns)
    subst e
    obtain ⟨ee, hob⟩ := sortedAll_at s.heap its out
    have hn : H (s.heap.objs.size + 1) = none := I.hok.fresh (Nat.le_succ _)
    refine ⟨.ref (s.heap.objs.size + 1), _, I.laid (t' := s.toks) (λ b o e => sortedAll_old e) (Nat.le_succ _) (show wI X.prog X.w _ _ _ (.lst ((sortI ns).map V.int)) from ⟨?_, out.toList, ee, Yr a1, by simpa [seqObj] using hob⟩), rfl, zaB q (zeR _) _ hn⟩
    rw [zD, (sortI_perm ns).length_eq]
    exact Nat.le_of_lt (yq (by omega))
end
theorem zaU : ∀ {vs : List V} {us : List Value}, vs.length = us.length -> (∀ (i : Nat) v u, vs[i]? = some v -> us[i]? = some u -> RelV v u) -> Vals vs us
 | [], [], _, _ => .nil
 | [], _ :: _, h, _ => by simp at h
 | _ :: _, [], h, _ => by simp at h
 | v :: vs, u :: us, h, k => .cons (k 0 v u rfl rfl) (zaU (by simpa using h) λ i a b x y => k (i + 1) a b (by simpa using x) (by simpa using y))
section
variable {X : Cx} {tg : Expr}
def zng (ta : TA) : TE := λ σ H Q => ta σ H λ vs H1 => ∃ j : Int, vs = [.int j] /\ -(2 ^ 62) <= j /\ j < 2 ^ 62 /\ ∀ r, H1 r = none -> Q (.ref r) (upd H1 r (.rng 0 j))
theorem ziR {a : Expr} {ta : TA} {p pos : Pos} (hg : Gl X "range") (hm : X.mg "range" = none) (ha : PA X [a] ta) (hs : starEach [a] X.env = [(false, eval a X.env)]) : PE X (.Call (.Name "range" p) [a] [] pos) (zng ta) := by
 intro pins s σ H Q I h
 refine Call_ (zac I hg hm boot_range (PyProof.Rows.callWith_type1 (thn (ha pos pins s σ H _ I h) λ us s1 ⟨vs, H1, I1, r1, q1⟩ => ?_) hs rfl))
 obtain ⟨j, e, b1, b2, q⟩ := q1
 subst e
 cases r1 with
 | cons r rr =>
  cases rr
  obtain ⟨t, rfl⟩ := r
  exact call_range_1 ⟨.ref s1.heap.objs.size, _, I1.laid (λ b o e => Heap.get?_push_of_some _ e) (zzK _) (show wI X.prog X.w _ _ _ (.rng 0 j) from ⟨_, _, _, Heap.get?_push_size _ rfl⟩), rfl, q _ (I1.hok.fresh (zzK _))⟩
def tLR (ta : TA) : TE := λ σ H Q => zlj (zng ta) znX σ H λ vs H2 => ∃ r H1, ∃ j : Int, vs = [.ref r] /\ H1 r = none /\ H2 = upd H1 r (.rng 0 j) /\ 0 <= j /\ j <= 100000 /\ ∀ l, H2 l = none -> Q (.ref l) (upd H2 l (.lst ((List.range j.toNat).map λ (i : Nat) => V.int i)))
theorem zgZ {a : Expr} {ta : TA} {p p' pos pos' : Pos} (hc : X.calm = true) (hg : Gl X "range") (hm : X.mg "range" = none) (hgl : Gl X "list") (hml : X.mg "list" = none) (ha : PA X [a] ta) (hs : starEach [a] X.env = [(false, eval a X.env)])
 (hs' : starEach [.Call (.Name "range" p) [a] [] pos] X.env = [(false, eval (.Call (.Name "range" p) [a] [] pos) X.env)]) : PE X (.Call (.Name "list" p') [.Call (.Name "range" p) [a] [] pos] [] pos') (tLR ta) := by
 intro pins s σ H Q I h
 refine Call_ (zac I hgl hml Bt.list (PyProof.Rows.callWith_type1 (thn ((Wt (ziR hg hm ha hs) zcW hs') pos' pins s σ H (λ vs H2 => ∃ r H1, ∃ j : Int, vs = [.ref r] /\ H1 r = none /\ H2 = upd H1 r (.rng 0 j) /\ 0 <= j /\ j <= 100000 /\ ∀ l, H2 l = none -> Q (.ref l) (upd H2 l (.lst ((List.range j.toNat).map λ (i : Nat) => V.int i)))) I ?_) λ us s1 ⟨vs, H2, I2, r1, q1⟩ => ?_) hs' rfl))
 · exact h
 obtain ⟨r, H1, j, rfl, hn, rfl, h0, h1, q⟩ := q1
 cases r1 with
 | cons rr rs =>
  cases rs
  cases rr
  obtain ⟨t, u, v, ho⟩ := I2.hok r _ (yz ..)
  have hsz : Builtin.Range.rangeSize 0 j 1 = (j.toNat : Nat) := by rw [rangeSize_one]; split <;> omega
  refine call_list_range (I2.ok.hd hc) ho (small_one (by omega) (by omega) (by omega) (by omega)) (n := j.toNat) (by exact_mod_cast hsz) (by omega) λ h' tk acc c' hk hob hit => ?_
  refine ⟨.ref s1.heap.objs.size, _, I2.laid hk (zzK _) (show wI X.prog X.w _ _ _ (.lst ((List.range j.toNat).map λ (i : Nat) => V.int i)) from ⟨?_, acc.toList, c', ?_, by simpa using hob⟩), rfl, q _ (I2.hok.fresh (zzK _))⟩
  · rw [zD, List.length_range]; exact zzL (show j.toNat <= 100000 by omega) (by decide)
  · refine zaU (by rw [zD, List.length_range]; simpa using hit.1.symm) λ i x y hx hy => ?_
    rw [zzF] at hx
    obtain ⟨tk', e⟩ := hit.2 i y (by simpa using hy)
    cases hr : (List.range j.toNat)[i]? with
    | none => rw [hr] at hx; cases hx
    | some k =>
     rw [hr] at hx
     obtain ⟨_, hk'⟩ := zzD.mp hr
     rw [List.getElem_range] at hk'
     subst hk'
     cases hx
     exact ⟨tk', by rw [e]; simp⟩
end
section
variable {X : Cx} {kd : KD}
def lrP : List D -> Option R0
 | [.int j] => if 0 <= j /\ j <= 100000 then some (.fl ((List.range j.toNat).map λ (i : Nat) => .int i)) else none
 | _ => none
theorem zgb {K : zC} {O : Addr -> Prop} {H : Hp} : ∀ l : List Nat, RpL K kd O H (l.map λ (i : Nat) => V.int i) (l.map λ (i : Nat) => D.int i)
 | [] => .nil
 | y :: r => .cons (.int y) (zgb r)
theorem zhl {a : Expr} {fr : AF} {p p' pos pos' : Pos} (hc : X.calm = true) (hg : Gl X "range") (hm : X.mg "range" = none) (hgl : Gl X "list") (hml : X.mg "list" = none) (ha : AA X kd [a] fr) (hs : starEach [a] X.env = [(false, eval a X.env)])
 (hs' : starEach [.Call (.Name "range" p) [a] [] pos] X.env = [(false, eval (.Call (.Name "range" p) [a] [] pos) X.env)]) : AE X kd (.Call (.Name "list" p') [.Call (.Name "range" p) [a] [] pos] [] pos') (fP fr lrP) := by
 with_unfolding_all exact (wG (zgZ hc hg hm hgl hml ha hs hs') λ σ H Q h => by
  obtain ⟨F, B, ad, as, r, as', R, e, q⟩ := h
  obtain ⟨⟨rs, as1⟩, h1, e⟩ := bS_ (show (fr as).bind _ = _ from e)
  obtain ⟨⟨ds, lv⟩, h2, e⟩ := bS_ e
  obtain ⟨r0, h3, e⟩ := bS_ e
  obtain ⟨z, h4, e⟩ := bS_ e
  cases e
  match ds, h3, h2 with
  | [.int j], h3, h2 =>
   obtain ⟨⟨b1, b2⟩, e3⟩ := zR (show (if 0 <= j /\ j <= 100000 then some (R0.fl ((List.range j.toNat).map λ (i : Nat) => .int i)) else none) = some r0 from h3)
   cases e3
   refine (show alA X.K kd fr σ H _ from ⟨F, B, ad, as, rs, as1, R, h1, λ vs ad1 H1 R1 rv1 g1 => ?_⟩)
   have vl := Wn R1 rv1 h2
   have rq := Vt R1 h4 (Q := Q) λ w T' H' R' rv' g' => q w T' ad1 H' R' rv' (g1.trans g')
   cases vl with
   | cons v1 v2 =>
    cases v2
    cases v1
    refine ⟨j, rfl, by omega, by omega, λ r hr => ⟨r, H1, j, rfl, hr, rfl, b1, b2, λ l hl => ?_⟩⟩
    have hlr : l ≠ r := λ e => by rw [e, yz] at hl; cases hl
    have hl1 : H1 l = none := by rw [zX hlr] at hl; exact hl
    exact rq l _ _ hl1 (λ b o q => VM hl b o (VM hr b o q)) yz (zgb _))
end
theorem zkO {L : Bool -> V -> D -> Prop} {N : Addr -> Prop} {H : Hp} {vs : List V} {ls : List O} {fp : List Addr} (h : RoL L N H vs ls fp) : vs.length = ls.length := RoL.length h
def zcQ (i : Nat) (f : SF) : SF := λ as => match as[i]? with
 | some (some o) => f (as.set i (some o.frz))
 | _ => none
theorem zij {K : zC} {kd : KD} {F B : Addr -> Prop} {ad : Ad} {i : Nat} {H : Hp} {D : Ends} : ∀ {o : Out}, zcD K kd F B ad H D o -> zcD K kd F B (xN ad i []) H D o
 | .nx _, q => λ σ' ad' H' R g => q σ' ad' H' R ((Grow.less yX).trans g)
 | .ct _, q => λ σ' ad' H' R g => q σ' ad' H' R ((Grow.less yX).trans g)
 | .bk _, q => λ σ' ad' H' R g => q σ' ad' H' R ((Grow.less yX).trans g)
 | .rt _, q => λ v T H' ro g => q v T H' ro ((Grow.less yX).trans g)
theorem zgr {X : Cx} {kd : KD} {i : Nat} {body : List Stmt} {f : SF} (h : ASs X kd body f) : ASs X kd body (zcQ i f) := by
 with_unfolding_all exact (VV h λ D σ H h => by
  obtain ⟨F, B, ad, as, o, R, e, q⟩ := h
  unfold zcQ at e
  cases k : as[i]? with
  | none => rw [k] at e; cases e
  | some s =>
   rw [k] at e
   cases s with
   | none => cases e
   | some oo =>
    exact ⟨F, B, xN ad i [], _, o, (R.frz k).1, e, zij q⟩)
section
variable {K : zC} {kd : KD} {F B G : Addr -> Prop} {H : Hp}
theorem V3 {p : Addr} {u : HO} (hp : G p) : Grow G H G (upd H p u) := ⟨λ b w h n => by rw [zX (λ e => n (by subst e; exact hp))]; exact h, λ b z => .inl z⟩
theorem zgu : ∀ (os : List O) {vs : List V} {fp : List Addr} {n : Nat} {o : O}, v5 K kd F B G H vs os fp -> fp.Nodup -> (∀ a ∈ fp, G a) -> os[n]? = some o ->
 ∃ v f, vs[n]? = some v /\ RoS K kd F B G H v o f /\ f.Nodup /\ (∀ a ∈ f, a ∈ fp) /\ ∀ (p : Addr) (u : HO) (o' : O), p ∈ f -> RoS K kd F B G (upd H p u) v o' f -> v5 K kd F B G (upd H p u) vs (os.set n o') fp
 | [], _, _, _, _, _, _, _, e => by simp at e
 | o1 :: os, _, _, n, o, r, hn, hG, e => by
  cases r with
  | cons a r =>
   rename_i v vs fp fq
   obtain ⟨n1, n2, n3⟩ := List.nodup_append.mp hn
   cases n with
   | zero =>
    simp at e
    subst e
    exact ⟨v, fp, rfl, a, n1, λ x m => zzM _ m, λ p u o' hp ro => .cons ro (v5.grow (V3 (hG p (zzM _ hp))) (λ x m w h => by rw [zX (λ e => n3 p hp x m e.symm)]; exact h) r)⟩
   | succ n =>
    obtain ⟨v', f, h1, h2, h3, h4, h5⟩ := zgu os (n := n) (o := o) r n2 (λ x m => hG x (zzI _ m)) (by simpa using e)
    exact ⟨v', f, by simpa using h1, h2, h3, λ x m => zzI _ (h4 x m), λ p u o' hp ro => .cons (RoS.grow (V3 (hG p (zzI _ (h4 p hp)))) (λ x m w h => by rw [zX (λ e => n3 x m p (h4 p hp) e)]; exact h) a) (h5 p u o' hp ro)⟩
theorem zcH {L : Bool -> V -> D -> Prop} {N : Addr -> Prop} {v : V} {st' : Bool} {d' : D} (h : L st' v d') : ∀ (os : List O) {vs : List V} {fp : List Addr} {n : Nat} {st : Bool} {d : D}, RoL L N H vs os fp -> os[n]? = some (.lf st d) -> RoL L N H (vs.set n v) (os.set n (.lf st' d')) fp
 | [], _, _, _, _, _, _, e => by simp at e
 | o1 :: os, _, _, n, st, d, r, e => by
  cases r with
  | cons a r =>
   cases n with
   | zero =>
    simp at e
    subst e
    cases a with
    | lf _ => exact .cons (.lf h) r
   | succ n => exact .cons a (zcH h os (n := n) (st := st) (d := d) r (by simpa using e))
theorem zkg {v : V} {inner : List O} {fp : List Addr} {n : Nat} {st : Bool} {d : D} (c : Int) (r : RoS K kd F B G H v (.nd .ls inner) fp) (hn : fp.Nodup) (hG : ∀ a ∈ fp, G a) (e : inner[n]? = some (.lf st d)) :
 ∃ p ivs, v = .ref p /\ p ∈ fp /\ H p = some (.lst ivs) /\ n < ivs.length /\ RoS K kd F B G (upd H p (.lst (ivs.set n (.int c)))) v (.nd .ls (inner.set n (.lf true (.int c)))) fp := by
 cases r with
 | ls hp ir =>
  rename_i p ivs ifp
  have hpfp : p ∉ ifp := (zzT.mp hn).1
  refine ⟨p, ivs, rfl, zzC .., hp, by rw [zkO ir]; exact (zzD.mp e).1, .ls yz (zcH (.int c) inner (v5.grow (V3 (hG p (zzC ..))) (λ x m w h => by rw [zX (λ e => hpfp (by subst e; exact m))]; exact h) ir) e)⟩
theorem zlU {v : V} {os : List O} {fp : List Addr} {n : Nat} {o : O} (r : RoS K kd F B G H v (.nd .ls os) fp) (hn : fp.Nodup) (hG : ∀ a ∈ fp, G a) (e : os[n]? = some o) :
 ∃ l vs w f, v = .ref l /\ H l = some (.lst vs) /\ vs[n]? = some w /\ RoS K kd F B G H w o f /\ f.Nodup /\ (∀ a ∈ f, a ∈ fp) /\ ∀ (p : Addr) (u : HO) (o' : O), p ∈ f -> RoS K kd F B G (upd H p u) w o' f -> RoS K kd F B G (upd H p u) v (.nd .ls (os.set n o')) fp := by
 cases r with
 | ls hp ir =>
  rename_i l vs ifp
  obtain ⟨w, f, h1, h2, h3, h4, h5⟩ := zgu os ir (zzT.mp hn).2 (λ a m => hG a (zzA _ m)) e
  exact ⟨l, vs, w, f, rfl, hp, h1, h2, h3, λ a m => zzA _ (h4 a m), λ p u o' hpf ro => .ls (by rw [zX (λ e => (zzT.mp hn).1 (by rw [e]; exact h4 p hpf))]; exact hp) (h5 p u o' hpf ro)⟩
end
section
variable {K : zC} {kd : KD} {F B : Addr -> Prop} {ad : Ad} {as : AS} {σ : St} {H : Hp} {i : Nat} {o : O}
theorem Rel.slotU (R : Rel K kd F B [] ad as σ H) (k : as[i]? = some (some o)) :
 ∃ v, σ[i]? = some (some v) /\ RoS K kd F B (Gw [] ad) H v o (ad i) /\ (ad i).Nodup /\ (∀ a ∈ ad i, Gw [] ad a) /\
  ∀ (p : Addr) (u : HO) (o' : O), p ∈ ad i -> RoS K kd F B (Gw [] ad) (upd H p u) v o' (ad i) -> Rel K kd F B [] ad (as.set i (some o')) σ (upd H p u) /\ Grow (Gw [] ad) H (Gw [] ad) (upd H p u) := by
 obtain ⟨v, hv, ro⟩ := R.sl i _ k
 have hi : i < as.length := (zzD.mp k).1
 refine ⟨v, hv, ro, R.nd i, λ a m => .inr ⟨i, m⟩, λ p u o' hp ro' => ?_⟩
 have g : Grow (Gw [] ad) H (Gw [] ad) (upd H p u) := V3 (.inr ⟨i, hp⟩)
 have kn : ∀ a, H a ≠ none -> upd H p u a ≠ none := λ a z => by
  by_cases e : a = p
  · subst e; rw [yz]; simp
  · rw [zX e]; exact z
 refine ⟨⟨by rw [zzR]; exact R.len, λ j hj => R.out j (by rw [zzR] at hj; exact hj), R.nd, R.inj, R.tnd, R.dis, λ a z => kn a (R.ftr a z), λ a z => ⟨kn a (R.btr a z).1, (R.btr a z).2⟩, λ a z => ⟨kn a (R.gtr a z).1, (R.gtr a z).2⟩, λ j s e => ?_⟩, g⟩
 by_cases q : j = i
 · subst q
   rw [List.getElem?_set_self hi] at e
   cases e
   exact ⟨v, hv, ro'⟩
 · rw [zzV (Ne.symm q)] at e
   exact (R.sl j s e).grow g λ a m u h => by rw [zX (λ e => q (R.inj j i a m (by rw [e]; exact hp)))]; exact h
end
abbrev IXF := AS -> Option Int
def tSt (K : zC) (kd : KD) (f : IXF) : TE := λ σ H Q => ∃ F B ad as k, Rel K kd F B [] ad as σ H /\ f as = some k /\ Q (.int k) H
@[irreducible] def AK (X : Cx) (kd : KD) (e : Expr) (f : IXF) : Prop := PE X e (tSt X.K kd f)
def zfs : O -> Option (List O)
 | .nd .ls os => some os
 | _ => none
def zbK : O -> Option D
 | .lf _ d => some d
 | _ => none
def atO {α : Type} (f : O -> Option α) (os : List O) (k : Nat) : Option α := os[k]?.bind f
def slO {α : Type} (f : O -> Option α) (as : AS) (i : Nat) : Option α := as[i]?.bind λ s => s.bind f
theorem zgH {o : O} {os : List O} (h : zfs o = some os) : o = .nd .ls os := by
 cases o with
 | lf s d => cases h
 | nd k os => cases k <;> cases h; rfl
theorem zfL {o : O} {d : D} (h : zbK o = some d) : ∃ st, o = .lf st d := by
 cases o with
 | lf s d => cases h; exact ⟨s, rfl⟩
 | nd k os => cases h
theorem ziK {α : Type} {f : O -> Option α} {os : List O} {k : Nat} {a : α} (h : atO f os k = some a) : ∃ o, os[k]? = some o /\ f o = some a := bS_ h
theorem zju {α : Type} {f : O -> Option α} {as : AS} {k : Nat} {a : α} (h : slO f as k = some a) : ∃ o, as[k]? = some (some o) /\ f o = some a := by
 obtain ⟨s, h1, h⟩ := bS_ h
 obtain ⟨o, rfl, h⟩ := bS_ h
 exact ⟨o, h1, h⟩
theorem zoX {os inner : List O} {k : Nat} (h : atO zfs os k = some inner) : os[k]? = some (.nd .ls inner) := by
 obtain ⟨o, h1, h⟩ := ziK h
 cases zgH h
 exact h1
theorem zpb {os : List O} {d : D} {k : Nat} (h : atO zbK os k = some d) : ∃ st, os[k]? = some (.lf st d) := by
 obtain ⟨o, h1, h⟩ := ziK h
 obtain ⟨st, rfl⟩ := zfL h
 exact ⟨st, h1⟩
theorem zot {as : AS} {inner : List O} {k : Nat} (h : slO zfs as k = some inner) : as[k]? = some (some (.nd .ls inner)) := by
 obtain ⟨o, h1, h⟩ := zju h
 cases zgH h
 exact h1
theorem znZ {as : AS} {d : D} {k : Nat} (h : slO zbK as k = some d) : ∃ st, as[k]? = some (some (.lf st d)) := by
 obtain ⟨o, h1, h⟩ := zju h
 obtain ⟨st, rfl⟩ := zfL h
 exact ⟨st, h1⟩
theorem zgt {α : Type} {f : O -> Option α} {os : List O} {k : Nat} {o : O} {a : α} (h : os[k]? = some o) (e : f o = some a) : atO f os k = some a := by unfold atO; rw [h]; exact e
theorem zgC {α : Type} {f : O -> Option α} {as : AS} {k : Nat} {o : O} {a : α} (h : as[k]? = some (some o)) (e : f o = some a) : slO f as k = some a := by unfold slO; rw [h]; exact e
def xV (i : Nat) : IXF := λ as => (slO zbK as i).bind asI
def xAt (i : Nat) (f : IXF) : IXF := λ as => (f as).bind λ k => if 0 <= k then (slO zbK as i).bind λ d => (asL d).bind λ ds => ds[k.toNat]?.bind asI else none
section
variable {X : Cx} {kd : KD} {f g : IXF} {a b : Expr}
theorem zaA {i : Nat} {x : Str} {p : Pos} (hv : PE X (.Name x p) (zbc i)) : AK X kd (.Name x p) (xV i) := by
 with_unfolding_all exact (wG hv λ σ H Q h => by
  obtain ⟨F, B, ad, as, k, R, e, q⟩ := h
  obtain ⟨d, e1, e⟩ := bS_ (show (slO zbK as i).bind _ = _ from e)
  cases zdq e
  obtain ⟨st, k1⟩ := znZ e1
  obtain ⟨v, hv, ro⟩ := R.sl i _ k1
  generalize ad i = fp at ro
  cases ro with
  | lf rp => cases rp; exact ⟨_, hv, q⟩)
theorem zdT {i : Nat} {x : Str} {p pos : Pos} (hv : PE X (.Name x p) (zbc i)) (hb : AK X kd b f) (hs : Vg b) : AK X kd (.Subscript (.Name x p) b pos) (xAt i f) := by
 with_unfolding_all exact (wG (ziX zde hv hb hs) λ σ H Q h => by
  obtain ⟨F, B, ad, as, c, R, e, q⟩ := h
  obtain ⟨k, h1, e⟩ := bS_ (show (f as).bind _ = _ from e)
  obtain ⟨hk, e⟩ := ite_some' e
  obtain ⟨d0, e1, e3⟩ := bS_ e
  obtain ⟨ds, e2, e4⟩ := bS_ e3
  obtain ⟨d, k2, e5⟩ := bS_ e4
  cases zdg e2
  cases zdq e5
  obtain ⟨st, k1⟩ := znZ e1
  obtain ⟨v, hv, ro⟩ := R.sl i _ k1
  generalize ad i = fp at ro
  cases ro with
  | lf rp =>
   obtain ⟨l, vs, rfl, hq, rl⟩ := zjX (ad := ad) (q := st) rp (λ z => z)
   obtain ⟨w, hw, rw'⟩ := rl.get k2
   cases rw'
   refine ⟨_, hv, F, B, ad, as, k, R, h1, l, vs, k, _, rfl, rfl, hq ad H Grow.refl, ?_, q⟩
   have := Wk hw
   rw [Int.toNat_of_nonneg hk] at this
   exact this)
end
def Wz (i : Nat) (f1 f2 fv : IXF) : SF := λ as => (f1 as).bind λ k1 => (f2 as).bind λ k2 => (fv as).bind λ c => if 0 <= k1 /\ 0 <= k2 then (slO zfs as i).bind λ os => (atO zfs os k1.toNat).bind λ inner => (atO zbK inner k2.toNat).bind λ _ => some (.nx (as.set i (some (.nd .ls (os.set k1.toNat (.nd .ls (inner.set k2.toNat (.lf true (.int c))))))))) else none
theorem zjU {n j : Nat} (h : j < n) : ixN n (j : Int) = some j := by
 unfold ixN
 rw [if_pos (by omega), if_pos (by omega)]; simp
theorem zjy {n : Nat} {k : Int} (h0 : 0 <= k) (h : k.toNat < n) : ixN n k = some k.toNat := by
 have := zjU h
 rw [show ((k.toNat : Nat) : Int) = k by omega] at this
 exact this
theorem zkh {α : Type} {xs : List α} {k : Int} {v : α} (h0 : 0 <= k) (h : xs[k.toNat]? = some v) : atI xs k = some v := by
 have := Wk h
 rw [show ((k.toNat : Nat) : Int) = k by omega] at this
 exact this
section
variable {X : Cx} {kd : KD} {f f1 f2 f3 fv : IXF} {e1 e2 e3 ev : Expr} {i y : Nat}
theorem zgg {x : Str} {p p1 tpos pos : Pos} (ho : PE X (.Name x p) (zbc i)) (h1 : AK X kd e1 f1) (hp1 : Vg e1) (h2 : AK X kd e2 f2) (hv : AK X kd ev fv)
 (ha : ∀ v, assign (.Subscript (.Subscript (.Name x p) e1 p1) e2 tpos) X.env v = (do
  let ov <- holding [v] (eval (.Subscript (.Name x p) e1 p1) X.env)
  let iv <- holding [v, ov] (eval e2 X.env)
  standAt tpos
  holding [v, ov, iv] (setItem ov iv v)
  release [v, ov, iv] []))
 (hs : swapsWithSole [.Subscript (.Subscript (.Name x p) e1 p1) e2 tpos] ev pos.line X.env = pure false) (hw : swappedStores [.Subscript (.Subscript (.Name x p) e1 p1) e2 tpos] ev X.env = pure none)
 (hm : (assignEach [.Subscript (.Subscript (.Name x p) e1 p1) e2 tpos] X.env).map (·.2) = [assign (.Subscript (.Subscript (.Name x p) e1 p1) e2 tpos) X.env]) :
 ASt X kd (.Assign [.Subscript (.Subscript (.Name x p) e1 p1) e2 tpos] ev pos) (Wz i f1 f2 fv) := by
 with_unfolding_all exact (wF (zhM hv (zlo (ziX zde ho h1 hp1) h2 set_list ha) hs hw hm) λ D σ H h => by
  obtain ⟨F, B, ad, as, o, R, e, q⟩ := h
  obtain ⟨n1, j1, e⟩ := bS_ (show (f1 as).bind _ = _ from e)
  obtain ⟨n2, j2, e⟩ := bS_ e
  obtain ⟨c, j3, e⟩ := bS_ e
  obtain ⟨⟨hk1, hk2⟩, e⟩ := ite_some' e
  obtain ⟨os, e1, e⟩ := bS_ e
  obtain ⟨inner, e2, e⟩ := bS_ e
  obtain ⟨d, e3, e⟩ := bS_ e
  have k1 := zot e1
  have k2 := zoX e2
  obtain ⟨st, k3⟩ := zpb e3
  cases e
  obtain ⟨v, sv, ro, hn, hG, up⟩ := R.slotU k1
  obtain ⟨l, vs, w, fw, rfl, hH, hvs, rw1, fn, fs, up1⟩ := zlU ro hn hG k2
  obtain ⟨p, ivs, rfl, hp, hHp, hl, ro'⟩ := zkg c rw1 fn (λ a m => hG a (fs a m)) k3
  obtain ⟨R2, g2⟩ := up p _ _ (fs p hp) (up1 p _ _ hp ro')
  exact ⟨F, B, ad, as, c, R, j3, _, sv, F, B, ad, as, n1, R, j1, l, vs, n1, _, rfl, rfl, .inl (.inl hH), zkh hk1 hvs, F, B, ad, as, n2, R, j2, p, ivs, n2, n2.toNat, rfl, rfl, hHp, zjy hk2 hl, q σ ad _ R2 g2⟩)
end
theorem l1_ {α : Type} {P : List α -> Prop} (h : ∀ a, P [a]) : ∀ us : List α, us.length = 1 -> P us
 | [a], _ => h a
theorem l2_ {α : Type} {P : List α -> Prop} (h : ∀ a b, P [a, b]) : ∀ us : List α, us.length = 2 -> P us
 | [a, b], _ => h a b
theorem l3_ {α : Type} {P : List α -> Prop} (h : ∀ a b c, P [a, b, c]) : ∀ us : List α, us.length = 3 -> P us
 | [a, b, c], _ => h a b c
theorem l4_ {α : Type} {P : List α -> Prop} (h : ∀ a b c d, P [a, b, c, d]) : ∀ us : List α, us.length = 4 -> P us
 | [a, b, c, d], _ => h a b c d
theorem l5_ {α : Type} {P : List α -> Prop} (h : ∀ a b c d e, P [a, b, c, d, e]) : ∀ us : List α, us.length = 5 -> P us
 | [a, b, c, d, e], _ => h a b c d e
section
variable {X : Cx} {kd : KD}
theorem aI {c : Int} {j pos} : AE X kd (.Constant (.int c) j pos) (fC (.int c)) := zdv ziU λ _ _ => .int _
theorem aS {c : Str} {j pos} : AE X kd (.Constant (.str c) j pos) (fC (.str c)) := zdv zmV λ _ _ => .str _
theorem aZ {j pos} : AE X kd (.Constant .none j pos) (fC .non) := zdv zmM λ _ _ => .non
theorem aB {c : Bool} {j pos} : AE X kd (.Constant (.bool c) j pos) (fC (.bl c)) := zdv znY λ _ _ => .bl _
theorem ax {P : Program} {w : World} {K : zC} {a b : Expr} {fa fb : EF} {pos : Pos} (hkd : KD1 P w K kd) (ha : AE X kd a fa) (hb : AE X kd b fb) (h1 : X.prog = P := by rfl) (h2 : X.w = w := by rfl) (h3 : X.K = K := by rfl) (hm : Vg b := by exact λ _ _ => rfl) : AE X kd (.Subscript a b pos) (f2 fa fb ixP) := znI (zop (hkd _ h1 h2 h3)) ha hb hm
theorem sv (z : Bool) (i : Nat) {x : Str} {pos pos' : Pos} {e : Expr} {fa : EF} (hN : X.N.Nodup) (he : AE X kd e fa) (hi : X.N[i]? = some x := by rfl) (hx : Loc X.env.scope x := by first | exact Or.inl rfl | exact Or.inr rfl) (hs : swapsWith e (some (.Name x pos')) pos.line X.env = pure false := by rfl) (hf : X.fn x = true \/ X.env.scope.names.lookup x = some .local := by first | exact Or.inl rfl | exact Or.inr rfl) :
 ASt X kd (.Assign [.Name x pos'] e pos) (zJ z i fa) := zlX hN hi hx he hs hf
theorem an (i : Nat) {x : Str} {pos : Pos} (hN : X.N.Nodup) (hi : X.N[i]? = some x := by rfl) (hx : Loc X.env.scope x := by first | exact Or.inl rfl | exact Or.inr rfl) (hf : X.fn x = true \/ X.env.scope.names.lookup x = some .local := by first | exact Or.inl rfl | exact Or.inr rfl) : AG X kd (.Name x pos) [i] (gN i) := zkj hN hi hx hf
theorem av (i : Nat) {x : Str} {pos : Pos} (hN : X.N[i]? = some x := by rfl) (hv : Vis X.env.scope x := by first | exact Or.inl rfl | exact Or.inr (Or.inl rfl) | exact Or.inr (Or.inr rfl)) (hd : (x == ("__debug__" : Str)) = false := by decide)
 (hcd : (x == ("__classdict__" : Str)) = false := by decide) : AE X kd (.Name x pos) (fV i) := zlJ (zim hN hv hd hcd)
end
structure CI (K : zC) (kd : KD) (mg : Str -> Option Value) (c : Str) (C : Addr) : Prop where
 eq : kd.c c = C
 cl : Cls K C
 mks : PySem.W.makesIn K C = true
 kp : PySem.W.keepIn K (.ref C) = true
 mg : mg c = some (.ref C)
theorem szs {n : Nat} (h : n <= 1000000) : n <= sizeLine := zzL h (by decide)
section
variable {as : AS} {f fo a b : EF} {fr : AF} {s t : Bool} {x y z d : D} {c m : Str} {ns cs : List Str} {ds : List D} {tbl : List (Str × Fn)} {g : Fn} {o : O}
inductive SqD : D -> List D -> Prop
 | l (ds : List D) : SqD (.lst ds) ds
 | t (ds : List D) : SqD (.tup ds) ds
theorem zah {α : Type} {h : α -> D} {it : α -> It1} {gg : GF} {fe : EF} {as0 : AS} : ∀ (l : List α), (∀ q ∈ l, ∃ as1, gg (it q) as0 = some as1 /\ WE fe as1 (h q)) -> ∃ os, xF gg wk fe as0 (l.map it) = some os /\ O.strs os = true /\ O.toDs os = l.map h
 | [], _ => ⟨[], rfl, rfl, rfl⟩
 | q :: l, H => by
  obtain ⟨os, e1, e2, e3⟩ := zah l λ p m => H p (zzA _ m)
  obtain ⟨as1, h1, o, h2, h3, h4⟩ := H q zzC
  refine ⟨o :: os, ?_, by show (o.str && O.strs os) = true; rw [h3, e2]; rfl, by show o.toD :: O.toDs os = _; rw [h4, e3]; rfl⟩
  show xF gg wk fe as0 (it q :: l.map it) = _
  unfold xF
  rw [h1]; show ((fe as1).bind _) = _
  rw [h2]; show (if o.str = true then _ else _) = _
  rw [if_pos h3, e1]; rfl
theorem zct {α : Type} {h : α -> D} {p : α -> Bool} {it : α -> It1} {gg : GF} {tt : TF} {fe : EF} {as0 : AS} : ∀ (l : List α), (∀ q ∈ l, ∃ as1, gg (it q) as0 = some as1 /\ WT tt as1 (p q) /\ (p q = true -> WE fe as1 (h q))) -> ∃ os, xF gg tt fe as0 (l.map it) = some os /\ O.strs os = true /\ O.toDs os = (l.filter p).map h
 | [], _ => ⟨[], rfl, rfl, rfl⟩
 | q :: l, H => by
  obtain ⟨os, e1, e2, e3⟩ := zct l λ p m => H p (zzA _ m)
  obtain ⟨as1, h1, h2, h3⟩ := H q zzC
  cases hp : p q with
  | false =>
   rw [hp] at h2
   refine ⟨os, zho h1 h2 e1, e2, ?_⟩
   rw [List.filter_cons_of_neg (by simp [hp])]; exact e3
  | true =>
   rw [hp] at h2
   obtain ⟨o, k1, k2, k3⟩ := h3 hp
   refine ⟨o :: os, ?_, by show (o.str && O.strs os) = true; rw [k2, e2]; rfl, ?_⟩
   · unfold WT at h2
     show xF gg tt fe as0 (it q :: l.map it) = _
     unfold xF
     rw [h1]; show (tt as1).bind _ = _
     rw [h2]; show ((fe as1).bind _) = _
     rw [k1]; show (if o.str = true then _ else _) = _
     rw [if_pos k2, e1]; rfl
   · rw [List.filter_cons_of_pos hp]
     show o.toD :: O.toDs os = _
     rw [k3, e3]; rfl
theorem zeP {fi : IF} {cap : List (Option Nat)} {gg : GF} {tt : TF} {fe : EF} {xs : List It1} {os : List O} {zs : List D} (h1 : fi as = some (xs, as)) (hl : xs.length <= 1000000) (h2 : xF gg tt fe (Z4 cap as) xs = some os) (hs : O.strs os = true) (e : O.toDs os = zs) : WE (yE fi cap gg tt fe) as (.lst zs) := by
 refine ⟨.nd .ls os, ?_, hs, congrArg D.lst e⟩
 unfold yE
 rw [h1]; show (if xs.length <= sizeLine then _ else _) = _
 rw [if_pos (szs hl), h2]; rfl
theorem zjs {α : Type} {h : α -> D} {it : α -> It1} {fi : IF} {cap : List (Option Nat)} {gg : GF} {fe : EF} (l : List α) (h1 : fi as = some (l.map it, as)) (hl : l.length <= 1000000) (H : ∀ q ∈ l, ∃ as1, gg (it q) (Z4 cap as) = some as1 /\ WE fe as1 (h q)) : WE (yE fi cap gg wk fe) as (.lst (l.map h)) := by
 obtain ⟨os, e1, e2, e3⟩ := zah l H
 exact zeP h1 (by rw [zD]; exact hl) e1 e2 e3
theorem zlt {α : Type} {h : α -> D} {p : α -> Bool} {it : α -> It1} {fi : IF} {cap : List (Option Nat)} {gg : GF} {tt : TF} {fe : EF} (l : List α) (h1 : fi as = some (l.map it, as)) (hl : l.length <= 1000000) (H : ∀ q ∈ l, ∃ as1, gg (it q) (Z4 cap as) = some as1 /\ WT tt as1 (p q) /\ (p q = true -> WE fe as1 (h q))) : WE (yE fi cap gg tt fe) as (.lst ((l.filter p).map h)) := by
 obtain ⟨os, e1, e2, e3⟩ := zct l H
 exact zeP h1 (by rw [zD]; exact hl) e1 e2 e3
def Rt (r : Option Out) (x : D) : Prop := ∃ o, r = some (.rt o) /\ o.str = true /\ o.toD = x
theorem vO {n m : Nat} {c : SF} {ds : List (Bool × D)} {x : D} (hl : ds.length = m) (h : Rt (c (xj n ds)) x) : RE (fnR n m c ds) x := by
 obtain ⟨o, h1, h2, h3⟩ := h
 exact ⟨o, VG hl h1, h2, h3⟩
theorem zK {f g : SF} {as as1 : AS} {x : D} (h1 : f as = some (.nx as1)) (h2 : Rt (g as1) x) : Rt (zB f g as) x := by
 obtain ⟨o, e, h⟩ := h2
 exact ⟨o, zZ h1 e, h⟩
theorem zfW {f g : SF} {as : AS} {x : D} (h1 : Rt (f as) x) : Rt (zB f g as) x := by
 obtain ⟨o, e, h⟩ := h1
 exact ⟨o, Wm e, h⟩
theorem ziH {c : TF} {f g : SF} {as : AS} {x : D} (h : WT c as true) (h1 : Rt (f as) x) : Rt (sIf c f g as) x := by
 obtain ⟨o, e, h2⟩ := h1
 exact ⟨o, vZ h e, h2⟩
theorem Zo {f : EF} {as : AS} {x : D} (h : WE f as x) : Rt (yp f as) x := by
 obtain ⟨o, h1, h2, h3⟩ := h
 refine ⟨o, ?_, h2, h3⟩
 unfold yp; rw [h1]
 show ((if o.str = true then some o else none).bind _) = _
 rw [if_pos h2]; rfl
theorem zfC {fd : DF} {os : List O} {zs : List D} (h : WO fd as os) (hl : os.length <= 1000000) (hs : O.strs os = true) (e : O.toDs os = zs) : WE (yV fd) as (.tup zs) := by
 refine ⟨ZV os, zfa h (szs hl), ?_, ?_⟩
 · unfold ZV; split
   · exact hs
   · exact hs
 · subst e
   unfold ZV; split
   · rfl
   · rfl
theorem zaW {fd : DF} {os : List O} (h : WE a as x) (hr : WO fd as os) : ∃ o, o.str = true /\ o.toD = x /\ WO (dC a fd) as (o :: os) := by
 obtain ⟨o, h1, h2, h3⟩ := h
 exact ⟨o, h2, h3, zmI h1 hr⟩
theorem zjN (ha : WE a as x) : WE (yV (dC a dN)) as (.tup [x]) := by
 obtain ⟨o, h1, rfl, h3⟩ := zaW ha yt
 exact zfC h3 (by show 1 <= _; omega) (by show (o.str && true) = true; rw [h1]; rfl) rfl
theorem zbf (ha : WE a as x) (hb : WE b as y) : WE (yV (dC a (dC b dN))) as (.tup [x, y]) := by
 obtain ⟨p, k1, rfl, k3⟩ := zaW hb yt
 obtain ⟨o, h1, rfl, h3⟩ := zaW ha k3
 exact zfC h3 (by show 2 <= _; omega) (by show (o.str && (p.str && true)) = true; rw [h1, k1]; rfl) rfl
theorem zle {g : D -> D -> Option R0} (ha : WE a as x) (hb : WE b as y) (hg : g x y = some (.im z)) : WE (f2 a b g) as z := WD.e (f2E ha hb hg)
end
open AutoSeq1 (wpAny_loadPart')
section
variable {X : Cx} {kd : KD}
def zgR (x y : D) : Option R0 := onI (λ i j => if 0 <= j /\ j <= 1000000 /\ i.natAbs < 2 ^ 64 then some (.im (.int (i * 2 ^ j.toNat))) else none) x y
theorem zku : OpD X kd (binaryOp .LShift) zgR := by
 intro pins s σ H x y v u Q I rx ry h
 obtain ⟨O, d, e, r, ht, vx, vy, he, q⟩ := h
 obtain ⟨i, j, rfl, rfl, he⟩ := Yb vx vy he
 obtain ⟨c, rfl⟩ := zR he
 exact zlO pins s σ H _ _ v u Q I rx ry ⟨_, _, rfl, rfl, c, yg q (.int _)⟩
end
def WP (i : Nat) (fk fv : EF) : SF := λ as => (fv as).bind λ p => (XF p.2 p.1).bind λ x => match x.2[i]? with
 | some (some (.nd (.dt _) _)) => (fk x.2).bind λ q => (q.1.frz.view q.2).bind λ kd => (zii kd.1).bind λ k => match q.2[i]? with
  | some (some (.nd (.dt ks) os)) => if ks.length < sizeLine then some (.nx (q.2.set i (some (.nd (.dt (Xq ks k)) (Ze ks os k (.lf x.1.1 x.1.2)))))) else none
  | _ => none
 | _ => none
section
variable {X : Cx} {kd : KD} {e a b c o i : Expr} {pos pos' : Pos} {fa fb fk fv : EF}
theorem zjM {j : Nat} {x : Str} {p : Pos} (hu : X.A.units + 1 < cLine) (ho : PE X (.Name x p) (zbc j)) (hk : AE X kd i fk) (hv : AE X kd e fv) (hs : swapsWith e (some (.Subscript (.Name x p) i pos')) pos.line X.env = pure false) :
 ASt X kd (.Assign [.Subscript (.Name x p) i pos'] e pos) (WP j fk fv) := by with_unfolding_all exact (wF (zgc hu ho hk hv hs) λ D σ H h => by
 obtain ⟨F, B, ad, as, o, R, e, q⟩ := h
 obtain ⟨⟨p, as1⟩, h1, e⟩ := bS_ (show (fv as).bind _ = _ from e)
 obtain ⟨⟨⟨st, d⟩, as2⟩, h2, e⟩ := bS_ e
 cases k1 : as2[j]? with
 | none => rw [k1] at e; cases e
 | some a0 =>
  rw [k1] at e
  match a0, e, k1 with
  | some (.nd (.dt ks0) os0), e, k1 =>
   obtain ⟨⟨pk, as3⟩, h3, e⟩ := bS_ (show (fk as2).bind _ = _ from e)
   obtain ⟨⟨dk, lk⟩, h4, e⟩ := bS_ e
   obtain ⟨k, h5, e⟩ := bS_ e
   refine ⟨F, B, ad, as, p, as1, R, h1, λ v T1 ad1 H1 R1 rv1 g1 => ?_⟩
   obtain ⟨ad2, R2, rp, le⟩ := ZK R1 rv1 h2
   obtain ⟨v0, hs0, ro0⟩ := R2.sl j _ k1
   refine ⟨v0, hs0, Wi R2 h3 λ u ad3 H3 R3 rv3 g3 => ?_⟩
   cases k2 : as3[j]? with
   | none => rw [k2] at e; cases e
   | some a2 =>
    rw [k2] at e
    match a2, e, k2 with
    | some (.nd (.dt ks) os), e, k2 =>
     obtain ⟨hz, e⟩ := zR e
     cases e
     obtain ⟨v1, hs1, ro1⟩ := R3.sl j _ k2
     rw [hs0] at hs1
     cases hs1
     generalize hfp : ad3 j = fp1 at ro1
     cases ro1 with
     | dt hH hl rl =>
          rename_i l vs fp
          obtain ⟨bk, rfl, hbk⟩ := zbh (vJ.vw R3 rv3 h4) h5
          have ro : RoS X.K kd F B (Gw [] ad3) H3 v (.lf st d) [] := .lf (Rp.grow g3 rp)
          have hlo : ks.length = os.length := by rw [hl, rl.length]
          have hex : ∃ fp', fp'.Sublist fp /\ v5 X.K kd F B (Gw [] ad3) H3 (Ze ks vs k v) (Ze ks os k (.lf st d)) fp' := by
           unfold Ze
           split
           · exact zfl ro hl rl
           · exact ⟨fp, List.Sublist.refl _, by have := rl.append (RoL.one ro); rw [List.append_nil] at this; exact this⟩
          obtain ⟨fp', hsub, rl'⟩ := hex
          have hnd := R3.nd j
          rw [hfp] at hnd
          refine ⟨l, _, rfl, .inr ⟨_, k, bk, hH, rfl, hbk, by rw [List.length_zip, hl, Nat.min_self, <- hl]; exact hz, rfl⟩, ?_⟩
          rw [zeK hl]
          obtain ⟨R4, g4⟩ := R3.mut (fo := []) (n := .nd (.dt (Xq ks k)) (Ze ks os k (.lf st d))) (u := .dT ((Xq ks k).zip (Ze ks vs k v))) (zzD.mp k2).1 hfp hs0 (fp' := fp') (λ a m => by
           rw [List.append_nil] at m ⊢; exact hsub.mem m) (by rw [List.append_nil]; exact (zzT.mp hnd).2.sublist hsub) (by rw [hH]; simp) λ H' G' hl' gr kp => .dt hl' (VJ hl) (v5.grow gr kp rl')
          exact q σ _ _ R4 (((g1.trans (Grow.less le)).trans g3).trans g4))
end
def zhy (i : Nat) (k : Int) : SF := λ as => match as[i]? with
 | some (some (.lf _ (.int n))) => some (.nx (as.set i (some (.lf true (.int (n + k))))))
 | _ => none
section
variable {X : Cx} {kd : KD} {e : Expr} {fa : EF} {pos pos' : Pos}
theorem zmg {i : Nat} {x : Str} {k : Int} {z : Nat} {p2 : Pos} (hN : X.N.Nodup) (hi : X.N[i]? = some x) (hx : Loc X.env.scope x) (hf : X.fn x = true \/ X.env.scope.names.lookup x = some .local) :
 ASt X kd (.AugAssign (.Name x pos') .Add (.Constant (.int k) z p2) pos) (zhy i k) := by with_unfolding_all exact (wF (zlK hN hi hx ziU zlB hf) λ D σ H h => by
 obtain ⟨F, B, ad, as, o, R, e, q⟩ := h
 cases k1 : as[i]? with
 | none => unfold zhy at e; rw [k1] at e; cases e
 | some a0 =>
  unfold zhy at e
  rw [k1] at e
  match a0, e, k1 with
  | some (.lf st (.int n)), e, k1 =>
   cases e
   obtain ⟨v, hs, ro⟩ := R.sl i _ k1
   generalize ad i = fp1 at ro
   cases ro with
   | lf rp =>
    cases rp
    obtain ⟨ad2, R2, le⟩ := zdx (v := .int (n + k)) (z := true) (r := .ow (.lf true (.int (n + k)))) (o := .lf true (.int (n + k))) (i := i) R (show RoS _ _ _ _ _ _ _ _ _ from .lf (.int _)) rfl (zzD.mp k1).1
    exact ⟨_, hs, _, _, rfl, rfl, q _ ad2 H R2 (Grow.less le)⟩)
end
section
variable {K : zC} {kd : KD} {F B : Addr -> Prop} {ad : Ad} {as : AS} {σ : St} {H H' : Hp}
def G2 (G : Addr -> Prop) (T T' : List Addr) : Addr -> Prop := λ a => (G a /\ a ∉ T) \/ a ∈ T'
theorem Rel.chg2 {i j : Nat} {o0 o1 : O} {v0 v1 : V} {T0 T1 : List Addr} (R : Rel K kd F B [] ad as σ H) (hij : i ≠ j) (hi : i < as.length) (hj : j < as.length) (s0 : σ[i]? = some (some v0)) (s1 : σ[j]? = some (some v1)) (nd : (T0 ++ T1).Nodup)
 (sub : ∀ a ∈ T0 ++ T1, a ∈ ad i ++ ad j \/ H a = none) (kp : ∀ c u, H c = some u -> c ∉ ad i ++ ad j -> H' c = some u) (al : ∀ a ∈ T0 ++ T1, H' a ≠ none)
 (r0 : RoS K kd F B (G2 (Gw [] ad) (ad i ++ ad j) (T0 ++ T1)) H' v0 o0 T0) (r1 : RoS K kd F B (G2 (Gw [] ad) (ad i ++ ad j) (T0 ++ T1)) H' v1 o1 T1) :
 Rel K kd F B [] (xN (xN ad i T0) j T1) ((as.set i (some o0)).set j (some o1)) σ H' /\ Grow (Gw [] ad) H (Gw [] (xN (xN ad i T0) j T1)) H' := by
 have ai : xN (xN ad i T0) j T1 i = T0 := by rw [z6 hij, zY]
 have aj : xN (xN ad i T0) j T1 j = T1 := zY
 have ak : ∀ k, k ≠ i -> k ≠ j -> xN (xN ad i T0) j T1 k = ad k := λ k h1 h2 => by rw [z6 h2, z6 h1]
 have off : ∀ k a, k ≠ i -> k ≠ j -> a ∈ ad k -> a ∉ ad i ++ ad j := λ k a h1 h2 m z => (zzJ.mp z).elim (λ y => h1 (R.inj k i a m y)) λ y => h2 (R.inj k j a m y)
 have gw : ∀ a, Gw [] (xN (xN ad i T0) j T1) a -> G2 (Gw [] ad) (ad i ++ ad j) (T0 ++ T1) a := λ a z => by
  rcases z with z | ⟨k, z⟩
  · exact nomatch z
  · by_cases e : k = i
    · subst e; rw [ai] at z; exact .inr (zzM _ z)
    · by_cases e' : k = j
      · subst e'; rw [aj] at z; exact .inr (zzI _ z)
      · rw [ak k e e'] at z; exact .inl ⟨.inr ⟨k, z⟩, off k a e e' z⟩
 have nin : ∀ k a, k ≠ i -> k ≠ j -> a ∈ ad k -> a ∉ T0 ++ T1 := λ k a h1 h2 m z => (sub a z).elim (off k a h1 h2 m) λ y => (R.gtr a (.inr ⟨k, m⟩)).1 y
 have g : Grow (Gw [] ad) H (Gw [] (xN (xN ad i T0) j T1)) H' := ⟨λ b o h n => kp b o h λ z => n ((zzJ.mp z).elim (λ y => .inr ⟨i, y⟩) λ y => .inr ⟨j, y⟩), λ b z => (gw b z).elim (λ y => .inl y.1) λ y => (sub b y).elim (λ x => .inl ((zzJ.mp x).elim (λ y => .inr ⟨i, y⟩) λ y => .inr ⟨j, y⟩)) .inr⟩
 have kn : ∀ a, H a ≠ none -> a ∉ ad i ++ ad j -> H' a ≠ none := λ a h n => by
  cases e : H a with
  | none => exact absurd e h
  | some u => rw [kp a u e n]; simp
 obtain ⟨n0, n1, n2⟩ := List.nodup_append.mp nd
 have own : ∀ a, a ∈ ad i ++ ad j -> Gw [] ad a := λ a z => (zzJ.mp z).elim (λ y => .inr ⟨i, y⟩) λ y => .inr ⟨j, y⟩
 refine ⟨⟨by rw [zzR, zzR]; exact R.len, λ k hk => ?_, λ k => ?_, λ k l a h1 h2 => ?_, List.nodup_nil, (λ _ _ _ z => nomatch z), λ a z => kn a (R.ftr a z) λ y => (R.gtr a (own a y)).2 z, λ a z => ?_, λ a z => ?_, λ k s e => ?_⟩, g⟩
 · rw [zzR, zzR] at hk
   rw [ak k (by omega) (by omega)]; exact R.out k hk
 · by_cases e : k = i
   · subst e; rw [ai]; exact n0
   · by_cases e' : k = j
     · subst e'; rw [aj]; exact n1
     · rw [ak k e e']; exact R.nd k
 · by_cases e : k = i
   · subst e; rw [ai] at h1
     by_cases e' : l = k
     · exact e'.symm
     · by_cases e2 : l = j
       · subst e2; rw [aj] at h2; exact absurd rfl (n2 a h1 a h2)
       · rw [ak l e' e2] at h2; exact absurd (zzM _ h1) (nin l a e' e2 h2)
   · by_cases e' : k = j
     · subst e'; rw [aj] at h1
       by_cases e2 : l = k
       · exact e2.symm
       · by_cases e3 : l = i
         · subst e3; rw [ai] at h2; exact absurd rfl (n2 a h2 a h1)
         · rw [ak l e3 e2] at h2; exact absurd (zzI _ h1) (nin l a e3 e2 h2)
     · rw [ak k e e'] at h1
       by_cases e2 : l = i
       · subst e2; rw [ai] at h2; exact absurd (zzM _ h2) (nin k a e e' h1)
       · by_cases e3 : l = j
         · subst e3; rw [aj] at h2; exact absurd (zzI _ h2) (nin k a e e' h1)
         · rw [ak l e2 e3] at h2; exact R.inj k l a h1 h2
 · obtain ⟨h1, h2, h3⟩ := R.btr a z
   refine ⟨kn a h1 λ y => h3 (own a y), h2, λ y => (gw a y).elim (λ x => h3 x.1) λ x => (sub a x).elim (λ w => h3 (own a w)) h1⟩
 · rcases gw a z with ⟨y, n⟩ | y
   · exact ⟨kn a (R.gtr a y).1 n, (R.gtr a y).2⟩
   · exact ⟨al a y, (sub a y).elim (λ w => (R.gtr a (own a w)).2) λ w f => R.ftr a f w⟩
 · by_cases e1 : k = j
   · subst e1
     rw [List.getElem?_set_self (by rw [zzR]; exact hj)] at e
     cases e
     rw [aj]
     exact ⟨v1, s1, RoS.lv (λ st a z => z.imp id (gw a)) r1⟩
   · rw [zzV (λ z => e1 z.symm)] at e
     by_cases e2 : k = i
     · subst e2
       rw [List.getElem?_set_self hi] at e
       cases e
       rw [ai]
       exact ⟨v0, s0, RoS.lv (λ st a z => z.imp id (gw a)) r0⟩
     · rw [zzV (λ z => e2 z.symm)] at e
       rw [ak k e2 e1]
       exact (R.sl k s e).grow g λ a m u h => kp a u h (off k a e2 e1 m)
end
def spM (K : zC) (kd : KD) (g : O -> O -> It1 -> Option (O × O)) : Sp := λ vs H Q _ => ∃ (F B G : Addr -> Prop) (T0 T1 : List Addr) (v0 v1 v2 : V) (o0 o1 : O) (x : It1) (r : O × O), vs = [v0, v1, v2] /\ (∀ a, F a -> H a ≠ none) /\ (∀ a, B a -> H a ≠ none /\ ¬ F a /\ ¬ G a) /\ (∀ a, G a -> H a ≠ none /\ ¬ F a) /\
 (T0 ++ T1).Nodup /\ (∀ a ∈ T0 ++ T1, G a) /\ RoS K kd F B G H v0 o0 T0 /\ RoS K kd F B G H v1 o1 T1 /\ Rp K kd (Lv F B G x.1) H v2 x.2 /\ g o0 o1 x = some r /\
 ∀ (H' : Hp) (T0' T1' : List Addr), (∀ c u, H c = some u -> c ∉ T0 ++ T1 -> H' c = some u) -> (T0' ++ T1').Nodup -> (∀ a ∈ T0' ++ T1', a ∈ T0 ++ T1 \/ H a = none) -> (∀ a ∈ T0' ++ T1', H' a ≠ none) ->
  RoS K kd F B (G2 G (T0 ++ T1) (T0' ++ T1')) H' v0 r.1 T0' -> RoS K kd F B (G2 G (T0 ++ T1) (T0' ++ T1')) H' v1 r.2 T1' -> Q .non H'
def Vb (i j : Nat) (fe : EF) (g : O -> O -> It1 -> Option (O × O)) : SF := λ as => (as[i]?).bind λ a0 => a0.bind λ _ => (as[j]?).bind λ b0 => b0.bind λ _ => (fe as).bind λ p => (XF p.2 p.1).bind λ x => (x.2[i]?).bind λ a => (x.2[j]?).bind λ b => a.bind λ o0 => b.bind λ o1 => (g o0 o1 x.1).bind λ r => some (.nx ((x.2.set i (some r.1)).set j (some r.2)))
section
variable {X : Cx} {kd : KD} {e : Expr} {fe : EF} {pos pos' : Pos}
theorem zbp {i j k : Nat} {f : Addr} {fdt : FuncData} {ps : List Str} {g : O -> O -> It1 -> Option (O × O)} {x n0 n1 : Str} {p p0 p1 : Pos} (F : FnOk X.prog X.w X.K X.mg X.base CX0 k f fdt ps (spM X.K kd g)) (hr : Room k X.A) (hg : Gl X x) (hm : X.mg x = some (.ref f)) (hk : PySem.W.keepIn X.K (.ref f) = true)
 (hb : Binds X.K fdt ps []) (hx : zbu CX0 X (λ _ _ _ => False)) (hij : i ≠ j) (h0 : PE X (.Name n0 p0) (zbc i)) (h1 : PE X (.Name n1 p1) (zbc j)) (he : AE X kd e fe) (hdb : (x == ("__debug__" : Str)) = false)
 (hs0 : starEach [.Name n0 p0, .Name n1 p1, e] X.env = (false, eval (.Name n0 p0) X.env) :: starEach [.Name n1 p1, e] X.env) (hs1 : starEach [.Name n1 p1, e] X.env = (false, eval (.Name n1 p1) X.env) :: starEach [e] X.env) (hs2 : starEach [e] X.env = (false, eval e X.env) :: starEach [] X.env) (hpl : (backTo pos (starEach [.Name n1 p1, e] X.env)).any (·.1) = false)
 (hs : swapsWith (.Call (.Name x p) [.Name n0 p0, .Name n1 p1, e] [] pos) none pos'.line X.env = pure false) :
 ASt X kd (.Expr (.Call (.Name x p) [.Name n0 p0, .Name n1 p1, e] [] pos) pos') (Vb i j fe g) := by
 with_unfolding_all exact (wF (zcS (zgG F hr hg hm hk hb .nil hx (Wt h0 (Wt h1 (Wt he zcW hs2) hs1) hs0) hdb hs0 hpl) hs) λ D σ H h => by
  obtain ⟨F, B, ad, as, o, R, e, q⟩ := h
  obtain ⟨a0, k0, e1⟩ := bS_ (show (as[i]?).bind _ = _ from e)
  obtain ⟨c0, q0, e2⟩ := bS_ e1
  obtain ⟨b0, k1, e3⟩ := bS_ e2
  obtain ⟨c1, q1, e4⟩ := bS_ e3
  obtain ⟨⟨pv, as1⟩, h1, e5⟩ := bS_ e4
  obtain ⟨⟨it, as2⟩, h2, e6⟩ := bS_ e5
  obtain ⟨a, ka, e7⟩ := bS_ e6
  obtain ⟨b, kb, e8⟩ := bS_ e7
  obtain ⟨o0, qa, e9⟩ := bS_ e8
  obtain ⟨o1, qb, e10⟩ := bS_ e9
  obtain ⟨r, hgr, e11⟩ := bS_ e10
  subst q0 q1 qa qb
  obtain ⟨v0, s0, _⟩ := R.sl i _ k0
  obtain ⟨v1, s1, _⟩ := R.sl j _ k1
  have e12 := Option.some.inj e11
  refine ⟨v0, s0, v1, s1, F, B, ad, as, pv, as1, R, h1, λ v T ad1 H1 R1 rv1 g1 => ?_⟩
  obtain ⟨ad2, R2, rp, le⟩ := ZK R1 rv1 h2
  obtain ⟨w0, t0, ro0⟩ := R2.sl i _ ka
  obtain ⟨w1, t1, ro1⟩ := R2.sl j _ kb
  rw [s0] at t0
  rw [s1] at t1
  cases t0
  cases t1
  have dj : ∀ a ∈ ad2 i, ∀ b ∈ ad2 j, a ≠ b := λ a m b m' z => hij (R2.inj i j a m (z ▸ m'))
  refine ⟨F, B, Gw [] ad2, ad2 i, ad2 j, v0, v1, v, o0, o1, it, r, rfl, R2.ftr, R2.btr, R2.gtr, List.nodup_append.mpr ⟨R2.nd i, R2.nd j, dj⟩, λ a m => (zzJ.mp m).elim (λ y => .inr ⟨i, y⟩) λ y => .inr ⟨j, y⟩, ro0, ro1, rp, hgr, λ H' T0 T1 kp nd sub al r0 r1 => ?_⟩
  obtain ⟨R3, g3⟩ := R2.chg2 hij (zzD.mp ka).1 (zzD.mp kb).1 s0 s1 nd sub kp al r0 r1
  subst e12
  exact q σ _ _ R3 ((g1.trans (Grow.less le)).trans g3))
end
def zkH (n : Nat) (K : zC) (kd : KD) (F B : Addr -> Prop) (ad : Ad) (σ : St) (H : Hp) (D : Ends) : Out -> Prop
 | .nx as' => ∀ σ' ad' H', (∀ i, i < n -> σ'[i]? = σ[i]?) -> Rel K kd F B [] ad' as' σ' H' -> Grow (Gw [] ad) H (Gw [] ad') H' -> D.nx σ' H'
 | .bk as' => ∀ σ' ad' H', (∀ i, i < n -> σ'[i]? = σ[i]?) -> Rel K kd F B [] ad' as' σ' H' -> Grow (Gw [] ad) H (Gw [] ad') H' -> D.bk σ' H'
 | .ct as' => ∀ σ' ad' H', (∀ i, i < n -> σ'[i]? = σ[i]?) -> Rel K kd F B [] ad' as' σ' H' -> Grow (Gw [] ad) H (Gw [] ad') H' -> D.ct σ' H'
 | .rt _ => False
def bp (n : Nat) (K : zC) (kd : KD) (f : SF) : TS := λ D σ H => ∃ F B ad as o, Rel K kd F B [] ad as σ H /\ f as = some o /\ zkH n K kd F B ad σ H D o
@[irreducible] def AP (X : Cx) (kd : KD) (n : Nat) (st : Stmt) (f : SF) : Prop := PS X st (bp n X.K kd f)
@[irreducible] def APs (X : Cx) (kd : KD) (n : Nat) (st : List Stmt) (f : SF) : Prop := PSs X st (bp n X.K kd f)
theorem zkH.pre {n : Nat} {K : zC} {kd : KD} {F B : Addr -> Prop} {ad ad1 : Ad} {σ σ1 : St} {H H1 : Hp} {D : Ends} {o : Out} (s : ∀ i, i < n -> σ1[i]? = σ[i]?) (g : Grow (Gw [] ad) H (Gw [] ad1) H1) (h : zkH n K kd F B ad σ H D o) : zkH n K kd F B ad1 σ1 H1 D o := by
 cases o with
 | nx as => exact λ σ' ad' H' s' R g' => h σ' ad' H' (λ i hi => (s' i hi).trans (s i hi)) R (g.trans g')
 | bk as => exact λ σ' ad' H' s' R g' => h σ' ad' H' (λ i hi => (s' i hi).trans (s i hi)) R (g.trans g')
 | ct as => exact λ σ' ad' H' s' R g' => h σ' ad' H' (λ i hi => (s' i hi).trans (s i hi)) R (g.trans g')
 | rt _ => exact h
section
variable {X : Cx} {kd : KD} {n : Nat} {e c tg iter : Expr} {st : Stmt} {rest sts body : List Stmt} {fa : EF} {ta : TF} {f g : SF} {pos pos' : Pos}
theorem zjI : APs X kd n [] sNx := by with_unfolding_all exact (VV zgy λ D σ H h => by
 obtain ⟨F, B, ad, as, o, R, e, q⟩ := h
 cases e
 exact q σ ad H (λ _ _ => rfl) R Grow.refl)
theorem zdQ (h1 : AP X kd n st f) (h2 : APs X kd n rest g) : APs X kd n (st :: rest) (zB f g) := by with_unfolding_all exact (VV (zeE h1 h2) λ D σ H h => by
 obtain ⟨F, B, ad, as, o, R, e, q⟩ := h
 obtain ⟨o1, e1, e⟩ := bS_ (show (f as).bind _ = _ from e)
 refine ⟨F, B, ad, as, o1, R, e1, ?_⟩
 cases o1 with
 | nx as1 => exact λ σ' ad' H' s' R' g' => ⟨F, B, ad', as1, o, R', e, q.pre s' g'⟩
 | bk as1 => cases e; exact q
 | ct as1 => cases e; exact q
 | rt r => cases e; exact q)
theorem zds (h1 : AP X kd n st f) : APs X kd n [st] f := by with_unfolding_all exact (zfY h1)
theorem znC (hc : AT X kd c ta) (ha : APs X kd n sts f) (hb : APs X kd n rest g) : AP X kd n (.If c sts rest pos) (sIf ta f g) := by with_unfolding_all exact (wF (zkZ hc ha hb) λ D σ H h => by
 obtain ⟨F, B, ad, as, o, R, e, q⟩ := h
 obtain ⟨⟨p, as1⟩, h1, e⟩ := bS_ (show (ta as).bind _ = _ from e)
 refine ⟨F, B, ad, as, p, as1, R, h1, λ ad' H' R' g => ?_⟩
 cases p with
 | true => exact ⟨F, B, ad', as1, o, R', e, q.pre (λ _ _ => rfl) g⟩
 | false => exact ⟨F, B, ad', as1, o, R', e, q.pre (λ _ _ => rfl) g⟩)
theorem zjS (he : AE X kd e fa) (hs : swapsWith e none pos.line X.env = pure false) : AP X kd n (.Expr e pos) (yO fa) := by with_unfolding_all exact (wF (zcS he hs) λ D σ H h => by
 obtain ⟨F, B, ad, as, o, R, e, q⟩ := h
 obtain ⟨⟨p, as1⟩, h1, e⟩ := bS_ (show (fa as).bind _ = _ from e)
 cases e
 exact ⟨F, B, ad, as, p, as1, R, h1, λ v T' ad' H' R' rv g => q σ ad' H' (λ _ _ => rfl) R'.drop (g.trans (Grow.less Gw.drop))⟩)
theorem zmm {z : Bool} {i : Nat} {x : Str} (hn : n <= i) (hN : X.N.Nodup) (hi : X.N[i]? = some x) (hx : Loc X.env.scope x) (he : AE X kd e fa) (hs : swapsWith e (some (.Name x pos')) pos.line X.env = pure false) (hf : X.fn x = true \/ X.env.scope.names.lookup x = some .local) :
 AP X kd n (.Assign [.Name x pos'] e pos) (zJ z i fa) := by with_unfolding_all exact (wF (ziN hN hi hx he hs hf) λ D σ H h => by
 obtain ⟨F, B, ad, as, o, R, e, q⟩ := h
 obtain ⟨⟨p, as1⟩, h1, e⟩ := bS_ (show (fa as).bind _ = _ from e)
 obtain ⟨⟨y, as2⟩, h2, e⟩ := bS_ e
 obtain ⟨hl, e⟩ := zR e
 cases e
 refine ⟨F, B, ad, as, p, as1, R, h1, λ v T' ad' H' R' rv g => ?_⟩
 obtain ⟨ad2, R2, le⟩ := zdx R' rv h2 hl
 exact q _ ad2 H' (λ k hk => zzV (by omega)) R2 (g.trans (Grow.less le)))
theorem zmZ {fi : IF} {S : List Nat} {gt : GF} (hS : ∀ i, i < n -> i ∉ S) (hp : PassesOwn (model X.prog X.w) X.A X.env X.xe) (hc : X.calm = true) (hi : AI X kd tg iter fi) (hg : AG X kd tg S gt) (hb : APs X kd n body f) (hs : ∀ x, foldedSetIterable iter X.env x = pure x) :
 AP X kd n (.For tg iter body [] pos) (yM fi gt f) := by with_unfolding_all exact (wF (ziS hp hc hi hg hb hs) λ D σ H h => by
 obtain ⟨F, B, ad, as, o, R, e, q⟩ := h
 obtain ⟨⟨ds, as1⟩, h1, e⟩ := bS_ (show (fi as).bind _ = _ from e)
 refine ⟨F, B, ad, as, ds, as1, R, h1, λ J ad1 H1 R1 g1 it => ?_⟩
 refine ⟨λ i m σ2 H2 => m + i = ds.length /\ ∃ ad2 as2, (∀ k, k < n -> σ2[k]? = σ[k]?) /\ Rel X.K kd F B [] ad2 as2 σ2 H2 /\ Grow (Gw [] ad1) H1 (Gw [] ad2) H2 /\ forL gt f (ds.drop i) as2 = some o, ⟨ds.length, rfl, ad1, as1, λ _ _ => rfl, R1, Grow.refl, e⟩, ?_⟩
 rintro i m σ2 H2 ⟨hm, ad2, as2, s2, R2, g2, e2⟩
 obtain ⟨k1, k2, k3⟩ := it.all ad2 H2 g2 R2.trk i
 by_cases hi : i < ds.length
 · refine .inr ⟨k1 hi, λ σ3 H3 => ∃ ad3 as3, (∀ k, k < n -> σ3[k]? = σ[k]?) /\ Rel X.K kd F B [] ad3 as3 σ3 H3 /\ Grow (Gw [] ad1) H1 (Gw [] ad3) H3 /\ forL gt f (ds.drop (i + 1)) as3 = some o, λ σ3 H3 ⟨ad3, as3, s3, R3, g3, e3⟩ => ⟨m - 1, by omega, by omega, ad3, as3, s3, R3, g3, e3⟩, λ v H3 hy => ?_⟩
   obtain ⟨kp, rp⟩ := k3 v H3 hy
   rw [List.drop_eq_getElem_cons hi] at e2
   obtain ⟨as3, e3, e2⟩ := bS_ (show (gt _ as2).bind _ = _ from e2)
   obtain ⟨o3, e4, e2⟩ := bS_ e2
   obtain ⟨R3, g3⟩ := R2.more kp
   refine ⟨F, B, ad2, as2, _, as3, R3, rp _ (zzB hi), e3, λ σ4 ad4 H4 R4 g4 s4 => ?_⟩
   refine ⟨F, B, ad4, as3, o3, R4, e4, ?_⟩
   have gg := (g2.trans g3).trans g4
   have s4' : ∀ k, k < n -> σ4[k]? = σ[k]? := λ k hk => (s4 k (hS k hk)).trans (s2 k hk)
   cases o3 with
   | nx as5 => exact λ σ5 ad5 H5 s5 R5 g5 => ⟨ad5, as5, λ k hk => (s5 k hk).trans (s4' k hk), R5, gg.trans g5, e2⟩
   | ct as5 => exact λ σ5 ad5 H5 s5 R5 g5 => ⟨ad5, as5, λ k hk => (s5 k hk).trans (s4' k hk), R5, gg.trans g5, e2⟩
   | bk as5 =>
    cases e2
    exact λ σ5 ad5 H5 s5 R5 g5 => q σ5 ad5 H5 (λ k hk => (s5 k hk).trans (s4' k hk)) R5 (g1.trans (gg.trans g5))
   | rt r => cases e2; exact q.elim
 · refine .inl ⟨k2 (by omega), ?_⟩
   rw [List.drop_eq_nil_of_le (by omega)] at e2
   cases e2
   exact q σ2 ad2 H2 s2 R2 (g1.trans g2))
end
section
variable {X : Cx} {kd : KD} {e a b c o i : Expr} {pos pos' : Pos} {fa fb fk fv : EF}
theorem zjW {n : Nat} {j : Nat} {x : Str} {p : Pos} (hu : X.A.units + 1 < cLine) (ho : PE X (.Name x p) (zbc j)) (hk : AE X kd i fk) (hv : AE X kd e fv) (hs : swapsWith e (some (.Subscript (.Name x p) i pos')) pos.line X.env = pure false) :
 AP X kd n (.Assign [.Subscript (.Name x p) i pos'] e pos) (WP j fk fv) := by with_unfolding_all exact (wF (zgc hu ho hk hv hs) λ D σ H h => by
 obtain ⟨F, B, ad, as, o, R, e, q⟩ := h
 obtain ⟨⟨p, as1⟩, h1, e⟩ := bS_ (show (fv as).bind _ = _ from e)
 obtain ⟨⟨⟨st, d⟩, as2⟩, h2, e⟩ := bS_ e
 cases k1 : as2[j]? with
 | none => rw [k1] at e; cases e
 | some a0 =>
  rw [k1] at e
  match a0, e, k1 with
  | some (.nd (.dt ks0) os0), e, k1 =>
   obtain ⟨⟨pk, as3⟩, h3, e⟩ := bS_ (show (fk as2).bind _ = _ from e)
   obtain ⟨⟨dk, lk⟩, h4, e⟩ := bS_ e
   obtain ⟨k, h5, e⟩ := bS_ e
   refine ⟨F, B, ad, as, p, as1, R, h1, λ v T1 ad1 H1 R1 rv1 g1 => ?_⟩
   obtain ⟨ad2, R2, rp, le⟩ := ZK R1 rv1 h2
   obtain ⟨v0, hs0, ro0⟩ := R2.sl j _ k1
   refine ⟨v0, hs0, Wi R2 h3 λ u ad3 H3 R3 rv3 g3 => ?_⟩
   cases k2 : as3[j]? with
   | none => rw [k2] at e; cases e
   | some a2 =>
    rw [k2] at e
    match a2, e, k2 with
    | some (.nd (.dt ks) os), e, k2 =>
     obtain ⟨hz, e⟩ := zR e
     cases e
     obtain ⟨v1, hs1, ro1⟩ := R3.sl j _ k2
     rw [hs0] at hs1
     cases hs1
     generalize hfp : ad3 j = fp1 at ro1
     cases ro1 with
     | dt hH hl rl =>
          rename_i l vs fp
          obtain ⟨bk, rfl, hbk⟩ := zbh (vJ.vw R3 rv3 h4) h5
          have ro : RoS X.K kd F B (Gw [] ad3) H3 v (.lf st d) [] := .lf (Rp.grow g3 rp)
          have hlo : ks.length = os.length := by rw [hl, rl.length]
          have hex : ∃ fp', fp'.Sublist fp /\ v5 X.K kd F B (Gw [] ad3) H3 (Ze ks vs k v) (Ze ks os k (.lf st d)) fp' := by
           unfold Ze
           split
           · exact zfl ro hl rl
           · exact ⟨fp, List.Sublist.refl _, by have := rl.append (RoL.one ro); rw [List.append_nil] at this; exact this⟩
          obtain ⟨fp', hsub, rl'⟩ := hex
          have hnd := R3.nd j
          rw [hfp] at hnd
          refine ⟨l, _, rfl, .inr ⟨_, k, bk, hH, rfl, hbk, by rw [List.length_zip, hl, Nat.min_self, <- hl]; exact hz, rfl⟩, ?_⟩
          rw [zeK hl]
          obtain ⟨R4, g4⟩ := R3.mut (fo := []) (n := .nd (.dt (Xq ks k)) (Ze ks os k (.lf st d))) (u := .dT ((Xq ks k).zip (Ze ks vs k v))) (zzD.mp k2).1 hfp hs0 (fp' := fp') (λ a m => by
           rw [List.append_nil] at m ⊢; exact hsub.mem m) (by rw [List.append_nil]; exact (zzT.mp hnd).2.sublist hsub) (by rw [hH]; simp) λ H' G' hl' gr kp => .dt hl' (VJ hl) (v5.grow gr kp rl')
          exact q σ _ _ (λ _ _ => rfl) R4 (((g1.trans (Grow.less le)).trans g3).trans g4))
end
def startM (n : Nat) (o0 o1 : O) (x : It1) : AS := [some o0, some o1, some (.lf x.1 x.2)] ++ List.replicate (n - 3) none
def gM (n : Nat) (c : SF) (o0 o1 : O) (x : It1) : Option (O × O) := (c (startM n o0 o1 x)).bind λ o => match o with
 | .nx as => (as[0]?).bind λ a => (as[1]?).bind λ b => a.bind λ r0 => b.bind λ r1 => some (r0, r1)
 | _ => none
def adM (T0 T1 : List Addr) : Ad := λ i => if i = 0 then T0 else if i = 1 then T1 else []
theorem zaa {T0 T1 : List Addr} {a : Addr} : Gw [] (adM T0 T1) a ↔ a ∈ T0 ++ T1 := by
 constructor
 · rintro (z | ⟨i, z⟩)
   · exact nomatch z
   · match i, z with
     | 0, z => exact zzM _ z
     | 1, z => exact zzI _ z
     | i + 2, z => exact nomatch z
 · intro z
   rcases zzJ.mp z with z | z
   · exact .inr ⟨0, z⟩
   · exact .inr ⟨1, z⟩
theorem zfF {K : zC} {kd : KD} {F B G : Addr -> Prop} {T0 T1 : List Addr} {H : Hp} {N : List Str} {v0 v1 v2 : V} {o0 o1 : O} {x : It1} (hN : 3 <= N.length) (ht : ∀ a, F a -> H a ≠ none) (hB : ∀ a, B a -> H a ≠ none /\ ¬ F a /\ ¬ G a) (hG : ∀ a, G a -> H a ≠ none /\ ¬ F a) (nd : (T0 ++ T1).Nodup) (hT : ∀ a ∈ T0 ++ T1, G a)
 (r0 : RoS K kd F B G H v0 o0 T0) (r1 : RoS K kd F B G H v1 o1 T1) (rp : Rp K kd (Lv F B G x.1) H v2 x.2) :
 Rel K kd F (λ a => B a \/ (G a /\ a ∉ T0 ++ T1)) [] (adM T0 T1) (startM N.length o0 o1 x) (L2.start N [v0, v1, v2]) H := by
 obtain ⟨n0, n1, n2⟩ := List.nodup_append.mp nd
 have lv : ∀ st a, Lv F (λ a => B a \/ (G a /\ a ∉ T0 ++ T1)) (Gw [] (adM T0 T1)) st a -> Lv F B G st a := λ st a z => by
  rcases z with (z | z | z) | z
  · exact .inl (.inl z)
  · exact .inl (.inr z)
  · exact .inr z.1
  · exact .inr (hT a (zaa.mp z))
 refine ⟨by unfold startM L2.start; simp, λ i hi => ?_, λ i => ?_, λ i j a x y => ?_, List.nodup_nil, (λ _ _ _ z => nomatch z), ht, λ a z => ?_, λ a z => hG a (hT a (zaa.mp z)), λ i s e => ?_⟩
 · match i, hi with
   | 0, hi => simp [startM] at hi
   | 1, hi => simp [startM] at hi
   | i + 2, _ => rfl
 · match i with
   | 0 => exact n0
   | 1 => exact n1
   | i + 2 => exact List.nodup_nil
 · match i, j, x, y with
   | 0, 0, _, _ => rfl
   | 1, 1, _, _ => rfl
   | 0, 1, x, y => exact absurd rfl (n2 a x a y)
   | 1, 0, x, y => exact absurd rfl (n2 a y a x)
   | i + 2, _, x, _ => exact nomatch x
   | 0, j + 2, _, y => exact nomatch y
   | 1, j + 2, _, y => exact nomatch y
 · rcases z with z | z
   · exact ⟨(hB a z).1, (hB a z).2.1, λ y => (hB a z).2.2 (hT a (zaa.mp y))⟩
   · exact ⟨(hG a z.1).1, (hG a z.1).2, λ y => z.2 (zaa.mp y)⟩
 · match i, e with
   | 0, e => cases e; exact ⟨v0, rfl, RoS.lv lv r0⟩
   | 1, e => cases e; exact ⟨v1, rfl, RoS.lv lv r1⟩
   | 2, e => cases e; exact ⟨v2, rfl, .lf (rp.less (lv x.1))⟩
   | i + 3, e =>
    have e : (List.replicate (N.length - 3) (none : Option O))[i]? = some s := e
    have ea : s = none := (List.mem_replicate.mp (List.mem_of_getElem? e)).2
    subst ea
    rfl
section
variable {P : Program} {w : World} {K : zC} {mg : Str -> Option Value} {base : Heap}
theorem zlH {kd : KD} {x qual : Str} {st : Stmt} {f : Addr} {fd : FuncData} {N ps : List Str} {k : Nat} {c : SF} (Fn : Fun K x qual st f fd) (S : FnScope N ps (zF st)) (hps : ps.length = 3) (hN : 3 <= N.length)
 (hb : ∀ (cdv : Value) (A : Around) (outer : List Env) (s : Shared) (H : Hp) (E : XK), Room k (A.deeper (envOfC qual (zF st) s.heap.objs.size f cdv)) -> APs (zeC CX0 P w K mg base N qual (zF st) f cdv A outer s H E).nox kd 2 (Wq st) c) :
 FnOk P w K mg base CX0 (k + 1) f fd ps (spM K kd (gM N.length c)) := by
 with_unfolding_all (
 refine Fn.ok S (λ vs H Q E h => ?_) (λ cdv A outer s H vs Q E hr h => ⟨_, hb cdv A outer s H E hr, ?_⟩)
 · obtain ⟨_, _, _, _, _, _, _, _, _, _, _, _, rfl, _⟩ := h
   exact hps.symm
 · obtain ⟨F, B, G, T0, T1, v0, v1, v2, o0, o1, x, r, rfl, ht, hB, hG, nd, hT, r0, r1, rp, e, q⟩ := h
   obtain ⟨out, e1, e⟩ := bS_ e
   refine ⟨F, _, _, startM N.length o0 o1 x, out, zfF hN ht hB hG nd hT r0 r1 rp, e1, ?_⟩
   cases out with
   | nx as =>
    obtain ⟨a, k0, e⟩ := bS_ e
    obtain ⟨b, k1, e⟩ := bS_ e
    obtain ⟨w0, qa, e⟩ := bS_ e
    obtain ⟨w1, qb, e⟩ := bS_ e
    subst qa qb
    intro σ' ad' H' sp R g
    obtain ⟨u0, s0, t0⟩ := R.sl 0 _ k0
    obtain ⟨u1, s1, t1⟩ := R.sl 1 _ k1
    rw [sp 0 (by omega)] at s0
    rw [sp 1 (by omega)] at s1
    cases (show some (some v0) = some (some u0) from s0)
    cases (show some (some v1) = some (some u1) from s1)
    cases (show some (w0, w1) = some r from e)
    have own : ∀ a, a ∈ ad' 0 ++ ad' 1 -> Gw [] ad' a := λ a z => (zzJ.mp z).elim (λ y => .inr ⟨0, y⟩) λ y => .inr ⟨1, y⟩
    have lv : ∀ st a, Lv F B (G2 G (T0 ++ T1) (ad' 0 ++ ad' 1)) st a -> Lv F (λ a => B a \/ (G a /\ a ∉ T0 ++ T1)) (Gw [] ad') st a := λ st a z => by
     rcases z with (z | z) | z | z
     · exact .inl (.inl z)
     · exact .inl (.inr (.inl z))
     · exact .inl (.inr (.inr z))
     · exact .inr (own a z)
    exact q H' (ad' 0) (ad' 1) (λ c u h n => g.keep c u h λ z => n (zaa.mp z)) (List.nodup_append.mpr ⟨R.nd 0, R.nd 1, λ a m b m' z => absurd (R.inj 0 1 a m (z ▸ m')) (by decide)⟩) (λ a m => (g.own a (own a m)).imp zaa.mp id) (λ a m => (R.gtr a (own a m)).1) (RoS.lv lv t0) (RoS.lv lv t1)
   | _ => cases e)
end
def zjh : EF := λ as => some (.ow (.nd (.dt []) []), as)
section
variable {X : Cx} {kd : KD} {n : Nat}
theorem zji {pos : Pos} : AE X kd (.Dict [] [] pos) zjh := by with_unfolding_all exact (wG ziB λ σ H Q h => by
 obtain ⟨F, B, ad, as, r, as', R, e, q⟩ := h
 cases e
 intro p hp
 have k : ∀ b o, H b = some o -> upd H p (.dT []) b = some o := λ b o hb => by rw [zX (xm hb hp)]; exact hb
 obtain ⟨R2, g2⟩ := R.news (T' := [p]) (by simp) (λ a m => by rw [zzO.mp m]; exact hp) k (λ a m => by rw [zzO.mp m, yz]; simp)
 exact q _ [p] ad _ R2 (.dt (ks := []) (vs := []) yz rfl .nil) g2)
theorem svP (z : Bool) (i : Nat) {x : Str} {pos pos' : Pos} {e : Expr} {fa : EF} (hn : n <= i) (hN : X.N.Nodup) (he : AE X kd e fa) (hi : X.N[i]? = some x := by rfl) (hx : Loc X.env.scope x := by first | exact Or.inl rfl | exact Or.inr rfl) (hs : swapsWith e (some (.Name x pos')) pos.line X.env = pure false := by rfl) (hf : X.fn x = true \/ X.env.scope.names.lookup x = some .local := by first | exact Or.inl rfl | exact Or.inr rfl) :
 AP X kd n (.Assign [.Name x pos'] e pos) (zJ z i fa) := zmm hn hN hi hx he hs hf
end
abbrev InR (n : Nat) (x : Int) : Prop := 0 <= x /\ x < (n : Int)
structure LJ (n : Nat) (j : Int -> Int -> Int) (e : Int) : Prop where
 cl : ∀ a b, InR n a -> InR n b -> InR n (j a b)
 ce : InR n e
 ul : ∀ a, InR n a -> j e a = a
 ur : ∀ a, InR n a -> j a e = a
 as : ∀ a b c, InR n a -> InR n b -> InR n c -> j (j a b) c = j a (j b c)
structure LD (n m : Nat) (j : Int -> Int -> Int) (e : Int) (d : Int -> Int -> Int) : Prop where
 cl : ∀ c a, InR m c -> InR n a -> InR n (d c a)
 em : d 0 e = e
 dn : ∀ a i b k, InR n a -> InR m i -> InR n b -> InR m k -> d ((i + k) % m) (j a b) = j (d i a) (d k b)
theorem zax {x : Int} {n : Nat} (hn : 0 < n) : InR n (x % n) := ⟨Int.emod_nonneg _ (by omega), Int.emod_lt_of_pos _ (by omega)⟩
theorem LD.congr {n m : Nat} {j j' : Int -> Int -> Int} {e : Int} {d d' : Int -> Int -> Int} (hm : 0 < m) (hj : LJ n j e) (h : LD n m j e d) (q : ∀ a b, InR n a -> InR n b -> j' a b = j a b) (p : ∀ c a, InR m c -> InR n a -> d' c a = d c a) : LD n m j' e d' := by
 refine ⟨λ c a hc ha => by rw [p c a hc ha]; exact h.cl c a hc ha, by rw [p 0 e ⟨by omega, by omega⟩ hj.ce]; exact h.em, λ a i b k ha hi hb hk => ?_⟩
 rw [q a b ha hb, p _ _ (zax hm) (hj.cl a b ha hb), p i a hi ha, p k b hk hb, q _ _ (h.cl i a hi ha) (h.cl k b hk hb)]
 exact h.dn a i b k ha hi hb hk
def jS (n : Nat) (a b : Int) : Int := (a + b) % n
def jM (a b : Int) : Int := if b > a then b else a
def jL (a b : Int) : Int := if b = 0 then a else b
theorem ljS {n : Nat} (hn : 0 < n) : LJ n (jS n) 0 := by
 refine ⟨λ a b _ _ => zax hn, ⟨by omega, by omega⟩, λ a ha => ?_, λ a ha => ?_, λ a b c _ _ _ => ?_⟩
 · unfold jS; rw [Int.zero_add, Int.emod_eq_of_lt ha.1 ha.2]
 · unfold jS; rw [Int.add_zero, Int.emod_eq_of_lt ha.1 ha.2]
 · unfold jS; rw [Int.emod_add_emod, Int.add_emod_emod, Int.add_assoc]
theorem ljM {n : Nat} (hn : 0 < n) : LJ n jM 0 := by
 refine ⟨λ a b ha hb => ?_, ⟨by omega, by omega⟩, λ a ha => ?_, λ a ha => ?_, λ a b c _ _ _ => ?_⟩ <;> unfold jM <;> (try unfold jM) <;> grind
theorem ljL {n : Nat} (hn : 0 < n) : LJ n jL 0 := by
 refine ⟨λ a b ha hb => ?_, ⟨by omega, by omega⟩, λ a ha => ?_, λ a ha => ?_, λ a b c _ _ _ => ?_⟩ <;> unfold jL <;> grind
theorem four {P : Int -> Prop} (h0 : P 0) (h1 : P 1) (h2 : P 2) (h3 : P 3) {a : Int} (h : InR 4 a) : P a := by
 rcases (show a = 0 \/ a = 1 \/ a = 2 \/ a = 3 by have := h.1; have := h.2; omega) with rfl | rfl | rfl | rfl <;> assumption
theorem f4 {P : Int -> Prop} (h : ∀ a ∈ ([0, 1, 2, 3] : List Int), P a) {a : Int} (ha : InR 4 a) : P a := four (h 0 (by decide)) (h 1 (by decide)) (h 2 (by decide)) (h 3 (by decide)) ha
theorem ldS {n m : Nat} {g x0 x1 : Int} (hn : 0 < n) (hm : 0 < m) (g0 : 0 < g) (gn : g ∣ n) (gm : g ∣ m) : LD n m (jS n) 0 (λ c a => (a * x0 + c * ((n : Int) / g) * x1) % n) := by
 refine ⟨λ c a _ _ => zax hn, by simp, λ a i b k _ _ _ _ => ?_⟩
 obtain ⟨t, ht⟩ := gm
 have h : (m : Int) * ((n : Int) / g) = n * t := by
  obtain ⟨s, hs⟩ := gn
  rw [hs, Int.mul_ediv_cancel_left _ (by omega), ht]; grind
 show (_ : Int) = jS n _ _
 unfold jS
 rw [<- Int.add_emod]
 generalize (n : Int) / g = st at h
 rw [Int.emod_def (i + k) m, Int.emod_def (a + b) n]
 generalize (i + k) / (m : Int) = q
 generalize (a + b) / (n : Int) = p
 rw [show ((a+b) - (n : Int)*p)*x0 + ((i+k) - (m : Int)*q)*st*x1 = (a*x0 + i*st*x1 + (b*x0 + k*st*x1)) + (n : Int)*(-(p*x0) - t*q*x1) by grind, Int.add_mul_emod_self_left]
theorem ldM {n m : Nat} {r : Int -> Int} (hm : 0 < m) (h0 : r 0 = 0) (hc : ∀ a, InR n a -> InR n (r a)) (hr : ∀ a b, InR n a -> InR n b -> a <= b -> r a <= r b) : LD n m jM 0 (λ _ a => r a) := by
 refine ⟨λ c a _ ha => hc a ha, h0, λ a i b k ha _ hb _ => ?_⟩
 show r (jM a b) = jM (r a) (r b)
 unfold jM
 have h1 := hr a b ha hb
 have h2 := hr b a hb ha
 split <;> split <;> grind
theorem ldL {n m : Nat} {r : Int -> Int} (h0 : r 0 = 0) (hc : ∀ a, InR n a -> InR n (r a)) (hr : ∀ a, InR n a -> a ≠ 0 -> r a ≠ 0) : LD n m jL 0 (λ _ a => r a) := by
 refine ⟨λ c a _ ha => hc a ha, h0, λ a i b k ha _ hb _ => ?_⟩
 show r (jL a b) = jL (r a) (r b)
 unfold jL
 have h2 := hr b hb
 split <;> split <;> grind
theorem zmq {n1 n2 : Nat} {x y : Int} (hx : InR n1 x) (hy : InR n2 y) : InR (n1 * n2) (x * n2 + y) := by
 have h1 : 0 <= x * n2 := Int.mul_nonneg hx.1 (by omega)
 have h2 : x * n2 <= ((n1 : Int) - 1) * n2 := Int.mul_le_mul_of_nonneg_right (by have := hx.2; omega) (by omega)
 rw [Int.sub_mul, Int.one_mul] at h2
 refine ⟨by have := hy.1; omega, ?_⟩
 rw [zzS]
 have := hy.2
 omega
theorem yc {n1 n2 : Nat} {p : Int} (h2 : 0 < n2) (h : InR (n1 * n2) p) : InR n1 (p / n2) /\ InR n2 (p % n2) :=
 ⟨⟨Int.ediv_nonneg h.1 (by omega), Int.ediv_lt_of_lt_mul (by omega) (by have := h.2; rw [zzS] at this; exact this)⟩, zax h2⟩
theorem Wy {n2 : Nat} {x y : Int} (hy : InR n2 y) : (x * n2 + y) / n2 = x /\ (x * n2 + y) % n2 = y := by
 have h0 : (n2 : Int) ≠ 0 := by have := hy.1; have := hy.2; omega
 constructor
 · rw [Int.add_comm, Int.add_mul_ediv_right _ _ h0, Int.ediv_eq_zero_of_lt hy.1 hy.2, Int.zero_add]
 · rw [Int.add_comm, Int.add_mul_emod_self_right, Int.emod_eq_of_lt hy.1 hy.2]
theorem znG {n2 : Nat} {p : Int} : (p / n2) * n2 + p % n2 = p := by rw [Int.mul_comm]; exact Int.mul_ediv_add_emod p n2
def jB (n2 : Nat) (j1 j2 : Int -> Int -> Int) (p q : Int) : Int := j1 (p / n2) (q / n2) * n2 + j2 (p % n2) (q % n2)
def dB (n2 : Nat) (d1 d2 : Int -> Int -> Int) (c p : Int) : Int := d1 c (p / n2) * n2 + d2 c (p % n2)
theorem leN {n k : Nat} (h : n <= 8) (hk : 8 <= k := by decide) : n <= k := zzL h hk
theorem np1 {n : Nat} (h : 1 <= n) : (0 : Int) < n := Int.natCast_pos.mpr h
theorem tS {a : Int} {n : Nat} (h0 : 0 <= a) (h1 : a < n) : a.toNat < n := Int.ofNat_lt.mp (by rw [Int.toNat_of_nonneg h0]; exact h1)
theorem mU {n : Nat} {k : Int} (h : n <= 8) (hk : 8 < k := by decide) : (n : Int) < k := Int.lt_of_le_of_lt (Int.ofNat_le.mpr h) hk
theorem iT {n : Nat} {x : Int} (h : InR n x) : x.toNat < n := Int.ofNat_lt.mp (by rw [Int.toNat_of_nonneg h.1]; exact h.2)
theorem iC {n : Nat} {x : Int} (h : InR n x) : ((x.toNat : Nat) : Int) = x := Int.toNat_of_nonneg h.1
theorem zI (i : Nat) : (0 : Int) <= 0 + i := by rw [Int.zero_add]; exact Int.natCast_nonneg i
def rAt (r : List Int) (v : Int) : Int := (r[v.toNat]?).getD 0
def jAt (J : List (List Int)) (w v : Int) : Int := rAt ((J[w.toNat]?).getD []) v
local macro_rules | `(tactic| trivial) => `(tactic| first | with_reducible first | assumption | exact Int.natCast_nonneg _ | exact Nat.le_refl _ | exact Int.le_refl _ | exact rfl | exact leN (by assumption) | exact np1 (by assumption) | exact np2 (by assumption) | exact nq1 (by assumption) | exact nq2 (by assumption) | exact Int.natCast_pos.mpr (by assumption) | exact Nat.le_trans (by assumption) (by decide) | exact bgL _ | exact bgU (by assumption) | exact mU (by assumption) | exact zI _ | exact bL0 (by assumption) | exact bU0 (by assumption) (by assumption) | exact iL (by assumption) | exact iU (by assumption) (by assumption) | exact iC (by assumption) | exact iT (by assumption) | exact stL (by assumption) | exact stU (by assumption) | exact lnK (by assumption) (by assumption) (by assumption) | exact zi1 _ | exact lnE (by assumption) | exact ltL (by assumption) | exact Int.toNat_of_nonneg (by assumption) | exact tS (by assumption) (by assumption) | exact b6 (by assumption) | exact Int.emod_nonneg _ (by decide) | exact Int.emod_lt_of_pos _ (by decide) | decide | omega)
abbrev lfI (x : Int) : O := .lf true (.int x)
abbrev sI (x : Int) : Option O := some (lfI x)
abbrev sT (d : D) : Option O := some (.lf true d)
abbrev sN (os : List O) : Option O := some (.nd .ls os)
abbrev TZ : Type := List (List Int)
abbrev DD : Type := List (Str × TZ)
abbrev SS : Type := List (Str × List Int)
theorem zgD {f : EF} {as as1 : AS} {o : O} (h : f as = some (.ow o, as1)) (hs : o.str = true) : yp f as = some (.rt o) := by
 unfold yp; rw [h]
 show ((if o.str = true then some o else none).bind _) = _
 rw [if_pos hs]; rfl
theorem wL : ∀ xs : List Int, (xs.map lfI).all O.isLf = true /\ O.strs (xs.map lfI) = true /\ O.toDs (xs.map lfI) = xs.map D.int
 | [] => ⟨rfl, rfl, rfl⟩
 | x :: r => ⟨(wL r).1, (wL r).2.1, congrArg (D.int x :: ·) (wL r).2.2⟩
theorem zfO (xs : List Int) : (xs.map D.int).map (O.lf true) = xs.map lfI := by rw [List.map_map]; rfl
theorem Yt (ys : List Int) (w : Int) : (ys ++ [w]).map lfI = ys.map lfI ++ [O.lf true (.int w)] := by rw [List.map_append]; rfl
theorem Z1 (xs : List Int) : (O.nd .ls (xs.map lfI)).str = true /\ (O.nd .ls (xs.map lfI)).toD = .lst (xs.map D.int) := ⟨(wL xs).2.1, congrArg D.lst (wL xs).2.2⟩
abbrev W7 (r : List Int) : O := .nd .ls (r.map lfI)
abbrev zN (r : List Int) : D := .lst (r.map D.int)
theorem zbg : ∀ T : TZ, O.strs (T.map W7) = true /\ O.toDs (T.map W7) = T.map zN
 | [] => ⟨rfl, rfl⟩
 | r :: T => ⟨by show (O.strs (r.map lfI) && O.strs (T.map W7)) = true; rw [(wL r).2.1, (zbg T).1]; rfl, by
  show D.lst (O.toDs (r.map lfI)) :: O.toDs (T.map W7) = _
  rw [(wL r).2.2, (zbg T).2]; rfl⟩
theorem zeL {g : GF} {fe : EF} {as0 as1 : AS} {y : It1} {r : List It1} {o : O} {os : List O} (h1 : g y as0 = some as1) (h2 : fe as1 = some (.ow o, as1)) (hs : o.str = true) (h3 : xF g wk fe as0 r = some os) : xF g wk fe as0 (y :: r) = some (o :: os) := by
 unfold xF
 rw [h1]; show ((fe as1).bind _) = _
 rw [h2]; show (if o.str = true then _ else _) = _
 rw [if_pos hs, h3]; rfl
theorem yC : ∀ (n : Nat) (k : Int), (yL k n).length = n
 | 0, _ => rfl
 | n + 1, k => by rw [zcF]; exact congrArg (· + 1) (yC n (k + 1))
theorem ziI {f : EF} {as : AS} {x : D} (h : WE f as x) : ∃ o, yp f as = some (.rt o) /\ o.str = true /\ o.toD = x := by
 obtain ⟨o, h1, h2, h3⟩ := h
 exact ⟨o, zgD h1 h2, h2, h3⟩
theorem zbi : ∀ {n : Nat} {k : Int} {y : It1}, y ∈ yL k n -> ∃ b : Int, y = (true, .int b) /\ k <= b /\ b < k + n
 | 0, _, _, h => nomatch h
 | n + 1, k, y, h => by
  rw [zcF] at h
  rcases zS.mp h with rfl | h
  · exact ⟨k, rfl, by trivial, by trivial⟩
  · obtain ⟨b, e, h1, h2⟩ := zbi h
    exact ⟨b, e, by trivial, by trivial⟩
def Row (n : Nat) (r : List Int) : Prop := r.length = n /\ ∀ x ∈ r, 0 <= x /\ x < (n : Int)
def Tab (k n : Nat) (T : TZ) : Prop := T.length = k /\ ∀ r ∈ T, Row n r
abbrev ye (T : TZ) : D := .lst (T.map zN)
theorem zlE {r : List Int} {P : Int -> Prop} {k : Int} (h0 : 0 <= k) (h1 : k < r.length) (hp : ∀ x ∈ r, P x) : ∃ x, ixP (zN r) (.int k) = some (.im (.int x)) /\ P x := by
 have hk : k.toNat < r.length := by trivial
 refine ⟨r[k.toNat], ?_, hp _ (List.getElem_mem hk)⟩
 have h := Wk (xs := r.map D.int) (j := k.toNat) (v := D.int r[k.toNat]) (by rw [zzF, zzB hk]; rfl)
 rw [show ((k.toNat : Nat) : Int) = k by trivial] at h
 show imR (atI _ _) = _
 rw [h]; rfl
theorem W6 {α : Type} {f : α -> D} {l : List α} {i : Nat} {p : α} (h : l[i]? = some p) : ixP (.lst (l.map f)) (.int (i : Int)) = some (.im (f p)) := by
 have h := Wk (xs := l.map f) (j := i) (v := f p) (by rw [zzF, h]; rfl)
 show imR (atI _ _) = _
 rw [h]; rfl
theorem zmJ {n k : Nat} {r : List Int} {v : Int} (hl : r.length = k) (hr : ∀ x ∈ r, InR n x) (hv : InR k v) : ixP (zN r) (.int v) = some (.im (.int (rAt r v))) /\ InR n (rAt r v) := by
 have hk : v.toNat < r.length := by rw [hl]; have := hv.1; have := hv.2; trivial
 have g := zzB hk
 have e : rAt r v = r[v.toNat] := by unfold rAt; rw [g]; rfl
 rw [e]
 refine ⟨?_, hr _ (List.getElem_mem hk)⟩
 have := W6 (f := D.int) g
 rw [show ((v.toNat : Nat) : Int) = v by have := hv.1; trivial] at this
 exact this
abbrev zfi (T : TZ) (w : Int) : List Int := (T[w.toNat]?).getD []
theorem Y7 {k n : Nat} {T : TZ} {w : Int} (hT : Tab k n T) (hw : InR k w) : ixP (ye T) (.int w) = some (.im (zN (zfi T w))) /\ Row n (zfi T w) := by
 have hk : w.toNat < T.length := by rw [hT.1]; have := hw.1; have := hw.2; trivial
 have g := zzB hk
 unfold zfi
 rw [g]
 refine ⟨?_, hT.2 _ (List.getElem_mem hk)⟩
 have := W6 (f := zN) g
 rw [show ((w.toNat : Nat) : Int) = w by have := hw.1; trivial] at this
 exact this
theorem rowAt {n : Nat} {r : List Int} {v : Int} (hr : Row n r) (hv : InR n v) : ixP (zN r) (.int v) = some (.im (.int (rAt r v))) /\ InR n (rAt r v) := zmJ hr.1 hr.2 hv
theorem zfT {α : Type} (toD : α -> D) {Q : Nat -> α -> Prop} {g : GF} {fe : EF} {as0 : AS} : ∀ {xs : List It1} (k : Nat), (∀ i y, xs[i]? = some y -> ∃ as1 a, g y as0 = some as1 /\ WE fe as1 (toD a) /\ Q (k + i) a) -> ∃ (os : List O) (l : List α), xF g wk fe as0 xs = some os /\ O.strs os = true /\ O.toDs os = l.map toD /\ l.length = xs.length /\ ∀ i a, l[i]? = some a -> Q (k + i) a
 | [], k, _ => ⟨[], [], rfl, rfl, rfl, rfl, λ i a h => by simp at h⟩
 | y :: xs, k, H => by
  obtain ⟨as1, a, h1, ⟨o, h2, h3, h4⟩, h5⟩ := H 0 y rfl
  obtain ⟨os, l, a1, a2, a3, a4, a5⟩ := zfT toD (Q := Q) (g := g) (fe := fe) (as0 := as0) (xs := xs) (k + 1) λ i z m => by
   have := H (i + 1) z (by simpa using m)
   rwa [show k + (i + 1) = k + 1 + i by trivial] at this
  refine ⟨o :: os, a :: l, zeL h1 h2 h3 a1, by show (o.str && O.strs os) = true; rw [h3, a2]; rfl, by show o.toD :: O.toDs os = _; rw [h4, a3]; rfl, congrArg (· + 1) a4, λ i b m => ?_⟩
  cases i with
  | zero => simp at m; subst m; exact h5
  | succ i =>
   have := a5 i b (by simpa using m)
   rwa [show k + 1 + i = k + (i + 1) by trivial] at this
theorem zjn {α : Type} (toD : α -> D) {Q : Nat -> α -> Prop} {fi : IF} {cap : List (Option Nat)} {g : GF} {fe : EF} {as : AS} {xs : List It1} (h1 : fi as = some (xs, as)) (hl : xs.length <= 1000) (H : ∀ i y, xs[i]? = some y -> ∃ as1 a, g y (Z4 cap as) = some as1 /\ WE fe as1 (toD a) /\ Q i a) :
 ∃ l : List α, l.length = xs.length /\ (∀ i a, l[i]? = some a -> Q i a) /\ WE (yE fi cap g wk fe) as (.lst (l.map toD)) := by
 obtain ⟨os, l, a1, a2, a3, a4, a5⟩ := zfT toD (Q := Q) (g := g) (fe := fe) (as0 := Z4 cap as) 0 (λ i y h => by rw [Nat.zero_add]; exact H i y h)
 exact ⟨l, a4, (λ i a h => by have := a5 i a h; rwa [Nat.zero_add] at this), _, zbk h1 (szs (by trivial)) a1, a2, congrArg D.lst a3⟩
abbrev zjg (N n : Nat) (f : Int -> Int) (r : List Int) : Prop := r.length = n /\ (∀ x ∈ r, InR N x) /\ ∀ b, InR n b -> rAt r b = f b
abbrev zmv (k n : Nat) (f : Int -> Int -> Int) (T : TZ) : Prop := Tab k n T /\ ∀ a b, InR k a -> InR n b -> jAt T a b = f a b
theorem zkN {N n : Nat} {f : Int -> Int} {l : List Int} (hl : l.length = n) (h : ∀ (i : Nat) a, l[i]? = some a -> a = f i /\ InR N a) : zjg N n f l := by
 refine ⟨hl, λ x m => ?_, λ b hb => ?_⟩
 · obtain ⟨i, hi⟩ := List.getElem?_of_mem m
   exact (h i x hi).2
 · have hk : b.toNat < l.length := by rw [hl]; have := hb.1; have := hb.2; trivial
   have g := zzB hk
   unfold rAt
   rw [g]
   show l[b.toNat] = _
   rw [(h _ _ g).1, show ((b.toNat : Nat) : Int) = b by have := hb.1; trivial]
theorem zkd {k n : Nat} {f : Int -> Int -> Int} {l : TZ} (hl : l.length = k) (h : ∀ (i : Nat) r, l[i]? = some r -> zjg n n (f i) r) : zmv k n f l := by
 refine ⟨⟨hl, λ x m => ?_⟩, λ a b ha hb => ?_⟩
 · obtain ⟨i, hi⟩ := List.getElem?_of_mem m
   exact ⟨(h i x hi).1, (h i x hi).2.1⟩
 · have hk : a.toNat < l.length := by rw [hl]; have := ha.1; have := ha.2; trivial
   have g := zzB hk
   unfold jAt
   rw [g]
   show rAt l[a.toNat] b = _
   have := (h _ _ g).2.2 b hb
   rw [show ((a.toNat : Nat) : Int) = a by have := ha.1; trivial] at this
   exact this
theorem zfX {f : Int -> Int} {N : Nat} {fr : AF} {cap : List (Option Nat)} {fe : EF} {as : AS} {n : Nat} {u : Bool} (h1 : WA fr as [(u, .int n)]) (hl : n <= 1000) (H : ∀ b : Int, InR n b -> ∃ as1, gN 0 (true, .int b) (Z4 cap as) = some as1 /\ WE fe as1 (.int (f b)) /\ InR N (f b)) :
 ∃ r : List Int, zjg N n f r /\ WE (yE (ym fr yw) cap (gN 0) wk fe) as (zN r) := by
 obtain ⟨l, a1, a2, a3⟩ := zjn D.int (Q := λ i a => a = f i /\ InR N a) (cap := cap) (g := gN 0) (fe := fe) (xq h1 (by trivial) (by trivial)) (by rw [yC]; trivial) (λ i y m => by
  obtain ⟨rfl, hi⟩ := yW m
  obtain ⟨as1, b1, b2, b3⟩ := H (0 + i) ⟨by trivial, by trivial⟩
  exact ⟨as1, f (0 + i), b1, b2, by rw [Int.zero_add], b3⟩)
 rw [yC] at a1
 exact ⟨l, zkN (by trivial) a2, a3⟩
theorem zfS {f : Int -> Int -> Int} {n : Nat} {fr : AF} {cap : List (Option Nat)} {fe : EF} {as : AS} {k : Nat} {u : Bool} (h1 : WA fr as [(u, .int k)]) (hl : k <= 1000) (H : ∀ b : Int, InR k b -> ∃ as1 r, gN 0 (true, .int b) (Z4 cap as) = some as1 /\ WE fe as1 (zN r) /\ zjg n n (f b) r) :
 ∃ T : TZ, zmv k n f T /\ WE (yE (ym fr yw) cap (gN 0) wk fe) as (ye T) := by
 obtain ⟨l, a1, a2, a3⟩ := zjn zN (Q := λ i r => zjg n n (f i) r) (cap := cap) (g := gN 0) (fe := fe) (xq h1 (by trivial) (by trivial)) (by rw [yC]; trivial) (λ i y m => by
  obtain ⟨rfl, hi⟩ := yW m
  obtain ⟨as1, r, b1, b2, b3⟩ := H (0 + i) ⟨by trivial, by trivial⟩
  rw [Int.zero_add] at b3
  exact ⟨as1, r, b1, b2, b3⟩)
 rw [yC] at a1
 exact ⟨l, zkd (by trivial) a2, a3⟩
theorem zfz : ∀ (b : Nat) (a : Int) (f : Nat), b < f -> 0 < a -> a < 1000 -> b < 1000 -> ∃ g e, 0 < g /\ g < 1000 /\ g ∣ a /\ g ∣ (b : Int) /\ whL (fT (f2 (fV 1) (fC (.int 0)) (yj .Gt))) (zhO 0 1 (dC (fV 1) (dC (f2 (fV 0) (fV 1) (zp .Mod)) dN))) f [sI a, sI b] = some (.nx [sI g, e]) := by
 intro b
 induction b using Nat.strongRecOn with
 | ind b ih =>
  intro a f hf ha ha2 hb2
  cases f with
  | zero => trivial
  | succ f =>
   by_cases hb : b = 0
   · subst hb
     exact ⟨a, _, ha, ha2, Int.dvd_refl a, Int.dvd_zero a, zjp (vg (zdY (zb rfl) zf) rfl)⟩
   · have m0 := Int.emod_nonneg a (show (b : Int) ≠ 0 by trivial)
     have m1 := Int.emod_lt_of_pos a (show (0 : Int) < b by trivial)
     obtain ⟨g, e, g0, g1, d1, d2, hg⟩ := ih (a % b).toNat (by trivial) b f (by trivial) (by trivial) (by trivial) (by trivial)
     rw [show (((a % b).toNat : Nat) : Int) = a % b by trivial] at hg d2
     refine ⟨g, e, g0, g1, ?_, d1, ziW (vg (zdY (zb rfl) zf) (congrArg some (decide_eq_true (show (0 : Int) < b by trivial)))) (zmW (zW (zb rfl) (zW (zU (zb rfl) (zb rfl) (by trivial)) yt)) (zE rfl) (zE rfl)) hg⟩
     rw [<- Int.mul_ediv_add_emod a b]
     exact Int.dvd_add (Int.dvd_trans d1 (Int.dvd_mul_right _ _)) d2
theorem strs_snoc : ∀ (os : List O) (o : O), O.strs os = true -> o.str = true -> O.strs (os ++ [o]) = true
 | [], o, _, h => by show (o.str && true) = true; rw [h]; rfl
 | p :: r, o, h, h' => by
  have h := (Bool.and_eq_true _ _).mp (show (p.str && O.strs r) = true from h)
  show (p.str && O.strs (r ++ [o])) = true
  rw [h.1, strs_snoc r o h.2 h']; rfl
theorem zcI : ∀ (os : List O) (o : O), O.toDs (os ++ [o]) = O.toDs os ++ [o.toD]
 | [], o => rfl
 | p :: r, o => congrArg (p.toD :: ·) (zcI r o)
structure Ows {α : Type} (toD : α -> D) (Q : α -> Prop) (os : List O) (l : List α) : Prop where
 st : O.strs os = true
 ds : O.toDs os = l.map toD
 al : ∀ a ∈ l, Q a
 ln : os.length = l.length
theorem Ows.nil {α : Type} {toD : α -> D} {Q : α -> Prop} : Ows toD Q [] [] := ⟨rfl, rfl, (λ _ m => nomatch m), rfl⟩
theorem Ows.snoc {α : Type} {toD : α -> D} {Q : α -> Prop} {os : List O} {l : List α} {o : O} {a : α} (h : Ows toD Q os l) (h1 : o.str = true) (h2 : o.toD = toD a) (h3 : Q a) : Ows toD Q (os ++ [o]) (l ++ [a]) :=
 ⟨strs_snoc os o h.st h1, (by rw [zcI, h.ds, h2, List.map_append]; rfl), (λ b m => (zzJ.mp m).elim (h.al b) λ m => (by rw [zzO.mp m]; exact h3)), (by rw [zzG, zzG, h.ln]; rfl)⟩
theorem zbo {as as1 : AS} {a : EF} {i : Nat} {os0 os : List O} {o : O} (h : as[i]? = some (sN os0)) (ha : a as = some (.ow o, as1)) (h1 : as1[i]? = some (sN os)) (hl : os.length < sizeLine) : yO (ww i (dC a dN) vm) as = some (.nx (as1.set i (sN (os ++ [o])))) := by
 unfold yO ww; rw [h]
 have e : dC a dN as = some ([o], as1) := ZZ ha rfl
 show ((dC a dN as).bind _).bind _ = _
 rw [e]; show (Option.bind (match as1[i]? with | some (some (.nd .ls os)) => _ | _ => none) _) = _
 rw [h1]; show ((vm os [o]).bind _).bind _ = _
 have e2 : vm os [o] = some (os ++ [o], .lf true .non) := by unfold vm; exact if_pos hl
 rw [e2]; rfl
theorem zoJ {α : Type} {toD : α -> D} {Q : α -> Prop} {as : AS} {a : EF} {i : Nat} {os : List O} {l : List α} {x : α} (h : as[i]? = some (sN os)) (ho : Ows toD Q os l) (hl : l.length < 1000) (ha : WE a as (toD x)) (hx : Q x) :
 ∃ os', Ows toD Q os' (l ++ [x]) /\ yO (ww i (dC a dN) vm) as = some (.nx (as.set i (sN os'))) := by
 obtain ⟨o, h1, h2, h3⟩ := ha
 exact ⟨os ++ [o], ho.snoc h2 h3 hx, zbo h h1 h (by rw [ho.ln]; exact yq (by trivial))⟩
theorem Ows.retB {α : Type} {toD : α -> D} {Q : α -> Prop} {as : AS} {i : Nat} {os : List O} {l : List α} (h : as[i]? = some (sN os)) (ho : Ows toD Q os l) : Rt (yp (fV i) as) (.lst (l.map toD)) :=
 ⟨_, zdy h ho.st, ho.st, congrArg D.lst ho.ds⟩
structure OwsX {α : Type} (toD : α -> D) (Q : Nat -> α -> Prop) (os : List O) (l : List α) : Prop where
 st : O.strs os = true
 ds : O.toDs os = l.map toD
 al : ∀ i a, l[i]? = some a -> Q i a
 ln : os.length = l.length
theorem zlg {fr : AF} {as : AS} {rs : List (Bool × D)} {g : List D -> Option R0} {zs : List D} (ha : WA fr as rs) (hg : g (rs.map (·.2)) = some (.fl zs)) : fP fr g as = some (.ow (.nd .ls (zs.map (lfs (rs.all (·.1))))), as) := by
 unfold fP; unfold WA at ha
 rw [ha]; show (views as _).bind _ = _
 rw [Ys]; show (g _).bind _ = _
 rw [hg]
 show (if (zs.all zL || (some (rs.all (·.1))).isSome) = true then _ else _ : Option RV).bind _ = _
 rw [if_pos (by simp)]; rfl
theorem zlG {a : EF} {as : AS} {x : D} {g : List D -> Option R0} {zs : List D} (ha : WE a as x) (hg : g [x] = some (.fl zs)) : fP (aC a aN) g as = some (.ow (.nd .ls (zs.map (O.lf true))), as) := by
 have := zlg (g := g) (zch ha (zP (as := as))) hg
 rw [show ([(true, x)].all (·.1)) = true from rfl, Wu] at this
 exact this
theorem zni {a : EF} {as : AS} {s : Bool} {r : List Int} (h : WD a as s (zN r)) : fP (aC a aN) lstP as = some (.ow (W7 r), as) := by
 have := zlg (g := lstP) (zx h (zP (as := as))) rfl
 rw [List.map_map] at this
 exact this
theorem zmR {a : EF} {as : AS} {s : Bool} {r : List Int} (h : WD a as s (zN r)) : WE (fP (aC a aN) lstP) as (zN r) := ⟨_, zni h, (Z1 r).1, (Z1 r).2⟩
theorem zie {a b c d : EF} {as : AS} {x y z u w : D} {g : List (Bool × D) -> Option O} (ha : WE a as x) (hb : WE b as y) (hc : WE c as z) (hd : WE d as u) (hg : RE (g [(true, x), (true, y), (true, z), (true, u)]) w) : WE (zG (aC a (aC b (aC c (aC d aN)))) g) as w := by
 obtain ⟨o, h1, h2⟩ := hg
 exact ⟨o, Ws (zch ha (zch hb (zch hc (zch hd zP)))) (by show g [(zL x || true, x), (zL y || true, y), (zL z || true, z), (zL u || true, u)] = _; rw [Bool.or_true, Bool.or_true, Bool.or_true, Bool.or_true]; exact h1), h2⟩
theorem zkD {fr : DF} {as : AS} {os : List O} {x : D} (h : WO fr as os) (hl : os.length <= sizeLine) (hs : O.strs os = true) (e : D.tup (O.toDs os) = x) : WE (yV fr) as x := by
 refine ⟨_, zfa h hl, ?_, ?_⟩
 · unfold ZV
   split
   · exact hs
   · exact hs
 · unfold ZV
   split
   · exact e
   · exact e
theorem copies {n m : Nat} {fr : AF} {cap : List (Option Nat)} {as : AS} {u s : Bool} {r : List Int} (hr : Row n r) (hm : m <= 8) (h1 : WA fr as [(u, .int m)]) (h2 : ∀ b : Int, ∃ as1, gN 0 (true, .int b) (Z4 cap as) = some as1 /\ WD (fV 1) as1 s (zN r)) :
 ∃ T, zmv m n (λ _ a => rAt r a) T /\ WE (yE (ym fr yw) cap (gN 0) wk (fP (aC (fV 1) aN) lstP)) as (ye T) :=
 zfS (f := λ _ a => rAt r a) (n := n) (k := m) (cap := cap) (fe := fP (aC (fV 1) aN) lstP) h1 (by trivial) λ b _ => by
  obtain ⟨as1, g1, g2⟩ := h2 b
  exact ⟨as1, r, g1, zmR g2, hr.1, hr.2, λ _ _ => rfl⟩
theorem zgT {l : List Int} (h : l.Pairwise (· <= ·)) {i j : Nat} (hij : i < j) (hj : j < l.length) : l[i] <= l[j] := List.pairwise_iff_getElem.mp h i j (by trivial) hj hij
theorem Y9 {r : List Int} {a : Int} (h : a.toNat < r.length) : rAt r a = r[a.toNat] := by unfold rAt; rw [zzB h]; rfl
theorem zew : ∀ l : List Int, Xj (l.map D.int) = some l
 | [] => rfl
 | x :: r => by
  show (Xj (r.map D.int)).bind _ = _
  rw [zew r]; rfl
theorem zmo {as : AS} {i : Nat} {os : List O} {fl fh : OF} {lo hi : Option Int} (h : as[i]? = some (sN os)) (hl : os.all O.isLf = true) (hs : O.strs os = true) (h1 : fl as = some (lo, as)) (h2 : fh as = some (hi, as)) :
 fSl (fV i) fl fh slP as = some (.ow (.nd .ls ((cutD (O.toDs os) lo hi).map (O.lf true))), as) := by
 unfold fSl
 rw [zaR h]; show ((fl as).bind _) = _
 rw [h1]; show ((fh as).bind _) = _
 rw [h2]; show ((RV.view as (.bo i)).bind _) = _
 rw [Wl h]
 have e : (O.nd .ls os).kl = some true := by simp only [O.kl, hl, if_true, hs]
 rw [e]
 show (wrap (some true) (.fl (cutD (O.toDs os) lo hi))).bind _ = _
 show (if ((cutD (O.toDs os) lo hi).all zL || true) = true then some (RV.ow (.nd .ls ((cutD (O.toDs os) lo hi).map (lfs true)))) else none : Option RV).bind _ = _
 rw [if_pos (by simp), Wu]; rfl
theorem Ows.frz {α : Type} {toD : α -> D} {Q : α -> Prop} {os : List O} {l : List α} (h : Ows toD Q os l) : (O.nd .ls os).frz = .lf true (.lst (l.map toD)) := by
 show O.lf (O.strs os) (.lst (O.toDs os)) = _
 rw [h.st, h.ds]
theorem zfD {as as2 : AS} {j : Nat} {ps : List O} {fr : DF} {os : List O} (hj : as[j]? = some (sN ps)) (hr : fr (as.set j (some (O.nd .ls ps).frz)) = some (os, as2)) : dC (fV j) fr as = some ((O.nd .ls ps).frz :: os, as2) := by
 unfold dC
 rw [zaR hj]
 show ((toO as (.bo j)).bind _) = _
 rw [zme hj]
 show (fr (as.set j (some (O.nd .ls ps).frz))).bind _ = _
 rw [hr]; rfl
theorem zgw {as as1 : AS} {fr : DF} {os : List O} (h : fr as = some (os, as1)) (hl : os.length <= sizeLine) : yV fr as = some (.ow (ZV os), as1) := by
 unfold yV
 rw [h]; show (if os.length <= sizeLine then _ else _) = _
 rw [if_pos hl]
theorem zbF : ∀ (l : List Int) (k : Nat) (h : k < l.length), (l[k] :: l.eraseIdx k).Perm l
 | x :: r, 0, _ => List.Perm.refl _
 | x :: r, k + 1, h => (List.Perm.swap _ _ _).trans ((zbF r k (by simpa using h)).cons x)
abbrev zay (n : Nat) : List Int := (List.range n).map λ (i : Nat) => (i : Int)
abbrev Wa (p : Str × List Int) : D := .tup [.str p.1, zN p.2]
theorem ziJ {x y : Int} {c : Bool} : ixP (.lst [.int x, .int y]) (.int (if c = true then 1 else 0)) = some (.im (.int (if c = true then y else x))) := by cases c <;> rfl
abbrev abc : Str := "abcdefghijklmnopqrstuvwxyz"
theorem zkc : ∀ k, k < 26 -> abc.cps.toList[k]? = some (97 + k) := by decide +kernel
theorem zmE {i : Int} (h0 : 0 <= i) (h1 : i < 26) : ixP (.str abc) (.int i) = some (.im (.str ⟨#[97 + i.toNat]⟩)) := by
 show (if abc.length <= sizeLine then (atI abc.cps.toList i).bind (λ c => some (R0.im (.str ⟨#[c]⟩))) else none) = _
 rw [if_pos (show abc.length <= sizeLine by decide +kernel)]
 have := Wk (zkc i.toNat (by trivial))
 rw [show ((i.toNat : Nat) : Int) = i by trivial] at this
 rw [this]; rfl
theorem zei : ∀ l : List Str, zaO (l.map D.str) = some l
 | [] => rfl
 | x :: r => by
  show (zaO (r.map D.str)).bind _ = _
  rw [zei r]; rfl
theorem znD : ∀ l : List Str, (∀ s ∈ l, s.length = 1) -> (l.map (·.length)).sum = l.length
 | [], _ => rfl
 | x :: r, h => by
  show x.length + (r.map (·.length)).sum = r.length + 1
  rw [h x (zzC ..), znD r λ s m => h s (zzA _ m)]; trivial
theorem zkI {α : Type} (toD : α -> D) {Q : Nat -> α -> Prop} {fr : AF} {cap : List (Option Nat)} {fe : EF} {as : AS} {n : Nat} {u : Bool} (h1 : WA fr as [(u, .int n)]) (hl : n <= 1000) (H : ∀ i : Nat, i < n -> ∃ as1 a, gN 0 (true, .int (i : Int)) (Z4 cap as) = some as1 /\ WE fe as1 (toD a) /\ Q i a) :
 ∃ l : List α, l.length = n /\ (∀ i a, l[i]? = some a -> Q i a) /\ WE (yE (ym fr yw) cap (gN 0) wk fe) as (.lst (l.map toD)) := by
 obtain ⟨l, a1, a2, a3⟩ := zjn toD (Q := Q) (cap := cap) (g := gN 0) (fe := fe) (xq h1 (by trivial) (by trivial)) (by rw [yC]; trivial) (λ i y m => by
  obtain ⟨rfl, hi⟩ := yW m
  rw [Int.zero_add]
  exact H i (by trivial))
 rw [yC] at a1
 exact ⟨l, by trivial, a2, a3⟩
theorem ZL {F : List Int} {n : Nat} (h : F.Perm (zay n)) : Row n F /\ ∀ b : Int, 0 <= b -> b < n -> b ∈ F := by
 refine ⟨⟨by rw [h.length_eq, zD, List.length_range], λ x m => ?_⟩, λ b b0 b1 => h.mem_iff.mpr ?_⟩
 · obtain ⟨i, hi, rfl⟩ := List.mem_map.mp (h.mem_iff.mp m)
   have := List.mem_range.mp hi
   trivial
 · exact List.mem_map.mpr ⟨b.toNat, List.mem_range.mpr (by trivial), by trivial⟩
theorem zeN {F : List Int} {n : Nat} (h : F.Perm (zay n)) {v w : Int} (hv : InR n v) (hw : InR n w) (e : rAt F v = rAt F w) : v = w := by
 have hl := (ZL h).1.1
 have v0 := hv.1
 have v1 := hv.2
 have w0 := hw.1
 have w1 := hw.2
 have nd : F.Nodup := by
  refine h.nodup_iff.mpr (List.pairwise_map.mpr (List.nodup_range.imp λ z q => z (by trivial)))
 rw [Y9 (by trivial), Y9 (by trivial)] at e
 have := (List.getElem_inj nd).mp e
 trivial
theorem zok {f : EF} {g : GF} {as as' : AS} {x : D} (h : WE f as x) (hg : g (true, x) as = some as') : zes f g as = some (.nx as') := by
 obtain ⟨o, h1, h2, h3⟩ := h
 exact ziV h1 (by rw [h2, h3]; exact hg)
abbrev Zi (p : Str × TZ) : D := .tup [.str p.1, ye p.2]
structure Alg (n m : Nat) (J : TZ) (e : Int) (Ds : DD) : Prop where
 n1 : 1 <= n
 n8 : n <= 8
 m1 : 1 <= m
 m6 : m <= 6
 j : Tab n n J
 e0 : 0 <= e
 en : e < n
 dl : Ds.length <= 6
 ds : ∀ p ∈ Ds, Tab m n p.2
 nd : (Ds.map (·.1)).Nodup
structure LawA (n m : Nat) (J : TZ) (e : Int) (Ds : DD) : Prop where
 lj : LJ n (jAt J) e
 ld : ∀ p ∈ Ds, LD n m (jAt J) e (jAt p.2)
abbrev zH (n m : Nat) (J : TZ) (e : Int) (Ds : DD) (S : SS) : D := .tup [.int n, .int m, ye J, .int e, .lst (Ds.map Zi), .lst (S.map Wa)]
theorem zbv {f : EF} {as : AS} {k : Int} (h : WD f as true (.int k)) : oS f as = some (some k, as) := by
 unfold oS
 unfold WD at h
 rw [h]; rfl
abbrev Zr (T : TZ) : O := .nd .ls (T.map W7)
theorem zae {as : AS} {i : Nat} {k : Int} {s : Bool} (h : as[i]? = some (some (.lf s (.int k)))) : xV i as = some k := by
 unfold xV; rw [zgC (f := zbK) h rfl]; rfl
theorem zmz {r : List Int} {k : Int} (h : k.toNat < r.length) : (r.map lfI)[k.toNat]? = sT (.int r[k.toNat]) := by
 rw [zzF, zzB h]; rfl
theorem zhg {as : AS} {i : Nat} {f1 f2 fv : IXF} {k1 k2 c : Int} {T : TZ} {r : List Int} (h1 : f1 as = some k1) (h2 : f2 as = some k2) (hv : fv as = some c) (p1 : 0 <= k1) (p2 : 0 <= k2) (hi : as[i]? = some (some (Zr T))) (hr : T[k1.toNat]? = some r) (hk : k2.toNat < r.length) :
 Wz i f1 f2 fv as = some (.nx (as.set i (some (Zr (T.set k1.toNat (r.set k2.toNat c)))))) := by
 have e1 : (T.map W7)[k1.toNat]? = sN (r.map lfI) := by rw [zzF, hr]; rfl
 have e2 := zmz hk
 have e3 : (T.map W7).set k1.toNat (.nd .ls ((r.map lfI).set k2.toNat (.lf true (.int c)))) = (T.set k1.toNat (r.set k2.toNat c)).map W7 := by
  rw [List.map_set]
  show _ = (T.map W7).set k1.toNat (.nd .ls ((r.set k2.toNat c).map lfI))
  rw [List.map_set]
 unfold Wz
 simp only [h1, h2, hv, Option.bind_some, if_pos (show 0 <= k1 /\ 0 <= k2 from ⟨p1, p2⟩), (zgC hi rfl : slO zfs as i = some (T.map W7)), (zgt e1 rfl : atO zfs _ _ = some (r.map lfI)), (zgt e2 rfl : atO zbK _ _ = some (.int r[k2.toNat])), e3]
theorem zks {n i : Nat} {r : List Int} {c : Int} (hr : Row n r) (hc : InR n c) : Row n (r.set i c) := by
 refine ⟨by rw [zzR]; exact hr.1, λ x m => ?_⟩
 rcases List.mem_or_eq_of_mem_set m with m | rfl
 · exact hr.2 x m
 · exact hc
theorem zjH {k n i : Nat} {T : TZ} {r : List Int} (hT : Tab k n T) (hr : Row n r) : Tab k n (T.set i r) := by
 refine ⟨by rw [zzR]; exact hT.1, λ x m => ?_⟩
 rcases List.mem_or_eq_of_mem_set m with m | rfl
 · exact hT.2 x m
 · exact hr
theorem zfQ (T : TZ) : (Zr T).frz = .lf true (ye T) := by
 show O.lf (O.strs _) (.lst (O.toDs _)) = _
 rw [(zbg T).1, (zbg T).2]
theorem zfo {n : Nat} {J : TZ} {w v : Int} (hJ : Tab n n J) (hw : InR n w) (hv : InR n v) : InR n (jAt J w v) := (rowAt (Y7 hJ hw).2 hv).2
theorem Yh {a b c : EF} {as : AS} {n : Nat} {J : TZ} {w v : Int} (hJ : Tab n n J) (hw : InR n w) (hv : InR n v) (ha : WD a as true (ye J)) (hb : WD b as true (.int w)) (hc : WD c as true (.int v)) : WD (f2 (f2 a b ixP) c ixP) as true (.int (jAt J w v)) :=
 yx (v4 ha hb (Y7 hJ hw).1) hc (rowAt (Y7 hJ hw).2 hv).1 rfl
abbrev RT (o : O) : Prop := o.str = true /\ ∃ ds, o.toD = .tup ds
theorem zgB {g : GF} {f : SF} (I : AS -> Prop) (P : It1 -> Prop) : ∀ (xs : List It1) (as : AS), (∀ x ∈ xs, ∀ as, I as -> ∃ as1, g x as = some as1 /\ ((∃ as2, f as1 = some (.nx as2) /\ I as2 /\ P x) \/ ∃ o, f as1 = some (.rt o) /\ RT o /\ ¬ P x)) -> I as ->
 (∃ as', forL g f xs as = some (.nx as') /\ I as' /\ ∀ x ∈ xs, P x) \/ ∃ o, forL g f xs as = some (.rt o) /\ RT o /\ ¬ ∀ x ∈ xs, P x
 | [], as, _, h => .inl ⟨as, rfl, h, λ _ m => nomatch m⟩
 | x :: r, as, H, h => by
  obtain ⟨as1, h1, h2⟩ := H x (zzC ..) as h
  rcases h2 with ⟨as2, h2, h3, h4⟩ | ⟨o, h2, h3, h4⟩
  · rcases zgB I P r as2 (λ y m => H y (zzA _ m)) h3 with ⟨as', k1, k2, k3⟩ | ⟨o, k1, k2, k3⟩
    · refine .inl ⟨as', vD h1 h2 k1, k2, λ y m => ?_⟩
      rcases zS.mp m with rfl | m
      · exact h4
      · exact k3 y m
    · exact .inr ⟨o, vD h1 h2 k1, k2, λ z => k3 λ y m => z y (zzA _ m)⟩
  · exact .inr ⟨o, zhK h1 h2, h3, λ z => h4 (z x (zzC ..))⟩
abbrev zba (r : Option Out) (I : AS -> Prop) (P : Prop) : Prop := (∃ as', r = some (.nx as') /\ I as' /\ P) \/ ∃ o, r = some (.rt o) /\ RT o /\ ¬ P
theorem zba.imp {r : Option Out} {I : AS -> Prop} {P Q : Prop} (h : zba r I P) (k : P ↔ Q) : zba r I Q := by
 rcases h with ⟨a, b, c, d⟩ | ⟨a, b, c, d⟩
 · exact .inl ⟨a, b, c, k.mp d⟩
 · exact .inr ⟨a, b, c, λ z => d (k.mpr z)⟩
theorem XD {v n : Nat} {f fr : SF} (I : AS -> Prop) (P : Int -> Prop) (H : ∀ b, InR n b -> ∀ as, I as -> ∃ as1, gN v (true, .int b) as = some as1 /\ zba (f as1) I (P b)) {as : AS} (h : I as) : zba (forL (gN v) f (yL 0 n) as) I (∀ b, InR n b -> P b) := by
 have k := zgB (g := gN v) (f := f) I (λ x => ∀ b, x = (true, .int b) -> P b) (yL 0 n) as (λ x m as hI => by
  obtain ⟨b, rfl, b0, b1⟩ := zbi m
  obtain ⟨as1, h1, h2⟩ := H b ⟨b0, by trivial⟩ as hI
  exact ⟨as1, h1, h2.imp ⟨λ p c e => by cases e; exact p, λ p => p b rfl⟩⟩) h
 refine zba.imp k ⟨λ p b hb => p (true, .int b) ?_ b rfl, λ p x m b e => ?_⟩
 · have hb0 := hb.1
   have hb1 := hb.2
   refine List.mem_of_getElem? (i := b.toNat) ?_
   unfold yL
   rw [zzF, List.getElem?_range (by trivial)]
   show some (true, D.int (0 + (b.toNat : Int))) = _
   rw [show (0 : Int) + (b.toNat : Int) = b by trivial]
 · subst e
   obtain ⟨c, e, c0, c1⟩ := zbi m
   cases e
   exact p b ⟨c0, by trivial⟩
theorem Zc {v n : Nat} {g : GF} {f : SF} {as : AS} {s : Bool} (h : as[v]? = some (some (.lf s (.int n)))) (hn : n <= 1000) : yM (ym (aC (fV v) aN) yw) g f as = forL g f (yL 0 n) as :=
 xR (xq (zx (zb h) zP) (by trivial) (by trivial)) (by rw [Int.toNat_natCast])
theorem zfB {c : TF} {f : EF} {as : AS} {P : Prop} {q : Bool} {ds : List D} {I : AS -> Prop} (ht : WT c as q) (hq : q = true ↔ ¬ P) (hf : WE f as (.tup ds)) (hI : I as) : zba (sIf c (yp f) sNx as) I P := by
 cases q with
 | false => exact .inl ⟨as, xW ht rfl, hI, Classical.byContradiction λ z => nomatch hq.mpr z⟩
 | true =>
  obtain ⟨o, h1, h2, h3⟩ := ziI hf
  exact .inr ⟨o, vZ ht h1, ⟨h2, ds, h3⟩, hq.mp rfl⟩
theorem zis {a b : EF} {as : AS} {x y : Int} {s t : Bool} (ha : WD a as s (.int x)) (hb : WD b as t (.int y)) : WT (fT (f2 a b (yj .NotEq))) as (!(x == y)) := vg (zoi (c := x == y) ha hb rfl) rfl
theorem zfP {x y : Int} : (!(x == y)) = true ↔ ¬ x = y := by simp
abbrev UnA (n : Nat) (J : TZ) (e : Int) : Prop := ∀ a, InR n a -> jAt J e a = a /\ jAt J a e = a
abbrev As (n : Nat) (J : TZ) : Prop := ∀ a, InR n a -> ∀ b, InR n b -> ∀ c, InR n c -> jAt J (jAt J a b) c = jAt J a (jAt J b c)
section
variable {S : Option O -> Option O -> Option O -> AS} {vj vn ve : Nat} {J : TZ} {n : Nat} {e : Int}
theorem znb {x y z : Option O} (hJ : Tab n n J) (he : InR n e) (hj : ∀ x y z, (S x y z)[vj]? = some (sT (ye J))) (hv : ∀ x y z, (S x y z)[ve]? = some (sI e)) (h3 : ∀ x y z, (S x y z)[3]? = some x) (g3 : ∀ d x y z, gN 3 (true, d) (S x y z) = some (S (sT d) y z)) :
 zba (forL (gN 3) (sIf (zgJ (fT (f2 (f2 (f2 (fV vj) (fV ve) ixP) (fV 3) ixP) (fV 3) (yj .NotEq))) (fT (f2 (f2 (f2 (fV vj) (fV 3) ixP) (fV ve) ixP) (fV 3) (yj .NotEq)))) (yp (yV (dC (fC (.str "nothing")) (dC (fV 3) dN)))) sNx) (yL 0 n) (S x y z)) (λ as => ∃ x, as = S x y z) (UnA n J e) := by
 refine XD (fr := sNx) (λ as => ∃ x, as = S x y z) (λ a => jAt J e a = a /\ jAt J a e = a) (λ a ha as hI => ?_) ⟨x, rfl⟩
 obtain ⟨x, rfl⟩ := hI
 have w3 : WD (fV 3) (S (sI a) y z) true (.int a) := zb (h3 _ _ _)
 have t1 := zis (Yh hJ he ha (zb (hj (sI a) y z)) (zb (hv (sI a) y z)) w3) w3
 have t2 := zis (Yh hJ ha he (zb (hj (sI a) y z)) w3 (zb (hv (sI a) y z))) w3
 refine ⟨S (sI a) y z, g3 _ _ _ _, zfB (q := !(jAt J e a == a) || !(jAt J a e == a)) (ds := [.str "nothing", .int a]) (zog t1 (λ h => by rw [h, Bool.false_or]; exact t2) (λ h => by rw [h]; rfl)) (by simp; grind) (zkD (os := [.lf true (.str "nothing"), lfI a]) (zW zf (zW w3 yt)) (szl rfl) rfl rfl) ⟨_, rfl⟩⟩
abbrev zmO (vj vn : Nat) : SF := yM (ym (aC (fV vn) aN) yw) (gN 4) (yM (ym (aC (fV vn) aN) yw) (gN 5) (sIf (fT (f2 (f2 (f2 (fV vj) (f2 (f2 (fV vj) (fV 3) ixP) (fV 4) ixP) ixP) (fV 5) ixP) (f2 (f2 (fV vj) (fV 3) ixP) (f2 (f2 (fV vj) (fV 4) ixP) (fV 5) ixP) ixP) (yj .NotEq))) (yp (yV (dC (fC (.str "parting")) (dC (fV 3) (dC (fV 4) (dC (fV 5) dN)))))) sNx))
theorem zkE {x y z : Option O} (n8 : n <= 8) (hJ : Tab n n J) (hj : ∀ x y z, (S x y z)[vj]? = some (sT (ye J))) (hn : ∀ x y z, (S x y z)[vn]? = some (sI n)) (h3 : ∀ x y z, (S x y z)[3]? = some x) (h4 : ∀ x y z, (S x y z)[4]? = some y) (h5 : ∀ x y z, (S x y z)[5]? = some z)
 (g3 : ∀ d x y z, gN 3 (true, d) (S x y z) = some (S (sT d) y z)) (g4 : ∀ d x y z, gN 4 (true, d) (S x y z) = some (S x (sT d) z)) (g5 : ∀ d x y z, gN 5 (true, d) (S x y z) = some (S x y (sT d))) :
 zba (forL (gN 3) (zmO vj vn) (yL 0 n) (S x y z)) (λ as => ∃ x y z, as = S x y z) (As n J) := by
 refine XD (fr := sNx) (λ as => ∃ x y z, as = S x y z) (λ a => ∀ b, InR n b -> ∀ c, InR n c -> jAt J (jAt J a b) c = jAt J a (jAt J b c)) (λ a ha as hI => ?_) ⟨x, y, z, rfl⟩
 obtain ⟨x, y, z, rfl⟩ := hI
 refine ⟨_, g3 _ _ _ _, ?_⟩
 unfold zmO
 rw [Zc (hn _ _ _) (by trivial)]
 have k := XD (v := 4) (n := n) (fr := sNx) (f := yM (ym (aC (fV vn) aN) yw) (gN 5) (sIf (fT (f2 (f2 (f2 (fV vj) (f2 (f2 (fV vj) (fV 3) ixP) (fV 4) ixP) ixP) (fV 5) ixP) (f2 (f2 (fV vj) (fV 3) ixP) (f2 (f2 (fV vj) (fV 4) ixP) (fV 5) ixP) ixP) (yj .NotEq))) (yp (yV (dC (fC (.str "parting")) (dC (fV 3) (dC (fV 4) (dC (fV 5) dN)))))) sNx)) (λ as => ∃ y z, as = S (sI a) y z) (λ b => ∀ c, InR n c -> jAt J (jAt J a b) c = jAt J a (jAt J b c)) (λ b hb as hI => by
  obtain ⟨y, z, rfl⟩ := hI
  refine ⟨_, g4 _ _ _ _, ?_⟩
  rw [Zc (hn _ _ _) (by trivial)]
  have k := XD (v := 5) (n := n) (fr := sNx) (f := sIf (fT (f2 (f2 (f2 (fV vj) (f2 (f2 (fV vj) (fV 3) ixP) (fV 4) ixP) ixP) (fV 5) ixP) (f2 (f2 (fV vj) (fV 3) ixP) (f2 (f2 (fV vj) (fV 4) ixP) (fV 5) ixP) ixP) (yj .NotEq))) (yp (yV (dC (fC (.str "parting")) (dC (fV 3) (dC (fV 4) (dC (fV 5) dN)))))) sNx) (λ as => ∃ z, as = S (sI a) (sI b) z) (λ c => jAt J (jAt J a b) c = jAt J a (jAt J b c)) (λ c hc as hI => by
   obtain ⟨z, rfl⟩ := hI
   have w3 : WD (fV 3) (S (sI a) (sI b) (sI c)) true (.int a) := zb (h3 _ _ _)
   have w4 : WD (fV 4) (S (sI a) (sI b) (sI c)) true (.int b) := zb (h4 _ _ _)
   have w5 : WD (fV 5) (S (sI a) (sI b) (sI c)) true (.int c) := zb (h5 _ _ _)
   have wj : WD (fV vj) (S (sI a) (sI b) (sI c)) true (ye J) := zb (hj _ _ _)
   have ab := zfo hJ ha hb
   have bc := zfo hJ hb hc
   exact ⟨_, g5 _ _ _ _, zfB (ds := [.str "parting", .int a, .int b, .int c]) (zis (Yh hJ ab hc wj (Yh hJ ha hb wj w3 w4) w5) (Yh hJ ha bc wj w3 (Yh hJ hb hc wj w4 w5))) zfP (zkD (os := [.lf true (.str "parting"), lfI a, lfI b, lfI c]) (zW zf (zW w3 (zW w4 (zW w5 yt)))) (szl rfl) rfl rfl) ⟨_, rfl⟩⟩) ⟨z, rfl⟩
  rcases k with ⟨as', k1, ⟨z', rfl⟩, k3⟩ | k
  · exact .inl ⟨_, k1, ⟨_, _, rfl⟩, k3⟩
  · exact .inr k) ⟨y, z, rfl⟩
 rcases k with ⟨as', k1, ⟨y', z', rfl⟩, k3⟩ | k
 · exact .inl ⟨_, k1, ⟨_, _, _, rfl⟩, k3⟩
 · exact .inr k
end
abbrev Flt (r : Option O) (P : Prop) : Prop := (RE r .non /\ P) \/ ((∃ ds, RE r (.tup ds)) /\ ¬ P)
theorem zfA {n m : Nat} {c : SF} {ds : List (Bool × D)} {P : Prop} (hl : ds.length = m) (h : (Rt (c (xj n ds)) .non /\ P) \/ ((∃ es, Rt (c (xj n ds)) (.tup es)) /\ ¬ P)) : Flt (fnR n m c ds) P := by
 rcases h with ⟨h, p⟩ | ⟨⟨es, h⟩, p⟩
 · exact .inl ⟨vO hl h, p⟩
 · exact .inr ⟨⟨es, vO hl h⟩, p⟩
theorem zdz {f g : SF} {as : AS} {I : AS -> Prop} {P Q : Prop} (h : zba (f as) I P) (k : ∀ as', I as' -> P -> (Rt (g as') .non /\ Q) \/ ((∃ es, Rt (g as') (.tup es)) /\ ¬ Q)) : (Rt (zB f g as) .non /\ P /\ Q) \/ ((∃ es, Rt (zB f g as) (.tup es)) /\ ¬ (P /\ Q)) := by
 rcases h with ⟨as', h1, h2, p⟩ | ⟨o, h1, ⟨h2, es, h3⟩, p⟩
 · rcases k as' h2 p with ⟨k1, q⟩ | ⟨⟨es, k1⟩, q⟩
   · exact .inl ⟨zK h1 k1, p, q⟩
   · exact .inr ⟨⟨es, zK h1 k1⟩, λ z => q z.2⟩
 · exact .inr ⟨⟨es, o, Wm h1, h2, h3⟩, λ z => p z.1⟩
theorem zdp {as : AS} : (Rt (yp (fC .non) as) .non /\ True) \/ ((∃ es, Rt (yp (fC .non) as) (.tup es)) /\ ¬ True) := .inl ⟨Zo (WD.e zf), trivial⟩
theorem Flt.imp {r : Option O} {P Q : Prop} (h : Flt r P) (k : P ↔ Q) : Flt r Q := by
 rcases h with ⟨h, p⟩ | ⟨h, p⟩
 · exact .inl ⟨h, k.mp p⟩
 · exact .inr ⟨h, λ z => p (k.mpr z)⟩
section
variable {n m : Nat} {J T : TZ} {e : Int} {Ds : DD} {S : SS}
abbrev Dn (n m : Nat) (J T : TZ) : Prop := ∀ a, InR n a -> ∀ i, InR m i -> ∀ b, InR n b -> ∀ k, InR m k -> jAt T ((i + k) % m) (jAt J a b) = jAt J (jAt T i a) (jAt T k b)
theorem Xu {a b c : EF} {as : AS} {w v : Int} (hT : Tab m n T) (hw : InR m w) (hv : InR n v) (ha : WD a as true (ye T)) (hb : WD b as true (.int w)) (hc : WD c as true (.int v)) : WD (f2 (f2 a b ixP) c ixP) as true (.int (jAt T w v)) /\ InR n (jAt T w v) :=
 ⟨yx (v4 ha hb (Y7 hT hw).1) hc (rowAt (Y7 hT hw).2 hv).1 rfl, (rowAt (Y7 hT hw).2 hv).2⟩
abbrev dfI : SF := (sIf (fT (f2 (f2 (f2 (fV 2) (f2 (f2 (fV 7) (fV 9) (zp .Add)) (fV 4) (zp .Mod)) ixP) (f2 (f2 (fV 5) (fV 6) ixP) (fV 8) ixP) ixP) (f2 (f2 (fV 5) (f2 (f2 (fV 2) (fV 7) ixP) (fV 6) ixP) ixP) (f2 (f2 (fV 2) (fV 9) ixP) (fV 8) ixP) ixP) (yj .NotEq))) (yp (yV (dC (fC (.str "doing")) (dC (fV 1) (dC (fV 6) (dC (fV 7) (dC (fV 8) (dC (fV 9) dN)))))))) sNx)
abbrev D10 (n m : Nat) (J T : TZ) (e : Int) (Ds : DD) (S : SS) (s : Str) (x y z w : Option O) : AS := [sT (zH n m J e Ds S), sT (.str s), sT (ye T), sI n, sI m, sT (ye J), x, y, z, w]
theorem df4 {s : Str} {a i b : Int} {w : Option O} (hJ : Tab n n J) (hT : Tab m n T) (m1 : 1 <= m) (ha : InR n a) (hi : InR m i) (hb : InR n b) : zba (forL (gN 9) dfI (yL 0 m) (D10 n m J T e Ds S s (sI a) (sI i) (sI b) w)) (λ as => ∃ w, as = D10 n m J T e Ds S s (sI a) (sI i) (sI b) w) (∀ k, InR m k -> jAt T ((i + k) % m) (jAt J a b) = jAt J (jAt T i a) (jAt T k b)) := by
 refine XD (fr := sNx) (λ as => ∃ w, as = D10 n m J T e Ds S s (sI a) (sI i) (sI b) w) (λ k => jAt T ((i + k) % m) (jAt J a b) = jAt J (jAt T i a) (jAt T k b)) (λ k hk as hI => ?_) ⟨w, rfl⟩
 obtain ⟨w, rfl⟩ := hI
 have w2 : WD (fV 2) (D10 n m J T e Ds S s (sI a) (sI i) (sI b) (sI k)) true (ye T) := zb rfl
 have w5 : WD (fV 5) (D10 n m J T e Ds S s (sI a) (sI i) (sI b) (sI k)) true (ye J) := zb rfl
 have w6 : WD (fV 6) (D10 n m J T e Ds S s (sI a) (sI i) (sI b) (sI k)) true (.int a) := zb rfl
 have w7 : WD (fV 7) (D10 n m J T e Ds S s (sI a) (sI i) (sI b) (sI k)) true (.int i) := zb rfl
 have w8 : WD (fV 8) (D10 n m J T e Ds S s (sI a) (sI i) (sI b) (sI k)) true (.int b) := zb rfl
 have w9 : WD (fV 9) (D10 n m J T e Ds S s (sI a) (sI i) (sI b) (sI k)) true (.int k) := zb rfl
 obtain ⟨q1, q2⟩ := Xu hT hi ha w2 w7 w6
 obtain ⟨q3, q4⟩ := Xu hT hk hb w2 w9 w8
 have ab := zfo hJ ha hb
 obtain ⟨q5, q6⟩ := Xu hT (w := (i + k) % m) (zax m1) ab w2 (zU (yd w7 w9) (zb (i := 4) (x := .int m) (s := true) rfl) (by trivial)) (Yh hJ ha hb w5 w6 w8)
 exact ⟨_, rfl, zfB (ds := [.str "doing", .str s, .int a, .int i, .int b, .int k]) (zis q5 (Yh hJ q2 q4 w5 q1 q3)) zfP (zkD (os := [.lf true (.str "doing"), .lf true (.str s), lfI a, lfI i, lfI b, lfI k]) (zW zf (zW (zb (i := 1) rfl) (zW w6 (zW w7 (zW w8 (zW w9 yt)))))) (szl rfl) rfl rfl) ⟨_, rfl⟩⟩
theorem Flt.none {r : Option O} {P : Prop} (h : Flt r P) (p : P) : RE r .non := by
 rcases h with ⟨h, _⟩ | ⟨_, h⟩
 · exact h
 · exact absurd p h
theorem LawA.un (L : LawA n m J e Ds) : UnA n J e := λ a ha => ⟨L.lj.ul a ha, L.lj.ur a ha⟩
theorem LawA.as (L : LawA n m J e Ds) : As n J := λ a ha b hb c hc => L.lj.as a b c ha hb hc
theorem LawA.dn (L : LawA n m J e Ds) {p : Str × TZ} (hp : p ∈ Ds) : Dn n m J p.2 := λ a ha i hi b hb k hk => (L.ld p hp).dn a i b k ha hi hb hk
end
def iP (b k : Int) : Int := if k = 0 then b / 2 else b % 2
def jP (a b : Int) : Int := 2 * iP b (a / 2) + iP b (a % 2)
def sP (a : Int) : Int := 2 * (1 - a % 2) + 1 - a / 2
theorem ljP : LJ 4 jP 1 := by
 refine ⟨λ a b ha hb => ?_, ⟨by decide, by decide⟩, λ a ha => ?_, λ a ha => ?_, λ a b c ha hb hc => ?_⟩
 · revert b; refine f4 (P := λ a => ∀ b, InR 4 b -> InR 4 (jP a b)) ?_ ha
   have : ∀ a ∈ ([0, 1, 2, 3] : List Int), ∀ b ∈ ([0, 1, 2, 3] : List Int), InR 4 (jP a b) := by decide
   exact λ a m b hb => f4 (P := λ b => InR 4 (jP a b)) (this a m) hb
 · exact f4 (P := λ a => jP 1 a = a) (by decide) ha
 · exact f4 (P := λ a => jP a 1 = a) (by decide) ha
 · have : ∀ a ∈ ([0, 1, 2, 3] : List Int), ∀ b ∈ ([0, 1, 2, 3] : List Int), ∀ c ∈ ([0, 1, 2, 3] : List Int), jP (jP a b) c = jP a (jP b c) := by decide
   refine f4 (P := λ a => jP (jP a b) c = jP a (jP b c)) (λ a m => f4 (P := λ b => jP (jP a b) c = jP a (jP b c)) (λ b m' => f4 (P := λ c => jP (jP a b) c = jP a (jP b c)) (this a m b m') hc) hb) ha
theorem ldP {m : Nat} {r : Int -> Int} (h : (∀ a, InR 4 a -> r a = a) \/ (∀ a, InR 4 a -> r a = sP a)) : LD 4 m jP 1 (λ _ a => r a) := by
 rcases h with h | h
 · refine ⟨λ c a _ ha => by show InR 4 (r a); rw [h a ha]; exact ha, h 1 ⟨by decide, by decide⟩, λ a i b k ha _ hb _ => ?_⟩
   show r (jP a b) = jP (r a) (r b)
   rw [h a ha, h b hb, h _ (ljP.cl a b ha hb)]
 · refine ⟨λ c a _ ha => by show InR 4 (r a); rw [h a ha]; exact f4 (P := λ a => InR 4 (sP a)) (by decide) ha, h 1 ⟨by decide, by decide⟩, λ a i b k ha _ hb _ => ?_⟩
   show r (jP a b) = jP (r a) (r b)
   rw [h a ha, h b hb, h _ (ljP.cl a b ha hb)]
   have : ∀ a ∈ ([0, 1, 2, 3] : List Int), ∀ b ∈ ([0, 1, 2, 3] : List Int), sP (jP a b) = jP (sP a) (sP b) := by decide
   exact f4 (P := λ a => sP (jP a b) = jP (sP a) (sP b)) (λ a m => f4 (P := λ b => sP (jP a b) = jP (sP a) (sP b)) (this a m) hb) ha
theorem ljB {n1 n2 : Nat} {j1 j2 : Int -> Int -> Int} {e1 e2 : Int} (h1 : LJ n1 j1 e1) (h2 : LJ n2 j2 e2) (p2 : 0 < n2) : LJ (n1 * n2) (jB n2 j1 j2) (e1 * n2 + e2) := by
 refine ⟨λ a b ha hb => ?_, zmq h1.ce h2.ce, λ a ha => ?_, λ a ha => ?_, λ a b c ha hb hc => ?_⟩
 · exact zmq (h1.cl _ _ (yc p2 ha).1 (yc p2 hb).1) (h2.cl _ _ (yc p2 ha).2 (yc p2 hb).2)
 · unfold jB
   rw [(Wy h2.ce).1, (Wy h2.ce).2, h1.ul _ (yc p2 ha).1, h2.ul _ (yc p2 ha).2, znG]
 · unfold jB
   rw [(Wy h2.ce).1, (Wy h2.ce).2, h1.ur _ (yc p2 ha).1, h2.ur _ (yc p2 ha).2, znG]
 · unfold jB
   rw [(Wy (h2.cl _ _ (yc p2 ha).2 (yc p2 hb).2)).1, (Wy (h2.cl _ _ (yc p2 ha).2 (yc p2 hb).2)).2, (Wy (h2.cl _ _ (yc p2 hb).2 (yc p2 hc).2)).1, (Wy (h2.cl _ _ (yc p2 hb).2 (yc p2 hc).2)).2, h1.as _ _ _ (yc p2 ha).1 (yc p2 hb).1 (yc p2 hc).1, h2.as _ _ _ (yc p2 ha).2 (yc p2 hb).2 (yc p2 hc).2]
theorem ldB {n1 n2 m : Nat} {j1 j2 d1 d2 : Int -> Int -> Int} {u1 u2 : Int} (h1 : LJ n1 j1 u1) (h2 : LJ n2 j2 u2) (p2 : 0 < n2) (e1 : LD n1 m j1 u1 d1) (e2 : LD n2 m j2 u2 d2) : LD (n1 * n2) m (jB n2 j1 j2) (u1 * n2 + u2) (dB n2 d1 d2) := by
 refine ⟨λ c a hc ha => zmq (e1.cl _ _ hc (yc p2 ha).1) (e2.cl _ _ hc (yc p2 ha).2), ?_, λ a i b k ha hi hb hk => ?_⟩
 · unfold dB
   rw [(Wy h2.ce).1, (Wy h2.ce).2, e1.em, e2.em]
 · unfold jB dB
   rw [(Wy (h2.cl _ _ (yc p2 ha).2 (yc p2 hb).2)).1, (Wy (h2.cl _ _ (yc p2 ha).2 (yc p2 hb).2)).2, (Wy (e2.cl i _ hi (yc p2 ha).2)).1, (Wy (e2.cl i _ hi (yc p2 ha).2)).2, (Wy (e2.cl k _ hk (yc p2 hb).2)).1, (Wy (e2.cl k _ hk (yc p2 hb).2)).2, e1.dn _ _ _ _ (yc p2 ha).1 hi (yc p2 hb).1 hk, e2.dn _ _ _ _ (yc p2 ha).2 hi (yc p2 hb).2 hk]
theorem ljT {n : Nat} {j j' : Int -> Int -> Int} {e : Int} {F B : Int -> Int} (h : LJ n j e) (hF : ∀ a, InR n a -> InR n (F a)) (hB : ∀ a, InR n a -> InR n (B a)) (hFB : ∀ a, InR n a -> F (B a) = a) (q : ∀ a b, InR n a -> InR n b -> j' (F a) (F b) = F (j a b)) : LJ n j' (F e) := by
 have q' : ∀ a b, InR n a -> InR n b -> j' a b = F (j (B a) (B b)) := λ a b ha hb => by
  have := q (B a) (B b) (hB a ha) (hB b hb)
  rw [hFB a ha, hFB b hb] at this
  exact this
 refine ⟨λ a b ha hb => by rw [q' a b ha hb]; exact hF _ (h.cl _ _ (hB a ha) (hB b hb)), hF e h.ce, λ a ha => ?_, λ a ha => ?_, λ a b c ha hb hc => ?_⟩
 · have := q e (B a) h.ce (hB a ha)
   rw [hFB a ha, h.ul _ (hB a ha), hFB a ha] at this
   exact this
 · have := q (B a) e (hB a ha) h.ce
   rw [hFB a ha, h.ur _ (hB a ha), hFB a ha] at this
   exact this
 · have a' := hB a ha
   have b' := hB b hb
   have c' := hB c hc
   rw [q' a b ha hb, q' b c hb hc]
   have x := q (j (B a) (B b)) (B c) (h.cl _ _ a' b') c'
   have y := q (B a) (j (B b) (B c)) a' (h.cl _ _ b' c')
   rw [hFB c hc] at x
   rw [hFB a ha] at y
   rw [x, y, h.as _ _ _ a' b' c']
theorem ldT {n m : Nat} {j j' d d' : Int -> Int -> Int} {e : Int} {F B : Int -> Int} (hm : 0 < m) (h : LJ n j e) (k : LD n m j e d) (hF : ∀ a, InR n a -> InR n (F a)) (hB : ∀ a, InR n a -> InR n (B a)) (hFB : ∀ a, InR n a -> F (B a) = a)
 (q : ∀ a b, InR n a -> InR n b -> j' (F a) (F b) = F (j a b)) (p : ∀ c a, InR m c -> InR n a -> d' c (F a) = F (d c a)) : LD n m j' (F e) d' := by
 refine ⟨λ c a hc ha => ?_, ?_, λ a i b l ha hi hb hl => ?_⟩
 · have := p c (B a) hc (hB a ha)
   rw [hFB a ha] at this
   rw [this]; exact hF _ (k.cl _ _ hc (hB a ha))
 · rw [p 0 e ⟨by omega, by omega⟩ h.ce, k.em]
 · have a' := hB a ha
   have b' := hB b hb
   have x := q (B a) (B b) a' b'
   have y := p i (B a) hi a'
   have z := p l (B b) hl b'
   rw [hFB a ha] at x y
   rw [hFB b hb] at x z
   rw [x, y, z, p _ _ (zax hm) (h.cl _ _ a' b'), q _ _ (k.cl _ _ hi a') (k.cl _ _ hl b'), k.dn _ _ _ _ a' hi b' hl]
def KN (k : Int) (n : Nat) : Prop := (k = 0 /\ 1 <= n) \/ (k = 1 /\ 1 <= n) \/ (k = 2 /\ 1 <= n) \/ (k = 3 /\ n = 4)
def jK (k : Int) (n : Nat) : Int -> Int -> Int := if k = 0 then jS n else if k = 1 then jM else if k = 2 then jL else jP
def eK (k : Int) : Int := if k = 3 then 1 else 0
theorem ljK {k : Int} {n : Nat} (h : KN k n) : LJ n (jK k n) (eK k) := by
 rcases h with ⟨rfl, h⟩ | ⟨rfl, h⟩ | ⟨rfl, h⟩ | ⟨rfl, rfl⟩
 · exact ljS h
 · exact ljM h
 · exact ljL h
 · exact ljP
theorem KN.n1 {k : Int} {n : Nat} (h : KN k n) : 1 <= n := by rcases h with ⟨_, h⟩ | ⟨_, h⟩ | ⟨_, h⟩ | ⟨_, h⟩ <;> omega
theorem zmx {as : AS} {i : Nat} {xs : List Int} {g : List D -> Option R0} {zs : List D} (h : as[i]? = some (sN (xs.map lfI))) (hg : g [zN xs] = some (.fl zs)) : fP (aC (fV i) aN) g as = some (.ow (.nd .ls (zs.map (O.lf true))), as) := by
 obtain ⟨i1, i2, i3⟩ := wL xs
 have e : views as [.bo i] = some ([zN xs], some true) := by
  show (RV.view as (.bo i)).bind _ = _
  rw [Wl h]
  have k : (O.nd .ls (xs.map lfI)).kl = some true := by simp only [O.kl, i1, if_true, i2]
  rw [k, (Z1 xs).2]; rfl
 unfold fP aC
 rw [zaR h]
 simp only [Option.bind_some, aN, RV.frz, e, hg]
 show (if (zs.all zL || true) = true then some (RV.ow (.nd .ls (zs.map (lfs true)))) else none : Option RV).bind _ = _
 rw [if_pos (by simp), Wu]; rfl
theorem zlm {a : EF} {as : AS} {i : Nat} {xs : List Int} {ds : List D} (ha : WE a as (.lst ds)) (h : as[i]? = some (sN (xs.map lfI))) (hl : ds.length + xs.length <= 1000) : WE (f2 a (fV i) (zp .Add)) as (.lst (ds ++ xs.map D.int)) := by
 obtain ⟨i1, i2, i3⟩ := wL xs
 obtain ⟨o, h1, h2, h3⟩ := ha
 have k : (O.nd .ls (xs.map lfI)).kl = some true := by simp only [O.kl, i1, if_true, i2]
 have e : f2 a (fV i) (zp .Add) as = some (.ow (.nd .ls ((ds ++ xs.map D.int).map (O.lf true))), as) := by
  have e1 : RV.view as (.ow o.frz) = some (.lst ds, some true) := by
   show some (o.toD, some o.str) = _
   rw [h2, h3]
  have e2 : RV.view as (.bo i) = some (.lst (xs.map D.int), some true) := by rw [Wl h, k, (Z1 xs).2]
  unfold f2
  simp only [h1, zaR h, Option.bind_some, RV.frz, e1, e2]
  show ((zp .Add (.lst ds) (.lst (xs.map D.int))).bind _) = _
  rw [add_lists (by rw [zD]; exact szs (by omega))]
  show (if ((ds ++ xs.map D.int).all zL || true) = true then some (RV.ow (.nd .ls ((ds ++ xs.map D.int).map (lfs true)))) else none : Option RV).bind _ = _
  rw [if_pos (by simp), Wu]; rfl
 exact ⟨_, e, zbG _, congrArg D.lst (zaT _)⟩
theorem zeH {as : AS} {fr : AF} {i j : Int} {u v : Bool} (h : WA fr as [(u, .int i), (v, .int j)]) (h0 : 0 <= i) (h1 : i <= 1000) (h2 : 0 <= j) (h3 : j <= 1000) : ym fr zlY as = some (yL i (j - i).toNat, as) := by
 unfold ym; unfold WA at h
 rw [h]
 simp only [Option.bind_some, Ys]
 show ((if -(2 ^ 62) <= i /\ i < 2 ^ 62 /\ -(2 ^ 62) <= j /\ j < 2 ^ 62 then some (yL i (j - i).toNat) else none).bind _) = _
 rw [if_pos ⟨by omega, by omega, by omega, by omega⟩]; rfl
theorem zhq {x p q : Int} : ixP (.lst [.int p, .int q]) (.int (x % 2)) = some (.im (.int (if x % 2 = 0 then p else q))) := by
 rcases Int.emod_two_eq x with h | h <;> rw [h] <;> rfl
def put (T : TZ) (p q c : Int) : TZ := T.set p.toNat ((zfi T p).set q.toNat c)
theorem zke {k n : Nat} {T : TZ} {p q c : Int} (hT : Tab k n T) (hp : InR k p) (hc : InR n c) : Tab k n (put T p q c) := zjH hT (zks (Y7 hT hp).2 hc)
theorem zgA {k n : Nat} {T : TZ} {p q c a b : Int} (hT : Tab k n T) (hp : InR k p) (hq : InR n q) (ha : InR k a) (hb : InR n b) : jAt (put T p q c) a b = if a = p /\ b = q then c else jAt T a b := by
 have hp' := iT hp
 have ha' := iT ha
 have hq' := iT hq
 have hb' := iT hb
 have hl := (Y7 hT hp).2.1
 unfold jAt put
 by_cases e : a = p
 · subst e
   rw [List.getElem?_set_self (by rw [hT.1]; exact hp')]
   show rAt ((zfi T a).set q.toNat c) b = _
   unfold rAt
   by_cases e2 : b = q
   · subst e2
     rw [List.getElem?_set_self (by rw [hl]; exact hq'), if_pos ⟨rfl, rfl⟩]; rfl
   · rw [zzV (λ z => e2 (by have := hb.1; have := hq.1; omega)), if_neg (λ z => e2 z.2)]
 · rw [zzV (λ z => e (by have := ha.1; have := hp.1; omega)), if_neg (λ z => e z.1)]
theorem zhQ {v K n L : Nat} {f : SF} {S : TZ -> Option O -> Option O -> AS} {p : Int} {g w : Int -> Int} (hp : InR K p) (hg : ∀ b, InR L b -> InR n (g b)) (gi : ∀ b b', InR L b -> InR L b' -> g b = g b' -> b = b') (hw : ∀ b, InR L b -> InR n (w b))
 (h1 : ∀ T d x y, gN v (true, d) (S T x y) = some (S T (sT d) y)) (h2 : ∀ T b y, Tab K n T -> InR L b -> ∃ y', f (S T (sI b) y) = some (.nx (S (put T p (g b) (w b)) (sI b) y'))) {T0 : TZ} {x0 y0 : Option O} (hT : Tab K n T0) :
 ∃ T' x y, forL (gN v) f (yL 0 L) (S T0 x0 y0) = some (.nx (S T' x y)) /\ Tab K n T' /\ (∀ b, InR L b -> jAt T' p (g b) = w b) /\ (∀ a b, InR K a -> InR n b -> a ≠ p -> jAt T' a b = jAt T0 a b) := by
 obtain ⟨as', hf, T', x, y, rfl, t1, t2, t3⟩ := xf (g := gN v) (f := f)
  (λ i as => ∃ (T : TZ) (x y : Option O), as = S T x y /\ Tab K n T /\ (∀ b, InR L b -> b < i -> jAt T p (g b) = w b) /\ (∀ a b, InR K a -> InR n b -> a ≠ p -> jAt T a b = jAt T0 a b))
  (yL 0 L) 0 (S T0 x0 y0) (λ i y as hx hI => by
   obtain ⟨T, x, z, rfl, t1, t2, t3⟩ := hI
   obtain ⟨rfl, hi⟩ := yW hx
   have hb : InR L (0 + (i : Int)) := ⟨by omega, by omega⟩
   obtain ⟨y', h⟩ := h2 T (0 + i) z t1 hb
   refine ⟨_, h1 _ _ _ _, _, h, _, _, _, rfl, zke t1 hp (hw _ hb), λ b hb' hlt => ?_, λ a b ha hb' hne => ?_⟩
   · rw [zgA t1 hp (hg _ hb) hp (hg _ hb')]
     by_cases e : g b = g (0 + i)
     · have := gi _ _ hb' hb e
       subst this
       rw [if_pos ⟨rfl, rfl⟩]
     · rw [if_neg (λ z => e z.2)]
       refine t2 b hb' ?_
       have : b ≠ 0 + i := λ z => e (by rw [z])
       omega
   · rw [zgA t1 hp (hg _ hb) ha hb', if_neg (λ z => hne z.1)]
     exact t3 a b ha hb' hne)
  ⟨T0, x0, y0, rfl, hT, λ b hb h => absurd h (by have := hb.1; omega), λ _ _ _ _ _ => rfl⟩
 rw [yC] at t2
 exact ⟨T', x, y, hf, t1, λ b hb => t2 b hb (by have := hb.2; omega), t3⟩
theorem zgE {v K n L M : Nat} {F : SF} {S : TZ -> Option O -> Option O -> Option O -> AS} {f g : Int -> Int} {w : Int -> Int -> Int} (hf' : ∀ a, InR M a -> InR K (f a)) (fi : ∀ a a', InR M a -> InR M a' -> f a = f a' -> a = a') (hg : ∀ b, InR L b -> InR n (g b))
 (h1 : ∀ T d x y z, gN v (true, d) (S T x y z) = some (S T (sT d) y z)) (h2 : ∀ T a y z, Tab K n T -> InR M a -> ∃ T' y' z', F (S T (sI a) y z) = some (.nx (S T' (sI a) y' z')) /\ Tab K n T' /\ (∀ b, InR L b -> jAt T' (f a) (g b) = w a b) /\ (∀ a' b, InR K a' -> InR n b -> a' ≠ f a -> jAt T' a' b = jAt T a' b)) {T0 : TZ} {x0 y0 z0 : Option O} (hT : Tab K n T0) :
 ∃ T' x y z, forL (gN v) F (yL 0 M) (S T0 x0 y0 z0) = some (.nx (S T' x y z)) /\ Tab K n T' /\ ∀ a b, InR M a -> InR L b -> jAt T' (f a) (g b) = w a b := by
 obtain ⟨as', hf, T', x, y, z, rfl, t1, t2⟩ := xf (g := gN v) (f := F)
  (λ i as => ∃ (T : TZ) (x y z : Option O), as = S T x y z /\ Tab K n T /\ ∀ a b, InR M a -> a < i -> InR L b -> jAt T (f a) (g b) = w a b)
  (yL 0 M) 0 (S T0 x0 y0 z0) (λ i y as hx hI => by
   obtain ⟨T, x, y, z, rfl, t1, t2⟩ := hI
   obtain ⟨rfl, hi⟩ := yW hx
   have ha : InR M (0 + (i : Int)) := ⟨by omega, by omega⟩
   obtain ⟨T', y', z', h, q1, q2, q3⟩ := h2 T (0 + i) y z t1 ha
   refine ⟨_, h1 _ _ _ _ _, _, h, _, _, _, _, rfl, q1, λ a b ha' hlt hb => ?_⟩
   by_cases e : a = 0 + i
   · subst e; exact q2 b hb
   · rw [q3 (f a) (g b) (hf' a ha') (hg b hb) (λ z => e (fi _ _ ha' ha z))]
     exact t2 a b ha' (by omega) hb)
  ⟨T0, x0, y0, z0, rfl, hT, λ a b ha h => absurd h (by have := ha.1; omega)⟩
 rw [yC] at t2
 exact ⟨T', x, y, z, hf, t1, λ a b ha hb => t2 a b ha (by have := ha.2; omega) hb⟩
theorem zhW {as : AS} {i : Nat} {f : IXF} {n : Nat} {r : List Int} {k : Int} {s : Bool} (h : as[i]? = some (some (.lf s (zN r)))) (hf : f as = some k) (hr : Row n r) (hk : InR n k) : xAt i f as = some (rAt r k) := by
 have e := (rowAt hr hk).1
 unfold xAt
 rw [hf]
 show (if 0 <= k then (slO zbK as i).bind λ d => (asL d).bind λ ds => ds[k.toNat]?.bind asI else none) = _
 rw [if_pos hk.1]
 have e1 : slO zbK as i = some (zN r) := by unfold slO; rw [h]; rfl
 rw [e1]
 show ((r.map D.int)[k.toNat]?).bind asI = _
 have hl := iT hk
 rw [zzF, zzB (by rw [hr.1]; exact hl), Y9 (by rw [hr.1]; exact hl)]
 rfl
theorem zgF {as : AS} {i k n : Nat} {f1 f2 fv : IXF} {p q c : Int} {T : TZ} (hT : Tab k n T) (hp : InR k p) (hq : InR n q) (h1 : f1 as = some p) (h2 : f2 as = some q) (hv : fv as = some c) (hi : as[i]? = some (some (Zr T))) : Wz i f1 f2 fv as = some (.nx (as.set i (some (Zr (put T p q c))))) := by
 have hl := iT hp
 have hq' := iT hq
 refine zhg h1 h2 hv hp.1 hq.1 hi (r := zfi T p) ?_ (by rw [(Y7 hT hp).2.1]; exact hq')
 unfold zfi
 rw [zzB (by rw [hT.1]; exact hl)]; rfl
theorem zeq {as0 : AS} : ∀ (ds : List D), (∀ d, ∃ as1, gN 0 (true, d) as0 = some as1) -> xF (gN 0) wk (fC (.int 0)) as0 (ds.map λ d => (true, d)) = some ((List.replicate ds.length (0 : Int)).map lfI)
 | [], _ => rfl
 | d :: r, H => by
  obtain ⟨as1, h1⟩ := H d
  show xF _ _ _ _ ((true, d) :: r.map λ d => (true, d)) = some (lfI 0 :: (List.replicate r.length (0 : Int)).map lfI)
  exact zgL h1 zf (zeq r H)
theorem zea {g : GF} {fe : EF} {as0 : AS} {r : List Int} : ∀ (xs : List It1), (∀ y ∈ xs, ∃ as1, g y as0 = some as1 /\ fe as1 = some (.ow (W7 r), as1)) -> xF g wk fe as0 xs = some ((List.replicate xs.length r).map W7)
 | [], _ => rfl
 | y :: xs, H => by
  obtain ⟨as1, h1, h2⟩ := H y (zzC ..)
  exact zeL h1 h2 (Z1 r).1 (zea xs λ z m => H z (zzA _ m))
theorem zey {k n : Nat} (hn : 1 <= n) : Tab k n (List.replicate k (List.replicate n (0 : Int))) :=
 ⟨List.length_replicate .., λ r m => by rw [List.eq_of_mem_replicate m]; exact ⟨List.length_replicate .., λ x m => by rw [List.eq_of_mem_replicate m]; omega⟩⟩
end PF
end
section
namespace G61
open PySem PySem.Spec PyProof.Rows L2 PF
def top (i : Nat) : Stmt := PySem.Challenge.pw_stretchdeeds_k61_whole_rows_that_come.main.body.getD i (.Pass ⟨0, 0, 0, 0⟩)
abbrev vp : Stmt := top 4
abbrev Xe : List Str := ["algebra", "join", "nothing", "a"]
theorem wR : FnScope Xe ["algebra"] (zF vp) := ⟨rfl, rfl, rfl, by decide +kernel, rfl, by decide +kernel, by decide +kernel⟩
def vC : SF :=
 (zB (zJ true 1 (f2 (fV 0) (fC (.int 2)) ixP))
  (zB (zJ true 2 (f2 (fV 0) (fC (.int 3)) ixP))
  (zB (yM (ym (aC (f2 (fV 0) (fC (.int 0)) ixP) aN) yw) (gN 3) (sIf (zgJ (fT (f2 (f2 (f2 (fV 1) (fV 2) ixP) (fV 3) ixP) (fV 3) (yj .NotEq))) (fT (f2 (f2 (f2 (fV 1) (fV 3) ixP) (fV 2) ixP) (fV 3) (yj .NotEq)))) (yp (yV (dC (fC (.str "nothing")) (dC (fV 3) dN)))) sNx))
  (yp (fC .non)))))
def wu : Fn := fnR 4 1 vC
abbrev vo : Stmt := top 5
abbrev Xg : List Str := ["algebra", "n", "join", "a", "b", "c"]
theorem yZ : FnScope Xg ["algebra"] (zF vo) := ⟨rfl, rfl, rfl, by decide +kernel, rfl, by decide +kernel, by decide +kernel⟩
def Zt : SF :=
 (zB (zJ true 1 (f2 (fV 0) (fC (.int 0)) ixP))
  (zB (zJ true 2 (f2 (fV 0) (fC (.int 2)) ixP))
  (zB (yM (ym (aC (fV 1) aN) yw) (gN 3) (yM (ym (aC (fV 1) aN) yw) (gN 4) (yM (ym (aC (fV 1) aN) yw) (gN 5) (sIf (fT (f2 (f2 (f2 (fV 2) (f2 (f2 (fV 2) (fV 3) ixP) (fV 4) ixP) ixP) (fV 5) ixP) (f2 (f2 (fV 2) (fV 3) ixP) (f2 (f2 (fV 2) (fV 4) ixP) (fV 5) ixP) ixP) (yj .NotEq))) (yp (yV (dC (fC (.str "parting")) (dC (fV 3) (dC (fV 4) (dC (fV 5) dN)))))) sNx))))
  (yp (fC .non)))))
def wz : Fn := fnR 6 1 Zt
abbrev v8 : Stmt := top 6
abbrev WL : List Str := ["algebra", "name", "rows", "n", "m", "join", "a", "i", "b", "j"]
theorem yN : FnScope WL ["algebra", "name", "rows"] (zF v8) := ⟨rfl, rfl, rfl, by decide +kernel, rfl, by decide +kernel, by decide +kernel⟩
def Yj : SF :=
 (zB (zJ true 3 (f2 (fV 0) (fC (.int 0)) ixP))
  (zB (zJ true 4 (f2 (fV 0) (fC (.int 1)) ixP))
  (zB (zJ true 5 (f2 (fV 0) (fC (.int 2)) ixP))
  (zB (yM (ym (aC (fV 3) aN) yw) (gN 6) (yM (ym (aC (fV 4) aN) yw) (gN 7) (yM (ym (aC (fV 3) aN) yw) (gN 8) (yM (ym (aC (fV 4) aN) yw) (gN 9) (sIf (fT (f2 (f2 (f2 (fV 2) (f2 (f2 (fV 7) (fV 9) (zp .Add)) (fV 4) (zp .Mod)) ixP) (f2 (f2 (fV 5) (fV 6) ixP) (fV 8) ixP) ixP) (f2 (f2 (fV 5) (f2 (f2 (fV 2) (fV 7) ixP) (fV 6) ixP) ixP) (f2 (f2 (fV 2) (fV 9) ixP) (fV 8) ixP) ixP) (yj .NotEq))) (yp (yV (dC (fC (.str "doing")) (dC (fV 1) (dC (fV 6) (dC (fV 7) (dC (fV 8) (dC (fV 9) dN)))))))) sNx)))))
  (yp (fC .non))))))
def wD : Fn := fnR 10 3 Yj
abbrev ZD : Stmt := top 7
abbrev Vr : List Str := ["algebra", "nothing", "name", "rows", "fault"]
theorem wZ : FnScope Vr ["algebra"] (zF ZD) := ⟨rfl, rfl, rfl, by decide +kernel, rfl, by decide +kernel, by decide +kernel⟩
def VF : SF :=
 (zB (zJ true 1 (f2 (fV 0) (fC (.int 3)) ixP))
  (zB (yM (zap (f2 (fV 0) (fC (.int 4)) ixP)) (gT 2 (gsC (gN 2) (gsC (gN 3) gsN))) (zB (sIf (fT (f2 (f2 (f2 (fV 3) (fC (.int 0)) ixP) (fV 1) ixP) (fV 1) (yj .NotEq))) (yp (yV (dC (fC (.str "empty")) (dC (fV 2) dN)))) sNx)
  (zB (zJ true 4 (zG (aC (fV 0) (aC (fV 2) (aC (fV 3) aN))) wD))
  (sIf (fT (f2 (fV 4) (fC .non) (yj .IsNot))) (yp (fV 4)) sNx))))
  (yp (fC .non))))
def vQ : Fn := fnR 5 1 VF
abbrev ZC : Stmt := top 8
abbrev VP : List Str := ["algebra", "fault"]
theorem v7 : FnScope VP ["algebra"] (zF ZC) := ⟨rfl, rfl, rfl, by decide +kernel, rfl, by decide +kernel, by decide +kernel⟩
def Vs : SF :=
 (zB (zJ true 1 (zG (aC (fV 0) aN) wu))
  (zB (sIf (fT (f2 (fV 1) (fC .non) (yj .Is))) (zJ true 1 (zG (aC (fV 0) aN) wz)) sNx)
  (zB (sIf (fT (f2 (fV 1) (fC .non) (yj .Is))) (zJ true 1 (zG (aC (fV 0) aN) vQ)) sNx)
  (yp (fV 1)))))
def vP : Fn := fnR 2 1 Vs
abbrev vW : Stmt := top 9
abbrev X5 : List Str := ["algebra", "fault"]
theorem Xd : FnScope X5 ["algebra"] (zF vW) := ⟨rfl, rfl, rfl, by decide +kernel, rfl, by decide +kernel, by decide +kernel⟩
def ZS : SF :=
 (zB (zJ true 1 (zG (aC (fV 0) aN) vP))
  (sIf (fT (f2 (fV 1) (fC .non) (yj .IsNot))) sNo sNx))
def xg : Fn := fnR 2 1 ZS
abbrev VB : Stmt := top 11
abbrev zeJ : List Str := ["algebra", "entries", "p", "q", "one", "other"]
theorem V6 : FnScope zeJ ["algebra", "entries", "p", "q"] (zF VB) := ⟨rfl, rfl, rfl, by decide +kernel, rfl, by decide +kernel, by decide +kernel⟩
def zdO : SF :=
 (zB (zJ true 4 (f2 (fV 1) (fV 2) ixP))
  (zB (zJ true 5 (f2 (fV 1) (fV 3) ixP))
  (yp (yV (dC (f2 (f2 (f2 (fV 0) (fC (.int 2)) ixP) (f2 (fV 4) (fC (.int 0)) ixP) ixP) (f2 (fV 5) (fC (.int 0)) ixP) ixP) (dC (f2 (f2 (f2 (fV 4) (fC (.int 1)) ixP) (f2 (fV 5) (fC (.int 1)) ixP) (zp .Add)) (f2 (fV 0) (fC (.int 1)) ixP) (zp .Mod)) (dC (yV (dC (fC (.str "two")) (dC (fV 2) (dC (fV 3) dN)))) dN)))))))
def vU : Fn := fnR 6 4 zdO
abbrev Zh : Stmt := top 12
abbrev Xp : List Str := ["algebra", "entries", "at", "value", "c", "found", "p"]
theorem vM : FnScope Xp ["algebra", "entries", "at"] (zF Zh) := ⟨rfl, rfl, rfl, by decide +kernel, rfl, by decide +kernel, by decide +kernel⟩
theorem Wh : (["name", "rows", "c", "value", "at"] : List Str).Nodup := by decide +kernel
def zaE : SF :=
 (zB (zJ true 3 (f2 (f2 (fV 1) (fV 2) ixP) (fC (.int 0)) ixP))
  (zB (zJ true 4 (f2 (f2 (fV 1) (fV 2) ixP) (fC (.int 1)) ixP))
  (zB (zJ false 5 (yE (Wx (f2 (fV 0) (fC (.int 4)) ixP)) [none, none, some 4, some 3, some 2] (gT 2 (gsC (gN 0) (gsC (gN 1) gsN))) wk (yV (dC (f2 (f2 (fV 1) (fV 2) ixP) (fV 3) ixP) (dC (fV 2) (dC (yV (dC (fC (.str "deed")) (dC (fV 0) (dC (fV 4) dN)))) dN))))))
  (zB (yM (ym (aC (f2 (fV 2) (fC (.int 1)) (zp .Add)) aN) yw) (gN 6) (yO (ww 5 (dC (wH (dC (zG (aC (fV 0) (aC (fV 1) (aC (fV 6) (aC (fV 2) aN)))) vU) (dC (zG (aC (fV 0) (aC (fV 1) (aC (fV 2) (aC (fV 6) aN)))) vU) dN))) dN) zgO)))
  (yp (fV 5))))))
def wM : Fn := fnR 7 3 zaE
abbrev YB : Stmt := top 13
abbrev zbw : List Str := ["entries", "known", "found", "entry", "pair"]
theorem We : FnScope zbw ["entries", "known", "found"] (zF YB) := ⟨rfl, rfl, rfl, by decide +kernel, rfl, by decide +kernel, by decide +kernel⟩
def W9 : SF :=
 (yM (zap (fV 2)) (gN 3) (zB (zJ true 4 (yV (dC (f2 (fV 3) (fC (.int 0)) ixP) (dC (f2 (fV 3) (fC (.int 1)) ixP) dN))))
  (sIf (fT (f2 (fV 4) (fV 1) (yj .NotIn))) (zB (WP 1 (fV 4) (fC (.bl true)))
  (yO (ww 0 (dC (fV 3) dN) vm))) sNx)))
def yU : O -> O -> It1 -> Option (O × O) := gM 5 W9
abbrev X4 : Stmt := top 14
abbrev zbq : List Str := ["algebra", "row", "entries", "known", "at"]
theorem Yv : FnScope zbq ["algebra", "row"] (zF X4) := ⟨rfl, rfl, rfl, by decide +kernel, rfl, by decide +kernel, by decide +kernel⟩
theorem zeT : (["value", "algebra"] : List Str).Nodup := by decide +kernel
def zeG : SF :=
 (zB (yO (zG (aC (fV 0) aN) xg))
  (zB (zJ false 2 (wH dN))
  (zB (zJ false 3 zjh)
  (zB (Vb 2 3 (wH (dC (yV (dC (f2 (fV 0) (fC (.int 3)) ixP) (dC (fC (.int 0)) (dC (yV (dC (fC (.str "none")) dN)) dN)))) dN)) yU)
  (zB (Vb 2 3 (yE (Wx (fV 1)) [none, some 0] (gN 0) wk (yV (dC (fV 0) (dC (f2 (fC (.int 1)) (f2 (fV 1) (fC (.int 1)) ixP) (zp .Mod)) (dC (yV (dC (fC (.str "one")) (dC (fV 0) dN))) dN))))) yU)
  (zB (zJ true 4 (fC (.int 0)))
  (zB (whL (fT (f2 (fV 4) (fP (aC (fV 2) aN) Z2) (yj .Lt))) (zB (Vb 2 3 (zG (aC (fV 0) (aC (fV 2) (aC (fV 4) aN))) wM) yU)
  (zhy 4 1)) 10000)
  (yp (fV 2)))))))))
def XQ : Fn := fnR 5 2 zeG
abbrev Za : Stmt := top 16
abbrev WX : List Str := ["_law_script", "_law_k"]
theorem zbt : FnScope WX ["_law_script", "_law_k"] (zF Za) := ⟨rfl, rfl, rfl, by decide +kernel, rfl, by decide +kernel, by decide +kernel⟩
def WM : SF :=
 (zB (sIf (fT (f2 (fV 1) (fP (aC (fV 0) aN) Z2) (yj .Lt))) (yp (f2 (fV 0) (fV 1) ixP)) sNx)
  (yp (fC (.int 0))))
def zA : Fn := fnR 2 2 WM
abbrev Z5 : Stmt := top 17
abbrev zaH : List Str := ["_law_cell", "_law_k", "_law_number"]
theorem VL : FnScope zaH ["_law_cell", "_law_k"] (zF Z5) := ⟨rfl, rfl, rfl, by decide +kernel, rfl, by decide +kernel, by decide +kernel⟩
def zaS : SF :=
 (zB (zJ true 2 (f2 (f2 (f2 (f2 (f2 (fV 0) (fC (.int 2147483647)) (zp .Mod)) (fC (.int 48271)) (zp .Mult)) (f2 (f2 (fV 1) (fV 1) (zp .Mult)) (fC (.int 69621)) (zp .Mult)) (zp .Add)) (fC (.int 7919)) (zp .Add)) (fC (.int 2147483647)) (zp .Mod)))
  (yp (f2 (f2 (f2 (f2 (fV 2) (fV 2) (zp .Mult)) (f2 (fC (.int 16807)) (fV 2) (zp .Mult)) (zp .Add)) (fV 1) (zp .Add)) (fC (.int 2147483629)) (zp .Mod))))
def zV : Fn := fnR 3 2 zaS
abbrev Zg : Stmt := top 18
abbrev X8 : List Str := ["_law_cell", "_law_many", "_law_letters", "_law_size", "_law_at", "_law_words_here", "_law_k", "_law_some"]
theorem wg : FnScope X8 ["_law_cell", "_law_many"] (zF Zg) := ⟨rfl, rfl, rfl, by decide +kernel, rfl, by decide +kernel, by decide +kernel⟩
theorem zcb : (["_law_j", "_law_letters", "_law_k", "_law_cell", "_law_at"] : List Str).Nodup := by decide +kernel
def zaD : SF :=
 (zB (zJ true 2 (fC (.str "abcdefghijklmnopqrstuvwxyz")))
  (zB (zJ true 3 (f2 (fC (.int 1)) (f2 (fV 0) (fC (.int 8)) (zp .Mod)) (zp .Add)))
  (zB (zJ true 4 (f2 (f2 (fV 0) (fC (.int 8)) (zp .FloorDiv)) (fV 3) (zp .Mod)))
  (zB (zJ false 5 (wH dN))
  (zB (yM (ym (aC (fV 1) aN) yw) (gN 6) (zB (zJ true 7 (yE (ym (aC (fV 3) aN) yw) [none, some 2, some 6, some 0, some 4] (gN 0) wk (f2 (fV 1) (f2 (f2 (f2 (zG (aC (fV 3) (aC (fV 0) aN)) zV) (fC (.int 64)) (zp .FloorDiv)) (f2 (fV 2) (fP (aC (f2 (fV 0) (fV 4) (yj .Eq)) aN) Yu) (zp .Mult)) (zp .Add)) (fC (.int 26)) (zp .Mod)) ixP)))
  (yO (ww 5 (dC (zbC .str (fC (.str "")) (aC (fV 7) aN) zec) dN) vm))))
  (yp (fV 5)))))))
def vI : Fn := fnR 8 2 zaD
abbrev ZG : Stmt := top 19
abbrev V5 : List Str := ["_law_n", "_law_m"]
theorem WK : FnScope V5 ["_law_n", "_law_m"] (zF ZG) := ⟨rfl, rfl, rfl, by decide +kernel, rfl, by decide +kernel, by decide +kernel⟩
def V1 : SF :=
 (zB (whL (fT (f2 (fV 1) (fC (.int 0)) (yj .Gt))) (zhO 0 1 (dC (fV 1) (dC (f2 (fV 0) (fV 1) (zp .Mod)) dN))) 10000)
  (yp (fV 0)))
def wQ : Fn := fnR 2 2 V1
abbrev vA : Stmt := top 20
abbrev Xm : List Str := ["_law_kind", "_law_n", "_law_a", "_law_b", "_law_images_here"]
theorem Yq : FnScope Xm ["_law_kind", "_law_n", "_law_a", "_law_b"] (zF vA) := ⟨rfl, rfl, rfl, by decide +kernel, rfl, by decide +kernel, by decide +kernel⟩
def Xh : SF :=
 (zB (sIf (fT (f2 (fV 0) (fC (.int 0)) (yj .Eq))) (yp (f2 (f2 (fV 2) (fV 3) (zp .Add)) (fV 1) (zp .Mod))) sNx)
  (zB (sIf (fT (f2 (fV 0) (fC (.int 1)) (yj .Eq))) (yp (fP (aC (fV 2) (aC (fV 3) aN)) znj)) sNx)
  (zB (sIf (fT (f2 (fV 0) (fC (.int 2)) (yj .Eq))) (yp (f2 (wH (dC (fV 3) (dC (fV 2) dN))) (fP (aC (f2 (fV 3) (fC (.int 0)) (yj .Eq)) aN) Yu) ixP)) sNx)
  (zB (zJ true 4 (wH (dC (f2 (fV 3) (fC (.int 2)) (zp .FloorDiv)) (dC (f2 (fV 3) (fC (.int 2)) (zp .Mod)) dN))))
  (yp (f2 (f2 (fC (.int 2)) (f2 (fV 4) (f2 (fV 2) (fC (.int 2)) (zp .FloorDiv)) ixP) (zp .Mult)) (f2 (fV 4) (f2 (fV 2) (fC (.int 2)) (zp .Mod)) ixP) (zp .Add)))))))
def zO : Fn := fnR 5 4 Xh
abbrev vV : Stmt := top 21
abbrev YW : List Str := ["_law_kind", "_law_n", "_law_x", "_law_some", "_law_k"]
theorem vd : FnScope YW ["_law_kind", "_law_n", "_law_x"] (zF vV) := ⟨rfl, rfl, rfl, by decide +kernel, rfl, by decide +kernel, by decide +kernel⟩
theorem zaX : (["_law_a", "_law_x"] : List Str).Nodup := by decide +kernel
def Vz : SF :=
 (zB (sIf (fT (f2 (fV 0) (fC (.int 3)) (yj .Eq))) (yp (yE (ym (aC (fV 1) aN) yw) [none, some 2] (gN 0) wk (f2 (wH (dC (fV 0) (dC (f2 (f2 (f2 (fC (.int 2)) (f2 (fC (.int 1)) (f2 (fV 0) (fC (.int 2)) (zp .Mod)) (zp .Sub)) (zp .Mult)) (fC (.int 1)) (zp .Add)) (f2 (fV 0) (fC (.int 2)) (zp .FloorDiv)) (zp .Sub)) dN))) (f2 (fV 1) (fC (.int 2)) (zp .Mod)) ixP))) sNx)
  (zB (zJ false 3 (wH dN))
  (zB (yM (ym (aC (fC (.int 1)) (aC (fV 1) aN)) zlY) (gN 4) (zB (zJ true 2 (f2 (fV 2) (fV 1) (zp .FloorDiv)))
  (yO (ww 3 (dC (f2 (wH (dC (f2 (fV 2) (fV 1) (zp .Mod)) (dC (f2 (fC (.int 1)) (f2 (fV 2) (f2 (fV 1) (fC (.int 1)) (zp .Sub)) (zp .Mod)) (zp .Add)) dN))) (f2 (fV 0) (fC (.int 1)) (zp .Sub)) ixP) dN) vm))))
  (zB (sIf (fT (f2 (fV 0) (fC (.int 1)) (yj .Eq))) (zJ false 3 (fP (aC (fV 3) aN) ziO)) sNx)
  (yp (f2 (wH (dC (fC (.int 0)) dN)) (fV 3) (zp .Add)))))))
def vL : Fn := fnR 5 3 Vz
abbrev wC : Stmt := top 22
abbrev Zb : List Str := ["_law_kind", "_law_n", "_law_m", "_law_x", "_law_images_here", "_law_step"]
theorem ZQ : FnScope Zb ["_law_kind", "_law_n", "_law_m", "_law_x"] (zF wC) := ⟨rfl, rfl, rfl, by decide +kernel, rfl, by decide +kernel, by decide +kernel⟩
theorem zav : (["_law_c", "_law_images_here"] : List Str).Nodup := by decide +kernel
theorem zai : (["_law_c", "_law_n", "_law_step", "_law_x"] : List Str).Nodup := by decide +kernel
theorem zao : (["_law_a", "_law_n", "_law_step", "_law_c", "_law_x"] : List Str).Nodup := by decide +kernel
def WY : SF :=
 (zB (sIf (fT (f2 (fV 0) (fC (.int 0)) (yj .Gt))) (zB (zJ true 4 (zG (aC (fV 0) (aC (fV 1) (aC (fV 3) aN))) vL))
  (yp (yE (ym (aC (fV 2) aN) yw) [none, some 4] (gN 0) wk (fP (aC (fV 1) aN) lstP)))) sNx)
  (zB (zJ true 5 (f2 (f2 (fV 1) (zG (aC (fV 1) (aC (fV 2) aN)) wQ) (zp .FloorDiv)) (f2 (f2 (fV 3) (fC (.int 8)) (zp .FloorDiv)) (fC (.int 8)) (zp .Mod)) (zp .Mult)))
  (yp (yE (ym (aC (fV 2) aN) yw) [none, some 1, some 5, some 3] (gN 0) wk (yE (ym (aC (fV 1) aN) yw) [none, some 1, some 2, some 0, some 3] (gN 0) wk (f2 (f2 (f2 (f2 (fV 4) (fC (.int 8)) (zp .Mod)) (fV 0) (zp .Mult)) (f2 (fV 2) (fV 3) (zp .Mult)) (zp .Add)) (fV 1) (zp .Mod)))))))
def yK : Fn := fnR 6 4 WY
abbrev Z7 : Stmt := top 23
abbrev zaL : List Str := ["_law_x", "_law_first", "_law_size", "_law_other"]
theorem wO : FnScope zaL ["_law_x"] (zF Z7) := ⟨rfl, rfl, rfl, by decide +kernel, rfl, by decide +kernel, by decide +kernel⟩
def zaN : SF :=
 (zB (zJ true 1 (f2 (fV 0) (fC (.int 4)) (zp .Mod)))
  (zB (zJ true 2 (f2 (wH (dC (f2 (fC (.int 1)) (f2 (f2 (fV 0) (fC (.int 4)) (zp .FloorDiv)) (fC (.int 5)) (zp .Mod)) (zp .Add)) (dC (f2 (fC (.int 1)) (f2 (f2 (fV 0) (fC (.int 4)) (zp .FloorDiv)) (fC (.int 8)) (zp .Mod)) (zp .Add)) dN))) (fP (aC (f2 (f2 (f2 (fV 0) (fC (.int 40)) (zp .FloorDiv)) (fC (.int 4)) (zp .Mod)) (fC (.int 1)) (yj .Eq)) aN) Yu) ixP))
  (zB (sIf (fT (f2 (fV 1) (fC (.int 3)) (yj .Eq))) (zJ true 2 (fC (.int 4))) sNx)
  (zB (zJ true 3 (f2 (fC (.int 1)) (f2 (f2 (fV 0) (fC (.int 160)) (zp .FloorDiv)) (fC (.int 3)) (zp .Mod)) (zp .Add)))
  (zB (sIf (fT (f2 (f2 (fV 2) (fV 3) (zp .Mult)) (fC (.int 8)) (yj .Gt))) (zJ true 3 (fC (.int 1))) sNx)
  (yp (yV (dC (fV 1) (dC (fV 2) (dC (f2 (f2 (fV 0) (fC (.int 480)) (zp .FloorDiv)) (fC (.int 3)) (zp .Mod)) (dC (fV 3) dN)))))))))))
def vG : Fn := fnR 4 1 zaN
abbrev ZJ : Stmt := top 24
abbrev Vy : List Str := ["_law_cell", "_law_many", "_law_found", "_law_rest", "_law_k"]
theorem wY : FnScope Vy ["_law_cell", "_law_many"] (zF ZJ) := ⟨rfl, rfl, rfl, by decide +kernel, rfl, by decide +kernel, by decide +kernel⟩
def Vv : SF :=
 (zB (zJ false 2 (wH dN))
  (zB (zJ true 3 (f2 (fV 0) (fC (.int 2)) (zp .FloorDiv)))
  (zB (yM (ym (aC (fV 1) aN) yw) (gN 4) (sIf (fT (f2 (f2 (fV 0) (fC (.int 2)) (zp .Mod)) (fC (.int 0)) (yj .Eq))) (zB (yO (ww 2 (dC (f2 (fV 3) (fC (.int 1000000007)) (zp .Mod)) dN) vm))
  (zJ true 3 (f2 (fV 3) (fC (.int 1000000007)) (zp .FloorDiv)))) (yO (ww 2 (dC (zG (aC (fV 3) (aC (fV 4) aN)) zV) dN) vm))))
  (yp (fV 2)))))
def yJ : Fn := fnR 5 2 Vv
abbrev xM : Stmt := top 25
abbrev wW : List Str := ["_law_cell", "_law_head", "_law_many", "_law_xs", "_law_ys", "_law_kind", "_law_n", "_law_more", "_law_times", "_law_m", "_law_size", "_law_left", "_law_order", "_law_k", "_law_join", "_law_a", "_law_b", "_law_there", "_law_names", "_law_deeds", "_law_rows", "_law_beside", "_law_made", "_law_c", "_law_signs", "_law_bits", "_law_held", "_law_nothing"]
theorem zr : FnScope wW ["_law_cell", "_law_head", "_law_many"] (zF xM) := ⟨rfl, rfl, rfl, by decide +kernel, rfl, by decide +kernel, by decide +kernel⟩
theorem V8 : (["_law_a", "_law_order"] : List Str).Nodup := by decide +kernel
theorem zaj : (["_law_b"] : List Str).Nodup := by decide +kernel
theorem zaC : (["_law_c", "_law_order"] : List Str).Nodup := by decide +kernel
theorem zau : (["_law_a"] : List Str).Nodup := by decide +kernel
theorem zag : (["_law_a", "_law_bits"] : List Str).Nodup := by decide +kernel
def Yc : SF :=
 (zB (zJ true 3 (zG (aC (fV 0) (aC (f2 (fC (.int 1)) (f2 (fC (.int 2)) (fV 2) (zp .Mult)) (zp .Add)) aN)) yJ))
  (zB (zJ true 4 (zG (aC (fV 1) (aC (fC (.int 13)) aN)) yJ))
  (zB (zes (zG (aC (f2 (fV 3) (fC (.int 0)) ixP) aN) vG) (gT 4 (gsC (gN 5) (gsC (gN 6) (gsC (gN 7) (gsC (gN 8) gsN))))))
  (zB (zJ true 9 (f2 (f2 (fC (.int 1)) (f2 (f2 (fV 4) (fC (.int 0)) ixP) (fC (.int 4)) (zp .Mod)) (zp .Add)) (f2 (fC (.int 2)) (fP (aC (f2 (f2 (f2 (f2 (fV 4) (fC (.int 0)) ixP) (fC (.int 4)) (zp .FloorDiv)) (fC (.int 8)) (zp .Mod)) (fC (.int 5)) (yj .Eq)) aN) Yu) (zp .Mult)) (zp .Add)))
  (zB (zJ true 10 (f2 (fV 6) (fV 8) (zp .Mult)))
  (zB (zJ false 11 (fP (aC (fV 10) aN) lrP))
  (zB (zJ false 12 (wH dN))
  (zB (yM (ym (aC (fV 10) aN) yw) (gN 13) (yO (ww 12 (dC (ww 11 (dC (f2 (f2 (fV 4) (f2 (fC (.int 1)) (fV 13) (zp .Add)) ixP) (fP (aC (fV 11) aN) Z2) (zp .Mod)) dN) Xa) dN) vm)))
  (zcQ 12 (zB (zJ false 14 (yE (Wx (fV 12)) [none, some 12] (gN 0) wk (yE (Wx (fV 1)) [none] (gN 0) wk (fC (.int 0)))))
  (zB (yM (ym (aC (fV 10) aN) yw) (gN 15) (yM (ym (aC (fV 10) aN) yw) (gN 16) (zB (zJ true 17 (f2 (zG (aC (fV 5) (aC (fV 6) (aC (f2 (fV 15) (fV 8) (zp .FloorDiv)) (aC (f2 (fV 16) (fV 8) (zp .FloorDiv)) aN)))) zO) (fV 8) (zp .Mult)))
  (zB (zJ true 17 (f2 (fV 17) (zG (aC (fV 7) (aC (fV 8) (aC (f2 (fV 15) (fV 8) (zp .Mod)) (aC (f2 (fV 16) (fV 8) (zp .Mod)) aN)))) zO) (zp .Add)))
  (Wz 14 (xAt 12 (xV 15)) (xAt 12 (xV 16)) (xAt 12 (xV 17)))))))
  (zB (zJ true 18 (zG (aC (f2 (fV 1) (fC (.int 7)) (zp .FloorDiv)) (aC (fC (.int 10)) aN)) vI))
  (zB (zJ false 19 (wH dN))
  (zB (yM (ym (aC (fV 2) aN) yw) (gN 13) (zB (zJ true 20 (zG (aC (fV 5) (aC (fV 6) (aC (fV 9) (aC (f2 (fV 3) (f2 (fC (.int 1)) (f2 (fC (.int 2)) (fV 13) (zp .Mult)) (zp .Add)) ixP) aN)))) yK))
  (zB (zJ true 21 (zG (aC (fV 7) (aC (fV 8) (aC (fV 9) (aC (f2 (fV 3) (f2 (fC (.int 2)) (f2 (fC (.int 2)) (fV 13) (zp .Mult)) (zp .Add)) ixP) aN)))) yK))
  (zB (zJ false 22 (yE (ym (aC (fV 9) aN) yw) [none, some 12] (gN 0) wk (yE (Wx (fV 1)) [none] (gN 0) wk (fC (.int 0)))))
  (zB (yM (ym (aC (fV 9) aN) yw) (gN 23) (yM (ym (aC (fV 10) aN) yw) (gN 15) (zB (zJ true 17 (f2 (f2 (fV 20) (fV 23) ixP) (f2 (fV 15) (fV 8) (zp .FloorDiv)) ixP))
  (zB (zJ true 17 (f2 (f2 (fV 17) (fV 8) (zp .Mult)) (f2 (f2 (fV 21) (fV 23) ixP) (f2 (fV 15) (fV 8) (zp .Mod)) ixP) (zp .Add)))
  (Wz 22 (xV 23) (xAt 12 (xV 15)) (xAt 12 (xV 17)))))))
  (yO (ww 19 (dC (yV (dC (f2 (fV 18) (fV 13) ixP) (dC (fV 22) dN))) dN) vm)))))))
  (zB (zJ false 24 (wH dN))
  (zB (yM (ym (aC (fC (.int 3)) aN) yw) (gN 13) (zB (zJ true 25 (f2 (fV 4) (f2 (fC (.int 9)) (fV 13) (zp .Add)) ixP))
  (zB (zJ true 26 (yE (ym (aC (fV 10) aN) yw) [none, some 25] (gN 0) (fT (f2 (f2 (f2 (fV 1) (f2 (fC (.int 1)) (fV 0) zgR) (zp .FloorDiv)) (fC (.int 2)) (zp .Mod)) (fC (.int 1)) (yj .Eq))) (fV 0)))
  (yO (ww 24 (dC (yV (dC (f2 (fV 18) (f2 (fV 13) (f2 (fC (.int 4)) (f2 (f2 (fV 25) (fC (.int 512)) (zp .FloorDiv)) (fC (.int 2)) (zp .Mod)) (zp .Mult)) (zp .Add)) ixP) (dC (fV 26) dN))) dN) vm)))))
  (zB (zJ true 27 (f2 (fV 12) (f2 (wH (dC (fC (.int 0)) (dC (fV 8) dN))) (fP (aC (f2 (fV 5) (fC (.int 3)) (yj .Eq)) aN) Yu) ixP) ixP))
  (yp (yV (dC (fV 10) (dC (fV 9) (dC (fV 14) (dC (fV 27) (dC (fV 19) (dC (fSl (fV 24) oN (oS (f2 (f2 (fV 4) (fC (.int 12)) ixP) (fC (.int 4)) (zp .Mod))) slP) dN)))))))))))))))))))))))))
def wX : Fn := fnR 28 3 Yc
abbrev ZF : Stmt := top 26
abbrev Vk : List Str := ["_law_script", "_law_start", "_law_most", "_law_size", "_law_number", "_law_row", "_law_k"]
theorem Yi : FnScope Vk ["_law_script", "_law_start", "_law_most", "_law_size", "_law_number"] (zF ZF) := ⟨rfl, rfl, rfl, by decide +kernel, rfl, by decide +kernel, by decide +kernel⟩
def V4 : SF :=
 (zB (zJ false 5 (wH dN))
  (zB (yM (ym (aC (f2 (fV 4) (f2 (fV 2) (fC (.int 1)) (zp .Add)) (zp .Mod)) aN) yw) (gN 6) (yO (ww 5 (dC (f2 (zG (aC (zG (aC (fV 0) (aC (f2 (fV 1) (fV 6) (zp .Add)) aN)) zA) (aC (f2 (fV 6) (fC (.int 80)) (zp .Add)) aN)) zV) (fV 3) (zp .Mod)) dN) vm)))
  (yp (fV 5))))
def xX : Fn := fnR 7 5 V4
abbrev vN : Stmt := top 27
abbrev Wj : List Str := ["_law_algebra_here", "_law_row", "_law_found", "_law_a"]
theorem vz : FnScope Wj ["_law_algebra_here", "_law_row"] (zF vN) := ⟨rfl, rfl, rfl, by decide +kernel, rfl, by decide +kernel, by decide +kernel⟩
def X6 : SF :=
 (zB (zJ true 2 (f2 (fV 0) (fC (.int 3)) ixP))
  (zB (yM (zap (fV 1)) (gN 3) (zJ true 2 (f2 (f2 (f2 (fV 0) (fC (.int 2)) ixP) (fV 2) ixP) (fV 3) ixP)))
  (yp (fV 2))))
def xQ : Fn := fnR 4 2 X6
abbrev Y5 : Stmt := top 28
abbrev zbT : List Str := ["_law_algebra_here", "_law_row", "_law_known", "_law_cut", "_law_some"]
theorem XH : FnScope zbT ["_law_algebra_here", "_law_row", "_law_known"] (zF Y5) := ⟨rfl, rfl, rfl, by decide +kernel, rfl, by decide +kernel, by decide +kernel⟩
def zbY : SF :=
 (zB (yM (ym (aC (f2 (fP (aC (fV 1) aN) Z2) (fC (.int 1)) (zp .Add)) aN) yw) (gN 3) (yM (zap (wH (dC (fSl (fV 1) oN (oS (fV 3)) slP) (dC (fSl (fV 1) (oS (fV 3)) oN slP) dN)))) (gN 4) (sIf (fT (f2 (yV (dC (zG (aC (fV 0) (aC (fV 4) aN)) xQ) (dC (f2 (fP (aC (fV 4) aN) Z2) (f2 (fV 0) (fC (.int 1)) ixP) (zp .Mod)) dN))) (fV 2) (yj .NotIn))) (yp (fC (.bl false))) sNx)))
  (yp (fC (.bl true))))
def xJ : Fn := fnR 5 3 zbY
abbrev zen : Stmt := top 29
abbrev zhU : List Str := ["_law_script", "_law_algebra_here", "_law_some", "_law_known", "_law_value", "_law_count", "_law_how", "_law_row", "_law_k", "_law_x", "_law_i", "_law_j", "_law_name", "_law_rows"]
theorem wV : FnScope zhU ["_law_script"] (zF zen) := ⟨rfl, rfl, rfl, by decide +kernel, rfl, by decide +kernel, by decide +kernel⟩
theorem zil : (["_law_a", "_law_rows", "_law_algebra_here"] : List Str).Nodup := by decide +kernel
def zkV : SF :=
 (zB (zJ true 1 (zG (aC (zG (aC (fV 0) (aC (fC (.int 0)) aN)) zA) (aC (zG (aC (fV 0) (aC (fC (.int 1)) aN)) zA) (aC (f2 (fC (.int 1)) (f2 (zG (aC (fV 0) (aC (fC (.int 2)) aN)) zA) (fC (.int 4)) (zp .Mod)) (zp .Add)) aN))) wX))
  (zB (zJ true 2 (f2 (zG (aC (fV 0) (aC (fC (.int 3)) (aC (fC (.int 4)) (aC (f2 (fV 1) (fC (.int 0)) ixP) (aC (f2 (zG (aC (fV 0) (aC (fC (.int 2)) aN)) zA) (fC (.int 4)) (zp .FloorDiv)) aN))))) xX) (wH (dC (f2 (zG (aC (fV 0) (aC (fC (.int 3)) aN)) zA) (f2 (fV 1) (fC (.int 0)) ixP) (zp .Mod)) dN)) (zp .Add)))
  (zB (zJ false 3 zjh)
  (zB (yM (zap (zG (aC (fV 1) (aC (fV 2) aN)) XQ)) (gT 3 (gsC (gN 4) (gsC (gN 5) (gsC (gN 6) gsN)))) (WP 3 (yV (dC (fV 4) (dC (fV 5) dN))) (fC (.bl true))))
  (zB (zJ false 7 (wH dN))
  (zB (yM (ym (aC (f2 (f2 (zG (aC (fV 0) (aC (fC (.int 2)) aN)) zA) (fC (.int 20)) (zp .FloorDiv)) (fC (.int 31)) (zp .Mod)) aN) yw) (gN 8) (yO (ww 7 (dC (f2 (fV 2) (f2 (zG (aC (zG (aC (fV 0) (aC (f2 (fC (.int 8)) (fV 8) (zp .Add)) aN)) zA) (aC (f2 (fV 8) (fC (.int 120)) (zp .Add)) aN)) zV) (fP (aC (fV 2) aN) Z2) (zp .Mod)) ixP) dN) vm)))
  (zcQ 7 (zB (sIf (zcA (fT (zG (aC (fV 1) (aC (fV 7) (aC (fV 3) aN))) xJ))) (yp (fC (.bl false))) sNx)
  (zB (yM (ym (aC (f2 (f2 (zG (aC (fV 0) (aC (fC (.int 2)) aN)) zA) (fC (.int 620)) (zp .FloorDiv)) (fC (.int 31)) (zp .Mod)) aN) yw) (gN 8) (zB (zJ true 9 (zG (aC (zG (aC (fV 0) (aC (f2 (fC (.int 33)) (fV 8) (zp .Add)) aN)) zA) (aC (f2 (fV 8) (fC (.int 160)) (zp .Add)) aN)) zV))
  (zB (zJ true 10 (f2 (fV 9) (f2 (fP (aC (fV 7) aN) Z2) (fC (.int 1)) (zp .Add)) (zp .Mod)))
  (zB (zJ true 11 (f2 (fV 10) (f2 (f2 (fV 9) (fC (.int 64)) (zp .FloorDiv)) (f2 (f2 (fP (aC (fV 7) aN) Z2) (fC (.int 1)) (zp .Add)) (fV 10) (zp .Sub)) (zp .Mod)) (zp .Add)))
  (zB (zes (f2 (f2 (fV 1) (fC (.int 4)) ixP) (f2 (f2 (fV 9) (fC (.int 4096)) (zp .FloorDiv)) (fP (aC (f2 (fV 1) (fC (.int 4)) ixP) aN) Z2) (zp .Mod)) ixP) (gT 2 (gsC (gN 12) (gsC (gN 13) gsN))))
  (zB (zJ false 7 (f2 (f2 (fSl (fV 7) oN (oS (fV 10)) slP) (yE (Wx (fSl (fV 7) (oS (fV 10)) (oS (fV 11)) slP)) [none, some 13, some 1] (gN 0) wk (f2 (f2 (fV 1) (f2 (fC (.int 1)) (f2 (fV 2) (fC (.int 1)) ixP) (zp .Mod)) ixP) (fV 0) ixP)) (zp .Add)) (fSl (fV 7) (oS (fV 11)) oN slP) (zp .Add)))
  (sIf (zeS (fT (f2 (f2 (fV 8) (fC (.int 3)) (zp .Mod)) (fC (.int 2)) (yj .Eq))) (zcA (fT (zG (aC (fV 1) (aC (fV 7) (aC (fV 3) aN))) xJ)))) (yp (fC (.bl false))) sNx)))))))
  (yp (zG (aC (fV 1) (aC (fV 7) (aC (fV 3) aN))) xJ)))))))))))
def zcd : Fn := fnR 14 1 zkV
set_option genInjectivity false in
set_option genSizeOf false in
structure Adr where
 Zx : Addr
 Zn : FuncData
 Zj : Addr
 Zw : FuncData
 Yn : Addr
 Yg : FuncData
 Yy : Addr
 YQ : FuncData
 Yz : Addr
 Y0 : FuncData
 ZP : Addr
 ZM : FuncData
 zbO : Addr
 zck : FuncData
 Wd : Addr
 X7 : FuncData
 Vd : Addr
 Ve : FuncData
 zbA : Addr
 zbJ : FuncData
 Ym : Addr
 Ye : FuncData
 Xw : Addr
 XS : FuncData
 Wb : Addr
 Xy : FuncData
 YM : Addr
 Xb : FuncData
 Zk : Addr
 Zq : FuncData
 YT : Addr
 YK : FuncData
 Yk : Addr
 Yd : FuncData
 Xv : Addr
 XM : FuncData
 Y6 : Addr
 YZ : FuncData
 Yl : Addr
 Z9 : FuncData
 YX : Addr
 YC : FuncData
 ZX : Addr
 ZW : FuncData
 W4 : Addr
 W5 : FuncData
 ziC : Addr
 zhx : FuncData
structure Txt (K : zC) (kd : KD) (mg : Str -> Option Value) (t : Adr) : Prop where
 Xf : Fun K "nothing_fails" "nothing_fails" vp t.Zx t.Zn
 zaY : Binds K t.Zn ["algebra"] []
 wu : mg "nothing_fails" = some (.ref t.Zx)
 Xi : Fun K "parting_fails" "parting_fails" vo t.Zj t.Zw
 zbb : Binds K t.Zw ["algebra"] []
 wz : mg "parting_fails" = some (.ref t.Zj)
 WQ : Fun K "doing_fails" "doing_fails" v8 t.Yn t.Yg
 zco : Binds K t.Yg ["algebra", "name", "rows"] []
 wD : mg "doing_fails" = some (.ref t.Yn)
 Vi : Fun K "deeds_fail" "deeds_fail" ZD t.Yy t.YQ
 zdk : Binds K t.YQ ["algebra"] []
 vQ : mg "deeds_fail" = some (.ref t.Yy)
 VD : Fun K "what_fails" "what_fails" ZC t.Yz t.Y0
 zdd : Binds K t.Y0 ["algebra"] []
 vP : mg "what_fails" = some (.ref t.Yz)
 Xo : Fun K "check_let_by" "check_let_by" vW t.ZP t.ZM
 zce : Binds K t.ZM ["algebra"] []
 xg : mg "check_let_by" = some (.ref t.ZP)
 zcg : Fun K "two_of" "two_of" VB t.zbO t.zck
 zet : Binds K t.zck ["algebra", "entries", "p", "q"] []
 vU : mg "two_of" = some (.ref t.zbO)
 zaG : Fun K "following" "following" Zh t.Wd t.X7
 zdW : Binds K t.X7 ["algebra", "entries", "at"] []
 wM : mg "following" = some (.ref t.Wd)
 Y4 : Fun K "take_new" "take_new" YB t.Vd t.Ve
 Vc : Binds K t.Ve ["entries", "known", "found"] []
 yU : mg "take_new" = some (.ref t.Vd)
 zdU : Fun K "coming" "coming" X4 t.zbA t.zbJ
 ziw : Binds K t.zbJ ["algebra", "row"] []
 XQ : mg "coming" = some (.ref t.zbA)
 yr : Fun K "_law_cell_at" "_law_cell_at" Za t.Ym t.Ye
 yF : Binds K t.Ye ["_law_script", "_law_k"] []
 zA : mg "_law_cell_at" = some (.ref t.Ym)
 vH : Fun K "_law_mixed" "_law_mixed" Z5 t.Xw t.XS
 Zd : Binds K t.XS ["_law_cell", "_law_k"] []
 zV : mg "_law_mixed" = some (.ref t.Xw)
 zaM : Fun K "_law_words" "_law_words" Zg t.Wb t.Xy
 zdR : Binds K t.Xy ["_law_cell", "_law_many"] []
 vI : mg "_law_words" = some (.ref t.Wb)
 Vf : Fun K "_law_common" "_law_common" ZG t.YM t.Xb
 zdM : Binds K t.Xb ["_law_n", "_law_m"] []
 wQ : mg "_law_common" = some (.ref t.YM)
 Zv : Fun K "_law_joined_by" "_law_joined_by" vA t.Zk t.Zq
 Xl : Binds K t.Zq ["_law_kind", "_law_n", "_law_a", "_law_b"] []
 zO : mg "_law_joined_by" = some (.ref t.Zk)
 Vq : Fun K "_law_images" "_law_images" vV t.YT t.YK
 zcZ : Binds K t.YK ["_law_kind", "_law_n", "_law_x"] []
 vL : mg "_law_images" = some (.ref t.YT)
 Yp : Fun K "_law_done_by" "_law_done_by" wC t.Yk t.Yd
 WF : Binds K t.Yd ["_law_kind", "_law_n", "_law_m", "_law_x"] []
 yK : mg "_law_done_by" = some (.ref t.Yk)
 zaJ : Fun K "_law_kinds" "_law_kinds" Z7 t.Xv t.XM
 zez : Binds K t.XM ["_law_x"] []
 vG : mg "_law_kinds" = some (.ref t.Xv)
 YH : Fun K "_law_stream" "_law_stream" ZJ t.Y6 t.YZ
 VH : Binds K t.YZ ["_law_cell", "_law_many"] []
 yJ : mg "_law_stream" = some (.ref t.Y6)
 WW : Fun K "_law_algebra" "_law_algebra" xM t.Yl t.Z9
 zcp : Binds K t.Z9 ["_law_cell", "_law_head", "_law_many"] []
 wX : mg "_law_algebra" = some (.ref t.Yl)
 Vj : Fun K "_law_values" "_law_values" ZF t.YX t.YC
 zdl : Binds K t.YC ["_law_script", "_law_start", "_law_most", "_law_size", "_law_number"] []
 xX : mg "_law_values" = some (.ref t.YX)
 XX : Fun K "_law_whole_of" "_law_whole_of" vN t.ZX t.ZW
 zca : Binds K t.ZW ["_law_algebra_here", "_law_row"] []
 xQ : mg "_law_whole_of" = some (.ref t.ZX)
 YD : Fun K "_law_come" "_law_come" Y5 t.W4 t.W5
 Va : Binds K t.W5 ["_law_algebra_here", "_law_row", "_law_known"] []
 xJ : mg "_law_come" = some (.ref t.W4)
 znq : Fun K "law" "law" zen t.ziC t.zhx
 zpc : Binds K t.zhx ["_law_script"] []
 zcd : mg "law" = some (.ref t.ziC)
 zee : mg "int" = none
 Vx : mg "len" = none
 zhD : mg "list" = none
 znr : mg "max" = none
 z9 : mg "range" = none
 zhJ : mg "sorted" = none
set_option maxHeartbeats 8000000
section
variable {P : Program} {w : World} {K : zC} {mg : Str -> Option Value} {base : Heap} {kd : KD} {t : Adr}
theorem zaV (T : Txt K kd mg t) (hkd : KD1 P w K kd) : FnOk P w K mg base CX0 1 t.Zx t.Zn ["algebra"] (spD K kd wu) := by
 refine wK (N := Xe) (ps := ["algebra"]) (k := 0) (c := vC) T.Xf wR λ cdv A outer s H E hr => ?_
 exact (by
  refine zg ?_ ?_; exact (by refine sv true 1 wR.nd ?_; exact (ax hkd (av 0) aI))
  refine zg ?_ ?_; exact (by refine sv true 2 wR.nd ?_; exact (ax hkd (av 0) aI))
  refine zg ?_ ?_; exact (yI PassesOwn.never rfl (z7 rfl T.z9 (zc (ax hkd (av 0) aI) zy (za rfl)) rfl) (an 3 wR.nd) (zu (vh (AW.at_ (znn (yQ (yD (hkd _ rfl rfl rfl) (xx hr) .NotEq) (yu .NotEq) (ax hkd (ax hkd (av 1) (av 2)) (av 3)) (av 3) (yH _)) (zhe (yQ (yD (hkd _ rfl rfl rfl) (xx hr) .NotEq) (yu .NotEq) (ax hkd (ax hkd (av 1) (av 3)) (av 2)) (av 3) (yH _))))) (zu (yh (xZ (zq aS (zq (av 3) zQ (za rfl)) (za rfl))))) yP)) (λ _ => rfl))
  exact zu (yh aZ))
theorem zbd (T : Txt K kd mg t) (hkd : KD1 P w K kd) : FnOk P w K mg base CX0 1 t.Zj t.Zw ["algebra"] (spD K kd wz) := by
 refine wK (N := Xg) (ps := ["algebra"]) (k := 0) (c := Zt) T.Xi yZ λ cdv A outer s H E hr => ?_
 exact (by
  refine zg ?_ ?_; exact (by refine sv true 1 yZ.nd ?_; exact (ax hkd (av 0) aI))
  refine zg ?_ ?_; exact (by refine sv true 2 yZ.nd ?_; exact (ax hkd (av 0) aI))
  refine zg ?_ ?_; exact (yI PassesOwn.never rfl (z7 rfl T.z9 (zc (av 1) zy (za rfl)) rfl) (an 3 yZ.nd) (zu (yI PassesOwn.never rfl (z7 rfl T.z9 (zc (av 1) zy (za rfl)) rfl) (an 4 yZ.nd) (zu (yI PassesOwn.never rfl (z7 rfl T.z9 (zc (av 1) zy (za rfl)) rfl) (an 5 yZ.nd) (zu (vh (yQ (yD (hkd _ rfl rfl rfl) (xx hr) .NotEq) (yu .NotEq) (ax hkd (ax hkd (av 2) (ax hkd (ax hkd (av 2) (av 3)) (av 4))) (av 5)) (ax hkd (ax hkd (av 2) (av 3)) (ax hkd (ax hkd (av 2) (av 4)) (av 5))) (yH _)) (zu (yh (xZ (by refine zq ?_ ?_ ?_; exact aS; refine zq ?_ ?_ ?_; exact (av 3); refine zq ?_ ?_ ?_; exact (av 4); refine zq ?_ ?_ ?_; exact (av 5); exact zQ; exact za rfl; exact za rfl; exact za rfl; exact za rfl)))) yP)) (λ _ => rfl))) (λ _ => rfl))) (λ _ => rfl))
  exact zu (yh aZ))
theorem zcq (T : Txt K kd mg t) (hkd : KD1 P w K kd) : FnOk P w K mg base CX0 1 t.Yn t.Yg ["algebra", "name", "rows"] (spD K kd wD) := by
 refine wK (N := WL) (ps := ["algebra", "name", "rows"]) (k := 0) (c := Yj) T.WQ yN λ cdv A outer s H E hr => ?_
 exact (by
  refine zg ?_ ?_; exact (by refine sv true 3 yN.nd ?_; exact (ax hkd (av 0) aI))
  refine zg ?_ ?_; exact (by refine sv true 4 yN.nd ?_; exact (ax hkd (av 0) aI))
  refine zg ?_ ?_; exact (by refine sv true 5 yN.nd ?_; exact (ax hkd (av 0) aI))
  refine zg ?_ ?_; exact (yI PassesOwn.never rfl (z7 rfl T.z9 (zc (av 3) zy (za rfl)) rfl) (an 6 yN.nd) (zu (yI PassesOwn.never rfl (z7 rfl T.z9 (zc (av 4) zy (za rfl)) rfl) (an 7 yN.nd) (zu (yI PassesOwn.never rfl (z7 rfl T.z9 (zc (av 3) zy (za rfl)) rfl) (an 8 yN.nd) (zu (yI PassesOwn.never rfl (z7 rfl T.z9 (zc (av 4) zy (za rfl)) rfl) (an 9 yN.nd) (zu (vh (yQ (yD (hkd _ rfl rfl rfl) (xx hr) .NotEq) (yu .NotEq) (ax hkd (ax hkd (av 2) (zj (zm .Mod) (zj (zm .Add) (av 7) (av 9)) (av 4))) (ax hkd (ax hkd (av 5) (av 6)) (av 8))) (ax hkd (ax hkd (av 5) (ax hkd (ax hkd (av 2) (av 7)) (av 6))) (ax hkd (ax hkd (av 2) (av 9)) (av 8))) (yH _)) (zu (yh (xZ (by refine zq ?_ ?_ ?_; exact aS; refine zq ?_ ?_ ?_; exact (av 1); refine zq ?_ ?_ ?_; exact (av 6); refine zq ?_ ?_ ?_; exact (av 7); refine zq ?_ ?_ ?_; exact (av 8); refine zq ?_ ?_ ?_; exact (av 9); exact zQ; exact za rfl; exact za rfl; exact za rfl; exact za rfl; exact za rfl; exact za rfl)))) yP)) (λ _ => rfl))) (λ _ => rfl))) (λ _ => rfl))) (λ _ => rfl))
  exact zu (yh aZ))
theorem zdC (T : Txt K kd mg t) (hkd : KD1 P w K kd) : FnOk P w K mg base CX0 2 t.Yy t.YQ ["algebra"] (spD K kd vQ) := by
 refine wK (N := Vr) (ps := ["algebra"]) (k := 1) (c := VF) T.Vi wZ λ cdv A outer s H E hr => ?_
 exact (by
  refine zg ?_ ?_; exact (by refine sv true 1 wZ.nd ?_; exact (ax hkd (av 0) aI))
  refine zg ?_ ?_; exact (yI PassesOwn.never rfl (zbU (ax hkd (av 0) aI)) (zby rfl (xU (an 2 wZ.nd) (xU (an 3 wZ.nd) Vo rfl) rfl) rfl rfl) (by
  refine zg ?_ ?_; exact (vh (yQ (yD (hkd _ rfl rfl rfl) (xx hr) .NotEq) (yu .NotEq) (ax hkd (ax hkd (av 3) aI) (av 1)) (av 1) (yH _)) (zu (yh (xZ (zq aS (zq (av 2) zQ (za rfl)) (za rfl))))) yP)
  refine zg ?_ ?_; exact (by refine sv true 4 wZ.nd ?_; exact (zT (zcq T hkd) (hr.mono (by omega)) rfl T.wD T.WQ.kp T.zco yo (by refine zc ?_ ?_ ?_; exact (av 0); refine zc ?_ ?_ ?_; exact (av 2); refine zc ?_ ?_ ?_; exact (av 3); exact zy; exact za rfl; exact za rfl; exact za rfl) (by decide) rfl rfl))
  exact zu (vh (yQ (yD (hkd _ rfl rfl rfl) (xx hr) .IsNot) (yu .IsNot) (av 4) aZ (yH _)) (zu (yh (av 4))) yP)) (λ _ => rfl))
  exact zu (yh aZ))
theorem zdL (T : Txt K kd mg t) (hkd : KD1 P w K kd) : FnOk P w K mg base CX0 3 t.Yz t.Y0 ["algebra"] (spD K kd vP) := by
 refine wK (N := VP) (ps := ["algebra"]) (k := 2) (c := Vs) T.VD v7 λ cdv A outer s H E hr => ?_
 exact (by
  refine zg ?_ ?_; exact (by refine sv true 1 v7.nd ?_; exact (zT (zaV T hkd) (hr.mono (by omega)) rfl T.wu T.Xf.kp T.zaY yo (zc (av 0) zy (za rfl)) (by decide) rfl rfl))
  refine zg ?_ ?_; exact (vh (yQ (yD (hkd _ rfl rfl rfl) (xx hr) .Is) (yu .Is) (av 1) aZ (yH _)) (zu (by refine sv true 1 v7.nd ?_; exact (zT (zbd T hkd) (hr.mono (by omega)) rfl T.wz T.Xi.kp T.zbb yo (zc (av 0) zy (za rfl)) (by decide) rfl rfl))) yP)
  refine zg ?_ ?_; exact (vh (yQ (yD (hkd _ rfl rfl rfl) (xx hr) .Is) (yu .Is) (av 1) aZ (yH _)) (zu (by refine sv true 1 v7.nd ?_; exact (zT (zdC T hkd) (hr.mono (by omega)) rfl T.vQ T.Vi.kp T.zdk yo (zc (av 0) zy (za rfl)) (by decide) rfl rfl))) yP)
  exact zu (yh (av 1)))
theorem zbP (T : Txt K kd mg t) (hkd : KD1 P w K kd) : FnOk P w K mg base CX0 4 t.ZP t.ZM ["algebra"] (spD K kd xg) := by
 refine wK (N := X5) (ps := ["algebra"]) (k := 3) (c := ZS) T.Xo Xd λ cdv A outer s H E hr => ?_
 exact (by
  refine zg ?_ ?_; exact (by refine sv true 1 Xd.nd ?_; exact (zT (zdL T hkd) (hr.mono (by omega)) rfl T.vP T.VD.kp T.zdd yo (zc (av 0) zy (za rfl)) (by decide) rfl rfl))
  exact zu (vh (yQ (yD (hkd _ rfl rfl rfl) (xx hr) .IsNot) (yu .IsNot) (av 1) aZ (yH _)) (zu znh) yP))
theorem zed (T : Txt K kd mg t) (hkd : KD1 P w K kd) : FnOk P w K mg base CX0 1 t.zbO t.zck ["algebra", "entries", "p", "q"] (spD K kd vU) := by
 refine wK (N := zeJ) (ps := ["algebra", "entries", "p", "q"]) (k := 0) (c := zdO) T.zcg V6 λ cdv A outer s H E hr => ?_
 exact (by
  refine zg ?_ ?_; exact (by refine sv true 4 V6.nd ?_; exact (ax hkd (av 1) (av 2)))
  refine zg ?_ ?_; exact (by refine sv true 5 V6.nd ?_; exact (ax hkd (av 1) (av 3)))
  exact zu (yh (xZ (by refine zq ?_ ?_ ?_; exact (ax hkd (ax hkd (ax hkd (av 0) aI) (ax hkd (av 4) aI)) (ax hkd (av 5) aI)); refine zq ?_ ?_ ?_; exact (zj (zm .Mod) (zj (zm .Add) (ax hkd (av 4) aI) (ax hkd (av 5) aI)) (ax hkd (av 0) aI)); refine zq ?_ ?_ ?_; exact (xZ (by refine zq ?_ ?_ ?_; exact aS; refine zq ?_ ?_ ?_; exact (av 2); refine zq ?_ ?_ ?_; exact (av 3); exact zQ; exact za rfl; exact za rfl; exact za rfl)); exact zQ; exact za rfl; exact za rfl; exact za rfl))))
theorem zeI (T : Txt K kd mg t) (hkd : KD1 P w K kd) : FnOk P w K mg base CX0 2 t.Wd t.X7 ["algebra", "entries", "at"] (spD K kd wM) := by
 refine wK (N := Xp) (ps := ["algebra", "entries", "at"]) (k := 1) (c := zaE) T.zaG vM λ cdv A outer s H E hr => ?_
 exact (by
  refine zg ?_ ?_; exact (by refine sv true 3 vM.nd ?_; exact (ax hkd (ax hkd (av 1) (av 2)) aI))
  refine zg ?_ ?_; exact (by refine sv true 4 vM.nd ?_; exact (ax hkd (ax hkd (av 1) (av 2)) aI))
  refine zg ?_ ?_; exact (V2 (z := false) (i := 5) (N := ["name", "rows", "c", "value", "at"]) (cap := [none, none, some 4, some 3, some 2]) (S := [0, 1]) vM.nd rfl (by exact Or.inl rfl) (by exact Or.inr rfl) rfl rfl (zaq (ax hkd (av 0) aI)) rfl (by change Zy _ Xp _ (zF Zh).names _ = true; decide +kernel) (by decide) (λ cl s H fp => (zby rfl (xU (an 0 Wh) (xU (an 1 Wh) Vo rfl) rfl) rfl rfl)) (λ cl s H fp => vB) (λ cl s H fp => (xZ (by refine zq ?_ ?_ ?_; exact (ax hkd (ax hkd (av 1) (av 2)) (av 3)); refine zq ?_ ?_ ?_; exact (av 2); refine zq ?_ ?_ ?_; exact (xZ (by refine zq ?_ ?_ ?_; exact aS; refine zq ?_ ?_ ?_; exact (av 0); refine zq ?_ ?_ ?_; exact (av 4); exact zQ; exact za rfl; exact za rfl; exact za rfl)); exact zQ; exact za rfl; exact za rfl; exact za rfl))) (λ _ => rfl))
  refine zg ?_ ?_; exact (yI PassesOwn.never rfl (z7 rfl T.z9 (zc (zj (zm .Add) (av 2) aI) zy (za rfl)) rfl) (an 6 vM.nd) (zu (vX (Zu zgS zmN PySem.F.slot_list_extend PySem.F.type_list_extend (pv 5) (by refine zq ?_ ?_ ?_; exact (xO (zq (zT (zed T hkd) (hr.mono (by omega)) rfl T.vU T.zcg.kp T.zet yo (by refine zc ?_ ?_ ?_; exact (av 0); refine zc ?_ ?_ ?_; exact (av 1); refine zc ?_ ?_ ?_; exact (av 6); refine zc ?_ ?_ ?_; exact (av 2); exact zy; exact za rfl; exact za rfl; exact za rfl; exact za rfl) (by decide) rfl rfl) (zq (zT (zed T hkd) (hr.mono (by omega)) rfl T.vU T.zcg.kp T.zet yo (by refine zc ?_ ?_ ?_; exact (av 0); refine zc ?_ ?_ ?_; exact (av 1); refine zc ?_ ?_ ?_; exact (av 2); refine zc ?_ ?_ ?_; exact (av 6); exact zy; exact za rfl; exact za rfl; exact za rfl; exact za rfl) (by decide) rfl rfl) zQ (za rfl)) (za rfl))); exact zQ; exact za rfl) rfl rfl rfl rfl rfl) rfl)) (λ _ => rfl))
  exact zu (yh (av 5)))
theorem W3 (T : Txt K kd mg t) (hkd : KD1 P w K kd) : FnOk P w K mg base CX0 1 t.Vd t.Ve ["entries", "known", "found"] (spM K kd yU) := by
 refine zlH (N := zbw) (ps := ["entries", "known", "found"]) (k := 0) (c := W9) T.Y4 We rfl (by decide) λ cdv A outer s H E hr => ?_
 exact (zds (zmZ (by decide) PassesOwn.never rfl (zbU (av 2)) (an 3 We.nd) (by
  refine zdQ ?_ ?_; exact (by refine svP true 4 (by decide) We.nd ?_; exact (xZ (zq (ax hkd (av 3) aI) (zq (ax hkd (av 3) aI) zQ (za rfl)) (za rfl))))
  exact zds (znC (yQ (yD (hkd _ rfl rfl rfl) (xx hr) .NotIn) (yu .NotIn) (av 4) (av 1) rfl) (by
  refine zdQ ?_ ?_; exact (zjW (zkY hr) (pv 1) (av 4) aB rfl)
  exact zds (zjS (Zu wB Yo PySem.F.slot_list_append PySem.F.type_list_append (pv 0) (zq (av 3) zQ (za rfl)) rfl rfl rfl rfl rfl) rfl)) zjI)) (λ _ => rfl)))
theorem zhI (T : Txt K kd mg t) (hkd : KD1 P w K kd) : FnOk P w K mg base CX0 5 t.zbA t.zbJ ["algebra", "row"] (spD K kd XQ) := by
 refine wK (N := zbq) (ps := ["algebra", "row"]) (k := 4) (c := zeG) T.zdU Yv λ cdv A outer s H E hr => ?_
 exact (by
  refine zg ?_ ?_; exact (vX (zT (zbP T hkd) (hr.mono (by omega)) rfl T.xg T.Xo.kp T.zce yo (zc (av 0) zy (za rfl)) (by decide) rfl rfl) rfl)
  refine zg ?_ ?_; exact (by refine sv false 2 Yv.nd ?_; exact (xO zQ))
  refine zg ?_ ?_; exact (by refine sv false 3 Yv.nd ?_; exact zji)
  refine zg ?_ ?_; exact (zbp (W3 T hkd) (hr.mono (by omega)) rfl T.yU T.Y4.kp T.Vc yo (by decide) (pv 2) (pv 3) (xO (by refine zq ?_ ?_ ?_; exact (xZ (by refine zq ?_ ?_ ?_; exact (ax hkd (av 0) aI); refine zq ?_ ?_ ?_; exact aI; refine zq ?_ ?_ ?_; exact (xZ (zq aS zQ (za rfl))); exact zQ; exact za rfl; exact za rfl; exact za rfl)); exact zQ; exact za rfl)) (by decide) (za rfl) (za rfl) (za rfl) rfl rfl)
  refine zg ?_ ?_; exact (zbp (W3 T hkd) (hr.mono (by omega)) rfl T.yU T.Y4.kp T.Vc yo (by decide) (pv 2) (pv 3) (Z6 (N := ["value", "algebra"]) (cap := [none, some 0]) (S := [0]) rfl (zaq (av 1)) rfl (by change Zy _ zbq _ (zF X4).names _ = true; decide +kernel) (by decide) (λ cl s H fp => (an 0 zeT)) (λ cl s H fp => vB) (λ cl s H fp => (xZ (by refine zq ?_ ?_ ?_; exact (av 0); refine zq ?_ ?_ ?_; exact (zj (zm .Mod) aI (ax hkd (av 1) aI)); refine zq ?_ ?_ ?_; exact (xZ (zq aS (zq (av 0) zQ (za rfl)) (za rfl))); exact zQ; exact za rfl; exact za rfl; exact za rfl))) (λ _ => rfl)) (by decide) (za rfl) (za rfl) (za rfl) rfl rfl)
  refine zg ?_ ?_; exact (by refine sv true 4 Yv.nd ?_; exact aI)
  refine zg ?_ ?_; exact (zep (n := 10000) PassesOwn.never (yQ (yD (hkd _ rfl rfl rfl) (xx hr) .Lt) (yu .Lt) (av 4) (ZR (wN (hkd _ rfl rfl rfl)) rfl T.Vx Bt.len (zc (av 2) zy (za rfl)) (Bt.n _ rfl) (by decide) rfl rfl) (yH _)) (by
  refine zg ?_ ?_; exact (zbp (W3 T hkd) (hr.mono (by omega)) rfl T.yU T.Y4.kp T.Vc yo (by decide) (pv 2) (pv 3) (zT (zeI T hkd) (hr.mono (by omega)) rfl T.wM T.zaG.kp T.zdW yo (by refine zc ?_ ?_ ?_; exact (av 0); refine zc ?_ ?_ ?_; exact (av 2); refine zc ?_ ?_ ?_; exact (av 4); exact zy; exact za rfl; exact za rfl; exact za rfl) (by decide) rfl rfl) (by decide) (za rfl) (za rfl) (za rfl) rfl rfl)
  exact zu (zmg (i := 4) Yv.nd rfl (.inl rfl) (by first | exact Or.inl rfl | exact Or.inr rfl))))
  exact zu (yh (av 2)))
theorem yG (T : Txt K kd mg t) (hkd : KD1 P w K kd) : FnOk P w K mg base CX0 1 t.Ym t.Ye ["_law_script", "_law_k"] (spD K kd zA) := by
 refine wK (N := WX) (ps := ["_law_script", "_law_k"]) (k := 0) (c := WM) T.yr zbt λ cdv A outer s H E hr => ?_
 exact (by
  refine zg ?_ ?_; exact (vh (yQ (yD (hkd _ rfl rfl rfl) (xx hr) .Lt) (yu .Lt) (av 1) (ZR (wN (hkd _ rfl rfl rfl)) rfl T.Vx Bt.len (zc (av 0) zy (za rfl)) (Bt.n _ rfl) (by decide) rfl rfl) (yH _)) (zu (yh (ax hkd (av 0) (av 1)))) yP)
  exact zu (yh aI))
theorem Zf (T : Txt K kd mg t) (hkd : KD1 P w K kd) : FnOk P w K mg base CX0 1 t.Xw t.XS ["_law_cell", "_law_k"] (spD K kd zV) := by
 refine wK (N := zaH) (ps := ["_law_cell", "_law_k"]) (k := 0) (c := zaS) T.vH VL λ cdv A outer s H E hr => ?_
 exact (by
  refine zg ?_ ?_; exact (by refine sv true 2 VL.nd ?_; exact (zj (zm .Mod) (zj (zm .Add) (zj (zm .Add) (zj (zm .Mult) (zj (zm .Mod) (av 0) aI) aI) (zj (zm .Mult) (zj (zm .Mult) (av 1) (av 1)) aI)) aI) aI))
  exact zu (yh (zj (zm .Mod) (zj (zm .Add) (zj (zm .Add) (zj (zm .Mult) (av 2) (av 2)) (zj (zm .Mult) aI (av 2))) (av 1)) aI)))
theorem zdS (T : Txt K kd mg t) (hkd : KD1 P w K kd) : FnOk P w K mg base CX0 2 t.Wb t.Xy ["_law_cell", "_law_many"] (spD K kd vI) := by
 refine wK (N := X8) (ps := ["_law_cell", "_law_many"]) (k := 1) (c := zaD) T.zaM wg λ cdv A outer s H E hr => ?_
 exact (by
  refine zg ?_ ?_; exact (by refine sv true 2 wg.nd ?_; exact aS)
  refine zg ?_ ?_; exact (by refine sv true 3 wg.nd ?_; exact (zj (zm .Add) aI (zj (zm .Mod) (av 0) aI)))
  refine zg ?_ ?_; exact (by refine sv true 4 wg.nd ?_; exact (zj (zm .Mod) (zj (zm .FloorDiv) (av 0) aI) (av 3)))
  refine zg ?_ ?_; exact (by refine sv false 5 wg.nd ?_; exact (xO zQ))
  refine zg ?_ ?_; exact (yI PassesOwn.never rfl (z7 rfl T.z9 (zc (av 1) zy (za rfl)) rfl) (an 6 wg.nd) (by
  refine zg ?_ ?_; exact (V2 (z := true) (i := 7) (N := ["_law_j", "_law_letters", "_law_k", "_law_cell", "_law_at"]) (cap := [none, some 2, some 6, some 0, some 4]) (S := [0]) wg.nd rfl (by exact Or.inl rfl) (by exact Or.inr rfl) rfl rfl (v6 rfl T.z9 (zc (av 3) zy (za rfl)) rfl) rfl (by change Zy _ X8 _ (zF Zg).names _ = true; decide +kernel) (by decide) (λ cl s H fp => (an 0 zcb)) (λ cl s H fp => vB) (λ cl s H fp => (ax hkd (av 1) (zj (zm .Mod) (zj (zm .Add) (zj (zm .FloorDiv) (zT (Zf T hkd) (hr.mono (by omega)) rfl T.zV T.vH.kp T.Zd yo (zc (av 3) (zc (av 0) zy (za rfl)) (za rfl)) (by decide) rfl rfl) aI) (zj (zm .Mult) (av 2) (V9 Z3 rfl T.zee Bt.int (zc (zbE (yD (hkd _ rfl rfl rfl) (xx hr) .Eq) (av 0) (av 4) (yH _)) zy (za rfl)) (Bt.n _ rfl) (by decide) rfl rfl))) aI))) (λ _ => rfl))
  exact zu (vX (Zu wB Yo PySem.F.slot_list_append PySem.F.type_list_append (pv 5) (zq (zkM (ty := .str) (hkd _ rfl rfl rfl) zjD PySem.F.plainAttrs_str PySem.F.slot_str_join PySem.F.type_str_join aS (zc (av 7) zy (za rfl)) rfl rfl rfl rfl rfl) zQ (za rfl)) rfl rfl rfl rfl rfl) rfl)) (λ _ => rfl))
  exact zu (yh (av 5)))
theorem zdo (T : Txt K kd mg t) (hkd : KD1 P w K kd) : FnOk P w K mg base CX0 1 t.YM t.Xb ["_law_n", "_law_m"] (spD K kd wQ) := by
 refine wK (N := V5) (ps := ["_law_n", "_law_m"]) (k := 0) (c := V1) T.Vf WK λ cdv A outer s H E hr => ?_
 exact (by
  refine zg ?_ ?_; exact (zep (n := 10000) PassesOwn.never (yQ (yD (hkd _ rfl rfl rfl) (xx hr) .Gt) (yu .Gt) (av 1) aI (yH _)) (zu (zmH (i := 0) (j := 1) rfl WK.nd rfl rfl (by decide) rfl rfl (zq (av 1) (zq (zj (zm .Mod) (av 0) (av 1)) zQ (za rfl)) (za rfl)) rfl rfl)))
  exact zu (yh (av 0)))
theorem Xk (T : Txt K kd mg t) (hkd : KD1 P w K kd) : FnOk P w K mg base CX0 1 t.Zk t.Zq ["_law_kind", "_law_n", "_law_a", "_law_b"] (spD K kd zO) := by
 refine wK (N := Xm) (ps := ["_law_kind", "_law_n", "_law_a", "_law_b"]) (k := 0) (c := Xh) T.Zv Yq λ cdv A outer s H E hr => ?_
 exact (by
  refine zg ?_ ?_; exact (vh (yQ (yD (hkd _ rfl rfl rfl) (xx hr) .Eq) (yu .Eq) (av 0) aI (yH _)) (zu (yh (zj (zm .Mod) (zj (zm .Add) (av 2) (av 3)) (av 1)))) yP)
  refine zg ?_ ?_; exact (vh (yQ (yD (hkd _ rfl rfl rfl) (xx hr) .Eq) (yu .Eq) (av 0) aI (yH _)) (zu (yh (ZR (zhk rfl) rfl T.znr Bt.max (zc (av 2) (zc (av 3) zy (za rfl)) (za rfl)) (Bt.n _ rfl) (by decide) rfl rfl))) yP)
  refine zg ?_ ?_; exact (vh (yQ (yD (hkd _ rfl rfl rfl) (xx hr) .Eq) (yu .Eq) (av 0) aI (yH _)) (zu (yh (ax hkd (xO (zq (av 3) (zq (av 2) zQ (za rfl)) (za rfl))) (V9 Z3 rfl T.zee Bt.int (zc (zbE (yD (hkd _ rfl rfl rfl) (xx hr) .Eq) (av 3) aI (yH _)) zy (za rfl)) (Bt.n _ rfl) (by decide) rfl rfl)))) yP)
  refine zg ?_ ?_; exact (by refine sv true 4 Yq.nd ?_; exact (xO (zq (zj (zm .FloorDiv) (av 3) aI) (zq (zj (zm .Mod) (av 3) aI) zQ (za rfl)) (za rfl))))
  exact zu (yh (zj (zm .Add) (zj (zm .Mult) aI (ax hkd (av 4) (zj (zm .FloorDiv) (av 2) aI))) (ax hkd (av 4) (zj (zm .Mod) (av 2) aI)))))
theorem zdi (T : Txt K kd mg t) (hkd : KD1 P w K kd) : FnOk P w K mg base CX0 1 t.YT t.YK ["_law_kind", "_law_n", "_law_x"] (spD K kd vL) := by
 refine wK (N := YW) (ps := ["_law_kind", "_law_n", "_law_x"]) (k := 0) (c := Vz) T.Vq vd λ cdv A outer s H E hr => ?_
 exact (by
  refine zg ?_ ?_; exact (vh (yQ (yD (hkd _ rfl rfl rfl) (xx hr) .Eq) (yu .Eq) (av 0) aI (yH _)) (zu (yh (Z6 (N := ["_law_a", "_law_x"]) (cap := [none, some 2]) (S := [0]) rfl (v6 rfl T.z9 (zc (av 1) zy (za rfl)) rfl) rfl (by change Zy _ YW _ (zF vV).names _ = true; decide +kernel) (by decide) (λ cl s H fp => (an 0 zaX)) (λ cl s H fp => vB) (λ cl s H fp => (ax hkd (xO (zq (av 0) (zq (zj (zm .Sub) (zj (zm .Add) (zj (zm .Mult) aI (zj (zm .Sub) aI (zj (zm .Mod) (av 0) aI))) aI) (zj (zm .FloorDiv) (av 0) aI)) zQ (za rfl)) (za rfl))) (zj (zm .Mod) (av 1) aI))) (λ _ => rfl)))) yP)
  refine zg ?_ ?_; exact (by refine sv false 3 vd.nd ?_; exact (xO zQ))
  refine zg ?_ ?_; exact (yI PassesOwn.never rfl (zhv rfl T.z9 (zc aI (zc (av 1) zy (za rfl)) (za rfl)) rfl rfl) (an 4 vd.nd) (by
  refine zg ?_ ?_; exact (by refine sv true 2 vd.nd ?_; exact (zj (zm .FloorDiv) (av 2) (av 1)))
  exact zu (vX (Zu wB Yo PySem.F.slot_list_append PySem.F.type_list_append (pv 3) (zq (ax hkd (xO (zq (zj (zm .Mod) (av 2) (av 1)) (zq (zj (zm .Add) aI (zj (zm .Mod) (av 2) (zj (zm .Sub) (av 1) aI))) zQ (za rfl)) (za rfl))) (zj (zm .Sub) (av 0) aI)) zQ (za rfl)) rfl rfl rfl rfl rfl) rfl)) (λ _ => rfl))
  refine zg ?_ ?_; exact (vh (yQ (yD (hkd _ rfl rfl rfl) (xx hr) .Eq) (yu .Eq) (av 0) aI (yH _)) (zu (by refine sv false 3 vd.nd ?_; exact (ZR zfb rfl T.zhJ Bt.sorted (zc (av 3) zy (za rfl)) (Bt.n _ rfl) (by decide) rfl rfl))) yP)
  exact zu (yh (zj (zm .Add) (xO (zq aI zQ (za rfl))) (av 3))))
theorem WN (T : Txt K kd mg t) (hkd : KD1 P w K kd) : FnOk P w K mg base CX0 2 t.Yk t.Yd ["_law_kind", "_law_n", "_law_m", "_law_x"] (spD K kd yK) := by
 refine wK (N := Zb) (ps := ["_law_kind", "_law_n", "_law_m", "_law_x"]) (k := 1) (c := WY) T.Yp ZQ λ cdv A outer s H E hr => ?_
 exact (by
  refine zg ?_ ?_; exact (vh (yQ (yD (hkd _ rfl rfl rfl) (xx hr) .Gt) (yu .Gt) (av 0) aI (yH _)) (by
  refine zg ?_ ?_; exact (by refine sv true 4 ZQ.nd ?_; exact (zT (zdi T hkd) (hr.mono (by omega)) rfl T.vL T.Vq.kp T.zcZ yo (by refine zc ?_ ?_ ?_; exact (av 0); refine zc ?_ ?_ ?_; exact (av 1); refine zc ?_ ?_ ?_; exact (av 3); exact zy; exact za rfl; exact za rfl; exact za rfl) (by decide) rfl rfl))
  exact zu (yh (Z6 (N := ["_law_c", "_law_images_here"]) (cap := [none, some 4]) (S := [0]) rfl (v6 rfl T.z9 (zc (av 2) zy (za rfl)) rfl) rfl (by change Zy _ Zb _ (zF wC).names _ = true; decide +kernel) (by decide) (λ cl s H fp => (an 0 zav)) (λ cl s H fp => vB) (λ cl s H fp => (V9 zgU rfl T.zhD Bt.list (zc (av 1) zy (za rfl)) (Bt.n _ rfl) (by decide) rfl rfl)) (λ _ => rfl)))) yP)
  refine zg ?_ ?_; exact (by refine sv true 5 ZQ.nd ?_; exact (zj (zm .Mult) (zj (zm .FloorDiv) (av 1) (zT (zdo T hkd) (hr.mono (by omega)) rfl T.wQ T.Vf.kp T.zdM yo (zc (av 1) (zc (av 2) zy (za rfl)) (za rfl)) (by decide) rfl rfl)) (zj (zm .Mod) (zj (zm .FloorDiv) (av 3) aI) aI)))
  exact zu (yh (Z6 (N := ["_law_c", "_law_n", "_law_step", "_law_x"]) (cap := [none, some 1, some 5, some 3]) (S := [0]) rfl (v6 rfl T.z9 (zc (av 2) zy (za rfl)) rfl) rfl (by change Zy _ Zb _ (zF wC).names _ = true; decide +kernel) (by decide) (λ cl s H fp => (an 0 zai)) (λ cl s H fp => vB) (λ cl s H fp => (Z6 (N := ["_law_a", "_law_n", "_law_step", "_law_c", "_law_x"]) (cap := [none, some 1, some 2, some 0, some 3]) (S := [0]) rfl (v6 rfl T.z9 (zc (av 1) zy (za rfl)) rfl) rfl (by with_unfolding_all rfl) (by decide) (λ cl s H fp => (an 0 zao)) (λ cl s H fp => vB) (λ cl s H fp => (zj (zm .Mod) (zj (zm .Add) (zj (zm .Mult) (zj (zm .Mod) (av 4) aI) (av 0)) (zj (zm .Mult) (av 2) (av 3))) (av 1))) (λ _ => rfl))) (λ _ => rfl))))
theorem zdV (T : Txt K kd mg t) (hkd : KD1 P w K kd) : FnOk P w K mg base CX0 1 t.Xv t.XM ["_law_x"] (spD K kd vG) := by
 refine wK (N := zaL) (ps := ["_law_x"]) (k := 0) (c := zaN) T.zaJ wO λ cdv A outer s H E hr => ?_
 exact (by
  refine zg ?_ ?_; exact (by refine sv true 1 wO.nd ?_; exact (zj (zm .Mod) (av 0) aI))
  refine zg ?_ ?_; exact (by refine sv true 2 wO.nd ?_; exact (ax hkd (xO (zq (zj (zm .Add) aI (zj (zm .Mod) (zj (zm .FloorDiv) (av 0) aI) aI)) (zq (zj (zm .Add) aI (zj (zm .Mod) (zj (zm .FloorDiv) (av 0) aI) aI)) zQ (za rfl)) (za rfl))) (V9 Z3 rfl T.zee Bt.int (zc (zbE (yD (hkd _ rfl rfl rfl) (xx hr) .Eq) (zj (zm .Mod) (zj (zm .FloorDiv) (av 0) aI) aI) aI (yH _)) zy (za rfl)) (Bt.n _ rfl) (by decide) rfl rfl)))
  refine zg ?_ ?_; exact (vh (yQ (yD (hkd _ rfl rfl rfl) (xx hr) .Eq) (yu .Eq) (av 1) aI (yH _)) (zu (by refine sv true 2 wO.nd ?_; exact aI)) yP)
  refine zg ?_ ?_; exact (by refine sv true 3 wO.nd ?_; exact (zj (zm .Add) aI (zj (zm .Mod) (zj (zm .FloorDiv) (av 0) aI) aI)))
  refine zg ?_ ?_; exact (vh (yQ (yD (hkd _ rfl rfl rfl) (xx hr) .Gt) (yu .Gt) (zj (zm .Mult) (av 2) (av 3)) aI (yH _)) (zu (by refine sv true 3 wO.nd ?_; exact aI)) yP)
  exact zu (yh (xZ (by refine zq ?_ ?_ ?_; exact (av 1); refine zq ?_ ?_ ?_; exact (av 2); refine zq ?_ ?_ ?_; exact (zj (zm .Mod) (zj (zm .FloorDiv) (av 0) aI) aI); refine zq ?_ ?_ ?_; exact (av 3); exact zQ; exact za rfl; exact za rfl; exact za rfl; exact za rfl))))
theorem Vp (T : Txt K kd mg t) (hkd : KD1 P w K kd) : FnOk P w K mg base CX0 2 t.Y6 t.YZ ["_law_cell", "_law_many"] (spD K kd yJ) := by
 refine wK (N := Vy) (ps := ["_law_cell", "_law_many"]) (k := 1) (c := Vv) T.YH wY λ cdv A outer s H E hr => ?_
 exact (by
  refine zg ?_ ?_; exact (by refine sv false 2 wY.nd ?_; exact (xO zQ))
  refine zg ?_ ?_; exact (by refine sv true 3 wY.nd ?_; exact (zj (zm .FloorDiv) (av 0) aI))
  refine zg ?_ ?_; exact (yI PassesOwn.never rfl (z7 rfl T.z9 (zc (av 1) zy (za rfl)) rfl) (an 4 wY.nd) (zu (vh (yQ (yD (hkd _ rfl rfl rfl) (xx hr) .Eq) (yu .Eq) (zj (zm .Mod) (av 0) aI) aI (yH _)) (by
  refine zg ?_ ?_; exact (vX (Zu wB Yo PySem.F.slot_list_append PySem.F.type_list_append (pv 2) (zq (zj (zm .Mod) (av 3) aI) zQ (za rfl)) rfl rfl rfl rfl rfl) rfl)
  exact zu (by refine sv true 3 wY.nd ?_; exact (zj (zm .FloorDiv) (av 3) aI))) (zu (vX (Zu wB Yo PySem.F.slot_list_append PySem.F.type_list_append (pv 2) (zq (zT (Zf T hkd) (hr.mono (by omega)) rfl T.zV T.vH.kp T.Zd yo (zc (av 3) (zc (av 4) zy (za rfl)) (za rfl)) (by decide) rfl rfl) zQ (za rfl)) rfl rfl rfl rfl rfl) rfl)))) (λ _ => rfl))
  exact zu (yh (av 2)))
theorem zcr (T : Txt K kd mg t) (hkd : KD1 P w K kd) : FnOk P w K mg base CX0 3 t.Yl t.Z9 ["_law_cell", "_law_head", "_law_many"] (spD K kd wX) := by
 refine wK (N := wW) (ps := ["_law_cell", "_law_head", "_law_many"]) (k := 2) (c := Yc) T.WW zr λ cdv A outer s H E hr => ?_
 exact (by
  refine zg ?_ ?_; exact (by refine sv true 3 zr.nd ?_; exact (zT (Vp T hkd) (hr.mono (by omega)) rfl T.yJ T.YH.kp T.VH yo (zc (av 0) (zc (zj (zm .Add) aI (zj (zm .Mult) aI (av 2))) zy (za rfl)) (za rfl)) (by decide) rfl rfl))
  refine zg ?_ ?_; exact (by refine sv true 4 zr.nd ?_; exact (zT (Vp T hkd) (hr.mono (by omega)) rfl T.yJ T.YH.kp T.VH yo (zc (av 1) (zc aI zy (za rfl)) (za rfl)) (by decide) rfl rfl))
  refine zg ?_ ?_; exact (ziL (zT (zdV T hkd) (hr.mono (by omega)) rfl T.vG T.zaJ.kp T.zez yo (zc (ax hkd (av 3) aI) zy (za rfl)) (by decide) rfl rfl) (zby rfl (xU (an 5 zr.nd) (xU (an 6 zr.nd) (xU (an 7 zr.nd) (xU (an 8 zr.nd) Vo rfl) rfl) rfl) rfl) rfl rfl) rfl rfl rfl)
  refine zg ?_ ?_; exact (by refine sv true 9 zr.nd ?_; exact (zj (zm .Add) (zj (zm .Add) aI (zj (zm .Mod) (ax hkd (av 4) aI) aI)) (zj (zm .Mult) aI (V9 Z3 rfl T.zee Bt.int (zc (zbE (yD (hkd _ rfl rfl rfl) (xx hr) .Eq) (zj (zm .Mod) (zj (zm .FloorDiv) (ax hkd (av 4) aI) aI) aI) aI (yH _)) zy (za rfl)) (Bt.n _ rfl) (by decide) rfl rfl))))
  refine zg ?_ ?_; exact (by refine sv true 10 zr.nd ?_; exact (zj (zm .Mult) (av 6) (av 8)))
  refine zg ?_ ?_; exact (by refine sv false 11 zr.nd ?_; exact (zhl rfl rfl T.z9 rfl T.zhD (zc (av 10) zy (za rfl)) rfl rfl))
  refine zg ?_ ?_; exact (by refine sv false 12 zr.nd ?_; exact (xO zQ))
  refine zg ?_ ?_; exact (yI PassesOwn.never rfl (z7 rfl T.z9 (zc (av 10) zy (za rfl)) rfl) (an 13 zr.nd) (zu (vX (Zu wB Yo PySem.F.slot_list_append PySem.F.type_list_append (pv 12) (zq (Zu zit zib PySem.F.slot_list_pop PySem.F.type_list_pop (pv 11) (zq (zj (zm .Mod) (ax hkd (av 4) (zj (zm .Add) aI (av 13))) (ZR (wN (hkd _ rfl rfl rfl)) rfl T.Vx Bt.len (zc (av 11) zy (za rfl)) (Bt.n _ rfl) (by decide) rfl rfl)) zQ (za rfl)) rfl rfl rfl rfl rfl) zQ (za rfl)) rfl rfl rfl rfl rfl) rfl)) (λ _ => rfl))
  refine zgr ?_
  refine zg ?_ ?_; exact (V2 (z := false) (i := 14) (N := ["_law_a", "_law_order"]) (cap := [none, some 12]) (S := [0]) zr.nd rfl (by exact Or.inl rfl) (by exact Or.inr rfl) rfl rfl (zaq (av 12)) rfl (by change Zy _ wW _ (zF xM).names _ = true; decide +kernel) (by decide) (λ cl s H fp => (an 0 V8)) (λ cl s H fp => vB) (λ cl s H fp => (Z6 (N := ["_law_b"]) (cap := [none]) (S := [0]) rfl (zaq (av 1)) rfl (by with_unfolding_all rfl) (by decide) (λ cl s H fp => (an 0 zaj)) (λ cl s H fp => vB) (λ cl s H fp => aI) (λ _ => rfl))) (λ _ => rfl))
  refine zg ?_ ?_; exact (yI PassesOwn.never rfl (z7 rfl T.z9 (zc (av 10) zy (za rfl)) rfl) (an 15 zr.nd) (zu (yI PassesOwn.never rfl (z7 rfl T.z9 (zc (av 10) zy (za rfl)) rfl) (an 16 zr.nd) (by
  refine zg ?_ ?_; exact (by refine sv true 17 zr.nd ?_; exact (zj (zm .Mult) (zT (Xk T hkd) (hr.mono (by omega)) rfl T.zO T.Zv.kp T.Xl yo (by refine zc ?_ ?_ ?_; exact (av 5); refine zc ?_ ?_ ?_; exact (av 6); refine zc ?_ ?_ ?_; exact (zj (zm .FloorDiv) (av 15) (av 8)); refine zc ?_ ?_ ?_; exact (zj (zm .FloorDiv) (av 16) (av 8)); exact zy; exact za rfl; exact za rfl; exact za rfl; exact za rfl) (by decide) rfl rfl) (av 8)))
  refine zg ?_ ?_; exact (by refine sv true 17 zr.nd ?_; exact (zj (zm .Add) (av 17) (zT (Xk T hkd) (hr.mono (by omega)) rfl T.zO T.Zv.kp T.Xl yo (by refine zc ?_ ?_ ?_; exact (av 7); refine zc ?_ ?_ ?_; exact (av 8); refine zc ?_ ?_ ?_; exact (zj (zm .Mod) (av 15) (av 8)); refine zc ?_ ?_ ?_; exact (zj (zm .Mod) (av 16) (av 8)); exact zy; exact za rfl; exact za rfl; exact za rfl; exact za rfl) (by decide) rfl rfl)))
  exact zu (zgg (pv 14) (zdT (pv 12) (zaA (pv 15)) (λ _ _ => rfl)) (λ _ _ => rfl) (zdT (pv 12) (zaA (pv 16)) (λ _ _ => rfl)) (zdT (pv 12) (zaA (pv 17)) (λ _ _ => rfl)) (λ _ => rfl) rfl rfl rfl)) (λ _ => rfl))) (λ _ => rfl))
  refine zg ?_ ?_; exact (by refine sv true 18 zr.nd ?_; exact (zT (zdS T hkd) (hr.mono (by omega)) rfl T.vI T.zaM.kp T.zdR yo (zc (zj (zm .FloorDiv) (av 1) aI) (zc aI zy (za rfl)) (za rfl)) (by decide) rfl rfl))
  refine zg ?_ ?_; exact (by refine sv false 19 zr.nd ?_; exact (xO zQ))
  refine zg ?_ ?_; exact (yI PassesOwn.never rfl (z7 rfl T.z9 (zc (av 2) zy (za rfl)) rfl) (an 13 zr.nd) (by
  refine zg ?_ ?_; exact (by refine sv true 20 zr.nd ?_; exact (zT (WN T hkd) (hr.mono (by omega)) rfl T.yK T.Yp.kp T.WF yo (by refine zc ?_ ?_ ?_; exact (av 5); refine zc ?_ ?_ ?_; exact (av 6); refine zc ?_ ?_ ?_; exact (av 9); refine zc ?_ ?_ ?_; exact (ax hkd (av 3) (zj (zm .Add) aI (zj (zm .Mult) aI (av 13)))); exact zy; exact za rfl; exact za rfl; exact za rfl; exact za rfl) (by decide) rfl rfl))
  refine zg ?_ ?_; exact (by refine sv true 21 zr.nd ?_; exact (zT (WN T hkd) (hr.mono (by omega)) rfl T.yK T.Yp.kp T.WF yo (by refine zc ?_ ?_ ?_; exact (av 7); refine zc ?_ ?_ ?_; exact (av 8); refine zc ?_ ?_ ?_; exact (av 9); refine zc ?_ ?_ ?_; exact (ax hkd (av 3) (zj (zm .Add) aI (zj (zm .Mult) aI (av 13)))); exact zy; exact za rfl; exact za rfl; exact za rfl; exact za rfl) (by decide) rfl rfl))
  refine zg ?_ ?_; exact (V2 (z := false) (i := 22) (N := ["_law_c", "_law_order"]) (cap := [none, some 12]) (S := [0]) zr.nd rfl (by exact Or.inl rfl) (by exact Or.inr rfl) rfl rfl (v6 rfl T.z9 (zc (av 9) zy (za rfl)) rfl) rfl (by change Zy _ wW _ (zF xM).names _ = true; decide +kernel) (by decide) (λ cl s H fp => (an 0 zaC)) (λ cl s H fp => vB) (λ cl s H fp => (Z6 (N := ["_law_a"]) (cap := [none]) (S := [0]) rfl (zaq (av 1)) rfl (by with_unfolding_all rfl) (by decide) (λ cl s H fp => (an 0 zau)) (λ cl s H fp => vB) (λ cl s H fp => aI) (λ _ => rfl))) (λ _ => rfl))
  refine zg ?_ ?_; exact (yI PassesOwn.never rfl (z7 rfl T.z9 (zc (av 9) zy (za rfl)) rfl) (an 23 zr.nd) (zu (yI PassesOwn.never rfl (z7 rfl T.z9 (zc (av 10) zy (za rfl)) rfl) (an 15 zr.nd) (by
  refine zg ?_ ?_; exact (by refine sv true 17 zr.nd ?_; exact (ax hkd (ax hkd (av 20) (av 23)) (zj (zm .FloorDiv) (av 15) (av 8))))
  refine zg ?_ ?_; exact (by refine sv true 17 zr.nd ?_; exact (zj (zm .Add) (zj (zm .Mult) (av 17) (av 8)) (ax hkd (ax hkd (av 21) (av 23)) (zj (zm .Mod) (av 15) (av 8)))))
  exact zu (zgg (pv 22) (zaA (pv 23)) (λ _ _ => rfl) (zdT (pv 12) (zaA (pv 15)) (λ _ _ => rfl)) (zdT (pv 12) (zaA (pv 17)) (λ _ _ => rfl)) (λ _ => rfl) rfl rfl rfl)) (λ _ => rfl))) (λ _ => rfl))
  exact zu (vX (Zu wB Yo PySem.F.slot_list_append PySem.F.type_list_append (pv 19) (by refine zq ?_ ?_ ?_; exact (xZ (zq (ax hkd (av 18) (av 13)) (zq (av 22) zQ (za rfl)) (za rfl))); exact zQ; exact za rfl) rfl rfl rfl rfl rfl) rfl)) (λ _ => rfl))
  refine zg ?_ ?_; exact (by refine sv false 24 zr.nd ?_; exact (xO zQ))
  refine zg ?_ ?_; exact (yI PassesOwn.never rfl (z7 rfl T.z9 (zc aI zy (za rfl)) rfl) (an 13 zr.nd) (by
  refine zg ?_ ?_; exact (by refine sv true 25 zr.nd ?_; exact (ax hkd (av 4) (zj (zm .Add) aI (av 13))))
  refine zg ?_ ?_; exact (V2 (z := true) (i := 26) (N := ["_law_a", "_law_bits"]) (cap := [none, some 25]) (S := [0]) zr.nd rfl (by exact Or.inl rfl) (by exact Or.inr rfl) rfl rfl (v6 rfl T.z9 (zc (av 10) zy (za rfl)) rfl) rfl (by change Zy _ wW _ (zF xM).names _ = true; decide +kernel) (by decide) (λ cl s H fp => (an 0 zag)) (λ cl s H fp => (zkJ (yQ (yD (hkd _ rfl rfl rfl) (xx hr) .Eq) (yu .Eq) (zj (zm .Mod) (zj (zm .FloorDiv) (av 1) (zj zku aI (av 0))) aI) aI (yH _)))) (λ cl s H fp => (av 0)) (λ _ => rfl))
  exact zu (vX (Zu wB Yo PySem.F.slot_list_append PySem.F.type_list_append (pv 24) (by refine zq ?_ ?_ ?_; exact (xZ (zq (ax hkd (av 18) (zj (zm .Add) (av 13) (zj (zm .Mult) aI (zj (zm .Mod) (zj (zm .FloorDiv) (av 25) aI) aI)))) (zq (av 26) zQ (za rfl)) (za rfl))); exact zQ; exact za rfl) rfl rfl rfl rfl rfl) rfl)) (λ _ => rfl))
  refine zg ?_ ?_; exact (by refine sv true 27 zr.nd ?_; exact (ax hkd (av 12) (ax hkd (xO (zq aI (zq (av 8) zQ (za rfl)) (za rfl))) (V9 Z3 rfl T.zee Bt.int (zc (zbE (yD (hkd _ rfl rfl rfl) (xx hr) .Eq) (av 5) aI (yH _)) zy (za rfl)) (Bt.n _ rfl) (by decide) rfl rfl))))
  exact zu (yh (xZ (by refine zq ?_ ?_ ?_; exact (av 10); refine zq ?_ ?_ ?_; exact (av 9); refine zq ?_ ?_ ?_; exact (av 14); refine zq ?_ ?_ ?_; exact (av 27); refine zq ?_ ?_ ?_; exact (av 19); refine zq ?_ ?_ ?_; exact (Yw (av 24) Vm (Xc (zj (zm .Mod) (ax hkd (av 4) aI) aI))); exact zQ; exact za rfl; exact za rfl; exact za rfl; exact za rfl; exact za rfl; exact za rfl))))
theorem zdw (T : Txt K kd mg t) (hkd : KD1 P w K kd) : FnOk P w K mg base CX0 2 t.YX t.YC ["_law_script", "_law_start", "_law_most", "_law_size", "_law_number"] (spD K kd xX) := by
 refine wK (N := Vk) (ps := ["_law_script", "_law_start", "_law_most", "_law_size", "_law_number"]) (k := 1) (c := V4) T.Vj Yi λ cdv A outer s H E hr => ?_
 exact (by
  refine zg ?_ ?_; exact (by refine sv false 5 Yi.nd ?_; exact (xO zQ))
  refine zg ?_ ?_; exact (yI PassesOwn.never rfl (z7 rfl T.z9 (zc (zj (zm .Mod) (av 4) (zj (zm .Add) (av 2) aI)) zy (za rfl)) rfl) (an 6 Yi.nd) (zu (vX (Zu wB Yo PySem.F.slot_list_append PySem.F.type_list_append (pv 5) (zq (zj (zm .Mod) (zT (Zf T hkd) (hr.mono (by omega)) rfl T.zV T.vH.kp T.Zd yo (zc (zT (yG T hkd) (hr.mono (by omega)) rfl T.zA T.yr.kp T.yF yo (zc (av 0) (zc (zj (zm .Add) (av 1) (av 6)) zy (za rfl)) (za rfl)) (by decide) rfl rfl) (zc (zj (zm .Add) (av 6) aI) zy (za rfl)) (za rfl)) (by decide) rfl rfl) (av 3)) zQ (za rfl)) rfl rfl rfl rfl rfl) rfl)) (λ _ => rfl))
  exact zu (yh (av 5)))
theorem zbV (T : Txt K kd mg t) (hkd : KD1 P w K kd) : FnOk P w K mg base CX0 1 t.ZX t.ZW ["_law_algebra_here", "_law_row"] (spD K kd xQ) := by
 refine wK (N := Wj) (ps := ["_law_algebra_here", "_law_row"]) (k := 0) (c := X6) T.XX vz λ cdv A outer s H E hr => ?_
 exact (by
  refine zg ?_ ?_; exact (by refine sv true 2 vz.nd ?_; exact (ax hkd (av 0) aI))
  refine zg ?_ ?_; exact (yI PassesOwn.never rfl (zbU (av 1)) (an 3 vz.nd) (zu (by refine sv true 2 vz.nd ?_; exact (ax hkd (ax hkd (ax hkd (av 0) aI) (av 2)) (av 3)))) (λ _ => rfl))
  exact zu (yh (av 2)))
theorem W0 (T : Txt K kd mg t) (hkd : KD1 P w K kd) : FnOk P w K mg base CX0 2 t.W4 t.W5 ["_law_algebra_here", "_law_row", "_law_known"] (spD K kd xJ) := by
 refine wK (N := zbT) (ps := ["_law_algebra_here", "_law_row", "_law_known"]) (k := 1) (c := zbY) T.YD XH λ cdv A outer s H E hr => ?_
 exact (by
  refine zg ?_ ?_; exact (yI PassesOwn.never rfl (z7 rfl T.z9 (zc (zj (zm .Add) (ZR (wN (hkd _ rfl rfl rfl)) rfl T.Vx Bt.len (zc (av 1) zy (za rfl)) (Bt.n _ rfl) (by decide) rfl rfl) aI) zy (za rfl)) rfl) (an 3 XH.nd) (zu (yI PassesOwn.never rfl (zbU (xO (zq (Yw (av 1) Vm (Xc (av 3))) (zq (Yw (av 1) (Xc (av 3)) Vm) zQ (za rfl)) (za rfl)))) (an 4 XH.nd) (zu (vh (yQ (yD (hkd _ rfl rfl rfl) (xx hr) .NotIn) (yu .NotIn) (xZ (zq (zT (zbV T hkd) (hr.mono (by omega)) rfl T.xQ T.XX.kp T.zca yo (zc (av 0) (zc (av 4) zy (za rfl)) (za rfl)) (by decide) rfl rfl) (zq (zj (zm .Mod) (ZR (wN (hkd _ rfl rfl rfl)) rfl T.Vx Bt.len (zc (av 4) zy (za rfl)) (Bt.n _ rfl) (by decide) rfl rfl) (ax hkd (av 0) aI)) zQ (za rfl)) (za rfl))) (av 2) rfl) (zu (yh aB)) yP)) (λ _ => rfl))) (λ _ => rfl))
  exact zu (yh aB))
theorem o_law (T : Txt K kd mg t) (hkd : KD1 P w K kd) : FnOk P w K mg base CX0 6 t.ziC t.zhx ["_law_script"] (spD K kd zcd) := by
 refine wK (N := zhU) (ps := ["_law_script"]) (k := 5) (c := zkV) T.znq wV λ cdv A outer s H E hr => ?_
 exact (by
  refine zg ?_ ?_; exact (by refine sv true 1 wV.nd ?_; exact (zT (zcr T hkd) (hr.mono (by omega)) rfl T.wX T.WW.kp T.zcp yo (by refine zc ?_ ?_ ?_; exact (zT (yG T hkd) (hr.mono (by omega)) rfl T.zA T.yr.kp T.yF yo (zc (av 0) (zc aI zy (za rfl)) (za rfl)) (by decide) rfl rfl); refine zc ?_ ?_ ?_; exact (zT (yG T hkd) (hr.mono (by omega)) rfl T.zA T.yr.kp T.yF yo (zc (av 0) (zc aI zy (za rfl)) (za rfl)) (by decide) rfl rfl); refine zc ?_ ?_ ?_; exact (zj (zm .Add) aI (zj (zm .Mod) (zT (yG T hkd) (hr.mono (by omega)) rfl T.zA T.yr.kp T.yF yo (zc (av 0) (zc aI zy (za rfl)) (za rfl)) (by decide) rfl rfl) aI)); exact zy; exact za rfl; exact za rfl; exact za rfl) (by decide) rfl rfl))
  refine zg ?_ ?_; exact (by refine sv true 2 wV.nd ?_; exact (zj (zm .Add) (zT (zdw T hkd) (hr.mono (by omega)) rfl T.xX T.Vj.kp T.zdl yo (by refine zc ?_ ?_ ?_; exact (av 0); refine zc ?_ ?_ ?_; exact aI; refine zc ?_ ?_ ?_; exact aI; refine zc ?_ ?_ ?_; exact (ax hkd (av 1) aI); refine zc ?_ ?_ ?_; exact (zj (zm .FloorDiv) (zT (yG T hkd) (hr.mono (by omega)) rfl T.zA T.yr.kp T.yF yo (zc (av 0) (zc aI zy (za rfl)) (za rfl)) (by decide) rfl rfl) aI); exact zy; exact za rfl; exact za rfl; exact za rfl; exact za rfl; exact za rfl) (by decide) rfl rfl) (xO (zq (zj (zm .Mod) (zT (yG T hkd) (hr.mono (by omega)) rfl T.zA T.yr.kp T.yF yo (zc (av 0) (zc aI zy (za rfl)) (za rfl)) (by decide) rfl rfl) (ax hkd (av 1) aI)) zQ (za rfl)))))
  refine zg ?_ ?_; exact (by refine sv false 3 wV.nd ?_; exact zji)
  refine zg ?_ ?_; exact (yI PassesOwn.never rfl (zbU (zT (zhI T hkd) (hr.mono (by omega)) rfl T.XQ T.zdU.kp T.ziw yo (zc (av 1) (zc (av 2) zy (za rfl)) (za rfl)) (by decide) rfl rfl)) (zby rfl (xU (an 4 wV.nd) (xU (an 5 wV.nd) (xU (an 6 wV.nd) Vo rfl) rfl) rfl) rfl rfl) (zu (zjM (zkY hr) (pv 3) (xZ (zq (av 4) (zq (av 5) zQ (za rfl)) (za rfl))) aB rfl)) (λ _ => rfl))
  refine zg ?_ ?_; exact (by refine sv false 7 wV.nd ?_; exact (xO zQ))
  refine zg ?_ ?_; exact (yI PassesOwn.never rfl (z7 rfl T.z9 (zc (zj (zm .Mod) (zj (zm .FloorDiv) (zT (yG T hkd) (hr.mono (by omega)) rfl T.zA T.yr.kp T.yF yo (zc (av 0) (zc aI zy (za rfl)) (za rfl)) (by decide) rfl rfl) aI) aI) zy (za rfl)) rfl) (an 8 wV.nd) (zu (vX (Zu wB Yo PySem.F.slot_list_append PySem.F.type_list_append (pv 7) (zq (ax hkd (av 2) (zj (zm .Mod) (zT (Zf T hkd) (hr.mono (by omega)) rfl T.zV T.vH.kp T.Zd yo (zc (zT (yG T hkd) (hr.mono (by omega)) rfl T.zA T.yr.kp T.yF yo (zc (av 0) (zc (zj (zm .Add) aI (av 8)) zy (za rfl)) (za rfl)) (by decide) rfl rfl) (zc (zj (zm .Add) (av 8) aI) zy (za rfl)) (za rfl)) (by decide) rfl rfl) (ZR (wN (hkd _ rfl rfl rfl)) rfl T.Vx Bt.len (zc (av 2) zy (za rfl)) (Bt.n _ rfl) (by decide) rfl rfl))) zQ (za rfl)) rfl rfl rfl rfl rfl) rfl)) (λ _ => rfl))
  refine zgr ?_
  refine zg ?_ ?_; exact (vh (zjm (zjl (zT (W0 T hkd) (hr.mono (by omega)) rfl T.xJ T.YD.kp T.Va yo (by refine zc ?_ ?_ ?_; exact (av 1); refine zc ?_ ?_ ?_; exact (av 7); refine zc ?_ ?_ ?_; exact (av 3); exact zy; exact za rfl; exact za rfl; exact za rfl) (by decide) rfl rfl) (λ _ => rfl))) (zu (yh aB)) yP)
  refine zg ?_ ?_; exact (yI PassesOwn.never rfl (z7 rfl T.z9 (zc (zj (zm .Mod) (zj (zm .FloorDiv) (zT (yG T hkd) (hr.mono (by omega)) rfl T.zA T.yr.kp T.yF yo (zc (av 0) (zc aI zy (za rfl)) (za rfl)) (by decide) rfl rfl) aI) aI) zy (za rfl)) rfl) (an 8 wV.nd) (by
  refine zg ?_ ?_; exact (by refine sv true 9 wV.nd ?_; exact (zT (Zf T hkd) (hr.mono (by omega)) rfl T.zV T.vH.kp T.Zd yo (zc (zT (yG T hkd) (hr.mono (by omega)) rfl T.zA T.yr.kp T.yF yo (zc (av 0) (zc (zj (zm .Add) aI (av 8)) zy (za rfl)) (za rfl)) (by decide) rfl rfl) (zc (zj (zm .Add) (av 8) aI) zy (za rfl)) (za rfl)) (by decide) rfl rfl))
  refine zg ?_ ?_; exact (by refine sv true 10 wV.nd ?_; exact (zj (zm .Mod) (av 9) (zj (zm .Add) (ZR (wN (hkd _ rfl rfl rfl)) rfl T.Vx Bt.len (zc (av 7) zy (za rfl)) (Bt.n _ rfl) (by decide) rfl rfl) aI)))
  refine zg ?_ ?_; exact (by refine sv true 11 wV.nd ?_; exact (zj (zm .Add) (av 10) (zj (zm .Mod) (zj (zm .FloorDiv) (av 9) aI) (zj (zm .Sub) (zj (zm .Add) (ZR (wN (hkd _ rfl rfl rfl)) rfl T.Vx Bt.len (zc (av 7) zy (za rfl)) (Bt.n _ rfl) (by decide) rfl rfl) aI) (av 10)))))
  refine zg ?_ ?_; exact (ziL (ax hkd (ax hkd (av 1) aI) (zj (zm .Mod) (zj (zm .FloorDiv) (av 9) aI) (ZR (wN (hkd _ rfl rfl rfl)) rfl T.Vx Bt.len (zc (ax hkd (av 1) aI) zy (za rfl)) (Bt.n _ rfl) (by decide) rfl rfl))) (zby rfl (xU (an 12 wV.nd) (xU (an 13 wV.nd) Vo rfl) rfl) rfl rfl) rfl rfl rfl)
  refine zg ?_ ?_; exact (by refine sv false 7 wV.nd ?_; exact (zj (zm .Add) (zj (zm .Add) (Yw (av 7) Vm (Xc (av 10))) (Z6 (N := ["_law_a", "_law_rows", "_law_algebra_here"]) (cap := [none, some 13, some 1]) (S := [0]) rfl (zaq (Yw (av 7) (Xc (av 10)) (Xc (av 11)))) rfl (by change Zy _ zhU _ (zF zen).names _ = true; decide +kernel) (by decide) (λ cl s H fp => (an 0 zil)) (λ cl s H fp => vB) (λ cl s H fp => (ax hkd (ax hkd (av 1) (zj (zm .Mod) aI (ax hkd (av 2) aI))) (av 0))) (λ _ => rfl))) (Yw (av 7) (Xc (av 11)) Vm)))
  exact zu (vh (AW.at_ (zmp (yQ (yD (hkd _ rfl rfl rfl) (xx hr) .Eq) (yu .Eq) (zj (zm .Mod) (av 8) aI) aI (yH _)) (zfd (zjm (zjl (zT (W0 T hkd) (hr.mono (by omega)) rfl T.xJ T.YD.kp T.Va yo (by refine zc ?_ ?_ ?_; exact (av 1); refine zc ?_ ?_ ?_; exact (av 7); refine zc ?_ ?_ ?_; exact (av 3); exact zy; exact za rfl; exact za rfl; exact za rfl) (by decide) rfl rfl) (λ _ => rfl)))))) (zu (yh aB)) yP)) (λ _ => rfl))
  exact zu (yh (zT (W0 T hkd) (hr.mono (by omega)) rfl T.xJ T.YD.kp T.Va yo (by refine zc ?_ ?_ ?_; exact (av 1); refine zc ?_ ?_ ?_; exact (av 7); refine zc ?_ ?_ ?_; exact (av 3); exact zy; exact za rfl; exact za rfl; exact za rfl) (by decide) rfl rfl)))
end
abbrev NsR (K : zC) (x : Str) (f : Addr) : Prop := PySem.W.nsIn K mainGlobals x = some (some (.ref f))
abbrev FnAt (K : zC) (x q : Str) (s : Stmt) (f : Addr) : Prop := ∃ d, Fun K x q s f d
theorem zmP {l : PySem.W.OpenLaw} {w : World} {K : zC} {h : Heap} {mg : Str -> Option Value} {fa : Addr} (X : K.In h) (G : h.Ns mainGlobals mg) (hfa : mg "law" = some (.ref fa))
 {f0 f1 f2 f3 f4 f5 f6 f7 f8 f9 f10 f11 f12 f13 f14 f15 f16 f17 f18 f19 f20 f21 f22 f23 : Addr}
 (a0 : NsR K "nothing_fails" f0) (l0 : FnAt K "nothing_fails" "nothing_fails" vp f0)
 (a1 : NsR K "parting_fails" f1) (l1 : FnAt K "parting_fails" "parting_fails" vo f1)
 (a2 : NsR K "doing_fails" f2) (l2 : FnAt K "doing_fails" "doing_fails" v8 f2)
 (a3 : NsR K "deeds_fail" f3) (l3 : FnAt K "deeds_fail" "deeds_fail" ZD f3)
 (a4 : NsR K "what_fails" f4) (l4 : FnAt K "what_fails" "what_fails" ZC f4)
 (a5 : NsR K "check_let_by" f5) (l5 : FnAt K "check_let_by" "check_let_by" vW f5)
 (a6 : NsR K "two_of" f6) (l6 : FnAt K "two_of" "two_of" VB f6)
 (a7 : NsR K "following" f7) (l7 : FnAt K "following" "following" Zh f7)
 (a8 : NsR K "take_new" f8) (l8 : FnAt K "take_new" "take_new" YB f8)
 (a9 : NsR K "coming" f9) (l9 : FnAt K "coming" "coming" X4 f9)
 (a10 : NsR K "_law_cell_at" f10) (l10 : FnAt K "_law_cell_at" "_law_cell_at" Za f10)
 (a11 : NsR K "_law_mixed" f11) (l11 : FnAt K "_law_mixed" "_law_mixed" Z5 f11)
 (a12 : NsR K "_law_words" f12) (l12 : FnAt K "_law_words" "_law_words" Zg f12)
 (a13 : NsR K "_law_common" f13) (l13 : FnAt K "_law_common" "_law_common" ZG f13)
 (a14 : NsR K "_law_joined_by" f14) (l14 : FnAt K "_law_joined_by" "_law_joined_by" vA f14)
 (a15 : NsR K "_law_images" f15) (l15 : FnAt K "_law_images" "_law_images" vV f15)
 (a16 : NsR K "_law_done_by" f16) (l16 : FnAt K "_law_done_by" "_law_done_by" wC f16)
 (a17 : NsR K "_law_kinds" f17) (l17 : FnAt K "_law_kinds" "_law_kinds" Z7 f17)
 (a18 : NsR K "_law_stream" f18) (l18 : FnAt K "_law_stream" "_law_stream" ZJ f18)
 (a19 : NsR K "_law_algebra" f19) (l19 : FnAt K "_law_algebra" "_law_algebra" xM f19)
 (a20 : NsR K "_law_values" f20) (l20 : FnAt K "_law_values" "_law_values" ZF f20)
 (a21 : NsR K "_law_whole_of" f21) (l21 : FnAt K "_law_whole_of" "_law_whole_of" vN f21)
 (a22 : NsR K "_law_come" f22) (l22 : FnAt K "_law_come" "_law_come" Y5 f22)
 (a23 : NsR K "law" f23) (l23 : FnAt K "law" "law" zen f23)
 (z0 : PySem.W.nsIn K mainGlobals "int" = some none) (z1 : PySem.W.nsIn K mainGlobals "len" = some none) (z2 : PySem.W.nsIn K mainGlobals "list" = some none) (z3 : PySem.W.nsIn K mainGlobals "max" = some none) (z4 : PySem.W.nsIn K mainGlobals "range" = some none) (z5 : PySem.W.nsIn K mainGlobals "sorted" = some none) :
 ∃ fd : FuncData, (∀ (s : Shared) (v : Value), BindsTo s fd ⟨[v], []⟩ [("_law_script", v)]) /\ ∀ base : Heap, K.In base -> base.Ns mainGlobals mg -> FnOk l.prog w K mg base CX0 6 fa fd ["_law_script"] (spL K zcd) := by
 have e := hfa.symm.trans (PySem.W.mg_of X G a23)
 cases e
 obtain ⟨_, F0⟩ := l0
 have b0 := F0.binds (ps := ["algebra"]) λ _ _ _ _ _ _ => l1_ λ _ => rfl
 obtain ⟨_, F1⟩ := l1
 have b1 := F1.binds (ps := ["algebra"]) λ _ _ _ _ _ _ => l1_ λ _ => rfl
 obtain ⟨_, F2⟩ := l2
 have b2 := F2.binds (ps := ["algebra", "name", "rows"]) λ _ _ _ _ _ _ => l3_ λ _ _ _ => rfl
 obtain ⟨_, F3⟩ := l3
 have b3 := F3.binds (ps := ["algebra"]) λ _ _ _ _ _ _ => l1_ λ _ => rfl
 obtain ⟨_, F4⟩ := l4
 have b4 := F4.binds (ps := ["algebra"]) λ _ _ _ _ _ _ => l1_ λ _ => rfl
 obtain ⟨_, F5⟩ := l5
 have b5 := F5.binds (ps := ["algebra"]) λ _ _ _ _ _ _ => l1_ λ _ => rfl
 obtain ⟨_, F6⟩ := l6
 have b6 := F6.binds (ps := ["algebra", "entries", "p", "q"]) λ _ _ _ _ _ _ => l4_ λ _ _ _ _ => rfl
 obtain ⟨_, F7⟩ := l7
 have b7 := F7.binds (ps := ["algebra", "entries", "at"]) λ _ _ _ _ _ _ => l3_ λ _ _ _ => rfl
 obtain ⟨_, F8⟩ := l8
 have b8 := F8.binds (ps := ["entries", "known", "found"]) λ _ _ _ _ _ _ => l3_ λ _ _ _ => rfl
 obtain ⟨_, F9⟩ := l9
 have b9 := F9.binds (ps := ["algebra", "row"]) λ _ _ _ _ _ _ => l2_ λ _ _ => rfl
 obtain ⟨_, F10⟩ := l10
 have b10 := F10.binds (ps := ["_law_script", "_law_k"]) λ _ _ _ _ _ _ => l2_ λ _ _ => rfl
 obtain ⟨_, F11⟩ := l11
 have b11 := F11.binds (ps := ["_law_cell", "_law_k"]) λ _ _ _ _ _ _ => l2_ λ _ _ => rfl
 obtain ⟨_, F12⟩ := l12
 have b12 := F12.binds (ps := ["_law_cell", "_law_many"]) λ _ _ _ _ _ _ => l2_ λ _ _ => rfl
 obtain ⟨_, F13⟩ := l13
 have b13 := F13.binds (ps := ["_law_n", "_law_m"]) λ _ _ _ _ _ _ => l2_ λ _ _ => rfl
 obtain ⟨_, F14⟩ := l14
 have b14 := F14.binds (ps := ["_law_kind", "_law_n", "_law_a", "_law_b"]) λ _ _ _ _ _ _ => l4_ λ _ _ _ _ => rfl
 obtain ⟨_, F15⟩ := l15
 have b15 := F15.binds (ps := ["_law_kind", "_law_n", "_law_x"]) λ _ _ _ _ _ _ => l3_ λ _ _ _ => rfl
 obtain ⟨_, F16⟩ := l16
 have b16 := F16.binds (ps := ["_law_kind", "_law_n", "_law_m", "_law_x"]) λ _ _ _ _ _ _ => l4_ λ _ _ _ _ => rfl
 obtain ⟨_, F17⟩ := l17
 have b17 := F17.binds (ps := ["_law_x"]) λ _ _ _ _ _ _ => l1_ λ _ => rfl
 obtain ⟨_, F18⟩ := l18
 have b18 := F18.binds (ps := ["_law_cell", "_law_many"]) λ _ _ _ _ _ _ => l2_ λ _ _ => rfl
 obtain ⟨_, F19⟩ := l19
 have b19 := F19.binds (ps := ["_law_cell", "_law_head", "_law_many"]) λ _ _ _ _ _ _ => l3_ λ _ _ _ => rfl
 obtain ⟨_, F20⟩ := l20
 have b20 := F20.binds (ps := ["_law_script", "_law_start", "_law_most", "_law_size", "_law_number"]) λ _ _ _ _ _ _ => l5_ λ _ _ _ _ _ => rfl
 obtain ⟨_, F21⟩ := l21
 have b21 := F21.binds (ps := ["_law_algebra_here", "_law_row"]) λ _ _ _ _ _ _ => l2_ λ _ _ => rfl
 obtain ⟨_, F22⟩ := l22
 have b22 := F22.binds (ps := ["_law_algebra_here", "_law_row", "_law_known"]) λ _ _ _ _ _ _ => l3_ λ _ _ _ => rfl
 obtain ⟨_, F23⟩ := l23
 obtain ⟨_, _, _, _, _, _, _, _, _, rfl, _, _⟩ := F23.ex
 have b23 := F23.binds (ps := ["_law_script"]) λ _ _ _ _ _ _ => l1_ λ _ => rfl
 let KL : List (Addr × List (Key × V)) := []
 have hkd : KD1 l.prog w K (kdL KL) := zmt λ p m => by
  exact absurd (show p ∈ ([] : List (Addr × List (Key × V))) from m) List.not_mem_nil
 have T : Txt K (kdL KL) mg ⟨_, _, _, _, _, _, _, _, _, _, _, _, _, _, _, _, _, _, _, _, _, _, _, _, _, _, _, _, _, _, _, _, _, _, _, _, _, _, _, _, _, _, _, _, _, _, _, _⟩ := ⟨F0, b0, PySem.W.mg_of X G a0, F1, b1, PySem.W.mg_of X G a1, F2, b2, PySem.W.mg_of X G a2, F3, b3, PySem.W.mg_of X G a3, F4, b4, PySem.W.mg_of X G a4, F5, b5, PySem.W.mg_of X G a5, F6, b6, PySem.W.mg_of X G a6, F7, b7, PySem.W.mg_of X G a7, F8, b8, PySem.W.mg_of X G a8, F9, b9, PySem.W.mg_of X G a9, F10, b10, PySem.W.mg_of X G a10, F11, b11, PySem.W.mg_of X G a11, F12, b12, PySem.W.mg_of X G a12, F13, b13, PySem.W.mg_of X G a13, F14, b14, PySem.W.mg_of X G a14, F15, b15, PySem.W.mg_of X G a15, F16, b16, PySem.W.mg_of X G a16, F17, b17, PySem.W.mg_of X G a17, F18, b18, PySem.W.mg_of X G a18, F19, b19, PySem.W.mg_of X G a19, F20, b20, PySem.W.mg_of X G a20, F21, b21, PySem.W.mg_of X G a21, F22, b22, PySem.W.mg_of X G a22, F23, b23, PySem.W.mg_of X G a23, PySem.W.mg_none_of X G z0, PySem.W.mg_none_of X G z1, PySem.W.mg_none_of X G z2, PySem.W.mg_none_of X G z3, PySem.W.mg_none_of X G z4, PySem.W.mg_none_of X G z5⟩
 exact ⟨_, λ s v => .of_eq rfl, λ base _ _ => (o_law T hkd).imp λ vs H Q E h => h _⟩
theorem walk {l : PySem.W.OpenLaw} {q : Program} {loose : List Str} {XP : (Str -> Option Value) -> Heap -> Prop} {YP : World -> Heap -> Prop} {d : DefRec} {K : Params -> zC} (hn : l.most = some 63) (hdf : d.params.defaults = [])
 (hY : ∀ (w : World) (h : Heap), YP w h -> (K w.params).In h) (hm : ∀ ns : List Int, ns.length <= 63 -> zcd [(true, .lst (ns.map D.int))] = some (.lf true (.bl true)))
 (F : ∀ (w : World) (mg : Str -> Option Value) (fa : Addr) (h : Heap), (K w.params).In h -> h.Ns mainGlobals mg -> mg d.name = some (.ref fa) ->
  ∃ fd : FuncData, (∀ (s : Shared) (u : Value), BindsTo s fd ⟨[u], []⟩ [("_law_script", u)]) /\ ∀ base : Heap, (K w.params).In base -> base.Ns mainGlobals mg -> FnOk l.prog w (K w.params) mg base CX0 6 fa fd ["_law_script"] (spL (K w.params) zcd)) :
 PySem.W.WalkO q loose XP YP l.row.toRowW d [] (λ f vs => PySem.call f vs) :=
 L2.walk_of (n := 63) (k := 6) (x := "_law_script") (CX := λ _ => CX0) (sp := λ w => spL (K w.params) zcd) hn (by decide) hdf ⟨rfl, by decide, by decide, rfl⟩ hY F (λ _ _ a ns hl _ hS kd => zmh (hm ns hl) hS) λ _ _ _ _ _ z => z
local macro_rules | `(tactic| trivial) => `(tactic| first | with_reducible first | assumption | exact Int.natCast_nonneg _ | exact Nat.le_refl _ | exact Int.le_refl _ | exact rfl | exact leN (by assumption) | exact np1 (by assumption) | exact np2 (by assumption) | exact nq1 (by assumption) | exact nq2 (by assumption) | exact Int.natCast_pos.mpr (by assumption) | exact Nat.le_trans (by assumption) (by decide) | exact bgL _ | exact bgU (by assumption) | exact mU (by assumption) | exact zI _ | exact bL0 (by assumption) | exact bU0 (by assumption) (by assumption) | exact iL (by assumption) | exact iU (by assumption) (by assumption) | exact iC (by assumption) | exact iT (by assumption) | exact stL (by assumption) | exact stU (by assumption) | exact lnK (by assumption) (by assumption) (by assumption) | exact zi1 _ | exact lnE (by assumption) | exact ltL (by assumption) | exact Int.toNat_of_nonneg (by assumption) | exact tS (by assumption) (by assumption) | exact b6 (by assumption) | exact Int.emod_nonneg _ (by decide) | exact Int.emod_lt_of_pos _ (by decide) | decide | omega)
section
variable {n m : Nat} {J T : TZ} {e : Int} {Ds : DD} {S : SS}
theorem zfy (n8 : n <= 8) (hJ : Tab n n J) (he : InR n e) : Flt (wu [(true, zH n m J e Ds S)]) (UnA n J e) := by
 refine Flt.imp (P := UnA n J e /\ True) (zfA (n := 4) (m := 1) (c := vC) rfl ?_) ⟨λ z => z.1, λ z => ⟨z, trivial⟩⟩
 have s1 : zJ true 1 (f2 (fV 0) (fC (.int 2)) ixP) [sT (zH n m J e Ds S), none, none, none] = some (.nx [sT (zH n m J e Ds S), sT (ye J), none, none]) := yf (i := 1) (v4 (zb (i := 0) rfl) zf rfl) (zE rfl)
 have s2 : zJ true 2 (f2 (fV 0) (fC (.int 3)) ixP) [sT (zH n m J e Ds S), sT (ye J), none, none] = some (.nx [sT (zH n m J e Ds S), sT (ye J), sI e, none]) := yf (i := 2) (v4 (zb (i := 0) rfl) zf rfl) (zE rfl)
 have k := zdz (as := [sT (zH n m J e Ds S), sT (ye J), sI e, none]) (g := yp (fC .non)) (Q := True) (znb (S := λ x y z => [sT (zH n m J e Ds S), sT (ye J), sI e, x]) (x := none) (y := none) (z := none) (vj := 1) (ve := 2) hJ he (λ _ _ _ => rfl) (λ _ _ _ => rfl) (λ _ _ _ => rfl) (λ _ _ _ _ => rfl)) λ _ _ _ => zdp
 have hf : ∀ f : SF, yM (ym (aC (f2 (fV 0) (fC (.int 0)) ixP) aN) yw) (gN 3) f [sT (zH n m J e Ds S), sT (ye J), sI e, none] = forL (gN 3) f (yL 0 n) [sT (zH n m J e Ds S), sT (ye J), sI e, none] := λ f => xR (xq (j := (n : Int)) (zx (yx (zb (i := 0) rfl) zf rfl rfl) zP) (by trivial) (by trivial)) (by rw [Int.toNat_natCast])
 have fin : ∀ x, Rt (zB (λ as => forL (gN 3) (sIf (zgJ (fT (f2 (f2 (f2 (fV 1) (fV 2) ixP) (fV 3) ixP) (fV 3) (yj .NotEq))) (fT (f2 (f2 (f2 (fV 1) (fV 3) ixP) (fV 2) ixP) (fV 3) (yj .NotEq)))) (yp (yV (dC (fC (.str "nothing")) (dC (fV 3) dN)))) sNx) (yL 0 n) as) (yp (fC .non)) [sT (zH n m J e Ds S), sT (ye J), sI e, none]) x -> Rt (vC (xj 4 [(true, zH n m J e Ds S)])) x := λ x h => by
  refine zK s1 (zK s2 ?_)
  obtain ⟨o, a, b⟩ := h
  refine ⟨o, ?_, b⟩
  unfold zB at a ⊢
  rw [hf]
  exact a
 rcases k with ⟨k, p⟩ | ⟨⟨es, k⟩, p⟩
 · exact .inl ⟨fin _ k, p⟩
 · exact .inr ⟨⟨es, fin _ k⟩, p⟩
theorem zfr (n8 : n <= 8) (hJ : Tab n n J) : Flt (wz [(true, zH n m J e Ds S)]) (As n J) := by
 have s1 : zJ true 1 (f2 (fV 0) (fC (.int 0)) ixP) [sT (zH n m J e Ds S), none, none, none, none, none] = some (.nx [sT (zH n m J e Ds S), sI n, none, none, none, none]) := yf (i := 1) (v4 (zb (i := 0) rfl) zf rfl) (zE rfl)
 have s2 : zJ true 2 (f2 (fV 0) (fC (.int 2)) ixP) [sT (zH n m J e Ds S), sI n, none, none, none, none] = some (.nx [sT (zH n m J e Ds S), sI n, sT (ye J), none, none, none]) := yf (i := 2) (v4 (zb (i := 0) rfl) zf rfl) (zE rfl)
 have k := zkE (S := λ x y z => [sT (zH n m J e Ds S), sI n, sT (ye J), x, y, z]) (x := none) (y := none) (z := none) (vj := 2) (vn := 1) n8 hJ (λ _ _ _ => rfl) (λ _ _ _ => rfl) (λ _ _ _ => rfl) (λ _ _ _ => rfl) (λ _ _ _ => rfl) (λ _ _ _ _ => rfl) (λ _ _ _ _ => rfl) (λ _ _ _ _ => rfl)
 rw [<- Zc (v := 1) (n := n) (g := gN 3) (f := zmO 2 1) (as := [sT (zH n m J e Ds S), sI n, sT (ye J), none, none, none]) rfl (by trivial)] at k
 refine Flt.imp (P := As n J /\ True) (zfA (n := 6) (m := 1) (c := Zt) rfl ?_) ⟨λ z => z.1, λ z => ⟨z, trivial⟩⟩
 rcases zdz (g := yp (fC .non)) (Q := True) k λ _ _ _ => zdp with ⟨k, p⟩ | ⟨⟨es, k⟩, p⟩
 · exact .inl ⟨zK s1 (zK s2 k), p⟩
 · exact .inr ⟨⟨es, zK s1 (zK s2 k)⟩, p⟩
theorem ziF {s : Str} (n8 : n <= 8) (m1 : 1 <= m) (m6 : m <= 6) (hJ : Tab n n J) (hT : Tab m n T) : Flt (wD [(true, zH n m J e Ds S), (true, .str s), (true, ye T)]) (Dn n m J T) := by
 have k : zba (forL (gN 6) (yM (ym (aC (fV 4) aN) yw) (gN 7) (yM (ym (aC (fV 3) aN) yw) (gN 8) (yM (ym (aC (fV 4) aN) yw) (gN 9) dfI))) (yL 0 n) (D10 n m J T e Ds S s none none none none)) (λ as => ∃ x y z w, as = D10 n m J T e Ds S s x y z w) (Dn n m J T) := by
  refine XD (fr := sNx) (λ as => ∃ x y z w, as = D10 n m J T e Ds S s x y z w) _ (λ a ha as hI => ?_) ⟨_, _, _, _, rfl⟩
  obtain ⟨x, y, z, w, rfl⟩ := hI
  refine ⟨D10 n m J T e Ds S s (sI a) y z w, rfl, ?_⟩
  rw [Zc (v := 4) (n := m) rfl (by trivial)]
  have k := XD (v := 7) (n := m) (fr := sNx) (f := yM (ym (aC (fV 3) aN) yw) (gN 8) (yM (ym (aC (fV 4) aN) yw) (gN 9) dfI)) (as := D10 n m J T e Ds S s (sI a) y z w) (λ as => ∃ y z w, as = D10 n m J T e Ds S s (sI a) y z w) (λ i => ∀ b, InR n b -> ∀ k, InR m k -> jAt T ((i + k) % m) (jAt J a b) = jAt J (jAt T i a) (jAt T k b)) (λ i hi as hI => by
   obtain ⟨y, z, w, rfl⟩ := hI
   refine ⟨D10 n m J T e Ds S s (sI a) (sI i) z w, rfl, ?_⟩
   rw [Zc (v := 3) (n := n) rfl (by trivial)]
   have k := XD (v := 8) (n := n) (fr := sNx) (f := yM (ym (aC (fV 4) aN) yw) (gN 9) dfI) (as := D10 n m J T e Ds S s (sI a) (sI i) z w) (λ as => ∃ z w, as = D10 n m J T e Ds S s (sI a) (sI i) z w) (λ b => ∀ k, InR m k -> jAt T ((i + k) % m) (jAt J a b) = jAt J (jAt T i a) (jAt T k b)) (λ b hb as hI => by
    obtain ⟨z, w, rfl⟩ := hI
    refine ⟨D10 n m J T e Ds S s (sI a) (sI i) (sI b) w, rfl, ?_⟩
    rw [Zc (v := 4) (n := m) rfl (by trivial)]
    rcases df4 (s := s) (w := w) (e := e) (Ds := Ds) (S := S) hJ hT m1 ha hi hb with ⟨as', k1, ⟨w', rfl⟩, k3⟩ | k
    · exact .inl ⟨_, k1, ⟨_, _, rfl⟩, k3⟩
    · exact .inr k) ⟨_, _, rfl⟩
   rcases k with ⟨as', k1, ⟨z', w', rfl⟩, k3⟩ | k
   · exact .inl ⟨_, k1, ⟨_, _, _, rfl⟩, k3⟩
   · exact .inr k) ⟨_, _, _, rfl⟩
  rcases k with ⟨as', k1, ⟨y', z', w', rfl⟩, k3⟩ | k
  · exact .inl ⟨_, k1, ⟨_, _, _, _, rfl⟩, k3⟩
  · exact .inr k
 rw [<- Zc (v := 3) (n := n) (as := D10 n m J T e Ds S s none none none none) rfl (by trivial)] at k
 have s3 : zJ true 3 (f2 (fV 0) (fC (.int 0)) ixP) [sT (zH n m J e Ds S), sT (.str s), sT (ye T), none, none, none, none, none, none, none] = some (.nx [sT (zH n m J e Ds S), sT (.str s), sT (ye T), sI n, none, none, none, none, none, none]) := yf (i := 3) (v4 (zb (i := 0) rfl) zf rfl) (zE rfl)
 have s4 : zJ true 4 (f2 (fV 0) (fC (.int 1)) ixP) [sT (zH n m J e Ds S), sT (.str s), sT (ye T), sI n, none, none, none, none, none, none] = some (.nx [sT (zH n m J e Ds S), sT (.str s), sT (ye T), sI n, sI m, none, none, none, none, none]) := yf (i := 4) (v4 (zb (i := 0) rfl) zf rfl) (zE rfl)
 have s5 : zJ true 5 (f2 (fV 0) (fC (.int 2)) ixP) [sT (zH n m J e Ds S), sT (.str s), sT (ye T), sI n, sI m, none, none, none, none, none] = some (.nx (D10 n m J T e Ds S s none none none none)) := yf (i := 5) (v4 (zb (i := 0) rfl) zf rfl) (zE rfl)
 refine Flt.imp (P := Dn n m J T /\ True) (zfA (n := 10) (m := 3) (c := Yj) rfl ?_) ⟨λ z => z.1, λ z => ⟨z, trivial⟩⟩
 rcases zdz (g := yp (fC .non)) (Q := True) k λ _ _ _ => zdp with ⟨k, p⟩ | ⟨⟨es, k⟩, p⟩
 · exact .inl ⟨zK s3 (zK s4 (zK s5 k)), p⟩
 · exact .inr ⟨⟨es, zK s3 (zK s4 (zK s5 k))⟩, p⟩
theorem zeZ (A : Alg n m J e Ds) (L : LawA n m J e Ds) : RE (vQ [(true, zH n m J e Ds S)]) .non := by
 have n8 := A.n8
 have m1 := A.m1
 have s1 : zJ true 1 (f2 (fV 0) (fC (.int 3)) ixP) [sT (zH n m J e Ds S), none, none, none, none] = some (.nx [sT (zH n m J e Ds S), sI e, none, none, none]) := yf (i := 1) (v4 (zb (i := 0) rfl) zf rfl) (zE rfl)
 obtain ⟨as', hf, x, y, z, rfl⟩ := xf (g := gT 2 (gsC (gN 2) (gsC (gN 3) gsN))) (f := (zB (sIf (fT (f2 (f2 (f2 (fV 3) (fC (.int 0)) ixP) (fV 1) ixP) (fV 1) (yj .NotEq))) (yp (yV (dC (fC (.str "empty")) (dC (fV 2) dN)))) sNx)
  (zB (zJ true 4 (zG (aC (fV 0) (aC (fV 2) (aC (fV 3) aN))) wD))
  (sIf (fT (f2 (fV 4) (fC .non) (yj .IsNot))) (yp (fV 4)) sNx))))
  (λ i as => ∃ (x y z : Option O), as = [sT (zH n m J e Ds S), sI e, x, y, z])
  ((Ds.map Zi).map λ d => (true, d)) 0 [sT (zH n m J e Ds S), sI e, none, none, none] (λ i x as hx' hI => by
    obtain ⟨x, y, z, rfl⟩ := hI
    rw [List.map_map, zzF] at hx'
    obtain ⟨p, hp, rfl⟩ := zzU.mp hx'
    have mp := List.mem_of_getElem? hp
    have hT := A.ds p mp
    obtain ⟨q1, _⟩ := Xu (as := [sT (zH n m J e Ds S), sI e, sT (.str p.1), sT (ye p.2), z]) hT (w := 0) (v := e) ⟨by trivial, by trivial⟩ ⟨A.e0, A.en⟩ (zb (i := 3) rfl) (zf (x := .int 0)) (zb (i := 1) rfl)
    have t1 := zis q1 (zb (i := 1) (x := .int e) (s := true) rfl)
    rw [(L.ld p mp).em, show (!(e == e)) = false by simp] at t1
    have d := (ziF (s := p.1) (e := e) (Ds := Ds) (S := S) n8 m1 A.m6 A.j hT).none (L.dn mp)
    exact ⟨[sT (zH n m J e Ds S), sI e, sT (.str p.1), sT (ye p.2), z], rfl, _, zZ (xW t1 rfl) (zZ (Xn (p := 4) (zfG (WD.e (zb (i := 0) rfl)) (WD.e (zb (i := 2) rfl)) (WD.e (zb (i := 3) rfl)) d) (zE rfl)) (xW (vg (yx (zb (i := 4) rfl) zf rfl rfl) rfl) rfl)), _, _, _, rfl⟩)
  ⟨_, _, _, rfl⟩
 exact vO rfl (zK s1 (zK (xR (zld (v4 (zb (i := 0) rfl) zf rfl)) hf) (Zo (WD.e zf))))
theorem zgY (A : Alg n m J e Ds) (L : LawA n m J e Ds) : RE (vP [(true, zH n m J e Ds S)]) .non := by
 have r1 := (zfy (m := m) (Ds := Ds) (S := S) A.n8 A.j ⟨A.e0, A.en⟩).none L.un
 have r2 := (zfr (m := m) (e := e) (Ds := Ds) (S := S) A.n8 A.j).none L.as
 have r3 := zeZ (S := S) A L
 have tt : WT (fT (f2 (fV 1) (fC .non) (yj .Is))) [sT (zH n m J e Ds S), sT .non] true := vg (yx (zb (i := 1) rfl) zf rfl rfl) rfl
 exact vO rfl (zK (Xn (p := 1) (zaf (WD.e (zb (i := 0) rfl)) r1) (zE rfl)) (zK (vZ tt (Xn (p := 1) (zaf (WD.e (zb (i := 0) rfl)) r2) (zE rfl))) (zK (vZ tt (Xn (p := 1) (zaf (WD.e (zb (i := 0) rfl)) r3) (zE rfl))) (Zo (WD.e (zb (i := 1) rfl))))))
end
open L2 (yq)
def mx (c k : Int) : Int := ((c % 2147483647 * 48271 + k * k * 69621 + 7919) % 2147483647 * ((c % 2147483647 * 48271 + k * k * 69621 + 7919) % 2147483647) + 16807 * ((c % 2147483647 * 48271 + k * k * 69621 + 7919) % 2147483647) + k) % 2147483629
abbrev St (x : Int) : Prop := 0 <= x /\ x < 2147483647
theorem znB (c k : Int) : St (mx c k) := ⟨Int.emod_nonneg _ (by decide), Int.lt_trans (Int.emod_lt_of_pos _ (by decide)) (by decide)⟩
theorem Wc {c k : Int} {s t : Bool} (k0 : 0 <= k) (k1 : k <= 1000) : zV [(s, .int c), (t, .int k)] = sI (mx c k) := by
 have c0 := Int.emod_nonneg c (show (2147483647 : Int) ≠ 0 by decide)
 have c1 := Int.emod_lt_of_pos c (show (0 : Int) < 2147483647 by decide)
 have kk0 : 0 <= k * k := Int.mul_nonneg k0 k0
 have kk1 : k * k <= 1000 * 1000 := Int.mul_le_mul k1 k1 k0 (by decide)
 have u0 := Int.emod_nonneg (c % 2147483647 * 48271 + k * k * 69621 + 7919) (show (2147483647 : Int) ≠ 0 by decide)
 have u1 := Int.emod_lt_of_pos (c % 2147483647 * 48271 + k * k * 69621 + 7919) (show (0 : Int) < 2147483647 by decide)
 have bk : k.natAbs < big := zM (by omega) (by omega)
 have bu : ((c % 2147483647 * 48271 + k * k * 69621 + 7919) % 2147483647).natAbs < big := zM (by omega) (by omega)
 exact VG rfl (zZ (yf (i := 2) (zU (yd (yd (xY (zU (zb (i := 0) rfl) zf (by decide)) zf (zM (by omega) (by omega)) (zM (by decide) (by decide))) (xY (xY (zb (i := 1) rfl) (zb (i := 1) rfl) bk bk) zf (zM (by omega) (by omega)) (zM (by decide) (by decide)))) zf) zf (by decide)) (zE rfl))
  (Wg (zU (yd (yd (xY (zb (i := 2) rfl) (zb (i := 2) rfl) bu bu) (xY zf (zb (i := 2) rfl) (zM (by decide) (by decide)) bu)) (zb (i := 1) rfl)) zf (by decide))))
theorem YF {ns : List Int} {k : Int} {s t : Bool} (hk : 0 <= k) : ∃ x, zA [(s, .lst (ns.map .int)), (t, .int k)] = sT (.int x) := by
 by_cases h : k < ((ns.map D.int).length : Int)
 · obtain ⟨x, hx⟩ := zkw (ns := ns) hk (by rw [zD] at h; exact h)
   exact ⟨x, VG rfl (Wm (vZ (vg (zjk (zb rfl) (vK (zx (zb rfl) zP) rfl rfl)) (congrArg some (decide_eq_true h))) (Wg (yx (zb rfl) (zb rfl) hx rfl))))⟩
 · exact ⟨0, VG rfl (zZ (xW (vg (zjk (zb rfl) (vK (zx (zb rfl) zP) rfl rfl)) (congrArg some (decide_eq_false h))) rfl) (Wg zf))⟩
theorem zgN {c : Int} {m : Nat} (h1 : m <= 900) : ∃ xs : List Int, xs.length = m /\ (∀ x ∈ xs, St x) /\ RE (yJ [(true, .int c), (true, .int m)]) (zN xs) := by
 obtain ⟨as', hf, ys, r, e4, rfl, hl, hy⟩ := xf (g := gN 4) (f := sIf (fT (f2 (f2 (fV 0) (fC (.int 2)) (zp .Mod)) (fC (.int 0)) (yj .Eq))) (zB (yO (ww 2 (dC (f2 (fV 3) (fC (.int 1000000007)) (zp .Mod)) dN) vm)) (zJ true 3 (f2 (fV 3) (fC (.int 1000000007)) (zp .FloorDiv)))) (yO (ww 2 (dC (zG (aC (fV 3) (aC (fV 4) aN)) zV) dN) vm)))
  (λ i as => ∃ (ys : List Int) (r : Int) (e4 : Option O), as = [sI c, sI m, sN (ys.map lfI), sI r, e4] /\ ys.length = i /\ ∀ y ∈ ys, St y)
  (yL 0 m) 0 [sI c, sI m, sN [], sI (c / 2), none] (λ i x as hx hI => by
   obtain ⟨ys, r, e4, rfl, hl, hy⟩ := hI
   obtain ⟨rfl, hi⟩ := yW hx
   have tt : WT (fT (f2 (f2 (fV 0) (fC (.int 2)) (zp .Mod)) (fC (.int 0)) (yj .Eq))) [sI c, sI m, sN (ys.map lfI), sI r, sI (0 + i)] (c % 2 == 0) := vg (zbQ (c := c % 2 == 0) (zU (zb (i := 0) rfl) zf (by decide)) zf rfl) rfl
   refine ⟨[sI c, sI m, sN (ys.map lfI), sI r, sI (0 + i)], rfl, ?_⟩
   have fin : ∀ w, St w -> (ys ++ [w]).length = 0 + i + 1 /\ ∀ y ∈ ys ++ [w], St y := λ w hw => ⟨by rw [zzG, hl]; rfl, λ y m => (zzJ.mp m).elim (hy y) λ m => by rw [zzO.mp m]; exact hw⟩
   cases hb : (c % 2 == 0) with
   | true =>
    rw [hb] at tt
    have w0 := Int.emod_nonneg r (show (1000000007 : Int) ≠ 0 by decide)
    have w1 := Int.emod_lt_of_pos r (show (0 : Int) < 1000000007 by decide)
    have ap := zaz (i := 2) (as := [sI c, sI m, sN (ys.map lfI), sI r, sI (0 + i)]) rfl (by rw [zD]; exact yq (by omega)) (zU (zb (i := 3) rfl) (zf (x := .int 1000000007)) (by decide))
    rw [<- Yt] at ap
    exact ⟨_, vZ tt (zZ ap (yf (i := 3) (yR (zb (i := 3) rfl) zf (by decide) (zM (by decide) (by decide))) (zE rfl))), ys ++ [r % 1000000007], _, _, rfl, fin _ ⟨w0, by omega⟩⟩
   | false =>
    rw [hb] at tt
    have ap := zaz (i := 2) (as := [sI c, sI m, sN (ys.map lfI), sI r, sI (0 + i)]) rfl (by rw [zD]; exact yq (by omega)) (vq (zx (zb (i := 3) rfl) (zx (zb (i := 4) rfl) zP)) (Wc (c := r) (k := 0 + i) (by omega) (by omega)))
    rw [<- Yt] at ap
    exact ⟨_, xW tt ap, ys ++ [mx r (0 + i)], _, _, rfl, fin _ (znB _ _)⟩)
  ⟨[], c / 2, none, rfl, rfl, λ _ m => nomatch m⟩
 rw [yC] at hl
 refine ⟨ys, by omega, hy, vO rfl (zK (xr (i := 2) (Zm yt (szl rfl)) (zE rfl)) (zK (yf (i := 3) (yR (zb (i := 0) rfl) zf (by decide) (zM (by decide) (by decide))) (zE rfl)) (zK (xR (xq (zx (zb (i := 1) rfl) zP) (by omega) (by omega)) hf) ⟨_, zdy (i := 2) rfl (wL ys).2.1, (Z1 ys).1, (Z1 ys).2⟩)))⟩
theorem stE {a b : EF} {as : AS} {c : Int} {m : Nat} (hm : m <= 900) (ha : WE a as (.int c)) (hb : WE b as (.int m)) : ∃ xs : List Int, xs.length = m /\ (∀ x ∈ xs, St x) /\ WE (zG (aC a (aC b aN)) yJ) as (zN xs) := by
 obtain ⟨xs, h1, h2, h3⟩ := zgN (c := c) (m := m) hm
 exact ⟨xs, h1, h2, zdb ha hb h3⟩
theorem at2 {xs : List Int} (h : ∀ x ∈ xs, St x) {k : Int} (h0 : 0 <= k) (h1 : k < xs.length) : ∃ x, ixP (zN xs) (.int k) = some (.im (.int x)) /\ St x := zlE h0 h1 h
theorem zgK {n m : Nat} (hn : 0 < n) (hn2 : n <= 8) (hm : m <= 8) : ∃ g : Int, 0 < g /\ g < 1000 /\ g ∣ (n : Int) /\ g ∣ (m : Int) /\ wQ [(true, .int n), (true, .int m)] = sI g := by
 obtain ⟨g, e, g0, g1, d1, d2, hg⟩ := zfz m n 10000 (by trivial) (by trivial) (by trivial) (by trivial)
 exact ⟨g, g0, g1, d1, d2, VG rfl (zZ hg (Wg (zb rfl)))⟩
theorem eqT {a b : EF} {as : AS} {x y : Int} {s t q : Bool} (ha : WD a as s (.int x)) (hb : WD b as t (.int y)) (e : (x == y) = q) : WT (fT (f2 a b (yj .Eq))) as q := vg (zbQ (c := q) ha hb (congrArg some e)) rfl
theorem Vh {k : Int} {n : Nat} {a b : Int} (h : KN k n) (ha : InR n a) (hb : InR n b) : zO [(true, .int k), (true, .int n), (true, .int a), (true, .int b)] = sI (jK k n a b) := by
 rcases h with ⟨rfl, hn⟩ | ⟨rfl, hn⟩ | ⟨rfl, hn⟩ | ⟨rfl, rfl⟩
 · exact VG rfl (Wm (vZ (eqT (zb (i := 0) rfl) zf rfl) (Wg (zU (yd (zb (i := 2) rfl) (zb (i := 3) rfl)) (zb (i := 1) rfl) (by omega)))))
 · exact VG rfl (zZ (xW (eqT (zb (i := 0) rfl) zf rfl) rfl) (Wm (vZ (eqT (zb (i := 0) rfl) zf rfl) (Wg (vK (zx (zb (i := 2) rfl) (zx (zb (i := 3) rfl) zP)) rfl rfl)))))
 · exact VG rfl (zZ (xW (eqT (zb (i := 0) rfl) zf rfl) rfl) (zZ (xW (eqT (zb (i := 0) rfl) zf rfl) rfl) (Wm (vZ (eqT (zb (i := 0) rfl) zf rfl) (Wg (f2E (v9 (os := [lfI b, lfI a]) (zW (zb (i := 3) rfl) (zW (zb (i := 2) rfl) yt)) (szl rfl) rfl rfl) (WD.e (vK (zx (zbQ (zb (i := 3) rfl) zf rfl) zP) rfl rfl)) (ziJ.trans (by show _ = some (R0.im (.int (jL a b))); unfold jL; by_cases h : b = 0 <;> simp [h]))))))))
 · have P : ∀ a ∈ ([0, 1, 2, 3] : List Int), ∀ b ∈ ([0, 1, 2, 3] : List Int), zO [(true, .int 3), (true, .int (4 : Nat)), (true, .int a), (true, .int b)] = sI (jK 3 4 a b) := by
    intro a ma b mb
    simp only [zS, List.not_mem_nil, or_false] at ma mb
    rcases ma with rfl | rfl | rfl | rfl <;> rcases mb with rfl | rfl | rfl | rfl <;> rfl
   exact f4 (P := λ a => zO [(true, .int 3), (true, .int (4 : Nat)), (true, .int a), (true, .int b)] = sI (jK 3 4 a b)) (λ a m => f4 (P := λ b => zO [(true, .int 3), (true, .int (4 : Nat)), (true, .int a), (true, .int b)] = sI (jK 3 4 a b)) (P a m) hb) ha
open L2 (yq)
abbrev imB : SF := (zB (zJ true 2 (f2 (fV 2) (fV 1) (zp .FloorDiv)))
 (yO (ww 3 (dC (f2 (wH (dC (f2 (fV 2) (fV 1) (zp .Mod)) (dC (f2 (fC (.int 1)) (f2 (fV 2) (f2 (fV 1) (fC (.int 1)) (zp .Sub)) (zp .Mod)) (zp .Add)) dN))) (f2 (fV 0) (fC (.int 1)) (zp .Sub)) ixP) dN) vm)))
theorem ziz {k x : Int} {n : Nat} (hk : k = 1 \/ k = 2) (hn : 1 <= n) (hn2 : n <= 8) : ∃ (ys : List Int) (z : Int) (e4 : Option O), ys.length = n - 1 /\ (∀ y ∈ ys, InR n y /\ (k = 2 -> 1 <= y)) /\ forL (gN 4) imB (yL 1 (n - 1)) [sI k, sI n, sI x, sN [], none] = some (.nx [sI k, sI n, sI z, sN (ys.map lfI), e4]) := by
 obtain ⟨as', hf, ys, z, e4, rfl, hl, hy⟩ := xf (g := gN 4) (f := imB)
  (λ i as => ∃ (ys : List Int) (z : Int) (e4 : Option O), as = [sI k, sI n, sI z, sN (ys.map lfI), e4] /\ ys.length = i /\ ∀ y ∈ ys, InR n y /\ (k = 2 -> 1 <= y))
  (yL 1 (n - 1)) 0 [sI k, sI n, sI x, sN [], none] (λ i y as hx hI => by
   obtain ⟨ys, z, e4, rfl, hl, hy⟩ := hI
   obtain ⟨rfl, hi⟩ := yW hx
   have m0 := Int.emod_nonneg (z / n) (show (n : Int) ≠ 0 by omega)
   have m1 := Int.emod_lt_of_pos (z / n) (show (0 : Int) < n by omega)
   have q0 := Int.emod_nonneg (z / n) (show (n : Int) - 1 ≠ 0 by omega)
   have q1 := Int.emod_lt_of_pos (z / n) (show (0 : Int) < (n : Int) - 1 by omega)
   have hp : ixP (.lst [.int (z / n % n), .int (1 + z / n % (n - 1))]) (.int (k - 1)) = some (.im (.int (if k = 1 then z / n % n else 1 + z / n % (n - 1)))) := by rcases hk with rfl | rfl <;> rfl
   have ap := zaz (i := 3) (as := [sI k, sI n, sI (z / n), sN (ys.map lfI), sI (1 + i)]) rfl (by rw [zD]; exact yq (by omega)) (f2E (v9 (os := [lfI (z / n % n), lfI (1 + z / n % (n - 1))]) (zW (zU (zb (i := 2) rfl) (zb (i := 1) rfl) (by omega)) (zW (yd zf (zU (zb (i := 2) rfl) (zcl (zb (i := 1) rfl) zf) (by omega))) yt)) (szl rfl) rfl rfl) (WD.e (zcl (zb (i := 0) rfl) zf)) hp)
   rw [<- Yt] at ap
   refine ⟨_, rfl, _, zZ (yf (i := 2) (yR (zb (i := 2) rfl) (zb (i := 1) rfl) (by omega) (zM (by omega) (by omega))) (zE rfl)) ap, _, _, _, rfl, by rw [zzG, hl]; rfl, λ y m => (zzJ.mp m).elim (hy y) λ m => ?_⟩
   rw [zzO.mp m]
   rcases hk with rfl | rfl
   · rw [if_pos rfl]; exact ⟨⟨m0, m1⟩, λ h => nomatch h⟩
   · rw [if_neg (by decide)]; exact ⟨⟨by omega, by omega⟩, λ _ => by omega⟩)
  ⟨[], x, none, rfl, rfl, λ _ m => nomatch m⟩
 rw [yC] at hl
 exact ⟨ys, z, e4, by omega, hy, hf⟩
theorem zhi {k x : Int} {n m : Nat} (h : KN k n) (h0 : k ≠ 0) (hn2 : n <= 8) (hm : 0 < m) : ∃ r, Row n r /\ LD n m (jK k n) (eK k) (λ _ a => rAt r a) /\ RE (vL [(true, .int k), (true, .int n), (true, .int x)]) (zN r) := by
 have n1 := h.n1
 rcases h with ⟨rfl, hn⟩ | ⟨rfl, hn⟩ | ⟨rfl, hn⟩ | ⟨rfl, rfl⟩
 · exact absurd rfl h0
 · obtain ⟨ys, z, e4, l1, l2, hf⟩ := ziz (k := 1) (x := x) (n := n) (.inl rfl) hn hn2
   have hp := sortI_perm ys
   have hlen : (sortI ys).length = n - 1 := by rw [hp.length_eq, l1]
   have hr : Row n (0 :: sortI ys) := ⟨by rw [zzQ, hlen]; omega, λ y m => by
    rcases zS.mp m with rfl | m
    · omega
    · exact (l2 y (hp.mem_iff.mp m)).1⟩
   have s3 := xr (i := 3) (as := [sI 1, sI n, sI z, sN (ys.map lfI), e4]) (zmx (i := 3) (g := ziO) (zs := (sortI ys).map D.int) rfl (by
    show (Xj (ys.map D.int)).bind _ = _
    rw [zew]
    show (if ys.length < 64 then _ else _) = _
    rw [if_pos (by omega)])) (zE rfl)
   rw [zfO] at s3
   refine ⟨_, hr, ldM hm rfl (λ a ha => (rowAt hr ha).2) λ a b ha hb hab => ?_, vO rfl (zK (xW (eqT (zb (i := 0) rfl) zf rfl) rfl) (zK (xr (i := 3) (Zm yt (szl rfl)) (zE rfl)) (zK (xR (zeH (i := 1) (j := n) (zx zf (zx (zb (i := 1) rfl) zP)) (by omega) (by omega) (by omega) (by omega)) (by rw [show ((n : Int) - 1).toNat = n - 1 by omega]; exact hf)) (zK (vZ (eqT (zb (i := 0) rfl) zf rfl) s3) (Zo (zlm (i := 3) (xs := sortI ys) (ds := [.int 0]) (v9 (os := [lfI 0]) (zW zf yt) (szl rfl) rfl rfl) rfl (by rw [hlen]; show 1 + _ <= _; omega)))))))⟩
   by_cases he : a = b
   · rw [he]; exact Int.le_refl _
   have a0 := ha.1
   have b1 := hb.2
   have hs : (0 :: sortI ys).Pairwise (· <= ·) := List.pairwise_cons.mpr ⟨λ y m => (l2 y (hp.mem_iff.mp m)).1.1, Y8 ys⟩
   rw [Y9 (by rw [hr.1]; omega), Y9 (by rw [hr.1]; omega)]
   exact zgT hs (by omega) (by rw [hr.1]; omega)
 · obtain ⟨ys, z, e4, l1, l2, hf⟩ := ziz (k := 2) (x := x) (n := n) (.inr rfl) hn hn2
   have hr : Row n (0 :: ys) := ⟨by rw [zzQ, l1]; omega, λ y m => by
    rcases zS.mp m with rfl | m
    · omega
    · exact (l2 y m).1⟩
   refine ⟨_, hr, ldL rfl (λ a ha => (rowAt hr ha).2) λ a ha ha0 => ?_, vO rfl (zK (xW (eqT (zb (i := 0) rfl) zf rfl) rfl) (zK (xr (i := 3) (Zm yt (szl rfl)) (zE rfl)) (zK (xR (zeH (i := 1) (j := n) (zx zf (zx (zb (i := 1) rfl) zP)) (by omega) (by omega) (by omega) (by omega)) (by rw [show ((n : Int) - 1).toNat = n - 1 by omega]; exact hf)) (zK (xW (eqT (zb (i := 0) rfl) zf rfl) rfl) (Zo (zlm (i := 3) (xs := ys) (ds := [.int 0]) (v9 (os := [lfI 0]) (zW zf yt) (szl rfl) rfl rfl) rfl (by rw [l1]; show 1 + _ <= _; omega)))))))⟩
   have a0 := ha.1
   have a1 := ha.2
   have hk : a.toNat < (0 :: ys).length := by rw [hr.1]; omega
   rw [Y9 hk]
   obtain ⟨j, ek⟩ : ∃ j, a.toNat = j + 1 := ⟨a.toNat - 1, by omega⟩
   have : (0 :: ys)[a.toNat] = ys[j]'(by rw [zzQ] at hk; omega) := by simp only [ek, List.getElem_cons_succ]
   rw [this]
   have := (l2 _ (List.getElem_mem (show j < ys.length by rw [zzQ] at hk; omega))).2 rfl
   omega
 · obtain ⟨r, r1, r2⟩ := zfX (f := λ a => if x % 2 = 0 then a else sP a) (N := 4) (n := 4) (u := true) (as := [sI 3, sI (4 : Nat), sI x, none, none]) (cap := [none, some 2]) (fr := aC (fV 1) aN) (fe := f2 (wH (dC (fV 0) (dC (f2 (f2 (f2 (fC (.int 2)) (f2 (fC (.int 1)) (f2 (fV 0) (fC (.int 2)) (zp .Mod)) (zp .Sub)) (zp .Mult)) (fC (.int 1)) (zp .Add)) (f2 (fV 0) (fC (.int 2)) (zp .FloorDiv)) (zp .Sub)) dN))) (f2 (fV 1) (fC (.int 2)) (zp .Mod)) ixP) (zx (zb rfl) zP) (by omega) λ b hb => by
    have b0 := hb.1
    have b1 := hb.2
    refine ⟨[sI b, sI x], rfl, zle (v9 (os := [lfI b, lfI (2 * (1 - b % 2) + 1 - b / 2)]) (zW (zb (i := 0) rfl) (zW (zcl (yd (xY zf (zcl zf (zU (zb (i := 0) rfl) zf (by decide))) (zM (by decide) (by decide)) (zM (by omega) (by omega))) zf) (yR (zb (i := 0) rfl) zf (by decide) (zM (by decide) (by decide)))) yt)) (szl rfl) rfl rfl) (WD.e (zU (zb (i := 1) rfl) zf (by decide))) zhq, ?_⟩
    show InR 4 (if x % 2 = 0 then b else sP b)
    split
    · exact hb
    · exact f4 (P := λ a => InR 4 (sP a)) (by decide) hb
   refine ⟨r, ⟨r1.1, r1.2.1⟩, ldP ?_, vO rfl (zfW (ziH (eqT (zb (i := 0) rfl) zf rfl) (Zo r2)))⟩
   by_cases hx : x % 2 = 0
   · exact .inl λ a ha => (r1.2.2 a ha).trans (if_pos hx)
   · exact .inr λ a ha => (r1.2.2 a ha).trans (if_neg hx)
theorem zbL {k x : Int} {n m : Nat} (h : KN k n) (hn2 : n <= 8) (hm0 : 0 < m) (hm : m <= 8) (hx : St x) : ∃ T, Tab m n T /\ LD n m (jK k n) (eK k) (jAt T) /\ RE (yK [(true, .int k), (true, .int n), (true, .int m), (true, .int x)]) (ye T) := by
 have n1 := h.n1
 have hJ := ljK h
 by_cases h0 : k = 0
 · subst h0
   obtain ⟨g, g0, g1, gn, gm, hg⟩ := zgK (n := n) (m := m) n1 hn2 hm
   have q0 : 0 <= (n : Int) / g := Int.ediv_nonneg (by omega) (by omega)
   have q1 : (n : Int) / g <= n := Int.ediv_le_self _ (by omega)
   have hLD := ldS (x0 := x % 8) (x1 := x / 8 % 8) n1 hm0 g0 gn gm
   have hd : WD (f2 (fV 1) (zG (aC (fV 1) (aC (fV 2) aN)) wQ) (zp .FloorDiv)) [sI 0, sI n, sI m, sI x, none, none] true (.int ((n : Int) / g)) := yR (zb (i := 1) rfl) (vq (zx (zb (i := 1) rfl) (zx (zb (i := 2) rfl) zP)) hg) g0 (zM (by omega) (by omega))
   generalize (n : Int) / g = q at q0 q1 hLD hd
   have y0 := Int.emod_nonneg (x / 8) (show (8 : Int) ≠ 0 by decide)
   have y1 := Int.emod_lt_of_pos (x / 8) (show (0 : Int) < 8 by decide)
   have z0 := Int.emod_nonneg x (show (8 : Int) ≠ 0 by decide)
   have z1 := Int.emod_lt_of_pos x (show (0 : Int) < 8 by decide)
   have s5 := yf (st := true) (i := 5) (as := [sI 0, sI n, sI m, sI x, none, none]) (xY hd (zU (yR (zb (i := 3) rfl) (zf (x := .int 8)) (by decide) (zM (by decide) (by decide))) (zf (x := .int 8)) (by decide)) (zM (by omega) (by omega)) (zM (by omega) (by omega))) (zE rfl)
   have st0 : 0 <= q * (x / 8 % 8) := Int.mul_nonneg q0 y0
   have st1 : q * (x / 8 % 8) <= 8 * 8 := Int.mul_le_mul (by omega) (by omega) y0 (by decide)
   obtain ⟨T, t1, t2⟩ := zfS (f := λ c a => (x % 8 * a + q * (x / 8 % 8) * c) % n) (n := n) (k := m) (u := true) (as := [sI 0, sI n, sI m, sI x, none, sI (q * (x / 8 % 8))]) (cap := [none, some 1, some 5, some 3]) (fr := aC (fV 2) aN)
    (fe := yE (ym (aC (fV 1) aN) yw) [none, some 1, some 2, some 0, some 3] (gN 0) wk (f2 (f2 (f2 (f2 (fV 4) (fC (.int 8)) (zp .Mod)) (fV 0) (zp .Mult)) (f2 (fV 2) (fV 3) (zp .Mult)) (zp .Add)) (fV 1) (zp .Mod))) (zx (zb rfl) zP) (by omega) λ c hc => by
     have c0 := hc.1
     have c1 := hc.2
     obtain ⟨r, r1, r2⟩ := zfX (f := λ a => (x % 8 * a + q * (x / 8 % 8) * c) % n) (N := n) (n := n) (u := true) (as := [sI c, sI n, sI (q * (x / 8 % 8)), sI x]) (cap := [none, some 1, some 2, some 0, some 3]) (fr := aC (fV 1) aN) (fe := f2 (f2 (f2 (f2 (fV 4) (fC (.int 8)) (zp .Mod)) (fV 0) (zp .Mult)) (f2 (fV 2) (fV 3) (zp .Mult)) (zp .Add)) (fV 1) (zp .Mod)) (zx (zb rfl) zP) (by omega) λ b hb => by
      have b0 := hb.1
      have b1 := hb.2
      exact ⟨[sI b, sI n, sI (q * (x / 8 % 8)), sI c, sI x], rfl, WD.e (zU (yd (xY (zU (zb (i := 4) rfl) zf (by decide)) (zb (i := 0) rfl) (zM (by omega) (by omega)) (zM (by omega) (by omega))) (xY (zb (i := 2) rfl) (zb (i := 3) rfl) (zM (by omega) (by omega)) (zM (by omega) (by omega)))) (zb (i := 1) rfl) (by omega)), zax n1⟩
     exact ⟨[sI c, sI n, sI (q * (x / 8 % 8)), sI x], r, rfl, r2, r1⟩
   refine ⟨T, t1.1, hLD.congr hm0 (ljS n1) (λ _ _ _ _ => rfl) (λ c a hc ha => ?_), vO rfl (zK (xW (vg (zdY (zb (i := 0) rfl) zf) rfl) rfl) (zK s5 (Zo t2)))⟩
   rw [t1.2 c a hc ha]
   show (x % 8 * a + q * (x / 8 % 8) * c) % (n : Int) = (a * (x % 8) + c * q * (x / 8 % 8)) % (n : Int)
   rw [Int.mul_comm (x % 8) a, Int.mul_comm (q * (x / 8 % 8)) c, Int.mul_assoc c q]
 · have hk : 0 < k := by rcases h with ⟨rfl, _⟩ | ⟨rfl, _⟩ | ⟨rfl, _⟩ | ⟨rfl, _⟩ <;> omega
   obtain ⟨r, hr, hd, hi⟩ := zhi (x := x) h h0 hn2 hm0
   obtain ⟨T, t1, t2⟩ := copies (n := n) (m := m) (s := true) (u := true) (cap := [none, some 4]) (as := [sI k, sI n, sI m, sI x, sT (zN r), none]) (fr := aC (fV 2) aN) hr hm (zx (zb rfl) zP) (λ b => ⟨[sI b, sT (zN r)], rfl, zb rfl⟩)
   exact ⟨T, t1.1, hd.congr hm0 hJ (λ _ _ _ _ => rfl) t1.2, vO rfl (zfW (ziH (vg (zdY (zb (i := 0) rfl) zf) (congrArg some (decide_eq_true hk))) (zK (Xn (p := 4) (zfG (WD.e (zb (i := 0) rfl)) (WD.e (zb (i := 1) rfl)) (WD.e (zb (i := 3) rfl)) hi) (zE rfl)) (Zo t2))))⟩
open L2 (yq)
theorem kinds_ok {x : Int} : ∃ (k : Int) (n : Nat) (k2 : Int) (n2 : Nat), KN k n /\ KN k2 n2 /\ n * n2 <= 8 /\ eK k2 = 0 /\ RE (vG [(true, .int x)]) (.tup [.int k, .int n, .int k2, .int n2]) := by
 have s1 : zJ true 1 (f2 (fV 0) (fC (.int 4)) (zp .Mod)) [sI x, none, none, none] = some (.nx [sI x, sI (x % 4), none, none]) := yf (i := 1) (zU (zb (i := 0) rfl) zf (by decide)) (zE rfl)
 obtain ⟨sz, z1, z8, s2⟩ : ∃ sz : Int, 1 <= sz /\ sz <= 8 /\ zJ true 2 (f2 (wH (dC (f2 (fC (.int 1)) (f2 (f2 (fV 0) (fC (.int 4)) (zp .FloorDiv)) (fC (.int 5)) (zp .Mod)) (zp .Add)) (dC (f2 (fC (.int 1)) (f2 (f2 (fV 0) (fC (.int 4)) (zp .FloorDiv)) (fC (.int 8)) (zp .Mod)) (zp .Add)) dN))) (fP (aC (f2 (f2 (f2 (fV 0) (fC (.int 40)) (zp .FloorDiv)) (fC (.int 4)) (zp .Mod)) (fC (.int 1)) (yj .Eq)) aN) Yu) ixP) [sI x, sI (x % 4), none, none] = some (.nx [sI x, sI (x % 4), sI sz, none]) := by
  have w5 := yd (as := [sI x, sI (x % 4), none, none]) (zf (x := .int 1)) (zU (yR (zb (i := 0) rfl) (zf (x := .int 4)) (by decide) (zM (by decide) (by decide))) (zf (x := .int 5)) (by decide))
  have w8 := yd (as := [sI x, sI (x % 4), none, none]) (zf (x := .int 1)) (zU (yR (zb (i := 0) rfl) (zf (x := .int 4)) (by decide) (zM (by decide) (by decide))) (zf (x := .int 8)) (by decide))
  refine ⟨if (x / 40 % 4 == 1) = true then 1 + x / 4 % 8 else 1 + x / 4 % 5, by split <;> omega, by split <;> omega, yf (i := 2) (f2E (v9 (os := [lfI (1 + x / 4 % 5), lfI (1 + x / 4 % 8)]) (zW w5 (zW w8 yt)) (szl rfl) rfl rfl) (WD.e (vK (zx (zbQ (c := x / 40 % 4 == 1) (zU (yR (zb (i := 0) rfl) (zf (x := .int 40)) (by decide) (zM (by decide) (by decide))) (zf (x := .int 4)) (by decide)) (zf (x := .int 1)) rfl) zP) rfl rfl)) ziJ) (zE rfl)⟩
 obtain ⟨n, hk, n8, s3⟩ : ∃ n : Nat, KN (x % 4) n /\ n <= 8 /\ sIf (fT (f2 (fV 1) (fC (.int 3)) (yj .Eq))) (zJ true 2 (fC (.int 4))) sNx [sI x, sI (x % 4), sI sz, none] = some (.nx [sI x, sI (x % 4), sI n, none]) := by
  by_cases h3 : x % 4 = 3
  · exact ⟨4, by rw [h3]; exact .inr (.inr (.inr ⟨rfl, rfl⟩)), by decide, vZ (eqT (zb (i := 1) rfl) zf (by simp [h3])) (yf (i := 2) zf (zE rfl))⟩
  · refine ⟨sz.toNat, ?_, by omega, (xW (eqT (zb (i := 1) rfl) zf (by simp [h3])) rfl).trans (by rw [show ((sz.toNat : Nat) : Int) = sz by omega]; rfl)⟩
    rcases (show x % 4 = 0 \/ x % 4 = 1 \/ x % 4 = 2 by omega) with h | h | h <;> rw [h]
    · exact .inl ⟨rfl, by omega⟩
    · exact .inr (.inl ⟨rfl, by omega⟩)
    · exact .inr (.inr (.inl ⟨rfl, by omega⟩))
 have s4 : zJ true 3 (f2 (fC (.int 1)) (f2 (f2 (fV 0) (fC (.int 160)) (zp .FloorDiv)) (fC (.int 3)) (zp .Mod)) (zp .Add)) [sI x, sI (x % 4), sI n, none] = some (.nx [sI x, sI (x % 4), sI n, sI (1 + x / 160 % 3)]) := yf (i := 3) (yd zf (zU (yR (zb (i := 0) rfl) zf (by decide) (zM (by decide) (by decide))) zf (by decide))) (zE rfl)
 have n1 := hk.n1
 obtain ⟨n2, p2, q2, s5⟩ : ∃ n2 : Nat, 1 <= n2 /\ n * n2 <= 8 /\ sIf (fT (f2 (f2 (fV 2) (fV 3) (zp .Mult)) (fC (.int 8)) (yj .Gt))) (zJ true 3 (fC (.int 1))) sNx [sI x, sI (x % 4), sI n, sI (1 + x / 160 % 3)] = some (.nx [sI x, sI (x % 4), sI n, sI n2]) := by
  have wm := zdY (xY (as := [sI x, sI (x % 4), sI n, sI (1 + x / 160 % 3)]) (zb (i := 2) rfl) (zb (i := 3) rfl) (zM (i := (n : Int)) (by omega) (by omega)) (zM (i := 1 + x / 160 % 3) (by omega) (by omega))) (zf (x := .int 8))
  by_cases h : (8 : Int) < (n : Int) * (1 + x / 160 % 3)
  · exact ⟨1, by decide, by omega, vZ (vg wm (congrArg some (decide_eq_true h))) (yf (i := 3) zf (zE rfl))⟩
  · have e : (((1 + x / 160 % 3).toNat : Nat) : Int) = 1 + x / 160 % 3 := by omega
    refine ⟨(1 + x / 160 % 3).toNat, by omega, ?_, (xW (vg wm (congrArg some (decide_eq_false h))) rfl).trans (by rw [e]; rfl)⟩
    have : ((n * (1 + x / 160 % 3).toNat : Nat) : Int) <= 8 := by rw [zzS, e]; omega
    omega
 have w7 := zU (as := [sI x, sI (x % 4), sI n, sI n2]) (yR (zb (i := 0) rfl) (zf (x := .int 480)) (by decide) (zM (by decide) (by decide))) (zf (x := .int 3)) (by decide)
 refine ⟨x % 4, n, x / 480 % 3, n2, hk, ?_, q2, ?_, vO rfl (zK s1 (zK s2 (zK s3 (zK s4 (zK s5 (Zo (zkD (os := [lfI (x % 4), lfI n, lfI (x / 480 % 3), lfI n2]) (zW (zb (i := 1) rfl) (zW (zb (i := 2) rfl) (zW w7 (zW (zb (i := 3) rfl) yt)))) (szl rfl) rfl rfl))))))) ⟩
 · rcases (show x / 480 % 3 = 0 \/ x / 480 % 3 = 1 \/ x / 480 % 3 = 2 by omega) with h | h | h <;> rw [h]
   · exact .inl ⟨rfl, by omega⟩
   · exact .inr (.inl ⟨rfl, by omega⟩)
   · exact .inr (.inr (.inl ⟨rfl, by omega⟩))
 · exact if_neg (by omega)
abbrev ch (c : Nat) : Str := ⟨#[c]⟩
theorem zgs : ∀ cs : List Nat, (Str.join "" (cs.map ch)).cps.toList = cs
 | [] => rfl
 | [x] => rfl
 | x :: y :: r => by
  show (ch x ++ "" ++ Str.join "" ((y :: r).map ch)).cps.toList = _
  rw [Str.cps_append, Str.cps_append, Array.toList_append, Array.toList_append, zgs (y :: r)]
  rfl
def lt (c : Int) (k : Nat) (at_ : Int) (i : Nat) : Nat := 97 + ((mx c i / 64 + (k : Int) * (if ((i : Int) == at_) = true then 1 else 0)) % 26).toNat
def wd (c : Int) (n : Nat) (at_ : Int) (k : Nat) : Str := Str.join "" (((List.range n).map (lt c k at_)).map ch)
theorem zmL {c at_ : Int} {n k j : Nat} (h0 : 0 <= at_) (h1 : at_ < n) (hk : k < 10) (hj : j < 10) (h : wd c n at_ k = wd c n at_ j) : k = j := by
 have h := congrArg (λ s : Str => s.cps.toList[at_.toNat]?) h
 simp only [wd, zgs, zzF] at h
 rw [List.getElem?_range (by omega)] at h
 have h : some (lt c k at_ at_.toNat) = some (lt c j at_ at_.toNat) := h
 injection h with h
 unfold lt at h
 rw [show ((at_.toNat : Nat) : Int) = at_ by omega] at h
 simp only [beq_self_eq_true, if_true, Int.mul_one] at h
 omega
theorem zhw {c : Int} : ∃ ss : List Str, ss.length = 10 /\ ss.Nodup /\ RE (vI [(true, .int c), (true, .int (10 : Nat))]) (.lst (ss.map D.str)) := by
 have z0 := Int.emod_nonneg c (show (8 : Int) ≠ 0 by decide)
 have z1 := Int.emod_lt_of_pos c (show (0 : Int) < 8 by decide)
 obtain ⟨n, hn, hn1, hn8⟩ : ∃ n : Nat, (n : Int) = 1 + c % 8 /\ 1 <= n /\ n <= 8 := ⟨(1 + c % 8).toNat, by omega, by omega, by omega⟩
 have t0 := Int.emod_nonneg (c / 8) (show (n : Int) ≠ 0 by omega)
 have t1 := Int.emod_lt_of_pos (c / 8) (show (0 : Int) < n by omega)
 have s3 := yf (st := true) (i := 3) (as := [sI c, sI (10 : Nat), sT (.str abc), none, none, none, none, none]) (yd (zf (x := .int 1)) (zU (zb (i := 0) rfl) (zf (x := .int 8)) (by decide))) (zE rfl)
 rw [<- hn] at s3
 have s4 := yf (st := true) (i := 4) (as := [sI c, sI (10 : Nat), sT (.str abc), sI n, none, none, none, none]) (zU (yR (zb (i := 0) rfl) (zf (x := .int 8)) (by decide) (zM (by decide) (by decide))) (zb (i := 3) (x := .int n) (s := true) rfl) (by omega)) (zE rfl)
 generalize hat : c / 8 % (n : Int) = at_ at t0 t1 s4
 obtain ⟨as', hf, os, e6, e7, rfl, ho⟩ := xf (g := gN 6) (f := (zB (zJ true 7 (yE (ym (aC (fV 3) aN) yw) [none, some 2, some 6, some 0, some 4] (gN 0) wk (f2 (fV 1) (f2 (f2 (f2 (zG (aC (fV 3) (aC (fV 0) aN)) zV) (fC (.int 64)) (zp .FloorDiv)) (f2 (fV 2) (fP (aC (f2 (fV 0) (fV 4) (yj .Eq)) aN) Yu) (zp .Mult)) (zp .Add)) (fC (.int 26)) (zp .Mod)) ixP)))
  (yO (ww 5 (dC (zbC .str (fC (.str "")) (aC (fV 7) aN) zec) dN) vm))))
  (λ i as => ∃ (os : List O) (e6 e7 : Option O), as = [sI c, sI (10 : Nat), sT (.str abc), sI n, sI at_, sN os, e6, e7] /\ Ows D.str (λ _ => True) os ((List.range i).map (wd c n at_)))
  (yL 0 10) 0 [sI c, sI (10 : Nat), sT (.str abc), sI n, sI at_, sN [], none, none] (λ i x as hx' hI => by
   obtain ⟨os, e6, e7, rfl, ho⟩ := hI
   obtain ⟨rfl, hi⟩ := yW hx'
   rw [Nat.zero_add] at ho
   rw [Int.zero_add]
   obtain ⟨l, l1, l2, l3⟩ := zkI (λ c => D.str (ch c)) (Q := λ j a => a = lt c i at_ j) (n := n) (u := true) (as := [sI c, sI (10 : Nat), sT (.str abc), sI n, sI at_, sN os, sI i, e7]) (cap := [none, some 2, some 6, some 0, some 4]) (fr := aC (fV 3) aN) (fe := f2 (fV 1) (f2 (f2 (f2 (zG (aC (fV 3) (aC (fV 0) aN)) zV) (fC (.int 64)) (zp .FloorDiv)) (f2 (fV 2) (fP (aC (f2 (fV 0) (fV 4) (yj .Eq)) aN) Yu) (zp .Mult)) (zp .Add)) (fC (.int 26)) (zp .Mod)) ixP) (zx (zb rfl) zP) (by omega) λ j hj => by
    have q0 := Int.emod_nonneg (mx c j / 64 + (i : Int) * (if ((j : Int) == at_) = true then 1 else 0)) (show (26 : Int) ≠ 0 by decide)
    have q1 := Int.emod_lt_of_pos (mx c j / 64 + (i : Int) * (if ((j : Int) == at_) = true then 1 else 0)) (show (0 : Int) < 26 by decide)
    refine ⟨[sI j, sT (.str abc), sI i, sI c, sI at_], _, rfl, WD.e (yx (zb (i := 1) rfl) (zU (yd (yR (vq (zx (zb (i := 3) rfl) (zx (zb (i := 0) rfl) zP)) (Wc (by omega) (by omega))) zf (by decide) (zM (by decide) (by decide))) (xY (zb (i := 2) rfl) (vK (x := .int (if ((j : Int) == at_) = true then 1 else 0)) (zx (zbQ (c := (j : Int) == at_) (zb (i := 0) rfl) (zb (i := 4) rfl) rfl) zP) rfl rfl) (zM (by omega) (by omega)) (by split <;> exact zM (by decide) (by decide)))) zf (by decide)) (zmE q0 q1) rfl), rfl⟩
   have el : l = (List.range n).map (lt c i at_) := by
    refine List.ext_getElem? λ j => ?_
    rw [zzF]
    by_cases hj : j < n
    · rw [List.getElem?_range hj, zzB (by omega), l2 j _ (zzB (by omega))]; rfl
    · rw [List.getElem?_eq_none (by omega), List.getElem?_eq_none (by rw [List.length_range]; omega)]; rfl
   have hm : WE (zbC .str (fC (.str "")) (aC (fV 7) aN) zec) [sI c, sI (10 : Nat), sT (.str abc), sI n, sI at_, sN os, sI i, sT (.lst (l.map λ c => D.str (ch c)))] (.str (wd c n at_ i)) := by
    refine WD.e (zkt zf rfl (zx (zb (i := 7) rfl) zP) ?_ rfl)
    have e1 : l.map (λ c => D.str (ch c)) = (l.map ch).map D.str := by rw [List.map_map]; rfl
    rw [e1]
    show (zaO ((l.map ch).map D.str)).bind _ = _
    rw [zei]
    show (if ((l.map ch).map (·.length)).sum + (l.map ch).length * 0 <= 16777216 then some (R0.im (.str (Txt.join "" (l.map ch)))) else none) = _
    have e2 := znD (l.map ch) λ s m => by
     obtain ⟨a, _, rfl⟩ := List.mem_map.mp m
     rfl
    rw [if_pos (by rw [e2, zD]; omega), zjo, el]; rfl
   obtain ⟨os', o1, o2⟩ := zoJ (i := 5) (toD := D.str) (Q := λ _ => True) rfl ho (by rw [zD, List.length_range]; omega) hm trivial
   refine ⟨[sI c, sI (10 : Nat), sT (.str abc), sI n, sI at_, sN os, sI i, e7], rfl, _, zZ (Xn (p := 7) l3 (zE rfl)) o2, os', _, _, rfl, ?_⟩
   rw [show 0 + i + 1 = i + 1 by omega, List.range_succ, List.map_append]
   exact o1)
  ⟨[], none, none, rfl, Ows.nil⟩
 rw [yC, Nat.zero_add] at ho
 refine ⟨(List.range 10).map (wd c n at_), by rw [zD, List.length_range], ?_, vO rfl (zK (yf (i := 2) zf (zE rfl)) (zK s3 (zK s4 (zK (xr (i := 5) (Zm yt (szl rfl)) (zE rfl)) (zK (xR (xq (zx (zb (i := 1) rfl) zP) (by decide) (by decide)) hf) (Ows.retB (i := 5) rfl ho))))))⟩
 exact List.pairwise_map.mpr ((List.nodup_range (n := 10)).imp_of_mem λ ha hb hne he => hne (zmL t0 t1 (List.mem_range.mp ha) (List.mem_range.mp hb) he))
open L2 (yq)
structure Par where
 c : Int
 h : Int
 w : Nat
 xs : List Int
 ys : List Int
 k : Int
 n : Nat
 k2 : Int
 n2 : Nat
 m : Nat
structure POk (P : Par) : Prop where
 k1 : KN P.k P.n
 k2 : KN P.k2 P.n2
 n8 : P.n * P.n2 <= 8
 e2 : eK P.k2 = 0
 m1 : 1 <= P.m
 m6 : P.m <= 6
 w4 : P.w <= 4
 xl : P.xs.length = 1 + 2 * P.w
 xS : ∀ x ∈ P.xs, St x
 yl : P.ys.length = 13
 yS : ∀ x ∈ P.ys, St x
abbrev Par.N (P : Par) : Nat := P.n * P.n2
theorem POk.n1 {P : Par} (h : POk P) : 1 <= P.n := h.k1.n1
theorem POk.p2 {P : Par} (h : POk P) : 1 <= P.n2 := h.k2.n1
theorem POk.a8 {P : Par} (h : POk P) : P.n <= 8 := zzL (Nat.le_mul_of_pos_right _ h.p2) h.n8
theorem POk.b8 {P : Par} (h : POk P) : P.n2 <= 8 := zzL (Nat.le_mul_of_pos_left _ h.n1) h.n8
theorem POk.N1 {P : Par} (h : POk P) : 1 <= P.N := Nat.mul_pos h.n1 h.p2
abbrev Z (P : Par) (e11 e12 e13 e14 e15 e16 e17 e18 e19 e20 e21 e22 e23 e24 e25 e26 e27 : Option O) : AS :=
 [sI P.c, sI P.h, sI P.w, sT (zN P.xs), sT (zN P.ys), sI P.k, sI P.n, sI P.k2, sI P.n2, sI P.m, sI P.N, e11, e12, e13, e14, e15, e16, e17, e18, e19, e20, e21, e22, e23, e24, e25, e26, e27]
def Rq (r : Option Out) (Q : D -> Prop) : Prop := ∃ x, Rt r x /\ Q x
theorem vY {f g : SF} {as as1 : AS} {Q : D -> Prop} (h1 : f as = some (.nx as1)) (h2 : Rq (g as1) Q) : Rq (zB f g as) Q := by
 obtain ⟨x, h, q⟩ := h2
 exact ⟨x, zK h1 h, q⟩
theorem zlC {f : SF} {as : AS} {i : Nat} {o : O} {Q : D -> Prop} (h : as[i]? = some (some o)) (k : Rq (f (as.set i (some o.frz))) Q) : Rq (zcQ i f as) Q := by
 unfold zcQ
 rw [h]; exact k
theorem zkr {c h : Int} {w : Nat} (hw : w <= 4) {f : SF} {Q : D -> Prop} (K : ∀ P : Par, POk P -> P.w = w -> P.h = h -> Rq (f (Z P none none none none none none none none none none none none none none none none none)) Q) :
 Rq ((zB (zJ true 3 (zG (aC (fV 0) (aC (f2 (fC (.int 1)) (f2 (fC (.int 2)) (fV 2) (zp .Mult)) (zp .Add)) aN)) yJ))
 (zB (zJ true 4 (zG (aC (fV 1) (aC (fC (.int 13)) aN)) yJ))
 (zB (zes (zG (aC (f2 (fV 3) (fC (.int 0)) ixP) aN) vG) (gT 4 (gsC (gN 5) (gsC (gN 6) (gsC (gN 7) (gsC (gN 8) gsN))))))
 (zB (zJ true 9 (f2 (f2 (fC (.int 1)) (f2 (f2 (fV 4) (fC (.int 0)) ixP) (fC (.int 4)) (zp .Mod)) (zp .Add)) (f2 (fC (.int 2)) (fP (aC (f2 (f2 (f2 (f2 (fV 4) (fC (.int 0)) ixP) (fC (.int 4)) (zp .FloorDiv)) (fC (.int 8)) (zp .Mod)) (fC (.int 5)) (yj .Eq)) aN) Yu) (zp .Mult)) (zp .Add)))
 (zB (zJ true 10 (f2 (fV 6) (fV 8) (zp .Mult))) f))))) (xj 28 [(true, .int c), (true, .int h), (true, .int w)])) Q := by
 have w1 := yd (as := xj 28 [(true, .int c), (true, .int h), (true, .int w)]) (zf (x := .int 1)) (xY (zf (x := .int 2)) (zb (i := 2) (s := true) (x := .int w) rfl) (zM (by decide) (by decide)) (zM (by omega) (by omega)))
 rw [show (1 : Int) + 2 * (w : Int) = ((1 + 2 * w : Nat) : Int) by omega] at w1
 obtain ⟨xs, xl, xS, wx⟩ := stE (m := 1 + 2 * w) (by omega) (WD.e (zb (i := 0) (as := xj 28 [(true, .int c), (true, .int h), (true, .int w)]) rfl)) (WD.e w1)
 obtain ⟨ys, yl, yS, wy⟩ := stE (m := 13) (as := [sI c, sI h, sI w, sT (zN xs), none, none, none, none, none, none, none, none, none, none, none, none, none, none, none, none, none, none, none, none, none, none, none, none]) (b := fC (.int 13)) (by omega) (WD.e (zb (i := 1) rfl)) (WD.e zf)
 obtain ⟨x0, a0, b0⟩ := at2 xS (k := 0) (by omega) (by omega)
 obtain ⟨y0, c0, d0⟩ := at2 yS (k := 0) (by omega) (by omega)
 obtain ⟨k, n, k2, n2, h1, h2, h3, h4, h5⟩ := kinds_ok (x := x0)
 have hm0 : 1 <= 1 + y0 % 4 + 2 * (if (y0 / 4 % 8 == 5) = true then 1 else 0) /\ 1 + y0 % 4 + 2 * (if (y0 / 4 % 8 == 5) = true then 1 else 0) <= 6 := by split <;> omega
 obtain ⟨m, hm⟩ : ∃ m : Nat, (m : Int) = 1 + y0 % 4 + 2 * (if (y0 / 4 % 8 == 5) = true then 1 else 0) := ⟨(1 + y0 % 4 + 2 * (if (y0 / 4 % 8 == 5) = true then 1 else 0)).toNat, by omega⟩
 have P1 : POk ⟨c, h, w, xs, ys, k, n, k2, n2, m⟩ := ⟨h1, h2, h3, h4, by show 1 <= m; omega, by show m <= 6; omega, hw, xl, xS, yl, yS⟩
 have A8 : n <= 8 := P1.a8
 have B8 : n2 <= 8 := P1.b8
 have y4 : WD (f2 (fV 4) (fC (.int 0)) ixP) [sI c, sI h, sI w, sT (zN xs), sT (zN ys), sI k, sI n, sI k2, sI n2, none, none, none, none, none, none, none, none, none, none, none, none, none, none, none, none, none, none, none] true (.int y0) := yx (zb (i := 4) rfl) zf c0 rfl
 have s9 := yf (st := true) (i := 9) (yd (yd (zf (x := .int 1)) (zU y4 (zf (x := .int 4)) (by decide))) (xY (zf (x := .int 2)) (vK (g := Yu) (x := .int (if (y0 / 4 % 8 == 5) = true then 1 else 0)) (zx (zbQ (c := y0 / 4 % 8 == 5) (zU (yR y4 (zf (x := .int 4)) (by decide) (zM (by decide) (by decide))) (zf (x := .int 8)) (by decide)) (zf (x := .int 5)) rfl) zP) rfl rfl) (zM (by decide) (by decide)) (by split <;> exact zM (by decide) (by decide)))) (zE rfl)
 rw [<- hm] at s9
 have s10 := yf (st := true) (i := 10) (as := [sI c, sI h, sI w, sT (zN xs), sT (zN ys), sI k, sI n, sI k2, sI n2, sI m, none, none, none, none, none, none, none, none, none, none, none, none, none, none, none, none, none, none]) (xY (zb (i := 6) rfl) (zb (i := 8) rfl) (zM (i := (n : Int)) (by omega) (by omega)) (zM (i := (n2 : Int)) (by omega) (by omega))) (zE rfl)
 rw [<- zzS] at s10
 exact vY (Xn (p := 3) wx (zE rfl)) (vY (Xn (p := 4) wy (zE rfl)) (vY (zok (zaf (zle (WD.e (zb (i := 3) rfl)) (WD.e zf) a0) h5) rfl) (vY s9 (vY s10 (K ⟨c, h, w, xs, ys, k, n, k2, n2, m⟩ P1 rfl rfl)))))
theorem zjq {P : Par} (h : POk P) {f : SF} {Q : D -> Prop} (K : ∀ (F : List Int) (e11 e13 : Option O), F.Perm (zay P.N) -> Rq (f (Z P e11 (sT (zN F)) e13 none none none none none none none none none none none none none none)) Q) :
 Rq ((zB (zJ false 11 (fP (aC (fV 10) aN) lrP))
 (zB (zJ false 12 (wH dN))
 (zB (yM (ym (aC (fV 10) aN) yw) (gN 13) (yO (ww 12 (dC (ww 11 (dC (f2 (f2 (fV 4) (f2 (fC (.int 1)) (fV 13) (zp .Add)) ixP) (fP (aC (fV 11) aN) Z2) (zp .Mod)) dN) Xa) dN) vm)))
 (zcQ 12 f)))) (Z P none none none none none none none none none none none none none none none none none)) Q := by
 have N8 := h.n8
 obtain ⟨as', hf, L, F, e13, rfl, hp, hlen⟩ := xf (g := gN 13) (f := yO (ww 12 (dC (ww 11 (dC (f2 (f2 (fV 4) (f2 (fC (.int 1)) (fV 13) (zp .Add)) ixP) (fP (aC (fV 11) aN) Z2) (zp .Mod)) dN) Xa) dN) vm))
  (λ i as => ∃ (L F : List Int) (e13 : Option O), as = Z P (sN (L.map lfI)) (sN (F.map lfI)) e13 none none none none none none none none none none none none none none /\ (L ++ F).Perm (zay P.N) /\ L.length + i = P.N)
  (yL 0 P.N) 0 (Z P (sN ((zay P.N).map lfI)) (sN []) none none none none none none none none none none none none none none none) (λ i x as hx' hI => by
   obtain ⟨L, F, e13, rfl, hp, hlen⟩ := hI
   obtain ⟨rfl, hi⟩ := yW hx'
   obtain ⟨y, a1, b1⟩ := at2 h.yS (k := 1 + (0 + i)) (by omega) (by rw [h.yl]; have : i < P.n * P.n2 := hi; omega)
   have hL0 : 0 < L.length := by have : i < P.N := hi; omega
   have hL8 : L.length <= 8 := zzL (show L.length <= P.N by omega) N8
   have l0 : (0 : Int) < ((L.map lfI).length : Int) := by rw [zD]; omega
   have z0 := Int.emod_nonneg y (show ((L.map lfI).length : Int) ≠ 0 by omega)
   have z1 := Int.emod_lt_of_pos y l0
   have hk : (y % ((L.map lfI).length : Int)).toNat < L.length := by rw [zD] at z0 z1 ⊢; omega
   generalize hkk : (y % ((L.map lfI).length : Int)).toNat = k at hk
   have pop := zhL (as := Z P (sN (L.map lfI)) (sN (F.map lfI)) (sI (0 + i)) none none none none none none none none none none none none none none) (i := 11) (os := L.map lfI) (o := lfI L[k]) rfl (zU (yx (zb (i := 4) rfl) (yd zf (zb (i := 13) rfl)) a1 rfl) (zoa (i := 11) rfl) l0) z0 z1 (by rw [zD]; exact Nat.lt_of_le_of_lt hL8 (by decide)) (by rw [hkk, zzF, zzB hk]; rfl)
   rw [hkk, show (L.map lfI).eraseIdx k = (L.eraseIdx k).map lfI by rw [List.eraseIdx_eq_take_drop_succ, List.eraseIdx_eq_take_drop_succ, List.map_append, List.map_take, List.map_drop]] at pop
   have hF : F.length <= 8 := by
    have e := hp.length_eq
    rw [zzG, zD, List.length_range] at e
    have : P.N <= 8 := N8
    omega
   have ap := zbo (i := 12) (os := F.map lfI) (as := Z P (sN (L.map lfI)) (sN (F.map lfI)) (sI (0 + i)) none none none none none none none none none none none none none none) rfl pop rfl (by rw [zD]; exact yq (by omega))
   rw [<- Yt] at ap
   refine ⟨Z P (sN (L.map lfI)) (sN (F.map lfI)) (sI (0 + i)) none none none none none none none none none none none none none none, rfl, _, ap, L.eraseIdx k, F ++ [L[k]], _, rfl, ?_, by rw [List.length_eraseIdx_of_lt hk]; omega⟩
   rw [<- List.append_assoc]
   refine (List.perm_append_singleton _ _).trans ?_
   rw [<- List.cons_append]
   exact ((zbF L k hk).append_right F).trans hp)
  ⟨zay P.N, [], none, rfl, by rw [List.append_nil], by rw [zD, List.length_range]; rfl⟩
 rw [yC] at hlen
 have hL : L = [] := List.eq_nil_of_length_eq_zero (by omega)
 subst hL
 have s2 := xr (i := 11) (as := Z P none none none none none none none none none none none none none none none none none) (zlG (a := fV 10) (x := .int P.N) (g := lrP) (zs := (zay P.N).map D.int) (WD.e (zb (i := 10) rfl)) (by
  show (if (0 : Int) <= P.N /\ (P.N : Int) <= 100000 then _ else _) = _
  rw [if_pos ⟨by omega, by have : P.N <= 8 := N8; omega⟩, List.map_map]; rfl)) (zE rfl)
 rw [zfO] at s2
 have hfz : (O.nd .ls (F.map lfI)).frz = .lf true (zN F) := by
  show O.lf (O.nd .ls (F.map lfI)).str (O.nd .ls (F.map lfI)).toD = _
  rw [(Z1 F).1, (Z1 F).2]
 refine vY s2 (vY (xr (i := 12) (Zm yt (szl rfl)) (zE rfl)) (vY (xR (xq (zx (zb (i := 10) rfl) zP) (by omega) (by have : P.N <= 8 := N8; omega)) (by rw [Int.toNat_natCast]; exact hf)) (zlC (i := 12) rfl ?_)))
 rw [hfz]
 exact K F _ _ hp
open L2 (yq)
abbrev Par.j (P : Par) : Int -> Int -> Int := jB P.n2 (jK P.k P.n) (jK P.k2 P.n2)
abbrev Par.e (P : Par) : Int := eK P.k * P.n2 + eK P.k2
theorem POk.lj {P : Par} (h : POk P) : LJ P.N P.j P.e := ljB (ljK h.k1) (ljK h.k2) h.p2
theorem zcC {as : AS} {F : List Int} {i : Nat} {fi : IF} {xs : List It1} (hF : F.length <= 8) (hx : xs.length <= 8) (h1 : fi as = some (xs, as)) (h2 : ∀ y ∈ xs, ∃ d, y = (true, d)) (hc : ∀ d : D, gN 0 (true, d) (Z4 [none, some i] as) = some [sT d, sT (zN F)]) :
 yE fi [none, some i] (gN 0) wk (yE (Wx (fV 1)) [none] (gN 0) wk (fC (.int 0))) as = some (.ow (Zr (List.replicate xs.length (List.replicate F.length (0 : Int)))), as) := by
 refine zbk h1 (szs (by omega)) (zea xs λ y m => ?_)
 obtain ⟨d, rfl⟩ := h2 y m
 refine ⟨_, hc d, ?_⟩
 have e := zeq (as0 := [none]) (F.map D.int) (λ d => ⟨[sT d], rfl⟩)
 rw [zD] at e
 exact zbk (zhX (WD.e (zb (i := 1) rfl))) (szs (by rw [zD, zD]; omega)) e
theorem zkC {P : Par} (h : POk P) {F : List Int} (hF : F.Perm (zay P.N)) {e11 e13 : Option O} {f : SF} {Q : D -> Prop} (K : ∀ (J : TZ) (e15 e16 e17 : Option O), Tab P.N P.N J -> (∀ a b, InR P.N a -> InR P.N b -> jAt J (rAt F a) (rAt F b) = rAt F (P.j a b)) -> Rq (f (Z P e11 (sT (zN F)) e13 (some (Zr J)) e15 e16 e17 none none none none none none none none none none)) Q) :
 Rq ((zB (zJ false 14 (yE (Wx (fV 12)) [none, some 12] (gN 0) wk (yE (Wx (fV 1)) [none] (gN 0) wk (fC (.int 0)))))
 (zB (yM (ym (aC (fV 10) aN) yw) (gN 15) (yM (ym (aC (fV 10) aN) yw) (gN 16) (zB (zJ true 17 (f2 (zG (aC (fV 5) (aC (fV 6) (aC (f2 (fV 15) (fV 8) (zp .FloorDiv)) (aC (f2 (fV 16) (fV 8) (zp .FloorDiv)) aN)))) zO) (fV 8) (zp .Mult)))
 (zB (zJ true 17 (f2 (fV 17) (zG (aC (fV 7) (aC (fV 8) (aC (f2 (fV 15) (fV 8) (zp .Mod)) (aC (f2 (fV 16) (fV 8) (zp .Mod)) aN)))) zO) (zp .Add)))
 (Wz 14 (xAt 12 (xV 15)) (xAt 12 (xV 16)) (xAt 12 (xV 17)))))))
 f)) (Z P e11 (sT (zN F)) e13 none none none none none none none none none none none none none none)) Q := by
 have N8 : P.N <= 8 := h.n8
 have N1 := h.N1
 have p2 := h.p2
 have b8 := h.b8
 have a8 := h.a8
 obtain ⟨hR, _⟩ := ZL hF
 have hl := hR.1
 have hz := zcC (as := Z P e11 (sT (zN F)) e13 none none none none none none none none none none none none none none) (F := F) (i := 12) (xs := (F.map D.int).map λ d => (true, d)) (by omega) (by rw [zD, zD]; omega) (zhX (WD.e (zb (i := 12) rfl))) (λ y m => by
  obtain ⟨d, _, rfl⟩ := List.mem_map.mp m
  exact ⟨d, rfl⟩) (λ d => rfl)
 rw [zD, zD, hl] at hz
 have lj := h.lj
 have lk1 := ljK h.k1
 have lk2 := ljK h.k2
 have pN : ∀ a, InR P.N a -> InR P.N (rAt F a) := λ a ha => (rowAt hR ha).2
 have pi : ∀ a a', InR P.N a -> InR P.N a' -> rAt F a = rAt F a' -> a = a' := λ a a' ha ha' e => zeN hF ha ha' e
 obtain ⟨J, e15, e16, e17, hf, t1, t2⟩ := zgE (v := 15) (K := P.N) (n := P.N) (L := P.N) (M := P.N) (S := λ T x y z => Z P e11 (sT (zN F)) e13 (some (Zr T)) x y z none none none none none none none none none none) (f := rAt F) (g := rAt F) (w := λ a b => rAt F (P.j a b)) (F := yM (ym (aC (fV 10) aN) yw) (gN 16) (zB (zJ true 17 (f2 (zG (aC (fV 5) (aC (fV 6) (aC (f2 (fV 15) (fV 8) (zp .FloorDiv)) (aC (f2 (fV 16) (fV 8) (zp .FloorDiv)) aN)))) zO) (fV 8) (zp .Mult)))
  (zB (zJ true 17 (f2 (fV 17) (zG (aC (fV 7) (aC (fV 8) (aC (f2 (fV 15) (fV 8) (zp .Mod)) (aC (f2 (fV 16) (fV 8) (zp .Mod)) aN)))) zO) (zp .Add)))
  (Wz 14 (xAt 12 (xV 15)) (xAt 12 (xV 16)) (xAt 12 (xV 17)))))) (x0 := none) (y0 := none) (z0 := none) pN pi pN (λ _ _ _ _ _ => rfl) (λ T a y z hT ha => by
   obtain ⟨T', y', z', k1, k2, k3, k4⟩ := zhQ (v := 16) (K := P.N) (n := P.N) (L := P.N) (S := λ T y z => Z P e11 (sT (zN F)) e13 (some (Zr T)) (sI a) y z none none none none none none none none none none) (p := rAt F a) (g := rAt F) (w := λ b => rAt F (P.j a b)) (f := (zB (zJ true 17 (f2 (zG (aC (fV 5) (aC (fV 6) (aC (f2 (fV 15) (fV 8) (zp .FloorDiv)) (aC (f2 (fV 16) (fV 8) (zp .FloorDiv)) aN)))) zO) (fV 8) (zp .Mult)))
  (zB (zJ true 17 (f2 (fV 17) (zG (aC (fV 7) (aC (fV 8) (aC (f2 (fV 15) (fV 8) (zp .Mod)) (aC (f2 (fV 16) (fV 8) (zp .Mod)) aN)))) zO) (zp .Add)))
  (Wz 14 (xAt 12 (xV 15)) (xAt 12 (xV 16)) (xAt 12 (xV 17)))))) (x0 := y) (y0 := z) (pN a ha) pN pi (λ b hb => pN _ (lj.cl a b ha hb)) (λ _ _ _ _ => rfl) (λ T b z hT hb => by
   have ua := yc p2 ha
   have ub := yc p2 hb
   have c1 := lk1.cl _ _ ua.1 ub.1
   have j1 := Vh h.k1 ua.1 ub.1
   have j2 := Vh h.k2 ua.2 ub.2
   have b2 : (P.n2 : Int).natAbs < big := zM (by omega) (by omega)
   have s1 := yf (st := true) (i := 17) (as := Z P e11 (sT (zN F)) e13 (some (Zr T)) (sI a) (sI b) z none none none none none none none none none none) (xY (vq (zx (zb (i := 5) rfl) (zx (zb (i := 6) rfl) (zx (yR (zb (i := 15) rfl) (zb (i := 8) rfl) (by omega) b2) (zx (yR (zb (i := 16) rfl) (zb (i := 8) rfl) (by omega) b2) zP)))) j1) (zb (i := 8) rfl) (zM (by have := c1.1; omega) (by have := c1.2; omega)) b2) (zE rfl)
   have s2 := yf (st := true) (i := 17) (as := Z P e11 (sT (zN F)) e13 (some (Zr T)) (sI a) (sI b) (sI (jK P.k P.n (a / P.n2) (b / P.n2) * P.n2)) none none none none none none none none none none) (yd (zb (i := 17) rfl) (vq (zx (zb (i := 7) rfl) (zx (zb (i := 8) rfl) (zx (zU (zb (i := 15) rfl) (zb (i := 8) rfl) (by omega)) (zx (zU (zb (i := 16) rfl) (zb (i := 8) rfl) (by omega)) zP)))) j2)) (zE rfl)
   exact ⟨_, zZ s1 (zZ s2 (zgF (i := 14) (T := T) hT (pN a ha) (pN b hb) (zhW (i := 12) rfl (zae (i := 15) rfl) hR ha) (zhW (i := 12) rfl (zae (i := 16) rfl) hR hb) (zhW (i := 12) rfl (zae (i := 17) rfl) hR (lj.cl a b ha hb)) rfl))⟩) hT
   refine ⟨T', y', z', ?_, k2, k3, k4⟩
   rw [Zc (v := 10) (n := P.N) rfl (by omega)]
   exact k1) (zey N1)
 refine vY (xr (i := 14) hz (zE rfl)) (vY (xR (xq (zx (zb (i := 10) rfl) zP) (by omega) (by omega)) (by rw [Int.toNat_natCast]; exact hf)) (K J e15 e16 e17 t1 t2))
open L2 (yq)
theorem perm_back {F : List Int} {n : Nat} (h : F.Perm (zay n)) : ∃ B : Int -> Int, (∀ a, InR n a -> InR n (B a)) /\ ∀ a, InR n a -> rAt F (B a) = a := by
 obtain ⟨hR, hm⟩ := ZL h
 refine ⟨λ a => (F.idxOf a : Nat), λ a ha => ?_, λ a ha => ?_⟩
 · have := List.idxOf_lt_length_of_mem (hm a ha.1 ha.2)
   rw [hR.1] at this
   exact ⟨Int.natCast_nonneg _, Int.ofNat_lt.mpr this⟩
 · have hl := List.idxOf_lt_length_of_mem (hm a ha.1 ha.2)
   rw [Y9 (by rw [Int.toNat_natCast]; exact hl)]
   simp only [Int.toNat_natCast]
   exact List.getElem_idxOf hl
abbrev Good (P : Par) (F : List Int) (J : TZ) (p : Str × TZ) : Prop := Tab P.m P.N p.2 /\ LD P.N P.m (jAt J) (rAt F P.e) (jAt p.2)
abbrev Y (P : Par) (F : List Int) (J : TZ) (e11 e16 : Option O) (ss : List Str) (os : List O) (e13 e15 e17 e20 e21 e22 e23 : Option O) : AS := Z P e11 (sT (zN F)) e13 (some (Zr J)) e15 e16 e17 (sT (.lst (ss.map D.str))) (sN os) e20 e21 e22 e23 none none none none
abbrev mdI : SF := (zB (zJ true 17 (f2 (f2 (fV 20) (fV 23) ixP) (f2 (fV 15) (fV 8) (zp .FloorDiv)) ixP))
 (zB (zJ true 17 (f2 (f2 (fV 17) (fV 8) (zp .Mult)) (f2 (f2 (fV 21) (fV 23) ixP) (f2 (fV 15) (fV 8) (zp .Mod)) ixP) (zp .Add)))
 (Wz 22 (xV 23) (xAt 12 (xV 15)) (xAt 12 (xV 17)))))
theorem zjt {P : Par} (h : POk P) {F : List Int} (hF : F.Perm (zay P.N)) {J T1 T2 : TZ} {e11 e16 : Option O} {ss : List Str} {os : List O} {e13 e15 e17 e23 : Option O} (t1 : Tab P.m P.n T1) (t2 : Tab P.m P.n2 T2) (l1 : LD P.n P.m (jK P.k P.n) (eK P.k) (jAt T1)) (l2 : LD P.n2 P.m (jK P.k2 P.n2) (eK P.k2) (jAt T2)) :
 ∃ (T : TZ) (x y z : Option O), forL (gN 23) (yM (ym (aC (fV 10) aN) yw) (gN 15) mdI) (yL 0 P.m) (Y P F J e11 e16 ss os e13 e15 e17 (sT (ye T1)) (sT (ye T2)) (some (Zr (List.replicate P.m (List.replicate P.N 0)))) e23) = some (.nx (Y P F J e11 e16 ss os e13 y z (sT (ye T1)) (sT (ye T2)) (some (Zr T)) x)) /\ Tab P.m P.N T /\ ∀ c a, InR P.m c -> InR P.N a -> jAt T c (rAt F a) = rAt F (dB P.n2 (jAt T1) (jAt T2) c a) := by
 have N8 : P.N <= 8 := h.n8
 have N1 := h.N1
 have p2 := h.p2
 have b8 := h.b8
 have a8 := h.a8
 obtain ⟨hR, _⟩ := ZL hF
 have ld := ldB (ljK h.k1) (ljK h.k2) p2 l1 l2
 have pN : ∀ a, InR P.N a -> InR P.N (rAt F a) := λ a ha => (rowAt hR ha).2
 have pi : ∀ a a', InR P.N a -> InR P.N a' -> rAt F a = rAt F a' -> a = a' := λ a a' ha ha' e => zeN hF ha ha' e
 exact zgE (v := 23) (K := P.m) (n := P.N) (L := P.N) (M := P.m) (S := λ T x y z => Y P F J e11 e16 ss os e13 y z (sT (ye T1)) (sT (ye T2)) (some (Zr T)) x) (f := λ c => c) (g := rAt F) (w := λ c a => rAt F (dB P.n2 (jAt T1) (jAt T2) c a)) (λ _ ha => ha) (λ _ _ _ _ e => e) pN (λ _ _ _ _ _ => rfl) (λ T c y z hT hc => by
  obtain ⟨T', y', z', k1, k2, k3, k4⟩ := zhQ (v := 15) (K := P.m) (n := P.N) (L := P.N) (S := λ T y z => Y P F J e11 e16 ss os e13 y z (sT (ye T1)) (sT (ye T2)) (some (Zr T)) (sI c)) (p := c) (g := rAt F) (w := λ a => rAt F (dB P.n2 (jAt T1) (jAt T2) c a)) (f := mdI) (x0 := y) (y0 := z) hc pN pi (λ a ha => pN _ (ld.cl c a hc ha)) (λ _ _ _ _ => rfl) (λ T a z hT ha => by
   have ua := yc p2 ha
   have b2 : (P.n2 : Int).natAbs < big := zM (by omega) (by omega)
   obtain ⟨q1, r1⟩ := Xu (as := Y P F J e11 e16 ss os e13 (sI a) z (sT (ye T1)) (sT (ye T2)) (some (Zr T)) (sI c)) t1 hc ua.1 (zb (i := 20) rfl) (zb (i := 23) rfl) (yR (zb (i := 15) rfl) (zb (i := 8) rfl) (by omega) b2)
   have s1 := yf (st := true) (i := 17) q1 (zE rfl)
   obtain ⟨q2, r2⟩ := Xu (as := Y P F J e11 e16 ss os e13 (sI a) (sI (jAt T1 c (a / P.n2))) (sT (ye T1)) (sT (ye T2)) (some (Zr T)) (sI c)) t2 hc ua.2 (zb (i := 21) rfl) (zb (i := 23) rfl) (zU (zb (i := 15) rfl) (zb (i := 8) rfl) (by omega))
   have s2 := yf (st := true) (i := 17) (yd (xY (zb (i := 17) rfl) (zb (i := 8) rfl) (zM (i := jAt T1 c (a / P.n2)) (by have := r1.1; omega) (by have := r1.2; omega)) b2) q2) (zE rfl)
   exact ⟨_, zZ s1 (zZ s2 (zgF (i := 22) (T := T) hT hc (pN a ha) (zae (i := 23) rfl) (zhW (i := 12) rfl (zae (i := 15) rfl) hR ha) (zhW (i := 12) rfl (zae (i := 17) rfl) hR (ld.cl c a hc ha)) rfl))⟩) hT
  refine ⟨T', y', z', ?_, k2, k3, k4⟩
  rw [Zc (v := 10) (n := P.N) rfl (by omega)]
  exact k1) (zey N1)
abbrev ddB : SF := (zB (zJ true 20 (zG (aC (fV 5) (aC (fV 6) (aC (fV 9) (aC (f2 (fV 3) (f2 (fC (.int 1)) (f2 (fC (.int 2)) (fV 13) (zp .Mult)) (zp .Add)) ixP) aN)))) yK))
 (zB (zJ true 21 (zG (aC (fV 7) (aC (fV 8) (aC (fV 9) (aC (f2 (fV 3) (f2 (fC (.int 2)) (f2 (fC (.int 2)) (fV 13) (zp .Mult)) (zp .Add)) ixP) aN)))) yK))
 (zB (zJ false 22 (yE (ym (aC (fV 9) aN) yw) [none, some 12] (gN 0) wk (yE (Wx (fV 1)) [none] (gN 0) wk (fC (.int 0)))))
 (zB (yM (ym (aC (fV 9) aN) yw) (gN 23) (yM (ym (aC (fV 10) aN) yw) (gN 15) mdI))
 (yO (ww 19 (dC (yV (dC (f2 (fV 18) (fV 13) ixP) (dC (fV 22) dN))) dN) vm))))))
theorem take_snoc {α : Type} {l : List α} {i : Nat} {a : α} (h : l[i]? = some a) : l.take (i + 1) = l.take i ++ [a] := by rw [List.take_succ, h]; rfl
theorem zhE {P : Par} (h : POk P) {F : List Int} (hF : F.Perm (zay P.N)) {J : TZ} (hJ : ∀ a b, InR P.N a -> InR P.N b -> jAt J (rAt F a) (rAt F b) = rAt F (P.j a b)) {e11 e16 : Option O} {ss : List Str} (hs : ss.length = 10) {i : Nat} (hi : i < P.w) {os : List O} {Ds : DD} (ho : Ows Zi (Good P F J) os Ds) (hD : Ds.map (·.1) = ss.take i) {e15 e17 e20 e21 e22 e23 : Option O} :
 ∃ (os' : List O) (Ds' : DD) (e15' e17' e20' e21' e22' e23' : Option O), ddB (Y P F J e11 e16 ss os (sI i) e15 e17 e20 e21 e22 e23) = some (.nx (Y P F J e11 e16 ss os' (sI i) e15' e17' e20' e21' e22' e23')) /\ Ows Zi (Good P F J) os' Ds' /\ Ds'.map (·.1) = ss.take (i + 1) := by
 have N8 : P.N <= 8 := h.n8
 have w4 := h.w4
 have m1 := h.m1
 have m6 := h.m6
 obtain ⟨hR, _⟩ := ZL hF
 have hxl := h.xl
 obtain ⟨x1, a1, b1⟩ := at2 h.xS (k := 1 + 2 * i) (by omega) (by omega)
 obtain ⟨x2, a2, b2⟩ := at2 h.xS (k := 2 + 2 * i) (by omega) (by omega)
 obtain ⟨T1, t1, l1, r1⟩ := zbL h.k1 h.a8 m1 (by omega) b1
 obtain ⟨T2, t2, l2, r2⟩ := zbL h.k2 h.b8 m1 (by omega) b2
 have bi : ((i : Nat) : Int).natAbs < big := zM (by omega) (by omega)
 have s20 := Xn (p := 20) (as := Y P F J e11 e16 ss os (sI i) e15 e17 e20 e21 e22 e23) (zie (WD.e (zb (i := 5) rfl)) (WD.e (zb (i := 6) rfl)) (WD.e (zb (i := 9) rfl)) (WD.e (yx (zb (i := 3) rfl) (yd (zf (x := .int 1)) (xY (zf (x := .int 2)) (zb (i := 13) rfl) (zM (by decide) (by decide)) bi)) a1 rfl)) r1) (zE rfl)
 have s21 := Xn (p := 21) (as := Y P F J e11 e16 ss os (sI i) e15 e17 (sT (ye T1)) e21 e22 e23) (zie (WD.e (zb (i := 7) rfl)) (WD.e (zb (i := 8) rfl)) (WD.e (zb (i := 9) rfl)) (WD.e (yx (zb (i := 3) rfl) (yd (zf (x := .int 2)) (xY (zf (x := .int 2)) (zb (i := 13) rfl) (zM (by decide) (by decide)) bi)) a2 rfl)) r2) (zE rfl)
 have hz := zcC (as := Y P F J e11 e16 ss os (sI i) e15 e17 (sT (ye T1)) (sT (ye T2)) e22 e23) (F := F) (i := 12) (xs := yL 0 P.m) (by rw [hR.1]; exact N8) (by rw [yC]; omega) (by
  have := xq (as := Y P F J e11 e16 ss os (sI i) e15 e17 (sT (ye T1)) (sT (ye T2)) e22 e23) (zx (zb (i := 9) (x := .int P.m) (s := true) rfl) zP) (by omega) (by omega)
  rw [Int.toNat_natCast] at this
  exact this) (λ y m => by
  obtain ⟨b, rfl, _, _⟩ := zbi m
  exact ⟨_, rfl⟩) (λ d => rfl)
 rw [yC, hR.1] at hz
 have s22 := xr (i := 22) hz (zE rfl)
 obtain ⟨T, x, y, z, hf, q1, q2⟩ := zjt h hF (J := J) (e11 := e11) (e16 := e16) (ss := ss) (os := os) (e13 := sI i) (e15 := e15) (e17 := e17) (e23 := e23) t1 t2 l1 l2
 rw [<- Zc (v := 9) (n := P.m) rfl (by omega)] at hf
 obtain ⟨s, hsi⟩ : ∃ s, ss[i]? = some s := ⟨ss[i]'(by omega), zzB (by omega)⟩
 have wn : WD (f2 (fV 18) (fV 13) ixP) (Y P F J e11 e16 ss os (sI i) y z (sT (ye T1)) (sT (ye T2)) (some (Zr T)) x) true (.str s) := v4 (zb (i := 18) rfl) (zb (i := 13) rfl) (W6 hsi)
 have hb := zfD (j := 22) (as := Y P F J e11 e16 ss os (sI i) y z (sT (ye T1)) (sT (ye T2)) (some (Zr T)) x) (ps := T.map W7) (fr := dN) (os := []) rfl rfl
 have ap := zbo (i := 19) (os0 := os) (os := os) (as := Y P F J e11 e16 ss os (sI i) y z (sT (ye T1)) (sT (ye T2)) (some (Zr T)) x) rfl (zgw (ZZ wn hb) (szl rfl)) rfl (by
  rw [ho.ln]
  have := congrArg List.length hD
  rw [zD, zzP] at this
  exact yq (by omega))
 rw [zfQ] at ap
 obtain ⟨B, b1', b2'⟩ := perm_back hF
 have ld := ldB (ljK h.k1) (ljK h.k2) h.p2 l1 l2
 have hg : Good P F J (s, T) := ⟨q1, ldT h.m1 h.lj ld (λ a ha => (rowAt hR ha).2) b1' b2' hJ q2⟩
 refine ⟨_, Ds ++ [(s, T)], _, _, _, _, _, _, zZ s20 (zZ s21 (zZ s22 (zZ hf ap))), ho.snoc rfl rfl hg, ?_⟩
 rw [List.map_append, hD, take_snoc hsi]; rfl
theorem ziG {P : Par} (h : POk P) {F : List Int} (hF : F.Perm (zay P.N)) {J : TZ} (hJ : ∀ a b, InR P.N a -> InR P.N b -> jAt J (rAt F a) (rAt F b) = rAt F (P.j a b)) {e11 e13 e15 e16 e17 : Option O} {f : SF} {Q : D -> Prop}
 (K : ∀ (ss : List Str) (os : List O) (Ds : DD) (e13 e15 e17 e20 e21 e22 e23 : Option O), ss.length = 10 -> ss.Nodup -> Ows Zi (Good P F J) os Ds -> Ds.map (·.1) = ss.take P.w -> Rq (f (Y P F J e11 e16 ss os e13 e15 e17 e20 e21 e22 e23)) Q) :
 Rq ((zB (zJ true 18 (zG (aC (f2 (fV 1) (fC (.int 7)) (zp .FloorDiv)) (aC (fC (.int 10)) aN)) vI))
 (zB (zJ false 19 (wH dN))
 (zB (yM (ym (aC (fV 2) aN) yw) (gN 13) ddB)
 f))) (Z P e11 (sT (zN F)) e13 (some (Zr J)) e15 e16 e17 none none none none none none none none none none)) Q := by
 have w4 := h.w4
 obtain ⟨ss, s1, s2, s3⟩ := zhw (c := P.h / 7)
 obtain ⟨as', hf, os, Ds, e13', e15', e17', e20', e21', e22', e23', rfl, ho, hD⟩ := xf (g := gN 13) (f := ddB)
  (λ i as => ∃ (os : List O) (Ds : DD) (e13 e15 e17 e20 e21 e22 e23 : Option O), as = Y P F J e11 e16 ss os e13 e15 e17 e20 e21 e22 e23 /\ Ows Zi (Good P F J) os Ds /\ Ds.map (·.1) = ss.take i)
  (yL 0 P.w) 0 (Y P F J e11 e16 ss [] e13 e15 e17 none none none none) (λ i x as hx hI => by
   obtain ⟨os, Ds, e13, e15, e17, e20, e21, e22, e23, rfl, ho, hD⟩ := hI
   obtain ⟨rfl, hi⟩ := yW hx
   rw [Nat.zero_add] at hD
   rw [Int.zero_add, Nat.zero_add]
   obtain ⟨os', Ds', a15, a17, a20, a21, a22, a23, k1, k2, k3⟩ := zhE (e11 := e11) (e16 := e16) (e15 := e15) (e17 := e17) (e20 := e20) (e21 := e21) (e22 := e22) (e23 := e23) h hF hJ s1 hi ho hD
   exact ⟨_, rfl, _, k1, os', Ds', _, _, _, _, _, _, _, rfl, k2, k3⟩)
  ⟨[], [], _, _, _, _, _, _, _, rfl, Ows.nil, rfl⟩
 rw [yC, Nat.zero_add] at hD
 exact vY (Xn (p := 18) (zdb (WD.e (yR (zb (i := 1) rfl) (zf (x := .int 7)) (by decide) (zM (by decide) (by decide)))) (WD.e (zf (x := .int 10))) s3) (zE rfl)) (vY (xr (i := 19) (Zm yt (szl rfl)) (zE rfl)) (vY (xR (xq (zx (zb (i := 2) rfl) zP) (by omega) (by omega)) (by rw [Int.toNat_natCast]; exact hf)) (K ss os Ds _ _ _ _ _ _ _ s1 s2 ho hD)))
open L2 (yq)
def held (n : Nat) (b : Int) : List Int := ((List.range n).filter λ i => b / 2 ^ i % 2 == 1).map λ (i : Nat) => (i : Int)
abbrev sgO (p : Str × List Int) : O := .lf true (Wa p)
theorem zdn : ∀ S : SS, (S.map sgO).all O.isLf = true /\ O.strs (S.map sgO) = true /\ O.toDs (S.map sgO) = S.map Wa
 | [] => ⟨rfl, rfl, rfl⟩
 | p :: r => ⟨(zdn r).1, (zdn r).2.1, congrArg (Wa p :: ·) (zdn r).2.2⟩
theorem zhG {os : List O} (hs : O.strs os = true) : (ZV os).str = true /\ (ZV os).toD = .tup (O.toDs os) := by
 unfold ZV
 split
 · exact ⟨hs, rfl⟩
 · exact ⟨hs, rfl⟩
theorem zod {P : Par} (h : POk P) {b : Int} {as : AS} (h1 : as[10]? = some (sI P.N)) (h2 : ∀ d : D, gN 0 (true, d) (Z4 [none, some 25] as) = some [sT d, sI b]) :
 WE (yE (ym (aC (fV 10) aN) yw) [none, some 25] (gN 0) (fT (f2 (f2 (f2 (fV 1) (f2 (fC (.int 1)) (fV 0) zgR) (zp .FloorDiv)) (fC (.int 2)) (zp .Mod)) (fC (.int 1)) (yj .Eq))) (fV 0)) as (zN (held P.N b)) := by
 have N8 : P.N <= 8 := h.n8
 have := zlt (as := as) (h := λ (i : Nat) => D.int i) (p := λ i => b / 2 ^ i % 2 == 1) (it := λ (i : Nat) => (true, D.int (0 + (i : Int)))) (fi := ym (aC (fV 10) aN) yw) (cap := [none, some 25]) (gg := gN 0) (tt := fT (f2 (f2 (f2 (fV 1) (f2 (fC (.int 1)) (fV 0) zgR) (zp .FloorDiv)) (fC (.int 2)) (zp .Mod)) (fC (.int 1)) (yj .Eq))) (fe := fV 0) (List.range P.N) (by
  have := xq (zx (zb (i := 10) h1) zP) (show (0 : Int) <= P.N by omega) (by omega)
  rw [Int.toNat_natCast] at this
  exact this) (by rw [List.length_range]; omega) (λ i hi => by
   have hi := List.mem_range.mp hi
   rw [Int.zero_add]
   have p0 : (0 : Int) < 2 ^ i := Int.pow_pos (by decide)
   have p1 : (2 : Int) ^ i < 1000 := by
    rcases (show i = 0 \/ i = 1 \/ i = 2 \/ i = 3 \/ i = 4 \/ i = 5 \/ i = 6 \/ i = 7 by omega) with rfl | rfl | rfl | rfl | rfl | rfl | rfl | rfl <;> decide
   have ws : WD (f2 (fC (.int 1)) (fV 0) zgR) [sI i, sI b] true (.int (2 ^ i)) := yx zf (zb (i := 0) rfl) (by
    show (if (0 : Int) <= i /\ (i : Int) <= 1000000 /\ (1 : Int).natAbs < 2 ^ 64 then some (R0.im (.int (1 * 2 ^ (i : Int).toNat))) else none) = _
    rw [if_pos ⟨by omega, by omega, by decide⟩, Int.toNat_natCast, Int.one_mul]) rfl
   exact ⟨[sI i, sI b], h2 _, eqT (zU (yR (zb (i := 1) rfl) ws p0 (zM (by omega) (by omega))) zf (by decide)) zf rfl, λ _ => WD.e (zb (i := 0) rfl)⟩)
 unfold held
 rw [show D.lst (((List.range P.N).filter λ i => b / 2 ^ i % 2 == 1).map λ (i : Nat) => D.int i) = zN (((List.range P.N).filter λ i => b / 2 ^ i % 2 == 1).map λ (i : Nat) => (i : Int)) by show _ = D.lst _; rw [List.map_map]; rfl] at this
 exact this
abbrev V (P : Par) (F : List Int) (J : TZ) (ss : List Str) (os : List O) (e11 e15 e16 e17 e20 e21 e22 e23 : Option O) (S : SS) (e13 e25 e26 e27 : Option O) : AS := Z P e11 (sT (zN F)) e13 (some (Zr J)) e15 e16 e17 (sT (.lst (ss.map D.str))) (sN os) e20 e21 e22 e23 (sN (S.map sgO)) e25 e26 e27
abbrev sgB : SF := (zB (zJ true 25 (f2 (fV 4) (f2 (fC (.int 9)) (fV 13) (zp .Add)) ixP))
 (zB (zJ true 26 (yE (ym (aC (fV 10) aN) yw) [none, some 25] (gN 0) (fT (f2 (f2 (f2 (fV 1) (f2 (fC (.int 1)) (fV 0) zgR) (zp .FloorDiv)) (fC (.int 2)) (zp .Mod)) (fC (.int 1)) (yj .Eq))) (fV 0)))
 (yO (ww 24 (dC (yV (dC (f2 (fV 18) (f2 (fV 13) (f2 (fC (.int 4)) (f2 (f2 (fV 25) (fC (.int 512)) (zp .FloorDiv)) (fC (.int 2)) (zp .Mod)) (zp .Mult)) (zp .Add)) ixP) (dC (fV 26) dN))) dN) vm))))
abbrev SgI (P : Par) (ss : List Str) (i : Nat) (S : SS) : Prop := S.length = i /\ (S.map (·.1)).Nodup /\ ∀ p ∈ S, (∃ b, p.2 = held P.N b) /\ ∃ j, j % 4 < i /\ j < 7 /\ ss[j]? = some p.1
theorem zic {P : Par} (h : POk P) {F : List Int} {J : TZ} {ss : List Str} (hs : ss.length = 10) (hn : ss.Nodup) {os : List O} {e11 e15 e16 e17 e20 e21 e22 e23 e25 e26 e27 : Option O} {S : SS} {i : Nat} (hi : i < 3) (hI : SgI P ss i S) :
 ∃ (S' : SS) (e25' e26' : Option O), sgB (V P F J ss os e11 e15 e16 e17 e20 e21 e22 e23 S (sI i) e25 e26 e27) = some (.nx (V P F J ss os e11 e15 e16 e17 e20 e21 e22 e23 S' (sI i) e25' e26' e27)) /\ SgI P ss (i + 1) S' := by
 obtain ⟨i1, i2, i3⟩ := hI
 obtain ⟨b, a1, b1⟩ := at2 h.yS (k := 9 + i) (by omega) (by rw [h.yl]; omega)
 have q0 := Int.emod_nonneg (b / 512) (show (2 : Int) ≠ 0 by decide)
 have q1 := Int.emod_lt_of_pos (b / 512) (show (0 : Int) < 2 by decide)
 have hw := zod h (b := b) (as := V P F J ss os e11 e15 e16 e17 e20 e21 e22 e23 S (sI i) (sI b) e26 e27) rfl (λ d => rfl)
 obtain ⟨j, ej⟩ : ∃ j : Nat, (j : Int) = (i : Int) + 4 * (b / 512 % 2) := ⟨((i : Int) + 4 * (b / 512 % 2)).toNat, by omega⟩
 have hj : ss[j]? = some (ss[j]'(by omega)) := zzB (by omega)
 have wi := yd (as := V P F J ss os e11 e15 e16 e17 e20 e21 e22 e23 S (sI i) (sI b) (sT (zN (held P.N b))) e27) (zb (i := 13) (x := .int i) (s := true) rfl) (xY (zf (x := .int 4)) (zU (yR (zb (i := 25) rfl) (zf (x := .int 512)) (by decide) (zM (by decide) (by decide))) (zf (x := .int 2)) (by decide)) (zM (by decide) (by decide)) (zM (by omega) (by omega)))
 rw [<- ej] at wi
 have ap := zbo (i := 24) (os0 := S.map sgO) (os := S.map sgO) (as := V P F J ss os e11 e15 e16 e17 e20 e21 e22 e23 S (sI i) (sI b) (sT (zN (held P.N b))) e27) rfl (zfa (zW (v4 (zb (i := 18) rfl) wi (W6 hj)) (zW (zb (i := 26) rfl) yt)) (szl rfl)) rfl (by rw [zD, i1]; exact yq (by omega))
 rw [show S.map sgO ++ [ZV [O.lf true (.str (ss[j]'(by omega))), O.lf true (zN (held P.N b))]] = (S ++ [((ss[j]'(by omega)), held P.N b)]).map sgO by rw [List.map_append]; rfl] at ap
 refine ⟨_, _, _, zZ (yf (i := 25) (yx (zb (i := 4) rfl) (yd zf (zb (i := 13) rfl)) a1 rfl) (zE rfl)) (zZ (Xn (p := 26) hw (zE rfl)) ap), by rw [zzG, i1]; rfl, ?_, λ p m => ?_⟩
 · rw [List.map_append]
   refine List.nodup_append.mpr ⟨i2, zzT.mpr ⟨List.not_mem_nil, List.nodup_nil⟩, λ x mx y my e => ?_⟩
   obtain ⟨p, mp, rfl⟩ := List.mem_map.mp mx
   obtain ⟨_, j', j1, j2, j3⟩ := i3 p mp
   have my := zzO.mp my
   subst my
   have hj' := zzD.mp j3
   obtain ⟨l', e'⟩ := hj'
   have : ss[j'] = ss[j]'(by omega) := e'.trans e
   have := (List.getElem_inj hn).mp this
   omega
 · rcases zzJ.mp m with m | m
   · obtain ⟨z1, j', j1, j2, j3⟩ := i3 p m
     exact ⟨z1, j', by omega, j2, j3⟩
   · rw [zzO.mp m]
     exact ⟨⟨b, rfl⟩, j, by omega, by omega, hj⟩
theorem ziu {P : Par} (h : POk P) {F : List Int} (hF : F.Perm (zay P.N)) {J : TZ} {ss : List Str} (hs : ss.length = 10) (hn : ss.Nodup) {os : List O} {Ds : DD} (ho : Ows Zi (Good P F J) os Ds) {e11 e13 e15 e16 e17 e20 e21 e22 e23 : Option O} :
 ∃ S : SS, S.length <= 3 /\ (S.map (·.1)).Nodup /\ (∀ p ∈ S, ∃ b, p.2 = held P.N b) /\ Rt ((zB (zJ false 24 (wH dN))
 (zB (yM (ym (aC (fC (.int 3)) aN) yw) (gN 13) sgB)
 (zB (zJ true 27 (f2 (fV 12) (f2 (wH (dC (fC (.int 0)) (dC (fV 8) dN))) (fP (aC (f2 (fV 5) (fC (.int 3)) (yj .Eq)) aN) Yu) ixP) ixP))
 (yp (yV (dC (fV 10) (dC (fV 9) (dC (fV 14) (dC (fV 27) (dC (fV 19) (dC (fSl (fV 24) oN (oS (f2 (f2 (fV 4) (fC (.int 12)) ixP) (fC (.int 4)) (zp .Mod))) slP) dN)))))))))))
 (Y P F J e11 e16 ss os e13 e15 e17 e20 e21 e22 e23)) (zH P.N P.m J (rAt F P.e) Ds S) := by
 obtain ⟨hR, _⟩ := ZL hF
 obtain ⟨as', hf, S, a13, a25, a26, rfl, i1, i2, i3⟩ := xf (g := gN 13) (f := sgB)
  (λ i as => ∃ (S : SS) (e13 e25 e26 : Option O), as = V P F J ss os e11 e15 e16 e17 e20 e21 e22 e23 S e13 e25 e26 none /\ SgI P ss i S)
  (yL 0 3) 0 (V P F J ss os e11 e15 e16 e17 e20 e21 e22 e23 [] e13 none none none) (λ i x as hx hI => by
   obtain ⟨S, e13, e25, e26, rfl, hI⟩ := hI
   obtain ⟨rfl, hi⟩ := yW hx
   rw [Nat.zero_add] at hI
   rw [Int.zero_add, Nat.zero_add]
   obtain ⟨S', a, b, k1, k2⟩ := zic (F := F) (J := J) (os := os) (e11 := e11) (e15 := e15) (e16 := e16) (e17 := e17) (e20 := e20) (e21 := e21) (e22 := e22) (e23 := e23) (e25 := e25) (e26 := e26) (e27 := none) h hs hn hi hI
   exact ⟨_, rfl, _, k1, S', _, _, _, rfl, k2⟩)
  ⟨[], _, _, _, rfl, rfl, List.nodup_nil, λ _ m => nomatch m⟩
 rw [yC] at i1
 obtain ⟨y, y1, y2⟩ := at2 h.yS (k := 12) (by omega) (by rw [h.yl]; omega)
 have q0 := Int.emod_nonneg y (show (4 : Int) ≠ 0 by decide)
 have q1 := Int.emod_lt_of_pos y (show (0 : Int) < 4 by decide)
 obtain ⟨g1, g2, g3⟩ := zdn S
 have ce := h.lj.ce
 have ee : (if (P.k == 3) = true then (P.n2 : Int) else 0) = P.e := by
  show _ = eK P.k * P.n2 + eK P.k2
  rw [h.e2]
  unfold eK
  by_cases hk : P.k = 3 <;> simp [hk]
 have wE : WD (f2 (wH (dC (fC (.int 0)) (dC (fV 8) dN))) (fP (aC (f2 (fV 5) (fC (.int 3)) (yj .Eq)) aN) Yu) ixP) (V P F J ss os e11 e15 e16 e17 e20 e21 e22 e23 S a13 a25 a26 none) true (.int P.e) := by
  rw [<- ee]
  exact f2E (v9 (os := [lfI 0, lfI P.n2]) (zW zf (zW (zb (i := 8) rfl) yt)) (szl rfl) rfl rfl) (WD.e (vK (x := .int (if (P.k == 3) = true then 1 else 0)) (zx (zbQ (c := P.k == 3) (zb (i := 5) rfl) zf rfl) zP) rfl rfl)) ziJ
 have s27 := yf (st := true) (i := 27) (yx (zb (i := 12) rfl) wE (rowAt hR ce).1 rfl) (zE rfl)
 have hfJ := zfQ J
 have hfD := ho.frz
 have wy : oS (f2 (f2 (fV 4) (fC (.int 12)) ixP) (fC (.int 4)) (zp .Mod)) ((V P F (J) ss os e11 e15 e16 e17 e20 e21 e22 e23 S a13 a25 a26 (sI (rAt F P.e))).set 14 (some (Zr J).frz) |>.set 19 (some (O.nd .ls os).frz)) = some (some (y % 4), _) := zbv (zU (yx (zb (i := 4) rfl) zf y1 rfl) zf (by decide))
 have sl := zmo (as := (V P F (J) ss os e11 e15 e16 e17 e20 e21 e22 e23 S a13 a25 a26 (sI (rAt F P.e))).set 14 (some (Zr J).frz) |>.set 19 (some (O.nd .ls os).frz)) (i := 24) (os := S.map sgO) (fl := oN) (lo := none) rfl g1 g2 rfl wy
 have ct := ziZ (xs := (S.take (y % 4).toNat).map Wa) (ys := (S.drop (y % 4).toNat).map Wa)
 rw [<- List.map_append, List.take_append_drop, zD, zzP, Nat.min_eq_left (by omega), show (((y % 4).toNat : Nat) : Int) = y % 4 by omega] at ct
 have ct : cutD (S.map Wa) none (some (y % 4)) = (S.take (y % 4).toNat).map Wa := by
  injection ct with ct
  injection ct
 rw [g3, ct] at sl
 have w0 : (dC (fV 10) (dC (fV 9) (dC (fV 14) (dC (fV 27) (dC (fV 19) (dC (fSl (fV 24) oN (oS (f2 (f2 (fV 4) (fC (.int 12)) ixP) (fC (.int 4)) (zp .Mod))) slP) dN)))))) (V P F J ss os e11 e15 e16 e17 e20 e21 e22 e23 S a13 a25 a26 (sI (rAt F P.e))) = some (_, _) :=
  ZZ (zb (i := 10) rfl) (ZZ (zb (i := 9) rfl) (zfD (j := 14) (ps := J.map W7) rfl (ZZ (zb (i := 27) rfl) (zfD (j := 19) (ps := os) rfl (ZZ sl rfl)))))
 have hfin := zgw w0 (szl rfl)
 rw [hfJ, hfD] at hfin
 have ms := zhG (os := [lfI P.N, lfI P.m, .lf true (ye J), lfI (rAt F P.e), .lf true (.lst (Ds.map Zi)), .nd .ls (((S.take (y % 4).toNat).map Wa).map (O.lf true))]) (by
  show (O.strs (((S.take (y % 4).toNat).map Wa).map (O.lf true)) && true) = true
  rw [zbG]; rfl)
 have rt := zgD hfin ms.1
 refine ⟨S.take (y % 4).toNat, by rw [zzP]; omega, ?_, λ p m => (i3 p (List.mem_of_mem_take m)).1, zK (xr (i := 24) (Zm yt (szl rfl)) (zE rfl)) (zK (xR (xq (j := 3) (zx zf zP) (by decide) (by decide)) hf) (zK s27 ⟨_, rt, ms.1, ms.2.trans ?_⟩))⟩
 · rw [List.map_take]; exact i2.sublist (List.take_sublist _ _)
 · show D.tup [.int P.N, .int P.m, ye J, .int (rAt F P.e), .lst (Ds.map Zi), .lst (O.toDs (((S.take (y % 4).toNat).map Wa).map (O.lf true)))] = _
   rw [zaT]
structure Made (n m : Nat) (J : TZ) (e : Int) (Ds : DD) (S : SS) : Prop where
 al : Alg n m J e Ds
 la : LawA n m J e Ds
 s3 : S.length <= 3
 sn : (S.map (·.1)).Nodup
 sh : ∀ p ∈ S, ∃ b, p.2 = held n b
theorem zfm {c h : Int} {w : Nat} (hw : w <= 4) : ∃ n m J e Ds S, Made n m J e Ds S /\ Ds.length = w /\ RE (wX [(true, .int c), (true, .int h), (true, .int w)]) (zH n m J e Ds S) := by
 obtain ⟨x, hr, n, m, J, e, Ds, S, h1, h2, rfl⟩ : Rq (Yc (xj 28 [(true, .int c), (true, .int h), (true, .int w)])) (λ x => ∃ n m J e Ds S, Made n m J e Ds S /\ Ds.length = w /\ x = zH n m J e Ds S) := by
  refine zkr hw λ P hP hw' hh => zjq hP λ F e11 e13 hF => zkC hP hF λ J e15 e16 e17 hJ hJ2 => ziG hP hF hJ2 λ ss os Ds e13 e15 e17 e20 e21 e22 e23 s1 s2 ho hD => ?_
  obtain ⟨S, q1, q2, q3, q4⟩ := ziu hP hF (J := J) s1 s2 ho (e11 := e11) (e13 := e13) (e15 := e15) (e16 := e16) (e17 := e17) (e20 := e20) (e21 := e21) (e22 := e22) (e23 := e23)
  obtain ⟨hR, _⟩ := ZL hF
  obtain ⟨B, b1, b2⟩ := perm_back hF
  have hl : Ds.length = P.w := by
   have := congrArg List.length hD
   rw [zD, zzP, s1] at this
   have := hP.w4
   omega
  have ce := (rowAt hR hP.lj.ce).2
  exact ⟨_, q4, P.N, P.m, J, rAt F P.e, Ds, S, ⟨⟨hP.N1, hP.n8, hP.m1, hP.m6, hJ, ce.1, ce.2, by have := hP.w4; omega, λ p m => (ho.al p m).1, by rw [hD]; exact s2.sublist (List.take_sublist _ _)⟩, ⟨ljT hP.lj (λ a ha => (rowAt hR ha).2) b1 b2 hJ2, λ p m => (ho.al p m).2⟩, q1, q2, q3⟩, by omega, rfl⟩
 exact ⟨n, m, J, e, Ds, S, h1, h2, vO rfl hr⟩
abbrev En : Type := Int × Int × D
abbrev ky (x : En) : Int × Int := (x.1, x.2.1)
def tk (es : List En) : List En -> List En
 | [] => es
 | x :: r => tk (if ky x ∈ es.map ky then es else es ++ [x]) r
theorem zcY : ∀ (xs es : List En), ∃ t, tk es xs = es ++ t
 | [], es => ⟨[], (List.append_nil _).symm⟩
 | x :: r, es => by
  unfold tk
  obtain ⟨t, h⟩ := zcY r (if ky x ∈ es.map ky then es else es ++ [x])
  rw [h]
  split
  · exact ⟨t, rfl⟩
  · exact ⟨x :: t, by rw [List.append_assoc]; rfl⟩
theorem zdA {Q : En -> Prop} : ∀ (xs es : List En), (∀ x ∈ es, Q x) -> (∀ x ∈ xs, Q x) -> ∀ x ∈ tk es xs, Q x
 | [], es, h, _ => h
 | x :: r, es, h, g => by
  unfold tk
  refine zdA r _ (λ y m => ?_) λ y m => g y (zzA _ m)
  split at m
  · exact h y m
  · rcases zzJ.mp m with m | m
    · exact h y m
    · rw [zzO.mp m]; exact g x zzC
theorem zgn : ∀ (xs es : List En), (es.map ky).Nodup -> ((tk es xs).map ky).Nodup
 | [], es, h => h
 | x :: r, es, h => by
  unfold tk
  refine zgn r _ ?_
  split
  · exact h
  · rename_i hn
    rw [List.map_append]
    refine List.nodup_append.mpr ⟨h, zzT.mpr ⟨List.not_mem_nil, List.nodup_nil⟩, λ a m b m' e => ?_⟩
    have : b = ky x := zzO.mp m'
    subst e this
    exact hn m
theorem Vu {xs es : List En} {k : Int × Int} (h : k ∈ es.map ky) : k ∈ (tk es xs).map ky := by
 obtain ⟨t, e⟩ := zcY xs es
 rw [e, List.map_append]
 exact zzM _ h
theorem zcv : ∀ (xs es : List En) (x : En), x ∈ xs -> ky x ∈ (tk es xs).map ky
 | y :: r, es, x, m => by
  unfold tk
  rcases zS.mp m with rfl | m
  · refine Vu ?_
    split
    · assumption
    · rw [List.map_append]; exact zzI _ zzC
  · exact zcv r _ x m
def two (m : Nat) (J : TZ) (es : List En) (p q : Nat) : En := (jAt J (es.getD p (0, 0, .non)).1 (es.getD q (0, 0, .non)).1, ((es.getD p (0, 0, .non)).2.1 + (es.getD q (0, 0, .non)).2.1) % m, .tup [.str "two", .int p, .int q])
def fol (m : Nat) (J : TZ) (Ds : DD) (es : List En) (k : Nat) : List En :=
 (Ds.map λ p => (jAt p.2 (es.getD k (0, 0, .non)).2.1 (es.getD k (0, 0, .non)).1, (es.getD k (0, 0, .non)).2.1, D.tup [.str "deed", .str p.1, .int k])) ++ (List.range (k + 1)).flatMap λ p => [two m J es p k, two m J es k p]
def Ok (n m : Nat) (x : En) : Prop := InR n x.1 /\ InR m x.2.1
structure Cl (n m : Nat) (J : TZ) (Ds : DD) (es : List En) (at_ : Nat) : Prop where
 nd : (es.map ky).Nodup
 ok : ∀ x ∈ es, Ok n m x
 dd : ∀ k, k < at_ -> ∀ x, es[k]? = some x -> ∀ p ∈ Ds, (jAt p.2 x.2.1 x.1, x.2.1) ∈ es.map ky
 tw : ∀ p q, p < at_ -> q < at_ -> ∀ x y, es[p]? = some x -> es[q]? = some y -> (jAt J x.1 y.1, (x.2.1 + y.2.1) % m) ∈ es.map ky
variable {n m : Nat} {J : TZ} {e : Int} {Ds : DD} {es : List En}
theorem gd {k : Nat} {x : En} (h : es[k]? = some x) : es.getD k (0, 0, .non) = x := by rw [List.getD_eq_getElem?_getD, h]; rfl
theorem zjj (L : LawA n m J e Ds) (m1 : 1 <= m) {p q : Nat} {x y : En} (hx : es[p]? = some x) (hy : es[q]? = some y) (ox : Ok n m x) (oy : Ok n m y) : Ok n m (two m J es p q) := by
 unfold two
 rw [gd hx, gd hy]
 exact ⟨L.lj.cl _ _ ox.1 oy.1, zax (by omega)⟩
theorem Cl.fol_ok {k : Nat} (L : LawA n m J e Ds) (m1 : 1 <= m) (h : Cl n m J Ds es k) (hk : k < es.length) : ∀ x ∈ fol m J Ds es k, Ok n m x := λ x mx => by
 have ek := zzB hk
 have ok := h.ok _ (List.getElem_mem hk)
 rcases zzJ.mp mx with mx | mx
 · obtain ⟨p, mp, rfl⟩ := List.mem_map.mp mx
   rw [gd ek]
   exact ⟨(L.ld p mp).cl _ _ ok.2 ok.1, ok.2⟩
 · obtain ⟨p, mp, mx⟩ := List.mem_flatMap.mp mx
   have hp : p < es.length := by have := List.mem_range.mp mp; omega
   have ep := zzB hp
   have op := h.ok _ (List.getElem_mem hp)
   rcases zS.mp mx with rfl | mx
   · exact zjj L m1 ep ek op ok
   · rw [zzO.mp mx]; exact zjj L m1 ek ep ok op
theorem Cl.step {k : Nat} (L : LawA n m J e Ds) (m1 : 1 <= m) (h : Cl n m J Ds es k) (hk : k < es.length) : Cl n m J Ds (tk es (fol m J Ds es k)) (k + 1) := by
 obtain ⟨t, et⟩ := zcY (fol m J Ds es k) es
 have at_ : ∀ {i : Nat} {x : En}, i < k + 1 -> (tk es (fol m J Ds es k))[i]? = some x -> es[i]? = some x := λ hi hx => by
  rw [et, List.getElem?_append_left (by omega)] at hx; exact hx
 refine ⟨zgn _ _ h.nd, zdA _ _ h.ok (h.fol_ok L m1 hk), λ i hi x hx p mp => ?_, λ p q hp hq x y hx hy => ?_⟩
 · have ex := at_ hi hx
   by_cases e1 : i < k
   · exact Vu (h.dd i e1 x ex p mp)
   · have : i = k := by omega
     subst this
     have := zcv (fol m J Ds es i) es _ (zzM _ (List.mem_map.mpr ⟨p, mp, rfl⟩))
     rw [gd ex] at this
     exact this
 · have ex := at_ hp hx
   have ey := at_ hq hy
   by_cases e1 : p < k /\ q < k
   · exact Vu (h.tw p q e1.1 e1.2 x y ex ey)
   · by_cases e2 : q = k
     · subst e2
       have := zcv (fol m J Ds es q) es _ (zzI _ (List.mem_flatMap.mpr ⟨p, List.mem_range.mpr (by omega), zzC⟩))
       unfold two at this
       rw [gd ex, gd ey] at this
       exact this
     · have : p = k := by omega
       subst this
       have := zcv (fol m J Ds es p) es _ (zzI _ (List.mem_flatMap.mpr ⟨q, List.mem_range.mpr (by omega), zzA _ zzC⟩))
       unfold two at this
       rw [gd ex, gd ey] at this
       exact this
structure Kn (n m : Nat) (J : TZ) (e : Int) (Ds : DD) (ks : List (Int × Int)) : Prop where
 o : (e, 0) ∈ ks
 d : ∀ v c, (v, c) ∈ ks -> ∀ p ∈ Ds, (jAt p.2 c v, c) ∈ ks
 t : ∀ v c v' c', (v, c) ∈ ks -> (v', c') ∈ ks -> (jAt J v v', (c + c') % m) ∈ ks
theorem Cl.kn (h : Cl n m J Ds es es.length) (h0 : (e, 0) ∈ es.map ky) : Kn n m J e Ds (es.map ky) := by
 have ix : ∀ {v c : Int}, (v, c) ∈ es.map ky -> ∃ i x, i < es.length /\ es[i]? = some x /\ x.1 = v /\ x.2.1 = c := λ hm => by
  obtain ⟨x, mx, ex⟩ := List.mem_map.mp hm
  obtain ⟨i, hi, hx⟩ := List.getElem_of_mem mx
  cases ex
  exact ⟨i, x, hi, by rw [zzB hi, hx], rfl, rfl⟩
 refine ⟨h0, λ v c hm p mp => ?_, λ v c v' c' h1 h2 => ?_⟩
 · obtain ⟨i, x, hi, hx, rfl, rfl⟩ := ix hm
   exact h.dd i hi x hx p mp
 · obtain ⟨i, x, hi, hx, rfl, rfl⟩ := ix h1
   obtain ⟨j, y, hj, hy, rfl, rfl⟩ := ix h2
   exact h.tw i j hi hj x y hx hy
theorem Kn.whole {ks : List (Int × Int)} (h : Kn n m J e Ds ks) : ∀ (row : List Int) (w c : Int), (w, c) ∈ ks -> c % m = c -> (∀ v ∈ row, (v, 1 % (m : Int)) ∈ ks) -> (row.foldl (λ w a => jAt J w a) w, (c + (row.length : Int)) % m) ∈ ks
 | [], w, c, h1, h2, _ => by
  show (w, (c + 0) % (m : Int)) ∈ ks
  rw [Int.add_zero, h2]; exact h1
 | v :: r, w, c, h1, h2, h3 => by
  have := h.whole r (jAt J w v) ((c + 1 % (m : Int)) % m) (h.t _ _ _ _ h1 (h3 v zzC)) (Int.emod_emod _ _) λ a ma => h3 a (zzA _ ma)
  rw [Int.emod_add_emod, Int.add_right_comm, Int.add_emod_emod] at this
  rw [zzQ, Int.natCast_succ, <- Int.add_assoc]
  exact this
theorem zhu {ps : List (Int × Int)} (nd : ps.Nodup) (h : ∀ p ∈ ps, InR n p.1 /\ InR m p.2) : ps.length <= n * m := by
 have hs : ps ⊆ (List.range (n * m)).map λ k => (((k / m : Nat) : Int), ((k % m : Nat) : Int)) := λ p mp => by
  obtain ⟨⟨a, b⟩, c, d⟩ := h p mp
  have hm : 0 < m := by omega
  refine List.mem_map.mpr ⟨p.1.toNat * m + p.2.toNat, List.mem_range.mpr ?_, ?_⟩
  · calc p.1.toNat * m + p.2.toNat < p.1.toNat * m + m := by omega
     _ = (p.1.toNat + 1) * m := by rw [Nat.add_mul, Nat.one_mul]
     _ <= n * m := Nat.mul_le_mul_right _ (by omega)
  · have e1 : (p.1.toNat * m + p.2.toNat) / m = p.1.toNat := by
     rw [Nat.mul_comm, Nat.mul_add_div hm, Nat.div_eq_of_lt (by omega)]; rfl
    have e2 : (p.1.toNat * m + p.2.toNat) % m = p.2.toNat := by
     rw [Nat.mul_comm, Nat.mul_add_mod, Nat.mod_eq_of_lt (by omega)]
    rw [e1, e2]
    exact Prod.ext (by show ((p.1.toNat : Nat) : Int) = p.1; omega) (by show ((p.2.toNat : Nat) : Int) = p.2; omega)
 have := nd.length_le_of_subset hs
 rw [zD, List.length_range] at this
 exact this
abbrev pD (p : Int × Int) : D := .tup [.int p.1, .int p.2]
abbrev kP (p : Int × Int) : List Key := [.inl p.1, .inl p.2]
theorem zlr (ds : List D) : (ds.map (O.lf true)).all O.isLf = true := by
 rw [List.all_eq_true]
 intro x mx
 obtain ⟨d, _, rfl⟩ := List.mem_map.mp mx
 rfl
theorem znl {k : PF.Kind} (ds : List D) : (O.nd k (ds.map (O.lf true))).kl = some true := by
 show (if (ds.map (O.lf true)).all O.isLf = true then some (O.strs (ds.map (O.lf true))) else none) = _
 rw [if_pos (zlr ds), zbG]
theorem zlz {as : AS} {i : Nat} {a : EF} {g : D -> D -> Option R0} {k : PF.Kind} {ds : List D} {X x z : D} (ha : WD a as true x) (h : as[i]? = some (some (.nd k (ds.map (O.lf true))))) (hX : (O.nd k (ds.map (O.lf true))).toD = X) (hg : g x X = some (.im z)) : WE (f2 a (fV i) g) as z := by
 have e2 : RV.view as (.bo i) = some (X, some true) := by rw [Wl h, znl, hX]
 refine ⟨.lf (zL z || true) z, ?_, Bool.or_true _, rfl⟩
 unfold WD at ha
 unfold f2
 simp only [zaR h, ha, Option.bind_some, RV.frz, e2]
 show ((g x X).bind _) = _
 rw [hg]
 show ((if (zL z || true) = true then some (RV.ow (lfs true z)) else none : Option RV).bind _) = _
 rw [if_pos (Bool.or_true _)]; rfl
theorem zfx {p q : Int × Int} (h : kP p = kP q) : p = q := by
 obtain ⟨a, b⟩ := p
 obtain ⟨c, d⟩ := q
 have h1 := (List.cons.inj h).1
 have h2 := (List.cons.inj (List.cons.inj h).2).1
 have e1 : a = c := Sum.inl.inj h1
 have e2 : b = d := Sum.inl.inj h2
 rw [e1, e2]
theorem zfK {p : Int × Int} : ∀ {ps : List (Int × Int)} {fs : List D}, ps.length = fs.length -> p ∈ ps -> ∃ x ∈ fs, zcj (ps.map kP) fs (kP p) = some x
 | [], _, _, h => nomatch h
 | q :: ps, [], h, _ => by simp at h
 | q :: ps, f :: fs, hl, h => by
  unfold zcj
  rw [List.map_cons, List.zip_cons_cons]
  by_cases e : q = p
  · rw [List.find?_cons_of_pos (by simp [e])]; exact ⟨f, zzC .., rfl⟩
  · rw [List.find?_cons_of_neg (by simpa using λ z : kP q = kP p => e (zfx z))]
    obtain ⟨x, mx, hx⟩ := zfK (ps := ps) (fs := fs) (by simpa using hl) ((zS.mp h).resolve_left λ z => e z.symm)
    exact ⟨x, zzA _ mx, hx⟩
theorem zej {p : Int × Int} : ∀ {ps : List (Int × Int)} {fs : List D}, p ∉ ps -> zcj (ps.map kP) fs (kP p) = none
 | [], _, _ => rfl
 | q :: ps, [], _ => rfl
 | q :: ps, f :: fs, h => by
  unfold zcj
  rw [List.map_cons, List.zip_cons_cons, List.find?_cons_of_neg (by simpa using λ z : kP q = kP p => h (by rw [<- zfx z]; exact zzC ..))]
  exact zej (ps := ps) (fs := fs) λ z => h (zzA _ z)
theorem znL {p : Int × Int} {ps : List (Int × Int)} {fs : List D} (hl : ps.length = fs.length) : inP (pD p) (.dt (ps.map kP) fs) = some (decide (p ∈ ps)) := by
 show some (zcj (ps.map kP) fs (kP p)).isSome = _
 by_cases h : p ∈ ps
 · obtain ⟨x, _, hx⟩ := zfK hl h
   rw [hx, decide_eq_true h]; rfl
 · rw [zej h, decide_eq_false h]; rfl
abbrev dP (ps : List (Int × Int)) (fs : List D) : Option O := some (.nd (.dt (ps.map kP)) (fs.map (O.lf true)))
theorem zfv {ks : List (List Key)} (fs : List D) : (O.nd (.dt ks) (fs.map (O.lf true))).toD = .dt ks fs := by
 show D.dt ks (O.toDs (fs.map (O.lf true))) = _
 rw [zaT]
theorem zmA (ds : List D) : (O.nd .ls (ds.map (O.lf true))).toD = .lst ds := by
 show D.lst (O.toDs (ds.map (O.lf true))) = _
 rw [zaT]
theorem zgq {p : Int × Int} {ps : List (Int × Int)} (h : p ∉ ps) : zhV (ps.map kP) (kP p) = false := by
 unfold zhV
 rw [List.any_eq_false]
 intro k mk
 obtain ⟨q, mq, rfl⟩ := List.mem_map.mp mk
 simpa using λ z : kP q = kP p => h (by rw [<- zfx z]; exact mq)
theorem zkL {as : AS} {j k : Nat} {fv : EF} {p : Int × Int} {ps : List (Int × Int)} {fs : List D} {x : D} (h5 : as[j]? = some (dP ps fs)) (h11 : as[k]? = some (sT (pD p))) (hv : WE fv as x) (hn : p ∉ ps) (hl : ps.length <= 1000) :
 WP j (fV k) fv as = some (.nx (as.set j (dP (ps ++ [p]) (fs ++ [x])))) := by
 obtain ⟨o, h1, h2, h3⟩ := hv
 have e : XF as (.ow o) = some ((o.str, o.toD), as) := rfl
 have e1 : fV k as = some (.ow (.lf true (pD p)), as) := zb h11
 have e3 : (RV.ow (.lf true (pD p))).frz.view as = some (pD p, some true) := rfl
 have e4 : zii (pD p) = some (kP p) := rfl
 unfold WP
 simp only [h1, Option.bind_some, e, h5, e1, e3, e4, zD, if_pos (show ps.length < sizeLine from Nat.lt_of_le_of_lt hl (by decide))]
 unfold Xq Ze
 rw [zgq hn, h2, h3]
 simp only [Bool.false_eq_true, if_false, dP, List.map_append, List.map_cons, List.map_nil]
theorem zlk {f : EF} {as : AS} {c : Bool} (h : WE f as (.bl c)) : WD f as true (.bl c) := by
 obtain ⟨o, h1, h2, h3⟩ := h
 cases o with
 | lf st d =>
  have e1 : st = true := h2
  have e2 : d = .bl c := h3
  subst e1 e2
  exact h1
 | nd k os => cases k <;> cases h3
theorem zih {p : Int × Int} {ps : List (Int × Int)} {fs : List D} (hl : ps.length = fs.length) : yj .NotIn (pD p) (.dt (ps.map kP) fs) = some (.im (.bl (!decide (p ∈ ps)))) := by
 unfold yj
 simp only [znL hl]
 rfl
abbrev eD (x : En) : D := .tup [.int x.1, .int x.2.1, x.2.2]
abbrev eO (es : List En) : O := .nd .ls ((es.map eD).map (O.lf true))
abbrev yes (es : List En) : List D := es.map λ _ => .bl true
abbrev kO (es : List En) : O := .nd (.dt ((es.map ky).map kP)) ((yes es).map (O.lf true))
abbrev T5 (es xs : List En) (e3 e4 : Option O) : AS := [some (eO es), some (kO es), sT (.lst (xs.map eD)), e3, e4]
abbrev tnB : SF := (zB (zJ true 4 (yV (dC (f2 (fV 3) (fC (.int 0)) ixP) (dC (f2 (fV 3) (fC (.int 1)) ixP) dN))))
 (sIf (fT (f2 (fV 4) (fV 1) (yj .NotIn))) (zB (WP 1 (fV 4) (fC (.bl true)))
 (yO (ww 0 (dC (fV 3) dN) vm))) sNx))
theorem zfI {xs : List En} : ∀ (r es : List En) (e3 e4 : Option O), es.length + r.length <= 1000 ->
 ∃ e3' e4', forL (gN 3) tnB ((r.map eD).map λ d => (true, d)) (T5 es xs e3 e4) = some (.nx (T5 (tk es r) xs e3' e4'))
 | [], es, e3, e4, _ => ⟨e3, e4, rfl⟩
 | x :: r, es, e3, e4, hl => by
  have hl' : es.length + (r.length + 1) <= 1000 := hl
  have w1 : WD (f2 (fV 3) (fC (.int 0)) ixP) (T5 es xs (sT (eD x)) e4) true (.int x.1) := yx (g := ixP) (zb (i := 3) rfl) (zf (x := .int 0)) rfl rfl
  have w2 : WD (f2 (fV 3) (fC (.int 1)) ixP) (T5 es xs (sT (eD x)) e4) true (.int x.2.1) := yx (g := ixP) (zb (i := 3) rfl) (zf (x := .int 1)) rfl rfl
  have s4 := Xn (p := 4) (zbf (WD.e w1) (WD.e w2)) (zE rfl)
  have fl : (es.map ky).length = (yes es).length := by rw [zD, zD]
  have tn := vg (zlk (zlz (as := T5 es xs (sT (eD x)) (sT (pD (ky x)))) (i := 1) (g := yj .NotIn) (z := .bl (!decide (ky x ∈ es.map ky))) (zb (i := 4) rfl) rfl (zfv (yes es)) (zih fl))) rfl
  by_cases hc : ky x ∈ es.map ky
  · rw [decide_eq_true hc] at tn
    obtain ⟨e3', e4', hf⟩ := zfI r es (sT (eD x)) (sT (pD (ky x))) (by omega)
    refine ⟨e3', e4', ?_⟩
    have ht : tk es (x :: r) = tk es r := by unfold tk; rw [if_pos hc]; cases r <;> rfl
    rw [ht]
    exact vD (as1 := T5 es xs (sT (eD x)) e4) rfl (zZ s4 (xW tn rfl)) hf
  · rw [decide_eq_false hc] at tn
    have sd := zkL (as := T5 es xs (sT (eD x)) (sT (pD (ky x)))) (j := 1) (k := 4) (fs := yes es) rfl rfl (WD.e (zf (x := .bl true))) hc (by rw [zD]; omega)
    have sa := zaz (as := (T5 es xs (sT (eD x)) (sT (pD (ky x)))).set 1 (dP (es.map ky ++ [ky x]) (yes es ++ [.bl true]))) (i := 0) (a := fV 3) (os := (es.map eD).map (O.lf true)) rfl (by rw [zD, zD]; exact Nat.lt_of_le_of_lt (show es.length <= 1000 by omega) (by decide)) (zb (i := 3) rfl)
    obtain ⟨e3', e4', hf⟩ := zfI r (es ++ [x]) (sT (eD x)) (sT (pD (ky x))) (by rw [zzG]; show es.length + 1 + r.length <= 1000; omega)
    refine ⟨e3', e4', ?_⟩
    have ht : tk es (x :: r) = tk (es ++ [x]) r := by
     show tk (if ky x ∈ es.map ky then es else es ++ [x]) r = _
     rw [if_neg hc]
    rw [ht]
    have el : (es.map eD).map (O.lf true) ++ [O.lf true (eD x)] = ((es ++ [x]).map eD).map (O.lf true) := by rw [List.map_append, List.map_append]; rfl
    have e5 : dP (es.map ky ++ [ky x]) (yes es ++ [.bl true]) = some (kO (es ++ [x])) := by
     show some (O.nd _ _) = some (O.nd _ _)
     rw [show es.map ky ++ [ky x] = (es ++ [x]).map ky by rw [List.map_append]; rfl, show yes es ++ [.bl true] = yes (es ++ [x]) by show _ = (es ++ [x]).map _; rw [List.map_append]; rfl]
    rw [el] at sa
    rw [e5] at sd sa
    exact vD (as1 := T5 es xs (sT (eD x)) e4) rfl (zZ s4 (vZ tn (zZ sd sa))) hf
theorem zkn {es xs : List En} (hl : es.length + xs.length <= 1000) : yU (eO es) (kO es) (true, .lst (xs.map eD)) = some (eO (tk es xs), kO (tk es xs)) := by
 obtain ⟨e3', e4', hf⟩ := zfI (xs := xs) xs es none none hl
 have h : W9 (startM 5 (eO es) (kO es) (true, .lst (xs.map eD))) = some (.nx (T5 (tk es xs) xs e3' e4')) :=
  xR (as := T5 es xs none none) (zld (zb (i := 2) rfl)) hf
 unfold yU gM
 rw [h]
 rfl
variable {n m : Nat} {J : PF.TZ} {e : Int} {Ds : PF.DD} {S : PF.SS} {es : List En}
theorem zjc (A : Alg n m J e Ds) (L : LawA n m J e Ds) : RE (xg [(true, zH n m J e Ds S)]) .non := by
 have h : ZS (xj 2 [(true, zH n m J e Ds S)]) = some (.nx [sT (zH n m J e Ds S), sT .non]) := zZ (Xn (p := 1) (zaf (WD.e (zb (i := 0) rfl)) (zgY A L)) (zE rfl)) (xW (vg (yx (zb (i := 1) rfl) zf rfl rfl) rfl) rfl)
 refine ⟨.lf true .non, ?_, rfl, rfl⟩
 unfold xg fnR
 rw [if_pos (by rfl), h]; rfl
theorem enD {s : Bool} {a b : EF} {as : AS} {k : Nat} {x : En} (h : es[k]? = some x) (ha : WD a as s (.lst (es.map eD))) (hb : WD b as true (.int k)) : WD (f2 a b ixP) as (zL (eD x) || (s && true)) (eD x) := zin ha hb (W6 h)
theorem en0 {s : Bool} {a b : EF} {as : AS} {x : En} (ha : WD a as s (eD x)) (hb : WD b as true (.int 0)) : WD (f2 a b ixP) as true (.int x.1) := yx ha hb rfl rfl
theorem en1 {s : Bool} {a b : EF} {as : AS} {x : En} (ha : WD a as s (eD x)) (hb : WD b as true (.int 1)) : WD (f2 a b ixP) as true (.int x.2.1) := yx ha hb rfl rfl
theorem Ww {a b c : EF} {as : AS} {x y z : D} (ha : WE a as x) (hb : WE b as y) (hc : WE c as z) : WE (yV (dC a (dC b (dC c dN)))) as (.tup [x, y, z]) := by
 obtain ⟨q, j1, rfl, j3⟩ := zaW hc yt
 obtain ⟨p, k1, rfl, k3⟩ := zaW hb j3
 obtain ⟨o, h1, rfl, h3⟩ := zaW ha k3
 exact zfC h3 (by show 3 <= _; omega) (by show (o.str && (p.str && (q.str && true))) = true; rw [h1, k1, j1]; rfl) rfl
theorem zcL (A : Alg n m J e Ds) (m1 : 1 <= m) {s : Bool} {p q : Nat} {x y : En} (hx : es[p]? = some x) (hy : es[q]? = some y) (ox : Ok n m x) (oy : Ok n m y) : RE (vU [(true, zH n m J e Ds S), (s, .lst (es.map eD)), (true, .int p), (true, .int q)]) (eD (two m J es p q)) := by
 have s4 := yf (st := true) (as := xj 6 [(true, zH n m J e Ds S), (s, .lst (es.map eD)), (true, .int p), (true, .int q)]) (i := 4) (enD hx (zb (i := 1) rfl) (zb (i := 2) rfl)) (zE rfl)
 have s5 := yf (st := true) (as := [sT (zH n m J e Ds S), some (.lf s (.lst (es.map eD))), sI p, sI q, some (.lf (zL (eD x) || (s && true)) (eD x)), none]) (i := 5) (enD hy (zb (i := 1) rfl) (zb (i := 3) rfl)) (zE rfl)
 have w1 : WD (f2 (f2 (f2 (fV 0) (fC (.int 2)) ixP) (f2 (fV 4) (fC (.int 0)) ixP) ixP) (f2 (fV 5) (fC (.int 0)) ixP) ixP) [sT (zH n m J e Ds S), some (.lf s (.lst (es.map eD))), sI p, sI q, some (.lf (zL (eD x) || (s && true)) (eD x)), some (.lf (zL (eD y) || (s && true)) (eD y))] true (.int (jAt J x.1 y.1)) :=
  Yh A.j ox.1 oy.1 (f2E (WD.e (zb (i := 0) rfl)) (WD.e zf) rfl) (en0 (zb (i := 4) rfl) zf) (en0 (zb (i := 5) rfl) zf)
 have w2 : WD (f2 (f2 (f2 (fV 4) (fC (.int 1)) ixP) (f2 (fV 5) (fC (.int 1)) ixP) (zp .Add)) (f2 (fV 0) (fC (.int 1)) ixP) (zp .Mod)) [sT (zH n m J e Ds S), some (.lf s (.lst (es.map eD))), sI p, sI q, some (.lf (zL (eD x) || (s && true)) (eD x)), some (.lf (zL (eD y) || (s && true)) (eD y))] true (.int ((x.2.1 + y.2.1) % m)) :=
  zU (yd (en1 (zb (i := 4) rfl) zf) (en1 (zb (i := 5) rfl) zf)) (f2E (WD.e (zb (i := 0) rfl)) (WD.e zf) rfl) (by omega)
 have w3 : WE (yV (dC (fC (.str "two")) (dC (fV 2) (dC (fV 3) dN)))) [sT (zH n m J e Ds S), some (.lf s (.lst (es.map eD))), sI p, sI q, some (.lf (zL (eD x) || (s && true)) (eD x)), some (.lf (zL (eD y) || (s && true)) (eD y))] (.tup [.str "two", .int p, .int q]) := Ww (WD.e zf) (WD.e (zb (i := 2) rfl)) (WD.e (zb (i := 3) rfl))
 have e1 : eD (two m J es p q) = .tup [.int (jAt J x.1 y.1), .int ((x.2.1 + y.2.1) % m), .tup [.str "two", .int p, .int q]] := by unfold two; rw [gd hx, gd hy]
 rw [e1]
 exact vO rfl (zK s4 (zK s5 (Zo (Ww (WD.e w1) (WD.e w2) w3))))
theorem zlh {a b c d : EF} {as : AS} {s : Bool} {x l z : D} {p q : Int} {g : List (Bool × D) -> Option O} (ha : WD a as true x) (hb : WD b as s l) (hc : WD c as true (.int p)) (hd : WD d as true (.int q)) (hg : RE (g [(true, x), (zL l || s, l), (true, .int p), (true, .int q)]) z) : WE (zG (aC a (aC b (aC c (aC d aN)))) g) as z := by
 obtain ⟨o, h1, h2, h3⟩ := hg
 exact ⟨o, Ws (zx ha (zx hb (zx hc (zx hd zP)))) (by show g [(zL x || true, x), (zL l || s, l), (true, .int p), (true, .int q)] = _; rw [Bool.or_true]; exact h1), h2, h3⟩
variable {n m : Nat} {J : PF.TZ} {e : Int} {Ds : PF.DD} {S : PF.SS} {es : List En}
theorem zox {as : AS} {i : Nat} {fe : EF} {os ps : List O} (h : as[i]? = some (some (.nd .ls os))) (e1 : fe as = some (.ow (.nd .ls ps), as)) (hl : os.length + ps.length <= 1000) :
 yO (ww i (dC fe dN) zgO) as = some (.nx (as.set i (some (.nd .ls (os ++ ps))))) := by
 unfold yO ww
 rw [h]
 show (((dC fe dN as).bind _).bind _) = _
 unfold dC
 rw [e1]
 show ((match as[i]? with | some (some (.nd .ls os)) => (zgO os [.nd .ls ps]).bind λ z => some (RV.ow z.2, as.set i (some (.nd .ls z.1))) | _ => none).bind _) = _
 rw [h]
 show (((if os.length + ps.length <= sizeLine then some (os ++ ps, O.lf true .non) else none : Option (List O × O)).bind _).bind _) = _
 rw [if_pos (szs (by omega))]; rfl
theorem zeQ : ∀ (a b : List O), O.toDs (a ++ b) = O.toDs a ++ O.toDs b
 | [], _ => rfl
 | x :: a, b => congrArg (x.toD :: ·) (zeQ a b)
theorem zdZ : ∀ {a b : List O}, O.strs a = true -> O.strs b = true -> O.strs (a ++ b) = true
 | [], _, _, h => h
 | x :: a, b, h, h' => by
  have h := (Bool.and_eq_true _ _).mp (show (x.str && O.strs a) = true from h)
  show (x.str && O.strs (a ++ b)) = true
  rw [h.1, zdZ h.2 h']; rfl
def Oe (os : List O) (l : List En) : Prop := O.strs os = true /\ O.toDs os = l.map eD
theorem Oe.len {os : List O} {l : List En} (h : Oe os l) : os.length = l.length := by have := congrArg List.length h.2; rw [Xz, zD] at this; exact this
abbrev B7 (s : Bool) (A : D) (es : List En) (k : Nat) (v c : Int) (os : List O) (e6 : Option O) : AS := [sT A, some (.lf s (.lst (es.map eD))), sI k, sI v, sI c, some (.nd .ls os), e6]
abbrev foB : SF := (yO (ww 5 (dC (wH (dC (zG (aC (fV 0) (aC (fV 1) (aC (fV 6) (aC (fV 2) aN)))) vU) (dC (zG (aC (fV 0) (aC (fV 1) (aC (fV 2) (aC (fV 6) aN)))) vU) dN))) dN) zgO))
abbrev prs (m : Nat) (J : PF.TZ) (es : List En) (k i : Nat) : List En := (List.range i).flatMap λ p => [two m J es p k, two m J es k p]
theorem zer {k i : Nat} : prs m J es k (i + 1) = prs m J es k i ++ [two m J es i k, two m J es k i] := by
 show (List.range (i + 1)).flatMap _ = _
 rw [List.range_succ, List.flatMap_append]; rfl
theorem zdF {k : Nat} : ∀ i, (prs m J es k i).length = 2 * i
 | 0 => rfl
 | i + 1 => by rw [zer, zzG, zdF i]; show 2 * i + 2 = _; omega
theorem zmy (A : Alg n m J e Ds) (m1 : 1 <= m) {s : Bool} {k : Nat} {x : En} (hk : es[k]? = some x) (ok : ∀ y ∈ es, Ok n m y) (hl : k < 100) {v c : Int} {os0 : List O} {l0 : List En} (h0 : Oe os0 l0) (ll : l0.length <= 10) :
 ∃ os e6, forL (gN 6) foB (yL 0 (k + 1)) (B7 s (zH n m J e Ds S) es k v c os0 none) = some (.nx (B7 s (zH n m J e Ds S) es k v c os e6)) /\ Oe os (l0 ++ prs m J es k (k + 1)) := by
 have ox := ok x (List.mem_of_getElem? hk)
 have hke : k < es.length := (zzD.mp hk).1
 obtain ⟨as', hf, os, e6, rfl, ho⟩ := xf (g := gN 6) (f := foB) (λ i as => ∃ os e6, as = B7 s (zH n m J e Ds S) es k v c os e6 /\ Oe os (l0 ++ prs m J es k i)) (yL 0 (k + 1)) 0 (B7 s (zH n m J e Ds S) es k v c os0 none) (λ i y as hy hI => by
  obtain ⟨os, e6, rfl, ho⟩ := hI
  obtain ⟨rfl, hi⟩ := yW hy
  rw [Nat.zero_add] at ho
  have hp : i < es.length := by omega
  have ep := zzB hp
  have op := ok _ (List.getElem_mem hp)
  refine ⟨B7 s (zH n m J e Ds S) es k v c os (sI (0 + i)), rfl, ?_⟩
  rw [show (0 + (i : Int)) = (i : Int) by omega]
  obtain ⟨o2, j1, j2, j3⟩ := zaW (zlh (as := B7 s (zH n m J e Ds S) es k v c os (sI i)) (zb (i := 0) rfl) (zb (i := 1) rfl) (zb (i := 2) rfl) (zb (i := 6) rfl) (zcL (S := S) A m1 hk ep ox op)) yt
  obtain ⟨o1, k1, k2, k3⟩ := zaW (zlh (as := B7 s (zH n m J e Ds S) es k v c os (sI i)) (zb (i := 0) rfl) (zb (i := 1) rfl) (zb (i := 6) rfl) (zb (i := 2) rfl) (zcL (S := S) A m1 ep hk op ox)) j3
  have e1 := Zm k3 (szl rfl)
  have ln := ho.len
  rw [zzG, zdF] at ln
  refine ⟨_, zox (as := B7 s (zH n m J e Ds S) es k v c os (sI i)) (i := 5) rfl e1 (by show os.length + 2 <= 1000; omega), os ++ [o1, o2], sI i, rfl, ?_⟩
  rw [Nat.zero_add, zer, <- List.append_assoc]
  refine ⟨zdZ ho.1 (by show (o1.str && (o2.str && true)) = true; rw [k1, j1]; rfl), ?_⟩
  rw [zeQ, ho.2]
  show _ ++ [o1.toD, o2.toD] = _
  rw [k2, j2, List.map_append (l₁ := l0 ++ prs m J es k i)]; rfl) ⟨os0, none, rfl, by rw [show prs m J es k 0 = [] from rfl, List.append_nil]; exact h0⟩
 rw [yC, Nat.zero_add] at ho
 exact ⟨os, e6, hf, ho⟩
variable {n m : Nat} {J : PF.TZ} {e : Int} {Ds : PF.DD} {S : PF.SS} {es : List En}
theorem zif {α : Type} {f : EF} {as : AS} {g : α -> D} {l : List α} (h : WE f as (.lst (l.map g))) : Wx f as = some (l.map λ a => (true, g a), as) := by
 have := zhX h
 rw [List.map_map] at this
 exact this
theorem zjA {p : Str × PF.TZ} {a b c : Option O} : gT 2 (gsC (gN 0) (gsC (gN 1) gsN)) (true, Zi p) [none, none, a, b, c] = some [sT (.str p.1), sT (ye p.2), a, b, c] := by
 have k : kids true [.str p.1, ye p.2] = [(true, .str p.1), (true, ye p.2)] := by
  show [(zL (.str p.1) || true, .str p.1), (zL (ye p.2) || true, ye p.2)] = _
  rw [Bool.or_true, Bool.or_true]
 unfold gT
 simp only [Zi, k]
 rfl
theorem zdD (A : Alg n m J e Ds) (L : LawA n m J e Ds) {s : Bool} {k : Nat} {x : En} (hk : es[k]? = some x) (ok : ∀ y ∈ es, Ok n m y) (hl : k < 100) : RE (wM [(true, zH n m J e Ds S), (s, .lst (es.map eD)), (true, .int k)]) (.lst ((fol m J Ds es k).map eD)) := by
 have ox := ok x (List.mem_of_getElem? hk)
 have s3 := Xn (as := xj 7 [(true, zH n m J e Ds S), (s, .lst (es.map eD)), (true, .int k)]) (p := 3) (WD.e (en0 (enD hk (zb (i := 1) rfl) (zb (i := 2) rfl)) zf)) (zE rfl)
 have s4 := Xn (as := [sT (zH n m J e Ds S), some (.lf s (.lst (es.map eD))), sI k, sI x.1, none, none, none]) (p := 4) (WD.e (en1 (enD hk (zb (i := 1) rfl) (zb (i := 2) rfl)) zf)) (zE rfl)
 have hi := zif (as := [sT (zH n m J e Ds S), some (.lf s (.lst (es.map eD))), sI k, sI x.1, sI x.2.1, none, none]) (f := f2 (fV 0) (fC (.int 4)) ixP) (g := Zi) (l := Ds) (WD.e (f2E (WD.e (zb (i := 0) rfl)) (WD.e zf) rfl))
 obtain ⟨os, c1, c2, c3⟩ := zah (h := λ p => eD (jAt p.2 x.2.1 x.1, x.2.1, D.tup [.str "deed", .str p.1, .int k])) (it := λ p => (true, Zi p)) (gg := gT 2 (gsC (gN 0) (gsC (gN 1) gsN))) (fe := yV (dC (f2 (f2 (fV 1) (fV 2) ixP) (fV 3) ixP) (dC (fV 2) (dC (yV (dC (fC (.str "deed")) (dC (fV 0) (dC (fV 4) dN)))) dN)))) (as0 := [none, none, sI x.2.1, sI x.1, sI k]) Ds λ p mp =>
  ⟨_, zjA, Ww (WD.e (Xu (A.ds p mp) ox.2 ox.1 (zb (i := 1) rfl) (zb (i := 2) rfl) (zb (i := 3) rfl)).1) (WD.e (zb (i := 2) rfl)) (Ww (WD.e zf) (WD.e (zb (i := 0) rfl)) (WD.e (zb (i := 4) rfl)))⟩
 have dl := A.dl
 have s5 := xr (i := 5) (zbk (cap := [none, none, some 4, some 3, some 2]) hi (szs (by rw [zD]; omega)) c1) (zE rfl)
 have h0 : Oe os (Ds.map λ p => (jAt p.2 x.2.1 x.1, x.2.1, D.tup [.str "deed", .str p.1, .int k])) := ⟨c2, by rw [c3, List.map_map]; rfl⟩
 obtain ⟨os', e6, hf, ho⟩ := zmy (S := S) A A.m1 hk ok hl (v := x.1) (c := x.2.1) h0 (by rw [zD]; omega)
 have hr := xq (as := B7 s (zH n m J e Ds S) es k x.1 x.2.1 os none) (zx (yd (zb (i := 2) rfl) (zf (x := .int 1))) zP) (by omega) (by omega)
 rw [show ((k : Int) + 1).toNat = k + 1 by omega] at hr
 have ef : (fol m J Ds es k) = (Ds.map λ p => (jAt p.2 x.2.1 x.1, x.2.1, D.tup [.str "deed", .str p.1, .int k])) ++ prs m J es k (k + 1) := by unfold fol; rw [gd hk]
 rw [ef]
 refine vO rfl (zK s3 (zK s4 (zK s5 (zK (xR hr hf) ?_))))
 exact Ows.retB (Q := λ _ => True) (i := 5) rfl ⟨ho.1, ho.2, λ _ _ => True.intro, ho.len⟩
variable {n m : Nat} {J : PF.TZ} {e : Int} {Ds : PF.DD} {S : PF.SS} {es : List En}
theorem zad {as : AS} {i j : Nat} {fe : EF} {xs : List En} (hi : as[i]? = some (some (eO es))) (hj : as[j]? = some (some (kO es))) (h : WE fe as (.lst (xs.map eD))) (hl : es.length + xs.length <= 1000) :
 Vb i j fe yU as = some (.nx ((as.set i (some (eO (tk es xs)))).set j (some (kO (tk es xs))))) := by
 obtain ⟨o, h1, h2, h3⟩ := h
 have e : XF as (.ow o) = some ((o.str, o.toD), as) := rfl
 unfold Vb
 simp only [hi, hj, h1, e, Option.bind_some, h2, h3, zkn hl]
abbrev C5 (A r : D) (es : List En) (k : Nat) : AS := [sT A, sT r, some (eO es), some (kO es), sI k]
abbrev coT : TF := fT (f2 (fV 4) (fP (aC (fV 2) aN) Z2) (yj .Lt))
abbrev coB : SF := (zB (Vb 2 3 (zG (aC (fV 0) (aC (fV 2) (aC (fV 4) aN))) wM) yU) (zhy 4 1))
theorem zoB (A : Alg n m J e Ds) (L : LawA n m J e Ds) {r : D} {k : Nat} {x : En} (hk : es[k]? = some x) (ok : ∀ y ∈ es, Ok n m y) (hl : k < 100) : WE (zG (aC (fV 0) (aC (fV 2) (aC (fV 4) aN))) wM) (C5 (zH n m J e Ds S) r es k) (.lst ((fol m J Ds es k).map eD)) := by
 obtain ⟨o, h1, h2, h3⟩ := zdD (S := S) (s := false) A L hk ok hl
 refine ⟨o, zbs (rs := [.ow (.lf true (zH n m J e Ds S)), .bo 2, .ow (.lf true (.int k))]) (xs := [(zL (zH n m J e Ds S) || true, zH n m J e Ds S), (false, (eO es).toD), (true, .int k)]) rfl rfl ?_, h2, h3⟩
 rw [Bool.or_true, zmA]; exact h1
theorem zkB {k : Nat} (A : Alg n m J e Ds) : (fol m J Ds es k).length <= 6 + 2 * (k + 1) := by
 have := A.dl
 unfold fol
 rw [zzG, zD]
 have := zdF (m := m) (J := J) (es := es) (k := k) (k + 1)
 unfold prs at this
 rw [this]; omega
theorem Cl.le {k : Nat} (A : Alg n m J e Ds) (h : Cl n m J Ds es k) : es.length <= 48 := by
 have := zhu h.nd λ p mp => by
  obtain ⟨x, mx, rfl⟩ := List.mem_map.mp mp
  exact h.ok x mx
 rw [zD] at this
 exact zzL this (zzL (Nat.mul_le_mul A.n8 A.m6) (by decide))
theorem zkU (A : Alg n m J e Ds) (L : LawA n m J e Ds) {r : D} : ∀ (d k f : Nat) (es : List En), Cl n m J Ds es k -> k <= es.length -> d + k = 49 -> d < f -> ∃ es', whL coT coB f (C5 (zH n m J e Ds S) r es k) = some (.nx (C5 (zH n m J e Ds S) r es' es'.length)) /\ Cl n m J Ds es' es'.length /\ ∀ q ∈ es.map ky, q ∈ es'.map ky
 | 0, k, f, es, h, hk, hd, hf => by have := h.le A; omega
 | d + 1, k, f, es, h, hk, hd, hf => by
  obtain ⟨f, rfl⟩ : ∃ g, f = g + 1 := ⟨f - 1, by omega⟩
  have le := h.le A
  have lt := zjk (zb (as := C5 (zH n m J e Ds S) r es k) (i := 4) rfl) (zoa (as := C5 (zH n m J e Ds S) r es k) (i := 2) rfl)
  rw [zD, zD] at lt
  by_cases hc : k < es.length
  · have tt : WT coT (C5 (zH n m J e Ds S) r es k) true := vg lt (congrArg some (decide_eq_true (by omega)))
    have ek := zzB hc
    have fl := zkB (es := es) (k := k) A
    have s1 := zad (as := C5 (zH n m J e Ds S) r es k) (i := 2) (j := 3) rfl rfl (zoB A L ek h.ok (by omega)) (by omega)
    obtain ⟨t, et⟩ := zcY (fol m J Ds es k) es
    obtain ⟨es', h1, h2, h3⟩ := zkU A L d (k + 1) f (tk es (fol m J Ds es k)) (h.step L A.m1 hc) (by rw [et, zzG]; omega) (by omega) (by omega)
    exact ⟨es', ziW tt (zZ s1 rfl) h1, h2, λ q mq => h3 q (Vu mq)⟩
  · have ee : k = es.length := by omega
    subst ee
    have tt : WT coT (C5 (zH n m J e Ds S) r es es.length) false := vg lt (congrArg some (decide_eq_false (by omega)))
    exact ⟨es, zjp tt, h, λ q mq => mq⟩
variable {n m : Nat} {J : PF.TZ} {e : Int} {Ds : PF.DD} {S : PF.SS}
abbrev zhm (m : Nat) (v : Int) : En := (v, 1 % (m : Int), .tup [.str "one", .int v])
theorem zhf (A : Alg n m J e Ds) (L : LawA n m J e Ds) {row : List Int} (hr : ∀ v ∈ row, InR n v) (hl : row.length <= 10) :
 ∃ es : List En, RE (XQ [(true, zH n m J e Ds S), (true, zN row)]) (.lst (es.map eD)) /\ Kn n m J e Ds (es.map ky) /\ (∀ v ∈ row, (v, 1 % (m : Int)) ∈ es.map ky) /\ es.length <= 48 /\ (es.map ky).Nodup := by
 have m1 := A.m1
 have s0 : yO (zG (aC (fV 0) aN) xg) (xj 5 [(true, zH n m J e Ds S), (true, zN row)]) = some (.nx (xj 5 [(true, zH n m J e Ds S), (true, zN row)])) := by
  obtain ⟨o, h1, _⟩ := zaf (as := xj 5 [(true, zH n m J e Ds S), (true, zN row)]) (WD.e (zb (i := 0) rfl)) (zjc (S := S) A L)
  unfold yO; rw [h1]; rfl
 have s2 := xr (as := xj 5 [(true, zH n m J e Ds S), (true, zN row)]) (i := 2) (Zm yt (szl rfl)) (zE rfl)
 have s3 := xr (as := [sT (zH n m J e Ds S), sT (zN row), some (.nd .ls []), none, none]) (f := zjh) (o := .nd (.dt []) []) (i := 3) rfl (zE rfl)
 have w0 : WE (wH (dC (yV (dC (f2 (fV 0) (fC (.int 3)) ixP) (dC (fC (.int 0)) (dC (yV (dC (fC (.str "none")) dN)) dN)))) dN)) [sT (zH n m J e Ds S), sT (zN row), some (eO []), some (kO []), none] (.lst ([((e, 0, .tup [.str "none"]) : En)].map eD)) := by
  obtain ⟨o, h1, h2, h3⟩ := zaW (as := [sT (zH n m J e Ds S), sT (zN row), some (eO []), some (kO []), none]) (Ww (WD.e (f2E (a := fV 0) (b := fC (.int 3)) (g := ixP) (z := .int e) (WD.e (zb (i := 0) rfl)) (WD.e zf) rfl)) (WD.e (zf (x := .int 0))) (zjN (WD.e (zf (x := .str "none"))))) yt
  exact v9 h3 (szl rfl) (by show (o.str && true) = true; rw [h1]; rfl) (by show D.lst [o.toD] = _; rw [h2]; rfl)
 have c1 := zad (i := 2) (j := 3) rfl rfl w0 (by show 0 + 1 <= 1000; decide)
 have w1 : WE (yE (Wx (fV 1)) [none, some 0] (gN 0) wk (yV (dC (fV 0) (dC (f2 (fC (.int 1)) (f2 (fV 1) (fC (.int 1)) ixP) (zp .Mod)) (dC (yV (dC (fC (.str "one")) (dC (fV 0) dN))) dN))))) [sT (zH n m J e Ds S), sT (zN row), some (eO (tk [] [((e, 0, .tup [.str "none"]) : En)])), some (kO (tk [] [((e, 0, .tup [.str "none"]) : En)])), none] (.lst ((row.map (zhm m)).map eD)) := by
  have := zjs (h := λ v => eD (zhm m v)) (it := λ v => (true, D.int v)) (as := [sT (zH n m J e Ds S), sT (zN row), some (eO (tk [] [((e, 0, .tup [.str "none"]) : En)])), some (kO (tk [] [((e, 0, .tup [.str "none"]) : En)])), none]) (cap := [none, some 0]) (gg := gN 0) (fe := yV (dC (fV 0) (dC (f2 (fC (.int 1)) (f2 (fV 1) (fC (.int 1)) ixP) (zp .Mod)) (dC (yV (dC (fC (.str "one")) (dC (fV 0) dN))) dN)))) row (zif (f := fV 1) (g := D.int) (WD.e (zb (i := 1) rfl))) (by omega) λ v _ => ⟨[sI v, sT (zH n m J e Ds S)], rfl, Ww (WD.e (zb (i := 0) rfl)) (WD.e (zU (zf (x := .int 1)) (f2E (a := fV 1) (b := fC (.int 1)) (g := ixP) (z := .int m) (WD.e (zb (i := 1) rfl)) (WD.e zf) rfl) (by omega))) (zbf (WD.e (zf (x := .str "one"))) (WD.e (zb (i := 0) rfl)))⟩
  rw [List.map_map]; exact this
 have c2 := zad (i := 2) (j := 3) rfl rfl w1 (by rw [zD]; show 1 + row.length <= 1000; omega)
 have s4 := yf (st := true) (as := [sT (zH n m J e Ds S), sT (zN row), some (eO (tk (tk [] [((e, 0, .tup [.str "none"]) : En)]) (row.map (zhm m)))), some (kO (tk (tk [] [((e, 0, .tup [.str "none"]) : En)]) (row.map (zhm m)))), none]) (i := 4) (zf (x := .int 0)) (zE rfl)
 have cl : Cl n m J Ds (tk (tk [] [((e, 0, .tup [.str "none"]) : En)]) (row.map (zhm m))) 0 := ⟨zgn _ _ (zgn _ _ List.nodup_nil), zdA _ _ (zdA _ _ (λ _ z => nomatch z) λ x mx => by rw [zzO.mp mx]; exact ⟨⟨A.e0, A.en⟩, ⟨Int.le_refl _, by show (0 : Int) < m; omega⟩⟩) λ x mx => by
  obtain ⟨v, mv, rfl⟩ := List.mem_map.mp mx
  exact ⟨hr v mv, zax (by omega)⟩, λ k hk => absurd hk (by omega), λ p q hp => absurd hp (by omega)⟩
 obtain ⟨es, h1, h2, h3⟩ := zkU (S := S) (r := zN row) A L 49 0 10000 _ cl (Nat.zero_le _) rfl (by decide)
 refine ⟨es, vO rfl (zK s0 (zK s2 (zK s3 (zK c1 (zK c2 (zK s4 (zK h1 (Ows.retB (Q := λ _ => True) (i := 2) rfl ⟨zbG _, zaT _, λ _ _ => True.intro, by rw [zD, zD]⟩)))))))), h2.kn (h3 _ (Vu (zcv _ _ ((e, 0, .tup [.str "none"]) : En) zzC))), λ v mv => h3 _ (zcv _ _ (zhm m v) (List.mem_map.mpr ⟨v, mv, rfl⟩)), h2.le A, h2.nd⟩
variable {n m : Nat} {J : PF.TZ} {e : Int} {Ds : PF.DD} {S : PF.SS}
theorem zeO {s : Bool} : ∀ row : List Int, kids s (row.map D.int) = row.map λ v => (true, D.int v)
 | [] => rfl
 | v :: r => by
  show (true, D.int v) :: kids s (r.map D.int) = _
  rw [zeO r]; rfl
abbrev whl (J : PF.TZ) (w : Int) (row : List Int) : Int := row.foldl (λ w a => jAt J w a) w
abbrev woB : SF := zJ true 2 (f2 (f2 (f2 (fV 0) (fC (.int 2)) ixP) (fV 2) ixP) (fV 3) ixP)
theorem zhz (A : Alg n m J e Ds) (L : LawA n m J e Ds) {l : Option O} : ∀ (row : List Int) (w : Int) (e3 : Option O), InR n w -> (∀ v ∈ row, InR n v) -> ∃ e3', forL (gN 3) woB (row.map λ v => (true, D.int v)) [sT (zH n m J e Ds S), l, sI w, e3] = some (.nx [sT (zH n m J e Ds S), l, sI (whl J w row), e3'])
 | [], w, e3, _, _ => ⟨e3, rfl⟩
 | v :: r, w, e3, hw, hr => by
  have hv := hr v zzC
  have s1 := yf (st := true) (as := [sT (zH n m J e Ds S), l, sI w, sI v]) (i := 2) (Yh A.j hw hv (f2E (a := fV 0) (b := fC (.int 2)) (g := ixP) (z := ye J) (WD.e (zb (i := 0) rfl)) (WD.e zf) rfl) (zb (i := 2) rfl) (zb (i := 3) rfl)) (zE rfl)
  obtain ⟨e3', h⟩ := zhz A L r (jAt J w v) (sI v) (L.lj.cl _ _ hw hv) λ a ma => hr a (zzA _ ma)
  exact ⟨e3', vD (as1 := [sT (zH n m J e Ds S), l, sI w, sI v]) rfl s1 h⟩
theorem zeF (A : Alg n m J e Ds) (L : LawA n m J e Ds) {s : Bool} {row : List Int} (hr : ∀ v ∈ row, InR n v) : RE (xQ [(true, zH n m J e Ds S), (s, zN row)]) (.int (whl J e row)) := by
 have s2 := yf (st := true) (as := xj 4 [(true, zH n m J e Ds S), (s, zN row)]) (i := 2) (f2E (a := fV 0) (b := fC (.int 3)) (g := ixP) (z := .int e) (WD.e (zb (i := 0) rfl)) (WD.e zf) rfl) (zE rfl)
 obtain ⟨e3', h⟩ := zhz (S := S) A L (l := some (.lf s (zN row))) row e none ⟨A.e0, A.en⟩ hr
 have hi := zjv (as := [sT (zH n m J e Ds S), some (.lf s (zN row)), sI e, none]) (i := 1) (ds := row.map D.int) rfl
 rw [zeO] at hi
 exact vO rfl (zK s2 (zK (xR hi h) (Zo (WD.e (zb (i := 2) rfl)))))
abbrev vaB : SF := (yO (ww 5 (dC (f2 (zG (aC (zG (aC (fV 0) (aC (f2 (fV 1) (fV 6) (zp .Add)) aN)) zA) (aC (f2 (fV 6) (fC (.int 80)) (zp .Add)) aN)) zV) (fV 3) (zp .Mod)) dN) vm))
theorem zhs {ns : List Int} {st w n : Nat} {num : Int} (hn : 1 <= n) (hw : w <= 20) : ∃ row : List Int, row.length <= w /\ (∀ v ∈ row, InR n v) /\ RE (xX [(true, .lst (ns.map D.int)), (true, .int st), (true, .int w), (true, .int n), (true, .int num)]) (zN row) := by
 have m0 := Int.emod_nonneg num (show ((w : Int) + 1) ≠ 0 by omega)
 have m1 := Int.emod_lt_of_pos num (show (0 : Int) < (w : Int) + 1 by omega)
 obtain ⟨as', hf, ys, e6, rfl, hl, hy⟩ := xf (g := gN 6) (f := vaB) (λ i as => ∃ (ys : List Int) (e6 : Option O), as = [sT (.lst (ns.map D.int)), sI st, sI w, sI n, sI num, sN (ys.map lfI), e6] /\ ys.length = i /\ ∀ y ∈ ys, InR n y)
  (yL 0 (num % ((w : Int) + 1)).toNat) 0 [sT (.lst (ns.map D.int)), sI st, sI w, sI n, sI num, sN [], none] (λ i x as hx hI => by
   obtain ⟨ys, e6, rfl, hl, hy⟩ := hI
   obtain ⟨rfl, hi⟩ := yW hx
   refine ⟨[sT (.lst (ns.map D.int)), sI st, sI w, sI n, sI num, sN (ys.map lfI), sI (0 + i)], rfl, ?_⟩
   obtain ⟨c, hc⟩ := YF (ns := ns) (k := (st : Int) + (0 + i)) (by omega)
   have wm := vq (as := [sT (.lst (ns.map D.int)), sI st, sI w, sI n, sI num, sN (ys.map lfI), sI (0 + i)]) (zx (vq (zx (zb (i := 0) rfl) (zx (yd (zb (i := 1) rfl) (zb (i := 6) rfl)) zP)) hc) (zx (yd (zb (i := 6) rfl) (zf (x := .int 80))) zP)) (Wc (c := c) (k := (0 + i : Int) + 80) (by omega) (by omega))
   have ap := zaz (i := 5) (as := [sT (.lst (ns.map D.int)), sI st, sI w, sI n, sI num, sN (ys.map lfI), sI (0 + i)]) rfl (by rw [zD]; exact yq (by omega)) (zU wm (zb (i := 3) rfl) (by omega))
   rw [<- Yt] at ap
   exact ⟨_, ap, ys ++ [_], _, rfl, by rw [zzG, hl]; rfl, λ y my => (zzJ.mp my).elim (hy y) λ my => by rw [zzO.mp my]; exact zax (by omega)⟩)
  ⟨[], none, rfl, rfl, λ _ z => nomatch z⟩
 rw [yC] at hl
 have hr := xq (as := [sT (.lst (ns.map D.int)), sI st, sI w, sI n, sI num, sN [], none]) (zx (zU (zb (i := 4) rfl) (yd (zb (i := 2) rfl) (zf (x := .int 1))) (by omega)) zP) m0 (by omega)
 refine ⟨ys, by omega, hy, vO rfl (zK (xr (i := 5) (Zm yt (szl rfl)) (zE rfl)) (zK (xR hr hf) ?_))⟩
 exact ⟨_, zdy (i := 5) rfl (wL ys).2.1, (Z1 ys).1, (Z1 ys).2⟩
theorem zeX (o : O) : o.frz = .lf o.str o.toD := by cases o <;> rfl
theorem znf {a b : EF} {as : AS} {t : Bool} {x y z : D} {g : D -> D -> Option R0} (ha : WE a as x) (hb : WD b as t y) (hg : g x y = some (.im z)) (e : zL z = true) : WD (f2 a b g) as true z := by
 obtain ⟨o, h1, h2, h3⟩ := ha
 have k := yx (a := λ as => some (.ow (.lf true x), as)) (s := true) (x := x) (as := as) rfl hb hg e
 unfold WD f2 at k ⊢
 rw [h1]
 have ef : (RV.ow o).frz = (RV.ow (.lf true x)).frz := by
  show RV.ow o.frz = RV.ow (O.lf true x)
  rw [zeX, h2, h3]
 simp only [Option.bind_some, ef] at k ⊢
 exact k
variable {n m : Nat} {J : PF.TZ} {e : Int} {Ds : PF.DD} {S : PF.SS} {es : List En}
def VR (f : EF) (as : AS) (row : List Int) : Prop := ∃ rv lv, f as = some (rv, as) /\ rv.frz.view as = some (zN row, lv)
theorem zeW {as : AS} {i : Nat} {s : Bool} {row : List Int} (h : as[i]? = some (some (.lf s (zN row)))) : VR (fV i) as row := ⟨_, some s, zb h, rfl⟩
theorem znJ {as : AS} {i : Nat} {row : List Int} (h : as[i]? = some (sN (row.map lfI))) : VR (fV i) as row := ⟨.bo i, _, zaR h, (Wl h).trans (by rw [(Z1 row).2])⟩
theorem zkb (zs : List Int) : (zs.map D.int).all zL = true := by
 rw [List.all_eq_true]
 intro x mx
 obtain ⟨d, _, rfl⟩ := List.mem_map.mp mx
 rfl
theorem zgz {b : Bool} : ∀ zs : List Int, (zs.map D.int).map (lfs b) = (zs.map D.int).map (O.lf true)
 | [] => rfl
 | z :: r => congrArg (O.lf true (.int z) :: ·) (zgz r)
theorem zff {f : EF} {fl fh : OF} {as : AS} {lo hi : Option Int} {row zs : List Int} (ha : VR f as row) (hl : fl as = some (lo, as)) (hh : fh as = some (hi, as)) (hg : slP (zN row) lo hi = some (.fl (zs.map D.int))) : WE (fSl f fl fh slP) as (zN zs) := by
 obtain ⟨rv, lv, h1, h2⟩ := ha
 refine ⟨.nd .ls ((zs.map D.int).map (O.lf true)), ?_, zbG _, congrArg D.lst (zaT _)⟩
 unfold fSl
 simp only [h1, hl, hh, h2, hg, Option.bind_some]
 show (if ((zs.map D.int).all zL || lv.isSome) = true then some (RV.ow (.nd .ls ((zs.map D.int).map (lfs (lv.getD false))))) else none : Option RV).bind _ = _
 rw [if_pos (by rw [zkb]; rfl), zgz]; rfl
theorem zkX {f fc : EF} {as : AS} {r : List Int} {c : Nat} (hc : c <= r.length) (h : VR f as r) (h2 : WD fc as true (.int c)) : WE (fSl f oN (oS fc) slP) as (zN (r.take c)) := by
 have ct := ziZ (xs := (r.take c).map D.int) (ys := (r.drop c).map D.int)
 rw [<- List.map_append, List.take_append_drop, zD, zzP, Nat.min_eq_left hc] at ct
 exact zff h rfl (zbv h2) ct
theorem zkW {f fc : EF} {as : AS} {r : List Int} {c : Nat} (hc : c <= r.length) (h : VR f as r) (h2 : WD fc as true (.int c)) : WE (fSl f (oS fc) oN slP) as (zN (r.drop c)) := by
 have ct := zjd (xs := (r.take c).map D.int) (ys := (r.drop c).map D.int)
 rw [<- List.map_append, List.take_append_drop, zD, zzP, Nat.min_eq_left hc] at ct
 exact zff h (zbv h2) rfl ct
theorem ziQ {f : EF} {as : AS} {r : List Int} (h : VR f as r) : WD (fP (aC f aN) Z2) as true (.int (r.length : Nat)) := by
 obtain ⟨rv, lv, h1, h2⟩ := h
 have e : views as [rv.frz] = some ([zN r], meet lv (some true)) := by
  show (rv.frz.view as).bind _ = _
  rw [h2]; rfl
 unfold WD fP aC
 rw [h1]
 simp only [Option.bind_some, aN, e]
 rw [show Z2 [zN r] = some (.im (.int r.length)) by show some (R0.im (.int ((r.map D.int).length : Nat))) = _; rw [zD]]
 rfl
theorem zlb {f : EF} {as : AS} {ds : List D} (h : WE f as (.lst ds)) : zap f as = some (ds.map λ d => (true, d), as) := by
 obtain ⟨o, h1, h2, h3⟩ := h
 unfold zap
 rw [h1]; show (zeo (o.str, o.toD)).bind _ = _
 rw [h2, h3]; show some (kids true ds, as) = _
 rw [zdB]
abbrev knD (es : List En) : D := .dt ((es.map ky).map kP) (yes es)
abbrev C3 (A : D) (s t : Bool) (row : List Int) (es : List En) (e3 e4 : Option O) : AS := [sT A, some (.lf s (zN row)), some (.lf t (knD es)), e3, e4]
abbrev cmI : SF := (sIf (fT (f2 (yV (dC (zG (aC (fV 0) (aC (fV 4) aN)) xQ) (dC (f2 (fP (aC (fV 4) aN) Z2) (f2 (fV 0) (fC (.int 1)) ixP) (zp .Mod)) dN))) (fV 2) (yj .NotIn))) (yp (fC (.bl false))) sNx)
abbrev cmB : SF := (yM (zap (wH (dC (fSl (fV 1) oN (oS (fV 3)) slP) (dC (fSl (fV 1) (oS (fV 3)) oN slP) dN)))) (gN 4) cmI)
theorem zlf (A : Alg n m J e Ds) (L : LawA n m J e Ds) (K : Kn n m J e Ds (es.map ky)) {s t : Bool} {row r : List Int} {e3 : Option O} (hr : ∀ v ∈ r, InR n v) (hk : ∀ v ∈ r, (v, 1 % (m : Int)) ∈ es.map ky) : cmI (C3 (zH n m J e Ds S) s t row es e3 (sT (zN r))) = some (.nx (C3 (zH n m J e Ds S) s t row es e3 (sT (zN r)))) := by
 have m1 := A.m1
 have w1 := zdb (as := C3 (zH n m J e Ds S) s t row es e3 (sT (zN r))) (WD.e (zb (i := 0) rfl)) (WD.e (zb (i := 4) rfl)) (zeF (S := S) (s := true) A L hr)
 have w2 := zU (ziQ (zeW (as := C3 (zH n m J e Ds S) s t row es e3 (sT (zN r))) (i := 4) rfl)) (f2E (a := fV 0) (b := fC (.int 1)) (g := ixP) (z := .int m) (WD.e (zb (i := 0) rfl)) (WD.e zf) rfl) (by omega)
 have hm := K.whole r e 0 K.o (Int.zero_emod _) hk
 rw [Int.zero_add] at hm
 have fl : (es.map ky).length = (yes es).length := by rw [zD, zD]
 have nn := zih (p := (whl J e r, (r.length : Int) % m)) fl
 rw [decide_eq_true hm] at nn
 exact xW (vg (znf (zbf w1 (WD.e w2)) (zb (i := 2) rfl) nn rfl) rfl) rfl
theorem zfR (A : Alg n m J e Ds) (L : LawA n m J e Ds) (K : Kn n m J e Ds (es.map ky)) {s t : Bool} {row : List Int} (hr : ∀ v ∈ row, InR n v) (hk : ∀ v ∈ row, (v, 1 % (m : Int)) ∈ es.map ky) (hl : row.length <= 1000) : RE (xJ [(true, zH n m J e Ds S), (s, zN row), (t, knD es)]) (.bl true) := by
 obtain ⟨as', hf, e3, e4, rfl⟩ := xf (g := gN 3) (f := cmB) (λ i as => ∃ e3 e4, as = C3 (zH n m J e Ds S) s t row es e3 e4) (yL 0 (row.length + 1)) 0 (C3 (zH n m J e Ds S) s t row es none none) (λ i x as hx hI => by
  obtain ⟨e3, e4, rfl⟩ := hI
  obtain ⟨rfl, hi⟩ := yW hx
  rw [Int.zero_add]
  refine ⟨C3 (zH n m J e Ds S) s t row es (sI i) e4, rfl, ?_⟩
  have vr := zeW (as := C3 (zH n m J e Ds S) s t row es (sI i) e4) (i := 1) rfl
  obtain ⟨o2, j1, j2, j3⟩ := zaW (zkW (show i <= row.length by omega) vr (zb (i := 3) rfl)) yt
  obtain ⟨o1, k1, k2, k3⟩ := zaW (zkX (show i <= row.length by omega) vr (zb (i := 3) rfl)) j3
  have wl := v9 (x := .lst [zN (row.take i), zN (row.drop i)]) k3 (szl rfl) (by show (o1.str && (o2.str && true)) = true; rw [k1, j1]; rfl) (by show D.lst [o1.toD, o2.toD] = _; rw [k2, j2])
  exact ⟨_, xR (zlb wl) (vD (as1 := C3 (zH n m J e Ds S) s t row es (sI i) (sT (zN (row.take i)))) rfl (zlf A L K (λ v mv => hr v (List.mem_of_mem_take mv)) λ v mv => hk v (List.mem_of_mem_take mv)) (vD (as1 := C3 (zH n m J e Ds S) s t row es (sI i) (sT (zN (row.drop i)))) rfl (zlf A L K (λ v mv => hr v (List.mem_of_mem_drop mv)) λ v mv => hk v (List.mem_of_mem_drop mv)) rfl)), _, _, rfl⟩) ⟨none, none, rfl⟩
 have hg := xq (as := C3 (zH n m J e Ds S) s t row es none none) (zx (yd (ziQ (zeW (i := 1) rfl)) (zf (x := .int 1))) zP) (by omega) (by omega)
 rw [show ((row.length : Int) + 1).toNat = row.length + 1 by omega] at hg
 exact vO rfl (zK (xR hg hf) (Zo (WD.e zf)))
variable {n m : Nat} {J : PF.TZ} {e : Int} {Ds : PF.DD} {S : PF.SS} {es : List En} {ns some_ : List Int}
theorem zlu {f : SF} {as : AS} {i : Nat} {o : O} {r : Option Out} (h : as[i]? = some (some o)) (k : f (as.set i (some o.frz)) = r) : zcQ i f as = r := by
 unfold zcQ
 rw [h]; exact k
theorem zow {as : AS} {j : Nat} {fk fv : EF} {p : Int × Int} {ps : List (Int × Int)} {fs : List D} {x : D} (h5 : as[j]? = some (dP ps fs)) (hk : WE fk as (pD p)) (hv : WE fv as x) (hn : p ∉ ps) (hl : ps.length <= 1000) :
 WP j fk fv as = some (.nx (as.set j (dP (ps ++ [p]) (fs ++ [x])))) := by
 obtain ⟨o, h1, h2, h3⟩ := hv
 obtain ⟨q, k1, k2, k3⟩ := hk
 have e : XF as (.ow o) = some ((o.str, o.toD), as) := rfl
 have e3 : (RV.ow q).frz.view as = some (pD p, some true) := by
  show some (q.frz.toD, some q.frz.str) = _
  rw [zeX, k2, k3]; rfl
 have e4 : zii (pD p) = some (kP p) := rfl
 unfold WP
 simp only [h1, Option.bind_some, e, h5, k1, e3, e4, zD, if_pos (show ps.length < sizeLine from Nat.lt_of_le_of_lt hl (by decide))]
 unfold Xq Ze
 rw [zgq hn, h2, h3]
 simp only [Bool.false_eq_true, if_false, dP, List.map_append, List.map_cons, List.map_nil]
abbrev K14 (ns : List Int) (A r : D) (es : List En) (e4 e5 e6 e7 e8 e9 e10 e11 e12 e13 : Option O) : AS := [sT (.lst (ns.map D.int)), sT A, sT r, some (kO es), e4, e5, e6, e7, e8, e9, e10, e11, e12, e13]
theorem zoh {ns : List Int} {A r : D} {es : List En} {x : En} {e4 e5 e6 e7 e8 e9 e10 e11 e12 e13 : Option O} : gT 3 (gsC (gN 4) (gsC (gN 5) (gsC (gN 6) gsN))) (true, eD x) (K14 ns A r es e4 e5 e6 e7 e8 e9 e10 e11 e12 e13) = some (K14 ns A r es (sI x.1) (sI x.2.1) (sT x.2.2) e7 e8 e9 e10 e11 e12 e13) := by
 have k : kids true [.int x.1, .int x.2.1, x.2.2] = [(true, .int x.1), (true, .int x.2.1), (true, x.2.2)] := by
  show [(true, D.int x.1), (true, D.int x.2.1), (zL x.2.2 || true, x.2.2)] = _
  rw [Bool.or_true]
 unfold gT
 simp only [eD, k]
 rfl
abbrev knB : SF := (WP 3 (yV (dC (fV 4) (dC (fV 5) dN))) (fC (.bl true)))
theorem zhP {A r : D} {e7 e8 e9 e10 e11 e12 e13 : Option O} : ∀ (q d : List En) (e4 e5 e6 : Option O), ((d ++ q).map ky).Nodup -> (d ++ q).length <= 1000 ->
 ∃ e4' e5' e6', forL (gT 3 (gsC (gN 4) (gsC (gN 5) (gsC (gN 6) gsN)))) knB ((q.map eD).map λ d => (true, d)) (K14 ns A r d e4 e5 e6 e7 e8 e9 e10 e11 e12 e13) = some (.nx (K14 ns A r (d ++ q) e4' e5' e6' e7 e8 e9 e10 e11 e12 e13))
 | [], d, e4, e5, e6, _, _ => ⟨e4, e5, e6, by rw [List.append_nil]; rfl⟩
 | x :: q, d, e4, e5, e6, nd, hl => by
  have ea : d ++ x :: q = (d ++ [x]) ++ q := by rw [List.append_assoc]; rfl
  rw [ea] at nd hl
  obtain ⟨e4', e5', e6', hf⟩ := zhP q (d ++ [x]) (sI x.1) (sI x.2.1) (sT x.2.2) nd hl
  rw [ea]
  have hn : ky x ∉ d.map ky := by
   rw [List.map_append, List.map_append] at nd
   have := (List.nodup_append.mp (List.nodup_append.mp nd).1).2.2
   exact λ h => this (ky x) h (ky x) zzC rfl
  rw [zzG, zzG] at hl
  have sd := zow (as := K14 ns A r d (sI x.1) (sI x.2.1) (sT x.2.2) e7 e8 e9 e10 e11 e12 e13) (j := 3) (fs := yes d) rfl (zbf (WD.e (zb (i := 4) rfl)) (WD.e (zb (i := 5) rfl))) (WD.e (zf (x := .bl true))) hn (by rw [zD]; omega)
  have e5 : dP (d.map ky ++ [ky x]) (yes d ++ [.bl true]) = some (kO (d ++ [x])) := by
   show some (O.nd _ _) = some (O.nd _ _)
   rw [show d.map ky ++ [ky x] = (d ++ [x]).map ky by rw [List.map_append]; rfl, show yes d ++ [.bl true] = yes (d ++ [x]) by show _ = (d ++ [x]).map _; rw [List.map_append]; rfl]
  rw [e5] at sd
  exact ⟨e4', e5', e6', vD zoh sd hf⟩
abbrev roB : SF := (yO (ww 7 (dC (f2 (fV 2) (f2 (zG (aC (zG (aC (fV 0) (aC (f2 (fC (.int 8)) (fV 8) (zp .Add)) aN)) zA) (aC (f2 (fV 8) (fC (.int 120)) (zp .Add)) aN)) zV) (fP (aC (fV 2) aN) Z2) (zp .Mod)) ixP) dN) vm))
theorem zlv {A : D} {k : Nat} (hk : k <= 100) (h1 : 1 <= some_.length) {e4 e5 e6 e9 e10 e11 e12 e13 : Option O} :
 ∃ (ys : List Int) (e8 : Option O), forL (gN 8) roB (yL 0 k) (K14 ns A (zN some_) es e4 e5 e6 (sN []) none e9 e10 e11 e12 e13) = some (.nx (K14 ns A (zN some_) es e4 e5 e6 (sN (ys.map lfI)) e8 e9 e10 e11 e12 e13)) /\ ys.length = k /\ ∀ y ∈ ys, y ∈ some_ := by
 obtain ⟨as', hf, ys, e8, rfl, hl, hy⟩ := xf (g := gN 8) (f := roB) (λ i as => ∃ (ys : List Int) (e8 : Option O), as = K14 ns A (zN some_) es e4 e5 e6 (sN (ys.map lfI)) e8 e9 e10 e11 e12 e13 /\ ys.length = i /\ ∀ y ∈ ys, y ∈ some_)
  (yL 0 k) 0 (K14 ns A (zN some_) es e4 e5 e6 (sN []) none e9 e10 e11 e12 e13) (λ i x as hx hI => by
   obtain ⟨ys, e8, rfl, hl, hy⟩ := hI
   obtain ⟨rfl, hi⟩ := yW hx
   rw [Int.zero_add]
   refine ⟨K14 ns A (zN some_) es e4 e5 e6 (sN (ys.map lfI)) (sI i) e9 e10 e11 e12 e13, rfl, ?_⟩
   obtain ⟨c, hc⟩ := YF (ns := ns) (k := (8 : Int) + i) (by omega)
   have wm := vq (as := K14 ns A (zN some_) es e4 e5 e6 (sN (ys.map lfI)) (sI i) e9 e10 e11 e12 e13) (zx (vq (zx (zb (i := 0) rfl) (zx (yd (zf (x := .int 8)) (zb (i := 8) rfl)) zP)) hc) (zx (yd (zb (i := 8) rfl) (zf (x := .int 120))) zP)) (Wc (c := c) (k := (i : Int) + 120) (by omega) (by omega))
   have w2 := zU wm (ziQ (zeW (as := K14 ns A (zN some_) es e4 e5 e6 (sN (ys.map lfI)) (sI i) e9 e10 e11 e12 e13) (i := 2) rfl)) (by omega)
   have z0 := Int.emod_nonneg (mx c (i + 120)) (show (some_.length : Int) ≠ 0 by omega)
   have z1 := Int.emod_lt_of_pos (mx c (i + 120)) (show (0 : Int) < some_.length by omega)
   obtain ⟨q, eq⟩ : ∃ q : Nat, (q : Int) = mx c (i + 120) % some_.length := ⟨_, Int.toNat_of_nonneg z0⟩
   rw [<- eq] at w2 z1
   have hq : q < some_.length := by omega
   have ap := zaz (i := 7) (as := K14 ns A (zN some_) es e4 e5 e6 (sN (ys.map lfI)) (sI i) e9 e10 e11 e12 e13) rfl (by rw [zD]; exact yq (by omega)) (yx (z := .int some_[q]) (zb (i := 2) rfl) w2 (W6 (zzB hq)) rfl)
   rw [<- Yt] at ap
   exact ⟨_, ap, ys ++ [_], _, rfl, by rw [zzG, hl]; rfl, λ y my => (zzJ.mp my).elim (hy y) λ my => by rw [zzO.mp my]; exact List.getElem_mem hq⟩)
  ⟨[], none, rfl, rfl, λ _ z => nomatch z⟩
 rw [yC, Nat.zero_add] at hl
 exact ⟨ys, e8, hf, hl, hy⟩
variable {n m : Nat} {J : PF.TZ} {e : Int} {Ds : PF.DD} {S : PF.SS} {es : List En} {ns : List Int}
inductive R7 (row : List Int) : O -> Prop
 | lf : R7 row (.lf true (zN row))
 | nd : R7 row (.nd .ls (row.map lfI))
theorem R7.vr {as : AS} {i : Nat} {row : List Int} {o : O} (h : R7 row o) (hi : as[i]? = some (some o)) : VR (fV i) as row := by
 cases h with
 | lf => exact zeW hi
 | nd => exact znJ hi
abbrev coE : EF := zG (aC (fV 1) (aC (fV 7) (aC (fV 3) aN))) xJ
theorem zhC (A : Alg n m J e Ds) (L : LawA n m J e Ds) (K : Kn n m J e Ds (es.map ky)) {row : List Int} {o : O} {r : D} (ho : R7 row o) (hr : ∀ v ∈ row, InR n v) (hk : ∀ v ∈ row, (v, 1 % (m : Int)) ∈ es.map ky) (hl : row.length <= 1000) {e4 e5 e6 e8 e9 e10 e11 e12 e13 : Option O} : WD coE (K14 ns (zH n m J e Ds S) r es e4 e5 e6 (some o) e8 e9 e10 e11 e12 e13) true (.bl true) := by
 refine zlk ?_
 cases ho with
 | lf =>
  obtain ⟨o, h1, h2, h3⟩ := zfR (S := S) (s := true) (t := false) A L K hr hk hl
  refine ⟨o, zbs (rs := [.ow (.lf true (zH n m J e Ds S)), .ow (.lf true (zN row)), .bo 3]) (xs := [(zL (zH n m J e Ds S) || true, zH n m J e Ds S), (zL (zN row) || true, zN row), (false, (kO es).toD)]) rfl rfl ?_, h2, h3⟩
  rw [Bool.or_true, Bool.or_true, zfv]; exact h1
 | nd =>
  obtain ⟨o, h1, h2, h3⟩ := zfR (S := S) (s := false) (t := false) A L K hr hk hl
  refine ⟨o, zbs (rs := [.ow (.lf true (zH n m J e Ds S)), .bo 7, .bo 3]) (xs := [(zL (zH n m J e Ds S) || true, zH n m J e Ds S), (false, (O.nd .ls (row.map lfI)).toD), (false, (kO es).toD)]) rfl rfl ?_, h2, h3⟩
  rw [Bool.or_true, (Z1 row).2, zfv]; exact h1
theorem zkP {ds : List Int} {a n : Nat} (h : a + n <= ds.length) : slP (zN ds) (some (a : Int)) (some ((a + n : Nat) : Int)) = some (.fl (((ds.drop a).take n).map D.int)) := by
 show some (R0.fl (PF.cutD (ds.map D.int) (some (a : Int)) (some ((a + n : Nat) : Int)))) = _
 congr 2
 unfold PF.cutD
 rw [HT.zbn, HT.zbn, zD, Nat.min_eq_left h, Nat.min_eq_left (show a <= ds.length by omega), <- List.map_drop, <- List.map_take, Nat.add_sub_cancel_left]
theorem zlL {xs ys : List Int} (h : xs.length + ys.length <= 1000) : zp .Add (zN xs) (zN ys) = some (.fl ((xs ++ ys).map D.int)) := by
 show (if (xs.map D.int).length + (ys.map D.int).length <= sizeLine then some (R0.fl (xs.map D.int ++ ys.map D.int)) else none) = _
 rw [zD, zD, if_pos (szs (by omega)), List.map_append]
def zfq (m : Nat) (p : Str × PF.TZ) (a d : Nat) (row : List Int) : List Int := row.take a ++ ((row.drop a).take d).map (jAt p.2 (1 % (m : Int))) ++ row.drop (a + d)
theorem zdN {Q : Int -> Prop} {p : Str × PF.TZ} {a d : Nat} {row : List Int} (h : ∀ v ∈ row, Q v) (h2 : ∀ v, Q v -> Q (jAt p.2 (1 % (m : Int)) v)) : ∀ v ∈ zfq m p a d row, Q v := λ v mv => by
 rcases zzJ.mp mv with mv | mv
 · rcases zzJ.mp mv with mv | mv
   · exact h v (List.mem_of_mem_take mv)
   · obtain ⟨u, mu, rfl⟩ := List.mem_map.mp mv
     exact h2 u (h u (List.mem_of_mem_drop (List.mem_of_mem_take mu)))
 · exact h v (List.mem_of_mem_drop mv)
theorem zik {p : Str × PF.TZ} {a d : Nat} {row : List Int} (h : a + d <= row.length) : (zfq m p a d row).length = row.length := by
 unfold zfq
 rw [zzG, zzG, zD, zzP, zzP, List.length_drop, List.length_drop]
 omega
abbrev s7E : EF := (f2 (f2 (fSl (fV 7) oN (oS (fV 10)) slP) (yE (Wx (fSl (fV 7) (oS (fV 10)) (oS (fV 11)) slP)) [none, some 13, some 1] (gN 0) wk (f2 (f2 (fV 1) (f2 (fC (.int 1)) (f2 (fV 2) (fC (.int 1)) ixP) (zp .Mod)) ixP) (fV 0) ixP)) (zp .Add)) (fSl (fV 7) (oS (fV 11)) oN slP) (zp .Add))
theorem zmj (A : Alg n m J e Ds) {p : Str × PF.TZ} (mp : p ∈ Ds) {row : List Int} {o : O} {r : D} (ho : R7 row o) (hr : ∀ v ∈ row, InR n v) (hl : row.length <= 100) {a d : Nat} (hd : a + d <= row.length) {e4 e5 e6 e8 e9 e12 : Option O} :
 s7E (K14 ns (zH n m J e Ds S) r es e4 e5 e6 (some o) e8 e9 (sI a) (sI (a + d : Nat)) e12 (sT (ye p.2))) = some (.ow (.nd .ls ((zfq m p a d row).map lfI)), K14 ns (zH n m J e Ds S) r es e4 e5 e6 (some o) e8 e9 (sI a) (sI (a + d : Nat)) e12 (sT (ye p.2))) := by
 have m1 := A.m1
 have vr := ho.vr (as := K14 ns (zH n m J e Ds S) r es e4 e5 e6 (some o) e8 e9 (sI a) (sI (a + d : Nat)) e12 (sT (ye p.2))) (i := 7) rfl
 have w1 := zkX (show a <= row.length by omega) vr (zb (i := 10) rfl)
 have w2 := zff vr (zbv (zb (i := 10) rfl)) (zbv (zb (i := 11) rfl)) (zkP hd)
 have w3 := zkW hd vr (zb (i := 11) rfl)
 have l2 : ((row.drop a).take d).length <= 100 := by rw [zzP, List.length_drop]; omega
 have wc := zjs (h := λ v => .int (jAt p.2 (1 % (m : Int)) v)) (it := λ v => (true, D.int v)) (cap := [none, some 13, some 1]) (gg := gN 0) (fe := f2 (f2 (fV 1) (f2 (fC (.int 1)) (f2 (fV 2) (fC (.int 1)) ixP) (zp .Mod)) ixP) (fV 0) ixP) ((row.drop a).take d) (zif w2) (by omega) λ v mv => ⟨[sI v, sT (ye p.2), sT (zH n m J e Ds S)], rfl, WD.e (Xu (A.ds p mp) (zax (by omega)) (hr v (List.mem_of_mem_drop (List.mem_of_mem_take mv))) (zb (i := 1) rfl) (zU (zf (x := .int 1)) (f2E (a := fV 2) (b := fC (.int 1)) (g := ixP) (z := .int m) (WD.e (zb (i := 2) rfl)) (WD.e zf) rfl) (by omega)) (zb (i := 0) rfl)).1⟩
 rw [show D.lst (((row.drop a).take d).map λ v => D.int (jAt p.2 (1 % (m : Int)) v)) = zN (((row.drop a).take d).map (jAt p.2 (1 % (m : Int)))) by show D.lst _ = D.lst _; rw [List.map_map]; rfl] at wc
 have l1 : (row.take a).length <= 100 := by rw [zzP]; omega
 have l3 : (row.drop (a + d)).length <= 100 := by rw [List.length_drop]; omega
 have w4 := znM w1 wc (zlL (by rw [zD]; omega))
 have w5 := f2L w4 w3 (zlL (by rw [zzG, zD]; omega))
 rw [List.map_map] at w5
 exact w5
variable {n m : Nat} {J : PF.TZ} {e : Int} {Ds : PF.DD} {S : PF.SS} {es : List En} {ns : List Int}
abbrev stB : SF := (zB (zJ true 9 (zG (aC (zG (aC (fV 0) (aC (f2 (fC (.int 33)) (fV 8) (zp .Add)) aN)) zA) (aC (f2 (fV 8) (fC (.int 160)) (zp .Add)) aN)) zV))
 (zB (zJ true 10 (f2 (fV 9) (f2 (fP (aC (fV 7) aN) Z2) (fC (.int 1)) (zp .Add)) (zp .Mod)))
 (zB (zJ true 11 (f2 (fV 10) (f2 (f2 (fV 9) (fC (.int 64)) (zp .FloorDiv)) (f2 (f2 (fP (aC (fV 7) aN) Z2) (fC (.int 1)) (zp .Add)) (fV 10) (zp .Sub)) (zp .Mod)) (zp .Add)))
 (zB (zes (f2 (f2 (fV 1) (fC (.int 4)) ixP) (f2 (f2 (fV 9) (fC (.int 4096)) (zp .FloorDiv)) (fP (aC (f2 (fV 1) (fC (.int 4)) ixP) aN) Z2) (zp .Mod)) ixP) (gT 2 (gsC (gN 12) (gsC (gN 13) gsN))))
 (zB (zJ false 7 s7E)
 (sIf (zeS (fT (f2 (f2 (fV 8) (fC (.int 3)) (zp .Mod)) (fC (.int 2)) (yj .Eq))) (zcA (fT coE))) (yp (fC (.bl false))) sNx))))))
theorem zob {A r : D} {p : Str × PF.TZ} {e4 e5 e6 e7 e8 e9 e10 e11 e12 e13 : Option O} : gT 2 (gsC (gN 12) (gsC (gN 13) gsN)) (true, Zi p) (K14 ns A r es e4 e5 e6 e7 e8 e9 e10 e11 e12 e13) = some (K14 ns A r es e4 e5 e6 e7 e8 e9 e10 e11 (sT (.str p.1)) (sT (ye p.2))) := by
 have k : kids true [.str p.1, ye p.2] = [(true, .str p.1), (true, ye p.2)] := by
  show [(zL (.str p.1) || true, .str p.1), (zL (ye p.2) || true, ye p.2)] = _
  rw [Bool.or_true, Bool.or_true]
 unfold gT
 simp only [Zi, k]
 rfl
theorem zlF (A : Alg n m J e Ds) (L : LawA n m J e Ds) (K : Kn n m J e Ds (es.map ky)) (d1 : 1 <= Ds.length) {row : List Int} {o : O} {r : D} (ho : R7 row o) (hr : ∀ v ∈ row, InR n v) (hk : ∀ v ∈ row, (v, 1 % (m : Int)) ∈ es.map ky) (hl : row.length <= 100) {k : Nat} (hk1 : k <= 100) {e4 e5 e6 e8 e9 e10 e11 e12 e13 : Option O} :
 ∃ row' o' b8 b9 b10 b11 b12 b13, forL (gN 8) stB (yL 0 k) (K14 ns (zH n m J e Ds S) r es e4 e5 e6 (some o) e8 e9 e10 e11 e12 e13) = some (.nx (K14 ns (zH n m J e Ds S) r es e4 e5 e6 (some o') b8 b9 b10 b11 b12 b13)) /\ R7 row' o' /\ (∀ v ∈ row', InR n v) /\ (∀ v ∈ row', (v, 1 % (m : Int)) ∈ es.map ky) /\ row'.length <= 100 := by
 have m1 := A.m1
 obtain ⟨as', hf, row', o', e8', e9', e10', e11', e12', e13', rfl, q1, q2, q3, q4⟩ := xf (g := gN 8) (f := stB) (λ _ as => ∃ (row' : List Int) (o' : O) (e8 e9 e10 e11 e12 e13 : Option O), as = K14 ns (zH n m J e Ds S) r es e4 e5 e6 (some o') e8 e9 e10 e11 e12 e13 /\ R7 row' o' /\ (∀ v ∈ row', InR n v) /\ (∀ v ∈ row', (v, 1 % (m : Int)) ∈ es.map ky) /\ row'.length <= 100)
  (yL 0 k) 0 (K14 ns (zH n m J e Ds S) r es e4 e5 e6 (some o) e8 e9 e10 e11 e12 e13) (λ i x as hx hI => by
   obtain ⟨row, o, e8, e9, e10, e11, e12, e13, rfl, ho, hr, hk, hl⟩ := hI
   obtain ⟨rfl, hi⟩ := yW hx
   rw [Int.zero_add]
   refine ⟨K14 ns (zH n m J e Ds S) r es e4 e5 e6 (some o) (sI i) e9 e10 e11 e12 e13, rfl, ?_⟩
   obtain ⟨c, hc⟩ := YF (ns := ns) (k := (33 : Int) + i) (by omega)
   have s9 := yf (st := true) (i := 9) (vq (as := K14 ns (zH n m J e Ds S) r es e4 e5 e6 (some o) (sI i) e9 e10 e11 e12 e13) (zx (vq (zx (zb (i := 0) rfl) (zx (yd (zf (x := .int 33)) (zb (i := 8) rfl)) zP)) hc) (zx (yd (zb (i := 8) rfl) (zf (x := .int 160))) zP)) (Wc (c := c) (k := (i : Int) + 160) (by omega) (by omega))) (zE rfl)
   generalize mx c (i + 160) = y at s9
   have a0 := Int.emod_nonneg y (show (row.length : Int) + 1 ≠ 0 by omega)
   have a1 := Int.emod_lt_of_pos y (show (0 : Int) < row.length + 1 by omega)
   obtain ⟨a, ea⟩ : ∃ a : Nat, (a : Int) = y % (row.length + 1) := ⟨_, Int.toNat_of_nonneg a0⟩
   have s10 := yf (st := true) (i := 10) (zU (zb (as := K14 ns (zH n m J e Ds S) r es e4 e5 e6 (some o) (sI i) (sI y) e10 e11 e12 e13) (i := 9) rfl) (yd (ziQ (ho.vr (i := 7) rfl)) (zf (x := .int 1))) (by omega)) (zE rfl)
   rw [<- ea] at s10 a1
   have b0 := Int.emod_nonneg (y / 64) (show (row.length : Int) + 1 - a ≠ 0 by omega)
   have b1 := Int.emod_lt_of_pos (y / 64) (show (0 : Int) < row.length + 1 - a by omega)
   obtain ⟨b, eb⟩ : ∃ b : Nat, (b : Int) = y / 64 % (row.length + 1 - a) := ⟨_, Int.toNat_of_nonneg b0⟩
   have s11 := yf (st := true) (i := 11) (yd (zb (as := K14 ns (zH n m J e Ds S) r es e4 e5 e6 (some o) (sI i) (sI y) (sI a) e11 e12 e13) (i := 10) rfl) (zU (yR (zb (i := 9) rfl) (zf (x := .int 64)) (by decide) (zM (by decide) (by decide))) (zcl (yd (ziQ (ho.vr (i := 7) rfl)) (zf (x := .int 1))) (zb (i := 10) rfl)) (by omega))) (zE rfl)
   rw [<- eb, show (a : Int) + b = ((a + b : Nat) : Int) by omega] at s11
   rw [<- eb] at b1
   have hd : a + b <= row.length := by omega
   have c0 := Int.emod_nonneg (y / 4096) (show (Ds.length : Int) ≠ 0 by omega)
   have c1 := Int.emod_lt_of_pos (y / 4096) (show (0 : Int) < Ds.length by omega)
   obtain ⟨q, eq⟩ : ∃ q : Nat, (q : Int) = y / 4096 % Ds.length := ⟨_, Int.toNat_of_nonneg c0⟩
   rw [<- eq] at c1
   have hq : q < Ds.length := by omega
   have wA : WD (f2 (fV 1) (fC (.int 4)) ixP) (K14 ns (zH n m J e Ds S) r es e4 e5 e6 (some o) (sI i) (sI y) (sI a) (sI (a + b : Nat)) e12 e13) true (.lst (Ds.map Zi)) := f2E (WD.e (zb (i := 1) rfl)) (WD.e zf) rfl
   have wl : WD (fP (aC (f2 (fV 1) (fC (.int 4)) ixP) aN) Z2) (K14 ns (zH n m J e Ds S) r es e4 e5 e6 (some o) (sI i) (sI y) (sI a) (sI (a + b : Nat)) e12 e13) true (.int (Ds.length : Nat)) := vK (zx wA zP) (by
    show some (R0.im (.int ((Ds.map Zi).length : Nat))) = _
    rw [zD]) rfl
   have wi := zU (yR (zb (i := 9) rfl) (zf (x := .int 4096)) (by decide) (zM (by decide) (by decide))) wl (by omega)
   rw [<- eq] at wi
   have sA := ziV (f2E (WD.e wA) (WD.e wi) (W6 (zzB hq))) (zob (ns := ns) (es := es) (p := Ds[q]))
   have mp := List.getElem_mem hq
   have s7 := xr (i := 7) (zmj (S := S) (ns := ns) (es := es) A mp ho hr hl hd (r := r) (e4 := e4) (e5 := e5) (e6 := e6) (e8 := sI i) (e9 := sI y) (e12 := sT (.str Ds[q].1))) (zE rfl)
   have hr' := zdN (m := m) (p := Ds[q]) (a := a) (d := b) hr λ v hv => (L.ld _ mp).cl _ _ (zax (by omega)) hv
   have hk' := zdN (m := m) (p := Ds[q]) (a := a) (d := b) (Q := λ v => (v, 1 % (m : Int)) ∈ es.map ky) hk λ v hv => K.d v _ hv _ mp
   have hl' : (zfq m Ds[q] a b row).length <= 100 := by rw [zik hd]; exact hl
   have wc := zhC (S := S) (ns := ns) A L K (R7.nd (row := zfq m Ds[q] a b row)) hr' hk' (by omega) (r := r) (e4 := e4) (e5 := e5) (e6 := e6) (e8 := sI i) (e9 := sI y) (e10 := sI a) (e11 := sI (a + b : Nat)) (e12 := sT (.str Ds[q].1)) (e13 := sT (ye Ds[q].2))
   have t1 := vg (zlM (as := K14 ns (zH n m J e Ds S) r es e4 e5 e6 (sN ((zfq m Ds[q] a b row).map lfI)) (sI i) (sI y) (sI a) (sI (a + b : Nat)) (sT (.str Ds[q].1)) (sT (ye Ds[q].2))) (WD.e (zU (zb (i := 8) rfl) (zf (x := .int 3)) (by decide))) (WD.e (zf (x := .int 2))) rfl) rfl
   exact ⟨_, zZ s9 (zZ s10 (zZ s11 (zZ sA (zZ s7 (xW (zmd (l := false) t1 (λ _ => ziT (vg wc rfl)) λ _ => rfl) rfl))))), _, _, _, _, _, _, _, _, rfl, R7.nd, hr', hk', hl'⟩)
  ⟨row, o, e8, e9, e10, e11, e12, e13, rfl, ho, hr, hk, hl⟩
 exact ⟨row', o', _, _, _, _, _, _, hf, q1, q2, q3, q4⟩
theorem zja (ns : List Int) (hns : ns.length <= 63) : zcd [(true, .lst (ns.map .int))] = some (.lf true (.bl true)) := by
 obtain ⟨c0, h0⟩ := YF (ns := ns) (k := 0) (s := true) (t := true) (by omega)
 obtain ⟨c1, h1⟩ := YF (ns := ns) (k := 1) (s := true) (t := true) (by omega)
 obtain ⟨c2, h2⟩ := YF (ns := ns) (k := 2) (s := true) (t := true) (by omega)
 obtain ⟨c3, h3⟩ := YF (ns := ns) (k := 3) (s := true) (t := true) (by omega)
 have z0 := Int.emod_nonneg c2 (show (4 : Int) ≠ 0 by decide)
 have z1 := Int.emod_lt_of_pos c2 (show (0 : Int) < 4 by decide)
 obtain ⟨w, ew⟩ : ∃ w : Nat, (w : Int) = 1 + c2 % 4 := ⟨(1 + c2 % 4).toNat, by omega⟩
 obtain ⟨n, m, J, e, Ds, S, M, hw, ha⟩ := zfm (c := c0) (h := c1) (w := w) (by omega)
 rw [ew] at ha
 have n1 := M.al.n1
 have y0 := Int.emod_nonneg (c2 / 20) (show (31 : Int) ≠ 0 by decide)
 have y1 := Int.emod_lt_of_pos (c2 / 20) (show (0 : Int) < 31 by decide)
 obtain ⟨k, ek⟩ : ∃ k : Nat, (k : Int) = c2 / 20 % 31 := ⟨_, Int.toNat_of_nonneg y0⟩
 have x0 := Int.emod_nonneg (c2 / 620) (show (31 : Int) ≠ 0 by decide)
 have x1 := Int.emod_lt_of_pos (c2 / 620) (show (0 : Int) < 31 by decide)
 obtain ⟨q, eq⟩ : ∃ q : Nat, (q : Int) = c2 / 620 % 31 := ⟨_, Int.toNat_of_nonneg x0⟩
 obtain ⟨vs, v1, v2, v3⟩ := zhs (ns := ns) (st := 3) (w := 4) (n := n) (num := c2 / 4) n1 (by decide)
 have sl : (vs ++ [c3 % (n : Int)]).length <= 10 := by rw [zzG]; show vs.length + 1 <= 10; omega
 have sr : ∀ v ∈ vs ++ [c3 % (n : Int)], InR n v := λ v mv => (zzJ.mp mv).elim (v2 v) λ mv => by rw [zzO.mp mv]; exact zax (by omega)
 obtain ⟨es, g1, K, g3, g4, g5⟩ := zhf (S := S) M.al M.la sr sl
 have cl : ∀ (as : AS) (k : Int) (x : Int), as[0]? = some (sT (.lst (ns.map .int))) -> zA [(true, .lst (ns.map .int)), (true, .int k)] = sT (.int x) -> WD (zG (aC (fV 0) (aC (fC (.int k)) aN)) zA) as true (.int x) := λ as k x h hh => vq (zx (zb h) (zx zf zP)) hh
 have s1 := Xn (as := xj 14 [(true, .lst (ns.map .int))]) (p := 1) (zfG (WD.e (cl _ 0 c0 rfl h0)) (WD.e (cl _ 1 c1 rfl h1)) (WD.e (yd zf (zU (cl _ 2 c2 rfl h2) zf (by decide)))) ha) (zE rfl)
 have wn : ∀ (as : AS), as[1]? = some (sT (zH n m J e Ds S)) -> WD (f2 (fV 1) (fC (.int 0)) ixP) as true (.int n) := λ as h => f2E (WD.e (zb h)) (WD.e zf) rfl
 have a1 : WE (zG (aC (fV 0) (aC (fC (.int 3)) (aC (fC (.int 4)) (aC (f2 (fV 1) (fC (.int 0)) ixP) (aC (f2 (zG (aC (fV 0) (aC (fC (.int 2)) aN)) zA) (fC (.int 4)) (zp .FloorDiv)) aN))))) xX) [sT (.lst (ns.map D.int)), sT (zH n m J e Ds S), none, none, none, none, none, none, none, none, none, none, none, none] (zN vs) := by
  obtain ⟨o, r1, r2, r3⟩ := v3
  exact ⟨o, Ws (zx (zb (i := 0) rfl) (zx (zf (x := .int 3)) (zx (zf (x := .int 4)) (zx (wn _ rfl) (zx (yR (cl _ 2 c2 rfl h2) (zf (x := .int 4)) (by decide) (zM (by decide) (by decide))) zP))))) (by show xX [(zL (.lst (ns.map D.int)) || true, .lst (ns.map D.int)), (true, .int 3), (true, .int 4), (true, .int n), (true, .int (c2 / 4))] = _; rw [Bool.or_true]; exact r1), r2, r3⟩
 have a2 : WE (wH (dC (f2 (zG (aC (fV 0) (aC (fC (.int 3)) aN)) zA) (f2 (fV 1) (fC (.int 0)) ixP) (zp .Mod)) dN)) [sT (.lst (ns.map D.int)), sT (zH n m J e Ds S), none, none, none, none, none, none, none, none, none, none, none, none] (zN [c3 % (n : Int)]) := by
  obtain ⟨o, r1, r2, r3⟩ := zaW (WD.e (zU (cl [sT (.lst (ns.map D.int)), sT (zH n m J e Ds S), none, none, none, none, none, none, none, none, none, none, none, none] 3 c3 rfl h3) (wn _ rfl) (by omega))) yt
  exact v9 r3 (szl rfl) (by show (o.str && true) = true; rw [r1]; rfl) (by show D.lst [o.toD] = _; rw [r2]; rfl)
 have s2 := Xn (p := 2) (znM a1 a2 (zlL (by show vs.length + 1 <= 1000; omega))) (zE rfl)
 have s3 := xr (as := [sT (.lst (ns.map D.int)), sT (zH n m J e Ds S), sT (zN (vs ++ [c3 % (n : Int)])), none, none, none, none, none, none, none, none, none, none, none]) (f := zjh) (o := .nd (.dt []) []) (i := 3) rfl (zE rfl)
 have ic := zlb (zdb (as := K14 ns (zH n m J e Ds S) (zN (vs ++ [c3 % (n : Int)])) [] none none none none none none none none none none) (WD.e (zb (i := 1) rfl)) (WD.e (zb (i := 2) rfl)) g1)
 obtain ⟨e4, e5, e6, f3⟩ := zhP (ns := ns) (A := zH n m J e Ds S) (r := zN (vs ++ [c3 % (n : Int)])) (e7 := none) (e8 := none) (e9 := none) (e10 := none) (e11 := none) (e12 := none) (e13 := none) es [] none none none g5 (by show es.length <= 1000; omega)
 have s7 := xr (as := K14 ns (zH n m J e Ds S) (zN (vs ++ [c3 % (n : Int)])) es e4 e5 e6 none none none none none none none) (i := 7) (Zm yt (szl rfl)) (zE rfl)
 obtain ⟨ys, e8, f7, y2, y3⟩ := zlv (ns := ns) (es := es) (A := zH n m J e Ds S) (some_ := vs ++ [c3 % (n : Int)]) (k := k) (by omega) (by rw [zzG]; exact Nat.le_add_left _ _) (e4 := e4) (e5 := e5) (e6 := e6) (e9 := none) (e10 := none) (e11 := none) (e12 := none) (e13 := none)
 have r7 := xq (zx (zU (yR (cl (K14 ns (zH n m J e Ds S) (zN (vs ++ [c3 % (n : Int)])) es e4 e5 e6 (sN []) none none none none none none) 2 c2 rfl h2) (zf (x := .int 20)) (by decide) (zM (by decide) (by decide))) (zf (x := .int 31)) (by decide)) zP) y0 (by omega)
 rw [<- ek, Int.toNat_natCast] at r7
 have hr : ∀ v ∈ ys, InR n v := λ v mv => sr v (y3 v mv)
 have hk : ∀ v ∈ ys, (v, 1 % (m : Int)) ∈ es.map ky := λ v mv => g3 v (y3 v mv)
 have t1 := ziT (vg (zhC (S := S) (ns := ns) M.al M.la K (R7.lf (row := ys)) hr hk (by omega) (r := zN (vs ++ [c3 % (n : Int)])) (e4 := e4) (e5 := e5) (e6 := e6) (e8 := e8) (e9 := none) (e10 := none) (e11 := none) (e12 := none) (e13 := none)) rfl)
 obtain ⟨row, o, b8, b9, b10, b11, b12, b13, f8, p1, p2, p3, p4⟩ := zlF (S := S) (ns := ns) M.al M.la K (by omega) (R7.lf (row := ys)) hr hk (by omega) (k := q) (by omega) (r := zN (vs ++ [c3 % (n : Int)])) (e4 := e4) (e5 := e5) (e6 := e6) (e8 := e8) (e9 := none) (e10 := none) (e11 := none) (e12 := none) (e13 := none)
 have r8 := xq (zx (zU (yR (cl (K14 ns (zH n m J e Ds S) (zN (vs ++ [c3 % (n : Int)])) es e4 e5 e6 (sT (zN ys)) e8 none none none none none) 2 c2 rfl h2) (zf (x := .int 620)) (by decide) (zM (by decide) (by decide))) (zf (x := .int 31)) (by decide)) zP) x0 (by omega)
 rw [<- eq, Int.toNat_natCast] at r8
 refine VG rfl (zZ s1 (zZ s2 (zZ s3 (zZ (xR ic f3) (zZ s7 (zZ (xR r7 f7) (zlu (i := 7) (o := .nd .ls (ys.map lfI)) rfl ?_)))))))
 rw [zeX, (Z1 ys).1, (Z1 ys).2]
 exact zZ (xW t1 rfl) (zZ (xR r8 f8) (Wg (zhC (S := S) (ns := ns) M.al M.la K p1 p2 p3 (by omega))))
end G61
end
namespace G61
open PySem PySem.W PyProof.Rows L2
abbrev kF (n q : Str) (s : Stmt) (pm cd : Value) : Obj := ⟨.type "function", none, .func (fnOf n q (zcV s) (Wq s) (zF s) .none .none .none pm none cd .none), #[]⟩
abbrev kC (n : Str) (a : Nat) (q : Str) (b c : Nat) (i3 i4 i5 i6 i7 : Int) (r8 : Addr) (b9 : Bool) (i10 : Int) (r11 r13 r14 r15 : Addr) (i16 i17 : Int) (d : Nat) : Obj := ⟨.type "code", none, .fields #[.str n a, .str q b, .str "/claim/cut.py" c, .int i3 0, .int i4 0, .int i5 0, .int i6 0, .int i7 0, .ref r8, .bool b9, .int i10 0, .ref r11, .none, .ref r13, .ref r14, .ref r15, .int i16 0, .int i17 0, .str "/claim/cut.py" d], #[]⟩
abbrev kD (es : List DictEntry) (n : Nat) : Obj := ⟨.type "dict", none, .dict es.toArray n, #[]⟩
abbrev kE (P : Params) (x : Str) (t : Nat) (v : Value) : DictEntry := ⟨PyData.keyHash P x, .str x t, v⟩
abbrev kR (P : Params) (x : Str) (t : Nat) (a : Addr) : DictEntry := kE P x t (.ref a)
def K (P : Params) : Frag :=
 (nat_lit 3, kD [kE P "__name__" 165 (.str "law_stretchdeeds_k61_whole_rows_that_come" 336), kE P "__doc__" 166 .none, kE P "__package__" 167 .none, kE P "__loader__" 168 (.builtin "__main__.__loader__#opaque"), kE P "__spec__" 169 .none, kR P "__annotations__" 170 6, kR P "__builtins__" 171 4, kE P "__file__" 173 (.str "/claim/cut.py" 172), kE P "__cached__" 174 .none, kR P "StretchError" 206 24, kR P "NotLetBy" 231 44, kR P "nothing_fails" 243 53, kR P "parting_fails" 255 60, kR P "doing_fails" 271 67, kR P "deeds_fail" 282 74, kR P "what_fails" 290 81, kR P "check_let_by" 298 88, kR P "two_of" 312 95, kR P "following" 318 100, kR P "take_new" 329 107, kR P "coming" 335 112, kR P "_law_cell_at" 345 119, kR P "_law_mixed" 354 126, kR P "_law_words" 360 131, kR P "_law_common" 368 138, kR P "_law_joined_by" 379 145, kR P "_law_images" 385 150, kR P "_law_done_by" 391 155, kR P "_law_kinds" 401 162, kR P "_law_stream" 412 169, kR P "_law_algebra" 418 174, kR P "_law_values" 431 181, kR P "_law_whole_of" 441 188, kR P "_law_come" 452 195, kR P "law" 458 200] 35) ::
 (nat_lit 52, kC "nothing_fails" 234 "nothing_fails" 235 236 10 1 0 0 3 47 true 181 48 49 50 51 241 10 242) ::
 (nat_lit 53, kF "nothing_fails" "nothing_fails" vp (.str "stretchdeeds.algebras" 232) (.ref 52)) ::
 (nat_lit 59, kC "parting_fails" 244 "parting_fails" 245 246 17 1 0 0 3 54 true 181 55 56 57 58 253 17 254) ::
 (nat_lit 60, kF "parting_fails" "parting_fails" vo (.str "stretchdeeds.algebras" 232) (.ref 59)) ::
 (nat_lit 66, kC "doing_fails" 256 "doing_fails" 257 258 26 3 0 0 3 61 true 181 62 63 64 65 269 26 270) ::
 (nat_lit 67, kF "doing_fails" "doing_fails" v8 (.str "stretchdeeds.algebras" 232) (.ref 66)) ::
 (nat_lit 73, kC "deeds_fail" 272 "deeds_fail" 273 274 37 1 0 0 3 68 true 181 69 70 71 72 280 37 281) ::
 (nat_lit 74, kF "deeds_fail" "deeds_fail" ZD (.str "stretchdeeds.algebras" 232) (.ref 73)) ::
 (nat_lit 80, kC "what_fails" 283 "what_fails" 284 285 46 1 0 0 3 75 true 181 76 77 78 79 288 46 289) ::
 (nat_lit 81, kF "what_fails" "what_fails" ZC (.str "stretchdeeds.algebras" 232) (.ref 80)) ::
 (nat_lit 87, kC "check_let_by" 291 "check_let_by" 292 293 53 1 0 0 3 82 true 181 83 84 85 86 296 53 297) ::
 (nat_lit 88, kF "check_let_by" "check_let_by" vW (.str "stretchdeeds.algebras" 232) (.ref 87)) ::
 (nat_lit 94, kC "two_of" 301 "two_of" 302 303 58 4 0 0 3 89 true 181 90 91 92 93 310 58 311) ::
 (nat_lit 95, kF "two_of" "two_of" VB (.str "stretchdeeds.coming" 299) (.ref 94)) ::
 (nat_lit 99, ⟨.type "code", none, .fields #[(.str "following" 313), (.str "following" 314), (.str "/claim/cut.py" 315), (.int (62) 0), (.int (3) 0), (.int (0) 0), (.int (0) 0), (.int (3) 0), (.ref 96), (.bool true), (.int (181) 0), (.ref 97), .none, .none, .none, (.ref 98), (.int (316) 0), (.int (62) 0), (.str "/claim/cut.py" 317)], #[]⟩) ::
 (nat_lit 100, kF "following" "following" Zh (.str "stretchdeeds.coming" 299) (.ref 99)) ::
 (nat_lit 106, kC "take_new" 319 "take_new" 320 321 69 3 0 0 3 101 true 181 102 103 104 105 327 69 328) ::
 (nat_lit 107, kF "take_new" "take_new" YB (.str "stretchdeeds.coming" 299) (.ref 106)) ::
 (nat_lit 111, ⟨.type "code", none, .fields #[(.str "coming" 330), (.str "coming" 331), (.str "/claim/cut.py" 332), (.int (75) 0), (.int (2) 0), (.int (0) 0), (.int (0) 0), (.int (3) 0), (.ref 108), (.bool true), (.int (181) 0), (.ref 109), .none, .none, .none, (.ref 110), (.int (333) 0), (.int (75) 0), (.str "/claim/cut.py" 334)], #[]⟩) ::
 (nat_lit 112, kF "coming" "coming" X4 (.str "stretchdeeds.coming" 299) (.ref 111)) ::
 (nat_lit 118, kC "_law_cell_at" 338 "_law_cell_at" 339 340 87 2 0 0 3 113 true 181 114 115 116 117 343 87 344) ::
 (nat_lit 119, kF "_law_cell_at" "_law_cell_at" Za (.str "law_stretchdeeds_k61_whole_rows_that_come" 336) (.ref 118)) ::
 (nat_lit 125, kC "_law_mixed" 346 "_law_mixed" 347 348 91 2 0 0 3 120 true 181 121 122 123 124 352 91 353) ::
 (nat_lit 126, kF "_law_mixed" "_law_mixed" Z5 (.str "law_stretchdeeds_k61_whole_rows_that_come" 336) (.ref 125)) ::
 (nat_lit 130, ⟨.type "code", none, .fields #[(.str "_law_words" 355), (.str "_law_words" 356), (.str "/claim/cut.py" 357), (.int (94) 0), (.int (2) 0), (.int (0) 0), (.int (0) 0), (.int (3) 0), (.ref 127), (.bool true), (.int (181) 0), (.ref 128), .none, .none, .none, (.ref 129), (.int (358) 0), (.int (94) 0), (.str "/claim/cut.py" 359)], #[]⟩) ::
 (nat_lit 131, kF "_law_words" "_law_words" Zg (.str "law_stretchdeeds_k61_whole_rows_that_come" 336) (.ref 130)) ::
 (nat_lit 137, kC "_law_common" 361 "_law_common" 362 363 103 2 0 0 3 132 true 181 133 134 135 136 366 103 367) ::
 (nat_lit 138, kF "_law_common" "_law_common" ZG (.str "law_stretchdeeds_k61_whole_rows_that_come" 336) (.ref 137)) ::
 (nat_lit 144, kC "_law_joined_by" 369 "_law_joined_by" 370 371 107 4 0 0 3 139 true 181 140 141 142 143 377 107 378) ::
 (nat_lit 145, kF "_law_joined_by" "_law_joined_by" vA (.str "law_stretchdeeds_k61_whole_rows_that_come" 336) (.ref 144)) ::
 (nat_lit 149, ⟨.type "code", none, .fields #[(.str "_law_images" 380), (.str "_law_images" 381), (.str "/claim/cut.py" 382), (.int (116) 0), (.int (3) 0), (.int (0) 0), (.int (0) 0), (.int (3) 0), (.ref 146), (.bool true), (.int (181) 0), (.ref 147), .none, .none, .none, (.ref 148), (.int (383) 0), (.int (116) 0), (.str "/claim/cut.py" 384)], #[]⟩) ::
 (nat_lit 150, kF "_law_images" "_law_images" vV (.str "law_stretchdeeds_k61_whole_rows_that_come" 336) (.ref 149)) ::
 (nat_lit 154, ⟨.type "code", none, .fields #[(.str "_law_done_by" 386), (.str "_law_done_by" 387), (.str "/claim/cut.py" 388), (.int (126) 0), (.int (4) 0), (.int (0) 0), (.int (0) 0), (.int (3) 0), (.ref 151), (.bool true), (.int (181) 0), (.ref 152), .none, .none, .none, (.ref 153), (.int (389) 0), (.int (126) 0), (.str "/claim/cut.py" 390)], #[]⟩) ::
 (nat_lit 155, kF "_law_done_by" "_law_done_by" wC (.str "law_stretchdeeds_k61_whole_rows_that_come" 336) (.ref 154)) ::
 (nat_lit 161, kC "_law_kinds" 392 "_law_kinds" 393 394 132 1 0 0 3 156 true 181 157 158 159 160 399 132 400) ::
 (nat_lit 162, kF "_law_kinds" "_law_kinds" Z7 (.str "law_stretchdeeds_k61_whole_rows_that_come" 336) (.ref 161)) ::
 (nat_lit 168, kC "_law_stream" 402 "_law_stream" 403 404 141 2 0 0 3 163 true 181 164 165 166 167 410 141 411) ::
 (nat_lit 169, kF "_law_stream" "_law_stream" ZJ (.str "law_stretchdeeds_k61_whole_rows_that_come" 336) (.ref 168)) ::
 (nat_lit 173, ⟨.type "code", none, .fields #[(.str "_law_algebra" 413), (.str "_law_algebra" 414), (.str "/claim/cut.py" 415), (.int (151) 0), (.int (3) 0), (.int (0) 0), (.int (0) 0), (.int (3) 0), (.ref 170), (.bool true), (.int (181) 0), (.ref 171), .none, .none, .none, (.ref 172), (.int (416) 0), (.int (151) 0), (.str "/claim/cut.py" 417)], #[]⟩) ::
 (nat_lit 174, kF "_law_algebra" "_law_algebra" xM (.str "law_stretchdeeds_k61_whole_rows_that_come" 336) (.ref 173)) ::
 (nat_lit 180, kC "_law_values" 419 "_law_values" 420 421 186 5 0 0 3 175 true 181 176 177 178 179 429 186 430) ::
 (nat_lit 181, kF "_law_values" "_law_values" ZF (.str "law_stretchdeeds_k61_whole_rows_that_come" 336) (.ref 180)) ::
 (nat_lit 187, kC "_law_whole_of" 432 "_law_whole_of" 433 434 191 2 0 0 3 182 true 181 183 184 185 186 439 191 440) ::
 (nat_lit 188, kF "_law_whole_of" "_law_whole_of" vN (.str "law_stretchdeeds_k61_whole_rows_that_come" 336) (.ref 187)) ::
 (nat_lit 194, kC "_law_come" 442 "_law_come" 443 444 196 3 0 0 3 189 true 181 190 191 192 193 450 196 451) ::
 (nat_lit 195, kF "_law_come" "_law_come" Y5 (.str "law_stretchdeeds_k61_whole_rows_that_come" 336) (.ref 194)) ::
 (nat_lit 199, ⟨.type "code", none, .fields #[(.str "law" 453), (.str "law" 454), (.str "/claim/cut.py" 455), (.int (202) 0), (.int (1) 0), (.int (0) 0), (.int (0) 0), (.int (3) 0), (.ref 196), (.bool true), (.int (181) 0), (.ref 197), .none, .none, .none, (.ref 198), (.int (456) 0), (.int (202) 0), (.str "/claim/cut.py" 457)], #[]⟩) ::
 (nat_lit 200, kF "law" "law" zen (.str "law_stretchdeeds_k61_whole_rows_that_come" 336) (.ref 199)) ::
 []
def kA : List Addr := [3, 52, 53, 59, 60, 66, 67, 73, 74, 80, 81, 87, 88, 94, 95, 99, 100, 106, 107, 111, 112, 118, 119, 125, 126, 130, 131, 137, 138, 144, 145, 149, 150, 154, 155, 161, 162, 168, 169, 173, 174, 180, 181, 187, 188, 194, 195, 199, 200]
def qv : Program := { PySem.Challenge.pw_stretchdeeds_k61_whole_rows_that_come with main := { PySem.Challenge.pw_stretchdeeds_k61_whole_rows_that_come.main with body := [1, 2, 4, 5, 6, 7, 8, 9, 11, 12, 13, 14, 16, 17, 18, 19, 20, 21, 22, 23, 24, 25, 26, 27, 28, 29].map top } }
theorem kAe (P : Params) : kA = (K P).map (·.1) := by kernel_rfl
set_option maxRecDepth 100000
theorem ws : PySem.Challenge.rw_stretchdeeds_k61_whole_rows_that_come.wellSaid = true := by kernel_rfl
abbrev Xt (s : Shared) : Bool := xlAt qv [] s && recOk (RowW.records (OpenRow.toRowW PySem.Challenge.rw_stretchdeeds_k61_whole_rows_that_come.row)) s
abbrev hk : Hook := kHook K kA kAe
theorem hl : LeftO PySem.Challenge.pw_stretchdeeds_k61_whole_rows_that_come qv [] Xt hk.obs hk.val 4000 := λ w => by kernel_rfl
end G61
open PySem PySem.W PyProof.Rows
set_option maxRecDepth 100000 in
set_option maxHeartbeats 0 in
theorem PySem.Challenge.cw_stretchdeeds_k61_whole_rows_that_come_holds : PySem.Challenge.rw_stretchdeeds_k61_whole_rows_that_come.Holds := by
 w_on; refine holds_law G61.ws λ said => ?_
 refine holds_open (q := G61.qv) (loose := []) (Xt := G61.Xt) (XP := XL G61.qv []) (Yf := Hook.obs (kHook G61.K G61.kA G61.kAe)) (Ya := Hook.val (kHook G61.K G61.kA G61.kAe)) (YP := Hook.says (kHook G61.K G61.kA G61.kAe)) (N := 4000) G61.hl (Hook.of (kHook G61.K G61.kA G61.kAe)) (Hook.keeps (kHook G61.K G61.kA G61.kAe)) (λ s e => xl_of s (Bool.and_eq_true_iff.mp e).1) XL.keeps (by rfl) (by rfl) (by rfl) (λ s e => recFacts_of (Bool.and_eq_true_iff.mp e).2) (by rfl) (by first | assumption | decide +kernel) (by decide +kernel) ⟨rfl, rfl, rfl, rfl, rfl, by decide +kernel⟩ ?hw ?hc
 (case hw => w_witness2)
 k_fill
 refine G61.walk (l := PySem.Challenge.rw_stretchdeeds_k61_whole_rows_that_come) rfl rfl (λ w h Y => PySem.W.kIn_of Y) G61.zja ?F
 case F =>
  intro w mg fa h KX G hmg
  refine' G61.zmP KX G hmg ?_ ?_ ?_ ?_ ?_ ?_ ?_ ?_ ?_ ?_ ?_ ?_ ?_ ?_ ?_ ?_ ?_ ?_ ?_ ?_ ?_ ?_ ?_ ?_ ?_ ?_ ?_ ?_ ?_ ?_ ?_ ?_ ?_ ?_ ?_ ?_ ?_ ?_ ?_ ?_ ?_ ?_ ?_ ?_ ?_ ?_ ?_ ?_ ?_ ?_ ?_ ?_ ?_ ?_
  all_goals try first | k_is | (change _ = _; k_is) | exact ⟨_, ⟨_, _, _, _, _, _, _, _, _, rfl, by k_is, by k_is⟩, by k_is⟩ | rfl
#print axioms PySem.Challenge.cw_stretchdeeds_k61_whole_rows_that_come_holds
