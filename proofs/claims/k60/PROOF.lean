import PyProof.Rows.All
import Wide.All
import OpenK.AllK
import Wide.FinOn
import PyProof.EqAt
import PyProof.EqKinds
import PyProof.TupleCall
import PyProof.NeKinds
import PyProof.AutoSeq1
import KE.LcSums
import PyProof.Rows.StrWeight2
import PyProof.StrBlockG
import KE.KIntText
import PyProof.CallStr
import PyProof.WalksEnum
import PyProof.Rows.EnumRows
import PyProof.Rows.FactsT2
import KE.KRevIter
import PyProof.StrWalks
import PyProof.ReprRoads
import PyProof.StrLawsTight
import PyProof.Rows.StrItems
import PyProof.Rows.ReprOcc
import PyProof.Rows.StrJoinMade
import PyProof.ReprLen
import PyProof.ZipIter
import PyProof.Rows.SortWalk
import PyProof.ListRange
import PyProof.AttrMissHeap
import PyProof.Rows.SumAny
import PyProof.Rows.TupDisplay
import Lean
import PySem.Challenge.RW_stretchdeeds_k60_lists_of_what_comes
set_option Elab.async false
set_option linter.all false
set_option maxRecDepth 100000
abbrev zC := PySem.W.Frag
abbrev zD := @List.length_map
abbrev zS := @List.mem_cons
abbrev zzA := @List.mem_cons_of_mem
abbrev zzB := @List.getElem?_eq_getElem
abbrev zzC := @List.mem_cons_self
abbrev zzD := @List.getElem?_eq_some_iff
abbrev zzE := @List.size_toArray
abbrev zzF := @List.getElem?_map
abbrev zzG := @List.length_append
abbrev zzH := @Nat.lt_of_lt_of_le
abbrev zzI := @List.mem_append_right
abbrev zzJ := @List.mem_append
abbrev zzK := @Nat.le_refl
abbrev zzL := @Nat.le_trans
abbrev zzM := @List.mem_append_left
abbrev zzN := @Nat.ne_of_lt
abbrev zzO := @List.mem_singleton
abbrev zzP := @List.length_take
abbrev zzQ := @List.length_cons
abbrev zzR := @List.length_set
abbrev zzS := @Int.natCast_mul
abbrev zzT := @List.nodup_cons
abbrev zzU := @Option.map_eq_some_iff
abbrev zzV := @List.getElem?_set_ne
section
namespace L2
open PySem PySem.Spec PyProof.Rows
abbrev Key := Sum Int Str
def zeu : Key -> Value -> Bool
 | .inl k, v => Value.isInt k v
 | .inr x, v => Value.isStrOf x v
def zry (w : World) : Key -> Int
 | .inl k => hashInt k
 | .inr x => hashStr w x
theorem xU : ∀ {k : Key} {v : Value}, zeu k v = true -> (∃ i t, k = Sum.inl i /\ v = Value.int i t) \/ (∃ x t, k = Sum.inr x /\ v = Value.str x t)
 | .inl i, v, h => by
  obtain ⟨t, e⟩ := Value.isInt_shape (k := i) (v := v) h
  exact .inl ⟨i, t, rfl, e⟩
 | .inr x, v, h => by
  obtain ⟨t, e⟩ := Value.isStrOf_shape (x := x) (v := v) h
  exact .inr ⟨x, t, rfl, e⟩
theorem zjR (i : Int) (t : Tok) : zeu (.inl i) (.int i t) = true := by simp [zeu, Value.isInt]
theorem zjw (x : Str) (t : Tok) : zeu (.inr x) (.str x t) = true := by simp [zeu, Value.isStrOf]
theorem zoC (a b : Int) : decide ((Sum.inl a : Key) = Sum.inl b) = (a == b) := by
 by_cases e : a = b
 · subst e; simp
 · have h : ¬ (Sum.inl a : Key) = Sum.inl b := λ q => e (Sum.inl.inj q)
   rw [decide_eq_false h]
   exact (beq_eq_false_iff_ne.mpr e).symm
theorem zpU (a b : Str) : decide ((Sum.inr a : Key) = Sum.inr b) = decide (a = b) := by
 by_cases e : a = b
 · subst e; simp
 · have h : ¬ (Sum.inr a : Key) = Sum.inr b := λ q => e (Sum.inr.inj q)
   rw [decide_eq_false h, decide_eq_false e]
theorem zpJ (a : Int) (b : Str) : decide ((Sum.inl a : Key) = Sum.inr b) = false := decide_eq_false (λ q => nomatch q)
theorem zpC (a : Str) (b : Int) : decide ((Sum.inr a : Key) = Sum.inl b) = false := decide_eq_false (λ q => nomatch q)
def yX (prog : Program) (w : World) : PySem.KeyKind prog w Key where
 is := zeu
 hash := zry w
 inj := λ v a b ha hb => by
  rcases xU ha with ⟨i, t, rfl, rfl⟩ | ⟨x, t, rfl, rfl⟩
  · rcases xU hb with ⟨j, u, rfl, e⟩ | ⟨y, u, rfl, e⟩
    · injection e with e1 _; rw [e1]
    · exact nomatch e
  · rcases xU hb with ⟨j, u, rfl, e⟩ | ⟨y, u, rfl, e⟩
    · exact nomatch e
    · injection e with e1 _; rw [e1]
 byValue := λ k v h => by
  rcases xU h with ⟨i, t, rfl, rfl⟩ | ⟨x, t, rfl, rfl⟩ <;> rfl
 pyHash := λ hv h => by
  rcases xU hv with ⟨i, t, rfl, rfl⟩ | ⟨x, t, rfl, rfl⟩
  · exact wpAny_pyHash_int h
  · exact wpAny_pyHash_str h
 eqBool := λ hu hv h => by
  rcases xU hu with ⟨i, t, rfl, rfl⟩ | ⟨x, t, rfl, rfl⟩
  · rcases xU hv with ⟨j, u, rfl, rfl⟩ | ⟨y, u, rfl, rfl⟩
    · rw [zoC] at h; exact wpAny_eqBool_int h
    · rw [zpJ] at h; exact SeqAt.EqAt.int_str i t y u _ _ _ _ h
  · rcases xU hv with ⟨j, u, rfl, rfl⟩ | ⟨y, u, rfl, rfl⟩
    · rw [zpC] at h; exact SeqAt.EqAt.str_int x t j u _ _ _ _ h
    · rw [zpU] at h; exact wpAny_eqBool_str h
 «strs» := λ k x t v h => by
  rcases xU h with ⟨i, u, rfl, e⟩ | ⟨y, u, rfl, e⟩
  · exact nomatch e
  · injection e with e1 _
    subst e1
    cases v <;> rfl
theorem zfY (prog : Program) (w : World) (i : Int) (t : Tok) : (yX prog w).is (.inl i) (.int i t) = true := zjR i t
theorem W5 (prog : Program) (w : World) (x : Str) (t : Tok) : (yX prog w).is (.inr x) (.str x t) = true := zjw x t
end L2
namespace L2
open PySem PySem.Spec PyProof.Rows
inductive V where
 | non | bl (b : Bool) | int (i : Int) | str (x : Str) | byt (b : Array UInt8) | flt (b : UInt64) | ref (a : Addr) | ty (n : String)
 deriving DecidableEq
def RelV : V -> Value -> Prop
 | .non, u => u = Value.none
 | .bl b, u => u = Value.bool b
 | .int i, u => ∃ t, u = Value.int i t
 | .str x, u => ∃ t, u = Value.str x t
 | .byt b, u => ∃ t, u = Value.bytes b t
 | .flt b, u => ∃ t, u = Value.float b t
 | .ref a, u => u = Value.ref a
 | .ty n, u => u = Value.type n
abbrev Vals : List V -> List Value -> Prop := Paired RelV
theorem Vals.length (r : Vals xs us) : xs.length = us.length := Paired.length r
theorem Vals.get : ∀ {xs : List V} {us : List Value} {i : Nat} {x : V}, Vals xs us -> xs[i]? = some x -> ∃ u, us[i]? = some u /\ RelV x u
 | _, _, _, _, .nil, e => by simp at e
 | _, _, 0, _, .cons r _, e => by simp at e; subst e; exact ⟨_, rfl, r⟩
 | _, _, i + 1, x, .cons _ t, e => by
  obtain ⟨u, h1, h2⟩ := Vals.get (i := i) (x := x) t (by simpa using e)
  exact ⟨u, by simpa using h1, h2⟩
theorem Vals.set (r : RelV x u) : ∀ {xs : List V} {us : List Value} (i : Nat), Vals xs us -> Vals (xs.set i x) (us.set i u)
 | _, _, _, .nil => .nil
 | _, _, 0, .cons _ t => .cons r t
 | _, _, i + 1, .cons q t => .cons q (Vals.set r i t)
theorem Vals.append : ∀ {xs ys : List V} {us ws : List Value}, Vals xs us -> Vals ys ws -> Vals (xs ++ ys) (us ++ ws)
 | _, _, _, _, .nil, s => s
 | _, _, _, _, .cons r t, s => .cons r (Vals.append t s)
theorem Vals.take : ∀ {xs : List V} {us : List Value} (n : Nat), Vals xs us -> Vals (xs.take n) (us.take n)
 | _, _, 0, _ => .nil
 | _, _, _ + 1, .nil => .nil
 | _, _, n + 1, .cons r t => .cons r (Vals.take n t)
theorem Vals.drop : ∀ {xs : List V} {us : List Value} (n : Nat), Vals xs us -> Vals (xs.drop n) (us.drop n)
 | _, _, 0, r => r
 | _, _, _ + 1, .nil => .nil
 | _, _, n + 1, .cons _ t => Vals.drop n t
def zfi : Option V -> Option Value -> Prop
 | some v, some u => RelV v u
 | none, none => True
 | _, _ => False
def KV {κ : Type} : List (κ × V) -> List (κ × Value) -> Prop := Paired λ (p : κ × V) (q : κ × Value) => p.1 = q.1 /\ RelV p.2 q.2
def kV : Key -> V
 | .inl i => .int i
 | .inr x => .str x
inductive HO where
 | lst (xs : List V)
 | tup (xs : List V)
 | dK (kvs : List (Key × V)) | dT (kvs : List (List Key × V)) (bs : List Addr) (ep : Nat)
 | set (S : Int -> Bool) (n : Nat)
 | ins (C dx : Addr) (fs : List (Str × V))
 | own (x : Addr)
 | xd (fs : List (Str × V))
 | met (f x : Addr)
 | rng (lo hi : Int)
 | frz (o : Obj) (u : HO)
 | tbl (ps : Array Value)
 | ext (φ : Heap -> Prop)
abbrev Hp := Addr -> Option HO
def upd (H : Hp) (a : Addr) (o : HO) : Hp := λ b => if b = a then some o else H b
theorem yK : upd H a o a = some o := by unfold upd; rw [if_pos rfl]
theorem yd (h : b ≠ a) : upd H a o b = H b := by unfold upd; rw [if_neg h]
theorem zqn {H : Hp} {a b : Addr} {o u : HO} (h : H a = some o) (h' : H b = some u) (d : o ≠ u) : a ≠ b := by
 intro e; subst e; rw [h] at h'; exact d (Option.some.inj h')
theorem xG {H : Hp} {a b : Addr} {o : HO} (h : H a = some o) (h' : H b = none) : a ≠ b := by
 intro e; subst e; rw [h] at h'; cases h'
section
variable (P : Program) (w : World)
def wL (H : Hp) (h : Heap) (a : Addr) : HO -> Prop
 | .lst xs => xs.length <= sizeLine /\ ∃ (its : List Value) (n : Nat), Vals xs its /\ h.get? a = some { cls := .type "list", data := .seq its.toArray n }
 | .tup xs => xs.length <= sizeLine /\ ∃ its : List Value, Vals xs its /\ IsTup h a its.toArray
 | .dK kvs => kvs.length <= sizeLine /\ (a == sysModules) = false /\ ∃ vs, KV kvs vs /\ h.DictOf (yX P w) a vs
 | .dT kvs bs ep => kvs.length <= sizeLine /\ (a == sysModules) = false /\ ∃ xs : List (List Key × Addr × Value),
  Paired (λ (p : List Key × V) (q : List Key × Addr × Value) => p.1 = q.1 /\ H q.2.1 = some (.tup (p.1.map kV)) /\ RelV p.2 q.2.2) kvs xs /\ xs.map (·.2.1) = bs /\
  ∃ o es, h.get? a = some o /\ o.ExactDict /\ o.data = .dict es ep /\ es.toList = xs.map (entryOfKey (tupleKind (yX P w))) /\ (xs.map (·.1)).Nodup
 | .set S n => h.SetOf (intKind P w) a S n
 | .ins C dx fs => H dx = some (.own a) /\ fs.length <= 1000 /\ dx ≠ a /\ h.get? a = some (PySem.W.instObj C dx) /\
  ∃ mA, h.Ns1 dx mA /\ (∀ f, zfi (fs.lookup f) (mA f)) /\ PySem.Within mA (fs.map (·.1))
 | .own _ => ∃ o, h.get? a = some o
 | .xd fs => ∃ mA, h.Ns1 a mA /\ ∀ f, zfi (fs.lookup f) (mA f)
 | .rng lo hi => ∃ t u v, h.get? a = some { cls := .type "range", data := .fields #[.int lo t, .int hi u, .int 1 v] }
 | .frz o u => h.get? a = some o /\ wL H h a u
 | .tbl ps => h.get? a = some { cls := .none, data := .fields ps }
 | .met f x => h.get? a = some (PySem.W.methodObj (.ref f) (.ref x))
 | .ext φ => φ h /\ (∃ o, h.get? a = some o) /\ ∀ h1 h2 : Heap, φ h1 -> (∀ o, h1.get? a = some o -> h2.get? a = some o) -> φ h2
def HOk (H : Hp) (h : Heap) : Prop := ∀ a o, H a = some o -> wL P w H h a o
end
section
variable {P : Program} {w : World} {H H' : Hp} {h h' : Heap} {a : Addr} {o : HO}
theorem wL.lt (x : wL P w H h a o) : a < h.objs.size := by
 cases o with
 | lst xs => obtain ⟨_, _, _, _, e⟩ := x; exact Heap.lt_size e
 | tup xs => obtain ⟨_, _, _, p⟩ := x; exact p.lt
 | dK kvs => obtain ⟨_, _, _, _, o, _, _, e, _⟩ := x; exact Heap.lt_size e
 | dT kvs bs ep => obtain ⟨_, _, _, _, _, o, _, e, _⟩ := x; exact Heap.lt_size e
 | set S n => obtain ⟨o, _, _, _, e, _⟩ := x; exact Heap.lt_size e
 | ins C dx fs => obtain ⟨_, _, _, e, _⟩ := x; exact Heap.lt_size e
 | own y => obtain ⟨_, e⟩ := x; exact Heap.lt_size e
 | xd fs => obtain ⟨_, ⟨_, _, _, e, _⟩, _⟩ := x; exact Heap.lt_size e
 | rng lo hi => obtain ⟨_, _, _, e⟩ := x; exact Heap.lt_size e
 | frz ob u => obtain ⟨e, _⟩ := x; exact Heap.lt_size e
 | tbl ps => exact Heap.lt_size (show h.get? a = some _ from x)
 | met f y => exact Heap.lt_size (show h.get? a = some _ from x)
 | ext φ => obtain ⟨_, ⟨_, e⟩, _⟩ := x; exact Heap.lt_size e
theorem Paired.mapP : ∀ {l₁ : List α} {l₂ : List β}, Paired F l₁ l₂ -> (∀ a b, F a b -> G a b) -> Paired G l₁ l₂
 | _, _, .nil, _ => .nil
 | _, _, .cons r t, f => .cons (f _ _ r) (Paired.mapP t f)
theorem wL.stay (x : wL P w H h a o) (k : ∀ b u, (b = a \/ H b = some (.own a)) -> h.get? b = some u -> h'.get? b = some u)
 (ho : ∀ b, H b = some (.own a) -> H' b = some (.own a)) (ht : ∀ b xs, H b = some (.tup xs) -> H' b = some (.tup xs)) : wL P w H' h' a o := by
 induction o with
 | lst xs => obtain ⟨z, its, n, r, e⟩ := x; exact ⟨z, its, n, r, k _ _ (.inl rfl) e⟩
 | tup xs => obtain ⟨z, its, r, ob, e, c⟩ := x; exact ⟨z, its, r, ob, k _ _ (.inl rfl) e, c⟩
 | dK kvs => obtain ⟨z, y, vs, r, ob, es, ep, e, c⟩ := x; exact ⟨z, y, vs, r, ob, es, ep, k _ _ (.inl rfl) e, c⟩
 | dT kvs bs ep =>
  obtain ⟨z, y, xs, r, eb, ob, es, e, c⟩ := x
  exact ⟨z, y, xs, Paired.mapP r λ p q z => ⟨z.1, ht _ _ z.2.1, z.2.2⟩, eb, ob, es, k _ _ (.inl rfl) e, c⟩
 | set S n => obtain ⟨ob, es, ep, t, e, c⟩ := x; exact ⟨ob, es, ep, t, k _ _ (.inl rfl) e, c⟩
 | ins C dx fs =>
  obtain ⟨d, z, ne, e, mA, ⟨od, es, ep, e2, c⟩, r⟩ := x
  exact ⟨ho _ d, z, ne, k _ _ (.inl rfl) e, mA, ⟨od, es, ep, k _ _ (.inr d) e2, c⟩, r⟩
 | own y => obtain ⟨ob, e⟩ := x; exact ⟨ob, k _ _ (.inl rfl) e⟩
 | xd fs => obtain ⟨mA, ⟨od, es, ep, e, c⟩, r⟩ := x; exact ⟨mA, ⟨od, es, ep, k _ _ (.inl rfl) e, c⟩, r⟩
 | rng lo hi => obtain ⟨t, u, v, e⟩ := x; exact ⟨t, u, v, k _ _ (.inl rfl) e⟩
 | frz ob u ih => obtain ⟨e, q⟩ := x; exact ⟨k _ _ (.inl rfl) e, ih q⟩
 | tbl ps =>
  have e : h.get? a = some { cls := .none, data := .fields ps } := x
  show h'.get? a = some { cls := .none, data := .fields ps }
  exact k a _ (.inl rfl) e
 | met f y =>
  have e : h.get? a = some (PySem.W.methodObj (.ref f) (.ref y)) := x
  show h'.get? a = some (PySem.W.methodObj (.ref f) (.ref y))
  exact k a _ (.inl rfl) e
 | ext φ => obtain ⟨p, ⟨o, e⟩, st⟩ := x; exact ⟨st _ _ p λ o q => k _ _ (.inl rfl) q, ⟨o, k _ _ (.inl rfl) e⟩, st⟩
theorem HOk.lt (x : HOk P w H h) (e : H a = some o) : a < h.objs.size := (x a o e).lt
theorem HOk.fresh (x : HOk P w H h) (e : h.objs.size <= a) : H a = none := by
 cases q : H a with
 | none => rfl
 | some u => exact absurd (zzH (x.lt q) e) (Nat.lt_irrefl _)
theorem HOk.kept (x : HOk P w H h) (k : ∀ b u, h.get? b = some u -> h'.get? b = some u) : HOk P w H h' := λ a o e =>
 (x a o e).stay (λ b u _ q => k b u q) (λ _ q => q) λ _ _ q => q
theorem HOk.laid (x : HOk P w H h) (k : ∀ b u, h.get? b = some u -> h'.get? b = some u) (hp : h.objs.size <= a) (new : wL P w (upd H a o) h' a o) : HOk P w (upd H a o) h' := λ b u e => by
 have hn := x.fresh hp
 by_cases hb : b = a
 · subst hb; rw [yK] at e; cases e; exact new
 · rw [yd hb] at e
   exact (x b u e).stay (λ c v _ q => k c v q) (λ c q => by rw [yd (xG q hn)]; exact q) λ c xs q => by rw [yd (xG q hn)]; exact q
end
def Rd (H : Hp) (a : Addr) (u : HO) : Prop := H a = some u \/ ∃ o, H a = some (.frz o u)
theorem Rd.ok (r : Rd H a u) (x : HOk P w H h) : wL P w H h a u := by
 rcases r with r | ⟨o, r⟩
 · exact x a u r
 · obtain ⟨_, q⟩ := x a _ r
   exact q
def Mut : Option HO -> Prop
 | some (.lst _) => True
 | some (.dK _) => True
 | some (.dT _ _ _) => True
 | some (.set _ _) => True
 | some (.ins _ _ _) => True
 | some (.ext _) => True
 | _ => False
section
variable {P : Program} {w : World} {H : Hp} {h h' : Heap} {x e : Addr} {o' : HO}
theorem HOk.write (ok : HOk P w H h) (mu : Mut (H x)) (he : e = x \/ H e = some (.own x)) (k : ∀ b u, b ≠ e -> h.get? b = some u -> h'.get? b = some u) (heo : ∃ u, h'.get? e = some u)
 (new : wL P w (upd H x o') h' x o') : HOk P w (upd H x o') h' := λ b u q => by
 have nown : ∀ c y, H c = some (.own y) -> c ≠ x := λ c y r z => by subst z; rw [r] at mu; exact mu
 have ntup : ∀ c xs, H c = some (.tup xs) -> c ≠ x := λ c xs r z => by subst z; rw [r] at mu; exact mu
 by_cases hb : b = x
 · subst hb; rw [yK] at q; cases q; exact new
 · rw [yd hb] at q
   by_cases hbe : b = e
   · have q' : H b = some (.own x) := by
      rcases he with z | z
      · exact absurd (hbe.trans z) hb
      · rw [hbe]; exact z
     rw [q] at q'; cases q'
     obtain ⟨v, hv⟩ := heo
     exact ⟨v, by rw [hbe]; exact hv⟩
   · refine (ok b u q).stay (λ c v hc r => k c v ?_ r) (λ c r => by rw [yd (nown c b r)]; exact r) λ c xs r => by rw [yd (ntup c xs r)]; exact r
     rcases hc with rfl | hc
     · exact hbe
     · rintro rfl
       rcases he with z | z
       · exact nown c b hc z
       · rw [hc] at z; cases z; exact hb rfl
end
structure Un (fs ex : List Addr) (H H' : Hp) (h h' : Heap) : Prop where
 keep : ∀ b o, h.get? b = some o -> H b = none -> b ∉ fs -> b ∉ ex -> h'.get? b = some o
 slot : ∀ b o, h.get? b = some o -> H b = none -> b ∈ fs -> b ∉ ex -> ∃ sl, h'.get? b = some { o with slots := sl }
 free : ∀ b o, h.get? b = some o -> H b = none -> b ∉ ex -> H' b = none
 there : ∀ b o, h.get? b = some o -> b ∉ ex -> ∃ o', h'.get? b = some o'
 tups : ∀ b xs, H b = some (.tup xs) -> H' b = some (.tup xs)
 frzs : ∀ b o u, H b = some (.frz o u) -> H' b = some (.frz o u)
 tbls : ∀ b ps, H b = some (.tbl ps) -> ∃ more, H' b = some (.tbl (ps ++ more))
section
variable {fs fs' ex ex' : List Addr} {H H1 H2 : Hp} {h h1 h2 h' : Heap} {a x e : Addr} {o : HO}
theorem Un.any (u : Un fs ex H H1 h h1) (q : h.get? b = some ob) (n : H b = none) (hx : b ∉ ex) : ∃ sl, h1.get? b = some { ob with slots := sl } := by
 by_cases hb : b ∈ fs
 · exact u.slot b ob q n hb hx
 · exact ⟨ob.slots, u.keep b ob q n hb hx⟩
theorem Un.kept (k : ∀ b u, h.get? b = some u -> h'.get? b = some u) : Un fs ex H H h h' :=
 ⟨λ b ob q _ _ _ => k b ob q, λ b ob q _ _ _ => ⟨ob.slots, k b ob q⟩, λ _ _ _ n _ => n, λ b ob q _ => ⟨ob, k b ob q⟩, λ _ _ q => q, λ _ _ _ q => q, λ _ ps q => ⟨#[], by rw [q]; simp⟩⟩
theorem Un.refl : Un fs ex H H h h := Un.kept λ _ _ q => q
theorem Un.laid (k : ∀ b u, h.get? b = some u -> h'.get? b = some u) (hp : h.objs.size <= a) (hn : H a = none) : Un fs ex H (upd H a o) h h' where
 keep := λ b u q _ _ _ => k b u q
 slot := λ b u q _ _ _ => ⟨u.slots, k b u q⟩
 free := λ b u q n _ => by rw [yd (zzN (zzH (Heap.lt_size q) hp))]; exact n
 there := λ b u q _ => ⟨u, k b u q⟩
 tups := λ b xs q => by rw [yd (xG q hn)]; exact q
 frzs := λ b u xs q => by rw [yd (xG q hn)]; exact q
 tbls := λ b ps q => ⟨#[], by rw [yd (xG q hn), q]; simp⟩
theorem Un.write (mu : Mut (H x)) (he : e = x \/ H e = some (.own x)) (k : ∀ b u, b ≠ e -> h.get? b = some u -> h'.get? b = some u) (heo : ∃ u, h'.get? e = some u) : Un fs ex H (upd H x o) h h' := by
 have hx : ∀ b, H b = none -> b ≠ x := λ b n z => by subst z; rw [n] at mu; exact mu
 have hb : ∀ b, H b = none -> b ≠ e := λ b n z => by
  subst z
  rcases he with r | r
  · exact hx b n r
  · rw [n] at r; cases r
 have hm : ∀ b u, H b = some u -> ¬ Mut (some u) -> b ≠ x := λ b u q nm z => by subst z; rw [q] at mu; exact nm mu
 refine ⟨λ b u q n _ _ => k b u (hb b n) q, λ b u q n _ _ => ⟨u.slots, k b u (hb b n) q⟩, λ b u q n _ => by rw [yd (hx b n)]; exact n, λ b u q _ => ?_,
  λ b xs q => by rw [yd (hm b _ q λ z => z)]; exact q, λ b u xs q => by rw [yd (hm b _ q λ z => z)]; exact q, λ b ps q => ⟨#[], by rw [yd (hm b _ q λ z => z), q]; simp⟩⟩
 by_cases hbe : b = e
 · subst hbe; exact heo
 · exact ⟨u, k b u hbe q⟩
end
def trk (h : Heap) (H : Hp) : List Addr := (List.range h.objs.size).filter λ a => (H a).isSome
def zfP (h : Heap) (H : Hp) : Heap := PySem.W.hideAll h (trk h H)
theorem zjI (h : Heap) (H : Hp) : (zfP h H).objs.size = h.objs.size := PySem.W.hideAll_size _ _
theorem zjV (e : h.get? b = some o) (n : H b = none) : (zfP h H).get? b = some o :=
 PySem.W.hideAll_get _ e λ hm => by
  have q : (H b).isSome = true := (List.mem_filter.mp hm).2
  rw [n] at q; simp at q
theorem zml (e : (zfP h H).get? b = some o) : h.get? b = some o /\ H b = none := by
 have e' : h.get? b = some o := PySem.W.of_hideAll (trk h H) e
 refine ⟨e', ?_⟩
 cases q : H b with
 | none => rfl
 | some x =>
  have hm : b ∈ trk h H := List.mem_filter.mpr ⟨List.mem_range.mpr (Heap.lt_size e'), by simp [q]⟩
  have z : (zfP h H).get? b = none := PySem.W.hideAll_none (trk h H) hm
  rw [z] at e; cases e
end L2
namespace L2
open PySem PySem.Spec PyProof.Rows
structure Mod (K : zC) (mg : Str -> Option Value) (base : Heap) : Prop where
 kin : K.In base
 glob : base.Ns mainGlobals mg
 blt : ∃ mb, base.Ns builtinsNs mb /\ ∀ x : Str, x ≠ "__name__" -> mb x = bootBuiltins x
 nolimit : base.NoLimit
structure Cx where
 prog : Program
 w : World
 K : zC
 mg : Str -> Option Value
 base : Heap
 A : Around
 N : List Str
 s₀ : Shared
 H₀ : Hp
 env : Env
 outer : List Env
 stack : List Env
 ex : List Addr
 fn : Str -> Bool
 calm : Bool
 pn : List (Addr × Obj)
 xe : Value -> Shared -> Prop
def frs (l : List Env) : List Addr := l.filterMap (·.frame)
abbrev Cx.fs (X : Cx) : List Addr := frs X.outer
def Vis (sc : Scope) (x : Str) : Prop := sc.names.lookup x = some .local \/ sc.names.lookup x = some .cell \/ sc.names.lookup x = some .free
def Loc (sc : Scope) (x : Str) : Prop := sc.names.lookup x = some .local \/ sc.names.lookup x = some .cell
def Look (env : Env) (h : Heap) (m : Str -> Option Value) (x : Str) (u : Value) : Prop :=
 (env.kindOf x = some .local /\ m x = some u) \/ ((env.kindOf x = some .cell \/ env.kindOf x = some .free) /\ ∃ c, env.cells.lookup x = some c /\ h.IsCell c (some u))
structure Cx.Ok (X : Cx) : Prop where
 mod : Mod X.K X.mg X.base
 kind : X.env.scope.kind = .function
 glob : X.env.globals = mainGlobals
 blt : X.env.builtins = builtinsNs
 above : X.s₀.heap.objs.size <= X.env.locals
 inj : ∀ x y c, X.env.cells.lookup x = some c -> X.env.cells.lookup y = some c -> x = y
 has : ∀ x, (X.env.kindOf x = some .cell \/ X.env.kindOf x = some .free) -> ∃ c, X.env.cells.lookup x = some c
 cab : ∀ x c, X.fn x = true -> X.env.cells.lookup x = some c -> X.s₀.heap.objs.size <= c
 hd : X.calm = true -> X.A.handled = none
 frames : X.A.frames = some X.stack
 stk : X.stack = X.outer \/ (X.stack = X.env :: X.outer /\ X.env.frame = some X.env.locals)
 exf : ∀ b ∈ X.ex, b ≠ X.env.locals /\ ∀ x c, X.env.cells.lookup x = some c -> c ≠ b
 bs : ∀ b o, X.base.get? b = some o -> X.s₀.heap.get? b = some o /\ X.H₀ b = none
 bsz : X.base.objs.size <= X.s₀.heap.objs.size
 noex : ∀ b o, X.base.get? b = some o -> b ∉ X.ex
 exfs : ∀ b ∈ X.ex, b ∉ X.fs
 funs : X.s₀.heap.FunFrames X.base X.outer
 frf : ∀ b ∈ X.fs, X.H₀ b = none
structure Inv (X : Cx) (pins : List (Addr × Obj)) (σ : List (Option V)) (H : Hp) (s : Shared) : Prop where
 ok : X.Ok
 os : s.os = X.s₀.os
 bare : AllBare s.gens
 base : Un X.fs X.ex X.H₀ H X.s₀.heap s.heap
 loc : ∃ m, s.heap.Ns X.env.locals m /\ ∀ (i : Nat) (x : Str) (v : V), X.N[i]? = some x -> σ[i]? = some (some v) -> Vis X.env.scope x -> ∃ u, RelV v u /\ Look X.env s.heap m x u
 cell : ∀ x c, X.env.cells.lookup x = some c -> ∃ v, s.heap.IsCell c v
 free : H X.env.locals = none
 freeC : ∀ x c, X.env.cells.lookup x = some c -> H c = none
 pin : ∀ p ∈ X.pn ++ pins, s.heap.get? p.1 = some p.2 /\ H p.1 = none /\ p.1 ≠ X.env.locals /\ p.1 ∉ X.fs /\ ∀ v, p.2.data ≠ .cell v
 hok : HOk X.prog X.w H s.heap
 len : σ.length = X.N.length
section
variable {X : Cx} {pins : List (Addr × Obj)} {σ : List (Option V)} {H H' : Hp} {s : Shared} {h' : Heap}
theorem Cx.Ok.nofr (ok : X.Ok) (e : X.base.get? b = some o) : b ∉ X.fs := λ hb => by
 have := (ok.funs.mem hb).1
 rw [e] at this; cases this
theorem Inv.bs (I : Inv X pins σ H s) : ∀ b o, X.base.get? b = some o -> s.heap.get? b = some o /\ H b = none := λ b o e =>
 ⟨I.base.keep b o (I.ok.bs b o e).1 (I.ok.bs b o e).2 (I.ok.nofr e) (I.ok.noex b o e), I.base.free b o (I.ok.bs b o e).1 (I.ok.bs b o e).2 (I.ok.noex b o e)⟩
theorem Inv.bk (I : Inv X pins σ H s) : ∀ b o, X.base.get? b = some o -> s.heap.get? b = some o := λ b o e => (I.bs b o e).1
theorem Inv.mod (I : Inv X pins σ H s) : Mod X.K X.mg X.base := I.ok.mod
theorem Inv.kIn (I : Inv X pins σ H s) : X.K.In s.heap := I.ok.mod.kin.keeps I.bk
theorem Inv.lt (I : Inv X pins σ H s) : X.env.locals < s.heap.objs.size := let ⟨_, hn, _⟩ := I.loc; hn.lt
theorem Inv.sz (I : Inv X pins σ H s) : X.s₀.heap.objs.size <= s.heap.objs.size := zzL I.ok.above (Nat.le_of_lt I.lt)
theorem Inv.nofs (I : Inv X pins σ H s) (h : s.heap.objs.size <= a) : a ∉ X.fs := λ hb => by
 obtain ⟨_, o, ho, _⟩ := I.ok.funs.mem hb
 exact absurd (zzH (Heap.lt_size ho) (zzL I.sz h)) (Nat.lt_irrefl _)
theorem Inv.cne (I : Inv X pins σ H s) : ∀ x c, X.env.cells.lookup x = some c -> c ≠ X.env.locals := λ x c e z => by
 obtain ⟨v, o, ho, hd⟩ := I.cell x c e
 obtain ⟨m, ⟨o', es, ep, ho', hd', _⟩, _⟩ := I.loc
 rw [z, ho'] at ho; cases ho; rw [hd'] at hd; cases hd
theorem Inv.funs (I : Inv X pins σ H s) : s.heap.FunFrames X.base X.outer := by
 have all : ∀ (l : List Env), (∀ b ∈ frs l, b ∈ X.fs) -> X.s₀.heap.FunFrames X.base l -> s.heap.FunFrames X.base l := by
  intro l
  induction l with
  | nil => intro _ _; trivial
  | cons env r ih =>
   intro hs hl
   obtain ⟨hk, ⟨L, o, hf, hn, ho, hd⟩, hr⟩ := hl
   have hL : L ∈ X.fs := hs L (by unfold frs; rw [List.filterMap_cons, hf]; exact zzC)
   obtain ⟨sl, e⟩ := I.base.slot L o ho (I.ok.frf L hL) hL λ z => I.ok.exfs L z hL
   exact ⟨hk, ⟨L, _, hf, hn, e, hd⟩, ih (λ b hb => hs b (by unfold frs; rw [List.filterMap_cons, hf]; exact zzA _ hb)) hr⟩
 exact all X.outer (λ _ hb => hb) I.ok.funs
theorem Inv.stack (I : Inv X pins σ H s) : s.heap.FunFrames X.base X.stack := by
 rcases I.ok.stk with e | ⟨e, hf⟩
 · rw [e]; exact I.funs
 · rw [e]
   obtain ⟨m, hn, _⟩ := I.loc
   refine .cons (by rw [I.ok.kind]; decide) hf hn ?_ I.funs
   exact Heap.get?_none_of_le (zzL I.ok.bsz I.ok.above)
theorem Inv.stkSub (I : Inv X pins σ H s) : ∀ b ∈ frs X.stack, b ∈ X.env.locals :: X.fs := λ b hb => by
 rcases I.ok.stk with e | ⟨e, hf⟩
 · rw [e] at hb; exact zzA _ hb
 · rw [e] at hb
   unfold frs at hb
   rw [List.filterMap_cons, hf] at hb
   exact hb
theorem Inv.stkFree (I : Inv X pins σ H s) : ∀ b ∈ frs X.stack, H b = none := λ b hb => by
 rcases zS.mp (I.stkSub b hb) with e | hb
 · rw [e]; exact I.free
 · obtain ⟨_, o, ho, _⟩ := I.ok.funs.mem hb
   exact I.base.free b o ho (I.ok.frf b hb) λ z => I.ok.exfs b z hb
theorem Inv.step {g' : Array GenState} {t' : Nat} {d' : Drawn} {ch : List Addr} (I : Inv X pins σ H s)
 (hch : ∀ b ∈ ch, (b ∈ X.ex \/ X.s₀.heap.objs.size <= b) /\ b ≠ X.env.locals /\ (∀ x c, X.env.cells.lookup x = some c -> c ≠ b) /\ ∀ p ∈ X.pn ++ pins, p.1 ≠ b)
 (keep : ∀ b o, b ≠ X.env.locals -> b ∉ X.fs -> b ∉ ch -> s.heap.get? b = some o -> H b = none -> h'.get? b = some o)
 (slot : ∀ b o, b ≠ X.env.locals -> b ∈ X.fs -> b ∉ ch -> s.heap.get? b = some o -> H b = none -> ∃ sl, h'.get? b = some { o with slots := sl }) (free : ∀ b o, b ∉ ch -> s.heap.get? b = some o -> H b = none -> H' b = none)
 (there : ∀ b o, b ∉ ch -> s.heap.get? b = some o -> ∃ o', h'.get? b = some o')
 (tups : ∀ b xs, H b = some (.tup xs) -> H' b = some (.tup xs)) (frzs : ∀ b o u, H b = some (.frz o u) -> H' b = some (.frz o u)) (tbls : ∀ b ps, H b = some (.tbl ps) -> ∃ more, H' b = some (.tbl (ps ++ more)))
 (ns : ∀ m, s.heap.Ns X.env.locals m -> h'.Ns X.env.locals m) (hok : HOk X.prog X.w H' h') (hg : AllBare g') :
 Inv X pins σ H' { s with heap := h', gens := g', drawn := d', toks := t' } := by
 have neL : ∀ b o, X.s₀.heap.get? b = some o -> b ≠ X.env.locals := λ b o e => zzN (zzH (Heap.lt_size e) I.ok.above)
 have neC : ∀ b o, X.s₀.heap.get? b = some o -> b ∉ X.ex -> b ∉ ch := λ b o e hx hb => by
  rcases (hch b hb).1 with z | z
  · exact hx z
  · exact absurd (zzH (Heap.lt_size e) z) (Nat.lt_irrefl _)
 have cellK : ∀ x c, X.env.cells.lookup x = some c -> ∀ v, s.heap.IsCell c v -> h'.IsCell c v := λ x c e v ⟨o, ho, hd⟩ => by
  have nch : c ∉ ch := λ z => (hch c z).2.2.1 x c e rfl
  by_cases hc : c ∈ X.fs
  · obtain ⟨sl, q⟩ := slot c o (I.cne x c e) hc nch ho (I.freeC x c e)
    exact ⟨_, q, hd⟩
  · exact ⟨o, keep c o (I.cne x c e) hc nch ho (I.freeC x c e), hd⟩
 refine ⟨I.ok, I.os, hg, ⟨λ b o e n hb hx => ?_, λ b o e n hb hx => ?_, λ b o e n hx => ?_, λ b o e hx => ?_, λ b xs e => tups b xs (I.base.tups b xs e), λ b o xs e => frzs b o xs (I.base.frzs b o xs e), λ b ps e => ?_⟩, ?_, λ x c e => ?_, ?_, λ x c e => ?_, λ p hp => ?_, hok, I.len⟩
 · exact keep b o (neL b o e) hb (neC b o e hx) (I.base.keep b o e n hb hx) (I.base.free b o e n hx)
 · obtain ⟨sl, e1⟩ := I.base.slot b o e n hb hx
   obtain ⟨sl', e2⟩ := slot b _ (neL b o e) hb (neC b o e hx) e1 (I.base.free b o e n hx)
   exact ⟨sl', e2⟩
 · obtain ⟨o', e1⟩ := I.base.there b o e hx
   exact free b o' (neC b o e hx) e1 (I.base.free b o e n hx)
 · obtain ⟨o', e1⟩ := I.base.there b o e hx
   exact there b o' (neC b o e hx) e1
 · obtain ⟨m1, e1⟩ := I.base.tbls b ps e
   obtain ⟨m2, e2⟩ := tbls b _ e1
   exact ⟨m1 ++ m2, by rw [e2, Array.append_assoc]⟩
 · obtain ⟨m, hn, hl⟩ := I.loc
   refine ⟨m, ns m hn, λ i x v e1 e2 e3 => ?_⟩
   obtain ⟨u, r, l⟩ := hl i x v e1 e2 e3
   refine ⟨u, r, ?_⟩
   rcases l with l | ⟨k, c, e, z⟩
   · exact .inl l
   · exact .inr ⟨k, c, e, cellK x c e _ z⟩
 · obtain ⟨v, z⟩ := I.cell x c e
   exact ⟨v, cellK x c e v z⟩
 · obtain ⟨m, ⟨o, _, _, ho, _⟩, _⟩ := I.loc
   exact free _ o (λ z => (hch _ z).2.1 rfl) ho I.free
 · obtain ⟨v, o, ho, hd⟩ := I.cell x c e
   exact free c o (λ z => (hch c z).2.2.1 x c e rfl) ho (I.freeC x c e)
 · obtain ⟨e, n, ne, nf, d⟩ := I.pin p hp
   have nch : p.1 ∉ ch := λ z => (hch p.1 z).2.2.2 p hp rfl
   exact ⟨keep p.1 p.2 ne nf nch e n, free p.1 p.2 nch e n, ne, nf, d⟩
theorem Inv.un {t' : Nat} (I : Inv X pins σ H s) (u : Un X.fs [] H H' s.heap h') (hok : HOk X.prog X.w H' h') : Inv X pins σ H' { s with heap := h', toks := t' } := by
 obtain ⟨m, ⟨o, es, ep, ho, r⟩, _⟩ := id I.loc
 obtain ⟨sl, hL⟩ := u.any ho I.free (by simp)
 exact I.step (g' := s.gens) (d' := s.drawn) (ch := []) (λ _ z => nomatch z) (λ b o _ hb _ e n => u.keep b o e n hb (by simp)) (λ b o _ hb _ e n => u.slot b o e n hb (by simp)) (λ b o _ e n => u.free b o e n (by simp)) (λ b o _ e => u.there b o e (by simp)) u.tups u.frzs u.tbls (λ m' hm => by
  obtain ⟨o', es', ep', ho', r'⟩ := hm
  rw [ho] at ho'; cases ho'
  exact ⟨_, es', ep', hL, r'⟩) hok I.bare
theorem Inv.call {g' : Array GenState} {t' : Nat} {d' : Drawn} {ch : List Addr} (I : Inv X pins σ H s) (u : Un (frs X.stack) ch H H' s.heap h') (hok : HOk X.prog X.w H' h') (hg : AllBare g')
 (hch : ∀ b ∈ ch, (b ∈ X.ex \/ X.s₀.heap.objs.size <= b) /\ b ≠ X.env.locals /\ (∀ x c, X.env.cells.lookup x = some c -> c ≠ b) /\ ∀ p ∈ X.pn ++ pins, p.1 ≠ b) :
 Inv X pins σ H' { s with heap := h', gens := g', drawn := d', toks := t' } := by
 obtain ⟨m, ⟨o, es, ep, ho, r⟩, _⟩ := id I.loc
 obtain ⟨sl, hL⟩ := u.any ho I.free λ z => (hch _ z).2.1 rfl
 exact I.step (ch := ch) hch (λ b o hL hb hc e n => u.keep b o e n (λ z => (zS.mp (I.stkSub b z)).elim hL hb) hc) (λ b o _ _ hc e n => u.any e n hc) (λ b o hc e n => u.free b o e n hc) (λ b o hc e => u.there b o e hc) u.tups u.frzs u.tbls (λ m' hm => by
  obtain ⟨o', es', ep', ho', r'⟩ := hm
  rw [ho] at ho'; cases ho'
  exact ⟨_, es', ep', hL, r'⟩) hok hg
theorem Inv.turned {t' : Nat} {it : Addr} (I : Inv X pins σ H s) (k : ∀ b o, b ≠ it -> s.heap.get? b = some o -> h'.get? b = some o) (hn : H it = none) (hL : it ≠ X.env.locals)
 (h1 : it ∈ X.ex \/ X.s₀.heap.objs.size <= it) (h2 : ∀ x c, X.env.cells.lookup x = some c -> c ≠ it) (h3 : ∀ p ∈ X.pn ++ pins, p.1 ≠ it) : Inv X pins σ H { s with heap := h', toks := t' } := by
 have nit : ∀ b u, H b = some u -> b ≠ it := λ b u e z => by rw [z, hn] at e; cases e
 refine I.step (g' := s.gens) (d' := s.drawn) (ch := [it]) (λ b hb => ?_) (λ b o _ _ hc e _ => k b o (λ z => hc (by simp [z])) e) (λ b o _ _ hc e _ => ⟨o.slots, k b o (λ z => hc (by simp [z])) e⟩) (λ _ _ _ _ n => n)
  (λ b o hc e => ⟨o, k b o (λ z => hc (by simp [z])) e⟩) (λ _ _ e => e) (λ _ _ _ e => e) (λ b ps e => ⟨#[], by rw [e]; simp⟩) (λ m hm => ?_) (λ b u e => ?_) I.bare
 · have e : b = it := by simpa using hb
   subst e
   exact ⟨h1, hL, h2, h3⟩
 · obtain ⟨o, es, ep, ho, r⟩ := hm
   exact ⟨o, es, ep, k _ o (Ne.symm hL) ho, r⟩
 · refine (I.hok b u e).stay (λ c v hc q => k c v ?_ q) (λ _ q => q) λ _ _ q => q
   rcases hc with z | z
   · rw [z]; exact nit b u e
   · exact nit c _ z
theorem Inv.tok (I : Inv X pins σ H s) (t : Nat) : Inv X pins σ H { s with toks := t } := I.un (h' := s.heap) (t' := t) Un.refl I.hok
theorem Inv.kept (I : Inv X pins σ H s) (k : ∀ b u, s.heap.get? b = some u -> h'.get? b = some u) : Inv X pins σ H { s with heap := h', toks := t' } := I.un (Un.kept k) (I.hok.kept k)
theorem Inv.laid (I : Inv X pins σ H s) (k : ∀ b u, s.heap.get? b = some u -> h'.get? b = some u) (hp : s.heap.objs.size <= a) (new : wL X.prog X.w (upd H a o) h' a o) :
 Inv X pins σ (upd H a o) { s with heap := h', toks := t' } := I.un (Un.laid k hp (I.hok.fresh hp)) (I.hok.laid k hp new)
theorem Inv.write (I : Inv X pins σ H s) (mu : Mut (H x)) (he : e = x \/ H e = some (.own x)) (k : ∀ b u, b ≠ e -> s.heap.get? b = some u -> h'.get? b = some u) (heo : ∃ u, h'.get? e = some u)
 (new : wL X.prog X.w (upd H x o) h' x o) : Inv X pins σ (upd H x o) { s with heap := h', toks := t' } := I.un (Un.write mu he k heo) (I.hok.write mu he k heo new)
theorem Inv.weak (I : Inv X pins σ H s) (hl : σ'.length = σ.length) (w : ∀ (i : Nat) v, σ'[i]? = some (some v) -> σ[i]? = some (some v)) : Inv X pins σ' H s :=
 ⟨I.ok, I.os, I.bare, I.base, let ⟨m, hn, hl'⟩ := I.loc; ⟨m, hn, λ i x v e1 e2 e3 => hl' i x v e1 (w i v e2) e3⟩, I.cell, I.free, I.freeC, I.pin, I.hok, hl.trans I.len⟩
theorem Inv.pins_of (I : Inv X pins σ H s) (h : ∀ p ∈ pins', s.heap.get? p.1 = some p.2 /\ H p.1 = none /\ p.1 ≠ X.env.locals /\ p.1 ∉ X.fs /\ ∀ v, p.2.data ≠ .cell v) : Inv X pins' σ H s :=
 ⟨I.ok, I.os, I.bare, I.base, I.loc, I.cell, I.free, I.freeC, λ p hp => (zzJ.mp hp).elim (λ z => I.pin p (zzM _ z)) (h p), I.hok, I.len⟩
theorem zfV {N : List Str} (hN : N.Nodup) {i j : Nat} {x : Str} (a : N[i]? = some x) (b : N[j]? = some x) : i = j := by
 obtain ⟨h1, e1⟩ := zzD.mp a
 obtain ⟨h2, e2⟩ := zzD.mp b
 exact (List.getElem_inj hN).mp (e1.trans e2.symm)
theorem zen {M : Model} {A : Around} {E : Value -> Shared -> Prop} {i : Nat} {x : Str} {v : V} {u : Value} {Q : Unit -> Shared -> Prop} (I : Inv X pins σ H s) (hN : X.N.Nodup) (hi : X.N[i]? = some x) (hx : Loc X.env.scope x) (r : RelV v u)
 (h : ∀ s', Inv X pins (σ.set i (some v)) H s' -> (∃ a, Heap.SameBut a s.heap s'.heap /\ (a = X.env.locals \/ X.env.cells.lookup x = some a)) -> Q () s') (hf : X.fn x = true \/ X.env.scope.names.lookup x = some .local := by first | exact .inl rfl | exact .inr rfl | assumption) : wpAny M A (storeName X.env x u) Q E s := by
 obtain ⟨m, hn, hl⟩ := id I.loc
 have hcls : (X.env.scope.kind == .class || (X.env.scope.kind == .module && X.env.locals != X.env.globals)) = false := by rw [I.ok.kind]; rfl
 have hiσ : i < σ.length := by rw [I.len]; exact (zzD.mp hi).1
 have cne := I.cne
 have tracked : ∀ {a : Addr} {h' : Heap}, (∃ o, s.heap.get? a = some o /\ H a = none) -> Heap.SameBut a s.heap h' -> HOk X.prog X.w H h' := λ {a h'} ha hs b ob e => by
  obtain ⟨_, _, hfree⟩ := ha
  refine (I.hok b ob e).stay (λ c w' hc q => (hs.2 c ?_).trans q) (λ _ q => q) λ _ _ q => q
  rintro rfl
  rcases hc with rfl | hc
  · rw [hfree] at e; cases e
  · rw [hfree] at hc; cases hc
 rcases hx with hk | hk
 · refine wpAny_storeName_local hk hn (λ h' hn' hs => ?_) hcls
   obtain ⟨oL, _, _, hoL, _⟩ := id hn
   refine h _ ⟨I.ok, I.os, I.bare, ⟨λ b o e n hb hx => ?_, λ b o e n hb hx => ?_, I.base.free, λ b o e hx => ?_, I.base.tups, I.base.frzs, I.base.tbls⟩, ⟨_, hn', λ j y v' e1 e2 e3 => ?_⟩, λ y c e => ?_, I.free, I.freeC, λ p hp => ?_, tracked ⟨oL, hoL, I.free⟩ hs, by simpa using I.len⟩ ⟨_, hs, .inl rfl⟩
   · exact (hs.2 b (zzN (zzH (Heap.lt_size e) I.ok.above))).trans (I.base.keep b o e n hb hx)
   · obtain ⟨sl, e1⟩ := I.base.slot b o e n hb hx
     exact ⟨sl, (hs.2 b (zzN (zzH (Heap.lt_size e) I.ok.above))).trans e1⟩
   · obtain ⟨o', e1⟩ := I.base.there b o e hx
     exact ⟨o', (hs.2 b (zzN (zzH (Heap.lt_size e) I.ok.above))).trans e1⟩
   · by_cases hj : j = i
     · subst hj
       rw [hi] at e1; cases e1
       rw [List.getElem?_set_self hiσ] at e2
       cases e2
       exact ⟨u, r, .inl ⟨hk, by simp⟩⟩
     · rw [zzV (Ne.symm hj)] at e2
       obtain ⟨u', r', q⟩ := hl j y v' e1 e2 e3
       refine ⟨u', r', ?_⟩
       rcases q with ⟨k, e⟩ | ⟨k, c, e, z⟩
       · refine .inl ⟨k, ?_⟩
         have : y ≠ x := λ e => hj (zfV hN e1 (e ▸ hi))
         simp [this, e]
       · exact .inr ⟨k, c, e, z.sameBut hs (cne y c e)⟩
   · obtain ⟨w', z⟩ := I.cell y c e
     exact ⟨w', z.sameBut hs (cne y c e)⟩
   · obtain ⟨e, n, ne, nf, d⟩ := I.pin p hp
     exact ⟨(hs.2 p.1 ne).trans e, n, ne, nf, d⟩
 · have hfn : X.fn x = true := by
    rcases hf with z | z
    · exact z
    · rw [z] at hk; cases hk
   obtain ⟨c, hc⟩ := I.ok.has x (.inl hk)
   obtain ⟨w', z⟩ := I.cell x c hc
   refine wpAny_storeName_cell I.ok.kind hk hc z (λ h' hc' hs => ?_)
   obtain ⟨oc, hoc, hocd⟩ := id z
   refine h { s with heap := h' } ⟨I.ok, I.os, I.bare, ⟨λ b o e n hb hx => ?_, λ b o e n hb hx => ?_, I.base.free, λ b o e hx => ?_, I.base.tups, I.base.frzs, I.base.tbls⟩, ⟨m, hn.sameBut hs (Ne.symm (cne x c hc)), λ j y v' e1 e2 e3 => ?_⟩, λ y c' e => ?_, I.free, I.freeC, λ p hp => ?_, tracked ⟨oc, hoc, I.freeC x c hc⟩ hs, by simpa using I.len⟩ ⟨c, hs, .inr hc⟩
   · exact (hs.2 b (zzN (zzH (Heap.lt_size e) (I.ok.cab x c hfn hc)))).trans (I.base.keep b o e n hb hx)
   · obtain ⟨sl, e1⟩ := I.base.slot b o e n hb hx
     exact ⟨sl, (hs.2 b (zzN (zzH (Heap.lt_size e) (I.ok.cab x c hfn hc)))).trans e1⟩
   · obtain ⟨o', e1⟩ := I.base.there b o e hx
     exact ⟨o', (hs.2 b (zzN (zzH (Heap.lt_size e) (I.ok.cab x c hfn hc)))).trans e1⟩
   · by_cases hj : j = i
     · subst hj
       rw [hi] at e1; cases e1
       rw [List.getElem?_set_self hiσ] at e2
       cases e2
       exact ⟨u, r, .inr ⟨.inl hk, c, hc, hc'⟩⟩
     · rw [zzV (Ne.symm hj)] at e2
       obtain ⟨u', r', q⟩ := hl j y v' e1 e2 e3
       refine ⟨u', r', ?_⟩
       rcases q with q | ⟨k, c', e, z'⟩
       · exact .inl q
       · refine .inr ⟨k, c', e, z'.sameBut hs ?_⟩
         rintro rfl
         exact hj (zfV hN e1 (I.ok.inj _ _ _ e hc ▸ hi))
   · by_cases hcc : c' = c
     · subst hcc; exact ⟨_, hc'⟩
     · obtain ⟨w2, z2⟩ := I.cell y c' e
       exact ⟨w2, z2.sameBut hs hcc⟩
   · obtain ⟨e, n, ne, nf, d⟩ := I.pin p hp
     refine ⟨(hs.2 p.1 ?_).trans e, n, ne, nf, d⟩
     intro q
     rw [q, hoc] at e
     have q' : oc = p.2 := Option.some.inj e
     exact d w' (by rw [<- q']; exact hocd)
theorem Vc (I : Inv X pins σ H s) (hN : X.N.Nodup) (hi : X.N[i]? = some x) (hx : Loc X.env.scope x) (r : RelV v u)
 (h : ∀ s', Inv X pins (σ.set i (some v)) H s' -> Q () s') (hf : X.fn x = true \/ X.env.scope.names.lookup x = some .local := by first | exact .inl rfl | exact .inr rfl | assumption) : wpAny M A (storeName X.env x u) Q E s :=
 zen I hN hi hx r (λ s' I' _ => h s' I') hf
theorem Inv.call' (I : Inv X pins σ H s) (ho : s'.os = s.os) (u : Un (frs X.stack) ch H H' s.heap s'.heap) (hok : HOk X.prog X.w H' s'.heap) (hg : AllBare s'.gens)
 (hch : ∀ b ∈ ch, (b ∈ X.ex \/ X.s₀.heap.objs.size <= b) /\ b ≠ X.env.locals /\ (∀ x c, X.env.cells.lookup x = some c -> c ≠ b) /\ ∀ p ∈ X.pn ++ pins, p.1 ≠ b) : Inv X pins σ H' s' := by
 obtain ⟨h', g', d', t', o'⟩ := s'
 have e : o' = s.os := ho
 subst e
 exact I.call (g' := g') (t' := t') (d' := d') u hok hg hch
end
abbrev XK := Value -> Option Addr -> Hp -> Prop
abbrev St := List (Option V)
abbrev VK := V -> Hp -> Prop
abbrev TE := St -> Hp -> VK -> Prop
abbrev TT := St -> Hp -> (Bool -> Hp -> Prop) -> Prop
abbrev TA := St -> Hp -> (List V -> Hp -> Prop) -> Prop
structure Ends where
 nx : St -> Hp -> Prop
 rt : VK
 bk : St -> Hp -> Prop := λ _ _ => False
 ct : St -> Hp -> Prop := λ _ _ => False
abbrev TS := Ends -> St -> Hp -> Prop
def EP (X : Cx) (pins : List (Addr × Obj)) (σ : St) (Q : VK) (u : Value) (s' : Shared) : Prop := ∃ v H', Inv X pins σ H' s' /\ RelV v u /\ Q v H'
def TP (X : Cx) (pins : List (Addr × Obj)) (σ : St) (Q : Bool -> Hp -> Prop) (b : Bool) (s' : Shared) : Prop := ∃ H', Inv X pins σ H' s' /\ Q b H'
def AP (X : Cx) (pins : List (Addr × Obj)) (σ : St) (Q : List V -> Hp -> Prop) (us : List Value) (s' : Shared) : Prop := ∃ vs H', Inv X pins σ H' s' /\ Vals vs us /\ Q vs H'
def SP (X : Cx) (pins : List (Addr × Obj)) (D : Ends) (f : Flow) (s' : Shared) : Prop :=
 match f with
 | .next => ∃ σ' H', Inv X pins σ' H' s' /\ D.nx σ' H'
 | .brk => ∃ σ' H', Inv X pins σ' H' s' /\ D.bk σ' H'
 | .cont => ∃ σ' H', Inv X pins σ' H' s' /\ D.ct σ' H'
 | .ret u => ∃ v σ' H', Inv X pins σ' H' s' /\ RelV v u /\ D.rt v H'
def PE (X : Cx) (e : Expr) (t : TE) : Prop :=
 ∀ (pins : List (Addr × Obj)) (s : Shared) (σ : St) (H : Hp) (Q : VK), Inv X pins σ H s -> t σ H Q -> wpAny (model X.prog X.w) X.A (eval e X.env) (EP X pins σ Q) X.xe s
def PT (X : Cx) (e : Expr) (t : TT) : Prop :=
 ∀ (pins : List (Addr × Obj)) (s : Shared) (σ : St) (H : Hp) (Q : Bool -> Hp -> Prop), Inv X pins σ H s -> t σ H Q -> wpAny (model X.prog X.w) X.A (isTrue e X.env (eval e X.env)) (TP X pins σ Q) X.xe s
def PW (X : Cx) (e : Expr) (t : TT) : Prop :=
 ∀ (whole : Sem Value) (pins : List (Addr × Obj)) (s : Shared) (σ : St) (H : Hp) (Q : Bool -> Hp -> Prop), Inv X pins σ H s -> t σ H Q -> wpAny (model X.prog X.w) X.A (isTrue e X.env whole) (TP X pins σ Q) X.xe s
theorem PW.pt (h : PW X e t) : PT X e t := h _
def PA (X : Cx) (es : List Expr) (t : TA) : Prop :=
 ∀ (pos : Pos) (pins : List (Addr × Obj)) (s : Shared) (σ : St) (H : Hp) (Q : List V -> Hp -> Prop), Inv X pins σ H s -> t σ H Q -> wpAny (model X.prog X.w) X.A (spliced (backTo pos (starEach es X.env))) (AP X pins σ Q) X.xe s
def PS (X : Cx) (st : Stmt) (t : TS) : Prop :=
 ∀ (pins : List (Addr × Obj)) (s : Shared) (σ : St) (H : Hp) (D : Ends), Inv X pins σ H s -> t D σ H -> wpAny (model X.prog X.w) X.A (exec st X.env) (SP X pins D) X.xe s
def PSs (X : Cx) (st : List Stmt) (t : TS) : Prop :=
 ∀ (pins : List (Addr × Obj)) (s : Shared) (σ : St) (H : Hp) (D : Ends), Inv X pins σ H s -> t D σ H -> wpAny (model X.prog X.w) X.A (execs st X.env) (SP X pins D) X.xe s
theorem thn (h : wpAny M A t Q E s) (hQ : ∀ a s, Q a s -> Q' a s) : wpAny M A t Q' E s := wpAny_mono h hQ λ _ _ x => x
end L2
namespace L2
open PySem PySem.Spec PyProof.Rows
section
variable {X : Cx}
def zby (i : Nat) : TE := λ σ H Q => ∃ v, σ[i]? = some (some v) /\ Q v H
def tC (v : V) : TE := λ _ H Q => Q v H
theorem zkg (hN : X.N[i]? = some x) (hv : Vis X.env.scope x) (hd : (x == ("__debug__" : Str)) = false := by decide) (hcd : (x == ("__classdict__" : Str)) = false := by decide) : PE X (.Name x pos) (zby i) := by
 intro pins s σ H Q I h
 obtain ⟨v, e, h⟩ := h
 obtain ⟨m, hn, hl⟩ := I.loc
 obtain ⟨u, r, l⟩ := hl i x v hN e hv
 have fin : EP X pins σ Q u s := ⟨v, H, I, r, h⟩
 rcases l with ⟨hk, hm⟩ | ⟨hk, c, hc, hcell⟩
 · exact wpAny_Name (wpAny_loadName_local I.ok.kind hk hn hm fin) hd
 · rcases hk with hk | hk
   · exact wpAny_Name (wpAny_loadName_cell I.ok.kind hk hc hcell fin) hd
   · exact wpAny_Name (wpAny_loadName_free I.ok.kind hk hc hcell fin hcd) hd
theorem zjW : PE X (.Constant (.int i) j pos) (tC (.int i)) := λ _ _ _ H _ I h => wpAny_Constant_int ⟨.int i, H, I.tok _, ⟨_, rfl⟩, h⟩
theorem zqp : PE X (.Constant (.bool b) j pos) (tC (.bl b)) := λ _ _ _ H _ I h => Constant_bool ⟨.bl b, H, I, rfl, h⟩
theorem zpD : PE X (.Constant .none j pos) (tC .non) := λ _ _ _ H _ I h => Constant_none ⟨.non, H, I, rfl, h⟩
theorem zpd : PE X (.Constant (.str x) j pos) (tC (.str x)) := λ _ _ _ H _ I h => Calls.Constant_str ⟨.str x, H, I.tok _, ⟨_, rfl⟩, h⟩
def Gl (X : Cx) (x : Str) : Prop := X.env.kindOf x = some .globalImplicit
theorem zmo (I : Inv X pins σ H s) (hg : Gl X x) (hm : X.mg x = some u) (h : Q u s)
 (hd : (x == ("__debug__" : Str)) = false := by decide) : wpAny (model X.prog X.w) X.A (eval (.Name x pos) X.env) Q E s :=
 Calls.Name_function_global I.ok.kind hg (Calls.loadGlobal_global (by rw [I.ok.glob]; exact I.mod.glob.keeps I.bk) hm h) hd
theorem zap (I : Inv X pins σ H s) (hg : Gl X x) (hm : X.mg x = none) (hv : bootBuiltins x = some u) (h : Q u s)
 (hn : x ≠ "__name__" := by decide) (hd : (x == ("__debug__" : Str)) = false := by decide) : wpAny (model X.prog X.w) X.A (eval (.Name x pos) X.env) Q E s := by
 obtain ⟨mb, h1, h2⟩ := I.mod.blt
 exact Calls.Name_function_global I.ok.kind hg (Calls.loadGlobal_builtin (by rw [I.ok.glob]; exact I.mod.glob.keeps I.bk) hm (by rw [I.ok.blt]; exact h1.keeps I.bk) ((h2 x hn).trans hv) h) hd
theorem zmp (hg : Gl X x) (hm : X.mg x = none) (hv : bootBuiltins x = some u) (r : RelV v u) (hn : x ≠ "__name__" := by decide) (hd : (x == ("__debug__" : Str)) = false := by decide) : PE X (.Name x pos) (tC v) :=
 λ _ _ _ H _ I h => zap I hg hm hv ⟨v, H, I, r, h⟩ hn hd
variable {a b : Expr} {ta tb : TE} {pos : Pos}
variable {tA tB' : TT} {rest : List Expr}
def zrY (t u : TT) : TT := λ σ H Q => t σ H λ c H1 => if c = true then u σ H1 Q else Q false H1
def tOr (t u : TT) : TT := λ σ H Q => t σ H λ c H1 => if c = true then Q true H1 else u σ H1 Q
def zrI (t : TT) : TT := λ σ H Q => t σ H λ c H1 => Q (!c) H1
theorem znk (ha : PT X a tA) : PW X (.BoolOp .And [a] pos) tA := by
 intro wh pins s σ H Q I h
 refine isTrue_and (thn (ha pins s σ H Q I h) λ c s1 e => ?_)
 cases c with
 | true => exact isTrue_and_nil e
 | false => exact e
theorem zpR (ha : PT X a tA) : PW X (.BoolOp .Or [a] pos) tA := by
 intro wh pins s σ H Q I h
 refine isTrue_or (thn (ha pins s σ H Q I h) λ c s1 e => ?_)
 cases c with
 | false => exact isTrue_or_nil e
 | true => exact e
theorem zob (ha : PT X a tA) (hb : PW X (.BoolOp .And (b :: rest) pos) tB') : PW X (.BoolOp .And (a :: b :: rest) pos) (zrY tA tB') := by
 intro wh pins s σ H Q I h
 refine isTrue_and (thn (ha pins s σ H _ I h) λ c s1 ⟨H1, I1, q1⟩ => ?_)
 cases c with
 | true => exact hb wh pins s1 σ H1 Q I1 q1
 | false => exact ⟨H1, I1, q1⟩
theorem zqE (ha : PT X a tA) (hb : PW X (.BoolOp .Or (b :: rest) pos) tB') : PW X (.BoolOp .Or (a :: b :: rest) pos) (tOr tA tB') := by
 intro wh pins s σ H Q I h
 refine isTrue_or (thn (ha pins s σ H _ I h) λ c s1 ⟨H1, I1, q1⟩ => ?_)
 cases c with
 | true => exact ⟨H1, I1, q1⟩
 | false => exact hb wh pins s1 σ H1 Q I1 q1
theorem zoz (ha : PT X a tA) : PT X (.UnaryOp .Not a pos) (zrI tA) := by
 intro pins s σ H Q I h
 exact isTrue_not (ha pins s σ H (λ c H1 => Q (!c) H1) I h)
def zqA (ta tb : TE) : TE := λ σ H Q => ta σ H λ x H1 => ∃ c, x = .bl c /\ if c = true then tb σ H1 Q else Q (.bl false) H1
def zqv (ta : TE) : TE := λ σ H Q => ta σ H λ x H1 => ∃ c, x = .bl c /\ Q (.bl (!c)) H1
theorem zoX (h : PE X a t) : PE X (.BoolOp op [a] pos) t := λ pins s σ H Q I hw => BoolOp_one (h pins s σ H Q I hw)
theorem zos (ha : PE X a ta) (hb : PE X (.BoolOp .And (b :: rest) pos) tb) : PE X (.BoolOp .And (a :: b :: rest) pos) (zqA ta tb) := by
 intro pins s σ H Q I h
 refine BoolOp_and (thn (ha pins s σ H _ I h) λ v s1 ⟨x, H1, I1, r1, q1⟩ => ?_)
 obtain ⟨c, rfl, q1⟩ := q1
 cases r1
 refine wpAny_truthy_bool ?_
 cases c with
 | true => exact hb pins s1 σ H1 Q I1 q1
 | false => exact ⟨.bl false, H1, I1, rfl, q1⟩
theorem zpf (ha : PE X a ta) : PE X (.UnaryOp .Not a pos) (zqv ta) := by
 intro pins s σ H Q I h
 refine UnaryOp_ (thn (ha pins s σ H _ I h) λ v s1 ⟨x, H1, I1, r1, q1⟩ => ?_)
 obtain ⟨c, rfl, q1⟩ := q1
 cases r1
 exact not_of (wpAny_truthy_bool ⟨.bl (!c), H1, I1, rfl, q1⟩)
end
end L2
namespace L2
open PySem PySem.Spec PyProof.Rows
def SqL (K : zC) (H : Hp) (a : Addr) (xs : List V) : Prop :=
 Rd H a (.lst xs) \/
  ∃ (o : Obj) (its : Array Value) (n : Nat), K.lookup a = some o /\ o.cls = .type "list" /\ o.dict = none /\ o.data = .seq its n /\ its.size <= sizeLine /\ Vals xs its.toList
def RdL (K : zC) (H : Hp) (a : Addr) (xs : List V) : Prop :=
 Rd H a (.lst xs) \/ ∃ (its : Array Value) (n : Nat), K.lookup a = some { cls := .type "list", data := .seq its n } /\ its.size <= sizeLine /\ Vals xs its.toList
def SqT (K : zC) (H : Hp) (a : Addr) (xs : List V) : Prop :=
 Rd H a (.tup xs) \/
  ∃ (o : Obj) (its : Array Value) (n : Nat), K.lookup a = some o /\ o.cls = .type "tuple" /\ o.data = .seq its n /\ its.size <= sizeLine /\ Vals xs its.toList
def zrt : Value -> Option V
 | .none => some .non
 | .bool b => some (.bl b)
 | .int i _ => some (.int i)
 | .str x _ => some (.str x)
 | .bytes b _ => some (.byt b)
 | .float b _ => some (.flt b)
 | .ref a => some (.ref a)
 | .type n => some (.ty n)
 | _ => none
theorem RelV.abs (r : RelV x u) : zrt u = some x := by
 cases x with
 | non => cases r; rfl
 | bl _ => cases r; rfl
 | int _ => obtain ⟨t, rfl⟩ := r; rfl
 | str _ => obtain ⟨t, rfl⟩ := r; rfl
 | byt _ => obtain ⟨t, rfl⟩ := r; rfl
 | flt _ => obtain ⟨t, rfl⟩ := r; rfl
 | ref _ => cases r; rfl
 | ty _ => cases r; rfl
theorem RelV.inj (r : RelV x u) (q : RelV y u) : x = y := Option.some.inj (r.abs.symm.trans q.abs)
theorem Vals.inj : ∀ {xs ys : List V} {us : List Value}, Vals xs us -> Vals ys us -> xs = ys
 | _, _, _, .nil, .nil => rfl
 | _, _, _, .cons r t, .cons r' t' => by rw [r.inj r', Vals.inj t t']
section
variable {X : Cx} {pins : List (Addr × Obj)} {σ : St} {H : Hp} {s : Shared} {a : Addr} {xs ys : List V}
theorem Inv.list (I : Inv X pins σ H s) (h : SqL X.K H a xs) : ∃ its : List Value, Vals xs its /\ PlainL s.heap a its.toArray /\ xs.length <= sizeLine := by
 rcases h with h | ⟨o, its, n, hk, hc, hd, hs, hz, r⟩
 · obtain ⟨z, its, n, r, e⟩ := h.ok I.hok
   exact ⟨its, r, ⟨_, n, e, rfl, rfl, rfl⟩, z⟩
 · refine ⟨its.toList, r, ⟨o, n, I.kIn a o hk, hc, hd, by simpa using hs⟩, ?_⟩
   have e := r.length
   simp only [Array.length_toList] at e
   omega
theorem Inv.tuple (I : Inv X pins σ H s) (h : SqT X.K H a xs) : ∃ its : List Value, Vals xs its /\ IsTup s.heap a its.toArray /\ xs.length <= sizeLine := by
 rcases h with h | ⟨o, its, n, hk, hc, hs, hz, r⟩
 · obtain ⟨z, its, r, p⟩ := h.ok I.hok
   exact ⟨its, r, p, z⟩
 · refine ⟨its.toList, r, ⟨o, I.kIn a o hk, hc, n, by simpa using hs⟩, ?_⟩
   have e := r.length
   simp only [Array.length_toList] at e
   omega
theorem Inv.list_inj (I : Inv X pins σ H s) (h : SqL X.K H a xs) (h' : SqL X.K H a ys) : xs = ys := by
 obtain ⟨its, r, ⟨o, n, e, _, _, d⟩, _⟩ := I.list h
 obtain ⟨its', r', ⟨o', n', e', _, _, d'⟩, _⟩ := I.list h'
 rw [e] at e'; cases e'
 rw [d] at d'
 injection d' with d1 _
 have : its = its' := by simpa using congrArg Array.toList d1
 subst this
 exact r.inj r'
theorem Inv.tuple_inj (I : Inv X pins σ H s) (h : SqT X.K H a xs) (h' : SqT X.K H a ys) : xs = ys := by
 obtain ⟨its, r, ⟨o, e, _, n, d⟩, _⟩ := I.tuple h
 obtain ⟨its', r', ⟨o', e', _, n', d'⟩, _⟩ := I.tuple h'
 rw [e] at e'; cases e'
 rw [d] at d'
 injection d' with d1 _
 have : its = its' := by simpa using congrArg Array.toList d1
 subst this
 exact r.inj r'
end
abbrev Cx.wish (X : Cx) (E : Value -> Shared -> Prop) : Cx := { X with xe := E }
abbrev Cx.nox (X : Cx) : Cx := X.wish λ _ _ => False
theorem Cx.Ok.wish {X : Cx} (ok : X.Ok) (E : Value -> Shared -> Prop) : (X.wish E).Ok :=
 ⟨ok.mod, ok.kind, ok.glob, ok.blt, ok.above, ok.inj, ok.has, ok.cab, ok.hd, ok.frames, ok.stk, ok.exf, ok.bs, ok.bsz, ok.noex, ok.exfs, ok.funs, ok.frf⟩
theorem Cx.Ok.unwish {X : Cx} {E : Value -> Shared -> Prop} (ok : (X.wish E).Ok) : X.Ok :=
 ⟨ok.mod, ok.kind, ok.glob, ok.blt, ok.above, ok.inj, ok.has, ok.cab, ok.hd, ok.frames, ok.stk, ok.exf, ok.bs, ok.bsz, ok.noex, ok.exfs, ok.funs, ok.frf⟩
section
variable {X : Cx} {pins : List (Addr × Obj)} {σ : St} {H : Hp} {s : Shared} {E : Value -> Shared -> Prop}
theorem Inv.wish (I : Inv X pins σ H s) (E : Value -> Shared -> Prop) : Inv (X.wish E) pins σ H s := ⟨I.ok.wish E, I.os, I.bare, I.base, I.loc, I.cell, I.free, I.freeC, I.pin, I.hok, I.len⟩
theorem Inv.unwish (I : Inv (X.wish E) pins σ H s) : Inv X pins σ H s := ⟨I.ok.unwish, I.os, I.bare, I.base, I.loc, I.cell, I.free, I.freeC, I.pin, I.hok, I.len⟩
theorem SP.unwish (h : SP (X.wish E) pins D f s') : SP X pins D f s' := by
 cases f with
 | next => obtain ⟨σ', H', I, q⟩ := h; exact ⟨σ', H', I.unwish, q⟩
 | brk => obtain ⟨σ', H', I, q⟩ := h; exact ⟨σ', H', I.unwish, q⟩
 | cont => obtain ⟨σ', H', I, q⟩ := h; exact ⟨σ', H', I.unwish, q⟩
 | ret u => obtain ⟨v, σ', H', I, r, q⟩ := h; exact ⟨v, σ', H', I.unwish, r, q⟩
theorem PSs.nox {st : List Stmt} {t : TS} (h : PSs X.nox st t) : PSs X st t := λ pins s σ H D I hw =>
 wpAny_mono (h pins s σ H D (I.wish _) hw) (λ _ _ q => q.unwish) λ _ _ z => False.elim z
end
section
variable {X : Cx} {st : Stmt} {rest : List Stmt} {t u : TS} {e : Expr} {te : TE} {pos : Pos}
def zqN : TS := λ D σ H => D.nx σ H
def zrr (t u : TS) : TS := λ D σ H => t { D with nx := u D } σ H
theorem ziC : PSs X [] zqN := λ _ _ σ H _ I h => wpAny_execs_nil ⟨σ, H, I, h⟩
theorem zgg (h1 : PS X st t) (h2 : PSs X rest u) : PSs X (st :: rest) (zrr t u) := by
 intro pins s σ H D I h
 refine wpAny_execs_cons (thn (h1 pins s σ H { D with nx := u D } I h) λ f s1 q => ?_)
 cases f with
 | next =>
  obtain ⟨σ', H', I', q⟩ := q
  exact h2 pins s1 σ' H' D I' q
 | ret v => exact q
 | brk => exact q
 | cont => exact q
theorem zia (h1 : PS X st t) : PSs X [st] t := by
 intro pins s σ H D I h
 refine wpAny_execs_cons (thn (h1 pins s σ H D I h) λ f s1 q => ?_)
 cases f with
 | next => exact wpAny_execs_nil q
 | ret v => exact q
 | brk => exact q
 | cont => exact q
theorem Inv.quiet (I : Inv X pins σ H s) : interactive X.env = false := by simp [interactive, I.ok.kind]
def zqr (te : TE) : TS := λ D σ H => te σ H λ _ H1 => D.nx σ H1
theorem zfA (he : PE X e te) (hs : swapsWith e none pos.line X.env = pure false := by rfl) : PS X (.Expr e pos) (zqr te) := by
 intro pins s σ H D I h
 exact wpAny_Expr_any (thn (he pins s σ H _ I h) λ v s1 ⟨x, H1, I1, r1, q1⟩ => ⟨σ, H1, I1, q1⟩) I.quiet hs
def zrR (te : TE) : TS := λ D σ H => te σ H D.rt
theorem zqa (he : PE X e te) : PS X (.Return (some e) pos) (zrR te) := by
 intro pins s σ H D I h
 exact wpAny_Return_some (thn (he pins s σ H _ I h) λ v s1 ⟨x, H1, I1, r1, q1⟩ => ⟨x, σ, H1, I1, r1, q1⟩)
def zrw (c : TT) (t u : TS) : TS := λ D σ H => c σ H λ b H1 => if b = true then t D σ H1 else u D σ H1
theorem znR (hc : PT X c tc) (ha : PSs X a t) (hb : PSs X b u) : PS X (.If c a b pos) (zrw tc t u) := by
 intro pins s σ H D I h
 refine wpAny_If (thn (hc pins s σ H _ I h) λ d s1 ⟨H1, I1, q1⟩ => ?_)
 cases d with
 | true => exact ha pins s1 σ H1 D I1 q1
 | false => exact hb pins s1 σ H1 D I1 q1
end
abbrev TG := V -> St -> Hp -> (St -> Hp -> Prop) -> Prop
abbrev TGs := List V -> St -> Hp -> (St -> Hp -> Prop) -> Prop
def PG (X : Cx) (target : Expr) (t : TG) : Prop :=
 ∀ (pins : List (Addr × Obj)) (s : Shared) (σ : St) (H : Hp) (v : V) (u : Value) (Q : St -> Hp -> Prop), Inv X pins σ H s -> RelV v u -> t v σ H Q ->
  wpAny (model X.prog X.w) X.A (assign target X.env u) (λ _ s' => ∃ σ' H', Inv X pins σ' H' s' /\ Q σ' H') X.xe s
def PGs (X : Cx) (ts : List Expr) (t : TGs) : Prop :=
 ∀ (pins : List (Addr × Obj)) (s : Shared) (σ : St) (H : Hp) (vs : List V) (us : List Value) (Q : St -> Hp -> Prop), Inv X pins σ H s -> Vals vs us -> t vs σ H Q ->
  wpAny (model X.prog X.w) X.A (assignInOrder ((assignEach ts X.env).map (·.2)) us) (λ _ s' => ∃ σ' H', Inv X pins σ' H' s' /\ Q σ' H') X.xe s
abbrev zqX := V -> V -> V -> Hp -> (Hp -> Prop) -> Prop
def zqm (X : Cx) (t : zqX) : Prop :=
 ∀ (pins : List (Addr × Obj)) (s : Shared) (σ : St) (H : Hp) (o i v : V) (ov iv u : Value) (Q : Hp -> Prop), Inv X pins σ H s -> RelV o ov -> RelV i iv -> RelV v u -> t o i v H Q ->
  wpAny (model X.prog X.w) X.A (setItem ov iv u) (λ _ s' => ∃ H', Inv X pins σ H' s' /\ Q H') X.xe s
abbrev TIp := V -> V -> Hp -> VK -> Prop
def PIp (X : Cx) (op : Operator) (t : TIp) : Prop :=
 ∀ (pins : List (Addr × Obj)) (s : Shared) (σ : St) (H : Hp) (x y : V) (v u : Value) (Q : VK), Inv X pins σ H s -> RelV x v -> RelV y u -> t x y H Q ->
  wpAny (model X.prog X.w) X.A (inplaceOp op v u) (EP X pins σ Q) X.xe s
section
variable {X : Cx} {pos : Pos}
def zgL (i : Nat) : TG := λ v σ H Q => Q (σ.set i (some v)) H
theorem zmS (hN : X.N.Nodup) (hi : X.N[i]? = some x) (hx : Loc X.env.scope x) (hf : X.fn x = true \/ X.env.scope.names.lookup x = some .local := by first | exact .inl rfl | exact .inr rfl | assumption) : PG X (.Name x pos) (zgL i) := by
 intro pins s σ H v u Q I r h
 exact wpAny_assign_Name (Vc I hN hi hx r (λ s' I' => ⟨_, H, I', h⟩) hf)
def zrm : TGs := λ vs σ H Q => vs = [] /\ Q σ H
def zrb (t : TG) (u : TGs) : TGs := λ vs σ H Q => ∃ v r, vs = v :: r /\ t v σ H λ σ' H' => u r σ' H' Q
theorem zni : PGs X [] zrm := by
 intro pins s σ H vs us Q I r h
 obtain ⟨e, h⟩ := h
 subst e
 cases r
 exact assignInOrder_nil ⟨σ, H, I, h⟩
theorem zlF (h1 : PG X e t) (h2 : PGs X es u)
 (hs : (assignEach (e :: es) X.env).map (·.2) = assign e X.env :: (assignEach es X.env).map (·.2) := by rfl) : PGs X (e :: es) (zrb t u) := by
 intro pins s σ H vs us Q I r h
 obtain ⟨v, vr, e1, h⟩ := h
 subst e1
 cases r with
 | cons r rr =>
  rw [hs]
  refine assignInOrder_cons (thn (h1 pins s σ H _ _ _ I r h) λ _ s1 ⟨σ1, H1, I1, q1⟩ => ?_)
  exact h2 pins s1 σ1 H1 _ _ Q I1 rr q1
def zrP (K : zC) (n : Nat) (t : TGs) : TG := λ v σ H Q => ∃ a xs, v = .ref a /\ SqT K H a xs /\ xs.length = n /\ t xs σ H Q
theorem zoL (hc : X.calm = true) (h : PGs X es t)
 (hn : (assignEach es X.env).length = n := by rfl) (hst : (assignEach es X.env).findIdx? (·.1) = none := by rfl) : PG X (.Tuple es k pos) (zrP X.K n t) := by
 intro pins s σ H v u Q I r hw
 obtain ⟨a, xs, e1, hq, hl, hw⟩ := hw
 subst e1
 cases r
 obtain ⟨its, rv, ht, hz⟩ := I.tuple hq
 refine assign_Tuple_tuple (I.ok.hd hc) ht (by simp [hn, <- hl, rv.length]) hst λ h' hx => ?_
 have I1 : Inv X pins σ H { s with heap := h' } := I.kept (t' := s.toks) λ b o e => hx b o (zzN (Heap.lt_size e)) e
 exact h pins _ σ H xs _ Q I1 (by simpa using rv) hw
def zrB (to ti : TE) (t : zqX) : TG := λ v σ H Q => to σ H λ o H1 => ti σ H1 λ i H2 => t o i v H2 λ H3 => Q σ H3
theorem zoe (ho : PE X o to) (hi : PE X i ti) (hs : zqm X t)
 (ha : ∀ v, assign (.Subscript o i pos) X.env v = (do
  let ov <- holding [v] (eval o X.env)
  let iv <- holding [v, ov] (eval i X.env)
  standAt pos
  holding [v, ov, iv] (setItem ov iv v)
  release [v, ov, iv] []) := by intro _; rfl) : PG X (.Subscript o i pos) (zrB to ti t) := by
 intro pins s σ H v u Q I r h
 rw [ha]
 refine wpAny_bind (wpAny_holding (thn (ho pins s σ H _ I h) λ ov s1 ⟨x, H1, I1, r1, q1⟩ => ?_))
 refine wpAny_bind (wpAny_holding (thn (hi pins s1 σ H1 _ I1 q1) λ iv s2 ⟨y, H2, I2, r2, q2⟩ => ?_))
 refine wpAny_bind (wpAny_standAt (wpAny_bind (wpAny_holding (thn (hs pins s2 σ H2 x y v ov iv u _ I2 r1 r2 r q2) λ _ s3 ⟨H3, I3, q3⟩ => ?_))))
 exact wpAny_release ⟨σ, H3, I3, q3⟩
def zpq (te : TE) (g : TG) : TS := λ D σ H => te σ H λ x H1 => g x σ H1 D.nx
theorem zkc (he : PE X e te) (hg : PG X tg g) (hs : swapsWithSole [tg] e pos.line X.env = pure false := by rfl) (hw : swappedStores [tg] e X.env = pure none := by rfl)
 (h1 : (assignEach [tg] X.env).map (·.2) = [assign tg X.env] := by rfl) : PS X (.Assign [tg] e pos) (zpq te g) := by
 intro pins s σ H D I h
 refine wpAny_Assign_stores (thn (he pins s σ H _ I h) λ v s1 ⟨x, H1, I1, r1, q1⟩ => ?_) hs hw
 rw [h1]
 exact thn (hg pins s1 σ H1 x v _ I1 r1 q1) λ _ s2 q => q
theorem zls (hN : X.N.Nodup) (hi : X.N[i]? = some x) (hx : Loc X.env.scope x) (he : PE X e te) (hs : swapsWith e (some (.Name x pos')) pos.line X.env = pure false := by rfl) (hf : X.fn x = true \/ X.env.scope.names.lookup x = some .local := by first | exact .inl rfl | exact .inr rfl | assumption) :
 PS X (.Assign [.Name x pos'] e pos) (zpq te (zgL i)) := by
 intro pins s σ H D I h
 refine wpAny_Assign_Name (thn (he pins s σ H _ I h) λ v s1 ⟨y, H1, I1, r1, q1⟩ => ?_) hs
 exact Vc I1 hN hi hx r1 (λ s2 I2 => ⟨_, H1, I2, q1⟩) hf
def zrV (i j : Nat) (ta : TA) : TS := λ D σ H => ta σ H λ vs H1 => ∃ v w, vs = [v, w] /\ D.nx ((σ.set i (some v)).set j (some w)) H1
theorem zoO (hc : X.calm = true) (hN : X.N.Nodup) (hi : X.N[i]? = some x) (hj : X.N[j]? = some y) (hij : i ≠ j)
 (hx : X.env.scope.names.lookup x = some .local) (hy : X.env.scope.names.lookup y = some .local) (ha : PA X [a, b] ta)
 (hw : swappedStores [.Tuple [.Name x px, .Name y py] kt pt] (.Tuple [a, b] k2 pt2) X.env = pure (some [x, y]))
 (hs : swapsWithSole [.Tuple [.Name x px, .Name y py] kt pt] (.Tuple [a, b] k2 pt2) pos.line X.env = pure false := by rfl) :
 PS X (.Assign [.Tuple [.Name x px, .Name y py] kt pt] (.Tuple [a, b] k2 pt2) pos) (zrV i j ta) := by
 intro pins s σ H D I h
 rw [exec_Assign_arm]
 refine wpAny_bind (wpAny_standAt ?_)
 rw [hs]
 refine wpAny_bind (wpAny_pure ?_)
 rw [if_neg (by decide)]
 refine wpAny_bind (Tuple_ (thn (ha _ pins s σ H _ I h) λ us s1 ⟨vs, H1, I1, r1, q1⟩ => ?_))
 obtain ⟨v, w, e1, q1⟩ := q1
 subst e1
 obtain ⟨u1, u2, rfl, rv, rw'⟩ : ∃ u1 u2, us = [u1, u2] /\ RelV v u1 /\ RelV w u2 := by
  cases r1 with
  | cons p q =>
   cases q with
   | cons p' q' =>
    cases q'
    exact ⟨_, _, rfl, p, p'⟩
 refine wpAny_newObj_type ?_ (by show 2 <= sizeLine; decide)
 have I2 : Inv X pins σ H1 { s1 with heap := s1.heap.push { cls := .type "tuple", data := .seq [u1, u2].toArray } } := I1.kept (t' := s1.toks) λ b o e => Heap.get?_push_of_some _ e
 rw [hw]
 refine wpAny_bind (wpAny_pure ?_)
 show wpAny (model X.prog X.w) X.A (do rule "assign.swapped-stores"; let items <- unpackItems (.ref s1.heap.objs.size) 2 none; assignInOrder [λ v => bindName X.env y v, λ v => bindName X.env x v] items.reverse; pure Flow.next) _ _ _
 refine wpAny_bind (wpAny_rule (wpAny_bind (unpackItems_tuple (items := #[u1, u2]) (I.ok.hd hc) (IsTup.new s1.heap _) λ h' hx' => ?_)))
 have I3 := I2.kept (h' := h') (t' := s1.toks) λ b o e => hx' b o (zzN (Heap.lt_size e)) e
 show wpAny _ _ (assignInOrder [λ v => bindName X.env y v, λ v => bindName X.env x v] [u2, u1] >>= λ _ => pure Flow.next) _ _ _
 refine wpAny_bind (assignInOrder_cons (wpAny_bindName (Vc I3 hN hj (.inl hy) rw' (λ s2 I4 => ?_) (.inr hy))))
 refine assignInOrder_cons (wpAny_bindName (Vc I4 hN hi (.inl hx) rv (λ s3 I5 => assignInOrder_nil (wpAny_pure ?_)) (.inr hx)))
 rw [List.set_comm _ _ (Ne.symm hij)] at I5
 exact ⟨_, H1, I5, q1⟩
def zrE (i : Nat) (te : TE) (ti : TIp) : TS := λ D σ H => ∃ x, σ[i]? = some (some x) /\ te σ H λ y H1 => ti x y H1 λ z H2 => D.nx (σ.set i (some z)) H2
theorem zoW (hN : X.N.Nodup) (hi : X.N[i]? = some x) (hx : Loc X.env.scope x) (he : PE X e te) (ho : PIp X op ti) (hf : X.fn x = true \/ X.env.scope.names.lookup x = some .local := by first | exact .inl rfl | exact .inr rfl | assumption) :
 PS X (.AugAssign (.Name x pos') op e pos) (zrE i te ti) := by
 intro pins s σ H D I h
 obtain ⟨v, e1, h⟩ := h
 obtain ⟨m, hn, hl⟩ := I.loc
 have vis : Vis X.env.scope x := by rcases hx with k | k; exact .inl k; exact .inr (.inl k)
 obtain ⟨u, r, l⟩ := hl i x v hi e1 vis
 refine wpAny_AugAssign_Name ?_
 have go : wpAny (model X.prog X.w) X.A (eval e X.env) (λ w s₂ => wpAny (model X.prog X.w) X.A (inplaceOp op u w) (λ r s₃ => wpAny (model X.prog X.w) X.A (storeName X.env x r) (λ _ => SP X pins D .next) X.xe s₃) X.xe s₂) X.xe s := by
  refine thn (he pins s σ H _ I h) λ w s1 ⟨y, H1, I1, r1, q1⟩ => ?_
  refine thn (ho pins s1 σ H1 v y u w _ I1 r r1 q1) λ z s2 ⟨zv, H2, I2, r2, q2⟩ => ?_
  exact Vc I2 hN hi hx r2 (λ s3 I3 => ⟨_, H2, I3, q2⟩) hf
 rcases l with ⟨hk, hm⟩ | ⟨hk, c, hc, hcell⟩
 · exact wpAny_loadName_local I.ok.kind hk hn hm go
 · rcases hk with hk | hk
   · exact wpAny_loadName_cell I.ok.kind hk hc hcell go
   · rcases hx with k | k
     · have : X.env.scope.names.lookup x = some .free := hk
       rw [k] at this; cases this
     · have : X.env.scope.names.lookup x = some .free := hk
       rw [k] at this; cases this
def ipI (f : Int -> Int -> Int) : TIp := λ x y H Q => ∃ i j, x = .int i /\ y = .int j /\ Q (.int (f i j)) H
theorem zps : PIp X .Add (ipI λ i j => i + j) := by
 intro pins s σ H x y v u Q I r1 r2 h
 obtain ⟨i, j, e1, e2, q⟩ := h
 subst e1; subst e2
 obtain ⟨t, rfl⟩ := r1
 obtain ⟨t', rfl⟩ := r2
 exact iadd_int ⟨.int _, H, I.tok _, ⟨_, rfl⟩, q⟩
end
section
variable {X : Cx} {pos : Pos}
def zpA (c : TT) (tb : TS) : TS := λ D σ H => ∃ W : Nat -> St -> Hp -> Prop, (∃ m, W m σ H) /\ ∀ m σ H, W m σ H ->
 c σ H λ b H1 => if b = true then ∃ N : St -> Hp -> Prop, (∀ σ' H', N σ' H' -> ∃ m', m' < m /\ W m' σ' H') /\ tb { D with nx := N, ct := N, bk := D.nx } σ H1 else D.nx σ H1
theorem zlw (hp : PassesOwn (model X.prog X.w) X.A X.env X.xe) (hc : PT X c tc) (hb : PSs X body tb) : PS X (.While c body [] pos) (zpA tc tb) := by
 intro pins s σ H D I h
 obtain ⟨W, ⟨m0, w0⟩, turn⟩ := h
 refine wpAny_While (codeAny_whileLoop (λ n s' => ∃ σ' H', Inv X pins σ' H' s' /\ W n σ' H') ?_ m0 ⟨σ, H, I, w0⟩)
 rintro n s1 ⟨σ1, H1, I1, w1⟩
 refine wpAny_passesOwn hp (thn (hc pins s1 σ1 H1 _ I1 (turn n σ1 H1 w1)) λ b s2 ⟨H2, I2, q2⟩ => ?_)
 cases b with
 | true =>
  obtain ⟨N, hN, q2⟩ := q2
  rw [if_pos rfl]
  refine wpAny_passesOwn hp (thn (hb pins s2 σ1 H2 _ I2 q2) λ f s3 q3 => ?_)
  cases f with
  | next =>
   obtain ⟨σ3, H3, I3, n3⟩ := q3
   obtain ⟨m', hm, w3⟩ := hN σ3 H3 n3
   exact ⟨m', hm, σ3, H3, I3, w3⟩
  | cont =>
   obtain ⟨σ3, H3, I3, n3⟩ := q3
   obtain ⟨m', hm, w3⟩ := hN σ3 H3 n3
   exact ⟨m', hm, σ3, H3, I3, w3⟩
  | brk => exact q3
  | ret v => exact q3
 | false =>
  rw [if_neg Bool.false_ne_true]
  exact wpAny_execs_nil ⟨σ1, H2, I2, q2⟩
end
structure It where
 go : Nat -> Hp -> Prop
 yld : Nat -> Hp -> V -> Hp -> Prop
 stop : Nat -> Hp -> Prop
def zej (X : Cx) (pins : List (Addr × Obj)) (H : Hp) (b : Addr) : Prop :=
 H b = none /\ b ≠ X.env.locals /\ b ∉ X.fs /\ (b ∈ X.ex \/ X.s₀.heap.objs.size <= b) /\ (∀ x c, X.env.cells.lookup x = some c -> c ≠ b) /\ ∀ p ∈ X.pn ++ pins, p.1 ≠ b
theorem Inv.fpOk (I : Inv X pins σ H s) (hb : s.heap.objs.size <= b) (hn : H' b = none) : zej X pins H' b := by
 refine ⟨hn, Nat.ne_of_gt (zzH I.lt hb), I.nofs hb, .inr (zzL I.sz hb), λ x c e z => ?_, λ p hp z => ?_⟩
 · obtain ⟨v, q⟩ := I.cell x c e
   exact absurd (zzH q.lt (by rw [z]; exact hb)) (Nat.lt_irrefl _)
 · exact absurd (zzH (Heap.lt_size (I.pin p hp).1) (by rw [z]; exact hb)) (Nat.lt_irrefl _)
structure Turn (P : Program) (w : World) (K : zC) (tg : Expr) (J : It) (fp : List Addr) (it : Addr) (tn : Nat -> Heap -> Prop) : Prop where
 mem : it ∈ fp
 obj : ∀ i h, tn i h -> ∀ b ∈ fp, ∃ o, h.get? b = some o /\ ∀ v, o.data ≠ .cell v
 keep : ∀ i h h', tn i h -> (∀ b ∈ fp, ∀ o, h.get? b = some o -> h'.get? b = some o) -> tn i h'
 item : ∀ (X : Cx), X.prog = P -> X.w = w -> X.K = K -> X.calm = true -> ∀ (i : Nat) (pins : List (Addr × Obj)) (s : Shared) (σ : St) (H : Hp) (E : Value -> Shared -> Prop), Inv X pins σ H s -> (∀ b ∈ fp, zej X pins H b) -> tn i s.heap -> J.go i H ->
  wpAny (model P w) X.A (pyNext (.ref it)) (λ r s1 => ∃ u, r = some u /\
   wpAny (model P w) X.A (letOwnedTupleGo tg (.ref it) u) (λ _ s2 => ∃ x H', Inv X pins σ H' s2 /\ RelV x u /\ J.yld i H x H' /\ tn (i + 1) s2.heap /\ ∀ b ∈ fp, H' b = none) E s1) E s
 done : ∀ (X : Cx), X.prog = P -> X.w = w -> X.K = K -> X.calm = true -> ∀ (i : Nat) (pins : List (Addr × Obj)) (s : Shared) (σ : St) (H : Hp) (E : Value -> Shared -> Prop), Inv X pins σ H s -> (∀ b ∈ fp, zej X pins H b) -> tn i s.heap -> J.stop i H ->
  wpAny (model P w) X.A (pyNext (.ref it)) (λ r s1 => r = none /\ Inv X pins σ H s1) E s
 self : ∀ (A : Around) (i : Nat) (s : Shared) (Q : Value -> Shared -> Prop) (E : Value -> Shared -> Prop), tn i s.heap -> Q (.ref it) s -> wpAny (model P w) A (pyIter (.ref it)) Q E s
abbrev TI := St -> Hp -> (It -> Hp -> Prop) -> Prop
def PIE (X : Cx) (pins : List (Addr × Obj)) (σ : St) (tg : Expr) (R : It -> Hp -> Prop) (itv : Value) (s2 : Shared) : Prop :=
 ∃ (it : Addr) (fp : List Addr) (tn : Nat -> Heap -> Prop) (J : It) (H' : Hp), itv = .ref it /\ Inv X pins σ H' s2 /\ Turn X.prog X.w X.K tg J fp it tn /\ tn 0 s2.heap /\ (∀ b ∈ fp, zej X pins H' b) /\ R J H'
def PI (X : Cx) (tg iter : Expr) (wi : TI) : Prop :=
 ∀ (pins : List (Addr × Obj)) (s : Shared) (σ : St) (H : Hp) (R : It -> Hp -> Prop), Inv X pins σ H s -> wi σ H R ->
  wpAny (model X.prog X.w) X.A (eval iter X.env) (λ v s1 => wpAny (model X.prog X.w) X.A (pyIter v) (PIE X pins σ tg R) X.xe s1) X.xe s
theorem zij (ho : s.heap.get? it = some o) (hc : o.cls = .type n) (hd : o.data = .fields vs)
 (hn : ["enumerate", "zip", "dict_itemiterator", "dict_reverseitemiterator", "odict_iterator", "itertools.zip_longest", "itertools.pairwise"].contains n = false) (hQ : Q () s) : wpAny M A (letOwnedTupleGo tg (.ref it) u) Q E s := by
 unfold letOwnedTupleGo
 cases tg <;> first
  | exact wpAny_pure hQ
  | (cases u <;> first
   | exact wpAny_pure hQ
   | (refine wpAny_bind (wpAny_load ho ?_)
      rw [hc, hd]
      show wpAny M A (if (["enumerate", "zip", "dict_itemiterator", "dict_reverseitemiterator", "odict_iterator", "itertools.zip_longest", "itertools.pairwise"].contains n && vs[0]? == some (rawInt _)) = true then _ else _) Q E s
      rw [if_neg (by intro h; rw [hn, Bool.false_and] at h; cases h)]
      exact wpAny_pure hQ))
def Itl (K : zC) (a : Addr) : It :=
 ⟨λ i H => ∃ xs x, SqL K H a xs /\ xs[i]? = some x, λ i H x H' => H' = H /\ ∀ xs, SqL K H a xs -> xs[i]? = some x, λ i H => ∃ xs, SqL K H a xs /\ xs.length <= i⟩
def Itt (K : zC) (a : Addr) : It :=
 ⟨λ i H => ∃ xs x, SqT K H a xs /\ xs[i]? = some x, λ i H x H' => H' = H /\ ∀ xs, SqT K H a xs -> xs[i]? = some x, λ i H => ∃ xs, SqT K H a xs /\ xs.length <= i⟩
def Itr (lo : Int) (n : Nat) : It := ⟨λ i _ => i < n, λ i H x H' => H' = H /\ x = .int (lo + i), λ i _ => n <= i⟩
theorem zjB {P : Program} {w : World} {K : zC} {tg : Expr} (a it : Addr) : Turn P w K tg (Itl K a) [it] it (λ i h => h.IsListIter it a i) where
 mem := by simp
 obj := λ i h st b hb => by
  have e : b = it := by simpa using hb
  subst e
  obtain ⟨o, e, c, d⟩ := st
  exact ⟨o, e, λ v z => by rw [d] at z; cases z⟩
 keep := λ i h h' st k => st.at λ o e => k it (by simp) o e
 item := by
  intro X hP hw hK hc i pins s σ H E I hf st hg
  subst hP hw hK
  obtain ⟨xs, x, hq, hx⟩ := hg
  obtain ⟨its, rv, p, hz⟩ := I.list hq
  obtain ⟨u, hu, ru⟩ := rv.get hx
  obtain ⟨f0, f1, f2, f3, f4, f5⟩ := hf it (by simp)
  refine wpAny_pyNext_list_item st p.isList (x := u) (by simpa using hu) λ h' st' sb => ?_
  have I1 : Inv X pins σ H { s with heap := h' } := I.turned (t' := s.toks) (λ b o hb e => (sb.2 b hb).trans e) f0 f1 f3 f4 f5
  obtain ⟨o, e, c, d⟩ := id st'
  exact ⟨u, rfl, zij (s := { s with heap := h' }) e c d (by decide) ⟨x, H, I1, ru, ⟨rfl, λ ys hy => by rw [I.list_inj hy hq]; exact hx⟩, st', λ b hb => (hf b hb).1⟩⟩
 done := by
  intro X hP hw hK hc i pins s σ H E I hf st hg
  subst hP hw hK
  obtain ⟨xs, hq, hx⟩ := hg
  obtain ⟨its, rv, p, hz⟩ := I.list hq
  obtain ⟨f0, f1, f2, f3, f4, f5⟩ := hf it (by simp)
  have hl := rv.length
  exact wpAny_pyNext_list_end (I.ok.hd hc) st p.isList (by simp; omega) λ h' eb => ⟨rfl, I.turned (t' := s.toks) (λ b o hb e => eb b o hb e) f0 f1 f3 f4 f5⟩
 self := λ _ _ _ _ _ st h => wpAny_pyIter_listiter st h
theorem zhQ {P : Program} {w : World} {K : zC} {tg : Expr} (a it : Addr) : Turn P w K tg (Itt K a) [it] it (λ i h => h.IsTupleIter it a i) where
 mem := by simp
 obj := λ i h st b hb => by
  have e : b = it := by simpa using hb
  subst e
  obtain ⟨o, e, c, d⟩ := st
  exact ⟨o, e, λ v z => by rw [d] at z; cases z⟩
 keep := λ i h h' st k => st.at λ o e => k it (by simp) o e
 item := by
  intro X hP hw hK hc i pins s σ H E I hf st hg
  subst hP hw hK
  obtain ⟨xs, x, hq, hx⟩ := hg
  obtain ⟨its, rv, p, hz⟩ := I.tuple hq
  obtain ⟨u, hu, ru⟩ := rv.get hx
  obtain ⟨f0, f1, f2, f3, f4, f5⟩ := hf it (by simp)
  refine wpAny_pyNext_tuple_item st (show s.heap.IsTuple a its.toArray from p) (x := u) (by simpa using hu) λ h' st' sb => ?_
  have I1 : Inv X pins σ H { s with heap := h' } := I.turned (t' := s.toks) (λ b o hb e => (sb.2 b hb).trans e) f0 f1 f3 f4 f5
  obtain ⟨o, e, c, d⟩ := id st'
  exact ⟨u, rfl, zij (s := { s with heap := h' }) e c d (by decide) ⟨x, H, I1, ru, ⟨rfl, λ ys hy => by rw [I.tuple_inj hy hq]; exact hx⟩, st', λ b hb => (hf b hb).1⟩⟩
 done := by
  intro X hP hw hK hc i pins s σ H E I hf st hg
  subst hP hw hK
  obtain ⟨xs, hq, hx⟩ := hg
  obtain ⟨its, rv, p, hz⟩ := I.tuple hq
  obtain ⟨f0, f1, f2, f3, f4, f5⟩ := hf it (by simp)
  have hl := rv.length
  exact wpAny_pyNext_tuple_end (I.ok.hd hc) st (show s.heap.IsTuple a its.toArray from p) (by simp; omega) λ h' eb => ⟨rfl, I.turned (t' := s.toks) (λ b o hb e => eb b o hb e) f0 f1 f3 f4 f5⟩
 self := λ _ _ _ _ _ st h => wpAny_pyIter_tupleiter st h
theorem zho {P : Program} {w : World} {K : zC} {tg : Expr} (it : Addr) (lo : Int) (n : Nat) : Turn P w K tg (Itr lo n) [it] it (λ i h => IsRangeIter h it (lo + (i : Nat) * 1) ((n : Int) - (i : Nat)) 1) where
 mem := by simp
 obj := λ i h st b hb => by
  have e : b = it := by simpa using hb
  subst e
  exact ⟨_, st, λ v z => by
   have z' : Data.fields _ = Data.cell v := z
   cases z'⟩
 keep := λ i h h' st k => k it (by simp) _ st
 item := by
  intro X hP hw hK hc i pins s σ H E I hf st hg
  subst hP hw hK
  obtain ⟨f0, f1, f2, f3, f4, f5⟩ := hf it (by simp)
  have W := Walks.range (prog := X.prog) (w := X.w) (I.ok.hd hc) it lo 1 n
  refine W.item i s _ _ hg st λ v h' tk hv st' kk => ?_
  obtain ⟨t, rfl⟩ := hv
  have I1 : Inv X pins σ H { s with heap := h', toks := tk } := I.turned (λ b o hb e => kk b o (by simpa using hb) e) f0 f1 f3 f4 f5
  refine ⟨_, rfl, zij (s := { s with heap := h', toks := tk }) (n := "range_iterator") st' rfl rfl (by decide) ⟨.int (lo + i), H, I1, ⟨t, ?_⟩, ⟨rfl, rfl⟩, st', λ b hb => (hf b hb).1⟩⟩
  rw [Int.mul_one]
 done := by
  intro X hP hw hK hc i pins s σ H E I hf st hg
  subst hP hw hK
  obtain ⟨f0, f1, f2, f3, f4, f5⟩ := hf it (by simp)
  exact wpAny_pyNext_range_end (I.ok.hd hc) st (by have : n <= i := hg; omega) λ h' eb => ⟨rfl, I.turned (t' := s.toks) (λ b o hb e => eb b o hb e) f0 f1 f3 f4 f5⟩
 self := λ _ _ _ _ _ st h => wpAny_pyIter_rangeiter st h
end L2
namespace L2
open PySem PySem.Spec PyProof.Rows
section
variable {X : Cx} {tg : Expr}
def zqj (K : zC) (tl : TE) : TI := λ σ H R => tl σ H λ x H1 => ∃ a, x = .ref a /\ (∃ xs, SqL K H1 a xs) /\ R (Itl K a) H1
def zrX (K : zC) (tl : TE) : TI := λ σ H R => tl σ H λ x H1 => ∃ a, x = .ref a /\ (∃ xs, SqT K H1 a xs) /\ R (Itt K a) H1
theorem zeY {l : Expr} {tl : TE} (hl : PE X l tl) : PI X tg l (zqj X.K tl) := by
 intro pins s σ H R I h
 refine thn (hl pins s σ H _ I h) λ v s1 ⟨x, H1, I1, r1, q1⟩ => ?_
 obtain ⟨a, e, ⟨xs, hq⟩, q⟩ := q1
 subst e
 cases r1
 obtain ⟨its, rv, p, hz⟩ := I1.list hq
 refine wpAny_pyIter_list p.isList ?_
 refine ⟨s1.heap.objs.size, [s1.heap.objs.size], _, _, H1, rfl, I1.kept (t' := s1.toks) λ b o e => Heap.get?_push_of_some _ e, zjB a _, ⟨_, Heap.get?_push_size _ rfl, rfl, rfl⟩, λ b hb => ?_, q⟩
 have e : b = s1.heap.objs.size := by simpa using hb
 subst e
 exact I1.fpOk (zzK _) (I1.hok.fresh (zzK _))
theorem zhM {l : Expr} {tl : TE} (hl : PE X l tl) : PI X tg l (zrX X.K tl) := by
 intro pins s σ H R I h
 refine thn (hl pins s σ H _ I h) λ v s1 ⟨x, H1, I1, r1, q1⟩ => ?_
 obtain ⟨a, e, ⟨xs, hq⟩, q⟩ := q1
 subst e
 cases r1
 obtain ⟨its, rv, p, hz⟩ := I1.tuple hq
 refine wpAny_pyIter_tuple (show s1.heap.IsTuple a its.toArray from p) ?_
 refine ⟨s1.heap.objs.size, [s1.heap.objs.size], _, _, H1, rfl, I1.kept (t' := s1.toks) λ b o e => Heap.get?_push_of_some _ e, zhQ a _, ⟨_, Heap.get?_push_size _ rfl, rfl, rfl⟩, λ b hb => ?_, q⟩
 have e : b = s1.heap.objs.size := by simpa using hb
 subst e
 exact I1.fpOk (zzK _) (I1.hok.fresh (zzK _))
theorem zgR {pins : List (Addr × Obj)} {σ : St} {H : Hp} {s : Shared} {R : It -> Hp -> Prop} {E : Value -> Shared -> Prop} {lo hi : Int} {t u v : Tok} {tk : Nat} (I : Inv X pins σ H s) (h1 : -(2 ^ 62) <= lo) (h2 : lo < 2 ^ 62) (h3 : -(2 ^ 62) <= hi) (h4 : hi < 2 ^ 62)
 (q : R (Itr lo (hi - lo).toNat) H) : wpAny (model X.prog X.w) X.A (pyIter (.ref s.heap.objs.size)) (PIE X pins σ tg R) E { s with heap := s.heap.push { cls := .type "range", data := .fields #[.int lo t, .int hi u, .int 1 v] }, toks := tk } := by
 refine wpAny_pyIter_range (IsRange.new ..) (small_one h1 h2 h3 h4) ?_
 have I1 : Inv X pins σ H { s with heap := s.heap.push { cls := .type "range", data := .fields #[.int lo t, .int hi u, .int 1 v] }, toks := tk } := I.kept λ b o e => Heap.get?_push_of_some _ e
 refine ⟨(s.heap.push { cls := .type "range", data := .fields #[.int lo t, .int hi u, .int 1 v] }).objs.size, [(s.heap.push { cls := .type "range", data := .fields #[.int lo t, .int hi u, .int 1 v] }).objs.size], _, _, H, rfl,
  I1.kept (t' := tk) λ b o e => Heap.get?_push_of_some _ e, zho _ lo (hi - lo).toNat, ?_, λ b hb => ?_, q⟩
 · have e1 : lo + ((0 : Nat) : Int) * 1 = lo := by simp
   have e2 : (((hi - lo).toNat : Nat) : Int) - ((0 : Nat) : Int) = Builtin.Range.rangeSize lo hi 1 := by rw [rangeSize_one]; split <;> omega
   show IsRangeIter _ _ (lo + ((0 : Nat) : Int) * 1) ((((hi - lo).toNat : Nat) : Int) - ((0 : Nat) : Int)) 1
   rw [e1, e2]
   exact Heap.get?_push_size _ rfl
 · have e : b = (s.heap.push { cls := .type "range", data := .fields #[.int lo t, .int hi u, .int 1 v] }).objs.size := by simpa using hb
   subst e
   exact I1.fpOk (zzK _) (I1.hok.fresh (zzK _))
def zqO (ta : TA) : TI := λ σ H R => ta σ H λ vs H1 => ∃ j : Int, vs = [.int j] /\ -(2 ^ 62) <= j /\ j < 2 ^ 62 /\ R (Itr 0 j.toNat) H1
def zqG (ta : TA) : TI := λ σ H R => ta σ H λ vs H1 => ∃ i j : Int, vs = [.int i, .int j] /\ (-(2 ^ 62) <= i /\ i < 2 ^ 62 /\ -(2 ^ 62) <= j /\ j < 2 ^ 62) /\ R (Itr i (j - i).toNat) H1
theorem zeD {a : Expr} {ta : TA} {p pos : Pos} (hg : Gl X "range") (hm : X.mg "range" = none) (ha : PA X [a] ta) (hs : starEach [a] X.env = [(false, eval a X.env)] := by rfl) : PI X tg (.Call (.Name "range" p) [a] [] pos) (zqO ta) := by
 intro pins s σ H R I h
 refine Call_ (zap I hg hm boot_range (PyProof.Rows.callWith_type1 (thn (ha pos pins s σ H _ I h) λ us s1 ⟨vs, H1, I1, r1, q1⟩ => ?_) hs rfl))
 obtain ⟨j, e, q1, q2, q⟩ := q1
 subst e
 cases r1 with
 | cons r rr =>
  cases rr
  obtain ⟨t, rfl⟩ := r
  exact call_range_1 (zgR I1 (by omega) (by omega) q1 q2 (by simpa using q))
theorem zji (hg : Gl X "range") (hm : X.mg "range" = none) (ha : PA X [a, b] ta) (hs : starEach [a, b] X.env = [(false, eval a X.env), (false, eval b X.env)] := by rfl) (hs2 : starEach [b] X.env = [(false, eval b X.env)] := by rfl) :
 PI X tg (.Call (.Name "range" p) [a, b] [] pos) (zqG ta) := by
 intro pins s σ H R I h
 refine Call_ (zap I hg hm boot_range (PyProof.Rows.callWith_type1 (thn (ha pos pins s σ H _ I h) λ us s1 ⟨vs, H1, I1, r1, q1⟩ => ?_) (by rw [hs, hs2]) (by rw [hs2]; rfl)))
 obtain ⟨i, j, e, ⟨q1, q2, q3, q4⟩, q⟩ := q1
 subst e
 cases r1 with
 | cons r rr =>
  cases rr with
  | cons r' rr =>
   cases rr
   obtain ⟨t, rfl⟩ := r
   obtain ⟨t', rfl⟩ := r'
   exact call_range_2 (zgR I1 q1 q2 q3 q4 q)
def zrH (wi : TI) (g : TG) (tb : TS) : TS := λ D σ H => wi σ H λ J H1 => ∃ W : Nat -> Nat -> St -> Hp -> Prop, (∃ m, W 0 m σ H1) /\ ∀ i m σ H, W i m σ H ->
 (J.stop i H /\ D.nx σ H) \/ (J.go i H /\ ∃ N : St -> Hp -> Prop, (∀ σ' H', N σ' H' -> ∃ m', m' < m /\ W (i + 1) m' σ' H') /\ ∀ x H', J.yld i H x H' -> g x σ H' λ σ2 H2 => tb { D with nx := N, ct := N, bk := D.nx } σ2 H2)
def zdF (fp : List Addr) (h : Heap) : List (Addr × Obj) := fp.filterMap λ b => (h.get? b).map λ o => (b, o)
theorem Ws (hb : b ∈ fp) (e : h.get? b = some o) : (b, o) ∈ zdF fp h := List.mem_filterMap.mpr ⟨b, hb, by rw [e]; rfl⟩
theorem zjF (hp : p ∈ zdF fp h) : p.1 ∈ fp /\ h.get? p.1 = some p.2 := by
 obtain ⟨b, hb, e⟩ := List.mem_filterMap.mp hp
 cases q : h.get? b with
 | none => rw [q] at e; cases e
 | some o =>
  rw [q] at e
  have e' : (b, o) = p := Option.some.inj e
  subst e'
  exact ⟨hb, q⟩
theorem Inv.pinned (I : Inv X pins σ H s) (hf : ∀ b ∈ fp, zej X pins H b) (ho : ∀ b ∈ fp, ∃ o, s.heap.get? b = some o /\ ∀ v, o.data ≠ .cell v) : Inv X (pins ++ zdF fp s.heap) σ H s :=
 I.pins_of λ p hp => (zzJ.mp hp).elim (λ z => I.pin p (zzI _ z)) λ z => by
  obtain ⟨hb, e⟩ := zjF z
  obtain ⟨f0, f1, f2, _⟩ := hf p.1 hb
  obtain ⟨o, e', d⟩ := ho p.1 hb
  rw [e] at e'; cases e'
  exact ⟨e, f0, f1, f2, d⟩
theorem Inv.unpinned (I : Inv X (pins ++ pl) σ H s) : Inv X pins σ H s := I.pins_of λ p hp => I.pin p (zzI _ (zzM _ hp))
theorem zkj (hp : PassesOwn (model X.prog X.w) X.A X.env X.xe) (hc : X.calm = true) (hi : PI X tg iter wi) (hg : PG X tg g) (hb : PSs X body tb)
 (hs : ∀ x, foldedSetIterable iter X.env x = pure x := by intro _; rfl) : PS X (.For tg iter body [] pos) (zrH wi g tb) := by
 intro pins s σ H D I h
 refine wpAny_For (thn (hi pins s σ H _ I h) λ v s1 h1 => thn h1 λ itv s2 h2 => ?_) hs
 obtain ⟨it, fp, tn, J, H2, e, I2, T, st2, f2, W, ⟨m0, w0⟩, turn⟩ := h2
 subst e
 have stat : ∀ {H' : Hp}, (∀ b ∈ fp, H' b = none) -> ∀ b ∈ fp, zej X pins H' b := λ hn b hb => ⟨hn b hb, (f2 b hb).2⟩
 refine codeAny_forLoop_any (λ n s' => ∃ i σ' H', Inv X pins σ' H' s' /\ tn i s'.heap /\ (∀ b ∈ fp, H' b = none) /\ W i n σ' H') ?_ m0 ⟨0, σ, H2, I2, st2, λ b hb => (f2 b hb).1, w0⟩
 rintro n s3 ⟨i, σ3, H3, I3, st3, fr3, w3⟩
 rcases turn i n σ3 H3 w3 with ⟨stop, qn⟩ | ⟨go, N, hN, step⟩
 · refine wpAny_passesOwn hp (thn (T.done X rfl rfl rfl hc i pins s3 σ3 H3 X.xe I3 (stat fr3) st3 stop) λ r s4 ⟨hr, I4⟩ => ?_)
   subst hr
   exact wpAny_execs_nil ⟨σ3, H3, I4, qn⟩
 · refine wpAny_passesOwn hp (thn (T.item X rfl rfl rfl hc i pins s3 σ3 H3 X.xe I3 (stat fr3) st3 go) λ r s4 ⟨u, hr, h4⟩ => ?_)
   subst hr
   refine wpAny_passesOwn hp (thn h4 λ _ s5 ⟨x, H5, I5, r5, y5, st5, fr5⟩ => ?_)
   have I5' := I5.pinned (stat fr5) (T.obj _ _ st5)
   refine wpAny_passesOwn hp (thn (hg _ s5 σ3 H5 x u _ I5' r5 (step x H5 y5)) λ _ s6 ⟨σ6, H6, I6, q6⟩ => ?_)
   refine wpAny_passesOwn hp (thn (hb _ s6 σ6 H6 _ I6 q6) λ f s7 q7 => ?_)
   have again : ∀ {σ7 : St} {H7 : Hp}, Inv X (pins ++ zdF fp s5.heap) σ7 H7 s7 -> N σ7 H7 -> ∃ m, m < n /\ ∃ i σ' H', Inv X pins σ' H' s7 /\ tn i s7.heap /\ (∀ b ∈ fp, H' b = none) /\ W i m σ' H' := λ {σ7 H7} I7 n7 => by
    obtain ⟨m', hm, w7⟩ := hN σ7 H7 n7
    refine ⟨m', hm, i + 1, σ7, H7, I7.unpinned, T.keep _ _ _ st5 λ b hb o e => (I7.pin (b, o) (zzI _ (zzI _ (Ws hb e)))).1, λ b hb => ?_, w7⟩
    obtain ⟨o, e, d⟩ := T.obj _ _ st5 b hb
    exact (I7.pin (b, o) (zzI _ (zzI _ (Ws hb e)))).2.1
   cases f with
   | next => obtain ⟨σ7, H7, I7, n7⟩ := q7; exact again I7 n7
   | cont => obtain ⟨σ7, H7, I7, n7⟩ := q7; exact again I7 n7
   | brk => obtain ⟨σ7, H7, I7, q7⟩ := q7; exact ⟨σ7, H7, I7.unpinned, q7⟩
   | ret v => obtain ⟨x7, σ7, H7, I7, r7, q7⟩ := q7; exact ⟨x7, σ7, H7, I7.unpinned, r7, q7⟩
end
end L2
namespace L2
open PySem PySem.Spec PyProof.Rows
abbrev R2 := V -> V -> Hp -> VK -> Prop
def OpR (X : Cx) (f : Value -> Value -> Sem Value) (r : R2) : Prop :=
 ∀ (pins : List (Addr × Obj)) (s : Shared) (σ : St) (H : Hp) (x y : V) (v u : Value) (Q : VK), Inv X pins σ H s -> RelV x v -> RelV y u -> r x y H Q ->
  wpAny (model X.prog X.w) X.A (f v u) (EP X pins σ Q) X.xe s
def zbb (X : Cx) (f : Value) (r : List V -> Hp -> VK -> Prop) : Prop :=
 ∀ (pins : List (Addr × Obj)) (s : Shared) (σ : St) (H : Hp) (xs : List V) (us : List Value) (Q : VK), Inv X pins σ H s -> Vals xs us -> r xs H Q ->
  wpAny (model X.prog X.w) X.A (call f us) (EP X pins σ Q) X.xe s
def zrT (X : Cx) (r : V -> Hp -> (Bool -> Hp -> Prop) -> Prop) : Prop :=
 ∀ (pins : List (Addr × Obj)) (s : Shared) (σ : St) (H : Hp) (x : V) (v : Value) (Q : Bool -> Hp -> Prop), Inv X pins σ H s -> RelV x v -> r x H Q ->
  wpAny (model X.prog X.w) X.A (truthy v) (TP X pins σ Q) X.xe s
def tOp (r : R2) (ta tb : TE) : TE := λ σ H Q => ta σ H λ x H1 => tb σ H1 λ y H2 => r x y H2 Q
def rI (C : Int -> Int -> Prop) (g : Int -> Int -> V) : R2 := λ x y H Q => ∃ i j, x = .int i /\ y = .int j /\ C i j /\ Q (g i j) H
def rI0 (g : Int -> Int -> V) : R2 := λ x y H Q => ∃ i j, x = .int i /\ y = .int j /\ Q (g i j) H
section
variable {X : Cx} {a b c : Expr} {ta tb tc : TE} {pos : Pos}
theorem zpi (ha : PE X a ta) (hb : PE X b tb) {pins : List (Addr × Obj)} {s : Shared} {σ : St} {H : Hp} {R : V -> V -> Hp -> Prop} (I : Inv X pins σ H s)
 (h : ta σ H λ x H1 => tb σ H1 λ y H2 => R x y H2) {Q : Value -> Shared -> Prop} {f : Value -> Value -> Sem Value}
 (hf : ∀ v u s2 x y H2, Inv X pins σ H2 s2 -> RelV x v -> RelV y u -> R x y H2 -> wpAny (model X.prog X.w) X.A (f v u) Q X.xe s2) :
 wpAny (model X.prog X.w) X.A (eval a X.env) (λ v s₁ => wpAny (model X.prog X.w) X.A (eval b X.env) (λ u s₂ => wpAny (model X.prog X.w) X.A (f v u) Q X.xe s₂) X.xe s₁) X.xe s := by
 refine thn (ha pins s σ H _ I h) λ v s1 ⟨x, H1, I1, r1, q1⟩ => ?_
 refine thn (hb pins s1 σ H1 _ I1 q1) λ u s2 ⟨y, H2, I2, r2, q2⟩ => ?_
 exact hf v u s2 x y H2 I2 r1 r2 q2
theorem zqk {op : Operator} {r : R2} (ho : OpR X (binaryOp op) r) (ha : PE X a ta) (hb : PE X b tb) : PE X (.BinOp a op b pos) (tOp r ta tb) := by
 intro pins s σ H Q I h
 exact wpAny_BinOp (zpi ha hb I h λ v u s2 x y H2 I2 rx ry q => ho pins s2 σ H2 x y v u Q I2 rx ry q)
theorem opI {f : Value -> Value -> Sem Value} {C : Int -> Int -> Prop} {g : Int -> Int -> Int}
 (rule : ∀ (i j : Int) (t u : Tok) (s : Shared) (Q : Value -> Shared -> Prop) (E : Value -> Shared -> Prop), C i j -> Q (.int (g i j) s.toks) { s with toks := s.toks + 1 } -> wpAny (model X.prog X.w) X.A (f (.int i t) (.int j u)) Q E s) :
 OpR X f (rI C λ i j => .int (g i j)) := by
 intro pins s σ H x y v u Q I rx ry h
 obtain ⟨i, j, rfl, rfl, hc, q⟩ := h
 obtain ⟨t, rfl⟩ := rx
 obtain ⟨t', rfl⟩ := ry
 exact rule i j t t' s _ _ hc ⟨.int (g i j), H, I.tok _, ⟨_, rfl⟩, q⟩
theorem zqZ {f : Value -> Value -> Sem Value} {g : Int -> Int -> Int}
 (rule : ∀ (i j : Int) (t u : Tok) (s : Shared) (Q : Value -> Shared -> Prop) (E : Value -> Shared -> Prop), Q (.int (g i j) s.toks) { s with toks := s.toks + 1 } -> wpAny (model X.prog X.w) X.A (f (.int i t) (.int j u)) Q E s) :
 OpR X f (rI0 λ i j => .int (g i j)) := by
 intro pins s σ H x y v u Q I rx ry h
 obtain ⟨i, j, rfl, rfl, q⟩ := h
 obtain ⟨t, rfl⟩ := rx
 obtain ⟨t', rfl⟩ := ry
 exact rule i j t t' s _ _ ⟨.int (g i j), H, I.tok _, ⟨_, rfl⟩, q⟩
theorem znb {f : Value -> Value -> Sem Value} {g : Int -> Int -> Bool}
 (rule : ∀ (i j : Int) (t u : Tok) (s : Shared) (Q : Value -> Shared -> Prop) (E : Value -> Shared -> Prop), Q (.bool (g i j)) s -> wpAny (model X.prog X.w) X.A (f (.int i t) (.int j u)) Q E s) :
 OpR X f (rI0 λ i j => .bl (g i j)) := by
 intro pins s σ H x y v u Q I rx ry h
 obtain ⟨i, j, rfl, rfl, q⟩ := h
 obtain ⟨t, rfl⟩ := rx
 obtain ⟨t', rfl⟩ := ry
 exact rule i j t t' s _ _ ⟨.bl (g i j), H, I, rfl, q⟩
def zqT (i j : Int) : Prop := 0 <= j /\ j <= 1000000 /\ i.natAbs < 2 ^ 64
theorem zor : OpR X (binaryOp .Add) (rI0 λ i j => .int (i + j)) := zqZ λ _ _ _ _ _ _ _ q => add_int q
theorem zot : OpR X (binaryOp .Sub) (rI0 λ i j => .int (i - j)) := zqZ λ _ _ _ _ _ _ _ q => sub_int q
theorem zpg : OpR X (binaryOp .Mod) (rI (λ _ j => 0 < j) λ i j => .int (i % j)) := opI λ i j _ _ _ _ _ hc q => by
 have h1 : (0 : Int) < j := hc
 exact mod_int' (by omega) (by rw [Int.fmod_eq_emod_of_nonneg i (by omega)]; exact q)
theorem zpL : OpR X (binaryOp .Pow) (rI zqT λ i j => .int (i ^ j.toNat)) := opI λ _ _ _ _ _ _ _ hc q => pow_int_small hc.1 hc.2.1 hc.2.2 q
theorem zpZ : OpR X (binaryOp .LShift) (rI zqT λ i j => .int (i * 2 ^ j.toNat)) := opI λ _ _ _ _ _ _ _ hc q => lshift_int_small hc.1 hc.2.1 hc.2.2 q
end
section
variable {X : Cx} {a b c : Expr} {ta tb tc : TE} {pos : Pos}
theorem wz (I : Inv X pins σ H s) (q : Q (.bl k) H) (e : k = k') : EP X pins σ Q (.bool k') s := by
 subst e
 exact ⟨.bl k, H, I, rfl, q⟩
theorem zrh : OpR X (compareOp .Lt) (rI0 λ i j => .bl (decide (i < j))) := znb λ _ _ _ _ _ _ _ q => lt_int q
theorem zqV : OpR X (compareOp .LtE) (rI0 λ i j => .bl (decide (i <= j))) := znb λ _ _ _ _ _ _ _ q => le_int q
theorem zra : OpR X (compareOp .Gt) (rI0 λ i j => .bl (decide (j < i))) := znb λ _ _ _ _ _ _ _ q => gt_int q
theorem zqP : OpR X (compareOp .GtE) (rI0 λ i j => .bl (decide (j <= i))) := znb λ _ _ _ _ _ _ _ q => ge_int q
theorem zjN : OpR X (compareOp .In) (λ x y H Q => ∃ i j, x = .str i /\ y = .str j /\ Q (.bl (!(Builtin.Str.occurrences j i 0 j.length 1).isEmpty)) H) := by
 intro pins s σ H x y v u Q I rx ry h
 obtain ⟨i, j, rfl, rfl, q⟩ := h
 obtain ⟨t, rfl⟩ := rx
 obtain ⟨t', rfl⟩ := ry
 exact in_str (wz I q rfl)
theorem zow : OpR X (compareOp .Is) (λ x y H Q => y = .non /\ Q (.bl (decide (x = .non))) H) := by
 intro pins s σ H x y v u Q I rx ry h
 obtain ⟨rfl, q⟩ := h
 cases ry
 refine is_none_gen (wz I q ?_)
 cases x <;> first
  | (cases rx; rfl)
  | (obtain ⟨t, rfl⟩ := rx; rfl)
theorem zlU : OpR X (compareOp .IsNot) (λ x y H Q => y = .non /\ Q (.bl (!decide (x = .non))) H) := by
 intro pins s σ H x y v u Q I rx ry h
 obtain ⟨rfl, q⟩ := h
 cases ry
 refine isnot_none_gen (wz I q ?_)
 cases x <;> first
  | (cases rx; rfl)
  | (obtain ⟨t, rfl⟩ := rx; rfl)
theorem zfe : OpR X (compareOp .NotIn) (λ x y H Q => ∃ i j, x = .str i /\ y = .str j /\ Q (.bl (!(!(Builtin.Str.occurrences j i 0 j.length 1).isEmpty))) H) := by
 intro pins s σ H x y v u Q I rx ry h
 obtain ⟨i, j, rfl, rfl, q⟩ := h
 obtain ⟨t, rfl⟩ := rx
 obtain ⟨t', rfl⟩ := ry
 exact notIn_str (wz I q rfl)
theorem yc (b : Expr) (h : op ≠ .In := by decide) (h2 : op ≠ .NotIn := by decide) : behindInMarks op b = false := by
 have e1 : (op == CmpOp.In) = false := by cases op <;> first | rfl | exact absurd rfl h
 have e2 : (op == CmpOp.NotIn) = false := by cases op <;> first | rfl | exact absurd rfl h2
 cases b <;> simp [behindInMarks, e1, e2]
theorem znj {op : CmpOp} {r : R2} (ho : OpR X (compareOp op) r) (ha : PE X a ta) (hb : PE X b tb) (hm : behindInMarks op b = false) : PE X (.Compare a [op] [b] pos) (tOp r ta tb) := by
 intro pins s σ H Q I h
 exact wpAny_Compare1 (zpi ha hb I h λ v u s2 x y H2 I2 rx ry q => ho pins s2 σ H2 x y v u Q I2 rx ry q) hm
def znL (t : TE) : TT := λ σ H Q => t σ H λ x H' => ∃ k, x = .bl k /\ Q k H'
theorem znt (ho : OpR X (compareOp op) r) (ha : PE X a ta) (hb : PE X b tb) (hm : behindInMarks op b = false) : PT X (.Compare a [op] [b] pos) (znL (tOp r ta tb)) := by
 intro pins s σ H Q I h
 refine wpAny_isTrue_Compare1 (thn (ha pins s σ H _ I h) λ v s1 ⟨x, H1, I1, r1, q1⟩ => thn (hb pins s1 σ H1 _ I1 q1) λ u s2 ⟨y, H2, I2, r2, q2⟩ =>
  thn (ho pins s2 σ H2 x y v u _ I2 r1 r2 q2) λ c s3 ⟨z, H3, I3, r3, k, e, q3⟩ => ?_) hm
 subst e
 cases r3
 exact wpAny_truthy_bool ⟨H3, I3, q3⟩
def zjX (r r' : R2) (ta tb tc : TE) : TE := λ σ H Q => ta σ H λ x H1 => tb σ H1 λ y H2 => r x y H2 λ z H3 => ∃ k, z = .bl k /\
 (if k = true then tc σ H3 λ w' H4 => r' y w' H4 Q else Q (.bl false) H3)
theorem zkx (ho : OpR X (compareOp op) r) (ho' : OpR X (compareOp op') r') (ha : PE X a ta) (hb : PE X b tb) (hc : PE X c tc)
 (hm : lastMarks [op, op'] [b, c] = false := by with_unfolding_all rfl) : PT X (.Compare a [op, op'] [b, c] pos) (znL (zjX r r' ta tb tc)) := by
 intro pins s σ H Q I h
 refine isTrue_chain (thn (ha pins s σ H _ I h) λ v s1 ⟨x, H1, I1, r1, q1⟩ => test_link (thn (hb pins s1 σ H1 _ I1 q1) λ u s2 ⟨y, H2, I2, r2, q2⟩ =>
  thn (ho pins s2 σ H2 x y v u _ I2 r1 r2 q2) λ d s3 ⟨z, H3, I3, r3, k, e, q3⟩ => ?_)) hm
 subst e
 cases r3
 refine wpAny_truthy_bool ?_
 cases k with
 | false =>
  obtain ⟨k', e', q'⟩ := q3
  cases e'
  exact ite_ff ⟨H3, I3, q'⟩
 | true =>
  refine ite_tt (test_last (thn (hc pins s3 σ H3 _ I3 q3) λ w' s4 ⟨z', H4, I4, r4, q4⟩ => thn (ho' pins s4 σ H4 y z' u w' _ I4 r2 r4 q4) λ d' s5 ⟨z2, H5, I5, r5, k2, e2, q5⟩ => ?_))
  subst e2
  cases r5
  exact wpAny_truthy_bool ⟨H5, I5, q5⟩
def zpM (K : zC) (x : V) (H : Hp) (k : Bool) : Prop :=
 match x with
 | .non => k = false
 | .bl b => k = b
 | .int i => k = (i != 0)
 | .str y => y.length <= sizeLine /\ k = ((y.length : Int) != 0)
 | .byt y => y.size <= sizeLine /\ k = ((y.size : Int) != 0)
 | .ref p => (∃ xs, SqL K H p xs /\ k = !xs.isEmpty) \/ (∃ xs, SqT K H p xs /\ k = !xs.isEmpty) \/ ∃ kvs, H p = some (.dK kvs) /\ k = !kvs.isEmpty
 | _ => False
theorem zhz (r : KV kvs vs) : (!vs.isEmpty) = !kvs.isEmpty := by
 cases r <;> rfl
theorem zcV (r : Vals xs its) : (!its.toArray.isEmpty) = !xs.isEmpty := by
 cases r <;> simp
theorem zav : (sizeLine : Nat) < 2 ^ 63 := by rw [sizeLine_eq]; decide
theorem zpv : zrT X (λ x H Q => ∃ k, zpM X.K x H k /\ Q k H) := by
 intro pins s σ H x v Q I rx h
 obtain ⟨k, e, q⟩ := h
 have hl := zav
 have hs : sizeLine = 16777216 := sizeLine_eq
 cases x with
 | non =>
  cases rx
  have e' : k = false := e
  subst e'
  exact truthy_none ⟨H, I, q⟩
 | bl b =>
  cases rx
  have e' : k = b := e
  subst e'
  exact wpAny_truthy_bool ⟨H, I, q⟩
 | int i =>
  obtain ⟨t, rfl⟩ := rx
  have e' : k = (i != 0) := e
  subst e'
  exact PySem.P.truthy_int ⟨H, I, q⟩
 | str y =>
  obtain ⟨t, rfl⟩ := rx
  obtain ⟨hy, e'⟩ : y.length <= sizeLine /\ k = ((y.length : Int) != 0) := e
  subst e'
  exact PySem.P.truthy_str (by omega) ⟨H, I.tok _, q⟩
 | byt y =>
  obtain ⟨t, rfl⟩ := rx
  obtain ⟨hy, e'⟩ : y.size <= sizeLine /\ k = ((y.size : Int) != 0) := e
  subst e'
  exact PySem.W.truthy_bytes (by omega) ⟨H, I.tok _, q⟩
 | ref p =>
  cases rx
  have e' : (∃ xs, SqL X.K H p xs /\ k = !xs.isEmpty) \/ (∃ xs, SqT X.K H p xs /\ k = !xs.isEmpty) \/ ∃ kvs, H p = some (.dK kvs) /\ k = !kvs.isEmpty := e
  rcases e' with ⟨xs, hx, e'⟩ | ⟨xs, hx, e'⟩ | ⟨kvs, hx, e'⟩
  · subst e'
    obtain ⟨its, r, pl, hz⟩ := I.list hx
    have hlen := r.length
    exact wpAny_truthy_list pl.isList (by simp only [zzE]; omega) ⟨H, I.tok _, by rw [zcV r]; exact q⟩
  · subst e'
    obtain ⟨its, r, pl, hz⟩ := I.tuple hx
    have hlen := r.length
    exact truthy_tuple pl (by simp only [zzE]; omega) ⟨H, I.tok _, by rw [zcV r]; exact q⟩
  · subst e'
    obtain ⟨hz, hS, vs, r, m⟩ : kvs.length <= sizeLine /\ (p == sysModules) = false /\ ∃ vs, KV kvs vs /\ s.heap.DictOf (yX X.prog X.w) p vs := I.hok p _ hx
    have hlen : kvs.length = vs.length := Paired.length r
    exact wpAny_truthy_dict hS m (by omega) ⟨H, I.tok _, by rw [zhz r]; exact q⟩
 | _ => exact (show False from e).elim
theorem zlG (ha : PE X a ta) (he : ∀ whole, isTrue a X.env whole = (do let v <- whole; standAt a.pos; holding [v] (truthy v))) :
 PT X a (λ σ H Q => ta σ H λ x H' => ∃ k, zpM X.K x H' k /\ Q k H') := by
 intro pins s σ H Q I h
 exact isTrue_plain (thn (ha pins s σ H _ I h) λ v s1 ⟨x, H1, I1, r1, q1⟩ => zpv pins s1 σ H1 x v Q I1 r1 q1) (he _)
theorem zhx : OpR X (binaryOp .Add) (λ x y H Q => ∃ i j, x = .str i /\ y = .str j /\ i.length + j.length <= sizeLine /\ Q (.str (i ++ j)) H) := by
 intro pins s σ H x y v u Q I rx ry h
 obtain ⟨i, j, rfl, rfl, hz, q⟩ := h
 obtain ⟨t, rfl⟩ := rx
 obtain ⟨t', rfl⟩ := ry
 exact add_str (λ t' tk => ⟨.str (i ++ j), H, I.tok _, ⟨_, rfl⟩, q⟩) hz
theorem vals1 (r : Vals [x] us) : ∃ u, us = [u] /\ RelV x u := by
 cases r with
 | cons r1 r2 => cases r2; exact ⟨_, rfl, r1⟩
theorem vals2 (r : Vals [x, y] us) : ∃ u w', us = [u, w'] /\ RelV x u /\ RelV y w' := by
 cases r with
 | cons r1 r2 =>
  cases r2 with
  | cons r3 r4 => cases r4; exact ⟨_, _, rfl, r1, r3⟩
theorem zjj (hc : X.calm = true) : zbb X (.builtin "max") (λ xs H Q => ∃ i j, xs = [.int i, .int j] /\ Q (.int (if j > i then j else i)) H) := by
 intro pins s σ H xs us Q I r h
 obtain ⟨i, j, rfl, q⟩ := h
 obtain ⟨u, w', rfl, ⟨t, rfl⟩, ⟨t', rfl⟩⟩ := vals2 r
 refine max_two_ints (I.ok.hd hc) λ h' tk k => ⟨_, H, I.kept k, ?_, q⟩
 by_cases hj : j > i
 · rw [if_pos hj, if_pos hj]; exact ⟨_, rfl⟩
 · rw [if_neg hj, if_neg hj]; exact ⟨_, rfl⟩
theorem zeH : zbb X (.type "int") (λ xs H Q => (∃ i, xs = [.int i] /\ Q (.int i) H) \/ ∃ k, xs = [.bl k] /\ Q (.int (if k then 1 else 0)) H) := by
 intro pins s σ H xs us Q I r h
 rcases h with ⟨i, rfl, q⟩ | ⟨k, rfl, q⟩
 · obtain ⟨u, rfl, t, rfl⟩ := vals1 r
   exact call_int_int ⟨.int i, H, I, ⟨_, rfl⟩, q⟩
 · obtain ⟨u, rfl, r1⟩ := vals1 r
   cases r1
   exact call_int_bool ⟨.int (if k then 1 else 0), H, I.tok _, ⟨_, rfl⟩, q⟩
end
end L2
namespace L2
open PySem PySem.Spec PyProof.Rows
structure ObjM (h : Heap) (x dx C : Addr) (mA : Str -> Option Value) : Prop where
 obj : h.get? x = some (PySem.W.instObj C dx)
 ns : h.Ns1 dx mA
 ne : dx ≠ x
theorem zfi.some_of (r : zfi (some v) o) : ∃ u, o = some u /\ RelV v u := by
 cases o with
 | none => exact (show False from r).elim
 | some u => exact ⟨u, rfl, r⟩
structure Cls (K : zC) (C : Addr) : Prop where
 pg : PySem.W.plainGet K C Str.empty = true
 hd : PySem.W.hasDictIn K C = true
 po : PySem.W.plainOver K C = true
 sa : PySem.W.findIn K (.ref C) "__setattr__" = some (some (.builtin "object.__setattr__"))
structure Con (K : zC) (C : Addr) (f : Str) (v : V) (u : Value) : Prop where
 at_ : PySem.W.findIn K (.ref C) f = some (some u)
 rel : RelV v u
 get : PySem.W.specialIn K u "__get__" = some none
 cp : PySem.W.copiedNames.contains f = false
structure Meth (K : zC) (C : Addr) (m : Str) (f : Addr) : Prop where
 at_ : PySem.W.findIn K (.ref C) m = some (some (.ref f))
 fn : PySem.W.isFn K (.ref f) = true
 kp : PySem.W.keepIn K (.ref f) = true
section
variable {X : Cx} {pins : List (Addr × Obj)} {σ : St} {H : Hp} {s : Shared} {A : Around} {E : Value -> Shared -> Prop} {Q : Value -> Shared -> Prop} {c : Value} {b : Bool}
inductive TyOf (K : zC) (H : Hp) : V -> Value -> Prop where
 | non : TyOf K H .non (.type "NoneType")
 | bl (x : Bool) : TyOf K H (.bl x) (.type "bool")
 | int (i : Int) : TyOf K H (.int i) (.type "int")
 | str (x : Str) : TyOf K H (.str x) (.type "str")
 | flt (x : UInt64) : TyOf K H (.flt x) (.type "float")
 | lst {a : Addr} {xs : List V} (e : H a = some (.lst xs)) : TyOf K H (.ref a) (.type "list")
 | frz {a : Addr} {o : Obj} {xs : List V} (e : H a = some (.frz o (.lst xs))) : TyOf K H (.ref a) (.type "list")
 | tup {a : Addr} {xs : List V} (e : H a = some (.tup xs)) : TyOf K H (.ref a) (.type "tuple")
 | dK {a : Addr} {kvs : List (Key × V)} (e : H a = some (.dK kvs)) : TyOf K H (.ref a) (.type "dict")
 | dT {a : Addr} {kvs : List (List Key × V)} {bs : List Addr} {ep : Nat} (e : H a = some (.dT kvs bs ep)) : TyOf K H (.ref a) (.type "dict")
 | ins {a C dx : Addr} {fs : List (Str × V)} (e : H a = some (.ins C dx fs)) (cl : Cls K C) (ha : PySem.W.findIn K (.ref C) "__class__" = some (some (.builtin "object.__class__")))
  (hn : PySem.W.specialIn K (.builtin "object.__class__") "__get__" = some (some (.builtin "getset_descriptor.__get__"))) (htk : PySem.W.takesIn K (.builtin "object.__class__") = some true)
  (hm : PySem.W.mroIn K C (.type "object") = some true) : TyOf K H (.ref a) (.ref C)
end
end L2
namespace L2
open PySem PySem.Spec PyProof.Rows
structure Room (k : Nat) (A : Around) : Prop where
 hd : A.handled = none
 dp : A.depth + 3 * k + 5 < recursionLimit
 un : A.units + 16 * k + 200 < cLine
 gd : A.guards = some []
theorem Room.mono (r : Room k A) (h : j <= k) : Room j A := ⟨r.hd, by have := r.dp; omega, by have := r.un; omega, r.gd⟩
theorem Room.deeper (r : Room (k + 1) A) (env : Env) : Room k (A.deeper env) :=
 ⟨r.hd, by have := r.dp; show A.depth + 1 + 3 * k + 5 < _; omega, by have := r.un; show A.units + 3 + 16 * k + 200 < _; omega, r.gd⟩
theorem Room.depth (r : Room k A) : A.depth < recursionLimit := by have := r.dp; omega
theorem Room.units (r : Room k A) : A.units + 64 < cLine := by have := r.un; omega
def zqY : TA := λ _ H Q => Q [] H
def znV (ta : TE) (tr : TA) : TA := λ σ H Q => ta σ H λ x H1 => tr σ H1 λ xs H2 => Q (x :: xs) H2
section
variable {X : Cx} {e : Expr} {es : List Expr} {te : TE} {t : TA} {pos : Pos}
theorem zdV : PA X [] zqY := λ _ _ _ _ H Q I h => Calls.spliced_nil ⟨[], H, I, .nil, h⟩
theorem YC (ha : PE X e te) (hr : PA X es t) (hs : starEach (e :: es) X.env = (false, eval e X.env) :: starEach es X.env := by rfl) : PA X (e :: es) (znV te t) := by
 intro pos pins s σ H Q I h
 rw [hs]
 show wpAny _ _ (spliced ((false, eval e X.env) :: backTo pos (starEach es X.env))) _ _ s
 refine Calls.spliced_cons (thn (ha pins s σ H _ I h) λ u s1 ⟨x, H1, I1, r1, q1⟩ => ?_)
 exact thn (hr pos pins s1 σ H1 _ I1 q1) λ us s2 ⟨xs, H2, I2, r2, q2⟩ => ⟨x :: xs, H2, I2, .cons r1 r2, q2⟩
def zrv (t : TA) : TE := λ σ H Q => t σ H λ xs H1 => xs.length <= sizeLine /\ ∀ p, H1 p = none -> Q (.ref p) (upd H1 p (.tup xs))
def zrA (t : TA) : TE := λ σ H Q => t σ H λ xs H1 => xs.length <= sizeLine /\ ∀ p, H1 p = none -> Q (.ref p) (upd H1 p (.lst xs))
theorem zom (h : PA X es t) : PE X (.Tuple es x1 pos) (zrv t) := by
 intro pins s σ H Q I hq
 refine wpAny_Tuple_spliced (thn (h pos pins s σ H _ I hq) λ us s1 ⟨xs, H1, I1, r, z, q⟩ => ⟨by rw [<- r.length]; exact z, ?_⟩)
 have hf : H1 s1.heap.objs.size = none := I1.hok.fresh (zzK _)
 refine ⟨.ref s1.heap.objs.size, upd H1 s1.heap.objs.size (.tup xs), I1.laid (t' := s1.toks) (λ b u e => Heap.get?_push_of_some _ e) (zzK _) ?_, rfl, q _ hf⟩
 exact ⟨z, us, r, ⟨_, Heap.get?_push_size _ rfl, rfl, _, rfl⟩⟩
theorem zpY (h : PA X es t) : PE X (.List es pos) (zrA t) := by
 intro pins s σ H Q I hq
 refine wpAny_List_spliced (thn (h pos pins s σ H _ I hq) λ us s1 ⟨xs, H1, I1, r, z, q⟩ => ⟨by rw [<- r.length]; exact z, ?_⟩)
 have hf : H1 s1.heap.objs.size = none := I1.hok.fresh (zzK _)
 refine ⟨.ref s1.heap.objs.size, upd H1 s1.heap.objs.size (.lst xs), I1.laid (t' := s1.toks) (λ b u e => Heap.get?_push_of_some _ e) (zzK _) ?_, rfl, q _ hf⟩
 exact ⟨z, us, 0, r, Heap.get?_push_size _ rfl⟩
end
abbrev Sp := List V -> Hp -> VK -> XK -> Prop
abbrev CXT := List Env -> Hp -> Shared -> XK -> Value -> Shared -> Prop
structure Env0 (P : Program) (w : World) (K : zC) (mg : Str -> Option Value) (base : Heap) (A : Around) (outer : List Env) (s : Shared) (H : Hp) : Prop where
 frames : A.frames = some outer
 mod : Mod K mg base
 bs : ∀ b o, base.get? b = some o -> s.heap.get? b = some o /\ H b = none
 bsz : base.objs.size <= s.heap.objs.size
 funs : s.heap.FunFrames base outer
 frf : ∀ b ∈ frs outer, H b = none
 hok : HOk P w H s.heap
 bare : AllBare s.gens
def CE (outer : List Env) (P : Program) (w : World) (H : Hp) (s : Shared) (Q : VK) (u : Value) (s' : Shared) : Prop :=
 ∃ v H', s'.os = s.os /\ AllBare s'.gens /\ Un (frs outer) [] H H' s.heap s'.heap /\ HOk P w H' s'.heap /\ RelV v u /\ Q v H'
def CR (CX : CXT) (outer : List Env) (P : Program) (w : World) (H : Hp) (s : Shared) (Q : VK) (E : XK) (r : Result) (s' : Shared) : Prop :=
 match r with
 | .ok (.ret u) => CE outer P w H s Q u s'
 | .ok _ => False
 | .error e => CX outer H s E e s'
structure FnOk (P : Program) (w : World) (K : zC) (mg : Str -> Option Value) (base : Heap) (CX : CXT) (k : Nat) (f : Addr) (fd : FuncData) (ps : List Str) (sp : Sp) : Prop where
 len : ∀ vs H Q E, sp vs H Q E -> vs.length = ps.length
 run : ∀ (A : Around) (outer : List Env) (s : Shared) (H : Hp) (args : Args) (us : List Value) (vs : List V) (Q : VK) (E : XK), Room k A -> Env0 P w K mg base A outer s H -> BindsTo s fd args (ps.zip us) -> Vals vs us -> sp vs H Q E ->
  codeAny (model P w) A (.call (.ref f) args) (CR CX outer P w H s Q E) s
theorem FnOk.imp {P : Program} {w : World} {K : zC} {mg : Str -> Option Value} {base : Heap} {CX : CXT} {k : Nat} {f : Addr} {fd : FuncData} {ps : List Str} {sp sp' : Sp} (F : FnOk P w K mg base CX k f fd ps sp)
 (h : ∀ vs H Q E, sp' vs H Q E -> sp vs H Q E) : FnOk P w K mg base CX k f fd ps sp' :=
 ⟨λ vs H Q E q => F.len vs H Q E (h _ _ _ _ q), λ A outer s H args us vs Q E hr he hb hv hs => F.run A outer s H args us vs Q E hr he hb hv (h _ _ _ _ hs)⟩
section
variable {X : Cx} {pins : List (Addr × Obj)} {σ : St} {H : Hp} {s s' : Shared}
theorem Inv.env0 (I : Inv X pins σ H s) : Env0 X.prog X.w X.K X.mg X.base X.A X.stack s H :=
 ⟨I.ok.frames, I.ok.mod, I.bs, zzL I.ok.bsz I.sz, I.stack, I.stkFree, I.hok, I.bare⟩
theorem Inv.after (I : Inv X pins σ H s) (h : CE X.stack X.prog X.w H s Q u s') : EP X pins σ Q u s' := by
 obtain ⟨v, H', os, bare, un, hok, r, q⟩ := h
 obtain ⟨hh, g, d, t, os'⟩ := s'
 obtain rfl : os' = s.os := os
 exact ⟨v, H', I.call (h' := hh) (g' := g) (d' := d) (t' := t) (ch := []) un hok bare (λ b z => absurd z (by simp)), r, q⟩
end
def znU (sp : Sp) (dvs : List V) (E : XK) (t : TA) : TE := λ σ H Q => t σ H λ vs H1 => sp (vs ++ dvs) H1 Q E
def Binds (K : zC) (fd : FuncData) (ps : List Str) (ds : List Value) : Prop :=
 ∀ (s : Shared) (us : List Value), K.In s.heap -> (us ++ ds).length = ps.length -> BindsTo s fd ⟨us, []⟩ (ps.zip (us ++ ds))
theorem Binds.all {K : zC} {fd : FuncData} {ps : List Str} (h : ∀ us : List Value, us.length = ps.length -> bindArgs fd ⟨us, []⟩ = pure (ps.zip us)) : Binds K fd ps [] := λ s us _ hl => by
 rw [List.append_nil] at hl ⊢
 exact .of_eq (h us hl)
def zcX (CX : CXT) (X : Cx) (E : XK) : Prop := ∀ (pins : List (Addr × Obj)) (σ : St) (H : Hp) (s : Shared) (e : Value) (s' : Shared), Inv X pins σ H s -> CX X.stack H s E e s' -> X.xe e s'
section
variable {X : Cx} {CX : CXT} {k : Nat} {f C : Addr} {fd : FuncData} {ps : List Str} {sp : Sp} {dvs : List V} {ds : List Value} {E : XK} {x m : Str} {p pos apos : Pos} {e o : Expr} {es : List Expr} {ta : TE} {t : TA}
theorem zpk (F : FnOk X.prog X.w X.K X.mg X.base CX k f fd ps sp) (hr : Room k X.A) (hb : Binds X.K fd ps ds) (hd : Vals dvs ds) (hx : zcX CX X E)
 (I : Inv X pins σ H s) (r : Vals vs us) (h : sp (vs ++ dvs) H Q E) : wpAny (model X.prog X.w) X.A (call (.ref f) us) (EP X pins σ Q) X.xe s := by
 have r2 : Vals (vs ++ dvs) (us ++ ds) := r.append hd
 have hl : (us ++ ds).length = ps.length := by rw [<- r2.length]; exact F.len _ _ _ _ h
 refine wpAny_call (codeAny_mono (F.run X.A X.stack s H ⟨us, []⟩ (us ++ ds) (vs ++ dvs) Q E hr I.env0 (hb s us I.kIn hl) r2 h) λ r s' hq => ?_)
 cases r with
 | error e => exact hx pins σ H s e s' I hq
 | ok fl =>
  cases fl with
  | ret u => exact I.after hq
  | next => exact False.elim hq
  | brk => exact False.elim hq
  | cont => exact False.elim hq
theorem zja (F : FnOk X.prog X.w X.K X.mg X.base CX k f fd ps sp) (hr : Room k X.A) (hg : Gl X x) (hm : X.mg x = some (.ref f)) (hk : PySem.W.keepIn X.K (.ref f) = true) (hb : Binds X.K fd ps ds) (hd : Vals dvs ds) (hx : zcX CX X E)
 (ha : PA X (e :: es) t) (hdb : (x == ("__debug__" : Str)) = false := by decide) (he : starEach (e :: es) X.env = (false, eval e X.env) :: starEach es X.env := by rfl) (hpl : (backTo pos (starEach es X.env)).any (·.1) = false := by rfl) :
 PE X (.Call (.Name x p) (e :: es) [] pos) (znU sp dvs E t) := by
 intro pins s σ H Q I h
 refine wpAny_Call_Name_kw (zmo I hg hm ?_ hdb)
 refine PySem.W.callWith_K (h₀ := X.base) I.ok.mod.kin hk (thn (ha pos pins s σ H _ I h) λ us s1 ⟨vs, H1, I1, r, q⟩ => ⟨I1.kIn, ?_⟩) he hpl
 exact zpk F hr hb hd hx I1 r q
structure Mk (K : zC) (C f : Addr) : Prop where
 makes : PySem.W.makesIn K C = true
 init : PySem.W.findIn K (.ref C) "__init__" = some (some (.ref f))
 fn : PySem.W.isFn K (.ref f) = true
 kp : PySem.W.keepIn K (.ref C) = true
end
section
variable {X : Cx} {CX : CXT} {k : Nat} {f C : Addr} {fd : FuncData} {ps ks : List Str} {sp : Sp} {E : XK} {x m : Str} {p pos apos kpos : Pos} {e o : Expr} {es : List Expr} {kws : List Keyword} {te ta : TE} {t tk : TA} {nm : Option Str}
structure KBinds (K : zC) (fd : FuncData) (ps ks : List Str) (g : List Value -> List Value -> List Value) (gV : List V -> List V -> List V) : Prop where
 to : ∀ (s : Shared) (us ws : List Value), K.In s.heap -> (g us ws).length = ps.length -> BindsTo s fd ⟨us, ks.zip ws⟩ (ps.zip (g us ws))
 rel : ∀ {vs : List V} {us : List Value} {zs : List V} {ws : List Value}, Vals vs us -> Vals zs ws -> Vals (gV vs zs) (g us ws)
variable {g : List Value -> List Value -> List Value} {gV : List V -> List V -> List V}
end
structure FnScope (N P : List Str) (sc : Scope) : Prop where
 kind : sc.kind = .function
 co : sc.isCoroutine = false
 gen : sc.isGenerator = false
 nd : N.Nodup
 pre : N.take P.length = P
 par : ∀ x ∈ P, sc.names.lookup x = some .local \/ sc.names.lookup x = some .cell
 nofree : ∀ y ∈ sc.names, y.2 ≠ .free
theorem zeo {kindOf : Str -> Option NameKind} {x : Str} : ∀ {binds : List (Str × Value)} {m : Str -> Option Value}, (∀ v, (x, v) ∉ binds) -> bindL kindOf binds m x = m x
 | [], _, _ => rfl
 | (n, v) :: r, m, h => by
  unfold bindL
  rw [zeo λ w hw => h w (zzA _ hw)]
  split
  · have : x ≠ n := by rintro rfl; exact h v zzC
    simp [this]
  · rfl
theorem zet {kindOf : Str -> Option NameKind} {x : Str} : ∀ {binds : List (Str × Value)} {m : Str -> Option Value}, (∀ v, (x, v) ∉ binds) -> bindC kindOf binds m x = m x
 | [], _, _ => rfl
 | (n, v) :: r, m, h => by
  unfold bindC
  rw [zet λ w hw => h w (zzA _ hw)]
  split
  · rfl
  · have : x ≠ n := by rintro rfl; exact h v zzC
    simp [this]
theorem zer {kindOf : Str -> Option NameKind} {x : Str} {v : Value} : ∀ {P : List Str} {vs : List Value} {i : Nat} {m : Str -> Option Value}, P.Nodup -> P[i]? = some x -> vs[i]? = some v -> kindOf x = some .local ->
 bindL kindOf (P.zip vs) m x = some v
 | [], _, _, _, _, h, _, _ => by simp at h
 | _ :: _, [], _, _, _, _, h, _ => by simp at h
 | p :: P, w :: vs, 0, m, nd, h1, h2, hk => by
  simp at h1 h2; subst h1; subst h2
  show bindL kindOf ((p, w) :: P.zip vs) m p = _
  unfold bindL
  rw [zeo λ v hv => (zzT.mp nd).1 (List.of_mem_zip hv).1, if_pos hk]
  simp
 | p :: P, w :: vs, i + 1, m, nd, h1, h2, hk => by
  show bindL kindOf ((p, w) :: P.zip vs) m x = _
  unfold bindL
  exact zer (i := i) (zzT.mp nd).2 (by simpa using h1) (by simpa using h2) hk
theorem zel {kindOf : Str -> Option NameKind} {x : Str} {v : Value} : ∀ {P : List Str} {vs : List Value} {i : Nat} {m : Str -> Option Value}, P.Nodup -> P[i]? = some x -> vs[i]? = some v -> kindOf x ≠ some .local ->
 bindC kindOf (P.zip vs) m x = some v
 | [], _, _, _, _, h, _, _ => by simp at h
 | _ :: _, [], _, _, _, _, h, _ => by simp at h
 | p :: P, w :: vs, 0, m, nd, h1, h2, hk => by
  simp at h1 h2; subst h1; subst h2
  show bindC kindOf ((p, w) :: P.zip vs) m p = _
  unfold bindC
  rw [zet λ v hv => (zzT.mp nd).1 (List.of_mem_zip hv).1, if_neg hk]
  simp
 | p :: P, w :: vs, i + 1, m, nd, h1, h2, hk => by
  show bindC kindOf ((p, w) :: P.zip vs) m x = _
  unfold bindC
  exact zel (i := i) (zzT.mp nd).2 (by simpa using h1) (by simpa using h2) hk
def start (N : List Str) (vs : List V) : St := vs.map some ++ List.replicate (N.length - vs.length) none
def zgJ (CX : CXT) (P : Program) (w : World) (K : zC) (mg : Str -> Option Value) (base : Heap) (N : List Str) (qual : Str) (scope : Scope) (f : Addr) (cd : Value) (A : Around) (outer : List Env) (s : Shared) (H : Hp) (E : XK) : Cx where
 prog := P
 w := w
 K := K
 mg := mg
 base := base
 A := A.deeper (envOfC qual scope s.heap.objs.size f cd)
 N := N
 s₀ := s
 H₀ := H
 env := envOfC qual scope s.heap.objs.size f cd
 outer := outer
 stack := envOfC qual scope s.heap.objs.size f cd :: outer
 ex := []
 calm := true
 fn := λ _ => true
 pn := []
 xe := λ e s' => wpAny (model P w) (A.deeper (envOfC qual scope s.heap.objs.size f cd)) (leaving (envOfC qual scope s.heap.objs.size f cd) e) (λ _ s'' => CX outer H s E e s'') (λ e' s'' => CX outer H s E e' s'') s'
theorem zgY {sc : Scope} {n : Nat} {x : Str} (h : sc.names.lookup x = some .cell) : ∃ c, (cellsFrom n sc.names []).lookup x = some c := by
 have q := PySem.W.cellsFrom_some sc.names n [] (.inl h)
 exact Option.isSome_iff_exists.mp q
theorem zjO {CX : CXT} {P : Program} {w : World} {K : zC} {mg : Str -> Option Value} {base : Heap} {N ps : List Str} {qual : Str} {scope : Scope} {f : Addr} {cd : Value} {A : Around} {outer : List Env} {s s1 : Shared} {H : Hp} {E : XK} {us : List Value} {vs : List V}
 (S : FnScope N ps scope) (hd : A.handled = none) (e0 : Env0 P w K mg base A outer s H) (hl : vs.length = ps.length) (r : Vals vs us)
 (x : InCallC s s.heap.objs.size (bindL (envOfC qual scope s.heap.objs.size f cd).kindOf (ps.zip us) λ _ => none) (cellsFrom (s.heap.objs.size + 1) scope.names []) (bindC (envOfC qual scope s.heap.objs.size f cd).kindOf (ps.zip us) λ _ => none) s1) :
 Inv (zgJ CX P w K mg base N qual scope f cd A outer s H E) [] (start N vs) H s1 := by
 have hpl : ps.length <= N.length := by have := congrArg List.length S.pre; rw [zzP] at this; omega
 obtain ⟨h1, tk, rfl, hk⟩ := x.done
 have noA : ∀ b : Addr, b ∉ (zgJ CX P w K mg base N qual scope f cd A outer s H E).ex := λ b z => absurd (show b ∈ ([] : List Addr) from z) (by simp)
 refine ⟨⟨e0.mod, S.kind, rfl, rfl, zzK _, λ y z c h1 h2 => ?_, λ y hy => ?_, λ y c _ h => ?_, λ _ => hd, Around.frames_deeper e0.frames, .inr ⟨rfl, rfl⟩, λ b z => absurd z (noA b), e0.bs, e0.bsz, λ b _ _ => noA b, λ b z => absurd z (noA b), e0.funs, e0.frf⟩,
  rfl, e0.bare, Un.kept hk, ⟨_, x.toInCall.ns, λ i y v h1 h2 h3 => ?_⟩, λ y c h => ⟨_, x.cell y c h⟩, e0.hok.fresh (zzK _), λ y c h => ?_, λ p hp => absurd (show p ∈ ([] : List (Addr × Obj)) from hp) (by simp), e0.hok.kept hk, ?_⟩
 · exact name_of_addr x.apart (PySem.mem_of_lookup h1) (PySem.mem_of_lookup h2)
 · have hy : scope.names.lookup y = some .cell \/ scope.names.lookup y = some .free := hy
   rcases hy with hy | hy
   · exact zgY hy
   · exact absurd rfl (S.nofree _ (PySem.mem_of_lookup hy))
 · exact Nat.le_of_lt (x.above y c (PySem.mem_of_lookup h))
 · have hi : i < vs.length := by
    unfold start at h2
    by_cases hi : i < vs.length
    · exact hi
    · rw [List.getElem?_append_right (by simpa using hi)] at h2
      rw [List.getElem?_replicate] at h2
      split at h2 <;> cases h2
   have ha : vs[i]? = some v := by
    unfold start at h2
    rw [List.getElem?_append_left (by simpa using hi), zzF] at h2
    cases e : vs[i]? with
    | none => rw [e] at h2; cases h2
    | some a => rw [e] at h2; cases h2; rfl
   obtain ⟨u, hu, rv⟩ := r.get ha
   have hp : ps[i]? = some y := by
    rw [<- S.pre, List.getElem?_take_of_lt (by omega)]; exact h1
   have ndP : ps.Nodup := by rw [<- S.pre]; exact S.nd.sublist (List.take_sublist _ _)
   refine ⟨u, rv, ?_⟩
   rcases S.par y (List.mem_of_getElem? hp) with k | k
   · exact .inl ⟨k, zer ndP hp hu k⟩
   · obtain ⟨c, e⟩ := zgY (n := s.heap.objs.size + 1) k
     refine .inr ⟨.inl k, c, e, ?_⟩
     have q := x.cell y c e
     rw [zel ndP hp hu (by show scope.names.lookup y ≠ _; rw [k]; decide)] at q
     exact q
 · exact e0.hok.fresh (Nat.le_of_lt (x.above y c (PySem.mem_of_lookup h)))
 · unfold start
   show _ = N.length
   rw [zzG, zD, List.length_replicate]
   omega
theorem zqS {CX : CXT} {P : Program} {w : World} {K : zC} {mg : Str -> Option Value} {base : Heap} {k : Nat} {f : Addr} {name qual : Str} {params : Arguments} {body : List Stmt} {scope : Scope} {dV kV doc pm cdv ct oc : Value} {an od : Option Addr}
 {osl : Array (Option Value)} {N ps : List Str} {sp : Sp} (lk : K.lookup f = some ⟨oc, od, .func (PySem.W.fnOf name qual params body scope dV kV doc pm an cdv ct), osl⟩) (hcd : PySem.W.codeIn K cdv qual = true) (S : FnScope N ps scope)
 (len : ∀ vs H Q E, sp vs H Q E -> vs.length = ps.length)
 (hbody : ∀ (A : Around) (outer : List Env) (s : Shared) (H : Hp) (vs : List V) (Q : VK) (E : XK), Room k (A.deeper (envOfC qual scope s.heap.objs.size f cdv)) -> sp vs H Q E ->
  ∃ t, PSs (zgJ CX P w K mg base N qual scope f cdv A outer s H E) body t /\ t { nx := λ _ H' => Q .non H', rt := Q } (start N vs) H) :
 FnOk P w K mg base CX (k + 1) f (PySem.W.fnOf name qual params body scope dV kV doc pm an cdv ct) ps sp := by
 refine ⟨len, λ A outer s H args us vs Q E hr e0 hb r hsp => ?_⟩
 have hl := len _ _ _ _ hsp
 have KX : K.In s.heap := e0.mod.kin.keeps λ b o e => (e0.bs b o e).1
 have lim : s.heap.NoLimit := e0.mod.nolimit.keeps λ b o e => (e0.bs b o e).1
 have hkind : ∀ y ∈ ps.zip us, scope.names.lookup y.1 = some .local \/ (scope.names.lookup y.1 = some .cell /\ ((cellsFrom (s.heap.objs.size + 1) scope.names []).lookup y.1).isSome = true) := λ ⟨n, v⟩ hy => by
  rcases S.par n (List.of_mem_zip hy).1 with q | q
  · exact .inl q
  · exact .inr ⟨q, PySem.W.cellsFrom_some _ _ _ (.inl q)⟩
 refine codeAny_call_function hr.depth (KX _ _ lk) rfl S.co S.gen rfl (PySem.W.codeRec_of KX hcd) (hb _ _ _ _ ?_)
 refine wpAny_newFunctionEnv_cells S.kind hkind λ env he s1 x => ?_
 subst he
 refine ⟨lim.keeps x.toInCall.keep, codeAny_func ?_⟩
 obtain ⟨t, ht, hq⟩ := hbody A outer s H vs Q E (hr.deeper _) hsp
 have I : Inv (zgJ CX P w K mg base N qual scope f cdv A outer s H E) [] (start N vs) H s1 := zjO S hr.hd e0 hl r x
 refine wpAny_mono (ht [] s1 (start N vs) H _ I hq) (λ fl s' hs => ?_) λ e s' hs => hs
 have fin : ∀ {σ' : St} {H' : Hp} {v : V} {u : Value}, Inv (zgJ CX P w K mg base N qual scope f cdv A outer s H E) [] σ' H' s' -> RelV v u -> Q v H' -> CE outer P w H s Q u s' :=
  λ {σ' H' v u} J rv q => ⟨v, H', J.os, J.bare, J.base, J.hok, rv, q⟩
 cases fl with
 | ret u =>
  obtain ⟨v, σ', H', J, rv, q⟩ := hs
  exact fin J rv q
 | next =>
  obtain ⟨σ', H', J, q⟩ := hs
  exact fin (v := V.non) (u := Value.none) J rfl q
 | brk =>
  obtain ⟨_, _, _, q⟩ := hs
  exact False.elim q
 | cont =>
  obtain ⟨_, _, _, q⟩ := hs
  exact False.elim q
end L2
namespace L2
open PySem PySem.Spec PyProof.Rows
section
variable {X : Cx} {x : Str} {p pos : Pos} {e : Expr} {es : List Expr} {t : TA} {id T : String} {r : List V -> Hp -> VK -> Prop}
def tCB (r : List V -> Hp -> VK -> Prop) (t : TA) : TE := λ σ H Q => t σ H λ vs H1 => r vs H1 Q
theorem zgN (hc : zbb X (.builtin id) r) (hg : Gl X x) (hm : X.mg x = none) (hv : bootBuiltins x = some (.builtin id)) (ha : PA X (e :: es) t) (hn : x ≠ "__name__" := by decide) (hdb : (x == ("__debug__" : Str)) = false := by decide)
 (he : starEach (e :: es) X.env = (false, eval e X.env) :: starEach es X.env := by rfl) (hpl : (backTo pos (starEach es X.env)).any (·.1) = false := by rfl) : PE X (.Call (.Name x p) (e :: es) [] pos) (tCB r t) := by
 intro pins s σ H Q I h
 refine wpAny_Call_Name_kw (zap I hg hm hv ?_ hn hdb)
 exact PyProof.Rows.callWith_builtin1 (thn (ha pos pins s σ H _ I h) λ us s1 ⟨vs, H1, I1, r1, q1⟩ => hc pins s1 σ H1 vs us Q I1 r1 q1) he hpl
theorem zjl (hc : zbb X (.type T) r) (hg : Gl X x) (hm : X.mg x = none) (hv : bootBuiltins x = some (.type T)) (ha : PA X (e :: es) t) (hn : x ≠ "__name__" := by decide) (hdb : (x == ("__debug__" : Str)) = false := by decide)
 (he : starEach (e :: es) X.env = (false, eval e X.env) :: starEach es X.env := by rfl) (hpl : (backTo pos (starEach es X.env)).any (·.1) = false := by rfl) : PE X (.Call (.Name x p) (e :: es) [] pos) (tCB r t) := by
 intro pins s σ H Q I h
 refine wpAny_Call_Name_kw (zap I hg hm hv ?_ hn hdb)
 exact PyProof.Rows.callWith_type1 (thn (ha pos pins s σ H _ I h) λ us s1 ⟨vs, H1, I1, r1, q1⟩ => hc pins s1 σ H1 vs us Q I1 r1 q1) he hpl
end
end L2
namespace L2
open PySem PySem.Spec PyProof.Rows
section
variable {κ : Type} [DecidableEq κ]
def Yz (kvs : List (κ × V)) (k : κ) : Option V := (kvs.find? λ kv => decide (kv.1 = k)).map (·.2)
def putK (kvs : List (κ × V)) (k : κ) (v : V) : List (κ × V) :=
 if (kvs.any λ kv => decide (kv.1 = k)) = true then kvs.map (λ kv => if kv.1 = k then (kv.1, v) else kv) else kvs ++ [(k, v)]
theorem zdL {p : κ × V} {r : List (κ × V)} {k : κ} (e : p.1 = k) : Yz (p :: r) k = some p.2 := by simp [Yz, List.find?_cons, e]
theorem zdr {p : κ × V} {r : List (κ × V)} {k : κ} (e : ¬ p.1 = k) : Yz (p :: r) k = Yz r k := by simp [Yz, List.find?_cons, e]
theorem zdP (k : κ) : ∀ kvs : List (κ × V), (kvs.any λ kv => decide (kv.1 = k)) = (Yz kvs k).isSome
 | [] => rfl
 | p :: r => by
  rw [List.any_cons]
  by_cases e : p.1 = k
  · simp only [zdL e, decide_eq_true e, Bool.true_or, Option.isSome_some]
  · rw [zdr e, decide_eq_false e, Bool.false_or]; exact zdP k r
theorem zcc (kvs : List (κ × V)) (k : κ) (v : V) : (putK kvs k v).length <= kvs.length + 1 := by
 unfold putK
 split
 · rw [zD]; omega
 · rw [zzG, zzQ, List.length_nil]; omega
theorem zfi.isSome_eq (r : zfi o u) : o.isSome = u.isSome := by
 cases o with
 | none => cases u with
  | none => rfl
  | some _ => exact (show False from r).elim
 | some _ => cases u with
  | none => exact (show False from r).elim
  | some _ => rfl
theorem KV.val {kvs : List (κ × V)} {vs : List (κ × Value)} (r : KV kvs vs) (k : κ) : zfi (Yz kvs k) (valueAt vs k) := by
 unfold KV at r
 induction r with
 | nil => exact True.intro
 | @cons p q ps qs h t ih =>
  obtain ⟨h1, h2⟩ := h
  by_cases e : p.1 = k
  · have e' : q.1 = k := h1.symm.trans e
    have b : valueAt (q :: qs) k = some q.2 := by simp [valueAt, List.find?_cons, e']
    rw [zdL e, b]; exact h2
  · have e' : ¬ q.1 = k := λ z => e (h1.trans z)
    have b : valueAt (q :: qs) k = valueAt qs k := by simp [valueAt, List.find?_cons, e']
    rw [zdr e, b]; exact ih
theorem KV.any (r : KV kvs vs) (k : κ) : (kvs.any λ kv => decide (kv.1 = k)) = vs.any λ kv => decide (kv.1 = k) := by
 unfold KV at r
 induction r with
 | nil => rfl
 | cons h t ih => rw [List.any_cons, List.any_cons, ih, h.1]
theorem KV.repl (r : KV kvs vs) (k : κ) (ry : RelV y u) :
 KV (kvs.map λ kv => if kv.1 = k then (kv.1, y) else kv) (vs.map λ kv => if kv.1 = k then (kv.1, u) else kv) := by
 unfold KV at r ⊢
 induction r with
 | nil => exact .nil
 | @cons p q ps qs h t ih =>
  rw [List.map_cons, List.map_cons]
  refine .cons ?_ ih
  obtain ⟨h1, h2⟩ := h
  by_cases e : p.1 = k
  · rw [if_pos e, if_pos (h1.symm.trans e)]; exact ⟨h1, ry⟩
  · rw [if_neg e, if_neg (λ z => e (h1.trans z))]; exact ⟨h1, h2⟩
theorem KV.put (r : KV kvs vs) (k : κ) (ry : RelV y u) : KV (putK kvs k y) (stored vs k u) := by
 unfold putK stored
 rw [r.any k]
 by_cases e : (vs.any λ kv => decide (kv.1 = k)) = true
 · rw [if_pos e, if_pos e]; exact r.repl k ry
 · rw [if_neg e, if_neg e]; exact Paired.snoc r ⟨rfl, ry⟩
theorem KV.length (r : KV kvs vs) : kvs.length = vs.length := Paired.length r
end
theorem zdq (r : RelV (kV k) u) : (yX P w).is k u = true := by
 cases k with
 | inl i => obtain ⟨t, e⟩ := (show ∃ t, u = Value.int i t from r); subst e; exact zfY P w i t
 | inr x => obtain ⟨t, e⟩ := (show ∃ t, u = Value.str x t from r); subst e; exact W5 P w x t
theorem zeB : ∀ {ks : List Key} {us : List Value}, Vals (ks.map kV) us -> ItemsAre (yX P w) ks us
 | [], _, r => by rw [List.map_nil] at r; cases r; exact .nil
 | k :: ks, _, r => by
  rw [List.map_cons] at r
  cases r with
  | cons h t => exact .cons (zdq h) (zeB t)
abbrev KT (H : Hp) : List (List Key × V) -> List (List Key × Addr × Value) -> Prop := Paired λ p q => p.1 = q.1 /\ H q.2.1 = some (.tup (p.1.map kV)) /\ RelV p.2 q.2.2
theorem KT.val {H : Hp} {kvs : List (List Key × V)} {xs : List (List Key × Addr × Value)} (r : KT H kvs xs) (k : List Key) : zfi (Yz kvs k) ((atKey xs k).map (·.2)) := by
 induction r with
 | nil => exact True.intro
 | @cons p q ps qs h t ih =>
  obtain ⟨h1, _, h2⟩ := h
  by_cases e : p.1 = k
  · have e' : q.1 = k := h1.symm.trans e
    have b : atKey (q :: qs) k = some q.2 := by simp [atKey, List.find?_cons, e']
    rw [zdL e, b]; exact h2
  · have e' : ¬ q.1 = k := λ z => e (h1.trans z)
    have b : atKey (q :: qs) k = atKey qs k := by simp [atKey, List.find?_cons, e']
    rw [zdr e, b]; exact ih
theorem KT.repl (r : KT H kvs xs) (k : List Key) (ry : RelV y u) :
 KT H (kvs.map λ kv => if kv.1 = k then (kv.1, y) else kv) (xs.map (putAt k u)) := by
 induction r with
 | nil => exact .nil
 | @cons p q ps qs h t ih =>
  rw [List.map_cons, List.map_cons]
  refine .cons ?_ ih
  obtain ⟨h1, h2, h3⟩ := h
  unfold putAt
  by_cases e : p.1 = k
  · rw [if_pos e, if_pos (h1.symm.trans e)]; exact ⟨h1, h2, ry⟩
  · rw [if_neg e, if_neg (λ z => e (h1.trans z))]; exact ⟨h1, h2, h3⟩
theorem KT.put (r : KT H kvs xs) (k : List Key) (hb : H b = some (.tup (k.map kV))) (ry : RelV y u) :
 KT H (putK kvs k y) (storedH xs k b u) := by
 have e : (kvs.any λ kv => decide (kv.1 = k)) = (atKey xs k).isSome := by
  rw [zdP, (r.val k).isSome_eq, Option.isSome_map]
 unfold putK storedH
 rw [e]
 by_cases q : (atKey xs k).isSome = true
 · rw [if_pos q, if_pos q]; exact r.repl k ry
 · rw [if_neg q, if_neg q]; exact Paired.snoc r ⟨rfl, hb, ry⟩
theorem KT.keeps (r : KT H kvs xs) (ht : ∀ b ys, H b = some (.tup ys) -> H' b = some (.tup ys)) : KT H' kvs xs :=
 Paired.mapP r λ _ _ z => ⟨z.1, ht _ _ z.2.1, z.2.2⟩
section
variable {P : Program} {w : World} {H : Hp} {h : Heap} {a : Addr}
theorem znN (ok : HOk P w H h) (e : Rd H a u) : wL P w H h a u := e.ok ok
theorem zih (ok : HOk P w H h) (e : Rd H a (.dK kvs)) : kvs.length <= sizeLine /\ (a == sysModules) = false /\ ∃ vs, KV kvs vs /\ h.DictOf (yX P w) a vs :=
 show wL P w H h a (.dK kvs) from znN ok e
theorem zqJ (ok : HOk P w H h) (e : H a = some (.dK kvs)) : kvs.length <= sizeLine /\ (a == sysModules) = false /\ ∃ vs, KV kvs vs /\ h.DictOf (yX P w) a vs := zih ok (.inl e)
theorem zdR (ok : HOk P w H h) (e : H a = some (.tup (ks.map kV))) : (tupleKind (yX P w)).is h ks a := by
 obtain ⟨_, its, r, o, h1, h2, n, h3⟩ := (show wL P w H h a (.tup (ks.map kV)) from ok a _ e)
 exact ⟨o, its.toArray, n, h1, h2, h3, by simpa using zeB r⟩
theorem znY (ok : HOk P w H h) (e : ∃ bs ep, Rd H a (.dT kvs bs ep)) : kvs.length <= sizeLine /\ (a == sysModules) = false /\
 ∃ xs, KT H kvs xs /\ h.DictOfH (tupleKind (yX P w)) a xs := by
 obtain ⟨bs, ep, e⟩ := e
 obtain ⟨z, y, xs, r, _, o, es, h1, h2, h3, h4, h5⟩ := (show wL P w H h a (.dT kvs bs ep) from znN ok e)
 refine ⟨z, y, xs, r, o, es, ep, h1, h2, h3, h4, λ x hx => ?_, h5⟩
 have all : ∀ {l : List (List Key × V)} {m : List (List Key × Addr × Value)}, KT H l m -> ∀ x ∈ m, (tupleKind (yX P w)).is h x.1 x.2.1 := by
  intro l m q
  induction q with
  | nil => intro x hx; exact nomatch hx
  | @cons p q ps qs hq t ih =>
   intro x hx
   rcases zS.mp hx with e | hx
   · subst e
     exact zdR ok (by rw [<- hq.1]; exact hq.2.1)
   · exact ih x hx
 exact all r x hx
end
theorem zmD {P : Program} {w : World} {H : Hp} {h : Heap} {a : Addr} {kvs : List (List Key × V)} {bs : List Addr} {ep : Nat} (ok : HOk P w H h) (e : H a = some (.dT kvs bs ep)) : kvs.length <= sizeLine /\ (a == sysModules) = false /\
 ∃ xs, KT H kvs xs /\ xs.map (·.2.1) = bs /\ h.DictOfH (tupleKind (yX P w)) a xs := by
 obtain ⟨z, y, xs, r, eb, o, es, h1, h2, h3, h4, h5⟩ := (show wL P w H h a (.dT kvs bs ep) from ok a _ e)
 refine ⟨z, y, xs, r, eb, o, es, ep, h1, h2, h3, h4, λ x hx => ?_, h5⟩
 have all : ∀ {l : List (List Key × V)} {m : List (List Key × Addr × Value)}, KT H l m -> ∀ x ∈ m, (tupleKind (yX P w)).is h x.1 x.2.1 := by
  intro l m q
  induction q with
  | nil => intro x hx; exact nomatch hx
  | @cons p q ps qs hq t ih =>
   intro x hx
   rcases zS.mp hx with e | hx
   · subst e
     exact zdR ok (by rw [<- hq.1]; exact hq.2.1)
   · exact ih x hx
 exact all r x hx
def zjs (H : Hp) (a : Addr) (y : V) (r : Option V) : Prop :=
 (∃ kvs k, Rd H a (.dK kvs) /\ y = kV k /\ r = Yz kvs k) \/ ∃ kvs k b, (∃ bs ep, Rd H a (.dT kvs bs ep)) /\ y = .ref b /\ H b = some (.tup (k.map kV)) /\ r = Yz kvs k
def zgr (kvs : List (List Key × V)) (bs : List Addr) (k : List Key) (b : Addr) : List Addr := if (kvs.any λ kv => decide (kv.1 = k)) = true then bs else bs ++ [b]
def zqx (H : Hp) (a : Addr) (y v : V) (P : Hp -> Prop) : Prop :=
 (∃ kvs k, H a = some (.dK kvs) /\ y = kV k /\ kvs.length < sizeLine /\ P (upd H a (.dK (putK kvs k v)))) \/
 ∃ kvs bs ep k b, H a = some (.dT kvs bs ep) /\ y = .ref b /\ H b = some (.tup (k.map kV)) /\ kvs.length < sizeLine /\ ∀ ep', P (upd H a (.dT (putK kvs k v) (zgr kvs bs k b) ep'))
theorem zjs.t {H : Hp} {a b : Addr} {kvs : List (List Key × V)} {bs : List Addr} {ep : Nat} {k : List Key} (e : H a = some (.dT kvs bs ep)) (eb : H b = some (.tup (k.map kV))) : zjs H a (.ref b) (Yz kvs k) := .inr ⟨kvs, k, b, ⟨_, _, .inl e⟩, rfl, eb, rfl⟩
section
variable {X : Cx} {pins : List (Addr × Obj)} {σ : St} {H : Hp} {s : Shared} {a : Addr} {y v : V} {u r : Value} {o : Option V} {A : Around} {E : Value -> Shared -> Prop}
theorem Inv.big (I : Inv X pins σ H s) : sysModules < s.heap.objs.size := by
 have h : mainGlobals < s.heap.objs.size := (I.mod.glob.keeps I.bk).lt
 exact Nat.lt_trans (by decide) h
theorem zsb (hu : A.units + 1 < cLine) (I : Inv X pins σ H s) (g : zjs H a y o) (ry : RelV y u) (h : ∀ s', Inv X pins σ H s' -> Q (.bool o.isSome) s') :
 wpAny (model X.prog X.w) A (compareOp .In u (.ref a)) Q E s := by
 rcases g with ⟨kvs, k, e, ey, l⟩ | ⟨kvs, k, b, e, ey, eb, l⟩
 · subst ey
   obtain ⟨z, hd, vs, rel, dd⟩ := zih I.hok e
   refine wpAny_in_of (zdq ry) hd dd.mapOf ?_
   rw [<- (rel.val k).isSome_eq, <- l]
   exact h _ (I.tok _)
 · subst ey
   cases (show u = Value.ref b from ry)
   obtain ⟨z, hd, xs, rel, dd⟩ := znY I.hok e
   refine wpAny_in_heap (tupleKind_room_in1 hu) (zdR I.hok eb) hd dd ?_
   have q := (rel.val k).isSome_eq
   rw [Option.isSome_map] at q
   rw [<- q, <- l]
   exact h _ (I.tok _)
theorem zmQ (hu : A.units + 1 < cLine) (I : Inv X pins σ H s) (g : zjs H a y o) (ry : RelV y u) (h : ∀ s', Inv X pins σ H s' -> Q (.bool (!o.isSome)) s') :
 wpAny (model X.prog X.w) A (compareOp .NotIn u (.ref a)) Q E s := by
 rcases g with ⟨kvs, k, e, ey, l⟩ | ⟨kvs, k, b, e, ey, eb, l⟩
 · subst ey
   obtain ⟨z, hd, vs, rel, dd⟩ := zih I.hok e
   refine wpAny_notIn_of (zdq ry) hd dd.mapOf ?_
   rw [<- (rel.val k).isSome_eq, <- l]
   exact h _ (I.tok _)
 · subst ey
   cases (show u = Value.ref b from ry)
   obtain ⟨z, hd, xs, rel, dd⟩ := znY I.hok e
   refine wpAny_notIn_heap (tupleKind_room_in1 hu) (zdR I.hok eb) hd dd ?_
   have q := (rel.val k).isSome_eq
   rw [Option.isSome_map] at q
   rw [<- q, <- l]
   exact h _ (I.tok _)
theorem ziG (I : Inv X pins σ H s) (mu : Mut (H a)) (hs : Heap.SameBut a s.heap h') (he : ∃ q, h'.get? a = some q) (new : wL X.prog X.w (upd H a ob) h' a ob) :
 Inv X pins σ (upd H a ob) { s with heap := h', toks := t' } :=
 I.write (x := a) (e := a) mu (.inl rfl) (λ b q hb z => (hs.2 b hb).trans z) he new
theorem zqb (z : kvs.length <= sizeLine) (hd : (a == sysModules) = false) (rel : KV kvs vs) (dd : h'.DictOf (yX P w) a vs) :
 wL P w H' h' a (.dK kvs) := ⟨z, hd, vs, rel, dd⟩
theorem zjT (hu : A.units + 1 < cLine) (I : Inv X pins σ H s) {P : Hp -> Prop} (g : zqx H a y v P) (ry : RelV y u) (rv : RelV v r) (h : ∀ H' s', P H' -> Inv X pins σ H' s' -> Q () s') :
 wpAny (model X.prog X.w) A (setItem (.ref a) u r) Q E s := by
 rcases g with ⟨kvs, k, e, ey, l, eH⟩ | ⟨kvs, bs, ep, k, b, e, ey, eb, l, eH⟩
 · subst ey
   obtain ⟨z, hd, vs, rel, dd⟩ := zqJ I.hok e
   have hz : vs.length <= sizeLine := by rw [<- rel.length]; exact z
   have hl : (putK kvs k v).length <= sizeLine := by have := zcc kvs k v; omega
   refine wpAny_setItem_pairs (hsz := hz) (zdq ry) dd λ h' dd' hs => h _ _ eH ?_
   have he : ∃ q, h'.get? a = some q := let ⟨q, _, _, hq, _⟩ := dd'; ⟨q, hq⟩
   exact ziG I (by rw [e]; exact True.intro) hs he (zqb hl hd (rel.put k rv) dd')
 · subst ey
   cases (show u = Value.ref b from ry)
   obtain ⟨z, hd, xs, rel, exb, dd⟩ := zmD I.hok e
   have hz : xs.length <= sizeLine := by rw [<- Paired.length rel]; exact z
   have hl : (putK kvs k v).length <= sizeLine := by have := zcc kvs k v; omega
   refine wpAny_setItem_heap (hsz := hz) (tupleKind_room_in1 hu) (zdR I.hok eb) dd λ h' dd' hs => ?_
   obtain ⟨q, es, ep', hq, h2, h3, h4, _, h5⟩ := dd'
   refine h _ _ (eH ep') (ziG I (by rw [e]; exact True.intro) hs ⟨q, hq⟩ ⟨hl, hd, _, (rel.put k eb rv).keeps λ c ys ec => ?_, ?_, q, es, hq, h2, h3, h4, h5⟩)
   · rw [yd (zqn ec e (λ z => nomatch z))]
     exact ec
   · have ek : (kvs.any λ kv => decide (kv.1 = k)) = (atKey xs k).isSome := by
      rw [zdP, (rel.val k).isSome_eq, Option.isSome_map]
     unfold storedH zgr
     rw [ek]
     by_cases q : (atKey xs k).isSome = true
     · rw [if_pos q, if_pos q, <- exb, List.map_map]
       refine List.map_congr_left λ x _ => ?_
       show (putAt k r x).2.1 = x.2.1
       unfold putAt
       split <;> rfl
     · rw [if_neg q, if_neg q, List.map_append, exb]; rfl
end
def zqI (td ty tv : TE) : TS := λ D σ H => tv σ H λ v H1 => td σ H1 λ x H2 => ty σ H2 λ y H3 => ∃ a, x = .ref a /\ zqx H3 a y v (D.nx σ)
section
variable {X : Cx} {o i e value : Expr} {pos pos' tpos : Pos} {td ty tv : TE}
theorem ziM (hu : X.A.units + 1 < cLine) (ho : PE X o td) (hi : PE X i ty) (hv : PE X value tv) (hs : swapsWith value (some (.Subscript o i pos')) pos.line X.env = pure false) :
 PS X (.Assign [.Subscript o i pos'] value pos) (zqI td ty tv) := by
 intro pins s σ H D I h
 refine wpAny_Assign_Subscript (thn (hv pins s σ H _ I h) λ r s1 ⟨v, H1, I1, rv, q1⟩ => thn (ho pins s1 σ H1 _ I1 q1) λ u s2 ⟨x, H2, I2, rx, q2⟩ => thn (hi pins s2 σ H2 _ I2 q2) λ iv s3 ⟨y, H3, I3, ry, a, ex, g⟩ => ?_) hs
 subst ex
 obtain rfl : u = Value.ref a := rx
 exact zjT hu I3 g ry rv λ H4 s4 q3 I4 => ⟨σ, H4, I4, q3⟩
end
theorem zkH (h : Heap) (hb : sysModules < h.objs.size) : wL P w H (h.push { cls := .type "dict", data := .dict #[] }) h.objs.size (.dT [] [] 0) :=
 ⟨Nat.zero_le _, beq_eq_false_iff_ne.mpr (Ne.symm (zzN hb)), [], .nil, rfl, _, #[], Heap.get?_push_size _ rfl, ⟨rfl, rfl, rfl⟩, rfl, rfl, List.nodup_nil⟩
def zoc : TE := λ _ H Q => ∀ p, H p = none -> Q (.ref p) (upd H p (.dT [] [] 0))
section
variable {X : Cx} {pos : Pos}
theorem zlh : PE X (.Dict [] [] pos) zoc := λ pins s σ H Q I h =>
 wpAny_Dict_empty ⟨.ref s.heap.objs.size, _, I.laid (a := s.heap.objs.size) (o := .dT [] [] 0) (t' := s.toks) (λ _ _ q => Heap.get?_push_of_some _ q) (zzK _) (zkH s.heap I.big), rfl, h _ (I.hok.fresh (zzK _))⟩
end
structure M1 (X : Cx) (o : Expr) (m : Str) (apos : Pos) (e : Expr) (cpos : Pos) : Prop where
 base : attributeBase o m X.env (eval o X.env) = eval o X.env
 few : ((backTo cpos (starEach [e] X.env)).all (λ x => !x.1) && (backToKw cpos (keywordEach [] X.env)).all (λ x => x.1.isSome)
  && decide (([e] : List Expr).length + ([] : List Keyword).length + (if ([] : List Keyword).isEmpty then 0 else 1) < 30)) = true
 line : (apos.endLine == cpos.line) = true
 trees : backTo cpos (starEach [e] X.env) = [(false, eval e X.env)]
structure M2 (X : Cx) (o : Expr) (m : Str) (apos : Pos) (e f : Expr) (cpos : Pos) : Prop where
 base : attributeBase o m X.env (eval o X.env) = eval o X.env
 few : ((backTo cpos (starEach [e, f] X.env)).all (λ x => !x.1) && (backToKw cpos (keywordEach [] X.env)).all (λ x => x.1.isSome)
  && decide (([e, f] : List Expr).length + ([] : List Keyword).length + (if ([] : List Keyword).isEmpty then 0 else 1) < 30)) = true
 line : (apos.endLine == cpos.line) = true
 trees : backTo cpos (starEach [e, f] X.env) = [(false, eval e X.env), (false, eval f X.env)]
end L2
namespace HT
open PySem PyProof.Rows
section
variable {prog : Program} {w : World} {A : Around} {E : Value -> Shared -> Prop} {s : Shared}
theorem zmW (ht : IsTup s.heap t vs.toArray) (hb : IsTup s.heap b ws.toArray) (hv : vs ≠ [])
 (h1 : ws = [] -> Q (.ref t) s) (h2 : ws ≠ [] -> Q (.ref s.heap.objs.size) { s with heap := s.heap.push { cls := .type "tuple", data := .seq (vs ++ ws).toArray } })
 (hsz : vs.length + ws.length <= sizeLine) : wpAny (model prog w) A (binaryOp .Add (.ref t) (.ref b)) Q E s := by
 obtain ⟨⟨cls, dd, data, sl⟩, ho, hc, n, hd⟩ := id ht
 obtain ⟨⟨cls2, dd2, data2, sl2⟩, ho2, hc2, n2, hd2⟩ := id hb
 simp only at hc hd hc2 hd2
 subst hc hd hc2 hd2
 have e : vs.toArray ++ ws.toArray = (vs ++ ws).toArray := by simp
 by_cases hw : ws = []
 · exact concat_meets ⟨_, ho, rfl⟩ ⟨_, ho2, rfl⟩ noFill_tuple_add seq_tuple_add PySem.F.slot_tuple_add PySem.F.entry_tuple_add (PySem.F.args_tuple_add_2 _ _)
    (tuple_addW1 t b vs.toArray ws.toArray n n2 dd dd2 sl sl2 (by simpa using hv) (by simp [hw])) ⟨ho, ho2, h1 hw⟩
 · refine concat_meets ⟨_, ho, rfl⟩ ⟨_, ho2, rfl⟩ noFill_tuple_add seq_tuple_add PySem.F.slot_tuple_add PySem.F.entry_tuple_add (PySem.F.args_tuple_add_2 _ _)
    (tuple_addW2 t b vs.toArray ws.toArray n n2 dd dd2 sl sl2 (by simpa using hv) (by simpa using hw) (by rw [zzE, zzE]; exact hsz)) ⟨ho, ho2, ?_⟩
   rw [e]
   exact h2 hw
def sIx (n d : Nat) : Option Int -> Nat
 | none => d
 | some v => if v < 0 then (v + (n : Int)).toNat else min v.toNat n
theorem zla (n d : Nat) : sIx n d none = d := rfl
theorem znw (n d k : Nat) : sIx n d (some (k : Int)) = min k n := by
 show (if (k : Int) < 0 then ((k : Int) + (n : Int)).toNat else min (k : Int).toNat n) = min k n
 rw [if_neg (by omega), Int.toNat_natCast]
theorem zol (n d : Nat) (hd : d <= n) (o : Option Int) : sIx n d o <= n := by
 cases o with
 | none => exact hd
 | some v =>
  show (if v < 0 then (v + (n : Int)).toNat else min v.toNat n) <= n
  by_cases hv : v < 0
  · rw [if_pos hv]; omega
  · rw [if_neg hv]; exact Nat.min_le_right _ _
theorem ziH (v : Int) (n d : Nat) : (if v < 0 then max (v + (n : Int)) 0 else min v (n : Int)) = ((sIx n d (some v) : Nat) : Int) := by
 show (if v < 0 then max (v + (n : Int)) 0 else min v (n : Int)) = (((if v < 0 then (v + (n : Int)).toNat else min v.toNat n) : Nat) : Int)
 by_cases hv : v < 0
 · simp only [if_pos hv]; omega
 · simp only [if_neg hv]; omega
theorem zhU (lo hi : Option Int) (n : Nat) : Builtin.Slice.sliceAdjust lo hi 1 (n : Int) = (((sIx n 0 lo : Nat) : Int), ((sIx n n hi : Nat) : Int)) := by
 have h1 : ¬ ((1 : Int) < 0) := by omega
 unfold Builtin.Slice.sliceAdjust
 simp only [h1, if_false]
 refine Prod.ext ?_ ?_
 · cases lo with
   | none => rfl
   | some v => exact ziH v n 0
 · cases hi with
   | none => rfl
   | some v => exact ziH v n n
theorem zhw (i j : Nat) : Builtin.Slice.slicePlaces (i : Int) (j : Int) 1 = j - i := by
 unfold Builtin.Slice.slicePlaces
 have h1 : (1 : Int) > 0 := by omega
 simp only [h1, if_true, Int.ediv_one]
 split <;> omega
theorem zdl (p : IsPart v o) (h : Q o s) : wpAny (model prog w) A (Builtin.Slice.slicePartIndex v) Q E s := by
 cases p with
 | none => exact slicePart_none h
 | int i t => exact slicePart_int h
theorem zbC {sl : Addr} {vl vu : Value} {lo hi : Option Int} {n : Nat} {Q : Int × Int × Nat -> Shared -> Prop} (hs : s.heap.IsSliceOf sl vl vu .none) (pl : IsPart vl lo) (pu : IsPart vu hi)
 (h : Q (((sIx n 0 lo : Nat) : Int), 1, sIx n n hi - sIx n 0 lo) s) : wpAny (model prog w) A (Builtin.Slice.sliceApplied (.ref sl) (pure (n : Int))) Q E s := by
 obtain ⟨os, hos, hcs, hds⟩ := id hs
 unfold Builtin.Slice.sliceApplied Builtin.Slice.sliceFields
 refine wpAny_bind (wpAny_bind (wpAny_field hos hds (x := vl) rfl (wpAny_bind (wpAny_field hos hds (x := vu) rfl (wpAny_bind (wpAny_field hos hds (x := .none) rfl (wpAny_pure ?_)))))))
 refine wpAny_bind (slicePart_none ?_)
 show wpAny _ _ (if ((1 : Int) == 0) = true then _ else _) _ _ s
 rw [if_neg (by decide)]
 refine wpAny_bind (zdl pl (wpAny_bind (zdl pu (wpAny_bind (wpAny_pure ?_)))))
 show wpAny _ _ (match Builtin.Slice.sliceAdjust lo hi 1 (n : Int) with | (lo, hi) => pure (lo, (1 : Int), Builtin.Slice.slicePlaces lo hi 1)) _ _ s
 rw [zhU lo hi n]
 show wpAny _ _ (pure (((sIx n 0 lo : Nat) : Int), (1 : Int), Builtin.Slice.slicePlaces ((sIx n 0 lo : Nat) : Int) ((sIx n n hi : Nat) : Int) 1)) _ _ s
 rw [zhw]
 exact wpAny_pure h
theorem zkX (xs : Array Value) (i k : Nat) : ((List.range k).filterMap λ (m : Nat) => xs[((i : Int) + (m : Int) * 1).toNat]?).toArray = ((xs.toList.drop i).take k).toArray := by
 have e : (λ (m : Nat) => xs[((i : Int) + (m : Int) * 1).toNat]?) = λ m => xs[i + m]? := by
  funext m
  have : ((i : Int) + (m : Int) * 1).toNat = i + m := by omega
  rw [this]
 rw [e]
 have := pick_run xs i k
 rw [List.filterMap_map] at this
 have e2 : ((λ x => xs[x]?) ∘ λ x => i + x) = λ m => xs[i + m]? := rfl
 rw [e2] at this
 rw [this]
theorem zaN {t sl : Addr} {items : Array Value} {vl vu : Value} {lo hi : Option Int} {Q : Value -> Shared -> Prop} (ht : IsTup s.heap t items) (hs : s.heap.IsSliceOf sl vl vu .none) (pl : IsPart vl lo) (pu : IsPart vu hi)
 (hw : ¬ (sIx items.size 0 lo = 0 /\ sIx items.size items.size hi = items.size))
 (h : Q (.ref s.heap.objs.size) { s with heap := s.heap.push { cls := .type "tuple", data := .seq ((items.toList.drop (sIx items.size 0 lo)).take (sIx items.size items.size hi - sIx items.size 0 lo)).toArray } })
 (hsz : items.size <= sizeLine) : wpAny (model prog w) A (getItem (.ref t) (.ref sl)) Q E s := by
 have htake : sizeOk (.seq ((items.toList.drop (sIx items.size 0 lo)).take (sIx items.size items.size hi - sIx items.size 0 lo)).toArray) := by
  show ((items.toList.drop (sIx items.size 0 lo)).take (sIx items.size items.size hi - sIx items.size 0 lo)).toArray.size <= sizeLine
  rw [zzE, zzP, List.length_drop, Array.length_toList]
  omega
 have hj : sIx items.size items.size hi <= items.size := zol _ _ (zzK _) hi
 obtain ⟨os, hos, hcs, hds⟩ := id hs
 have hTs : s.TypeIs (.ref sl) "slice" := ⟨os, hos, hcs⟩
 unfold getItem
 try with_reducible refine wpAny_holding ?_
 first | refine wpAny_bind (wpAny_pure ?_) | skip
 refine wpAny_bind (wpAny_sequenceKey ht.typeIs (by decide) ?_)
 refine wpAny_bind (wpAny_callSpecial?_slot (name := Str.ofString "__getitem__") ht.typeIs PyProof.Rows.slot_tuple_getitem
  (wpAny_call_entry PyProof.Rows.slot_tuple_getitem ht.typeIs entry_tuple_getitem ?_ (args_tuple_getitem _ _)))
 show wpAny _ _ (Builtin.Tuple.tupleItemsOf (.ref t) >>= _) _ _ s
 refine wpAny_bind (tupleItemsOf_ ht ?_)
 refine wpAny_bind (wpAny_typeOf hTs ?_)
 rw [if_pos (by decide)]
 refine wpAny_bind (zbC hs pl pu ?_)
 have hno : ¬ ((((sIx items.size 0 lo : Nat) : Int) == 0 && (1 : Int) == 1 && (sIx items.size items.size hi - sIx items.size 0 lo) == items.size) = true) := by
  intro q
  rw [Bool.and_eq_true, Bool.and_eq_true] at q
  have q1 : ((sIx items.size 0 lo : Nat) : Int) = 0 := eq_of_beq q.1.1
  have q2 : sIx items.size items.size hi - sIx items.size 0 lo = items.size := eq_of_beq q.2
  exact hw ⟨by omega, by omega⟩
 show wpAny _ _ (if (((sIx items.size 0 lo : Nat) : Int) == 0 && (1 : Int) == 1 && (sIx items.size items.size hi - sIx items.size 0 lo) == items.size) = true then _ else _) _ _ s
 rw [if_neg hno, zkX]
 first
  | exact wpAny_bind (m := Builtin.Tuple.tupleExact _) (wpAny_newObj_type (wpAny_pure ⟨_, rfl, wpAny_pure h⟩) htake)
  | exact wpAny_bind (m := Builtin.Tuple.tupleExact _) (wpAny_newObj_type (wpAny_bind (wpAny_pure (wpAny_pure ⟨_, rfl, wpAny_pure h⟩))) htake)
  | exact wpAny_bind (wpAny_bind (m := Builtin.Tuple.tupleExact _) (wpAny_newObj_type (wpAny_pure (wpAny_pure ⟨_, rfl, wpAny_pure h⟩)) htake))
  | exact wpAny_bind (wpAny_bind (m := Builtin.Tuple.tupleExact _) (wpAny_newObj_type (wpAny_pure ⟨_, rfl, wpAny_pure h⟩) htake))
end
end HT
namespace L2
open PySem PySem.Spec PyProof.Rows
abbrev TO := St -> Hp -> (Option Int -> Hp -> Prop) -> Prop
def PO (X : Cx) (e : Option Expr) (t : TO) : Prop :=
 ∀ (pins : List (Addr × Obj)) (s : Shared) (σ : St) (H : Hp) (Q : Option Int -> Hp -> Prop), Inv X pins σ H s -> t σ H Q ->
  wpAny (model X.prog X.w) X.A (evalPart e X.env) (λ u s' => ∃ o H', Inv X pins σ H' s' /\ IsPart u o /\ Q o H') X.xe s
def zmN : TO := λ _ H Q => Q none H
def zqy (t : TE) : TO := λ σ H Q => t σ H λ x H1 => ∃ i, x = .int i /\ Q (some i) H1
theorem intsAre_of : ∀ {us : List Value}, Vals (ns.map V.int) us -> IntsAre us ns := by
 induction ns with
 | nil => intro us r; rw [List.map_nil] at r; cases r; exact .nil
 | cons n ns ih =>
  intro us r
  rw [List.map_cons] at r
  cases r with
  | cons r1 r2 =>
   obtain ⟨t, e⟩ := r1
   subst e
   exact .cons n t (ih r2)
section
variable {X : Cx} {e : Expr} {te : TE} {lo hi : Option Expr} {tl th : TO} {pos p2 : Pos}
theorem znd : PO X none zmN := by
 intro pins s σ H Q I h
 rw [evalPart_none]
 exact wpAny_pure ⟨none, H, I, .none, h⟩
theorem zmu (h : PE X e te) : PO X (some e) (zqy te) := by
 intro pins s σ H Q I hw
 rw [evalPart_some]
 refine thn (h pins s σ H _ I hw) λ u s1 ⟨x, H1, I1, r1, q1⟩ => ?_
 obtain ⟨i, rfl, q⟩ := q1
 obtain ⟨t, rfl⟩ := r1
 exact ⟨some i, H1, I1, .int i t, q⟩
def SlR (X : Cx) (r : V -> Option Int -> Option Int -> Hp -> VK -> Prop) : Prop :=
 ∀ (pins : List (Addr × Obj)) (s : Shared) (σ : St) (H : Hp) (x : V) (v vl vu : Value) (lo hi : Option Int) (sl : Addr) (Q : VK), Inv X pins σ H s -> RelV x v -> s.heap.IsSliceOf sl vl vu .none -> IsPart vl lo -> IsPart vu hi -> r x lo hi H Q ->
  ∃ T id, typeLookup (.type T) "__getitem__" = pure (some (.builtin id)) /\ s.TypeIs v T /\ wpAny (model X.prog X.w) X.A (getItem v (.ref sl)) (EP X pins σ Q) X.xe s
def tSl (r : V -> Option Int -> Option Int -> Hp -> VK -> Prop) (te : TE) (tl th : TO) : TE := λ σ H Q => te σ H λ x H1 => tl σ H1 λ l H2 => th σ H2 λ u H3 => r x l u H3 Q
theorem zlz (hr : SlR X r) (he : PE X e te) (hl : PO X lo tl) (hu : PO X hi th) : PE X (.Subscript e (.Slice lo hi none p2) pos) (tSl r te tl th) := by
 intro pins s σ H Q I h
 refine Subscript_ (thn (he pins s σ H _ I h) λ v s1 ⟨x, H1, I1, r1, q1⟩ => ?_)
 refine wpAny_Slice (thn (hl pins s1 σ H1 _ I1 q1) λ vl s2 ⟨l, H2, I2, pl, q2⟩ => thn (hu pins s2 σ H2 _ I2 q2) λ vu s3 ⟨u, H3, I3, pu, q3⟩ => ?_)
 rw [evalPart_none]
 refine wpAny_pure ?_
 have I4 : Inv X pins σ H3 { s3 with heap := s3.heap.push { cls := .type "slice", data := .fields #[vl, vu, .none] } } := I3.kept (t' := s3.toks) λ b ob q => Heap.get?_push_of_some _ q
 obtain ⟨T, id, hT, ht, hg⟩ := hr pins { s3 with heap := s3.heap.push { cls := .type "slice", data := .fields #[vl, vu, .none] } } σ H3 x v vl vu l u s3.heap.objs.size Q I4 r1 (Heap.IsSliceOf.new ..) pl pu q3
 show wpAny (model X.prog X.w) X.A (subscriptTail e (.Slice lo hi none p2) v (.ref s3.heap.objs.size)) (EP X pins σ Q) X.xe { s3 with heap := s3.heap.push { cls := .type "slice", data := .fields #[vl, vu, .none] } }
 exact tail_any (ops := [.ref s3.heap.objs.size, v]) ht hT hg (by with_unfolding_all rfl)
def zgs (xs : List V) (lo hi : Option Int) : List V := (xs.drop (HT.sIx xs.length 0 lo)).take (HT.sIx xs.length xs.length hi - HT.sIx xs.length 0 lo)
theorem zco (xs : List V) (lo hi : Option Int) : (zgs xs lo hi).length <= xs.length := by
 unfold zgs
 rw [zzP, List.length_drop]
 omega
def zrS (K : zC) : V -> Option Int -> Option Int -> Hp -> VK -> Prop := λ x lo hi H Q => ∃ a xs, x = .ref a /\ SqT K H a xs /\
 ¬ (HT.sIx xs.length 0 lo = 0 /\ HT.sIx xs.length xs.length hi = xs.length) /\ ∀ p, H p = none -> Q (.ref p) (upd H p (.tup (zgs xs lo hi)))
theorem zop : SlR X (zrS X.K) := by
 intro pins s σ H x v vl vu lo hi sl Q I rx hs pl pu h
 obtain ⟨a, xs, rfl, hx, hw, q⟩ := h
 cases rx
 obtain ⟨its, r, ht, hz⟩ := I.tuple hx
 have hlen : its.toArray.size = xs.length := by rw [zzE]; exact r.length.symm
 refine ⟨"tuple", _, PyProof.Rows.slot_tuple_getitem.lookup, ht.typeIs, ?_⟩
 refine HT.zaN ht hs pl pu (by rw [hlen]; exact hw) ?_ (by rw [hlen]; exact hz)
 rw [hlen]
 refine ⟨.ref s.heap.objs.size, _, I.laid (t' := s.toks) (o := .tup (zgs xs lo hi)) (λ b ob q => Heap.get?_push_of_some _ q) (zzK _) ?_, rfl, q _ (I.hok.fresh (zzK _))⟩
 exact ⟨zzL (zco xs lo hi) hz, _, (r.drop (HT.sIx xs.length 0 lo)).take (HT.sIx xs.length xs.length hi - HT.sIx xs.length 0 lo), IsTup.new _ _⟩
def zqq (K : zC) : R2 := λ x y H Q => ∃ a b xs ys, x = .ref a /\ y = .ref b /\ SqT K H a xs /\ SqT K H b ys /\ xs ≠ [] /\ xs.length + ys.length <= sizeLine /\
 (ys = [] -> Q (.ref a) H) /\ (ys ≠ [] -> ∀ p, H p = none -> Q (.ref p) (upd H p (.tup (xs ++ ys))))
theorem Vals.nil_iff (r : Vals xs us) : us = [] ↔ xs = [] := by
 cases r with
 | nil => simp
 | cons _ _ => simp
theorem zmd : OpR X (binaryOp .Add) (zqq X.K) := by
 intro pins s σ H x y v u Q I rx ry h
 obtain ⟨a, b, xs, ys, rfl, rfl, ha, hb, hx, hz, q1, q2⟩ := h
 cases rx
 cases ry
 obtain ⟨its, r1, p1, _⟩ := I.tuple ha
 obtain ⟨its2, r2, p2, _⟩ := I.tuple hb
 refine HT.zmW p1 p2 (λ z => hx (r1.nil_iff.mp z)) (λ z => ⟨.ref a, H, I, rfl, q1 (r2.nil_iff.mp z)⟩) (λ z => ?_) (by rw [<- r1.length, <- r2.length]; exact hz)
 refine ⟨.ref s.heap.objs.size, _, I.laid (t' := s.toks) (o := .tup (xs ++ ys)) (λ b ob q => Heap.get?_push_of_some _ q) (zzK _) ?_, rfl, q2 (λ w => z (r2.nil_iff.mpr w)) _ (I.hok.fresh (zzK _))⟩
 exact ⟨by rw [zzG]; exact hz, _, r1.append r2, IsTup.new _ _⟩
end
end L2
namespace L2
open PySem PySem.Spec PyProof.Rows
def ixN (n : Nat) (i : Int) : Option Nat := if 0 <= i then (if i < n then some i.toNat else none) else if -(n : Int) <= i then some (i + n).toNat else none
def atI {α : Type} (xs : List α) (i : Int) : Option α := (ixN xs.length i).bind λ j => xs[j]?
theorem ziB (h : ixN n i = some j) : seqIndex? i n = some j /\ j < n /\ -(n : Int) <= i /\ i < n := by
 unfold ixN at h
 by_cases h0 : 0 <= i
 · rw [if_pos h0] at h
   by_cases h1 : i < n
   · rw [if_pos h1] at h
     have e : i.toNat = j := Option.some.inj h
     exact ⟨by rw [seqIndex_of h0 h1, e], by omega, by omega, h1⟩
   · rw [if_neg h1] at h; cases h
 · rw [if_neg h0] at h
   by_cases h1 : -(n : Int) <= i
   · rw [if_pos h1] at h
     have e : (i + n).toNat = j := Option.some.inj h
     exact ⟨by rw [seqIndex_neg (by omega) h1, e], by omega, h1, by omega⟩
   · rw [if_neg h1] at h; cases h
theorem zfN (h : atI xs i = some v) : ∃ j, seqIndex? i xs.length = some j /\ xs[j]? = some v /\ j < xs.length /\ -(xs.length : Int) <= i /\ i < xs.length := by
 unfold atI at h
 cases e : ixN xs.length i with
 | none => rw [e] at h; cases h
 | some j =>
  rw [e] at h
  obtain ⟨h1, h2, h3, h4⟩ := ziB e
  exact ⟨j, h1, h, h2, h3, h4⟩
theorem Xy {α : Type} {xs : List α} {j : Nat} {v : α} (h : xs[j]? = some v) : atI xs (j : Int) = some v := by
 have hj : j < xs.length := (zzD.mp h).1
 have e : ixN xs.length (j : Int) = some j := by
  unfold ixN
  rw [if_pos (by omega), if_pos (by omega)]; simp
 unfold atI; rw [e]; exact h
def zbi (b : Expr) : Prop := ∀ o i, subscripted b false o i = operate [o, i] (getItem o i)
def IxR (X : Cx) (r : R2) : Prop :=
 ∀ (value slice : Expr) (pins : List (Addr × Obj)) (s : Shared) (σ : St) (H : Hp) (x y : V) (v u : Value) (Q : VK), Inv X pins σ H s -> RelV x v -> RelV y u -> r x y H Q ->
  subscripted slice false v u = operate [v, u] (getItem v u) -> wpAny (model X.prog X.w) X.A (subscriptTail value slice v u) (EP X pins σ Q) X.xe s
def MtR (X : Cx) (id : String) (r : V -> List V -> Hp -> VK -> Prop) : Prop :=
 ∀ (pins : List (Addr × Obj)) (s : Shared) (σ : St) (H : Hp) (x : V) (xs : List V) (v : Value) (us : List Value) (Q : VK), Inv X pins σ H s -> RelV x v -> Vals xs us -> r x xs H Q ->
  wpAny (model X.prog X.w) X.A (call (.builtin id) (v :: us)) (EP X pins σ Q) X.xe s
section
variable {X : Cx} {a b : Expr} {ta tb : TE} {pos : Pos}
theorem zke (hr : IxR X r) (ha : PE X a ta) (hb : PE X b tb) (hs : zbi b) : PE X (.Subscript a b pos) (tOp r ta tb) := by
 intro pins s σ H Q I h
 exact Subscript_ (zpi ha hb I h λ v u s2 x y H2 I2 rx ry q => hr a b pins s2 σ H2 x y v u Q I2 rx ry q (hs _ _))
def zrL (K : zC) : R2 := λ x y H Q => ∃ p xs i v, x = .ref p /\ y = .int i /\ SqL K H p xs /\ atI xs i = some v /\ Q v H
def zsc (K : zC) : R2 := λ x y H Q => ∃ p xs i v, x = .ref p /\ y = .int i /\ SqT K H p xs /\ atI xs i = some v /\ Q v H
def zrj : R2 := λ x y H Q => ∃ z i c, x = .str z /\ y = .int i /\ z.length <= sizeLine /\ atI z.cps.toList i = some c /\ Q (.str ⟨#[c]⟩) H
theorem zfn : IxR X (zrL X.K) := by
 intro value slice pins s σ H x y v u Q I rx ry h hs
 obtain ⟨p, xs, i, z, rfl, rfl, hq, he, q⟩ := h
 cases rx
 obtain ⟨t, rfl⟩ := ry
 obtain ⟨its, r, pl, hz⟩ := I.list hq
 obtain ⟨j, h1, h2, h3, h4, h5⟩ := zfN he
 obtain ⟨w, ew, rw'⟩ := r.get h2
 have hl := r.length
 have hn := zav
 have fin : EP X pins σ Q w s := ⟨z, H, I, rw', q⟩
 by_cases h0 : 0 <= i
 · have hj : i.toNat = j := by
    rw [seqIndex_of h0 h5] at h1
    exact Option.some.inj h1
   exact item_listR pl.isList h0 (by omega) (by rw [hj]; simpa using ew) fin hs
 · have hj : (i + (its.toArray.size : Int)).toNat = j := by
    rw [seqIndex_neg (by omega) h4] at h1
    rw [zzE, <- hl]
    exact Option.some.inj h1
   exact subscriptTail_builtinR (x := w) pl.isList.typeIs slot_list_getitem.lookup
    (wpAny_getItem_list_neg (Q := λ r s' => r = w /\ EP X pins σ Q r s') pl.isList (by omega) (by rw [zzE] <;> omega) (by omega) (by rw [hj]; simpa using ew) ⟨rfl, fin⟩) hs
theorem zpT : IxR X (zsc X.K) := by
 intro value slice pins s σ H x y v u Q I rx ry h hs
 obtain ⟨p, xs, i, z, rfl, rfl, hq, he, q⟩ := h
 cases rx
 obtain ⟨t, rfl⟩ := ry
 obtain ⟨its, r, pl, hz⟩ := I.tuple hq
 obtain ⟨j, h1, h2, h3, h4, h5⟩ := zfN he
 obtain ⟨w, ew, rw'⟩ := r.get h2
 have hl := r.length
 have hn := zav
 have fin : EP X pins σ Q w s := ⟨z, H, I, rw', q⟩
 exact subscriptTail_builtinR (x := w) pl.typeIs slot_tuple_getitem.lookup
  (getItem_tuple (j := j) (Q := λ r s' => r = w /\ EP X pins σ Q r s') pl (by omega) (by omega) (by rw [zzE, <- hl]; exact h1) (by simpa using ew) ⟨rfl, fin⟩) hs
theorem zph : IxR X zrj := by
 intro value slice pins s σ H x y v u Q I rx ry h hs
 obtain ⟨z, i, c, rfl, rfl, hz, he, q⟩ := h
 obtain ⟨t, rfl⟩ := rx
 obtain ⟨t', rfl⟩ := ry
 obtain ⟨j, h1, h2, h3, h4, h5⟩ := zfN he
 have hl : z.cps.toList.length = z.length := by simp [Str.length]
 rw [hl] at h1 h4 h5
 have hn := zav
 exact tail_any (typeIs_str s z t) slot_str_getitem.lookup (getItem_str (c := c) (by
  have e1 : decide (i < -(2 ^ 63 : Int)) = false := decide_eq_false (by omega)
  have e2 : decide (i ≥ 2 ^ 63) = false := decide_eq_false (by omega)
  rw [e1, e2, Bool.or_false]) (by rw [h1]; simpa using h2) ⟨.str ⟨#[c]⟩, H, I.tok _, ⟨_, rfl⟩, q⟩) hs
theorem zhr (its : List Value) (n j : Nat) (u : Value) : Obj.mapSeq (·.setIfInBounds j u) { cls := .type "list", data := .seq its.toArray n } = { cls := .type "list", data := .seq (its.set j u).toArray n } := by
 simp [Obj.mapSeq]
theorem Inv.lst (I : Inv X pins σ H s) (h : H p = some (.lst xs)) :
 ∃ (its : List Value) (n : Nat), Vals xs its /\ s.heap.get? p = some { cls := .type "list", data := .seq its.toArray n } /\ xs.length <= sizeLine := by
 obtain ⟨z, its, n, r, e⟩ := I.hok p _ h
 exact ⟨its, n, r, e, z⟩
theorem Inv.lstUpd {pins : List (Addr × Obj)} {σ : St} {H : Hp} {s : Shared} {p : Addr} {xs ys : List V} {its its' : List Value} {n n' : Nat} {f : Obj -> Obj} (I : Inv X pins σ H s) (h : H p = some (.lst xs))
 (ho : s.heap.get? p = some { cls := .type "list", data := .seq its.toArray n }) (hf : f { cls := .type "list", data := .seq its.toArray n } = { cls := .type "list", data := .seq its'.toArray n' }) (r : Vals ys its') (hz : ys.length <= sizeLine) (t : Nat) :
 Inv X pins σ (upd H p (.lst ys)) { s with heap := s.heap.update p f, toks := t } := by
 have e : (s.heap.update p f).get? p = some { cls := .type "list", data := .seq its'.toArray n' } := by
  rw [Heap.get?_update_self f ho (by rw [hf] <;> rfl), hf]
 refine I.write (x := p) (e := p) (by rw [h]; trivial) (.inl rfl) (λ b u hb q => (Heap.get?_update_other _ _ (Ne.symm hb)).trans q) ⟨_, e⟩ ?_
 exact ⟨hz, its', n', r, e⟩
def zqM : V -> V -> V -> Hp -> (Hp -> Prop) -> Prop := λ o i v H Q => ∃ p xs k j, o = .ref p /\ i = .int k /\ H p = some (.lst xs) /\ ixN xs.length k = some j /\ Q (upd H p (.lst (xs.set j v)))
theorem set_list : zqm X zqM := by
 intro pins s σ H o i v ov iv u Q I ro ri rv h
 obtain ⟨p, xs, k, j, rfl, rfl, hp, hj, q⟩ := h
 cases ro
 obtain ⟨t, rfl⟩ := ri
 obtain ⟨its, n, r, ho, hz⟩ := I.lst hp
 obtain ⟨h1, h2, h3, h4⟩ := ziB hj
 have hl := r.length
 have hn := zav
 have I' : Inv X pins σ (upd H p (.lst (xs.set j v))) { s with heap := s.heap.update p (Obj.mapSeq (·.setIfInBounds j u)) } :=
  I.lstUpd hp ho (zhr its n j u) (r.set rv j) (by rw [zzR]; exact hz) s.toks
 by_cases h0 : 0 <= k
 · have hk : k.toNat = j := by
    rw [seqIndex_of h0 h4] at h1
    exact Option.some.inj h1
   exact PySem.W.ki_setAt ho h0 (by omega) (by rw [zzE, <- hl]; exact h4) (by rw [hk]; exact ⟨_, I', q⟩)
 · have hk : (k + (its.toArray.size : Int)).toNat = j := by
    rw [seqIndex_neg (by omega) h3] at h1
    rw [zzE, <- hl]
    exact Option.some.inj h1
   exact PySem.W.ki_setBack ho (by omega) (by rw [zzE, <- hl]; exact h3) (by omega) (by rw [hk]; exact ⟨_, I', q⟩)
theorem zfo (lo hi : Option Int) (n : Nat) : (sliceBounds lo hi none n).1 = ((HT.sIx n 0 lo : Nat) : Int) /\ (sliceBounds lo hi none n).2.1 = ((HT.sIx n n hi : Nat) : Int) /\ (sliceBounds lo hi none n).2.2 = 1 := by
 refine ⟨?_, ?_, rfl⟩
 · cases lo with
   | none => simp [sliceBounds, HT.sIx]
   | some i =>
    simp only [sliceBounds, HT.sIx, Option.getD_none, show (1 : Int) > 0 by decide, if_true]
    by_cases h : i < 0
    · simp only [h, if_true] <;> omega
    · simp only [h, if_false] <;> omega
 · cases hi with
   | none => simp [sliceBounds, HT.sIx]
   | some i =>
    simp only [sliceBounds, HT.sIx, Option.getD_none, show (1 : Int) > 0 by decide, if_true]
    by_cases h : i < 0
    · simp only [h, if_true] <;> omega
    · simp only [h, if_false] <;> omega
theorem zef (its : List Value) (lo hi : Option Int) : slicePick its.toArray lo hi none = ((its.drop (HT.sIx its.length 0 lo)).take (HT.sIx its.length its.length hi - HT.sIx its.length 0 lo)).toArray := by
 obtain ⟨h1, h2, h3⟩ := zfo lo hi its.toArray.size
 unfold slicePick
 rw [h1, h2, h3]
 simp only [sliceRange_one, pick_run, zzE] <;> rfl
def zrq (K : zC) : V -> Option Int -> Option Int -> Hp -> VK -> Prop := λ x lo hi H Q => ∃ a xs, x = .ref a /\ SqL K H a xs /\ ∀ p, H p = none -> Q (.ref p) (upd H p (.lst (zgs xs lo hi)))
theorem zmK : SlR X (zrq X.K) := by
 intro pins s σ H x v vl vu lo hi sl Q I rx hs pl pu h
 obtain ⟨a, xs, rfl, hx, q⟩ := h
 cases rx
 obtain ⟨its, r, ht, hz⟩ := I.list hx
 have hlen := r.length
 refine ⟨"list", _, slot_list_getitem.lookup, ht.isList.typeIs, ?_⟩
 refine wpAny_getItem_list_slice ht.isList hs pl pu .none (by simp) ?_ (by rw [zzE] <;> omega)
 rw [zef, <- hlen]
 refine ⟨.ref s.heap.objs.size, _, I.laid (t' := s.toks) (o := .lst (zgs xs lo hi)) (λ b ob q => Heap.get?_push_of_some _ q) (zzK _) ?_, rfl, q _ (I.hok.fresh (zzK _))⟩
 exact ⟨zzL (zco xs lo hi) hz, _, 0, (r.drop (HT.sIx xs.length 0 lo)).take (HT.sIx xs.length xs.length hi - HT.sIx xs.length 0 lo), Heap.get?_push_size _ rfl⟩
theorem zaA : zbb X (.builtin "len") (λ xs H Q => ∃ p ys, xs = [.ref p] /\ (SqL X.K H p ys \/ SqT X.K H p ys) /\ Q (.int ys.length) H) := by
 intro pins s σ H xs us Q I r h
 obtain ⟨p, ys, rfl, hq, q⟩ := h
 obtain ⟨u, rfl, rx⟩ := vals1 r
 cases rx
 have hn := zav
 rcases hq with hq | hq
 · obtain ⟨its, r', pl, hz⟩ := I.list hq
   have hlen := r'.length
   exact Calls.call_len_list pl.isList (by simp only [zzE] <;> omega) ⟨.int ys.length, H, I.tok _, ⟨s.toks + 1, by rw [zzE, hlen]⟩, q⟩
 · obtain ⟨its, r', pl, hz⟩ := I.tuple hq
   have hlen := r'.length
   exact len_tuple pl (by simp only [zzE] <;> omega) ⟨.int ys.length, H, I.tok _, ⟨s.toks + 1, by rw [zzE, hlen]⟩, q⟩
theorem zfw : zbb X (.builtin "len") (λ xs H Q => ∃ z, xs = [.str z] /\ z.length <= sizeLine /\ Q (.int z.length) H) := by
 intro pins s σ H xs us Q I r h
 obtain ⟨z, rfl, hz, q⟩ := h
 obtain ⟨u, rfl, t, rfl⟩ := vals1 r
 have hn := zav
 exact len_str (by omega) ⟨.int z.length, H, I.tok _, ⟨_, rfl⟩, q⟩
theorem zaS : zbb X (.type "list") (λ xs H Q => ∃ p ys, xs = [.ref p] /\ (SqL X.K H p ys \/ SqT X.K H p ys) /\ ∀ l, H l = none -> Q (.ref l) (upd H l (.lst ys))) := by
 intro pins s σ H xs us Q I r h
 obtain ⟨p, ys, rfl, hq, q⟩ := h
 obtain ⟨u, rfl, rx⟩ := vals1 r
 cases rx
 have fin : ∀ (its : List Value), Vals ys its -> ys.length <= sizeLine -> ∀ (h' : Heap) (c' : Nat), (∀ b o', s.heap.get? b = some o' -> h'.get? b = some o') ->
  h'.get? s.heap.objs.size = some { cls := .type "list", dict := none, data := .seq its.toArray c', slots := #[] } -> EP X pins σ Q (.ref s.heap.objs.size) { s with heap := h' } := λ its r' hz h' c' kp e =>
  ⟨.ref s.heap.objs.size, _, I.laid (t' := s.toks) kp (zzK _) (show wL X.prog X.w _ h' _ (.lst ys) from ⟨hz, its, c', r', e⟩), rfl, q _ (I.hok.fresh (zzK _))⟩
 rcases hq with hq | hq
 · obtain ⟨its, r', pl, hz⟩ := I.list hq
   have hlen := r'.length
   obtain ⟨o, ho, hc, n, hd⟩ := pl.isList
   exact call_list_seq p (.inl rfl) ho hc hd (λ h' c' kp e => fin its r' hz h' c' kp e) (by simp only [zzE] <;> omega)
 · obtain ⟨its, r', pl, hz⟩ := I.tuple hq
   have hlen := r'.length
   obtain ⟨o, ho, hc, n, hd⟩ := pl
   exact call_list_seq p (.inr rfl) ho hc hd (λ h' c' kp e => fin its r' hz h' c' kp e) (by simp only [zzE] <;> omega)
def tyV (K : zC) (T : String) (x : V) (H : Hp) : Prop := match x with
 | .str _ => T = "str"
 | .int _ => T = "int"
 | .ref p => (T = "list" /\ ∃ xs, SqL K H p xs) \/ (T = "tuple" /\ ∃ o, K.lookup p = some o /\ o.cls = .type "tuple" /\ o.dict = none) \/
  (T = "dict" /\ ((∃ kvs, H p = some (.dK kvs)) \/ ∃ kvs bs ep, H p = some (.dT kvs bs ep))) \/ (T = "set" /\ ∃ S n, H p = some (.set S n))
 | _ => False
theorem zlO (I : Inv X pins σ H s) (r : RelV x v) (ty : tyV X.K T x H) :
 s.TypeIs v T /\ ∀ a, v = .ref a -> ∃ ob, s.heap.get? a = some ob /\ ob.dict = none := by
 cases x with
 | str z =>
  obtain ⟨t, rfl⟩ := r
  cases (show T = "str" from ty)
  exact ⟨typeIs_str s z t, λ _ e => nomatch e⟩
 | int i =>
  obtain ⟨t, rfl⟩ := r
  cases (show T = "int" from ty)
  exact ⟨typeIs_int s i t, λ _ e => nomatch e⟩
 | ref p =>
  cases r
  rcases ty with ⟨rfl, xs, hq⟩ | ⟨rfl, o, hk, hc, hd⟩ | ⟨rfl, hk⟩ | ⟨rfl, S, n, hk⟩
  · obtain ⟨its, _, pl, _⟩ := I.list hq
    refine ⟨pl.isList.typeIs, λ a e => ?_⟩
    cases e
    obtain ⟨o, n, e, c, hd, _⟩ := pl
    exact ⟨o, e, hd⟩
  · refine ⟨⟨o, I.kIn p o hk, hc⟩, λ a e => ?_⟩
    cases e
    exact ⟨o, I.kIn _ o hk, hd⟩
  · have z : ∃ o, s.heap.get? p = some o /\ o.ExactDict := by
     rcases hk with ⟨kvs, hk⟩ | ⟨kvs, bs, ep, hk⟩
     · obtain ⟨_, _, _, _, o, _, _, e, ex, _⟩ := I.hok p _ hk
       exact ⟨o, e, ex⟩
     · obtain ⟨_, _, _, _, _, o, _, e, ex, _⟩ := I.hok p _ hk
       exact ⟨o, e, ex⟩
    obtain ⟨o, e, ex⟩ := z
    refine ⟨⟨o, e, ex.1⟩, λ a e2 => ?_⟩
    cases e2
    exact ⟨o, e, ex.2.1⟩
  · obtain ⟨o, _, _, _, e, ex, _⟩ := I.hok p _ hk
    refine ⟨⟨o, e, ex.1⟩, λ a e2 => ?_⟩
    cases e2
    exact ⟨o, e, ex.2.1⟩
 | _ => exact False.elim ty
def zrC (K : zC) (T : String) (r : V -> List V -> Hp -> VK -> Prop) (to : TE) : TE := λ σ H Q => to σ H λ x H1 => tyV K T x H1 /\ r x [] H1 Q
def tBM (K : zC) (T : String) (r : V -> List V -> Hp -> VK -> Prop) (to : TE) (t : TA) : TE := λ σ H Q => to σ H λ x H1 => tyV K T x H1 /\ t σ H1 λ xs H2 => r x xs H2 Q
variable {o e : Expr} {es : List Expr} {to : TE} {t : TA} {name : Str} {apos cpos : Pos} {T id : String} {r : V -> List V -> Hp -> VK -> Prop}
theorem zoh (pa : PlainAttrs T) (slot : Slot T name id) (hty : typeOf (.builtin id) = pure (.type "method_descriptor")) (hm : MtR X id r) (ho : PE X o to)
 (hbase : attributeBase o name X.env (eval o X.env) = eval o X.env := by rfl) (hline : (apos.endLine == cpos.line) = true := by rfl) : PE X (.Call (.Attribute o name apos) [] [] cpos) (zrC X.K T r to) := by
 intro pins s σ H Q I h
 refine wpAny_Call_method0_late hbase hline (thn (ho pins s σ H _ I h) λ v s1 ⟨x, H1, I1, r1, ty, q1⟩ => ?_)
 obtain ⟨h1, h2⟩ := zlO I1 r1 ty
 exact ⟨T, id, pa, slot, hty, h1, h2, Calls.callWith_builtin rfl (PySem.evalArgs_none (hm pins s1 σ H1 x [] v [] Q I1 r1 .nil q1))⟩
theorem zqh (pa : PlainAttrs T) (slot : Slot T name id) (hty : typeOf (.builtin id) = pure (.type "method_descriptor")) (hm : MtR X id r) (ho : PE X o to) (ha : PA X (e :: es) t)
 (hbase : attributeBase o name X.env (eval o X.env) = eval o X.env := by rfl)
 (hfew : ((backTo cpos (starEach (e :: es) X.env)).all (λ x => !x.1) && (backToKw cpos (keywordEach [] X.env)).all (λ x => x.1.isSome)
  && decide ((e :: es).length + ([] : List Keyword).length + (if ([] : List Keyword).isEmpty then 0 else 1) < 30)) = true := by rfl)
 (hline : (apos.endLine == cpos.line) = true := by rfl) (hs : starEach (e :: es) X.env = (false, eval e X.env) :: starEach es X.env := by rfl) (hplain : (backTo cpos (starEach es X.env)).any (·.1) = false := by rfl) :
 PE X (.Call (.Attribute o name apos) (e :: es) [] cpos) (tBM X.K T r to t) := by
 intro pins s σ H Q I h
 refine wpAny_Call_method_late hbase hfew hline rfl (thn (ho pins s σ H _ I h) λ v s1 ⟨x, H1, I1, r1, ty, q1⟩ => ?_)
 obtain ⟨h1, h2⟩ := zlO I1 r1 ty
 refine ⟨T, id, pa, slot, hty, h1, h2, ?_⟩
 have hA := ha cpos pins s1 σ H1 _ I1 q1
 rw [hs] at hA ⊢
 refine Calls.callWith_builtin (by show (false || (backTo cpos (starEach es X.env)).any (·.1)) = false; rw [hplain] <;> rfl) (Calls.evalArgs_plain ?_)
 exact thn hA λ us s2 ⟨vs, H2, I2, r2, q2⟩ => hm pins s2 σ H2 x vs v us Q I2 r1 r2 q2
end
end L2
namespace L2
open PySem PySem.Spec PyProof.Rows
def MtM (X : Cx) (id : String) (r : V -> List V -> Hp -> VK -> Prop) : Prop :=
 ∀ (pins : List (Addr × Obj)) (s : Shared) (σ : St) (H : Hp) (x : V) (xs : List V) (v : Value) (us : List Value) (Q : VK), Inv X pins σ H s -> RelV x v -> Vals xs us -> r x xs H Q ->
  wpAny (model X.prog X.w) X.A (call (.builtin id) (v :: us)) (EP X pins σ Q) X.xe s
theorem Vals.one : ∀ {x : V} {us : List Value}, Vals [x] us -> ∃ u, us = [u] /\ RelV x u
 | _, _, .cons r .nil => ⟨_, rfl, r⟩
theorem Vals.zero : ∀ {us : List Value}, Vals [] us -> us = []
 | _, .nil => rfl
theorem Vals.eraseIdx : ∀ {xs : List V} {us : List Value} (i : Nat), Vals xs us -> Vals (xs.eraseIdx i) (us.eraseIdx i)
 | _, _, _, .nil => .nil
 | _, _, 0, .cons _ t => t
 | _, _, i + 1, .cons r t => .cons r (Vals.eraseIdx i t)
theorem Vals.rep (h : Vals xs us) : ∀ k : Nat, Vals (List.replicate k xs).flatten (List.replicate k us).flatten
 | 0 => .nil
 | k + 1 => by
  rw [List.replicate_succ, List.replicate_succ, List.flatten_cons, List.flatten_cons]
  exact Vals.append h (Vals.rep h k)
theorem zeL : ∀ (l : List α) (i : Nat), (l.eraseIdx i).length <= l.length
 | [], _ => zzK _
 | _ :: _, 0 => Nat.le_succ _
 | _ :: r, i + 1 => Nat.succ_le_succ (zeL r i)
theorem foldl_rep (its : List Value) : ∀ (k : Nat) (acc : List Value),
 List.foldl (λ x1 x2 => x1 ++ x2) acc.toArray (List.replicate k its.toArray) = (acc ++ (List.replicate k its).flatten).toArray
 | 0, acc => by simp
 | k + 1, acc => by
  have e : acc.toArray ++ its.toArray = (acc ++ its).toArray := by simp
  have e2 : (acc ++ its) ++ (List.replicate k its).flatten = acc ++ (List.replicate (k + 1) its).flatten := by
   rw [List.replicate_succ, List.flatten_cons, List.append_assoc]
  rw [<- e2, <- foldl_rep its k (acc ++ its), <- e, List.replicate_succ, List.foldl_cons]
section
variable {X : Cx} {pins : List (Addr × Obj)} {σ : St} {H : Hp} {s : Shared} {l b : Addr} {xs ys zs : List V}
theorem Inv.lset {its its' : List Value} {n : Nat} {f : Array Value -> Array Value} {t' : Nat} (I : Inv X pins σ H s) (hH : H l = some (.lst xs))
 (e : s.heap.get? l = some { cls := .type "list", data := .seq its.toArray n }) (hf : f its.toArray = its'.toArray) (hv : Vals ys its') (hz : ys.length <= sizeLine) :
 Inv X pins σ (upd H l (.lst ys)) { s with heap := s.heap.update l (Obj.mapSeq f), toks := t' } := by
 have q := PySem.IsL.update e f
 rw [hf] at q
 refine I.write (x := l) (e := l) (by rw [hH]; exact trivial) (.inl rfl) (λ b' u hb hu => (Heap.get?_update_other s.heap (Obj.mapSeq f) (Ne.symm hb)).trans hu) ⟨_, q⟩ ?_
 exact ⟨hz, its', _, hv, q⟩
theorem Inv.lnew (I : Inv X pins σ H s) (hv : Vals ys its) (hz : ys.length <= sizeLine) :
 Inv X pins σ (upd H s.heap.objs.size (.lst ys)) { s with heap := s.heap.push { cls := .type "list", data := .seq its.toArray }, toks := t' } :=
 I.laid (λ _ _ q => Heap.get?_push_of_some _ q) (zzK _) ⟨hz, its, 0, hv, Heap.get?_push_size _ rfl⟩
theorem Inv.fresh (I : Inv X pins σ H s) : H s.heap.objs.size = none := I.hok.fresh (zzK _)
theorem Inv.lstM (I : Inv X pins σ H s) (hH : H l = some (.lst xs)) : xs.length <= sizeLine /\ ∃ (its : List Value) (n : Nat), Vals xs its /\ xs.length = its.length /\ s.heap.get? l = some { cls := .type "list", data := .seq its.toArray n } := by
 obtain ⟨z, its, n, r, e⟩ := I.hok l _ hH
 exact ⟨z, its, n, r, r.length, e⟩
theorem zfT (h : n <= sizeLine) : Builtin.List.listTooLong n = false := by
 unfold Builtin.List.listTooLong
 exact decide_eq_false (by omega)
end
section
variable {X : Cx}
def ziV : V -> List V -> Hp -> VK -> Prop := λ x vs H Q => ∃ l xs y, x = .ref l /\ vs = [y] /\ H l = some (.lst xs) /\ xs.length < sizeLine /\ Q .non (upd H l (.lst (xs ++ [y])))
theorem vp : MtM X "list.append" ziV := by
 intro pins s σ H x vs v us Q I rx rv h
 obtain ⟨l, xs, y, rfl, rfl, hH, hz, q⟩ := h
 cases rx
 obtain ⟨u, rfl, ru⟩ := rv.one
 obtain ⟨z, its, n, r, hl, e⟩ := I.lstM hH
 refine call_meets F.slot_list_append ⟨_, e, rfl⟩ F.entry_list_append (F.args_list_append_2 _ _) (PySem.list_append l its.toArray n u (by rw [zzE]; omega)) ⟨e, ?_⟩
 refine ⟨.non, _, I.lset (its' := its ++ [u]) hH e (by simp) (r.append (.cons ru .nil)) ?_, rfl, q⟩
 rw [zzG, List.length_singleton]
 omega
def ziE : V -> List V -> Hp -> VK -> Prop := λ x vs H Q => ∃ l b xs zs, x = .ref l /\ vs = [.ref b] /\ H l = some (.lst xs) /\ H b = some (.lst zs) /\ xs.length + zs.length <= sizeLine /\ Q .non (upd H l (.lst (xs ++ zs)))
theorem zjg : MtM X "list.extend" ziE := by
 intro pins s σ H x vs v us Q I rx rv h
 obtain ⟨l, b, xs, zs, rfl, rfl, hH, hB, hz, q⟩ := h
 cases rx
 obtain ⟨u, rfl, ru⟩ := rv.one
 cases ru
 obtain ⟨z, its, n, r, hl, e⟩ := I.lstM hH
 obtain ⟨z2, its2, n2, r2, hl2, e2⟩ := I.lstM hB
 have hsz : its.toArray.size + its2.toArray.size <= sizeLine := by rw [zzE, zzE]; omega
 have hlong : ¬ (!its.toArray.isEmpty && Builtin.List.listTooLong (its.toArray.size + its2.toArray.size)) = true := by
  rw [zfT hsz, Bool.and_false]
  exact Bool.false_ne_true
 refine call_meets F.slot_list_extend ⟨_, e, rfl⟩ F.entry_list_extend (F.args_list_extend_2 _ _)
  (AutoSeq1.list_extend_list_list_0 l its.toArray n b its2.toArray n2 hlong (by rw [zzE]; omega) (by omega)) ⟨e, e2, ?_⟩
 refine ⟨.non, _, I.lset (its' := its ++ its2) hH e (by simp) (r.append r2) ?_, rfl, q⟩
 rw [zzG]
 omega
def zkO : V -> List V -> Hp -> VK -> Prop := λ x vs H Q => ∃ l xs i k y, x = .ref l /\ vs = [.int i] /\ H l = some (.lst xs) /\ -(2 ^ 63) <= i /\ i < 2 ^ 63 /\ seqIndex? i xs.length = some k /\ xs[k]? = some y /\ Q y (upd H l (.lst (xs.eraseIdx k)))
theorem zkw : MtM X "list.pop" zkO := by
 intro pins s σ H x vs v us Q I rx rv h
 obtain ⟨l, xs, i, k, y, rfl, rfl, hH, h1, h2, hk, hy, q⟩ := h
 cases rx
 obtain ⟨u, rfl, ru⟩ := rv.one
 obtain ⟨t, rfl⟩ := ru
 obtain ⟨z, its, n, r, hl, e⟩ := I.lstM hH
 obtain ⟨w, hw, rw'⟩ := r.get hy
 refine call_meets F.slot_list_pop ⟨_, e, rfl⟩ F.entry_list_pop (F.args_list_pop_2 _ _)
  (MeetsSeq.list_pop_at l its.toArray n i t k w (fitsIndex_both h1 h2) (by rw [zzE, <- hl]; exact hk) (by rw [<- Array.getElem?_toList]; exact hw) (by rw [zzE]; omega)) ⟨e, ?_⟩
 refine ⟨y, _, I.lset (its' := its.eraseIdx k) hH e ?_ (r.eraseIdx k) ?_, rw', q⟩
 · show its.toArray.eraseIdxIfInBounds k = (its.eraseIdx k).toArray
   rw [List.eraseIdxIfInBounds_toArray]
 · have := zeL xs k
   omega
def zkS : V -> List V -> Hp -> VK -> Prop := λ x vs H Q => ∃ l xs, x = .ref l /\ vs = [] /\ H l = some (.lst xs) /\ Q .non (upd H l (.lst []))
theorem zlP : MtM X "list.clear" zkS := by
 intro pins s σ H x vs v us Q I rx rv h
 obtain ⟨l, xs, rfl, rfl, hH, q⟩ := h
 cases rx
 have hus := rv.zero
 subst hus
 obtain ⟨z, its, n, r, hl, e⟩ := I.lstM hH
 refine call_meets F.slot_list_clear ⟨_, e, rfl⟩ F.entry_list_clear (F.args_list_clear_1 _) (AutoSeq1.list_clear_list_0 l its.toArray n (by rw [zzE]; omega)) ⟨e, ?_⟩
 exact ⟨.non, _, I.lset (its' := []) (ys := []) hH e rfl .nil (Nat.zero_le _), rfl, q⟩
theorem len_rep (xs : List α) (k : Nat) : (List.replicate k xs).flatten.length = k * xs.length := by
 induction k with
 | zero => simp
 | succ k ih => rw [List.replicate_succ, List.flatten_cons, zzG, ih, Nat.succ_mul, Nat.add_comm]
end
end L2
namespace Att
open PySem PySem.W PySem.Calls PyProof.Rows
theorem zcB : ∀ (ns : List Int) (vs : List Value), WellAll P h vs (ns.map WData.int) -> IntsAre vs ns := by
 intro ns
 induction ns with
 | nil =>
  intro vs w
  rw [List.map_nil] at w
  cases w
  exact .nil
 | cons n ns ih =>
  intro vs w
  rw [List.map_cons] at w
  cases w with
  | cons a b =>
   cases a
   exact .cons _ _ (ih _ b)
theorem zjq {l : OpenLaw} {n : Nat} (hn : l.most = some n) {P : Params} {h : Heap} {args : List WData} {vals : List Value}
 (hpre : l.row.toRowW.claim.pre args = true) (hwl : WellAll P h vals args) :
 ∃ a vs ns, vals = [Value.ref a] /\ args = [WData.list (ns.map WData.int)] /\ h.get? a = some { cls := .type "list", data := .seq vs.toArray } /\ IntsAre vs ns /\ ns.length <= n := by
 have hsh : WShape.hasAll [] args [.list .int] = true := (pre_splitW hpre).1
 have hc : l.pre.holds [] { args := args } = true := (pre_splitW hpre).2
 obtain ⟨d, r, rfl, h1, h2⟩ := hasAllW_cons hsh
 obtain rfl := hasAllW_nil h2
 obtain ⟨xs, rfl, h3⟩ := hasW_list h1
 obtain ⟨ns, rfl⟩ := items_int h3
 have hlen : ns.length <= n := by
  unfold OpenLaw.pre at hc
  have h4 : (WTm.not (.lt (.lit (.int (n : Int))) (.len (.arg 0)))).holds [] { args := [.list (ns.map .int)] } = true := by
   have h4 := (holds_andW hc).1
   rw [hn] at h4
   exact h4
  have h5 := condW_of h4 (w_not (w_lt w_lit (w_len_list (w_arg rfl))))
  rw [zD] at h5
  refine Nat.le_of_not_lt λ q => ?_
  have q' : (n : Int) < ((ns.length : Nat) : Int) := by omega
  first
   | (rw [decide_eq_true q'] at h5; exact absurd h5 (by decide))
   | (simp at h5; omega)
 cases hwl with
 | cons w1 w2 =>
  cases w2
  cases w1 with
  | list ho hall => exact ⟨_, _, ns, rfl, rfl, ho, zcB ns _ hall, hlen⟩
theorem zjS (l : OpenLaw) (args : List WData) : l.row.toRowW.claim.post args (.bool true) args = true :=
 postW_of (r := l.row.toRowW) (X := (true == true))
  (show WShape.has [] (.bool true) .bool = true by first | rfl | decide | simp [WShape.has, WShape.arms, WShape.armsAll])
  (show (WTm.eq .res (.lit (.bool true))).value [] { args := args, res := some (.bool true), after := args } = some (.bool (true == true)) from w_eq_bool (w_res rfl) w_lit) rfl
theorem zgC {l : OpenLaw} {n : Nat} {q : Program} {loose : List Str} {XP : (Str -> Option Value) -> Heap -> Prop} {YP : World -> Heap -> Prop} {d : DefRec}
 (hn : l.most = some n) (hdf : d.params.defaults = [])
 (call : ∀ (w : World) (s₀ s₁ : Shared) (mg mb : Str -> Option Value) (fa : Addr) (o : Obj) (pm cd doc : Value) (a : Addr) (vs : List Value) (ns : List Int),
  Ground q loose [] XP w s₀ mg mb s₁.heap -> YP w s₁.heap ->
  s₁.heap.get? fa = some o -> o.data = .func (docDef d.name d.params d.body d.scope pm cd doc) -> s₁.heap.CodeRec cd d.name -> mg d.name = some (.ref fa) ->
  s₁.heap.get? a = some { cls := .type "list", data := .seq vs.toArray } -> IntsAre vs ns -> ns.length <= n -> s₁.gens = #[] ->
  codeAny (model l.prog w) callerA (.call (.ref fa) ⟨[.ref a], []⟩) (λ r s' => r = .ok (.ret (.bool true)) /\ OldK s₁.heap s'.heap /\ s'.os = s₁.os /\ AllBare s'.gens) s₁) :
 WalkO q loose XP YP l.row.toRowW d [] (λ f vs => PySem.call f vs) := by
 intro w s₀ s₁ mg mb G Y fa o pm cd doc dV kV ho hd hcd hD hmg hg args vals as hpre hlay hrd hwl hlo
 obtain rfl : dV = .none := Dflts.none hD hdf
 obtain rfl : kV = .none := Dflts.noKw hD
 obtain ⟨a, vs, ns, rfl, rfl, hobj, hints, hlen⟩ := zjq hn hpre hwl
 refine enter_call (codeAny_mono (call w s₀ s₁ mg mb fa o pm cd doc a vs ns G Y ho (fd_plain hd) hcd hmg hobj hints hlen hg) λ r s' hq => ?_)
 obtain ⟨rfl, h2, h3, h4⟩ := hq
 exact ⟨.inl ⟨.bool true, .bool true, [], rfl, λ _ => rfl, .bool true, zjS l _, λ _ => ⟨List.Pairwise.nil, λ _ hm => (nomatch hm)⟩⟩, h2, h3, h4⟩
end Att
namespace L2
open PySem PySem.Spec PyProof.Rows
theorem Xo : ∀ {vs : List Value} {ns : List Int}, IntsAre vs ns -> Vals (ns.map V.int) vs
 | _, _, .nil => .nil
 | _, _, .cons n t h => .cons ⟨t, rfl⟩ (Xo h)
def Only (H : Hp) : Prop := ∀ b, H b = none \/ ∃ o xs, H b = some (.frz o (.lst xs))
theorem zlg {P : Program} {w : World} {K : zC} {mg mb : Str -> Option Value} {CX : CXT} {k : Nat} {fa a : Addr} {fd : FuncData} {x : Str} {sp : Sp} {s₁ : Shared} {vs : List Value} {ns : List Int}
 (KX : K.In s₁.heap) (hns : s₁.heap.Ns mainGlobals mg) (hb : s₁.heap.Ns builtinsNs mb) (hbb : ∀ x : Str, x ≠ "__name__" -> mb x = bootBuiltins x) (hlim : s₁.heap.NoLimit) (hg : s₁.gens = #[])
 (ha : s₁.heap.get? a = some { cls := .type "list", data := .seq vs.toArray }) (hi : IntsAre vs ns) (hl : ns.length <= sizeLine) (hr : Room k callerA)
 (F : ∀ base : Heap, K.In base -> base.Ns mainGlobals mg -> FnOk P w K mg base CX k fa fd [x] sp) (hbind : ∀ (s : Shared) (u : Value), BindsTo s fd ⟨[u], []⟩ [(x, u)])
 (hsp : ∀ H : Hp, Only H -> RdL K H a (ns.map V.int) -> sp [.ref a] H (λ v _ => v = .bl true) λ _ _ _ => False)
 (hCX : ∀ H e s', CX [] H s₁ (λ _ _ _ => False) e s' -> False) :
 codeAny (model P w) callerA (.call (.ref fa) ⟨[.ref a], []⟩) (λ r s' => r = .ok (.ret (.bool true)) /\ OldK s₁.heap s'.heap /\ s'.os = s₁.os /\ AllBare s'.gens) s₁ := by
 have rv := Xo hi
 have lenV := hi.length
 have core : ∀ H : Hp, Only H -> RdL K H a (ns.map V.int) -> HOk P w H s₁.heap -> (∀ b, H b ≠ none -> b = a) -> (H a ≠ none -> K.lookup a = none) ->
  codeAny (model P w) callerA (.call (.ref fa) ⟨[.ref a], []⟩) (λ r s' => r = .ok (.ret (.bool true)) /\ OldK s₁.heap s'.heap /\ s'.os = s₁.os /\ AllBare s'.gens) s₁ := by
  intro H hO hS hok hA hK
  have base_of : ∀ {b : Addr} {o : Obj}, s₁.heap.get? b = some o -> H b = none -> (zfP s₁.heap H).get? b = some o := λ e n => zjV e n
  have noA : ∀ {b : Addr} {o : Obj} {es : Array DictEntry} {ep : Nat}, s₁.heap.get? b = some o -> o.data = .dict es ep -> H b = none := λ {b o es ep} e d => by
   cases q : H b with
   | none => rfl
   | some u =>
    have e' : b = a := hA b (by rw [q]; simp)
    subst e'
    rw [ha] at e; cases e
    have d' : Data.seq vs.toArray _ = Data.dict es ep := d
    cases d'
  have nsK : ∀ {b : Addr} {m : Str -> Option Value}, s₁.heap.Ns b m -> (zfP s₁.heap H).Ns b m := λ {b m} ⟨o, es, ep, e, d, r⟩ => ⟨o, es, ep, base_of e (noA e d), d, r⟩
  have hKb : K.In (zfP s₁.heap H) := λ b o e => base_of (KX b o e) (by
   cases q : H b with
   | none => rfl
   | some u =>
    have e' : b = a := hA b (by rw [q]; simp)
    subst e'
    rw [hK (by rw [q]; simp)] at e; cases e)
  have hM : Mod K mg (zfP s₁.heap H) := ⟨hKb, nsK hns, ⟨mb, nsK hb, hbb⟩, let ⟨mc, h1, h2⟩ := hlim; ⟨mc, nsK h1, h2⟩⟩
  have e0 : Env0 P w K mg (zfP s₁.heap H) callerA [] s₁ H := ⟨rfl, hM, λ b o e => zml e, Nat.le_of_eq (zjI _ _), trivial, λ b hb => absurd (show b ∈ ([] : List Addr) from hb) (by simp), hok, .of_eq hg⟩
  refine codeAny_mono ((F _ hKb (nsK hns)).run callerA [] s₁ H ⟨[.ref a], []⟩ [.ref a] [.ref a] _ _ hr e0 (hbind s₁ (.ref a)) (.cons rfl .nil) (hsp H hO hS)) λ r s' h => ?_
  cases r with
  | error e => exact (hCX H e s' h).elim
  | ok fl =>
   cases fl with
   | next => exact False.elim h
   | brk => exact False.elim h
   | cont => exact False.elim h
   | ret u =>
    obtain ⟨v, H', os, bare, un, hok', r', q⟩ := h
    have q' : v = .bl true := q
    subst q'
    obtain rfl : u = Value.bool true := r'
    refine ⟨rfl, OldK.of_keep λ b o e => ?_, os, bare⟩
    cases q : H b with
    | none => exact un.keep b o e q (by intro z; exact absurd (show b ∈ ([] : List Addr) from z) (by simp)) (by simp)
    | some u =>
     rcases hO b with z | ⟨ob, xs, z⟩
     · rw [q] at z; cases z
     · have z2 := un.frzs b ob _ z
       obtain ⟨e1, _⟩ := hok b _ z
       obtain ⟨e2, _⟩ := hok' b _ z2
       rw [e] at e1; cases e1
       exact e2
 cases hk : K.lookup a with
 | some o =>
  have e := KX a o hk
  rw [ha] at e
  cases e
  refine core (λ _ => none) (λ _ => .inl rfl) (.inr ⟨vs.toArray, _, hk, by rw [zzE, lenV]; exact hl, by simpa using rv⟩) (λ b u z => by have z' : (none : Option HO) = some u := z; cases z') (λ b z => absurd rfl z) λ z => absurd rfl z
 | none =>
  refine core (λ b => if b = a then some (.frz { cls := .type "list", data := .seq vs.toArray } (.lst (ns.map V.int))) else none) (λ b => ?_) (.inl (.inr ⟨{ cls := .type "list", data := .seq vs.toArray }, if_pos rfl⟩)) (λ b u z => ?_) (λ b z => ?_) λ _ => hk
  · by_cases hb : b = a
    · exact .inr ⟨_, _, if_pos hb⟩
    · exact .inl (if_neg hb)
  · by_cases hb : b = a
    · have z' := (if_pos hb).symm.trans z
      cases z'
      subst hb
      exact ⟨ha, by rw [zD]; exact hl, vs, _, rv, ha⟩
    · have z' := (if_neg hb).symm.trans z
      cases z'
  · by_cases hb : b = a
    · exact hb
    · exact absurd (if_neg hb) z
end L2
namespace L2
open PySem PySem.Spec PyProof.Rows
theorem walk_of {l : PySem.W.OpenLaw} {n k : Nat} {q : Program} {loose : List Str} {XP : (Str -> Option Value) -> Heap -> Prop} {YP : World -> Heap -> Prop} {d : DefRec} {K : Params -> zC} {CX : World -> CXT} {sp : World -> Sp} {x : Str}
 (hn : l.most = some n) (hn2 : n <= sizeLine) (hdf : d.params.defaults = []) (hr : Room k callerA)
 (hY : ∀ (w : World) (h : Heap), YP w h -> (K w.params).In h)
 (F : ∀ (w : World) (mg : Str -> Option Value) (fa : Addr) (h : Heap), (K w.params).In h -> h.Ns mainGlobals mg -> mg d.name = some (.ref fa) ->
  ∃ fd : FuncData, (∀ (s : Shared) (u : Value), BindsTo s fd ⟨[u], []⟩ [(x, u)]) /\
   ∀ base : Heap, (K w.params).In base -> base.Ns mainGlobals mg -> FnOk l.prog w (K w.params) mg base (CX w) k fa fd [x] (sp w))
 (hsp : ∀ (w : World) (H : Hp) (a : Addr) (ns : List Int), ns.length <= n -> Only H -> RdL (K w.params) H a (ns.map V.int) -> sp w [.ref a] H (λ v _ => v = .bl true) λ _ _ _ => False)
 (hCX : ∀ (w : World) (H : Hp) (s : Shared) (e : Value) (s' : Shared), CX w [] H s (λ _ _ _ => False) e s' -> False) :
 PySem.W.WalkO q loose XP YP l.row.toRowW d [] (λ f vs => PySem.call f vs) := by
 refine Att.zgC hn hdf λ w s₀ s₁ mg mb fa o pm cd doc a vs ns G Y ho hd hcd hmg hobj hints hlen hg => ?_
 have KX := hY w _ Y
 obtain ⟨fd, hb, hF⟩ := F w mg fa _ KX G.T.g hmg
 exact zlg KX G.T.g G.T.b G.T.builtins G.T.nolimit hg hobj hints (zzL hlen hn2) hr hF hb (λ H hO hS => hsp w H a ns hlen hO hS) λ H e s' => hCX w H s₁ e s'
end L2
namespace L2
open PySem PySem.Spec PyProof.Rows
def zfm (s : Stmt) : Arguments := match s with
 | .FunctionDef _ a _ _ _ _ _ _ _ _ => a
 | _ => { posonlyargs := [], args := [], vararg := none, kwonlyargs := [], kw_defaults := [], kwarg := none, defaults := [] }
def Vz (s : Stmt) : List Stmt := match s with
 | .FunctionDef _ _ b _ _ _ _ _ _ _ => b
 | _ => []
def zB (s : Stmt) : Scope := match s with
 | .FunctionDef _ _ _ _ _ _ sc _ _ _ => sc
 | _ => { kind := .function, names := [], isGenerator := false, isCoroutine := false }
abbrev CX0 : CXT := λ _ _ _ _ _ _ => False
abbrev E0 : XK := λ _ _ _ => False
theorem yx : zcX CX0 X E0 := λ _ _ _ _ _ _ _ h => h.elim
structure Fun (K : zC) (x qual : Str) (st : Stmt) (f : Addr) (fd : FuncData) : Prop where
 ex : ∃ (oc : Value) (od : Option Addr) (kV doc pm : Value) (an : Option Addr) (cdv ct : Value) (osl : Array (Option Value)),
  fd = PySem.W.fnOf x qual (zfm st) (Vz st) (zB st) .none kV doc pm an cdv ct /\ K.lookup f = some ⟨oc, od, .func fd, osl⟩ /\ PySem.W.codeIn K cdv qual = true
 kp : PySem.W.keepIn K (.ref f) = true
section
variable {P : Program} {w : World} {K : zC} {mg : Str -> Option Value} {base : Heap}
theorem Fun.ok {x qual : Str} {st : Stmt} {f : Addr} {fd : FuncData} {N ps : List Str} {k : Nat} {sp : Sp} (F : Fun K x qual st f fd) (S : FnScope N ps (zB st)) (len : ∀ vs H Q E, sp vs H Q E -> vs.length = ps.length)
 (hbody : ∀ (cdv : Value) (A : Around) (outer : List Env) (s : Shared) (H : Hp) (vs : List V) (Q : VK) (E : XK), Room k (A.deeper (envOfC qual (zB st) s.heap.objs.size f cdv)) -> sp vs H Q E ->
  ∃ t, PSs (zgJ CX0 P w K mg base N qual (zB st) f cdv A outer s H E).nox (Vz st) t /\ t { nx := λ _ H' => Q .non H', rt := Q } (start N vs) H) : FnOk P w K mg base CX0 (k + 1) f fd ps sp := by
 obtain ⟨oc, od, kV, doc, pm, an, cdv, ct, osl, rfl, lk, hcd⟩ := F.ex
 refine zqS lk hcd S len λ A outer s H vs Q E hr hsp => ?_
 obtain ⟨t, h, q⟩ := hbody cdv A outer s H vs Q E hr hsp
 exact ⟨t, h.nox, q⟩
theorem Fun.binds {x qual : Str} {st : Stmt} {f : Addr} {fd : FuncData} {ps : List Str} (F : Fun K x qual st f fd)
 (h : ∀ (kV doc pm : Value) (an : Option Addr) (cdv ct : Value) (us : List Value), us.length = ps.length -> bindArgs (PySem.W.fnOf x qual (zfm st) (Vz st) (zB st) .none kV doc pm an cdv ct) ⟨us, []⟩ = pure (ps.zip us)) : Binds K fd ps [] := by
 obtain ⟨oc, od, kV, doc, pm, an, cdv, ct, osl, rfl, lk, hcd⟩ := F.ex
 exact .all (h kV doc pm an cdv ct)
end
theorem znX (hr : Room k A) : A.units + 1 < cLine := Nat.lt_of_le_of_lt (Nat.add_le_add_left (by decide : 1 <= 64) _) hr.units
theorem yM (h : n <= 1000) : n < sizeLine := Nat.lt_of_le_of_lt h (by decide)
section
variable {X : Cx}
theorem pv (i : Nat) (hN : X.N[i]? = some x := by rfl) (hv : Vis X.env.scope x := by first | exact Or.inl rfl | exact Or.inr (Or.inl rfl) | exact Or.inr (Or.inr rfl)) (hd : (x == ("__debug__" : Str)) = false := by decide)
 (hcd : (x == ("__classdict__" : Str)) = false := by decide) : PE X (.Name x pos) (zby i) := zkg hN hv hd hcd
end
end L2
end
section
namespace PF
open PySem PySem.Spec PyProof.Rows L2
abbrev St := L2.St
structure KD where
 d : Addr -> List (Key × V) -> Prop
 c : Str -> Addr
instance : CoeFun KD (λ _ => Addr -> List (Key × V) -> Prop) := ⟨KD.d⟩
inductive D where
 | non | bl (b : Bool) | int (i : Int) | str (x : Str) | tup (ds : List D) | lst (ds : List D) | dct (kvs : List (Key × D)) | cl (c : Str) | ob (c : Str) (ns : List Str) (ds : List D) | dt (ks : List (List Key)) (ds : List D)
def kyD : Key -> D
 | .inl i => .int i
 | .inr x => .str x
abbrev tkD (k : List Key) : D := .tup (k.map kyD)
mutual
inductive Rp (K : zC) (kd : KD) (O : Addr -> Prop) (H : Hp) : V -> D -> Prop
 | non : Rp K kd O H .non .non
 | bl (b : Bool) : Rp K kd O H (.bl b) (.bl b)
 | int (i : Int) : Rp K kd O H (.int i) (.int i)
 | str (x : Str) : Rp K kd O H (.str x) (.str x)
 | tup {a : Addr} {vs : List V} {ds : List D} : ¬ O a -> H a = some (.tup vs) -> RpL K kd O H vs ds -> Rp K kd O H (.ref a) (.tup ds)
 | lst {a : Addr} {vs : List V} {ds : List D} : ¬ O a -> Rd H a (.lst vs) -> RpL K kd O H vs ds -> Rp K kd O H (.ref a) (.lst ds)
 | lstK {a : Addr} {its : Array Value} {n : Nat} {vs : List V} {ds : List D} : K.lookup a = some { cls := .type "list", data := .seq its n } -> its.size <= sizeLine -> Vals vs its.toList -> RpL K kd O H vs ds -> Rp K kd O H (.ref a) (.lst ds)
 | dct {a : Addr} {kvs : List (Key × V)} {ds : List (Key × D)} : ¬ O a -> Rd H a (.dK kvs) -> RpM K kd O H kvs ds -> Rp K kd O H (.ref a) (.dct ds)
 | dctK {a : Addr} {kvs : List (Key × V)} {ds : List (Key × D)} : kd a kvs -> RpM K kd O H kvs ds -> Rp K kd O H (.ref a) (.dct ds)
 | cl (c : Str) : Rp K kd O H (.ref (kd.c c)) (.cl c)
 | ob {a dx : Addr} {c : Str} {ns : List Str} {vs : List V} {ds : List D} : ¬ O a -> H a = some (.ins (kd.c c) dx (ns.zip vs)) -> ns.length = vs.length -> RpL K kd O H vs ds -> Rp K kd O H (.ref a) (.ob c ns ds)
 | dt {bs : List Addr} {ep : Nat} {a : Addr} {ks : List (List Key)} {vs : List V} {ds : List D} : ¬ O a -> H a = some (.dT (ks.zip vs) bs ep) -> ks.length = vs.length -> RpL K kd O H (bs.map V.ref) (ks.map tkD) -> RpL K kd O H vs ds -> Rp K kd O H (.ref a) (.dt ks ds)
inductive RpL (K : zC) (kd : KD) (O : Addr -> Prop) (H : Hp) : List V -> List D -> Prop
 | nil : RpL K kd O H [] []
 | cons {v : V} {d : D} {vs : List V} {ds : List D} : Rp K kd O H v d -> RpL K kd O H vs ds -> RpL K kd O H (v :: vs) (d :: ds)
inductive RpM (K : zC) (kd : KD) (O : Addr -> Prop) (H : Hp) : List (Key × V) -> List (Key × D) -> Prop
 | nil : RpM K kd O H [] []
 | cons {k : Key} {v : V} {d : D} {vs : List (Key × V)} {ds : List (Key × D)} : Rp K kd O H v d -> RpM K kd O H vs ds -> RpM K kd O H ((k, v) :: vs) ((k, d) :: ds)
end
structure Grow (W : Addr -> Prop) (H : Hp) (W' : Addr -> Prop) (H' : Hp) : Prop where
 keep : ∀ b o, H b = some o -> ¬ W b -> H' b = some o
 own : ∀ b, W' b -> W b \/ H b = none
theorem Grow.refl {W : Addr -> Prop} {H : Hp} : Grow W H W H := ⟨λ _ _ h _ => h, λ _ h => .inl h⟩
theorem Grow.trans {W W1 W2 : Addr -> Prop} {H H1 H2 : Hp} (a : Grow W H W1 H1) (b : Grow W1 H1 W2 H2) : Grow W H W2 H2 where
 keep := λ x o h n => b.keep x o (a.keep x o h n) λ q => (a.own x q).elim n λ z => by rw [z] at h; cases h
 own := λ x q => by
  rcases b.own x q with h | h
  · exact a.own x h
  · cases e : H x with
    | none => exact .inr rfl
    | some o =>
     refine .inl (Classical.byContradiction λ n => ?_)
     rw [a.keep x o e n] at h
     cases h
theorem Grow.less {W W' : Addr -> Prop} {H : Hp} (h : ∀ a, W' a -> W a) : Grow W H W' H := ⟨λ _ _ q _ => q, λ b q => .inl (h b q)⟩
abbrev Un2 (F W : Addr -> Prop) : Addr -> Prop := λ a => F a \/ W a
section
variable {K : zC} {kd : KD} {F W W' : Addr -> Prop} {H H' : Hp}
theorem zbn {a : Addr} {u : HO} (g : Grow W H W' H') (n : ¬ W a) (h : Rd H a u) : Rd H' a u := by
 rcases h with h | ⟨o, h⟩
 · exact .inl (g.keep _ _ h n)
 · exact .inr ⟨o, g.keep _ _ h n⟩
theorem zmU {a : Addr} {u : HO} (h : Rd H a u) : H a ≠ none := by
 rcases h with h | ⟨o, h⟩ <;> (rw [h]; simp)
theorem W7 {a : Addr} {u : HO} (g : Grow W H W' H') (n : ¬ Un2 F W a) (h : Rd H a u) : ¬ Un2 F W' a := λ q =>
 q.elim (λ z => n (.inl z)) λ z => (g.own a z).elim (λ y => n (.inr y)) λ y => zmU h y
theorem Rp.grow (g : Grow W H W' H') {v : V} {d : D} (h : Rp K kd (Un2 F W) H v d) : Rp K kd (Un2 F W') H' v d :=
 Rp.rec (motive_1 := λ v d _ => Rp K kd (Un2 F W') H' v d) (motive_2 := λ vs ds _ => RpL K kd (Un2 F W') H' vs ds) (motive_3 := λ vs ds _ => RpM K kd (Un2 F W') H' vs ds) .non .bl .int .str (λ n h _ r => .tup (W7 g n (.inl h)) (g.keep _ _ h λ z => n (.inr z)) r) (λ n h _ r => .lst (W7 g n h) (zbn g (λ z => n (.inr z)) h) r) (λ a e f _ r => .lstK a e f r) (λ n h _ r => .dct (W7 g n h) (zbn g (λ z => n (.inr z)) h) r) (λ h _ r => .dctK h r) .cl (λ n h l _ r => .ob (W7 g n (.inl h)) (g.keep _ _ h λ z => n (.inr z)) l r) (λ n h l _ _ c r => .dt (W7 g n (.inl h)) (g.keep _ _ h λ z => n (.inr z)) l c r) .nil (λ _ _ h r => .cons h r) .nil (λ _ _ h r => .cons h r) h
theorem RpL.ind {O : Addr -> Prop} {P : List V -> List D -> Prop} (h0 : P [] []) (h1 : ∀ {v d vs ds}, Rp K kd O H v d -> RpL K kd O H vs ds -> P vs ds -> P (v :: vs) (d :: ds)) {vs : List V} {ds : List D} (h : RpL K kd O H vs ds) : P vs ds :=
 RpL.rec (motive_1 := λ _ _ _ => True) (motive_2 := λ vs ds _ => P vs ds) (motive_3 := λ _ _ _ => True) ⟨⟩ (λ _ => ⟨⟩) (λ _ => ⟨⟩) (λ _ => ⟨⟩) (λ _ _ _ _ => ⟨⟩) (λ _ _ _ _ => ⟨⟩) (λ _ _ _ _ _ => ⟨⟩) (λ _ _ _ _ => ⟨⟩) (λ _ _ _ => ⟨⟩) (λ _ => ⟨⟩) (λ _ _ _ _ _ => ⟨⟩) (λ _ _ _ _ _ _ _ => ⟨⟩) h0 (λ a r _ ih => h1 a r ih) ⟨⟩ (λ _ _ _ _ => ⟨⟩) h
theorem RpM.ind {O : Addr -> Prop} {P : List (Key × V) -> List (Key × D) -> Prop} (h0 : P [] []) (h1 : ∀ {k v d vs ds}, Rp K kd O H v d -> RpM K kd O H vs ds -> P vs ds -> P ((k, v) :: vs) ((k, d) :: ds)) {vs : List (Key × V)} {ds : List (Key × D)} (h : RpM K kd O H vs ds) : P vs ds :=
 RpM.rec (motive_1 := λ _ _ _ => True) (motive_2 := λ _ _ _ => True) (motive_3 := λ vs ds _ => P vs ds) ⟨⟩ (λ _ => ⟨⟩) (λ _ => ⟨⟩) (λ _ => ⟨⟩) (λ _ _ _ _ => ⟨⟩) (λ _ _ _ _ => ⟨⟩) (λ _ _ _ _ _ => ⟨⟩) (λ _ _ _ _ => ⟨⟩) (λ _ _ _ => ⟨⟩) (λ _ => ⟨⟩) (λ _ _ _ _ _ => ⟨⟩) (λ _ _ _ _ _ _ _ => ⟨⟩) ⟨⟩ (λ _ _ _ _ => ⟨⟩) h0 (λ a r _ ih => h1 a r ih) h
theorem RpL.grow (g : Grow W H W' H') {vs : List V} {ds : List D} (h : RpL K kd (Un2 F W) H vs ds) : RpL K kd (Un2 F W') H' vs ds := RpL.ind .nil (λ a _ r => .cons (Rp.grow g a) r) h
theorem Rp.less {O O' : Addr -> Prop} (g : ∀ a, O' a -> O a) {v : V} {d : D} (h : Rp K kd O H v d) : Rp K kd O' H v d :=
 Rp.rec (motive_1 := λ v d _ => Rp K kd O' H v d) (motive_2 := λ vs ds _ => RpL K kd O' H vs ds) (motive_3 := λ vs ds _ => RpM K kd O' H vs ds) .non .bl .int .str (λ n h _ r => .tup (λ z => n (g _ z)) h r) (λ n h _ r => .lst (λ z => n (g _ z)) h r) (λ a e f _ r => .lstK a e f r) (λ n h _ r => .dct (λ z => n (g _ z)) h r) (λ h _ r => .dctK h r) .cl (λ n h l _ r => .ob (λ z => n (g _ z)) h l r) (λ n h l _ _ c r => .dt (λ z => n (g _ z)) h l c r) .nil (λ _ _ h r => .cons h r) .nil (λ _ _ h r => .cons h r) h
theorem RpL.less {O O' : Addr -> Prop} (g : ∀ a, O' a -> O a) {vs : List V} {ds : List D} (h : RpL K kd O H vs ds) : RpL K kd O' H vs ds := RpL.ind .nil (λ a _ r => .cons (Rp.less g a) r) h
theorem RpM.less {O O' : Addr -> Prop} (g : ∀ a, O' a -> O a) {vs : List (Key × V)} {ds : List (Key × D)} (h : RpM K kd O H vs ds) : RpM K kd O' H vs ds := RpM.ind .nil (λ a _ r => .cons (Rp.less g a) r) h
theorem RpL.length {O : Addr -> Prop} {vs : List V} {ds : List D} (h : RpL K kd O H vs ds) : vs.length = ds.length := RpL.ind (P := λ vs ds => vs.length = ds.length) rfl (λ _ _ r => congrArg (· + 1) r) h
theorem RpM.length {O : Addr -> Prop} {vs : List (Key × V)} {ds : List (Key × D)} (h : RpM K kd O H vs ds) : vs.length = ds.length := RpM.ind (P := λ vs ds => vs.length = ds.length) rfl (λ _ _ r => congrArg (· + 1) r) h
theorem RpL.get {O : Addr -> Prop} {vs : List V} {ds : List D} {i : Nat} {d : D} (h : RpL K kd O H vs ds) (e : ds[i]? = some d) : ∃ v, vs[i]? = some v /\ Rp K kd O H v d :=
 RpL.ind (P := λ vs ds => ∀ i, ds[i]? = some d -> ∃ v, vs[i]? = some v /\ Rp K kd O H v d) (λ i e => by rw [List.getElem?_nil] at e; cases e) (λ a _ ih i e => by
  cases i with
  | zero => cases e; exact ⟨_, rfl, a⟩
  | succ i => exact ih i e) h i e
theorem RpL.append {O : Addr -> Prop} {vs ws : List V} {ds es : List D} (h : RpL K kd O H vs ds) (r : RpL K kd O H ws es) : RpL K kd O H (vs ++ ws) (ds ++ es) := RpL.ind (P := λ vs ds => RpL K kd O H (vs ++ ws) (ds ++ es)) r (λ a _ t => .cons a t) h
theorem RpL.take {O : Addr -> Prop} {vs : List V} {ds : List D} (n : Nat) (h : RpL K kd O H vs ds) : RpL K kd O H (vs.take n) (ds.take n) :=
 RpL.ind (P := λ vs ds => ∀ n, RpL K kd O H (vs.take n) (ds.take n)) (λ n => by rw [List.take_nil, List.take_nil]; exact .nil) (λ a _ ih n => by
  cases n with
  | zero => exact .nil
  | succ n => exact .cons a (ih n)) h n
theorem RpL.drop {O : Addr -> Prop} {vs : List V} {ds : List D} (n : Nat) (h : RpL K kd O H vs ds) : RpL K kd O H (vs.drop n) (ds.drop n) :=
 RpL.ind (P := λ vs ds => ∀ n, RpL K kd O H (vs.drop n) (ds.drop n)) (λ n => by rw [List.drop_nil, List.drop_nil]; exact .nil) (λ a b ih n => by
  cases n with
  | zero => exact .cons a b
  | succ n => exact ih n) h n
theorem RpL.rep {O : Addr -> Prop} {vs : List V} {ds : List D} (h : RpL K kd O H vs ds) : ∀ k : Nat, RpL K kd O H (List.replicate k vs).flatten (List.replicate k ds).flatten
 | 0 => .nil
 | k + 1 => by
  rw [List.replicate_succ, List.replicate_succ, List.flatten_cons, List.flatten_cons]
  exact h.append (RpL.rep h k)
end
inductive Vw (K : zC) (kd : KD) (O : Addr -> Prop) (H : Hp) : V -> D -> Prop
 | non : Vw K kd O H .non .non
 | bl (b : Bool) : Vw K kd O H (.bl b) (.bl b)
 | int (i : Int) : Vw K kd O H (.int i) (.int i)
 | str (x : Str) : Vw K kd O H (.str x) (.str x)
 | tup {a : Addr} {vs : List V} {ds : List D} : Rp K kd O H (.ref a) (.tup ds) -> SqT K H a vs -> RpL K kd O H vs ds -> Vw K kd O H (.ref a) (.tup ds)
 | lst {a : Addr} {vs : List V} {ds : List D} : RdL K H a vs -> RpL K kd O H vs ds -> Vw K kd O H (.ref a) (.lst ds)
 | dct {a : Addr} {kvs : List (Key × V)} {ds : List (Key × D)} : (Rd H a (.dK kvs) \/ kd a kvs) -> RpM K kd O H kvs ds -> Vw K kd O H (.ref a) (.dct ds)
 | cl (c : Str) : Vw K kd O H (.ref (kd.c c)) (.cl c)
 | ob {a dx : Addr} {c : Str} {ns : List Str} {vs : List V} {ds : List D} : H a = some (.ins (kd.c c) dx (ns.zip vs)) -> ns.length = vs.length -> RpL K kd O H vs ds -> Vw K kd O H (.ref a) (.ob c ns ds)
 | dt {bs : List Addr} {ep : Nat} {a : Addr} {ks : List (List Key)} {vs : List V} {ds : List D} : H a = some (.dT (ks.zip vs) bs ep) -> ks.length = vs.length -> RpL K kd O H vs ds -> Vw K kd O H (.ref a) (.dt ks ds)
theorem Rp.vw {K : zC} {kd : KD} {O : Addr -> Prop} {H : Hp} {v : V} {d : D} (h : Rp K kd O H v d) : Vw K kd O H v d := by
 cases h with
 | non => exact .non
 | bl b => exact .bl b
 | int i => exact .int i
 | str x => exact .str x
 | tup n h r => exact .tup (.tup n h r) (.inl (.inl h)) r
 | lst n h r => exact .lst (.inl h) r
 | lstK a e f r => exact .lst (.inr ⟨_, _, a, e, f⟩) r
 | dct n h r => exact .dct (.inl h) r
 | dctK h r => exact .dct (.inr h) r
 | cl c => exact .cl c
 | ob n h l r => exact .ob h l r
 | dt n h l c r => exact .dt h l r
theorem _root_.L2.RdL.sq {K : zC} {H : Hp} {a : Addr} {xs : List V} (h : RdL K H a xs) : SqL K H a xs := by
 rcases h with h | ⟨its, n, k, z, r⟩
 · exact .inl h
 · exact .inr ⟨_, its, n, k, rfl, rfl, rfl, z, r⟩
theorem zhy {X : Cx} {pins : List (Addr × Obj)} {σ : St} {H : Hp} {s : Shared} {a : Addr} {xs : List V} (I : Inv X pins σ H s) (h : RdL X.K H a xs) :
 xs.length <= sizeLine /\ ∃ (its : List Value) (n : Nat), Vals xs its /\ s.heap.get? a = some { cls := .type "list", data := .seq its.toArray n } := by
 rcases h with h | ⟨its, n, k, z, r⟩
 · exact h.ok I.hok
 · refine ⟨by rw [r.length]; simpa using z, its.toList, n, r, by simpa using I.kIn _ _ k⟩
theorem Rp.cl_eq {K : zC} {kd : KD} {O : Addr -> Prop} {H : Hp} {C : Addr} {c : Str} (h : Rp K kd O H (.ref C) (.cl c)) : C = kd.c c := by
 cases h; rfl
def zF : D -> Bool
 | .non => true | .bl _ => true | .int _ => true | .str _ => true | _ => false
theorem Rp.flat {K : zC} {kd : KD} {O O' : Addr -> Prop} {H H' : Hp} {v : V} {d : D} (h : Rp K kd O H v d) (e : zF d = true) : Rp K kd O' H' v d := by
 cases h with
 | non => exact .non
 | bl b => exact .bl b
 | int i => exact .int i
 | str x => exact .str x
 | _ => cases e
inductive Kind where
 | ls | tp | dc (ks : List Key) | ob (c : Str) (ns : List Str) | dt (ks : List (List Key))
inductive O where
 | lf (st : Bool) (d : D) | nd (k : Kind) (os : List O)
abbrev lfs (st : Bool) (d : D) : O := .lf (zF d || st) d
mutual
inductive Ro (L : Bool -> V -> D -> Prop) (N : Addr -> Prop) (H : Hp) : V -> O -> List Addr -> Prop
 | lf {st : Bool} {v : V} {d : D} : L st v d -> Ro L N H v (.lf st d) []
 | ls {a : Addr} {vs : List V} {os : List O} {fp : List Addr} : H a = some (.lst vs) -> RoL L N H vs os fp -> Ro L N H (.ref a) (.nd .ls os) (a :: fp)
 | dc {a : Addr} {ks : List Key} {vs : List V} {os : List O} {fp : List Addr} : H a = some (.dK (ks.zip vs)) -> ks.length = vs.length -> RoL L N H vs os fp -> Ro L N H (.ref a) (.nd (.dc ks) os) (a :: fp)
 | ob {a dx C : Addr} {c : Str} {ns : List Str} {vs : List V} {os : List O} {fp : List Addr} : L true (.ref C) (.cl c) -> H a = some (.ins C dx (ns.zip vs)) -> ns.length = vs.length -> RoL L N H vs os fp -> Ro L N H (.ref a) (.nd (.ob c ns) os) (a :: fp)
 | dt {bs : List Addr} {ep : Nat} {a : Addr} {ks : List (List Key)} {vs : List V} {os : List O} {fp : List Addr} : H a = some (.dT (ks.zip vs) bs ep) -> ks.length = vs.length -> bs.length = ks.length -> (∀ p ∈ bs.zip ks, L false (.ref p.1) (tkD p.2)) -> RoL L N H vs os fp -> Ro L N H (.ref a) (.nd (.dt ks) os) (a :: fp)
 | tp {a : Addr} {vs : List V} {os : List O} {fp : List Addr} : N a -> H a = some (.tup vs) -> RoL L N H vs os fp -> Ro L N H (.ref a) (.nd .tp os) fp
inductive RoL (L : Bool -> V -> D -> Prop) (N : Addr -> Prop) (H : Hp) : List V -> List O -> List Addr -> Prop
 | nil : RoL L N H [] [] []
 | cons {v : V} {o : O} {vs : List V} {os : List O} {fp fq : List Addr} : Ro L N H v o fp -> RoL L N H vs os fq -> RoL L N H (v :: vs) (o :: os) (fp ++ fq)
end
mutual
def O.toD : O -> D
 | .lf _ d => d
 | .nd .ls os => .lst (O.toDs os)
 | .nd .tp os => .tup (O.toDs os)
 | .nd (.dc ks) os => .dct (ks.zip (O.toDs os))
 | .nd (.ob c ns) os => .ob c ns (O.toDs os)
 | .nd (.dt ks) os => .dt ks (O.toDs os)
def O.toDs : List O -> List D
 | [] => []
 | o :: r => o.toD :: O.toDs r
end
mutual
def O.str : O -> Bool
 | .lf st _ => st
 | .nd (.dt _) _ => false
 | .nd .ls os => O.strs os
 | .nd .tp os => O.strs os
 | .nd (.dc _) os => O.strs os
 | .nd (.ob _ _) os => O.strs os
def O.strs : List O -> Bool
 | [] => true
 | o :: r => o.str && O.strs r
end
section
variable {L L' : Bool -> V -> D -> Prop} {N N' : Addr -> Prop} {H H' : Hp} {K : zC} {kd : KD} {Ob : Addr -> Prop}
theorem Ro.mono (hL : ∀ st v d, L st v d -> L' st v d) (hN : ∀ a vs, N a -> H a = some (.tup vs) -> N' a /\ H' a = some (.tup vs)) {v : V} {o : O} {fp : List Addr} (k : ∀ a ∈ fp, ∀ u, H a = some u -> H' a = some u) (h : Ro L N H v o fp) : Ro L' N' H' v o fp :=
 Ro.rec (motive_1 := λ v o fp _ => (∀ a ∈ fp, ∀ u, H a = some u -> H' a = some u) -> Ro L' N' H' v o fp) (motive_2 := λ vs os fp _ => (∀ a ∈ fp, ∀ u, H a = some u -> H' a = some u) -> RoL L' N' H' vs os fp)
  (λ h _ => .lf (hL _ _ _ h)) (λ h _ r k => .ls (k _ zzC _ h) (r λ a m => k a (zzA _ m))) (λ h l _ r k => .dc (k _ zzC _ h) l (r λ a m => k a (zzA _ m))) (λ c h l _ r k => .ob (hL _ _ _ c) (k _ zzC _ h) l (r λ a m => k a (zzA _ m))) (λ h l lb c _ r k => .dt (k _ zzC _ h) l lb (λ p m => hL _ _ _ (c p m)) (r λ a m => k a (zzA _ m))) (λ n h _ r k => .tp (hN _ _ n h).1 (hN _ _ n h).2 (r k))
  (λ _ => .nil) (λ _ _ h r k => .cons (h λ a m => k a (zzM _ m)) (r λ a m => k a (zzI _ m))) h k
theorem RoL.ind {P : List V -> List O -> List Addr -> Prop} (h0 : P [] [] []) (h1 : ∀ {v o vs os fp fq}, Ro L N H v o fp -> RoL L N H vs os fq -> P vs os fq -> P (v :: vs) (o :: os) (fp ++ fq)) {vs : List V} {os : List O} {fp : List Addr} (h : RoL L N H vs os fp) : P vs os fp :=
 RoL.rec (motive_1 := λ _ _ _ _ => True) (motive_2 := λ vs os fp _ => P vs os fp) (λ _ => ⟨⟩) (λ _ _ _ => ⟨⟩) (λ _ _ _ _ => ⟨⟩) (λ _ _ _ _ _ => ⟨⟩) (λ _ _ _ _ _ _ => ⟨⟩) (λ _ _ _ _ => ⟨⟩) h0 (λ a r _ ih => h1 a r ih) h
theorem RoL.mono (hL : ∀ st v d, L st v d -> L' st v d) (hN : ∀ a vs, N a -> H a = some (.tup vs) -> N' a /\ H' a = some (.tup vs)) {vs : List V} {os : List O} {fp : List Addr} (k : ∀ a ∈ fp, ∀ u, H a = some u -> H' a = some u) (h : RoL L N H vs os fp) : RoL L' N' H' vs os fp :=
 RoL.ind (P := λ vs os fp => (∀ a ∈ fp, ∀ u, H a = some u -> H' a = some u) -> RoL L' N' H' vs os fp) (λ _ => .nil) (λ h _ r k => .cons (Ro.mono hL hN (λ a m => k a (zzM _ m)) h) (r λ a m => k a (zzI _ m))) h k
theorem zcO : ∀ {ks : List Key} {vs : List V} {ds : List D}, RpL K kd Ob H vs ds -> ks.length = vs.length -> RpM K kd Ob H (ks.zip vs) (ks.zip ds)
 | [], _, _, _, _ => .nil
 | _ :: _, _, _, .nil, e => by simp at e
 | _ :: _, _, _, .cons h r, e => .cons h (zcO r (by simpa using e))
theorem zlK : ∀ {bs : List Addr} {ks : List (List Key)}, bs.length = ks.length -> (∀ p ∈ bs.zip ks, Rp K kd Ob H (.ref p.1) (tkD p.2)) -> RpL K kd Ob H (bs.map V.ref) (ks.map tkD)
 | [], [], _, _ => .nil
 | [], _ :: _, e, _ => by cases e
 | _ :: _, [], e, _ => by cases e
 | b :: bs, k :: ks, e, h => .cons (h (b, k) zzC) (zlK (Nat.succ.inj e) λ p m => h p (zzA _ m))
theorem Ro.rp (b : Bool) (hL : ∀ st v d, (b = true -> st = true) -> L st v d -> Rp K kd Ob H v d) (hN : ∀ a, N a -> ¬ Ob a) {v : V} {o : O} {fp : List Addr} (s : b = true -> o.str = true) (k : ∀ a ∈ fp, ¬ Ob a) (h : Ro L N H v o fp) : Rp K kd Ob H v o.toD :=
 Ro.rec (motive_1 := λ v o fp _ => (b = true -> o.str = true) -> (∀ a ∈ fp, ¬ Ob a) -> Rp K kd Ob H v o.toD) (motive_2 := λ vs os fp _ => (b = true -> O.strs os = true) -> (∀ a ∈ fp, ¬ Ob a) -> RpL K kd Ob H vs (O.toDs os))
  (λ h s _ => hL _ _ _ s h) (λ h _ r s k => .lst (k _ zzC) (.inl h) (r s λ a m => k a (zzA _ m))) (λ h l _ r s k => .dct (k _ zzC) (.inl h) (zcO (r s λ a m => k a (zzA _ m)) l)) (λ c h l _ r s k => by
   have e := (hL _ _ _ (λ _ => rfl) c).cl_eq
   subst e
   exact .ob (k _ zzC) h l (r s λ a m => k a (zzA _ m))) (λ h l lb c _ r s k => .dt (k _ zzC) h l (zlK lb λ p m => hL _ _ _ s (c p m)) (r (λ z => nomatch (s z)) λ a m => k a (zzA _ m))) (λ n h _ r s k => .tup (hN _ n) h (r s k))
  (λ _ _ => .nil) (λ _ _ h r s k => .cons (h (λ z => ((Bool.and_eq_true _ _).mp (s z)).1) λ a m => k a (zzM _ m)) (r (λ z => ((Bool.and_eq_true _ _).mp (s z)).2) λ a m => k a (zzI _ m))) h s k
theorem RoL.rp (b : Bool) (hL : ∀ st v d, (b = true -> st = true) -> L st v d -> Rp K kd Ob H v d) (hN : ∀ a, N a -> ¬ Ob a) {vs : List V} {os : List O} {fp : List Addr} (s : b = true -> O.strs os = true) (k : ∀ a ∈ fp, ¬ Ob a) (h : RoL L N H vs os fp) : RpL K kd Ob H vs (O.toDs os) :=
 RoL.ind (P := λ vs os fp => (b = true -> O.strs os = true) -> (∀ a ∈ fp, ¬ Ob a) -> RpL K kd Ob H vs (O.toDs os)) (λ _ _ => .nil) (λ h _ r s k => .cons (Ro.rp b hL hN (λ z => ((Bool.and_eq_true _ _).mp (s z)).1) (λ a m => k a (zzM _ m)) h) (r (λ z => ((Bool.and_eq_true _ _).mp (s z)).2) λ a m => k a (zzI _ m))) h s k
theorem RoL.length {vs : List V} {os : List O} {fp : List Addr} (h : RoL L N H vs os fp) : vs.length = os.length := RoL.ind (P := λ vs os _ => vs.length = os.length) rfl (λ _ _ r => congrArg (· + 1) r) h
theorem WY : ∀ os : List O, (O.toDs os).length = os.length
 | [] => rfl
 | _ :: r => congrArg (· + 1) (WY r)
theorem zkn (os : List O) : O.toDs os = os.map O.toD := by
 induction os with
 | nil => rfl
 | cons o r ih => show o.toD :: O.toDs r = _; rw [ih]; rfl
theorem RoL.append {vs ws : List V} {os ps : List O} {f g : List Addr} (h : RoL L N H vs os f) (r : RoL L N H ws ps g) : RoL L N H (vs ++ ws) (os ++ ps) (f ++ g) := RoL.ind (P := λ vs os f => RoL L N H (vs ++ ws) (os ++ ps) (f ++ g)) r (λ h _ t => by rw [List.append_assoc]; exact .cons h t) h
theorem RoL.one {v : V} {o : O} {f : List Addr} (h : Ro L N H v o f) : RoL L N H [v] [o] f := by
 have := RoL.cons h (RoL.nil (L := L) (N := N) (H := H))
 rw [List.append_nil] at this
 exact this
theorem RoL.at_ {k : Nat} {o : O} : ∀ {vs : List V} {os : List O} {fp : List Addr}, RoL L N H vs os fp -> os[k]? = some o -> ∃ v f fo g, vs[k]? = some v /\ fp = f ++ (fo ++ g) /\ Ro L N H v o fo /\ RoL L N H (vs.take k) (os.take k) f /\ RoL L N H (vs.drop (k + 1)) (os.drop (k + 1)) g := by
 induction k with
 | zero =>
  intro vs os fp h e
  cases h with
  | nil => cases e
  | cons h r =>
   rw [List.getElem?_cons_zero] at e
   cases e
   exact ⟨_, [], _, _, rfl, rfl, h, .nil, r⟩
 | succ k ih =>
  intro vs os fp h e
  cases h with
  | nil => cases e
  | cons h r =>
   rw [List.getElem?_cons_succ] at e
   obtain ⟨v, f, fo, g, e1, e2, h1, h2, h3⟩ := ih r e
   subst e2
   exact ⟨v, _, fo, g, by rw [List.getElem?_cons_succ]; exact e1, (List.append_assoc _ _ _).symm, h1, .cons h h2, h3⟩
theorem zcu {α : Type} (l : List α) (k : Nat) : l.eraseIdx k = l.take k ++ l.drop (k + 1) := List.eraseIdx_eq_take_drop_succ l k
end
abbrev AS := List (Option O)
abbrev Ad := Nat -> List Addr
def Gw (T : List Addr) (ad : Ad) : Addr -> Prop := λ a => a ∈ T \/ ∃ i, a ∈ ad i
abbrev Lv (F B G : Addr -> Prop) (st : Bool) : Addr -> Prop := Un2 (λ a => (st = true /\ F a) \/ B a) G
abbrev Lf (K : zC) (kd : KD) (F B G : Addr -> Prop) (H : Hp) : Bool -> V -> D -> Prop := λ st v d => Rp K kd (Lv F B G st) H v d
abbrev Nf (F B G : Addr -> Prop) : Addr -> Prop := λ a => ¬ Lv F B G true a
abbrev RoS (K : zC) (kd : KD) (F B G : Addr -> Prop) (H : Hp) : V -> O -> List Addr -> Prop := Ro (Lf K kd F B G H) (Nf F B G) H
abbrev Zv (K : zC) (kd : KD) (F B G : Addr -> Prop) (H : Hp) : List V -> List O -> List Addr -> Prop := RoL (Lf K kd F B G H) (Nf F B G) H
def zdA (K : zC) (kd : KD) (F B G : Addr -> Prop) (H : Hp) : Option O -> Option (Option V) -> List Addr -> Prop
 | none, _, fp => fp = []
 | some o, s, fp => ∃ v, s = some (some v) /\ RoS K kd F B G H v o fp
structure Rel (K : zC) (kd : KD) (F B : Addr -> Prop) (T : List Addr) (ad : Ad) (as : AS) (σ : St) (H : Hp) : Prop where
 len : as.length = σ.length
 out : ∀ i, as.length <= i -> ad i = []
 nd : ∀ i, (ad i).Nodup
 inj : ∀ i j a, a ∈ ad i -> a ∈ ad j -> i = j
 tnd : T.Nodup
 dis : ∀ i a, a ∈ ad i -> a ∉ T
 ftr : ∀ a, F a -> H a ≠ none
 btr : ∀ a, B a -> H a ≠ none /\ ¬ F a /\ ¬ Gw T ad a
 gtr : ∀ a, Gw T ad a -> H a ≠ none /\ ¬ F a
 sl : ∀ i s, as[i]? = some s -> zdA K kd F B (Gw T ad) H s σ[i]? (ad i)
inductive RV where
 | ow (o : O) | bo (i : Nat)
def vg (K : zC) (kd : KD) (F B : Addr -> Prop) (T : List Addr) (ad : Ad) (σ : St) (H : Hp) (v : V) : RV -> Prop
 | .ow o => RoS K kd F B (Gw T ad) H v o T
 | .bo i => T = [] /\ σ[i]? = some (some v)
def O.frz (o : O) : O := .lf o.str o.toD
def RV.frz : RV -> RV
 | .ow o => .ow o.frz
 | .bo i => .bo i
def O.isLf : O -> Bool
 | .lf _ _ => true
 | _ => false
def O.kl : O -> Option Bool
 | .lf st _ => some st
 | .nd _ os => if os.all O.isLf = true then some (O.strs os) else none
def RV.view (as : AS) : RV -> Option (D × Option Bool)
 | .ow o => some (o.toD, some o.str)
 | .bo i => match as[i]? with
  | some (some o) => some (o.toD, o.kl)
  | _ => none
def Obl (F B G : Addr -> Prop) : Option Bool -> Addr -> Prop
 | some st => Lv F B G st
 | none => λ _ => False
section
variable {K : zC} {kd : KD} {F B F' B' : Addr -> Prop} {G G' : Addr -> Prop} {T T' : List Addr} {ad ad1 : Ad} {as as1 : AS} {σ : St} {H H1 H' : Hp} {v : V} {r : RV} {o : O} {fp : List Addr} {vs : List V} {os : List O}
theorem RoS.grow (g : Grow G H G' H') (k : ∀ a ∈ fp, ∀ u, H a = some u -> H' a = some u) (h : RoS K kd F B G H v o fp) : RoS K kd F B G' H' v o fp :=
 Ro.mono (λ st v d r => Rp.grow g r) (λ a vs n e => ⟨λ z => z.elim (λ y => n (.inl y)) λ y => (g.own a y).elim (λ w => n (.inr w)) λ w => (by rw [w] at e; cases e), g.keep a _ e (λ w => n (.inr w))⟩) k h
theorem Zv.grow (g : Grow G H G' H') (k : ∀ a ∈ fp, ∀ u, H a = some u -> H' a = some u) (h : Zv K kd F B G H vs os fp) : Zv K kd F B G' H' vs os fp :=
 RoL.mono (λ st v d r => Rp.grow g r) (λ a vs n e => ⟨λ z => z.elim (λ y => n (.inl y)) λ y => (g.own a y).elim (λ w => n (.inr w)) λ w => (by rw [w] at e; cases e), g.keep a _ e (λ w => n (.inr w))⟩) k h
theorem RoS.lv (g : ∀ st a, Lv F' B' G' st a -> Lv F B G st a) (h : RoS K kd F B G H v o fp) : RoS K kd F' B' G' H v o fp :=
 Ro.mono (λ st v d r => r.less (g st)) (λ a vs n e => ⟨λ z => n (g true a z), e⟩) (λ _ _ _ e => e) h
theorem Zv.lv (g : ∀ st a, Lv F' B' G' st a -> Lv F B G st a) (h : Zv K kd F B G H vs os fp) : Zv K kd F' B' G' H vs os fp :=
 RoL.mono (λ st v d r => r.less (g st)) (λ a vs n e => ⟨λ z => n (g true a z), e⟩) (λ _ _ _ e => e) h
theorem RoS.less (g : ∀ a, G' a -> G a) (h : RoS K kd F B G H v o fp) : RoS K kd F B G' H v o fp := RoS.lv (λ _ a z => z.elim .inl λ y => .inr (g a y)) h
theorem Gw.drop : ∀ a, Gw [] ad a -> Gw T ad a := λ _ h => h.elim (λ z => nomatch z) .inr
theorem Rel.trk (R : Rel K kd F B T ad as σ H) (st : Bool) : ∀ a, Lv F B (Gw T ad) st a -> H a ≠ none := λ a h => by
 rcases h with (h | h) | h
 · exact R.ftr a h.2
 · exact (R.btr a h).1
 · exact (R.gtr a h).1
theorem Rel.tr (R : Rel K kd F B T ad as σ H) (lv : Option Bool) : ∀ a, Obl F B (Gw T ad) lv a -> H a ≠ none := λ a h => by
 cases lv with
 | none => exact h.elim
 | some st => exact R.trk st a h
theorem zdA.lv {s : Option O} {x : Option (Option V)} (g : ∀ st a, Lv F' B' G' st a -> Lv F B G st a) (h : zdA K kd F B G H s x fp) : zdA K kd F' B' G' H s x fp := by
 cases s with
 | none => exact h
 | some o => obtain ⟨v, e, r⟩ := h; exact ⟨v, e, RoS.lv g r⟩
theorem zdA.less {s : Option O} {x : Option (Option V)} (g : ∀ a, G' a -> G a) (h : zdA K kd F B G H s x fp) : zdA K kd F B G' H s x fp := h.lv (λ _ a z => z.elim .inl λ y => .inr (g a y))
theorem zdA.grow {s : Option O} {x : Option (Option V)} (g : Grow G H G' H') (k : ∀ a ∈ fp, ∀ u, H a = some u -> H' a = some u) (h : zdA K kd F B G H s x fp) : zdA K kd F B G' H' s x fp := by
 cases s with
 | none => exact h
 | some o => obtain ⟨v, e, r⟩ := h; exact ⟨v, e, RoS.grow g k r⟩
theorem Rel.drop (R : Rel K kd F B T ad as σ H) : Rel K kd F B [] ad as σ H where
 len := R.len
 out := R.out
 nd := R.nd
 inj := R.inj
 tnd := List.nodup_nil
 dis := λ _ _ _ z => nomatch z
 ftr := R.ftr
 btr := λ a h => let ⟨h1, h2, h3⟩ := R.btr a h; ⟨h1, h2, λ z => h3 (Gw.drop a z)⟩
 gtr := λ a h => R.gtr a (Gw.drop a h)
 sl := λ i s e => (R.sl i s e).less Gw.drop
theorem zfK (R : Rel K kd F B T ad as σ H) (h : RoS K kd F B (Gw T ad) H v o T) : Rp K kd (Lv F B (Gw [] ad) o.str) H v o.toD :=
 Ro.rp o.str (λ st v d hs r => r.less λ a z => z.elim (λ y => .inl (y.elim (λ x => .inl ⟨hs x.1, x.2⟩) .inr)) λ y => .inr (Gw.drop a y))
  (λ a n z => n (z.elim (λ y => .inl (y.elim (λ x => .inl ⟨rfl, x.2⟩) .inr)) λ y => .inr (Gw.drop a y))) id
  (λ a m z => by
   rcases z with (z | z) | z | ⟨i, z⟩
   · exact (R.gtr a (.inl m)).2 z.2
   · exact (R.btr a z).2.2 (.inl m)
   · cases z
   · exact R.dis i a z m) h
theorem vg.drop (R : Rel K kd F B T ad as σ H) (h : vg K kd F B T ad σ H v r) : vg K kd F B [] ad σ H v r.frz := by
 cases r with
 | ow o => exact .lf (zfK R h)
 | bo i => exact ⟨rfl, h.2⟩
theorem vg.grow (g : Grow (Gw [] ad) H (Gw [] ad1) H1) (h : vg K kd F B [] ad σ H v r) : vg K kd F B [] ad1 σ H1 v r := by
 cases r with
 | ow o => exact RoS.grow g (λ _ m => nomatch m) h
 | bo i => exact h
theorem zkC {vs : List V} {os : List O} {fp : List Addr} (h : Zv K kd F B G H vs os fp) : os.all O.isLf = true -> fp = [] :=
 RoL.ind (P := λ _ os fp => os.all O.isLf = true -> fp = []) (λ _ => rfl) (λ h _ ih e => by
  rw [List.all_cons, Bool.and_eq_true] at e
  rw [ih e.2, List.append_nil]
  cases h with
  | lf => rfl
  | ls => cases e.1
  | dc => cases e.1
  | ob => cases e.1
  | dt => cases e.1
  | tp => cases e.1) h
theorem zaz {st : Bool} {b : Bool} (hs : b = true -> st = true) : ∀ a, Lv F B G b a -> Lv F B G st a := λ a z => z.elim (λ y => .inl (y.elim (λ x => .inl ⟨hs x.1, x.2⟩) .inr)) .inr
theorem zbA (h : Zv K kd F B G H vs os fp) (e : os.all O.isLf = true) : RpL K kd (Lv F B G (O.strs os)) H vs (O.toDs os) := by
 have := zkC h e
 subst this
 exact RoL.rp (O.strs os) (λ st v d hs r => r.less (zaz hs)) (λ a n z => n (zaz (λ _ => rfl) a z)) id (by intro a m; cases m) h
theorem VD (h : Zv K kd F B G H vs os fp) : RpL K kd (λ _ => False) H vs (O.toDs os) := RoL.rp false (λ st v d _ r => r.less λ _ z => z.elim) (λ _ _ z => z) (λ z => Bool.noConfusion z) (λ _ _ z => z) h
theorem zfh (h : RoS K kd F B G H v o fp) : Rp K kd (λ _ => False) H v o.toD := Ro.rp false (λ st v d _ r => r.less λ _ z => z.elim) (λ _ _ z => z) (λ z => Bool.noConfusion z) (λ _ _ z => z) h
theorem zbq (h : RoS K kd F B G H v o []) : Rp K kd (Lv F B G o.str) H v o.toD :=
 Ro.rp o.str (λ st v d hs r => r.less (zaz hs)) (λ a n z => n (zaz (λ _ => rfl) a z)) id (by intro a m; cases m) h
theorem RoS.vw (h : RoS K kd F B G H v o fp) : Vw K kd (Obl F B G o.kl) H v o.toD := by
 cases h with
 | lf h => exact h.vw
 | ls hH r =>
  rename_i a vs' os' fp'
  show Vw K kd (Obl F B G (if os'.all O.isLf = true then some (O.strs os') else none)) H _ (.lst (O.toDs os'))
  by_cases e : os'.all O.isLf = true
  · rw [if_pos e]; exact .lst (.inl (.inl hH)) (zbA r e)
  · rw [if_neg e]; exact .lst (.inl (.inl hH)) (VD r)
 | dc hH l r =>
  rename_i a ks vs' os' fp'
  show Vw K kd (Obl F B G (if os'.all O.isLf = true then some (O.strs os') else none)) H _ (.dct (ks.zip (O.toDs os')))
  by_cases e : os'.all O.isLf = true
  · rw [if_pos e]; exact .dct (.inl (.inl hH)) (zcO (zbA r e) l)
  · rw [if_neg e]; exact .dct (.inl (.inl hH)) (zcO (VD r) l)
 | ob hc hH l r =>
  rename_i a dx C c ns vs' os' fp'
  have ec : C = kd.c c := hc.cl_eq
  subst ec
  show Vw K kd (Obl F B G (if os'.all O.isLf = true then some (O.strs os') else none)) H _ (.ob c ns (O.toDs os'))
  by_cases e : os'.all O.isLf = true
  · rw [if_pos e]; exact .ob hH l (zbA r e)
  · rw [if_neg e]; exact .ob hH l (VD r)
 | dt hH l lb c r =>
  rename_i a ks vs' os' fp'
  show Vw K kd (Obl F B G (if os'.all O.isLf = true then some (O.strs os') else none)) H _ (.dt ks (O.toDs os'))
  by_cases e : os'.all O.isLf = true
  · rw [if_pos e]; exact .dt hH l (zbA r e)
  · rw [if_neg e]; exact .dt hH l (VD r)
 | tp n hH r =>
  rename_i a vs' os'
  show Vw K kd (Obl F B G (if os'.all O.isLf = true then some (O.strs os') else none)) H _ (.tup (O.toDs os'))
  by_cases e : os'.all O.isLf = true
  · rw [if_pos e]
    have rl := zbA r e
    exact .tup (.tup (λ z => n (zaz (λ _ => rfl) _ z)) hH rl) (.inl (.inl hH)) rl
  · rw [if_neg e]; exact .tup (.tup (λ z => z) hH (VD r)) (.inl (.inl hH)) (VD r)
theorem vg.vw (R : Rel K kd F B [] ad as σ H) (h : vg K kd F B [] ad σ H v r) {d : D} {lv : Option Bool} (e : r.view as = some (d, lv)) : Vw K kd (Obl F B (Gw [] ad) lv) H v d := by
 cases r with
 | ow o =>
  cases e
  exact (zbq h).vw
 | bo i =>
  have e : (match as[i]? with | some (some o) => some (o.toD, o.kl) | _ => none) = some (d, lv) := e
  cases k : as[i]? with
  | none => rw [k] at e; cases e
  | some s =>
   cases s with
   | none => rw [k] at e; cases e
   | some o =>
    rw [k] at e
    cases e
    obtain ⟨w, hw, ro⟩ := R.sl i _ k
    rw [h.2] at hw
    cases hw
    exact ro.vw
theorem Rel.add {N : List Addr} (R : Rel K kd F B T ad as σ H) (hn : N.Nodup) (hl : ∀ a ∈ N, H a = none) (k : ∀ b u, H b = some u -> H' b = some u) (h1 : ∀ a ∈ N, H' a ≠ none) : Rel K kd F B (N ++ T) ad as σ H' /\ Grow (Gw T ad) H (Gw (N ++ T) ad) H' := by
 have g : Grow (Gw T ad) H (Gw (N ++ T) ad) H' := ⟨λ b u h _ => k b u h, λ b h => by
  rcases h with h | h
  · rcases zzJ.mp h with h | h
    · exact .inr (hl b h)
    · exact .inl (.inl h)
  · exact .inl (.inr h)⟩
 have kn : ∀ a, H a ≠ none -> H' a ≠ none := λ a z => by
  cases e : H a with
  | none => exact absurd e z
  | some u => rw [k a u e]; simp
 refine ⟨⟨R.len, R.out, R.nd, R.inj, ?_, λ i a m z => ?_, λ a z => kn a (R.ftr a z), λ a z => ?_, λ a z => ?_, λ i s e => (R.sl i s e).grow g λ a _ u h => k a u h⟩, g⟩
 · refine List.nodup_append.mpr ⟨hn, R.tnd, λ a m b m' e => ?_⟩
   subst e
   exact (R.gtr a (.inl m')).1 (hl a m)
 · rcases zzJ.mp z with z | z
   · exact (R.gtr a (.inr ⟨i, m⟩)).1 (hl a z)
   · exact R.dis i a m z
 · obtain ⟨b1, b2, b3⟩ := R.btr a z
   refine ⟨kn a b1, b2, λ y => ?_⟩
   rcases y with y | y
   · rcases zzJ.mp y with y | y
     · exact b1 (hl a y)
     · exact b3 (.inl y)
   · exact b3 (.inr y)
 · rcases z with z | z
   · rcases zzJ.mp z with z | z
     · exact ⟨h1 a z, λ f => R.ftr a f (hl a z)⟩
     · exact ⟨kn a (R.gtr a (.inl z)).1, (R.gtr a (.inl z)).2⟩
   · exact ⟨kn a (R.gtr a (.inr z)).1, (R.gtr a (.inr z)).2⟩
theorem Rel.more (R : Rel K kd F B T ad as σ H) (k : ∀ b u, H b = some u -> H' b = some u) : Rel K kd F B T ad as σ H' /\ Grow (Gw T ad) H (Gw T ad) H' :=
 R.add (N := []) List.nodup_nil (λ _ m => nomatch m) k (λ _ m => nomatch m)
theorem Rel.news (R : Rel K kd F B [] ad as σ H) (hn : T'.Nodup) (hl : ∀ a ∈ T', H a = none) (k : ∀ b u, H b = some u -> H' b = some u) (h1 : ∀ a ∈ T', H' a ≠ none) : Rel K kd F B T' ad as σ H' /\ Grow (Gw [] ad) H (Gw T' ad) H' := by
 have := R.add hn hl k h1
 rw [List.append_nil] at this
 exact this
end
inductive R0 where
 | im (d : D) | fl (ds : List D) | fd (kvs : List (Key × D))
def RQ (K : zC) (kd : KD) (O : Addr -> Prop) (H : Hp) (Q : VK) : R0 -> Prop
 | .im d => ∀ v H', (∀ b o, H b = some o -> H' b = some o) -> Rp K kd O H' v d -> Q v H'
 | .fl ds => ∀ l vs H', H l = none -> (∀ b o, H b = some o -> H' b = some o) -> H' l = some (.lst vs) -> RpL K kd (Un2 O (· = l)) H' vs ds -> Q (.ref l) H'
 | .fd ds => ∀ l vs H', H l = none -> (∀ b o, H b = some o -> H' b = some o) -> H' l = some (.dK vs) -> RpM K kd (Un2 O (· = l)) H' vs ds -> Q (.ref l) H'
def wrap (lv : Option Bool) : R0 -> Option RV
 | .im d => if (zF d || lv.isSome) = true then some (.ow (lfs (lv.getD false) d)) else none
 | .fl ds => if (ds.all zF || lv.isSome) = true then some (.ow (.nd .ls (ds.map (lfs (lv.getD false))))) else none
 | .fd kvs => if ((kvs.map (·.2)).all zF || lv.isSome) = true then some (.ow (.nd (.dc (kvs.map (·.1))) ((kvs.map (·.2)).map (lfs (lv.getD false))))) else none
theorem bS_ {α β : Type} {o : Option α} {f : α -> Option β} {b : β} (h : o.bind f = some b) : ∃ a, o = some a /\ f a = some b := by
 cases o with
 | none => cases h
 | some a => exact ⟨a, rfl, h⟩
theorem ite_some' {α : Type} {c : Prop} [Decidable c] {a : Option α} {b : α} (h : (if c then a else none) = some b) : c /\ a = some b := by
 by_cases hc : c
 · rw [if_pos hc] at h; exact ⟨hc, h⟩
 · rw [if_neg hc] at h; cases h
theorem zQ {α : Type} {c : Prop} [Decidable c] {a b : α} (h : (if c then some a else none) = some b) : c /\ a = b := by
 by_cases hc : c
 · rw [if_pos hc] at h; cases h; exact ⟨hc, rfl⟩
 · rw [if_neg hc] at h; cases h
section
variable {K : zC} {kd : KD} {F B : Addr -> Prop} {G : Addr -> Prop} {ad : Ad} {as : AS} {σ : St} {H H' : Hp} {v : V} {r : R0} {rv : RV} {Q : VK} {lv : Option Bool}
theorem znJ {Ob : Addr -> Prop} {d : D} (h : zF d = true \/ lv.isSome = true) (hO : ∀ st, lv = some st -> ∀ a, Lv F B G st a -> Ob a) (rp : Rp K kd Ob H v d) : Lf K kd F B G H (zF d || lv.getD false) v d := by
 cases e : zF d with
 | true => exact rp.flat e
 | false =>
  rw [e] at h
  cases lv with
  | none => rcases h with h | h <;> cases h
  | some st => exact rp.less (hO st rfl)
theorem zkr {Ob : Addr -> Prop} {N : Addr -> Prop} (hO : ∀ st, lv = some st -> ∀ a, Lv F B G st a -> Ob a) {vs : List V} {ds : List D} (e : (ds.all zF || lv.isSome) = true) (h : RpL K kd Ob H vs ds) : RoL (Lf K kd F B G H) N H vs (ds.map (lfs (lv.getD false))) [] :=
 RpL.ind (P := λ vs ds => (ds.all zF || lv.isSome) = true -> RoL (Lf K kd F B G H) N H vs (ds.map (lfs (lv.getD false))) []) (λ _ => .nil) (λ {v d vs ds} h _ ih e => by
  rw [List.all_cons] at e
  have e1 : zF d = true \/ lv.isSome = true := by
   cases h1 : lv.isSome <;> cases h2 : zF d <;> simp [h1, h2] at e ⊢
  have e2 : (ds.all zF || lv.isSome) = true := by
   cases h1 : lv.isSome with
   | true => simp
   | false =>
    rw [h1, Bool.or_false, Bool.and_eq_true] at e
    rw [Bool.or_false]; exact e.2
  exact RoL.cons (.lf (znJ e1 hO h)) (ih e2)) h e
theorem zjU {O : Addr -> Prop} {vs : List (Key × V)} {ds : List (Key × D)} (h : RpM K kd O H vs ds) : vs = (ds.map (·.1)).zip (vs.map (·.2)) /\ RpL K kd O H (vs.map (·.2)) (ds.map (·.2)) :=
 RpM.ind (P := λ vs ds => vs = (ds.map (·.1)).zip (vs.map (·.2)) /\ RpL K kd O H (vs.map (·.2)) (ds.map (·.2))) ⟨rfl, .nil⟩ (λ h _ ih => by
  obtain ⟨h1, h2⟩ := ih
  refine ⟨?_, .cons h h2⟩
  conv => lhs; rw [h1]
  rfl) h
theorem VG (R : Rel K kd F B [] ad as σ H) (e : wrap lv r = some rv) (q : ∀ v T' H', Rel K kd F B T' ad as σ H' -> vg K kd F B T' ad σ H' v rv -> Grow (Gw [] ad) H (Gw T' ad) H' -> Q v H') : RQ K kd (Obl F B (Gw [] ad) lv) H Q r := by
 have hO : ∀ (l : List Addr) st, lv = some st -> ∀ a, Lv F B (Gw l ad) st a -> Un2 (Obl F B (Gw [] ad) lv) (· ∈ l) a := by
  intro l st e a z
  subst e
  rcases z with z | z | z
  · exact .inl (.inl z)
  · exact .inr z
  · exact .inl (.inr (.inr z))
 cases r with
 | im d =>
  obtain ⟨c, rfl⟩ := zQ e
  intro v H' k rp
  obtain ⟨R', g⟩ := R.more k
  refine q v [] H' R' (.lf (znJ ((Bool.or_eq_true _ _).mp c) (λ st e a z => ?_) rp)) g
  exact (hO [] st e a z).elim id λ m => nomatch m
 | fl ds =>
  obtain ⟨c, rfl⟩ := zQ e
  intro l vs H' hl k hl' rp
  obtain ⟨R', g⟩ := R.news (T' := [l]) (by simp) (λ a m => by rw [zzO.mp m]; exact hl) k (λ a m => by rw [zzO.mp m, hl']; simp)
  exact q _ [l] H' R' (.ls hl' (zkr (λ st e a z => (hO [l] st e a z).elim .inl λ m => .inr (zzO.mp m)) c rp)) g
 | fd ds =>
  obtain ⟨c, rfl⟩ := zQ e
  intro l vs H' hl k hl' rp
  obtain ⟨R', g⟩ := R.news (T' := [l]) (by simp) (λ a m => by rw [zzO.mp m]; exact hl) k (λ a m => by rw [zzO.mp m, hl']; simp)
  obtain ⟨e1, r1⟩ := zjU rp
  refine q _ [l] H' R' (.dc (vs := vs.map (·.2)) (by rw [hl', <- e1]) (by rw [zD, zD, rp.length]) (zkr (λ st e a z => (hO [l] st e a z).elim .inl λ m => .inr (zzO.mp m)) c r1)) g
end
abbrev EF := AS -> Option (RV × AS)
def al (K : zC) (kd : KD) (f : EF) : TE := λ σ H Q => ∃ F B ad as r as', Rel K kd F B [] ad as σ H /\ f as = some (r, as') /\
 ∀ v T' ad' H', Rel K kd F B T' ad' as' σ H' -> vg K kd F B T' ad' σ H' v r -> Grow (Gw [] ad) H (Gw T' ad') H' -> Q v H'
@[irreducible] def AE (X : Cx) (kd : KD) (e : Expr) (f : EF) : Prop := PE X e (al X.K kd f)
theorem xN {X : Cx} {e : Expr} {t t' : TE} (h : PE X e t) (k : ∀ σ H Q, t' σ H Q -> t σ H Q) : PE X e t' := λ pins s σ H Q I q => h pins s σ H Q I (k σ H Q q)
section
variable {K : zC} {kd : KD} {F B : Addr -> Prop} {ad : Ad} {as as1 : AS} {σ : St} {H : Hp} {r : RV} {f : EF} {P : VK}
theorem ZV (R : Rel K kd F B [] ad as σ H) (e : f as = some (r, as1)) (k : ∀ v ad1 H1, Rel K kd F B [] ad1 as1 σ H1 -> vg K kd F B [] ad1 σ H1 v r.frz -> Grow (Gw [] ad) H (Gw [] ad1) H1 -> P v H1) : al K kd f σ H P :=
 ⟨F, B, ad, as, r, as1, R, e, λ v T' ad' H' R' rv g => k v ad' H' R'.drop (vg.drop R' rv) (g.trans (Grow.less Gw.drop))⟩
end
def OpD (X : Cx) (kd : KD) (f : Value -> Value -> Sem Value) (g : D -> D -> Option R0) : Prop :=
 OpR X f (λ x y H Q => ∃ O d e r, (∀ a, O a -> H a ≠ none) /\ Vw X.K kd O H x d /\ Vw X.K kd O H y e /\ g d e = some r /\ RQ X.K kd O H Q r)
inductive VwL (K : zC) (kd : KD) (O : Addr -> Prop) (H : Hp) : List V -> List D -> Prop
 | nil : VwL K kd O H [] []
 | cons {v : V} {d : D} {vs : List V} {ds : List D} : Vw K kd O H v d -> VwL K kd O H vs ds -> VwL K kd O H (v :: vs) (d :: ds)
def CallD (X : Cx) (kd : KD) (f : Value) (g : List D -> Option R0) : Prop :=
 zbb X f (λ xs H Q => ∃ O ds r, (∀ a, O a -> H a ≠ none) /\ VwL X.K kd O H xs ds /\ g ds = some r /\ RQ X.K kd O H Q r)
def IxD (X : Cx) (kd : KD) (g : D -> D -> Option R0) : Prop :=
 IxR X (λ x y H Q => ∃ O d e r, (∀ a, O a -> H a ≠ none) /\ Vw X.K kd O H x d /\ Vw X.K kd O H y e /\ g d e = some r /\ RQ X.K kd O H Q r)
def meet : Option Bool -> Option Bool -> Option Bool
 | some a, some b => some (a && b)
 | _, _ => none
theorem Obl.meet1 {F B G : Addr -> Prop} {a b : Option Bool} : ∀ x, Obl F B G (meet a b) x -> Obl F B G a x := λ x h => by
 cases a with
 | none => cases b <;> exact h.elim
 | some p =>
  cases b with
  | none => exact h.elim
  | some q => exact zaz (λ z => ((Bool.and_eq_true _ _).mp z).1) x h
theorem Obl.meet2 {F B G : Addr -> Prop} {a b : Option Bool} : ∀ x, Obl F B G (meet a b) x -> Obl F B G b x := λ x h => by
 cases a with
 | none => cases b <;> exact h.elim
 | some p =>
  cases b with
  | none => exact h.elim
  | some q => exact zaz (λ z => ((Bool.and_eq_true _ _).mp z).2) x h
theorem Vw.less {K : zC} {kd : KD} {O O' : Addr -> Prop} {H : Hp} {v : V} {d : D} (g : ∀ a, O' a -> O a) (h : Vw K kd O H v d) : Vw K kd O' H v d := by
 cases h with
 | non => exact .non
 | bl b => exact .bl b
 | int i => exact .int i
 | str x => exact .str x
 | tup r s l => exact .tup (r.less g) s (l.less g)
 | lst h l => exact .lst h (l.less g)
 | dct h l => exact .dct h (l.less g)
 | cl c => exact .cl c
 | ob h k l => exact .ob h k (l.less g)
 | dt h k l => exact .dt h k (l.less g)
def f2 (fa fb : EF) (g : D -> D -> Option R0) : EF := λ as => (fa as).bind λ p => (fb p.2).bind λ q => (p.1.frz.view q.2).bind λ x => (q.1.frz.view q.2).bind λ y => (g x.1 y.1).bind λ r => (wrap (meet x.2 y.2) r).bind λ z => some (z, q.2)
theorem ziL {fa fb : EF} {g : D -> D -> Option R0} {as as' : AS} {rv : RV} (h : f2 fa fb g as = some (rv, as')) :
 ∃ p as1 q x y lx ly r, fa as = some (p, as1) /\ fb as1 = some (q, as') /\ p.frz.view as' = some (x, lx) /\ q.frz.view as' = some (y, ly) /\ g x y = some r /\ wrap (meet lx ly) r = some rv := by
 unfold f2 at h
 obtain ⟨⟨p, as1⟩, h1, h⟩ := bS_ h
 obtain ⟨⟨q, as2⟩, h2, h⟩ := bS_ h
 obtain ⟨⟨x, lx⟩, h3, h⟩ := bS_ h
 obtain ⟨⟨y, ly⟩, h4, h⟩ := bS_ h
 obtain ⟨r, h5, h⟩ := bS_ h
 obtain ⟨z, h6, h⟩ := bS_ h
 cases h
 exact ⟨p, as1, q, x, y, lx, ly, r, h1, h2, h3, h4, h5, h6⟩
section
variable {X : Cx} {kd : KD} {a b c : Expr} {fa fb fc : EF} {pos : Pos}
theorem al2 {g : D -> D -> Option R0} {R2' : R2} (hr : ∀ x y H Q, (∃ O d e r, (∀ a, O a -> H a ≠ none) /\ Vw X.K kd O H x d /\ Vw X.K kd O H y e /\ g d e = some r /\ RQ X.K kd O H Q r) -> R2' x y H Q)
 {σ : St} {H : Hp} {Q : VK} (h : al X.K kd (f2 fa fb g) σ H Q) : tOp R2' (al X.K kd fa) (al X.K kd fb) σ H Q := by
 obtain ⟨F, B, ad, as, r, as', R, e, q⟩ := h
 obtain ⟨p, as1, z, x, y, lx, ly, r0, h1, h2, h3, h4, h5, h6⟩ := ziL e
 refine ZV R h1 λ v ad1 H1 R1 rv1 g1 => ZV R1 h2 λ u ad2 H2 R2 rv2 g2 => hr _ _ _ _ ?_
 exact ⟨_, x, y, r0, R2.tr _, (vg.vw R2 (rv1.grow g2) h3).less Obl.meet1, (vg.vw R2 rv2 h4).less Obl.meet2, h5, VG R2 h6 λ w T' H' R' rv' g' => q w T' ad2 H' R' rv' ((g1.trans g2).trans g')⟩
theorem zm {op : Operator} {g : D -> D -> Option R0} (ho : OpD X kd (binaryOp op) g) (ha : AE X kd a fa) (hb' : AE X kd b fb) : AE X kd (.BinOp a op b pos) (f2 fa fb g) := by with_unfolding_all exact (xN (zqk ho ha hb') λ σ H Q h => al2 (λ _ _ _ _ z => z) h)
theorem zbU {op : CmpOp} {g : D -> D -> Option R0} (ho : OpD X kd (compareOp op) g) (ha : AE X kd a fa) (hb' : AE X kd b fb) (hm : behindInMarks op b = false) : AE X kd (.Compare a [op] [b] pos) (f2 fa fb g) := by with_unfolding_all exact (xN (znj ho ha hb' hm) λ σ H Q h => al2 (λ _ _ _ _ z => z) h)
theorem zqL {g : D -> D -> Option R0} (ho : IxD X kd g) (ha : AE X kd a fa) (hb' : AE X kd b fb) (hm : zbi b) : AE X kd (.Subscript a b pos) (f2 fa fb g) := by with_unfolding_all exact (xN (zke ho ha hb' hm) λ σ H Q h => al2 (λ _ _ _ _ z => z) h)
def fC (d : D) : EF := λ as => some (.ow (.lf true d), as)
def fV (i : Nat) : EF := λ as => match as[i]? with
 | some (some (.lf st d)) => some (.ow (.lf st d), as)
 | some (some (.nd _ _)) => some (.bo i, as)
 | _ => none
theorem zff {v : V} {d : D} (h : PE X a (tC v)) (hr : ∀ O H, Rp X.K kd O H v d) : AE X kd a (fC d) := by with_unfolding_all exact (xN h λ σ H Q h => by
 obtain ⟨F, B, ad, as, r, as', R, e, q⟩ := h
 cases e
 exact q v [] ad H R (.lf (hr _ _)) Grow.refl)
theorem zpo {i : Nat} (h : PE X a (zby i)) : AE X kd a (fV i) := by with_unfolding_all exact (xN h λ σ H Q h => by
 obtain ⟨F, B, ad, as, r, as', R, e, q⟩ := h
 unfold fV at e
 cases k : as[i]? with
 | none => rw [k] at e; cases e
 | some s =>
  rw [k] at e
  cases s with
  | none => cases e
  | some o =>
   obtain ⟨v, h1, h2⟩ := R.sl i _ k
   cases o with
   | lf st d =>
    cases e
    have e0 : ad i = [] := by
     generalize hfp : ad i = fp at h2
     cases h2
     rfl
    rw [e0] at h2
    exact ⟨v, h1, q v [] ad H R h2 Grow.refl⟩
   | nd kk os =>
    cases e
    exact ⟨_, h1, q _ [] ad H R ⟨rfl, h1⟩ Grow.refl⟩)
end
def wu (ad : Ad) (i : Nat) (x : List Addr) : Ad := λ j => if j = i then x else ad j
section
variable {K : zC} {kd : KD} {F B : Addr -> Prop} {T T1 T2 : List Addr} {ad ad1 : Ad} {as as1 : AS} {σ : St} {H H1 : Hp} {v : V} {r : RV} {o : O} {i : Nat}
theorem yg {x : List Addr} : wu ad i x i = x := if_pos rfl
theorem ym {j : Nat} {x : List Addr} (h : j ≠ i) : wu ad i x j = ad j := if_neg h
theorem xx : ∀ a, Gw T (wu ad i []) a -> Gw T ad a := λ a h => by
 rcases h with h | ⟨j, h⟩
 · exact .inl h
 · by_cases e : j = i
   · subst e; rw [yg] at h; cases h
   · rw [ym e] at h; exact .inr ⟨j, h⟩
theorem X8 : ∀ a, Gw [] (wu ad i T) a -> Gw T ad a := λ a h => by
 rcases h with h | ⟨j, h⟩
 · cases h
 · by_cases e : j = i
   · subst e; rw [yg] at h; exact .inl h
   · rw [ym e] at h; exact .inr ⟨j, h⟩
theorem ziX : ∀ st a, Lv F (λ a => B a \/ a ∈ T) (Gw [] ad) st a -> Lv F B (Gw T ad) st a := λ st a z => by
 rcases z with (z | z | z) | z
 · exact .inl (.inl z)
 · exact .inl (.inr z)
 · exact .inr (.inl z)
 · exact .inr (Gw.drop a z)
theorem zbH : ∀ st a, Lv F B (Gw (T1 ++ T2) ad) st a -> Lv F (λ a => B a \/ a ∈ T1) (Gw T2 ad) st a := λ st a z => by
 rcases z with (z | z) | z | z
 · exact .inl (.inl z)
 · exact .inl (.inr (.inl z))
 · rcases zzJ.mp z with z | z
   · exact .inl (.inr (.inr z))
   · exact .inr (.inl z)
 · exact .inr (.inr z)
theorem Rel.hide (R : Rel K kd F B T ad as σ H) : Rel K kd F (λ a => B a \/ a ∈ T) [] ad as σ H where
 len := R.len
 out := R.out
 nd := R.nd
 inj := R.inj
 tnd := List.nodup_nil
 dis := λ _ _ _ z => nomatch z
 ftr := R.ftr
 btr := λ a h => by
  rcases h with h | h
  · obtain ⟨h1, h2, h3⟩ := R.btr a h
    exact ⟨h1, h2, λ z => h3 (Gw.drop a z)⟩
  · exact ⟨(R.gtr a (.inl h)).1, (R.gtr a (.inl h)).2, λ z => z.elim (λ m => nomatch m) λ ⟨j, y⟩ => R.dis j a y h⟩
 gtr := λ a h => R.gtr a (Gw.drop a h)
 sl := λ i s e => (R.sl i s e).lv ziX
theorem Rel.unhide (hn : T1.Nodup) (hb : ∀ a ∈ T1, ¬ B a) (R : Rel K kd F (λ a => B a \/ a ∈ T1) T2 ad as σ H) : Rel K kd F B (T1 ++ T2) ad as σ H where
 len := R.len
 out := R.out
 nd := R.nd
 inj := R.inj
 tnd := List.nodup_append.mpr ⟨hn, R.tnd, λ a m b m' e => by subst e; exact (R.btr a (.inr m)).2.2 (.inl m')⟩
 dis := λ i a m z => by
  rcases zzJ.mp z with z | z
  · exact (R.btr a (.inr z)).2.2 (.inr ⟨i, m⟩)
  · exact R.dis i a m z
 ftr := R.ftr
 btr := λ a h => by
  obtain ⟨h1, h2, h3⟩ := R.btr a (.inl h)
  refine ⟨h1, h2, λ z => ?_⟩
  rcases z with z | z
  · rcases zzJ.mp z with z | z
    · exact hb a z h
    · exact h3 (.inl z)
  · exact h3 (.inr z)
 gtr := λ a h => by
  rcases h with h | h
  · rcases zzJ.mp h with h | h
    · exact ⟨(R.btr a (.inr h)).1, (R.btr a (.inr h)).2.1⟩
    · exact R.gtr a (.inl h)
  · exact R.gtr a (.inr h)
 sl := λ i s e => (R.sl i s e).lv zbH
theorem Rel.frz (R : Rel K kd F B T ad as σ H) (h : as[i]? = some (some o)) :
 Rel K kd F B T (wu ad i []) (as.set i (some o.frz)) σ H /\ ∃ v, σ[i]? = some (some v) /\ Rp K kd (Lv F B (Gw T (wu ad i [])) o.str) H v o.toD := by
 obtain ⟨v, hv, ro⟩ := R.sl i _ h
 have rp : Rp K kd (Lv F B (Gw T (wu ad i [])) o.str) H v o.toD :=
  Ro.rp o.str (λ st v d hs r => r.less λ a z => z.elim (λ y => .inl (y.elim (λ x => .inl ⟨hs x.1, x.2⟩) .inr)) λ y => .inr (xx a y))
   (λ a n z => n (z.elim (λ y => .inl (y.elim (λ x => .inl ⟨rfl, x.2⟩) .inr)) λ y => .inr (xx a y))) id
   (λ a m z => by
    rcases z with (z | z) | z | ⟨j, z⟩
    · exact (R.gtr a (.inr ⟨i, m⟩)).2 z.2
    · exact (R.btr a z).2.2 (.inr ⟨i, m⟩)
    · exact R.dis i a m z
    · by_cases e : j = i
      · subst e; rw [yg] at z; cases z
      · rw [ym e] at z; exact e (R.inj j i a z m)) ro
 have hi : i < as.length := (zzD.mp h).1
 refine ⟨⟨by rw [zzR]; exact R.len, λ j hj => ?_, λ j => ?_, λ j k a h1 h2 => ?_, R.tnd, λ j a h1 => ?_, R.ftr, λ a h1 => ?_, λ a h1 => R.gtr a (xx a h1), λ j s e => ?_⟩, v, hv, rp⟩
 · rw [zzR] at hj
   rw [ym (by omega)]; exact R.out j hj
 · by_cases e : j = i
   · subst e; rw [yg]; exact List.nodup_nil
   · rw [ym e]; exact R.nd j
 · by_cases e : j = i
   · subst e; rw [yg] at h1; cases h1
   · by_cases e' : k = i
     · subst e'; rw [yg] at h2; cases h2
     · rw [ym e] at h1; rw [ym e'] at h2; exact R.inj j k a h1 h2
 · by_cases e : j = i
   · subst e; rw [yg] at h1; cases h1
   · rw [ym e] at h1; exact R.dis j a h1
 · obtain ⟨b1, b2, b3⟩ := R.btr a h1
   exact ⟨b1, b2, λ z => b3 (xx a z)⟩
 · by_cases q : j = i
   · subst q
     rw [List.getElem?_set_self hi] at e
     cases e
     rw [yg]
     exact ⟨v, hv, .lf rp⟩
   · rw [zzV (Ne.symm q)] at e
     rw [ym q]
     exact (R.sl j s e).less xx
theorem Rel.put (R : Rel K kd F B T ad as σ H) (hi : i < as.length) (h : RoS K kd F B (Gw T ad) H v o T) : Rel K kd F B [] (wu ad i T) (as.set i (some o)) (σ.set i (some v)) H := by
 have hi' : i < σ.length := by rw [<- R.len]; exact hi
 refine ⟨by rw [zzR, zzR]; exact R.len, λ j hj => ?_, λ j => ?_, λ j k a h1 h2 => ?_, List.nodup_nil, (λ _ _ _ z => nomatch z), R.ftr, λ a h1 => ?_, λ a h1 => R.gtr a (X8 a h1), λ j s e => ?_⟩
 · rw [zzR] at hj
   rw [ym (by omega)]; exact R.out j hj
 · by_cases e : j = i
   · subst e; rw [yg]; exact R.tnd
   · rw [ym e]; exact R.nd j
 · by_cases e : j = i
   · subst e
     rw [yg] at h1
     by_cases e' : k = j
     · exact e'.symm
     · rw [ym e'] at h2
       exact (R.dis k a h2 h1).elim
   · rw [ym e] at h1
     by_cases e' : k = i
     · subst e'
       rw [yg] at h2
       exact (R.dis j a h1 h2).elim
     · rw [ym e'] at h2
       exact R.inj j k a h1 h2
 · obtain ⟨b1, b2, b3⟩ := R.btr a h1
   exact ⟨b1, b2, λ z => b3 (X8 a z)⟩
 · by_cases q : j = i
   · subst q
     rw [List.getElem?_set_self hi] at e
     cases e
     rw [yg, List.getElem?_set_self hi']
     exact ⟨v, rfl, h.less X8⟩
   · rw [zzV (Ne.symm q)] at e
     rw [ym q, zzV (Ne.symm q)]
     exact (R.sl j s e).less X8
def toO (as : AS) : RV -> Option (O × AS)
 | .ow o => some (o, as)
 | .bo i => match as[i]? with
  | some (some o) => some (o.frz, as.set i (some o.frz))
  | _ => none
theorem zdn {as' : AS} (R : Rel K kd F B T ad as σ H) (h : vg K kd F B T ad σ H v r) (e : toO as r = some (o, as')) : ∃ ad', Rel K kd F B T ad' as' σ H /\ RoS K kd F B (Gw T ad') H v o T /\ ∀ a, Gw T ad' a -> Gw T ad a := by
 cases r with
 | ow o' => cases e; exact ⟨ad, R, h, λ _ z => z⟩
 | bo i =>
  have e : (match as[i]? with | some (some o) => some (o.frz, as.set i (some o.frz)) | _ => none) = some (o, as') := e
  cases k : as[i]? with
  | none => rw [k] at e; cases e
  | some s =>
   cases s with
   | none => rw [k] at e; cases e
   | some o1 =>
    rw [k] at e
    cases e
    obtain ⟨hT, hs⟩ := h
    subst hT
    obtain ⟨R', w, hw, rp⟩ := R.frz k
    rw [hs] at hw
    cases hw
    exact ⟨_, R', .lf rp, xx⟩
end
abbrev TF := AS -> Option (Bool × AS)
def alT (K : zC) (kd : KD) (f : TF) : TT := λ σ H Q => ∃ F B ad as b as', Rel K kd F B [] ad as σ H /\ f as = some (b, as') /\
 ∀ ad' H', Rel K kd F B [] ad' as' σ H' -> Grow (Gw [] ad) H (Gw [] ad') H' -> Q b H'
@[irreducible] def AT (X : Cx) (kd : KD) (e : Expr) (f : TF) : Prop := PT X e (alT X.K kd f)
@[irreducible] def AW (X : Cx) (kd : KD) (e : Expr) (f : TF) : Prop := PW X e (alT X.K kd f)
def truth : D -> Option Bool
 | .non => some false
 | .bl b => some b
 | .int i => some (i != 0)
 | .str x => if x.length <= sizeLine then some ((x.length : Int) != 0) else none
 | .tup ds => some (!ds.isEmpty)
 | .lst ds => some (!ds.isEmpty)
 | _ => none
def fT (f : EF) : TF := λ as => (f as).bind λ p => (p.1.frz.view p.2).bind λ x => (truth x.1).bind λ b => some (b, p.2)
def Yu (f g : TF) : TF := λ as => (f as).bind λ p => if p.1 = true then g p.2 else some (false, p.2)
def Yb (f g : TF) : TF := λ as => (f as).bind λ p => if p.1 = true then some (true, p.2) else g p.2
def Zb (f : TF) : TF := λ as => (f as).bind λ p => some (!p.1, p.2)
def asI : D -> Option Int
 | .int i => some i
 | _ => none
def asS : D -> Option Str
 | .str i => some i
 | _ => none
def asL : D -> Option (List D)
 | .lst i => some i
 | _ => none
def asT : D -> Option (List D)
 | .tup i => some i
 | _ => none
theorem zfv {d : D} {i : List D} (e : asL d = some i) : d = .lst i := by
 cases d with
 | lst j => cases e; rfl
 | _ => cases e
theorem zoF {d : D} {i : List D} (e : asT d = some i) : d = .tup i := by
 cases d with
 | tup j => cases e; rfl
 | _ => cases e
theorem zfy {d : D} {c : Int} (h : asI d = some c) : d = .int c := by
 cases d with
 | int i => cases h; rfl
 | _ => cases h
def asB : D -> Option Bool
 | .bl i => some i
 | _ => none
theorem zpp {d : D} {c : Bool} (h : asB d = some c) : d = .bl c := by
 cases d with
 | bl i => cases h; rfl
 | _ => cases h
def rvD : RV -> Option D
 | .ow (.lf _ d) => some d
 | _ => none
theorem zle {r : RV} {d : D} (h : rvD r = some d) : ∃ st, r = .ow (.lf st d) := by
 cases r with
 | bo i => cases h
 | ow o =>
  cases o with
  | nd k os => cases h
  | lf st d => cases h; exact ⟨st, rfl⟩
def rvB (r : RV) : Option Bool := (rvD r).bind asB
theorem zks {r : RV} {c : Bool} (h : rvB r = some c) : ∃ st, r = .ow (.lf st (.bl c)) := by
 obtain ⟨d, h1, h⟩ := bS_ h
 cases zpp h
 exact zle h1
def rvI (r : RV) : Option Int := (rvD r).bind asI
theorem zpa {r : RV} {c : Int} (h : rvI r = some c) : ∃ st, r = .ow (.lf st (.int c)) := by
 obtain ⟨d, h1, h⟩ := bS_ h
 cases zfy h
 exact zle h1
def zqu {α : Type} : List α -> Option (α × α)
 | [a, b] => some (a, b)
 | _ => none
theorem zlV {α : Type} {os : List α} {p : α × α} (h : zqu os = some p) : os = [p.1, p.2] := by
 cases os with
 | nil => cases h
 | cons x r =>
  cases r with
  | nil => cases h
  | cons y r =>
   cases r with
   | nil => cases h; rfl
   | cons _ _ => cases h
def znz (f g : EF) : EF := λ as => (f as).bind λ p => (rvB p.1).bind λ c => if c = true then g p.2 else some (.ow (.lf true (.bl false)), p.2)
def znC (f : EF) : EF := λ as => (f as).bind λ p => (rvB p.1).bind λ c => some (.ow (.lf true (.bl (!c))), p.2)
section
variable {X : Cx} {kd : KD} {a b c : Expr} {fa fb : EF} {ta tb : TF} {pos : Pos} {es rest : List Expr}
theorem zfs {e : Expr} {t t' : TT} (h : PT X e t) (k : ∀ σ H Q, t' σ H Q -> t σ H Q) : PT X e t' := λ pins s σ H Q I q => h pins s σ H Q I (k σ H Q q)
theorem zly {e : Expr} {t t' : TT} (h : PW X e t) (k : ∀ σ H Q, t' σ H Q -> t σ H Q) : PW X e t' := λ w pins s σ H Q I q => h w pins s σ H Q I (k σ H Q q)
theorem zoY {O : Addr -> Prop} {H : Hp} {v : V} {d : D} {k : Bool} (h : Vw X.K kd O H v d) (e : truth d = some k) : zpM X.K v H k := by
 cases h with
 | non => cases e; rfl
 | bl b => cases e; rfl
 | int i => cases e; rfl
 | str x =>
  have e : (if x.length <= sizeLine then some ((x.length : Int) != 0) else none) = some k := e
  by_cases hl : x.length <= sizeLine
  · rw [if_pos hl] at e; cases e; exact ⟨hl, rfl⟩
  · rw [if_neg hl] at e; cases e
 | tup r hs hr =>
  cases e
  refine .inr (.inl ⟨_, hs, ?_⟩)
  cases hr <;> rfl
 | lst hs hr =>
  cases e
  refine .inl ⟨_, hs.sq, ?_⟩
  cases hr <;> rfl
 | dct => cases e
 | cl => cases e
 | ob => cases e
 | dt => cases e
theorem XX (ha : AE X kd a fa) (he : ∀ whole, isTrue a X.env whole = (do let v <- whole; standAt a.pos; holding [v] (truthy v))) : AT X kd a (fT fa) := by with_unfolding_all exact (zfs (zlG ha he) λ σ H Q h => by
 obtain ⟨F, B, ad, as, bb, as', R, e, q⟩ := h
 obtain ⟨⟨p, as1⟩, h1, e⟩ := bS_ (show (fa as).bind _ = _ from e)
 obtain ⟨⟨d, lv⟩, h2, e⟩ := bS_ e
 obtain ⟨k, h3, e⟩ := bS_ e
 cases e
 exact ZV R h1 λ v ad1 H1 R1 rv1 g1 => ⟨_, zoY (vg.vw R1 rv1 h2) h3, q ad1 H1 R1 g1⟩)
theorem yj {op : CmpOp} {g : D -> D -> Option R0} (ho : OpD X kd (compareOp op) g) (hg : ∀ x y r, g x y = some r -> ∃ k, r = .im (.bl k)) (ha : AE X kd a fa) (hb : AE X kd b fb) (hm : behindInMarks op b = false) :
 AT X kd (.Compare a [op] [b] pos) (fT (f2 fa fb g)) := by with_unfolding_all exact (zfs (znt ho ha hb hm) λ σ H Q h => by
 obtain ⟨F, B, ad, as, bb, as', R, e, q⟩ := h
 obtain ⟨⟨p, as1⟩, h1, e⟩ := bS_ (show (f2 fa fb g as).bind _ = _ from e)
 obtain ⟨⟨d, lv⟩, h2, e⟩ := bS_ e
 obtain ⟨k, h3, e⟩ := bS_ e
 cases e
 obtain ⟨_, _, _, x, y, _, _, r0, _, _, _, _, hp, hw⟩ := ziL h1
 obtain ⟨k', rfl⟩ := hg _ _ _ hp
 cases hw
 cases h2
 cases h3
 refine al2 (λ _ _ _ _ z => z) ⟨F, B, ad, as, _, _, R, h1, λ v T' ad' H' R' rv g' => ?_⟩
 generalize hT : T' = T2 at rv R' g'
 cases rv with
 | lf rp =>
  cases rp
  exact ⟨_, rfl, q ad' H' R' g'⟩)
theorem Xh (ha : AT X kd a ta) : AT X kd (.UnaryOp .Not a pos) (Zb ta) := by with_unfolding_all exact (zfs (zoz ha) λ σ H Q h => by
 obtain ⟨F, B, ad, as, bb, as', R, e, q⟩ := h
 obtain ⟨⟨p, as1⟩, h1, e⟩ := bS_ (show (ta as).bind _ = _ from e)
 cases e
 exact ⟨F, B, ad, as, p, _, R, h1, λ ad' H' R' g => q ad' H' R' g⟩)
theorem zcY (ha : AT X kd a ta) : AW X kd (.BoolOp .And [a] pos) ta := by with_unfolding_all exact (znk ha)
theorem vZ (ha : AT X kd a ta) : AW X kd (.BoolOp .Or [a] pos) ta := by with_unfolding_all exact (zpR ha)
theorem zfB (ha : AT X kd a ta) (hb : AW X kd (.BoolOp .And (b :: rest) pos) tb) : AW X kd (.BoolOp .And (a :: b :: rest) pos) (Yu ta tb) := by with_unfolding_all exact (zly (zob ha hb) λ σ H Q h => by
 obtain ⟨F, B, ad, as, bb, as', R, e, q⟩ := h
 obtain ⟨⟨p, as1⟩, h1, e⟩ := bS_ (show (ta as).bind _ = _ from e)
 refine ⟨F, B, ad, as, p, as1, R, h1, λ ad' H' R' g => ?_⟩
 cases p with
 | true => exact ⟨F, B, ad', as1, bb, as', R', e, λ ad2 H2 R2 g2 => q ad2 H2 R2 (g.trans g2)⟩
 | false => cases e; exact q ad' H' R' g)
theorem WN (ha : AT X kd a ta) (hb : AW X kd (.BoolOp .Or (b :: rest) pos) tb) : AW X kd (.BoolOp .Or (a :: b :: rest) pos) (Yb ta tb) := by with_unfolding_all exact (zly (zqE ha hb) λ σ H Q h => by
 obtain ⟨F, B, ad, as, bb, as', R, e, q⟩ := h
 obtain ⟨⟨p, as1⟩, h1, e⟩ := bS_ (show (ta as).bind _ = _ from e)
 refine ⟨F, B, ad, as, p, as1, R, h1, λ ad' H' R' g => ?_⟩
 cases p with
 | false => exact ⟨F, B, ad', as1, bb, as', R', e, λ ad2 H2 R2 g2 => q ad2 H2 R2 (g.trans g2)⟩
 | true => cases e; exact q ad' H' R' g)
theorem AW.at_ {e : Expr} (h : AW X kd e ta) : AT X kd e ta := by with_unfolding_all exact (PW.pt h)
theorem znZ {K : zC} {F B : Addr -> Prop} {T : List Addr} {ad : Ad} {σ : St} {H : Hp} {v : V} {st c : Bool} (h : vg K kd F B T ad σ H v (.ow (.lf st (.bl c)))) : T = [] /\ v = .bl c := by
 have h : RoS K kd F B (Gw T ad) H v (.lf st (.bl c)) T := h
 generalize hT : Gw T ad = G at h
 cases h with
 | lf rp => cases rp; exact ⟨rfl, rfl⟩
theorem zoM {op} (ha : AE X kd a fa) : AE X kd (.BoolOp op [a] pos) fa := by with_unfolding_all exact (zoX ha)
theorem zoB (ha : AE X kd a fa) (hb : AE X kd (.BoolOp .And (b :: rest) pos) fb) : AE X kd (.BoolOp .And (a :: b :: rest) pos) (znz fa fb) := by with_unfolding_all exact (xN (zos ha hb) λ σ H Q h => by
 obtain ⟨F, B, ad, as, r, as', R, e, q⟩ := h
 obtain ⟨⟨p, as1⟩, h1, e⟩ := bS_ (show (fa as).bind _ = _ from e)
 refine ⟨F, B, ad, as, p, as1, R, h1, λ v T' ad' H' R' rv g => ?_⟩
 obtain ⟨k, e1, e⟩ := bS_ e
 obtain ⟨st, rfl⟩ := zks e1
 obtain ⟨rfl, rfl⟩ := znZ rv
 cases k with
 | true => exact ⟨true, rfl, ⟨F, B, ad', as1, r, as', R', e, λ v T2 ad2 H2 R2 rv g2 => q v T2 ad2 H2 R2 rv (g.trans g2)⟩⟩
 | false =>
  cases e
  exact ⟨false, rfl, q _ [] ad' H' R' (.lf (.bl false)) g⟩)
theorem zog (ha : AE X kd a fa) : AE X kd (.UnaryOp .Not a pos) (znC fa) := by with_unfolding_all exact (xN (zpf ha) λ σ H Q h => by
 obtain ⟨F, B, ad, as, r, as', R, e, q⟩ := h
 obtain ⟨⟨p, as1⟩, h1, e⟩ := bS_ (show (fa as).bind _ = _ from e)
 refine ⟨F, B, ad, as, p, as1, R, h1, λ v T' ad' H' R' rv g => ?_⟩
 obtain ⟨k, e1, e⟩ := bS_ e
 obtain ⟨st, rfl⟩ := zks e1
 obtain ⟨rfl, rfl⟩ := znZ rv
 cases e
 exact ⟨k, rfl, q _ [] ad' H' R' (.lf (.bl _)) g⟩)
end
abbrev AF := AS -> Option (List RV × AS)
inductive RVs (K : zC) (kd : KD) (F B : Addr -> Prop) (ad : Ad) (σ : St) (H : Hp) : List V -> List RV -> Prop
 | nil : RVs K kd F B ad σ H [] []
 | cons {v : V} {r : RV} {vs : List V} {rs : List RV} : vg K kd F B [] ad σ H v r -> RVs K kd F B ad σ H vs rs -> RVs K kd F B ad σ H (v :: vs) (r :: rs)
def alA (K : zC) (kd : KD) (f : AF) : TA := λ σ H Q => ∃ F B ad as rs as', Rel K kd F B [] ad as σ H /\ f as = some (rs, as') /\
 ∀ vs ad' H', Rel K kd F B [] ad' as' σ H' -> RVs K kd F B ad' σ H' vs rs -> Grow (Gw [] ad) H (Gw [] ad') H' -> Q vs H'
@[irreducible] def AA (X : Cx) (kd : KD) (es : List Expr) (f : AF) : Prop := PA X es (alA X.K kd f)
def aN : AF := λ as => some ([], as)
def aC (fa : EF) (fr : AF) : AF := λ as => (fa as).bind λ p => (fr p.2).bind λ q => some (p.1.frz :: q.1, q.2)
theorem zfl {X : Cx} {e : List Expr} {t t' : TA} (h : PA X e t) (k : ∀ σ H Q, t' σ H Q -> t σ H Q) : PA X e t' := λ pos pins s σ H Q I q => h pos pins s σ H Q I (k σ H Q q)
abbrev DF := AS -> Option (List O × AS)
def alD (K : zC) (kd : KD) (f : DF) : TA := λ σ H Q => ∃ F B ad as os as', Rel K kd F B [] ad as σ H /\ f as = some (os, as') /\
 ∀ vs T' ad' H', Rel K kd F B T' ad' as' σ H' -> Zv K kd F B (Gw T' ad') H' vs os T' -> Grow (Gw [] ad) H (Gw T' ad') H' -> Q vs H'
@[irreducible] def AD (X : Cx) (kd : KD) (es : List Expr) (f : DF) : Prop := PA X es (alD X.K kd f)
def dN : DF := λ as => some ([], as)
def dC (fa : EF) (fr : DF) : DF := λ as => (fa as).bind λ p => (toO p.2 p.1).bind λ x => (fr x.2).bind λ q => some (x.1 :: q.1, q.2)
def views (as : AS) : List RV -> Option (List D × Option Bool)
 | [] => some ([], some true)
 | r :: rs => (r.view as).bind λ x => (views as rs).bind λ y => some (x.1 :: y.1, meet x.2 y.2)
def fP (fr : AF) (g : List D -> Option R0) : EF := λ as => (fr as).bind λ p => (views p.2 p.1).bind λ x => (g x.1).bind λ r => (wrap x.2 r).bind λ z => some (z, p.2)
def zlm (as : AS) : RV -> Option (Bool × D)
 | .ow o => some (zF o.toD || o.str, o.toD)
 | .bo i => match as[i]? with
  | some (some o) => some (false, o.toD)
  | _ => none
def Wj (as : AS) : List RV -> Option (List (Bool × D))
 | [] => some []
 | r :: rs => (zlm as r).bind λ x => (Wj as rs).bind λ y => some (x :: y)
def zJ (fr : AF) (g : List (Bool × D) -> Option O) : EF := λ as => (fr as).bind λ p => (Wj p.2 p.1).bind λ x => (g x).bind λ o => some (.ow o, p.2)
def RQO (K : zC) (kd : KD) (F : Addr -> Prop) (H : Hp) (Q : VK) (o : O) : Prop :=
 ∀ v T H', T.Nodup -> (∀ a ∈ T, H a = none) -> (∀ b u, H b = some u -> H' b = some u) -> (∀ a ∈ T, H' a ≠ none) -> Ro (λ _ v d => Rp K kd (Un2 F (· ∈ T)) H' v d) (λ a => ¬ Un2 F (· ∈ T) a) H' v o T -> Q v H'
inductive RpA (K : zC) (kd : KD) (F : Addr -> Prop) (H : Hp) : List V -> List (Bool × D) -> Prop
 | nil : RpA K kd F H [] []
 | cons {v : V} {st : Bool} {d : D} {vs : List V} {ds : List (Bool × D)} : Rp K kd (λ a => st = true /\ F a) H v d -> RpA K kd F H vs ds -> RpA K kd F H (v :: vs) ((st, d) :: ds)
def spD (K : zC) (kd : KD) (g : List (Bool × D) -> Option O) : Sp := λ vs H Q _ => ∃ F ds o, (∀ a, F a -> H a ≠ none) /\ RpA K kd F H vs ds /\ g ds = some o /\ RQO K kd F H Q o
def Yv (os : List O) : O := if os.all O.isLf = true then .lf (O.strs os) (.tup (O.toDs os)) else .nd .tp os
def yF (fr : DF) : EF := λ as => (fr as).bind λ p => if p.1.length <= sizeLine then some (.ow (Yv p.1), p.2) else none
def vd (fr : DF) : EF := λ as => (fr as).bind λ p => if p.1.length <= sizeLine then some (.ow (.nd .ls p.1), p.2) else none
section
variable {X : Cx} {kd : KD} {a b c : Expr} {fa fb : EF} {ta tb : TF} {pos : Pos} {es rest : List Expr} {fr : AF} {fd : DF}
theorem RpA.length {K : zC} {F : Addr -> Prop} {H : Hp} {vs : List V} {ds : List (Bool × D)} (h : RpA K kd F H vs ds) : vs.length = ds.length := by
 induction h with
 | nil => rfl
 | cons _ _ ih => exact congrArg (· + 1) ih
theorem zx : AA X kd [] aN := by with_unfolding_all exact (zfl zdV λ σ H Q h => by
 obtain ⟨F, B, ad, as, rs, as', R, e, q⟩ := h
 cases e
 exact q [] ad H R .nil Grow.refl)
theorem zc (ha : AE X kd a fa) (hr : AA X kd es fr) (hs : starEach (a :: es) X.env = (false, eval a X.env) :: starEach es X.env) : AA X kd (a :: es) (aC fa fr) := by with_unfolding_all exact (zfl (YC ha hr hs) λ σ H Q h => by
 obtain ⟨F, B, ad, as, rs, as', R, e, q⟩ := h
 obtain ⟨⟨p, as1⟩, h1, e⟩ := bS_ (show (fa as).bind _ = _ from e)
 obtain ⟨⟨z, as2⟩, h2, e⟩ := bS_ e
 cases e
 refine ZV R h1 λ v ad1 H1 R1 rv1 g1 => ⟨F, B, ad1, as1, z, _, R1, h2, λ vs ad2 H2 R2 rv2 g2 => ?_⟩
 exact q _ ad2 H2 R2 (.cons (rv1.grow g2) rv2) (g1.trans g2))
theorem zM : AD X kd [] dN := by with_unfolding_all exact (zfl zdV λ σ H Q h => by
 obtain ⟨F, B, ad, as, rs, as', R, e, q⟩ := h
 cases e
 exact q [] [] ad H R .nil Grow.refl)
theorem zj (ha : AE X kd a fa) (hr : AD X kd es fd) (hs : starEach (a :: es) X.env = (false, eval a X.env) :: starEach es X.env) : AD X kd (a :: es) (dC fa fd) := by with_unfolding_all exact (zfl (YC ha hr hs) λ σ H Q h => by
 obtain ⟨F, B, ad, as, rs, as', R, e, q⟩ := h
 obtain ⟨⟨p, as1⟩, h1, e⟩ := bS_ (show (fa as).bind _ = _ from e)
 obtain ⟨⟨o, as2⟩, h2, e⟩ := bS_ e
 obtain ⟨⟨os, as3⟩, h3, e⟩ := bS_ e
 cases e
 refine ⟨F, B, ad, as, p, as1, R, h1, λ v T1 ad1 H1 R1 rv1 g1 => ?_⟩
 obtain ⟨ad2, R2, ro2, le2⟩ := zdn R1 rv1 h2
 refine ⟨F, _, ad2, as2, os, _, R2.hide, h3, λ vs T3 ad3 H3 R3 ro3 g3 => ?_⟩
 have kT : ∀ a ∈ T1, ∀ u, H1 a = some u -> H3 a = some u := λ a m u e => g3.keep a u e λ z => z.elim (λ y => nomatch y) λ ⟨i, y⟩ => R2.dis i a y m
 have r1 : RoS X.K kd F B (Gw (T1 ++ T3) ad3) H3 v o T1 := RoS.lv zbH (RoS.grow g3 kT (RoS.lv ziX ro2))
 have r3 : Zv X.K kd F B (Gw (T1 ++ T3) ad3) H3 vs os T3 := Zv.lv zbH ro3
 refine q _ (T1 ++ T3) ad3 H3 (R3.unhide R2.tnd λ a m z => (R2.btr a z).2.2 (.inl m)) (.cons r1 r3) ((g1.trans (Grow.less le2)).trans ⟨λ b u e n => g3.keep b u e λ z => n (Gw.drop b z), λ b z => ?_⟩)
 rcases z with z | z
 · rcases zzJ.mp z with z | z
   · exact .inl (.inl z)
   · exact (g3.own b (.inl z)).elim (λ y => .inl (Gw.drop b y)) .inr
 · exact (g3.own b (.inr z)).elim (λ y => .inl (Gw.drop b y)) .inr)
theorem yQ {x1} (h : AD X kd es fd) : AE X kd (.Tuple es x1 pos) (yF fd) := by with_unfolding_all exact (xN (zom h) λ σ H Q h => by
 obtain ⟨F, B, ad, as, r, as', R, e, q⟩ := h
 obtain ⟨⟨os, as1⟩, h1, e⟩ := bS_ (show (fd as).bind _ = _ from e)
 obtain ⟨hz, e⟩ := zQ e
 cases e
 refine ⟨F, B, ad, as, os, _, R, h1, λ vs T1 ad1 H1 R1 ro1 g1 => ⟨by rw [ro1.length]; exact hz, λ p hp => ?_⟩⟩
 have k : ∀ b o, H1 b = some o -> upd H1 p (.tup vs) b = some o := λ b o hb => by rw [yd (xG hb hp)]; exact hb
 obtain ⟨R2, g2⟩ := R1.more k
 have ro2 := Zv.grow g2 (λ a _ u h => k a u h) ro1
 have np : ∀ st, ¬ Lv F B (Gw T1 ad1) st p := λ st z => R1.trk st p z hp
 refine q _ T1 ad1 _ R2 ?_ (g1.trans g2)
 show RoS X.K kd F B (Gw T1 ad1) _ _ (Yv os) T1
 unfold Yv
 by_cases hl : os.all O.isLf = true
 · rw [if_pos hl]
   have := zkC ro2 hl
   subst this
   exact .lf (.tup (np _) yK (zbA ro2 hl))
 · rw [if_neg hl]
   exact .tp (np _) yK ro2)
theorem wG (h : AD X kd es fd) : AE X kd (.List es pos) (vd fd) := by with_unfolding_all exact (xN (zpY h) λ σ H Q h => by
 obtain ⟨F, B, ad, as, r, as', R, e, q⟩ := h
 obtain ⟨⟨os, as1⟩, h1, e⟩ := bS_ (show (fd as).bind _ = _ from e)
 obtain ⟨hz, e⟩ := zQ e
 cases e
 refine ⟨F, B, ad, as, os, _, R, h1, λ vs T1 ad1 H1 R1 ro1 g1 => ⟨by rw [ro1.length]; exact hz, λ p hp => ?_⟩⟩
 have k : ∀ b o, H1 b = some o -> upd H1 p (.lst vs) b = some o := λ b o hb => by rw [yd (xG hb hp)]; exact hb
 obtain ⟨R2, g2⟩ := R1.add (N := [p]) (by simp) (λ a m => by rw [zzO.mp m]; exact hp) k (λ a m => by rw [zzO.mp m, yK]; simp)
 exact q _ _ ad1 _ R2 (.ls yK (Zv.grow g2 (λ a _ u h => k a u h) ro1)) (g1.trans g2))
theorem VwL.less {K : zC} {O O' : Addr -> Prop} {H : Hp} (g : ∀ a, O' a -> O a) {vs : List V} {ds : List D} (h : VwL K kd O H vs ds) : VwL K kd O' H vs ds := by
 induction h with
 | nil => exact .nil
 | cons h _ ih => exact .cons (h.less g) ih
theorem VB {K : zC} {F B : Addr -> Prop} {ad : Ad} {as : AS} {σ : St} {H : Hp} (R : Rel K kd F B [] ad as σ H) {vs : List V} {rs : List RV} {ds : List D} {lv : Option Bool} (h : RVs K kd F B ad σ H vs rs) (e : views as rs = some (ds, lv)) : VwL K kd (Obl F B (Gw [] ad) lv) H vs ds := by
 induction h generalizing ds lv with
 | nil => cases e; exact .nil
 | cons h t ih =>
  obtain ⟨⟨d, l⟩, h1, e⟩ := bS_ (show (RV.view as _).bind _ = _ from e)
  obtain ⟨⟨ds, l2⟩, h2, e⟩ := bS_ e
  cases e
  exact .cons ((vg.vw R h h1).less Obl.meet1) ((ih h2).less Obl.meet2)
theorem alP {g : List D -> Option R0} {σ : St} {H : Hp} {Q : VK} {R' : List V -> Hp -> VK -> Prop} (hr : ∀ vs H Q, (∃ O ds r, (∀ a, O a -> H a ≠ none) /\ VwL X.K kd O H vs ds /\ g ds = some r /\ RQ X.K kd O H Q r) -> R' vs H Q)
 (h : al X.K kd (fP fr g) σ H Q) : alA X.K kd fr σ H λ vs H1 => R' vs H1 Q := by
 obtain ⟨F, B, ad, as, r, as', R, e, q⟩ := h
 obtain ⟨⟨p, as1⟩, h1, e⟩ := bS_ (show (fr as).bind _ = _ from e)
 obtain ⟨⟨ds, lv⟩, h2, e⟩ := bS_ e
 obtain ⟨z, h3, e⟩ := bS_ e
 obtain ⟨y, h4, e⟩ := bS_ e
 cases e
 exact ⟨F, B, ad, as, p, _, R, h1, λ vs ad1 H1 R1 rv1 g1 => hr _ _ _ ⟨_, ds, z, R1.tr _, VB R1 rv1 h2, h3, VG R1 h4 λ w T' H' R' rv' g' => q w T' ad1 H' R' rv' (g1.trans g')⟩⟩
theorem zns {K : zC} {F B : Addr -> Prop} {ad : Ad} {as : AS} {σ : St} {H : Hp} (R : Rel K kd F B [] ad as σ H) {vs : List V} {rs : List RV} {ds : List (Bool × D)} (h : RVs K kd F B ad σ H vs rs) (e : Wj as rs = some ds) : RpA K kd (Lv F B (Gw [] ad) true) H vs ds := by
 induction h generalizing ds with
 | nil => cases e; exact .nil
 | cons h t ih =>
  rename_i v r vs rs
  obtain ⟨⟨st, d⟩, h1, e⟩ := bS_ (show (zlm as r).bind _ = _ from e)
  obtain ⟨ds, h2, e⟩ := bS_ e
  cases e
  refine .cons ?_ (ih h2)
  cases r with
  | ow o =>
   cases h1
   cases hf : zF o.toD with
   | true => exact (zfh h).flat hf
   | false =>
    refine (zbq h).less λ a z => ?_
    have zs : o.str = true := z.1
    rw [zs]
    exact z.2
  | bo i =>
   have e : (match as[i]? with | some (some o) => some (false, o.toD) | _ => none) = some (st, d) := h1
   cases k : as[i]? with
   | none => rw [k] at e; cases e
   | some s =>
    cases s with
    | none => rw [k] at e; cases e
    | some o =>
     rw [k] at e
     cases e
     obtain ⟨w, hw, ro⟩ := R.sl i _ k
     rw [h.2] at hw
     cases hw
     exact (zfh ro).less λ a z => nomatch z.1
theorem zoQ {K : zC} {F B : Addr -> Prop} {ad : Ad} {as : AS} {σ : St} {H : Hp} {Q : VK} {o : O} (R : Rel K kd F B [] ad as σ H) (q : ∀ v T' H', Rel K kd F B T' ad as σ H' -> vg K kd F B T' ad σ H' v (.ow o) -> Grow (Gw [] ad) H (Gw T' ad) H' -> Q v H') :
 RQO K kd (Lv F B (Gw [] ad) true) H Q o := λ v T H' hn hl k h1 ro => by
 obtain ⟨R', g⟩ := R.news hn hl k h1
 have le : ∀ st a, Lv F B (Gw T ad) st a -> Un2 (Lv F B (Gw [] ad) true) (· ∈ T) a := λ st a z => by
  rcases z with (z | z) | z | z
  · exact .inl (.inl (.inl ⟨rfl, z.2⟩))
  · exact .inl (.inl (.inr z))
  · exact .inr z
  · exact .inl (.inr (.inr z))
 exact q v T H' R' (Ro.mono (λ st v d r => r.less (le st)) (λ a vs n e => ⟨λ z => n (le true a z), e⟩) (λ _ _ _ e => e) ro) g
theorem zpK {g : List (Bool × D) -> Option O} {σ : St} {H : Hp} {Q : VK} {E : XK} (h : al X.K kd (zJ fr g) σ H Q) : znU (spD X.K kd g) [] E (alA X.K kd fr) σ H Q := by
 obtain ⟨F, B, ad, as, r, as', R, e, q⟩ := h
 obtain ⟨⟨p, as1⟩, h1, e⟩ := bS_ (show (fr as).bind _ = _ from e)
 obtain ⟨ds, h2, e⟩ := bS_ e
 obtain ⟨o, h3, e⟩ := bS_ e
 cases e
 refine ⟨F, B, ad, as, p, _, R, h1, λ vs ad1 H1 R1 rv1 g1 => ?_⟩
 show spD X.K kd g (vs ++ []) H1 Q E
 rw [List.append_nil]
 exact ⟨_, ds, o, R1.trk true, zns R1 rv1 h2, h3, zoQ R1 λ w T' H' R' rv' g' => q w T' ad1 H' R' rv' (g1.trans g')⟩
end
inductive Out where
 | nx (as : AS) | rt (o : O) | bk (as : AS) | ct (as : AS)
abbrev SF := AS -> Option Out
structure RetOk (K : zC) (kd : KD) (F : Addr -> Prop) (T : List Addr) (H : Hp) (v : V) (o : O) : Prop where
 nd : T.Nodup
 tr : ∀ a ∈ T, H a ≠ none
 ro : Ro (λ _ v d => Rp K kd (Un2 F (· ∈ T)) H v d) (λ a => ¬ Un2 F (· ∈ T) a) H v o T
def zeM (K : zC) (kd : KD) (F B : Addr -> Prop) (ad : Ad) (H : Hp) (D : Ends) : Out -> Prop
 | .nx as' => ∀ σ' ad' H', Rel K kd F B [] ad' as' σ' H' -> Grow (Gw [] ad) H (Gw [] ad') H' -> D.nx σ' H'
 | .bk as' => ∀ σ' ad' H', Rel K kd F B [] ad' as' σ' H' -> Grow (Gw [] ad) H (Gw [] ad') H' -> D.bk σ' H'
 | .ct as' => ∀ σ' ad' H', Rel K kd F B [] ad' as' σ' H' -> Grow (Gw [] ad) H (Gw [] ad') H' -> D.ct σ' H'
 | .rt o => ∀ v T H', RetOk K kd F T H' v o -> Grow (Gw [] ad) H (· ∈ T) H' -> D.rt v H'
def be (K : zC) (kd : KD) (f : SF) : TS := λ D σ H => ∃ F B ad as o, Rel K kd F B [] ad as σ H /\ f as = some o /\ zeM K kd F B ad H D o
@[irreducible] def ASt (X : Cx) (kd : KD) (st : Stmt) (f : SF) : Prop := PS X st (be X.K kd f)
@[irreducible] def ASs (X : Cx) (kd : KD) (st : List Stmt) (f : SF) : Prop := PSs X st (be X.K kd f)
theorem wR {X : Cx} {e : Stmt} {t t' : TS} (h : PS X e t) (k : ∀ D σ H, t' D σ H -> t D σ H) : PS X e t' := λ pins s σ H D I q => h pins s σ H D I (k D σ H q)
theorem zaF {X : Cx} {e : List Stmt} {t t' : TS} (h : PSs X e t) (k : ∀ D σ H, t' D σ H -> t D σ H) : PSs X e t' := λ pins s σ H D I q => h pins s σ H D I (k D σ H q)
theorem zeM.pre {K : zC} {kd : KD} {F B : Addr -> Prop} {ad ad1 : Ad} {H H1 : Hp} {D : Ends} {o : Out} (g : Grow (Gw [] ad) H (Gw [] ad1) H1) (h : zeM K kd F B ad H D o) : zeM K kd F B ad1 H1 D o := by
 cases o with
 | nx as => exact λ σ' ad' H' R g' => h σ' ad' H' R (g.trans g')
 | bk as => exact λ σ' ad' H' R g' => h σ' ad' H' R (g.trans g')
 | ct as => exact λ σ' ad' H' R g' => h σ' ad' H' R (g.trans g')
 | rt r => exact λ v T H' R g' => h v T H' R (g.trans g')
def sNx : SF := λ as => some (.nx as)
def zA (f g : SF) : SF := λ as => (f as).bind λ o => match o with | .nx as' => g as' | o => some o
def sIf (c : TF) (f g : SF) : SF := λ as => (c as).bind λ p => if p.1 = true then f p.2 else g p.2
def yV (f : EF) : SF := λ as => (f as).bind λ p => some (.nx p.2)
def zku (as : AS) : RV -> Option O
 | .ow o => if o.str = true then some o else none
 | .bo i => match as[i]? with
  | some (some o) => if o.str = true then some o else none
  | _ => none
def yh (f : EF) : SF := λ as => (f as).bind λ p => (zku p.2 p.1).bind λ o => some (.rt o)
def zK (z : Bool) (i : Nat) (f : EF) : SF := λ as => (f as).bind λ p => (toO p.2 (if z = true then p.1.frz else p.1)).bind λ x => if i < x.2.length then some (.nx (x.2.set i (some x.1))) else none
theorem Ro.strong {L : Bool -> V -> D -> Prop} {N : Addr -> Prop} {H : Hp} {v : V} {o : O} {fp : List Addr} (h : Ro L N H v o fp) (e : o.str = true) : Ro (λ st v d => st = true /\ L st v d) N H v o fp :=
 Ro.rec (motive_1 := λ v o fp _ => o.str = true -> Ro (λ st v d => st = true /\ L st v d) N H v o fp) (motive_2 := λ vs os fp _ => O.strs os = true -> RoL (λ st v d => st = true /\ L st v d) N H vs os fp)
  (λ h e => .lf ⟨e, h⟩) (λ h _ r e => .ls h (r e)) (λ h l _ r e => .dc h l (r e)) (λ c h l _ r e => .ob ⟨rfl, c⟩ h l (r e)) (λ h l lb c _ r e => nomatch (show false = true from e)) (λ n h _ r e => .tp n h (r e)) (λ _ => .nil) (λ _ _ h r e => .cons (h ((Bool.and_eq_true _ _).mp e).1) (r ((Bool.and_eq_true _ _).mp e).2)) h e
section
variable {K : zC} {kd : KD} {F B : Addr -> Prop} {T : List Addr} {ad ad1 : Ad} {as as1 : AS} {σ : St} {H H1 : Hp} {v : V} {r : RV} {o : O}
theorem zhV {T' : List Addr} (R : Rel K kd F B T ad as σ H) (hn : T'.Nodup) (hs : ∀ a ∈ T', Gw T ad a) (h : RoS K kd F B (Gw T ad) H v o T') (e : o.str = true) : RetOk K kd F T' H v o := by
 have le : ∀ a, Un2 F (· ∈ T') a -> Lv F B (Gw T ad) true a := λ a z => z.elim (λ y => .inl (.inl ⟨rfl, y⟩)) λ y => .inr (hs a y)
 exact ⟨hn, λ a m => (R.gtr a (hs a m)).1, Ro.mono (λ st v d r => by obtain ⟨rfl, r⟩ := r; exact r.less le) (λ a vs n e => ⟨λ z => n (le a z), e⟩) (λ _ _ _ e => e) (Ro.strong h e)⟩
theorem Rel.ret (R : Rel K kd F B T ad as σ H) (hr : vg K kd F B T ad σ H v r) (e : zku as r = some o) : ∃ T', RetOk K kd F T' H v o /\ ∀ b ∈ T', Gw T ad b := by
 cases r with
 | ow o' =>
  obtain ⟨hs, rfl⟩ := zQ e
  exact ⟨T, zhV R R.tnd (λ a m => .inl m) hr hs, λ a m => .inl m⟩
 | bo i =>
  have e : (match as[i]? with | some (some o) => if o.str = true then some o else none | _ => none) = some o := e
  cases k : as[i]? with
  | none => rw [k] at e; cases e
  | some s =>
   cases s with
   | none => rw [k] at e; cases e
   | some o1 =>
    rw [k] at e
    obtain ⟨hs, rfl⟩ := zQ e
    obtain ⟨w, hw, ro⟩ := R.sl i _ k
    rw [hr.2] at hw
    cases hw
    exact ⟨ad i, zhV R (R.nd i) (λ a m => .inr ⟨i, m⟩) ro hs, λ a m => .inr ⟨i, m⟩⟩
end
section
variable {X : Cx} {kd : KD} {st : Stmt} {sts rest : List Stmt} {a b c e : Expr} {fa fb : EF} {ta : TF} {pos : Pos} {f g : SF}
theorem yu : ASs X kd [] sNx := by with_unfolding_all exact (zaF ziC λ D σ H h => by
 obtain ⟨F, B, ad, as, o, R, e, q⟩ := h
 cases e
 exact q σ ad H R Grow.refl)
theorem zg (h1 : ASt X kd st f) (h2 : ASs X kd rest g) : ASs X kd (st :: rest) (zA f g) := by with_unfolding_all exact (zaF (zgg h1 h2) λ D σ H h => by
 obtain ⟨F, B, ad, as, o, R, e, q⟩ := h
 obtain ⟨o1, e1, e⟩ := bS_ (show (f as).bind _ = _ from e)
 refine ⟨F, B, ad, as, o1, R, e1, ?_⟩
 cases o1 with
 | nx as1 => exact λ σ' ad' H' R' g' => ⟨F, B, ad', as1, o, R', e, q.pre g'⟩
 | bk as1 => cases e; exact q
 | ct as1 => cases e; exact q
 | rt r => cases e; exact q)
theorem zr (h1 : ASt X kd st f) : ASs X kd [st] f := by with_unfolding_all exact (zia h1)
def sNo : SF := λ _ => none
theorem zqC : ASt X kd st sNo := by with_unfolding_all exact (λ pins s σ H D I h => by obtain ⟨F, B, ad, as, o, R, e, q⟩ := h; cases e)
theorem xM (hc : AT X kd c ta) (ha : ASs X kd sts f) (hb : ASs X kd rest g) : ASt X kd (.If c sts rest pos) (sIf ta f g) := by with_unfolding_all exact (wR (znR hc ha hb) λ D σ H h => by
 obtain ⟨F, B, ad, as, o, R, e, q⟩ := h
 obtain ⟨⟨p, as1⟩, h1, e⟩ := bS_ (show (ta as).bind _ = _ from e)
 refine ⟨F, B, ad, as, p, as1, R, h1, λ ad' H' R' g => ?_⟩
 cases p with
 | true => exact ⟨F, B, ad', as1, o, R', e, q.pre g⟩
 | false => exact ⟨F, B, ad', as1, o, R', e, q.pre g⟩)
theorem Zi (he : AE X kd e fa) (hs : swapsWith e none pos.line X.env = pure false) : ASt X kd (.Expr e pos) (yV fa) := by with_unfolding_all exact (wR (zfA he hs) λ D σ H h => by
 obtain ⟨F, B, ad, as, o, R, e, q⟩ := h
 obtain ⟨⟨p, as1⟩, h1, e⟩ := bS_ (show (fa as).bind _ = _ from e)
 cases e
 exact ⟨F, B, ad, as, p, as1, R, h1, λ v T' ad' H' R' rv g => q σ ad' H' R'.drop (g.trans (Grow.less Gw.drop))⟩)
theorem zU (he : AE X kd e fa) : ASt X kd (.Return (some e) pos) (yh fa) := by with_unfolding_all exact (wR (zqa he) λ D σ H h => by
 obtain ⟨F, B, ad, as, o, R, e, q⟩ := h
 obtain ⟨⟨p, as1⟩, h1, e⟩ := bS_ (show (fa as).bind _ = _ from e)
 obtain ⟨r, h2, e⟩ := bS_ e
 cases e
 refine ⟨F, B, ad, as, p, as1, R, h1, λ v T' ad' H' R' rv g => ?_⟩
 obtain ⟨T2, ro, le⟩ := R'.ret rv h2
 exact q v T2 H' ro (g.trans (Grow.less le)))
theorem zfJ {K : zC} {F B : Addr -> Prop} {T : List Addr} {ad : Ad} {as as2 : AS} {σ : St} {H : Hp} {v : V} {r : RV} {z : Bool} {o : O} {i : Nat} (R : Rel K kd F B T ad as σ H) (rv : vg K kd F B T ad σ H v r)
 (h2 : toO as (if z = true then r.frz else r) = some (o, as2)) (hl : i < as2.length) : ∃ ad', Rel K kd F B [] ad' (as2.set i (some o)) (σ.set i (some v)) H /\ ∀ a, Gw [] ad' a -> Gw T ad a := by
 cases z with
 | true =>
  obtain ⟨ad1, R1, ro, le⟩ := zdn R.drop (vg.drop R rv) h2
  exact ⟨_, R1.put hl ro, λ a y => Gw.drop a (le a (X8 a y))⟩
 | false =>
  obtain ⟨ad1, R1, ro, le⟩ := zdn R rv h2
  exact ⟨_, R1.put hl ro, λ a y => le a (X8 a y)⟩
theorem zoP {z : Bool} {i : Nat} {x : Str} {pos' : Pos} (hN : X.N.Nodup) (hi : X.N[i]? = some x) (hx : Loc X.env.scope x) (he : AE X kd e fa) (hs : swapsWith e (some (.Name x pos')) pos.line X.env = pure false) (hf : X.fn x = true \/ X.env.scope.names.lookup x = some .local) :
 ASt X kd (.Assign [.Name x pos'] e pos) (zK z i fa) := by with_unfolding_all exact (wR (zls hN hi hx he hs hf) λ D σ H h => by
 obtain ⟨F, B, ad, as, o, R, e, q⟩ := h
 obtain ⟨⟨p, as1⟩, h1, e⟩ := bS_ (show (fa as).bind _ = _ from e)
 obtain ⟨⟨y, as2⟩, h2, e⟩ := bS_ e
 obtain ⟨hl, e⟩ := zQ e
 cases e
 refine ⟨F, B, ad, as, p, as1, R, h1, λ v T' ad' H' R' rv g => ?_⟩
 obtain ⟨ad2, R2, le⟩ := zfJ R' rv h2 hl
 exact q _ ad2 H' R2 (g.trans (Grow.less le)))
end
def yE (n : Nat) (ds : List (Bool × D)) : AS := ds.map (λ x => some (.lf x.1 x.2)) ++ List.replicate (n - ds.length) none
def zrK : Out -> Option O
 | .nx _ => some (.lf true .non)
 | .rt o => some o
 | _ => none
def fnR (n m : Nat) (f : SF) (ds : List (Bool × D)) : Option O := if ds.length = m then (f (yE n ds)).bind zrK else none
theorem RpA.get {K : zC} {kd : KD} {F : Addr -> Prop} {H : Hp} : ∀ {vs : List V} {ds : List (Bool × D)} {i : Nat} {x : Bool × D}, RpA K kd F H vs ds -> ds[i]? = some x -> ∃ v, vs[i]? = some v /\ Rp K kd (λ a => x.1 = true /\ F a) H v x.2
 | _, _, _, _, .nil, e => by simp at e
 | _, _, 0, _, .cons h _, e => by simp at e; subst e; exact ⟨_, rfl, h⟩
 | _, _, i + 1, _, .cons _ r, e => by
  obtain ⟨v, h1, h2⟩ := RpA.get (i := i) r (by simpa using e)
  exact ⟨v, by simpa using h1, h2⟩
theorem zjM {K : zC} {kd : KD} {F : Addr -> Prop} {H : Hp} {N : List Str} {vs : List V} {ds : List (Bool × D)} (ht : ∀ a, F a -> H a ≠ none) (rp : RpA K kd F H vs ds) :
 Rel K kd F (λ _ => False) [] (λ _ => []) (yE N.length ds) (L2.start N vs) H := by
 have hl := rp.length
 have no : ∀ a, ¬ Gw [] (λ _ => []) a := λ a z => z.elim (λ y => nomatch y) λ ⟨_, y⟩ => nomatch y
 refine ⟨by unfold yE L2.start; simp [hl], λ _ _ => rfl, λ _ => List.nodup_nil, (λ _ _ _ z => nomatch z), List.nodup_nil, (λ _ _ _ z => nomatch z), ht, (λ _ z => z.elim), λ a z => (no a z).elim, λ i s e => ?_⟩
 unfold yE at e
 unfold L2.start
 by_cases hi : i < ds.length
 · rw [List.getElem?_append_left (by rw [zD]; exact hi), zzF] at e
   obtain ⟨d, hd, ea⟩ := zzU.mp e
   subst ea
   obtain ⟨v, hv, rv⟩ := rp.get hd
   rw [List.getElem?_append_left (by rw [zD, hl]; exact hi), zzF, hv]
   refine ⟨v, rfl, .lf (rv.less λ a z => ?_)⟩
   rcases z with (z | z) | z
   · exact z
   · exact z.elim
   · exact (no a z).elim
 · rw [List.getElem?_append_right (by rw [zD]; omega)] at e
   have := List.mem_of_getElem? e
   have ea : s = none := (List.mem_replicate.mp this).2
   subst ea
   rfl
section
variable {P : Program} {w : World} {K : zC} {mg : Str -> Option Value} {base : Heap}
theorem zjY {kd : KD} {F : Addr -> Prop} {H H' : Hp} {Q : VK} {o : O} {v : V} {T : List Addr} (q : RQO K kd F H Q o) (ro : RetOk K kd F T H' v o) (g : Grow (Gw [] λ _ => []) H (· ∈ T) H') : Q v H' := by
 have no : ∀ a, ¬ Gw [] (λ _ => []) a := λ a z => z.elim (λ y => nomatch y) λ ⟨_, y⟩ => nomatch y
 exact q v T H' ro.nd (λ a m => (g.own a m).resolve_left (no a)) (λ b u h => g.keep b u h (no b)) ro.tr ro.ro
theorem xW {kd : KD} {x qual : Str} {st : Stmt} {f : Addr} {fd : FuncData} {N ps : List Str} {k : Nat} {c : SF} (Fn : Fun K x qual st f fd) (S : FnScope N ps (zB st))
 (hb : ∀ (cdv : Value) (A : Around) (outer : List Env) (s : Shared) (H : Hp) (E : XK), Room k (A.deeper (envOfC qual (zB st) s.heap.objs.size f cdv)) -> ASs (zgJ CX0 P w K mg base N qual (zB st) f cdv A outer s H E).nox kd (Vz st) c) :
 FnOk P w K mg base CX0 (k + 1) f fd ps (spD K kd (fnR N.length ps.length c)) := by
 with_unfolding_all (
 refine Fn.ok S (λ vs H Q E h => ?_) (λ cdv A outer s H vs Q E hr h => ⟨_, hb cdv A outer s H E hr, ?_⟩)
 · obtain ⟨F, ds, r, _, rp, e, _⟩ := h
   unfold fnR at e
   by_cases hl : ds.length = ps.length
   · rw [rp.length, hl]
   · rw [if_neg hl] at e; cases e
 · obtain ⟨F, ds, r, ht, rp, e, q⟩ := h
   unfold fnR at e
   by_cases hl : ds.length = ps.length
   · rw [if_pos hl] at e
     obtain ⟨o, e1, e⟩ := bS_ e
     refine ⟨F, λ _ => False, λ _ => [], yE N.length ds, o, zjM ht rp, e1, ?_⟩
     cases o with
     | nx as => cases e; exact λ σ' ad' H' R g => zjY q (T := []) ⟨List.nodup_nil, (λ _ m => nomatch m), .lf .non⟩ (g.trans (Grow.less (λ _ z => nomatch z)))
     | rt o => cases e; exact λ v T H' ro g => zjY q ro g
     | bk => cases e
     | ct => cases e
   · rw [if_neg hl] at e; cases e)
end
abbrev It1 := Bool × D
abbrev GF := It1 -> AS -> Option AS
abbrev GFs := List It1 -> AS -> Option AS
def kids (st : Bool) (ds : List D) : List It1 := ds.map λ d => (zF d || st, d)
inductive RpI (K : zC) (kd : KD) (F B G : Addr -> Prop) (H : Hp) : List V -> List It1 -> Prop
 | nil : RpI K kd F B G H [] []
 | cons {v : V} {x : It1} {vs : List V} {ds : List It1} : Rp K kd (Lv F B G x.1) H v x.2 -> RpI K kd F B G H vs ds -> RpI K kd F B G H (v :: vs) (x :: ds)
def alG (K : zC) (kd : KD) (S : List Nat) (g : GF) : TG := λ v σ H Q => ∃ F B ad as x as', Rel K kd F B [] ad as σ H /\ Rp K kd (Lv F B (Gw [] ad) x.1) H v x.2 /\ g x as = some as' /\
 ∀ σ' ad' H', Rel K kd F B [] ad' as' σ' H' -> Grow (Gw [] ad) H (Gw [] ad') H' -> (∀ j, j ∉ S -> σ'[j]? = σ[j]?) -> Q σ' H'
def zrk (K : zC) (kd : KD) (S : List Nat) (g : GFs) : TGs := λ vs σ H Q => ∃ F B ad as ds as', Rel K kd F B [] ad as σ H /\ RpI K kd F B (Gw [] ad) H vs ds /\ g ds as = some as' /\
 ∀ σ' ad' H', Rel K kd F B [] ad' as' σ' H' -> Grow (Gw [] ad) H (Gw [] ad') H' -> (∀ j, j ∉ S -> σ'[j]? = σ[j]?) -> Q σ' H'
@[irreducible] def AG (X : Cx) (kd : KD) (tg : Expr) (S : List Nat) (g : GF) : Prop := PG X tg (alG X.K kd S g)
@[irreducible] def AGs (X : Cx) (kd : KD) (tg : List Expr) (S : List Nat) (g : GFs) : Prop := PGs X tg (zrk X.K kd S g)
theorem zoj {X : Cx} {e : Expr} {t t' : TG} (h : PG X e t) (k : ∀ v σ H Q, t' v σ H Q -> t v σ H Q) : PG X e t' := λ pins s σ H v u Q I r q => h pins s σ H v u Q I r (k v σ H Q q)
theorem zix {X : Cx} {e : List Expr} {t t' : TGs} (h : PGs X e t) (k : ∀ v σ H Q, t' v σ H Q -> t v σ H Q) : PGs X e t' := λ pins s σ H v u Q I r q => h pins s σ H v u Q I r (k v σ H Q q)
def gN (i : Nat) : GF := λ x as => if i < as.length then some (as.set i (some (.lf x.1 x.2))) else none
def gsN : GFs := λ ds as => match ds with | [] => some as | _ :: _ => none
def gsC (g : GF) (gs : GFs) : GFs := λ ds as => match ds with | [] => none | d :: r => (g d as).bind λ as1 => gs r as1
def gT (n : Nat) (gs : GFs) : GF := λ x as => match x.2 with
 | .tup ds => if ds.length = n then gs (kids x.1 ds) as else none
 | .lst ds => if ds.length = n then gs (kids x.1 ds) as else none
 | _ => none
section
variable {K : zC} {kd : KD} {F B G G' : Addr -> Prop} {H H' : Hp}
theorem RpI.length {vs : List V} {ds : List It1} (h : RpI K kd F B G H vs ds) : vs.length = ds.length := by
 induction h with
 | nil => rfl
 | cons _ _ ih => exact congrArg (· + 1) ih
theorem RpI.grow (g : Grow G H G' H') {vs : List V} {ds : List It1} (h : RpI K kd F B G H vs ds) : RpI K kd F B G' H' vs ds := by
 induction h with
 | nil => exact .nil
 | cons h _ ih => exact .cons (Rp.grow g h) ih
theorem RpI.get {vs : List V} {ds : List It1} {i : Nat} {x : It1} (h : RpI K kd F B G H vs ds) (e : ds[i]? = some x) : ∃ v, vs[i]? = some v /\ Rp K kd (Lv F B G x.1) H v x.2 := by
 induction h generalizing i with
 | nil => simp at e
 | cons h r ih =>
  cases i with
  | zero => simp at e; subst e; exact ⟨_, rfl, h⟩
  | succ i =>
   obtain ⟨v, h1, h2⟩ := ih (i := i) (by simpa using e)
   exact ⟨v, by simpa using h1, h2⟩
theorem Xr {st : Bool} {vs : List V} {ds : List D} (h : RpL K kd (Lv F B G st) H vs ds) : RpI K kd F B G H vs (kids st ds) :=
 RpL.ind (P := λ vs ds => RpI K kd F B G H vs (kids st ds)) .nil (λ {v d vs ds} h _ ih => by
  refine .cons (x := (zF d || st, d)) ?_ ih
  cases e : zF d with
  | true => exact h.flat e
  | false => exact h) h
end
section
variable {prog : Program} {w : World} {A : Around} {E : Value -> Shared -> Prop} {s : Shared}
theorem zeF {it l : Addr} {items : Array Value} (hne : l ≠ it) : ∀ (n i : Nat) (s : Shared) (Q : List Value -> Shared -> Prop), s.heap.IsListIter it l i -> s.heap.IsList l items -> i + n <= items.size ->
 (∀ h', h'.IsListIter it l (i + n) -> Heap.SameBut it s.heap h' -> Q ((items.toList.drop i).take n) { s with heap := h' }) -> wpAny (model prog w) A (draw (.ref it) n) Q E s
 | 0, i, s, Q, hit, _, _, hQ => by
  show wpAny _ _ (pure []) Q E s
  exact wpAny_pure (by simpa using hQ s.heap hit (Heap.SameBut.refl ..))
 | n + 1, i, s, Q, hit, ht, hle, hQ => by
  have hlt : i < items.size := by omega
  show wpAny _ _ (pyNext (.ref it) >>= _) Q E s
  refine wpAny_bind (wpAny_pyNext_list_item hit ht (x := items[i]) (by simp [hlt]) λ h₁ hit₁ hs₁ => ?_)
  refine wpAny_bind (wpAny_holding (zeF hne n (i + 1) _ _ hit₁ (ht.extBut hs₁.extBut hne) (by omega) λ h₂ hit₂ hs₂ => wpAny_pure ?_))
  have hd : items.toList.drop i = items[i] :: items.toList.drop (i + 1) := by simp [List.drop_eq_getElem_cons, hlt]
  have := hQ h₂ (by rw [show i + (n + 1) = i + 1 + n by omega]; exact hit₂) (hs₁.trans hs₂)
  rw [hd, List.take_succ_cons] at this
  exact this
theorem zgm {l : Addr} {items : Array Value} {targets : List (Bool × (Value -> Sem Unit))} {Q : Unit -> Shared -> Prop} (hh : A.handled = none) (ht : s.heap.IsList l items)
 (hn : targets.length = items.size) (hstar : targets.findIdx? (·.1) = none)
 (h : ∀ h', Heap.ExtBut s.heap.objs.size s.heap h' -> wpAny (model prog w) A (assignInOrder (targets.map (·.2)) items.toList) Q E { s with heap := h' }) :
 wpAny (model prog w) A (unpack (.ref l) targets) Q E s := by
 unfold unpack
 rw [hn, hstar]
 refine wpAny_bind (wpAny_holding ?_)
 have hlt : l ≠ s.heap.objs.size := by obtain ⟨o, ho, _⟩ := ht; exact zzN (Heap.lt_size ho)
 unfold unpackItems
 refine wpAny_bind ?_
 unfold notIterableAtAll
 refine wpAny_bind (wpAny_specialOf ht.typeIs PySem.F.slot_list_iter.lookup ?_)
 refine wpAny_pure ?_
 simp only [Bool.false_eq_true, if_false]
 refine wpAny_bind (wpAny_holding (wpAny_pyIter_list ht ?_))
 refine wpAny_bind (wpAny_holding (zeF hlt items.size 0 _ _ ⟨_, Heap.get?_push_size _ rfl, rfl, rfl⟩ (ht.push _) (by omega) λ h₁ hit₁ hs₁ => ?_))
 have hall : List.take items.size (List.drop 0 items.toList) = items.toList := by
  rw [List.drop_zero]; exact List.take_of_length_le (by simp)
 rw [hall]
 rw [if_neg (by simp)]
 have ht₁ : h₁.IsList l items := (ht.push _).extBut hs₁.extBut hlt
 refine wpAny_bind (wpAny_holding (wpAny_pyNext_list_end hh hit₁ ht₁ (by simp) λ h₂ he₂ => ?_))
 simp only [Option.isSome_none, Bool.false_eq_true, if_false]
 exact wpAny_pure (h h₂ λ b o hb e => he₂ b o hb (hs₁.extBut b o hb (Heap.get?_push_of_some _ e)))
end
section
variable {X : Cx} {kd : KD} {a b c e tg iter : Expr} {es : List Expr} {body : List Stmt} {fa fb : EF} {pos : Pos} {g : GF} {gs : GFs} {f : SF} {ta : TF} {S S1 S2 : List Nat}
def zrU (K : zC) (n : Nat) (t : TGs) : TG := λ v σ H Q => ∃ a xs, v = .ref a /\ SqL K H a xs /\ xs.length = n /\ t xs σ H Q
theorem zlt {es : List Expr} {k : Nat} {t : TGs} {n : Nat} (hc : X.calm = true) (h : PGs X es t) (hn : (assignEach es X.env).length = n) (hst : (assignEach es X.env).findIdx? (·.1) = none) : PG X (.Tuple es k pos) (zrU X.K n t) := by
 intro pins s σ H v u Q I r hw
 obtain ⟨a, xs, e1, hq, hl, hw⟩ := hw
 subst e1
 cases r
 obtain ⟨its, rv, ht, hz⟩ := I.list hq
 rw [assign_Tuple]
 refine wpAny_bind (wpAny_standAt (zgm (I.ok.hd hc) ht.isList (by simp [hn, <- hl, rv.length]) hst λ h' hx => ?_))
 have I1 : Inv X pins σ H { s with heap := h' } := I.kept (t' := s.toks) λ b o e => hx b o (zzN (Heap.lt_size e)) e
 exact h pins _ σ H xs _ Q I1 (by simpa using rv) hw
theorem zlX {i : Nat} {x : Str} (hN : X.N.Nodup) (hi : X.N[i]? = some x) (hx : Loc X.env.scope x) (hf : X.fn x = true \/ X.env.scope.names.lookup x = some .local) : AG X kd (.Name x pos) [i] (gN i) := by with_unfolding_all exact (zoj (zmS hN hi hx hf) λ v σ H Q h => by
 obtain ⟨F, B, ad, as, y, as', R, rp, e, q⟩ := h
 obtain ⟨hl, e⟩ := zQ e
 cases e
 exact q _ _ H (R.put hl (o := .lf y.1 y.2) (.lf rp)) (Grow.less X8) λ j hj => zzV (λ z => hj (by rw [z]; simp)))
theorem Yh : AGs X kd [] [] gsN := by with_unfolding_all exact (zix zni λ vs σ H Q h => by
 obtain ⟨F, B, ad, as, ds, as', R, rp, e, q⟩ := h
 cases rp with
 | nil => cases e; exact ⟨rfl, q σ ad H R Grow.refl λ _ _ => rfl⟩
 | cons => cases e)
theorem yw (h1 : AG X kd a S1 g) (h2 : AGs X kd es S2 gs) (hs : (assignEach (a :: es) X.env).map (·.2) = assign a X.env :: (assignEach es X.env).map (·.2)) : AGs X kd (a :: es) (S1 ++ S2) (gsC g gs) := by with_unfolding_all exact (zix (zlF h1 h2 hs) λ vs σ H Q h => by
 obtain ⟨F, B, ad, as, ds, as', R, rp, e, q⟩ := h
 cases rp with
 | nil => cases e
 | cons r rr =>
  obtain ⟨as1, e1, e⟩ := bS_ (show (g _ as).bind _ = _ from e)
  refine ⟨_, _, rfl, F, B, ad, as, _, as1, R, r, e1, λ σ' ad' H' R' g' k' => ?_⟩
  exact ⟨F, B, ad', as1, _, as', R', rr.grow g', e, λ σ2 ad2 H2 R2 g2 k2 => q σ2 ad2 H2 R2 (g'.trans g2) λ j hj => (k2 j λ z => hj (zzI _ z)).trans (k' j λ z => hj (zzM _ z))⟩)
theorem Wh {k n : Nat} (hc : X.calm = true) (h : AGs X kd es S gs) (hn : (assignEach es X.env).length = n) (hst : (assignEach es X.env).findIdx? (·.1) = none) : AG X kd (.Tuple es k pos) S (gT n gs) := by
 with_unfolding_all (
 intro pins s σ H v u Q I r hw
 obtain ⟨F, B, ad, as, ⟨st, d⟩, as', R, rp, e, q⟩ := hw
 cases d with
 | tup ds =>
  have e : (if ds.length = n then gs (kids st ds) as else none) = some as' := e
  by_cases hl : ds.length = n
  · rw [if_pos hl] at e
    have go : ∃ a xs, v = .ref a /\ SqT X.K H a xs /\ RpL X.K kd (Lv F B (Gw [] ad) st) H xs ds := by
     cases rp with
     | tup n h r => exact ⟨_, _, rfl, .inl (.inl h), r⟩
    obtain ⟨a, xs, rfl, hs, rl⟩ := go
    exact zoL hc h hn hst pins s σ H _ u Q I r ⟨a, xs, rfl, hs, by rw [rl.length, hl], F, B, ad, as, _, as', R, Xr rl, e, q⟩
  · rw [if_neg hl] at e; cases e
 | lst ds =>
  have e : (if ds.length = n then gs (kids st ds) as else none) = some as' := e
  by_cases hl : ds.length = n
  · rw [if_pos hl] at e
    cases rp with
    | lstK a b c r' => exact zlt hc h hn hst pins s σ H _ u Q I r ⟨_, _, rfl, .inr ⟨_, _, _, a, rfl, rfl, rfl, b, c⟩, by rw [r'.length, hl], F, B, ad, as, _, as', R, Xr r', e, q⟩
    | lst n h' r' => exact zlt hc h hn hst pins s σ H _ u Q I r ⟨_, _, rfl, .inl h', by rw [r'.length, hl], F, B, ad, as, _, as', R, Xr r', e, q⟩
  · rw [if_neg hl] at e; cases e
 | _ => cases e)
def XD (as : AS) (r : RV) : Option (It1 × AS) := (toO as r.frz).bind λ x => match x.1 with | .lf st d => some ((st, d), x.2) | _ => none
theorem Zt {K : zC} {F B : Addr -> Prop} {T : List Addr} {ad : Ad} {as as' : AS} {σ : St} {H : Hp} {v : V} {r : RV} {x : It1} (R : Rel K kd F B T ad as σ H) (h : vg K kd F B T ad σ H v r) (e : XD as r = some (x, as')) :
 ∃ ad', Rel K kd F B [] ad' as' σ H /\ Rp K kd (Lv F B (Gw [] ad') x.1) H v x.2 /\ ∀ a, Gw [] ad' a -> Gw T ad a := by
 obtain ⟨⟨o, as1⟩, h1, e⟩ := bS_ e
 obtain ⟨ad1, R1, ro, le⟩ := zdn R.drop (vg.drop R h) h1
 cases o with
 | lf st d =>
  cases e
  refine ⟨ad1, R1, ?_, λ a y => Gw.drop a (le a y)⟩
  have := zbq ro
  exact this
 | nd k os => cases e
def zeg (f : EF) (g : GF) : SF := λ as => (f as).bind λ p => (XD p.2 p.1).bind λ q => (g q.1 q.2).bind λ as' => some (.nx as')
theorem zhd (he : AE X kd e fa) (hg : AG X kd tg S g) (hs : swapsWithSole [tg] e pos.line X.env = pure false) (hw : swappedStores [tg] e X.env = pure none) (h1 : (assignEach [tg] X.env).map (·.2) = [assign tg X.env]) :
 ASt X kd (.Assign [tg] e pos) (zeg fa g) := by with_unfolding_all exact (wR (zkc he hg hs hw h1) λ D σ H h => by
 obtain ⟨F, B, ad, as, o, R, e, q⟩ := h
 obtain ⟨⟨p, as1⟩, h1, e⟩ := bS_ (show (fa as).bind _ = _ from e)
 obtain ⟨⟨x, as2⟩, h2, e⟩ := bS_ e
 obtain ⟨as3, h3, e⟩ := bS_ e
 cases e
 refine ⟨F, B, ad, as, p, as1, R, h1, λ v T' ad' H' R' rv g1 => ?_⟩
 obtain ⟨ad2, R2, rp, le⟩ := Zt R' rv h2
 exact ⟨F, B, ad2, as2, _, as3, R2, rp, h3, λ σ' ad' H' R' g' _ => q σ' ad' H' R' ((g1.trans (Grow.less le)).trans g')⟩)
structure ItOk (K : zC) (kd : KD) (F B : Addr -> Prop) (ad : Ad) (H : Hp) (J : It) (ds : List It1) : Prop where
 all : ∀ (ad2 : Ad) (H2 : Hp), Grow (Gw [] ad) H (Gw [] ad2) H2 -> (∀ st a, Lv F B (Gw [] ad2) st a -> H2 a ≠ none) -> ∀ i, (i < ds.length -> J.go i H2) /\ (ds.length <= i -> J.stop i H2) /\
  ∀ v H3, J.yld i H2 v H3 -> (∀ b o, H2 b = some o -> H3 b = some o) /\ ∀ x, ds[i]? = some x -> Rp K kd (Lv F B (Gw [] ad2) x.1) H3 v x.2
abbrev IF := AS -> Option (List It1 × AS)
def alI (K : zC) (kd : KD) (f : IF) : TI := λ σ H R => ∃ F B ad as ds as', Rel K kd F B [] ad as σ H /\ f as = some (ds, as') /\
 ∀ J ad' H', Rel K kd F B [] ad' as' σ H' -> Grow (Gw [] ad) H (Gw [] ad') H' -> ItOk K kd F B ad' H' J ds -> R J H'
@[irreducible] def AI (X : Cx) (kd : KD) (tg iter : Expr) (f : IF) : Prop := PI X tg iter (alI X.K kd f)
def forL (g : GF) (f : SF) : List It1 -> AS -> Option Out
 | [], as => some (.nx as)
 | d :: r, as => (g d as).bind λ as1 => (f as1).bind λ o => match o with
  | .nx as' => forL g f r as'
  | .ct as' => forL g f r as'
  | .bk as' => some (.nx as')
  | .rt r => some (.rt r)
def xm (fi : IF) (g : GF) (f : SF) : SF := λ as => (fi as).bind λ p => forL g f p.1 p.2
theorem xg {fi : IF} (hp : PassesOwn (model X.prog X.w) X.A X.env X.xe) (hc : X.calm = true) (hi : AI X kd tg iter fi) (hg : AG X kd tg S g) (hb : ASs X kd body f) (hs : ∀ x, foldedSetIterable iter X.env x = pure x) :
 ASt X kd (.For tg iter body [] pos) (xm fi g f) := by with_unfolding_all exact (wR (zkj hp hc hi hg hb hs) λ D σ H h => by
 obtain ⟨F, B, ad, as, o, R, e, q⟩ := h
 obtain ⟨⟨ds, as1⟩, h1, e⟩ := bS_ (show (fi as).bind _ = _ from e)
 refine ⟨F, B, ad, as, ds, as1, R, h1, λ J ad1 H1 R1 g1 it => ?_⟩
 refine ⟨λ i m σ2 H2 => m + i = ds.length /\ ∃ ad2 as2, Rel X.K kd F B [] ad2 as2 σ2 H2 /\ Grow (Gw [] ad1) H1 (Gw [] ad2) H2 /\ forL g f (ds.drop i) as2 = some o, ⟨ds.length, rfl, ad1, as1, R1, Grow.refl, e⟩, ?_⟩
 rintro i m σ2 H2 ⟨hm, ad2, as2, R2, g2, e2⟩
 obtain ⟨k1, k2, k3⟩ := it.all ad2 H2 g2 R2.trk i
 by_cases hi : i < ds.length
 · refine .inr ⟨k1 hi, λ σ3 H3 => ∃ ad3 as3, Rel X.K kd F B [] ad3 as3 σ3 H3 /\ Grow (Gw [] ad1) H1 (Gw [] ad3) H3 /\ forL g f (ds.drop (i + 1)) as3 = some o, λ σ3 H3 ⟨ad3, as3, R3, g3, e3⟩ => ⟨m - 1, by omega, by omega, ad3, as3, R3, g3, e3⟩, λ v H3 hy => ?_⟩
   obtain ⟨kp, rp⟩ := k3 v H3 hy
   rw [List.drop_eq_getElem_cons hi] at e2
   obtain ⟨as3, e3, e2⟩ := bS_ (show (g _ as2).bind _ = _ from e2)
   obtain ⟨o3, e4, e2⟩ := bS_ e2
   obtain ⟨R3, g3⟩ := R2.more kp
   refine ⟨F, B, ad2, as2, _, as3, R3, rp _ (zzB hi), e3, λ σ4 ad4 H4 R4 g4 _ => ?_⟩
   refine ⟨F, B, ad4, as3, o3, R4, e4, ?_⟩
   have gg := (g2.trans g3).trans g4
   cases o3 with
   | nx as5 => exact λ σ5 ad5 H5 R5 g5 => ⟨ad5, as5, R5, gg.trans g5, e2⟩
   | ct as5 => exact λ σ5 ad5 H5 R5 g5 => ⟨ad5, as5, R5, gg.trans g5, e2⟩
   | bk as5 =>
    cases e2
    exact λ σ5 ad5 H5 R5 g5 => q σ5 ad5 H5 R5 (g1.trans (gg.trans g5))
   | rt r =>
    cases e2
    exact λ v T H5 ro g5 => q v T H5 ro (g1.trans (gg.trans g5))
 · refine .inl ⟨k2 (by omega), ?_⟩
   rw [List.drop_eq_nil_of_le (by omega)] at e2
   cases e2
   exact q σ2 ad2 H2 R2 (g1.trans g2))
def whL (c : TF) (f : SF) : Nat -> AS -> Option Out
 | 0, _ => none
 | n + 1, as => (c as).bind λ p => if p.1 = true then (f p.2).bind λ o => match o with
  | .nx as' => whL c f n as'
  | .ct as' => whL c f n as'
  | .bk as' => some (.nx as')
  | .rt r => some (.rt r) else some (.nx p.2)
theorem zgd {n : Nat} (hp : PassesOwn (model X.prog X.w) X.A X.env X.xe) (hc : AT X kd c ta) (hb : ASs X kd body f) : ASt X kd (.While c body [] pos) (whL ta f n) := by with_unfolding_all exact (wR (zlw hp hc hb) λ D σ H h => by
 obtain ⟨F, B, ad, as, o, R, e, q⟩ := h
 refine ⟨λ m σ2 H2 => ∃ ad2 as2, Rel X.K kd F B [] ad2 as2 σ2 H2 /\ Grow (Gw [] ad) H (Gw [] ad2) H2 /\ whL ta f m as2 = some o, ⟨n, ad, as, R, Grow.refl, e⟩, ?_⟩
 rintro m σ2 H2 ⟨ad2, as2, R2, g2, e2⟩
 cases m with
 | zero => cases e2
 | succ m =>
  obtain ⟨⟨p, as3⟩, e3, e2⟩ := bS_ (show (ta as2).bind _ = _ from e2)
  refine ⟨F, B, ad2, as2, p, as3, R2, e3, λ ad3 H3 R3 g3 => ?_⟩
  cases p with
  | true =>
   rw [if_pos rfl] at e2 ⊢
   obtain ⟨o3, e4, e2⟩ := bS_ e2
   refine ⟨λ σ3 H3 => ∃ ad3 as3, Rel X.K kd F B [] ad3 as3 σ3 H3 /\ Grow (Gw [] ad) H (Gw [] ad3) H3 /\ whL ta f m as3 = some o, λ σ3 H3 h => ⟨m, by omega, h⟩, F, B, ad3, as3, o3, R3, e4, ?_⟩
   have gg := g2.trans g3
   cases o3 with
   | nx as5 => exact λ σ5 ad5 H5 R5 g5 => ⟨ad5, as5, R5, gg.trans g5, e2⟩
   | ct as5 => exact λ σ5 ad5 H5 R5 g5 => ⟨ad5, as5, R5, gg.trans g5, e2⟩
   | bk as5 =>
    cases e2
    exact λ σ5 ad5 H5 R5 g5 => q σ5 ad5 H5 R5 (gg.trans g5)
   | rt r =>
    cases e2
    exact λ v T H5 ro g5 => q v T H5 ro (gg.trans g5)
  | false =>
   rw [if_neg Bool.false_ne_true] at e2 ⊢
   cases e2
   exact q σ2 ad3 H3 R3 (g2.trans g3))
def ziv : It1 -> Option (List It1)
 | (st, .lst ds) => some (kids st ds)
 | (st, .tup ds) => some (kids st ds)
 | _ => none
def zfS (f : EF) : IF := λ as => (f as).bind λ p => (XD p.2 p.1).bind λ q => (ziv q.1).bind λ ds => some (ds, q.2)
theorem ziy {K : zC} {F B : Addr -> Prop} {ad : Ad} {H : Hp} {a : Addr} {vs : List V} {ds : List It1} (hs : ∀ (ad3 : Ad) (H3 : Hp), Grow (Gw [] ad) H (Gw [] ad3) H3 -> SqL K H3 a vs) (r : RpI K kd F B (Gw [] ad) H vs ds) : ItOk K kd F B ad H (Itl K a) ds := ⟨λ ad3 H3 g3 _ i => by
 have hr3 := hs ad3 H3 g3
 have rl3 := r.grow g3
 refine ⟨λ hi => ?_, λ hi => ⟨_, hr3, by rw [r.length]; exact hi⟩, λ v H4 hy => ?_⟩
 · obtain ⟨u, hu, _⟩ := r.get (zzB hi)
   exact ⟨_, u, hr3, hu⟩
 · obtain ⟨rfl, hv⟩ := hy
   refine ⟨λ _ _ z => z, λ d hd => ?_⟩
   obtain ⟨u, hu, ru⟩ := rl3.get hd
   have := hv _ hr3
   rw [hu] at this
   cases this
   exact ru⟩
theorem zpe {K : zC} {F B : Addr -> Prop} {ad : Ad} {H : Hp} {a : Addr} {vs : List V} {ds : List It1} (hs : ∀ (ad3 : Ad) (H3 : Hp), Grow (Gw [] ad) H (Gw [] ad3) H3 -> SqT K H3 a vs) (r : RpI K kd F B (Gw [] ad) H vs ds) : ItOk K kd F B ad H (Itt K a) ds := ⟨λ ad3 H3 g3 _ i => by
 have hr3 := hs ad3 H3 g3
 have rl3 := r.grow g3
 refine ⟨λ hi => ?_, λ hi => ⟨_, hr3, by rw [r.length]; exact hi⟩, λ v H4 hy => ?_⟩
 · obtain ⟨u, hu, _⟩ := r.get (zzB hi)
   exact ⟨_, u, hr3, hu⟩
 · obtain ⟨rfl, hv⟩ := hy
   refine ⟨λ _ _ z => z, λ d hd => ?_⟩
   obtain ⟨u, hu, ru⟩ := rl3.get hd
   have := hv _ hr3
   rw [hu] at this
   cases this
   exact ru⟩
theorem zeT (he : AE X kd e fa) : AI X kd tg e (zfS fa) := by
 with_unfolding_all (
 intro pins s σ H R I h
 obtain ⟨F, B, ad, as, ds, as', Rl, e, q⟩ := h
 obtain ⟨⟨p, as1⟩, h1, e⟩ := bS_ (show (fa as).bind _ = _ from e)
 obtain ⟨⟨⟨st, x⟩, as2⟩, h2, e⟩ := bS_ e
 obtain ⟨ys, h3, e⟩ := bS_ e
 cases e
 cases x with
 | lst xs =>
  cases h3
  refine zeY he pins s σ H R I ⟨F, B, ad, as, p, as1, Rl, h1, λ v T1 ad1 H1 R1 rv1 g1 => ?_⟩
  obtain ⟨ad2, R2, rp, le⟩ := Zt R1 rv1 h2
  cases rp with
  | lst hn hr rl => exact ⟨_, rfl, ⟨_, .inl hr⟩, q _ ad2 H1 R2 (g1.trans (Grow.less le)) (ziy (λ ad3 H3 g3 => .inl (zbn g3 (λ z => hn (.inr z)) hr)) (Xr rl))⟩
  | lstK a b c rl => exact ⟨_, rfl, ⟨_, .inr ⟨_, _, _, a, rfl, rfl, rfl, b, c⟩⟩, q _ ad2 H1 R2 (g1.trans (Grow.less le)) (ziy (λ ad3 H3 g3 => .inr ⟨_, _, _, a, rfl, rfl, rfl, b, c⟩) (Xr rl))⟩
 | tup xs =>
  cases h3
  refine zhM he pins s σ H R I ⟨F, B, ad, as, p, as1, Rl, h1, λ v T1 ad1 H1 R1 rv1 g1 => ?_⟩
  obtain ⟨ad2, R2, rp, le⟩ := Zt R1 rv1 h2
  have go : ∃ a ys, v = .ref a /\ (∀ (ad3 : Ad) (H3 : Hp), Grow (Gw [] ad2) H1 (Gw [] ad3) H3 -> SqT X.K H3 a ys) /\ RpL X.K kd (Lv F B (Gw [] ad2) st) H1 ys xs := by
   cases rp with
   | tup n h r => exact ⟨_, _, rfl, λ ad3 H3 g3 => .inl (zbn g3 (λ z => n (.inr z)) (.inl h)), r⟩
  obtain ⟨a, ys, rfl, hs, rl⟩ := go
  exact ⟨_, rfl, ⟨_, hs ad2 H1 Grow.refl⟩, q _ ad2 H1 R2 (g1.trans (Grow.less le)) (zpe hs (Xr rl))⟩
 | _ => cases h3)
def xf (lo : Int) (n : Nat) : List It1 := (List.range n).map λ (i : Nat) => (true, D.int (lo + (i : Int)))
theorem zkN {K : zC} {F B : Addr -> Prop} {ad : Ad} {H : Hp} (lo : Int) (n : Nat) : ItOk K kd F B ad H (Itr lo n) (xf lo n) := ⟨λ ad2 H2 g _ i => by
 have hl : (xf lo n).length = n := by unfold xf; simp
 refine ⟨λ hi => by rw [hl] at hi; exact hi, λ hi => by rw [hl] at hi; exact hi, λ v H3 hy => ?_⟩
 obtain ⟨rfl, rfl⟩ := hy
 refine ⟨λ _ _ z => z, λ d hd => ?_⟩
 have hi : i < n := by rw [<- hl]; exact (zzD.mp hd).1
 unfold xf at hd
 rw [zzF, List.getElem?_range hi] at hd
 cases hd
 exact .int _⟩
def zrg : List D -> Option D
 | [x] => some x
 | _ => none
theorem zmr {ds : List D} {d : D} (h : zrg ds = some d) : ds = [d] := by
 cases ds with
 | nil => cases h
 | cons x r =>
  cases r with
  | nil => cases h; rfl
  | cons _ _ => cases h
def yO (ds : List D) : Option (List It1) := ((zrg ds).bind asI).bind λ j => if -(2 ^ 62) <= j /\ j < 2 ^ 62 then some (xf 0 j.toNat) else none
theorem ziR {ds : List D} {xs : List It1} (h : yO ds = some xs) : ∃ j, ds = [.int j] /\ (if -(2 ^ 62) <= j /\ j < 2 ^ 62 then some (xf 0 j.toNat) else none) = some xs := by
 obtain ⟨j, h1, h⟩ := bS_ h
 obtain ⟨d, h2, h1⟩ := bS_ h1
 cases zfy h1
 exact ⟨j, zmr h2, h⟩
def zpX : List D -> Option (List It1)
 | [.int i, .int j] => if -(2 ^ 62) <= i /\ i < 2 ^ 62 /\ -(2 ^ 62) <= j /\ j < 2 ^ 62 then some (xf i (j - i).toNat) else none
 | _ => none
def yI (fr : AF) (h : List D -> Option (List It1)) : IF := λ as => (fr as).bind λ p => (views p.2 p.1).bind λ ds => (h ds.1).bind λ xs => some (xs, p.2)
theorem yz {fr : AF} {p : Pos} (hg : Gl X "range") (hm : X.mg "range" = none) (ha : AA X kd [a] fr) (hs : starEach [a] X.env = [(false, eval a X.env)]) : AI X kd tg (.Call (.Name "range" p) [a] [] pos) (yI fr yO) := by
 with_unfolding_all (
 intro pins s σ H R I h
 obtain ⟨F, B, ad, as, ds, as', Rl, e, q⟩ := h
 obtain ⟨⟨ps, as1⟩, h1, e⟩ := bS_ (show (fr as).bind _ = _ from e)
 obtain ⟨⟨xs, lv⟩, h2, e⟩ := bS_ e
 obtain ⟨ys, h3, e⟩ := bS_ e
 cases e
 obtain ⟨j, rfl, h3⟩ := ziR h3
 · obtain ⟨hj, e3⟩ := zQ h3
   cases e3
   refine zeD hg hm ha hs pins s σ H R I ⟨F, B, ad, as, ps, _, Rl, h1, λ vs ad1 H1 R1 rv1 g1 => ?_⟩
   have vl := VB R1 rv1 h2
   cases vl with
   | cons v1 v2 =>
    cases v2
    cases v1
    exact ⟨j, rfl, hj.1, hj.2, q _ ad1 H1 R1 g1 (zkN 0 _)⟩)
theorem zjP {fr : AF} {p : Pos} (hg : Gl X "range") (hm : X.mg "range" = none) (ha : AA X kd [a, b] fr) (hs : starEach [a, b] X.env = [(false, eval a X.env), (false, eval b X.env)]) (hs2 : starEach [b] X.env = [(false, eval b X.env)]) : AI X kd tg (.Call (.Name "range" p) [a, b] [] pos) (yI fr zpX) := by
 with_unfolding_all (
 intro pins s σ H R I h
 obtain ⟨F, B, ad, as, ds, as', Rl, e, q⟩ := h
 obtain ⟨⟨ps, as1⟩, h1, e⟩ := bS_ (show (fr as).bind _ = _ from e)
 obtain ⟨⟨xs, lv⟩, h2, e⟩ := bS_ e
 obtain ⟨ys, h3, e⟩ := bS_ e
 cases e
 match xs, h3, h2 with
 | [.int i, .int j], h3, h2 =>
  obtain ⟨hj, e3⟩ := zQ (show (if -(2 ^ 62) <= i /\ i < 2 ^ 62 /\ -(2 ^ 62) <= j /\ j < 2 ^ 62 then some (xf i (j - i).toNat) else none) = some ds from h3)
  cases e3
  refine zji hg hm ha hs hs2 pins s σ H R I ⟨F, B, ad, as, ps, _, Rl, h1, λ vs ad1 H1 R1 rv1 g1 => ?_⟩
  have vl := VB R1 rv1 h2
  cases vl with
  | cons v1 v2 =>
   cases v2 with
   | cons v2 v3 =>
    cases v3
    cases v1
    cases v2
    exact ⟨i, j, rfl, hj, q _ ad1 H1 R1 g1 (zkN i _)⟩)
theorem Rel.mut {K : zC} {F B : Addr -> Prop} {T fo : List Addr} {ad : Ad} {as : AS} {σ : St} {H : Hp} {i : Nat} {l : Addr} {fp fp' : List Addr} {n : O} {u : HO} (R : Rel K kd F B T ad as σ H) (hi : i < as.length) (hl : ad i = l :: fp) (hs : σ[i]? = some (some (.ref l)))
 (hsub : ∀ a ∈ fp' ++ fo, a ∈ fp ++ T) (hnd : (fp' ++ fo).Nodup) (hu : H l ≠ none)
 (ro : ∀ (H' : Hp) (G' : Addr -> Prop), H' l = some u -> Grow (Gw T ad) H G' H' -> (∀ a ∈ fp', ∀ w, H a = some w -> H' a = some w) -> RoS K kd F B G' H' (.ref l) n (l :: fp')) :
 Rel K kd F B fo (wu ad i (l :: fp')) (as.set i (some n)) σ (upd H l u) /\ Grow (Gw T ad) H (Gw fo (wu ad i (l :: fp'))) (upd H l u) := by
 have hli : l ∈ ad i := by rw [hl]; exact zzC
 have lT : l ∉ T := R.dis i l hli
 have lfp : l ∉ fp := by have := R.nd i; rw [hl] at this; exact (zzT.mp this).1
 have lsub : ∀ a ∈ fp' ++ fo, a ≠ l := λ a m e => by
  subst e
  rcases zzJ.mp (hsub _ m) with z | z
  · exact lfp z
  · exact lT z
 have sub : ∀ a ∈ fp' ++ fo, Gw T ad a := λ a m => by
  rcases zzJ.mp (hsub a m) with z | z
  · exact .inr ⟨i, by rw [hl]; exact zzA _ z⟩
  · exact .inl z
 have gsub : ∀ a, Gw fo (wu ad i (l :: fp')) a -> Gw T ad a := λ a z => by
  rcases z with z | ⟨j, z⟩
  · exact sub a (zzI _ z)
  · by_cases e : j = i
    · subst e
      rw [yg] at z
      rcases zS.mp z with z | z
      · subst z; exact .inr ⟨j, hli⟩
      · exact sub a (zzM _ z)
    · rw [ym e] at z; exact .inr ⟨j, z⟩
 have g : Grow (Gw T ad) H (Gw fo (wu ad i (l :: fp'))) (upd H l u) := ⟨λ b w h n => by rw [yd (λ e => n (by subst e; exact .inr ⟨i, hli⟩))]; exact h, λ b z => .inl (gsub b z)⟩
 have kn : ∀ a, H a ≠ none -> upd H l u a ≠ none := λ a z => by
  by_cases e : a = l
  · subst e; rw [yK]; simp
  · rw [yd e]; exact z
 obtain ⟨hnd1, hnd2, hnd3⟩ := List.nodup_append.mp hnd
 have inT : ∀ j a, j ≠ i -> a ∈ ad j -> a ∈ fp' ++ fo -> False := λ j a hj m m' => by
  rcases zzJ.mp (hsub a m') with z | z
  · exact hj (R.inj j i a m (by rw [hl]; exact zzA _ z))
  · exact R.dis j a m z
 refine ⟨⟨by rw [zzR]; exact R.len, λ j hj => ?_, λ j => ?_, λ j k a h1 h2 => ?_, hnd2, λ j a h1 h2 => ?_, λ a z => kn a (R.ftr a z), λ a z => ?_, λ a z => ⟨kn a (R.gtr a (gsub a z)).1, (R.gtr a (gsub a z)).2⟩, λ j s e => ?_⟩, g⟩
 · rw [zzR] at hj
   rw [ym (by omega)]; exact R.out j hj
 · by_cases e : j = i
   · subst e; rw [yg]
     exact zzT.mpr ⟨λ m => lsub l (zzM _ m) rfl, hnd1⟩
   · rw [ym e]; exact R.nd j
 · by_cases e : j = i
   · subst e
     by_cases e' : k = j
     · exact e'.symm
     · rw [yg] at h1
       rw [ym e'] at h2
       rcases zS.mp h1 with z | z
       · subst z; exact R.inj j k a hli h2
       · exact (inT k a e' h2 (zzM _ z)).elim
   · rw [ym e] at h1
     by_cases e' : k = i
     · subst e'
       rw [yg] at h2
       rcases zS.mp h2 with z | z
       · subst z; exact R.inj j k a h1 hli
       · exact (inT j a e h1 (zzM _ z)).elim
     · rw [ym e'] at h2
       exact R.inj j k a h1 h2
 · by_cases e : j = i
   · subst e
     rw [yg] at h1
     rcases zS.mp h1 with z | z
     · subst z; exact lsub a (zzI _ h2) rfl
     · exact hnd3 a z a h2 rfl
   · rw [ym e] at h1
     exact inT j a e h1 (zzI _ h2)
 · obtain ⟨b1, b2, b3⟩ := R.btr a z
   exact ⟨kn a b1, b2, λ y => b3 (gsub a y)⟩
 · by_cases q : j = i
   · subst q
     rw [List.getElem?_set_self hi] at e
     cases e
     rw [yg]
     refine ⟨_, hs, ro _ _ yK g λ a m w h => ?_⟩
     rw [yd (lsub a (zzM _ m))]; exact h
   · rw [zzV (Ne.symm q)] at e
     rw [ym q]
     refine (R.sl j s e).grow g λ a m w h => ?_
     rw [yd (λ z => q (R.inj j i l (by rw [<- z]; exact m) hli))]; exact h
abbrev MG := List O -> List O -> Option (List O × O)
def wF (i : Nat) (fr : DF) (g : MG) : EF := λ as => match as[i]? with
 | some (some (.nd .ls _)) => (fr as).bind λ p => match p.2[i]? with
  | some (some (.nd .ls os)) => (g os p.1).bind λ z => some (.ow z.2, p.2.set i (some (.nd .ls z.1)))
  | _ => none
 | _ => none
def MuD (X : Cx) (kd : KD) (r : V -> List V -> Hp -> VK -> Prop) (g : MG) : Prop :=
 ∀ (F B G : Addr -> Prop) (l : Addr) (vs ws : List V) (os es os' : List O) (o : O) (fp fq : List Addr) (H : Hp) (Q : VK), H l = some (.lst vs) -> Zv X.K kd F B G H vs os fp -> Zv X.K kd F B G H ws es fq -> (fp ++ fq).Nodup -> g os es = some (os', o) ->
  (∀ v vs' fp' fo, Zv X.K kd F B G H vs' os' fp' -> RoS X.K kd F B G H v o fo -> (∀ a ∈ fp' ++ fo, a ∈ fp ++ fq) -> (fp' ++ fo).Nodup -> Q v (upd H l (.lst vs'))) -> r (.ref l) ws H Q
theorem znH {i : Nat} {fr : DF} {g : MG} {r : V -> List V -> Hp -> VK -> Prop} (hr : MuD X kd r g)
 {σ : St} {H : Hp} {Q : VK} (h : al X.K kd (wF i fr g) σ H Q) : tBM X.K "list" r (zby i) (alD X.K kd fr) σ H Q := by
 obtain ⟨F, B, ad, as, z, as', R, e, q⟩ := h
 unfold wF at e
 cases k : as[i]? with
 | none => rw [k] at e; cases e
 | some a0 =>
  rw [k] at e
  match a0, e, k with
  | some (.nd .ls os0), e, k =>
   obtain ⟨⟨es, as1⟩, h1, e⟩ := bS_ (show (fr as).bind _ = _ from e)
   obtain ⟨v0, hs0, ro0⟩ := R.sl i _ k
   generalize hfp0 : ad i = fp0 at ro0
   cases ro0 with
   | ls hH0 rl0 =>
   rename_i l vs0 fp00
   refine ⟨_, hs0, .inl ⟨rfl, _, .inl (.inl hH0)⟩, F, B, ad, as, es, as1, R, h1, λ ws T1 ad1 H1 R1 ro1 g1 => ?_⟩
   cases k2 : as1[i]? with
   | none => rw [k2] at e; cases e
   | some a2 =>
    rw [k2] at e
    match a2, e, k2 with
    | some (.nd .ls os), e, k2 =>
     obtain ⟨⟨os', o⟩, h3, e⟩ := bS_ (show (g os es).bind _ = _ from e)
     cases e
     obtain ⟨v1, hs1, ro2⟩ := R1.sl i _ k2
     rw [hs0] at hs1
     cases hs1
     generalize hfp : ad1 i = fp1 at ro2
     cases ro2 with
     | ls hH rl =>
     rename_i vs fp
     have hnd : (fp ++ T1).Nodup := List.nodup_append.mpr ⟨by have := R1.nd i; rw [hfp] at this; exact (zzT.mp this).2, R1.tnd, λ a m b m' e => by
          subst e; exact R1.dis i a (by rw [hfp]; exact zzA _ m) m'⟩
     refine hr F B (Gw T1 ad1) _ vs ws os es os' o fp T1 H1 Q hH rl ro1 hnd h3 λ v vs' fp' fo rl' ro' hsub hnd' => ?_
     obtain ⟨R3, g3⟩ := R1.mut (n := .nd .ls os') (u := .lst vs') (zzD.mp k2).1 hfp hs0 hsub hnd' (by rw [hH]; simp) λ H' G' hl' gr kp => .ls hl' (Zv.grow gr kp rl')
     have lno : ∀ a ∈ fo, ∀ w, H1 a = some w -> upd H1 l (.lst vs') a = some w := λ a m w h => by
          rw [yd (λ e => ?_)]
          · exact h
          · subst e
            rcases zzJ.mp (hsub _ (zzI _ m)) with z | z
            · have := R1.nd i; rw [hfp] at this; exact (zzT.mp this).1 z
            · exact R1.dis i _ (by rw [hfp]; exact zzC) z
     exact q v fo _ _ R3 (RoS.grow g3 lno ro') (g1.trans g3)
end
end PF
end
section
set_option exponentiation.threshold 5000
namespace PF
open PySem PySem.Spec PyProof.Rows L2
section
variable {K : zC} {kd : KD} {O : Addr -> Prop} {H : Hp} {Q : VK}
theorem yr {d : D} {v : V} (q : RQ K kd O H Q (.im d)) (r : Rp K kd O H v d) : Q v H := q v H (λ _ _ z => z) r
theorem zit {vs : List V} {ds : List D} {p : Addr} {o : HO} (hp : H p = none) (r : RpL K kd O H vs ds) : RpL K kd (Un2 O (· = p)) (upd H p o) vs ds :=
 RpL.grow (F := O) (W := λ _ => False) ⟨λ b u q _ => by rw [yd (xG q hp)]; exact q, λ b z => .inr (by rw [z]; exact hp)⟩ (r.less λ a z => z.elim id False.elim)
theorem zaH {p : Addr} {o : HO} (hp : H p = none) : ∀ b u, H b = some u -> upd H p o b = some u := λ b u q => by rw [yd (xG q hp)]; exact q
theorem zbs {vs : List V} {ds : List D} (q : RQ K kd O H Q (.fl ds)) (r : RpL K kd O H vs ds) : ∀ p, H p = none -> Q (.ref p) (upd H p (.lst vs)) := λ p hp =>
 q p vs _ hp (zaH hp) yK (zit hp r)
theorem zhh {vs : List V} {ds : List D} (ht : ∀ a, O a -> H a ≠ none) (q : RQ K kd O H Q (.im (.tup ds))) (r : RpL K kd O H vs ds) : ∀ p, H p = none -> Q (.ref p) (upd H p (.tup vs)) := λ p hp =>
 q _ _ (zaH hp) (.tup (λ z => ht p z hp) yK ((zit hp r).less λ a z => .inl z))
end
def big : Nat := 2 ^ 4000
theorem zga {i : Int} (h : i.natAbs < big) : Builtin.Int.intBits i <= 2 ^ 20 := by
 unfold Builtin.Int.intBits
 split
 · exact Nat.zero_le _
 · have : i.natAbs.log2 < 4000 := by
    rcases Nat.eq_zero_or_pos i.natAbs with h0 | hp
    · rw [h0]; decide
    · exact (Nat.log2_lt (Nat.ne_of_gt hp)).mpr h
   have e : (2 : Nat) ^ 20 = 1048576 := by decide
   omega
def onI (f : Int -> Int -> Option R0) (x y : D) : Option R0 := (asI x).bind λ i => (asI y).bind λ j => f i j
def zro (x y : D) : Option R0 := match x with
 | .int i => (asI y).bind λ j => some (.im (.int (i + j)))
 | .str x => (asS y).bind λ y => if x.length + y.length <= sizeLine then some (.im (.str (x ++ y))) else none
 | .lst xs => (asL y).bind λ ys => if xs.length + ys.length <= sizeLine then some (.fl (xs ++ ys)) else none
 | .tup xs => (asT y).bind λ ys => if xs.length + ys.length <= sizeLine then some (.im (.tup (xs ++ ys))) else none
 | _ => none
def zrZ (x y : D) : Option R0 := match x with
 | .int i => (asI y).bind λ j => if i.natAbs < big /\ j.natAbs < big then some (.im (.int (i * j))) else none
 | .lst xs => (asI y).bind λ k => if -(2 ^ 63) <= k /\ k < 2 ^ 63 /\ xs.length * k.toNat <= sizeLine then some (.fl (List.replicate k.toNat xs).flatten) else none
 | .tup xs => (asI y).bind λ k => if 1 <= k /\ k < 2 ^ 63 /\ xs.length ≠ 0 /\ xs.length * k.toNat <= sizeLine then some (.im (.tup (List.replicate k.toNat xs).flatten)) else none
 | _ => none
def zp (o : Operator) (x y : D) : Option R0 := match o with
 | .Add => zro x y
 | .Sub => onI (λ i j => some (.im (.int (i - j)))) x y
 | .Mult => zrZ x y
 | .FloorDiv => onI (λ i j => if 0 < j /\ j.natAbs < big then some (.im (.int (i / j))) else none) x y
 | .Mod => onI (λ i j => if 0 < j then some (.im (.int (i % j))) else none) x y
 | .Pow => onI (λ i j => if 0 <= j /\ j <= 1000000 /\ i.natAbs < 2 ^ 64 then some (.im (.int (i ^ j.toNat))) else none) x y
 | _ => none
theorem Wl {K : zC} {kd : KD} {O : Addr -> Prop} {H : Hp} {v : V} {d : D} {i : Int} (h : Vw K kd O H v d) (e : asI d = some i) : d = .int i /\ v = .int i := by
 cases h with
 | int j => cases e; exact ⟨rfl, rfl⟩
 | _ => cases e
theorem zpW {K : zC} {kd : KD} {O : Addr -> Prop} {H : Hp} {v : V} {d : D} {i : Str} (h : Vw K kd O H v d) (e : asS d = some i) : d = .str i /\ v = .str i := by
 cases h with
 | str j => cases e; exact ⟨rfl, rfl⟩
 | _ => cases e
theorem YZ {K : zC} {kd : KD} {O : Addr -> Prop} {H : Hp} {v w : V} {d e : D} {f : Int -> Int -> Option R0} {r : R0} (vx : Vw K kd O H v d) (vy : Vw K kd O H w e) (h : onI f d e = some r) : ∃ i j, v = .int i /\ w = .int j /\ f i j = some r := by
 obtain ⟨i, h1, h⟩ := bS_ (show (asI d).bind _ = _ from h)
 obtain ⟨j, h2, h⟩ := bS_ h
 exact ⟨i, j, (Wl vx h1).2, (Wl vy h2).2, h⟩
section
variable {X : Cx} {kd : KD}
theorem znc : OpR X (binaryOp .Add) (λ x y H Q => ∃ l b xs zs, x = .ref l /\ y = .ref b /\ RdL X.K H l xs /\ RdL X.K H b zs /\ xs.length + zs.length <= sizeLine /\ ∀ p, H p = none -> Q (.ref p) (upd H p (.lst (xs ++ zs)))) := by
 intro pins s σ H x y v u Q I rx ry h
 obtain ⟨l, b, xs, zs, rfl, rfl, hH, hB, hz, q⟩ := h
 cases rx
 cases ry
 obtain ⟨z, its, n, r, e⟩ := zhy I hH
 obtain ⟨z2, its2, n2, r2, e2⟩ := zhy I hB
 have hl := r.length
 have hl2 := r2.length
 refine PySem.P.add_list e e2 ?_ (by rw [zzE, zzE]; omega)
 have ea : its.toArray ++ its2.toArray = (its ++ its2).toArray := by simp
 rw [ea]
 exact ⟨.ref _, _, I.lnew (t' := s.toks) (r.append r2) (by rw [zzG]; omega), rfl, q _ I.fresh⟩
theorem zne : OpR X (binaryOp .Mult) (λ x y H Q => ∃ l k xs, x = .ref l /\ y = .int k /\ RdL X.K H l xs /\ -(2 ^ 63) <= k /\ k < 2 ^ 63 /\ xs.length * k.toNat <= sizeLine /\
 ∀ p, H p = none -> Q (.ref p) (upd H p (.lst (List.replicate k.toNat xs).flatten))) := by
 intro pins s σ H x y v u Q I rx ry h
 obtain ⟨l, k, xs, rfl, rfl, hH, h1, h2, hz, q⟩ := h
 cases rx
 obtain ⟨t, rfl⟩ := ry
 obtain ⟨z, its, n, r, e⟩ := zhy I hH
 have hl := r.length
 have hlen : its.toArray.size * k.toNat <= sizeLine := by rw [zzE, <- hl]; exact hz
 have hcap : ¬ its.toArray.size * k.toNat > (2 ^ 63 - 1) / 8 := by
  have : (sizeLine : Nat) <= (2 ^ 63 - 1) / 8 := by decide
  omega
 have hfit : ¬ (!Builtin.List.listFitsIndex k) = true := by
  rw [fitsIndex_both h1 h2]
  exact Bool.false_ne_true
 have hlong : ¬ Builtin.List.listTooLong (its.toArray.size * k.toNat) = true := by
  rw [zfT hlen]
  exact Bool.false_ne_true
 have hnew : List.foldl (λ x1 x2 => x1 ++ x2) #[] (List.replicate (if its.toArray.isEmpty = true then 0 else k.toNat) its.toArray) = (List.replicate k.toNat its).flatten.toArray := by
  have f0 : ∀ m : Nat, List.foldl (λ x1 x2 => x1 ++ x2) #[] (List.replicate m its.toArray) = (List.replicate m its).flatten.toArray := λ m => by
   have := foldl_rep its m []
   rw [List.nil_append] at this
   exact this
  rw [f0]
  cases its with
  | nil => simp
  | cons a r' => rw [if_neg (by simp)]
 refine wpAny_binaryOp_repeat_ref (T := "list") (U := "int") (by decide) ⟨_, e, rfl⟩ (λ s' => typeIs_int s' k t) noFill_list_mul F.fills_int_mul F.slot_int_rmul repeat_list F.slot_int_index.lookup
  (call_meets F.slot_int_rmul (typeIs_int s k t) F.entry_int_rmul (F.args_int_rmul_2 _ _) (int___rmul___int_list k t l its.toArray n)
   ⟨e, rfl, ⟨_, e, rfl⟩, call_meets F.slot_list_mul ⟨_, e, rfl⟩ F.entry_list_mul (F.args_list_mul_2 _ _) (AutoListH.list___mul___list_int_3 l its.toArray n k t hfit hcap hlong) ⟨e, ?_⟩⟩)
 rw [hnew]
 refine ⟨.ref _, _, I.lnew (t' := s.toks) (r.rep k.toNat) ?_, rfl, q _ I.fresh⟩
 rw [len_rep, Nat.mul_comm]
 exact hz
theorem tuple_addW0 (l b : Addr) (items items2 : Array Value) (n n2 : Nat) (dd dd2 : Option Addr) (sl sl2 : Array (Option Value)) (h0 : items.isEmpty = true) :
 Meets (Builtin.«tuple.__add__» { pos := [.ref l, .ref b] }) (λ _ R s => s.heap.get? l = some { cls := .type "tuple", dict := dd, data := .seq items n, slots := sl } /\ s.heap.get? b = some { cls := .type "tuple", dict := dd2, data := .seq items2 n2, slots := sl2 } /\ R (.ok (.ret (.ref b))) s) :=
 .of_wp λ prog w A R s h => by
  obtain ⟨hp, g, d, tk, os⟩ := s; obtain ⟨hl, hb, h⟩ := h
  have f2 := AutoSeq1.sub_tuple_tuple
  wp_walk using wpAny_loadPart' hl, wpAny_loadPart' hb
  exact ⟨_, rfl, h⟩
theorem zgO (l : Addr) (items : Array Value) (n : Nat) (dd : Option Addr) (sl : Array (Option Value)) (u : Tok) :
 Meets (Builtin.«tuple.__mul__» { pos := [.ref l, .int 1 u] }) (λ _ R s => s.heap.get? l = some { cls := .type "tuple", dict := dd, data := .seq items n, slots := sl } /\ R (.ok (.ret (.ref l))) s) :=
 .of_wp λ prog w A R s h => by
  obtain ⟨hp, g, d, tk, os⟩ := s; obtain ⟨hl, h⟩ := h
  have f2 := AutoSeq1.sub_tuple_tuple
  wp_walk using wpAny_loadPart' hl
  exact ⟨_, rfl, h⟩
theorem zgf (l : Addr) (items its2 : Array Value) (n : Nat) (dd : Option Addr) (sl : Array (Option Value)) (x : Int) (u : Tok) (c1 : ¬ (decide (x < -2 ^ 63) || decide (x ≥ 2 ^ 63)) = true) (c2 : ¬ (items.isEmpty || x == 1) = true) (c3 : ¬ (decide (x <= 0) || items.isEmpty) = true)
 (hcap : ¬ (items.size : Int) * x > (2 ^ 63 - 1) / 8) (ht : ¬ Builtin.Tuple.tupleTooMany (items.size * x) = true) (hz : ¬ (List.foldl (λ x1 x2 => x1 ++ x2) #[] (List.replicate x.toNat items)).size > sizeLine) :
 Meets (Builtin.«tuple.__mul__» { pos := [.ref l, .int x u] }) (λ _ R s => s.heap.get? l = some { cls := .type "tuple", dict := dd, data := .seq items n, slots := sl } /\ R (.ok (.ret (.ref s.heap.objs.size))) { s with heap := s.heap.push { cls := .type "tuple", data := .seq (List.foldl (λ x1 x2 => x1 ++ x2) #[] (List.replicate x.toNat items)) } }) :=
 .of_wp λ prog w A R s h => by
  obtain ⟨hp, g, d, tk, os⟩ := s; obtain ⟨hl, h⟩ := h
  have f2 := AutoSeq1.sub_tuple_tuple
  wp_walk using wpAny_loadPart' hl
  rw [if_neg c1]
  wp_walk using wpAny_loadPart' hl
  rw [if_neg hcap]
  wp_walk
  exact ⟨_, rfl, h⟩
theorem zbB : fillsNumberSlot (Value.type "tuple") "mul" = pure false := PySem.fillsNumberSlot_seq rfl rfl rfl rfl
theorem zeO : seqRepeat? (Value.type "tuple") = pure (some (Value.builtin "tuple.__mul__")) := W.of_pureOf rfl
theorem zdG (a : Int) (t : Tok) (l : Addr) (items : Array Value) (n : Nat) (dd : Option Addr) (sl : Array (Option Value)) :
 Meets (Builtin.«int.__rmul__» { pos := [.int a t, .ref l] }) (λ _ R s => s.heap.get? l = some { cls := .type "tuple", dict := dd, data := .seq items n, slots := sl } /\ R (.ok (.ret .notImplemented)) s) :=
 .of_wp λ prog w A R s h => by
  obtain ⟨hp, g, d, tk, os⟩ := s; obtain ⟨hl, h⟩ := h
  wp_walk using wpAny_load' hl, wpAny_loadPart' hl
  exact ⟨_, rfl, h⟩
theorem zlW : OpR X (binaryOp .Add) (λ x y H Q => ∃ a b ys, x = .ref a /\ y = .ref b /\ SqT X.K H a [] /\ SqT X.K H b ys /\ Q (.ref b) H) := by
 intro pins s σ H x y v u Q I rx ry h
 obtain ⟨a, b, ys, rfl, rfl, ha, hb, q⟩ := h
 cases rx
 cases ry
 obtain ⟨its, r1, p1, _⟩ := I.tuple ha
 obtain ⟨its2, r2, p2, _⟩ := I.tuple hb
 cases r1
 obtain ⟨⟨cls, dd, data, sl⟩, ho, hc, n, hd⟩ := id p1
 obtain ⟨⟨cls2, dd2, data2, sl2⟩, ho2, hc2, n2, hd2⟩ := id p2
 simp only at hc hd hc2 hd2
 subst hc hd hc2 hd2
 exact concat_meets ⟨_, ho, rfl⟩ ⟨_, ho2, rfl⟩ noFill_tuple_add seq_tuple_add PySem.F.slot_tuple_add PySem.F.entry_tuple_add (PySem.F.args_tuple_add_2 _ _) (tuple_addW0 a b _ _ n n2 dd dd2 sl sl2 rfl) ⟨ho, ho2, ⟨.ref b, H, I, rfl, q⟩⟩
theorem zmk : OpR X (binaryOp .Mult) (λ x y H Q => ∃ l k xs, x = .ref l /\ y = .int k /\ SqT X.K H l xs /\ xs ≠ [] /\ 1 <= k /\ k < 2 ^ 63 /\ xs.length * k.toNat <= sizeLine /\ (k = 1 -> Q (.ref l) H) /\
 (2 <= k -> ∀ p, H p = none -> Q (.ref p) (upd H p (.tup (List.replicate k.toNat xs).flatten)))) := by
 intro pins s σ H x y v u Q I rx ry h
 obtain ⟨l, k, xs, rfl, rfl, hH, hne, h1, h2, hz, q1, q2⟩ := h
 cases rx
 obtain ⟨t, rfl⟩ := ry
 obtain ⟨its, r, p, _⟩ := I.tuple hH
 have hl := r.length
 have hlen : its.toArray.size * k.toNat <= sizeLine := by rw [zzE, <- hl]; exact hz
 have hki : ((its.toArray.size : Int) * k) = ((its.toArray.size * k.toNat : Nat) : Int) := by
  rw [zzS, Int.toNat_of_nonneg (by omega)]
 have he : its.toArray.isEmpty = false := by
  cases its with
  | nil => rw [List.length_nil] at hl; exact absurd (List.length_eq_zero_iff.mp hl) hne
  | cons a r' => rfl
 have hnew : List.foldl (λ x1 x2 => x1 ++ x2) #[] (List.replicate k.toNat its.toArray) = (List.replicate k.toNat its).flatten.toArray := by
  have := foldl_rep its k.toNat []
  rw [List.nil_append] at this
  exact this
 obtain ⟨⟨cls, dd, data, sl⟩, ho, hc, n, hd⟩ := id p
 simp only at hc hd
 subst hc hd
 refine wpAny_binaryOp_repeat_ref (T := "tuple") (U := "int") (by decide) ⟨_, ho, rfl⟩ (λ s' => typeIs_int s' k t) zbB F.fills_int_mul F.slot_int_rmul zeO F.slot_int_index.lookup
  (call_meets F.slot_int_rmul (typeIs_int s k t) F.entry_int_rmul (F.args_int_rmul_2 _ _) (zdG k t l its.toArray n dd sl) ⟨ho, rfl, ⟨_, ho, rfl⟩, ?_⟩)
 by_cases hk : k = 1
 · subst hk
   exact call_meets F.slot_tuple_mul ⟨_, ho, rfl⟩ F.entry_tuple_mul (F.args_tuple_mul_2 _ _) (zgO l its.toArray n dd sl t) ⟨ho, ⟨.ref l, H, I, rfl, q1 rfl⟩⟩
 · have hfl : (List.replicate k.toNat xs).flatten.length <= sizeLine := by rw [len_rep, Nat.mul_comm]; exact hz
   refine call_meets F.slot_tuple_mul ⟨_, ho, rfl⟩ F.entry_tuple_mul (F.args_tuple_mul_2 _ _) (zgf l its.toArray #[] n dd sl k t (by simp; omega) (by rw [he]; simpa using hk) (by rw [he]; simp; omega) ?_ ?_ ?_) ⟨ho, ?_⟩
   · rw [hki]
     have : ((sizeLine : Nat) : Int) <= (2 ^ 63 - 1) / 8 := by decide
     omega
   · unfold Builtin.Tuple.tupleTooMany
     rw [hki]
     simp only [gt_iff_lt, decide_eq_true_eq]
     omega
   · rw [hnew, zzE, len_rep, Nat.mul_comm]
     rw [zzE] at hlen
     omega
   · rw [hnew]
     refine ⟨.ref s.heap.objs.size, _, I.laid (t' := s.toks) (o := .tup (List.replicate k.toNat xs).flatten) (λ b ob q => Heap.get?_push_of_some _ q) (zzK _) ?_, rfl, q2 (by omega) _ (I.hok.fresh (zzK _))⟩
     exact ⟨hfl, _, r.rep k.toNat, IsTup.new _ _⟩
theorem zq (op : Operator) : OpD X kd (binaryOp op) (zp op) := by
 intro pins s σ H x y v u Q I rx ry h
 obtain ⟨O, d, e, r, ht, vx, vy, he, q⟩ := h
 cases op with
 | Add =>
  cases vx with
  | int i =>
   obtain ⟨j, h1, he⟩ := bS_ (show (asI e).bind _ = _ from he)
   obtain ⟨rfl, rfl⟩ := Wl vy h1
   cases he
   exact zor pins s σ H _ _ v u Q I rx ry ⟨_, _, rfl, rfl, yr q (.int _)⟩
  | str i =>
   obtain ⟨j, h1, he⟩ := bS_ (show (asS e).bind _ = _ from he)
   obtain ⟨rfl, rfl⟩ := zpW vy h1
   obtain ⟨c, rfl⟩ := zQ he
   exact zhx pins s σ H _ _ v u Q I rx ry ⟨_, _, rfl, rfl, c, yr q (.str _)⟩
  | lst hx rx' =>
   obtain ⟨j, h1, he⟩ := bS_ (show (asL e).bind _ = _ from he)
   cases zfv h1
   obtain ⟨c, rfl⟩ := zQ he
   cases vy with
   | lst hy ry' => exact znc pins s σ H _ _ v u Q I rx ry ⟨_, _, _, _, rfl, rfl, hx, hy, by rw [rx'.length, ry'.length]; exact c, zbs q (rx'.append ry')⟩
  | @tup a1 vs1 ds1 r1 hx rx' =>
   obtain ⟨j, h1, he⟩ := bS_ (show (asT e).bind _ = _ from he)
   cases zoF h1
   obtain ⟨c, rfl⟩ := zQ he
   cases vy with
   | tup r2 hy ry' =>
    by_cases h0 : vs1 = ([] : List V)
    · subst h0
      cases rx'
      exact zlW pins s σ H _ _ v u Q I rx ry ⟨_, _, _, rfl, rfl, hx, hy, yr q r2⟩
    refine zmd pins s σ H _ _ v u Q I rx ry ⟨_, _, _, _, rfl, rfl, hx, hy, h0, by rw [rx'.length, ry'.length]; exact c, λ hn => ?_, λ hn => zhh ht q (rx'.append ry')⟩
    · subst hn
      cases ry'
      rw [List.append_nil] at q
      exact yr q r1
  | _ => cases he
 | Sub =>
  obtain ⟨i, j, rfl, rfl, he⟩ := YZ vx vy he
  cases he
  exact zot pins s σ H _ _ v u Q I rx ry ⟨_, _, rfl, rfl, yr q (.int _)⟩
 | Mult =>
  cases vx with
  | int i =>
   obtain ⟨j, h1, he⟩ := bS_ (show (asI e).bind _ = _ from he)
   obtain ⟨rfl, rfl⟩ := Wl vy h1
   obtain ⟨c, rfl⟩ := zQ he
   obtain ⟨t, rfl⟩ := rx
   obtain ⟨t', rfl⟩ := ry
   exact mul_int ⟨.int _, H, I.tok _, ⟨_, rfl⟩, yr q (.int _)⟩ (IntMulOk.of_bits (zga c.1) (zga c.2))
  | lst hx rx' =>
   obtain ⟨j, h1, he⟩ := bS_ (show (asI e).bind _ = _ from he)
   obtain ⟨rfl, rfl⟩ := Wl vy h1
   obtain ⟨c, rfl⟩ := zQ he
   exact zne pins s σ H _ _ v u Q I rx ry ⟨_, _, _, rfl, rfl, hx, c.1, c.2.1, by rw [rx'.length]; exact c.2.2, zbs q (rx'.rep _)⟩
  | tup r1 hx rx' =>
   obtain ⟨j, h1, he⟩ := bS_ (show (asI e).bind _ = _ from he)
   obtain ⟨rfl, rfl⟩ := Wl vy h1
   obtain ⟨c, rfl⟩ := zQ he
   refine zmk pins s σ H _ _ v u Q I rx ry ⟨_, _, _, rfl, rfl, hx, λ e => ?_, c.1, c.2.1, by rw [rx'.length]; exact c.2.2.2, λ e => ?_, λ _ => zhh ht q (rx'.rep _)⟩
   · have := rx'.length
     rw [e] at this
     exact c.2.2.1 this.symm
   · subst e
     refine yr q ?_
     rw [show (1 : Int).toNat = 1 from rfl, List.replicate_one, List.flatten_cons, List.flatten_nil, List.append_nil]
     exact r1
  | _ => cases he
 | FloorDiv =>
  obtain ⟨i, j, rfl, rfl, he⟩ := YZ vx vy he
  obtain ⟨c, rfl⟩ := zQ he
  obtain ⟨t, rfl⟩ := rx
  obtain ⟨t', rfl⟩ := ry
  refine floordiv_int (by omega) ?_ (.inl (PyProof.noPylong_of_log2 ?_))
  · rw [Int.fdiv_eq_ediv_of_nonneg _ (by omega)]
    exact ⟨.int _, H, I.tok _, ⟨_, rfl⟩, yr q (.int _)⟩
  · exact zzH ((Nat.log2_lt (by have := c.1; omega)).mpr (show _ < 2 ^ 4000 from c.2)) (by decide)
 | Mod =>
  obtain ⟨i, j, rfl, rfl, he⟩ := YZ vx vy he
  obtain ⟨c, rfl⟩ := zQ he
  exact zpg pins s σ H _ _ v u Q I rx ry ⟨_, _, rfl, rfl, c, yr q (.int _)⟩
 | Pow =>
  obtain ⟨i, j, rfl, rfl, he⟩ := YZ vx vy he
  obtain ⟨c, rfl⟩ := zQ he
  exact zpL pins s σ H _ _ v u Q I rx ry ⟨_, _, rfl, rfl, c, yr q (.int _)⟩
 | _ => cases he
end
def eqL (f : D -> D -> Option Bool) : List D -> List D -> Option Bool
 | [], [] => some true
 | x :: r, y :: t => (f x y).bind λ b => (eqL f r t).bind λ c => some (b && c)
 | _, _ => some false
def eqF : Nat -> D -> D -> Option Bool
 | 0, _, _ => none
 | _ + 1, .non, .non => some true
 | _ + 1, .bl a, .bl b => some (a == b)
 | _ + 1, .int a, .int b => some (a == b)
 | _ + 1, .str a, .str b => some (a == b)
 | _ + 1, .bl a, .int b => some ((if a then 1 else 0) == b)
 | _ + 1, .int a, .bl b => some (a == (if b then 1 else 0))
 | n + 1, .lst xs, .lst ys => eqL (eqF n) xs ys
 | n + 1, .tup xs, .tup ys => eqL (eqF n) xs ys
 | _ + 1, .dct _, _ => none
 | _ + 1, .cl _, _ => none
 | _ + 1, .ob _ _ _, _ => none
 | _ + 1, .dt _ _, _ => none
 | _ + 1, _, .dct _ => none
 | _ + 1, _, .cl _ => none
 | _ + 1, _, .ob _ _ _ => none
 | _ + 1, _, .dt _ _ => none
 | _ + 1, _, _ => some false
def eqJ (f : D -> D -> Option Bool) (xs ys : List D) (j : Nat) : Bool := match xs[j]?, ys[j]? with
 | some d, some e => (f d e).getD false
 | _, _ => false
theorem zdM {f : D -> D -> Option Bool} : ∀ {xs ys : List D} {b : Bool}, eqL f xs ys = some b -> (∀ (j : Nat) d e, xs[j]? = some d -> ys[j]? = some e -> ∃ c, f d e = some c) /\
 b = ((List.range (min xs.length ys.length)).all (eqJ f xs ys) && xs.length == ys.length)
 | [], [], b, h => by cases h; exact ⟨λ j d e h => by simp at h, by simp⟩
 | [], y :: t, b, h => by cases h; exact ⟨λ j d e h => by simp at h, by simp⟩
 | x :: r, [], b, h => by cases h; exact ⟨λ j d e _ h => by simp at h, by simp⟩
 | x :: r, y :: t, b, h => by
  obtain ⟨b1, h1, h⟩ := bS_ (show (f x y).bind _ = _ from h)
  obtain ⟨c1, h2, h⟩ := bS_ h
  cases h
  obtain ⟨k1, k2⟩ := zdM h2
  refine ⟨λ j d e hd he => ?_, ?_⟩
  · cases j with
    | zero => simp at hd he; subst hd he; exact ⟨b1, h1⟩
    | succ j => exact k1 j d e (by simpa using hd) (by simpa using he)
  · have e0 : min (x :: r).length (y :: t).length = min r.length t.length + 1 := by simp only [zzQ]; omega
    rw [e0, List.range_succ_eq_map, List.all_cons, List.all_map, k2]
    have e1 : eqJ f (x :: r) (y :: t) 0 = b1 := by show (f x y).getD false = b1; rw [h1]; rfl
    have e2 : (eqJ f (x :: r) (y :: t) ∘ Nat.succ) = eqJ f r t := by
     funext j
     show eqJ f (x :: r) (y :: t) (j + 1) = _
     unfold eqJ
     simp
    have e3 : ((x :: r).length == (y :: t).length) = (r.length == t.length) := by
     by_cases hh : r.length = t.length <;> simp [hh]
    rw [e1, e2, e3, Bool.and_assoc]
structure EqAll (A : Around) (s : Shared) (u v : Value) (b : Bool) : Prop where
 rc : SeqAt.RcAt A s u v b
 ne : SeqAt.RcNeAt A s u v (!b)
 eq : SeqAt.EqAt A s u v b
section
variable {X : Cx} {kd : KD} {pins : List (Addr × Obj)} {σ : St} {H : Hp} {s : Shared} {O : Addr -> Prop}
theorem ziO (I : Inv X pins σ H s) {a : Addr} {xs ys : List V} (h : SqT X.K H a xs) (h' : SqL X.K H a ys) : False := by
 obtain ⟨_, _, ⟨o, e, c, _⟩, _⟩ := I.tuple h
 obtain ⟨_, _, ⟨o', n, e', c', _⟩, _⟩ := I.list h'
 rw [e] at e'
 cases e'
 rw [c] at c'
 exact absurd c' (by decide)
theorem zim (I : Inv X pins σ H s) : ∀ (n : Nat) (v : V) (d e : D) (b : Bool), Vw X.K kd O H v d -> Vw X.K kd O H v e -> eqF n d e = some b -> b = true
 | 0, _, _, _, _, _, _, h => by cases h
 | n + 1, v, d, e, b, h1, h2, h => by
  have lst : ∀ (vs : List V) (ds es : List D) (b : Bool), RpL X.K kd O H vs ds -> RpL X.K kd O H vs es -> eqL (eqF n) ds es = some b -> b = true := by
   intro vs
   induction vs with
   | nil => intro ds es b r1 r2 h; cases r1; cases r2; cases h; rfl
   | cons v vs ih =>
    intro ds es b r1 r2 h
    cases r1 with
    | cons a1 r1 =>
     cases r2 with
     | cons a2 r2 =>
      obtain ⟨b1, k1, h⟩ := bS_ (show (eqF n _ _).bind _ = _ from h)
      obtain ⟨c1, k2, h⟩ := bS_ h
      cases h
      rw [zim I n _ _ _ _ a1.vw a2.vw k1, ih _ _ _ r1 r2 k2]
      rfl
  cases h1 with
  | non => cases h2; cases h; rfl
  | bl x => cases h2; cases h; simp
  | int x => cases h2; cases h; simp
  | str x => cases h2; cases h; simp
  | tup r1 s1 l1 =>
   cases h2 with
   | tup r2 s2 l2 =>
    have := I.tuple_inj s1 s2
    subst this
    exact lst _ _ _ _ l1 l2 h
   | lst s2 l2 => exact (ziO I s1 s2.sq).elim
   | _ => cases h
  | lst s1 l1 =>
   cases h2 with
   | tup r2 s2 l2 => exact (ziO I s2 s1.sq).elim
   | lst s2 l2 =>
    have := I.list_inj s1.sq s2.sq
    subst this
    exact lst _ _ _ _ l1 l2 h
   | _ => cases h
  | _ => cases h
theorem zfD (I : Inv X pins σ H s) : ∀ (n : Nat) (A : Around) (x y : V) (d e : D) (u v : Value) (b : Bool), A.units + n < cLine -> Vw X.K kd O H x d -> Vw X.K kd O H y e -> RelV x u -> RelV y v -> eqF n d e = some b -> EqAll A s u v b
 | 0, _, _, _, _, _, _, _, _, _, _, _, _, _, h => by cases h
 | n + 1, A, x, y, d, e, u, v, b, hu, h1, h2, r1, r2, h => by
  have hu0 : A.units < cLine := by omega
  have itm : ∀ {vs ws : List V} {its its2 : List Value} {ds es : List D}, RpL X.K kd O H vs ds -> RpL X.K kd O H ws es -> Vals vs its -> Vals ws its2 -> (∀ (j : Nat) d e, ds[j]? = some d -> es[j]? = some e -> ∃ c, eqF n d e = some c) ->
   ∀ j (h1 : j < its.toArray.size) (h2 : j < its2.toArray.size), SeqAt.EqAt A.in1 s its.toArray[j] its2.toArray[j] (eqJ (eqF n) ds es j) := by
   intro vs ws its its2 ds es l1 l2 v1 v2 hd j j1 j2
   have q1 : j < ds.length := by rw [<- l1.length, v1.length]; simpa using j1
   have q2 : j < es.length := by rw [<- l2.length, v2.length]; simpa using j2
   obtain ⟨a1, ha1, ra1⟩ := l1.get (zzB q1)
   obtain ⟨a2, ha2, ra2⟩ := l2.get (zzB q2)
   obtain ⟨u1, hu1, ru1⟩ := v1.get ha1
   obtain ⟨u2, hu2, ru2⟩ := v2.get ha2
   obtain ⟨c, hc⟩ := hd j _ _ (zzB q1) (zzB q2)
   have e1 : its.toArray[j] = u1 := by
    have := (zzD.mp hu1).2
    simpa using this
   have e2 : its2.toArray[j] = u2 := by
    have := (zzD.mp hu2).2
    simpa using this
   rw [e1, e2]
   have e3 : eqJ (eqF n) ds es j = c := by
    unfold eqJ
    rw [zzB q1, zzB q2]
    show (eqF n _ _).getD false = c
    rw [hc]; rfl
   rw [e3]
   exact (zfD I n A.in1 a1 a2 _ _ u1 u2 c (by show A.units + 1 + n < cLine; omega) ra1.vw ra2.vw ru1 ru2 hc).eq
  have same : ∀ {a a' : Addr}, x = .ref a -> y = .ref a' -> a = a' -> b = true := by
   intro a a' e1 e2 e3
   subst e1 e2 e3
   exact zim I (n + 1) _ _ _ _ h1 h2 h
  cases h1 with
  | non =>
   cases r1
   cases h2 with
   | non => cases r2; cases h; exact ⟨SeqAt.RcAt.none_none, SeqAt.RcNeAt.none_none, SeqAt.EqAt.same _⟩
   | bl => cases r2; cases h; exact ⟨SeqAt.RcAt.none_bool _, SeqAt.RcNeAt.none_bool _, SeqAt.EqAt.none_bool _⟩
   | int => obtain ⟨t, rfl⟩ := r2; cases h; exact ⟨SeqAt.RcAt.none_int _ _, SeqAt.RcNeAt.none_int _ _, SeqAt.EqAt.none_int _ _⟩
   | str => obtain ⟨t, rfl⟩ := r2; cases h; exact ⟨SeqAt.RcAt.none_str _ _, SeqAt.RcNeAt.none_str _ _, SeqAt.EqAt.none_str _ _⟩
   | tup r s2 l2 =>
    cases r2; cases h
    obtain ⟨its, rv, p, _⟩ := I.tuple s2
    exact ⟨SeqAt.RcAt.none_tuple p hu0, SeqAt.RcNeAt.none_tuple p hu0, SeqAt.EqAt.none_tuple p hu0⟩
   | lst s2 l2 =>
    cases r2; cases h
    obtain ⟨its, rv, p, _⟩ := I.list s2.sq
    exact ⟨SeqAt.RcAt.none_list p.isList hu0, SeqAt.RcNeAt.none_list p.isList hu0, SeqAt.EqAt.none_list p.isList hu0⟩
   | _ => cases h
  | bl c =>
   cases r1
   cases h2 with
   | non => cases r2; cases h; exact ⟨SeqAt.RcAt.bool_none _, SeqAt.RcNeAt.bool_none _, SeqAt.EqAt.bool_none _⟩
   | bl => cases r2; cases h; exact ⟨SeqAt.RcAt.bool_bool _ _, SeqAt.RcNeAt.bool_bool _ _, SeqAt.EqAt.bool_bool _ _⟩
   | int => obtain ⟨t, rfl⟩ := r2; cases h; exact ⟨SeqAt.RcAt.bool_int _ _ _, SeqAt.RcNeAt.bool_int _ _ _, SeqAt.EqAt.bool_int _ _ _⟩
   | str => obtain ⟨t, rfl⟩ := r2; cases h; exact ⟨SeqAt.RcAt.bool_str _ _ _, SeqAt.RcNeAt.bool_str _ _ _, SeqAt.EqAt.bool_str _ _ _⟩
   | tup r s2 l2 =>
    cases r2; cases h
    obtain ⟨its, rv, p, _⟩ := I.tuple s2
    exact ⟨SeqAt.RcAt.bool_tuple _ p hu0, SeqAt.RcNeAt.bool_tuple _ p hu0, SeqAt.EqAt.bool_tuple _ p hu0⟩
   | lst s2 l2 =>
    cases r2; cases h
    obtain ⟨its, rv, p, _⟩ := I.list s2.sq
    exact ⟨SeqAt.RcAt.bool_list _ p.isList hu0, SeqAt.RcNeAt.bool_list _ p.isList hu0, SeqAt.EqAt.bool_list _ p.isList hu0⟩
   | _ => cases h
  | int c =>
   obtain ⟨t0, rfl⟩ := r1
   cases h2 with
   | non => cases r2; cases h; exact ⟨SeqAt.RcAt.int_none _ _, SeqAt.RcNeAt.int_none _ _, SeqAt.EqAt.int_none _ _⟩
   | bl => cases r2; cases h; exact ⟨SeqAt.RcAt.int_bool _ _ _, SeqAt.RcNeAt.int_bool _ _ _, SeqAt.EqAt.int_bool _ _ _⟩
   | int => obtain ⟨t, rfl⟩ := r2; cases h; exact ⟨SeqAt.RcAt.int_int _ _ _ _, SeqAt.RcNeAt.int_int _ _ _ _, SeqAt.EqAt.int_int _ _ _ _⟩
   | str => obtain ⟨t, rfl⟩ := r2; cases h; exact ⟨SeqAt.RcAt.int_str _ _ _ _, SeqAt.RcNeAt.int_str _ _ _ _, SeqAt.EqAt.int_str _ _ _ _⟩
   | tup r s2 l2 =>
    cases r2; cases h
    obtain ⟨its, rv, p, _⟩ := I.tuple s2
    exact ⟨SeqAt.RcAt.int_tuple _ _ p hu0, SeqAt.RcNeAt.int_tuple _ _ p hu0, SeqAt.EqAt.int_tuple _ _ p hu0⟩
   | lst s2 l2 =>
    cases r2; cases h
    obtain ⟨its, rv, p, _⟩ := I.list s2.sq
    exact ⟨SeqAt.RcAt.int_list _ _ p.isList hu0, SeqAt.RcNeAt.int_list _ _ p.isList hu0, SeqAt.EqAt.int_list _ _ p.isList hu0⟩
   | _ => cases h
  | str c =>
   obtain ⟨t0, rfl⟩ := r1
   cases h2 with
   | non => cases r2; cases h; exact ⟨SeqAt.RcAt.str_none _ _, SeqAt.RcNeAt.str_none _ _, SeqAt.EqAt.str_none _ _⟩
   | bl => cases r2; cases h; exact ⟨SeqAt.RcAt.str_bool _ _ _, SeqAt.RcNeAt.str_bool _ _ _, SeqAt.EqAt.str_bool _ _ _⟩
   | int => obtain ⟨t, rfl⟩ := r2; cases h; exact ⟨SeqAt.RcAt.str_int _ _ _ _, SeqAt.RcNeAt.str_int _ _ _ _, SeqAt.EqAt.str_int _ _ _ _⟩
   | str => obtain ⟨t, rfl⟩ := r2; cases h; exact ⟨SeqAt.RcAt.str_str _ _ _ _, SeqAt.RcNeAt.str_str _ _ _ _, SeqAt.EqAt.str_str _ _ _ _⟩
   | tup r s2 l2 =>
    cases r2; cases h
    obtain ⟨its, rv, p, _⟩ := I.tuple s2
    exact ⟨SeqAt.RcAt.str_tuple _ _ p hu0, SeqAt.RcNeAt.str_tuple _ _ p hu0, SeqAt.EqAt.str_tuple _ _ p hu0⟩
   | lst s2 l2 =>
    cases r2; cases h
    obtain ⟨its, rv, p, _⟩ := I.list s2.sq
    exact ⟨SeqAt.RcAt.str_list _ _ p.isList hu0, SeqAt.RcNeAt.str_list _ _ p.isList hu0, SeqAt.EqAt.str_list _ _ p.isList hu0⟩
   | _ => cases h
  | @tup a1 vs1 ds1 r s1 l1 =>
   cases r1
   obtain ⟨its1, rv1, p1, _⟩ := I.tuple s1
   cases h2 with
   | non => cases r2; cases h; exact ⟨SeqAt.RcAt.tuple_none p1 hu0, SeqAt.RcNeAt.tuple_none p1 hu0, SeqAt.EqAt.tuple_none p1 hu0⟩
   | bl => cases r2; cases h; exact ⟨SeqAt.RcAt.tuple_bool _ p1 hu0, SeqAt.RcNeAt.tuple_bool _ p1 hu0, SeqAt.EqAt.tuple_bool _ p1 hu0⟩
   | int => obtain ⟨t, rfl⟩ := r2; cases h; exact ⟨SeqAt.RcAt.tuple_int _ _ p1 hu0, SeqAt.RcNeAt.tuple_int _ _ p1 hu0, SeqAt.EqAt.tuple_int _ _ p1 hu0⟩
   | str => obtain ⟨t, rfl⟩ := r2; cases h; exact ⟨SeqAt.RcAt.tuple_str _ _ p1 hu0, SeqAt.RcNeAt.tuple_str _ _ p1 hu0, SeqAt.EqAt.tuple_str _ _ p1 hu0⟩
   | @tup a2 vs2 ds2 r' s2 l2 =>
    cases r2
    obtain ⟨its2, rv2, p2, _⟩ := I.tuple s2
    obtain ⟨k1, k2⟩ := zdM h
    have he := itm l1 l2 rv1 rv2 k1
    have eb : ((List.range (min its1.toArray.size its2.toArray.size)).all (eqJ (eqF n) ds1 ds2) && its1.toArray.size == its2.toArray.size) = b := by
     rw [k2, zzE, zzE, <- rv1.length, <- rv2.length, l1.length, l2.length]
    have b1 := SeqAt.RcAt.tuples p1 p2 hu0 he
    have b2 := SeqAt.RcNeAt.tuples p1 p2 hu0 he
    rw [eb] at b1 b2
    refine ⟨b1, b2, ?_⟩
    by_cases ha : a1 = a2
    · have hb := same rfl rfl ha
      subst ha
      rw [hb]
      exact SeqAt.EqAt.same _
    · exact SeqAt.EqAt.of_refs ha b1
   | lst s2 l2 =>
    cases r2; cases h
    obtain ⟨its, rv, p, _⟩ := I.list s2.sq
    exact ⟨SeqAt.RcAt.tuple_list p1 p.isList hu0, SeqAt.RcNeAt.tuple_list p1 p.isList hu0, SeqAt.EqAt.tuple_list p1 p.isList hu0⟩
   | _ => cases h
  | @lst a1 vs1 ds1 s1 l1 =>
   cases r1
   obtain ⟨its1, rv1, p1, _⟩ := I.list s1.sq
   cases h2 with
   | non => cases r2; cases h; exact ⟨SeqAt.RcAt.list_none p1.isList hu0, SeqAt.RcNeAt.list_none p1.isList hu0, SeqAt.EqAt.list_none p1.isList hu0⟩
   | bl => cases r2; cases h; exact ⟨SeqAt.RcAt.list_bool _ p1.isList hu0, SeqAt.RcNeAt.list_bool _ p1.isList hu0, SeqAt.EqAt.list_bool _ p1.isList hu0⟩
   | int => obtain ⟨t, rfl⟩ := r2; cases h; exact ⟨SeqAt.RcAt.list_int _ _ p1.isList hu0, SeqAt.RcNeAt.list_int _ _ p1.isList hu0, SeqAt.EqAt.list_int _ _ p1.isList hu0⟩
   | str => obtain ⟨t, rfl⟩ := r2; cases h; exact ⟨SeqAt.RcAt.list_str _ _ p1.isList hu0, SeqAt.RcNeAt.list_str _ _ p1.isList hu0, SeqAt.EqAt.list_str _ _ p1.isList hu0⟩
   | tup r' s2 l2 =>
    cases r2; cases h
    obtain ⟨its2, rv2, p2, _⟩ := I.tuple s2
    exact ⟨SeqAt.RcAt.list_tuple p1.isList p2 hu0, SeqAt.RcNeAt.list_tuple p1.isList p2 hu0, SeqAt.EqAt.list_tuple p1.isList p2 hu0⟩
   | @lst a2 vs2 ds2 s2 l2 =>
    cases r2
    obtain ⟨its2, rv2, p2, _⟩ := I.list s2.sq
    obtain ⟨k1, k2⟩ := zdM h
    have he := itm l1 l2 rv1 rv2 k1
    have ez1 : its1.toArray.size = _ := zzE.trans (rv1.length.symm.trans l1.length)
    have ez2 : its2.toArray.size = _ := zzE.trans (rv2.length.symm.trans l2.length)
    have both : SeqAt.RcAt A s (.ref a1) (.ref a2) b /\ SeqAt.RcNeAt A s (.ref a1) (.ref a2) (!b) := by
     by_cases hz : its1.toArray.size = its2.toArray.size
     · have b1 := SeqAt.RcAt.lists p1.isList p2.isList hz hu0 he
       have b2 := SeqAt.RcNeAt.lists p1.isList p2.isList hz hu0 he
       have eb : (List.range its1.toArray.size).all (eqJ (eqF n) ds1 ds2) = b := by
        rw [k2, <- ez1, <- ez2, <- hz, Nat.min_self]
        simp
       rw [eb] at b1 b2
       exact ⟨b1, b2⟩
     · have hz' : (its1.toArray.size != its2.toArray.size) = true := by simpa using hz
       have eb : b = false := by
        rw [k2, <- ez1, <- ez2]
        have : (its1.toArray.size == its2.toArray.size) = false := by simpa using hz
        rw [this, Bool.and_false]
       rw [eb]
       exact ⟨SeqAt.RcAt.lists_lengths p1.isList p2.isList hz' hu0, SeqAt.RcNeAt.lists_lengths p1.isList p2.isList hz' hu0⟩
    refine ⟨both.1, both.2, ?_⟩
    by_cases ha : a1 = a2
    · have hb := same rfl rfl ha
      subst ha
      rw [hb]
      exact SeqAt.EqAt.same _
    · exact SeqAt.EqAt.of_refs ha both.1
   | _ => cases h
  | _ => cases h
end
structure DkAt (P : Program) (w : World) (h : Heap) (a : Addr) (kvs : List (Key × V)) : Prop where
 le : kvs.length <= sizeLine
 ns : (a == sysModules) = false
 ex : ∃ vs, KV kvs vs /\ h.DictOf (yX P w) a vs
structure KdOk (X : Cx) (kd : KD) : Prop where
 inj : ∀ a k k', kd a k -> kd a k' -> k = k'
 inK : ∀ a k, kd a k -> ∃ o, X.K.lookup a = some o
 at_ : ∀ a k h, kd a k -> X.K.In h -> DkAt X.prog X.w h a k
section
variable {X : Cx} {kd : KD} {pins : List (Addr × Obj)} {σ : St} {H : Hp} {s : Shared} {O : Addr -> Prop}
theorem zeC (I : Inv X pins σ H s) (hk : KdOk X kd) {a : Addr} {kvs : List (Key × V)} (h : Rd H a (.dK kvs) \/ kd a kvs) : DkAt X.prog X.w s.heap a kvs := by
 rcases h with h | h
 · obtain ⟨z, hd, vs, rel, dd⟩ := zih I.hok h
   exact ⟨z, hd, vs, rel, dd⟩
 · exact hk.at_ _ _ _ h I.kIn
theorem zlD (I : Inv X pins σ H s) : ∀ (n : Nat) (v : V) (d e x : D) (b c : Bool), Vw X.K kd O H v d -> Vw X.K kd O H v e -> eqF n d x = some b -> eqF n e x = some c -> b = c
 | 0, _, _, _, _, _, _, _, _, h, _ => by cases h
 | n + 1, v, d, e, x, b, c, h1, h2, h, h' => by
  have lst : ∀ (vs : List V) (ds es xs : List D) (b c : Bool), RpL X.K kd O H vs ds -> RpL X.K kd O H vs es -> eqL (eqF n) ds xs = some b -> eqL (eqF n) es xs = some c -> b = c := by
   intro vs
   induction vs with
   | nil => intro ds es xs b c r1 r2 h h'; cases r1; cases r2; exact Option.some.inj (h.symm.trans h')
   | cons v vs ih =>
    intro ds es xs b c r1 r2 h h'
    cases r1 with
    | cons a1 r1 =>
     cases r2 with
     | cons a2 r2 =>
      cases xs with
      | nil => cases h; cases h'; rfl
      | cons x xs =>
       obtain ⟨b1, k1, h⟩ := bS_ (show (eqF n _ _).bind _ = _ from h)
       obtain ⟨c1, k2, h⟩ := bS_ h
       obtain ⟨b2, k3, h'⟩ := bS_ (show (eqF n _ _).bind _ = _ from h')
       obtain ⟨c2, k4, h'⟩ := bS_ h'
       cases h; cases h'
       rw [zlD I n _ _ _ _ _ _ a1.vw a2.vw k1 k3, ih _ _ _ _ _ r1 r2 k2 k4]
  cases h1 with
  | tup r1 s1 l1 =>
   cases h2 with
   | tup r2 s2 l2 =>
    have := I.tuple_inj s1 s2
    subst this
    cases x with
    | tup xs => exact lst _ _ _ _ _ _ l1 l2 h h'
    | _ => exact Option.some.inj (h.symm.trans h')
   | lst s2 l2 => exact (ziO I s1 s2.sq).elim
   | _ => cases h'
  | lst s1 l1 =>
   cases h2 with
   | tup r2 s2 l2 => exact (ziO I s2 s1.sq).elim
   | lst s2 l2 =>
    have := I.list_inj s1.sq s2.sq
    subst this
    cases x with
    | lst xs => exact lst _ _ _ _ _ _ l1 l2 h h'
    | _ => exact Option.some.inj (h.symm.trans h')
   | _ => cases h'
  | dct s1 l1 => cases h
  | cl => cases h
  | ob => cases h
  | dt => cases h
  | _ => cases h2; exact Option.some.inj (h.symm.trans h')
end
def zhj : D -> Option Key
 | .int i => some (.inl i)
 | .str x => some (.inr x)
 | _ => none
def zeU (kvs : List (Key × D)) (k : Key) : Option D := (kvs.find? λ kv => decide (kv.1 = k)).map (·.2)
theorem zfu {K : zC} {kd : KD} {O : Addr -> Prop} {H : Hp} (k : Key) {vs : List (Key × V)} {ds : List (Key × D)} (h : RpM K kd O H vs ds) : (∃ v d, Yz vs k = some v /\ zeU ds k = some d /\ Rp K kd O H v d) \/ (Yz vs k = none /\ zeU ds k = none) :=
 RpM.ind (P := λ vs ds => (∃ v d, Yz vs k = some v /\ zeU ds k = some d /\ Rp K kd O H v d) \/ (Yz vs k = none /\ zeU ds k = none)) (.inr ⟨rfl, rfl⟩) (λ {k' v d vs ds} a _ ih => by
  by_cases e : k' = k
  · left
    refine ⟨_, _, ?_, ?_, a⟩
    · unfold Yz; simp [e]
    · unfold zeU; simp [e]
  · rcases ih with ⟨v, d, h1, h2, h3⟩ | ⟨h1, h2⟩
    · left
      refine ⟨v, d, ?_, ?_, h3⟩
      · unfold Yz at h1 ⊢; simpa [e] using h1
      · unfold zeU at h2 ⊢; simpa [e] using h2
    · right
      refine ⟨?_, ?_⟩
      · unfold Yz at h1 ⊢; simpa [e] using h1
      · unfold zeU at h2 ⊢; simpa [e] using h2) h
def zeG : List D -> Option (List Key)
 | [] => some []
 | d :: r => (zhj d).bind λ k => (zeG r).bind λ ks => some (k :: ks)
def zjC : D -> Option (List Key)
 | .tup ds => zeG ds
 | _ => none
def zcZ (ks : List (List Key)) (ds : List D) (k : List Key) : Option D := ((ks.zip ds).find? λ kv => decide (kv.1 = k)).map (·.2)
theorem zlL {K : zC} {kd : KD} {O : Addr -> Prop} {H : Hp} {vs : List V} {ds : List D} (h : RpL K kd O H vs ds) : ∀ {k : List Key}, zeG ds = some k -> vs = k.map kV :=
 RpL.ind (P := λ vs ds => ∀ {k : List Key}, zeG ds = some k -> vs = k.map kV) (λ e => by cases e; rfl) (λ {v d vs ds} a _ ih k e => by
  obtain ⟨k1, h1, e⟩ := bS_ (show (zhj d).bind _ = _ from e)
  obtain ⟨k2, h2, e⟩ := bS_ e
  cases e
  have hv : v = kV k1 := by
   cases a with
   | int i => cases h1; rfl
   | str i => cases h1; rfl
   | _ => cases h1
  rw [hv, ih h2]; rfl) h
theorem zcP {K : zC} {kd : KD} {O : Addr -> Prop} {H : Hp} {v : V} {d : D} {k : List Key} (h : Vw K kd O H v d) (e : zjC d = some k) : ∃ b, v = .ref b /\ H b = some (.tup (k.map kV)) := by
 cases h with
 | tup rp hs rl =>
  cases rp with
  | tup n h r => exact ⟨_, rfl, by rw [h, zlL r e]⟩
 | _ => cases e
theorem zgD {K : zC} {kd : KD} {O : Addr -> Prop} {H : Hp} (k : List Key) {vs : List V} {ds : List D} (h : RpL K kd O H vs ds) : ∀ {ks : List (List Key)}, ks.length = vs.length -> (∃ v d, Yz (ks.zip vs) k = some v /\ zcZ ks ds k = some d /\ Rp K kd O H v d) \/ (Yz (ks.zip vs) k = none /\ zcZ ks ds k = none) :=
 RpL.ind (P := λ vs ds => ∀ {ks : List (List Key)}, ks.length = vs.length -> (∃ v d, Yz (ks.zip vs) k = some v /\ zcZ ks ds k = some d /\ Rp K kd O H v d) \/ (Yz (ks.zip vs) k = none /\ zcZ ks ds k = none)) (λ {ks} e => by
  cases ks with
  | nil => exact .inr ⟨rfl, rfl⟩
  | cons => simp at e) (λ {v d vs ds} a _ ih ks e => by
  cases ks with
  | nil => simp at e
  | cons k1 ks =>
   have e' : ks.length = vs.length := by simpa using e
   unfold Yz zcZ
   rw [List.zip_cons_cons, List.zip_cons_cons]
   by_cases hk : k1 = k
   · rw [List.find?_cons_of_pos (by simpa using hk), List.find?_cons_of_pos (by simpa using hk)]
     exact .inl ⟨_, _, rfl, rfl, a⟩
   · rw [List.find?_cons_of_neg (by simpa using hk), List.find?_cons_of_neg (by simpa using hk)]
     exact ih e') h
def anyF (f : D -> Option Bool) : List D -> Option Bool
 | [] => some false
 | x :: r => (f x).bind λ b => (anyF f r).bind λ c => some (b || c)
def blR (b : Bool) : R0 := .im (.bl b)
def inP (x : D) : D -> Option Bool
 | .lst ys => anyF (λ y => eqF 50 y x) ys
 | .tup ys => anyF (λ y => eqF 50 y x) ys
 | .str y => match x with | .str i => some (!(Builtin.Str.occurrences y i 0 y.length 1).isEmpty) | _ => none
 | .dct kvs => (zhj x).bind λ k => some (zeU kvs k).isSome
 | .dt ks ds => (zjC x).bind λ k => some (zcZ ks ds k).isSome
 | _ => none
def isP : D -> D -> Option Bool
 | d, .non => some (match d with | .non => true | _ => false)
 | d, .bl b => match d with | .bl c => some (c == b) | _ => some false
 | _, _ => none
def zhk (f : Int -> Int -> Bool) : D -> D -> Option R0 := onI λ i j => some (blR (f i j))
def zL (o : CmpOp) (d e : D) : Option R0 := match o with
 | .Eq => (eqF 60 d e).bind λ b => some (blR b)
 | .NotEq => (eqF 60 d e).bind λ b => some (blR !b)
 | .Lt => zhk (λ i j => decide (i < j)) d e
 | .LtE => zhk (λ i j => decide (i <= j)) d e
 | .Gt => zhk (λ i j => decide (j < i)) d e
 | .GtE => zhk (λ i j => decide (j <= i)) d e
 | .In => (inP d e).bind λ b => some (blR b)
 | .NotIn => (inP d e).bind λ b => some (blR !b)
 | .Is => (isP d e).bind λ b => some (blR b)
 | .IsNot => (isP d e).bind λ b => some (blR !b)
theorem VJ {o : Option Bool} {f : Bool -> Bool} {r : R0} (h : (o.bind λ b => some (blR (f b))) = some r) : ∃ k, r = .im (.bl k) := by
 obtain ⟨b, _, h⟩ := bS_ h
 cases h
 exact ⟨_, rfl⟩
theorem zcJ {x y : D} {f : Int -> Int -> Bool} {r : R0} (h : zhk f x y = some r) : ∃ k, r = .im (.bl k) := by
 obtain ⟨i, _, h⟩ := bS_ (show (asI x).bind _ = _ from h)
 obtain ⟨j, _, h⟩ := bS_ h
 cases h
 exact ⟨_, rfl⟩
theorem zR (op : CmpOp) (x y : D) (r : R0) (h : zL op x y = some r) : ∃ k, r = .im (.bl k) := by
 cases op with
 | Eq => exact VJ (f := id) h
 | NotEq => exact VJ (f := not) h
 | Lt => exact zcJ h
 | LtE => exact zcJ h
 | Gt => exact zcJ h
 | GtE => exact zcJ h
 | In => exact VJ (f := id) h
 | NotIn => exact VJ (f := not) h
 | Is => exact VJ (f := id) h
 | IsNot => exact VJ (f := not) h
section
variable {X : Cx} {kd : KD} {pins : List (Addr × Obj)} {σ : St} {H : Hp} {s : Shared} {O : Addr -> Prop}
noncomputable def eqW (K : zC) (kd : KD) (O : Addr -> Prop) (H : Hp) (n : Nat) (x : D) (u : Value) : Bool := @decide (∃ v d, RelV v u /\ Rp K kd O H v d /\ eqF n d x = some true) (Classical.propDecidable _)
theorem zlM (I : Inv X pins σ H s) (hk : KdOk X kd) {n : Nat} {x d : D} {v : V} {u : Value} {b : Bool} (r : RelV v u) (p : Rp X.K kd O H v d) (e : eqF n d x = some b) : eqW X.K kd O H n x u = b := by
 unfold eqW
 cases b with
 | true => exact @decide_eq_true _ (Classical.propDecidable _) ⟨v, d, r, p, e⟩
 | false =>
  refine @decide_eq_false _ (Classical.propDecidable _) λ ⟨v', d', r', p', e'⟩ => ?_
  have := r.inj r'
  subst this
  exact Bool.noConfusion (zlD I n _ _ _ _ _ _ p.vw p'.vw e e')
theorem zcI (I : Inv X pins σ H s) (hk : KdOk X kd) {n : Nat} {x : D} {vs : List V} {us : List Value} {ds : List D} {b : Bool} (hv : Vals vs us) (h : RpL X.K kd O H vs ds) (e : anyF (λ y => eqF n y x) ds = some b) : us.any (eqW X.K kd O H n x) = b :=
 RpL.ind (P := λ vs ds => ∀ us b, Vals vs us -> anyF (λ y => eqF n y x) ds = some b -> us.any (eqW X.K kd O H n x) = b) (λ us b hv e => by cases e; cases hv; rfl) (λ {v d vs ds} a _ ih us b hv h => by
  cases hv with
  | cons r t =>
   obtain ⟨b1, h1, h⟩ := bS_ (show (eqF n _ x).bind _ = _ from h)
   obtain ⟨c1, h2, h⟩ := bS_ h
   cases h
   rw [List.any_cons, zlM I hk r a h1, ih _ _ t h2]) h us b hv e
theorem Vp {f : D -> Option Bool} : ∀ {ds : List D} {b : Bool}, anyF f ds = some b -> ∀ d ∈ ds, ∃ c, f d = some c
 | [], _, _, d, hd => by simp at hd
 | x :: r, b, h, d, hd => by
  obtain ⟨b1, h1, h⟩ := bS_ (show (f x).bind _ = _ from h)
  obtain ⟨c1, h2, h⟩ := bS_ h
  rcases zS.mp hd with e | e
  · subst e; exact ⟨b1, h1⟩
  · exact Vp h2 d e
theorem zcL (I : Inv X pins σ H s) (hk : KdOk X kd) {n : Nat} {A : Around} (hu : A.units + n < cLine) {x : V} {v : Value} {d : D} (vx : Vw X.K kd O H x d) (rx : RelV x v) {vs : List V} {us : List Value} {ds : List D} (hv : Vals vs us) (h : RpL X.K kd O H vs ds) (k : ∀ e ∈ ds, ∃ c, eqF n e d = some c) : ∀ u ∈ us, SeqAt.EqAt A s u v (eqW X.K kd O H n d u) :=
 RpL.ind (P := λ vs ds => ∀ us, Vals vs us -> (∀ e ∈ ds, ∃ c, eqF n e d = some c) -> ∀ u ∈ us, SeqAt.EqAt A s u v (eqW X.K kd O H n d u)) (λ us hv _ u hu => by cases hv; simp at hu) (λ a q ih us hv h u hm => by
  cases hv with
  | cons r t =>
   rcases zS.mp hm with e | e
   · subst e
     obtain ⟨c, hc⟩ := h _ zzC
     rw [zlM I hk r a hc]
     exact (zfD I n A _ _ _ _ _ _ _ hu a.vw vx r rx hc).eq
   · exact ih _ t (λ e he => h e (zzA _ he)) u e) h us hv k
theorem zdo {A : Around} {E : Value -> Shared -> Prop} {x : V} {v : Value} {b c : Bool} {d : D} {Q : Bool -> Shared -> Prop} (vx : Vw X.K kd O H x d) (rx : RelV x v) (e : isP d (.bl b) = some c) (h : Q c s) : wpAny (model X.prog X.w) A (isSame v (.bool b)) Q E s := by
 cases vx with
 | non => cases rx; cases e; exact wpAny_pure h
 | bl k =>
  cases rx
  have e : some (k == b) = some c := e
  cases e
  refine wpAny_pure ?_
  cases k <;> cases b <;> exact h
 | int => obtain ⟨t, rfl⟩ := rx; cases e; exact wpAny_pure h
 | str => obtain ⟨t, rfl⟩ := rx; cases e; exact wpAny_pure h
 | tup => cases rx; cases e; exact wpAny_pure h
 | lst => cases rx; cases e; exact wpAny_pure h
 | dct => cases rx; cases e; exact wpAny_pure h
 | cl => cases rx; cases e; exact wpAny_pure h
 | ob => cases rx; cases e; exact wpAny_pure h
 | dt => cases rx; cases e; exact wpAny_pure h
theorem zV (hk : KdOk X kd) (hu : X.A.units + 100 < cLine) (op : CmpOp) : OpD X kd (compareOp op) (zL op) := by
 intro pins s σ H x y v u Q I rx ry h
 obtain ⟨O, d, e, r, ht, vx, vy, he, q⟩ := h
 cases op with
 | Eq =>
  obtain ⟨b, h1, he⟩ := bS_ (show (eqF 60 d e).bind _ = _ from he)
  cases he
  exact (zfD I 60 X.A x y d e v u b (by omega) vx vy rx ry h1).rc _ _ _ _ (wz I (yr q (.bl _)) rfl)
 | NotEq =>
  obtain ⟨b, h1, he⟩ := bS_ (show (eqF 60 d e).bind _ = _ from he)
  cases he
  exact (zfD I 60 X.A x y d e v u b (by omega) vx vy rx ry h1).ne _ _ _ _ (wz I (yr q (.bl _)) rfl)
 | Lt =>
  obtain ⟨i, j, rfl, rfl, he⟩ := YZ vx vy he
  cases he
  exact zrh pins s σ H _ _ v u Q I rx ry ⟨_, _, rfl, rfl, yr q (.bl _)⟩
 | LtE =>
  obtain ⟨i, j, rfl, rfl, he⟩ := YZ vx vy he
  cases he
  exact zqV pins s σ H _ _ v u Q I rx ry ⟨_, _, rfl, rfl, yr q (.bl _)⟩
 | Gt =>
  obtain ⟨i, j, rfl, rfl, he⟩ := YZ vx vy he
  cases he
  exact zra pins s σ H _ _ v u Q I rx ry ⟨_, _, rfl, rfl, yr q (.bl _)⟩
 | GtE =>
  obtain ⟨i, j, rfl, rfl, he⟩ := YZ vx vy he
  cases he
  exact zqP pins s σ H _ _ v u Q I rx ry ⟨_, _, rfl, rfl, yr q (.bl _)⟩
 | In =>
  obtain ⟨b, h1, he⟩ := bS_ (show (inP d e).bind _ = _ from he)
  cases he
  cases vy with
  | lst hs rl =>
   cases ry
   obtain ⟨its, rv, p, _⟩ := I.list hs.sq
   refine SeqAt.in_listAt (eqW X.K kd O H 50 d) p.isList (λ w hw => zcL I hk (by show X.A.units + 1 + 50 < cLine; omega) vx rx rv rl (Vp h1) w (by simpa using hw)) ?_
   have := zcI I hk rv rl h1
   rw [show its.toArray.any (eqW X.K kd O H 50 d) = b by rw [<- this]; simp]
   exact wz (I) (yr q (.bl _)) rfl
  | tup rp hs rl =>
   cases ry
   obtain ⟨its, rv, p, _⟩ := I.tuple hs
   refine SeqAt.in_tupleAt (eqW X.K kd O H 50 d) p (λ w hw => zcL I hk (by show X.A.units + 1 + 50 < cLine; omega) vx rx rv rl (Vp h1) w (by simpa using hw)) ?_
   have := zcI I hk rv rl h1
   rw [show its.toArray.any (eqW X.K kd O H 50 d) = b by rw [<- this]; simp]
   exact wz (I) (yr q (.bl _)) rfl
  | str z =>
   cases vx with
   | str i => cases h1; exact zjN pins s σ H _ _ v u Q I rx ry ⟨_, _, rfl, rfl, yr q (.bl _)⟩
   | _ => cases h1
  | dct hs rm =>
   cases ry
   obtain ⟨k, k1, h1⟩ := bS_ h1
   cases h1
   obtain ⟨z, hd, vs, rel, dd⟩ := zeC I hk hs
   have ek : x = kV k := by
    cases vx with
    | int i => cases k1; rfl
    | str i => cases k1; rfl
    | _ => cases k1
   subst ek
   refine wpAny_in_of (zdq rx) hd dd.mapOf ?_
   rw [<- (rel.val k).isSome_eq]
   rcases zfu k rm with ⟨v1, d1, e1, e2, _⟩ | ⟨e1, e2⟩
   · rw [e1]; rw [e2] at q; exact wz (I.tok _) (yr q (.bl _)) rfl
   · rw [e1]; rw [e2] at q; exact wz (I.tok _) (yr q (.bl _)) rfl
  | dt hH l rl =>
   cases ry
   obtain ⟨k, k1, h1⟩ := bS_ h1
   cases h1
   obtain ⟨b, rfl, hb⟩ := zcP vx k1
   refine zsb (by show X.A.units + 1 < cLine; omega) I (zjs.t hH hb) rx λ s' I' => ?_
   rcases zgD k rl l with ⟨v1, d1, e1, e2, _⟩ | ⟨e1, e2⟩
   · rw [e1]; rw [e2] at q; exact wz I' (yr q (.bl _)) rfl
   · rw [e1]; rw [e2] at q; exact wz I' (yr q (.bl _)) rfl
  | _ => cases h1
 | NotIn =>
  obtain ⟨b, h1, he⟩ := bS_ (show (inP d e).bind _ = _ from he)
  cases he
  cases vy with
  | lst hs rl =>
   cases ry
   obtain ⟨its, rv, p, _⟩ := I.list hs.sq
   refine SeqAt.notIn_listAt (eqW X.K kd O H 50 d) p.isList (λ w hw => zcL I hk (by show X.A.units + 1 + 50 < cLine; omega) vx rx rv rl (Vp h1) w (by simpa using hw)) ?_
   have := zcI I hk rv rl h1
   rw [show its.toArray.any (eqW X.K kd O H 50 d) = b by rw [<- this]; simp]
   exact wz (I) (yr q (.bl _)) rfl
  | tup rp hs rl =>
   cases ry
   obtain ⟨its, rv, p, _⟩ := I.tuple hs
   refine SeqAt.notIn_tupleAt (eqW X.K kd O H 50 d) p (λ w hw => zcL I hk (by show X.A.units + 1 + 50 < cLine; omega) vx rx rv rl (Vp h1) w (by simpa using hw)) ?_
   have := zcI I hk rv rl h1
   rw [show its.toArray.any (eqW X.K kd O H 50 d) = b by rw [<- this]; simp]
   exact wz (I) (yr q (.bl _)) rfl
  | str z =>
   cases vx with
   | str i => cases h1; exact zfe pins s σ H _ _ v u Q I rx ry ⟨_, _, rfl, rfl, yr q (.bl _)⟩
   | _ => cases h1
  | dct hs rm =>
   cases ry
   obtain ⟨k, k1, h1⟩ := bS_ h1
   cases h1
   obtain ⟨z, hd, vs, rel, dd⟩ := zeC I hk hs
   have ek : x = kV k := by
    cases vx with
    | int i => cases k1; rfl
    | str i => cases k1; rfl
    | _ => cases k1
   subst ek
   refine wpAny_notIn_of (zdq rx) hd dd.mapOf ?_
   rw [<- (rel.val k).isSome_eq]
   rcases zfu k rm with ⟨v1, d1, e1, e2, _⟩ | ⟨e1, e2⟩
   · rw [e1]; rw [e2] at q; exact wz (I.tok _) (yr q (.bl _)) rfl
   · rw [e1]; rw [e2] at q; exact wz (I.tok _) (yr q (.bl _)) rfl
  | dt hH l rl =>
   cases ry
   obtain ⟨k, k1, h1⟩ := bS_ h1
   cases h1
   obtain ⟨b, rfl, hb⟩ := zcP vx k1
   refine zmQ (by show X.A.units + 1 < cLine; omega) I (zjs.t hH hb) rx λ s' I' => ?_
   rcases zgD k rl l with ⟨v1, d1, e1, e2, _⟩ | ⟨e1, e2⟩
   · rw [e1]; rw [e2] at q; exact wz I' (yr q (.bl _)) rfl
   · rw [e1]; rw [e2] at q; exact wz I' (yr q (.bl _)) rfl
  | _ => cases h1
 | Is =>
  obtain ⟨b, h1, he⟩ := bS_ (show (isP d e).bind _ = _ from he)
  cases he
  cases vy with
  | non =>
   refine zow pins s σ H _ _ v u Q I rx ry ⟨rfl, ?_⟩
   have : decide (x = V.non) = b := by cases vx <;> (cases h1; rfl)
   rw [this]
   exact yr q (.bl b)
  | bl c =>
   cases ry
   exact wpAny_bind (zdo vx rx h1 (wpAny_pure (wz I (yr q (.bl _)) rfl)))
  | _ => cases h1
 | IsNot =>
  obtain ⟨b, h1, he⟩ := bS_ (show (isP d e).bind _ = _ from he)
  cases he
  cases vy with
  | non =>
   refine zlU pins s σ H _ _ v u Q I rx ry ⟨rfl, ?_⟩
   have : decide (x = V.non) = b := by cases vx <;> (cases h1; rfl)
   rw [this]
   exact yr q (.bl _)
  | bl c =>
   cases ry
   exact wpAny_bind (zdo vx rx h1 (wpAny_pure (wz I (yr q (.bl _)) rfl)))
  | _ => cases h1
end
theorem ziz {K : zC} {kd : KD} {O : Addr -> Prop} {H : Hp} {vs : List V} {ds : List D} {i : Int} {d : D} (r : RpL K kd O H vs ds) (h : atI ds i = some d) : ∃ v, atI vs i = some v /\ Rp K kd O H v d := by
 unfold atI at h ⊢
 obtain ⟨j, h1, h2⟩ := bS_ h
 rw [r.length, h1]
 exact r.get h2
def imR (o : Option D) : Option R0 := o.bind λ d => some (.im d)
def ixP (x y : D) : Option R0 := match x with
 | .lst xs => (asI y).bind λ i => imR (atI xs i)
 | .tup xs => (asI y).bind λ i => imR (atI xs i)
 | .str x => (asI y).bind λ i => if x.length <= sizeLine then (atI x.cps.toList i).bind λ c => some (.im (.str ⟨#[c]⟩)) else none
 | .dct kvs => (zhj y).bind λ k => imR (zeU kvs k)
 | _ => none
theorem zdJ {o : Option D} {r : R0} (h : imR o = some r) : ∃ d, o = some d /\ r = .im d := by
 obtain ⟨d, h1, h2⟩ := bS_ (show o.bind _ = _ from h)
 cases h2
 exact ⟨d, h1, rfl⟩
section
variable {X : Cx} {kd : KD}
theorem zpm {K : zC} {O : Addr -> Prop} {H : Hp} {x : V} {d : D} {k : Key} (vx : Vw K kd O H x d) (e : zhj d = some k) : x = kV k := by
 cases vx with
 | int i => cases e; rfl
 | str i => cases e; rfl
 | _ => cases e
theorem zrs (hk : KdOk X kd) : IxD X kd ixP := by
 intro value slice pins s σ H x y v u Q I rx ry h hs
 obtain ⟨O, d, e, r, ht, vx, vy, he, q⟩ := h
 cases vx with
 | lst hr rl =>
  obtain ⟨i, h0, he⟩ := bS_ (show (asI e).bind _ = _ from he)
  obtain ⟨rfl, rfl⟩ := Wl vy h0
  obtain ⟨d, h1, rfl⟩ := zdJ he
  obtain ⟨w, hw, rw'⟩ := ziz rl h1
  exact zfn value slice pins s σ H _ _ v u Q I rx ry ⟨_, _, _, w, rfl, rfl, hr.sq, hw, yr q rw'⟩ hs
 | tup rp hr rl =>
  obtain ⟨i, h0, he⟩ := bS_ (show (asI e).bind _ = _ from he)
  obtain ⟨rfl, rfl⟩ := Wl vy h0
  obtain ⟨d, h1, rfl⟩ := zdJ he
  obtain ⟨w, hw, rw'⟩ := ziz rl h1
  exact zpT value slice pins s σ H _ _ v u Q I rx ry ⟨_, _, _, w, rfl, rfl, hr, hw, yr q rw'⟩ hs
 | str z =>
  obtain ⟨i, h0, he⟩ := bS_ (show (asI e).bind _ = _ from he)
  obtain ⟨rfl, rfl⟩ := Wl vy h0
  obtain ⟨hz, he⟩ := ite_some' he
  obtain ⟨c, h1, he⟩ := bS_ he
  cases he
  exact zph value slice pins s σ H _ _ v u Q I rx ry ⟨_, _, c, rfl, rfl, hz, h1, yr q (.str _)⟩ hs
 | dct hr rm =>
  obtain ⟨k, h1, he⟩ := bS_ (show (zhj e).bind _ = _ from he)
  obtain ⟨d, h2, rfl⟩ := zdJ he
  cases rx
  obtain ⟨z, hd, vs, rel, dd⟩ := zeC I hk hr
  have := zpm vy h1
  subst this
  rcases zfu k rm with ⟨v1, d1, e1, e2, rp⟩ | ⟨e1, e2⟩
  · rw [h2] at e2
    cases e2
    obtain ⟨w', hw, rw'⟩ := zfi.some_of (v := v1) (o := valueAt vs k) (by rw [<- e1]; exact rel.val k)
    exact tail_any dd.typeIs PySem.F.slot_dict_getitem.lookup (wpAny_getItem_of (zdq ry) dd.mapOf hw ⟨v1, H, I.tok _, rw', yr q rp⟩) hs
  · rw [h2] at e2; cases e2
 | _ => cases he
def cutD (xs : List D) (lo hi : Option Int) : List D := (xs.drop (HT.sIx xs.length 0 lo)).take (HT.sIx xs.length xs.length hi - HT.sIx xs.length 0 lo)
theorem ziW {K : zC} {O : Addr -> Prop} {H : Hp} {vs : List V} {ds : List D} (r : RpL K kd O H vs ds) (lo hi : Option Int) : RpL K kd O H (zgs vs lo hi) (cutD ds lo hi) := by
 unfold zgs cutD
 rw [r.length]
 exact (r.drop _).take _
def slP (x : D) (lo hi : Option Int) : Option R0 := match x with
 | .lst xs => some (.fl (cutD xs lo hi))
 | .tup xs => if HT.sIx xs.length 0 lo = 0 /\ HT.sIx xs.length xs.length hi = xs.length then none else some (.im (.tup (cutD xs lo hi)))
 | _ => none
abbrev OF := AS -> Option (Option Int × AS)
def oN : OF := λ as => some (none, as)
def oS (f : EF) : OF := λ as => (f as).bind λ p => (rvI p.1).bind λ i => some (some i, p.2)
def fSl (fa : EF) (fl fh : OF) (g : D -> Option Int -> Option Int -> Option R0) : EF := λ as => (fa as).bind λ p => (fl p.2).bind λ l => (fh l.2).bind λ h => (p.1.frz.view h.2).bind λ x => (g x.1 l.1 h.1).bind λ r => (wrap x.2 r).bind λ z => some (z, h.2)
def alO (K : zC) (kd : KD) (f : OF) : TO := λ σ H Q => ∃ F B ad as o as', Rel K kd F B [] ad as σ H /\ f as = some (o, as') /\
 ∀ ad' H', Rel K kd F B [] ad' as' σ H' -> Grow (Gw [] ad) H (Gw [] ad') H' -> Q o H'
@[irreducible] def AO (X : Cx) (kd : KD) (e : Option Expr) (f : OF) : Prop := PO X e (alO X.K kd f)
theorem zkZ {e : Option Expr} {t t' : TO} (h : PO X e t) (k : ∀ σ H Q, t' σ H Q -> t σ H Q) : PO X e t' := λ pins s σ H Q I q => h pins s σ H Q I (k σ H Q q)
theorem Wq : AO X kd none oN := by with_unfolding_all exact (zkZ znd λ σ H Q h => by
 obtain ⟨F, B, ad, as, o, as', R, e, q⟩ := h
 cases e
 exact q ad H R Grow.refl)
theorem zpu {K : zC} {F B : Addr -> Prop} {T : List Addr} {ad : Ad} {σ : St} {H : Hp} {v : V} {st : Bool} {c : Int} (h : vg K kd F B T ad σ H v (.ow (.lf st (.int c)))) : T = [] /\ v = .int c := by
 have h : RoS K kd F B (Gw T ad) H v (.lf st (.int c)) T := h
 generalize hT : Gw T ad = G at h
 cases h with
 | lf rp => cases rp; exact ⟨rfl, rfl⟩
theorem X3 {a : Expr} {fa : EF} (ha : AE X kd a fa) : AO X kd (some a) (oS fa) := by with_unfolding_all exact (zkZ (zmu ha) λ σ H Q h => by
 obtain ⟨F, B, ad, as, o, as', R, e, q⟩ := h
 obtain ⟨⟨p, as1⟩, h1, e⟩ := bS_ (show (fa as).bind _ = _ from e)
 obtain ⟨i, e1, e⟩ := bS_ e
 obtain ⟨st, rfl⟩ := zpa e1
 cases e
 refine ⟨F, B, ad, as, _, _, R, h1, λ v T' ad1 H1 R1 rv1 g1 => ?_⟩
 obtain ⟨rfl, rfl⟩ := zpu rv1
 exact ⟨i, rfl, q ad1 H1 R1 g1⟩)
theorem zrM : SlR X (λ x lo hi H Q => ∃ O d r, (∀ a, O a -> H a ≠ none) /\ Vw X.K kd O H x d /\ slP d lo hi = some r /\ RQ X.K kd O H Q r) := by
 intro pins s σ H x v vl vu lo hi sl Q I rx hs pl pu h
 obtain ⟨O, d, r, ht, vx, he, q⟩ := h
 cases vx with
 | lst hr rl => cases he; exact zmK pins s σ H _ v vl vu lo hi sl Q I rx hs pl pu ⟨_, _, rfl, hr.sq, zbs q (ziW rl lo hi)⟩
 | tup rp hr rl =>
  have he : (if _ then none else some _ : Option R0) = _ := he
  split at he
  · cases he
  · rename_i hw
    cases he
    exact zop pins s σ H _ v vl vu lo hi sl Q I rx hs pl pu ⟨_, _, rfl, hr, by rw [rl.length]; exact hw, zhh ht q (ziW rl lo hi)⟩
 | _ => cases he
theorem Yo {a : Expr} {lo hi : Option Expr} {fa : EF} {fl fh : OF} {pos p2 : Pos} (ha : AE X kd a fa) (hl : AO X kd lo fl) (hh : AO X kd hi fh) : AE X kd (.Subscript a (.Slice lo hi none p2) pos) (fSl fa fl fh slP) := by with_unfolding_all exact (xN (zlz zrM ha hl hh) λ σ H Q h => by
 obtain ⟨F, B, ad, as, r, as', R, e, q⟩ := h
 obtain ⟨⟨p, as1⟩, h1, e⟩ := bS_ (show (fa as).bind _ = _ from e)
 obtain ⟨⟨l, as2⟩, h2, e⟩ := bS_ e
 obtain ⟨⟨u, as3⟩, h3, e⟩ := bS_ e
 obtain ⟨⟨d, lv⟩, h4, e⟩ := bS_ e
 obtain ⟨r', h5, e⟩ := bS_ e
 obtain ⟨z, h6, e⟩ := bS_ e
 cases e
 refine ZV R h1 λ v ad1 H1 R1 rv1 g1 => ⟨F, B, ad1, as1, l, as2, R1, h2, λ ad2 H2 R2 g2 => ⟨F, B, ad2, as2, u, _, R2, h3, λ ad3 H3 R3 g3 => ?_⟩⟩
 exact ⟨_, d, r', R3.tr _, vg.vw R3 ((rv1.grow g2).grow g3) h4, h5, VG R3 h6 λ w T' H' R' rv' g' => q w T' ad3 H' R' rv' (((g1.trans g2).trans g3).trans g')⟩)
def tyD : D -> String
 | .non => "NoneType" | .bl _ => "bool" | .int _ => "int" | .str _ => "str" | .tup _ => "tuple" | .lst _ => "list" | .dct _ => "dict" | _ => ""
def zgp : D -> Bool
 | .cl _ => false | .ob _ _ _ => false | .dt _ _ => false | _ => true
def zdE (t c : String) : Bool := t == c || (t == "bool" && c == "int")
def zaC (c : String) : Bool := c == "int" || c == "bool" || c == "str" || c == "list" || c == "tuple" || c == "dict"
theorem zoG (K : zC) (d : D) (c : String) (h : zaC c = true) (ho : zgp d = true) : PySem.W.kitOne K (.type (tyD d)) (.type c) = some (zdE (tyD d) c) := by
 have : c = "int" \/ c = "bool" \/ c = "str" \/ c = "list" \/ c = "tuple" \/ c = "dict" := by
  unfold zaC at h
  simp only [Bool.or_eq_true, beq_iff_eq] at h
  rcases h with ((((h | h) | h) | h) | h) | h <;> simp [h]
 rcases this with rfl | rfl | rfl | rfl | rfl | rfl <;> cases d <;> first | rfl | cases ho
theorem zoS (hk : KdOk X kd) {pins : List (Addr × Obj)} {σ : St} {H : Hp} {s : Shared} {O : Addr -> Prop} {A : Around} {E : Value -> Shared -> Prop} {Q : Value -> Shared -> Prop} {c : String} {x : V} {u : Value} {d : D} (I : Inv X pins σ H s) (rx : RelV x u) (vx : Vw X.K kd O H x d) (hc : zaC c = true) (ho : zgp d = true)
 (h : ∀ tk, Q (.bool (zdE (tyD d) c)) { s with toks := tk }) : wpAny (model X.prog X.w) A (call (.builtin "isinstance") [u, .type c]) Q E s := by
 have e := zoG X.K d c hc ho
 cases vx with
 | non => cases rx; exact PySem.W.kia_one PySem.W.kitx_none I.kIn True.intro e (λ z => nomatch z) h
 | bl y => cases rx; exact PySem.W.kia_one PySem.W.kitx_bool I.kIn True.intro e (λ z => nomatch z) h
 | int i => obtain ⟨t, rfl⟩ := rx; exact PySem.W.kia_one PySem.W.kitx_int I.kIn True.intro e (λ z => nomatch z) h
 | str y => obtain ⟨t, rfl⟩ := rx; exact PySem.W.kia_one PySem.W.kitx_str I.kIn True.intro e (λ z => nomatch z) h
 | lst hr rl =>
  cases rx
  obtain ⟨its, rv, ⟨o, n, h1, h2, _⟩, _⟩ := I.list hr.sq
  exact PySem.W.kia_one PySem.W.kitx_list I.kIn ⟨o, h1, h2⟩ e (λ z => nomatch z) h
 | tup rp hr rl =>
  cases rx
  obtain ⟨its, rv, ⟨o, h1, h2, _⟩, _⟩ := I.tuple hr
  exact PySem.W.kia_one PySem.W.kitx_tuple I.kIn ⟨o, h1, h2⟩ e (λ z => nomatch z) h
 | dct hr rm =>
  cases rx
  obtain ⟨z, hd, vs, rel, ⟨o, es, ep, h1, h2, _⟩⟩ := zeC I hk hr
  exact PySem.W.kia_one PySem.W.kitx_dict I.kIn ⟨o, h1, h2.1⟩ e (λ z => nomatch z) h
 | cl => cases ho
 | ob => cases ho
 | dt => cases ho
end
def Wx : List D -> Option (List Int)
 | [] => some []
 | .int i :: r => (Wx r).bind λ s => some (i :: s)
 | _ :: _ => none
def zof : List Int -> Int
 | [] => 0
 | x :: r => r.foldl (λ a b => if a < b then b else a) x
theorem zeJ : ∀ (r : List Int) (x : Int), r.foldl (λ a b => if a < b then b else a) x ∈ x :: r /\ ∀ a ∈ x :: r, a <= r.foldl (λ a b => if a < b then b else a) x
 | [], x => ⟨by simp, by simp⟩
 | y :: r, x => by
  rw [List.foldl_cons]
  obtain ⟨h1, h2⟩ := zeJ r (if x < y then y else x)
  refine ⟨?_, λ a ha => ?_⟩
  · rcases zS.mp h1 with e | e
    · rw [e]; split <;> simp
    · exact zzA _ (zzA _ e)
  · have h3 := h2 _ zzC
    rcases zS.mp ha with e | e
    · subst e; exact Int.le_trans (by split <;> omega) h3
    · rcases zS.mp e with e | e
      · subst e; exact Int.le_trans (by split <;> omega) h3
      · exact h2 a (zzA _ e)
theorem znn {ns : List Int} {M : Int} (h1 : M ∈ ns) (h2 : ∀ a ∈ ns, a <= M) : zof ns = M := by
 cases ns with
 | nil => simp at h1
 | cons x r =>
  obtain ⟨k1, k2⟩ := zeJ r x
  have a1 := k2 M h1
  have a2 := h2 _ k1
  show r.foldl _ x = M
  omega
def on1 (f : D -> Option R0) (ds : List D) : Option R0 := match ds with
 | [x] => f x
 | _ => none
theorem zfI {K : zC} {kd : KD} {O : Addr -> Prop} {H : Hp} {f : D -> Option R0} {xs : List V} {ds : List D} {r : R0} (vl : VwL K kd O H xs ds) (h : on1 f ds = some r) : ∃ x d, xs = [x] /\ Vw K kd O H x d /\ f d = some r := by
 cases vl with
 | nil => cases h
 | cons a b =>
  cases b with
  | nil => exact ⟨_, _, rfl, a, h⟩
  | cons _ _ => cases h
def zrQ : D -> Option R0
 | .lst ds => some (.im (.int ds.length))
 | .tup ds => some (.im (.int ds.length))
 | .str x => if x.length <= sizeLine then some (.im (.int x.length)) else none
 | .dct kvs => some (.im (.int kvs.length))
 | _ => none
def vU : List D -> Option R0 := on1 zrQ
def zru : D -> Option R0
 | .int i => some (.im (.int i))
 | .bl b => some (.im (.int (if b then 1 else 0)))
 | _ => none
def zrO : D -> Option R0
 | .lst ds => some (.fl ds)
 | .tup ds => some (.fl ds)
 | _ => none
def lstP : List D -> Option R0 := on1 zrO
def zri (ds : List D) : Option R0 := match ds with
 | [x, y] => onI (λ i j => some (.im (.int (if j > i then j else i)))) x y
 | [x] => (asL x).bind λ ds => (Wx ds).bind λ ns => if 0 < ns.length then some (.im (.int (zof ns))) else none
 | _ => none
theorem zma {K : zC} {kd : KD} {O : Addr -> Prop} {H : Hp} {xs : List V} {d : D} (h : VwL K kd O H xs [d]) : ∃ x, xs = [x] /\ Vw K kd O H x d := by
 cases h with
 | cons a b => cases b; exact ⟨_, rfl, a⟩
theorem zkl {K : zC} {kd : KD} {O : Addr -> Prop} {H : Hp} {vs : List V} {ds : List D} {ns : List Int} (h : RpL K kd O H vs ds) (e : Wx ds = some ns) : vs = ns.map V.int :=
 RpL.ind (P := λ vs ds => ∀ ns, Wx ds = some ns -> vs = ns.map V.int) (λ ns e => by cases e; rfl) (λ {v d vs ds} a _ ih ns e => by
  cases d with
  | int i =>
   obtain ⟨s, h1, h2⟩ := bS_ (show (Wx _).bind _ = _ from e)
   cases h2
   cases a
   rw [ih _ h1]
   rfl
  | _ => cases e) h ns e
section
variable {X : Cx} {kd : KD}
theorem wA (hk : KdOk X kd) : CallD X kd (.builtin "len") vU := by
 intro pins s σ H xs us Q I r h
 obtain ⟨O, ds, z, ht, vl, he, q⟩ := h
 obtain ⟨x, d, rfl, vx, he⟩ := zfI vl he
 cases vx with
 | lst hr rl => cases he; exact zaA pins s σ H _ us Q I r ⟨_, _, rfl, .inl hr.sq, by rw [rl.length]; exact yr q (.int _)⟩
 | tup rp hr rl => cases he; exact zaA pins s σ H _ us Q I r ⟨_, _, rfl, .inr hr, by rw [rl.length]; exact yr q (.int _)⟩
 | str y =>
  obtain ⟨c, rfl⟩ := zQ he
  exact zfw pins s σ H _ us Q I r ⟨_, rfl, c, yr q (.int _)⟩
 | dct hr rm =>
  cases he
  obtain ⟨u, rfl, ru⟩ := vals1 r
  cases ru
  obtain ⟨z, hd, vs, rel, dd⟩ := zeC I hk hr
  refine call_len_dict hd dd (by rw [<- rel.length]; rw [sizeLine_eq] at z; omega) ?_
  rw [<- rel.length, rm.length]
  exact ⟨.int _, H, I.tok _, ⟨_, rfl⟩, yr q (.int _)⟩
 | _ => cases he
theorem Xj : CallD X kd (.type "list") lstP := by
 intro pins s σ H xs us Q I r h
 obtain ⟨O, ds, z, ht, vl, he, q⟩ := h
 obtain ⟨x, d, rfl, vx, he⟩ := zfI vl he
 cases vx with
 | lst hr rl => cases he; exact zaS pins s σ H _ us Q I r ⟨_, _, rfl, .inl hr.sq, zbs q rl⟩
 | tup rp hr rl => cases he; exact zaS pins s σ H _ us Q I r ⟨_, _, rfl, .inr hr, zbs q rl⟩
 | _ => cases he
theorem zjz (hc : X.calm = true) : CallD X kd (.builtin "max") zri := by
 intro pins s σ H xs us Q I r h
 obtain ⟨O, ds, z, ht, vl, he, q⟩ := h
 cases vl with
 | nil => cases he
 | cons vx vl =>
  cases vl with
  | nil =>
   obtain ⟨ds, h0, he⟩ := bS_ (show (asL _).bind _ = _ from he)
   cases zfv h0
   obtain ⟨ns, h1, he⟩ := bS_ he
   obtain ⟨c, rfl⟩ := zQ he
   cases vx with
   | lst hr rl =>
    obtain ⟨u, rfl, ru⟩ := vals1 r
    cases ru
    obtain ⟨its, rv, p, _⟩ := I.list hr.sq
    rw [zkl rl h1] at rv
    have hi := intsAre_of rv
    obtain ⟨ys, e⟩ := hi.allInts.items
    have hns : ns = ys.toList.map (·.1) := by rw [<- hi.numsOf, <- nums_intItems, <- e]
    have hsz : 0 < ys.size := by
     have h3 := c; rw [hns, zD, Array.length_toList] at h3; exact h3
    have hl := p.isList
    rw [e] at hl
    refine max_intList (I.ok.hd hc) hl hsz λ v h' tk hv kp => ?_
    obtain ⟨t, rfl⟩ := intItems_at hv
    obtain ⟨k1, k2⟩ := argBest_gt (numAt ys) (ys.size - 1)
    refine ⟨.int (zof ns), H, I.kept kp, ⟨t, ?_⟩, yr q (.int _)⟩
    congr 1
    refine (znn ?_ λ a ha => ?_).symm
    · rw [hns, numAt_eq]
      have hlt : argBest (λ i j => decide (numAt ys i > numAt ys j)) (ys.size - 1) < (ys.toList.map (·.1)).length := by rw [zD, Array.length_toList]; omega
      rw [List.getD_eq_getElem?_getD, zzB hlt]
      exact List.getElem_mem hlt
    · rw [hns] at ha
      obtain ⟨j, hj, rfl⟩ := List.getElem_of_mem ha
      have hj' := hj
      rw [zD, Array.length_toList] at hj
      have := k2 j (by omega)
      rw [numAt_eq ys j, List.getD_eq_getElem?_getD, zzB hj'] at this
      exact this
  | cons vy vl =>
   cases vl with
   | nil =>
    obtain ⟨i, j, rfl, rfl, he⟩ := YZ vx vy he
    cases he
    exact zjj hc pins s σ H _ us Q I r ⟨_, _, rfl, yr q (.int _)⟩
   | cons _ _ => cases he
end
def vC (env : Env) : List (Str × NameKind) -> List (Str × Addr) -> List (Str × Addr)
 | [], cs => cs
 | (n, k) :: r, cs => vC env r (if k == .free then ((n, (env.cells.lookup n).getD 0) :: cs) else cs)
theorem V3 {scope : Scope} {env : Env} (h : ∀ x ∈ scope.names, x.2 = .free -> ∃ c, env.cells.lookup x.1 = some c) : closureFor scope env = pure (vC env scope.names []) := by
 have go : ∀ (names : List (Str × NameKind)) (cs : List (Str × Addr)) (f : Str × NameKind -> List (Str × Addr) -> Sem (ForInStep (List (Str × Addr)))),
  (∀ name kind cs, f (name, kind) cs = if kind == .free then (do let a <- cellOf env name; pure (.yield ((name, a) :: cs))) else pure (.yield cs)) ->
  (∀ x ∈ names, x.2 = .free -> ∃ c, env.cells.lookup x.1 = some c) -> (forIn names cs f : Sem (List (Str × Addr))) = pure (vC env names cs) := by
  intro names
  induction names with
  | nil => intro cs f _ _; rfl
  | cons x r ih =>
   intro cs f hf hx
   obtain ⟨n, k⟩ := x
   rw [List.forIn_cons, hf]
   unfold vC
   by_cases hk : (k == .free) = true
   · obtain ⟨c, hc⟩ := hx (n, k) zzC (by simpa using hk)
     rw [if_pos hk, if_pos hk]
     have e : cellOf env n = pure c := by unfold cellOf; rw [hc]
     rw [e, hc]
     exact ih _ f hf λ y hy => hx y (zzA _ hy)
   · rw [if_neg hk, if_neg hk]
     exact ih _ f hf λ y hy => hx y (zzA _ hy)
 simp only [closureFor]
 rw [go scope.names [] _ (λ name kind cs => ?_) h]
 · rfl
 · rfl
theorem zep {env : Env} : ∀ (names : List (Str × NameKind)) (cs : List (Str × Addr)) (p : Str × Addr), p ∈ vC env names cs -> p ∈ cs \/ ((p.1, NameKind.free) ∈ names /\ p.2 = (env.cells.lookup p.1).getD 0)
 | [], _, _, h => .inl h
 | (n, k) :: r, cs, p, h => by
  unfold vC at h
  rcases zep r _ p h with h | h
  · by_cases hk : (k == .free) = true
    · rw [if_pos hk] at h
      rcases zS.mp h with e | h
      · subst e
        have : k = .free := by simpa using hk
        subst this
        exact .inr ⟨zzC, rfl⟩
      · exact .inl h
    · rw [if_neg hk] at h; exact .inl h
  · exact .inr ⟨zzA _ h.1, h.2⟩
theorem zdN {env : Env} : ∀ (names : List (Str × NameKind)) (cs : List (Str × Addr)) (p : Str × Addr), p ∈ cs -> p ∈ vC env names cs
 | [], _, _, h => h
 | (n, k) :: r, cs, p, h => by
  unfold vC
  refine zdN r _ p ?_
  split
  · exact zzA _ h
  · exact h
theorem zeq {env : Env} : ∀ (names : List (Str × NameKind)) (cs : List (Str × Addr)) (x : Str), (x, NameKind.free) ∈ names -> (x, (env.cells.lookup x).getD 0) ∈ vC env names cs
 | (n, k) :: r, cs, x, h => by
  unfold vC
  rcases zS.mp h with e | h
  · cases e
    exact zdN r _ _ (by simp)
  · exact zeq r _ x h
theorem YM {α : Type} {x : Str} {a : α} : ∀ {l : List (Str × α)}, (∀ p ∈ l, p.1 = x -> p.2 = a) -> (∃ b, (x, b) ∈ l) -> l.lookup x = some a
 | [], _, h => by obtain ⟨_, h⟩ := h; cases h
 | (k, v) :: r, u, h => by
  rw [List.lookup_cons]
  cases hb : x == k with
  | true =>
   have := u (k, v) zzC (beq_iff_eq.mp hb).symm
   exact congrArg some this
  | false =>
   refine YM (λ p hp => u p (zzA _ hp)) ?_
   obtain ⟨b, h⟩ := h
   rcases zS.mp h with e | h
   · cases e; simp at hb
   · exact ⟨b, h⟩
theorem zbR : ∀ (names : List (Str × NameKind)) (h : Heap) (acc : List (Str × Addr)) (p : Str × Addr), p ∈ cellsFrom h.objs.size names acc ->
 p ∈ acc \/ ((p.1, NameKind.cell) ∈ names /\ (pushCells h names).IsCell p.2 none /\ h.objs.size <= p.2)
 | [], _, _, _, m => .inl m
 | (n, k) :: r, h, acc, p, m => by
  unfold cellsFrom at m
  unfold pushCells
  split at m
  · rename_i hk
    rw [if_pos hk]
    have e : (h.push { cls := .type "cell", data := .cell none }).objs.size = h.objs.size + 1 := Heap.size_push ..
    rw [<- e] at m
    rcases zbR r _ _ p m with m | ⟨m1, m2, m3⟩
    · rcases zS.mp m with e2 | m
      · subst e2
        have : k = .cell := by simpa using hk
        subst this
        refine .inr ⟨zzC, ?_, zzK _⟩
        have z : (h.push { cls := .type "cell", data := .cell none }).IsCell h.objs.size none := ⟨_, Heap.get?_push_size _ rfl, rfl⟩
        exact z.keeps (pushCells_keeps r _)
      · exact .inl m
    · exact .inr ⟨zzA _ m1, m2, by rw [e] at m3; omega⟩
  · rename_i hk
    rw [if_neg hk]
    rcases zbR r h acc p m with m | ⟨m1, m2, m3⟩
    · exact .inl m
    · exact .inr ⟨zzA _ m1, m2, m3⟩
theorem Xv : ∀ (names : List (Str × NameKind)) (n : Nat) (acc : List (Str × Addr)) (p : Str × Addr), p ∈ acc -> p ∈ cellsFrom n names acc
 | [], _, _, _, m => m
 | (_, k) :: r, n, acc, p, m => by
  unfold cellsFrom
  split
  · exact Xv r _ _ p (zzA _ m)
  · exact Xv r _ _ p m
theorem zbz : ∀ (names : List (Str × NameKind)) (n : Nat) (acc : List (Str × Addr)) (x : Str), (x, NameKind.cell) ∈ names -> ∃ c, (x, c) ∈ cellsFrom n names acc
 | (y, k) :: r, n, acc, x, m => by
  unfold cellsFrom
  rcases zS.mp m with e | m
  · cases e
    rw [if_pos (by decide)]
    exact ⟨n, Xv r _ _ _ zzC⟩
  · split
    · exact zbz r _ _ x m
    · exact zbz r _ _ x m
theorem zbI : ∀ (names : List (Str × NameKind)) (n : Nat) (acc : List (Str × Addr)), (∀ p ∈ acc, p.2 < n) -> (∀ p ∈ acc, ∀ q ∈ acc, p.2 = q.2 -> p.1 = q.1) -> ∀ p ∈ cellsFrom n names acc, ∀ q ∈ cellsFrom n names acc, p.2 = q.2 -> p.1 = q.1
 | [], _, _, _, h => h
 | (y, k) :: r, n, acc, lt, h => by
  unfold cellsFrom
  split
  · refine zbI r (n + 1) _ (λ p m => ?_) (λ p m q m' e => ?_)
    · rcases zS.mp m with z | m
      · subst z; exact Nat.lt_succ_self _
      · exact Nat.lt_succ_of_lt (lt p m)
    · rcases zS.mp m with z | m
      · rcases zS.mp m' with z' | m'
        · rw [z, z']
        · subst z; have := lt q m'; rw [<- e] at this; exact absurd this (Nat.lt_irrefl _)
      · rcases zS.mp m' with z' | m'
        · subst z'; have := lt p m; rw [e] at this; exact absurd this (Nat.lt_irrefl _)
        · exact h p m q m' e
  · exact zbI r n acc lt h
section
variable {M : Model} {A : Around} {E : Value -> Shared -> Prop} {s : Shared}
def Vg (scope : Scope) (env : Env) (cl : List (Str × Addr)) (L : Addr) : Env :=
 { scope := relabel scope env, locals := L, globals := env.globals, cells := cellsFrom (L + 1) scope.names cl, qual := env.qual, func := none, code := env.code, frame := env.frame, builtins := env.builtins }
theorem zfO {scope : Scope} {env : Env} {cl : List (Str × Addr)} {Q : Env -> Shared -> Prop}
 (h : ∀ h' env', { env' with scope := relabel scope env } = Vg scope env cl s.heap.objs.size -> env'.locals = s.heap.objs.size -> (∀ b o, s.heap.get? b = some o -> h'.get? b = some o) -> h'.Ns s.heap.objs.size (λ _ => none) ->
  (∀ p ∈ cellsFrom (s.heap.objs.size + 1) scope.names cl, p ∈ cl \/ ((p.1, NameKind.cell) ∈ scope.names /\ h'.IsCell p.2 none /\ s.heap.objs.size + 1 <= p.2)) -> Q env' { s with heap := h' }) :
 wpAny M A (newFunctionEnv scope env.globals cl [] env.qual none .none (some env)) Q E s := by
 simp only [newFunctionEnv, Option.isSome_some, if_true]
 refine wpAny_bind (wpAny_alloc ?_)
 refine wpAny_bind (wpAny_layCells _ (λ name kind cells => by cases hkc : kind == NameKind.cell <;> simp [hkc]) _ _ _ _ ?_)
 have e : (s.heap.push { cls := .type "dict", data := .dict #[] }).objs.size = s.heap.objs.size + 1 := Heap.size_push ..
 refine wpAny_bind (wpAny_pure (wpAny_pure (h _ _ ?_ rfl (λ b o q => pushCells_keeps _ _ b o (Heap.get?_push_of_some _ q)) ((Heap.Ns.new s.heap (.type "dict")).keeps (pushCells_keeps _ _)) λ p m => ?_)))
 · unfold Vg
   rw [<- e]
 · rw [<- e] at m
   rcases zbR _ _ _ p m with m | ⟨m1, m2, m3⟩
   · exact .inl m
   · exact .inr ⟨m1, m2, by rw [e] at m3; exact m3⟩
end
abbrev wX (X : Cx) (N : List Str) (scope : Scope) (cl : List (Str × Addr)) (s : Shared) (H : Hp) (fp : List Addr) : Cx :=
 { X with N := N, s₀ := s, H₀ := H, env := Vg scope X.env cl (s.heap.objs.size + 1), outer := X.stack, ex := fp, fn := λ x => scope.names.lookup x == some .cell, pn := [], xe := λ _ _ => False }
def zqU (σ : St) : Option Nat -> Option V
 | none => none
 | some j => (σ[j]?).getD none
def v7 (cap : List (Option Nat)) (σ : St) : St := cap.map (zqU σ)
def vB (N XN : List Str) (names : List (Str × NameKind)) (envNames : List (Str × NameKind)) (cap : List (Option Nat)) : Bool :=
 N.length == cap.length && (N.zip cap).all (λ p => match p.2 with | none => true | some j => XN[j]? == some p.1 && names.contains (p.1, NameKind.free)) &&
 names.all (λ p => p.2 != .free || envNames.lookup p.1 == some .cell || envNames.lookup p.1 == some .free) && decide (names.map (·.1)).Nodup
def PTs (X : Cx) (ifs : List Expr) (t : TT) : Prop :=
 ∀ (pins : List (Addr × Obj)) (s : Shared) (σ : St) (H : Hp) (Q : Bool -> Hp -> Prop), Inv X pins σ H s -> t σ H Q ->
  wpAny (model X.prog X.w) X.A (forIn ifs true λ c r => if r = true then do let ok <- isTrue c X.env (eval c X.env); pure (ForInStep.yield ok) else pure (ForInStep.yield r)) (TP X pins σ Q) X.xe s
theorem zmm {X : Cx} : PTs X [] (λ _ H Q => Q true H) := λ pins s σ H Q I h => wpAny_tests_nil ⟨H, I, h⟩
theorem zmh {X : Cx} {c : Expr} {t : TT} (h : PT X c t) : PTs X [c] t := λ pins s σ H Q I q => wpAny_tests_one (h pins s σ H Q I q)
def zkI (wi : TI) (cap : List (Option Nat)) (g : TG) (tt : TT) (te : TE) : TE := λ σ H Q => wi σ H λ J H1 => ∃ W : Nat -> Nat -> List V -> Hp -> Prop, (∃ m, W 0 m [] H1) /\ ∀ i m ys H, W i m ys H -> ys.length <= sizeLine /\
 ((J.stop i H /\ ∀ p, H p = none -> Q (.ref p) (upd H p (.lst ys))) \/ (J.go i H /\ ∀ x H', J.yld i H x H' -> g x (v7 cap σ) H' λ σ2 H2 => (∀ (j : Nat) v, (v7 cap σ)[j]? = some (some v) -> σ2[j]? = some (some v)) /\
   tt σ2 H2 λ b H3 => if b = true then ys.length < sizeLine /\ te σ2 H3 λ y H4 => ∃ m', m' < m /\ W (i + 1) m' (ys ++ [y]) H4 else ∃ m', m' < m /\ W (i + 1) m' ys H3))
section
variable {prog : Program} {w : World} {A : Around} {E : Value -> Shared -> Prop} {R : Result -> Shared -> Prop} {s : Shared}
theorem zfq {elt target iter : Expr} {ifs : List Expr} {scope : Scope} {pos : Pos} {it acc : Value} {env : Env} (I : Nat -> Shared -> Prop)
 (turn : ∀ n s (E : Value -> Shared -> Prop), I n s -> wpAny (model prog w) A (pyNext it) (λ r s₁ => match r with
  | none => R (.ok .next) s₁
  | some v => wpAny (model prog w) A (letOwnedTupleGo target it v) (λ _ s₁ => wpAny (model prog w) A (assign target env v) (λ _ s₂ =>
   wpAny (model prog w) A (forIn ifs true λ c r => if r = true then do let ok <- isTrue c env (eval c env); pure (ForInStep.yield ok) else pure (ForInStep.yield r)) (λ ok s₃ =>
    if ok = true then wpAny (model prog w) A (eval elt env) (λ x s₄ =>
     wpAny (model prog w) A (call (.builtin "list.append") [acc, x]) (λ _ s₅ => ∃ m, m < n /\ I m s₅) E s₄) E s₃
    else ∃ m, m < n /\ I m s₃) E s₂) E s₁) E s₁) E s)
 (n : Nat) (h : I n s) :
 codeAny (model prog w) A (.compLoop (.ListComp elt [⟨target, iter, ifs, 0⟩] scope pos) 0 it acc env) R s := by
 refine codeAny_loop rfl I (λ n s hI => ?_) n h
 show wpAny _ A ((compTurn (.ListComp elt [⟨target, iter, ifs, 0⟩] scope pos) 0 it acc env).onRaise (λ x => do noteFrame x env; theTreesLotGoes x)) _ _ s
 refine wpAny_noted ?_
 rw [compTurn_list]
 refine wpAny_bind (wpAny_standAt (wpAny_bind (wpAny_mono (turn n s _ hI) (λ r s₁ h₁ => ?_) λ _ _ h' => h')))
 cases r with
 | none => exact wpAny_pure h₁
 | some v =>
  refine wpAny_bind (wpAny_mono h₁ (λ _ s₁ h₁ => ?_) λ _ _ h' => h')
  refine wpAny_bind (wpAny_mono h₁ (λ _ s₂ h₂ => wpAny_bind (wpAny_mono h₂ (λ ok s₃ h₃ => ?_) λ _ _ h' => h')) λ _ _ h' => h')
  cases ok with
  | false => exact wpAny_pure ⟨rfl, h₃⟩
  | true =>
   exact wpAny_bind (wpAny_bind (wpAny_mono h₃ (λ x s₄ h₄ => wpAny_bind (wpAny_mono h₄ (λ _ s₅ h₅ => wpAny_pure (wpAny_pure ⟨rfl, h₅⟩)) λ _ _ h' => h')) λ _ _ h' => h'))
end
structure CapOk (N XN : List Str) (names : List (Str × NameKind)) (envNames : List (Str × NameKind)) (cap : List (Option Nat)) : Prop where
 len : N.length = cap.length
 at_ : ∀ (i : Nat) x (j : Nat), N[i]? = some x -> cap[i]? = some (some j) -> XN[j]? = some x /\ (x, NameKind.free) ∈ names
 fr : ∀ p ∈ names, p.2 = .free -> envNames.lookup p.1 = some .cell \/ envNames.lookup p.1 = some .free
 nd : (names.map (·.1)).Nodup
theorem zgB {N XN : List Str} {names envNames : List (Str × NameKind)} {cap : List (Option Nat)} (h : vB N XN names envNames cap = true) : CapOk N XN names envNames cap := by
 unfold vB at h
 simp only [Bool.and_eq_true, beq_iff_eq, List.all_eq_true, decide_eq_true_eq] at h
 obtain ⟨⟨⟨h1, h2⟩, h3⟩, h4⟩ := h
 refine ⟨h1, λ i x j e1 e2 => ?_, λ p hp e => ?_, h4⟩
 · have m : (x, some j) ∈ N.zip cap := List.mem_of_getElem? (i := i) (by rw [List.getElem?_zip_eq_some]; exact ⟨e1, e2⟩)
   have := h2 _ m
   simp only [Bool.and_eq_true, beq_iff_eq] at this
   exact ⟨this.1, by simpa using this.2⟩
 · have := h3 p hp
   rw [e] at this
   simpa using this
theorem zeR {names : List (Str × NameKind)} (h : (names.map (·.1)).Nodup) {x : Str} {k k' : NameKind} (m : (x, k) ∈ names) (m' : (x, k') ∈ names) : k = k' := by
 induction names with
 | nil => cases m
 | cons p r ih =>
  obtain ⟨h1, h2⟩ := zzT.mp (show (p.1 :: r.map (·.1)).Nodup from h)
  rcases zS.mp m with e | m
  · rcases zS.mp m' with e' | m'
    · rw [<- e] at e'; cases e'; rfl
    · exact absurd (List.mem_map.mpr ⟨_, m', by rw [<- e]⟩) h1
  · rcases zS.mp m' with e' | m'
    · exact absurd (List.mem_map.mpr ⟨_, m, by rw [<- e']⟩) h1
    · exact ih h2 m m'
theorem zbS {names : List (Str × NameKind)} (h : (names.map (·.1)).Nodup) {x : Str} {k : NameKind} (m : (x, k) ∈ names) : names.lookup x = some k :=
 YM (λ p hp e => by obtain ⟨y, k'⟩ := p; cases (show y = x from e); exact zeR h hp m) ⟨k, m⟩
theorem W0 {env : Env} {scope : Scope} (x : Str) : (relabel scope env).names.lookup x = (scope.names.lookup x).map λ k => if (k == .free && env.scope.kind == .function && env.kindOf x == some .cell) = true then NameKind.cell else k := by
 unfold relabel
 show (scope.names.map _).lookup x = _
 generalize scope.names = names
 induction names with
 | nil => rfl
 | cons p r ih =>
  obtain ⟨n, k⟩ := p
  rw [List.map_cons, List.lookup_cons (k := n) (as := r)]
  cases hb : x == n with
  | true =>
   have e : x = n := beq_iff_eq.mp hb
   subst e
   show List.lookup x ((if (k == NameKind.free && env.scope.kind == .function && env.kindOf x == some .cell) = true then (x, NameKind.cell) else (x, k)) :: _) = _
   show _ = some (if (k == NameKind.free && env.scope.kind == .function && env.kindOf x == some .cell) = true then NameKind.cell else k)
   split
   · rw [List.lookup_cons, hb]
   · rw [List.lookup_cons, hb]
  | false =>
   show List.lookup x ((if (k == NameKind.free && env.scope.kind == .function && env.kindOf n == some .cell) = true then (n, NameKind.cell) else (n, k)) :: _) = _
   split
   · rw [List.lookup_cons, hb]; exact ih
   · rw [List.lookup_cons, hb]; exact ih
theorem zhL {X : Cx} {pins : List (Addr × Obj)} {σ : St} {H : Hp} {s : Shared} {N : List Str} {scope : Scope} {cap : List (Option Nat)} {fp : List Addr} {h' : Heap} (I : Inv X pins σ H s) (C : CapOk N X.N scope.names X.env.scope.names cap) (hk : scope.kind = .function)
 (hf : ∀ b ∈ fp, zej X pins H b) (ho : ∀ b ∈ fp, ∃ o, s.heap.get? b = some o)
 (old : ∀ b o, s.heap.get? b = some o -> h'.get? b = some o) (ns : h'.Ns (s.heap.objs.size + 1) (λ _ => none))
 (hc : ∀ p ∈ cellsFrom (s.heap.objs.size + 1 + 1) scope.names (vC X.env scope.names []), p ∈ vC X.env scope.names [] \/ ((p.1, NameKind.cell) ∈ scope.names /\ h'.IsCell p.2 none /\ s.heap.objs.size + 1 + 1 <= p.2)) :
 Inv (wX X N scope (vC X.env scope.names []) s H fp) [] (v7 cap σ) H { s with heap := h' } := by
 have has : ∀ x, (x, NameKind.free) ∈ scope.names -> ∃ c, X.env.cells.lookup x = some c := λ x m => I.ok.has x (C.fr _ m rfl)
 have clo : ∀ p ∈ vC X.env scope.names [], X.env.cells.lookup p.1 = some p.2 /\ (p.1, NameKind.free) ∈ scope.names := λ p m => by
  rcases zep _ _ p m with z | ⟨z1, z2⟩
  · cases z
  · obtain ⟨c, e⟩ := has _ z1
    rw [e] at z2
    exact ⟨by rw [e]; exact congrArg some z2.symm, z1⟩
 have look : ∀ x c, (cellsFrom (s.heap.objs.size + 1 + 1) scope.names (vC X.env scope.names [])).lookup x = some c -> (X.env.cells.lookup x = some c /\ (x, NameKind.free) ∈ scope.names) \/ ((x, NameKind.cell) ∈ scope.names /\ h'.IsCell c none /\ s.heap.objs.size + 1 + 1 <= c) := λ x c e => by
  rcases hc _ (mem_of_lookup e) with m | m
  · exact .inl (clo _ m)
  · exact .inr m
 have lt : ∀ x c, X.env.cells.lookup x = some c -> c < s.heap.objs.size := λ x c e => by obtain ⟨v, z⟩ := I.cell x c e; exact z.lt
 have lookF : ∀ x, (x, NameKind.free) ∈ scope.names -> ∃ c, (cellsFrom (s.heap.objs.size + 1 + 1) scope.names (vC X.env scope.names [])).lookup x = some c /\ X.env.cells.lookup x = some c := λ x m => by
  obtain ⟨c, e⟩ := has x m
  have m1 := Xv scope.names (s.heap.objs.size + 1 + 1) _ _ (zeq (env := X.env) scope.names [] x m)
  refine ⟨c, YM (λ p hp ep => ?_) ⟨_, m1⟩, e⟩
  rcases hc p hp with z | z
  · have := (clo p z).1
    rw [ep, e] at this
    exact (Option.some.inj this).symm
  · rw [ep] at z
    exact absurd (zeR C.nd z.1 m) (by decide)
 have kinds : ∀ x, ((relabel scope X.env).names.lookup x = some .cell \/ (relabel scope X.env).names.lookup x = some .free) -> (x, NameKind.free) ∈ scope.names \/ (x, NameKind.cell) ∈ scope.names := λ x h => by
  rw [W0] at h
  cases e : scope.names.lookup x with
  | none => rw [e] at h; rcases h with h | h <;> cases h
  | some k =>
   have m := mem_of_lookup e
   cases k with
   | free => exact .inl m
   | cell => exact .inr m
   | _ => rw [e] at h; rcases h with h | h <;> (simp at h)
 have lsz : s.heap.objs.size + 1 < h'.objs.size := ns.lt
 refine ⟨⟨I.ok.mod, hk, I.ok.glob, I.ok.blt, Nat.le_succ _, ?_, ?_, ?_, I.ok.hd, I.ok.frames, .inl rfl, ?_, I.bs, zzL I.ok.bsz I.sz, ?_, ?_, I.stack, I.stkFree⟩, rfl, I.bare, (Un.kept old), ⟨_, ns, ?_⟩, ?_, I.hok.fresh (Nat.le_succ _), ?_, (λ _ z => nomatch z), I.hok.kept old, ?_⟩
 · intro x y c e1 e2
   refine zbI scope.names (s.heap.objs.size + 1 + 1) _ (λ p m => ?_) (λ p m q m' e => ?_) (x, c) (mem_of_lookup e1) (y, c) (mem_of_lookup e2) rfl
   · exact Nat.lt_succ_of_lt (Nat.lt_succ_of_lt (lt _ _ (clo p m).1))
   · refine I.ok.inj _ _ _ (clo p m).1 ?_
     rw [e]; exact (clo q m').1
 · intro x h
   rcases kinds x h with m | m
   · obtain ⟨c, e, _⟩ := lookF x m; exact ⟨c, e⟩
   · obtain ⟨c, e⟩ := zbz scope.names (s.heap.objs.size + 1 + 1) (vC X.env scope.names []) x m
     cases q : (cellsFrom (s.heap.objs.size + 1 + 1) scope.names (vC X.env scope.names [])).lookup x with
     | some c' => exact ⟨c', q⟩
     | none =>
      exfalso
      have := List.lookup_eq_none_iff.mp q (x, c) e
      simp at this
 · intro x c hx e
   have hx : (scope.names.lookup x == some .cell) = true := hx
   have m := mem_of_lookup (beq_iff_eq.mp hx)
   rcases look x c e with z | z
   · exact absurd (zeR C.nd z.2 m) (by decide)
   · exact zzL (zzL (Nat.le_succ _) (Nat.le_succ _)) z.2.2
 · intro b hb
   obtain ⟨o, e⟩ := ho b hb
   refine ⟨zzN (Nat.lt_succ_of_lt (Heap.lt_size e)), λ x c ec => ?_⟩
   rcases look x c ec with z | z
   · exact (hf b hb).2.2.2.2.1 x c z.1
   · have := Heap.lt_size e
     intro q; subst q
     exact absurd (zzH this (zzL (zzL (Nat.le_succ _) (Nat.le_succ _)) z.2.2)) (Nat.lt_irrefl _)
 · intro b o e hb
   rcases (hf b hb).2.2.2.1 with z | z
   · exact I.ok.noex b o e z
   · exact absurd (zzH (Heap.lt_size e) (zzL I.ok.bsz z)) (Nat.lt_irrefl _)
 · intro b hb hm
   rcases zS.mp (I.stkSub b hm) with z | z
   · exact (hf b hb).2.1 z
   · exact (hf b hb).2.2.1 z
 · intro i x v e1 e2 e3
   have e2 : (v7 cap σ)[i]? = some (some v) := e2
   unfold v7 at e2
   rw [zzF] at e2
   cases ec : cap[i]? with
   | none => rw [ec] at e2; cases e2
   | some c =>
    cases c with
    | none => rw [ec] at e2; cases e2
    | some j =>
     rw [ec] at e2
     have e2 : (σ[j]?).getD none = some v := Option.some.inj e2
     obtain ⟨xn, m⟩ := C.at_ i x j e1 ec
     have es : σ[j]? = some (some v) := by
      cases q : σ[j]? with
      | none => rw [q] at e2; cases e2
      | some y => rw [q] at e2; exact congrArg some e2
     have kf := C.fr _ m rfl
     obtain ⟨mm, hn, hl⟩ := I.loc
     obtain ⟨u, r, l⟩ := hl j x v xn es (by rcases kf with k | k; exact .inr (.inl k); exact .inr (.inr k))
     refine ⟨u, r, .inr ⟨?_, ?_⟩⟩
     · show (relabel scope X.env).names.lookup x = some .cell \/ (relabel scope X.env).names.lookup x = some .free
       rw [W0, zbS C.nd m]
       show some (if _ then _ else _) = _ \/ some (if _ then _ else _) = _
       split
       · exact .inl rfl
       · exact .inr rfl
     · obtain ⟨c, ec, eo⟩ := lookF x m
       refine ⟨c, ec, ?_⟩
       rcases l with ⟨k1, _⟩ | ⟨_, c2, e4, z⟩
       · have k1 : X.env.scope.names.lookup x = some .local := k1
         rcases kf with k | k <;> (rw [k1] at k; cases k)
       · rw [eo] at e4; cases e4
         exact z.keeps old
 · intro x c e
   rcases look x c e with z | z
   · obtain ⟨v, q⟩ := I.cell x c z.1; exact ⟨v, q.keeps old⟩
   · exact ⟨none, z.2.1⟩
 · intro x c e
   rcases look x c e with z | z
   · exact I.freeC x c z.1
   · exact I.hok.fresh (zzL (zzL (Nat.le_succ _) (Nat.le_succ _)) z.2.2)
 · show (v7 cap σ).length = N.length
   unfold v7
   rw [zD, C.len]
abbrev lobj (its : List Value) : Obj := { cls := .type "list", data := .seq its.toArray its.length }
section
variable {X : Cx} {pins : List (Addr × Obj)} {σ : St} {H2 : Hp} {s2 : Shared} {elt tg iter : Expr} {ifs : List Expr} {scope : Scope} {pos : Pos} {N : List Str} {cap : List (Option Nat)} {g : TG} {tt : TT} {te : TE} {wi : TI}
set_option maxHeartbeats 1000000
theorem zdU {J : It} {it : Addr} {fp : List Addr} {tn : Nat -> Heap -> Prop} {Q : VK} {R : Value -> Addr -> Result -> Shared -> Prop} {E : Value -> Shared -> Prop}
 (hc : X.calm = true) (C : CapOk N X.N scope.names X.env.scope.names cap) (hk : scope.kind = .function)
 (hg : ∀ cl s H fp, PG (wX X N scope cl s H fp) tg g) (ht : ∀ cl s H fp, PTs (wX X N scope cl s H fp) ifs tt) (he : ∀ cl s H fp, PE (wX X N scope cl s H fp) elt te)
 (I2 : Inv X pins σ H2 s2) (T : Turn X.prog X.w X.K tg J fp it tn) (st2 : tn 0 s2.heap) (f2 : ∀ b ∈ fp, zej X pins H2 b)
 (W : Nat -> Nat -> List V -> Hp -> Prop) (m0 : Nat) (w0 : W 0 m0 [] H2)
 (turn : ∀ i m ys H, W i m ys H -> ys.length <= sizeLine /\ ((J.stop i H /\ ∀ p, H p = none -> Q (.ref p) (upd H p (.lst ys))) \/ (J.go i H /\ ∀ x H', J.yld i H x H' -> g x (v7 cap σ) H' λ σ2 H2 => (∀ (j : Nat) v, (v7 cap σ)[j]? = some (some v) -> σ2[j]? = some (some v)) /\
  tt σ2 H2 λ b H3 => if b = true then ys.length < sizeLine /\ te σ2 H3 λ y H4 => ∃ m', m' < m /\ W (i + 1) m' (ys ++ [y]) H4 else ∃ m', m' < m /\ W (i + 1) m' ys H3)))
 (fin : ∀ ys H3 s1 m, Inv X pins σ (upd H3 s2.heap.objs.size (.lst ys)) s1 -> s1.heap.Ns (s2.heap.objs.size + 1) m -> zej X pins (upd H3 s2.heap.objs.size (.lst ys)) (s2.heap.objs.size + 1) ->
  Q (.ref s2.heap.objs.size) (upd H3 s2.heap.objs.size (.lst ys)) -> R (.ref s2.heap.objs.size) (s2.heap.objs.size + 1) (.ok .next) s1) :
 wpAny (model X.prog X.w) X.A (newList []) (λ acc s₃ => wpAny (model X.prog X.w) X.A (newFunctionEnv scope X.env.globals (vC X.env scope.names []) [] X.env.qual none .none (some X.env)) (λ cenv s₄ =>
  codeAny (model X.prog X.w) X.A (.compStart (.ListComp elt [⟨tg, iter, ifs, 0⟩] scope pos) 0 (.ref it) acc { cenv with scope := relabel scope X.env }) (R acc cenv.locals) s₄) E s₃) E s2 := by
 refine wpAny_newObj_type (zfO λ h' env' eE eL old hns hcells => ?_)
 have e1 : (s2.heap.push { cls := .type "list", dict := none, data := .seq ([] : List Value).toArray }).objs.size = s2.heap.objs.size + 1 := Heap.size_push ..
 dsimp only at eE eL old hns hcells
 rw [e1] at eE eL hns hcells
 have hD0 : (s2.heap.push { cls := .type "list", dict := none, data := .seq ([] : List Value).toArray }).get? s2.heap.objs.size = some (lobj []) := Heap.get?_push_size _ rfl
 have hD : h'.get? s2.heap.objs.size = some (lobj []) := old _ _ hD0
 have old' : ∀ b o, s2.heap.get? b = some o -> h'.get? b = some o := λ b o q => old b o (Heap.get?_push_of_some _ q)
 have fex : ∀ b ∈ fp, ∃ o, s2.heap.get? b = some o := λ b hb => by obtain ⟨o, e, _⟩ := T.obj _ _ st2 b hb; exact ⟨o, e⟩
 have flt : ∀ b ∈ fp, b < s2.heap.objs.size := λ b hb => by obtain ⟨o, e⟩ := fex b hb; exact Heap.lt_size e
 have I' := zhL I2 C hk f2 fex old' hns hcells
 rw [eE, eL]
 generalize hX : wX X N scope (vC X.env scope.names []) s2 H2 fp = X' at I'
 have xP : X'.prog = X.prog := by rw [<- hX]
 have xw : X'.w = X.w := by rw [<- hX]
 have xK : X'.K = X.K := by rw [<- hX]
 have xA : X'.A = X.A := by rw [<- hX]
 have xe : X'.env = Vg scope X.env (vC X.env scope.names []) (s2.heap.objs.size + 1) := by rw [<- hX]
 have xL : X'.env.locals = s2.heap.objs.size + 1 := by rw [xe]; rfl
 have xfs : X'.fs = frs X.stack := by rw [<- hX]
 have xex : X'.ex = fp := by rw [<- hX]
 have xs : X'.s₀ = s2 := by rw [<- hX]
 have xH : X'.H₀ = H2 := by rw [<- hX]
 have xpn : X'.pn = [] := by rw [<- hX]
 have xc : X'.calm = true := by rw [<- hX]; exact hc
 have xE : X'.xe = λ _ _ => False := by rw [<- hX]
 have hg' : PG X' tg g := by rw [<- hX]; exact hg _ _ _ _
 have ht' : PTs X' ifs tt := by rw [<- hX]; exact ht _ _ _ _
 have he' : PE X' elt te := by rw [<- hX]; exact he _ _ _ _
 have H2D : H2 s2.heap.objs.size = none := I2.hok.fresh (zzK _)
 have Dfs : s2.heap.objs.size ∉ X'.fs := by
  rw [xfs]
  intro hm
  rcases zS.mp (I2.stkSub _ hm) with z | z
  · exact absurd I2.lt (by rw [<- z]; exact Nat.lt_irrefl _)
  · exact I2.nofs (zzK _) z
 have DL : s2.heap.objs.size ≠ X'.env.locals := by rw [xL]; exact zzN (Nat.lt_succ_self _)
 have pinD : ∀ {σ' : St} {H' : Hp} {s' : Shared} {its : List Value} {ps : List (Addr × Obj)}, Inv X' ps σ' H' s' -> s'.heap.get? s2.heap.objs.size = some (lobj its) -> H' s2.heap.objs.size = none -> Inv X' [(s2.heap.objs.size, lobj its)] σ' H' s' := λ I e n =>
  I.pins_of λ p hp => by
   cases zzO.mp hp
   exact ⟨e, n, DL, Dfs, λ v z => by cases z⟩
 have stat : ∀ {H' : Hp} {its : List Value}, (∀ b ∈ fp, H' b = none) -> ∀ b ∈ fp, zej X' [(s2.heap.objs.size, lobj its)] H' b := λ hn b hb => by
  refine ⟨hn b hb, ?_, ?_, .inl (by rw [xex]; exact hb), (I'.ok.exf b (by rw [xex]; exact hb)).2, λ p hp => ?_⟩
  · exact (I'.ok.exf b (by rw [xex]; exact hb)).1
  · exact I'.ok.exfs b (by rw [xex]; exact hb)
  · rw [xpn, List.nil_append] at hp
    cases zzO.mp hp
    exact Nat.ne_of_gt (flt b hb)
 have loop : ∀ (n : Nat) (s' : Shared), (∃ i ys its H3, Inv X' [(s2.heap.objs.size, lobj its)] (v7 cap σ) H3 s' /\ tn i s'.heap /\ (∀ b ∈ fp, H3 b = none) /\ Vals ys its /\ W i n ys H3) ->
  codeAny (model X.prog X.w) X.A (.compLoop (.ListComp elt [⟨tg, iter, ifs, 0⟩] scope pos) 0 (.ref it) (.ref s2.heap.objs.size) (Vg scope X.env (vC X.env scope.names []) (s2.heap.objs.size + 1)))
   (R (.ref s2.heap.objs.size) (s2.heap.objs.size + 1)) s' := by
  intro n s' h0
  refine zfq (λ n s' => ∃ i ys its H3, Inv X' [(s2.heap.objs.size, lobj its)] (v7 cap σ) H3 s' /\ tn i s'.heap /\ (∀ b ∈ fp, H3 b = none) /\ Vals ys its /\ W i n ys H3) ?_ n h0
  clear h0 n s'
  rintro n s3 E' ⟨i, ys, its, H3, I3, st3, fr3, rv3, w3⟩
  obtain ⟨hz, hstep⟩ := turn i n ys H3 w3
  rcases hstep with ⟨stop, qn⟩ | ⟨go, step⟩
  · have := T.done X' xP xw xK xc i _ s3 _ H3 E' I3 (stat fr3) st3 stop
    rw [xA] at this
    refine wpAny_mono this (λ r s4 ⟨hr, I4⟩ => ?_) λ _ _ z => z
    subst hr
    obtain ⟨gD, nD, _⟩ := I4.pin (s2.heap.objs.size, lobj its) (by rw [xpn]; simp)
    obtain ⟨m, hn, _⟩ := I4.loc
    rw [xL] at hn
    have b4 := I4.base
    rw [xfs, xex, xH, xs] at b4
    have nL : H3 (s2.heap.objs.size + 1) = none := by have := I4.free; rw [xL] at this; exact this
    have neD : ∀ b o, s2.heap.get? b = some o -> b ≠ s2.heap.objs.size := λ b o e => zzN (Heap.lt_size e)
    have neH : ∀ b u, H2 b = some u -> b ≠ s2.heap.objs.size := λ b u e z => by rw [z, H2D] at e; cases e
    have ne3 : ∀ b u, H3 b = some u -> b ≠ s2.heap.objs.size := λ b u e z => by rw [z, nD] at e; cases e
    have hok4 := I4.hok
    rw [xP, xw] at hok4
    refine fin ys H3 s4 m (I2.call' (ch := fp) ?_ ⟨b4.keep, b4.slot, λ b o e n hx => ?_, b4.there, λ b xs e => ?_, λ b o u e => ?_, λ b ps e => ?_⟩ ?_ I4.bare λ b hb => ?_) hn (I2.fpOk (Nat.le_succ _) (by rw [yd (Nat.ne_of_gt (Nat.lt_succ_self _))]; exact nL)) (qn _ nD)
    · have := I4.os; rw [xs] at this; exact this
    · rw [yd (neD b o e)]; exact b4.free b o e n hx
    · rw [yd (neH b _ e)]; exact b4.tups b xs e
    · rw [yd (neH b _ e)]; exact b4.frzs b o u e
    · rw [yd (neH b _ e)]; exact b4.tbls b ps e
    · intro b u e
      by_cases hb : b = s2.heap.objs.size
      · subst hb
        rw [yK] at e
        cases e
        exact ⟨hz, its, its.length, rv3, gD⟩
      · rw [yd hb] at e
        exact (hok4 b u e).stay (λ c v _ q => q) (λ c q => by rw [yd (ne3 c _ q)]; exact q) λ c xs q => by rw [yd (ne3 c _ q)]; exact q
    · obtain ⟨f0, f1, f3, f4, f5, f6⟩ := f2 b hb
      exact ⟨f4, f1, f5, f6⟩
  · have := T.item X' xP xw xK xc i _ s3 _ H3 E' I3 (stat fr3) st3 go
    rw [xA] at this
    refine wpAny_mono this (λ r s4 ⟨u, hr, h4⟩ => ?_) λ _ _ z => z
    subst hr
    refine wpAny_mono h4 (λ _ s5 ⟨x, H5, I5, r5, y5, st5, fr5⟩ => ?_) λ _ _ z => z
    have I5' := I5.pinned (stat fr5) (T.obj _ _ st5)
    have h6 := hg' _ s5 _ H5 x u _ I5' r5 (step x H5 y5)
    rw [xP, xw, xA, xe, xE] at h6
    refine wpAny_mono h6 (λ _ s6 ⟨σ6, H6, I6, cap6, q6⟩ => ?_) λ _ _ z => z.elim
    have h7 := ht' _ s6 σ6 H6 _ I6 q6
    rw [xP, xw, xA, xe, xE] at h7
    refine wpAny_mono h7 (λ b s7 ⟨H7, I7, q7⟩ => ?_) λ _ _ z => z.elim
    have keep : ∀ {H8 : Hp} {s8 : Shared}, Inv X' ([(s2.heap.objs.size, lobj its)] ++ zdF fp s5.heap) σ6 H8 s8 -> Inv X' [(s2.heap.objs.size, lobj its)] (v7 cap σ) H8 s8 /\ tn (i + 1) s8.heap /\ ∀ b ∈ fp, H8 b = none := λ {H8 s8} I8 => by
     refine ⟨I8.unpinned.weak ?_ cap6, T.keep _ _ _ st5 λ b hb o e => (I8.pin (b, o) (zzI _ (zzI _ (Ws hb e)))).1, λ b hb => ?_⟩
     · rw [I3.len]; exact I8.len.symm
     · obtain ⟨o, e, d⟩ := T.obj _ _ st5 b hb
       exact (I8.pin (b, o) (zzI _ (zzI _ (Ws hb e)))).2.1
    cases b with
    | false =>
     obtain ⟨m', hm, w7⟩ := q7
     obtain ⟨k1, k2, k3⟩ := keep I7
     exact ⟨m', hm, i + 1, ys, its, H7, k1, k2, k3, rv3, w7⟩
    | true =>
     obtain ⟨hz2, q7⟩ := q7
     have h8 := he' _ s7 σ6 H7 _ I7 q7
     rw [xP, xw, xA, xe, xE] at h8
     show wpAny _ _ _ _ _ _
     refine wpAny_mono h8 (λ yv s8 ⟨y, H8, I8, ry, m', hm, w8⟩ => ?_) λ _ _ z => z.elim
     obtain ⟨k1, k2, k3⟩ := keep I8
     obtain ⟨gD, nD, _⟩ := k1.pin (s2.heap.objs.size, lobj its) (by rw [xpn]; simp)
     have hl := rv3.length
     refine append_at gD (λ h9 sb gD9 => ?_) (by rw [zzE]; omega)
     have I9 : Inv X' [] (v7 cap σ) H8 { s8 with heap := h9 } := (k1.pins_of (pins' := []) (λ _ z => nomatch z)).turned (t' := s8.toks) (it := s2.heap.objs.size) (λ b o hb e => (sb.2 b hb).trans e) nD DL (.inr (by rw [xs]; exact zzK _)) (λ x c ec z => by
      obtain ⟨v, o, ho, hd⟩ := k1.cell x c ec
      rw [z, gD] at ho
      cases ho
      cases hd) (λ p hp => by rw [xpn] at hp; cases hp)
     have gD9' : h9.get? s2.heap.objs.size = some (lobj (its ++ [yv])) := by
      rw [gD9]
      congr 1
      show ({ cls := .type "list", data := .seq (its.toArray.push yv) (its.length + 1) } : Obj) = { cls := .type "list", data := .seq (its ++ [yv]).toArray (its ++ [yv]).length }
      rw [zzG, List.length_singleton, List.push_toArray]
     refine ⟨m', hm, i + 1, ys ++ [y], its ++ [yv], H8, pinD I9 gD9' nD, T.keep _ _ _ k2 λ b hb o e => (sb.2 b (zzN (flt b hb))).trans e, k3, rv3.append (.cons ry .nil), w8⟩
 have start : ∃ i ys its H3, Inv X' [(s2.heap.objs.size, lobj its)] (v7 cap σ) H3 { s2 with heap := h' } /\ tn i h' /\ (∀ b ∈ fp, H3 b = none) /\ Vals ys its /\ W i m0 ys H3 :=
  ⟨0, [], [], H2, pinD I' hD H2D, T.keep _ _ _ st2 λ b hb o e => old' b o e, λ b hb => (f2 b hb).1, .nil, w0⟩
 exact codeAny_compStart_list (loop m0 _ start) (T.self _ 0 _ _ _ (T.keep _ _ _ st2 λ b hb o e => old' b o e) (loop m0 _ start))
theorem zmE (hc : X.calm = true) (hi : PI X tg iter wi) (hk : scope.kind = .function) (hcap : vB N X.N scope.names X.env.scope.names cap = true)
 (hg : ∀ cl s H fp, PG (wX X N scope cl s H fp) tg g) (ht : ∀ cl s H fp, PTs (wX X N scope cl s H fp) ifs tt) (he : ∀ cl s H fp, PE (wX X N scope cl s H fp) elt te)
 (hs : ∀ x, foldedSetIterable iter X.env x = pure x) : PE X (.ListComp elt [⟨tg, iter, ifs, 0⟩] scope pos) (zkI wi cap g tt te) := by
 intro pins s σ H Q I h
 have C := zgB hcap
 rw [eval_ListComp]
 refine wpAny_comprehension_free (use := none) rfl hs (V3 λ x m e => I.ok.has x.1 (C.fr x m e)) hk (λ y m e => zbS C.nd (by rw [<- e]; exact m)) ?_
 refine thn (hi pins s σ H _ I h) λ v s1 h1 => thn h1 λ itv s2 h2 => ?_
 obtain ⟨it, fp, tn, J, H2, e, I2, T, st2, f2, W, ⟨m0, w0⟩, turn⟩ := h2
 subst e
 refine zdU (R := λ acc C r s' => compPost (model X.prog X.w) X.A X.xe none (EP X pins σ Q) acc C r s') hc C hk hg ht he I2 T st2 f2 W m0 w0 turn λ ys H3 s3 m I3 hn fl q => ?_
 refine ⟨m, hn, λ h' sb => ?_⟩
 obtain ⟨f0, f1, f3, f4, f5, f6⟩ := fl
 exact ⟨.ref s2.heap.objs.size, _, I3.turned (t' := s3.toks) (λ b o hb e => (sb.2 b hb).trans e) f0 f1 f4 f5 f6, rfl, q⟩
theorem zmV {i : Nat} {y : Str} {py spos : Pos} (hN : X.N.Nodup) (hiy : X.N[i]? = some y) (hy : Loc X.env.scope y) (hf : X.fn y = true \/ X.env.scope.names.lookup y = some .local)
 (hsw : swapsWith (.ListComp elt [⟨tg, iter, ifs, 0⟩] scope pos) (some (.Name y py)) spos.line X.env = pure true)
 (hc : X.calm = true) (hi : PI X tg iter wi) (hk : scope.kind = .function) (hcap : vB N X.N scope.names X.env.scope.names cap = true)
 (hg : ∀ cl s H fp, PG (wX X N scope cl s H fp) tg g) (ht : ∀ cl s H fp, PTs (wX X N scope cl s H fp) ifs tt) (he : ∀ cl s H fp, PE (wX X N scope cl s H fp) elt te)
 (hs : ∀ x, foldedSetIterable iter X.env x = pure x) : PS X (.Assign [.Name y py] (.ListComp elt [⟨tg, iter, ifs, 0⟩] scope pos) spos) (zpq (zkI wi cap g tt te) (zgL i)) := by
 intro pins s σ H D I h
 have C := zgB hcap
 rw [exec_Assign_Name_used _ _ _ _ hsw]
 refine wpAny_bind (wpAny_standAt (wpAny_bind ?_))
 show wpAny _ X.A (do let _ <- comprehension (.ListComp elt [⟨tg, iter, ifs, 0⟩] scope pos) scope X.env _ (newList []) false (eval iter X.env) (some (assign (.Name y py) X.env))) _ _ s
 refine wpAny_bind (wpAny_mono (wpAny_comprehension_free (use := some (assign (.Name y py) X.env)) (Q := λ _ s' => SP X pins D .next s') rfl hs (V3 λ x m e => I.ok.has x.1 (C.fr x m e)) hk (λ y m e => zbS C.nd (by rw [<- e]; exact m)) ?_) (λ _ s' hq => wpAny_pure (wpAny_pure hq)) λ _ _ e => e)
 refine thn (hi pins s σ H _ I h) λ v s1 h1 => thn h1 λ itv s2 h2 => ?_
 obtain ⟨it, fp, tn, J, H2, e, I2, T, st2, f2, W, ⟨m0, w0⟩, turn⟩ := h2
 subst e
 refine zdU (Q := λ x H1 => zgL i x σ H1 D.nx) (R := λ acc C r s' => compPost (model X.prog X.w) X.A X.xe (some (assign (.Name y py) X.env)) (λ _ s' => SP X pins D .next s') acc C r s') hc C hk hg ht he I2 T st2 f2 W m0 w0 turn λ ys H3 s3 m I3 hn fl q => ?_
 obtain ⟨f0, f1, f3, f4, f5, f6⟩ := fl
 refine wpAny_assign_Name (zen I3 hN hiy hy (v := .ref s2.heap.objs.size) rfl (λ s4 I4 ⟨a, sb, ha⟩ => ?_) hf)
 refine ⟨m, hn.sameBut sb (λ z => ?_), λ h' sb' => ?_⟩
 · rcases ha with ha | ha
   · exact f1 (z.trans ha)
   · exact f5 y a ha z.symm
 · exact ⟨_, _, I4.turned (t' := s4.toks) (λ b o hb e => (sb'.2 b hb).trans e) f0 f1 f4 f5 f6, q⟩
end
structure ItC (K : zC) (kd : KD) (F : Addr -> Prop) (H : Hp) (J : It) (ds : List It1) : Prop where
 all : ∀ (H2 : Hp) (T : Addr -> Prop), (∀ b u, H b = some u -> H2 b = some u) -> (∀ a, T a -> H a = none /\ H2 a ≠ none) -> ∀ i, (i < ds.length -> J.go i H2) /\ (ds.length <= i -> J.stop i H2) /\
  ∀ v H3, J.yld i H2 v H3 -> (∀ b o, H2 b = some o -> H3 b = some o) /\ ∀ x, ds[i]? = some x -> Rp K kd (λ a => x.1 = true /\ (F a \/ T a)) H3 v x.2
def alC (K : zC) (kd : KD) (f : IF) : TI := λ σ H R => ∃ F B ad as ds as', Rel K kd F B [] ad as σ H /\ f as = some (ds, as') /\
 ∀ J ad' H', Rel K kd F B [] ad' as' σ H' -> Grow (Gw [] ad) H (Gw [] ad') H' -> ItC K kd (Lv F B (Gw [] ad') true) H' J ds -> R J H'
@[irreducible] def AIc (X : Cx) (kd : KD) (tg iter : Expr) (f : IF) : Prop := PI X tg iter (alC X.K kd f)
def zbD (os : List O) : List It1 := os.map λ o => match o with | .lf st d => (st, d) | o => (false, o.toD)
def zrx (as : AS) : RV -> Option (List It1)
 | .ow o => ziv (o.str, o.toD)
 | .bo i => match as[i]? with
  | some (some (.nd .ls os)) => some (zbD os)
  | some (some (.nd .tp os)) => some (zbD os)
  | _ => none
def Z9 (f : EF) : IF := λ as => (f as).bind λ p => (zrx p.2 p.1).bind λ ds => some (ds, p.2)
section
variable {K : zC} {kd : KD} {F B : Addr -> Prop} {G : Addr -> Prop} {T : List Addr} {ad : Ad} {as : AS} {σ : St} {H H' : Hp}
inductive RpC (K : zC) (kd : KD) (F : Addr -> Prop) (H : Hp) : List V -> List It1 -> Prop
 | nil : RpC K kd F H [] []
 | cons {v : V} {x : It1} {vs : List V} {ds : List It1} : Rp K kd (λ a => x.1 = true /\ F a) H v x.2 -> RpC K kd F H vs ds -> RpC K kd F H (v :: vs) (x :: ds)
theorem RpC.length {vs : List V} {ds : List It1} (h : RpC K kd F H vs ds) : vs.length = ds.length := by
 induction h with
 | nil => rfl
 | cons _ _ ih => exact congrArg (· + 1) ih
theorem RpC.get {vs : List V} {ds : List It1} {i : Nat} {x : It1} (h : RpC K kd F H vs ds) (e : ds[i]? = some x) : ∃ v, vs[i]? = some v /\ Rp K kd (λ a => x.1 = true /\ F a) H v x.2 := by
 induction h generalizing i with
 | nil => simp at e
 | cons h r ih =>
  cases i with
  | zero => simp at e; subst e; exact ⟨_, rfl, h⟩
  | succ i =>
   obtain ⟨v, h1, h2⟩ := ih (i := i) (by simpa using e)
   exact ⟨v, by simpa using h1, h2⟩
theorem Rp.since {Ob : Addr -> Prop} {v : V} {d : D} {T : Addr -> Prop} (k : ∀ b u, H b = some u -> H' b = some u) (hT : ∀ a, T a -> H a = none) (h : Rp K kd Ob H v d) : Rp K kd (Un2 Ob T) H' v d :=
 Rp.grow (F := Ob) (W := λ _ => False) (W' := T) (H' := H') ⟨λ b u q _ => k b u q, λ b z => .inr (hT b z)⟩ (h.less λ a z => z.elim id False.elim)
theorem zaY {st : Bool} {vs : List V} {ds : List D} (h : RpL K kd (Lv F B G st) H vs ds) : RpC K kd (Lv F B G true) H vs (kids st ds) :=
 RpL.ind (P := λ vs ds => RpC K kd (Lv F B G true) H vs (kids st ds)) .nil (λ {v d vs ds} h _ ih => by
  refine .cons (x := (zF d || st, d)) ?_ ih
  cases e : zF d with
  | true => exact h.flat e
  | false =>
   refine h.less λ a z => ?_
   have zs : st = true := z.1
   rw [zs]; exact z.2) h
theorem znO {vs : List V} {os : List O} {fp : List Addr} (h : Zv K kd F B G H vs os fp) : RpC K kd (Lv F B G true) H vs (zbD os) :=
 RoL.ind (P := λ vs os _ => RpC K kd (Lv F B G true) H vs (zbD os)) .nil (λ {v o vs os fp fq} h _ ih => by
  have ha := zfh h
  refine .cons ?_ ih
  cases h with
  | lf rp => exact rp.less λ a z => (by have zs := z.1; dsimp only at zs; rw [zs]; exact z.2)
  | ls => exact ha.less λ a z => nomatch z.1
  | dc => exact ha.less λ a z => nomatch z.1
  | ob => exact ha.less λ a z => nomatch z.1
  | dt => exact ha.less λ a z => nomatch z.1
  | tp => exact ha.less λ a z => nomatch z.1) h
theorem zdm {a : Addr} {vs : List V} {ds : List It1} (h : SqL K H a vs) (r : RpC K kd F H vs ds) : ItC K kd F H (Itl K a) ds := ⟨λ H3 T k hT i => by
 have hr3 : SqL K H3 a vs := by
  rcases h with (h | ⟨o, h⟩) | h
  · exact .inl (.inl (k _ _ h))
  · exact .inl (.inr ⟨o, k _ _ h⟩)
  · exact .inr h
 refine ⟨λ hi => ?_, λ hi => ⟨_, hr3, by rw [r.length]; exact hi⟩, λ v H4 hy => ?_⟩
 · obtain ⟨u, hu, _⟩ := r.get (zzB hi)
   exact ⟨_, u, hr3, hu⟩
 · obtain ⟨rfl, hv⟩ := hy
   refine ⟨λ _ _ z => z, λ d hd => ?_⟩
   obtain ⟨u, hu, ru⟩ := r.get hd
   have := hv _ hr3
   rw [hu] at this
   cases this
   exact (ru.since k λ a z => (hT a z).1).less λ a z => z.2.elim (λ y => .inl ⟨z.1, y⟩) .inr⟩
theorem ziY {a : Addr} {vs : List V} {ds : List It1} (h : SqT K H a vs) (r : RpC K kd F H vs ds) : ItC K kd F H (Itt K a) ds := ⟨λ H3 T k hT i => by
 have hr3 : SqT K H3 a vs := by
  rcases h with (h | ⟨o, h⟩) | h
  · exact .inl (.inl (k _ _ h))
  · exact .inl (.inr ⟨o, k _ _ h⟩)
  · exact .inr h
 refine ⟨λ hi => ?_, λ hi => ⟨_, hr3, by rw [r.length]; exact hi⟩, λ v H4 hy => ?_⟩
 · obtain ⟨u, hu, _⟩ := r.get (zzB hi)
   exact ⟨_, u, hr3, hu⟩
 · obtain ⟨rfl, hv⟩ := hy
   refine ⟨λ _ _ z => z, λ d hd => ?_⟩
   obtain ⟨u, hu, ru⟩ := r.get hd
   have := hv _ hr3
   rw [hu] at this
   cases this
   exact (ru.since k λ a z => (hT a z).1).less λ a z => z.2.elim (λ y => .inl ⟨z.1, y⟩) .inr⟩
theorem zng (lo : Int) (n : Nat) : ItC K kd F H (Itr lo n) (xf lo n) := ⟨λ H2 T k hT i => by
 have hl : (xf lo n).length = n := by unfold xf; simp
 refine ⟨λ hi => by rw [hl] at hi; exact hi, λ hi => by rw [hl] at hi; exact hi, λ v H3 hy => ?_⟩
 obtain ⟨rfl, rfl⟩ := hy
 refine ⟨λ _ _ z => z, λ d hd => ?_⟩
 have hi : i < n := by rw [<- hl]; exact (zzD.mp hd).1
 unfold xf at hd
 rw [zzF, List.getElem?_range hi] at hd
 cases hd
 exact .int _⟩
end
theorem Z7 {X : Cx} {kd : KD} {tg e : Expr} {fa : EF} (he : AE X kd e fa) : AIc X kd tg e (Z9 fa) := by
 with_unfolding_all (
 intro pins s σ H R I h
 obtain ⟨F, B, ad, as, ds, as', Rl, e, q⟩ := h
 obtain ⟨⟨p, as1⟩, h1, e⟩ := bS_ (show (fa as).bind _ = _ from e)
 obtain ⟨ys, h2, e⟩ := bS_ e
 cases e
 cases p with
 | ow o =>
  have h2 : ziv (o.str, o.toD) = some ds := h2
  generalize hd : o.toD = d at h2
  cases d with
  | lst xs =>
   cases h2
   refine zeY he pins s σ H R I ⟨F, B, ad, as, _, as1, Rl, h1, λ v T1 ad1 H1 R1 rv1 g1 => ?_⟩
   have rp := zfK R1 rv1
   rw [hd] at rp
   cases rp with
   | lst hn hr rl => exact ⟨_, rfl, ⟨_, .inl hr⟩, q _ ad1 H1 R1.drop (g1.trans (Grow.less Gw.drop)) (zdm (.inl hr) (zaY rl))⟩
   | lstK a b c rl => exact ⟨_, rfl, ⟨_, .inr ⟨_, _, _, a, rfl, rfl, rfl, b, c⟩⟩, q _ ad1 H1 R1.drop (g1.trans (Grow.less Gw.drop)) (zdm (.inr ⟨_, _, _, a, rfl, rfl, rfl, b, c⟩) (zaY rl))⟩
  | tup xs =>
   cases h2
   refine zhM he pins s σ H R I ⟨F, B, ad, as, _, as1, Rl, h1, λ v T1 ad1 H1 R1 rv1 g1 => ?_⟩
   have rp := zfK R1 rv1
   rw [hd] at rp
   have go : ∃ a ys, v = .ref a /\ SqT X.K H1 a ys /\ RpL X.K kd (Lv F B (Gw [] ad1) o.str) H1 ys xs := by
    cases rp with
    | tup n h r => exact ⟨_, _, rfl, .inl (.inl h), r⟩
   obtain ⟨a, ys, rfl, hs, rl⟩ := go
   exact ⟨_, rfl, ⟨_, hs⟩, q _ ad1 H1 R1.drop (g1.trans (Grow.less Gw.drop)) (ziY hs (zaY rl))⟩
  | _ => cases h2
 | bo i =>
  have h2 : (match as1[i]? with | some (some (.nd .ls os)) => some (zbD os) | some (some (.nd .tp os)) => some (zbD os) | _ => none) = some ds := h2
  cases k : as1[i]? with
  | none => rw [k] at h2; cases h2
  | some s0 =>
   rw [k] at h2
   match s0, h2, k with
   | some (.nd .ls os), h2, k =>
    cases h2
    refine zeY he pins s σ H R I ⟨F, B, ad, as, _, as1, Rl, h1, λ v T1 ad1 H1 R1 rv1 g1 => ?_⟩
    obtain ⟨rfl, hs⟩ := rv1
    obtain ⟨w, hw, ro⟩ := R1.sl i _ k
    rw [hs] at hw
    cases hw
    generalize hfp : ad1 i = fp at ro
    cases ro with
    | ls hH rl => exact ⟨_, rfl, ⟨_, .inl (.inl hH)⟩, q _ ad1 H1 R1 g1 (zdm (.inl (.inl hH)) (znO rl))⟩
   | some (.nd .tp os), h2, k =>
    cases h2
    refine zhM he pins s σ H R I ⟨F, B, ad, as, _, as1, Rl, h1, λ v T1 ad1 H1 R1 rv1 g1 => ?_⟩
    obtain ⟨rfl, hs⟩ := rv1
    obtain ⟨w, hw, ro⟩ := R1.sl i _ k
    rw [hs] at hw
    cases hw
    generalize hfp : ad1 i = fp at ro
    cases ro with
    | tp n hH rl => exact ⟨_, rfl, ⟨_, .inl (.inl hH)⟩, q _ ad1 H1 R1 g1 (ziY (.inl (.inl hH)) (znO rl))⟩)
theorem Zo {X : Cx} {kd : KD} {tg a : Expr} {pos : Pos} {fr : AF} {p : Pos} (hg : Gl X "range") (hm : X.mg "range" = none) (ha : AA X kd [a] fr) (hs : starEach [a] X.env = [(false, eval a X.env)]) : AIc X kd tg (.Call (.Name "range" p) [a] [] pos) (yI fr yO) := by
 with_unfolding_all (
 intro pins s σ H R I h
 obtain ⟨F, B, ad, as, ds, as', Rl, e, q⟩ := h
 obtain ⟨⟨ps, as1⟩, h1, e⟩ := bS_ (show (fr as).bind _ = _ from e)
 obtain ⟨⟨xs, lv⟩, h2, e⟩ := bS_ e
 obtain ⟨ys, h3, e⟩ := bS_ e
 cases e
 obtain ⟨j, rfl, h3⟩ := ziR h3
 · obtain ⟨hj, e3⟩ := zQ h3
   cases e3
   refine zeD hg hm ha hs pins s σ H R I ⟨F, B, ad, as, ps, _, Rl, h1, λ vs ad1 H1 R1 rv1 g1 => ?_⟩
   have vl := VB R1 rv1 h2
   cases vl with
   | cons v1 v2 =>
    cases v2
    cases v1
    exact ⟨j, rfl, hj.1, hj.2, q _ ad1 H1 R1 g1 (zng 0 _)⟩)
def zrN (as : AS) : Option Nat -> Option O
 | none => none
 | some j => match as[j]? with
  | some (some (.lf st d)) => some (.lf st d)
  | some (some o) => some (.lf false o.toD)
  | _ => none
def YB (cap : List (Option Nat)) (as : AS) : AS := cap.map (zrN as)
def xO (g : GF) (tt : TF) (fe : EF) (as0 : AS) : List It1 -> Option (List O)
 | [] => some []
 | x :: r => (g x as0).bind λ as1 => (tt as1).bind λ b => if b.1 = true then (fe b.2).bind λ p => (toO p.2 p.1).bind λ q => if q.1.str = true then (xO g tt fe as0 r).bind λ os => some (q.1 :: os) else none
  else xO g tt fe as0 r
def yp (fi : IF) (cap : List (Option Nat)) (g : GF) (tt : TF) (fe : EF) : EF := λ as => (fi as).bind λ p => if p.1.length <= sizeLine then (xO g tt fe (YB cap p.2) p.1).bind λ os => some (.ow (.nd .ls os), p.2) else none
def xr : TF := λ as => some (true, as)
section
variable {K : zC} {kd : KD} {F B : Addr -> Prop} {T : List Addr} {ad : Ad} {as : AS} {σ : St} {H H' : Hp} {cap : List (Option Nat)}
theorem znm (R : Rel K kd F B [] ad as σ H) (k : ∀ b u, H b = some u -> H' b = some u) (hT : ∀ a ∈ T, H a = none) (hT' : ∀ a ∈ T, H' a ≠ none) :
 Rel K kd (Un2 (Lv F B (Gw [] ad) true) (· ∈ T)) (λ _ => False) [] (λ _ => []) (YB cap as) (v7 cap σ) H' := by
 have no : ∀ a, ¬ Gw [] (λ _ => []) a := λ a z => z.elim (λ y => nomatch y) λ ⟨_, y⟩ => nomatch y
 have kn : ∀ a, H a ≠ none -> H' a ≠ none := λ a z => by
  cases e : H a with
  | none => exact absurd e z
  | some u => rw [k a u e]; simp
 have up : ∀ {st : Bool} {v : V} {d : D}, Rp K kd (λ a => st = true /\ Lv F B (Gw [] ad) true a) H v d -> Rp K kd (Lv (Un2 (Lv F B (Gw [] ad) true) (· ∈ T)) (λ _ => False) (Gw [] λ _ => []) st) H' v d := λ {st v d} h => by
  have := Rp.grow (F := λ a => st = true /\ Lv F B (Gw [] ad) true a) (W := λ _ => False) (W' := (· ∈ T)) (H' := H') ⟨λ b u q _ => k b u q, λ b z => .inr (hT b z)⟩ (h.less λ a z => z.elim id False.elim)
  refine this.less λ a z => ?_
  rcases z with (⟨z1, z2⟩ | z) | z
  · rcases z2 with z2 | z2
    · exact .inl ⟨z1, z2⟩
    · exact .inr z2
  · exact z.elim
  · exact (no a z).elim
 refine ⟨by unfold YB v7; rw [zD, zD], λ _ _ => rfl, λ _ => List.nodup_nil, (λ _ _ _ z => nomatch z), List.nodup_nil, (λ _ _ _ z => nomatch z), λ a z => z.elim (λ y => kn a (R.trk true a y)) (hT' a), (λ _ z => z.elim), λ a z => (no a z).elim, λ i s e => ?_⟩
 unfold YB at e
 rw [zzF] at e
 obtain ⟨c, hc, rfl⟩ := zzU.mp e
 have es : (v7 cap σ)[i]? = some (zqU σ c) := by
  unfold v7
  rw [zzF, hc]
  rfl
 rw [es]
 cases c with
 | none => rfl
 | some j =>
  show zdA _ _ _ _ _ _ (match as[j]? with | some (some (.lf st d)) => some (.lf st d) | some (some o) => some (.lf false o.toD) | _ => none) _ _
  cases k2 : as[j]? with
  | none => rfl
  | some s0 =>
   cases s0 with
   | none => rfl
   | some o =>
    obtain ⟨v, hv, ro⟩ := R.sl j _ k2
    cases o with
    | lf st d =>
     have e0 : ad j = [] := by
      generalize hfp : ad j = fp at ro
      cases ro
      rfl
     rw [e0] at ro
     refine ⟨v, by show some ((σ[j]?).getD none) = _; rw [hv]; rfl, .lf (up ?_)⟩
     exact (zbq ro).less λ a z => by have zs : st = true := z.1; show Lv F B (Gw [] ad) st a; rw [zs]; exact z.2
    | nd kk os => exact ⟨v, by show some ((σ[j]?).getD none) = _; rw [hv]; rfl, .lf (up ((zfh ro).less λ a z => nomatch z.1))⟩
theorem zjZ {S : List Nat} {fi : IF} {g : GF} {tt : TF} {fe : EF} {Q : VK} (hS : ∀ i ∈ S, cap[i]? = some none) (h : al K kd (yp fi cap g tt fe) σ H Q) :
 zkI (alC K kd fi) cap (alG K kd S g) (alT K kd tt) (al K kd fe) σ H Q := by
 obtain ⟨F, B, ad, as, r, as', R, e, q⟩ := h
 obtain ⟨⟨ds, as1⟩, h1, e⟩ := bS_ (show (fi as).bind _ = _ from e)
 by_cases hz : ds.length <= sizeLine
 · have e : (if ds.length <= sizeLine then (xO g tt fe (YB cap as1) ds).bind λ os => some (RV.ow (.nd .ls os), as1) else none) = some (r, as') := e
   rw [if_pos hz] at e
   obtain ⟨os, h2, e⟩ := bS_ e
   cases e
   refine ⟨F, B, ad, as, ds, as', R, h1, λ J ad1 H1 R1 g1 it => ?_⟩
   refine ⟨λ i m ys H3 => m + i = ds.length /\ ∃ T os1 os2, os = os1 ++ os2 /\ xO g tt fe (YB cap as') (ds.drop i) = some os2 /\ os1.length <= i /\ T.Nodup /\ (∀ a ∈ T, H1 a = none /\ H3 a ≠ none) /\ (∀ b u, H1 b = some u -> H3 b = some u) /\
    RoL (λ _ v d => Rp K kd (Un2 (Lv F B (Gw [] ad1) true) (· ∈ T)) H3 v d) (λ a => ¬ Un2 (Lv F B (Gw [] ad1) true) (· ∈ T) a) H3 ys os1 T, ⟨ds.length, rfl, [], [], os, rfl, h2, zzK _, List.nodup_nil, (λ _ m => nomatch m), (λ _ _ z => z), .nil⟩, ?_⟩
   rintro i m ys H3 ⟨hm, T, os1, os2, eo, ec, hl, tnd, tf, k3, rl⟩
   obtain ⟨i1, i2, i3⟩ := it.all H3 (· ∈ T) k3 tf i
   have yl := rl.length
   refine ⟨by omega, ?_⟩
   by_cases hi : i < ds.length
   · refine .inr ⟨i1 hi, λ v H4 hy => ?_⟩
     obtain ⟨k4, rp⟩ := i3 v H4 hy
     rw [List.drop_eq_getElem_cons hi] at ec
     obtain ⟨as2, e2, ec⟩ := bS_ (show (g _ _).bind _ = _ from ec)
     obtain ⟨⟨b, as3⟩, e3, ec⟩ := bS_ ec
     have k14 : ∀ b u, H1 b = some u -> H4 b = some u := λ b u h => k4 b u (k3 b u h)
     have kn4 : ∀ a, H3 a ≠ none -> H4 a ≠ none := λ a z => by
      cases e : H3 a with
      | none => exact absurd e z
      | some u => rw [k4 a u e]; simp
     have R4 := znm (cap := cap) (T := T) R1 k14 (λ a z => (tf a z).1) (λ a z => kn4 a (tf a z).2)
     have no : ∀ a, ¬ Gw [] (λ _ => []) a := λ a z => z.elim (λ y => nomatch y) λ ⟨_, y⟩ => nomatch y
     refine ⟨_, _, _, _, ds[i], as2, R4, (rp _ (zzB hi)).less λ a z => ?_, e2, λ σ5 ad5 H5 R5 g5 keep5 => ⟨λ j w hw => ?_, _, _, ad5, as2, b, as3, R5, e3, λ ad6 H6 R6 g6 => ?_⟩⟩
     · rcases z with (z | z) | z
       · exact z
       · exact z.elim
       · exact (no a z).elim
     · rw [keep5 j λ z => ?_]
       · exact hw
       · have := hS j z
         unfold v7 at hw
         rw [zzF, this] at hw
         cases hw
     · -- what stood is kept
       have g46 := g5.trans g6
       have k46 : ∀ b u, H4 b = some u -> H6 b = some u := λ b u h => g46.keep b u h (no b)
       have k36 : ∀ b u, H3 b = some u -> H6 b = some u := λ b u h => k46 b u (k4 b u h)
       have kn6 : ∀ a, H3 a ≠ none -> H6 a ≠ none := λ a z => by
        cases e : H3 a with
        | none => exact absurd e z
        | some u => rw [k36 a u e]; simp
       have up : ∀ {H7 : Hp} {T2 : List Addr}, (∀ b u, H3 b = some u -> H7 b = some u) -> (∀ a ∈ T2, H3 a = none) -> RoL (λ _ v d => Rp K kd (Un2 (Lv F B (Gw [] ad1) true) (· ∈ T ++ T2)) H7 v d) (λ a => ¬ Un2 (Lv F B (Gw [] ad1) true) (· ∈ T ++ T2) a) H7 ys os1 T := λ {H7 T2} k7 f7 =>
        RoL.mono (λ st v d r => (r.since k7 f7).less λ a z => z.elim (λ y => .inl (.inl y)) λ y => (zzJ.mp y).elim (λ x => .inl (.inr x)) .inr)
         (λ a vs n e => ⟨λ z => z.elim (λ y => n (.inl y)) λ y => (zzJ.mp y).elim (λ x => n (.inr x)) λ x => (by have := f7 a x; rw [this] at e; cases e), k7 _ _ e⟩) (λ a _ u h => k7 a u h) rl
       cases b with
       | false =>
        have := up (T2 := []) k36 (λ _ m => nomatch m)
        rw [List.append_nil] at this
        exact ⟨m - 1, by omega, by omega, T, os1, os2, eo, ec, Nat.le_succ_of_le hl, tnd, λ a z => ⟨(tf a z).1, kn6 a (tf a z).2⟩, λ b u h => k36 b u (k3 b u h), this⟩
       | true =>
        rw [if_pos rfl] at ec
        obtain ⟨⟨p, as7⟩, e7, ec⟩ := bS_ ec
        obtain ⟨⟨o, as8⟩, e8, ec⟩ := bS_ ec
        by_cases hs : o.str = true
        · have ec : (if o.str = true then (xO g tt fe (YB cap as') (ds.drop (i + 1))).bind λ os => some (o :: os) else none) = some os2 := ec
          rw [if_pos hs] at ec
          obtain ⟨os3, e9, ec⟩ := bS_ ec
          cases ec
          refine ⟨by omega, _, _, ad6, as3, p, as7, R6, e7, λ y T2 ad7 H7 R7 rv7 g7 => ?_⟩
          obtain ⟨ad8, R8, ro8, le8⟩ := zdn R7 rv7 e8
          have g47 := g46.trans g7
          have k47 : ∀ b u, H4 b = some u -> H7 b = some u := λ b u h => g47.keep b u h (no b)
          have k37 : ∀ b u, H3 b = some u -> H7 b = some u := λ b u h => k47 b u (k4 b u h)
          have f42 : ∀ a ∈ T2, H4 a = none := λ a z => (g47.own a (.inl z)).resolve_left (no a)
          have f32 : ∀ a ∈ T2, H3 a = none := λ a z => by
             cases e : H3 a with
             | none => rfl
             | some u => have := k4 a u e; rw [f42 a z] at this; cases this
          have rt := zhV R8 R8.tnd (λ a z => .inl z) ro8 hs
          have ro9 : Ro (λ _ v d => Rp K kd (Un2 (Lv F B (Gw [] ad1) true) (· ∈ T ++ T2)) H7 v d) (λ a => ¬ Un2 (Lv F B (Gw [] ad1) true) (· ∈ T ++ T2) a) H7 y o T2 :=
             Ro.mono (λ st v d r => r.less λ a z => z.elim (λ y => .inl (.inl y)) λ y => (zzJ.mp y).elim (λ x => .inl (.inr x)) .inr)
              (λ a vs n e => ⟨λ z => n (z.elim (λ y => .inl (.inl y)) λ y => (zzJ.mp y).elim (λ x => .inl (.inr x)) .inr), e⟩) (λ _ _ _ h => h) rt.ro
          refine ⟨m - 1, by omega, by omega, T ++ T2, os1 ++ [o], os3, by rw [eo, List.append_assoc]; rfl, e9, by rw [zzG, List.length_singleton]; omega, List.nodup_append.mpr ⟨tnd, rt.nd, λ a z b z' e => ?_⟩, λ a z => ?_, λ b u h => k37 b u (k3 b u h), (up k37 f32).append (RoL.one ro9)⟩
          · subst e
            exact (tf a z).2 (f32 a z')
          · rcases zzJ.mp z with z | z
            · refine ⟨(tf a z).1, ?_⟩
              cases e : H3 a with
              | none => exact absurd e (tf a z).2
              | some u => rw [k37 a u e]; simp
            · refine ⟨?_, rt.tr a z⟩
              cases e : H1 a with
              | none => rfl
              | some u => have := k3 a u e; rw [f32 a z] at this; cases this
        · have ec : (if o.str = true then (xO g tt fe (YB cap as') (ds.drop (i + 1))).bind λ os => some (o :: os) else none) = some os2 := ec
          rw [if_neg hs] at ec
          cases ec
   · refine .inl ⟨i2 (by omega), λ p hp => ?_⟩
     rw [List.drop_eq_nil_of_le (by omega)] at ec
     cases ec
     rw [List.append_nil] at eo
     subst eo
     have pT : p ∉ T := λ z => (tf p z).2 hp
     have H1p : H1 p = none := by
      cases e : H1 p with
      | none => rfl
      | some u => have := k3 p u e; rw [hp] at this; cases this
     have kp : ∀ b u, H3 b = some u -> upd H3 p (.lst ys) b = some u := λ b u h => by rw [yd (xG h hp)]; exact h
     obtain ⟨R9, g9⟩ := R1.news (T' := p :: T) (H' := upd H3 p (.lst ys)) (zzT.mpr ⟨pT, tnd⟩) (λ a z => (zS.mp z).elim (λ e => by rw [e]; exact H1p) λ z => (tf a z).1) (λ b u h => kp b u (k3 b u h)) (λ a z => by
      rcases zS.mp z with e | z
      · rw [e, yK]; simp
      · cases e : H3 a with
        | none => exact absurd e (tf a z).2
        | some u => rw [kp a u e]; simp)
     refine q _ (p :: T) ad1 _ R9 (.ls yK ?_) (g1.trans g9)
     have le : ∀ st a, Lv F B (Gw (p :: T) ad1) st a -> Un2 (Un2 (Lv F B (Gw [] ad1) true) (· ∈ T)) (· = p) a := λ st a z => by
      rcases z with (z | z) | z | z
      · exact .inl (.inl (.inl (.inl ⟨rfl, z.2⟩)))
      · exact .inl (.inl (.inl (.inr z)))
      · exact (zS.mp z).elim .inr λ y => .inl (.inr y)
      · exact .inl (.inl (.inr (.inr z)))
     exact RoL.mono (λ st v d r => (r.since kp (T := (· = p)) λ a z => by rw [z]; exact hp).less (le st)) (λ a vs n e => ⟨λ z => (le true a z).elim n λ y => (by rw [y, hp] at e; cases e), kp _ _ e⟩) (λ a _ u h => kp a u h) rl
 · have e : (if ds.length <= sizeLine then (xO g tt fe (YB cap as1) ds).bind λ os => some (RV.ow (.nd .ls os), as1) else none) = some (r, as') := e
   rw [if_neg hz] at e
   cases e
end
section
variable {X : Cx} {kd : KD} {elt tg iter e a b c : Expr} {es ifs : List Expr} {scope : Scope} {pos : Pos} {N : List Str} {cap : List (Option Nat)} {g : GF} {tt : TF} {fe fa fb : EF} {fi : IF} {S : List Nat} {fr : AF} {fd : DF}
theorem xJ : PTs X [] (alT X.K kd xr) := λ pins s σ H Q I h => by
 obtain ⟨F, B, ad, as, b, as', R, e, q⟩ := h
 cases e
 exact zmm pins s σ H Q I (q ad H R Grow.refl)
theorem ziA (h : AT X kd c tt) : PTs X [c] (alT X.K kd tt) := by with_unfolding_all exact (zmh h)
theorem vh (hc : X.calm = true) (hi : AIc X kd tg iter fi) (hk : scope.kind = .function) (hcap : vB N X.N scope.names X.env.scope.names cap = true) (hS : S.all (λ i => cap[i]? == some none) = true)
 (hg : ∀ cl s H fp, AG (wX X N scope cl s H fp) kd tg S g) (ht : ∀ cl s H fp, PTs (wX X N scope cl s H fp) ifs (alT X.K kd tt)) (he : ∀ cl s H fp, AE (wX X N scope cl s H fp) kd elt fe)
 (hs : ∀ x, foldedSetIterable iter X.env x = pure x) : AE X kd (.ListComp elt [⟨tg, iter, ifs, 0⟩] scope pos) (yp fi cap g tt fe) := by with_unfolding_all exact (xN (zmE (g := alG X.K kd S g) (te := al X.K kd fe) hc hi hk hcap hg ht he hs) λ σ H Q h => zjZ (λ i m => by simpa using List.all_eq_true.mp hS i m) h)
theorem Wa {z : Bool} {i : Nat} {y : Str} {py spos : Pos} (hN : X.N.Nodup) (hiy : X.N[i]? = some y) (hy : Loc X.env.scope y) (hf : X.fn y = true \/ X.env.scope.names.lookup y = some .local)
 (hsw : swapsWith (.ListComp elt [⟨tg, iter, ifs, 0⟩] scope pos) (some (.Name y py)) spos.line X.env = pure true)
 (hc : X.calm = true) (hi : AIc X kd tg iter fi) (hk : scope.kind = .function) (hcap : vB N X.N scope.names X.env.scope.names cap = true) (hS : S.all (λ i => cap[i]? == some none) = true)
 (hg : ∀ cl s H fp, AG (wX X N scope cl s H fp) kd tg S g) (ht : ∀ cl s H fp, PTs (wX X N scope cl s H fp) ifs (alT X.K kd tt)) (he : ∀ cl s H fp, AE (wX X N scope cl s H fp) kd elt fe)
 (hs : ∀ x, foldedSetIterable iter X.env x = pure x) : ASt X kd (.Assign [.Name y py] (.ListComp elt [⟨tg, iter, ifs, 0⟩] scope pos) spos) (zK z i (yp fi cap g tt fe)) := by with_unfolding_all exact (wR (zmV (g := alG X.K kd S g) (te := al X.K kd fe) hN hiy hy hf hsw hc hi hk hcap hg ht he hs) λ D σ H h => by
 obtain ⟨F, B, ad, as, o, R, e, q⟩ := h
 obtain ⟨⟨p, as1⟩, h1, e⟩ := bS_ (show (yp fi cap g tt fe as).bind _ = _ from e)
 obtain ⟨⟨y, as2⟩, h2, e⟩ := bS_ e
 obtain ⟨hl, e⟩ := zQ e
 cases e
 refine zjZ (Q := λ x H1 => zgL i x σ H1 D.nx) (λ i m => by simpa using List.all_eq_true.mp hS i m) ⟨F, B, ad, as, p, as1, R, h1, λ v T' ad' H' R' rv g => ?_⟩
 obtain ⟨ad2, R2, le⟩ := zfJ R' rv h2 hl
 exact q _ ad2 H' R2 (g.trans (Grow.less le)))
theorem zN {k : Nat} {f : Addr} {fdt : FuncData} {ps : List Str} {gg : List (Bool × D) -> Option O} {x : Str} {p : Pos} (F : FnOk X.prog X.w X.K X.mg X.base CX0 k f fdt ps (spD X.K kd gg)) (hr : Room k X.A) (hg : Gl X x) (hm : X.mg x = some (.ref f)) (hk : PySem.W.keepIn X.K (.ref f) = true)
 (hb : Binds X.K fdt ps []) (hx : zcX CX0 X (λ _ _ _ => False)) (ha : AA X kd (e :: es) fr) (hdb : (x == ("__debug__" : Str)) = false) (he : starEach (e :: es) X.env = (false, eval e X.env) :: starEach es X.env) (hpl : (backTo pos (starEach es X.env)).any (·.1) = false) :
 AE X kd (.Call (.Name x p) (e :: es) [] pos) (zJ fr gg) := by with_unfolding_all exact (xN (zja F hr hg hm hk hb .nil hx ha hdb he hpl) λ σ H Q h => zpK h)
theorem Zr {id : String} {gg : List D -> Option R0} {x : Str} {p : Pos} (hc : CallD X kd (.builtin id) gg) (hg : Gl X x) (hm : X.mg x = none) (hv : bootBuiltins x = some (.builtin id)) (ha : AA X kd (e :: es) fr) (hn : x ≠ "__name__") (hdb : (x == ("__debug__" : Str)) = false)
 (he : starEach (e :: es) X.env = (false, eval e X.env) :: starEach es X.env) (hpl : (backTo pos (starEach es X.env)).any (·.1) = false) : AE X kd (.Call (.Name x p) (e :: es) [] pos) (fP fr gg) := by with_unfolding_all exact (xN (zgN hc hg hm hv ha hn hdb he hpl) λ σ H Q h => alP (λ _ _ _ z => z) h)
theorem Y0 {T : String} {gg : List D -> Option R0} {x : Str} {p : Pos} (hc : CallD X kd (.type T) gg) (hg : Gl X x) (hm : X.mg x = none) (hv : bootBuiltins x = some (.type T)) (ha : AA X kd (e :: es) fr) (hn : x ≠ "__name__") (hdb : (x == ("__debug__" : Str)) = false)
 (he : starEach (e :: es) X.env = (false, eval e X.env) :: starEach es X.env) (hpl : (backTo pos (starEach es X.env)).any (·.1) = false) : AE X kd (.Call (.Name x p) (e :: es) [] pos) (fP fr gg) := by with_unfolding_all exact (xN (zjl hc hg hm hv ha hn hdb he hpl) λ σ H Q h => alP (λ _ _ _ z => z) h)
def zbO (fa : EF) (c : String) : EF := λ as => (fa as).bind λ p => (p.1.frz.view p.2).bind λ x => if zgp x.1 = true then some (.ow (.lf true (.bl (zdE (tyD x.1) c))), p.2) else none
theorem zkz (hk : KdOk X kd) : zbb X (.builtin "isinstance") (λ xs H Q => ∃ x c O d, xs = [x, .ty c] /\ zaC c = true /\ Vw X.K kd O H x d /\ zgp d = true /\ Q (.bl (zdE (tyD d) c)) H) := by
 intro pins s σ H xs us Q I r h
 obtain ⟨x, c, O, d, rfl, hc, vx, ho, q⟩ := h
 cases r with
 | cons r1 r2 =>
  cases r2 with
  | cons r2 r3 =>
   cases r3
   cases (show _ = Value.type c from r2)
   exact zoS hk I r1 vx hc ho λ tk => ⟨.bl _, H, I.tok tk, rfl, q⟩
theorem zdK {c : String} {x y : Str} {p p2 : Pos} (hkd : KdOk X kd) (hc : zaC c = true) (hg : Gl X x) (hm : X.mg x = none) (hv : bootBuiltins x = some (.builtin "isinstance")) (hg2 : Gl X y) (hm2 : X.mg y = none) (hv2 : bootBuiltins y = some (.type c)) (ha : AE X kd a fa)
 (hn : x ≠ "__name__") (hdb : (x == ("__debug__" : Str)) = false) (hn2 : y ≠ "__name__") (hdb2 : (y == ("__debug__" : Str)) = false)
 (he : starEach [a, .Name y p2] X.env = (false, eval a X.env) :: starEach [.Name y p2] X.env) (he2 : starEach [.Name y p2] X.env = (false, eval (.Name y p2) X.env) :: starEach [] X.env) (hpl : (backTo pos (starEach [.Name y p2] X.env)).any (·.1) = false) :
 AE X kd (.Call (.Name x p) [a, .Name y p2] [] pos) (zbO fa c) := by with_unfolding_all exact (xN (zgN (zkz hkd) hg hm hv (YC ha (YC (zmp (v := .ty c) hg2 hm2 hv2 rfl hn2 hdb2) zdV he2) he) hn hdb he hpl) λ σ H Q h => by
 obtain ⟨F, B, ad, as, r, as', R, e, q⟩ := h
 obtain ⟨⟨p, as1⟩, h1, e⟩ := bS_ (show (fa as).bind _ = _ from e)
 obtain ⟨⟨d, lv⟩, h2, e⟩ := bS_ e
 obtain ⟨ho, e⟩ := zQ e
 cases e
 exact ZV R h1 λ v ad1 H1 R1 rv1 g1 => ⟨v, c, _, d, rfl, hc, vg.vw R1 rv1 h2, ho, q _ [] ad1 H1 R1 (.lf (.bl _)) g1⟩)
def v4 : MG := λ os es => match es with | [o] => if os.length < sizeLine then some (os ++ [o], .lf true .non) else none | _ => none
def XQ : MG := λ os es => match es with | [.lf _ (.int i)] => if -(2 ^ 63) <= i /\ i < 2 ^ 63 then (seqIndex? i os.length).bind λ k => (os[k]?).bind λ o => some (os.eraseIdx k, o) else none | _ => none
def zjo : MG := λ os es => match es with | [.nd .ls ps] => if os.length + ps.length <= sizeLine then some (os ++ ps, .lf true .non) else none | _ => none
def zno : MG := λ os es => match es with | [] => some ([], .lf true .non) | _ => none
theorem znA {l f fo g : List Addr} (h : l.Nodup) (e : l = f ++ (fo ++ g)) : ((f ++ g) ++ fo).Nodup /\ ∀ a ∈ (f ++ g) ++ fo, a ∈ l := by
 subst e
 have p : (f ++ (fo ++ g)).Perm ((f ++ g) ++ fo) := by
  rw [List.append_assoc]
  exact (List.perm_append_comm).append_left f
 exact ⟨p.nodup_iff.mp h, λ a m => p.mem_iff.mpr m⟩
theorem XC : MuD X kd ziV v4 := by
 intro F B G l vs ws os es os' o fp fq H Q hH rl rw' hn e k
 unfold v4 at e
 split at e
 · obtain ⟨hz, e⟩ := zQ e
   cases e
   cases rw' with
   | cons h1 h2 =>
    cases h2
    rw [List.append_nil] at hn k
    exact ⟨l, vs, _, rfl, rfl, hH, by rw [rl.length]; exact hz, k _ _ _ [] (rl.append (RoL.one h1)) (.lf .non) (λ a m => by rwa [List.append_nil] at m) (by rw [List.append_nil]; exact hn)⟩
 · cases e
theorem zko : MuD X kd zkO XQ := by
 intro F B G l vs ws os es os' o fp fq H Q hH rl rw' hn e k
 unfold XQ at e
 split at e
 · rename_i st i
   split at e
   · rename_i hi
     obtain ⟨j, hj, e⟩ := bS_ e
     obtain ⟨o1, ho, e⟩ := bS_ e
     cases e
     obtain ⟨v, f, fo, gg, hv, hf, ro, r1, r2⟩ := rl.at_ ho
     cases rw' with
     | cons h1 h2 =>
      cases h2
      cases h1 with
      | lf rp =>
       cases rp
       rw [List.append_nil, List.append_nil] at hn k
       obtain ⟨n1, n2⟩ := znA hn hf
       refine ⟨l, vs, i, j, v, rfl, rfl, hH, hi.1, hi.2, by rw [rl.length]; exact hj, hv, k v _ (f ++ gg) fo ?_ ro n2 n1⟩
       rw [zcu, zcu]
       exact r1.append r2
   · cases e
 · cases e
theorem zpN : MuD X kd zkS zno := by
 intro F B G l vs ws os es os' o fp fq H Q hH rl rw' hn e k
 unfold zno at e
 split at e
 · cases e
   cases rw'
   exact ⟨l, vs, rfl, rfl, hH, k .non [] [] [] .nil (.lf .non) (λ a m => nomatch m) List.nodup_nil⟩
 · cases e
theorem zov : MuD X kd ziE zjo := by
 intro F B G l vs ws os es os' o fp fq H Q hH rl rw' hn e k
 unfold zjo at e
 split at e
 · rename_i ps
   obtain ⟨hz, e⟩ := zQ e
   cases e
   cases rw' with
   | cons h1 h2 =>
    cases h2
    cases h1 with
    | ls hb rb =>
     rename_i b zs fz
     rw [List.append_nil] at hn k
     obtain ⟨n1, n2, n3⟩ := List.nodup_append.mp hn
     obtain ⟨n4, n5⟩ := zzT.mp n2
     refine ⟨l, b, vs, zs, rfl, rfl, hH, hb, by rw [rl.length, rb.length]; exact hz, k .non _ _ [] (rl.append rb) (.lf .non) (λ a m => ?_) ?_⟩
     · rw [List.append_nil] at m
       rcases zzJ.mp m with m | m
       · exact zzM _ m
       · exact zzI _ (zzA _ m)
     · rw [List.append_nil]
       exact List.nodup_append.mpr ⟨n1, n5, λ a m b m' => n3 a m b (zzA _ m')⟩
 · cases e
theorem Ys {i : Nat} {x : Str} {gg : MG} {r : V -> List V -> Hp -> VK -> Prop} {name : Str} {id : String} {apos cpos p : Pos} (hm : MtM X id r) (hr : MuD X kd r gg) (slot : Slot "list" name id) (hty : typeOf (.builtin id) = pure (.type "method_descriptor")) (ho : PE X (.Name x p) (zby i)) (ha : AD X kd (e :: es) fd)
 (hbase : attributeBase (.Name x p) name X.env (eval (.Name x p) X.env) = eval (.Name x p) X.env)
 (hfew : ((backTo cpos (starEach (e :: es) X.env)).all (λ x => !x.1) && (backToKw cpos (keywordEach [] X.env)).all (λ x => x.1.isSome)
  && decide ((e :: es).length + ([] : List Keyword).length + (if ([] : List Keyword).isEmpty then 0 else 1) < 30)) = true)
 (hline : (apos.endLine == cpos.line) = true) (hs : starEach (e :: es) X.env = (false, eval e X.env) :: starEach es X.env) (hplain : (backTo cpos (starEach es X.env)).any (·.1) = false) :
 AE X kd (.Call (.Attribute (.Name x p) name apos) (e :: es) [] cpos) (wF i fd gg) := by with_unfolding_all exact (xN (zqh PySem.F.plainAttrs_list slot hty hm ho ha hbase hfew hline hs hplain) λ σ H Q h => znH hr h)
theorem zmC {i : Nat} {x : Str} {gg : MG} {r : V -> List V -> Hp -> VK -> Prop} {name : Str} {id : String} {apos cpos p : Pos} (hm : MtM X id r) (hr : MuD X kd r gg) (slot : Slot "list" name id) (hty : typeOf (.builtin id) = pure (.type "method_descriptor")) (ho : PE X (.Name x p) (zby i))
 (hbase : attributeBase (.Name x p) name X.env (eval (.Name x p) X.env) = eval (.Name x p) X.env) (hline : (apos.endLine == cpos.line) = true) :
 AE X kd (.Call (.Attribute (.Name x p) name apos) [] [] cpos) (wF i dN gg) := by with_unfolding_all exact (xN (zoh PySem.F.plainAttrs_list slot hty hm ho hbase hline) λ σ H Q h => by
 have := znH hr h
 obtain ⟨v, h1, h2, h3⟩ := this
 refine ⟨v, h1, h2, ?_⟩
 obtain ⟨F, B, ad, as, os, as', R, e, q⟩ := h3
 cases e
 exact q [] [] ad H R .nil Grow.refl)
end
inductive Ty where
 | str | lst | dct | int
def Ty.nm : Ty -> String
 | .str => "str" | .lst => "list" | .dct => "dict" | .int => "int"
def zlY : Ty -> D -> Bool
 | .str, .str _ => true
 | .lst, .lst _ => true
 | .dct, .dct _ => true
 | .int, .int _ => true
 | _, _ => false
def tyS (X : Cx) (T : String) (x : V) (H : Hp) : Prop := ∀ (pins : List (Addr × Obj)) (σ : St) (s : Shared) (v : Value), Inv X pins σ H s -> RelV x v -> s.TypeIs v T /\ ∀ a, v = .ref a -> ∃ ob, s.heap.get? a = some ob /\ ob.dict = none
def tMD (X : Cx) (T : String) (r : V -> List V -> Hp -> VK -> Prop) (to : TE) (t : TA) : TE := λ σ H Q => to σ H λ x H1 => tyS X T x H1 /\ t σ H1 λ xs H2 => r x xs H2 Q
section
variable {X : Cx} {kd : KD} {o e : Expr} {es : List Expr} {to : TE} {t : TA} {name : Str} {apos cpos : Pos} {T id : String} {r : V -> List V -> Hp -> VK -> Prop}
theorem zrf (pa : PlainAttrs T) (slot : Slot T name id) (hty : typeOf (.builtin id) = pure (.type "method_descriptor")) (hm : MtR X id r) (ho : PE X o to) (ha : PA X (e :: es) t)
 (hbase : attributeBase o name X.env (eval o X.env) = eval o X.env)
 (hfew : ((backTo cpos (starEach (e :: es) X.env)).all (λ x => !x.1) && (backToKw cpos (keywordEach [] X.env)).all (λ x => x.1.isSome)
  && decide ((e :: es).length + ([] : List Keyword).length + (if ([] : List Keyword).isEmpty then 0 else 1) < 30)) = true)
 (hline : (apos.endLine == cpos.line) = true) (hs : starEach (e :: es) X.env = (false, eval e X.env) :: starEach es X.env) (hplain : (backTo cpos (starEach es X.env)).any (·.1) = false) :
 PE X (.Call (.Attribute o name apos) (e :: es) [] cpos) (tMD X T r to t) := by
 intro pins s σ H Q I h
 refine wpAny_Call_method_late hbase hfew hline rfl (thn (ho pins s σ H _ I h) λ v s1 ⟨x, H1, I1, r1, ty, q1⟩ => ?_)
 obtain ⟨h1, h2⟩ := ty _ _ _ _ I1 r1
 refine ⟨T, id, pa, slot, hty, h1, h2, ?_⟩
 have hA := ha cpos pins s1 σ H1 _ I1 q1
 rw [hs] at hA ⊢
 refine Calls.callWith_builtin (by show (false || (backTo cpos (starEach es X.env)).any (·.1)) = false; rw [hplain] <;> rfl) (Calls.evalArgs_plain ?_)
 exact thn hA λ us s2 ⟨vs, H2, I2, r2, q2⟩ => hm pins s2 σ H2 x vs v us Q I2 r1 r2 q2
def MtD (X : Cx) (kd : KD) (id : String) (g : D -> List D -> Option R0) : Prop :=
 MtR X id (λ x xs H Q => ∃ O d ds r, (∀ a, O a -> H a ≠ none) /\ Vw X.K kd O H x d /\ VwL X.K kd O H xs ds /\ g d ds = some r /\ RQ X.K kd O H Q r)
theorem zqw (hk : KdOk X kd) {O : Addr -> Prop} {H : Hp} {x : V} {d : D} {ty : Ty} (h : Vw X.K kd O H x d) (e : zlY ty d = true) : tyS X ty.nm x H := by
 intro pins σ s v I rx
 cases h with
 | str z =>
  obtain ⟨t, rfl⟩ := rx
  cases ty <;> first | (cases e; done) | exact ⟨typeIs_str s z t, λ _ e => nomatch e⟩
 | int z =>
  obtain ⟨t, rfl⟩ := rx
  cases ty <;> first | (cases e; done) | exact ⟨typeIs_int s z t, λ _ e => nomatch e⟩
 | lst hr rl =>
  cases rx
  obtain ⟨its, _, pl, _⟩ := I.list hr.sq
  cases ty <;> first | (cases e; done) | skip
  refine ⟨pl.isList.typeIs, λ a e => ?_⟩
  cases e
  obtain ⟨o, n, e, c, hd, _⟩ := pl
  exact ⟨o, e, hd⟩
 | dct hr rm =>
  cases rx
  obtain ⟨z, hd, vs, rel, dd⟩ := zeC I hk hr
  cases ty <;> first | (cases e; done) | skip
  refine ⟨dd.typeIs, λ b q => ?_⟩
  cases q
  obtain ⟨ob, _, _, h1, h2, _⟩ := dd
  exact ⟨ob, h1, h2.2.1⟩
 | non => cases ty <;> cases e
 | bl => cases ty <;> cases e
 | tup => cases ty <;> cases e
 | cl => cases ty <;> cases e
 | ob => cases ty <;> cases e
 | dt => cases ty <;> cases e
def zdh (ty : Ty) (fa : EF) (fr : AF) (g : D -> List D -> Option R0) : EF := λ as => (fa as).bind λ p => (p.1.frz.view p.2).bind λ w => if zlY ty w.1 = true then (fr p.2).bind λ q => (p.1.frz.view q.2).bind λ x => (views q.2 q.1).bind λ y => (g x.1 y.1).bind λ r => (wrap (meet x.2 y.2) r).bind λ z => some (z, q.2) else none
theorem zod (hk : KdOk X kd) {ty : Ty} {fa : EF} {fr : AF} {g : D -> List D -> Option R0} {σ : St} {H : Hp} {Q : VK} (h : al X.K kd (zdh ty fa fr g) σ H Q) :
 tMD X ty.nm (λ x xs H Q => ∃ O d ds r, (∀ a, O a -> H a ≠ none) /\ Vw X.K kd O H x d /\ VwL X.K kd O H xs ds /\ g d ds = some r /\ RQ X.K kd O H Q r) (al X.K kd fa) (alA X.K kd fr) σ H Q := by
 obtain ⟨F, B, ad, as, r, as', R, e, q⟩ := h
 obtain ⟨⟨p, as1⟩, h1, e⟩ := bS_ (show (fa as).bind _ = _ from e)
 obtain ⟨⟨d0, l0⟩, h0, e⟩ := bS_ e
 obtain ⟨hty, e⟩ := ite_some' e
 obtain ⟨⟨ps, as2⟩, h2, e⟩ := bS_ e
 obtain ⟨⟨d, lv⟩, h3, e⟩ := bS_ e
 obtain ⟨⟨ds, lv2⟩, h4, e⟩ := bS_ e
 obtain ⟨r0, h5, e⟩ := bS_ e
 obtain ⟨z, h6, e⟩ := bS_ e
 cases e
 refine ZV R h1 λ v ad1 H1 R1 rv1 g1 => ⟨zqw hk (vg.vw R1 rv1 h0) hty, F, B, ad1, as1, ps, _, R1, h2, λ vs ad2 H2 R2 rv2 g2 => ?_⟩
 exact ⟨_, d, ds, r0, R2.tr _, (vg.vw R2 (rv1.grow g2) h3).less Obl.meet1, (VB R2 rv2 h4).less Obl.meet2, h5, VG R2 h6 λ w T' H' R' rv' g' => q w T' ad2 H' R' rv' ((g1.trans g2).trans g')⟩
theorem znu {ty : Ty} {a : Expr} {fa : EF} {fr : AF} {g : D -> List D -> Option R0} (hk : KdOk X kd) (hm : MtD X kd id g) (pa : PlainAttrs ty.nm) (slot : Slot ty.nm name id) (hty : typeOf (.builtin id) = pure (.type "method_descriptor")) (ho : AE X kd a fa) (ha : AA X kd (e :: es) fr)
 (hbase : attributeBase a name X.env (eval a X.env) = eval a X.env)
 (hfew : ((backTo cpos (starEach (e :: es) X.env)).all (λ x => !x.1) && (backToKw cpos (keywordEach [] X.env)).all (λ x => x.1.isSome)
  && decide ((e :: es).length + ([] : List Keyword).length + (if ([] : List Keyword).isEmpty then 0 else 1) < 30)) = true)
 (hline : (apos.endLine == cpos.line) = true) (hs : starEach (e :: es) X.env = (false, eval e X.env) :: starEach es X.env) (hplain : (backTo cpos (starEach es X.env)).any (·.1) = false) :
 AE X kd (.Call (.Attribute a name apos) (e :: es) [] cpos) (zdh ty fa fr g) := by with_unfolding_all exact (xN (zrf pa slot hty hm ho ha hbase hfew hline hs hplain) λ σ H Q h => zod hk h)
end
section
variable {K : zC} {kd : KD} {F B G : Addr -> Prop} {T : List Addr} {ad : Ad} {as : AS} {σ : St} {H H' : Hp}
inductive RPs (K : zC) (kd : KD) (F B G : Addr -> Prop) (H : Hp) : List (V × V) -> List (Key × O) -> Prop
 | nil : RPs K kd F B G H [] []
 | cons {k : Key} {v : V} {o : O} {ps : List (V × V)} {kos : List (Key × O)} : RoS K kd F B G H v o [] -> RPs K kd F B G H ps kos -> RPs K kd F B G H ((kV k, v) :: ps) ((k, o) :: kos)
end
section
variable {X : Cx} {kd : KD} {e a b c o i : Expr} {pos pos' : Pos} {fa fb fk fv : EF}
def zjn {κ : Type} [DecidableEq κ] (ks : List κ) (k : κ) : Bool := ks.any λ x => decide (x = k)
def YG {κ : Type} [DecidableEq κ] (ks : List κ) (k : κ) : List κ := if zjn ks k = true then ks else ks ++ [k]
def ZP {κ α : Type} [DecidableEq κ] (ks : List κ) (os : List α) (k : κ) (o : α) : List α := if zjn ks k = true then (ks.zip os).map (λ p => if p.1 = k then o else p.2) else os ++ [o]
theorem zfH {κ α : Type} [DecidableEq κ] (k : κ) : ∀ (ks : List κ) (vs : List α), ks.length = vs.length -> ((ks.zip vs).any λ kv => decide (kv.1 = k)) = zjn ks k
 | [], _, _ => rfl
 | x :: r, [], h => by simp at h
 | x :: r, v :: vs, h => by
  show (decide (x = k) || (r.zip vs).any _) = (decide (x = k) || _)
  rw [zfH k r vs (by simpa using h)]
  rfl
theorem zhY {κ : Type} [DecidableEq κ] {v : V} {k : κ} : ∀ (ks : List κ) (vs : List V), ks.length = vs.length -> (ks.zip vs).map (λ kv => if kv.1 = k then (kv.1, v) else kv) = ks.zip ((ks.zip vs).map λ p => if p.1 = k then v else p.2)
 | [], _, _ => rfl
 | x :: r, [], h => by simp at h
 | x :: r, w :: vs, h => by
  show _ :: (r.zip vs).map _ = (x, _) :: r.zip ((r.zip vs).map _)
  rw [zhY r vs (by simpa using h)]
  congr 1
  by_cases e : x = k
  · simp [e]
  · simp [e]
theorem zgh {κ : Type} [DecidableEq κ] {ks : List κ} {vs : List V} {k : κ} {v : V} (h : ks.length = vs.length) : putK (ks.zip vs) k v = (YG ks k).zip (ZP ks vs k v) := by
 unfold putK YG ZP
 rw [zfH k ks vs h]
 split
 · exact zhY ks vs h
 · rw [List.zip_append h]
   rfl
theorem zaR {κ α : Type} [DecidableEq κ] {ks : List κ} {os : List α} {k : κ} {o : α} (h : ks.length = os.length) : (YG ks k).length = (ZP ks os k o).length := by
 unfold YG ZP
 split
 · rw [zD, List.length_zip, h]; simp
 · rw [zzG, zzG, h]; rfl
theorem zhg {L : Bool -> V -> D -> Prop} {Nn : Addr -> Prop} {κ : Type} [DecidableEq κ] {H : Hp} {k : κ} {v : V} {o : O} (ho : Ro L Nn H v o []) : ∀ {ks : List κ} {vs : List V} {os : List O} {fp : List Addr}, ks.length = vs.length -> RoL L Nn H vs os fp ->
 ∃ fp', fp'.Sublist fp /\ RoL L Nn H ((ks.zip vs).map λ p => if p.1 = k then v else p.2) ((ks.zip os).map λ p => if p.1 = k then o else p.2) fp'
 | [], [], _, _, _, .nil => ⟨[], .slnil, .nil⟩
 | x :: r, _, _, _, hl, .cons (fp := f) (fq := g) h t => by
  obtain ⟨fp', s, q⟩ := zhg ho (ks := r) (by simpa using hl) t
  by_cases e : x = k
  · refine ⟨fp', s.trans (List.sublist_append_right _ _), ?_⟩
    have := RoL.cons ho q
    simpa [e] using this
  · refine ⟨f ++ fp', List.Sublist.append (List.Sublist.refl _) s, ?_⟩
    have := RoL.cons h q
    simpa [e] using this
 | [], _ :: _, _, _, hl, _ => by simp at hl
end
abbrev Fn := List (Bool × D) -> Option O
section
variable {P : Program} {w : World} {K : zC} {mg : Str -> Option Value} {base : Heap} {kd : KD}
theorem yq {A : Around} {k : Nat} (hr : Room k A) : A.units + 100 < cLine := by have := hr.un; omega
def KD1 (P : Program) (w : World) (K : zC) (kd : KD) : Prop := ∀ X : Cx, X.prog = P -> X.w = w -> X.K = K -> KdOk X kd
theorem W3 {O : Addr -> Prop} {H : Hp} : ∀ ns : List Int, RpL K kd O H (ns.map V.int) (ns.map D.int)
 | [] => .nil
 | _ :: r => .cons (.int _) (W3 r)
theorem zpV {H : Hp} {a : Addr} {ns : List Int} {g : Fn} {E : XK} (hg : g [(true, .lst (ns.map D.int))] = some (.lf true (.bl true))) (hS : RdL K H a (ns.map V.int)) : spD K kd g [.ref a] H (λ v _ => v = .bl true) E := by
 refine ⟨λ _ => False, [(true, .lst (ns.map D.int))], .lf true (.bl true), (λ _ z => z.elim), .cons ?_ .nil, hg, λ v T H' _ _ _ _ ro => ?_⟩
 · rcases hS with h | ⟨its, n, k, z, r⟩
   · exact .lst (λ z => z.2) h (W3 ns)
   · exact .lstK k z r (W3 ns)
 · cases ro with
   | lf rp => cases rp; rfl
end
namespace Bt
theorem len : bootBuiltins "len" = some (.builtin "len") := by decide +kernel
theorem max : bootBuiltins "max" = some (.builtin "max") := by decide +kernel
theorem sorted : bootBuiltins "sorted" = some (.builtin "sorted") := by decide +kernel
theorem isinstance : bootBuiltins "isinstance" = some (.builtin "isinstance") := by decide +kernel
theorem int : bootBuiltins "int" = some (.type "int") := by decide +kernel
theorem bool : bootBuiltins "bool" = some (.type "bool") := by decide +kernel
theorem list : bootBuiltins "list" = some (.type "list") := by decide +kernel
theorem tuple : bootBuiltins "tuple" = some (.type "tuple") := by decide +kernel
theorem n (x : Str) (h : (x == ("__name__" : Str)) = false) : x ≠ "__name__" := λ e => by subst e; simp at h
end Bt
def WD (f : EF) (as : AS) (st : Bool) (d : D) : Prop := f as = some (.ow (.lf st d), as)
def WT (f : TF) (as : AS) (b : Bool) : Prop := f as = some (b, as)
def WA (f : AF) (as : AS) (rs : List (Bool × D)) : Prop := f as = some (rs.map (λ x => .ow (.lf x.1 x.2)), as)
def WO (f : DF) (as : AS) (os : List O) : Prop := f as = some (os, as)
section
variable {as : AS} {f a b : EF} {s t : Bool} {x y z : D} {i j : Int}
theorem zf : WD (fC x) as true x := rfl
theorem zb {i : Nat} (h : as[i]? = some (some (.lf s x))) : WD (fV i) as s x := by unfold WD fV; rw [h]
theorem zlk {g : D -> D -> Option R0} (ha : WD a as s x) (hb : WD b as t y) (hg : g x y = some (.im z)) : WD (f2 a b g) as (zF z || (s && t)) z := by
 unfold WD f2 at *
 rw [ha]; show ((b as).bind _) = _
 rw [hb]; show ((g x y).bind _) = _
 rw [hg]
 show (if (zF z || (meet (some s) (some t)).isSome) = true then _ else _ : Option RV).bind _ = _
 rw [if_pos (by unfold meet; simp)]
 rfl
theorem zqH {g : D -> D -> Option R0} {oa ob : O} (ha : a as = some (.ow oa, as)) (hb : b as = some (.ow ob, as)) (hg : g oa.toD ob.toD = some (.im z)) : WD (f2 a b g) as (zF z || (oa.str && ob.str)) z := by
 unfold WD f2 at *
 rw [ha]; show ((b as).bind _) = _
 rw [hb]; show ((g oa.toD ob.toD).bind _) = _
 rw [hg]
 show (if (zF z || (meet (some oa.str) (some ob.str)).isSome) = true then _ else _ : Option RV).bind _ = _
 rw [if_pos (by unfold meet; simp)]
 rfl
theorem yP {g : D -> D -> Option R0} (ha : WD a as s x) (hb : WD b as t y) (hg : g x y = some (.im z)) (e : zF z = true) : WD (f2 a b g) as true z := by
 have := zlk ha hb hg; rw [e] at this; exact this
theorem yN (ha : WD a as s (.int i)) (hb : WD b as t (.int j)) : WD (f2 a b (zp .Add)) as true (.int (i + j)) := yP ha hb rfl rfl
theorem zft (ha : WD a as s (.int i)) (hb : WD b as t (.int j)) : WD (f2 a b (zp .Sub)) as true (.int (i - j)) := yP ha hb rfl rfl
theorem wI (ha : WD a as s (.int i)) (hb : WD b as t (.int j)) (h1 : i.natAbs < big) (h2 : j.natAbs < big) : WD (f2 a b (zp .Mult)) as true (.int (i * j)) := yP ha hb (by show (if _ then _ else _) = _; rw [if_pos ⟨h1, h2⟩]) rfl
theorem xZ (ha : WD a as s (.int i)) (hb : WD b as t (.int j)) (h1 : 0 < j) (h2 : j.natAbs < big) : WD (f2 a b (zp .FloorDiv)) as true (.int (i / j)) := yP ha hb (by show (if _ then _ else _) = _; rw [if_pos ⟨h1, h2⟩]) rfl
theorem yf (ha : WD a as s (.int i)) (hb : WD b as t (.int j)) (h1 : 0 < j) : WD (f2 a b (zp .Mod)) as true (.int (i % j)) := yP ha hb (by show (if _ then _ else _) = _; rw [if_pos h1]) rfl
theorem zdv {c : Bool} (ha : WD a as s x) (hb : WD b as t y) (h : eqF 60 x y = some c) : WD (f2 a b (zL .Eq)) as true (.bl c) := yP ha hb (by show (eqF 60 x y).bind _ = _; rw [h]; rfl) rfl
theorem zre {c : Bool} (ha : WD a as s x) (hb : WD b as t y) (h : eqF 60 x y = some c) : WD (f2 a b (zL .NotEq)) as true (.bl (!c)) := yP ha hb (by show (eqF 60 x y).bind _ = _; rw [h]; rfl) rfl
theorem zid (ha : WD a as s (.int i)) (hb : WD b as t (.int j)) : WD (f2 a b (zL .Lt)) as true (.bl (decide (i < j))) := yP ha hb rfl rfl
theorem zgq (ha : WD a as s (.int i)) (hb : WD b as t (.int j)) : WD (f2 a b (zL .Gt)) as true (.bl (decide (j < i))) := yP ha hb rfl rfl
theorem yH {c : Bool} (h : WD f as s x) (e : truth x = some c) : WT (fT f) as c := by
 unfold WT fT; unfold WD at h
 rw [h]; show ((truth x).bind _) = _
 rw [e]; rfl
theorem YT {c : TF} {k : Bool} (h : WT c as k) : WT (Zb c) as (!k) := by unfold WT Zb at *; rw [h]; rfl
theorem zbt {c e : TF} {k l : Bool} (h : WT c as k) (h2 : k = true -> WT e as l) (h3 : k = false -> l = false) : WT (Yu c e) as l := by
 unfold WT Yu at *; rw [h]
 cases k with
 | true => exact h2 rfl
 | false => rw [h3 rfl]; rfl
theorem Wy {c e : TF} {k l : Bool} (h : WT c as k) (h2 : k = false -> WT e as l) (h3 : k = true -> l = true) : WT (Yb c e) as l := by
 unfold WT Yb at *; rw [h]
 cases k with
 | false => exact h2 rfl
 | true => rw [h3 rfl]; rfl
theorem zpF {k l : Bool} (h : WD a as s (.bl k)) (h2 : k = true -> WD b as true (.bl l)) (h3 : k = false -> l = false) : WD (znz a b) as true (.bl l) := by
 unfold WD znz at *; rw [h]
 cases k with
 | true => exact h2 rfl
 | false => rw [h3 rfl]; rfl
theorem zP : WA aN as [] := rfl
theorem zy {fr : AF} {rs : List (Bool × D)} (ha : WD a as s x) (hr : WA fr as rs) : WA (aC a fr) as ((s, x) :: rs) := by
 unfold WA aC at *; unfold WD at ha
 rw [ha]; show ((fr as).bind _) = _
 rw [hr]; rfl
theorem zbG : ∀ rs : List (Bool × D), Wj as (rs.map (λ x => .ow (.lf x.1 x.2))) = some (rs.map λ x => (zF x.2 || x.1, x.2))
 | [] => rfl
 | r :: rs => by
  show (zlm as (.ow (.lf r.1 r.2))).bind _ = _
  show (Wj as (rs.map _)).bind _ = _
  rw [zbG rs]; rfl
theorem Xk : ∀ rs : List (Bool × D), views as (rs.map (λ x => .ow (.lf x.1 x.2))) = some (rs.map (·.2), some (rs.all (·.1)))
 | [] => rfl
 | r :: rs => by
  show (views as (rs.map _)).bind _ = _
  rw [Xk rs]; rfl
theorem vq {fr : AF} {rs : List (Bool × D)} {g : List (Bool × D) -> Option O} (ha : WA fr as rs) (hg : g (rs.map λ x => (zF x.2 || x.1, x.2)) = some (.lf s x)) : WD (zJ fr g) as s x := by
 unfold WD zJ; unfold WA at ha
 rw [ha]; show (Wj as _).bind _ = _
 rw [zbG]; show (g _).bind _ = _
 rw [hg]; rfl
theorem ZF {fr : AF} {rs : List (Bool × D)} {o : O} {g : List (Bool × D) -> Option O} (ha : WA fr as rs) (hg : g (rs.map λ x => (zF x.2 || x.1, x.2)) = some o) : zJ fr g as = some (.ow o, as) := by
 unfold zJ; unfold WA at ha
 rw [ha]; show (Wj as _).bind _ = _
 rw [zbG]; show (g _).bind _ = _
 rw [hg]; rfl
theorem zmT {fr : AF} {rs : List (Bool × D)} {g : List D -> Option R0} (ha : WA fr as rs) (hg : g (rs.map (·.2)) = some (.im x)) : WD (fP fr g) as (zF x || rs.all (·.1)) x := by
 unfold WD fP; unfold WA at ha
 rw [ha]; show (views as _).bind _ = _
 rw [Xk]; show (g _).bind _ = _
 rw [hg]
 show (if (zF x || (some (rs.all (·.1))).isSome) = true then _ else _ : Option RV).bind _ = _
 rw [if_pos (by simp)]; rfl
theorem ZQ {fr : AF} {rs : List (Bool × D)} {g : List D -> Option R0} (ha : WA fr as rs) (hg : g (rs.map (·.2)) = some (.im x)) (e : zF x = true) : WD (fP fr g) as true x := by
 have := zmT ha hg; rw [e] at this; exact this
theorem yG : WO dN as [] := rfl
theorem z9 {fr : DF} {os : List O} (ha : WD a as s x) (hr : WO fr as os) : WO (dC a fr) as (.lf s x :: os) := by
 unfold WO dC at *; unfold WD at ha
 rw [ha]; show ((fr as).bind _) = _
 rw [hr]; rfl
theorem Yp {fr : DF} {os : List O} (h : WO fr as os) (hl : os.length <= sizeLine) : vd fr as = some (.ow (.nd .ls os), as) := by
 unfold vd; unfold WO at h
 rw [h]; show (if os.length <= sizeLine then _ else _) = _
 rw [if_pos hl]
theorem zZ {f g : SF} {as1 : AS} {o : Option Out} (h1 : f as = some (.nx as1)) (h2 : g as1 = o) : zA f g as = o := by unfold zA; rw [h1]; exact h2
theorem VM {f g : SF} {o : O} (h1 : f as = some (.rt o)) : zA f g as = some (.rt o) := by unfold zA; rw [h1]; rfl
theorem Zc {c : TF} {f g : SF} {o : Option Out} (h : WT c as true) (h1 : f as = o) : sIf c f g as = o := by unfold sIf; unfold WT at h; rw [h]; exact h1
theorem yD {c : TF} {f g : SF} {o : Option Out} (h : WT c as false) (h1 : g as = o) : sIf c f g as = o := by unfold sIf; unfold WT at h; rw [h]; exact h1
theorem yC {i : Nat} {st : Bool} (h : WD f as s x) (hi : i < as.length) : zK st i f as = some (.nx (as.set i (some (.lf s x)))) := by
 unfold zK; unfold WD at h
 rw [h]
 cases st <;> exact if_pos hi
theorem xY {i : Nat} {o : O} (h : f as = some (.ow o, as)) (hi : i < as.length) : zK false i f as = some (.nx (as.set i (some o))) := by
 unfold zK
 rw [h]
 exact if_pos hi
theorem znv {i : Nat} {o : O} (h : f as = some (.ow o, as)) (hi : i < as.length) : zK true i f as = some (.nx (as.set i (some o.frz))) := by
 unfold zK
 rw [h]
 exact if_pos hi
theorem Y8 (h : WD f as true x) : yh f as = some (.rt (.lf true x)) := by unfold yh; unfold WD at h; rw [h]; rfl
theorem WQ {n m : Nat} {c : SF} {ds : List (Bool × D)} {o : O} (hl : ds.length = m) (h : c (yE n ds) = some (.rt o)) : fnR n m c ds = some o := by unfold fnR; rw [if_pos hl, h]; rfl
theorem xT {g : GF} {f : SF} (I : Nat -> AS -> Prop) : ∀ (xs : List It1) (k : Nat) (as : AS), (∀ i x as, xs[i]? = some x -> I (k + i) as -> ∃ as1, g x as = some as1 /\ ∃ as2, f as1 = some (.nx as2) /\ I (k + i + 1) as2) -> I k as -> ∃ as', forL g f xs as = some (.nx as') /\ I (k + xs.length) as'
 | [], k, as, _, h => ⟨as, rfl, h⟩
 | x :: r, k, as, st, h => by
  obtain ⟨as1, h1, as2, h2, h3⟩ := st 0 x as rfl h
  obtain ⟨as', h4, h5⟩ := xT I r (k + 1) as2 (λ i y as e q => by
   obtain ⟨u, k1, v, k2, k3⟩ := st (i + 1) y as e (by rw [show k + (i + 1) = k + 1 + i by omega]; exact q)
   exact ⟨u, k1, v, k2, by rw [show k + 1 + i + 1 = k + (i + 1) + 1 by omega]; exact k3⟩) h3
  refine ⟨as', ?_, by rw [zzQ, show k + (r.length + 1) = k + 1 + r.length by omega]; exact h5⟩
  show (g x as).bind _ = _
  rw [h1]; show (f as1).bind _ = _
  rw [h2]; exact h4
theorem wU {fi : IF} {g : GF} {f : SF} {xs : List It1} {as' : AS} {o : Option Out} (h : fi as = some (xs, as')) (h2 : forL g f xs as' = o) : xm fi g f as = o := by unfold xm; rw [h]; exact h2
theorem xX {lo : Int} {n i : Nat} {x : It1} (h : (xf lo n)[i]? = some x) : x = (true, .int (lo + i)) /\ i < n := by
 unfold xf at h
 rw [zzF] at h
 cases e : (List.range n)[i]? with
 | none => rw [e] at h; cases h
 | some k =>
  rw [e] at h
  obtain ⟨h1, h2⟩ := zzD.mp e
  rw [List.length_range] at h1
  rw [List.getElem_range] at h2
  subst h2
  exact ⟨(Option.some.inj h).symm, h1⟩
theorem ww {fr : AF} {j : Int} {u : Bool} (h : WA fr as [(u, .int j)]) (h0 : 0 <= j) (h1 : j < 1000000) : yI fr yO as = some (xf 0 j.toNat, as) := by
 unfold yI; unfold WA at h
 rw [h]
 simp only [Option.bind_some, Xk]
 show ((if -(2 ^ 62) <= j /\ j < 2 ^ 62 then some (xf 0 j.toNat) else none).bind _) = _
 rw [if_pos ⟨by omega, by omega⟩]; rfl
theorem zgG {fr : AF} {rs : List (Bool × D)} {o : O} (ha : a as = some (.ow o, as)) (hr : WA fr as rs) : WA (aC a fr) as ((o.str, o.toD) :: rs) := by
 unfold WA aC at *
 rw [ha]; show ((fr as).bind _) = _
 rw [hr]; rfl
theorem VH {i : Nat} {o : O} (h : as[i]? = some (some o)) : RV.view as (.bo i) = some (o.toD, o.kl) := by simp only [RV.view, h]
theorem zok {i : Nat} {o : O} (h : as[i]? = some (some o)) : toO as (.bo i) = some (o.frz, as.set i (some o.frz)) := by simp only [toO, h]
theorem zmv {i : Nat} {o : O} (h : as[i]? = some (some o)) (hs : o.str = true) : zku as (.bo i) = some o := by simp only [zku, h, hs, if_true]
theorem zcf {i : Nat} {k : Kind} {os : List O} (h : as[i]? = some (some (.nd k os))) : fV i as = some (.bo i, as) := by unfold fV; rw [h]
theorem zql {i : Nat} {os : List O} (h : as[i]? = some (some (.nd .ls os))) : WD (fP (aC (fV i) aN) vU) as true (.int os.length) := by
 have e : views as [.bo i] = some ([.lst (O.toDs os)], meet (O.nd .ls os).kl (some true)) := by
  show (RV.view as (.bo i)).bind _ = _
  rw [VH h]; rfl
 unfold WD fP aC
 rw [zcf h]
 simp only [Option.bind_some, aN, RV.frz, e]
 rw [show vU [.lst (O.toDs os)] = some (.im (.int os.length)) by show some (R0.im (.int ((O.toDs os).length : Nat))) = _; rw [WY]]
 rfl
theorem Zn {g : GF} {f : SF} {d : It1} {r : List It1} {as1 as2 : AS} {o : Option Out} (h1 : g d as = some as1) (h2 : f as1 = some (.nx as2)) (h3 : forL g f r as2 = o) : forL g f (d :: r) as = o := by
 show (g d as).bind _ = _
 rw [h1]; show (f as1).bind _ = _
 rw [h2]; exact h3
theorem zgS {g : GF} {f : SF} {d : It1} {r : List It1} {as1 : AS} {o : O} (h1 : g d as = some as1) (h2 : f as1 = some (.rt o)) : forL g f (d :: r) as = some (.rt o) := by
 show (g d as).bind _ = _
 rw [h1]; show (f as1).bind _ = _
 rw [h2]; rfl
theorem zdD {i : Nat} {os : List O} (h : as[i]? = some (some (.nd .ls os))) (hl : os.length < sizeLine) (ha : WD a as s x) : yV (wF i (dC a dN) v4) as = some (.nx (as.set i (some (.nd .ls (os ++ [.lf s x]))))) := by
 unfold yV wF; rw [h]
 have e : dC a dN as = some ([.lf s x], as) := z9 ha yG
 show ((dC a dN as).bind _).bind _ = _
 rw [e]; show (Option.bind (match as[i]? with | some (some (.nd .ls os)) => _ | _ => none) _) = _
 rw [h]; show ((v4 os [.lf s x]).bind _).bind _ = _
 have e2 : v4 os [.lf s x] = some (os ++ [.lf s x], .lf true .non) := by unfold v4; exact if_pos hl
 rw [e2]; rfl
theorem zlu {i : Nat} {os : List O} {k : Int} {o : O} (h : as[i]? = some (some (.nd .ls os))) (ha : WD a as s (.int k)) (h0 : 0 <= k) (h1 : k < os.length) (hs : os.length < 2 ^ 60) (ho : os[k.toNat]? = some o) : wF i (dC a dN) XQ as = some (.ow o, as.set i (some (.nd .ls (os.eraseIdx k.toNat)))) := by
 unfold wF; rw [h]
 have e : dC a dN as = some ([.lf s (.int k)], as) := z9 ha yG
 show ((dC a dN as).bind _) = _
 rw [e]; show (match as[i]? with | some (some (.nd .ls os)) => _ | _ => none) = _
 rw [h]; show ((XQ os [.lf s (.int k)]).bind _) = _
 have e2 : XQ os [.lf s (.int k)] = some (os.eraseIdx k.toNat, o) := by
  unfold XQ
  show (if -(2 ^ 63) <= k /\ k < 2 ^ 63 then _ else _) = _
  rw [if_pos ⟨by omega, by omega⟩]
  have e3 : seqIndex? k os.length = some k.toNat := by unfold seqIndex?; simp; omega
  rw [e3]; show ((os[k.toNat]?).bind _) = _
  rw [ho]; rfl
 rw [e2]; rfl
theorem zhD {g : GF} {o : O} {as' : AS} (h : f as = some (.ow o, as)) (hg : g (o.str, o.toD) as = some as') : zeg f g as = some (.nx as') := by
 unfold zeg; rw [h]
 show (g (o.str, o.toD) as).bind _ = _
 rw [hg]; rfl
theorem zcH {i : Nat} {o : O} (h : as[i]? = some (some o)) (hs : o.str = true) : yh (fV i) as = some (.rt o) := by
 cases o with
 | lf st d => unfold yh fV; rw [h]; have : st = true := hs; subst this; rfl
 | nd k os =>
  unfold yh; rw [zcf h]; show (zku as (.bo i)).bind _ = _
  rw [zmv h hs]; rfl
theorem zoK {g : D -> D -> Option R0} {oa ob : O} {zs : List D} {as1 as2 : AS} (ha : a as = some (.ow oa, as1)) (hb : b as1 = some (.ow ob, as2)) (hg : g oa.toD ob.toD = some (.fl zs)) : f2 a b g as = some (.ow (.nd .ls (zs.map (lfs (oa.str && ob.str)))), as2) := by
 unfold f2
 rw [ha]; show ((b as1).bind _) = _
 rw [hb]; show ((g oa.toD ob.toD).bind _) = _
 rw [hg]
 show (if (zs.all zF || (meet (some oa.str) (some ob.str)).isSome) = true then _ else _ : Option RV).bind _ = _
 rw [if_pos (by unfold meet; simp)]
 rfl
theorem Zu {g : D -> D -> Option R0} (ha : WD a as true x) (hb : WD b as true y) (hg : g x y = some (.im z)) : WD (f2 a b g) as true z := by
 have := zlk ha hb hg
 rw [show (zF z || (true && true)) = true by simp] at this
 exact this
theorem VL : ∀ zs : List D, zs.map (lfs true) = zs.map (O.lf true)
 | [] => rfl
 | z :: r => by
  show lfs true z :: r.map (lfs true) = _
  rw [VL r]; unfold lfs; rw [Bool.or_true]; rfl
theorem zmj {g : D -> D -> Option R0} {oa ob : O} {zs : List D} {as1 as2 : AS} (ha : a as = some (.ow oa, as1)) (hb : b as1 = some (.ow ob, as2)) (hg : g oa.toD ob.toD = some (.fl zs)) (h1 : oa.str = true) (h2 : ob.str = true) : f2 a b g as = some (.ow (.nd .ls (zs.map (O.lf true))), as2) := by
 have := zoK ha hb hg
 rw [h1, h2, show (true && true) = true from rfl, VL] at this
 exact this
theorem Yw {fr : DF} {o : O} {os : List O} {as1 as2 : AS} (ha : a as = some (.ow o, as1)) (hr : fr as1 = some (os, as2)) : dC a fr as = some (o :: os, as2) := by
 unfold dC
 rw [ha]; show ((fr as1).bind _) = _
 rw [hr]; rfl
theorem add_lists {xs ys : List D} (h : xs.length + ys.length <= sizeLine) : zp .Add (.lst xs) (.lst ys) = some (.fl (xs ++ ys)) := if_pos h
theorem zes (lo : Int) (n : Nat) : xf lo (n + 1) = (true, .int lo) :: xf (lo + 1) n := by
 unfold xf
 rw [List.range_succ_eq_map, List.map_cons, List.map_map]
 congr 1
 · simp
 · apply List.map_congr_left
   intro i _
   show (true, D.int _) = (true, D.int _)
   congr 2
   show lo + ((i + 1 : Nat) : Int) = _
   omega
theorem zmw {ty : Ty} {fr : AF} {rs : List (Bool × D)} {g : D -> List D -> Option R0} (ha : WD a as s y) (ht : zlY ty y = true) (hr : WA fr as rs) (hg : g y (rs.map (·.2)) = some (.im x)) (e : zF x = true) : WD (zdh ty a fr g) as true x := by
 unfold WD zdh; unfold WD at ha; unfold WA at hr
 rw [ha]
 show (if zlY ty y = true then _ else _ : Option (RV × AS)) = _
 rw [if_pos ht, hr]
 simp only [Option.bind_some, Xk]
 show ((g y (rs.map (·.2))).bind _) = _
 rw [hg]
 show (if (zF x || _) = true then _ else _ : Option RV).bind _ = _
 rw [if_pos (by rw [e]; rfl)]
 show some (RV.ow (.lf (zF x || _) x), as) = _
 rw [e]; rfl
theorem zjm {g : GF} {fe : EF} {as0 as1 : AS} {y : It1} {r : List It1} {os : List O} (h1 : g y as0 = some as1) (h2 : WD fe as1 true x) (h3 : xO g xr fe as0 r = some os) : xO g xr fe as0 (y :: r) = some (.lf true x :: os) := by
 show (g y as0).bind _ = _
 rw [h1]; show (fe as1).bind _ = _
 unfold WD at h2
 rw [h2]; show (xO g xr fe as0 r).bind _ = _
 rw [h3]; rfl
theorem zcN {fi : IF} {cap : List (Option Nat)} {g : GF} {tt : TF} {fe : EF} {xs : List It1} {os : List O} (h1 : fi as = some (xs, as)) (hl : xs.length <= sizeLine) (h2 : xO g tt fe (YB cap as) xs = some os) : yp fi cap g tt fe as = some (.ow (.nd .ls os), as) := by
 unfold yp
 rw [h1]; show (if xs.length <= sizeLine then _ else _) = _
 rw [if_pos hl]; show (xO g tt fe (YB cap as) xs).bind _ = _
 rw [h2]; rfl
theorem zcW {fr : AF} {rs : List RV} {xs : List (Bool × D)} {o : O} {g : List (Bool × D) -> Option O} (ha : fr as = some (rs, as)) (hx : Wj as rs = some xs) (hg : g xs = some o) : zJ fr g as = some (.ow o, as) := by
 unfold zJ
 rw [ha]; show (Wj as rs).bind _ = _
 rw [hx]; show (g xs).bind _ = _
 rw [hg]; rfl
end
theorem szl {n : Nat} (h : Nat.ble n 1000 = true) : n <= sizeLine := Nat.le_of_lt (yM (Nat.le_of_ble_eq_true h))
theorem zG {a b : Nat} (h : Nat.ble (a + 1) b = true) : a < b := Nat.le_of_ble_eq_true h
theorem zT {i : Int} (h0 : -(10 ^ 200) < i) (h1 : i < 10 ^ 200) : i.natAbs < big := by
 have : (10 : Nat) ^ 200 < big := by unfold big; decide +kernel
 have e : ((10 ^ 200 : Nat) : Int) = (10 : Int) ^ 200 := by norm_cast
 have : (i.natAbs : Int) < ((10 ^ 200 : Nat) : Int) := by rw [e]; omega
 omega
theorem zmf {ns : List Int} {k : Int} (h0 : 0 <= k) (h1 : k < ns.length) : ∃ x, ixP (.lst (ns.map D.int)) (.int k) = some (.im (.int x)) := by
 have hk : k.toNat < ns.length := by omega
 refine ⟨ns[k.toNat], ?_⟩
 have h := Xy (xs := ns.map D.int) (j := k.toNat) (v := D.int ns[k.toNat]) (by rw [zzF, zzB hk]; rfl)
 rw [show ((k.toNat : Nat) : Int) = k by omega] at h
 show imR (atI _ _) = _
 rw [h]; rfl
section
variable {X : Cx} {kd : KD} {K : zC} {mg : Str -> Option Value}
def spL (K : zC) (g : Fn) : Sp := λ vs H Q E => ∀ kd : KD, spD K kd g vs H Q E
end
def Xa (fa fb fc : EF) (g g' : D -> D -> Option R0) : EF := λ as => (fa as).bind λ p => (fb p.2).bind λ q => (p.1.frz.view q.2).bind λ x => (q.1.frz.view q.2).bind λ y => (g x.1 y.1).bind λ r => match r with
 | .im (.bl true) => (fc q.2).bind λ t => (q.1.frz.view t.2).bind λ y' => (t.1.frz.view t.2).bind λ z => (g' y'.1 z.1).bind λ r' => (wrap (meet y'.2 z.2) r').bind λ o => some (o, t.2)
 | .im (.bl false) => some (.ow (.lf true (.bl false)), q.2)
 | _ => none
def lfO : O -> Option (Bool × D)
 | .lf s d => some (s, d)
 | _ => none
theorem zlJ {o : O} {p : Bool × D} (h : lfO o = some p) : o = .lf p.1 p.2 := by
 cases o with
 | lf s d => cases h; rfl
 | nd k os => cases h
def zkm (i j : Nat) (fd : DF) : SF := λ as => (fd as).bind λ p => (zqu p.1).bind λ o => (lfO o.1).bind λ a => (lfO o.2).bind λ b => if i < p.2.length /\ j < p.2.length then some (.nx ((p.2.set i (some (.lf a.1 a.2))).set j (some (.lf b.1 b.2)))) else none
section
variable {X : Cx} {kd : KD} {a b : Expr} {fd : DF} {pos : Pos}
theorem zpw {i j : Nat} {x y : Str} {px py pt : Pos} {kt k2 pt2} (hc : X.calm = true) (hN : X.N.Nodup) (hi : X.N[i]? = some x) (hj : X.N[j]? = some y) (hij : i ≠ j)
 (hx : X.env.scope.names.lookup x = some .local) (hy : X.env.scope.names.lookup y = some .local) (ha : AD X kd [a, b] fd)
 (hw : swappedStores [.Tuple [.Name x px, .Name y py] kt pt] (.Tuple [a, b] k2 pt2) X.env = pure (some [x, y]))
 (hs : swapsWithSole [.Tuple [.Name x px, .Name y py] kt pt] (.Tuple [a, b] k2 pt2) pos.line X.env = pure false) :
 ASt X kd (.Assign [.Tuple [.Name x px, .Name y py] kt pt] (.Tuple [a, b] k2 pt2) pos) (zkm i j fd) := by with_unfolding_all exact (wR (zoO hc hN hi hj hij hx hy ha hw hs) λ D σ H h => by
 obtain ⟨F, B, ad, as, o, R, e, q⟩ := h
 obtain ⟨⟨os, as1⟩, h1, e⟩ := bS_ (show (fd as).bind _ = _ from e)
 obtain ⟨⟨o1, o2⟩, e1, e⟩ := bS_ e
 obtain ⟨⟨s1, d1⟩, e2, e⟩ := bS_ e
 obtain ⟨⟨s2, d2⟩, e3, e⟩ := bS_ e
 cases zlV e1
 cases zlJ e2
 cases zlJ e3
 · obtain ⟨⟨l1, l2⟩, e⟩ := zQ e
   cases e
   refine ⟨F, B, ad, as, _, as1, R, h1, λ vs T' ad' H' R' rl g => ?_⟩
   cases rl with
   | cons ra rb =>
    cases rb with
    | cons rb rn =>
     cases rn
     cases ra with
     | lf ra =>
      cases rb with
      | lf rb =>
       refine ⟨_, _, rfl, ?_⟩
       have R2 := R'.put (T := []) (i := i) (o := .lf s1 d1) l1 (.lf ra)
       have R3 := R2.put (T := []) (i := j) (o := .lf s2 d2) (by rw [zzR]; exact l2) (RoS.less xx (.lf rb))
       exact q _ _ _ R3 (g.trans (Grow.less λ a z => xx a (xx a z))))
end
inductive Ents (w : World) : List DictEntry -> List (Key × V) -> Prop
 | nil : Ents w [] []
 | str {x : Str} {t : Tok} {v : V} {u : Value} {r : List DictEntry} {s : List (Key × V)} : RelV v u -> Ents w r s -> Ents w (⟨PyData.keyHash w.params x, .str x t, u⟩ :: r) ((.inr x, v) :: s)
theorem Ents.keys {P : Program} {w : World} : ∀ {es : List DictEntry} {kvs : List (Key × V)}, Ents w es kvs -> ∀ e ∈ es, ∃ k, (yX P w).is k e.key = true /\ e.hash = (yX P w).hash k
 | _, _, .nil, _, m => nomatch m
 | _, _, .str (x := x) (t := t) _ r, e, m => by
  rcases zS.mp m with rfl | m
  · exact ⟨.inr x, W5 P w x t, rfl⟩
  · exact r.keys e m
theorem Ents.pairs {P : Program} {w : World} : ∀ {es : List DictEntry} {kvs : List (Key × V)}, Ents w es kvs -> ∃ vs, KV kvs vs /\ Pairs (yX P w) es vs /\ vs.map (·.1) = kvs.map (·.1)
 | _, _, .nil => ⟨[], .nil, .nil, rfl⟩
 | _, _, .str (x := x) (t := t) (u := u) h r => by
  obtain ⟨vs, h1, h2, h3⟩ := r.pairs (P := P)
  exact ⟨(.inr x, u) :: vs, .cons ⟨rfl, h⟩ h1, .cons (W5 P w x t) rfl h2, by rw [List.map_cons, List.map_cons, h3]⟩
structure DctAt (w : World) (K : zC) (a : Addr) (kvs : List (Key × V)) : Prop where
 ex : ∃ es ep, K.lookup a = some { cls := .type "dict", data := .dict es ep } /\ Ents w es.toList kvs
 nd : (kvs.map (·.1)).Nodup
 le : kvs.length <= sizeLine
 ns : (a == sysModules) = false
def kdL (l : List (Addr × List (Key × V))) (c : Str -> Addr := λ _ => 0) : KD := ⟨λ a k => l.lookup a = some k, c⟩
theorem lookup_mem {l : List (Addr × List (Key × V))} {a : Addr} {k : List (Key × V)} (h : l.lookup a = some k) : (a, k) ∈ l := by
 induction l with
 | nil => cases h
 | cons p r ih =>
  rw [List.lookup_cons] at h
  by_cases e : a = p.1
  · subst e
    rw [beq_self_eq_true] at h
    cases h
    exact zzC
  · rw [show (a == p.1) = false from beq_eq_false_iff_ne.mpr e] at h
    exact zzA _ (ih h)
theorem zpG {P : Program} {w : World} {K : zC} {l : List (Addr × List (Key × V))} {c : Str -> Addr} (h : ∀ p ∈ l, DctAt w K p.1 p.2) : KD1 P w K (kdL l c) := λ X e1 e2 e3 => by
 subst e1; subst e2; subst e3
 refine ⟨λ a k k' h1 h2 => Option.some.inj (h1.symm.trans h2), λ a k h1 => ?_, λ a k hp h1 hin => ?_⟩
 · obtain ⟨es, ep, e, _⟩ := (h _ (lookup_mem h1)).ex
   exact ⟨_, e⟩
 · have q := h _ (lookup_mem h1)
   obtain ⟨es, ep, e, en⟩ := q.ex
   obtain ⟨vs, h2, h3, h4⟩ := en.pairs (P := X.prog)
   refine ⟨q.le, q.ns, vs, h2, _, es, ep, hin _ _ e, ⟨rfl, rfl, rfl⟩, rfl, λ x m => en.keys x (by simpa using m), h3, by rw [h4]; exact q.nd⟩
def isStar : Expr -> Bool
 | .Starred .. => true
 | _ => false
theorem za {a : Expr} {es : List Expr} {env : Env} (h : isStar a = false) : starEach (a :: es) env = (false, eval a env) :: starEach es env := by
 cases a <;> first | rfl | cases h
section
variable {as : AS} {f a b c : EF} {s t u : Bool} {x y z : D} {i j k : Int}
theorem zoq {cl : String} (h : WD f as s x) (ho : zgp x = true := by rfl) : WD (zbO f cl) as true (.bl (zdE (tyD x) cl)) := by
 unfold WD zbO at *; rw [h]; show (if zgp x = true then _ else _) = _; rw [if_pos ho]; rfl
theorem zkD {cl : String} {q : Bool} (h : WD f as s x) (e : zdE (tyD x) cl = q) (ho : zgp x = true := by rfl) : WD (zbO f cl) as true (.bl q) := by subst e; exact zoq h ho
theorem zqc {q : Bool} (h : WD f as s (.bl q)) : WD (znC f) as true (.bl (!q)) := by
 unfold WD znC at *; rw [h]; rfl
theorem zis (ha : WD a as s (.int i)) (hb : WD b as t (.int j)) (hc : WD c as u (.int k)) : WD (Xa a b c (zL .LtE) (zL .Lt)) as true (.bl (decide (i <= j) && decide (j < k))) := by
 unfold WD at *
 by_cases h : i <= j
 · unfold Xa
   rw [ha]; simp only [Option.bind_some]
   rw [hb]; simp only [Option.bind_some]
   simp only [RV.frz, O.frz, RV.view, O.toD, O.str, Option.bind_some, zL, zhk, onI, asI, blR, h, decide_true, hc, Bool.true_and]
   rfl
 · unfold Xa
   rw [ha]; simp only [Option.bind_some]
   rw [hb]; simp only [Option.bind_some]
   simp only [RV.frz, O.frz, RV.view, O.toD, O.str, Option.bind_some, zL, zhk, onI, asI, blR, h, decide_false, Bool.false_and]
theorem zlS {cc : TF} {g : SF} {n : Nat} {as1 : AS} {o : Option Out} (h : WT cc as true) (h1 : g as = some (.nx as1)) (h2 : whL cc g n as1 = o) : whL cc g (n + 1) as = o := by
 unfold WT at h
 show (cc as).bind _ = _
 rw [h]; show (g as).bind _ = _
 rw [h1]; exact h2
theorem zlC {cc : TF} {g : SF} {n : Nat} (h : WT cc as false) : whL cc g (n + 1) as = some (.nx as) := by
 unfold WT at h
 show (cc as).bind _ = _
 rw [h]; rfl
theorem zoI {p q : Nat} {fd : DF} (h : WO fd as [.lf s x, .lf t y]) (hi : p < as.length) (hj : q < as.length) : zkm p q fd as = some (.nx ((as.set p (some (.lf s x))).set q (some (.lf t y)))) := by
 unfold zkm; unfold WO at h
 rw [h]; show (if _ then _ else _) = _
 rw [if_pos ⟨hi, hj⟩]
theorem zjL {g : GF} {tt : TF} {fe : EF} {as0 as1 : AS} {w : It1} {r : List It1} {o : Option (List O)} (h1 : g w as0 = some as1) (h2 : WT tt as1 false) (h3 : xO g tt fe as0 r = o) : xO g tt fe as0 (w :: r) = o := by
 unfold WT at h2
 show (g w as0).bind _ = _
 rw [h1]; show (tt as1).bind _ = _
 rw [h2]; exact h3
def WE (f : EF) (as : AS) (x : D) : Prop := ∃ o, f as = some (.ow o, as) /\ o.str = true /\ o.toD = x
def RE (r : Option O) (x : D) : Prop := ∃ o, r = some o /\ o.str = true /\ o.toD = x
theorem WD.e (h : WD f as true x) : WE f as x := ⟨_, h, rfl, rfl⟩
theorem ZC {fr : DF} {os : List O} (h : WO fr as os) (hl : os.length <= sizeLine) (hs : O.strs os = true) (e : D.lst (O.toDs os) = x) : WE (vd fr) as x := ⟨_, Yp h hl, hs, e⟩
theorem zax {fr : AF} {rs : List (Bool × D)} (h : WE a as x) (hr : WA fr as rs) : WA (aC a fr) as ((true, x) :: rs) := by
 obtain ⟨o, h1, h2, rfl⟩ := h
 have := zgG h1 hr
 rw [h2] at this
 exact this
theorem zay {g : List (Bool × D) -> Option O} (ha : WE a as x) (hg : RE (g [(true, x)]) z) : WE (zJ (aC a aN) g) as z := by
 obtain ⟨o, h1, h2, h3⟩ := hg
 exact ⟨o, ZF (zax ha zP) (by show g [(zF x || true, x)] = _; rw [Bool.or_true]; exact h1), h2, h3⟩
theorem zkU {g : List (Bool × D) -> Option O} (ha : WE a as x) (hb : WE b as y) (hg : RE (g [(true, x), (true, y)]) z) : WE (zJ (aC a (aC b aN)) g) as z := by
 obtain ⟨o, h1, h2, h3⟩ := hg
 exact ⟨o, ZF (zax ha (zax hb zP)) (by show g [(zF x || true, x), (zF y || true, y)] = _; rw [Bool.or_true, Bool.or_true]; exact h1), h2, h3⟩
theorem zeV {w : D} {g : List (Bool × D) -> Option O} (ha : WE a as x) (hb : WE b as y) (hc : WE c as w) (hg : RE (g [(true, x), (true, y), (true, w)]) z) : WE (zJ (aC a (aC b (aC c aN))) g) as z := by
 obtain ⟨o, h1, h2, h3⟩ := hg
 exact ⟨o, ZF (zax ha (zax hb (zax hc zP))) (by show g [(zF x || true, x), (zF y || true, y), (zF w || true, w)] = _; rw [Bool.or_true, Bool.or_true, Bool.or_true]; exact h1), h2, h3⟩
theorem zpt {g : List (Bool × D) -> Option O} (ha : WE a as x) (hb : WE b as y) (hg : g [(true, x), (true, y)] = some (.lf s z)) : WD (zJ (aC a (aC b aN)) g) as s z := ZF (zax ha (zax hb zP)) (by show g [(zF x || true, x), (zF y || true, y)] = _; rw [Bool.or_true, Bool.or_true]; exact hg)
theorem f2E {g : D -> D -> Option R0} (ha : WE a as x) (hb : WE b as y) (hg : g x y = some (.im z)) : WD (f2 a b g) as true z := by
 obtain ⟨o, h1, h2, rfl⟩ := ha
 obtain ⟨p, h3, h4, rfl⟩ := hb
 have := zqH h1 h3 hg
 rw [h2, h4, Bool.and_true, Bool.or_true] at this
 exact this
theorem f2L {g : D -> D -> Option R0} {zs : List D} (ha : WE a as x) (hb : WE b as y) (hg : g x y = some (.fl zs)) : f2 a b g as = some (.ow (.nd .ls (zs.map (O.lf true))), as) := by
 obtain ⟨o, h1, h2, rfl⟩ := ha
 obtain ⟨p, h3, h4, rfl⟩ := hb
 exact zmj h1 h3 hg h2 h4
theorem zdS : ∀ zs : List D, O.strs (zs.map (O.lf true)) = true
 | [] => rfl
 | _ :: r => zdS r
theorem zek : ∀ zs : List D, O.toDs (zs.map (O.lf true)) = zs
 | [] => rfl
 | z :: r => congrArg (z :: ·) (zek r)
theorem zpP {g : D -> D -> Option R0} {zs : List D} (ha : WE a as x) (hb : WE b as y) (hg : g x y = some (.fl zs)) : WE (f2 a b g) as (.lst zs) := ⟨_, f2L ha hb hg, zdS zs, congrArg D.lst (zek zs)⟩
theorem Z4 {p : Nat} (h : WE f as x) (hi : p < as.length) : zK true p f as = some (.nx (as.set p (some (.lf true x)))) := by
 obtain ⟨o, h1, h2, rfl⟩ := h
 have := znv h1 hi
 rw [show o.frz = .lf true o.toD by unfold O.frz; rw [h2]] at this
 exact this
theorem zeQ {q : Bool} (ha : WE a as x) (hb : WE b as y) (h : eqF 60 x y = some q) : WD (f2 a b (zL .Eq)) as true (.bl q) := f2E ha hb (by show (eqF 60 x y).bind _ = _; rw [h]; rfl)
theorem zds {q : Bool} (ha : WE a as x) (hb : WE b as y) (h : eqF 60 x y = some q) : WD (f2 a b (zL .NotEq)) as true (.bl (!q)) := f2E ha hb (by show (eqF 60 x y).bind _ = _; rw [h]; rfl)
theorem zoU {fr : DF} {o : O} {os : List O} (ha : a as = some (.ow o, as)) (hr : WO fr as os) : WO (dC a fr) as (o :: os) := Yw ha hr
theorem zhE {fr : DF} {os : List O} (h : WO fr as os) (hl : os.length <= sizeLine) : yF fr as = some (.ow (Yv os), as) := by
 unfold yF; unfold WO at h
 rw [h]; show (if os.length <= sizeLine then some (RV.ow (Yv os), as) else _) = _
 rw [if_pos hl]
theorem zhI : ∀ ds : List D, kids true ds = ds.map λ d => (true, d)
 | [] => rfl
 | d :: r => by show (zF d || true, d) :: kids true r = _; rw [zhI r, Bool.or_true]; rfl
theorem zlH {ds : List D} (h : WE f as (.lst ds)) : Z9 f as = some (ds.map λ d => (true, d), as) := by
 obtain ⟨o, h1, h2, h3⟩ := h
 unfold Z9
 rw [h1]; show (ziv (o.str, o.toD)).bind _ = _
 rw [h2, h3]; show some (kids true ds, as) = _
 rw [zhI]
theorem zlQ {ds : List D} (h : WD f as true (.lst ds)) : zfS f as = some (ds.map λ d => (true, d), as) := by
 unfold zfS; unfold WD at h
 rw [h]; show some (kids true ds, as) = _
 rw [zhI]
end
def zch : List D -> Option (List Str)
 | [] => some []
 | .str x :: r => (zch r).bind λ s => some (x :: s)
 | _ :: _ => none
theorem zmA {K : zC} {kd : KD} {O : Addr -> Prop} {H : Hp} {vs : List V} {us : List Value} {ds : List D} {ns : List Str} (h : RpL K kd O H vs ds) (hv : Vals vs us) (e : zch ds = some ns) : StrsAre us ns :=
 RpL.ind (P := λ vs ds => ∀ us ns, Vals vs us -> zch ds = some ns -> StrsAre us ns) (λ us ns hv e => by cases e; cases hv; exact .nil) (λ {v d vs ds} a _ ih us ns hv e => by
  cases hv with
  | cons b t =>
   cases a with
   | str x =>
    obtain ⟨ys, h1, h2⟩ := bS_ (show (zch _).bind _ = _ from e)
    cases h2
    obtain ⟨tk, rfl⟩ := b
    exact .cons _ _ (ih _ _ t h1)
   | _ => cases e) h us ns hv e
def zgX : D -> List D -> Option R0
 | .str sep, [.lst ds] => (zch ds).bind λ ys => if (ys.map (·.length)).sum + ys.length * sep.length <= 16777216 then some (.im (.str (Txt.join sep ys))) else none
 | _, _ => none
section
variable {X : Cx} {kd : KD}
theorem znp : MtD X kd "str.join" zgX := by
 intro pins s σ H x xs v us Q I rx r h
 obtain ⟨O, d, ds, r0, ht, vx, vl, he, q⟩ := h
 unfold zgX at he
 split at he
 · rename_i sep es
   obtain ⟨ys, h1, he⟩ := bS_ he
   obtain ⟨hz, he⟩ := zQ he
   cases he
   cases vx
   obtain ⟨t, rfl⟩ := rx
   obtain ⟨y, rfl, vy⟩ := zma vl
   cases vy with
   | lst hr rl =>
    obtain ⟨u, rfl, ru⟩ := vals1 r
    cases ru
    obtain ⟨its, rv, pl, _⟩ := I.list hr.sq
    exact join_list pl.isList (zmA rl (by simpa using rv) h1) hz λ t' k => ⟨.str _, H, I.tok _, ⟨t', rfl⟩, yr q (.str _)⟩
 · cases he
def zrz : D -> Option R0
 | .str x => if x.length <= 640 then (PySem.intText? x).bind λ n => some (.im (.int n)) else none
 | d => zru d
def Xm : List D -> Option R0 := on1 zrz
theorem Yn : CallD X kd (.type "int") Xm := by
 intro pins s σ H xs us Q I r h
 obtain ⟨O, ds, z, ht, vl, he, q⟩ := h
 obtain ⟨x, d, rfl, vx, he⟩ := zfI vl he
 cases vx with
 | str y =>
  obtain ⟨hl, he⟩ := ite_some' he
  obtain ⟨n, hn, he⟩ := bS_ he
  cases he
  obtain ⟨u, rfl, ru⟩ := vals1 r
  obtain ⟨t, rfl⟩ := ru
  exact PySem.W.KIN.call_text hn hl ⟨.int _, H, I.tok _, ⟨_, rfl⟩, yr q (.int _)⟩
 | int i => cases he; exact zeH pins s σ H _ us Q I r (.inl ⟨_, rfl, yr q (.int _)⟩)
 | bl b => cases he; exact zeH pins s σ H _ us Q I r (.inr ⟨_, rfl, yr q (.int _)⟩)
 | _ => cases he
end
theorem zkt (sep : Str) (ys : List Str) : Txt.join sep ys = Str.join sep ys := StrLaws.glued_eq_join sep ys
section
variable {as : AS} {f a b : EF} {s t : Bool} {x y z : D}
theorem zkv {xs ys : List D} : slP (.lst (xs ++ ys)) none (some (xs.length : Int)) = some (.fl xs) := by
 show some (R0.fl (cutD (xs ++ ys) none (some (xs.length : Int)))) = _
 congr 2
 unfold cutD
 rw [HT.znw, HT.zla, zzG, Nat.min_eq_left (by omega), List.drop_zero, Nat.sub_zero, List.take_left]
end
section
variable {X : Cx} {kd : KD} {tg e : Expr} {fa : EF}
theorem zmB {K : zC} {F B : Addr -> Prop} {ad : Ad} {H : Hp} {v : V} {st q : Bool} {ds : List D} (rp : Rp K kd (Lv F B (Gw [] ad) st) H v (.lst ds)) (hq : q = true -> st = true) : ∃ a vs, v = .ref a /\ (∀ (ad3 : Ad) (H3 : Hp), Grow (Gw [] ad) H (Gw [] ad3) H3 -> SqL K H3 a vs) /\ RpL K kd (Lv F B (Gw [] ad) q) H vs ds := by
 have le : ∀ a, Lv F B (Gw [] ad) q a -> Lv F B (Gw [] ad) st a := λ a z => z.imp (λ y => y.imp (λ x => ⟨hq x.1, x.2⟩) id) id
 cases rp with
 | lst hn hr rl => exact ⟨_, _, rfl, λ ad3 H3 g3 => .inl (zbn g3 (λ z => hn (.inr z)) hr), rl.less le⟩
 | lstK a b c rl => exact ⟨_, _, rfl, λ ad3 H3 g3 => .inr ⟨_, _, _, a, rfl, rfl, rfl, b, c⟩, rl.less le⟩
end
def insI (x : Int) : List Int -> List Int
 | [] => [x]
 | y :: r => if x <= y then x :: y :: r else y :: insI x r
def sortI : List Int -> List Int
 | [] => []
 | x :: r => insI x (sortI r)
theorem insI_perm (x : Int) : ∀ l : List Int, (insI x l).Perm (x :: l)
 | [] => List.Perm.refl _
 | y :: r => by
  unfold insI
  split
  · exact List.Perm.refl _
  · exact ((insI_perm x r).cons y).trans (List.Perm.swap x y r)
theorem sortI_perm : ∀ l : List Int, (sortI l).Perm l
 | [] => List.Perm.refl _
 | x :: r => (insI_perm x (sortI r)).trans ((sortI_perm r).cons x)
theorem zce (x : Int) : ∀ l : List Int, l.Pairwise (· <= ·) -> (insI x l).Pairwise (· <= ·)
 | [], _ => by simp [insI]
 | y :: r, h => by
  unfold insI
  rw [List.pairwise_cons] at h
  split
  · rename_i hxy
    rw [List.pairwise_cons, List.pairwise_cons]
    refine ⟨λ z hz => ?_, h⟩
    rcases zS.mp hz with rfl | hz
    · exact hxy
    · exact Int.le_trans hxy (h.1 z hz)
  · rename_i hxy
    rw [List.pairwise_cons]
    refine ⟨λ z hz => ?_, zce x r h.2⟩
    rcases zS.mp ((insI_perm x r).mem_iff.mp hz) with rfl | hz
    · omega
    · exact h.1 z hz
theorem XF : ∀ l : List Int, (sortI l).Pairwise (· <= ·)
 | [] => List.Pairwise.nil
 | x :: r => zce x _ (XF r)
theorem zey : ∀ (a b : List Int), a.Perm b -> a.Pairwise (· <= ·) -> b.Pairwise (· <= ·) -> a = b
 | [], b, p, _, _ => by rw [List.nil_perm] at p; exact p.symm
 | x :: r, [], p, _, _ => by rw [List.perm_nil] at p; cases p
 | x :: r, y :: t, p, ha, hb => by
  rw [List.pairwise_cons] at ha hb
  have hxy : x = y := by
   have h1 : x ∈ y :: t := p.mem_iff.mp (zzC ..)
   have h2 : y ∈ x :: r := p.mem_iff.mpr (zzC ..)
   rcases zS.mp h1 with e | e
   · exact e
   · rcases zS.mp h2 with e' | e'
     · exact e'.symm
     · have := hb.1 x e
       have := ha.1 y e'
       omega
  subst hxy
  rw [zey r t (List.Perm.cons_inv p) ha.2 hb.2]
theorem ints_of {K : zC} {kd : KD} {O : Addr -> Prop} {H : Hp} {vs : List V} {us : List Value} {ds : List D} {ns : List Int} (h : RpL K kd O H vs ds) (hv : Vals vs us) (e : Wx ds = some ns) : IntsAre us ns :=
 RpL.ind (P := λ vs ds => ∀ us ns, Vals vs us -> Wx ds = some ns -> IntsAre us ns) (λ us ns hv e => by cases e; cases hv; exact .nil) (λ {v d vs ds} a _ ih us ns hv e => by
  cases hv with
  | cons b t =>
   cases a with
   | int x =>
    obtain ⟨ys, h1, h2⟩ := bS_ (show (Wx _).bind _ = _ from e)
    cases h2
    obtain ⟨tk, rfl⟩ := b
    exact .cons _ _ (ih _ _ t h1)
   | _ => cases e) h us ns hv e
theorem Xo : ∀ {us : List Value} {ns : List Int}, IntsAre us ns -> Vals (ns.map V.int) us
 | _, _, .nil => .nil
 | _, _, .cons n t r => .cons ⟨t, rfl⟩ (Xo r)
theorem zgi {K : zC} {kd : KD} {O : Addr -> Prop} {H : Hp} : ∀ ns : List Int, RpL K kd O H (ns.map V.int) (ns.map D.int)
 | [] => .nil
 | y :: r => .cons (.int y) (zgi r)
def zka : List D -> Option R0 := on1 λ x => (asL x).bind λ ds => (Wx ds).bind λ ns => if ns.length < 64 then some (.fl ((sortI ns).map .int)) else none
section
variable {X : Cx} {kd : KD}
theorem zhK : CallD X kd (.builtin "sorted") zka := by
 intro pins s σ H xs us Q I r h
 obtain ⟨O, ds, z, ht, vl, he, q⟩ := h
 obtain ⟨x, d, rfl, vx, he⟩ := zfI vl he
 obtain ⟨ds, h0, he2⟩ := bS_ (show (asL d).bind _ = _ from he)
 cases zfv h0
 · obtain ⟨ns, h1, he⟩ := bS_ he2
   obtain ⟨hz, he⟩ := zQ he
   cases he
   cases vx with
   | lst hr rl =>
    obtain ⟨u, rfl, ru⟩ := vals1 r
    cases ru
    obtain ⟨its, rv, pl, _⟩ := I.list hr.sq
    have hI := ints_of rl rv h1
    have hl := hI.length
    refine sorted_ints pl.isList hI (by omega) λ out ns' a1 a2 a3 => ?_
    have e : ns' = sortI ns := zey _ _ (a2.trans (sortI_perm ns).symm) a3 (XF ns)
    subst e
    obtain ⟨ee, hob⟩ := sortedAll_at s.heap its out
    have hn : H (s.heap.objs.size + 1) = none := I.hok.fresh (Nat.le_succ _)
    refine ⟨.ref (s.heap.objs.size + 1), _, I.laid (t' := s.toks) (λ b o e => sortedAll_old e) (Nat.le_succ _) (show wL X.prog X.w _ _ _ (.lst ((sortI ns).map V.int)) from ⟨?_, out.toList, ee, Xo a1, by simpa [seqObj] using hob⟩), rfl, zbs q (zgi _) _ hn⟩
    rw [zD, (sortI_perm ns).length_eq]
    exact Nat.le_of_lt (yM (by omega))
end
theorem zcb : ∀ {vs : List V} {us : List Value}, vs.length = us.length -> (∀ (i : Nat) v u, vs[i]? = some v -> us[i]? = some u -> RelV v u) -> Vals vs us
 | [], [], _, _ => .nil
 | [], _ :: _, h, _ => by simp at h
 | _ :: _, [], h, _ => by simp at h
 | v :: vs, u :: us, h, k => .cons (k 0 v u rfl rfl) (zcb (by simpa using h) λ i a b x y => k (i + 1) a b (by simpa using x) (by simpa using y))
section
variable {X : Cx} {tg : Expr}
def zqD (ta : TA) : TE := λ σ H Q => ta σ H λ vs H1 => ∃ j : Int, vs = [.int j] /\ -(2 ^ 62) <= j /\ j < 2 ^ 62 /\ ∀ r, H1 r = none -> Q (.ref r) (upd H1 r (.rng 0 j))
theorem zlx {a : Expr} {ta : TA} {p pos : Pos} (hg : Gl X "range") (hm : X.mg "range" = none) (ha : PA X [a] ta) (hs : starEach [a] X.env = [(false, eval a X.env)]) : PE X (.Call (.Name "range" p) [a] [] pos) (zqD ta) := by
 intro pins s σ H Q I h
 refine Call_ (zap I hg hm boot_range (PyProof.Rows.callWith_type1 (thn (ha pos pins s σ H _ I h) λ us s1 ⟨vs, H1, I1, r1, q1⟩ => ?_) hs rfl))
 obtain ⟨j, e, b1, b2, q⟩ := q1
 subst e
 cases r1 with
 | cons r rr =>
  cases rr
  obtain ⟨t, rfl⟩ := r
  exact call_range_1 ⟨.ref s1.heap.objs.size, _, I1.laid (λ b o e => Heap.get?_push_of_some _ e) (zzK _) (show wL X.prog X.w _ _ _ (.rng 0 j) from ⟨_, _, _, Heap.get?_push_size _ rfl⟩), rfl, q _ (I1.hok.fresh (zzK _))⟩
def tLR (ta : TA) : TE := λ σ H Q => znV (zqD ta) zqY σ H λ vs H2 => ∃ r H1, ∃ j : Int, vs = [.ref r] /\ H1 r = none /\ H2 = upd H1 r (.rng 0 j) /\ 0 <= j /\ j <= 100000 /\ ∀ l, H2 l = none -> Q (.ref l) (upd H2 l (.lst ((List.range j.toNat).map λ (i : Nat) => V.int i)))
theorem zjr {a : Expr} {ta : TA} {p p' pos pos' : Pos} (hc : X.calm = true) (hg : Gl X "range") (hm : X.mg "range" = none) (hgl : Gl X "list") (hml : X.mg "list" = none) (ha : PA X [a] ta) (hs : starEach [a] X.env = [(false, eval a X.env)])
 (hs' : starEach [.Call (.Name "range" p) [a] [] pos] X.env = [(false, eval (.Call (.Name "range" p) [a] [] pos) X.env)]) : PE X (.Call (.Name "list" p') [.Call (.Name "range" p) [a] [] pos] [] pos') (tLR ta) := by
 intro pins s σ H Q I h
 refine Call_ (zap I hgl hml Bt.list (PyProof.Rows.callWith_type1 (thn ((YC (zlx hg hm ha hs) zdV hs') pos' pins s σ H (λ vs H2 => ∃ r H1, ∃ j : Int, vs = [.ref r] /\ H1 r = none /\ H2 = upd H1 r (.rng 0 j) /\ 0 <= j /\ j <= 100000 /\ ∀ l, H2 l = none -> Q (.ref l) (upd H2 l (.lst ((List.range j.toNat).map λ (i : Nat) => V.int i)))) I ?_) λ us s1 ⟨vs, H2, I2, r1, q1⟩ => ?_) hs' rfl))
 · exact h
 obtain ⟨r, H1, j, rfl, hn, rfl, h0, h1, q⟩ := q1
 cases r1 with
 | cons rr rs =>
  cases rs
  cases rr
  obtain ⟨t, u, v, ho⟩ := I2.hok r _ (yK ..)
  have hsz : Builtin.Range.rangeSize 0 j 1 = (j.toNat : Nat) := by rw [rangeSize_one]; split <;> omega
  refine call_list_range (I2.ok.hd hc) ho (small_one (by omega) (by omega) (by omega) (by omega)) (n := j.toNat) (by exact_mod_cast hsz) (by omega) λ h' tk acc c' hk hob hit => ?_
  refine ⟨.ref s1.heap.objs.size, _, I2.laid hk (zzK _) (show wL X.prog X.w _ _ _ (.lst ((List.range j.toNat).map λ (i : Nat) => V.int i)) from ⟨?_, acc.toList, c', ?_, by simpa using hob⟩), rfl, q _ (I2.hok.fresh (zzK _))⟩
  · rw [zD, List.length_range]; exact zzL (show j.toNat <= 100000 by omega) (by decide)
  · refine zcb (by rw [zD, List.length_range]; simpa using hit.1.symm) λ i x y hx hy => ?_
    rw [zzF] at hx
    obtain ⟨tk', e⟩ := hit.2 i y (by simpa using hy)
    cases hr : (List.range j.toNat)[i]? with
    | none => rw [hr] at hx; cases hx
    | some k =>
     rw [hr] at hx
     obtain ⟨_, hk'⟩ := zzD.mp hr
     rw [List.getElem_range] at hk'
     subst hk'
     cases hx
     exact ⟨tk', by rw [e]; simp⟩
end
section
variable {X : Cx} {kd : KD}
def lrP : List D -> Option R0
 | [.int j] => if 0 <= j /\ j <= 100000 then some (.fl ((List.range j.toNat).map λ (i : Nat) => .int i)) else none
 | _ => none
theorem ziQ {K : zC} {O : Addr -> Prop} {H : Hp} : ∀ l : List Nat, RpL K kd O H (l.map λ (i : Nat) => V.int i) (l.map λ (i : Nat) => D.int i)
 | [] => .nil
 | y :: r => .cons (.int y) (ziQ r)
theorem zjt {a : Expr} {fr : AF} {p p' pos pos' : Pos} (hc : X.calm = true) (hg : Gl X "range") (hm : X.mg "range" = none) (hgl : Gl X "list") (hml : X.mg "list" = none) (ha : AA X kd [a] fr) (hs : starEach [a] X.env = [(false, eval a X.env)])
 (hs' : starEach [.Call (.Name "range" p) [a] [] pos] X.env = [(false, eval (.Call (.Name "range" p) [a] [] pos) X.env)]) : AE X kd (.Call (.Name "list" p') [.Call (.Name "range" p) [a] [] pos] [] pos') (fP fr lrP) := by
 with_unfolding_all exact (xN (zjr hc hg hm hgl hml ha hs hs') λ σ H Q h => by
  obtain ⟨F, B, ad, as, r, as', R, e, q⟩ := h
  obtain ⟨⟨rs, as1⟩, h1, e⟩ := bS_ (show (fr as).bind _ = _ from e)
  obtain ⟨⟨ds, lv⟩, h2, e⟩ := bS_ e
  obtain ⟨r0, h3, e⟩ := bS_ e
  obtain ⟨z, h4, e⟩ := bS_ e
  cases e
  match ds, h3, h2 with
  | [.int j], h3, h2 =>
   obtain ⟨⟨b1, b2⟩, e3⟩ := zQ (show (if 0 <= j /\ j <= 100000 then some (R0.fl ((List.range j.toNat).map λ (i : Nat) => .int i)) else none) = some r0 from h3)
   cases e3
   refine (show alA X.K kd fr σ H _ from ⟨F, B, ad, as, rs, as1, R, h1, λ vs ad1 H1 R1 rv1 g1 => ?_⟩)
   have vl := VB R1 rv1 h2
   have rq := VG R1 h4 (Q := Q) λ w T' H' R' rv' g' => q w T' ad1 H' R' rv' (g1.trans g')
   cases vl with
   | cons v1 v2 =>
    cases v2
    cases v1
    refine ⟨j, rfl, by omega, by omega, λ r hr => ⟨r, H1, j, rfl, hr, rfl, b1, b2, λ l hl => ?_⟩⟩
    have hlr : l ≠ r := λ e => by rw [e, yK] at hl; cases hl
    have hl1 : H1 l = none := by rw [yd hlr] at hl; exact hl
    exact rq l _ _ hl1 (λ b o q => zaH hl b o (zaH hr b o q)) yK (ziQ _))
end
theorem znh {L : Bool -> V -> D -> Prop} {N : Addr -> Prop} {H : Hp} {vs : List V} {ls : List O} {fp : List Addr} (h : RoL L N H vs ls fp) : vs.length = ls.length := RoL.length h
def zjH (i : Nat) (f : SF) : SF := λ as => match as[i]? with
 | some (some o) => f (as.set i (some o.frz))
 | _ => none
theorem zlc {K : zC} {kd : KD} {F B : Addr -> Prop} {ad : Ad} {i : Nat} {H : Hp} {D : Ends} : ∀ {o : Out}, zeM K kd F B ad H D o -> zeM K kd F B (wu ad i []) H D o
 | .nx _, q => λ σ' ad' H' R g => q σ' ad' H' R ((Grow.less xx).trans g)
 | .ct _, q => λ σ' ad' H' R g => q σ' ad' H' R ((Grow.less xx).trans g)
 | .bk _, q => λ σ' ad' H' R g => q σ' ad' H' R ((Grow.less xx).trans g)
 | .rt _, q => λ v T H' ro g => q v T H' ro ((Grow.less xx).trans g)
theorem zlZ {X : Cx} {kd : KD} {i : Nat} {body : List Stmt} {f : SF} (h : ASs X kd body f) : ASs X kd body (zjH i f) := by
 with_unfolding_all exact (zaF h λ D σ H h => by
  obtain ⟨F, B, ad, as, o, R, e, q⟩ := h
  unfold zjH at e
  cases k : as[i]? with
  | none => rw [k] at e; cases e
  | some s =>
   rw [k] at e
   cases s with
   | none => cases e
   | some oo =>
    exact ⟨F, B, wu ad i [], _, o, (R.frz k).1, e, zlc q⟩)
section
variable {K : zC} {kd : KD} {F B G : Addr -> Prop} {H : Hp}
theorem zbl {p : Addr} {u : HO} (hp : G p) : Grow G H G (upd H p u) := ⟨λ b w h n => by rw [yd (λ e => n (by subst e; exact hp))]; exact h, λ b z => .inl z⟩
theorem zjc : ∀ (os : List O) {vs : List V} {fp : List Addr} {n : Nat} {o : O}, Zv K kd F B G H vs os fp -> fp.Nodup -> (∀ a ∈ fp, G a) -> os[n]? = some o ->
 ∃ v f, vs[n]? = some v /\ RoS K kd F B G H v o f /\ f.Nodup /\ (∀ a ∈ f, a ∈ fp) /\ ∀ (p : Addr) (u : HO) (o' : O), p ∈ f -> RoS K kd F B G (upd H p u) v o' f -> Zv K kd F B G (upd H p u) vs (os.set n o') fp
 | [], _, _, _, _, _, _, _, e => by simp at e
 | o1 :: os, _, _, n, o, r, hn, hG, e => by
  cases r with
  | cons a r =>
   rename_i v vs fp fq
   obtain ⟨n1, n2, n3⟩ := List.nodup_append.mp hn
   cases n with
   | zero =>
    simp at e
    subst e
    exact ⟨v, fp, rfl, a, n1, λ x m => zzM _ m, λ p u o' hp ro => .cons ro (Zv.grow (zbl (hG p (zzM _ hp))) (λ x m w h => by rw [yd (λ e => n3 p hp x m e.symm)]; exact h) r)⟩
   | succ n =>
    obtain ⟨v', f, h1, h2, h3, h4, h5⟩ := zjc os (n := n) (o := o) r n2 (λ x m => hG x (zzI _ m)) (by simpa using e)
    exact ⟨v', f, by simpa using h1, h2, h3, λ x m => zzI _ (h4 x m), λ p u o' hp ro => .cons (RoS.grow (zbl (hG p (zzI _ (h4 p hp)))) (λ x m w h => by rw [yd (λ e => n3 x m p (h4 p hp) e)]; exact h) a) (h5 p u o' hp ro)⟩
theorem zeA {L : Bool -> V -> D -> Prop} {N : Addr -> Prop} {v : V} {st' : Bool} {d' : D} (h : L st' v d') : ∀ (os : List O) {vs : List V} {fp : List Addr} {n : Nat} {st : Bool} {d : D}, RoL L N H vs os fp -> os[n]? = some (.lf st d) -> RoL L N H (vs.set n v) (os.set n (.lf st' d')) fp
 | [], _, _, _, _, _, _, e => by simp at e
 | o1 :: os, _, _, n, st, d, r, e => by
  cases r with
  | cons a r =>
   cases n with
   | zero =>
    simp at e
    subst e
    cases a with
    | lf _ => exact .cons (.lf h) r
   | succ n => exact .cons a (zeA h os (n := n) (st := st) (d := d) r (by simpa using e))
theorem znq {v : V} {inner : List O} {fp : List Addr} {n : Nat} {st : Bool} {d : D} (c : Int) (r : RoS K kd F B G H v (.nd .ls inner) fp) (hn : fp.Nodup) (hG : ∀ a ∈ fp, G a) (e : inner[n]? = some (.lf st d)) :
 ∃ p ivs, v = .ref p /\ p ∈ fp /\ H p = some (.lst ivs) /\ n < ivs.length /\ RoS K kd F B G (upd H p (.lst (ivs.set n (.int c)))) v (.nd .ls (inner.set n (.lf true (.int c)))) fp := by
 cases r with
 | ls hp ir =>
  rename_i p ivs ifp
  have hpfp : p ∉ ifp := (zzT.mp hn).1
  refine ⟨p, ivs, rfl, zzC .., hp, by rw [znh ir]; exact (zzD.mp e).1, .ls yK (zeA (.int c) inner (Zv.grow (zbl (hG p (zzC ..))) (λ x m w h => by rw [yd (λ e => hpfp (by subst e; exact m))]; exact h) ir) e)⟩
theorem zoT {v : V} {os : List O} {fp : List Addr} {n : Nat} {o : O} (r : RoS K kd F B G H v (.nd .ls os) fp) (hn : fp.Nodup) (hG : ∀ a ∈ fp, G a) (e : os[n]? = some o) :
 ∃ l vs w f, v = .ref l /\ H l = some (.lst vs) /\ vs[n]? = some w /\ RoS K kd F B G H w o f /\ f.Nodup /\ (∀ a ∈ f, a ∈ fp) /\ ∀ (p : Addr) (u : HO) (o' : O), p ∈ f -> RoS K kd F B G (upd H p u) w o' f -> RoS K kd F B G (upd H p u) v (.nd .ls (os.set n o')) fp := by
 cases r with
 | ls hp ir =>
  rename_i l vs ifp
  obtain ⟨w, f, h1, h2, h3, h4, h5⟩ := zjc os ir (zzT.mp hn).2 (λ a m => hG a (zzA _ m)) e
  exact ⟨l, vs, w, f, rfl, hp, h1, h2, h3, λ a m => zzA _ (h4 a m), λ p u o' hpf ro => .ls (by rw [yd (λ e => (zzT.mp hn).1 (by rw [e]; exact h4 p hpf))]; exact hp) (h5 p u o' hpf ro)⟩
end
section
variable {K : zC} {kd : KD} {F B : Addr -> Prop} {ad : Ad} {as : AS} {σ : St} {H : Hp} {i : Nat} {o : O}
theorem Rel.slotU (R : Rel K kd F B [] ad as σ H) (k : as[i]? = some (some o)) :
 ∃ v, σ[i]? = some (some v) /\ RoS K kd F B (Gw [] ad) H v o (ad i) /\ (ad i).Nodup /\ (∀ a ∈ ad i, Gw [] ad a) /\
  ∀ (p : Addr) (u : HO) (o' : O), p ∈ ad i -> RoS K kd F B (Gw [] ad) (upd H p u) v o' (ad i) -> Rel K kd F B [] ad (as.set i (some o')) σ (upd H p u) /\ Grow (Gw [] ad) H (Gw [] ad) (upd H p u) := by
 obtain ⟨v, hv, ro⟩ := R.sl i _ k
 have hi : i < as.length := (zzD.mp k).1
 refine ⟨v, hv, ro, R.nd i, λ a m => .inr ⟨i, m⟩, λ p u o' hp ro' => ?_⟩
 have g : Grow (Gw [] ad) H (Gw [] ad) (upd H p u) := zbl (.inr ⟨i, hp⟩)
 have kn : ∀ a, H a ≠ none -> upd H p u a ≠ none := λ a z => by
  by_cases e : a = p
  · subst e; rw [yK]; simp
  · rw [yd e]; exact z
 refine ⟨⟨by rw [zzR]; exact R.len, λ j hj => R.out j (by rw [zzR] at hj; exact hj), R.nd, R.inj, R.tnd, R.dis, λ a z => kn a (R.ftr a z), λ a z => ⟨kn a (R.btr a z).1, (R.btr a z).2⟩, λ a z => ⟨kn a (R.gtr a z).1, (R.gtr a z).2⟩, λ j s e => ?_⟩, g⟩
 by_cases q : j = i
 · subst q
   rw [List.getElem?_set_self hi] at e
   cases e
   exact ⟨v, hv, ro'⟩
 · rw [zzV (Ne.symm q)] at e
   exact (R.sl j s e).grow g λ a m u h => by rw [yd (λ e => q (R.inj j i a m (by rw [e]; exact hp)))]; exact h
end
abbrev IXF := AS -> Option Int
def tSt (K : zC) (kd : KD) (f : IXF) : TE := λ σ H Q => ∃ F B ad as k, Rel K kd F B [] ad as σ H /\ f as = some k /\ Q (.int k) H
@[irreducible] def AK (X : Cx) (kd : KD) (e : Expr) (f : IXF) : Prop := PE X e (tSt X.K kd f)
def zhA : O -> Option (List O)
 | .nd .ls os => some os
 | _ => none
def zdH : O -> Option D
 | .lf _ d => some d
 | _ => none
def atO {α : Type} (f : O -> Option α) (os : List O) (k : Nat) : Option α := os[k]?.bind f
def slO {α : Type} (f : O -> Option α) (as : AS) (i : Nat) : Option α := as[i]?.bind λ s => s.bind f
theorem zhZ {o : O} {os : List O} (h : zhA o = some os) : o = .nd .ls os := by
 cases o with
 | lf s d => cases h
 | nd k os => cases k <;> cases h; rfl
theorem ziP {o : O} {d : D} (h : zdH o = some d) : ∃ st, o = .lf st d := by
 cases o with
 | lf s d => cases h; exact ⟨s, rfl⟩
 | nd k os => cases h
theorem zkY {α : Type} {f : O -> Option α} {os : List O} {k : Nat} {a : α} (h : atO f os k = some a) : ∃ o, os[k]? = some o /\ f o = some a := bS_ h
theorem zlN {α : Type} {f : O -> Option α} {as : AS} {k : Nat} {a : α} (h : slO f as k = some a) : ∃ o, as[k]? = some (some o) /\ f o = some a := by
 obtain ⟨s, h1, h⟩ := bS_ h
 obtain ⟨o, rfl, h⟩ := bS_ h
 exact ⟨o, h1, h⟩
theorem zsa {os inner : List O} {k : Nat} (h : atO zhA os k = some inner) : os[k]? = some (.nd .ls inner) := by
 obtain ⟨o, h1, h⟩ := zkY h
 cases zhZ h
 exact h1
theorem zsd {os : List O} {d : D} {k : Nat} (h : atO zdH os k = some d) : ∃ st, os[k]? = some (.lf st d) := by
 obtain ⟨o, h1, h⟩ := zkY h
 obtain ⟨st, rfl⟩ := ziP h
 exact ⟨st, h1⟩
theorem zrl {as : AS} {inner : List O} {k : Nat} (h : slO zhA as k = some inner) : as[k]? = some (some (.nd .ls inner)) := by
 obtain ⟨o, h1, h⟩ := zlN h
 cases zhZ h
 exact h1
theorem zqg {as : AS} {d : D} {k : Nat} (h : slO zdH as k = some d) : ∃ st, as[k]? = some (some (.lf st d)) := by
 obtain ⟨o, h1, h⟩ := zlN h
 obtain ⟨st, rfl⟩ := ziP h
 exact ⟨st, h1⟩
theorem zif {α : Type} {f : O -> Option α} {os : List O} {k : Nat} {o : O} {a : α} (h : os[k]? = some o) (e : f o = some a) : atO f os k = some a := by unfold atO; rw [h]; exact e
theorem zhX {α : Type} {f : O -> Option α} {as : AS} {k : Nat} {o : O} {a : α} (h : as[k]? = some (some o)) (e : f o = some a) : slO f as k = some a := by unfold slO; rw [h]; exact e
def xV (i : Nat) : IXF := λ as => (slO zdH as i).bind asI
def xAt (i : Nat) (f : IXF) : IXF := λ as => (f as).bind λ k => if 0 <= k then (slO zdH as i).bind λ d => (asL d).bind λ ds => ds[k.toNat]?.bind asI else none
section
variable {X : Cx} {kd : KD} {f g : IXF} {a b : Expr}
theorem zbp {i : Nat} {x : Str} {p : Pos} (hv : PE X (.Name x p) (zby i)) : AK X kd (.Name x p) (xV i) := by
 with_unfolding_all exact (xN hv λ σ H Q h => by
  obtain ⟨F, B, ad, as, k, R, e, q⟩ := h
  obtain ⟨d, e1, e⟩ := bS_ (show (slO zdH as i).bind _ = _ from e)
  cases zfy e
  obtain ⟨st, k1⟩ := zqg e1
  obtain ⟨v, hv, ro⟩ := R.sl i _ k1
  generalize ad i = fp at ro
  cases ro with
  | lf rp => cases rp; exact ⟨_, hv, q⟩)
theorem zgZ {i : Nat} {x : Str} {p pos : Pos} (hv : PE X (.Name x p) (zby i)) (hb : AK X kd b f) (hs : zbi b) : AK X kd (.Subscript (.Name x p) b pos) (xAt i f) := by
 with_unfolding_all exact (xN (zke zfn hv hb hs) λ σ H Q h => by
  obtain ⟨F, B, ad, as, c, R, e, q⟩ := h
  obtain ⟨k, h1, e⟩ := bS_ (show (f as).bind _ = _ from e)
  obtain ⟨hk, e⟩ := ite_some' e
  obtain ⟨d0, e1, e3⟩ := bS_ e
  obtain ⟨ds, e2, e4⟩ := bS_ e3
  obtain ⟨d, k2, e5⟩ := bS_ e4
  cases zfv e2
  cases zfy e5
  obtain ⟨st, k1⟩ := zqg e1
  obtain ⟨v, hv, ro⟩ := R.sl i _ k1
  generalize ad i = fp at ro
  cases ro with
  | lf rp =>
   obtain ⟨l, vs, rfl, hq, rl⟩ := zmB (ad := ad) (q := st) rp (λ z => z)
   obtain ⟨w, hw, rw'⟩ := rl.get k2
   cases rw'
   refine ⟨_, hv, F, B, ad, as, k, R, h1, l, vs, k, _, rfl, rfl, hq ad H Grow.refl, ?_, q⟩
   have := Xy hw
   rw [Int.toNat_of_nonneg hk] at this
   exact this)
end
def V4 (i : Nat) (f1 f2 fv : IXF) : SF := λ as => (f1 as).bind λ k1 => (f2 as).bind λ k2 => (fv as).bind λ c => if 0 <= k1 /\ 0 <= k2 then (slO zhA as i).bind λ os => (atO zhA os k1.toNat).bind λ inner => (atO zdH inner k2.toNat).bind λ _ => some (.nx (as.set i (some (.nd .ls (os.set k1.toNat (.nd .ls (inner.set k2.toNat (.lf true (.int c))))))))) else none
theorem zmI {n j : Nat} (h : j < n) : ixN n (j : Int) = some j := by
 unfold ixN
 rw [if_pos (by omega), if_pos (by omega)]; simp
theorem zmx {n : Nat} {k : Int} (h0 : 0 <= k) (h : k.toNat < n) : ixN n k = some k.toNat := by
 have := zmI h
 rw [show ((k.toNat : Nat) : Int) = k by omega] at this
 exact this
theorem zmX {α : Type} {xs : List α} {k : Int} {v : α} (h0 : 0 <= k) (h : xs[k.toNat]? = some v) : atI xs k = some v := by
 have := Xy h
 rw [show ((k.toNat : Nat) : Int) = k by omega] at this
 exact this
section
variable {X : Cx} {kd : KD} {f f1 f2 f3 fv : IXF} {e1 e2 e3 ev : Expr} {i y : Nat}
theorem zii {x : Str} {p p1 tpos pos : Pos} (ho : PE X (.Name x p) (zby i)) (h1 : AK X kd e1 f1) (hp1 : zbi e1) (h2 : AK X kd e2 f2) (hv : AK X kd ev fv)
 (ha : ∀ v, assign (.Subscript (.Subscript (.Name x p) e1 p1) e2 tpos) X.env v = (do
  let ov <- holding [v] (eval (.Subscript (.Name x p) e1 p1) X.env)
  let iv <- holding [v, ov] (eval e2 X.env)
  standAt tpos
  holding [v, ov, iv] (setItem ov iv v)
  release [v, ov, iv] []))
 (hs : swapsWithSole [.Subscript (.Subscript (.Name x p) e1 p1) e2 tpos] ev pos.line X.env = pure false) (hw : swappedStores [.Subscript (.Subscript (.Name x p) e1 p1) e2 tpos] ev X.env = pure none)
 (hm : (assignEach [.Subscript (.Subscript (.Name x p) e1 p1) e2 tpos] X.env).map (·.2) = [assign (.Subscript (.Subscript (.Name x p) e1 p1) e2 tpos) X.env]) :
 ASt X kd (.Assign [.Subscript (.Subscript (.Name x p) e1 p1) e2 tpos] ev pos) (V4 i f1 f2 fv) := by
 with_unfolding_all exact (wR (zkc hv (zoe (zke zfn ho h1 hp1) h2 set_list ha) hs hw hm) λ D σ H h => by
  obtain ⟨F, B, ad, as, o, R, e, q⟩ := h
  obtain ⟨n1, j1, e⟩ := bS_ (show (f1 as).bind _ = _ from e)
  obtain ⟨n2, j2, e⟩ := bS_ e
  obtain ⟨c, j3, e⟩ := bS_ e
  obtain ⟨⟨hk1, hk2⟩, e⟩ := ite_some' e
  obtain ⟨os, e1, e⟩ := bS_ e
  obtain ⟨inner, e2, e⟩ := bS_ e
  obtain ⟨d, e3, e⟩ := bS_ e
  have k1 := zrl e1
  have k2 := zsa e2
  obtain ⟨st, k3⟩ := zsd e3
  cases e
  obtain ⟨v, sv, ro, hn, hG, up⟩ := R.slotU k1
  obtain ⟨l, vs, w, fw, rfl, hH, hvs, rw1, fn, fs, up1⟩ := zoT ro hn hG k2
  obtain ⟨p, ivs, rfl, hp, hHp, hl, ro'⟩ := znq c rw1 fn (λ a m => hG a (fs a m)) k3
  obtain ⟨R2, g2⟩ := up p _ _ (fs p hp) (up1 p _ _ hp ro')
  exact ⟨F, B, ad, as, c, R, j3, _, sv, F, B, ad, as, n1, R, j1, l, vs, n1, _, rfl, rfl, .inl (.inl hH), zmX hk1 hvs, F, B, ad, as, n2, R, j2, p, ivs, n2, n2.toNat, rfl, rfl, hHp, zmx hk2 hl, q σ ad _ R2 g2⟩)
end
theorem l1_ {α : Type} {P : List α -> Prop} (h : ∀ a, P [a]) : ∀ us : List α, us.length = 1 -> P us
 | [a], _ => h a
theorem l2_ {α : Type} {P : List α -> Prop} (h : ∀ a b, P [a, b]) : ∀ us : List α, us.length = 2 -> P us
 | [a, b], _ => h a b
theorem l3_ {α : Type} {P : List α -> Prop} (h : ∀ a b c, P [a, b, c]) : ∀ us : List α, us.length = 3 -> P us
 | [a, b, c], _ => h a b c
theorem l4_ {α : Type} {P : List α -> Prop} (h : ∀ a b c d, P [a, b, c, d]) : ∀ us : List α, us.length = 4 -> P us
 | [a, b, c, d], _ => h a b c d
theorem l5_ {α : Type} {P : List α -> Prop} (h : ∀ a b c d e, P [a, b, c, d, e]) : ∀ us : List α, us.length = 5 -> P us
 | [a, b, c, d, e], _ => h a b c d e
section
variable {X : Cx} {kd : KD}
theorem aI {c : Int} {j pos} : AE X kd (.Constant (.int c) j pos) (fC (.int c)) := zff zjW λ _ _ => .int _
theorem aS {c : Str} {j pos} : AE X kd (.Constant (.str c) j pos) (fC (.str c)) := zff zpd λ _ _ => .str _
theorem aZ {j pos} : AE X kd (.Constant .none j pos) (fC .non) := zff zpD λ _ _ => .non
theorem aB {c : Bool} {j pos} : AE X kd (.Constant (.bool c) j pos) (fC (.bl c)) := zff zqp λ _ _ => .bl _
theorem ax {P : Program} {w : World} {K : zC} {a b : Expr} {fa fb : EF} {pos : Pos} (hkd : KD1 P w K kd) (ha : AE X kd a fa) (hb : AE X kd b fb) (h1 : X.prog = P := by rfl) (h2 : X.w = w := by rfl) (h3 : X.K = K := by rfl) (hm : zbi b := by exact λ _ _ => rfl) : AE X kd (.Subscript a b pos) (f2 fa fb ixP) := zqL (zrs (hkd _ h1 h2 h3)) ha hb hm
theorem sv (z : Bool) (i : Nat) {x : Str} {pos pos' : Pos} {e : Expr} {fa : EF} (hN : X.N.Nodup) (he : AE X kd e fa) (hi : X.N[i]? = some x := by rfl) (hx : Loc X.env.scope x := by first | exact Or.inl rfl | exact Or.inr rfl) (hs : swapsWith e (some (.Name x pos')) pos.line X.env = pure false := by rfl) (hf : X.fn x = true \/ X.env.scope.names.lookup x = some .local := by first | exact Or.inl rfl | exact Or.inr rfl) :
 ASt X kd (.Assign [.Name x pos'] e pos) (zK z i fa) := zoP hN hi hx he hs hf
theorem an (i : Nat) {x : Str} {pos : Pos} (hN : X.N.Nodup) (hi : X.N[i]? = some x := by rfl) (hx : Loc X.env.scope x := by first | exact Or.inl rfl | exact Or.inr rfl) (hf : X.fn x = true \/ X.env.scope.names.lookup x = some .local := by first | exact Or.inl rfl | exact Or.inr rfl) : AG X kd (.Name x pos) [i] (gN i) := zlX hN hi hx hf
theorem av (i : Nat) {x : Str} {pos : Pos} (hN : X.N[i]? = some x := by rfl) (hv : Vis X.env.scope x := by first | exact Or.inl rfl | exact Or.inr (Or.inl rfl) | exact Or.inr (Or.inr rfl)) (hd : (x == ("__debug__" : Str)) = false := by decide)
 (hcd : (x == ("__classdict__" : Str)) = false := by decide) : AE X kd (.Name x pos) (fV i) := zpo (zkg hN hv hd hcd)
end
structure CI (K : zC) (kd : KD) (mg : Str -> Option Value) (c : Str) (C : Addr) : Prop where
 eq : kd.c c = C
 cl : Cls K C
 mks : PySem.W.makesIn K C = true
 kp : PySem.W.keepIn K (.ref C) = true
 mg : mg c = some (.ref C)
theorem szs {n : Nat} (h : n <= 1000000) : n <= sizeLine := zzL h (by decide)
section
variable {as : AS} {f fo a b : EF} {fr : AF} {s t : Bool} {x y z d : D} {c m : Str} {ns cs : List Str} {ds : List D} {tbl : List (Str × Fn)} {g : Fn} {o : O}
inductive SqD : D -> List D -> Prop
 | l (ds : List D) : SqD (.lst ds) ds
 | t (ds : List D) : SqD (.tup ds) ds
theorem zbw {α : Type} {h : α -> D} {it : α -> It1} {gg : GF} {fe : EF} {as0 : AS} : ∀ (l : List α), (∀ q ∈ l, ∃ as1, gg (it q) as0 = some as1 /\ WE fe as1 (h q)) -> ∃ os, xO gg xr fe as0 (l.map it) = some os /\ O.strs os = true /\ O.toDs os = l.map h
 | [], _ => ⟨[], rfl, rfl, rfl⟩
 | q :: l, H => by
  obtain ⟨os, e1, e2, e3⟩ := zbw l λ p m => H p (zzA _ m)
  obtain ⟨as1, h1, o, h2, h3, h4⟩ := H q zzC
  refine ⟨o :: os, ?_, by show (o.str && O.strs os) = true; rw [h3, e2]; rfl, by show o.toD :: O.toDs os = _; rw [h4, e3]; rfl⟩
  show xO gg xr fe as0 (it q :: l.map it) = _
  unfold xO
  rw [h1]; show ((fe as1).bind _) = _
  rw [h2]; show (if o.str = true then _ else _) = _
  rw [if_pos h3, e1]; rfl
theorem zbJ {α : Type} {h : α -> D} {p : α -> Bool} {it : α -> It1} {gg : GF} {tt : TF} {fe : EF} {as0 : AS} : ∀ (l : List α), (∀ q ∈ l, ∃ as1, gg (it q) as0 = some as1 /\ WT tt as1 (p q) /\ (p q = true -> WE fe as1 (h q))) -> ∃ os, xO gg tt fe as0 (l.map it) = some os /\ O.strs os = true /\ O.toDs os = (l.filter p).map h
 | [], _ => ⟨[], rfl, rfl, rfl⟩
 | q :: l, H => by
  obtain ⟨os, e1, e2, e3⟩ := zbJ l λ p m => H p (zzA _ m)
  obtain ⟨as1, h1, h2, h3⟩ := H q zzC
  cases hp : p q with
  | false =>
   rw [hp] at h2
   refine ⟨os, zjL h1 h2 e1, e2, ?_⟩
   rw [List.filter_cons_of_neg (by simp [hp])]; exact e3
  | true =>
   rw [hp] at h2
   obtain ⟨o, k1, k2, k3⟩ := h3 hp
   refine ⟨o :: os, ?_, by show (o.str && O.strs os) = true; rw [k2, e2]; rfl, ?_⟩
   · unfold WT at h2
     show xO gg tt fe as0 (it q :: l.map it) = _
     unfold xO
     rw [h1]; show (tt as1).bind _ = _
     rw [h2]; show ((fe as1).bind _) = _
     rw [k1]; show (if o.str = true then _ else _) = _
     rw [if_pos k2, e1]; rfl
   · rw [List.filter_cons_of_pos hp]
     show o.toD :: O.toDs os = _
     rw [k3, e3]; rfl
theorem zdw {fi : IF} {cap : List (Option Nat)} {gg : GF} {tt : TF} {fe : EF} {xs : List It1} {os : List O} {zs : List D} (h1 : fi as = some (xs, as)) (hl : xs.length <= 1000000) (h2 : xO gg tt fe (YB cap as) xs = some os) (hs : O.strs os = true) (e : O.toDs os = zs) : WE (yp fi cap gg tt fe) as (.lst zs) := by
 refine ⟨.nd .ls os, ?_, hs, congrArg D.lst e⟩
 unfold yp
 rw [h1]; show (if xs.length <= sizeLine then _ else _) = _
 rw [if_pos (szs hl), h2]; rfl
theorem zas {α : Type} {h : α -> D} {it : α -> It1} {fi : IF} {cap : List (Option Nat)} {gg : GF} {fe : EF} (l : List α) (h1 : fi as = some (l.map it, as)) (hl : l.length <= 1000000) (H : ∀ q ∈ l, ∃ as1, gg (it q) (YB cap as) = some as1 /\ WE fe as1 (h q)) : WE (yp fi cap gg xr fe) as (.lst (l.map h)) := by
 obtain ⟨os, e1, e2, e3⟩ := zbw l H
 exact zdw h1 (by rw [zD]; exact hl) e1 e2 e3
theorem zpE {α : Type} {h : α -> D} {p : α -> Bool} {it : α -> It1} {fi : IF} {cap : List (Option Nat)} {gg : GF} {tt : TF} {fe : EF} (l : List α) (h1 : fi as = some (l.map it, as)) (hl : l.length <= 1000000) (H : ∀ q ∈ l, ∃ as1, gg (it q) (YB cap as) = some as1 /\ WT tt as1 (p q) /\ (p q = true -> WE fe as1 (h q))) : WE (yp fi cap gg tt fe) as (.lst ((l.filter p).map h)) := by
 obtain ⟨os, e1, e2, e3⟩ := zbJ l H
 exact zdw h1 (by rw [zD]; exact hl) e1 e2 e3
def Rt (r : Option Out) (x : D) : Prop := ∃ o, r = some (.rt o) /\ o.str = true /\ o.toD = x
theorem wK {n m : Nat} {c : SF} {ds : List (Bool × D)} {x : D} (hl : ds.length = m) (h : Rt (c (yE n ds)) x) : RE (fnR n m c ds) x := by
 obtain ⟨o, h1, h2, h3⟩ := h
 exact ⟨o, WQ hl h1, h2, h3⟩
theorem zH {f g : SF} {as as1 : AS} {x : D} (h1 : f as = some (.nx as1)) (h2 : Rt (g as1) x) : Rt (zA f g as) x := by
 obtain ⟨o, e, h⟩ := h2
 exact ⟨o, zZ h1 e, h⟩
theorem zbc {f g : SF} {as : AS} {x : D} (h1 : Rt (f as) x) : Rt (zA f g as) x := by
 obtain ⟨o, e, h⟩ := h1
 exact ⟨o, VM e, h⟩
theorem zdT {c : TF} {f g : SF} {as : AS} {x : D} (h : WT c as true) (h1 : Rt (f as) x) : Rt (sIf c f g as) x := by
 obtain ⟨o, e, h2⟩ := h1
 exact ⟨o, Zc h e, h2⟩
theorem wH {f : EF} {as : AS} {x : D} (h : WE f as x) : Rt (yh f as) x := by
 obtain ⟨o, h1, h2, h3⟩ := h
 refine ⟨o, ?_, h2, h3⟩
 unfold yh; rw [h1]
 show ((if o.str = true then some o else none).bind _) = _
 rw [if_pos h2]; rfl
theorem zfp {fd : DF} {os : List O} {zs : List D} (h : WO fd as os) (hl : os.length <= 1000000) (hs : O.strs os = true) (e : O.toDs os = zs) : WE (yF fd) as (.tup zs) := by
 refine ⟨Yv os, zhE h (szs hl), ?_, ?_⟩
 · unfold Yv; split
   · exact hs
   · exact hs
 · subst e
   unfold Yv; split
   · rfl
   · rfl
theorem VP {fd : DF} {os : List O} (h : WE a as x) (hr : WO fd as os) : ∃ o, o.str = true /\ o.toD = x /\ WO (dC a fd) as (o :: os) := by
 obtain ⟨o, h1, h2, h3⟩ := h
 exact ⟨o, h2, h3, zoU h1 hr⟩
theorem zib (ha : WE a as x) : WE (yF (dC a dN)) as (.tup [x]) := by
 obtain ⟨o, h1, rfl, h3⟩ := VP ha yG
 exact zfp h3 (by show 1 <= _; omega) (by show (o.str && true) = true; rw [h1]; rfl) rfl
theorem Zg (ha : WE a as x) (hb : WE b as y) : WE (yF (dC a (dC b dN))) as (.tup [x, y]) := by
 obtain ⟨p, k1, rfl, k3⟩ := VP hb yG
 obtain ⟨o, h1, rfl, h3⟩ := VP ha k3
 exact zfp h3 (by show 2 <= _; omega) (by show (o.str && (p.str && true)) = true; rw [h1, k1]; rfl) rfl
theorem zoa {g : D -> D -> Option R0} (ha : WE a as x) (hb : WE b as y) (hg : g x y = some (.im z)) : WE (f2 a b g) as z := WD.e (f2E ha hb hg)
end
open AutoSeq1 (wpAny_loadPart')
section
variable {X : Cx} {kd : KD}
def zjG (x y : D) : Option R0 := onI (λ i j => if 0 <= j /\ j <= 1000000 /\ i.natAbs < 2 ^ 64 then some (.im (.int (i * 2 ^ j.toNat))) else none) x y
theorem zme : OpD X kd (binaryOp .LShift) zjG := by
 intro pins s σ H x y v u Q I rx ry h
 obtain ⟨O, d, e, r, ht, vx, vy, he, q⟩ := h
 obtain ⟨i, j, rfl, rfl, he⟩ := YZ vx vy he
 obtain ⟨c, rfl⟩ := zQ he
 exact zpZ pins s σ H _ _ v u Q I rx ry ⟨_, _, rfl, rfl, c, yr q (.int _)⟩
end
def zou : RV -> Option (List Key)
 | .ow o => zjC o.toD
 | .bo _ => none
theorem zgI : ∀ {ds : List D} {k : List Key}, zeG ds = some k -> ds = k.map kyD
 | [], _, e => by cases e; rfl
 | d :: r, k, e => by
  obtain ⟨k1, h1, e⟩ := bS_ (show (zhj d).bind _ = _ from e)
  obtain ⟨k2, h2, e⟩ := bS_ e
  cases e
  rw [List.map_cons, zgI h2]
  cases d with
  | int i => cases h1; rfl
  | str x => cases h1; rfl
  | _ => cases h1
theorem zig {d : D} {k : List Key} (e : zjC d = some k) : d = tkD k := by
 cases d with
 | tup ds => rw [zgI (show zeG ds = some k from e)]
 | _ => cases e
theorem zkW {ks : List (List Key)} {vs : List V} {bs : List Addr} {k : List Key} {b : Addr} (h : ks.length = vs.length) : zgr (ks.zip vs) bs k b = if zjn ks k = true then bs else bs ++ [b] := by
 unfold zgr
 rw [zfH k ks vs h]
theorem zgy {ks : List (List Key)} {vs : List V} {bs : List Addr} {k : List Key} {b : Addr} {P : V -> D -> Prop} (h : ks.length = vs.length) (lb : bs.length = ks.length) (c : ∀ p ∈ bs.zip ks, P (.ref p.1) (tkD p.2)) (hb : P (.ref b) (tkD k)) : (zgr (ks.zip vs) bs k b).length = (YG ks k).length /\ ∀ p ∈ (zgr (ks.zip vs) bs k b).zip (YG ks k), P (.ref p.1) (tkD p.2) := by
 rw [zkW h]
 unfold YG
 split
 · exact ⟨lb, c⟩
 · refine ⟨by rw [zzG, zzG, lb]; rfl, λ p m => ?_⟩
   rw [List.zip_append lb] at m
   rcases zzJ.mp m with m | m
   · exact c p m
   · rw [zzO.mp (show p ∈ [(b, k)] from m)]; exact hb
def V7 (i : Nat) (fk fv : EF) : SF := λ as => (fv as).bind λ p => (XD p.2 p.1).bind λ x => match x.2[i]? with
 | some (some (.nd (.dt _) _)) => (fk x.2).bind λ q => (zou q.1).bind λ k => match q.2[i]? with
  | some (some (.nd (.dt ks) os)) => if ks.length < sizeLine then some (.nx (q.2.set i (some (.nd (.dt (YG ks k)) (ZP ks os k (.lf x.1.1 x.1.2)))))) else none
  | _ => none
 | _ => none
section
variable {X : Cx} {kd : KD} {e a b c o i : Expr} {pos pos' : Pos} {fa fb fk fv : EF}
theorem zmL {j : Nat} {x : Str} {p : Pos} (hu : X.A.units + 1 < cLine) (ho : PE X (.Name x p) (zby j)) (hk : AE X kd i fk) (hv : AE X kd e fv) (hs : swapsWith e (some (.Subscript (.Name x p) i pos')) pos.line X.env = pure false) :
 ASt X kd (.Assign [.Subscript (.Name x p) i pos'] e pos) (V7 j fk fv) := by with_unfolding_all exact (wR (ziM hu ho hk hv hs) λ D σ H h => by
 obtain ⟨F, B, ad, as, o, R, e, q⟩ := h
 obtain ⟨⟨p, as1⟩, h1, e⟩ := bS_ (show (fv as).bind _ = _ from e)
 obtain ⟨⟨⟨st, d⟩, as2⟩, h2, e⟩ := bS_ e
 cases k1 : as2[j]? with
 | none => rw [k1] at e; cases e
 | some a0 =>
  rw [k1] at e
  match a0, e, k1 with
  | some (.nd (.dt ks0) os0), e, k1 =>
   obtain ⟨⟨pk, as3⟩, h3, e⟩ := bS_ (show (fk as2).bind _ = _ from e)
   obtain ⟨k, h5, e⟩ := bS_ e
   refine ⟨F, B, ad, as, p, as1, R, h1, λ v T1 ad1 H1 R1 rv1 g1 => ?_⟩
   obtain ⟨ad2, R2, rp, le⟩ := Zt R1 rv1 h2
   obtain ⟨v0, hs0, ro0⟩ := R2.sl j _ k1
   refine ⟨v0, hs0, ZV R2 h3 λ u ad3 H3 R3 rv3 g3 => ?_⟩
   cases k2 : as3[j]? with
   | none => rw [k2] at e; cases e
   | some a2 =>
    rw [k2] at e
    match a2, e, k2 with
    | some (.nd (.dt ks) os), e, k2 =>
     obtain ⟨hz, e⟩ := zQ e
     cases e
     obtain ⟨v1, hs1, ro1⟩ := R3.sl j _ k2
     rw [hs0] at hs1
     cases hs1
     generalize hfp : ad3 j = fp1 at ro1
     cases ro1 with
     | dt hH hl lb kc rl =>
          rename_i bs ep l vs fp
          have hrk : ∃ st' d', zjC d' = some k /\ Rp X.K kd (Lv F B (Gw [] ad3) st') H3 u d' := by
           cases pk with
           | bo _ => cases h5
           | ow ok => exact ⟨ok.str, ok.toD, h5, zbq (o := ok.frz) rv3⟩
          obtain ⟨st', d', h5, rk⟩ := hrk
          obtain ⟨bk, rfl, hbk⟩ := zcP rk.vw h5
          have rk0 : Rp X.K kd (Lv F B (Gw [] ad3) false) H3 (.ref bk) (tkD k) := by
           rw [<- zig h5]; exact rk.less (zaz (b := false) (st := st') λ z => Bool.noConfusion z)
          obtain ⟨lb', kc'⟩ := zgy (k := k) (b := bk) (P := λ v d => Rp X.K kd (Lv F B (Gw [] ad3) false) H3 v d) hl lb kc rk0
          have ro : RoS X.K kd F B (Gw [] ad3) H3 v (.lf st d) [] := .lf (Rp.grow g3 rp)
          have hlo : ks.length = os.length := by rw [hl, rl.length]
          have hex : ∃ fp', fp'.Sublist fp /\ Zv X.K kd F B (Gw [] ad3) H3 (ZP ks vs k v) (ZP ks os k (.lf st d)) fp' := by
           unfold ZP
           split
           · exact zhg ro hl rl
           · exact ⟨fp, List.Sublist.refl _, by have := rl.append (RoL.one ro); rw [List.append_nil] at this; exact this⟩
          obtain ⟨fp', hsub, rl'⟩ := hex
          have hnd := R3.nd j
          rw [hfp] at hnd
          refine ⟨l, rfl, .inr ⟨_, _, _, k, bk, hH, rfl, hbk, by rw [List.length_zip, hl, Nat.min_self, <- hl]; exact hz, λ ep' => ?_⟩⟩
          rw [zgh hl]
          obtain ⟨R4, g4⟩ := R3.mut (fo := []) (n := .nd (.dt (YG ks k)) (ZP ks os k (.lf st d))) (u := .dT ((YG ks k).zip (ZP ks vs k v)) (zgr (ks.zip vs) bs k bk) ep') (zzD.mp k2).1 hfp hs0 (fp' := fp') (λ a m => by
           rw [List.append_nil] at m ⊢; exact hsub.mem m) (by rw [List.append_nil]; exact (zzT.mp hnd).2.sublist hsub) (by rw [hH]; simp) λ H' G' hl' gr kp => .dt hl' (zaR hl) lb' (λ p m => Rp.grow gr (kc' p m)) (Zv.grow gr kp rl')
          exact q σ _ _ R4 (((g1.trans (Grow.less le)).trans g3).trans g4))
end
def zlR (i : Nat) (k : Int) : SF := λ as => match as[i]? with
 | some (some (.lf _ (.int n))) => some (.nx (as.set i (some (.lf true (.int (n + k))))))
 | _ => none
section
variable {X : Cx} {kd : KD} {e : Expr} {fa : EF} {pos pos' : Pos}
theorem zpO {i : Nat} {x : Str} {k : Int} {z : Nat} {p2 : Pos} (hN : X.N.Nodup) (hi : X.N[i]? = some x) (hx : Loc X.env.scope x) (hf : X.fn x = true \/ X.env.scope.names.lookup x = some .local) :
 ASt X kd (.AugAssign (.Name x pos') .Add (.Constant (.int k) z p2) pos) (zlR i k) := by with_unfolding_all exact (wR (zoW hN hi hx zjW zps hf) λ D σ H h => by
 obtain ⟨F, B, ad, as, o, R, e, q⟩ := h
 cases k1 : as[i]? with
 | none => unfold zlR at e; rw [k1] at e; cases e
 | some a0 =>
  unfold zlR at e
  rw [k1] at e
  match a0, e, k1 with
  | some (.lf st (.int n)), e, k1 =>
   cases e
   obtain ⟨v, hs, ro⟩ := R.sl i _ k1
   generalize ad i = fp1 at ro
   cases ro with
   | lf rp =>
    cases rp
    obtain ⟨ad2, R2, le⟩ := zfJ (v := .int (n + k)) (z := true) (r := .ow (.lf true (.int (n + k)))) (o := .lf true (.int (n + k))) (i := i) R (show RoS _ _ _ _ _ _ _ _ _ from .lf (.int _)) rfl (zzD.mp k1).1
    exact ⟨_, hs, _, _, rfl, rfl, q _ ad2 H R2 (Grow.less le)⟩)
end
section
variable {K : zC} {kd : KD} {F B : Addr -> Prop} {ad : Ad} {as : AS} {σ : St} {H H' : Hp}
def G2 (G : Addr -> Prop) (T T' : List Addr) : Addr -> Prop := λ a => (G a /\ a ∉ T) \/ a ∈ T'
theorem Rel.chg2 {i j : Nat} {o0 o1 : O} {v0 v1 : V} {T0 T1 : List Addr} (R : Rel K kd F B [] ad as σ H) (hij : i ≠ j) (hi : i < as.length) (hj : j < as.length) (s0 : σ[i]? = some (some v0)) (s1 : σ[j]? = some (some v1)) (nd : (T0 ++ T1).Nodup)
 (sub : ∀ a ∈ T0 ++ T1, a ∈ ad i ++ ad j \/ H a = none) (kp : ∀ c u, H c = some u -> c ∉ ad i ++ ad j -> H' c = some u) (al : ∀ a ∈ T0 ++ T1, H' a ≠ none)
 (r0 : RoS K kd F B (G2 (Gw [] ad) (ad i ++ ad j) (T0 ++ T1)) H' v0 o0 T0) (r1 : RoS K kd F B (G2 (Gw [] ad) (ad i ++ ad j) (T0 ++ T1)) H' v1 o1 T1) :
 Rel K kd F B [] (wu (wu ad i T0) j T1) ((as.set i (some o0)).set j (some o1)) σ H' /\ Grow (Gw [] ad) H (Gw [] (wu (wu ad i T0) j T1)) H' := by
 have ai : wu (wu ad i T0) j T1 i = T0 := by rw [ym hij, yg]
 have aj : wu (wu ad i T0) j T1 j = T1 := yg
 have ak : ∀ k, k ≠ i -> k ≠ j -> wu (wu ad i T0) j T1 k = ad k := λ k h1 h2 => by rw [ym h2, ym h1]
 have off : ∀ k a, k ≠ i -> k ≠ j -> a ∈ ad k -> a ∉ ad i ++ ad j := λ k a h1 h2 m z => (zzJ.mp z).elim (λ y => h1 (R.inj k i a m y)) λ y => h2 (R.inj k j a m y)
 have gw : ∀ a, Gw [] (wu (wu ad i T0) j T1) a -> G2 (Gw [] ad) (ad i ++ ad j) (T0 ++ T1) a := λ a z => by
  rcases z with z | ⟨k, z⟩
  · exact nomatch z
  · by_cases e : k = i
    · subst e; rw [ai] at z; exact .inr (zzM _ z)
    · by_cases e' : k = j
      · subst e'; rw [aj] at z; exact .inr (zzI _ z)
      · rw [ak k e e'] at z; exact .inl ⟨.inr ⟨k, z⟩, off k a e e' z⟩
 have nin : ∀ k a, k ≠ i -> k ≠ j -> a ∈ ad k -> a ∉ T0 ++ T1 := λ k a h1 h2 m z => (sub a z).elim (off k a h1 h2 m) λ y => (R.gtr a (.inr ⟨k, m⟩)).1 y
 have g : Grow (Gw [] ad) H (Gw [] (wu (wu ad i T0) j T1)) H' := ⟨λ b o h n => kp b o h λ z => n ((zzJ.mp z).elim (λ y => .inr ⟨i, y⟩) λ y => .inr ⟨j, y⟩), λ b z => (gw b z).elim (λ y => .inl y.1) λ y => (sub b y).elim (λ x => .inl ((zzJ.mp x).elim (λ y => .inr ⟨i, y⟩) λ y => .inr ⟨j, y⟩)) .inr⟩
 have kn : ∀ a, H a ≠ none -> a ∉ ad i ++ ad j -> H' a ≠ none := λ a h n => by
  cases e : H a with
  | none => exact absurd e h
  | some u => rw [kp a u e n]; simp
 obtain ⟨n0, n1, n2⟩ := List.nodup_append.mp nd
 have own : ∀ a, a ∈ ad i ++ ad j -> Gw [] ad a := λ a z => (zzJ.mp z).elim (λ y => .inr ⟨i, y⟩) λ y => .inr ⟨j, y⟩
 refine ⟨⟨by rw [zzR, zzR]; exact R.len, λ k hk => ?_, λ k => ?_, λ k l a h1 h2 => ?_, List.nodup_nil, (λ _ _ _ z => nomatch z), λ a z => kn a (R.ftr a z) λ y => (R.gtr a (own a y)).2 z, λ a z => ?_, λ a z => ?_, λ k s e => ?_⟩, g⟩
 · rw [zzR, zzR] at hk
   rw [ak k (by omega) (by omega)]; exact R.out k hk
 · by_cases e : k = i
   · subst e; rw [ai]; exact n0
   · by_cases e' : k = j
     · subst e'; rw [aj]; exact n1
     · rw [ak k e e']; exact R.nd k
 · by_cases e : k = i
   · subst e; rw [ai] at h1
     by_cases e' : l = k
     · exact e'.symm
     · by_cases e2 : l = j
       · subst e2; rw [aj] at h2; exact absurd rfl (n2 a h1 a h2)
       · rw [ak l e' e2] at h2; exact absurd (zzM _ h1) (nin l a e' e2 h2)
   · by_cases e' : k = j
     · subst e'; rw [aj] at h1
       by_cases e2 : l = k
       · exact e2.symm
       · by_cases e3 : l = i
         · subst e3; rw [ai] at h2; exact absurd rfl (n2 a h2 a h1)
         · rw [ak l e3 e2] at h2; exact absurd (zzI _ h1) (nin l a e3 e2 h2)
     · rw [ak k e e'] at h1
       by_cases e2 : l = i
       · subst e2; rw [ai] at h2; exact absurd (zzM _ h2) (nin k a e e' h1)
       · by_cases e3 : l = j
         · subst e3; rw [aj] at h2; exact absurd (zzI _ h2) (nin k a e e' h1)
         · rw [ak l e2 e3] at h2; exact R.inj k l a h1 h2
 · obtain ⟨h1, h2, h3⟩ := R.btr a z
   refine ⟨kn a h1 λ y => h3 (own a y), h2, λ y => (gw a y).elim (λ x => h3 x.1) λ x => (sub a x).elim (λ w => h3 (own a w)) h1⟩
 · rcases gw a z with ⟨y, n⟩ | y
   · exact ⟨kn a (R.gtr a y).1 n, (R.gtr a y).2⟩
   · exact ⟨al a y, (sub a y).elim (λ w => (R.gtr a (own a w)).2) λ w f => R.ftr a f w⟩
 · by_cases e1 : k = j
   · subst e1
     rw [List.getElem?_set_self (by rw [zzR]; exact hj)] at e
     cases e
     rw [aj]
     exact ⟨v1, s1, RoS.lv (λ st a z => z.imp id (gw a)) r1⟩
   · rw [zzV (λ z => e1 z.symm)] at e
     by_cases e2 : k = i
     · subst e2
       rw [List.getElem?_set_self hi] at e
       cases e
       rw [ai]
       exact ⟨v0, s0, RoS.lv (λ st a z => z.imp id (gw a)) r0⟩
     · rw [zzV (λ z => e2 z.symm)] at e
       rw [ak k e2 e1]
       exact (R.sl k s e).grow g λ a m u h => kp a u h (off k a e2 e1 m)
end
def spM (K : zC) (kd : KD) (g : O -> O -> It1 -> Option (O × O)) : Sp := λ vs H Q _ => ∃ (F B G : Addr -> Prop) (T0 T1 : List Addr) (v0 v1 v2 : V) (o0 o1 : O) (x : It1) (r : O × O), vs = [v0, v1, v2] /\ (∀ a, F a -> H a ≠ none) /\ (∀ a, B a -> H a ≠ none /\ ¬ F a /\ ¬ G a) /\ (∀ a, G a -> H a ≠ none /\ ¬ F a) /\
 (T0 ++ T1).Nodup /\ (∀ a ∈ T0 ++ T1, G a) /\ RoS K kd F B G H v0 o0 T0 /\ RoS K kd F B G H v1 o1 T1 /\ Rp K kd (Lv F B G x.1) H v2 x.2 /\ g o0 o1 x = some r /\
 ∀ (H' : Hp) (T0' T1' : List Addr), (∀ c u, H c = some u -> c ∉ T0 ++ T1 -> H' c = some u) -> (T0' ++ T1').Nodup -> (∀ a ∈ T0' ++ T1', a ∈ T0 ++ T1 \/ H a = none) -> (∀ a ∈ T0' ++ T1', H' a ≠ none) ->
  RoS K kd F B (G2 G (T0 ++ T1) (T0' ++ T1')) H' v0 r.1 T0' -> RoS K kd F B (G2 G (T0 ++ T1) (T0' ++ T1')) H' v1 r.2 T1' -> Q .non H'
def zat (i j : Nat) (fe : EF) (g : O -> O -> It1 -> Option (O × O)) : SF := λ as => (as[i]?).bind λ a0 => a0.bind λ _ => (as[j]?).bind λ b0 => b0.bind λ _ => (fe as).bind λ p => (XD p.2 p.1).bind λ x => (x.2[i]?).bind λ a => (x.2[j]?).bind λ b => a.bind λ o0 => b.bind λ o1 => (g o0 o1 x.1).bind λ r => some (.nx ((x.2.set i (some r.1)).set j (some r.2)))
section
variable {X : Cx} {kd : KD} {e : Expr} {fe : EF} {pos pos' : Pos}
theorem zdQ {i j k : Nat} {f : Addr} {fdt : FuncData} {ps : List Str} {g : O -> O -> It1 -> Option (O × O)} {x n0 n1 : Str} {p p0 p1 : Pos} (F : FnOk X.prog X.w X.K X.mg X.base CX0 k f fdt ps (spM X.K kd g)) (hr : Room k X.A) (hg : Gl X x) (hm : X.mg x = some (.ref f)) (hk : PySem.W.keepIn X.K (.ref f) = true)
 (hb : Binds X.K fdt ps []) (hx : zcX CX0 X (λ _ _ _ => False)) (hij : i ≠ j) (h0 : PE X (.Name n0 p0) (zby i)) (h1 : PE X (.Name n1 p1) (zby j)) (he : AE X kd e fe) (hdb : (x == ("__debug__" : Str)) = false)
 (hs0 : starEach [.Name n0 p0, .Name n1 p1, e] X.env = (false, eval (.Name n0 p0) X.env) :: starEach [.Name n1 p1, e] X.env) (hs1 : starEach [.Name n1 p1, e] X.env = (false, eval (.Name n1 p1) X.env) :: starEach [e] X.env) (hs2 : starEach [e] X.env = (false, eval e X.env) :: starEach [] X.env) (hpl : (backTo pos (starEach [.Name n1 p1, e] X.env)).any (·.1) = false)
 (hs : swapsWith (.Call (.Name x p) [.Name n0 p0, .Name n1 p1, e] [] pos) none pos'.line X.env = pure false) :
 ASt X kd (.Expr (.Call (.Name x p) [.Name n0 p0, .Name n1 p1, e] [] pos) pos') (zat i j fe g) := by
 with_unfolding_all exact (wR (zfA (zja F hr hg hm hk hb .nil hx (YC h0 (YC h1 (YC he zdV hs2) hs1) hs0) hdb hs0 hpl) hs) λ D σ H h => by
  obtain ⟨F, B, ad, as, o, R, e, q⟩ := h
  obtain ⟨a0, k0, e1⟩ := bS_ (show (as[i]?).bind _ = _ from e)
  obtain ⟨c0, q0, e2⟩ := bS_ e1
  obtain ⟨b0, k1, e3⟩ := bS_ e2
  obtain ⟨c1, q1, e4⟩ := bS_ e3
  obtain ⟨⟨pv, as1⟩, h1, e5⟩ := bS_ e4
  obtain ⟨⟨it, as2⟩, h2, e6⟩ := bS_ e5
  obtain ⟨a, ka, e7⟩ := bS_ e6
  obtain ⟨b, kb, e8⟩ := bS_ e7
  obtain ⟨o0, qa, e9⟩ := bS_ e8
  obtain ⟨o1, qb, e10⟩ := bS_ e9
  obtain ⟨r, hgr, e11⟩ := bS_ e10
  subst q0 q1 qa qb
  obtain ⟨v0, s0, _⟩ := R.sl i _ k0
  obtain ⟨v1, s1, _⟩ := R.sl j _ k1
  have e12 := Option.some.inj e11
  refine ⟨v0, s0, v1, s1, F, B, ad, as, pv, as1, R, h1, λ v T ad1 H1 R1 rv1 g1 => ?_⟩
  obtain ⟨ad2, R2, rp, le⟩ := Zt R1 rv1 h2
  obtain ⟨w0, t0, ro0⟩ := R2.sl i _ ka
  obtain ⟨w1, t1, ro1⟩ := R2.sl j _ kb
  rw [s0] at t0
  rw [s1] at t1
  cases t0
  cases t1
  have dj : ∀ a ∈ ad2 i, ∀ b ∈ ad2 j, a ≠ b := λ a m b m' z => hij (R2.inj i j a m (z ▸ m'))
  refine ⟨F, B, Gw [] ad2, ad2 i, ad2 j, v0, v1, v, o0, o1, it, r, rfl, R2.ftr, R2.btr, R2.gtr, List.nodup_append.mpr ⟨R2.nd i, R2.nd j, dj⟩, λ a m => (zzJ.mp m).elim (λ y => .inr ⟨i, y⟩) λ y => .inr ⟨j, y⟩, ro0, ro1, rp, hgr, λ H' T0 T1 kp nd sub al r0 r1 => ?_⟩
  obtain ⟨R3, g3⟩ := R2.chg2 hij (zzD.mp ka).1 (zzD.mp kb).1 s0 s1 nd sub kp al r0 r1
  subst e12
  exact q σ _ _ R3 ((g1.trans (Grow.less le)).trans g3))
end
def zmZ (n : Nat) (K : zC) (kd : KD) (F B : Addr -> Prop) (ad : Ad) (σ : St) (H : Hp) (D : Ends) : Out -> Prop
 | .nx as' => ∀ σ' ad' H', (∀ i, i < n -> σ'[i]? = σ[i]?) -> Rel K kd F B [] ad' as' σ' H' -> Grow (Gw [] ad) H (Gw [] ad') H' -> D.nx σ' H'
 | .bk as' => ∀ σ' ad' H', (∀ i, i < n -> σ'[i]? = σ[i]?) -> Rel K kd F B [] ad' as' σ' H' -> Grow (Gw [] ad) H (Gw [] ad') H' -> D.bk σ' H'
 | .ct as' => ∀ σ' ad' H', (∀ i, i < n -> σ'[i]? = σ[i]?) -> Rel K kd F B [] ad' as' σ' H' -> Grow (Gw [] ad) H (Gw [] ad') H' -> D.ct σ' H'
 | .rt _ => False
def bp (n : Nat) (K : zC) (kd : KD) (f : SF) : TS := λ D σ H => ∃ F B ad as o, Rel K kd F B [] ad as σ H /\ f as = some o /\ zmZ n K kd F B ad σ H D o
@[irreducible] def AP (X : Cx) (kd : KD) (n : Nat) (st : Stmt) (f : SF) : Prop := PS X st (bp n X.K kd f)
@[irreducible] def APs (X : Cx) (kd : KD) (n : Nat) (st : List Stmt) (f : SF) : Prop := PSs X st (bp n X.K kd f)
theorem zmZ.pre {n : Nat} {K : zC} {kd : KD} {F B : Addr -> Prop} {ad ad1 : Ad} {σ σ1 : St} {H H1 : Hp} {D : Ends} {o : Out} (s : ∀ i, i < n -> σ1[i]? = σ[i]?) (g : Grow (Gw [] ad) H (Gw [] ad1) H1) (h : zmZ n K kd F B ad σ H D o) : zmZ n K kd F B ad1 σ1 H1 D o := by
 cases o with
 | nx as => exact λ σ' ad' H' s' R g' => h σ' ad' H' (λ i hi => (s' i hi).trans (s i hi)) R (g.trans g')
 | bk as => exact λ σ' ad' H' s' R g' => h σ' ad' H' (λ i hi => (s' i hi).trans (s i hi)) R (g.trans g')
 | ct as => exact λ σ' ad' H' s' R g' => h σ' ad' H' (λ i hi => (s' i hi).trans (s i hi)) R (g.trans g')
 | rt _ => exact h
section
variable {X : Cx} {kd : KD} {n : Nat} {e c tg iter : Expr} {st : Stmt} {rest sts body : List Stmt} {fa : EF} {ta : TF} {f g : SF} {pos pos' : Pos}
theorem zmJ : APs X kd n [] sNx := by with_unfolding_all exact (zaF ziC λ D σ H h => by
 obtain ⟨F, B, ad, as, o, R, e, q⟩ := h
 cases e
 exact q σ ad H (λ _ _ => rfl) R Grow.refl)
theorem zha (h1 : AP X kd n st f) (h2 : APs X kd n rest g) : APs X kd n (st :: rest) (zA f g) := by with_unfolding_all exact (zaF (zgg h1 h2) λ D σ H h => by
 obtain ⟨F, B, ad, as, o, R, e, q⟩ := h
 obtain ⟨o1, e1, e⟩ := bS_ (show (f as).bind _ = _ from e)
 refine ⟨F, B, ad, as, o1, R, e1, ?_⟩
 cases o1 with
 | nx as1 => exact λ σ' ad' H' s' R' g' => ⟨F, B, ad', as1, o, R', e, q.pre s' g'⟩
 | bk as1 => cases e; exact q
 | ct as1 => cases e; exact q
 | rt r => cases e; exact q)
theorem zfb (h1 : AP X kd n st f) : APs X kd n [st] f := by with_unfolding_all exact (zia h1)
theorem zqo (hc : AT X kd c ta) (ha : APs X kd n sts f) (hb : APs X kd n rest g) : AP X kd n (.If c sts rest pos) (sIf ta f g) := by with_unfolding_all exact (wR (znR hc ha hb) λ D σ H h => by
 obtain ⟨F, B, ad, as, o, R, e, q⟩ := h
 obtain ⟨⟨p, as1⟩, h1, e⟩ := bS_ (show (ta as).bind _ = _ from e)
 refine ⟨F, B, ad, as, p, as1, R, h1, λ ad' H' R' g => ?_⟩
 cases p with
 | true => exact ⟨F, B, ad', as1, o, R', e, q.pre (λ _ _ => rfl) g⟩
 | false => exact ⟨F, B, ad', as1, o, R', e, q.pre (λ _ _ => rfl) g⟩)
theorem zmP (he : AE X kd e fa) (hs : swapsWith e none pos.line X.env = pure false) : AP X kd n (.Expr e pos) (yV fa) := by with_unfolding_all exact (wR (zfA he hs) λ D σ H h => by
 obtain ⟨F, B, ad, as, o, R, e, q⟩ := h
 obtain ⟨⟨p, as1⟩, h1, e⟩ := bS_ (show (fa as).bind _ = _ from e)
 cases e
 exact ⟨F, B, ad, as, p, as1, R, h1, λ v T' ad' H' R' rv g => q σ ad' H' (λ _ _ => rfl) R'.drop (g.trans (Grow.less Gw.drop))⟩)
theorem zpc {z : Bool} {i : Nat} {x : Str} (hn : n <= i) (hN : X.N.Nodup) (hi : X.N[i]? = some x) (hx : Loc X.env.scope x) (he : AE X kd e fa) (hs : swapsWith e (some (.Name x pos')) pos.line X.env = pure false) (hf : X.fn x = true \/ X.env.scope.names.lookup x = some .local) :
 AP X kd n (.Assign [.Name x pos'] e pos) (zK z i fa) := by with_unfolding_all exact (wR (zls hN hi hx he hs hf) λ D σ H h => by
 obtain ⟨F, B, ad, as, o, R, e, q⟩ := h
 obtain ⟨⟨p, as1⟩, h1, e⟩ := bS_ (show (fa as).bind _ = _ from e)
 obtain ⟨⟨y, as2⟩, h2, e⟩ := bS_ e
 obtain ⟨hl, e⟩ := zQ e
 cases e
 refine ⟨F, B, ad, as, p, as1, R, h1, λ v T' ad' H' R' rv g => ?_⟩
 obtain ⟨ad2, R2, le⟩ := zfJ R' rv h2 hl
 exact q _ ad2 H' (λ k hk => zzV (by omega)) R2 (g.trans (Grow.less le)))
theorem zpH {fi : IF} {S : List Nat} {gt : GF} (hS : ∀ i, i < n -> i ∉ S) (hp : PassesOwn (model X.prog X.w) X.A X.env X.xe) (hc : X.calm = true) (hi : AI X kd tg iter fi) (hg : AG X kd tg S gt) (hb : APs X kd n body f) (hs : ∀ x, foldedSetIterable iter X.env x = pure x) :
 AP X kd n (.For tg iter body [] pos) (xm fi gt f) := by with_unfolding_all exact (wR (zkj hp hc hi hg hb hs) λ D σ H h => by
 obtain ⟨F, B, ad, as, o, R, e, q⟩ := h
 obtain ⟨⟨ds, as1⟩, h1, e⟩ := bS_ (show (fi as).bind _ = _ from e)
 refine ⟨F, B, ad, as, ds, as1, R, h1, λ J ad1 H1 R1 g1 it => ?_⟩
 refine ⟨λ i m σ2 H2 => m + i = ds.length /\ ∃ ad2 as2, (∀ k, k < n -> σ2[k]? = σ[k]?) /\ Rel X.K kd F B [] ad2 as2 σ2 H2 /\ Grow (Gw [] ad1) H1 (Gw [] ad2) H2 /\ forL gt f (ds.drop i) as2 = some o, ⟨ds.length, rfl, ad1, as1, λ _ _ => rfl, R1, Grow.refl, e⟩, ?_⟩
 rintro i m σ2 H2 ⟨hm, ad2, as2, s2, R2, g2, e2⟩
 obtain ⟨k1, k2, k3⟩ := it.all ad2 H2 g2 R2.trk i
 by_cases hi : i < ds.length
 · refine .inr ⟨k1 hi, λ σ3 H3 => ∃ ad3 as3, (∀ k, k < n -> σ3[k]? = σ[k]?) /\ Rel X.K kd F B [] ad3 as3 σ3 H3 /\ Grow (Gw [] ad1) H1 (Gw [] ad3) H3 /\ forL gt f (ds.drop (i + 1)) as3 = some o, λ σ3 H3 ⟨ad3, as3, s3, R3, g3, e3⟩ => ⟨m - 1, by omega, by omega, ad3, as3, s3, R3, g3, e3⟩, λ v H3 hy => ?_⟩
   obtain ⟨kp, rp⟩ := k3 v H3 hy
   rw [List.drop_eq_getElem_cons hi] at e2
   obtain ⟨as3, e3, e2⟩ := bS_ (show (gt _ as2).bind _ = _ from e2)
   obtain ⟨o3, e4, e2⟩ := bS_ e2
   obtain ⟨R3, g3⟩ := R2.more kp
   refine ⟨F, B, ad2, as2, _, as3, R3, rp _ (zzB hi), e3, λ σ4 ad4 H4 R4 g4 s4 => ?_⟩
   refine ⟨F, B, ad4, as3, o3, R4, e4, ?_⟩
   have gg := (g2.trans g3).trans g4
   have s4' : ∀ k, k < n -> σ4[k]? = σ[k]? := λ k hk => (s4 k (hS k hk)).trans (s2 k hk)
   cases o3 with
   | nx as5 => exact λ σ5 ad5 H5 s5 R5 g5 => ⟨ad5, as5, λ k hk => (s5 k hk).trans (s4' k hk), R5, gg.trans g5, e2⟩
   | ct as5 => exact λ σ5 ad5 H5 s5 R5 g5 => ⟨ad5, as5, λ k hk => (s5 k hk).trans (s4' k hk), R5, gg.trans g5, e2⟩
   | bk as5 =>
    cases e2
    exact λ σ5 ad5 H5 s5 R5 g5 => q σ5 ad5 H5 (λ k hk => (s5 k hk).trans (s4' k hk)) R5 (g1.trans (gg.trans g5))
   | rt r => cases e2; exact q.elim
 · refine .inl ⟨k2 (by omega), ?_⟩
   rw [List.drop_eq_nil_of_le (by omega)] at e2
   cases e2
   exact q σ2 ad2 H2 s2 R2 (g1.trans g2))
end
section
variable {X : Cx} {kd : KD} {e a b c o i : Expr} {pos pos' : Pos} {fa fb fk fv : EF}
theorem zny {n : Nat} {j : Nat} {x : Str} {p : Pos} (hu : X.A.units + 1 < cLine) (ho : PE X (.Name x p) (zby j)) (hk : AE X kd i fk) (hv : AE X kd e fv) (hs : swapsWith e (some (.Subscript (.Name x p) i pos')) pos.line X.env = pure false) :
 AP X kd n (.Assign [.Subscript (.Name x p) i pos'] e pos) (V7 j fk fv) := by with_unfolding_all exact (wR (ziM hu ho hk hv hs) λ D σ H h => by
 obtain ⟨F, B, ad, as, o, R, e, q⟩ := h
 obtain ⟨⟨p, as1⟩, h1, e⟩ := bS_ (show (fv as).bind _ = _ from e)
 obtain ⟨⟨⟨st, d⟩, as2⟩, h2, e⟩ := bS_ e
 cases k1 : as2[j]? with
 | none => rw [k1] at e; cases e
 | some a0 =>
  rw [k1] at e
  match a0, e, k1 with
  | some (.nd (.dt ks0) os0), e, k1 =>
   obtain ⟨⟨pk, as3⟩, h3, e⟩ := bS_ (show (fk as2).bind _ = _ from e)
   obtain ⟨k, h5, e⟩ := bS_ e
   refine ⟨F, B, ad, as, p, as1, R, h1, λ v T1 ad1 H1 R1 rv1 g1 => ?_⟩
   obtain ⟨ad2, R2, rp, le⟩ := Zt R1 rv1 h2
   obtain ⟨v0, hs0, ro0⟩ := R2.sl j _ k1
   refine ⟨v0, hs0, ZV R2 h3 λ u ad3 H3 R3 rv3 g3 => ?_⟩
   cases k2 : as3[j]? with
   | none => rw [k2] at e; cases e
   | some a2 =>
    rw [k2] at e
    match a2, e, k2 with
    | some (.nd (.dt ks) os), e, k2 =>
     obtain ⟨hz, e⟩ := zQ e
     cases e
     obtain ⟨v1, hs1, ro1⟩ := R3.sl j _ k2
     rw [hs0] at hs1
     cases hs1
     generalize hfp : ad3 j = fp1 at ro1
     cases ro1 with
     | dt hH hl lb kc rl =>
          rename_i bs ep l vs fp
          have hrk : ∃ st' d', zjC d' = some k /\ Rp X.K kd (Lv F B (Gw [] ad3) st') H3 u d' := by
           cases pk with
           | bo _ => cases h5
           | ow ok => exact ⟨ok.str, ok.toD, h5, zbq (o := ok.frz) rv3⟩
          obtain ⟨st', d', h5, rk⟩ := hrk
          obtain ⟨bk, rfl, hbk⟩ := zcP rk.vw h5
          have rk0 : Rp X.K kd (Lv F B (Gw [] ad3) false) H3 (.ref bk) (tkD k) := by
           rw [<- zig h5]; exact rk.less (zaz (b := false) (st := st') λ z => Bool.noConfusion z)
          obtain ⟨lb', kc'⟩ := zgy (k := k) (b := bk) (P := λ v d => Rp X.K kd (Lv F B (Gw [] ad3) false) H3 v d) hl lb kc rk0
          have ro : RoS X.K kd F B (Gw [] ad3) H3 v (.lf st d) [] := .lf (Rp.grow g3 rp)
          have hlo : ks.length = os.length := by rw [hl, rl.length]
          have hex : ∃ fp', fp'.Sublist fp /\ Zv X.K kd F B (Gw [] ad3) H3 (ZP ks vs k v) (ZP ks os k (.lf st d)) fp' := by
           unfold ZP
           split
           · exact zhg ro hl rl
           · exact ⟨fp, List.Sublist.refl _, by have := rl.append (RoL.one ro); rw [List.append_nil] at this; exact this⟩
          obtain ⟨fp', hsub, rl'⟩ := hex
          have hnd := R3.nd j
          rw [hfp] at hnd
          refine ⟨l, rfl, .inr ⟨_, _, _, k, bk, hH, rfl, hbk, by rw [List.length_zip, hl, Nat.min_self, <- hl]; exact hz, λ ep' => ?_⟩⟩
          rw [zgh hl]
          obtain ⟨R4, g4⟩ := R3.mut (fo := []) (n := .nd (.dt (YG ks k)) (ZP ks os k (.lf st d))) (u := .dT ((YG ks k).zip (ZP ks vs k v)) (zgr (ks.zip vs) bs k bk) ep') (zzD.mp k2).1 hfp hs0 (fp' := fp') (λ a m => by
           rw [List.append_nil] at m ⊢; exact hsub.mem m) (by rw [List.append_nil]; exact (zzT.mp hnd).2.sublist hsub) (by rw [hH]; simp) λ H' G' hl' gr kp => .dt hl' (zaR hl) lb' (λ p m => Rp.grow gr (kc' p m)) (Zv.grow gr kp rl')
          exact q σ _ _ (λ _ _ => rfl) R4 (((g1.trans (Grow.less le)).trans g3).trans g4))
end
def startM (n : Nat) (o0 o1 : O) (x : It1) : AS := [some o0, some o1, some (.lf x.1 x.2)] ++ List.replicate (n - 3) none
def gM (n : Nat) (c : SF) (o0 o1 : O) (x : It1) : Option (O × O) := (c (startM n o0 o1 x)).bind λ o => match o with
 | .nx as => (as[0]?).bind λ a => (as[1]?).bind λ b => a.bind λ r0 => b.bind λ r1 => some (r0, r1)
 | _ => none
def adM (T0 T1 : List Addr) : Ad := λ i => if i = 0 then T0 else if i = 1 then T1 else []
theorem zbv {T0 T1 : List Addr} {a : Addr} : Gw [] (adM T0 T1) a ↔ a ∈ T0 ++ T1 := by
 constructor
 · rintro (z | ⟨i, z⟩)
   · exact nomatch z
   · match i, z with
     | 0, z => exact zzM _ z
     | 1, z => exact zzI _ z
     | i + 2, z => exact nomatch z
 · intro z
   rcases zzJ.mp z with z | z
   · exact .inr ⟨0, z⟩
   · exact .inr ⟨1, z⟩
theorem zhi {K : zC} {kd : KD} {F B G : Addr -> Prop} {T0 T1 : List Addr} {H : Hp} {N : List Str} {v0 v1 v2 : V} {o0 o1 : O} {x : It1} (hN : 3 <= N.length) (ht : ∀ a, F a -> H a ≠ none) (hB : ∀ a, B a -> H a ≠ none /\ ¬ F a /\ ¬ G a) (hG : ∀ a, G a -> H a ≠ none /\ ¬ F a) (nd : (T0 ++ T1).Nodup) (hT : ∀ a ∈ T0 ++ T1, G a)
 (r0 : RoS K kd F B G H v0 o0 T0) (r1 : RoS K kd F B G H v1 o1 T1) (rp : Rp K kd (Lv F B G x.1) H v2 x.2) :
 Rel K kd F (λ a => B a \/ (G a /\ a ∉ T0 ++ T1)) [] (adM T0 T1) (startM N.length o0 o1 x) (L2.start N [v0, v1, v2]) H := by
 obtain ⟨n0, n1, n2⟩ := List.nodup_append.mp nd
 have lv : ∀ st a, Lv F (λ a => B a \/ (G a /\ a ∉ T0 ++ T1)) (Gw [] (adM T0 T1)) st a -> Lv F B G st a := λ st a z => by
  rcases z with (z | z | z) | z
  · exact .inl (.inl z)
  · exact .inl (.inr z)
  · exact .inr z.1
  · exact .inr (hT a (zbv.mp z))
 refine ⟨by unfold startM L2.start; simp, λ i hi => ?_, λ i => ?_, λ i j a x y => ?_, List.nodup_nil, (λ _ _ _ z => nomatch z), ht, λ a z => ?_, λ a z => hG a (hT a (zbv.mp z)), λ i s e => ?_⟩
 · match i, hi with
   | 0, hi => simp [startM] at hi
   | 1, hi => simp [startM] at hi
   | i + 2, _ => rfl
 · match i with
   | 0 => exact n0
   | 1 => exact n1
   | i + 2 => exact List.nodup_nil
 · match i, j, x, y with
   | 0, 0, _, _ => rfl
   | 1, 1, _, _ => rfl
   | 0, 1, x, y => exact absurd rfl (n2 a x a y)
   | 1, 0, x, y => exact absurd rfl (n2 a y a x)
   | i + 2, _, x, _ => exact nomatch x
   | 0, j + 2, _, y => exact nomatch y
   | 1, j + 2, _, y => exact nomatch y
 · rcases z with z | z
   · exact ⟨(hB a z).1, (hB a z).2.1, λ y => (hB a z).2.2 (hT a (zbv.mp y))⟩
   · exact ⟨(hG a z.1).1, (hG a z.1).2, λ y => z.2 (zbv.mp y)⟩
 · match i, e with
   | 0, e => cases e; exact ⟨v0, rfl, RoS.lv lv r0⟩
   | 1, e => cases e; exact ⟨v1, rfl, RoS.lv lv r1⟩
   | 2, e => cases e; exact ⟨v2, rfl, .lf (rp.less (lv x.1))⟩
   | i + 3, e =>
    have e : (List.replicate (N.length - 3) (none : Option O))[i]? = some s := e
    have ea : s = none := (List.mem_replicate.mp (List.mem_of_getElem? e)).2
    subst ea
    rfl
section
variable {P : Program} {w : World} {K : zC} {mg : Str -> Option Value} {base : Heap}
theorem zpl {kd : KD} {x qual : Str} {st : Stmt} {f : Addr} {fd : FuncData} {N ps : List Str} {k : Nat} {c : SF} (Fn : Fun K x qual st f fd) (S : FnScope N ps (zB st)) (hps : ps.length = 3) (hN : 3 <= N.length)
 (hb : ∀ (cdv : Value) (A : Around) (outer : List Env) (s : Shared) (H : Hp) (E : XK), Room k (A.deeper (envOfC qual (zB st) s.heap.objs.size f cdv)) -> APs (zgJ CX0 P w K mg base N qual (zB st) f cdv A outer s H E).nox kd 2 (Vz st) c) :
 FnOk P w K mg base CX0 (k + 1) f fd ps (spM K kd (gM N.length c)) := by
 with_unfolding_all (
 refine Fn.ok S (λ vs H Q E h => ?_) (λ cdv A outer s H vs Q E hr h => ⟨_, hb cdv A outer s H E hr, ?_⟩)
 · obtain ⟨_, _, _, _, _, _, _, _, _, _, _, _, rfl, _⟩ := h
   exact hps.symm
 · obtain ⟨F, B, G, T0, T1, v0, v1, v2, o0, o1, x, r, rfl, ht, hB, hG, nd, hT, r0, r1, rp, e, q⟩ := h
   obtain ⟨out, e1, e⟩ := bS_ e
   refine ⟨F, _, _, startM N.length o0 o1 x, out, zhi hN ht hB hG nd hT r0 r1 rp, e1, ?_⟩
   cases out with
   | nx as =>
    obtain ⟨a, k0, e⟩ := bS_ e
    obtain ⟨b, k1, e⟩ := bS_ e
    obtain ⟨w0, qa, e⟩ := bS_ e
    obtain ⟨w1, qb, e⟩ := bS_ e
    subst qa qb
    intro σ' ad' H' sp R g
    obtain ⟨u0, s0, t0⟩ := R.sl 0 _ k0
    obtain ⟨u1, s1, t1⟩ := R.sl 1 _ k1
    rw [sp 0 (by omega)] at s0
    rw [sp 1 (by omega)] at s1
    cases (show some (some v0) = some (some u0) from s0)
    cases (show some (some v1) = some (some u1) from s1)
    cases (show some (w0, w1) = some r from e)
    have own : ∀ a, a ∈ ad' 0 ++ ad' 1 -> Gw [] ad' a := λ a z => (zzJ.mp z).elim (λ y => .inr ⟨0, y⟩) λ y => .inr ⟨1, y⟩
    have lv : ∀ st a, Lv F B (G2 G (T0 ++ T1) (ad' 0 ++ ad' 1)) st a -> Lv F (λ a => B a \/ (G a /\ a ∉ T0 ++ T1)) (Gw [] ad') st a := λ st a z => by
     rcases z with (z | z) | z | z
     · exact .inl (.inl z)
     · exact .inl (.inr (.inl z))
     · exact .inl (.inr (.inr z))
     · exact .inr (own a z)
    exact q H' (ad' 0) (ad' 1) (λ c u h n => g.keep c u h λ z => n (zbv.mp z)) (List.nodup_append.mpr ⟨R.nd 0, R.nd 1, λ a m b m' z => absurd (R.inj 0 1 a m (z ▸ m')) (by decide)⟩) (λ a m => (g.own a (own a m)).imp zbv.mp id) (λ a m => (R.gtr a (own a m)).1) (RoS.lv lv t0) (RoS.lv lv t1)
   | _ => cases e)
end
def zlT : EF := λ as => some (.ow (.nd (.dt []) []), as)
section
variable {X : Cx} {kd : KD} {n : Nat}
theorem zkT {pos : Pos} : AE X kd (.Dict [] [] pos) zlT := by with_unfolding_all exact (xN zlh λ σ H Q h => by
 obtain ⟨F, B, ad, as, r, as', R, e, q⟩ := h
 cases e
 intro p hp
 have k : ∀ b o, H b = some o -> upd H p (.dT [] [] 0) b = some o := λ b o hb => by rw [yd (xG hb hp)]; exact hb
 obtain ⟨R2, g2⟩ := R.news (T' := [p]) (by simp) (λ a m => by rw [zzO.mp m]; exact hp) k (λ a m => by rw [zzO.mp m, yK]; simp)
 exact q _ [p] ad _ R2 (.dt (ks := []) (vs := []) (bs := []) yK rfl rfl (λ _ m => nomatch m) .nil) g2)
theorem svP (z : Bool) (i : Nat) {x : Str} {pos pos' : Pos} {e : Expr} {fa : EF} (hn : n <= i) (hN : X.N.Nodup) (he : AE X kd e fa) (hi : X.N[i]? = some x := by rfl) (hx : Loc X.env.scope x := by first | exact Or.inl rfl | exact Or.inr rfl) (hs : swapsWith e (some (.Name x pos')) pos.line X.env = pure false := by rfl) (hf : X.fn x = true \/ X.env.scope.names.lookup x = some .local := by first | exact Or.inl rfl | exact Or.inr rfl) :
 AP X kd n (.Assign [.Name x pos'] e pos) (zK z i fa) := zpc hn hN hi hx he hs hf
end
end PF
end
section
namespace L2
open PySem PySem.Spec PyProof.Rows
theorem zec {prog : Program} {w : World} {A : Around} {E : Value -> Shared -> Prop} {s : Shared} {d : Addr} {o : Obj} {es : Array DictEntry} {ep : Nat} {Q : Value -> Shared -> Prop} (hd : (d == sysModules) = false) (hT : s.TypeIs (.ref d) "dict") (ho : s.heap.get? d = some o) (hdat : o.data = .dict es ep) (hQ : Q (.ref s.heap.objs.size) { s with heap := s.heap.push { cls := .type "dict_keyiterator", data := .fields #[.ref d, .int 0 0, .int (es.size : Nat) 0, .int (ep : Nat) 0] } }) : wpAny (model prog w) A (pyIter (.ref d)) Q E s := by
 refine wpAny_pyIter_slot hT F.slot_dict_iter (wpAny_call_entry F.slot_dict_iter hT F.entry_dict_iter ?_ (F.args_dict_iter_1 _))
 unfold Builtin.«dict.__iter__»
 refine wpAny_bind ?_
 unfold Builtin.Dict.dictSlotNone
 refine wpAny_bind (wpAny_notOrdered_dict hT ?_)
 refine wpAny_pure ?_
 refine wpAny_bind (wpAny_pure ?_)
 unfold Builtin.Dict.showsAll
 rw [if_neg (by rw [hd]; exact Bool.false_ne_true)]
 refine wpAny_bind (wpAny_pure (wpAny_bind (wpAny_dictEntries ho hdat (wpAny_bind (wpAny_dictEpoch ho hdat (wpAny_bind (wpAny_newObj_type (wpAny_pure ⟨_, rfl, "dict_keyiterator", _, ⟨_, Heap.get?_push_size _ rfl, rfl⟩, F.slot_dict_keyiterator_next.lookup, hQ⟩) ?_)))))))
 show (#[Value.ref d, rawInt 0, rawInt es.size, rawInt ep] : Array Value).size <= sizeLine + 2
 exact zzL (show 4 <= 1000 by decide) (zzL (by decide : 1000 <= sizeLine) (Nat.le_add_right _ _))
theorem zkA {prog : Program} {w : World} {A : Around} {E : Value -> Shared -> Prop} {s : Shared} {it d : Addr} {i ep : Nat} {es : Array DictEntry} {od : Obj} {x : DictEntry} {Q : Option Value -> Shared -> Prop} (hit : s.heap.IsKeyIter it d i es.size ep) (hod : s.heap.get? d = some od) (hdd : od.data = .dict es ep) (hx : es[i]? = some x) (hQ : ∀ h' : Heap, h'.IsKeyIter it d (i + 1) es.size ep -> Heap.SameBut it s.heap h' -> Q (some x.key) { s with heap := h' }) : wpAny (model prog w) A (pyNext (.ref it)) Q E s := by
 obtain ⟨o, ho, hc, hd⟩ := id hit
 unfold pyNext
 refine wpAny_bind (wpAny_attempt (wpAny_callSpecial?_slot hit.typeIs F.slot_dict_keyiterator_next (wpAny_call_entry F.slot_dict_keyiterator_next hit.typeIs F.entry_dict_keyiterator_next (wpAny_bind (wpAny_pure (wpAny_bind (wpAny_bind (wpAny_bind (wpAny_typeNameOfWhole_keyiter hit.typeIs (wpAny_pure (wpAny_bind (wpAny_fieldsOf ho hd ?_))))))))))))
 rw [show List.take 4 (List.drop (if Builtin.Dict_items.ownsTuple "dict_keyiterator" = true then 2 else 0) #[Value.ref d, Value.int (i : Nat) 0, Value.int (es.size : Nat) 0, Value.int (ep : Nat) 0].toList) = [Value.ref d, Value.int (i : Nat) 0, Value.int (es.size : Nat) 0, Value.int (ep : Nat) 0] from rfl]
 show wpAny _ _ (if (Value.ref d == Value.none) = true then _ else _) _ _ _
 rw [if_neg (λ h => by cases h)]
 refine wpAny_bind (wpAny_pure (wpAny_bind (wpAny_dictEntries hod hdd ?_)))
 rw [if_neg (by simp)]
 refine wpAny_bind (wpAny_pure (wpAny_bind (wpAny_dictEpoch hod hdd ?_)))
 rw [if_neg (by simp)]
 refine wpAny_pure ?_
 show wpAny _ _ (match (if (i : Int) < 0 then none else es[(i : Int).toNat]?) with | some e => _ | none => _) _ _ _
 rw [if_neg (by omega), Int.toNat_natCast, hx]
 refine wpAny_bind (wpAny_bind (wpAny_typeNameOfWhole_keyiter hit.typeIs (wpAny_pure (wpAny_bind (wpAny_isOneOf_keyiter hit.typeIs ?_)))))
 refine wpAny_bind (wpAny_setField ho hd (show 1 < 4 by decide) ?_)
 have hit' : (s.heap.update it (Obj.mapFields λ x => x.setIfInBounds 1 (rawInt ((i : Int) + 1)))).IsKeyIter it d (i + 1) es.size ep := by
  refine ⟨_, Heap.get?_update_self _ ho (Obj.isFreed_of_fields (Obj.data_mapFields hd _)), (Obj.cls_mapFields o _).trans hc, ?_⟩
  rw [Obj.data_mapFields hd]
  rfl
 refine wpAny_bind (wpAny_holding (wpAny_bind (wpAny_isOneOf_keyiter hit'.typeIs (wpAny_pure (wpAny_pure ⟨_, rfl, wpAny_pure (hQ _ hit' (Heap.SameBut.update _ _ _))⟩)))))
theorem znB {prog : Program} {w : World} {A : Around} {E : Value -> Shared -> Prop} {s : Shared} {it d : Addr} {i ep : Nat} {es : Array DictEntry} {od : Obj} {Q : Option Value -> Shared -> Prop} (hh : A.handled = none) (hit : s.heap.IsKeyIter it d i es.size ep) (hod : s.heap.get? d = some od) (hdd : od.data = .dict es ep) (hx : es[i]? = none) (hQ : ∀ h' : Heap, Heap.ExtBut it s.heap h' -> Q none { s with heap := h' }) : wpAny (model prog w) A (pyNext (.ref it)) Q E s := by
 obtain ⟨o, ho, hc, hd⟩ := id hit
 unfold pyNext
 refine wpAny_bind (wpAny_attempt (wpAny_callSpecial?_slot hit.typeIs F.slot_dict_keyiterator_next (wpAny_call_entry F.slot_dict_keyiterator_next hit.typeIs F.entry_dict_keyiterator_next (wpAny_bind (wpAny_pure (wpAny_bind (wpAny_bind (wpAny_bind (wpAny_typeNameOfWhole_keyiter hit.typeIs (wpAny_pure (wpAny_bind (wpAny_fieldsOf ho hd ?_))))))))))))
 rw [show List.take 4 (List.drop (if Builtin.Dict_items.ownsTuple "dict_keyiterator" = true then 2 else 0) #[Value.ref d, Value.int (i : Nat) 0, Value.int (es.size : Nat) 0, Value.int (ep : Nat) 0].toList) = [Value.ref d, Value.int (i : Nat) 0, Value.int (es.size : Nat) 0, Value.int (ep : Nat) 0] from rfl]
 show wpAny _ _ (if (Value.ref d == Value.none) = true then _ else _) _ _ _
 rw [if_neg (λ h => by cases h)]
 refine wpAny_bind (wpAny_pure (wpAny_bind (wpAny_dictEntries hod hdd ?_)))
 rw [if_neg (by simp)]
 refine wpAny_bind (wpAny_pure (wpAny_bind (wpAny_dictEpoch hod hdd ?_)))
 rw [if_neg (by simp)]
 refine wpAny_pure ?_
 show wpAny _ _ (match (if (i : Int) < 0 then none else es[(i : Int).toNat]?) with | some e => _ | none => _) _ _ _
 rw [if_neg (by omega), Int.toNat_natCast, hx]
 refine wpAny_bind (wpAny_bind (wpAny_typeNameOfWhole_keyiter hit.typeIs (wpAny_pure ?_)))
 refine wpAny_bind (wpAny_setField ho hd (show 0 < 4 by decide) ?_)
 refine wpAny_bind ?_
 unfold newExc
 refine wpAny_bind (wpAny_newObj_type (wpAny_bind (wpAny_of_eq (Eq.refl (firstArgMember (Value.type "StopIteration") [])) (wpAny_newObj_type ?_ (sizeOk_excFields _ _ _ _ _ _ _ _)))) ?_)
 · unfold raiseNew
   refine wpAny_bind (wpAny_handled ?_)
   have hh' : A.in1.handled = none := hh
   rw [hh']
   refine wpAny_bind (wpAny_pure ?_)
   refine wpAny_throw (wpAny_bind (wpAny_isInstance ⟨_, Heap.get?_push_size _ rfl, rfl⟩ isSubtype_stop (wpAny_pure (hQ _ λ b u hb e => Heap.get?_push_of_some _ (Heap.get?_push_of_some _ ?_)))))
   exact ((Heap.SameBut.update s.heap it _).2 b hb).trans e
 · exact Nat.zero_le _
def Itd (a : Addr) (kvs : List (List Key × V)) (bs : List Addr) (ep : Nat) : It :=
 ⟨λ i H => H a = some (.dT kvs bs ep) /\ i < bs.length, λ i H x H' => H' = H /\ (bs.map V.ref)[i]? = some x, λ i H => H a = some (.dT kvs bs ep) /\ bs.length <= i⟩
theorem zhF {P : Program} {w : World} {H : Hp} {h : Heap} {a : Addr} {kvs : List (List Key × V)} {bs : List Addr} {ep : Nat} (ok : HOk P w H h) (e : H a = some (.dT kvs bs ep)) :
 (a == sysModules) = false /\ ∃ o es, h.get? a = some o /\ o.ExactDict /\ o.data = .dict es ep /\ es.size = bs.length /\ ∀ (i : Nat) (b : Addr), bs[i]? = some b -> ∃ x : DictEntry, es[i]? = some x /\ x.key = Value.ref b := by
 obtain ⟨_, y, xs, _, eb, o, es, h1, h2, h3, h4, _⟩ := (show wL P w H h a (.dT kvs bs ep) from ok a _ e)
 subst eb
 refine ⟨y, o, es, h1, h2, h3, ?_, λ i b hb => ?_⟩
 · rw [<- Array.length_toList, h4, zD, zD]
 · rw [zzF] at hb
   cases k : xs[i]? with
   | none => rw [k] at hb; cases hb
   | some q =>
    rw [k] at hb
    cases hb
    exact ⟨entryOfKey (tupleKind (yX P w)) q, by rw [<- Array.getElem?_toList, h4, zzF, k]; rfl, rfl⟩
theorem zju {P : Program} {w : World} {K : zC} {tg : Expr} {kvs : List (List Key × V)} {bs : List Addr} {ep : Nat} (a it : Addr) : Turn P w K tg (Itd a kvs bs ep) [it] it (λ i h => h.IsKeyIter it a i bs.length ep) where
 mem := by simp
 obj := λ i h st b hb => by
  have e : b = it := by simpa using hb
  subst e
  obtain ⟨o, e, c, d⟩ := st
  exact ⟨o, e, λ v z => by rw [d] at z; cases z⟩
 keep := λ i h h' st k => st.at λ o e => k it (by simp) o e
 item := by
  intro X hP hw hK hc i pins s σ H E I hf st hg
  subst hP hw hK
  obtain ⟨e, hi⟩ := hg
  obtain ⟨_, o, es, h1, h2, h3, hs, hk⟩ := zhF I.hok e
  obtain ⟨x, hx, kx⟩ := hk i _ (zzB hi)
  obtain ⟨f0, f1, f2, f3, f4, f5⟩ := hf it (by simp)
  rw [<- hs] at st
  refine zkA st h1 h3 hx λ h' st' sb => ?_
  rw [hs] at st'
  rw [kx]
  have I1 : Inv X pins σ H { s with heap := h' } := I.turned (t' := s.toks) (λ b o hb e => (sb.2 b hb).trans e) f0 f1 f3 f4 f5
  obtain ⟨o', e', c, d⟩ := id st'
  exact ⟨_, rfl, zij (s := { s with heap := h' }) e' c d (by decide) ⟨.ref bs[i], H, I1, rfl, ⟨rfl, by rw [zzF, zzB hi]; rfl⟩, st', λ b hb => (hf b hb).1⟩⟩
 done := by
  intro X hP hw hK hc i pins s σ H E I hf st hg
  subst hP hw hK
  obtain ⟨e, hi⟩ := hg
  obtain ⟨_, o, es, h1, h2, h3, hs, hk⟩ := zhF I.hok e
  obtain ⟨f0, f1, f2, f3, f4, f5⟩ := hf it (by simp)
  rw [<- hs] at st
  exact znB (I.ok.hd hc) st h1 h3 (Array.getElem?_eq_none (by omega)) λ h' eb => ⟨rfl, I.turned (t' := s.toks) (λ b o hb e => eb b o hb e) f0 f1 f3 f4 f5⟩
 self := λ _ _ _ _ _ st h => wpAny_pyIter_keyiter st h
def zoD (tl : TE) : TI := λ σ H R => tl σ H λ x H1 => ∃ a kvs bs ep, x = .ref a /\ H1 a = some (.dT kvs bs ep) /\ R (Itd a kvs bs ep) H1
theorem zgb {X : Cx} {tg l : Expr} {tl : TE} (hl : PE X l tl) : PI X tg l (zoD tl) := by
 intro pins s σ H R I h
 refine thn (hl pins s σ H _ I h) λ v s1 ⟨x, H1, I1, r1, q1⟩ => ?_
 obtain ⟨a, kvs, bs, ep, e, hq, q⟩ := q1
 subst e
 cases r1
 obtain ⟨hy, o, es, h1, h2, h3, hs, _⟩ := zhF I1.hok hq
 refine zec hy ⟨o, h1, h2.1⟩ h1 h3 ?_
 rw [hs]
 refine ⟨s1.heap.objs.size, [s1.heap.objs.size], _, _, H1, rfl, I1.kept (t' := s1.toks) λ b o e => Heap.get?_push_of_some _ e, zju a _, ⟨_, Heap.get?_push_size _ rfl, rfl, rfl⟩, λ b hb => ?_, q⟩
 have e : b = s1.heap.objs.size := by simpa using hb
 subst e
 exact I1.fpOk (zzK _) (I1.hok.fresh (zzK _))
end L2
namespace PF
open PySem PySem.Spec PyProof.Rows L2
def keysOf : It1 -> Option (List It1)
 | (st, .dt ks _) => some (kids st (ks.map tkD))
 | _ => none
def ziZ (f : EF) : IF := λ as => (f as).bind λ p => (XD p.2 p.1).bind λ q => (keysOf q.1).bind λ ds => some (ds, q.2)
def zqt : RV -> Option (List It1)
 | .ow o => keysOf (o.str, o.toD)
 | .bo _ => none
def zdi (f : EF) : IF := λ as => (f as).bind λ p => (zqt p.1).bind λ ds => some (ds, p.2)
section
variable {K : zC} {kd : KD} {F B : Addr -> Prop} {ad : Ad} {H : Hp} {a : Addr} {kvs : List (List Key × V)} {bs : List Addr} {ep : Nat} {ds : List It1}
theorem zmO (hs : ∀ (ad3 : Ad) (H3 : Hp), Grow (Gw [] ad) H (Gw [] ad3) H3 -> H3 a = some (.dT kvs bs ep)) (r : RpI K kd F B (Gw [] ad) H (bs.map V.ref) ds) : ItOk K kd F B ad H (Itd a kvs bs ep) ds := ⟨λ ad3 H3 g3 _ i => by
 have h3 := hs ad3 H3 g3
 have rl3 := r.grow g3
 have hl := r.length
 rw [zD] at hl
 refine ⟨λ hi => ⟨h3, by omega⟩, λ hi => ⟨h3, by omega⟩, λ v H4 hy => ?_⟩
 obtain ⟨rfl, hv⟩ := hy
 refine ⟨λ _ _ z => z, λ d hd => ?_⟩
 obtain ⟨u, hu, ru⟩ := rl3.get hd
 rw [hv] at hu
 cases hu
 exact ru⟩
theorem zkf (h : H a = some (.dT kvs bs ep)) (r : RpC K kd F H (bs.map V.ref) ds) : ItC K kd F H (Itd a kvs bs ep) ds := ⟨λ H3 T k hT i => by
 have h3 := k _ _ h
 have hl := r.length
 rw [zD] at hl
 refine ⟨λ hi => ⟨h3, by omega⟩, λ hi => ⟨h3, by omega⟩, λ v H4 hy => ?_⟩
 obtain ⟨rfl, hv⟩ := hy
 refine ⟨λ _ _ z => z, λ d hd => ?_⟩
 obtain ⟨u, hu, ru⟩ := r.get hd
 rw [hv] at hu
 cases hu
 exact (ru.since k λ a z => (hT a z).1).less λ a z => z.2.elim (λ y => .inl ⟨z.1, y⟩) .inr⟩
end
theorem znf {X : Cx} {kd : KD} {tg e : Expr} {fa : EF} (he : AE X kd e fa) : AI X kd tg e (ziZ fa) := by
 with_unfolding_all (
 intro pins s σ H R I h
 obtain ⟨F, B, ad, as, ds, as', Rl, e, q⟩ := h
 obtain ⟨⟨p, as1⟩, h1, e⟩ := bS_ (show (fa as).bind _ = _ from e)
 obtain ⟨⟨⟨st, x⟩, as2⟩, h2, e⟩ := bS_ e
 obtain ⟨ys, h3, e⟩ := bS_ e
 cases e
 cases x with
 | dt ks xs =>
  cases h3
  refine zgb he pins s σ H R I ⟨F, B, ad, as, p, as1, Rl, h1, λ v T1 ad1 H1 R1 rv1 g1 => ?_⟩
  obtain ⟨ad2, R2, rp, le⟩ := Zt R1 rv1 h2
  cases rp with
  | dt hn hH hl kr rl => exact ⟨_, _, _, _, rfl, hH, q _ ad2 H1 R2 (g1.trans (Grow.less le)) (zmO (λ ad3 H3 g3 => g3.keep _ _ hH λ z => hn (.inr z)) (Xr kr))⟩
 | _ => cases h3)
theorem zkB {X : Cx} {kd : KD} {tg e : Expr} {fa : EF} (he : AE X kd e fa) : AIc X kd tg e (zdi fa) := by
 with_unfolding_all (
 intro pins s σ H R I h
 obtain ⟨F, B, ad, as, ds, as', Rl, e, q⟩ := h
 obtain ⟨⟨p, as1⟩, h1, e⟩ := bS_ (show (fa as).bind _ = _ from e)
 obtain ⟨ys, h2, e⟩ := bS_ e
 cases e
 cases p with
 | ow o =>
  have h2 : keysOf (o.str, o.toD) = some ds := h2
  generalize hd : o.toD = d at h2
  cases d with
  | dt ks xs =>
   cases h2
   refine zgb he pins s σ H R I ⟨F, B, ad, as, _, as1, Rl, h1, λ v T1 ad1 H1 R1 rv1 g1 => ?_⟩
   have rp := zfK R1 rv1
   rw [hd] at rp
   cases rp with
   | dt hn hH hl kr rl => exact ⟨_, _, _, _, rfl, hH, q _ ad1 H1 R1.drop (g1.trans (Grow.less Gw.drop)) (zkf hH (zaY kr))⟩
  | _ => cases h2
 | bo i => cases h2)
section
variable {X : Cx} {kd : KD} {a b c : Expr} {fa fb fc : EF} {pos : Pos} {g g' : D -> D -> Option R0}
theorem zli {K : zC} {kd : KD} {σ : St} {H : Hp} {Q : VK} (h : al K kd (Xa fa fb fc g g') σ H Q) : zjX (λ x y H Q => ∃ O d e r, (∀ a, O a -> H a ≠ none) /\ Vw K kd O H x d /\ Vw K kd O H y e /\ g d e = some r /\ RQ K kd O H Q r) (λ x y H Q => ∃ O d e r, (∀ a, O a -> H a ≠ none) /\ Vw K kd O H x d /\ Vw K kd O H y e /\ g' d e = some r /\ RQ K kd O H Q r) (al K kd fa) (al K kd fb) (al K kd fc) σ H Q := by
 obtain ⟨F, B, ad, as, r, as', R, e, q⟩ := h
 obtain ⟨⟨p, as1⟩, h1, e⟩ := bS_ (show (fa as).bind _ = _ from e)
 obtain ⟨⟨z, as2⟩, h2, e⟩ := bS_ e
 obtain ⟨⟨x, lx⟩, h3, e⟩ := bS_ e
 obtain ⟨⟨y, ly⟩, h4, e⟩ := bS_ e
 obtain ⟨r0, h5, e⟩ := bS_ e
 refine ZV R h1 λ v ad1 H1 R1 rv1 g1 => ZV R1 h2 λ u ad2 H2 R2 rv2 g2 => ⟨_, x, y, r0, R2.tr (meet lx ly), (vg.vw R2 (rv1.grow g2) h3).less Obl.meet1, (vg.vw R2 rv2 h4).less Obl.meet2, h5, ?_⟩
 match r0, e with
 | .im (.bl true), e =>
  obtain ⟨⟨t, as3⟩, h6, e⟩ := bS_ (show (fc as2).bind _ = _ from e)
  obtain ⟨⟨y', ly'⟩, h7, e⟩ := bS_ e
  obtain ⟨⟨z', lz'⟩, h8, e⟩ := bS_ e
  obtain ⟨r1, h9, e⟩ := bS_ e
  obtain ⟨o, h10, e⟩ := bS_ e
  cases e
  intro w H3 kp rp
  cases rp
  obtain ⟨R3, g3⟩ := R2.more kp
  refine ⟨true, rfl, ?_⟩
  rw [if_pos rfl]
  refine ZV R3 h6 λ w' ad4 H4 R4 rv4 g4 => ⟨_, y', z', r1, R4.tr (meet ly' lz'), (vg.vw R4 ((rv2.grow g3).grow g4) h7).less Obl.meet1, (vg.vw R4 rv4 h8).less Obl.meet2, h9, ?_⟩
  exact VG R4 h10 λ w T' H' R' rv' g' => q w T' ad4 H' R' rv' ((((g1.trans g2).trans g3).trans g4).trans g')
 | .im (.bl false), e =>
  cases e
  intro w H3 kp rp
  cases rp
  obtain ⟨R3, g3⟩ := R2.more kp
  refine ⟨false, rfl, ?_⟩
  rw [if_neg Bool.false_ne_true]
  exact q _ [] ad2 H3 R3 (.lf (.bl _)) ((g1.trans g2).trans g3)
theorem zlB (hg : ∀ x y r, g' x y = some r -> ∃ k, r = .im (.bl k)) {as as1 : AS} {p : RV} (h : Xa fa fb fc g g' as = some (p, as1)) : ∃ k, p = .ow (.lf true (.bl k)) := by
 obtain ⟨_, _, h⟩ := bS_ (show (fa as).bind _ = _ from h)
 obtain ⟨_, _, h⟩ := bS_ h
 obtain ⟨_, _, h⟩ := bS_ h
 obtain ⟨_, _, h⟩ := bS_ h
 obtain ⟨r0, _, h⟩ := bS_ h
 match r0, h with
 | .im (.bl true), h =>
  obtain ⟨_, _, h⟩ := bS_ h
  obtain ⟨_, _, h⟩ := bS_ h
  obtain ⟨_, _, h⟩ := bS_ h
  obtain ⟨r1, h1, h⟩ := bS_ h
  obtain ⟨o, h2, h⟩ := bS_ h
  cases h
  obtain ⟨k, rfl⟩ := hg _ _ _ h1
  cases h2
  exact ⟨k, rfl⟩
 | .im (.bl false), h => cases h; exact ⟨false, rfl⟩
theorem zgk {op op' : CmpOp} (ho : OpD X kd (compareOp op) g) (ho' : OpD X kd (compareOp op') g') (hg : ∀ x y r, g' x y = some r -> ∃ k, r = .im (.bl k)) (ha : AE X kd a fa) (hb : AE X kd b fb) (hc : AE X kd c fc) (hm : lastMarks [op, op'] [b, c] = false) :
 AT X kd (.Compare a [op, op'] [b, c] pos) (fT (Xa fa fb fc g g')) := by with_unfolding_all exact (zfs (zkx ho ho' ha hb hc hm) λ σ H Q h => by
 obtain ⟨F, B, ad, as, bb, as', R, e, q⟩ := h
 obtain ⟨⟨p, as1⟩, h1, e⟩ := bS_ (show (Xa fa fb fc g g' as).bind _ = _ from e)
 obtain ⟨⟨d, lv⟩, h2, e⟩ := bS_ e
 obtain ⟨k, h3, e⟩ := bS_ e
 cases e
 obtain ⟨k', rfl⟩ := zlB hg h1
 cases h2
 cases h3
 refine zli ⟨F, B, ad, as, _, _, R, h1, λ v T' ad' H' R' rv g' => ?_⟩
 generalize hT : T' = T2 at rv R' g'
 cases rv with
 | lf rp =>
  cases rp
  exact ⟨_, rfl, q ad' H' R' g'⟩)
end
abbrev InR (n : Nat) (x : Int) : Prop := 0 <= x /\ x < (n : Int)
structure LJ (n : Nat) (j : Int -> Int -> Int) (e : Int) : Prop where
 cl : ∀ a b, InR n a -> InR n b -> InR n (j a b)
 ce : InR n e
 ul : ∀ a, InR n a -> j e a = a
 ur : ∀ a, InR n a -> j a e = a
 as : ∀ a b c, InR n a -> InR n b -> InR n c -> j (j a b) c = j a (j b c)
structure LD (n m : Nat) (j : Int -> Int -> Int) (e : Int) (d : Int -> Int -> Int) : Prop where
 cl : ∀ c a, InR m c -> InR n a -> InR n (d c a)
 em : d 0 e = e
 dn : ∀ a i b k, InR n a -> InR m i -> InR n b -> InR m k -> d ((i + k) % m) (j a b) = j (d i a) (d k b)
theorem zeh {x : Int} {n : Nat} (hn : 0 < n) : InR n (x % n) := ⟨Int.emod_nonneg _ (by omega), Int.emod_lt_of_pos _ (by omega)⟩
theorem LD.congr {n m : Nat} {j j' : Int -> Int -> Int} {e : Int} {d d' : Int -> Int -> Int} (hm : 0 < m) (hj : LJ n j e) (h : LD n m j e d) (q : ∀ a b, InR n a -> InR n b -> j' a b = j a b) (p : ∀ c a, InR m c -> InR n a -> d' c a = d c a) : LD n m j' e d' := by
 refine ⟨λ c a hc ha => by rw [p c a hc ha]; exact h.cl c a hc ha, by rw [p 0 e ⟨by omega, by omega⟩ hj.ce]; exact h.em, λ a i b k ha hi hb hk => ?_⟩
 rw [q a b ha hb, p _ _ (zeh hm) (hj.cl a b ha hb), p i a hi ha, p k b hk hb, q _ _ (h.cl i a hi ha) (h.cl k b hk hb)]
 exact h.dn a i b k ha hi hb hk
def jS (n : Nat) (a b : Int) : Int := (a + b) % n
def jM (a b : Int) : Int := if b > a then b else a
def jL (a b : Int) : Int := if b = 0 then a else b
theorem ljS {n : Nat} (hn : 0 < n) : LJ n (jS n) 0 := by
 refine ⟨λ a b _ _ => zeh hn, ⟨by omega, by omega⟩, λ a ha => ?_, λ a ha => ?_, λ a b c _ _ _ => ?_⟩
 · unfold jS; rw [Int.zero_add, Int.emod_eq_of_lt ha.1 ha.2]
 · unfold jS; rw [Int.add_zero, Int.emod_eq_of_lt ha.1 ha.2]
 · unfold jS; rw [Int.emod_add_emod, Int.add_emod_emod, Int.add_assoc]
theorem ljM {n : Nat} (hn : 0 < n) : LJ n jM 0 := by
 refine ⟨λ a b ha hb => ?_, ⟨by omega, by omega⟩, λ a ha => ?_, λ a ha => ?_, λ a b c _ _ _ => ?_⟩ <;> unfold jM <;> (try unfold jM) <;> grind
theorem ljL {n : Nat} (hn : 0 < n) : LJ n jL 0 := by
 refine ⟨λ a b ha hb => ?_, ⟨by omega, by omega⟩, λ a ha => ?_, λ a ha => ?_, λ a b c _ _ _ => ?_⟩ <;> unfold jL <;> grind
theorem four {P : Int -> Prop} (h0 : P 0) (h1 : P 1) (h2 : P 2) (h3 : P 3) {a : Int} (h : InR 4 a) : P a := by
 rcases (show a = 0 \/ a = 1 \/ a = 2 \/ a = 3 by have := h.1; have := h.2; omega) with rfl | rfl | rfl | rfl <;> assumption
theorem f4 {P : Int -> Prop} (h : ∀ a ∈ ([0, 1, 2, 3] : List Int), P a) {a : Int} (ha : InR 4 a) : P a := four (h 0 (by decide)) (h 1 (by decide)) (h 2 (by decide)) (h 3 (by decide)) ha
theorem ldS {n m : Nat} {g x0 x1 : Int} (hn : 0 < n) (hm : 0 < m) (g0 : 0 < g) (gn : g ∣ n) (gm : g ∣ m) : LD n m (jS n) 0 (λ c a => (a * x0 + c * ((n : Int) / g) * x1) % n) := by
 refine ⟨λ c a _ _ => zeh hn, by simp, λ a i b k _ _ _ _ => ?_⟩
 obtain ⟨t, ht⟩ := gm
 have h : (m : Int) * ((n : Int) / g) = n * t := by
  obtain ⟨s, hs⟩ := gn
  rw [hs, Int.mul_ediv_cancel_left _ (by omega), ht]; grind
 show (_ : Int) = jS n _ _
 unfold jS
 rw [<- Int.add_emod]
 generalize (n : Int) / g = st at h
 rw [Int.emod_def (i + k) m, Int.emod_def (a + b) n]
 generalize (i + k) / (m : Int) = q
 generalize (a + b) / (n : Int) = p
 rw [show ((a+b) - (n : Int)*p)*x0 + ((i+k) - (m : Int)*q)*st*x1 = (a*x0 + i*st*x1 + (b*x0 + k*st*x1)) + (n : Int)*(-(p*x0) - t*q*x1) by grind, Int.add_mul_emod_self_left]
theorem ldM {n m : Nat} {r : Int -> Int} (hm : 0 < m) (h0 : r 0 = 0) (hc : ∀ a, InR n a -> InR n (r a)) (hr : ∀ a b, InR n a -> InR n b -> a <= b -> r a <= r b) : LD n m jM 0 (λ _ a => r a) := by
 refine ⟨λ c a _ ha => hc a ha, h0, λ a i b k ha _ hb _ => ?_⟩
 show r (jM a b) = jM (r a) (r b)
 unfold jM
 have h1 := hr a b ha hb
 have h2 := hr b a hb ha
 split <;> split <;> grind
theorem ldL {n m : Nat} {r : Int -> Int} (h0 : r 0 = 0) (hc : ∀ a, InR n a -> InR n (r a)) (hr : ∀ a, InR n a -> a ≠ 0 -> r a ≠ 0) : LD n m jL 0 (λ _ a => r a) := by
 refine ⟨λ c a _ ha => hc a ha, h0, λ a i b k ha _ hb _ => ?_⟩
 show r (jL a b) = jL (r a) (r b)
 unfold jL
 have h2 := hr b hb
 split <;> split <;> grind
theorem zoi {n1 n2 : Nat} {x y : Int} (hx : InR n1 x) (hy : InR n2 y) : InR (n1 * n2) (x * n2 + y) := by
 have h1 : 0 <= x * n2 := Int.mul_nonneg hx.1 (by omega)
 have h2 : x * n2 <= ((n1 : Int) - 1) * n2 := Int.mul_le_mul_of_nonneg_right (by have := hx.2; omega) (by omega)
 rw [Int.sub_mul, Int.one_mul] at h2
 refine ⟨by have := hy.1; omega, ?_⟩
 rw [zzS]
 have := hy.2
 omega
theorem yo {n1 n2 : Nat} {p : Int} (h2 : 0 < n2) (h : InR (n1 * n2) p) : InR n1 (p / n2) /\ InR n2 (p % n2) :=
 ⟨⟨Int.ediv_nonneg h.1 (by omega), Int.ediv_lt_of_lt_mul (by omega) (by have := h.2; rw [zzS] at this; exact this)⟩, zeh h2⟩
theorem VR {n2 : Nat} {x y : Int} (hy : InR n2 y) : (x * n2 + y) / n2 = x /\ (x * n2 + y) % n2 = y := by
 have h0 : (n2 : Int) ≠ 0 := by have := hy.1; have := hy.2; omega
 constructor
 · rw [Int.add_comm, Int.add_mul_ediv_right _ _ h0, Int.ediv_eq_zero_of_lt hy.1 hy.2, Int.zero_add]
 · rw [Int.add_comm, Int.add_mul_emod_self_right, Int.emod_eq_of_lt hy.1 hy.2]
theorem zqz {n2 : Nat} {p : Int} : (p / n2) * n2 + p % n2 = p := by rw [Int.mul_comm]; exact Int.mul_ediv_add_emod p n2
def jB (n2 : Nat) (j1 j2 : Int -> Int -> Int) (p q : Int) : Int := j1 (p / n2) (q / n2) * n2 + j2 (p % n2) (q % n2)
def dB (n2 : Nat) (d1 d2 : Int -> Int -> Int) (c p : Int) : Int := d1 c (p / n2) * n2 + d2 c (p % n2)
theorem leN {n k : Nat} (h : n <= 8) (hk : 8 <= k := by decide) : n <= k := zzL h hk
theorem np1 {n : Nat} (h : 1 <= n) : (0 : Int) < n := Int.natCast_pos.mpr h
theorem tS {a : Int} {n : Nat} (h0 : 0 <= a) (h1 : a < n) : a.toNat < n := Int.ofNat_lt.mp (by rw [Int.toNat_of_nonneg h0]; exact h1)
theorem mU {n : Nat} {k : Int} (h : n <= 8) (hk : 8 < k := by decide) : (n : Int) < k := Int.lt_of_le_of_lt (Int.ofNat_le.mpr h) hk
theorem iT {n : Nat} {x : Int} (h : InR n x) : x.toNat < n := Int.ofNat_lt.mp (by rw [Int.toNat_of_nonneg h.1]; exact h.2)
theorem iC {n : Nat} {x : Int} (h : InR n x) : ((x.toNat : Nat) : Int) = x := Int.toNat_of_nonneg h.1
theorem zI (i : Nat) : (0 : Int) <= 0 + i := by rw [Int.zero_add]; exact Int.natCast_nonneg i
def rAt (r : List Int) (v : Int) : Int := (r[v.toNat]?).getD 0
def jAt (J : List (List Int)) (w v : Int) : Int := rAt ((J[w.toNat]?).getD []) v
local macro_rules | `(tactic| trivial) => `(tactic| first | with_reducible first | assumption | exact Int.natCast_nonneg _ | exact Nat.le_refl _ | exact Int.le_refl _ | exact rfl | exact leN (by assumption) | exact np1 (by assumption) | exact np2 (by assumption) | exact nq1 (by assumption) | exact nq2 (by assumption) | exact Int.natCast_pos.mpr (by assumption) | exact Nat.le_trans (by assumption) (by decide) | exact bgL _ | exact bgU (by assumption) | exact mU (by assumption) | exact zI _ | exact bL0 (by assumption) | exact bU0 (by assumption) (by assumption) | exact iL (by assumption) | exact iU (by assumption) (by assumption) | exact iC (by assumption) | exact iT (by assumption) | exact stL (by assumption) | exact stU (by assumption) | exact lnK (by assumption) (by assumption) (by assumption) | exact zi1 _ | exact lnE (by assumption) | exact ltL (by assumption) | exact Int.toNat_of_nonneg (by assumption) | exact tS (by assumption) (by assumption) | exact b6 (by assumption) | exact Int.emod_nonneg _ (by decide) | exact Int.emod_lt_of_pos _ (by decide) | decide | omega)
abbrev lfI (x : Int) : O := .lf true (.int x)
abbrev sI (x : Int) : Option O := some (lfI x)
abbrev sT (d : D) : Option O := some (.lf true d)
abbrev sN (os : List O) : Option O := some (.nd .ls os)
abbrev TZ : Type := List (List Int)
abbrev DD : Type := List (Str × TZ)
abbrev SS : Type := List (Str × List Int)
theorem ziD {f : EF} {as as1 : AS} {o : O} (h : f as = some (.ow o, as1)) (hs : o.str = true) : yh f as = some (.rt o) := by
 unfold yh; rw [h]
 show ((if o.str = true then some o else none).bind _) = _
 rw [if_pos hs]; rfl
theorem wW : ∀ xs : List Int, (xs.map lfI).all O.isLf = true /\ O.strs (xs.map lfI) = true /\ O.toDs (xs.map lfI) = xs.map D.int
 | [] => ⟨rfl, rfl, rfl⟩
 | x :: r => ⟨(wW r).1, (wW r).2.1, congrArg (D.int x :: ·) (wW r).2.2⟩
theorem zil (xs : List Int) : (xs.map D.int).map (O.lf true) = xs.map lfI := by rw [List.map_map]; rfl
theorem W8 (ys : List Int) (w : Int) : (ys ++ [w]).map lfI = ys.map lfI ++ [O.lf true (.int w)] := by rw [List.map_append]; rfl
theorem Vb (xs : List Int) : (O.nd .ls (xs.map lfI)).str = true /\ (O.nd .ls (xs.map lfI)).toD = .lst (xs.map D.int) := ⟨(wW xs).2.1, congrArg D.lst (wW xs).2.2⟩
abbrev zal (r : List Int) : O := .nd .ls (r.map lfI)
abbrev zX (r : List Int) : D := .lst (r.map D.int)
theorem zcK : ∀ T : TZ, O.strs (T.map zal) = true /\ O.toDs (T.map zal) = T.map zX
 | [] => ⟨rfl, rfl⟩
 | r :: T => ⟨by show (O.strs (r.map lfI) && O.strs (T.map zal)) = true; rw [(wW r).2.1, (zcK T).1]; rfl, by
  show D.lst (O.toDs (r.map lfI)) :: O.toDs (T.map zal) = _
  rw [(wW r).2.2, (zcK T).2]; rfl⟩
theorem zgQ {g : GF} {fe : EF} {as0 as1 : AS} {y : It1} {r : List It1} {o : O} {os : List O} (h1 : g y as0 = some as1) (h2 : fe as1 = some (.ow o, as1)) (hs : o.str = true) (h3 : xO g xr fe as0 r = some os) : xO g xr fe as0 (y :: r) = some (o :: os) := by
 unfold xO
 rw [h1]; show ((fe as1).bind _) = _
 rw [h2]; show (if o.str = true then _ else _) = _
 rw [if_pos hs, h3]; rfl
theorem yL : ∀ (n : Nat) (k : Int), (xf k n).length = n
 | 0, _ => rfl
 | n + 1, k => by rw [zes]; exact congrArg (· + 1) (yL n (k + 1))
theorem zlr {f : EF} {as : AS} {x : D} (h : WE f as x) : ∃ o, yh f as = some (.rt o) /\ o.str = true /\ o.toD = x := by
 obtain ⟨o, h1, h2, h3⟩ := h
 exact ⟨o, ziD h1 h2, h2, h3⟩
theorem zcQ : ∀ {n : Nat} {k : Int} {y : It1}, y ∈ xf k n -> ∃ b : Int, y = (true, .int b) /\ k <= b /\ b < k + n
 | 0, _, _, h => nomatch h
 | n + 1, k, y, h => by
  rw [zes] at h
  rcases zS.mp h with rfl | h
  · exact ⟨k, rfl, by trivial, by trivial⟩
  · obtain ⟨b, e, h1, h2⟩ := zcQ h
    exact ⟨b, e, by trivial, by trivial⟩
def Row (n : Nat) (r : List Int) : Prop := r.length = n /\ ∀ x ∈ r, 0 <= x /\ x < (n : Int)
def Tab (k n : Nat) (T : TZ) : Prop := T.length = k /\ ∀ r ∈ T, Row n r
abbrev zY (T : TZ) : D := .lst (T.map zX)
theorem zqe {r : List Int} {P : Int -> Prop} {k : Int} (h0 : 0 <= k) (h1 : k < r.length) (hp : ∀ x ∈ r, P x) : ∃ x, ixP (zX r) (.int k) = some (.im (.int x)) /\ P x := by
 have hk : k.toNat < r.length := by trivial
 refine ⟨r[k.toNat], ?_, hp _ (List.getElem_mem hk)⟩
 have h := Xy (xs := r.map D.int) (j := k.toNat) (v := D.int r[k.toNat]) (by rw [zzF, zzB hk]; rfl)
 rw [show ((k.toNat : Nat) : Int) = k by trivial] at h
 show imR (atI _ _) = _
 rw [h]; rfl
theorem XR {α : Type} {f : α -> D} {l : List α} {i : Nat} {p : α} (h : l[i]? = some p) : ixP (.lst (l.map f)) (.int (i : Int)) = some (.im (f p)) := by
 have h := Xy (xs := l.map f) (j := i) (v := f p) (by rw [zzF, h]; rfl)
 show imR (atI _ _) = _
 rw [h]; rfl
theorem zpb {n k : Nat} {r : List Int} {v : Int} (hl : r.length = k) (hr : ∀ x ∈ r, InR n x) (hv : InR k v) : ixP (zX r) (.int v) = some (.im (.int (rAt r v))) /\ InR n (rAt r v) := by
 have hk : v.toNat < r.length := by rw [hl]; have := hv.1; have := hv.2; trivial
 have g := zzB hk
 have e : rAt r v = r[v.toNat] := by unfold rAt; rw [g]; rfl
 rw [e]
 refine ⟨?_, hr _ (List.getElem_mem hk)⟩
 have := XR (f := D.int) g
 rw [show ((v.toNat : Nat) : Int) = v by have := hv.1; trivial] at this
 exact this
abbrev zhe (T : TZ) (w : Int) : List Int := (T[w.toNat]?).getD []
theorem Xp {k n : Nat} {T : TZ} {w : Int} (hT : Tab k n T) (hw : InR k w) : ixP (zY T) (.int w) = some (.im (zX (zhe T w))) /\ Row n (zhe T w) := by
 have hk : w.toNat < T.length := by rw [hT.1]; have := hw.1; have := hw.2; trivial
 have g := zzB hk
 unfold zhe
 rw [g]
 refine ⟨?_, hT.2 _ (List.getElem_mem hk)⟩
 have := XR (f := zX) g
 rw [show ((w.toNat : Nat) : Int) = w by have := hw.1; trivial] at this
 exact this
theorem rowAt {n : Nat} {r : List Int} {v : Int} (hr : Row n r) (hv : InR n v) : ixP (zX r) (.int v) = some (.im (.int (rAt r v))) /\ InR n (rAt r v) := zpb hr.1 hr.2 hv
theorem zin {α : Type} (toD : α -> D) {Q : Nat -> α -> Prop} {g : GF} {fe : EF} {as0 : AS} : ∀ {xs : List It1} (k : Nat), (∀ i y, xs[i]? = some y -> ∃ as1 a, g y as0 = some as1 /\ WE fe as1 (toD a) /\ Q (k + i) a) -> ∃ (os : List O) (l : List α), xO g xr fe as0 xs = some os /\ O.strs os = true /\ O.toDs os = l.map toD /\ l.length = xs.length /\ ∀ i a, l[i]? = some a -> Q (k + i) a
 | [], k, _ => ⟨[], [], rfl, rfl, rfl, rfl, λ i a h => by simp at h⟩
 | y :: xs, k, H => by
  obtain ⟨as1, a, h1, ⟨o, h2, h3, h4⟩, h5⟩ := H 0 y rfl
  obtain ⟨os, l, a1, a2, a3, a4, a5⟩ := zin toD (Q := Q) (g := g) (fe := fe) (as0 := as0) (xs := xs) (k + 1) λ i z m => by
   have := H (i + 1) z (by simpa using m)
   rwa [show k + (i + 1) = k + 1 + i by trivial] at this
  refine ⟨o :: os, a :: l, zgQ h1 h2 h3 a1, by show (o.str && O.strs os) = true; rw [h3, a2]; rfl, by show o.toD :: O.toDs os = _; rw [h4, a3]; rfl, congrArg (· + 1) a4, λ i b m => ?_⟩
  cases i with
  | zero => simp at m; subst m; exact h5
  | succ i =>
   have := a5 i b (by simpa using m)
   rwa [show k + 1 + i = k + (i + 1) by trivial] at this
theorem zkK {α : Type} (toD : α -> D) {Q : Nat -> α -> Prop} {fi : IF} {cap : List (Option Nat)} {g : GF} {fe : EF} {as : AS} {xs : List It1} (h1 : fi as = some (xs, as)) (hl : xs.length <= 1000) (H : ∀ i y, xs[i]? = some y -> ∃ as1 a, g y (YB cap as) = some as1 /\ WE fe as1 (toD a) /\ Q i a) :
 ∃ l : List α, l.length = xs.length /\ (∀ i a, l[i]? = some a -> Q i a) /\ WE (yp fi cap g xr fe) as (.lst (l.map toD)) := by
 obtain ⟨os, l, a1, a2, a3, a4, a5⟩ := zin toD (Q := Q) (g := g) (fe := fe) (as0 := YB cap as) 0 (λ i y h => by rw [Nat.zero_add]; exact H i y h)
 exact ⟨l, a4, (λ i a h => by have := a5 i a h; rwa [Nat.zero_add] at this), _, zcN h1 (szs (by trivial)) a1, a2, congrArg D.lst a3⟩
abbrev zln (N n : Nat) (f : Int -> Int) (r : List Int) : Prop := r.length = n /\ (∀ x ∈ r, InR N x) /\ ∀ b, InR n b -> rAt r b = f b
abbrev zoH (k n : Nat) (f : Int -> Int -> Int) (T : TZ) : Prop := Tab k n T /\ ∀ a b, InR k a -> InR n b -> jAt T a b = f a b
theorem zmq {N n : Nat} {f : Int -> Int} {l : List Int} (hl : l.length = n) (h : ∀ (i : Nat) a, l[i]? = some a -> a = f i /\ InR N a) : zln N n f l := by
 refine ⟨hl, λ x m => ?_, λ b hb => ?_⟩
 · obtain ⟨i, hi⟩ := List.getElem?_of_mem m
   exact (h i x hi).2
 · have hk : b.toNat < l.length := by rw [hl]; have := hb.1; have := hb.2; trivial
   have g := zzB hk
   unfold rAt
   rw [g]
   show l[b.toNat] = _
   rw [(h _ _ g).1, show ((b.toNat : Nat) : Int) = b by have := hb.1; trivial]
theorem znr {k n : Nat} {f : Int -> Int -> Int} {l : TZ} (hl : l.length = k) (h : ∀ (i : Nat) r, l[i]? = some r -> zln n n (f i) r) : zoH k n f l := by
 refine ⟨⟨hl, λ x m => ?_⟩, λ a b ha hb => ?_⟩
 · obtain ⟨i, hi⟩ := List.getElem?_of_mem m
   exact ⟨(h i x hi).1, (h i x hi).2.1⟩
 · have hk : a.toNat < l.length := by rw [hl]; have := ha.1; have := ha.2; trivial
   have g := zzB hk
   unfold jAt
   rw [g]
   show rAt l[a.toNat] b = _
   have := (h _ _ g).2.2 b hb
   rw [show ((a.toNat : Nat) : Int) = a by have := ha.1; trivial] at this
   exact this
theorem zio {f : Int -> Int} {N : Nat} {fr : AF} {cap : List (Option Nat)} {fe : EF} {as : AS} {n : Nat} {u : Bool} (h1 : WA fr as [(u, .int n)]) (hl : n <= 1000) (H : ∀ b : Int, InR n b -> ∃ as1, gN 0 (true, .int b) (YB cap as) = some as1 /\ WE fe as1 (.int (f b)) /\ InR N (f b)) :
 ∃ r : List Int, zln N n f r /\ WE (yp (yI fr yO) cap (gN 0) xr fe) as (zX r) := by
 obtain ⟨l, a1, a2, a3⟩ := zkK D.int (Q := λ i a => a = f i /\ InR N a) (cap := cap) (g := gN 0) (fe := fe) (ww h1 (by trivial) (by trivial)) (by rw [yL]; trivial) (λ i y m => by
  obtain ⟨rfl, hi⟩ := xX m
  obtain ⟨as1, b1, b2, b3⟩ := H (0 + i) ⟨by trivial, by trivial⟩
  exact ⟨as1, f (0 + i), b1, b2, by rw [Int.zero_add], b3⟩)
 rw [yL] at a1
 exact ⟨l, zmq (by trivial) a2, a3⟩
theorem ziN {f : Int -> Int -> Int} {n : Nat} {fr : AF} {cap : List (Option Nat)} {fe : EF} {as : AS} {k : Nat} {u : Bool} (h1 : WA fr as [(u, .int k)]) (hl : k <= 1000) (H : ∀ b : Int, InR k b -> ∃ as1 r, gN 0 (true, .int b) (YB cap as) = some as1 /\ WE fe as1 (zX r) /\ zln n n (f b) r) :
 ∃ T : TZ, zoH k n f T /\ WE (yp (yI fr yO) cap (gN 0) xr fe) as (zY T) := by
 obtain ⟨l, a1, a2, a3⟩ := zkK zX (Q := λ i r => zln n n (f i) r) (cap := cap) (g := gN 0) (fe := fe) (ww h1 (by trivial) (by trivial)) (by rw [yL]; trivial) (λ i y m => by
  obtain ⟨rfl, hi⟩ := xX m
  obtain ⟨as1, r, b1, b2, b3⟩ := H (0 + i) ⟨by trivial, by trivial⟩
  rw [Int.zero_add] at b3
  exact ⟨as1, r, b1, b2, b3⟩)
 rw [yL] at a1
 exact ⟨l, znr (by trivial) a2, a3⟩
theorem zhN : ∀ (b : Nat) (a : Int) (f : Nat), b < f -> 0 < a -> a < 1000 -> b < 1000 -> ∃ g e, 0 < g /\ g < 1000 /\ g ∣ a /\ g ∣ (b : Int) /\ whL (fT (f2 (fV 1) (fC (.int 0)) (zL .Gt))) (zkm 0 1 (dC (fV 1) (dC (f2 (fV 0) (fV 1) (zp .Mod)) dN))) f [sI a, sI b] = some (.nx [sI g, e]) := by
 intro b
 induction b using Nat.strongRecOn with
 | ind b ih =>
  intro a f hf ha ha2 hb2
  cases f with
  | zero => trivial
  | succ f =>
   by_cases hb : b = 0
   · subst hb
     exact ⟨a, _, ha, ha2, Int.dvd_refl a, Int.dvd_zero a, zlC (yH (zgq (zb rfl) zf) rfl)⟩
   · have m0 := Int.emod_nonneg a (show (b : Int) ≠ 0 by trivial)
     have m1 := Int.emod_lt_of_pos a (show (0 : Int) < b by trivial)
     obtain ⟨g, e, g0, g1, d1, d2, hg⟩ := ih (a % b).toNat (by trivial) b f (by trivial) (by trivial) (by trivial) (by trivial)
     rw [show (((a % b).toNat : Nat) : Int) = a % b by trivial] at hg d2
     refine ⟨g, e, g0, g1, ?_, d1, zlS (yH (zgq (zb rfl) zf) (congrArg some (decide_eq_true (show (0 : Int) < b by trivial)))) (zoI (z9 (zb rfl) (z9 (yf (zb rfl) (zb rfl) (by trivial)) yG)) (zG rfl) (zG rfl)) hg⟩
     rw [<- Int.mul_ediv_add_emod a b]
     exact Int.dvd_add (Int.dvd_trans d1 (Int.dvd_mul_right _ _)) d2
theorem strs_snoc : ∀ (os : List O) (o : O), O.strs os = true -> o.str = true -> O.strs (os ++ [o]) = true
 | [], o, _, h => by show (o.str && true) = true; rw [h]; rfl
 | p :: r, o, h, h' => by
  have h := (Bool.and_eq_true _ _).mp (show (p.str && O.strs r) = true from h)
  show (p.str && O.strs (r ++ [o])) = true
  rw [h.1, strs_snoc r o h.2 h']; rfl
theorem zeN : ∀ (os : List O) (o : O), O.toDs (os ++ [o]) = O.toDs os ++ [o.toD]
 | [], o => rfl
 | p :: r, o => congrArg (p.toD :: ·) (zeN r o)
structure Ows {α : Type} (toD : α -> D) (Q : α -> Prop) (os : List O) (l : List α) : Prop where
 st : O.strs os = true
 ds : O.toDs os = l.map toD
 al : ∀ a ∈ l, Q a
 ln : os.length = l.length
theorem Ows.nil {α : Type} {toD : α -> D} {Q : α -> Prop} : Ows toD Q [] [] := ⟨rfl, rfl, (λ _ m => nomatch m), rfl⟩
theorem Ows.snoc {α : Type} {toD : α -> D} {Q : α -> Prop} {os : List O} {l : List α} {o : O} {a : α} (h : Ows toD Q os l) (h1 : o.str = true) (h2 : o.toD = toD a) (h3 : Q a) : Ows toD Q (os ++ [o]) (l ++ [a]) :=
 ⟨strs_snoc os o h.st h1, (by rw [zeN, h.ds, h2, List.map_append]; rfl), (λ b m => (zzJ.mp m).elim (h.al b) λ m => (by rw [zzO.mp m]; exact h3)), (by rw [zzG, zzG, h.ln]; rfl)⟩
theorem zcG {as as1 : AS} {a : EF} {i : Nat} {os0 os : List O} {o : O} (h : as[i]? = some (sN os0)) (ha : a as = some (.ow o, as1)) (h1 : as1[i]? = some (sN os)) (hl : os.length < sizeLine) : yV (wF i (dC a dN) v4) as = some (.nx (as1.set i (sN (os ++ [o])))) := by
 unfold yV wF; rw [h]
 have e : dC a dN as = some ([o], as1) := Yw ha rfl
 show ((dC a dN as).bind _).bind _ = _
 rw [e]; show (Option.bind (match as1[i]? with | some (some (.nd .ls os)) => _ | _ => none) _) = _
 rw [h1]; show ((v4 os [o]).bind _).bind _ = _
 have e2 : v4 os [o] = some (os ++ [o], .lf true .non) := by unfold v4; exact if_pos hl
 rw [e2]; rfl
theorem zrF {α : Type} {toD : α -> D} {Q : α -> Prop} {as : AS} {a : EF} {i : Nat} {os : List O} {l : List α} {x : α} (h : as[i]? = some (sN os)) (ho : Ows toD Q os l) (hl : l.length < 1000) (ha : WE a as (toD x)) (hx : Q x) :
 ∃ os', Ows toD Q os' (l ++ [x]) /\ yV (wF i (dC a dN) v4) as = some (.nx (as.set i (sN os'))) := by
 obtain ⟨o, h1, h2, h3⟩ := ha
 exact ⟨os ++ [o], ho.snoc h2 h3 hx, zcG h h1 h (by rw [ho.ln]; exact yM (by trivial))⟩
theorem Ows.retB {α : Type} {toD : α -> D} {Q : α -> Prop} {as : AS} {i : Nat} {os : List O} {l : List α} (h : as[i]? = some (sN os)) (ho : Ows toD Q os l) : Rt (yh (fV i) as) (.lst (l.map toD)) :=
 ⟨_, zcH h ho.st, ho.st, congrArg D.lst ho.ds⟩
structure OwsX {α : Type} (toD : α -> D) (Q : Nat -> α -> Prop) (os : List O) (l : List α) : Prop where
 st : O.strs os = true
 ds : O.toDs os = l.map toD
 al : ∀ i a, l[i]? = some a -> Q i a
 ln : os.length = l.length
theorem znQ {fr : AF} {as : AS} {rs : List (Bool × D)} {g : List D -> Option R0} {zs : List D} (ha : WA fr as rs) (hg : g (rs.map (·.2)) = some (.fl zs)) : fP fr g as = some (.ow (.nd .ls (zs.map (lfs (rs.all (·.1))))), as) := by
 unfold fP; unfold WA at ha
 rw [ha]; show (views as _).bind _ = _
 rw [Xk]; show (g _).bind _ = _
 rw [hg]
 show (if (zs.all zF || (some (rs.all (·.1))).isSome) = true then _ else _ : Option RV).bind _ = _
 rw [if_pos (by simp)]; rfl
theorem zon {a : EF} {as : AS} {x : D} {g : List D -> Option R0} {zs : List D} (ha : WE a as x) (hg : g [x] = some (.fl zs)) : fP (aC a aN) g as = some (.ow (.nd .ls (zs.map (O.lf true))), as) := by
 have := znQ (g := g) (zax ha (zP (as := as))) hg
 rw [show ([(true, x)].all (·.1)) = true from rfl, VL] at this
 exact this
theorem zqW {a : EF} {as : AS} {s : Bool} {r : List Int} (h : WD a as s (zX r)) : fP (aC a aN) lstP as = some (.ow (zal r), as) := by
 have := znQ (g := lstP) (zy h (zP (as := as))) rfl
 rw [List.map_map] at this
 exact this
theorem zfR {a : EF} {as : AS} {s : Bool} {r : List Int} (h : WD a as s (zX r)) : WE (fP (aC a aN) lstP) as (zX r) := ⟨_, zqW h, (Vb r).1, (Vb r).2⟩
theorem zky {a b c d : EF} {as : AS} {x y z u w : D} {g : List (Bool × D) -> Option O} (ha : WE a as x) (hb : WE b as y) (hc : WE c as z) (hd : WE d as u) (hg : RE (g [(true, x), (true, y), (true, z), (true, u)]) w) : WE (zJ (aC a (aC b (aC c (aC d aN)))) g) as w := by
 obtain ⟨o, h1, h2⟩ := hg
 exact ⟨o, ZF (zax ha (zax hb (zax hc (zax hd zP)))) (by show g [(zF x || true, x), (zF y || true, y), (zF z || true, z), (zF u || true, u)] = _; rw [Bool.or_true, Bool.or_true, Bool.or_true, Bool.or_true]; exact h1), h2⟩
theorem zmG {fr : DF} {as : AS} {os : List O} {x : D} (h : WO fr as os) (hl : os.length <= sizeLine) (hs : O.strs os = true) (e : D.tup (O.toDs os) = x) : WE (yF fr) as x := by
 refine ⟨_, zhE h hl, ?_, ?_⟩
 · unfold Yv
   split
   · exact hs
   · exact hs
 · unfold Yv
   split
   · exact e
   · exact e
theorem copies {n m : Nat} {fr : AF} {cap : List (Option Nat)} {as : AS} {u s : Bool} {r : List Int} (hr : Row n r) (hm : m <= 8) (h1 : WA fr as [(u, .int m)]) (h2 : ∀ b : Int, ∃ as1, gN 0 (true, .int b) (YB cap as) = some as1 /\ WD (fV 1) as1 s (zX r)) :
 ∃ T, zoH m n (λ _ a => rAt r a) T /\ WE (yp (yI fr yO) cap (gN 0) xr (fP (aC (fV 1) aN) lstP)) as (zY T) :=
 ziN (f := λ _ a => rAt r a) (n := n) (k := m) (cap := cap) (fe := fP (aC (fV 1) aN) lstP) h1 (by trivial) λ b _ => by
  obtain ⟨as1, g1, g2⟩ := h2 b
  exact ⟨as1, r, g1, zfR g2, hr.1, hr.2, λ _ _ => rfl⟩
theorem zjx {l : List Int} (h : l.Pairwise (· <= ·)) {i j : Nat} (hij : i < j) (hj : j < l.length) : l[i] <= l[j] := List.pairwise_iff_getElem.mp h i j (by trivial) hj hij
theorem XJ {r : List Int} {a : Int} (h : a.toNat < r.length) : rAt r a = r[a.toNat] := by unfold rAt; rw [zzB h]; rfl
theorem zgM : ∀ l : List Int, Wx (l.map D.int) = some l
 | [] => rfl
 | x :: r => by
  show (Wx (r.map D.int)).bind _ = _
  rw [zgM r]; rfl
theorem zpj {as : AS} {i : Nat} {os : List O} {fl fh : OF} {lo hi : Option Int} (h : as[i]? = some (sN os)) (hl : os.all O.isLf = true) (hs : O.strs os = true) (h1 : fl as = some (lo, as)) (h2 : fh as = some (hi, as)) :
 fSl (fV i) fl fh slP as = some (.ow (.nd .ls ((cutD (O.toDs os) lo hi).map (O.lf true))), as) := by
 unfold fSl
 rw [zcf h]; show ((fl as).bind _) = _
 rw [h1]; show ((fh as).bind _) = _
 rw [h2]; show ((RV.view as (.bo i)).bind _) = _
 rw [VH h]
 have e : (O.nd .ls os).kl = some true := by simp only [O.kl, hl, if_true, hs]
 rw [e]
 show (wrap (some true) (.fl (cutD (O.toDs os) lo hi))).bind _ = _
 show (if ((cutD (O.toDs os) lo hi).all zF || true) = true then some (RV.ow (.nd .ls ((cutD (O.toDs os) lo hi).map (lfs true)))) else none : Option RV).bind _ = _
 rw [if_pos (by simp), VL]; rfl
theorem Ows.frz {α : Type} {toD : α -> D} {Q : α -> Prop} {os : List O} {l : List α} (h : Ows toD Q os l) : (O.nd .ls os).frz = .lf true (.lst (l.map toD)) := by
 show O.lf (O.strs os) (.lst (O.toDs os)) = _
 rw [h.st, h.ds]
theorem zhP {as as2 : AS} {j : Nat} {ps : List O} {fr : DF} {os : List O} (hj : as[j]? = some (sN ps)) (hr : fr (as.set j (some (O.nd .ls ps).frz)) = some (os, as2)) : dC (fV j) fr as = some ((O.nd .ls ps).frz :: os, as2) := by
 unfold dC
 rw [zcf hj]
 show ((toO as (.bo j)).bind _) = _
 rw [zok hj]
 show (fr (as.set j (some (O.nd .ls ps).frz))).bind _ = _
 rw [hr]; rfl
theorem ziw {as as1 : AS} {fr : DF} {os : List O} (h : fr as = some (os, as1)) (hl : os.length <= sizeLine) : yF fr as = some (.ow (Yv os), as1) := by
 unfold yF
 rw [h]; show (if os.length <= sizeLine then _ else _) = _
 rw [if_pos hl]
theorem zdz : ∀ (l : List Int) (k : Nat) (h : k < l.length), (l[k] :: l.eraseIdx k).Perm l
 | x :: r, 0, _ => List.Perm.refl _
 | x :: r, k + 1, h => (List.Perm.swap _ _ _).trans ((zdz r k (by simpa using h)).cons x)
abbrev zbM (n : Nat) : List Int := (List.range n).map λ (i : Nat) => (i : Int)
abbrev Zm (p : Str × List Int) : D := .tup [.str p.1, zX p.2]
theorem zki {x y : Int} {c : Bool} : ixP (.lst [.int x, .int y]) (.int (if c = true then 1 else 0)) = some (.im (.int (if c = true then y else x))) := by cases c <;> rfl
abbrev abc : Str := "abcdefghijklmnopqrstuvwxyz"
theorem zmb : ∀ k, k < 26 -> abc.cps.toList[k]? = some (97 + k) := by decide +kernel
theorem zpI {i : Int} (h0 : 0 <= i) (h1 : i < 26) : ixP (.str abc) (.int i) = some (.im (.str ⟨#[97 + i.toNat]⟩)) := by
 show (if abc.length <= sizeLine then (atI abc.cps.toList i).bind (λ c => some (R0.im (.str ⟨#[c]⟩))) else none) = _
 rw [if_pos (show abc.length <= sizeLine by decide +kernel)]
 have := Xy (zmb i.toNat (by trivial))
 rw [show ((i.toNat : Nat) : Int) = i by trivial] at this
 rw [this]; rfl
theorem zgj : ∀ l : List Str, zch (l.map D.str) = some l
 | [] => rfl
 | x :: r => by
  show (zch (r.map D.str)).bind _ = _
  rw [zgj r]; rfl
theorem zqF : ∀ l : List Str, (∀ s ∈ l, s.length = 1) -> (l.map (·.length)).sum = l.length
 | [], _ => rfl
 | x :: r, h => by
  show x.length + (r.map (·.length)).sum = r.length + 1
  rw [h x (zzC ..), zqF r λ s m => h s (zzA _ m)]; trivial
theorem znx {α : Type} (toD : α -> D) {Q : Nat -> α -> Prop} {fr : AF} {cap : List (Option Nat)} {fe : EF} {as : AS} {n : Nat} {u : Bool} (h1 : WA fr as [(u, .int n)]) (hl : n <= 1000) (H : ∀ i : Nat, i < n -> ∃ as1 a, gN 0 (true, .int (i : Int)) (YB cap as) = some as1 /\ WE fe as1 (toD a) /\ Q i a) :
 ∃ l : List α, l.length = n /\ (∀ i a, l[i]? = some a -> Q i a) /\ WE (yp (yI fr yO) cap (gN 0) xr fe) as (.lst (l.map toD)) := by
 obtain ⟨l, a1, a2, a3⟩ := zkK toD (Q := Q) (cap := cap) (g := gN 0) (fe := fe) (ww h1 (by trivial) (by trivial)) (by rw [yL]; trivial) (λ i y m => by
  obtain ⟨rfl, hi⟩ := xX m
  rw [Int.zero_add]
  exact H i (by trivial))
 rw [yL] at a1
 exact ⟨l, by trivial, a2, a3⟩
theorem Yk {F : List Int} {n : Nat} (h : F.Perm (zbM n)) : Row n F /\ ∀ b : Int, 0 <= b -> b < n -> b ∈ F := by
 refine ⟨⟨by rw [h.length_eq, zD, List.length_range], λ x m => ?_⟩, λ b b0 b1 => h.mem_iff.mpr ?_⟩
 · obtain ⟨i, hi, rfl⟩ := List.mem_map.mp (h.mem_iff.mp m)
   have := List.mem_range.mp hi
   trivial
 · exact List.mem_map.mpr ⟨b.toNat, List.mem_range.mpr (by trivial), by trivial⟩
theorem zge {F : List Int} {n : Nat} (h : F.Perm (zbM n)) {v w : Int} (hv : InR n v) (hw : InR n w) (e : rAt F v = rAt F w) : v = w := by
 have hl := (Yk h).1.1
 have v0 := hv.1
 have v1 := hv.2
 have w0 := hw.1
 have w1 := hw.2
 have nd : F.Nodup := by
  refine h.nodup_iff.mpr (List.pairwise_map.mpr (List.nodup_range.imp λ z q => z (by trivial)))
 rw [XJ (by trivial), XJ (by trivial)] at e
 have := (List.getElem_inj nd).mp e
 trivial
theorem zrp {f : EF} {g : GF} {as as' : AS} {x : D} (h : WE f as x) (hg : g (true, x) as = some as') : zeg f g as = some (.nx as') := by
 obtain ⟨o, h1, h2, h3⟩ := h
 exact zhD h1 (by rw [h2, h3]; exact hg)
abbrev wk (p : Str × TZ) : D := .tup [.str p.1, zY p.2]
structure Alg (n m : Nat) (J : TZ) (e : Int) (Ds : DD) : Prop where
 n1 : 1 <= n
 n8 : n <= 8
 m1 : 1 <= m
 m6 : m <= 6
 j : Tab n n J
 e0 : 0 <= e
 en : e < n
 dl : Ds.length <= 6
 ds : ∀ p ∈ Ds, Tab m n p.2
 nd : (Ds.map (·.1)).Nodup
structure LawA (n m : Nat) (J : TZ) (e : Int) (Ds : DD) : Prop where
 lj : LJ n (jAt J) e
 ld : ∀ p ∈ Ds, LD n m (jAt J) e (jAt p.2)
abbrev zE (n m : Nat) (J : TZ) (e : Int) (Ds : DD) (S : SS) : D := .tup [.int n, .int m, zY J, .int e, .lst (Ds.map wk), .lst (S.map Zm)]
theorem zdf {f : EF} {as : AS} {k : Int} (h : WD f as true (.int k)) : oS f as = some (some k, as) := by
 unfold oS
 unfold WD at h
 rw [h]; rfl
abbrev Z5 (T : TZ) : O := .nd .ls (T.map zal)
theorem zbT {as : AS} {i : Nat} {k : Int} {s : Bool} (h : as[i]? = some (some (.lf s (.int k)))) : xV i as = some k := by
 unfold xV; rw [zhX (f := zdH) h rfl]; rfl
theorem zoE {r : List Int} {k : Int} (h : k.toNat < r.length) : (r.map lfI)[k.toNat]? = sT (.int r[k.toNat]) := by
 rw [zzF, zzB h]; rfl
theorem zjJ {as : AS} {i : Nat} {f1 f2 fv : IXF} {k1 k2 c : Int} {T : TZ} {r : List Int} (h1 : f1 as = some k1) (h2 : f2 as = some k2) (hv : fv as = some c) (p1 : 0 <= k1) (p2 : 0 <= k2) (hi : as[i]? = some (some (Z5 T))) (hr : T[k1.toNat]? = some r) (hk : k2.toNat < r.length) :
 V4 i f1 f2 fv as = some (.nx (as.set i (some (Z5 (T.set k1.toNat (r.set k2.toNat c)))))) := by
 have e1 : (T.map zal)[k1.toNat]? = sN (r.map lfI) := by rw [zzF, hr]; rfl
 have e2 := zoE hk
 have e3 : (T.map zal).set k1.toNat (.nd .ls ((r.map lfI).set k2.toNat (.lf true (.int c)))) = (T.set k1.toNat (r.set k2.toNat c)).map zal := by
  rw [List.map_set]
  show _ = (T.map zal).set k1.toNat (.nd .ls ((r.set k2.toNat c).map lfI))
  rw [List.map_set]
 unfold V4
 simp only [h1, h2, hv, Option.bind_some, if_pos (show 0 <= k1 /\ 0 <= k2 from ⟨p1, p2⟩), (zhX hi rfl : slO zhA as i = some (T.map zal)), (zif e1 rfl : atO zhA _ _ = some (r.map lfI)), (zif e2 rfl : atO zdH _ _ = some (.int r[k2.toNat])), e3]
theorem zmz {n i : Nat} {r : List Int} {c : Int} (hr : Row n r) (hc : InR n c) : Row n (r.set i c) := by
 refine ⟨by rw [zzR]; exact hr.1, λ x m => ?_⟩
 rcases List.mem_or_eq_of_mem_set m with m | rfl
 · exact hr.2 x m
 · exact hc
theorem zmR {k n i : Nat} {T : TZ} {r : List Int} (hT : Tab k n T) (hr : Row n r) : Tab k n (T.set i r) := by
 refine ⟨by rw [zzR]; exact hT.1, λ x m => ?_⟩
 rcases List.mem_or_eq_of_mem_set m with m | rfl
 · exact hT.2 x m
 · exact hr
theorem ziI (T : TZ) : (Z5 T).frz = .lf true (zY T) := by
 show O.lf (O.strs _) (.lst (O.toDs _)) = _
 rw [(zcK T).1, (zcK T).2]
theorem zhR {n : Nat} {J : TZ} {w v : Int} (hJ : Tab n n J) (hw : InR n w) (hv : InR n v) : InR n (jAt J w v) := (rowAt (Xp hJ hw).2 hv).2
theorem Xb {a b c : EF} {as : AS} {n : Nat} {J : TZ} {w v : Int} (hJ : Tab n n J) (hw : InR n w) (hv : InR n v) (ha : WD a as true (zY J)) (hb : WD b as true (.int w)) (hc : WD c as true (.int v)) : WD (f2 (f2 a b ixP) c ixP) as true (.int (jAt J w v)) :=
 yP (Zu ha hb (Xp hJ hw).1) hc (rowAt (Xp hJ hw).2 hv).1 rfl
abbrev RT (o : O) : Prop := o.str = true /\ ∃ ds, o.toD = .tup ds
theorem zik {g : GF} {f : SF} (I : AS -> Prop) (P : It1 -> Prop) : ∀ (xs : List It1) (as : AS), (∀ x ∈ xs, ∀ as, I as -> ∃ as1, g x as = some as1 /\ ((∃ as2, f as1 = some (.nx as2) /\ I as2 /\ P x) \/ ∃ o, f as1 = some (.rt o) /\ RT o /\ ¬ P x)) -> I as ->
 (∃ as', forL g f xs as = some (.nx as') /\ I as' /\ ∀ x ∈ xs, P x) \/ ∃ o, forL g f xs as = some (.rt o) /\ RT o /\ ¬ ∀ x ∈ xs, P x
 | [], as, _, h => .inl ⟨as, rfl, h, λ _ m => nomatch m⟩
 | x :: r, as, H, h => by
  obtain ⟨as1, h1, h2⟩ := H x (zzC ..) as h
  rcases h2 with ⟨as2, h2, h3, h4⟩ | ⟨o, h2, h3, h4⟩
  · rcases zik I P r as2 (λ y m => H y (zzA _ m)) h3 with ⟨as', k1, k2, k3⟩ | ⟨o, k1, k2, k3⟩
    · refine .inl ⟨as', Zn h1 h2 k1, k2, λ y m => ?_⟩
      rcases zS.mp m with rfl | m
      · exact h4
      · exact k3 y m
    · exact .inr ⟨o, Zn h1 h2 k1, k2, λ z => k3 λ y m => z y (zzA _ m)⟩
  · exact .inr ⟨o, zgS h1 h2, h3, λ z => h4 (z x (zzC ..))⟩
abbrev zcw (r : Option Out) (I : AS -> Prop) (P : Prop) : Prop := (∃ as', r = some (.nx as') /\ I as' /\ P) \/ ∃ o, r = some (.rt o) /\ RT o /\ ¬ P
theorem zcw.imp {r : Option Out} {I : AS -> Prop} {P Q : Prop} (h : zcw r I P) (k : P ↔ Q) : zcw r I Q := by
 rcases h with ⟨a, b, c, d⟩ | ⟨a, b, c, d⟩
 · exact .inl ⟨a, b, c, k.mp d⟩
 · exact .inr ⟨a, b, c, λ z => d (k.mpr z)⟩
theorem Vj {v n : Nat} {f fr : SF} (I : AS -> Prop) (P : Int -> Prop) (H : ∀ b, InR n b -> ∀ as, I as -> ∃ as1, gN v (true, .int b) as = some as1 /\ zcw (f as1) I (P b)) {as : AS} (h : I as) : zcw (forL (gN v) f (xf 0 n) as) I (∀ b, InR n b -> P b) := by
 have k := zik (g := gN v) (f := f) I (λ x => ∀ b, x = (true, .int b) -> P b) (xf 0 n) as (λ x m as hI => by
  obtain ⟨b, rfl, b0, b1⟩ := zcQ m
  obtain ⟨as1, h1, h2⟩ := H b ⟨b0, by trivial⟩ as hI
  exact ⟨as1, h1, h2.imp ⟨λ p c e => by cases e; exact p, λ p => p b rfl⟩⟩) h
 refine zcw.imp k ⟨λ p b hb => p (true, .int b) ?_ b rfl, λ p x m b e => ?_⟩
 · have hb0 := hb.1
   have hb1 := hb.2
   refine List.mem_of_getElem? (i := b.toNat) ?_
   unfold xf
   rw [zzF, List.getElem?_range (by trivial)]
   show some (true, D.int (0 + (b.toNat : Int))) = _
   rw [show (0 : Int) + (b.toNat : Int) = b by trivial]
 · subst e
   obtain ⟨c, e, c0, c1⟩ := zcQ m
   cases e
   exact p b ⟨c0, by trivial⟩
theorem ZD {v n : Nat} {g : GF} {f : SF} {as : AS} {s : Bool} (h : as[v]? = some (some (.lf s (.int n)))) (hn : n <= 1000) : xm (yI (aC (fV v) aN) yO) g f as = forL g f (xf 0 n) as :=
 wU (ww (zy (zb h) zP) (by trivial) (by trivial)) (by rw [Int.toNat_natCast])
theorem zhJ {c : TF} {f : EF} {as : AS} {P : Prop} {q : Bool} {ds : List D} {I : AS -> Prop} (ht : WT c as q) (hq : q = true ↔ ¬ P) (hf : WE f as (.tup ds)) (hI : I as) : zcw (sIf c (yh f) sNx as) I P := by
 cases q with
 | false => exact .inl ⟨as, yD ht rfl, hI, Classical.byContradiction λ z => nomatch hq.mpr z⟩
 | true =>
  obtain ⟨o, h1, h2, h3⟩ := zlr hf
  exact .inr ⟨o, Zc ht h1, ⟨h2, ds, h3⟩, hq.mp rfl⟩
theorem zld {a b : EF} {as : AS} {x y : Int} {s t : Bool} (ha : WD a as s (.int x)) (hb : WD b as t (.int y)) : WT (fT (f2 a b (zL .NotEq))) as (!(x == y)) := yH (zre (c := x == y) ha hb rfl) rfl
theorem ziF {x y : Int} : (!(x == y)) = true ↔ ¬ x = y := by simp
abbrev UnA (n : Nat) (J : TZ) (e : Int) : Prop := ∀ a, InR n a -> jAt J e a = a /\ jAt J a e = a
abbrev As (n : Nat) (J : TZ) : Prop := ∀ a, InR n a -> ∀ b, InR n b -> ∀ c, InR n c -> jAt J (jAt J a b) c = jAt J a (jAt J b c)
section
variable {S : Option O -> Option O -> Option O -> AS} {vj vn ve : Nat} {J : TZ} {n : Nat} {e : Int}
theorem zpy {x y z : Option O} (hJ : Tab n n J) (he : InR n e) (hj : ∀ x y z, (S x y z)[vj]? = some (sT (zY J))) (hv : ∀ x y z, (S x y z)[ve]? = some (sI e)) (h3 : ∀ x y z, (S x y z)[3]? = some x) (g3 : ∀ d x y z, gN 3 (true, d) (S x y z) = some (S (sT d) y z)) :
 zcw (forL (gN 3) (sIf (Yb (fT (f2 (f2 (f2 (fV vj) (fV ve) ixP) (fV 3) ixP) (fV 3) (zL .NotEq))) (fT (f2 (f2 (f2 (fV vj) (fV 3) ixP) (fV ve) ixP) (fV 3) (zL .NotEq)))) (yh (yF (dC (fC (.str "nothing")) (dC (fV 3) dN)))) sNx) (xf 0 n) (S x y z)) (λ as => ∃ x, as = S x y z) (UnA n J e) := by
 refine Vj (fr := sNx) (λ as => ∃ x, as = S x y z) (λ a => jAt J e a = a /\ jAt J a e = a) (λ a ha as hI => ?_) ⟨x, rfl⟩
 obtain ⟨x, rfl⟩ := hI
 have w3 : WD (fV 3) (S (sI a) y z) true (.int a) := zb (h3 _ _ _)
 have t1 := zld (Xb hJ he ha (zb (hj (sI a) y z)) (zb (hv (sI a) y z)) w3) w3
 have t2 := zld (Xb hJ ha he (zb (hj (sI a) y z)) w3 (zb (hv (sI a) y z))) w3
 refine ⟨S (sI a) y z, g3 _ _ _ _, zhJ (q := !(jAt J e a == a) || !(jAt J a e == a)) (ds := [.str "nothing", .int a]) (Wy t1 (λ h => by rw [h, Bool.false_or]; exact t2) (λ h => by rw [h]; rfl)) (by simp; grind) (zmG (os := [.lf true (.str "nothing"), lfI a]) (z9 zf (z9 w3 yG)) (szl rfl) rfl rfl) ⟨_, rfl⟩⟩
abbrev zpx (vj vn : Nat) : SF := xm (yI (aC (fV vn) aN) yO) (gN 4) (xm (yI (aC (fV vn) aN) yO) (gN 5) (sIf (fT (f2 (f2 (f2 (fV vj) (f2 (f2 (fV vj) (fV 3) ixP) (fV 4) ixP) ixP) (fV 5) ixP) (f2 (f2 (fV vj) (fV 3) ixP) (f2 (f2 (fV vj) (fV 4) ixP) (fV 5) ixP) ixP) (zL .NotEq))) (yh (yF (dC (fC (.str "parting")) (dC (fV 3) (dC (fV 4) (dC (fV 5) dN)))))) sNx))
theorem zmi {x y z : Option O} (n8 : n <= 8) (hJ : Tab n n J) (hj : ∀ x y z, (S x y z)[vj]? = some (sT (zY J))) (hn : ∀ x y z, (S x y z)[vn]? = some (sI n)) (h3 : ∀ x y z, (S x y z)[3]? = some x) (h4 : ∀ x y z, (S x y z)[4]? = some y) (h5 : ∀ x y z, (S x y z)[5]? = some z)
 (g3 : ∀ d x y z, gN 3 (true, d) (S x y z) = some (S (sT d) y z)) (g4 : ∀ d x y z, gN 4 (true, d) (S x y z) = some (S x (sT d) z)) (g5 : ∀ d x y z, gN 5 (true, d) (S x y z) = some (S x y (sT d))) :
 zcw (forL (gN 3) (zpx vj vn) (xf 0 n) (S x y z)) (λ as => ∃ x y z, as = S x y z) (As n J) := by
 refine Vj (fr := sNx) (λ as => ∃ x y z, as = S x y z) (λ a => ∀ b, InR n b -> ∀ c, InR n c -> jAt J (jAt J a b) c = jAt J a (jAt J b c)) (λ a ha as hI => ?_) ⟨x, y, z, rfl⟩
 obtain ⟨x, y, z, rfl⟩ := hI
 refine ⟨_, g3 _ _ _ _, ?_⟩
 unfold zpx
 rw [ZD (hn _ _ _) (by trivial)]
 have k := Vj (v := 4) (n := n) (fr := sNx) (f := xm (yI (aC (fV vn) aN) yO) (gN 5) (sIf (fT (f2 (f2 (f2 (fV vj) (f2 (f2 (fV vj) (fV 3) ixP) (fV 4) ixP) ixP) (fV 5) ixP) (f2 (f2 (fV vj) (fV 3) ixP) (f2 (f2 (fV vj) (fV 4) ixP) (fV 5) ixP) ixP) (zL .NotEq))) (yh (yF (dC (fC (.str "parting")) (dC (fV 3) (dC (fV 4) (dC (fV 5) dN)))))) sNx)) (λ as => ∃ y z, as = S (sI a) y z) (λ b => ∀ c, InR n c -> jAt J (jAt J a b) c = jAt J a (jAt J b c)) (λ b hb as hI => by
  obtain ⟨y, z, rfl⟩ := hI
  refine ⟨_, g4 _ _ _ _, ?_⟩
  rw [ZD (hn _ _ _) (by trivial)]
  have k := Vj (v := 5) (n := n) (fr := sNx) (f := sIf (fT (f2 (f2 (f2 (fV vj) (f2 (f2 (fV vj) (fV 3) ixP) (fV 4) ixP) ixP) (fV 5) ixP) (f2 (f2 (fV vj) (fV 3) ixP) (f2 (f2 (fV vj) (fV 4) ixP) (fV 5) ixP) ixP) (zL .NotEq))) (yh (yF (dC (fC (.str "parting")) (dC (fV 3) (dC (fV 4) (dC (fV 5) dN)))))) sNx) (λ as => ∃ z, as = S (sI a) (sI b) z) (λ c => jAt J (jAt J a b) c = jAt J a (jAt J b c)) (λ c hc as hI => by
   obtain ⟨z, rfl⟩ := hI
   have w3 : WD (fV 3) (S (sI a) (sI b) (sI c)) true (.int a) := zb (h3 _ _ _)
   have w4 : WD (fV 4) (S (sI a) (sI b) (sI c)) true (.int b) := zb (h4 _ _ _)
   have w5 : WD (fV 5) (S (sI a) (sI b) (sI c)) true (.int c) := zb (h5 _ _ _)
   have wj : WD (fV vj) (S (sI a) (sI b) (sI c)) true (zY J) := zb (hj _ _ _)
   have ab := zhR hJ ha hb
   have bc := zhR hJ hb hc
   exact ⟨_, g5 _ _ _ _, zhJ (ds := [.str "parting", .int a, .int b, .int c]) (zld (Xb hJ ab hc wj (Xb hJ ha hb wj w3 w4) w5) (Xb hJ ha bc wj w3 (Xb hJ hb hc wj w4 w5))) ziF (zmG (os := [.lf true (.str "parting"), lfI a, lfI b, lfI c]) (z9 zf (z9 w3 (z9 w4 (z9 w5 yG)))) (szl rfl) rfl rfl) ⟨_, rfl⟩⟩) ⟨z, rfl⟩
  rcases k with ⟨as', k1, ⟨z', rfl⟩, k3⟩ | k
  · exact .inl ⟨_, k1, ⟨_, _, rfl⟩, k3⟩
  · exact .inr k) ⟨y, z, rfl⟩
 rcases k with ⟨as', k1, ⟨y', z', rfl⟩, k3⟩ | k
 · exact .inl ⟨_, k1, ⟨_, _, _, rfl⟩, k3⟩
 · exact .inr k
end
abbrev Flt (r : Option O) (P : Prop) : Prop := (RE r .non /\ P) \/ ((∃ ds, RE r (.tup ds)) /\ ¬ P)
theorem zhl {n m : Nat} {c : SF} {ds : List (Bool × D)} {P : Prop} (hl : ds.length = m) (h : (Rt (c (yE n ds)) .non /\ P) \/ ((∃ es, Rt (c (yE n ds)) (.tup es)) /\ ¬ P)) : Flt (fnR n m c ds) P := by
 rcases h with ⟨h, p⟩ | ⟨⟨es, h⟩, p⟩
 · exact .inl ⟨wK hl h, p⟩
 · exact .inr ⟨⟨es, wK hl h⟩, p⟩
theorem zfg {f g : SF} {as : AS} {I : AS -> Prop} {P Q : Prop} (h : zcw (f as) I P) (k : ∀ as', I as' -> P -> (Rt (g as') .non /\ Q) \/ ((∃ es, Rt (g as') (.tup es)) /\ ¬ Q)) : (Rt (zA f g as) .non /\ P /\ Q) \/ ((∃ es, Rt (zA f g as) (.tup es)) /\ ¬ (P /\ Q)) := by
 rcases h with ⟨as', h1, h2, p⟩ | ⟨o, h1, ⟨h2, es, h3⟩, p⟩
 · rcases k as' h2 p with ⟨k1, q⟩ | ⟨⟨es, k1⟩, q⟩
   · exact .inl ⟨zH h1 k1, p, q⟩
   · exact .inr ⟨⟨es, zH h1 k1⟩, λ z => q z.2⟩
 · exact .inr ⟨⟨es, o, VM h1, h2, h3⟩, λ z => p z.1⟩
theorem zeX {as : AS} : (Rt (yh (fC .non) as) .non /\ True) \/ ((∃ es, Rt (yh (fC .non) as) (.tup es)) /\ ¬ True) := .inl ⟨wH (WD.e zf), trivial⟩
theorem Flt.imp {r : Option O} {P Q : Prop} (h : Flt r P) (k : P ↔ Q) : Flt r Q := by
 rcases h with ⟨h, p⟩ | ⟨h, p⟩
 · exact .inl ⟨h, k.mp p⟩
 · exact .inr ⟨h, λ z => p (k.mpr z)⟩
section
variable {n m : Nat} {J T : TZ} {e : Int} {Ds : DD} {S : SS}
abbrev Dn (n m : Nat) (J T : TZ) : Prop := ∀ a, InR n a -> ∀ i, InR m i -> ∀ b, InR n b -> ∀ k, InR m k -> jAt T ((i + k) % m) (jAt J a b) = jAt J (jAt T i a) (jAt T k b)
theorem Wn {a b c : EF} {as : AS} {w v : Int} (hT : Tab m n T) (hw : InR m w) (hv : InR n v) (ha : WD a as true (zY T)) (hb : WD b as true (.int w)) (hc : WD c as true (.int v)) : WD (f2 (f2 a b ixP) c ixP) as true (.int (jAt T w v)) /\ InR n (jAt T w v) :=
 ⟨yP (Zu ha hb (Xp hT hw).1) hc (rowAt (Xp hT hw).2 hv).1 rfl, (rowAt (Xp hT hw).2 hv).2⟩
abbrev dfI : SF := (sIf (fT (f2 (f2 (f2 (fV 2) (f2 (f2 (fV 7) (fV 9) (zp .Add)) (fV 4) (zp .Mod)) ixP) (f2 (f2 (fV 5) (fV 6) ixP) (fV 8) ixP) ixP) (f2 (f2 (fV 5) (f2 (f2 (fV 2) (fV 7) ixP) (fV 6) ixP) ixP) (f2 (f2 (fV 2) (fV 9) ixP) (fV 8) ixP) ixP) (zL .NotEq))) (yh (yF (dC (fC (.str "doing")) (dC (fV 1) (dC (fV 6) (dC (fV 7) (dC (fV 8) (dC (fV 9) dN)))))))) sNx)
abbrev D10 (n m : Nat) (J T : TZ) (e : Int) (Ds : DD) (S : SS) (s : Str) (x y z w : Option O) : AS := [sT (zE n m J e Ds S), sT (.str s), sT (zY T), sI n, sI m, sT (zY J), x, y, z, w]
theorem df4 {s : Str} {a i b : Int} {w : Option O} (hJ : Tab n n J) (hT : Tab m n T) (m1 : 1 <= m) (ha : InR n a) (hi : InR m i) (hb : InR n b) : zcw (forL (gN 9) dfI (xf 0 m) (D10 n m J T e Ds S s (sI a) (sI i) (sI b) w)) (λ as => ∃ w, as = D10 n m J T e Ds S s (sI a) (sI i) (sI b) w) (∀ k, InR m k -> jAt T ((i + k) % m) (jAt J a b) = jAt J (jAt T i a) (jAt T k b)) := by
 refine Vj (fr := sNx) (λ as => ∃ w, as = D10 n m J T e Ds S s (sI a) (sI i) (sI b) w) (λ k => jAt T ((i + k) % m) (jAt J a b) = jAt J (jAt T i a) (jAt T k b)) (λ k hk as hI => ?_) ⟨w, rfl⟩
 obtain ⟨w, rfl⟩ := hI
 have w2 : WD (fV 2) (D10 n m J T e Ds S s (sI a) (sI i) (sI b) (sI k)) true (zY T) := zb rfl
 have w5 : WD (fV 5) (D10 n m J T e Ds S s (sI a) (sI i) (sI b) (sI k)) true (zY J) := zb rfl
 have w6 : WD (fV 6) (D10 n m J T e Ds S s (sI a) (sI i) (sI b) (sI k)) true (.int a) := zb rfl
 have w7 : WD (fV 7) (D10 n m J T e Ds S s (sI a) (sI i) (sI b) (sI k)) true (.int i) := zb rfl
 have w8 : WD (fV 8) (D10 n m J T e Ds S s (sI a) (sI i) (sI b) (sI k)) true (.int b) := zb rfl
 have w9 : WD (fV 9) (D10 n m J T e Ds S s (sI a) (sI i) (sI b) (sI k)) true (.int k) := zb rfl
 obtain ⟨q1, q2⟩ := Wn hT hi ha w2 w7 w6
 obtain ⟨q3, q4⟩ := Wn hT hk hb w2 w9 w8
 have ab := zhR hJ ha hb
 obtain ⟨q5, q6⟩ := Wn hT (w := (i + k) % m) (zeh m1) ab w2 (yf (yN w7 w9) (zb (i := 4) (x := .int m) (s := true) rfl) (by trivial)) (Xb hJ ha hb w5 w6 w8)
 exact ⟨_, rfl, zhJ (ds := [.str "doing", .str s, .int a, .int i, .int b, .int k]) (zld q5 (Xb hJ q2 q4 w5 q1 q3)) ziF (zmG (os := [.lf true (.str "doing"), .lf true (.str s), lfI a, lfI i, lfI b, lfI k]) (z9 zf (z9 (zb (i := 1) rfl) (z9 w6 (z9 w7 (z9 w8 (z9 w9 yG)))))) (szl rfl) rfl rfl) ⟨_, rfl⟩⟩
theorem Flt.none {r : Option O} {P : Prop} (h : Flt r P) (p : P) : RE r .non := by
 rcases h with ⟨h, _⟩ | ⟨_, h⟩
 · exact h
 · exact absurd p h
theorem LawA.un (L : LawA n m J e Ds) : UnA n J e := λ a ha => ⟨L.lj.ul a ha, L.lj.ur a ha⟩
theorem LawA.as (L : LawA n m J e Ds) : As n J := λ a ha b hb c hc => L.lj.as a b c ha hb hc
theorem LawA.dn (L : LawA n m J e Ds) {p : Str × TZ} (hp : p ∈ Ds) : Dn n m J p.2 := λ a ha i hi b hb k hk => (L.ld p hp).dn a i b k ha hi hb hk
end
def iP (b k : Int) : Int := if k = 0 then b / 2 else b % 2
def jP (a b : Int) : Int := 2 * iP b (a / 2) + iP b (a % 2)
def sP (a : Int) : Int := 2 * (1 - a % 2) + 1 - a / 2
theorem ljP : LJ 4 jP 1 := by
 refine ⟨λ a b ha hb => ?_, ⟨by decide, by decide⟩, λ a ha => ?_, λ a ha => ?_, λ a b c ha hb hc => ?_⟩
 · revert b; refine f4 (P := λ a => ∀ b, InR 4 b -> InR 4 (jP a b)) ?_ ha
   have : ∀ a ∈ ([0, 1, 2, 3] : List Int), ∀ b ∈ ([0, 1, 2, 3] : List Int), InR 4 (jP a b) := by decide
   exact λ a m b hb => f4 (P := λ b => InR 4 (jP a b)) (this a m) hb
 · exact f4 (P := λ a => jP 1 a = a) (by decide) ha
 · exact f4 (P := λ a => jP a 1 = a) (by decide) ha
 · have : ∀ a ∈ ([0, 1, 2, 3] : List Int), ∀ b ∈ ([0, 1, 2, 3] : List Int), ∀ c ∈ ([0, 1, 2, 3] : List Int), jP (jP a b) c = jP a (jP b c) := by decide
   refine f4 (P := λ a => jP (jP a b) c = jP a (jP b c)) (λ a m => f4 (P := λ b => jP (jP a b) c = jP a (jP b c)) (λ b m' => f4 (P := λ c => jP (jP a b) c = jP a (jP b c)) (this a m b m') hc) hb) ha
theorem ldP {m : Nat} {r : Int -> Int} (h : (∀ a, InR 4 a -> r a = a) \/ (∀ a, InR 4 a -> r a = sP a)) : LD 4 m jP 1 (λ _ a => r a) := by
 rcases h with h | h
 · refine ⟨λ c a _ ha => by show InR 4 (r a); rw [h a ha]; exact ha, h 1 ⟨by decide, by decide⟩, λ a i b k ha _ hb _ => ?_⟩
   show r (jP a b) = jP (r a) (r b)
   rw [h a ha, h b hb, h _ (ljP.cl a b ha hb)]
 · refine ⟨λ c a _ ha => by show InR 4 (r a); rw [h a ha]; exact f4 (P := λ a => InR 4 (sP a)) (by decide) ha, h 1 ⟨by decide, by decide⟩, λ a i b k ha _ hb _ => ?_⟩
   show r (jP a b) = jP (r a) (r b)
   rw [h a ha, h b hb, h _ (ljP.cl a b ha hb)]
   have : ∀ a ∈ ([0, 1, 2, 3] : List Int), ∀ b ∈ ([0, 1, 2, 3] : List Int), sP (jP a b) = jP (sP a) (sP b) := by decide
   exact f4 (P := λ a => sP (jP a b) = jP (sP a) (sP b)) (λ a m => f4 (P := λ b => sP (jP a b) = jP (sP a) (sP b)) (this a m) hb) ha
theorem ljB {n1 n2 : Nat} {j1 j2 : Int -> Int -> Int} {e1 e2 : Int} (h1 : LJ n1 j1 e1) (h2 : LJ n2 j2 e2) (p2 : 0 < n2) : LJ (n1 * n2) (jB n2 j1 j2) (e1 * n2 + e2) := by
 refine ⟨λ a b ha hb => ?_, zoi h1.ce h2.ce, λ a ha => ?_, λ a ha => ?_, λ a b c ha hb hc => ?_⟩
 · exact zoi (h1.cl _ _ (yo p2 ha).1 (yo p2 hb).1) (h2.cl _ _ (yo p2 ha).2 (yo p2 hb).2)
 · unfold jB
   rw [(VR h2.ce).1, (VR h2.ce).2, h1.ul _ (yo p2 ha).1, h2.ul _ (yo p2 ha).2, zqz]
 · unfold jB
   rw [(VR h2.ce).1, (VR h2.ce).2, h1.ur _ (yo p2 ha).1, h2.ur _ (yo p2 ha).2, zqz]
 · unfold jB
   rw [(VR (h2.cl _ _ (yo p2 ha).2 (yo p2 hb).2)).1, (VR (h2.cl _ _ (yo p2 ha).2 (yo p2 hb).2)).2, (VR (h2.cl _ _ (yo p2 hb).2 (yo p2 hc).2)).1, (VR (h2.cl _ _ (yo p2 hb).2 (yo p2 hc).2)).2, h1.as _ _ _ (yo p2 ha).1 (yo p2 hb).1 (yo p2 hc).1, h2.as _ _ _ (yo p2 ha).2 (yo p2 hb).2 (yo p2 hc).2]
theorem ldB {n1 n2 m : Nat} {j1 j2 d1 d2 : Int -> Int -> Int} {u1 u2 : Int} (h1 : LJ n1 j1 u1) (h2 : LJ n2 j2 u2) (p2 : 0 < n2) (e1 : LD n1 m j1 u1 d1) (e2 : LD n2 m j2 u2 d2) : LD (n1 * n2) m (jB n2 j1 j2) (u1 * n2 + u2) (dB n2 d1 d2) := by
 refine ⟨λ c a hc ha => zoi (e1.cl _ _ hc (yo p2 ha).1) (e2.cl _ _ hc (yo p2 ha).2), ?_, λ a i b k ha hi hb hk => ?_⟩
 · unfold dB
   rw [(VR h2.ce).1, (VR h2.ce).2, e1.em, e2.em]
 · unfold jB dB
   rw [(VR (h2.cl _ _ (yo p2 ha).2 (yo p2 hb).2)).1, (VR (h2.cl _ _ (yo p2 ha).2 (yo p2 hb).2)).2, (VR (e2.cl i _ hi (yo p2 ha).2)).1, (VR (e2.cl i _ hi (yo p2 ha).2)).2, (VR (e2.cl k _ hk (yo p2 hb).2)).1, (VR (e2.cl k _ hk (yo p2 hb).2)).2, e1.dn _ _ _ _ (yo p2 ha).1 hi (yo p2 hb).1 hk, e2.dn _ _ _ _ (yo p2 ha).2 hi (yo p2 hb).2 hk]
theorem ljT {n : Nat} {j j' : Int -> Int -> Int} {e : Int} {F B : Int -> Int} (h : LJ n j e) (hF : ∀ a, InR n a -> InR n (F a)) (hB : ∀ a, InR n a -> InR n (B a)) (hFB : ∀ a, InR n a -> F (B a) = a) (q : ∀ a b, InR n a -> InR n b -> j' (F a) (F b) = F (j a b)) : LJ n j' (F e) := by
 have q' : ∀ a b, InR n a -> InR n b -> j' a b = F (j (B a) (B b)) := λ a b ha hb => by
  have := q (B a) (B b) (hB a ha) (hB b hb)
  rw [hFB a ha, hFB b hb] at this
  exact this
 refine ⟨λ a b ha hb => by rw [q' a b ha hb]; exact hF _ (h.cl _ _ (hB a ha) (hB b hb)), hF e h.ce, λ a ha => ?_, λ a ha => ?_, λ a b c ha hb hc => ?_⟩
 · have := q e (B a) h.ce (hB a ha)
   rw [hFB a ha, h.ul _ (hB a ha), hFB a ha] at this
   exact this
 · have := q (B a) e (hB a ha) h.ce
   rw [hFB a ha, h.ur _ (hB a ha), hFB a ha] at this
   exact this
 · have a' := hB a ha
   have b' := hB b hb
   have c' := hB c hc
   rw [q' a b ha hb, q' b c hb hc]
   have x := q (j (B a) (B b)) (B c) (h.cl _ _ a' b') c'
   have y := q (B a) (j (B b) (B c)) a' (h.cl _ _ b' c')
   rw [hFB c hc] at x
   rw [hFB a ha] at y
   rw [x, y, h.as _ _ _ a' b' c']
theorem ldT {n m : Nat} {j j' d d' : Int -> Int -> Int} {e : Int} {F B : Int -> Int} (hm : 0 < m) (h : LJ n j e) (k : LD n m j e d) (hF : ∀ a, InR n a -> InR n (F a)) (hB : ∀ a, InR n a -> InR n (B a)) (hFB : ∀ a, InR n a -> F (B a) = a)
 (q : ∀ a b, InR n a -> InR n b -> j' (F a) (F b) = F (j a b)) (p : ∀ c a, InR m c -> InR n a -> d' c (F a) = F (d c a)) : LD n m j' (F e) d' := by
 refine ⟨λ c a hc ha => ?_, ?_, λ a i b l ha hi hb hl => ?_⟩
 · have := p c (B a) hc (hB a ha)
   rw [hFB a ha] at this
   rw [this]; exact hF _ (k.cl _ _ hc (hB a ha))
 · rw [p 0 e ⟨by omega, by omega⟩ h.ce, k.em]
 · have a' := hB a ha
   have b' := hB b hb
   have x := q (B a) (B b) a' b'
   have y := p i (B a) hi a'
   have z := p l (B b) hl b'
   rw [hFB a ha] at x y
   rw [hFB b hb] at x z
   rw [x, y, z, p _ _ (zeh hm) (h.cl _ _ a' b'), q _ _ (k.cl _ _ hi a') (k.cl _ _ hl b'), k.dn _ _ _ _ a' hi b' hl]
def KN (k : Int) (n : Nat) : Prop := (k = 0 /\ 1 <= n) \/ (k = 1 /\ 1 <= n) \/ (k = 2 /\ 1 <= n) \/ (k = 3 /\ n = 4)
def jK (k : Int) (n : Nat) : Int -> Int -> Int := if k = 0 then jS n else if k = 1 then jM else if k = 2 then jL else jP
def eK (k : Int) : Int := if k = 3 then 1 else 0
theorem ljK {k : Int} {n : Nat} (h : KN k n) : LJ n (jK k n) (eK k) := by
 rcases h with ⟨rfl, h⟩ | ⟨rfl, h⟩ | ⟨rfl, h⟩ | ⟨rfl, rfl⟩
 · exact ljS h
 · exact ljM h
 · exact ljL h
 · exact ljP
theorem KN.n1 {k : Int} {n : Nat} (h : KN k n) : 1 <= n := by rcases h with ⟨_, h⟩ | ⟨_, h⟩ | ⟨_, h⟩ | ⟨_, h⟩ <;> omega
theorem zpz {as : AS} {i : Nat} {xs : List Int} {g : List D -> Option R0} {zs : List D} (h : as[i]? = some (sN (xs.map lfI))) (hg : g [zX xs] = some (.fl zs)) : fP (aC (fV i) aN) g as = some (.ow (.nd .ls (zs.map (O.lf true))), as) := by
 obtain ⟨i1, i2, i3⟩ := wW xs
 have e : views as [.bo i] = some ([zX xs], some true) := by
  show (RV.view as (.bo i)).bind _ = _
  rw [VH h]
  have k : (O.nd .ls (xs.map lfI)).kl = some true := by simp only [O.kl, i1, if_true, i2]
  rw [k, (Vb xs).2]; rfl
 unfold fP aC
 rw [zcf h]
 simp only [Option.bind_some, aN, RV.frz, e, hg]
 show (if (zs.all zF || true) = true then some (RV.ow (.nd .ls (zs.map (lfs true)))) else none : Option RV).bind _ = _
 rw [if_pos (by simp), VL]; rfl
theorem znT {a : EF} {as : AS} {i : Nat} {xs : List Int} {ds : List D} (ha : WE a as (.lst ds)) (h : as[i]? = some (sN (xs.map lfI))) (hl : ds.length + xs.length <= 1000) : WE (f2 a (fV i) (zp .Add)) as (.lst (ds ++ xs.map D.int)) := by
 obtain ⟨i1, i2, i3⟩ := wW xs
 obtain ⟨o, h1, h2, h3⟩ := ha
 have k : (O.nd .ls (xs.map lfI)).kl = some true := by simp only [O.kl, i1, if_true, i2]
 have e : f2 a (fV i) (zp .Add) as = some (.ow (.nd .ls ((ds ++ xs.map D.int).map (O.lf true))), as) := by
  have e1 : RV.view as (.ow o.frz) = some (.lst ds, some true) := by
   show some (o.toD, some o.str) = _
   rw [h2, h3]
  have e2 : RV.view as (.bo i) = some (.lst (xs.map D.int), some true) := by rw [VH h, k, (Vb xs).2]
  unfold f2
  simp only [h1, zcf h, Option.bind_some, RV.frz, e1, e2]
  show ((zp .Add (.lst ds) (.lst (xs.map D.int))).bind _) = _
  rw [add_lists (by rw [zD]; exact szs (by omega))]
  show (if ((ds ++ xs.map D.int).all zF || true) = true then some (RV.ow (.nd .ls ((ds ++ xs.map D.int).map (lfs true)))) else none : Option RV).bind _ = _
  rw [if_pos (by simp), VL]; rfl
 exact ⟨_, e, zdS _, congrArg D.lst (zek _)⟩
theorem zgo {as : AS} {fr : AF} {i j : Int} {u v : Bool} (h : WA fr as [(u, .int i), (v, .int j)]) (h0 : 0 <= i) (h1 : i <= 1000) (h2 : 0 <= j) (h3 : j <= 1000) : yI fr zpX as = some (xf i (j - i).toNat, as) := by
 unfold yI; unfold WA at h
 rw [h]
 simp only [Option.bind_some, Xk]
 show ((if -(2 ^ 62) <= i /\ i < 2 ^ 62 /\ -(2 ^ 62) <= j /\ j < 2 ^ 62 then some (xf i (j - i).toNat) else none).bind _) = _
 rw [if_pos ⟨by omega, by omega, by omega, by omega⟩]; rfl
theorem zjK {x p q : Int} : ixP (.lst [.int p, .int q]) (.int (x % 2)) = some (.im (.int (if x % 2 = 0 then p else q))) := by
 rcases Int.emod_two_eq x with h | h <;> rw [h] <;> rfl
def put (T : TZ) (p q c : Int) : TZ := T.set p.toNat ((zhe T p).set q.toNat c)
theorem zmH {k n : Nat} {T : TZ} {p q c : Int} (hT : Tab k n T) (hp : InR k p) (hc : InR n c) : Tab k n (put T p q c) := zmR hT (zmz (Xp hT hp).2 hc)
theorem ziU {k n : Nat} {T : TZ} {p q c a b : Int} (hT : Tab k n T) (hp : InR k p) (hq : InR n q) (ha : InR k a) (hb : InR n b) : jAt (put T p q c) a b = if a = p /\ b = q then c else jAt T a b := by
 have hp' := iT hp
 have ha' := iT ha
 have hq' := iT hq
 have hb' := iT hb
 have hl := (Xp hT hp).2.1
 unfold jAt put
 by_cases e : a = p
 · subst e
   rw [List.getElem?_set_self (by rw [hT.1]; exact hp')]
   show rAt ((zhe T a).set q.toNat c) b = _
   unfold rAt
   by_cases e2 : b = q
   · subst e2
     rw [List.getElem?_set_self (by rw [hl]; exact hq'), if_pos ⟨rfl, rfl⟩]; rfl
   · rw [zzV (λ z => e2 (by have := hb.1; have := hq.1; omega)), if_neg (λ z => e2 z.2)]
 · rw [zzV (λ z => e (by have := ha.1; have := hp.1; omega)), if_neg (λ z => e z.1)]
theorem zlp {v K n L : Nat} {f : SF} {S : TZ -> Option O -> Option O -> AS} {p : Int} {g w : Int -> Int} (hp : InR K p) (hg : ∀ b, InR L b -> InR n (g b)) (gi : ∀ b b', InR L b -> InR L b' -> g b = g b' -> b = b') (hw : ∀ b, InR L b -> InR n (w b))
 (h1 : ∀ T d x y, gN v (true, d) (S T x y) = some (S T (sT d) y)) (h2 : ∀ T b y, Tab K n T -> InR L b -> ∃ y', f (S T (sI b) y) = some (.nx (S (put T p (g b) (w b)) (sI b) y'))) {T0 : TZ} {x0 y0 : Option O} (hT : Tab K n T0) :
 ∃ T' x y, forL (gN v) f (xf 0 L) (S T0 x0 y0) = some (.nx (S T' x y)) /\ Tab K n T' /\ (∀ b, InR L b -> jAt T' p (g b) = w b) /\ (∀ a b, InR K a -> InR n b -> a ≠ p -> jAt T' a b = jAt T0 a b) := by
 obtain ⟨as', hf, T', x, y, rfl, t1, t2, t3⟩ := xT (g := gN v) (f := f)
  (λ i as => ∃ (T : TZ) (x y : Option O), as = S T x y /\ Tab K n T /\ (∀ b, InR L b -> b < i -> jAt T p (g b) = w b) /\ (∀ a b, InR K a -> InR n b -> a ≠ p -> jAt T a b = jAt T0 a b))
  (xf 0 L) 0 (S T0 x0 y0) (λ i y as hx hI => by
   obtain ⟨T, x, z, rfl, t1, t2, t3⟩ := hI
   obtain ⟨rfl, hi⟩ := xX hx
   have hb : InR L (0 + (i : Int)) := ⟨by omega, by omega⟩
   obtain ⟨y', h⟩ := h2 T (0 + i) z t1 hb
   refine ⟨_, h1 _ _ _ _, _, h, _, _, _, rfl, zmH t1 hp (hw _ hb), λ b hb' hlt => ?_, λ a b ha hb' hne => ?_⟩
   · rw [ziU t1 hp (hg _ hb) hp (hg _ hb')]
     by_cases e : g b = g (0 + i)
     · have := gi _ _ hb' hb e
       subst this
       rw [if_pos ⟨rfl, rfl⟩]
     · rw [if_neg (λ z => e z.2)]
       refine t2 b hb' ?_
       have : b ≠ 0 + i := λ z => e (by rw [z])
       omega
   · rw [ziU t1 hp (hg _ hb) ha hb', if_neg (λ z => hne z.1)]
     exact t3 a b ha hb' hne)
  ⟨T0, x0, y0, rfl, hT, λ b hb h => absurd h (by have := hb.1; omega), λ _ _ _ _ _ => rfl⟩
 rw [yL] at t2
 exact ⟨T', x, y, hf, t1, λ b hb => t2 b hb (by have := hb.2; omega), t3⟩
theorem ziu {v K n L M : Nat} {F : SF} {S : TZ -> Option O -> Option O -> Option O -> AS} {f g : Int -> Int} {w : Int -> Int -> Int} (hf' : ∀ a, InR M a -> InR K (f a)) (fi : ∀ a a', InR M a -> InR M a' -> f a = f a' -> a = a') (hg : ∀ b, InR L b -> InR n (g b))
 (h1 : ∀ T d x y z, gN v (true, d) (S T x y z) = some (S T (sT d) y z)) (h2 : ∀ T a y z, Tab K n T -> InR M a -> ∃ T' y' z', F (S T (sI a) y z) = some (.nx (S T' (sI a) y' z')) /\ Tab K n T' /\ (∀ b, InR L b -> jAt T' (f a) (g b) = w a b) /\ (∀ a' b, InR K a' -> InR n b -> a' ≠ f a -> jAt T' a' b = jAt T a' b)) {T0 : TZ} {x0 y0 z0 : Option O} (hT : Tab K n T0) :
 ∃ T' x y z, forL (gN v) F (xf 0 M) (S T0 x0 y0 z0) = some (.nx (S T' x y z)) /\ Tab K n T' /\ ∀ a b, InR M a -> InR L b -> jAt T' (f a) (g b) = w a b := by
 obtain ⟨as', hf, T', x, y, z, rfl, t1, t2⟩ := xT (g := gN v) (f := F)
  (λ i as => ∃ (T : TZ) (x y z : Option O), as = S T x y z /\ Tab K n T /\ ∀ a b, InR M a -> a < i -> InR L b -> jAt T (f a) (g b) = w a b)
  (xf 0 M) 0 (S T0 x0 y0 z0) (λ i y as hx hI => by
   obtain ⟨T, x, y, z, rfl, t1, t2⟩ := hI
   obtain ⟨rfl, hi⟩ := xX hx
   have ha : InR M (0 + (i : Int)) := ⟨by omega, by omega⟩
   obtain ⟨T', y', z', h, q1, q2, q3⟩ := h2 T (0 + i) y z t1 ha
   refine ⟨_, h1 _ _ _ _ _, _, h, _, _, _, _, rfl, q1, λ a b ha' hlt hb => ?_⟩
   by_cases e : a = 0 + i
   · subst e; exact q2 b hb
   · rw [q3 (f a) (g b) (hf' a ha') (hg b hb) (λ z => e (fi _ _ ha' ha z))]
     exact t2 a b ha' (by omega) hb)
  ⟨T0, x0, y0, z0, rfl, hT, λ a b ha h => absurd h (by have := ha.1; omega)⟩
 rw [yL] at t2
 exact ⟨T', x, y, z, hf, t1, λ a b ha hb => t2 a b ha (by have := ha.2; omega) hb⟩
theorem zlb {as : AS} {i : Nat} {f : IXF} {n : Nat} {r : List Int} {k : Int} {s : Bool} (h : as[i]? = some (some (.lf s (zX r)))) (hf : f as = some k) (hr : Row n r) (hk : InR n k) : xAt i f as = some (rAt r k) := by
 have e := (rowAt hr hk).1
 unfold xAt
 rw [hf]
 show (if 0 <= k then (slO zdH as i).bind λ d => (asL d).bind λ ds => ds[k.toNat]?.bind asI else none) = _
 rw [if_pos hk.1]
 have e1 : slO zdH as i = some (zX r) := by unfold slO; rw [h]; rfl
 rw [e1]
 show ((r.map D.int)[k.toNat]?).bind asI = _
 have hl := iT hk
 rw [zzF, zzB (by rw [hr.1]; exact hl), XJ (by rw [hr.1]; exact hl)]
 rfl
theorem ziT {as : AS} {i k n : Nat} {f1 f2 fv : IXF} {p q c : Int} {T : TZ} (hT : Tab k n T) (hp : InR k p) (hq : InR n q) (h1 : f1 as = some p) (h2 : f2 as = some q) (hv : fv as = some c) (hi : as[i]? = some (some (Z5 T))) : V4 i f1 f2 fv as = some (.nx (as.set i (some (Z5 (put T p q c))))) := by
 have hl := iT hp
 have hq' := iT hq
 refine zjJ h1 h2 hv hp.1 hq.1 hi (r := zhe T p) ?_ (by rw [(Xp hT hp).2.1]; exact hq')
 unfold zhe
 rw [zzB (by rw [hT.1]; exact hl)]; rfl
theorem zgx {as0 : AS} : ∀ (ds : List D), (∀ d, ∃ as1, gN 0 (true, d) as0 = some as1) -> xO (gN 0) xr (fC (.int 0)) as0 (ds.map λ d => (true, d)) = some ((List.replicate ds.length (0 : Int)).map lfI)
 | [], _ => rfl
 | d :: r, H => by
  obtain ⟨as1, h1⟩ := H d
  show xO _ _ _ _ ((true, d) :: r.map λ d => (true, d)) = some (lfI 0 :: (List.replicate r.length (0 : Int)).map lfI)
  exact zjm h1 zf (zgx r H)
theorem zfZ {g : GF} {fe : EF} {as0 : AS} {r : List Int} : ∀ (xs : List It1), (∀ y ∈ xs, ∃ as1, g y as0 = some as1 /\ fe as1 = some (.ow (zal r), as1)) -> xO g xr fe as0 xs = some ((List.replicate xs.length r).map zal)
 | [], _ => rfl
 | y :: xs, H => by
  obtain ⟨as1, h1, h2⟩ := H y (zzC ..)
  exact zgQ h1 h2 (Vb r).1 (zfZ xs λ z m => H z (zzA _ m))
theorem zgT {k n : Nat} (hn : 1 <= n) : Tab k n (List.replicate k (List.replicate n (0 : Int))) :=
 ⟨List.length_replicate .., λ r m => by rw [List.eq_of_mem_replicate m]; exact ⟨List.length_replicate .., λ x m => by rw [List.eq_of_mem_replicate m]; omega⟩⟩
end PF
end
section
namespace G60
open PySem PySem.Spec PyProof.Rows L2 PF
def top (i : Nat) : Stmt := PySem.Challenge.pw_stretchdeeds_k60_lists_of_what_comes.main.body.getD i (.Pass ⟨0, 0, 0, 0⟩)
abbrev vP : Stmt := top 4
abbrev WP : List Str := ["algebra", "join", "nothing", "a"]
theorem wY : FnScope WP ["algebra"] (zB vP) := ⟨rfl, rfl, rfl, by decide +kernel, rfl, by decide +kernel, by decide +kernel⟩
def vR : SF :=
 (zA (zK true 1 (f2 (fV 0) (fC (.int 2)) ixP))
  (zA (zK true 2 (f2 (fV 0) (fC (.int 3)) ixP))
  (zA (xm (yI (aC (f2 (fV 0) (fC (.int 0)) ixP) aN) yO) (gN 3) (sIf (Yb (fT (f2 (f2 (f2 (fV 1) (fV 2) ixP) (fV 3) ixP) (fV 3) (zL .NotEq))) (fT (f2 (f2 (f2 (fV 1) (fV 3) ixP) (fV 2) ixP) (fV 3) (zL .NotEq)))) (yh (yF (dC (fC (.str "nothing")) (dC (fV 3) dN)))) sNx))
  (yh (fC .non)))))
def wJ : Fn := fnR 4 1 vR
abbrev vQ : Stmt := top 5
abbrev Wz : List Str := ["algebra", "n", "join", "a", "b", "c"]
theorem xu : FnScope Wz ["algebra"] (zB vQ) := ⟨rfl, rfl, rfl, by decide +kernel, rfl, by decide +kernel, by decide +kernel⟩
def ZS : SF :=
 (zA (zK true 1 (f2 (fV 0) (fC (.int 0)) ixP))
  (zA (zK true 2 (f2 (fV 0) (fC (.int 2)) ixP))
  (zA (xm (yI (aC (fV 1) aN) yO) (gN 3) (xm (yI (aC (fV 1) aN) yO) (gN 4) (xm (yI (aC (fV 1) aN) yO) (gN 5) (sIf (fT (f2 (f2 (f2 (fV 2) (f2 (f2 (fV 2) (fV 3) ixP) (fV 4) ixP) ixP) (fV 5) ixP) (f2 (f2 (fV 2) (fV 3) ixP) (f2 (f2 (fV 2) (fV 4) ixP) (fV 5) ixP) ixP) (zL .NotEq))) (yh (yF (dC (fC (.str "parting")) (dC (fV 3) (dC (fV 4) (dC (fV 5) dN)))))) sNx))))
  (yh (fC .non)))))
def wM : Fn := fnR 6 1 ZS
abbrev Zw : Stmt := top 6
abbrev V1 : List Str := ["algebra", "name", "rows", "n", "m", "join", "a", "i", "b", "j"]
theorem yW : FnScope V1 ["algebra", "name", "rows"] (zB Zw) := ⟨rfl, rfl, rfl, by decide +kernel, rfl, by decide +kernel, by decide +kernel⟩
def Y9 : SF :=
 (zA (zK true 3 (f2 (fV 0) (fC (.int 0)) ixP))
  (zA (zK true 4 (f2 (fV 0) (fC (.int 1)) ixP))
  (zA (zK true 5 (f2 (fV 0) (fC (.int 2)) ixP))
  (zA (xm (yI (aC (fV 3) aN) yO) (gN 6) (xm (yI (aC (fV 4) aN) yO) (gN 7) (xm (yI (aC (fV 3) aN) yO) (gN 8) (xm (yI (aC (fV 4) aN) yO) (gN 9) (sIf (fT (f2 (f2 (f2 (fV 2) (f2 (f2 (fV 7) (fV 9) (zp .Add)) (fV 4) (zp .Mod)) ixP) (f2 (f2 (fV 5) (fV 6) ixP) (fV 8) ixP) ixP) (f2 (f2 (fV 5) (f2 (f2 (fV 2) (fV 7) ixP) (fV 6) ixP) ixP) (f2 (f2 (fV 2) (fV 9) ixP) (fV 8) ixP) ixP) (zL .NotEq))) (yh (yF (dC (fC (.str "doing")) (dC (fV 1) (dC (fV 6) (dC (fV 7) (dC (fV 8) (dC (fV 9) dN)))))))) sNx)))))
  (yh (fC .non))))))
def wO : Fn := fnR 10 3 Y9
abbrev Yj : Stmt := top 7
abbrev zaM : List Str := ["algebra", "nothing", "name", "rows", "fault"]
theorem vK : FnScope zaM ["algebra"] (zB Yj) := ⟨rfl, rfl, rfl, by decide +kernel, rfl, by decide +kernel, by decide +kernel⟩
def zbo : SF :=
 (zA (zK true 1 (f2 (fV 0) (fC (.int 3)) ixP))
  (zA (xm (zfS (f2 (fV 0) (fC (.int 4)) ixP)) (gT 2 (gsC (gN 2) (gsC (gN 3) gsN))) (zA (sIf (fT (f2 (f2 (f2 (fV 3) (fC (.int 0)) ixP) (fV 1) ixP) (fV 1) (zL .NotEq))) (yh (yF (dC (fC (.str "empty")) (dC (fV 2) dN)))) sNx)
  (zA (zK true 4 (zJ (aC (fV 0) (aC (fV 2) (aC (fV 3) aN))) wO))
  (sIf (fT (f2 (fV 4) (fC .non) (zL .IsNot))) (yh (fV 4)) sNx))))
  (yh (fC .non))))
def v8 : Fn := fnR 5 1 zbo
abbrev Yi : Stmt := top 8
abbrev zaP : List Str := ["algebra", "fault"]
theorem Zy : FnScope zaP ["algebra"] (zB Yi) := ⟨rfl, rfl, rfl, by decide +kernel, rfl, by decide +kernel, by decide +kernel⟩
def zba : SF :=
 (zA (zK true 1 (zJ (aC (fV 0) aN) wJ))
  (zA (sIf (fT (f2 (fV 1) (fC .non) (zL .Is))) (zK true 1 (zJ (aC (fV 0) aN) wM)) sNx)
  (zA (sIf (fT (f2 (fV 1) (fC .non) (zL .Is))) (zK true 1 (zJ (aC (fV 0) aN) v8)) sNx)
  (yh (fV 1)))))
def Zf : Fn := fnR 2 1 zba
abbrev Zh : Stmt := top 9
abbrev Vi : List Str := ["algebra", "fault"]
theorem WK : FnScope Vi ["algebra"] (zB Zh) := ⟨rfl, rfl, rfl, by decide +kernel, rfl, by decide +kernel, by decide +kernel⟩
def Yy : SF :=
 (zA (zK true 1 (zJ (aC (fV 0) aN) Zf))
  (sIf (fT (f2 (fV 1) (fC .non) (zL .IsNot))) sNo sNx))
def xF : Fn := fnR 2 1 Yy
abbrev zbm : Stmt := top 11
abbrev zgz : List Str := ["algebra", "entries", "p", "q", "one", "other"]
theorem zbX : FnScope zgz ["algebra", "entries", "p", "q"] (zB zbm) := ⟨rfl, rfl, rfl, by decide +kernel, rfl, by decide +kernel, by decide +kernel⟩
def zgP : SF :=
 (zA (zK true 4 (f2 (fV 1) (fV 2) ixP))
  (zA (zK true 5 (f2 (fV 1) (fV 3) ixP))
  (yh (yF (dC (f2 (f2 (f2 (fV 0) (fC (.int 2)) ixP) (f2 (fV 4) (fC (.int 0)) ixP) ixP) (f2 (fV 5) (fC (.int 0)) ixP) ixP) (dC (f2 (f2 (f2 (fV 4) (fC (.int 1)) ixP) (f2 (fV 5) (fC (.int 1)) ixP) (zp .Add)) (f2 (fV 0) (fC (.int 1)) ixP) (zp .Mod)) (dC (yF (dC (fC (.str "two")) (dC (fV 2) (dC (fV 3) dN)))) dN)))))))
def v9 : Fn := fnR 6 4 zgP
abbrev ZR : Stmt := top 12
abbrev Vl : List Str := ["algebra", "entries", "at", "value", "c", "found", "p"]
theorem Zj : FnScope Vl ["algebra", "entries", "at"] (zB ZR) := ⟨rfl, rfl, rfl, by decide +kernel, rfl, by decide +kernel, by decide +kernel⟩
theorem Vv : (["name", "rows", "c", "value", "at"] : List Str).Nodup := by decide +kernel
def zcq : SF :=
 (zA (zK true 3 (f2 (f2 (fV 1) (fV 2) ixP) (fC (.int 0)) ixP))
  (zA (zK true 4 (f2 (f2 (fV 1) (fV 2) ixP) (fC (.int 1)) ixP))
  (zA (zK false 5 (yp (Z9 (f2 (fV 0) (fC (.int 4)) ixP)) [none, none, some 4, some 3, some 2] (gT 2 (gsC (gN 0) (gsC (gN 1) gsN))) xr (yF (dC (f2 (f2 (fV 1) (fV 2) ixP) (fV 3) ixP) (dC (fV 2) (dC (yF (dC (fC (.str "deed")) (dC (fV 0) (dC (fV 4) dN)))) dN))))))
  (zA (xm (yI (aC (f2 (fV 2) (fC (.int 1)) (zp .Add)) aN) yO) (gN 6) (yV (wF 5 (dC (vd (dC (zJ (aC (fV 0) (aC (fV 1) (aC (fV 6) (aC (fV 2) aN)))) v9) (dC (zJ (aC (fV 0) (aC (fV 1) (aC (fV 2) (aC (fV 6) aN)))) v9) dN))) dN) zjo)))
  (yh (fV 5))))))
def wV : Fn := fnR 7 3 zcq
abbrev Wc : Stmt := top 13
abbrev zdx : List Str := ["entries", "known", "found", "entry", "pair"]
theorem Vd : FnScope zdx ["entries", "known", "found"] (zB Wc) := ⟨rfl, rfl, rfl, by decide +kernel, rfl, by decide +kernel, by decide +kernel⟩
def zan : SF :=
 (xm (zfS (fV 2)) (gN 3) (zA (zK true 4 (yF (dC (f2 (fV 3) (fC (.int 0)) ixP) (dC (f2 (fV 3) (fC (.int 1)) ixP) dN))))
  (sIf (fT (f2 (fV 4) (fV 1) (zL .NotIn))) (zA (V7 1 (fV 4) (fC (.bl true)))
  (yV (wF 0 (dC (fV 3) dN) v4))) sNx)))
def xj : O -> O -> It1 -> Option (O × O) := gM 5 zan
abbrev Ve : Stmt := top 14
abbrev zdu : List Str := ["algebra", "row", "entries", "known", "at"]
theorem Xn : FnScope zdu ["algebra", "row"] (zB Ve) := ⟨rfl, rfl, rfl, by decide +kernel, rfl, by decide +kernel, by decide +kernel⟩
theorem zgn : (["value", "algebra"] : List Str).Nodup := by decide +kernel
def zfU : SF :=
 (zA (yV (zJ (aC (fV 0) aN) xF))
  (zA (zK false 2 (vd dN))
  (zA (zK false 3 zlT)
  (zA (zat 2 3 (vd (dC (yF (dC (f2 (fV 0) (fC (.int 3)) ixP) (dC (fC (.int 0)) (dC (yF (dC (fC (.str "none")) dN)) dN)))) dN)) xj)
  (zA (zat 2 3 (yp (Z9 (fV 1)) [none, some 0] (gN 0) xr (yF (dC (fV 0) (dC (f2 (fC (.int 1)) (f2 (fV 1) (fC (.int 1)) ixP) (zp .Mod)) (dC (yF (dC (fC (.str "one")) (dC (fV 0) dN))) dN))))) xj)
  (zA (zK true 4 (fC (.int 0)))
  (zA (whL (fT (f2 (fV 4) (fP (aC (fV 2) aN) vU) (zL .Lt))) (zA (zat 2 3 (zJ (aC (fV 0) (aC (fV 2) (aC (fV 4) aN))) wV) xj)
  (zlR 4 1)) 10000)
  (yh (fV 2)))))))))
def v6 : Fn := fnR 5 2 zfU
abbrev Zx : Stmt := top 16
abbrev zab : List Str := ["_law_script", "_law_k"]
theorem zcR : FnScope zab ["_law_script", "_law_k"] (zB Zx) := ⟨rfl, rfl, rfl, by decide +kernel, rfl, by decide +kernel, by decide +kernel⟩
def V0 : SF :=
 (zA (sIf (fT (f2 (fV 1) (fP (aC (fV 0) aN) vU) (zL .Lt))) (yh (f2 (fV 0) (fV 1) ixP)) sNx)
  (yh (fC (.int 0))))
def zW : Fn := fnR 2 2 V0
abbrev YD : Stmt := top 17
abbrev zcp : List Str := ["_law_cell", "_law_k", "_law_number"]
theorem zbj : FnScope zcp ["_law_cell", "_law_k"] (zB YD) := ⟨rfl, rfl, rfl, by decide +kernel, rfl, by decide +kernel, by decide +kernel⟩
def zcn : SF :=
 (zA (zK true 2 (f2 (f2 (f2 (f2 (f2 (fV 0) (fC (.int 2147483647)) (zp .Mod)) (fC (.int 48271)) (zp .Mult)) (f2 (f2 (fV 1) (fV 1) (zp .Mult)) (fC (.int 69621)) (zp .Mult)) (zp .Add)) (fC (.int 7919)) (zp .Add)) (fC (.int 2147483647)) (zp .Mod)))
  (yh (f2 (f2 (f2 (f2 (fV 2) (fV 2) (zp .Mult)) (f2 (fC (.int 16807)) (fV 2) (zp .Mult)) (zp .Add)) (fV 1) (zp .Add)) (fC (.int 2147483629)) (zp .Mod))))
def yJ : Fn := fnR 3 2 zcn
abbrev YK : Stmt := top 18
abbrev zcs : List Str := ["_law_found"]
theorem zeW : FnScope zcs ["_law_found"] (zB YK) := ⟨rfl, rfl, rfl, by decide +kernel, rfl, by decide +kernel, by decide +kernel⟩
def zcm : SF :=
 (yh (znz (zbO (fV 0) "int") (znC (zbO (fV 0) "bool"))))
def ye : Fn := fnR 1 1 zcm
abbrev ZL : Stmt := top 19
abbrev WR : List Str := ["_law_cell", "_law_many", "_law_letters", "_law_size", "_law_at", "_law_words_here", "_law_k", "_law_some"]
theorem wD : FnScope WR ["_law_cell", "_law_many"] (zB ZL) := ⟨rfl, rfl, rfl, by decide +kernel, rfl, by decide +kernel, by decide +kernel⟩
theorem zdt : (["_law_j", "_law_letters", "_law_k", "_law_cell", "_law_at"] : List Str).Nodup := by decide +kernel
def zcl : SF :=
 (zA (zK true 2 (fC (.str "abcdefghijklmnopqrstuvwxyz")))
  (zA (zK true 3 (f2 (fC (.int 1)) (f2 (fV 0) (fC (.int 8)) (zp .Mod)) (zp .Add)))
  (zA (zK true 4 (f2 (f2 (fV 0) (fC (.int 8)) (zp .FloorDiv)) (fV 3) (zp .Mod)))
  (zA (zK false 5 (vd dN))
  (zA (xm (yI (aC (fV 1) aN) yO) (gN 6) (zA (zK true 7 (yp (yI (aC (fV 3) aN) yO) [none, some 2, some 6, some 0, some 4] (gN 0) xr (f2 (fV 1) (f2 (f2 (f2 (zJ (aC (fV 3) (aC (fV 0) aN)) yJ) (fC (.int 64)) (zp .FloorDiv)) (f2 (fV 2) (fP (aC (f2 (fV 0) (fV 4) (zL .Eq)) aN) Xm) (zp .Mult)) (zp .Add)) (fC (.int 26)) (zp .Mod)) ixP)))
  (yV (wF 5 (dC (zdh .str (fC (.str "")) (aC (fV 7) aN) zgX) dN) v4))))
  (yh (fV 5)))))))
def vY : Fn := fnR 8 2 zcl
abbrev Yc : Stmt := top 20
abbrev zbd : List Str := ["_law_n", "_law_m"]
theorem zad : FnScope zbd ["_law_n", "_law_m"] (zB Yc) := ⟨rfl, rfl, rfl, by decide +kernel, rfl, by decide +kernel, by decide +kernel⟩
def zbh : SF :=
 (zA (whL (fT (f2 (fV 1) (fC (.int 0)) (zL .Gt))) (zkm 0 1 (dC (fV 1) (dC (f2 (fV 0) (fV 1) (zp .Mod)) dN))) 10000)
  (yh (fV 0)))
def vA : Fn := fnR 2 2 zbh
abbrev vO : Stmt := top 21
abbrev WF : List Str := ["_law_kind", "_law_n", "_law_a", "_law_b", "_law_images_here"]
theorem Xl : FnScope WF ["_law_kind", "_law_n", "_law_a", "_law_b"] (zB vO) := ⟨rfl, rfl, rfl, by decide +kernel, rfl, by decide +kernel, by decide +kernel⟩
def Wv : SF :=
 (zA (sIf (fT (f2 (fV 0) (fC (.int 0)) (zL .Eq))) (yh (f2 (f2 (fV 2) (fV 3) (zp .Add)) (fV 1) (zp .Mod))) sNx)
  (zA (sIf (fT (f2 (fV 0) (fC (.int 1)) (zL .Eq))) (yh (fP (aC (fV 2) (aC (fV 3) aN)) zri)) sNx)
  (zA (sIf (fT (f2 (fV 0) (fC (.int 2)) (zL .Eq))) (yh (f2 (vd (dC (fV 3) (dC (fV 2) dN))) (fP (aC (f2 (fV 3) (fC (.int 0)) (zL .Eq)) aN) Xm) ixP)) sNx)
  (zA (zK true 4 (vd (dC (f2 (fV 3) (fC (.int 2)) (zp .FloorDiv)) (dC (f2 (fV 3) (fC (.int 2)) (zp .Mod)) dN))))
  (yh (f2 (f2 (fC (.int 2)) (f2 (fV 4) (f2 (fV 2) (fC (.int 2)) (zp .FloorDiv)) ixP) (zp .Mult)) (f2 (fV 4) (f2 (fV 2) (fC (.int 2)) (zp .Mod)) ixP) (zp .Add)))))))
def zO : Fn := fnR 5 4 Wv
abbrev Zd : Stmt := top 22
abbrev Wd : List Str := ["_law_kind", "_law_n", "_law_x", "_law_some", "_law_k"]
theorem vI : FnScope Wd ["_law_kind", "_law_n", "_law_x"] (zB Zd) := ⟨rfl, rfl, rfl, by decide +kernel, rfl, by decide +kernel, by decide +kernel⟩
theorem zcA : (["_law_a", "_law_x"] : List Str).Nodup := by decide +kernel
def zaI : SF :=
 (zA (sIf (fT (f2 (fV 0) (fC (.int 3)) (zL .Eq))) (yh (yp (yI (aC (fV 1) aN) yO) [none, some 2] (gN 0) xr (f2 (vd (dC (fV 0) (dC (f2 (f2 (f2 (fC (.int 2)) (f2 (fC (.int 1)) (f2 (fV 0) (fC (.int 2)) (zp .Mod)) (zp .Sub)) (zp .Mult)) (fC (.int 1)) (zp .Add)) (f2 (fV 0) (fC (.int 2)) (zp .FloorDiv)) (zp .Sub)) dN))) (f2 (fV 1) (fC (.int 2)) (zp .Mod)) ixP))) sNx)
  (zA (zK false 3 (vd dN))
  (zA (xm (yI (aC (fC (.int 1)) (aC (fV 1) aN)) zpX) (gN 4) (zA (zK true 2 (f2 (fV 2) (fV 1) (zp .FloorDiv)))
  (yV (wF 3 (dC (f2 (vd (dC (f2 (fV 2) (fV 1) (zp .Mod)) (dC (f2 (fC (.int 1)) (f2 (fV 2) (f2 (fV 1) (fC (.int 1)) (zp .Sub)) (zp .Mod)) (zp .Add)) dN))) (f2 (fV 0) (fC (.int 1)) (zp .Sub)) ixP) dN) v4))))
  (zA (sIf (fT (f2 (fV 0) (fC (.int 1)) (zL .Eq))) (zK false 3 (fP (aC (fV 3) aN) zka)) sNx)
  (yh (f2 (vd (dC (fC (.int 0)) dN)) (fV 3) (zp .Add)))))))
def Zk : Fn := fnR 5 3 zaI
abbrev wN : Stmt := top 23
abbrev ZJ : List Str := ["_law_kind", "_law_n", "_law_m", "_law_x", "_law_images_here", "_law_step"]
theorem Yq : FnScope ZJ ["_law_kind", "_law_n", "_law_m", "_law_x"] (zB wN) := ⟨rfl, rfl, rfl, by decide +kernel, rfl, by decide +kernel, by decide +kernel⟩
theorem zbr : (["_law_c", "_law_images_here"] : List Str).Nodup := by decide +kernel
theorem zbx : (["_law_c", "_law_n", "_law_step", "_law_x"] : List Str).Nodup := by decide +kernel
theorem zbV : (["_law_a", "_law_n", "_law_step", "_law_c", "_law_x"] : List Str).Nodup := by decide +kernel
def V2 : SF :=
 (zA (sIf (fT (f2 (fV 0) (fC (.int 0)) (zL .Gt))) (zA (zK true 4 (zJ (aC (fV 0) (aC (fV 1) (aC (fV 3) aN))) Zk))
  (yh (yp (yI (aC (fV 2) aN) yO) [none, some 4] (gN 0) xr (fP (aC (fV 1) aN) lstP)))) sNx)
  (zA (zK true 5 (f2 (f2 (fV 1) (zJ (aC (fV 1) (aC (fV 2) aN)) vA) (zp .FloorDiv)) (f2 (f2 (fV 3) (fC (.int 8)) (zp .FloorDiv)) (fC (.int 8)) (zp .Mod)) (zp .Mult)))
  (yh (yp (yI (aC (fV 2) aN) yO) [none, some 1, some 5, some 3] (gN 0) xr (yp (yI (aC (fV 1) aN) yO) [none, some 1, some 2, some 0, some 3] (gN 0) xr (f2 (f2 (f2 (f2 (fV 4) (fC (.int 8)) (zp .Mod)) (fV 0) (zp .Mult)) (f2 (fV 2) (fV 3) (zp .Mult)) (zp .Add)) (fV 1) (zp .Mod)))))))
def yU : Fn := fnR 6 4 V2
abbrev YF : Stmt := top 24
abbrev zcg : List Str := ["_law_x", "_law_first", "_law_size", "_law_other"]
theorem vo : FnScope zcg ["_law_x"] (zB YF) := ⟨rfl, rfl, rfl, by decide +kernel, rfl, by decide +kernel, by decide +kernel⟩
def zca : SF :=
 (zA (zK true 1 (f2 (fV 0) (fC (.int 4)) (zp .Mod)))
  (zA (zK true 2 (f2 (vd (dC (f2 (fC (.int 1)) (f2 (f2 (fV 0) (fC (.int 4)) (zp .FloorDiv)) (fC (.int 5)) (zp .Mod)) (zp .Add)) (dC (f2 (fC (.int 1)) (f2 (f2 (fV 0) (fC (.int 4)) (zp .FloorDiv)) (fC (.int 8)) (zp .Mod)) (zp .Add)) dN))) (fP (aC (f2 (f2 (f2 (fV 0) (fC (.int 40)) (zp .FloorDiv)) (fC (.int 4)) (zp .Mod)) (fC (.int 1)) (zL .Eq)) aN) Xm) ixP))
  (zA (sIf (fT (f2 (fV 1) (fC (.int 3)) (zL .Eq))) (zK true 2 (fC (.int 4))) sNx)
  (zA (zK true 3 (f2 (fC (.int 1)) (f2 (f2 (fV 0) (fC (.int 160)) (zp .FloorDiv)) (fC (.int 3)) (zp .Mod)) (zp .Add)))
  (zA (sIf (fT (f2 (f2 (fV 2) (fV 3) (zp .Mult)) (fC (.int 8)) (zL .Gt))) (zK true 3 (fC (.int 1))) sNx)
  (yh (yF (dC (fV 1) (dC (fV 2) (dC (f2 (f2 (fV 0) (fC (.int 480)) (zp .FloorDiv)) (fC (.int 3)) (zp .Mod)) (dC (fV 3) dN)))))))))))
def vX : Fn := fnR 4 1 zca
abbrev Z8 : Stmt := top 25
abbrev zaU : List Str := ["_law_cell", "_law_many", "_law_found", "_law_rest", "_law_k"]
theorem vN : FnScope zaU ["_law_cell", "_law_many"] (zB Z8) := ⟨rfl, rfl, rfl, by decide +kernel, rfl, by decide +kernel, by decide +kernel⟩
def zaO : SF :=
 (zA (zK false 2 (vd dN))
  (zA (zK true 3 (f2 (fV 0) (fC (.int 2)) (zp .FloorDiv)))
  (zA (xm (yI (aC (fV 1) aN) yO) (gN 4) (sIf (fT (f2 (f2 (fV 0) (fC (.int 2)) (zp .Mod)) (fC (.int 0)) (zL .Eq))) (zA (yV (wF 2 (dC (f2 (fV 3) (fC (.int 1000000007)) (zp .Mod)) dN) v4))
  (zK true 3 (f2 (fV 3) (fC (.int 1000000007)) (zp .FloorDiv)))) (yV (wF 2 (dC (zJ (aC (fV 3) (aC (fV 4) aN)) yJ) dN) v4))))
  (yh (fV 2)))))
def yR : Fn := fnR 5 2 zaO
abbrev wg : Stmt := top 26
abbrev vH : List Str := ["_law_cell", "_law_head", "_law_many", "_law_xs", "_law_ys", "_law_kind", "_law_n", "_law_more", "_law_times", "_law_m", "_law_size", "_law_left", "_law_order", "_law_k", "_law_join", "_law_a", "_law_b", "_law_there", "_law_names", "_law_deeds", "_law_rows_here", "_law_beside", "_law_made", "_law_c", "_law_signs", "_law_bits", "_law_held", "_law_nothing"]
theorem zu : FnScope vH ["_law_cell", "_law_head", "_law_many"] (zB wg) := ⟨rfl, rfl, rfl, by decide +kernel, rfl, by decide +kernel, by decide +kernel⟩
theorem zbL : (["_law_a", "_law_order"] : List Str).Nodup := by decide +kernel
theorem zbQ : (["_law_b"] : List Str).Nodup := by decide +kernel
theorem zbW : (["_law_c", "_law_order"] : List Str).Nodup := by decide +kernel
theorem zbN : (["_law_a"] : List Str).Nodup := by decide +kernel
theorem zbu : (["_law_a", "_law_bits"] : List Str).Nodup := by decide +kernel
def Xe : SF :=
 (zA (zK true 3 (zJ (aC (fV 0) (aC (f2 (fC (.int 1)) (f2 (fC (.int 2)) (fV 2) (zp .Mult)) (zp .Add)) aN)) yR))
  (zA (zK true 4 (zJ (aC (fV 1) (aC (fC (.int 13)) aN)) yR))
  (zA (zeg (zJ (aC (f2 (fV 3) (fC (.int 0)) ixP) aN) vX) (gT 4 (gsC (gN 5) (gsC (gN 6) (gsC (gN 7) (gsC (gN 8) gsN))))))
  (zA (zK true 9 (f2 (f2 (fC (.int 1)) (f2 (f2 (fV 4) (fC (.int 0)) ixP) (fC (.int 4)) (zp .Mod)) (zp .Add)) (f2 (fC (.int 2)) (fP (aC (f2 (f2 (f2 (f2 (fV 4) (fC (.int 0)) ixP) (fC (.int 4)) (zp .FloorDiv)) (fC (.int 8)) (zp .Mod)) (fC (.int 5)) (zL .Eq)) aN) Xm) (zp .Mult)) (zp .Add)))
  (zA (zK true 10 (f2 (fV 6) (fV 8) (zp .Mult)))
  (zA (zK false 11 (fP (aC (fV 10) aN) lrP))
  (zA (zK false 12 (vd dN))
  (zA (xm (yI (aC (fV 10) aN) yO) (gN 13) (yV (wF 12 (dC (wF 11 (dC (f2 (f2 (fV 4) (f2 (fC (.int 1)) (fV 13) (zp .Add)) ixP) (fP (aC (fV 11) aN) vU) (zp .Mod)) dN) XQ) dN) v4)))
  (zjH 12 (zA (zK false 14 (yp (Z9 (fV 12)) [none, some 12] (gN 0) xr (yp (Z9 (fV 1)) [none] (gN 0) xr (fC (.int 0)))))
  (zA (xm (yI (aC (fV 10) aN) yO) (gN 15) (xm (yI (aC (fV 10) aN) yO) (gN 16) (zA (zK true 17 (f2 (zJ (aC (fV 5) (aC (fV 6) (aC (f2 (fV 15) (fV 8) (zp .FloorDiv)) (aC (f2 (fV 16) (fV 8) (zp .FloorDiv)) aN)))) zO) (fV 8) (zp .Mult)))
  (zA (zK true 17 (f2 (fV 17) (zJ (aC (fV 7) (aC (fV 8) (aC (f2 (fV 15) (fV 8) (zp .Mod)) (aC (f2 (fV 16) (fV 8) (zp .Mod)) aN)))) zO) (zp .Add)))
  (V4 14 (xAt 12 (xV 15)) (xAt 12 (xV 16)) (xAt 12 (xV 17)))))))
  (zA (zK true 18 (zJ (aC (f2 (fV 1) (fC (.int 7)) (zp .FloorDiv)) (aC (fC (.int 10)) aN)) vY))
  (zA (zK false 19 (vd dN))
  (zA (xm (yI (aC (fV 2) aN) yO) (gN 13) (zA (zK true 20 (zJ (aC (fV 5) (aC (fV 6) (aC (fV 9) (aC (f2 (fV 3) (f2 (fC (.int 1)) (f2 (fC (.int 2)) (fV 13) (zp .Mult)) (zp .Add)) ixP) aN)))) yU))
  (zA (zK true 21 (zJ (aC (fV 7) (aC (fV 8) (aC (fV 9) (aC (f2 (fV 3) (f2 (fC (.int 2)) (f2 (fC (.int 2)) (fV 13) (zp .Mult)) (zp .Add)) ixP) aN)))) yU))
  (zA (zK false 22 (yp (yI (aC (fV 9) aN) yO) [none, some 12] (gN 0) xr (yp (Z9 (fV 1)) [none] (gN 0) xr (fC (.int 0)))))
  (zA (xm (yI (aC (fV 9) aN) yO) (gN 23) (xm (yI (aC (fV 10) aN) yO) (gN 15) (zA (zK true 17 (f2 (f2 (fV 20) (fV 23) ixP) (f2 (fV 15) (fV 8) (zp .FloorDiv)) ixP))
  (zA (zK true 17 (f2 (f2 (fV 17) (fV 8) (zp .Mult)) (f2 (f2 (fV 21) (fV 23) ixP) (f2 (fV 15) (fV 8) (zp .Mod)) ixP) (zp .Add)))
  (V4 22 (xV 23) (xAt 12 (xV 15)) (xAt 12 (xV 17)))))))
  (yV (wF 19 (dC (yF (dC (f2 (fV 18) (fV 13) ixP) (dC (fV 22) dN))) dN) v4)))))))
  (zA (zK false 24 (vd dN))
  (zA (xm (yI (aC (fC (.int 3)) aN) yO) (gN 13) (zA (zK true 25 (f2 (fV 4) (f2 (fC (.int 9)) (fV 13) (zp .Add)) ixP))
  (zA (zK true 26 (yp (yI (aC (fV 10) aN) yO) [none, some 25] (gN 0) (fT (f2 (f2 (f2 (fV 1) (f2 (fC (.int 1)) (fV 0) zjG) (zp .FloorDiv)) (fC (.int 2)) (zp .Mod)) (fC (.int 1)) (zL .Eq))) (fV 0)))
  (yV (wF 24 (dC (yF (dC (f2 (fV 18) (f2 (fV 13) (f2 (fC (.int 4)) (f2 (f2 (fV 25) (fC (.int 512)) (zp .FloorDiv)) (fC (.int 2)) (zp .Mod)) (zp .Mult)) (zp .Add)) ixP) (dC (fV 26) dN))) dN) v4)))))
  (zA (zK true 27 (f2 (fV 12) (f2 (vd (dC (fC (.int 0)) (dC (fV 8) dN))) (fP (aC (f2 (fV 5) (fC (.int 3)) (zL .Eq)) aN) Xm) ixP) ixP))
  (yh (yF (dC (fV 10) (dC (fV 9) (dC (fV 14) (dC (fV 27) (dC (fV 19) (dC (fSl (fV 24) oN (oS (f2 (f2 (fV 4) (fC (.int 12)) ixP) (fC (.int 4)) (zp .Mod))) slP) dN)))))))))))))))))))))))))
def vD : Fn := fnR 28 3 Xe
abbrev vV : Stmt := top 27
abbrev Ym : List Str := ["_law_algebra_here", "_law_n", "_law_m", "_law_join", "_law_nothing", "_law_deeds", "_law_signs", "_law_rows_here", "_law_held"]
theorem xQ : FnScope Ym ["_law_algebra_here"] (zB vV) := ⟨rfl, rfl, rfl, by decide +kernel, rfl, by decide +kernel, by decide +kernel⟩
theorem V5 : (["_law_name", "_law_table"] : List Str).Nodup := by decide +kernel
theorem zee : (["_law_row"] : List Str).Nodup := by decide +kernel
theorem zag : (["_law_name", "_law_values_here"] : List Str).Nodup := by decide +kernel
theorem zea : (["_law_row"] : List Str).Nodup := by decide +kernel
def zdp : SF :=
 (zA (zeg (fV 0) (gT 6 (gsC (gN 1) (gsC (gN 2) (gsC (gN 3) (gsC (gN 4) (gsC (gN 5) (gsC (gN 6) gsN))))))))
  (zA (zK true 7 (yp (Z9 (fV 5)) [none, none] (gT 2 (gsC (gN 0) (gsC (gN 1) gsN))) xr (yF (dC (fV 0) (dC (yp (Z9 (fV 1)) [none] (gN 0) xr (fP (aC (fV 0) aN) lstP)) dN)))))
  (zA (zK true 8 (yp (Z9 (fV 6)) [none, none] (gT 2 (gsC (gN 0) (gsC (gN 1) gsN))) xr (yF (dC (fV 0) (dC (fP (aC (fV 1) aN) lstP) dN)))))
  (yh (yF (dC (fV 1) (dC (fV 2) (dC (yp (Z9 (fV 3)) [none] (gN 0) xr (fP (aC (fV 0) aN) lstP)) (dC (fV 4) (dC (fV 7) (dC (fV 8) dN)))))))))))
def Yx : Fn := fnR 9 1 zdp
abbrev Yd : Stmt := top 28
abbrev zaL : List Str := ["_law_script", "_law_start", "_law_most", "_law_size", "_law_number", "_law_row", "_law_k"]
theorem YL : FnScope zaL ["_law_script", "_law_start", "_law_most", "_law_size", "_law_number"] (zB Yd) := ⟨rfl, rfl, rfl, by decide +kernel, rfl, by decide +kernel, by decide +kernel⟩
def zbf : SF :=
 (zA (zK false 5 (vd dN))
  (zA (xm (yI (aC (f2 (fV 4) (f2 (fV 2) (fC (.int 1)) (zp .Add)) (zp .Mod)) aN) yO) (gN 6) (yV (wF 5 (dC (f2 (zJ (aC (zJ (aC (fV 0) (aC (f2 (fV 1) (fV 6) (zp .Add)) aN)) zW) (aC (f2 (fV 6) (fC (.int 80)) (zp .Add)) aN)) yJ) (fV 3) (zp .Mod)) dN) v4)))
  (yh (fV 5))))
def wC : Fn := fnR 7 5 zbf
abbrev Wo : Stmt := top 29
abbrev zcS : List Str := ["_law_algebra_here", "_law_name", "_law_other", "_law_rows_here"]
theorem WW : FnScope zcS ["_law_algebra_here", "_law_name"] (zB Wo) := ⟨rfl, rfl, rfl, by decide +kernel, rfl, by decide +kernel, by decide +kernel⟩
def zai : SF :=
 (zA (xm (zfS (f2 (fV 0) (fC (.int 4)) ixP)) (gT 2 (gsC (gN 2) (gsC (gN 3) gsN))) (sIf (fT (f2 (fV 2) (fV 1) (zL .Eq))) (yh (fV 3)) sNx))
  (yh (fC .non)))
def Yt : Fn := fnR 4 2 zai
abbrev ZG : Stmt := top 30
abbrev V9 : List Str := ["_law_algebra_here", "_law_entries", "_law_how_here", "_law_rows_here", "_law_value", "_law_count"]
theorem Za : FnScope V9 ["_law_algebra_here", "_law_entries", "_law_how_here"] (zB ZG) := ⟨rfl, rfl, rfl, by decide +kernel, rfl, by decide +kernel, by decide +kernel⟩
def zae : SF :=
 (zA (zK true 3 (zJ (aC (fV 0) (aC (f2 (fV 2) (fC (.int 1)) ixP) aN)) Yt))
  (zA (sIf (Yb (fT (f2 (fV 3) (fC .non) (zL .Is))) (Yb (Zb (fT (zJ (aC (f2 (fV 2) (fC (.int 2)) ixP) aN) ye))) (Zb (fT (Xa (fC (.int 0)) (f2 (fV 2) (fC (.int 2)) ixP) (fP (aC (fV 1) aN) vU) (zL .LtE) (zL .Lt)))))) (yh (fC .non)) sNx)
  (zA (zeg (fSl (f2 (fV 1) (f2 (fV 2) (fC (.int 2)) ixP) ixP) oN (oS (fC (.int 2))) slP) (gT 2 (gsC (gN 4) (gsC (gN 5) gsN))))
  (yh (yF (dC (f2 (f2 (fV 3) (fV 5) ixP) (fV 4) ixP) (dC (fV 5) dN)))))))
def vJ : Fn := fnR 6 3 zae
abbrev Ye : Stmt := top 31
abbrev zaG : List Str := ["_law_algebra_here", "_law_one", "_law_other"]
theorem zdX : FnScope zaG ["_law_algebra_here", "_law_one", "_law_other"] (zB Ye) := ⟨rfl, rfl, rfl, by decide +kernel, rfl, by decide +kernel, by decide +kernel⟩
def zaW : SF :=
 (yh (yF (dC (f2 (f2 (f2 (fV 0) (fC (.int 2)) ixP) (f2 (fV 1) (fC (.int 0)) ixP) ixP) (f2 (fV 2) (fC (.int 0)) ixP) ixP) (dC (f2 (f2 (f2 (fV 1) (fC (.int 1)) ixP) (f2 (fV 2) (fC (.int 1)) ixP) (zp .Add)) (f2 (fV 0) (fC (.int 1)) ixP) (zp .Mod)) dN))))
def xq : Fn := fnR 3 3 zaW
abbrev VF : Stmt := top 32
abbrev zeI : List Str := ["_law_algebra_here", "_law_row", "_law_entries", "_law_how_here", "_law_at"]
theorem zde : FnScope zeI ["_law_algebra_here", "_law_row", "_law_entries", "_law_how_here"] (zB VF) := ⟨rfl, rfl, rfl, by decide +kernel, rfl, by decide +kernel, by decide +kernel⟩
def zew : SF :=
 (zA (sIf (fT (f2 (fV 3) (yF (dC (fC (.str "none")) dN)) (zL .Eq))) (yh (yF (dC (f2 (fV 0) (fC (.int 3)) ixP) (dC (fC (.int 0)) dN)))) sNx)
  (zA (sIf (Yb (Zb (fT (zbO (fV 3) "tuple"))) (fT (f2 (fP (aC (fV 3) aN) vU) (fC (.int 2)) (zL .Lt)))) (yh (fC .non)) sNx)
  (zA (sIf (Yu (fT (f2 (f2 (fV 3) (fC (.int 0)) ixP) (fC (.str "one")) (zL .Eq))) (Yu (fT (f2 (fP (aC (fV 3) aN) vU) (fC (.int 2)) (zL .Eq))) (Yu (fT (zJ (aC (f2 (fV 3) (fC (.int 1)) ixP) aN) ye)) (fT (f2 (f2 (fV 3) (fC (.int 1)) ixP) (fV 1) (zL .In)))))) (yh (yF (dC (f2 (fV 3) (fC (.int 1)) ixP) (dC (f2 (fC (.int 1)) (f2 (fV 0) (fC (.int 1)) ixP) (zp .Mod)) dN)))) sNx)
  (zA (sIf (Yu (fT (f2 (f2 (fV 3) (fC (.int 0)) ixP) (fC (.str "deed")) (zL .Eq))) (fT (f2 (fP (aC (fV 3) aN) vU) (fC (.int 3)) (zL .Eq)))) (yh (zJ (aC (fV 0) (aC (fV 2) (aC (fV 3) aN))) vJ)) sNx)
  (zA (sIf (Yb (fT (f2 (f2 (fV 3) (fC (.int 0)) ixP) (fC (.str "two")) (zL .NotEq))) (fT (f2 (fP (aC (fV 3) aN) vU) (fC (.int 3)) (zL .NotEq)))) (yh (fC .non)) sNx)
  (zA (xm (zfS (fSl (fV 3) (oS (fC (.int 1))) oN slP)) (gN 4) (sIf (Yb (Zb (fT (zJ (aC (fV 4) aN) ye))) (Zb (fT (Xa (fC (.int 0)) (fV 4) (fP (aC (fV 2) aN) vU) (zL .LtE) (zL .Lt))))) (yh (fC .non)) sNx))
  (yh (zJ (aC (fV 0) (aC (f2 (fV 2) (f2 (fV 3) (fC (.int 1)) ixP) ixP) (aC (f2 (fV 2) (f2 (fV 3) (fC (.int 2)) ixP) ixP) aN))) xq))))))))
def vm : Fn := fnR 5 4 zew
abbrev xR : Stmt := top 33
abbrev vz : List Str := ["_law_algebra_here", "_law_row", "_law_known", "_law_needed", "_law_one"]
theorem vG : FnScope vz ["_law_algebra_here", "_law_row", "_law_known"] (zB xR) := ⟨rfl, rfl, rfl, by decide +kernel, rfl, by decide +kernel, by decide +kernel⟩
theorem zcC : (["_law_value", "_law_algebra_here"] : List Str).Nodup := by decide +kernel
theorem Wu : (["_law_name", "_law_rows_here", "_law_one"] : List Str).Nodup := by decide +kernel
theorem zcD : (["_law_other", "_law_algebra_here", "_law_one"] : List Str).Nodup := by decide +kernel
theorem zcz : (["_law_pair", "_law_known"] : List Str).Nodup := by decide +kernel
def zaJ : SF :=
 (zA (zK true 3 (f2 (vd (dC (yF (dC (f2 (fV 0) (fC (.int 3)) ixP) (dC (fC (.int 0)) dN))) dN)) (yp (Z9 (fV 1)) [none, some 0] (gN 0) xr (yF (dC (fV 0) (dC (f2 (fC (.int 1)) (f2 (fV 1) (fC (.int 1)) ixP) (zp .Mod)) dN)))) (zp .Add)))
  (zA (xm (ziZ (fV 2)) (gN 4) (zA (zK true 3 (f2 (fV 3) (yp (Z9 (f2 (fV 0) (fC (.int 4)) ixP)) [none, none, some 4] (gT 2 (gsC (gN 0) (gsC (gN 1) gsN))) xr (yF (dC (f2 (f2 (fV 1) (f2 (fV 2) (fC (.int 1)) ixP) ixP) (f2 (fV 2) (fC (.int 0)) ixP) ixP) (dC (f2 (fV 2) (fC (.int 1)) ixP) dN)))) (zp .Add)))
  (zK true 3 (f2 (fV 3) (yp (zdi (fV 2)) [none, some 0, some 4] (gN 0) xr (zJ (aC (fV 1) (aC (fV 2) (aC (fV 0) aN))) xq)) (zp .Add)))))
  (yh (f2 (yp (Z9 (fV 3)) [none, some 2] (gN 0) (fT (f2 (fV 0) (fV 1) (zL .NotIn))) (fV 0)) (vd dN) (zL .Eq)))))
def wZ : Fn := fnR 5 3 zaJ
abbrev YJ : Stmt := top 34
abbrev zbZ : List Str := ["_law_algebra_here", "_law_row", "_law_found", "_law_known", "_law_at", "_law_entry"]
theorem Yg : FnScope zbZ ["_law_algebra_here", "_law_row", "_law_found"] (zB YJ) := ⟨rfl, rfl, rfl, by decide +kernel, rfl, by decide +kernel, by decide +kernel⟩
def zcd : SF :=
 (zA (sIf (Zb (fT (zbO (fV 2) "list"))) (yh (fC (.bl false))) sNx)
  (zA (zK false 3 zlT)
  (zA (xm (yI (aC (fP (aC (fV 2) aN) vU) aN) yO) (gN 4) (zA (zK true 5 (f2 (fV 2) (fV 4) ixP))
  (zA (sIf (Yb (Zb (fT (zbO (fV 5) "tuple"))) (Yb (fT (f2 (fP (aC (fV 5) aN) vU) (fC (.int 3)) (zL .NotEq))) (Yb (Zb (fT (zJ (aC (f2 (fV 5) (fC (.int 0)) ixP) aN) ye))) (Zb (fT (zJ (aC (f2 (fV 5) (fC (.int 1)) ixP) aN) ye)))))) (yh (fC (.bl false))) sNx)
  (zA (sIf (Yb (fT (f2 (fSl (fV 5) oN (oS (fC (.int 2))) slP) (fV 3) (zL .In))) (fT (f2 (zJ (aC (fV 0) (aC (fV 1) (aC (fSl (fV 2) oN (oS (fV 4)) slP) (aC (f2 (fV 5) (fC (.int 2)) ixP) aN)))) vm) (fSl (fV 5) oN (oS (fC (.int 2))) slP) (zL .NotEq)))) (yh (fC (.bl false))) sNx)
  (V7 3 (fSl (fV 5) oN (oS (fC (.int 2))) slP) (fC (.bl true)))))))
  (yh (zJ (aC (fV 0) (aC (fV 1) (aC (fV 3) aN))) wZ)))))
def wB : Fn := fnR 6 3 zcd
abbrev zjb : Stmt := top 35
abbrev znE : List Str := ["_law_script", "_law_algebra_here", "_law_row", "_law_handed", "_law_values_here", "_law_found"]
theorem zbP : FnScope znE ["_law_script"] (zB zjb) := ⟨rfl, rfl, rfl, by decide +kernel, rfl, by decide +kernel, by decide +kernel⟩
def znP : SF :=
 (zA (zK true 1 (zJ (aC (zJ (aC (fV 0) (aC (fC (.int 0)) aN)) zW) (aC (zJ (aC (fV 0) (aC (fC (.int 1)) aN)) zW) (aC (f2 (zJ (aC (fV 0) (aC (fC (.int 2)) aN)) zW) (fC (.int 5)) (zp .Mod)) aN))) vD))
  (zA (zK true 2 (zJ (aC (fV 0) (aC (fC (.int 3)) (aC (fC (.int 5)) (aC (f2 (fV 1) (fC (.int 0)) ixP) (aC (f2 (zJ (aC (fV 0) (aC (fC (.int 2)) aN)) zW) (fC (.int 5)) (zp .FloorDiv)) aN))))) wC))
  (zA (zK true 3 (zJ (aC (fV 1) aN) Yx))
  (zA (zK true 4 (fP (aC (fV 2) aN) lstP))
  (zA (zK false 5 (zJ (aC (fV 3) (aC (fV 4) aN)) v6))
  (zA (sIf (Yb (Zb (fT (zJ (aC (fV 1) (aC (fV 2) (aC (fV 5) aN))) wB))) (Yb (fT (f2 (fV 3) (fV 1) (zL .NotEq))) (fT (f2 (fV 4) (fV 2) (zL .NotEq))))) (yh (fC (.bl false))) sNx)
  (zA (yV (wF 5 dN zno))
  (yh (zJ (aC (fV 1) (aC (fV 2) (aC (zJ (aC (fV 3) (aC (fV 4) aN)) v6) aN))) wB)))))))))
def zcU : Fn := fnR 6 1 znP
set_option genInjectivity false in
set_option genSizeOf false in
structure Adr where
 Z1 : Addr
 Z0 : FuncData
 ZZ : Addr
 Z2 : FuncData
 YQ : Addr
 YX : FuncData
 XH : Addr
 Xz : FuncData
 Xq : Addr
 Wb : FuncData
 Yl : Addr
 Yr : FuncData
 zdb : Addr
 zdC : FuncData
 Vo : Addr
 W4 : FuncData
 zam : Addr
 zaj : FuncData
 zdd : Addr
 zdI : FuncData
 Xc : Addr
 YW : FuncData
 Vm : Addr
 Vx : FuncData
 Vy : Addr
 Vr : FuncData
 Vn : Addr
 Vt : FuncData
 We : Addr
 Wm : FuncData
 ZX : Addr
 Z3 : FuncData
 Wr : Addr
 Wg : FuncData
 Xf : Addr
 Y4 : FuncData
 Vk : Addr
 Vf : FuncData
 Xx : Addr
 X7 : FuncData
 Xd : Addr
 Xg : FuncData
 zao : Addr
 zaq : FuncData
 XS : Addr
 Xw : FuncData
 zau : Addr
 zah : FuncData
 Y5 : Addr
 YS : FuncData
 X4 : Addr
 Wf : FuncData
 zbF : Addr
 zbE : FuncData
 X6 : Addr
 Xu : FuncData
 Va : Addr
 Vq : FuncData
 zlI : Addr
 zkE : FuncData
structure Txt (K : zC) (kd : KD) (mg : Str -> Option Value) (t : Adr) : Prop where
 WM : Fun K "nothing_fails" "nothing_fails" vP t.Z1 t.Z0
 zcF : Binds K t.Z0 ["algebra"] []
 wJ : mg "nothing_fails" = some (.ref t.Z1)
 Ww : Fun K "parting_fails" "parting_fails" vQ t.ZZ t.Z2
 zcE : Binds K t.Z2 ["algebra"] []
 wM : mg "parting_fails" = some (.ref t.ZZ)
 zaf : Fun K "doing_fails" "doing_fails" Zw t.YQ t.YX
 zei : Binds K t.YX ["algebra", "name", "rows"] []
 wO : mg "doing_fails" = some (.ref t.YQ)
 zbk : Fun K "deeds_fail" "deeds_fail" Yj t.XH t.Xz
 zeS : Binds K t.Xz ["algebra"] []
 v8 : mg "deeds_fail" = some (.ref t.XH)
 zbg : Fun K "what_fails" "what_fails" Yi t.Xq t.Wb
 zfL : Binds K t.Wb ["algebra"] []
 Zf : mg "what_fails" = some (.ref t.Xq)
 W9 : Fun K "check_let_by" "check_let_by" Zh t.Yl t.Yr
 zdc : Binds K t.Yr ["algebra"] []
 xF : mg "check_let_by" = some (.ref t.Yl)
 zdO : Fun K "two_of" "two_of" zbm t.zdb t.zdC
 zgK : Binds K t.zdC ["algebra", "entries", "p", "q"] []
 v9 : mg "two_of" = some (.ref t.zdb)
 zbY : Fun K "following" "following" ZR t.Vo t.W4
 zgH : Binds K t.W4 ["algebra", "entries", "at"] []
 wV : mg "following" = some (.ref t.Vo)
 Wk : Fun K "take_new" "take_new" Wc t.zam t.zaj
 zar : Binds K t.zaj ["entries", "known", "found"] []
 xj : mg "take_new" = some (.ref t.zam)
 zdj : Fun K "coming" "coming" Ve t.zdd t.zdI
 zhb : Binds K t.zdI ["algebra", "row"] []
 v6 : mg "coming" = some (.ref t.zdd)
 wQ : Fun K "_law_cell_at" "_law_cell_at" Zx t.Xc t.YW
 vM : Binds K t.YW ["_law_script", "_law_k"] []
 zW : mg "_law_cell_at" = some (.ref t.Xc)
 YH : Fun K "_law_mixed" "_law_mixed" YD t.Vm t.Vx
 Vu : Binds K t.Vx ["_law_cell", "_law_k"] []
 yJ : mg "_law_mixed" = some (.ref t.Vm)
 vW : Fun K "_law_whole" "_law_whole" YK t.Vy t.Vr
 ZK : Binds K t.Vr ["_law_found"] []
 ye : mg "_law_whole" = some (.ref t.Vy)
 zcr : Fun K "_law_words" "_law_words" ZL t.Vn t.Vt
 zgv : Binds K t.Vt ["_law_cell", "_law_many"] []
 vY : mg "_law_words" = some (.ref t.Vn)
 zaT : Fun K "_law_common" "_law_common" Yc t.We t.Wm
 zfr : Binds K t.Wm ["_law_n", "_law_m"] []
 vA : mg "_law_common" = some (.ref t.We)
 ZW : Fun K "_law_joined_by" "_law_joined_by" vO t.ZX t.Z3
 Wt : Binds K t.Z3 ["_law_kind", "_law_n", "_law_a", "_law_b"] []
 zO : mg "_law_joined_by" = some (.ref t.ZX)
 zbe : Fun K "_law_images" "_law_images" Zd t.Wr t.Wg
 zfF : Binds K t.Wg ["_law_kind", "_law_n", "_law_x"] []
 Zk : mg "_law_images" = some (.ref t.Wr)
 Xi : Fun K "_law_done_by" "_law_done_by" wN t.Xf t.Y4
 zac : Binds K t.Y4 ["_law_kind", "_law_n", "_law_m", "_law_x"] []
 yU : mg "_law_done_by" = some (.ref t.Xf)
 zcv : Fun K "_law_kinds" "_law_kinds" YF t.Vk t.Vf
 zgl : Binds K t.Vf ["_law_x"] []
 vX : mg "_law_kinds" = some (.ref t.Vk)
 XM : Fun K "_law_stream" "_law_stream" Z8 t.Xx t.X7
 zaE : Binds K t.X7 ["_law_cell", "_law_many"] []
 yR : mg "_law_stream" = some (.ref t.Xx)
 V8 : Fun K "_law_algebra" "_law_algebra" wg t.Xd t.Xg
 zeb : Binds K t.Xg ["_law_cell", "_law_head", "_law_many"] []
 vD : mg "_law_algebra" = some (.ref t.Xd)
 zdk : Fun K "_law_copy" "_law_copy" vV t.zao t.zaq
 zhC : Binds K t.zaq ["_law_algebra_here"] []
 Yx : mg "_law_copy" = some (.ref t.zao)
 zaK : Fun K "_law_values" "_law_values" Yd t.XS t.Xw
 zfc : Binds K t.Xw ["_law_script", "_law_start", "_law_most", "_law_size", "_law_number"] []
 wC : mg "_law_values" = some (.ref t.XS)
 zdB : Fun K "_law_rows" "_law_rows" Wo t.zau t.zah
 zhH : Binds K t.zah ["_law_algebra_here", "_law_name"] []
 Yt : mg "_law_rows" = some (.ref t.zau)
 zaa : Fun K "_law_by_deed" "_law_by_deed" ZG t.Y5 t.YS
 zed : Binds K t.YS ["_law_algebra_here", "_law_entries", "_law_how_here"] []
 vJ : mg "_law_by_deed" = some (.ref t.Y5)
 Wi : Fun K "_law_by_two" "_law_by_two" Ye t.X4 t.Wf
 zaX : Binds K t.Wf ["_law_algebra_here", "_law_one", "_law_other"] []
 xq : mg "_law_by_two" = some (.ref t.X4)
 zez : Fun K "_law_how" "_law_how" VF t.zbF t.zbE
 zjh : Binds K t.zbE ["_law_algebra_here", "_law_row", "_law_entries", "_law_how_here"] []
 vm : mg "_law_how" = some (.ref t.zbF)
 zaD : Fun K "_law_closed" "_law_closed" xR t.X6 t.Xu
 zfd : Binds K t.Xu ["_law_algebra_here", "_law_row", "_law_known"] []
 wZ : mg "_law_closed" = some (.ref t.X6)
 Vh : Fun K "_law_right" "_law_right" YJ t.Va t.Vq
 zck : Binds K t.Vq ["_law_algebra_here", "_law_row", "_law_found"] []
 wB : mg "_law_right" = some (.ref t.Va)
 zrc : Fun K "law" "law" zjb t.zlI t.zkE
 zse : Binds K t.zkE ["_law_script"] []
 zcU : mg "law" = some (.ref t.zlI)
 zoV : mg "bool" = none
 zeE : mg "int" = none
 Ze : mg "isinstance" = none
 WX : mg "len" = none
 zaw : mg "list" = none
 zqB : mg "max" = none
 yt : mg "range" = none
 zlj : mg "sorted" = none
 zjd : mg "tuple" = none
set_option maxHeartbeats 8000000
section
variable {P : Program} {w : World} {K : zC} {mg : Str -> Option Value} {base : Heap} {kd : KD} {t : Adr}
theorem zcx (T : Txt K kd mg t) (hkd : KD1 P w K kd) : FnOk P w K mg base CX0 1 t.Z1 t.Z0 ["algebra"] (spD K kd wJ) := by
 refine xW (N := WP) (ps := ["algebra"]) (k := 0) (c := vR) T.WM wY λ cdv A outer s H E hr => ?_
 exact (by
  refine zg ?_ ?_; exact (by refine sv true 1 wY.nd ?_; exact (ax hkd (av 0) aI))
  refine zg ?_ ?_; exact (by refine sv true 2 wY.nd ?_; exact (ax hkd (av 0) aI))
  refine zg ?_ ?_; exact (xg PassesOwn.never rfl (yz rfl T.yt (zc (ax hkd (av 0) aI) zx (za rfl)) rfl) (an 3 wY.nd) (zr (xM (AW.at_ (WN (yj (zV (hkd _ rfl rfl rfl) (yq hr) .NotEq) (zR .NotEq) (ax hkd (ax hkd (av 1) (av 2)) (av 3)) (av 3) (yc _)) (vZ (yj (zV (hkd _ rfl rfl rfl) (yq hr) .NotEq) (zR .NotEq) (ax hkd (ax hkd (av 1) (av 3)) (av 2)) (av 3) (yc _))))) (zr (zU (yQ (zj aS (zj (av 3) zM (za rfl)) (za rfl))))) yu)) (λ _ => rfl))
  exact zr (zU aZ))
theorem zcy (T : Txt K kd mg t) (hkd : KD1 P w K kd) : FnOk P w K mg base CX0 1 t.ZZ t.Z2 ["algebra"] (spD K kd wM) := by
 refine xW (N := Wz) (ps := ["algebra"]) (k := 0) (c := ZS) T.Ww xu λ cdv A outer s H E hr => ?_
 exact (by
  refine zg ?_ ?_; exact (by refine sv true 1 xu.nd ?_; exact (ax hkd (av 0) aI))
  refine zg ?_ ?_; exact (by refine sv true 2 xu.nd ?_; exact (ax hkd (av 0) aI))
  refine zg ?_ ?_; exact (xg PassesOwn.never rfl (yz rfl T.yt (zc (av 1) zx (za rfl)) rfl) (an 3 xu.nd) (zr (xg PassesOwn.never rfl (yz rfl T.yt (zc (av 1) zx (za rfl)) rfl) (an 4 xu.nd) (zr (xg PassesOwn.never rfl (yz rfl T.yt (zc (av 1) zx (za rfl)) rfl) (an 5 xu.nd) (zr (xM (yj (zV (hkd _ rfl rfl rfl) (yq hr) .NotEq) (zR .NotEq) (ax hkd (ax hkd (av 2) (ax hkd (ax hkd (av 2) (av 3)) (av 4))) (av 5)) (ax hkd (ax hkd (av 2) (av 3)) (ax hkd (ax hkd (av 2) (av 4)) (av 5))) (yc _)) (zr (zU (yQ (by refine zj ?_ ?_ ?_; exact aS; refine zj ?_ ?_ ?_; exact (av 3); refine zj ?_ ?_ ?_; exact (av 4); refine zj ?_ ?_ ?_; exact (av 5); exact zM; exact za rfl; exact za rfl; exact za rfl; exact za rfl)))) yu)) (λ _ => rfl))) (λ _ => rfl))) (λ _ => rfl))
  exact zr (zU aZ))
theorem zdZ (T : Txt K kd mg t) (hkd : KD1 P w K kd) : FnOk P w K mg base CX0 1 t.YQ t.YX ["algebra", "name", "rows"] (spD K kd wO) := by
 refine xW (N := V1) (ps := ["algebra", "name", "rows"]) (k := 0) (c := Y9) T.zaf yW λ cdv A outer s H E hr => ?_
 exact (by
  refine zg ?_ ?_; exact (by refine sv true 3 yW.nd ?_; exact (ax hkd (av 0) aI))
  refine zg ?_ ?_; exact (by refine sv true 4 yW.nd ?_; exact (ax hkd (av 0) aI))
  refine zg ?_ ?_; exact (by refine sv true 5 yW.nd ?_; exact (ax hkd (av 0) aI))
  refine zg ?_ ?_; exact (xg PassesOwn.never rfl (yz rfl T.yt (zc (av 3) zx (za rfl)) rfl) (an 6 yW.nd) (zr (xg PassesOwn.never rfl (yz rfl T.yt (zc (av 4) zx (za rfl)) rfl) (an 7 yW.nd) (zr (xg PassesOwn.never rfl (yz rfl T.yt (zc (av 3) zx (za rfl)) rfl) (an 8 yW.nd) (zr (xg PassesOwn.never rfl (yz rfl T.yt (zc (av 4) zx (za rfl)) rfl) (an 9 yW.nd) (zr (xM (yj (zV (hkd _ rfl rfl rfl) (yq hr) .NotEq) (zR .NotEq) (ax hkd (ax hkd (av 2) (zm (zq .Mod) (zm (zq .Add) (av 7) (av 9)) (av 4))) (ax hkd (ax hkd (av 5) (av 6)) (av 8))) (ax hkd (ax hkd (av 5) (ax hkd (ax hkd (av 2) (av 7)) (av 6))) (ax hkd (ax hkd (av 2) (av 9)) (av 8))) (yc _)) (zr (zU (yQ (by refine zj ?_ ?_ ?_; exact aS; refine zj ?_ ?_ ?_; exact (av 1); refine zj ?_ ?_ ?_; exact (av 6); refine zj ?_ ?_ ?_; exact (av 7); refine zj ?_ ?_ ?_; exact (av 8); refine zj ?_ ?_ ?_; exact (av 9); exact zM; exact za rfl; exact za rfl; exact za rfl; exact za rfl; exact za rfl; exact za rfl)))) yu)) (λ _ => rfl))) (λ _ => rfl))) (λ _ => rfl))) (λ _ => rfl))
  exact zr (zU aZ))
theorem zfj (T : Txt K kd mg t) (hkd : KD1 P w K kd) : FnOk P w K mg base CX0 2 t.XH t.Xz ["algebra"] (spD K kd v8) := by
 refine xW (N := zaM) (ps := ["algebra"]) (k := 1) (c := zbo) T.zbk vK λ cdv A outer s H E hr => ?_
 exact (by
  refine zg ?_ ?_; exact (by refine sv true 1 vK.nd ?_; exact (ax hkd (av 0) aI))
  refine zg ?_ ?_; exact (xg PassesOwn.never rfl (zeT (ax hkd (av 0) aI)) (Wh rfl (yw (an 2 vK.nd) (yw (an 3 vK.nd) Yh rfl) rfl) rfl rfl) (by
  refine zg ?_ ?_; exact (xM (yj (zV (hkd _ rfl rfl rfl) (yq hr) .NotEq) (zR .NotEq) (ax hkd (ax hkd (av 3) aI) (av 1)) (av 1) (yc _)) (zr (zU (yQ (zj aS (zj (av 2) zM (za rfl)) (za rfl))))) yu)
  refine zg ?_ ?_; exact (by refine sv true 4 vK.nd ?_; exact (zN (zdZ T hkd) (hr.mono (by omega)) rfl T.wO T.zaf.kp T.zei yx (by refine zc ?_ ?_ ?_; exact (av 0); refine zc ?_ ?_ ?_; exact (av 2); refine zc ?_ ?_ ?_; exact (av 3); exact zx; exact za rfl; exact za rfl; exact za rfl) (by decide) rfl rfl))
  exact zr (xM (yj (zV (hkd _ rfl rfl rfl) (yq hr) .IsNot) (zR .IsNot) (av 4) aZ (yc _)) (zr (zU (av 4))) yu)) (λ _ => rfl))
  exact zr (zU aZ))
theorem zfz (T : Txt K kd mg t) (hkd : KD1 P w K kd) : FnOk P w K mg base CX0 3 t.Xq t.Wb ["algebra"] (spD K kd Zf) := by
 refine xW (N := zaP) (ps := ["algebra"]) (k := 2) (c := zba) T.zbg Zy λ cdv A outer s H E hr => ?_
 exact (by
  refine zg ?_ ?_; exact (by refine sv true 1 Zy.nd ?_; exact (zN (zcx T hkd) (hr.mono (by omega)) rfl T.wJ T.WM.kp T.zcF yx (zc (av 0) zx (za rfl)) (by decide) rfl rfl))
  refine zg ?_ ?_; exact (xM (yj (zV (hkd _ rfl rfl rfl) (yq hr) .Is) (zR .Is) (av 1) aZ (yc _)) (zr (by refine sv true 1 Zy.nd ?_; exact (zN (zcy T hkd) (hr.mono (by omega)) rfl T.wM T.Ww.kp T.zcE yx (zc (av 0) zx (za rfl)) (by decide) rfl rfl))) yu)
  refine zg ?_ ?_; exact (xM (yj (zV (hkd _ rfl rfl rfl) (yq hr) .Is) (zR .Is) (av 1) aZ (yc _)) (zr (by refine sv true 1 Zy.nd ?_; exact (zN (zfj T hkd) (hr.mono (by omega)) rfl T.v8 T.zbk.kp T.zeS yx (zc (av 0) zx (za rfl)) (by decide) rfl rfl))) yu)
  exact zr (zU (av 1)))
theorem zdg (T : Txt K kd mg t) (hkd : KD1 P w K kd) : FnOk P w K mg base CX0 4 t.Yl t.Yr ["algebra"] (spD K kd xF) := by
 refine xW (N := Vi) (ps := ["algebra"]) (k := 3) (c := Yy) T.W9 WK λ cdv A outer s H E hr => ?_
 exact (by
  refine zg ?_ ?_; exact (by refine sv true 1 WK.nd ?_; exact (zN (zfz T hkd) (hr.mono (by omega)) rfl T.Zf T.zbg.kp T.zfL yx (zc (av 0) zx (za rfl)) (by decide) rfl rfl))
  exact zr (xM (yj (zV (hkd _ rfl rfl rfl) (yq hr) .IsNot) (zR .IsNot) (av 1) aZ (yc _)) (zr zqC) yu))
theorem zfW (T : Txt K kd mg t) (hkd : KD1 P w K kd) : FnOk P w K mg base CX0 1 t.zdb t.zdC ["algebra", "entries", "p", "q"] (spD K kd v9) := by
 refine xW (N := zgz) (ps := ["algebra", "entries", "p", "q"]) (k := 0) (c := zgP) T.zdO zbX λ cdv A outer s H E hr => ?_
 exact (by
  refine zg ?_ ?_; exact (by refine sv true 4 zbX.nd ?_; exact (ax hkd (av 1) (av 2)))
  refine zg ?_ ?_; exact (by refine sv true 5 zbX.nd ?_; exact (ax hkd (av 1) (av 3)))
  exact zr (zU (yQ (by refine zj ?_ ?_ ?_; exact (ax hkd (ax hkd (ax hkd (av 0) aI) (ax hkd (av 4) aI)) (ax hkd (av 5) aI)); refine zj ?_ ?_ ?_; exact (zm (zq .Mod) (zm (zq .Add) (ax hkd (av 4) aI) (ax hkd (av 5) aI)) (ax hkd (av 0) aI)); refine zj ?_ ?_ ?_; exact (yQ (by refine zj ?_ ?_ ?_; exact aS; refine zj ?_ ?_ ?_; exact (av 2); refine zj ?_ ?_ ?_; exact (av 3); exact zM; exact za rfl; exact za rfl; exact za rfl)); exact zM; exact za rfl; exact za rfl; exact za rfl))))
theorem zgu (T : Txt K kd mg t) (hkd : KD1 P w K kd) : FnOk P w K mg base CX0 2 t.Vo t.W4 ["algebra", "entries", "at"] (spD K kd wV) := by
 refine xW (N := Vl) (ps := ["algebra", "entries", "at"]) (k := 1) (c := zcq) T.zbY Zj λ cdv A outer s H E hr => ?_
 exact (by
  refine zg ?_ ?_; exact (by refine sv true 3 Zj.nd ?_; exact (ax hkd (ax hkd (av 1) (av 2)) aI))
  refine zg ?_ ?_; exact (by refine sv true 4 Zj.nd ?_; exact (ax hkd (ax hkd (av 1) (av 2)) aI))
  refine zg ?_ ?_; exact (Wa (z := false) (i := 5) (N := ["name", "rows", "c", "value", "at"]) (cap := [none, none, some 4, some 3, some 2]) (S := [0, 1]) Zj.nd rfl (by exact Or.inl rfl) (by exact Or.inr rfl) rfl rfl (Z7 (ax hkd (av 0) aI)) rfl (by change vB _ Vl _ (zB ZR).names _ = true; decide +kernel) (by decide) (λ cl s H fp => (Wh rfl (yw (an 0 Vv) (yw (an 1 Vv) Yh rfl) rfl) rfl rfl)) (λ cl s H fp => xJ) (λ cl s H fp => (yQ (by refine zj ?_ ?_ ?_; exact (ax hkd (ax hkd (av 1) (av 2)) (av 3)); refine zj ?_ ?_ ?_; exact (av 2); refine zj ?_ ?_ ?_; exact (yQ (by refine zj ?_ ?_ ?_; exact aS; refine zj ?_ ?_ ?_; exact (av 0); refine zj ?_ ?_ ?_; exact (av 4); exact zM; exact za rfl; exact za rfl; exact za rfl)); exact zM; exact za rfl; exact za rfl; exact za rfl))) (λ _ => rfl))
  refine zg ?_ ?_; exact (xg PassesOwn.never rfl (yz rfl T.yt (zc (zm (zq .Add) (av 2) aI) zx (za rfl)) rfl) (an 6 Zj.nd) (zr (Zi (Ys zjg zov PySem.F.slot_list_extend PySem.F.type_list_extend (pv 5) (by refine zj ?_ ?_ ?_; exact (wG (zj (zN (zfW T hkd) (hr.mono (by omega)) rfl T.v9 T.zdO.kp T.zgK yx (by refine zc ?_ ?_ ?_; exact (av 0); refine zc ?_ ?_ ?_; exact (av 1); refine zc ?_ ?_ ?_; exact (av 6); refine zc ?_ ?_ ?_; exact (av 2); exact zx; exact za rfl; exact za rfl; exact za rfl; exact za rfl) (by decide) rfl rfl) (zj (zN (zfW T hkd) (hr.mono (by omega)) rfl T.v9 T.zdO.kp T.zgK yx (by refine zc ?_ ?_ ?_; exact (av 0); refine zc ?_ ?_ ?_; exact (av 1); refine zc ?_ ?_ ?_; exact (av 2); refine zc ?_ ?_ ?_; exact (av 6); exact zx; exact za rfl; exact za rfl; exact za rfl; exact za rfl) (by decide) rfl rfl) zM (za rfl)) (za rfl))); exact zM; exact za rfl) rfl rfl rfl rfl rfl) rfl)) (λ _ => rfl))
  exact zr (zU (av 5)))
theorem zak (T : Txt K kd mg t) (hkd : KD1 P w K kd) : FnOk P w K mg base CX0 1 t.zam t.zaj ["entries", "known", "found"] (spM K kd xj) := by
 refine zpl (N := zdx) (ps := ["entries", "known", "found"]) (k := 0) (c := zan) T.Wk Vd rfl (by decide) λ cdv A outer s H E hr => ?_
 exact (zfb (zpH (by decide) PassesOwn.never rfl (zeT (av 2)) (an 3 Vd.nd) (by
  refine zha ?_ ?_; exact (by refine svP true 4 (by decide) Vd.nd ?_; exact (yQ (zj (ax hkd (av 3) aI) (zj (ax hkd (av 3) aI) zM (za rfl)) (za rfl))))
  exact zfb (zqo (yj (zV (hkd _ rfl rfl rfl) (yq hr) .NotIn) (zR .NotIn) (av 4) (av 1) rfl) (by
  refine zha ?_ ?_; exact (zny (znX hr) (pv 1) (av 4) aB rfl)
  exact zfb (zmP (Ys vp XC PySem.F.slot_list_append PySem.F.type_list_append (pv 0) (zj (av 3) zM (za rfl)) rfl rfl rfl rfl rfl) rfl)) zmJ)) (λ _ => rfl)))
theorem zgt (T : Txt K kd mg t) (hkd : KD1 P w K kd) : FnOk P w K mg base CX0 5 t.zdd t.zdI ["algebra", "row"] (spD K kd v6) := by
 refine xW (N := zdu) (ps := ["algebra", "row"]) (k := 4) (c := zfU) T.zdj Xn λ cdv A outer s H E hr => ?_
 exact (by
  refine zg ?_ ?_; exact (Zi (zN (zdg T hkd) (hr.mono (by omega)) rfl T.xF T.W9.kp T.zdc yx (zc (av 0) zx (za rfl)) (by decide) rfl rfl) rfl)
  refine zg ?_ ?_; exact (by refine sv false 2 Xn.nd ?_; exact (wG zM))
  refine zg ?_ ?_; exact (by refine sv false 3 Xn.nd ?_; exact zkT)
  refine zg ?_ ?_; exact (zdQ (zak T hkd) (hr.mono (by omega)) rfl T.xj T.Wk.kp T.zar yx (by decide) (pv 2) (pv 3) (wG (by refine zj ?_ ?_ ?_; exact (yQ (by refine zj ?_ ?_ ?_; exact (ax hkd (av 0) aI); refine zj ?_ ?_ ?_; exact aI; refine zj ?_ ?_ ?_; exact (yQ (zj aS zM (za rfl))); exact zM; exact za rfl; exact za rfl; exact za rfl)); exact zM; exact za rfl)) (by decide) (za rfl) (za rfl) (za rfl) rfl rfl)
  refine zg ?_ ?_; exact (zdQ (zak T hkd) (hr.mono (by omega)) rfl T.xj T.Wk.kp T.zar yx (by decide) (pv 2) (pv 3) (vh (N := ["value", "algebra"]) (cap := [none, some 0]) (S := [0]) rfl (Z7 (av 1)) rfl (by change vB _ zdu _ (zB Ve).names _ = true; decide +kernel) (by decide) (λ cl s H fp => (an 0 zgn)) (λ cl s H fp => xJ) (λ cl s H fp => (yQ (by refine zj ?_ ?_ ?_; exact (av 0); refine zj ?_ ?_ ?_; exact (zm (zq .Mod) aI (ax hkd (av 1) aI)); refine zj ?_ ?_ ?_; exact (yQ (zj aS (zj (av 0) zM (za rfl)) (za rfl))); exact zM; exact za rfl; exact za rfl; exact za rfl))) (λ _ => rfl)) (by decide) (za rfl) (za rfl) (za rfl) rfl rfl)
  refine zg ?_ ?_; exact (by refine sv true 4 Xn.nd ?_; exact aI)
  refine zg ?_ ?_; exact (zgd (n := 10000) PassesOwn.never (yj (zV (hkd _ rfl rfl rfl) (yq hr) .Lt) (zR .Lt) (av 4) (Zr (wA (hkd _ rfl rfl rfl)) rfl T.WX Bt.len (zc (av 2) zx (za rfl)) (Bt.n _ rfl) (by decide) rfl rfl) (yc _)) (by
  refine zg ?_ ?_; exact (zdQ (zak T hkd) (hr.mono (by omega)) rfl T.xj T.Wk.kp T.zar yx (by decide) (pv 2) (pv 3) (zN (zgu T hkd) (hr.mono (by omega)) rfl T.wV T.zbY.kp T.zgH yx (by refine zc ?_ ?_ ?_; exact (av 0); refine zc ?_ ?_ ?_; exact (av 2); refine zc ?_ ?_ ?_; exact (av 4); exact zx; exact za rfl; exact za rfl; exact za rfl) (by decide) rfl rfl) (by decide) (za rfl) (za rfl) (za rfl) rfl rfl)
  exact zr (zpO (i := 4) Xn.nd rfl (.inl rfl) (by first | exact Or.inl rfl | exact Or.inr rfl))))
  exact zr (zU (av 2)))
theorem vL (T : Txt K kd mg t) (hkd : KD1 P w K kd) : FnOk P w K mg base CX0 1 t.Xc t.YW ["_law_script", "_law_k"] (spD K kd zW) := by
 refine xW (N := zab) (ps := ["_law_script", "_law_k"]) (k := 0) (c := V0) T.wQ zcR λ cdv A outer s H E hr => ?_
 exact (by
  refine zg ?_ ?_; exact (xM (yj (zV (hkd _ rfl rfl rfl) (yq hr) .Lt) (zR .Lt) (av 1) (Zr (wA (hkd _ rfl rfl rfl)) rfl T.WX Bt.len (zc (av 0) zx (za rfl)) (Bt.n _ rfl) (by decide) rfl rfl) (yc _)) (zr (zU (ax hkd (av 0) (av 1)))) yu)
  exact zr (zU aI))
theorem Vs (T : Txt K kd mg t) (hkd : KD1 P w K kd) : FnOk P w K mg base CX0 1 t.Vm t.Vx ["_law_cell", "_law_k"] (spD K kd yJ) := by
 refine xW (N := zcp) (ps := ["_law_cell", "_law_k"]) (k := 0) (c := zcn) T.YH zbj λ cdv A outer s H E hr => ?_
 exact (by
  refine zg ?_ ?_; exact (by refine sv true 2 zbj.nd ?_; exact (zm (zq .Mod) (zm (zq .Add) (zm (zq .Add) (zm (zq .Mult) (zm (zq .Mod) (av 0) aI) aI) (zm (zq .Mult) (zm (zq .Mult) (av 1) (av 1)) aI)) aI) aI))
  exact zr (zU (zm (zq .Mod) (zm (zq .Add) (zm (zq .Add) (zm (zq .Mult) (av 2) (av 2)) (zm (zq .Mult) aI (av 2))) (av 1)) aI)))
theorem ZM (T : Txt K kd mg t) (hkd : KD1 P w K kd) : FnOk P w K mg base CX0 1 t.Vy t.Vr ["_law_found"] (spD K kd ye) := by
 refine xW (N := zcs) (ps := ["_law_found"]) (k := 0) (c := zcm) T.vW zeW λ cdv A outer s H E hr => ?_
 exact (zr (zU (zoB (zdK (hkd _ rfl rfl rfl) rfl rfl T.Ze Bt.isinstance rfl T.zeE Bt.int (av 0) (Bt.n _ rfl) (by decide) (Bt.n _ rfl) (by decide) rfl rfl rfl) (zoM (zog (zdK (hkd _ rfl rfl rfl) rfl rfl T.Ze Bt.isinstance rfl T.zoV Bt.bool (av 0) (Bt.n _ rfl) (by decide) (Bt.n _ rfl) (by decide) rfl rfl rfl))))))
theorem zgF (T : Txt K kd mg t) (hkd : KD1 P w K kd) : FnOk P w K mg base CX0 2 t.Vn t.Vt ["_law_cell", "_law_many"] (spD K kd vY) := by
 refine xW (N := WR) (ps := ["_law_cell", "_law_many"]) (k := 1) (c := zcl) T.zcr wD λ cdv A outer s H E hr => ?_
 exact (by
  refine zg ?_ ?_; exact (by refine sv true 2 wD.nd ?_; exact aS)
  refine zg ?_ ?_; exact (by refine sv true 3 wD.nd ?_; exact (zm (zq .Add) aI (zm (zq .Mod) (av 0) aI)))
  refine zg ?_ ?_; exact (by refine sv true 4 wD.nd ?_; exact (zm (zq .Mod) (zm (zq .FloorDiv) (av 0) aI) (av 3)))
  refine zg ?_ ?_; exact (by refine sv false 5 wD.nd ?_; exact (wG zM))
  refine zg ?_ ?_; exact (xg PassesOwn.never rfl (yz rfl T.yt (zc (av 1) zx (za rfl)) rfl) (an 6 wD.nd) (by
  refine zg ?_ ?_; exact (Wa (z := true) (i := 7) (N := ["_law_j", "_law_letters", "_law_k", "_law_cell", "_law_at"]) (cap := [none, some 2, some 6, some 0, some 4]) (S := [0]) wD.nd rfl (by exact Or.inl rfl) (by exact Or.inr rfl) rfl rfl (Zo rfl T.yt (zc (av 3) zx (za rfl)) rfl) rfl (by change vB _ WR _ (zB ZL).names _ = true; decide +kernel) (by decide) (λ cl s H fp => (an 0 zdt)) (λ cl s H fp => xJ) (λ cl s H fp => (ax hkd (av 1) (zm (zq .Mod) (zm (zq .Add) (zm (zq .FloorDiv) (zN (Vs T hkd) (hr.mono (by omega)) rfl T.yJ T.YH.kp T.Vu yx (zc (av 3) (zc (av 0) zx (za rfl)) (za rfl)) (by decide) rfl rfl) aI) (zm (zq .Mult) (av 2) (Y0 Yn rfl T.zeE Bt.int (zc (zbU (zV (hkd _ rfl rfl rfl) (yq hr) .Eq) (av 0) (av 4) (yc _)) zx (za rfl)) (Bt.n _ rfl) (by decide) rfl rfl))) aI))) (λ _ => rfl))
  exact zr (Zi (Ys vp XC PySem.F.slot_list_append PySem.F.type_list_append (pv 5) (zj (znu (ty := .str) (hkd _ rfl rfl rfl) znp PySem.F.plainAttrs_str PySem.F.slot_str_join PySem.F.type_str_join aS (zc (av 7) zx (za rfl)) rfl rfl rfl rfl rfl) zM (za rfl)) rfl rfl rfl rfl rfl) rfl)) (λ _ => rfl))
  exact zr (zU (av 5)))
theorem zfQ (T : Txt K kd mg t) (hkd : KD1 P w K kd) : FnOk P w K mg base CX0 1 t.We t.Wm ["_law_n", "_law_m"] (spD K kd vA) := by
 refine xW (N := zbd) (ps := ["_law_n", "_law_m"]) (k := 0) (c := zbh) T.zaT zad λ cdv A outer s H E hr => ?_
 exact (by
  refine zg ?_ ?_; exact (zgd (n := 10000) PassesOwn.never (yj (zV (hkd _ rfl rfl rfl) (yq hr) .Gt) (zR .Gt) (av 1) aI (yc _)) (zr (zpw (i := 0) (j := 1) rfl zad.nd rfl rfl (by decide) rfl rfl (zj (av 1) (zj (zm (zq .Mod) (av 0) (av 1)) zM (za rfl)) (za rfl)) rfl rfl)))
  exact zr (zU (av 0)))
theorem WL (T : Txt K kd mg t) (hkd : KD1 P w K kd) : FnOk P w K mg base CX0 1 t.ZX t.Z3 ["_law_kind", "_law_n", "_law_a", "_law_b"] (spD K kd zO) := by
 refine xW (N := WF) (ps := ["_law_kind", "_law_n", "_law_a", "_law_b"]) (k := 0) (c := Wv) T.ZW Xl λ cdv A outer s H E hr => ?_
 exact (by
  refine zg ?_ ?_; exact (xM (yj (zV (hkd _ rfl rfl rfl) (yq hr) .Eq) (zR .Eq) (av 0) aI (yc _)) (zr (zU (zm (zq .Mod) (zm (zq .Add) (av 2) (av 3)) (av 1)))) yu)
  refine zg ?_ ?_; exact (xM (yj (zV (hkd _ rfl rfl rfl) (yq hr) .Eq) (zR .Eq) (av 0) aI (yc _)) (zr (zU (Zr (zjz rfl) rfl T.zqB Bt.max (zc (av 2) (zc (av 3) zx (za rfl)) (za rfl)) (Bt.n _ rfl) (by decide) rfl rfl))) yu)
  refine zg ?_ ?_; exact (xM (yj (zV (hkd _ rfl rfl rfl) (yq hr) .Eq) (zR .Eq) (av 0) aI (yc _)) (zr (zU (ax hkd (wG (zj (av 3) (zj (av 2) zM (za rfl)) (za rfl))) (Y0 Yn rfl T.zeE Bt.int (zc (zbU (zV (hkd _ rfl rfl rfl) (yq hr) .Eq) (av 3) aI (yc _)) zx (za rfl)) (Bt.n _ rfl) (by decide) rfl rfl)))) yu)
  refine zg ?_ ?_; exact (by refine sv true 4 Xl.nd ?_; exact (wG (zj (zm (zq .FloorDiv) (av 3) aI) (zj (zm (zq .Mod) (av 3) aI) zM (za rfl)) (za rfl))))
  exact zr (zU (zm (zq .Add) (zm (zq .Mult) aI (ax hkd (av 4) (zm (zq .FloorDiv) (av 2) aI))) (ax hkd (av 4) (zm (zq .Mod) (av 2) aI)))))
theorem zeP (T : Txt K kd mg t) (hkd : KD1 P w K kd) : FnOk P w K mg base CX0 1 t.Wr t.Wg ["_law_kind", "_law_n", "_law_x"] (spD K kd Zk) := by
 refine xW (N := Wd) (ps := ["_law_kind", "_law_n", "_law_x"]) (k := 0) (c := zaI) T.zbe vI λ cdv A outer s H E hr => ?_
 exact (by
  refine zg ?_ ?_; exact (xM (yj (zV (hkd _ rfl rfl rfl) (yq hr) .Eq) (zR .Eq) (av 0) aI (yc _)) (zr (zU (vh (N := ["_law_a", "_law_x"]) (cap := [none, some 2]) (S := [0]) rfl (Zo rfl T.yt (zc (av 1) zx (za rfl)) rfl) rfl (by change vB _ Wd _ (zB Zd).names _ = true; decide +kernel) (by decide) (λ cl s H fp => (an 0 zcA)) (λ cl s H fp => xJ) (λ cl s H fp => (ax hkd (wG (zj (av 0) (zj (zm (zq .Sub) (zm (zq .Add) (zm (zq .Mult) aI (zm (zq .Sub) aI (zm (zq .Mod) (av 0) aI))) aI) (zm (zq .FloorDiv) (av 0) aI)) zM (za rfl)) (za rfl))) (zm (zq .Mod) (av 1) aI))) (λ _ => rfl)))) yu)
  refine zg ?_ ?_; exact (by refine sv false 3 vI.nd ?_; exact (wG zM))
  refine zg ?_ ?_; exact (xg PassesOwn.never rfl (zjP rfl T.yt (zc aI (zc (av 1) zx (za rfl)) (za rfl)) rfl rfl) (an 4 vI.nd) (by
  refine zg ?_ ?_; exact (by refine sv true 2 vI.nd ?_; exact (zm (zq .FloorDiv) (av 2) (av 1)))
  exact zr (Zi (Ys vp XC PySem.F.slot_list_append PySem.F.type_list_append (pv 3) (zj (ax hkd (wG (zj (zm (zq .Mod) (av 2) (av 1)) (zj (zm (zq .Add) aI (zm (zq .Mod) (av 2) (zm (zq .Sub) (av 1) aI))) zM (za rfl)) (za rfl))) (zm (zq .Sub) (av 0) aI)) zM (za rfl)) rfl rfl rfl rfl rfl) rfl)) (λ _ => rfl))
  refine zg ?_ ?_; exact (xM (yj (zV (hkd _ rfl rfl rfl) (yq hr) .Eq) (zR .Eq) (av 0) aI (yc _)) (zr (by refine sv false 3 vI.nd ?_; exact (Zr zhK rfl T.zlj Bt.sorted (zc (av 3) zx (za rfl)) (Bt.n _ rfl) (by decide) rfl rfl))) yu)
  exact zr (zU (zm (zq .Add) (wG (zj aI zM (za rfl))) (av 3))))
theorem V6 (T : Txt K kd mg t) (hkd : KD1 P w K kd) : FnOk P w K mg base CX0 2 t.Xf t.Y4 ["_law_kind", "_law_n", "_law_m", "_law_x"] (spD K kd yU) := by
 refine xW (N := ZJ) (ps := ["_law_kind", "_law_n", "_law_m", "_law_x"]) (k := 1) (c := V2) T.Xi Yq λ cdv A outer s H E hr => ?_
 exact (by
  refine zg ?_ ?_; exact (xM (yj (zV (hkd _ rfl rfl rfl) (yq hr) .Gt) (zR .Gt) (av 0) aI (yc _)) (by
  refine zg ?_ ?_; exact (by refine sv true 4 Yq.nd ?_; exact (zN (zeP T hkd) (hr.mono (by omega)) rfl T.Zk T.zbe.kp T.zfF yx (by refine zc ?_ ?_ ?_; exact (av 0); refine zc ?_ ?_ ?_; exact (av 1); refine zc ?_ ?_ ?_; exact (av 3); exact zx; exact za rfl; exact za rfl; exact za rfl) (by decide) rfl rfl))
  exact zr (zU (vh (N := ["_law_c", "_law_images_here"]) (cap := [none, some 4]) (S := [0]) rfl (Zo rfl T.yt (zc (av 2) zx (za rfl)) rfl) rfl (by change vB _ ZJ _ (zB wN).names _ = true; decide +kernel) (by decide) (λ cl s H fp => (an 0 zbr)) (λ cl s H fp => xJ) (λ cl s H fp => (Y0 Xj rfl T.zaw Bt.list (zc (av 1) zx (za rfl)) (Bt.n _ rfl) (by decide) rfl rfl)) (λ _ => rfl)))) yu)
  refine zg ?_ ?_; exact (by refine sv true 5 Yq.nd ?_; exact (zm (zq .Mult) (zm (zq .FloorDiv) (av 1) (zN (zfQ T hkd) (hr.mono (by omega)) rfl T.vA T.zaT.kp T.zfr yx (zc (av 1) (zc (av 2) zx (za rfl)) (za rfl)) (by decide) rfl rfl)) (zm (zq .Mod) (zm (zq .FloorDiv) (av 3) aI) aI)))
  exact zr (zU (vh (N := ["_law_c", "_law_n", "_law_step", "_law_x"]) (cap := [none, some 1, some 5, some 3]) (S := [0]) rfl (Zo rfl T.yt (zc (av 2) zx (za rfl)) rfl) rfl (by change vB _ ZJ _ (zB wN).names _ = true; decide +kernel) (by decide) (λ cl s H fp => (an 0 zbx)) (λ cl s H fp => xJ) (λ cl s H fp => (vh (N := ["_law_a", "_law_n", "_law_step", "_law_c", "_law_x"]) (cap := [none, some 1, some 2, some 0, some 3]) (S := [0]) rfl (Zo rfl T.yt (zc (av 1) zx (za rfl)) rfl) rfl (by with_unfolding_all rfl) (by decide) (λ cl s H fp => (an 0 zbV)) (λ cl s H fp => xJ) (λ cl s H fp => (zm (zq .Mod) (zm (zq .Add) (zm (zq .Mult) (zm (zq .Mod) (av 4) aI) (av 0)) (zm (zq .Mult) (av 2) (av 3))) (av 1))) (λ _ => rfl))) (λ _ => rfl))))
theorem zgU (T : Txt K kd mg t) (hkd : KD1 P w K kd) : FnOk P w K mg base CX0 1 t.Vk t.Vf ["_law_x"] (spD K kd vX) := by
 refine xW (N := zcg) (ps := ["_law_x"]) (k := 0) (c := zca) T.zcv vo λ cdv A outer s H E hr => ?_
 exact (by
  refine zg ?_ ?_; exact (by refine sv true 1 vo.nd ?_; exact (zm (zq .Mod) (av 0) aI))
  refine zg ?_ ?_; exact (by refine sv true 2 vo.nd ?_; exact (ax hkd (wG (zj (zm (zq .Add) aI (zm (zq .Mod) (zm (zq .FloorDiv) (av 0) aI) aI)) (zj (zm (zq .Add) aI (zm (zq .Mod) (zm (zq .FloorDiv) (av 0) aI) aI)) zM (za rfl)) (za rfl))) (Y0 Yn rfl T.zeE Bt.int (zc (zbU (zV (hkd _ rfl rfl rfl) (yq hr) .Eq) (zm (zq .Mod) (zm (zq .FloorDiv) (av 0) aI) aI) aI (yc _)) zx (za rfl)) (Bt.n _ rfl) (by decide) rfl rfl)))
  refine zg ?_ ?_; exact (xM (yj (zV (hkd _ rfl rfl rfl) (yq hr) .Eq) (zR .Eq) (av 1) aI (yc _)) (zr (by refine sv true 2 vo.nd ?_; exact aI)) yu)
  refine zg ?_ ?_; exact (by refine sv true 3 vo.nd ?_; exact (zm (zq .Add) aI (zm (zq .Mod) (zm (zq .FloorDiv) (av 0) aI) aI)))
  refine zg ?_ ?_; exact (xM (yj (zV (hkd _ rfl rfl rfl) (yq hr) .Gt) (zR .Gt) (zm (zq .Mult) (av 2) (av 3)) aI (yc _)) (zr (by refine sv true 3 vo.nd ?_; exact aI)) yu)
  exact zr (zU (yQ (by refine zj ?_ ?_ ?_; exact (av 1); refine zj ?_ ?_ ?_; exact (av 2); refine zj ?_ ?_ ?_; exact (zm (zq .Mod) (zm (zq .FloorDiv) (av 0) aI) aI); refine zj ?_ ?_ ?_; exact (av 3); exact zM; exact za rfl; exact za rfl; exact za rfl; exact za rfl))))
theorem zaB (T : Txt K kd mg t) (hkd : KD1 P w K kd) : FnOk P w K mg base CX0 2 t.Xx t.X7 ["_law_cell", "_law_many"] (spD K kd yR) := by
 refine xW (N := zaU) (ps := ["_law_cell", "_law_many"]) (k := 1) (c := zaO) T.XM vN λ cdv A outer s H E hr => ?_
 exact (by
  refine zg ?_ ?_; exact (by refine sv false 2 vN.nd ?_; exact (wG zM))
  refine zg ?_ ?_; exact (by refine sv true 3 vN.nd ?_; exact (zm (zq .FloorDiv) (av 0) aI))
  refine zg ?_ ?_; exact (xg PassesOwn.never rfl (yz rfl T.yt (zc (av 1) zx (za rfl)) rfl) (an 4 vN.nd) (zr (xM (yj (zV (hkd _ rfl rfl rfl) (yq hr) .Eq) (zR .Eq) (zm (zq .Mod) (av 0) aI) aI (yc _)) (by
  refine zg ?_ ?_; exact (Zi (Ys vp XC PySem.F.slot_list_append PySem.F.type_list_append (pv 2) (zj (zm (zq .Mod) (av 3) aI) zM (za rfl)) rfl rfl rfl rfl rfl) rfl)
  exact zr (by refine sv true 3 vN.nd ?_; exact (zm (zq .FloorDiv) (av 3) aI))) (zr (Zi (Ys vp XC PySem.F.slot_list_append PySem.F.type_list_append (pv 2) (zj (zN (Vs T hkd) (hr.mono (by omega)) rfl T.yJ T.YH.kp T.Vu yx (zc (av 3) (zc (av 4) zx (za rfl)) (za rfl)) (by decide) rfl rfl) zM (za rfl)) rfl rfl rfl rfl rfl) rfl)))) (λ _ => rfl))
  exact zr (zU (av 2)))
theorem zdY (T : Txt K kd mg t) (hkd : KD1 P w K kd) : FnOk P w K mg base CX0 3 t.Xd t.Xg ["_law_cell", "_law_head", "_law_many"] (spD K kd vD) := by
 refine xW (N := vH) (ps := ["_law_cell", "_law_head", "_law_many"]) (k := 2) (c := Xe) T.V8 zu λ cdv A outer s H E hr => ?_
 exact (by
  refine zg ?_ ?_; exact (by refine sv true 3 zu.nd ?_; exact (zN (zaB T hkd) (hr.mono (by omega)) rfl T.yR T.XM.kp T.zaE yx (zc (av 0) (zc (zm (zq .Add) aI (zm (zq .Mult) aI (av 2))) zx (za rfl)) (za rfl)) (by decide) rfl rfl))
  refine zg ?_ ?_; exact (by refine sv true 4 zu.nd ?_; exact (zN (zaB T hkd) (hr.mono (by omega)) rfl T.yR T.XM.kp T.zaE yx (zc (av 1) (zc aI zx (za rfl)) (za rfl)) (by decide) rfl rfl))
  refine zg ?_ ?_; exact (zhd (zN (zgU T hkd) (hr.mono (by omega)) rfl T.vX T.zcv.kp T.zgl yx (zc (ax hkd (av 3) aI) zx (za rfl)) (by decide) rfl rfl) (Wh rfl (yw (an 5 zu.nd) (yw (an 6 zu.nd) (yw (an 7 zu.nd) (yw (an 8 zu.nd) Yh rfl) rfl) rfl) rfl) rfl rfl) rfl rfl rfl)
  refine zg ?_ ?_; exact (by refine sv true 9 zu.nd ?_; exact (zm (zq .Add) (zm (zq .Add) aI (zm (zq .Mod) (ax hkd (av 4) aI) aI)) (zm (zq .Mult) aI (Y0 Yn rfl T.zeE Bt.int (zc (zbU (zV (hkd _ rfl rfl rfl) (yq hr) .Eq) (zm (zq .Mod) (zm (zq .FloorDiv) (ax hkd (av 4) aI) aI) aI) aI (yc _)) zx (za rfl)) (Bt.n _ rfl) (by decide) rfl rfl))))
  refine zg ?_ ?_; exact (by refine sv true 10 zu.nd ?_; exact (zm (zq .Mult) (av 6) (av 8)))
  refine zg ?_ ?_; exact (by refine sv false 11 zu.nd ?_; exact (zjt rfl rfl T.yt rfl T.zaw (zc (av 10) zx (za rfl)) rfl rfl))
  refine zg ?_ ?_; exact (by refine sv false 12 zu.nd ?_; exact (wG zM))
  refine zg ?_ ?_; exact (xg PassesOwn.never rfl (yz rfl T.yt (zc (av 10) zx (za rfl)) rfl) (an 13 zu.nd) (zr (Zi (Ys vp XC PySem.F.slot_list_append PySem.F.type_list_append (pv 12) (zj (Ys zkw zko PySem.F.slot_list_pop PySem.F.type_list_pop (pv 11) (zj (zm (zq .Mod) (ax hkd (av 4) (zm (zq .Add) aI (av 13))) (Zr (wA (hkd _ rfl rfl rfl)) rfl T.WX Bt.len (zc (av 11) zx (za rfl)) (Bt.n _ rfl) (by decide) rfl rfl)) zM (za rfl)) rfl rfl rfl rfl rfl) zM (za rfl)) rfl rfl rfl rfl rfl) rfl)) (λ _ => rfl))
  refine zlZ ?_
  refine zg ?_ ?_; exact (Wa (z := false) (i := 14) (N := ["_law_a", "_law_order"]) (cap := [none, some 12]) (S := [0]) zu.nd rfl (by exact Or.inl rfl) (by exact Or.inr rfl) rfl rfl (Z7 (av 12)) rfl (by change vB _ vH _ (zB wg).names _ = true; decide +kernel) (by decide) (λ cl s H fp => (an 0 zbL)) (λ cl s H fp => xJ) (λ cl s H fp => (vh (N := ["_law_b"]) (cap := [none]) (S := [0]) rfl (Z7 (av 1)) rfl (by with_unfolding_all rfl) (by decide) (λ cl s H fp => (an 0 zbQ)) (λ cl s H fp => xJ) (λ cl s H fp => aI) (λ _ => rfl))) (λ _ => rfl))
  refine zg ?_ ?_; exact (xg PassesOwn.never rfl (yz rfl T.yt (zc (av 10) zx (za rfl)) rfl) (an 15 zu.nd) (zr (xg PassesOwn.never rfl (yz rfl T.yt (zc (av 10) zx (za rfl)) rfl) (an 16 zu.nd) (by
  refine zg ?_ ?_; exact (by refine sv true 17 zu.nd ?_; exact (zm (zq .Mult) (zN (WL T hkd) (hr.mono (by omega)) rfl T.zO T.ZW.kp T.Wt yx (by refine zc ?_ ?_ ?_; exact (av 5); refine zc ?_ ?_ ?_; exact (av 6); refine zc ?_ ?_ ?_; exact (zm (zq .FloorDiv) (av 15) (av 8)); refine zc ?_ ?_ ?_; exact (zm (zq .FloorDiv) (av 16) (av 8)); exact zx; exact za rfl; exact za rfl; exact za rfl; exact za rfl) (by decide) rfl rfl) (av 8)))
  refine zg ?_ ?_; exact (by refine sv true 17 zu.nd ?_; exact (zm (zq .Add) (av 17) (zN (WL T hkd) (hr.mono (by omega)) rfl T.zO T.ZW.kp T.Wt yx (by refine zc ?_ ?_ ?_; exact (av 7); refine zc ?_ ?_ ?_; exact (av 8); refine zc ?_ ?_ ?_; exact (zm (zq .Mod) (av 15) (av 8)); refine zc ?_ ?_ ?_; exact (zm (zq .Mod) (av 16) (av 8)); exact zx; exact za rfl; exact za rfl; exact za rfl; exact za rfl) (by decide) rfl rfl)))
  exact zr (zii (pv 14) (zgZ (pv 12) (zbp (pv 15)) (λ _ _ => rfl)) (λ _ _ => rfl) (zgZ (pv 12) (zbp (pv 16)) (λ _ _ => rfl)) (zgZ (pv 12) (zbp (pv 17)) (λ _ _ => rfl)) (λ _ => rfl) rfl rfl rfl)) (λ _ => rfl))) (λ _ => rfl))
  refine zg ?_ ?_; exact (by refine sv true 18 zu.nd ?_; exact (zN (zgF T hkd) (hr.mono (by omega)) rfl T.vY T.zcr.kp T.zgv yx (zc (zm (zq .FloorDiv) (av 1) aI) (zc aI zx (za rfl)) (za rfl)) (by decide) rfl rfl))
  refine zg ?_ ?_; exact (by refine sv false 19 zu.nd ?_; exact (wG zM))
  refine zg ?_ ?_; exact (xg PassesOwn.never rfl (yz rfl T.yt (zc (av 2) zx (za rfl)) rfl) (an 13 zu.nd) (by
  refine zg ?_ ?_; exact (by refine sv true 20 zu.nd ?_; exact (zN (V6 T hkd) (hr.mono (by omega)) rfl T.yU T.Xi.kp T.zac yx (by refine zc ?_ ?_ ?_; exact (av 5); refine zc ?_ ?_ ?_; exact (av 6); refine zc ?_ ?_ ?_; exact (av 9); refine zc ?_ ?_ ?_; exact (ax hkd (av 3) (zm (zq .Add) aI (zm (zq .Mult) aI (av 13)))); exact zx; exact za rfl; exact za rfl; exact za rfl; exact za rfl) (by decide) rfl rfl))
  refine zg ?_ ?_; exact (by refine sv true 21 zu.nd ?_; exact (zN (V6 T hkd) (hr.mono (by omega)) rfl T.yU T.Xi.kp T.zac yx (by refine zc ?_ ?_ ?_; exact (av 7); refine zc ?_ ?_ ?_; exact (av 8); refine zc ?_ ?_ ?_; exact (av 9); refine zc ?_ ?_ ?_; exact (ax hkd (av 3) (zm (zq .Add) aI (zm (zq .Mult) aI (av 13)))); exact zx; exact za rfl; exact za rfl; exact za rfl; exact za rfl) (by decide) rfl rfl))
  refine zg ?_ ?_; exact (Wa (z := false) (i := 22) (N := ["_law_c", "_law_order"]) (cap := [none, some 12]) (S := [0]) zu.nd rfl (by exact Or.inl rfl) (by exact Or.inr rfl) rfl rfl (Zo rfl T.yt (zc (av 9) zx (za rfl)) rfl) rfl (by change vB _ vH _ (zB wg).names _ = true; decide +kernel) (by decide) (λ cl s H fp => (an 0 zbW)) (λ cl s H fp => xJ) (λ cl s H fp => (vh (N := ["_law_a"]) (cap := [none]) (S := [0]) rfl (Z7 (av 1)) rfl (by with_unfolding_all rfl) (by decide) (λ cl s H fp => (an 0 zbN)) (λ cl s H fp => xJ) (λ cl s H fp => aI) (λ _ => rfl))) (λ _ => rfl))
  refine zg ?_ ?_; exact (xg PassesOwn.never rfl (yz rfl T.yt (zc (av 9) zx (za rfl)) rfl) (an 23 zu.nd) (zr (xg PassesOwn.never rfl (yz rfl T.yt (zc (av 10) zx (za rfl)) rfl) (an 15 zu.nd) (by
  refine zg ?_ ?_; exact (by refine sv true 17 zu.nd ?_; exact (ax hkd (ax hkd (av 20) (av 23)) (zm (zq .FloorDiv) (av 15) (av 8))))
  refine zg ?_ ?_; exact (by refine sv true 17 zu.nd ?_; exact (zm (zq .Add) (zm (zq .Mult) (av 17) (av 8)) (ax hkd (ax hkd (av 21) (av 23)) (zm (zq .Mod) (av 15) (av 8)))))
  exact zr (zii (pv 22) (zbp (pv 23)) (λ _ _ => rfl) (zgZ (pv 12) (zbp (pv 15)) (λ _ _ => rfl)) (zgZ (pv 12) (zbp (pv 17)) (λ _ _ => rfl)) (λ _ => rfl) rfl rfl rfl)) (λ _ => rfl))) (λ _ => rfl))
  exact zr (Zi (Ys vp XC PySem.F.slot_list_append PySem.F.type_list_append (pv 19) (by refine zj ?_ ?_ ?_; exact (yQ (zj (ax hkd (av 18) (av 13)) (zj (av 22) zM (za rfl)) (za rfl))); exact zM; exact za rfl) rfl rfl rfl rfl rfl) rfl)) (λ _ => rfl))
  refine zg ?_ ?_; exact (by refine sv false 24 zu.nd ?_; exact (wG zM))
  refine zg ?_ ?_; exact (xg PassesOwn.never rfl (yz rfl T.yt (zc aI zx (za rfl)) rfl) (an 13 zu.nd) (by
  refine zg ?_ ?_; exact (by refine sv true 25 zu.nd ?_; exact (ax hkd (av 4) (zm (zq .Add) aI (av 13))))
  refine zg ?_ ?_; exact (Wa (z := true) (i := 26) (N := ["_law_a", "_law_bits"]) (cap := [none, some 25]) (S := [0]) zu.nd rfl (by exact Or.inl rfl) (by exact Or.inr rfl) rfl rfl (Zo rfl T.yt (zc (av 10) zx (za rfl)) rfl) rfl (by change vB _ vH _ (zB wg).names _ = true; decide +kernel) (by decide) (λ cl s H fp => (an 0 zbu)) (λ cl s H fp => (ziA (yj (zV (hkd _ rfl rfl rfl) (yq hr) .Eq) (zR .Eq) (zm (zq .Mod) (zm (zq .FloorDiv) (av 1) (zm zme aI (av 0))) aI) aI (yc _)))) (λ cl s H fp => (av 0)) (λ _ => rfl))
  exact zr (Zi (Ys vp XC PySem.F.slot_list_append PySem.F.type_list_append (pv 24) (by refine zj ?_ ?_ ?_; exact (yQ (zj (ax hkd (av 18) (zm (zq .Add) (av 13) (zm (zq .Mult) aI (zm (zq .Mod) (zm (zq .FloorDiv) (av 25) aI) aI)))) (zj (av 26) zM (za rfl)) (za rfl))); exact zM; exact za rfl) rfl rfl rfl rfl rfl) rfl)) (λ _ => rfl))
  refine zg ?_ ?_; exact (by refine sv true 27 zu.nd ?_; exact (ax hkd (av 12) (ax hkd (wG (zj aI (zj (av 8) zM (za rfl)) (za rfl))) (Y0 Yn rfl T.zeE Bt.int (zc (zbU (zV (hkd _ rfl rfl rfl) (yq hr) .Eq) (av 5) aI (yc _)) zx (za rfl)) (Bt.n _ rfl) (by decide) rfl rfl))))
  exact zr (zU (yQ (by refine zj ?_ ?_ ?_; exact (av 10); refine zj ?_ ?_ ?_; exact (av 9); refine zj ?_ ?_ ?_; exact (av 14); refine zj ?_ ?_ ?_; exact (av 27); refine zj ?_ ?_ ?_; exact (av 19); refine zj ?_ ?_ ?_; exact (Yo (av 24) Wq (X3 (zm (zq .Mod) (ax hkd (av 4) aI) aI))); exact zM; exact za rfl; exact za rfl; exact za rfl; exact za rfl; exact za rfl; exact za rfl))))
theorem zhT (T : Txt K kd mg t) (hkd : KD1 P w K kd) : FnOk P w K mg base CX0 1 t.zao t.zaq ["_law_algebra_here"] (spD K kd Yx) := by
 refine xW (N := Ym) (ps := ["_law_algebra_here"]) (k := 0) (c := zdp) T.zdk xQ λ cdv A outer s H E hr => ?_
 exact (by
  refine zg ?_ ?_; exact (zhd (av 0) (Wh rfl (yw (an 1 xQ.nd) (yw (an 2 xQ.nd) (yw (an 3 xQ.nd) (yw (an 4 xQ.nd) (yw (an 5 xQ.nd) (yw (an 6 xQ.nd) Yh rfl) rfl) rfl) rfl) rfl) rfl) rfl rfl) rfl rfl rfl)
  refine zg ?_ ?_; exact (Wa (z := true) (i := 7) (N := ["_law_name", "_law_table"]) (cap := [none, none]) (S := [0, 1]) xQ.nd rfl (by exact Or.inl rfl) (by exact Or.inr rfl) rfl rfl (Z7 (av 5)) rfl (by change vB _ Ym _ (zB vV).names _ = true; decide +kernel) (by decide) (λ cl s H fp => (Wh rfl (yw (an 0 V5) (yw (an 1 V5) Yh rfl) rfl) rfl rfl)) (λ cl s H fp => xJ) (λ cl s H fp => (yQ (zj (av 0) (zj (vh (N := ["_law_row"]) (cap := [none]) (S := [0]) rfl (Z7 (av 1)) rfl (by with_unfolding_all rfl) (by decide) (λ cl s H fp => (an 0 zee)) (λ cl s H fp => xJ) (λ cl s H fp => (Y0 Xj rfl T.zaw Bt.list (zc (av 0) zx (za rfl)) (Bt.n _ rfl) (by decide) rfl rfl)) (λ _ => rfl)) zM (za rfl)) (za rfl)))) (λ _ => rfl))
  refine zg ?_ ?_; exact (Wa (z := true) (i := 8) (N := ["_law_name", "_law_values_here"]) (cap := [none, none]) (S := [0, 1]) xQ.nd rfl (by exact Or.inl rfl) (by exact Or.inr rfl) rfl rfl (Z7 (av 6)) rfl (by change vB _ Ym _ (zB vV).names _ = true; decide +kernel) (by decide) (λ cl s H fp => (Wh rfl (yw (an 0 zag) (yw (an 1 zag) Yh rfl) rfl) rfl rfl)) (λ cl s H fp => xJ) (λ cl s H fp => (yQ (zj (av 0) (zj (Y0 Xj rfl T.zaw Bt.list (zc (av 1) zx (za rfl)) (Bt.n _ rfl) (by decide) rfl rfl) zM (za rfl)) (za rfl)))) (λ _ => rfl))
  exact zr (zU (yQ (by refine zj ?_ ?_ ?_; exact (av 1); refine zj ?_ ?_ ?_; exact (av 2); refine zj ?_ ?_ ?_; exact (vh (N := ["_law_row"]) (cap := [none]) (S := [0]) rfl (Z7 (av 3)) rfl (by change vB _ Ym _ (zB vV).names _ = true; decide +kernel) (by decide) (λ cl s H fp => (an 0 zea)) (λ cl s H fp => xJ) (λ cl s H fp => (Y0 Xj rfl T.zaw Bt.list (zc (av 0) zx (za rfl)) (Bt.n _ rfl) (by decide) rfl rfl)) (λ _ => rfl)); refine zj ?_ ?_ ?_; exact (av 4); refine zj ?_ ?_ ?_; exact (av 7); refine zj ?_ ?_ ?_; exact (av 8); exact zM; exact za rfl; exact za rfl; exact za rfl; exact za rfl; exact za rfl; exact za rfl))))
theorem zfE (T : Txt K kd mg t) (hkd : KD1 P w K kd) : FnOk P w K mg base CX0 2 t.XS t.Xw ["_law_script", "_law_start", "_law_most", "_law_size", "_law_number"] (spD K kd wC) := by
 refine xW (N := zaL) (ps := ["_law_script", "_law_start", "_law_most", "_law_size", "_law_number"]) (k := 1) (c := zbf) T.zaK YL λ cdv A outer s H E hr => ?_
 exact (by
  refine zg ?_ ?_; exact (by refine sv false 5 YL.nd ?_; exact (wG zM))
  refine zg ?_ ?_; exact (xg PassesOwn.never rfl (yz rfl T.yt (zc (zm (zq .Mod) (av 4) (zm (zq .Add) (av 2) aI)) zx (za rfl)) rfl) (an 6 YL.nd) (zr (Zi (Ys vp XC PySem.F.slot_list_append PySem.F.type_list_append (pv 5) (zj (zm (zq .Mod) (zN (Vs T hkd) (hr.mono (by omega)) rfl T.yJ T.YH.kp T.Vu yx (zc (zN (vL T hkd) (hr.mono (by omega)) rfl T.zW T.wQ.kp T.vM yx (zc (av 0) (zc (zm (zq .Add) (av 1) (av 6)) zx (za rfl)) (za rfl)) (by decide) rfl rfl) (zc (zm (zq .Add) (av 6) aI) zx (za rfl)) (za rfl)) (by decide) rfl rfl) (av 3)) zM (za rfl)) rfl rfl rfl rfl rfl) rfl)) (λ _ => rfl))
  exact zr (zU (av 5)))
theorem zhn (T : Txt K kd mg t) (hkd : KD1 P w K kd) : FnOk P w K mg base CX0 1 t.zau t.zah ["_law_algebra_here", "_law_name"] (spD K kd Yt) := by
 refine xW (N := zcS) (ps := ["_law_algebra_here", "_law_name"]) (k := 0) (c := zai) T.zdB WW λ cdv A outer s H E hr => ?_
 exact (by
  refine zg ?_ ?_; exact (xg PassesOwn.never rfl (zeT (ax hkd (av 0) aI)) (Wh rfl (yw (an 2 WW.nd) (yw (an 3 WW.nd) Yh rfl) rfl) rfl rfl) (zr (xM (yj (zV (hkd _ rfl rfl rfl) (yq hr) .Eq) (zR .Eq) (av 2) (av 1) (yc _)) (zr (zU (av 3))) yu)) (λ _ => rfl))
  exact zr (zU aZ))
theorem zdW (T : Txt K kd mg t) (hkd : KD1 P w K kd) : FnOk P w K mg base CX0 2 t.Y5 t.YS ["_law_algebra_here", "_law_entries", "_law_how_here"] (spD K kd vJ) := by
 refine xW (N := V9) (ps := ["_law_algebra_here", "_law_entries", "_law_how_here"]) (k := 1) (c := zae) T.zaa Za λ cdv A outer s H E hr => ?_
 exact (by
  refine zg ?_ ?_; exact (by refine sv true 3 Za.nd ?_; exact (zN (zhn T hkd) (hr.mono (by omega)) rfl T.Yt T.zdB.kp T.zhH yx (zc (av 0) (zc (ax hkd (av 2) aI) zx (za rfl)) (za rfl)) (by decide) rfl rfl))
  refine zg ?_ ?_; exact (xM (AW.at_ (WN (yj (zV (hkd _ rfl rfl rfl) (yq hr) .Is) (zR .Is) (av 3) aZ (yc _)) (WN (Xh (XX (zN (ZM T hkd) (hr.mono (by omega)) rfl T.ye T.vW.kp T.ZK yx (zc (ax hkd (av 2) aI) zx (za rfl)) (by decide) rfl rfl) (λ _ => rfl))) (vZ (Xh (zgk (zV (hkd _ rfl rfl rfl) (yq hr) .LtE) (zV (hkd _ rfl rfl rfl) (yq hr) .Lt) (zR .Lt) aI (ax hkd (av 2) aI) (Zr (wA (hkd _ rfl rfl rfl)) rfl T.WX Bt.len (zc (av 1) zx (za rfl)) (Bt.n _ rfl) (by decide) rfl rfl) (by with_unfolding_all rfl))))))) (zr (zU aZ)) yu)
  refine zg ?_ ?_; exact (zhd (Yo (ax hkd (av 1) (ax hkd (av 2) aI)) Wq (X3 aI)) (Wh rfl (yw (an 4 Za.nd) (yw (an 5 Za.nd) Yh rfl) rfl) rfl rfl) rfl rfl rfl)
  exact zr (zU (yQ (zj (ax hkd (ax hkd (av 3) (av 5)) (av 4)) (zj (av 5) zM (za rfl)) (za rfl)))))
theorem zaQ (T : Txt K kd mg t) (hkd : KD1 P w K kd) : FnOk P w K mg base CX0 1 t.X4 t.Wf ["_law_algebra_here", "_law_one", "_law_other"] (spD K kd xq) := by
 refine xW (N := zaG) (ps := ["_law_algebra_here", "_law_one", "_law_other"]) (k := 0) (c := zaW) T.Wi zdX λ cdv A outer s H E hr => ?_
 exact (zr (zU (yQ (zj (ax hkd (ax hkd (ax hkd (av 0) aI) (ax hkd (av 1) aI)) (ax hkd (av 2) aI)) (zj (zm (zq .Mod) (zm (zq .Add) (ax hkd (av 1) aI) (ax hkd (av 2) aI)) (ax hkd (av 0) aI)) zM (za rfl)) (za rfl)))))
theorem zjQ (T : Txt K kd mg t) (hkd : KD1 P w K kd) : FnOk P w K mg base CX0 3 t.zbF t.zbE ["_law_algebra_here", "_law_row", "_law_entries", "_law_how_here"] (spD K kd vm) := by
 refine xW (N := zeI) (ps := ["_law_algebra_here", "_law_row", "_law_entries", "_law_how_here"]) (k := 2) (c := zew) T.zez zde λ cdv A outer s H E hr => ?_
 exact (by
  refine zg ?_ ?_; exact (xM (yj (zV (hkd _ rfl rfl rfl) (yq hr) .Eq) (zR .Eq) (av 3) (yQ (zj aS zM (za rfl))) (yc _)) (zr (zU (yQ (zj (ax hkd (av 0) aI) (zj aI zM (za rfl)) (za rfl))))) yu)
  refine zg ?_ ?_; exact (xM (AW.at_ (WN (Xh (XX (zdK (hkd _ rfl rfl rfl) rfl rfl T.Ze Bt.isinstance rfl T.zjd Bt.tuple (av 3) (Bt.n _ rfl) (by decide) (Bt.n _ rfl) (by decide) rfl rfl rfl) (λ _ => rfl))) (vZ (yj (zV (hkd _ rfl rfl rfl) (yq hr) .Lt) (zR .Lt) (Zr (wA (hkd _ rfl rfl rfl)) rfl T.WX Bt.len (zc (av 3) zx (za rfl)) (Bt.n _ rfl) (by decide) rfl rfl) aI (yc _))))) (zr (zU aZ)) yu)
  refine zg ?_ ?_; exact (xM (AW.at_ (zfB (yj (zV (hkd _ rfl rfl rfl) (yq hr) .Eq) (zR .Eq) (ax hkd (av 3) aI) aS (yc _)) (zfB (yj (zV (hkd _ rfl rfl rfl) (yq hr) .Eq) (zR .Eq) (Zr (wA (hkd _ rfl rfl rfl)) rfl T.WX Bt.len (zc (av 3) zx (za rfl)) (Bt.n _ rfl) (by decide) rfl rfl) aI (yc _)) (zfB (XX (zN (ZM T hkd) (hr.mono (by omega)) rfl T.ye T.vW.kp T.ZK yx (zc (ax hkd (av 3) aI) zx (za rfl)) (by decide) rfl rfl) (λ _ => rfl)) (zcY (yj (zV (hkd _ rfl rfl rfl) (yq hr) .In) (zR .In) (ax hkd (av 3) aI) (av 1) rfl)))))) (zr (zU (yQ (zj (ax hkd (av 3) aI) (zj (zm (zq .Mod) aI (ax hkd (av 0) aI)) zM (za rfl)) (za rfl))))) yu)
  refine zg ?_ ?_; exact (xM (AW.at_ (zfB (yj (zV (hkd _ rfl rfl rfl) (yq hr) .Eq) (zR .Eq) (ax hkd (av 3) aI) aS (yc _)) (zcY (yj (zV (hkd _ rfl rfl rfl) (yq hr) .Eq) (zR .Eq) (Zr (wA (hkd _ rfl rfl rfl)) rfl T.WX Bt.len (zc (av 3) zx (za rfl)) (Bt.n _ rfl) (by decide) rfl rfl) aI (yc _))))) (zr (zU (zN (zdW T hkd) (hr.mono (by omega)) rfl T.vJ T.zaa.kp T.zed yx (by refine zc ?_ ?_ ?_; exact (av 0); refine zc ?_ ?_ ?_; exact (av 2); refine zc ?_ ?_ ?_; exact (av 3); exact zx; exact za rfl; exact za rfl; exact za rfl) (by decide) rfl rfl))) yu)
  refine zg ?_ ?_; exact (xM (AW.at_ (WN (yj (zV (hkd _ rfl rfl rfl) (yq hr) .NotEq) (zR .NotEq) (ax hkd (av 3) aI) aS (yc _)) (vZ (yj (zV (hkd _ rfl rfl rfl) (yq hr) .NotEq) (zR .NotEq) (Zr (wA (hkd _ rfl rfl rfl)) rfl T.WX Bt.len (zc (av 3) zx (za rfl)) (Bt.n _ rfl) (by decide) rfl rfl) aI (yc _))))) (zr (zU aZ)) yu)
  refine zg ?_ ?_; exact (xg PassesOwn.never rfl (zeT (Yo (av 3) (X3 aI) Wq)) (an 4 zde.nd) (zr (xM (AW.at_ (WN (Xh (XX (zN (ZM T hkd) (hr.mono (by omega)) rfl T.ye T.vW.kp T.ZK yx (zc (av 4) zx (za rfl)) (by decide) rfl rfl) (λ _ => rfl))) (vZ (Xh (zgk (zV (hkd _ rfl rfl rfl) (yq hr) .LtE) (zV (hkd _ rfl rfl rfl) (yq hr) .Lt) (zR .Lt) aI (av 4) (Zr (wA (hkd _ rfl rfl rfl)) rfl T.WX Bt.len (zc (av 2) zx (za rfl)) (Bt.n _ rfl) (by decide) rfl rfl) (by with_unfolding_all rfl)))))) (zr (zU aZ)) yu)) (λ _ => rfl))
  exact zr (zU (zN (zaQ T hkd) (hr.mono (by omega)) rfl T.xq T.Wi.kp T.zaX yx (by refine zc ?_ ?_ ?_; exact (av 0); refine zc ?_ ?_ ?_; exact (ax hkd (av 2) (ax hkd (av 3) aI)); refine zc ?_ ?_ ?_; exact (ax hkd (av 2) (ax hkd (av 3) aI)); exact zx; exact za rfl; exact za rfl; exact za rfl) (by decide) rfl rfl)))
theorem zfx (T : Txt K kd mg t) (hkd : KD1 P w K kd) : FnOk P w K mg base CX0 2 t.X6 t.Xu ["_law_algebra_here", "_law_row", "_law_known"] (spD K kd wZ) := by
 refine xW (N := vz) (ps := ["_law_algebra_here", "_law_row", "_law_known"]) (k := 1) (c := zaJ) T.zaD vG λ cdv A outer s H E hr => ?_
 exact (by
  refine zg ?_ ?_; exact (by refine sv true 3 vG.nd ?_; exact (zm (zq .Add) (wG (by refine zj ?_ ?_ ?_; exact (yQ (zj (ax hkd (av 0) aI) (zj aI zM (za rfl)) (za rfl))); exact zM; exact za rfl)) (vh (N := ["_law_value", "_law_algebra_here"]) (cap := [none, some 0]) (S := [0]) rfl (Z7 (av 1)) rfl (by change vB _ vz _ (zB xR).names _ = true; decide +kernel) (by decide) (λ cl s H fp => (an 0 zcC)) (λ cl s H fp => xJ) (λ cl s H fp => (yQ (zj (av 0) (zj (zm (zq .Mod) aI (ax hkd (av 1) aI)) zM (za rfl)) (za rfl)))) (λ _ => rfl))))
  refine zg ?_ ?_; exact (xg PassesOwn.never rfl (znf (av 2)) (an 4 vG.nd) (by
  refine zg ?_ ?_; exact (by refine sv true 3 vG.nd ?_; exact (zm (zq .Add) (av 3) (vh (N := ["_law_name", "_law_rows_here", "_law_one"]) (cap := [none, none, some 4]) (S := [0, 1]) rfl (Z7 (ax hkd (av 0) aI)) rfl (by change vB _ vz _ (zB xR).names _ = true; decide +kernel) (by decide) (λ cl s H fp => (Wh rfl (yw (an 0 Wu) (yw (an 1 Wu) Yh rfl) rfl) rfl rfl)) (λ cl s H fp => xJ) (λ cl s H fp => (yQ (zj (ax hkd (ax hkd (av 1) (ax hkd (av 2) aI)) (ax hkd (av 2) aI)) (zj (ax hkd (av 2) aI) zM (za rfl)) (za rfl)))) (λ _ => rfl))))
  exact zr (by refine sv true 3 vG.nd ?_; exact (zm (zq .Add) (av 3) (vh (N := ["_law_other", "_law_algebra_here", "_law_one"]) (cap := [none, some 0, some 4]) (S := [0]) rfl (zkB (av 2)) rfl (by change vB _ vz _ (zB xR).names _ = true; decide +kernel) (by decide) (λ cl s H fp => (an 0 zcD)) (λ cl s H fp => xJ) (λ cl s H fp => (zN (zaQ T hkd) (hr.mono (by omega)) rfl T.xq T.Wi.kp T.zaX yx (by refine zc ?_ ?_ ?_; exact (av 1); refine zc ?_ ?_ ?_; exact (av 2); refine zc ?_ ?_ ?_; exact (av 0); exact zx; exact za rfl; exact za rfl; exact za rfl) (by decide) rfl rfl)) (λ _ => rfl))))) (λ _ => rfl))
  exact zr (zU (zbU (zV (hkd _ rfl rfl rfl) (yq hr) .Eq) (vh (N := ["_law_pair", "_law_known"]) (cap := [none, some 2]) (S := [0]) rfl (Z7 (av 3)) rfl (by change vB _ vz _ (zB xR).names _ = true; decide +kernel) (by decide) (λ cl s H fp => (an 0 zcz)) (λ cl s H fp => (ziA (yj (zV (hkd _ rfl rfl rfl) (yq hr) .NotIn) (zR .NotIn) (av 0) (av 1) rfl))) (λ cl s H fp => (av 0)) (λ _ => rfl)) (wG zM) (yc _))))
theorem zct (T : Txt K kd mg t) (hkd : KD1 P w K kd) : FnOk P w K mg base CX0 4 t.Va t.Vq ["_law_algebra_here", "_law_row", "_law_found"] (spD K kd wB) := by
 refine xW (N := zbZ) (ps := ["_law_algebra_here", "_law_row", "_law_found"]) (k := 3) (c := zcd) T.Vh Yg λ cdv A outer s H E hr => ?_
 exact (by
  refine zg ?_ ?_; exact (xM (Xh (XX (zdK (hkd _ rfl rfl rfl) rfl rfl T.Ze Bt.isinstance rfl T.zaw Bt.list (av 2) (Bt.n _ rfl) (by decide) (Bt.n _ rfl) (by decide) rfl rfl rfl) (λ _ => rfl))) (zr (zU aB)) yu)
  refine zg ?_ ?_; exact (by refine sv false 3 Yg.nd ?_; exact zkT)
  refine zg ?_ ?_; exact (xg PassesOwn.never rfl (yz rfl T.yt (zc (Zr (wA (hkd _ rfl rfl rfl)) rfl T.WX Bt.len (zc (av 2) zx (za rfl)) (Bt.n _ rfl) (by decide) rfl rfl) zx (za rfl)) rfl) (an 4 Yg.nd) (by
  refine zg ?_ ?_; exact (by refine sv true 5 Yg.nd ?_; exact (ax hkd (av 2) (av 4)))
  refine zg ?_ ?_; exact (xM (AW.at_ (WN (Xh (XX (zdK (hkd _ rfl rfl rfl) rfl rfl T.Ze Bt.isinstance rfl T.zjd Bt.tuple (av 5) (Bt.n _ rfl) (by decide) (Bt.n _ rfl) (by decide) rfl rfl rfl) (λ _ => rfl))) (WN (yj (zV (hkd _ rfl rfl rfl) (yq hr) .NotEq) (zR .NotEq) (Zr (wA (hkd _ rfl rfl rfl)) rfl T.WX Bt.len (zc (av 5) zx (za rfl)) (Bt.n _ rfl) (by decide) rfl rfl) aI (yc _)) (WN (Xh (XX (zN (ZM T hkd) (hr.mono (by omega)) rfl T.ye T.vW.kp T.ZK yx (zc (ax hkd (av 5) aI) zx (za rfl)) (by decide) rfl rfl) (λ _ => rfl))) (vZ (Xh (XX (zN (ZM T hkd) (hr.mono (by omega)) rfl T.ye T.vW.kp T.ZK yx (zc (ax hkd (av 5) aI) zx (za rfl)) (by decide) rfl rfl) (λ _ => rfl)))))))) (zr (zU aB)) yu)
  refine zg ?_ ?_; exact (xM (AW.at_ (WN (yj (zV (hkd _ rfl rfl rfl) (yq hr) .In) (zR .In) (Yo (av 5) Wq (X3 aI)) (av 3) rfl) (vZ (yj (zV (hkd _ rfl rfl rfl) (yq hr) .NotEq) (zR .NotEq) (zN (zjQ T hkd) (hr.mono (by omega)) rfl T.vm T.zez.kp T.zjh yx (by refine zc ?_ ?_ ?_; exact (av 0); refine zc ?_ ?_ ?_; exact (av 1); refine zc ?_ ?_ ?_; exact (Yo (av 2) Wq (X3 (av 4))); refine zc ?_ ?_ ?_; exact (ax hkd (av 5) aI); exact zx; exact za rfl; exact za rfl; exact za rfl; exact za rfl) (by decide) rfl rfl) (Yo (av 5) Wq (X3 aI)) (yc _))))) (zr (zU aB)) yu)
  exact zr (zmL (znX hr) (pv 3) (Yo (av 5) Wq (X3 aI)) aB rfl)) (λ _ => rfl))
  exact zr (zU (zN (zfx T hkd) (hr.mono (by omega)) rfl T.wZ T.zaD.kp T.zfd yx (by refine zc ?_ ?_ ?_; exact (av 0); refine zc ?_ ?_ ?_; exact (av 1); refine zc ?_ ?_ ?_; exact (av 3); exact zx; exact za rfl; exact za rfl; exact za rfl) (by decide) rfl rfl)))
theorem o_law (T : Txt K kd mg t) (hkd : KD1 P w K kd) : FnOk P w K mg base CX0 6 t.zlI t.zkE ["_law_script"] (spD K kd zcU) := by
 refine xW (N := znE) (ps := ["_law_script"]) (k := 5) (c := znP) T.zrc zbP λ cdv A outer s H E hr => ?_
 exact (by
  refine zg ?_ ?_; exact (by refine sv true 1 zbP.nd ?_; exact (zN (zdY T hkd) (hr.mono (by omega)) rfl T.vD T.V8.kp T.zeb yx (by refine zc ?_ ?_ ?_; exact (zN (vL T hkd) (hr.mono (by omega)) rfl T.zW T.wQ.kp T.vM yx (zc (av 0) (zc aI zx (za rfl)) (za rfl)) (by decide) rfl rfl); refine zc ?_ ?_ ?_; exact (zN (vL T hkd) (hr.mono (by omega)) rfl T.zW T.wQ.kp T.vM yx (zc (av 0) (zc aI zx (za rfl)) (za rfl)) (by decide) rfl rfl); refine zc ?_ ?_ ?_; exact (zm (zq .Mod) (zN (vL T hkd) (hr.mono (by omega)) rfl T.zW T.wQ.kp T.vM yx (zc (av 0) (zc aI zx (za rfl)) (za rfl)) (by decide) rfl rfl) aI); exact zx; exact za rfl; exact za rfl; exact za rfl) (by decide) rfl rfl))
  refine zg ?_ ?_; exact (by refine sv true 2 zbP.nd ?_; exact (zN (zfE T hkd) (hr.mono (by omega)) rfl T.wC T.zaK.kp T.zfc yx (by refine zc ?_ ?_ ?_; exact (av 0); refine zc ?_ ?_ ?_; exact aI; refine zc ?_ ?_ ?_; exact aI; refine zc ?_ ?_ ?_; exact (ax hkd (av 1) aI); refine zc ?_ ?_ ?_; exact (zm (zq .FloorDiv) (zN (vL T hkd) (hr.mono (by omega)) rfl T.zW T.wQ.kp T.vM yx (zc (av 0) (zc aI zx (za rfl)) (za rfl)) (by decide) rfl rfl) aI); exact zx; exact za rfl; exact za rfl; exact za rfl; exact za rfl; exact za rfl) (by decide) rfl rfl))
  refine zg ?_ ?_; exact (by refine sv true 3 zbP.nd ?_; exact (zN (zhT T hkd) (hr.mono (by omega)) rfl T.Yx T.zdk.kp T.zhC yx (zc (av 1) zx (za rfl)) (by decide) rfl rfl))
  refine zg ?_ ?_; exact (by refine sv true 4 zbP.nd ?_; exact (Y0 Xj rfl T.zaw Bt.list (zc (av 2) zx (za rfl)) (Bt.n _ rfl) (by decide) rfl rfl))
  refine zg ?_ ?_; exact (by refine sv false 5 zbP.nd ?_; exact (zN (zgt T hkd) (hr.mono (by omega)) rfl T.v6 T.zdj.kp T.zhb yx (zc (av 3) (zc (av 4) zx (za rfl)) (za rfl)) (by decide) rfl rfl))
  refine zg ?_ ?_; exact (xM (AW.at_ (WN (Xh (XX (zN (zct T hkd) (hr.mono (by omega)) rfl T.wB T.Vh.kp T.zck yx (by refine zc ?_ ?_ ?_; exact (av 1); refine zc ?_ ?_ ?_; exact (av 2); refine zc ?_ ?_ ?_; exact (av 5); exact zx; exact za rfl; exact za rfl; exact za rfl) (by decide) rfl rfl) (λ _ => rfl))) (WN (yj (zV (hkd _ rfl rfl rfl) (yq hr) .NotEq) (zR .NotEq) (av 3) (av 1) (yc _)) (vZ (yj (zV (hkd _ rfl rfl rfl) (yq hr) .NotEq) (zR .NotEq) (av 4) (av 2) (yc _)))))) (zr (zU aB)) yu)
  refine zg ?_ ?_; exact (Zi (zmC zlP zpN PySem.F.slot_list_clear PySem.F.type_list_clear (pv 5) rfl rfl) rfl)
  exact zr (zU (zN (zct T hkd) (hr.mono (by omega)) rfl T.wB T.Vh.kp T.zck yx (by refine zc ?_ ?_ ?_; exact (av 1); refine zc ?_ ?_ ?_; exact (av 2); refine zc ?_ ?_ ?_; exact (zN (zgt T hkd) (hr.mono (by omega)) rfl T.v6 T.zdj.kp T.zhb yx (zc (av 3) (zc (av 4) zx (za rfl)) (za rfl)) (by decide) rfl rfl); exact zx; exact za rfl; exact za rfl; exact za rfl) (by decide) rfl rfl)))
end
abbrev NsR (K : zC) (x : Str) (f : Addr) : Prop := PySem.W.nsIn K mainGlobals x = some (some (.ref f))
abbrev FnAt (K : zC) (x q : Str) (s : Stmt) (f : Addr) : Prop := ∃ d, Fun K x q s f d
theorem zpr {l : PySem.W.OpenLaw} {w : World} {K : zC} {h : Heap} {mg : Str -> Option Value} {fa : Addr} (X : K.In h) (G : h.Ns mainGlobals mg) (hfa : mg "law" = some (.ref fa))
 {f0 f1 f2 f3 f4 f5 f6 f7 f8 f9 f10 f11 f12 f13 f14 f15 f16 f17 f18 f19 f20 f21 f22 f23 f24 f25 f26 f27 f28 f29 : Addr}
 (a0 : NsR K "nothing_fails" f0) (l0 : FnAt K "nothing_fails" "nothing_fails" vP f0)
 (a1 : NsR K "parting_fails" f1) (l1 : FnAt K "parting_fails" "parting_fails" vQ f1)
 (a2 : NsR K "doing_fails" f2) (l2 : FnAt K "doing_fails" "doing_fails" Zw f2)
 (a3 : NsR K "deeds_fail" f3) (l3 : FnAt K "deeds_fail" "deeds_fail" Yj f3)
 (a4 : NsR K "what_fails" f4) (l4 : FnAt K "what_fails" "what_fails" Yi f4)
 (a5 : NsR K "check_let_by" f5) (l5 : FnAt K "check_let_by" "check_let_by" Zh f5)
 (a6 : NsR K "two_of" f6) (l6 : FnAt K "two_of" "two_of" zbm f6)
 (a7 : NsR K "following" f7) (l7 : FnAt K "following" "following" ZR f7)
 (a8 : NsR K "take_new" f8) (l8 : FnAt K "take_new" "take_new" Wc f8)
 (a9 : NsR K "coming" f9) (l9 : FnAt K "coming" "coming" Ve f9)
 (a10 : NsR K "_law_cell_at" f10) (l10 : FnAt K "_law_cell_at" "_law_cell_at" Zx f10)
 (a11 : NsR K "_law_mixed" f11) (l11 : FnAt K "_law_mixed" "_law_mixed" YD f11)
 (a12 : NsR K "_law_whole" f12) (l12 : FnAt K "_law_whole" "_law_whole" YK f12)
 (a13 : NsR K "_law_words" f13) (l13 : FnAt K "_law_words" "_law_words" ZL f13)
 (a14 : NsR K "_law_common" f14) (l14 : FnAt K "_law_common" "_law_common" Yc f14)
 (a15 : NsR K "_law_joined_by" f15) (l15 : FnAt K "_law_joined_by" "_law_joined_by" vO f15)
 (a16 : NsR K "_law_images" f16) (l16 : FnAt K "_law_images" "_law_images" Zd f16)
 (a17 : NsR K "_law_done_by" f17) (l17 : FnAt K "_law_done_by" "_law_done_by" wN f17)
 (a18 : NsR K "_law_kinds" f18) (l18 : FnAt K "_law_kinds" "_law_kinds" YF f18)
 (a19 : NsR K "_law_stream" f19) (l19 : FnAt K "_law_stream" "_law_stream" Z8 f19)
 (a20 : NsR K "_law_algebra" f20) (l20 : FnAt K "_law_algebra" "_law_algebra" wg f20)
 (a21 : NsR K "_law_copy" f21) (l21 : FnAt K "_law_copy" "_law_copy" vV f21)
 (a22 : NsR K "_law_values" f22) (l22 : FnAt K "_law_values" "_law_values" Yd f22)
 (a23 : NsR K "_law_rows" f23) (l23 : FnAt K "_law_rows" "_law_rows" Wo f23)
 (a24 : NsR K "_law_by_deed" f24) (l24 : FnAt K "_law_by_deed" "_law_by_deed" ZG f24)
 (a25 : NsR K "_law_by_two" f25) (l25 : FnAt K "_law_by_two" "_law_by_two" Ye f25)
 (a26 : NsR K "_law_how" f26) (l26 : FnAt K "_law_how" "_law_how" VF f26)
 (a27 : NsR K "_law_closed" f27) (l27 : FnAt K "_law_closed" "_law_closed" xR f27)
 (a28 : NsR K "_law_right" f28) (l28 : FnAt K "_law_right" "_law_right" YJ f28)
 (a29 : NsR K "law" f29) (l29 : FnAt K "law" "law" zjb f29)
 (z0 : PySem.W.nsIn K mainGlobals "bool" = some none) (z1 : PySem.W.nsIn K mainGlobals "int" = some none) (z2 : PySem.W.nsIn K mainGlobals "isinstance" = some none) (z3 : PySem.W.nsIn K mainGlobals "len" = some none) (z4 : PySem.W.nsIn K mainGlobals "list" = some none) (z5 : PySem.W.nsIn K mainGlobals "max" = some none) (z6 : PySem.W.nsIn K mainGlobals "range" = some none) (z7 : PySem.W.nsIn K mainGlobals "sorted" = some none) (z8 : PySem.W.nsIn K mainGlobals "tuple" = some none) :
 ∃ fd : FuncData, (∀ (s : Shared) (v : Value), BindsTo s fd ⟨[v], []⟩ [("_law_script", v)]) /\ ∀ base : Heap, K.In base -> base.Ns mainGlobals mg -> FnOk l.prog w K mg base CX0 6 fa fd ["_law_script"] (spL K zcU) := by
 have e := hfa.symm.trans (PySem.W.mg_of X G a29)
 cases e
 obtain ⟨_, F0⟩ := l0
 have b0 := F0.binds (ps := ["algebra"]) λ _ _ _ _ _ _ => l1_ λ _ => rfl
 obtain ⟨_, F1⟩ := l1
 have b1 := F1.binds (ps := ["algebra"]) λ _ _ _ _ _ _ => l1_ λ _ => rfl
 obtain ⟨_, F2⟩ := l2
 have b2 := F2.binds (ps := ["algebra", "name", "rows"]) λ _ _ _ _ _ _ => l3_ λ _ _ _ => rfl
 obtain ⟨_, F3⟩ := l3
 have b3 := F3.binds (ps := ["algebra"]) λ _ _ _ _ _ _ => l1_ λ _ => rfl
 obtain ⟨_, F4⟩ := l4
 have b4 := F4.binds (ps := ["algebra"]) λ _ _ _ _ _ _ => l1_ λ _ => rfl
 obtain ⟨_, F5⟩ := l5
 have b5 := F5.binds (ps := ["algebra"]) λ _ _ _ _ _ _ => l1_ λ _ => rfl
 obtain ⟨_, F6⟩ := l6
 have b6 := F6.binds (ps := ["algebra", "entries", "p", "q"]) λ _ _ _ _ _ _ => l4_ λ _ _ _ _ => rfl
 obtain ⟨_, F7⟩ := l7
 have b7 := F7.binds (ps := ["algebra", "entries", "at"]) λ _ _ _ _ _ _ => l3_ λ _ _ _ => rfl
 obtain ⟨_, F8⟩ := l8
 have b8 := F8.binds (ps := ["entries", "known", "found"]) λ _ _ _ _ _ _ => l3_ λ _ _ _ => rfl
 obtain ⟨_, F9⟩ := l9
 have b9 := F9.binds (ps := ["algebra", "row"]) λ _ _ _ _ _ _ => l2_ λ _ _ => rfl
 obtain ⟨_, F10⟩ := l10
 have b10 := F10.binds (ps := ["_law_script", "_law_k"]) λ _ _ _ _ _ _ => l2_ λ _ _ => rfl
 obtain ⟨_, F11⟩ := l11
 have b11 := F11.binds (ps := ["_law_cell", "_law_k"]) λ _ _ _ _ _ _ => l2_ λ _ _ => rfl
 obtain ⟨_, F12⟩ := l12
 have b12 := F12.binds (ps := ["_law_found"]) λ _ _ _ _ _ _ => l1_ λ _ => rfl
 obtain ⟨_, F13⟩ := l13
 have b13 := F13.binds (ps := ["_law_cell", "_law_many"]) λ _ _ _ _ _ _ => l2_ λ _ _ => rfl
 obtain ⟨_, F14⟩ := l14
 have b14 := F14.binds (ps := ["_law_n", "_law_m"]) λ _ _ _ _ _ _ => l2_ λ _ _ => rfl
 obtain ⟨_, F15⟩ := l15
 have b15 := F15.binds (ps := ["_law_kind", "_law_n", "_law_a", "_law_b"]) λ _ _ _ _ _ _ => l4_ λ _ _ _ _ => rfl
 obtain ⟨_, F16⟩ := l16
 have b16 := F16.binds (ps := ["_law_kind", "_law_n", "_law_x"]) λ _ _ _ _ _ _ => l3_ λ _ _ _ => rfl
 obtain ⟨_, F17⟩ := l17
 have b17 := F17.binds (ps := ["_law_kind", "_law_n", "_law_m", "_law_x"]) λ _ _ _ _ _ _ => l4_ λ _ _ _ _ => rfl
 obtain ⟨_, F18⟩ := l18
 have b18 := F18.binds (ps := ["_law_x"]) λ _ _ _ _ _ _ => l1_ λ _ => rfl
 obtain ⟨_, F19⟩ := l19
 have b19 := F19.binds (ps := ["_law_cell", "_law_many"]) λ _ _ _ _ _ _ => l2_ λ _ _ => rfl
 obtain ⟨_, F20⟩ := l20
 have b20 := F20.binds (ps := ["_law_cell", "_law_head", "_law_many"]) λ _ _ _ _ _ _ => l3_ λ _ _ _ => rfl
 obtain ⟨_, F21⟩ := l21
 have b21 := F21.binds (ps := ["_law_algebra_here"]) λ _ _ _ _ _ _ => l1_ λ _ => rfl
 obtain ⟨_, F22⟩ := l22
 have b22 := F22.binds (ps := ["_law_script", "_law_start", "_law_most", "_law_size", "_law_number"]) λ _ _ _ _ _ _ => l5_ λ _ _ _ _ _ => rfl
 obtain ⟨_, F23⟩ := l23
 have b23 := F23.binds (ps := ["_law_algebra_here", "_law_name"]) λ _ _ _ _ _ _ => l2_ λ _ _ => rfl
 obtain ⟨_, F24⟩ := l24
 have b24 := F24.binds (ps := ["_law_algebra_here", "_law_entries", "_law_how_here"]) λ _ _ _ _ _ _ => l3_ λ _ _ _ => rfl
 obtain ⟨_, F25⟩ := l25
 have b25 := F25.binds (ps := ["_law_algebra_here", "_law_one", "_law_other"]) λ _ _ _ _ _ _ => l3_ λ _ _ _ => rfl
 obtain ⟨_, F26⟩ := l26
 have b26 := F26.binds (ps := ["_law_algebra_here", "_law_row", "_law_entries", "_law_how_here"]) λ _ _ _ _ _ _ => l4_ λ _ _ _ _ => rfl
 obtain ⟨_, F27⟩ := l27
 have b27 := F27.binds (ps := ["_law_algebra_here", "_law_row", "_law_known"]) λ _ _ _ _ _ _ => l3_ λ _ _ _ => rfl
 obtain ⟨_, F28⟩ := l28
 have b28 := F28.binds (ps := ["_law_algebra_here", "_law_row", "_law_found"]) λ _ _ _ _ _ _ => l3_ λ _ _ _ => rfl
 obtain ⟨_, F29⟩ := l29
 obtain ⟨_, _, _, _, _, _, _, _, _, rfl, _, _⟩ := F29.ex
 have b29 := F29.binds (ps := ["_law_script"]) λ _ _ _ _ _ _ => l1_ λ _ => rfl
 let KL : List (Addr × List (Key × V)) := []
 have hkd : KD1 l.prog w K (kdL KL) := zpG λ p m => by
  exact absurd (show p ∈ ([] : List (Addr × List (Key × V))) from m) List.not_mem_nil
 have T : Txt K (kdL KL) mg ⟨_, _, _, _, _, _, _, _, _, _, _, _, _, _, _, _, _, _, _, _, _, _, _, _, _, _, _, _, _, _, _, _, _, _, _, _, _, _, _, _, _, _, _, _, _, _, _, _, _, _, _, _, _, _, _, _, _, _, _, _⟩ := ⟨F0, b0, PySem.W.mg_of X G a0, F1, b1, PySem.W.mg_of X G a1, F2, b2, PySem.W.mg_of X G a2, F3, b3, PySem.W.mg_of X G a3, F4, b4, PySem.W.mg_of X G a4, F5, b5, PySem.W.mg_of X G a5, F6, b6, PySem.W.mg_of X G a6, F7, b7, PySem.W.mg_of X G a7, F8, b8, PySem.W.mg_of X G a8, F9, b9, PySem.W.mg_of X G a9, F10, b10, PySem.W.mg_of X G a10, F11, b11, PySem.W.mg_of X G a11, F12, b12, PySem.W.mg_of X G a12, F13, b13, PySem.W.mg_of X G a13, F14, b14, PySem.W.mg_of X G a14, F15, b15, PySem.W.mg_of X G a15, F16, b16, PySem.W.mg_of X G a16, F17, b17, PySem.W.mg_of X G a17, F18, b18, PySem.W.mg_of X G a18, F19, b19, PySem.W.mg_of X G a19, F20, b20, PySem.W.mg_of X G a20, F21, b21, PySem.W.mg_of X G a21, F22, b22, PySem.W.mg_of X G a22, F23, b23, PySem.W.mg_of X G a23, F24, b24, PySem.W.mg_of X G a24, F25, b25, PySem.W.mg_of X G a25, F26, b26, PySem.W.mg_of X G a26, F27, b27, PySem.W.mg_of X G a27, F28, b28, PySem.W.mg_of X G a28, F29, b29, PySem.W.mg_of X G a29, PySem.W.mg_none_of X G z0, PySem.W.mg_none_of X G z1, PySem.W.mg_none_of X G z2, PySem.W.mg_none_of X G z3, PySem.W.mg_none_of X G z4, PySem.W.mg_none_of X G z5, PySem.W.mg_none_of X G z6, PySem.W.mg_none_of X G z7, PySem.W.mg_none_of X G z8⟩
 exact ⟨_, λ s v => .of_eq rfl, λ base _ _ => (o_law T hkd).imp λ vs H Q E h => h _⟩
theorem walk {l : PySem.W.OpenLaw} {q : Program} {loose : List Str} {XP : (Str -> Option Value) -> Heap -> Prop} {YP : World -> Heap -> Prop} {d : DefRec} {K : Params -> zC} (hn : l.most = some 63) (hdf : d.params.defaults = [])
 (hY : ∀ (w : World) (h : Heap), YP w h -> (K w.params).In h) (hm : ∀ ns : List Int, ns.length <= 63 -> zcU [(true, .lst (ns.map D.int))] = some (.lf true (.bl true)))
 (F : ∀ (w : World) (mg : Str -> Option Value) (fa : Addr) (h : Heap), (K w.params).In h -> h.Ns mainGlobals mg -> mg d.name = some (.ref fa) ->
  ∃ fd : FuncData, (∀ (s : Shared) (u : Value), BindsTo s fd ⟨[u], []⟩ [("_law_script", u)]) /\ ∀ base : Heap, (K w.params).In base -> base.Ns mainGlobals mg -> FnOk l.prog w (K w.params) mg base CX0 6 fa fd ["_law_script"] (spL (K w.params) zcU)) :
 PySem.W.WalkO q loose XP YP l.row.toRowW d [] (λ f vs => PySem.call f vs) :=
 L2.walk_of (n := 63) (k := 6) (x := "_law_script") (CX := λ _ => CX0) (sp := λ w => spL (K w.params) zcU) hn (by decide) hdf ⟨rfl, by decide, by decide, rfl⟩ hY F (λ _ _ a ns hl _ hS kd => zpV (hm ns hl) hS) λ _ _ _ _ _ z => z
local macro_rules | `(tactic| trivial) => `(tactic| first | with_reducible first | assumption | exact Int.natCast_nonneg _ | exact Nat.le_refl _ | exact Int.le_refl _ | exact rfl | exact leN (by assumption) | exact np1 (by assumption) | exact np2 (by assumption) | exact nq1 (by assumption) | exact nq2 (by assumption) | exact Int.natCast_pos.mpr (by assumption) | exact Nat.le_trans (by assumption) (by decide) | exact bgL _ | exact bgU (by assumption) | exact mU (by assumption) | exact zI _ | exact bL0 (by assumption) | exact bU0 (by assumption) (by assumption) | exact iL (by assumption) | exact iU (by assumption) (by assumption) | exact iC (by assumption) | exact iT (by assumption) | exact stL (by assumption) | exact stU (by assumption) | exact lnK (by assumption) (by assumption) (by assumption) | exact zi1 _ | exact lnE (by assumption) | exact ltL (by assumption) | exact Int.toNat_of_nonneg (by assumption) | exact tS (by assumption) (by assumption) | exact b6 (by assumption) | exact Int.emod_nonneg _ (by decide) | exact Int.emod_lt_of_pos _ (by decide) | decide | omega)
section
variable {n m : Nat} {J T : TZ} {e : Int} {Ds : DD} {S : SS}
theorem zhO (n8 : n <= 8) (hJ : Tab n n J) (he : InR n e) : Flt (wJ [(true, zE n m J e Ds S)]) (UnA n J e) := by
 refine Flt.imp (P := UnA n J e /\ True) (zhl (n := 4) (m := 1) (c := vR) rfl ?_) ⟨λ z => z.1, λ z => ⟨z, trivial⟩⟩
 have s1 : zK true 1 (f2 (fV 0) (fC (.int 2)) ixP) [sT (zE n m J e Ds S), none, none, none] = some (.nx [sT (zE n m J e Ds S), sT (zY J), none, none]) := yC (i := 1) (Zu (zb (i := 0) rfl) zf rfl) (zG rfl)
 have s2 : zK true 2 (f2 (fV 0) (fC (.int 3)) ixP) [sT (zE n m J e Ds S), sT (zY J), none, none] = some (.nx [sT (zE n m J e Ds S), sT (zY J), sI e, none]) := yC (i := 2) (Zu (zb (i := 0) rfl) zf rfl) (zG rfl)
 have k := zfg (as := [sT (zE n m J e Ds S), sT (zY J), sI e, none]) (g := yh (fC .non)) (Q := True) (zpy (S := λ x y z => [sT (zE n m J e Ds S), sT (zY J), sI e, x]) (x := none) (y := none) (z := none) (vj := 1) (ve := 2) hJ he (λ _ _ _ => rfl) (λ _ _ _ => rfl) (λ _ _ _ => rfl) (λ _ _ _ _ => rfl)) λ _ _ _ => zeX
 have hf : ∀ f : SF, xm (yI (aC (f2 (fV 0) (fC (.int 0)) ixP) aN) yO) (gN 3) f [sT (zE n m J e Ds S), sT (zY J), sI e, none] = forL (gN 3) f (xf 0 n) [sT (zE n m J e Ds S), sT (zY J), sI e, none] := λ f => wU (ww (j := (n : Int)) (zy (yP (zb (i := 0) rfl) zf rfl rfl) zP) (by trivial) (by trivial)) (by rw [Int.toNat_natCast])
 have fin : ∀ x, Rt (zA (λ as => forL (gN 3) (sIf (Yb (fT (f2 (f2 (f2 (fV 1) (fV 2) ixP) (fV 3) ixP) (fV 3) (zL .NotEq))) (fT (f2 (f2 (f2 (fV 1) (fV 3) ixP) (fV 2) ixP) (fV 3) (zL .NotEq)))) (yh (yF (dC (fC (.str "nothing")) (dC (fV 3) dN)))) sNx) (xf 0 n) as) (yh (fC .non)) [sT (zE n m J e Ds S), sT (zY J), sI e, none]) x -> Rt (vR (yE 4 [(true, zE n m J e Ds S)])) x := λ x h => by
  refine zH s1 (zH s2 ?_)
  obtain ⟨o, a, b⟩ := h
  refine ⟨o, ?_, b⟩
  unfold zA at a ⊢
  rw [hf]
  exact a
 rcases k with ⟨k, p⟩ | ⟨⟨es, k⟩, p⟩
 · exact .inl ⟨fin _ k, p⟩
 · exact .inr ⟨⟨es, fin _ k⟩, p⟩
theorem zhq (n8 : n <= 8) (hJ : Tab n n J) : Flt (wM [(true, zE n m J e Ds S)]) (As n J) := by
 have s1 : zK true 1 (f2 (fV 0) (fC (.int 0)) ixP) [sT (zE n m J e Ds S), none, none, none, none, none] = some (.nx [sT (zE n m J e Ds S), sI n, none, none, none, none]) := yC (i := 1) (Zu (zb (i := 0) rfl) zf rfl) (zG rfl)
 have s2 : zK true 2 (f2 (fV 0) (fC (.int 2)) ixP) [sT (zE n m J e Ds S), sI n, none, none, none, none] = some (.nx [sT (zE n m J e Ds S), sI n, sT (zY J), none, none, none]) := yC (i := 2) (Zu (zb (i := 0) rfl) zf rfl) (zG rfl)
 have k := zmi (S := λ x y z => [sT (zE n m J e Ds S), sI n, sT (zY J), x, y, z]) (x := none) (y := none) (z := none) (vj := 2) (vn := 1) n8 hJ (λ _ _ _ => rfl) (λ _ _ _ => rfl) (λ _ _ _ => rfl) (λ _ _ _ => rfl) (λ _ _ _ => rfl) (λ _ _ _ _ => rfl) (λ _ _ _ _ => rfl) (λ _ _ _ _ => rfl)
 rw [<- ZD (v := 1) (n := n) (g := gN 3) (f := zpx 2 1) (as := [sT (zE n m J e Ds S), sI n, sT (zY J), none, none, none]) rfl (by trivial)] at k
 refine Flt.imp (P := As n J /\ True) (zhl (n := 6) (m := 1) (c := ZS) rfl ?_) ⟨λ z => z.1, λ z => ⟨z, trivial⟩⟩
 rcases zfg (g := yh (fC .non)) (Q := True) k λ _ _ _ => zeX with ⟨k, p⟩ | ⟨⟨es, k⟩, p⟩
 · exact .inl ⟨zH s1 (zH s2 k), p⟩
 · exact .inr ⟨⟨es, zH s1 (zH s2 k)⟩, p⟩
theorem zkb {s : Str} (n8 : n <= 8) (m1 : 1 <= m) (m6 : m <= 6) (hJ : Tab n n J) (hT : Tab m n T) : Flt (wO [(true, zE n m J e Ds S), (true, .str s), (true, zY T)]) (Dn n m J T) := by
 have k : zcw (forL (gN 6) (xm (yI (aC (fV 4) aN) yO) (gN 7) (xm (yI (aC (fV 3) aN) yO) (gN 8) (xm (yI (aC (fV 4) aN) yO) (gN 9) dfI))) (xf 0 n) (D10 n m J T e Ds S s none none none none)) (λ as => ∃ x y z w, as = D10 n m J T e Ds S s x y z w) (Dn n m J T) := by
  refine Vj (fr := sNx) (λ as => ∃ x y z w, as = D10 n m J T e Ds S s x y z w) _ (λ a ha as hI => ?_) ⟨_, _, _, _, rfl⟩
  obtain ⟨x, y, z, w, rfl⟩ := hI
  refine ⟨D10 n m J T e Ds S s (sI a) y z w, rfl, ?_⟩
  rw [ZD (v := 4) (n := m) rfl (by trivial)]
  have k := Vj (v := 7) (n := m) (fr := sNx) (f := xm (yI (aC (fV 3) aN) yO) (gN 8) (xm (yI (aC (fV 4) aN) yO) (gN 9) dfI)) (as := D10 n m J T e Ds S s (sI a) y z w) (λ as => ∃ y z w, as = D10 n m J T e Ds S s (sI a) y z w) (λ i => ∀ b, InR n b -> ∀ k, InR m k -> jAt T ((i + k) % m) (jAt J a b) = jAt J (jAt T i a) (jAt T k b)) (λ i hi as hI => by
   obtain ⟨y, z, w, rfl⟩ := hI
   refine ⟨D10 n m J T e Ds S s (sI a) (sI i) z w, rfl, ?_⟩
   rw [ZD (v := 3) (n := n) rfl (by trivial)]
   have k := Vj (v := 8) (n := n) (fr := sNx) (f := xm (yI (aC (fV 4) aN) yO) (gN 9) dfI) (as := D10 n m J T e Ds S s (sI a) (sI i) z w) (λ as => ∃ z w, as = D10 n m J T e Ds S s (sI a) (sI i) z w) (λ b => ∀ k, InR m k -> jAt T ((i + k) % m) (jAt J a b) = jAt J (jAt T i a) (jAt T k b)) (λ b hb as hI => by
    obtain ⟨z, w, rfl⟩ := hI
    refine ⟨D10 n m J T e Ds S s (sI a) (sI i) (sI b) w, rfl, ?_⟩
    rw [ZD (v := 4) (n := m) rfl (by trivial)]
    rcases df4 (s := s) (w := w) (e := e) (Ds := Ds) (S := S) hJ hT m1 ha hi hb with ⟨as', k1, ⟨w', rfl⟩, k3⟩ | k
    · exact .inl ⟨_, k1, ⟨_, _, rfl⟩, k3⟩
    · exact .inr k) ⟨_, _, rfl⟩
   rcases k with ⟨as', k1, ⟨z', w', rfl⟩, k3⟩ | k
   · exact .inl ⟨_, k1, ⟨_, _, _, rfl⟩, k3⟩
   · exact .inr k) ⟨_, _, _, rfl⟩
  rcases k with ⟨as', k1, ⟨y', z', w', rfl⟩, k3⟩ | k
  · exact .inl ⟨_, k1, ⟨_, _, _, _, rfl⟩, k3⟩
  · exact .inr k
 rw [<- ZD (v := 3) (n := n) (as := D10 n m J T e Ds S s none none none none) rfl (by trivial)] at k
 have s3 : zK true 3 (f2 (fV 0) (fC (.int 0)) ixP) [sT (zE n m J e Ds S), sT (.str s), sT (zY T), none, none, none, none, none, none, none] = some (.nx [sT (zE n m J e Ds S), sT (.str s), sT (zY T), sI n, none, none, none, none, none, none]) := yC (i := 3) (Zu (zb (i := 0) rfl) zf rfl) (zG rfl)
 have s4 : zK true 4 (f2 (fV 0) (fC (.int 1)) ixP) [sT (zE n m J e Ds S), sT (.str s), sT (zY T), sI n, none, none, none, none, none, none] = some (.nx [sT (zE n m J e Ds S), sT (.str s), sT (zY T), sI n, sI m, none, none, none, none, none]) := yC (i := 4) (Zu (zb (i := 0) rfl) zf rfl) (zG rfl)
 have s5 : zK true 5 (f2 (fV 0) (fC (.int 2)) ixP) [sT (zE n m J e Ds S), sT (.str s), sT (zY T), sI n, sI m, none, none, none, none, none] = some (.nx (D10 n m J T e Ds S s none none none none)) := yC (i := 5) (Zu (zb (i := 0) rfl) zf rfl) (zG rfl)
 refine Flt.imp (P := Dn n m J T /\ True) (zhl (n := 10) (m := 3) (c := Y9) rfl ?_) ⟨λ z => z.1, λ z => ⟨z, trivial⟩⟩
 rcases zfg (g := yh (fC .non)) (Q := True) k λ _ _ _ => zeX with ⟨k, p⟩ | ⟨⟨es, k⟩, p⟩
 · exact .inl ⟨zH s3 (zH s4 (zH s5 k)), p⟩
 · exact .inr ⟨⟨es, zH s3 (zH s4 (zH s5 k))⟩, p⟩
theorem zht (A : Alg n m J e Ds) (L : LawA n m J e Ds) : RE (v8 [(true, zE n m J e Ds S)]) .non := by
 have n8 := A.n8
 have m1 := A.m1
 have s1 : zK true 1 (f2 (fV 0) (fC (.int 3)) ixP) [sT (zE n m J e Ds S), none, none, none, none] = some (.nx [sT (zE n m J e Ds S), sI e, none, none, none]) := yC (i := 1) (Zu (zb (i := 0) rfl) zf rfl) (zG rfl)
 obtain ⟨as', hf, x, y, z, rfl⟩ := xT (g := gT 2 (gsC (gN 2) (gsC (gN 3) gsN))) (f := (zA (sIf (fT (f2 (f2 (f2 (fV 3) (fC (.int 0)) ixP) (fV 1) ixP) (fV 1) (zL .NotEq))) (yh (yF (dC (fC (.str "empty")) (dC (fV 2) dN)))) sNx)
  (zA (zK true 4 (zJ (aC (fV 0) (aC (fV 2) (aC (fV 3) aN))) wO))
  (sIf (fT (f2 (fV 4) (fC .non) (zL .IsNot))) (yh (fV 4)) sNx))))
  (λ i as => ∃ (x y z : Option O), as = [sT (zE n m J e Ds S), sI e, x, y, z])
  ((Ds.map wk).map λ d => (true, d)) 0 [sT (zE n m J e Ds S), sI e, none, none, none] (λ i x as hx' hI => by
    obtain ⟨x, y, z, rfl⟩ := hI
    rw [List.map_map, zzF] at hx'
    obtain ⟨p, hp, rfl⟩ := zzU.mp hx'
    have mp := List.mem_of_getElem? hp
    have hT := A.ds p mp
    obtain ⟨q1, _⟩ := Wn (as := [sT (zE n m J e Ds S), sI e, sT (.str p.1), sT (zY p.2), z]) hT (w := 0) (v := e) ⟨by trivial, by trivial⟩ ⟨A.e0, A.en⟩ (zb (i := 3) rfl) (zf (x := .int 0)) (zb (i := 1) rfl)
    have t1 := zld q1 (zb (i := 1) (x := .int e) (s := true) rfl)
    rw [(L.ld p mp).em, show (!(e == e)) = false by simp] at t1
    have d := (zkb (s := p.1) (e := e) (Ds := Ds) (S := S) n8 m1 A.m6 A.j hT).none (L.dn mp)
    exact ⟨[sT (zE n m J e Ds S), sI e, sT (.str p.1), sT (zY p.2), z], rfl, _, zZ (yD t1 rfl) (zZ (Z4 (p := 4) (zeV (WD.e (zb (i := 0) rfl)) (WD.e (zb (i := 2) rfl)) (WD.e (zb (i := 3) rfl)) d) (zG rfl)) (yD (yH (yP (zb (i := 4) rfl) zf rfl rfl) rfl) rfl)), _, _, _, rfl⟩)
  ⟨_, _, _, rfl⟩
 exact wK rfl (zH s1 (zH (wU (zlQ (Zu (zb (i := 0) rfl) zf rfl)) hf) (wH (WD.e zf))))
theorem zjp (A : Alg n m J e Ds) (L : LawA n m J e Ds) : RE (Zf [(true, zE n m J e Ds S)]) .non := by
 have r1 := (zhO (m := m) (Ds := Ds) (S := S) A.n8 A.j ⟨A.e0, A.en⟩).none L.un
 have r2 := (zhq (m := m) (e := e) (Ds := Ds) (S := S) A.n8 A.j).none L.as
 have r3 := zht (S := S) A L
 have tt : WT (fT (f2 (fV 1) (fC .non) (zL .Is))) [sT (zE n m J e Ds S), sT .non] true := yH (yP (zb (i := 1) rfl) zf rfl rfl) rfl
 exact wK rfl (zH (Z4 (p := 1) (zay (WD.e (zb (i := 0) rfl)) r1) (zG rfl)) (zH (Zc tt (Z4 (p := 1) (zay (WD.e (zb (i := 0) rfl)) r2) (zG rfl))) (zH (Zc tt (Z4 (p := 1) (zay (WD.e (zb (i := 0) rfl)) r3) (zG rfl))) (wH (WD.e (zb (i := 1) rfl))))))
end
open L2 (yM)
def mx (c k : Int) : Int := ((c % 2147483647 * 48271 + k * k * 69621 + 7919) % 2147483647 * ((c % 2147483647 * 48271 + k * k * 69621 + 7919) % 2147483647) + 16807 * ((c % 2147483647 * 48271 + k * k * 69621 + 7919) % 2147483647) + k) % 2147483629
abbrev St (x : Int) : Prop := 0 <= x /\ x < 2147483647
theorem zqK (c k : Int) : St (mx c k) := ⟨Int.emod_nonneg _ (by decide), Int.lt_trans (Int.emod_lt_of_pos _ (by decide)) (by decide)⟩
theorem zdy {c k : Int} {s t : Bool} (k0 : 0 <= k) (k1 : k <= 1000) : yJ [(s, .int c), (t, .int k)] = sI (mx c k) := by
 have c0 := Int.emod_nonneg c (show (2147483647 : Int) ≠ 0 by decide)
 have c1 := Int.emod_lt_of_pos c (show (0 : Int) < 2147483647 by decide)
 have kk0 : 0 <= k * k := Int.mul_nonneg k0 k0
 have kk1 : k * k <= 1000 * 1000 := Int.mul_le_mul k1 k1 k0 (by decide)
 have u0 := Int.emod_nonneg (c % 2147483647 * 48271 + k * k * 69621 + 7919) (show (2147483647 : Int) ≠ 0 by decide)
 have u1 := Int.emod_lt_of_pos (c % 2147483647 * 48271 + k * k * 69621 + 7919) (show (0 : Int) < 2147483647 by decide)
 have bk : k.natAbs < big := zT (by omega) (by omega)
 have bu : ((c % 2147483647 * 48271 + k * k * 69621 + 7919) % 2147483647).natAbs < big := zT (by omega) (by omega)
 exact WQ rfl (zZ (yC (i := 2) (yf (yN (yN (wI (yf (zb (i := 0) rfl) zf (by decide)) zf (zT (by omega) (by omega)) (zT (by decide) (by decide))) (wI (wI (zb (i := 1) rfl) (zb (i := 1) rfl) bk bk) zf (zT (by omega) (by omega)) (zT (by decide) (by decide)))) zf) zf (by decide)) (zG rfl))
  (Y8 (yf (yN (yN (wI (zb (i := 2) rfl) (zb (i := 2) rfl) bu bu) (wI zf (zb (i := 2) rfl) (zT (by decide) (by decide)) bu)) (zb (i := 1) rfl)) zf (by decide))))
theorem zcM {ns : List Int} {k : Int} {s t : Bool} (hk : 0 <= k) : ∃ x, zW [(s, .lst (ns.map .int)), (t, .int k)] = sT (.int x) := by
 by_cases h : k < ((ns.map D.int).length : Int)
 · obtain ⟨x, hx⟩ := zmf (ns := ns) hk (by rw [zD] at h; exact h)
   exact ⟨x, WQ rfl (VM (Zc (yH (zid (zb rfl) (ZQ (zy (zb rfl) zP) rfl rfl)) (congrArg some (decide_eq_true h))) (Y8 (yP (zb rfl) (zb rfl) hx rfl))))⟩
 · exact ⟨0, WQ rfl (zZ (yD (yH (zid (zb rfl) (ZQ (zy (zb rfl) zP) rfl rfl)) (congrArg some (decide_eq_false h))) rfl) (Y8 zf))⟩
theorem zjE {c : Int} {m : Nat} (h1 : m <= 900) : ∃ xs : List Int, xs.length = m /\ (∀ x ∈ xs, St x) /\ RE (yR [(true, .int c), (true, .int m)]) (zX xs) := by
 obtain ⟨as', hf, ys, r, e4, rfl, hl, hy⟩ := xT (g := gN 4) (f := sIf (fT (f2 (f2 (fV 0) (fC (.int 2)) (zp .Mod)) (fC (.int 0)) (zL .Eq))) (zA (yV (wF 2 (dC (f2 (fV 3) (fC (.int 1000000007)) (zp .Mod)) dN) v4)) (zK true 3 (f2 (fV 3) (fC (.int 1000000007)) (zp .FloorDiv)))) (yV (wF 2 (dC (zJ (aC (fV 3) (aC (fV 4) aN)) yJ) dN) v4)))
  (λ i as => ∃ (ys : List Int) (r : Int) (e4 : Option O), as = [sI c, sI m, sN (ys.map lfI), sI r, e4] /\ ys.length = i /\ ∀ y ∈ ys, St y)
  (xf 0 m) 0 [sI c, sI m, sN [], sI (c / 2), none] (λ i x as hx hI => by
   obtain ⟨ys, r, e4, rfl, hl, hy⟩ := hI
   obtain ⟨rfl, hi⟩ := xX hx
   have tt : WT (fT (f2 (f2 (fV 0) (fC (.int 2)) (zp .Mod)) (fC (.int 0)) (zL .Eq))) [sI c, sI m, sN (ys.map lfI), sI r, sI (0 + i)] (c % 2 == 0) := yH (zdv (c := c % 2 == 0) (yf (zb (i := 0) rfl) zf (by decide)) zf rfl) rfl
   refine ⟨[sI c, sI m, sN (ys.map lfI), sI r, sI (0 + i)], rfl, ?_⟩
   have fin : ∀ w, St w -> (ys ++ [w]).length = 0 + i + 1 /\ ∀ y ∈ ys ++ [w], St y := λ w hw => ⟨by rw [zzG, hl]; rfl, λ y m => (zzJ.mp m).elim (hy y) λ m => by rw [zzO.mp m]; exact hw⟩
   cases hb : (c % 2 == 0) with
   | true =>
    rw [hb] at tt
    have w0 := Int.emod_nonneg r (show (1000000007 : Int) ≠ 0 by decide)
    have w1 := Int.emod_lt_of_pos r (show (0 : Int) < 1000000007 by decide)
    have ap := zdD (i := 2) (as := [sI c, sI m, sN (ys.map lfI), sI r, sI (0 + i)]) rfl (by rw [zD]; exact yM (by omega)) (yf (zb (i := 3) rfl) (zf (x := .int 1000000007)) (by decide))
    rw [<- W8] at ap
    exact ⟨_, Zc tt (zZ ap (yC (i := 3) (xZ (zb (i := 3) rfl) zf (by decide) (zT (by decide) (by decide))) (zG rfl))), ys ++ [r % 1000000007], _, _, rfl, fin _ ⟨w0, by omega⟩⟩
   | false =>
    rw [hb] at tt
    have ap := zdD (i := 2) (as := [sI c, sI m, sN (ys.map lfI), sI r, sI (0 + i)]) rfl (by rw [zD]; exact yM (by omega)) (vq (zy (zb (i := 3) rfl) (zy (zb (i := 4) rfl) zP)) (zdy (c := r) (k := 0 + i) (by omega) (by omega)))
    rw [<- W8] at ap
    exact ⟨_, yD tt ap, ys ++ [mx r (0 + i)], _, _, rfl, fin _ (zqK _ _)⟩)
  ⟨[], c / 2, none, rfl, rfl, λ _ m => nomatch m⟩
 rw [yL] at hl
 refine ⟨ys, by omega, hy, wK rfl (zH (xY (i := 2) (Yp yG (szl rfl)) (zG rfl)) (zH (yC (i := 3) (xZ (zb (i := 0) rfl) zf (by decide) (zT (by decide) (by decide))) (zG rfl)) (zH (wU (ww (zy (zb (i := 1) rfl) zP) (by omega) (by omega)) hf) ⟨_, zcH (i := 2) rfl (wW ys).2.1, (Vb ys).1, (Vb ys).2⟩)))⟩
theorem stE {a b : EF} {as : AS} {c : Int} {m : Nat} (hm : m <= 900) (ha : WE a as (.int c)) (hb : WE b as (.int m)) : ∃ xs : List Int, xs.length = m /\ (∀ x ∈ xs, St x) /\ WE (zJ (aC a (aC b aN)) yR) as (zX xs) := by
 obtain ⟨xs, h1, h2, h3⟩ := zjE (c := c) (m := m) hm
 exact ⟨xs, h1, h2, zkU ha hb h3⟩
theorem at2 {xs : List Int} (h : ∀ x ∈ xs, St x) {k : Int} (h0 : 0 <= k) (h1 : k < xs.length) : ∃ x, ixP (zX xs) (.int k) = some (.im (.int x)) /\ St x := zqe h0 h1 h
theorem zjA {n m : Nat} (hn : 0 < n) (hn2 : n <= 8) (hm : m <= 8) : ∃ g : Int, 0 < g /\ g < 1000 /\ g ∣ (n : Int) /\ g ∣ (m : Int) /\ vA [(true, .int n), (true, .int m)] = sI g := by
 obtain ⟨g, e, g0, g1, d1, d2, hg⟩ := zhN m n 10000 (by trivial) (by trivial) (by trivial) (by trivial)
 exact ⟨g, g0, g1, d1, d2, WQ rfl (zZ hg (Y8 (zb rfl)))⟩
theorem eqT {a b : EF} {as : AS} {x y : Int} {s t q : Bool} (ha : WD a as s (.int x)) (hb : WD b as t (.int y)) (e : (x == y) = q) : WT (fT (f2 a b (zL .Eq))) as q := yH (zdv (c := q) ha hb (congrArg some e)) rfl
theorem zaV {k : Int} {n : Nat} {a b : Int} (h : KN k n) (ha : InR n a) (hb : InR n b) : zO [(true, .int k), (true, .int n), (true, .int a), (true, .int b)] = sI (jK k n a b) := by
 rcases h with ⟨rfl, hn⟩ | ⟨rfl, hn⟩ | ⟨rfl, hn⟩ | ⟨rfl, rfl⟩
 · exact WQ rfl (VM (Zc (eqT (zb (i := 0) rfl) zf rfl) (Y8 (yf (yN (zb (i := 2) rfl) (zb (i := 3) rfl)) (zb (i := 1) rfl) (by omega)))))
 · exact WQ rfl (zZ (yD (eqT (zb (i := 0) rfl) zf rfl) rfl) (VM (Zc (eqT (zb (i := 0) rfl) zf rfl) (Y8 (ZQ (zy (zb (i := 2) rfl) (zy (zb (i := 3) rfl) zP)) rfl rfl)))))
 · exact WQ rfl (zZ (yD (eqT (zb (i := 0) rfl) zf rfl) rfl) (zZ (yD (eqT (zb (i := 0) rfl) zf rfl) rfl) (VM (Zc (eqT (zb (i := 0) rfl) zf rfl) (Y8 (f2E (ZC (os := [lfI b, lfI a]) (z9 (zb (i := 3) rfl) (z9 (zb (i := 2) rfl) yG)) (szl rfl) rfl rfl) (WD.e (ZQ (zy (zdv (zb (i := 3) rfl) zf rfl) zP) rfl rfl)) (zki.trans (by show _ = some (R0.im (.int (jL a b))); unfold jL; by_cases h : b = 0 <;> simp [h]))))))))
 · have P : ∀ a ∈ ([0, 1, 2, 3] : List Int), ∀ b ∈ ([0, 1, 2, 3] : List Int), zO [(true, .int 3), (true, .int (4 : Nat)), (true, .int a), (true, .int b)] = sI (jK 3 4 a b) := by
    intro a ma b mb
    simp only [zS, List.not_mem_nil, or_false] at ma mb
    rcases ma with rfl | rfl | rfl | rfl <;> rcases mb with rfl | rfl | rfl | rfl <;> rfl
   exact f4 (P := λ a => zO [(true, .int 3), (true, .int (4 : Nat)), (true, .int a), (true, .int b)] = sI (jK 3 4 a b)) (λ a m => f4 (P := λ b => zO [(true, .int 3), (true, .int (4 : Nat)), (true, .int a), (true, .int b)] = sI (jK 3 4 a b)) (P a m) hb) ha
open L2 (yM)
abbrev imB : SF := (zA (zK true 2 (f2 (fV 2) (fV 1) (zp .FloorDiv)))
 (yV (wF 3 (dC (f2 (vd (dC (f2 (fV 2) (fV 1) (zp .Mod)) (dC (f2 (fC (.int 1)) (f2 (fV 2) (f2 (fV 1) (fC (.int 1)) (zp .Sub)) (zp .Mod)) (zp .Add)) dN))) (f2 (fV 0) (fC (.int 1)) (zp .Sub)) ixP) dN) v4)))
theorem zlq {k x : Int} {n : Nat} (hk : k = 1 \/ k = 2) (hn : 1 <= n) (hn2 : n <= 8) : ∃ (ys : List Int) (z : Int) (e4 : Option O), ys.length = n - 1 /\ (∀ y ∈ ys, InR n y /\ (k = 2 -> 1 <= y)) /\ forL (gN 4) imB (xf 1 (n - 1)) [sI k, sI n, sI x, sN [], none] = some (.nx [sI k, sI n, sI z, sN (ys.map lfI), e4]) := by
 obtain ⟨as', hf, ys, z, e4, rfl, hl, hy⟩ := xT (g := gN 4) (f := imB)
  (λ i as => ∃ (ys : List Int) (z : Int) (e4 : Option O), as = [sI k, sI n, sI z, sN (ys.map lfI), e4] /\ ys.length = i /\ ∀ y ∈ ys, InR n y /\ (k = 2 -> 1 <= y))
  (xf 1 (n - 1)) 0 [sI k, sI n, sI x, sN [], none] (λ i y as hx hI => by
   obtain ⟨ys, z, e4, rfl, hl, hy⟩ := hI
   obtain ⟨rfl, hi⟩ := xX hx
   have m0 := Int.emod_nonneg (z / n) (show (n : Int) ≠ 0 by omega)
   have m1 := Int.emod_lt_of_pos (z / n) (show (0 : Int) < n by omega)
   have q0 := Int.emod_nonneg (z / n) (show (n : Int) - 1 ≠ 0 by omega)
   have q1 := Int.emod_lt_of_pos (z / n) (show (0 : Int) < (n : Int) - 1 by omega)
   have hp : ixP (.lst [.int (z / n % n), .int (1 + z / n % (n - 1))]) (.int (k - 1)) = some (.im (.int (if k = 1 then z / n % n else 1 + z / n % (n - 1)))) := by rcases hk with rfl | rfl <;> rfl
   have ap := zdD (i := 3) (as := [sI k, sI n, sI (z / n), sN (ys.map lfI), sI (1 + i)]) rfl (by rw [zD]; exact yM (by omega)) (f2E (ZC (os := [lfI (z / n % n), lfI (1 + z / n % (n - 1))]) (z9 (yf (zb (i := 2) rfl) (zb (i := 1) rfl) (by omega)) (z9 (yN zf (yf (zb (i := 2) rfl) (zft (zb (i := 1) rfl) zf) (by omega))) yG)) (szl rfl) rfl rfl) (WD.e (zft (zb (i := 0) rfl) zf)) hp)
   rw [<- W8] at ap
   refine ⟨_, rfl, _, zZ (yC (i := 2) (xZ (zb (i := 2) rfl) (zb (i := 1) rfl) (by omega) (zT (by omega) (by omega))) (zG rfl)) ap, _, _, _, rfl, by rw [zzG, hl]; rfl, λ y m => (zzJ.mp m).elim (hy y) λ m => ?_⟩
   rw [zzO.mp m]
   rcases hk with rfl | rfl
   · rw [if_pos rfl]; exact ⟨⟨m0, m1⟩, λ h => nomatch h⟩
   · rw [if_neg (by decide)]; exact ⟨⟨by omega, by omega⟩, λ _ => by omega⟩)
  ⟨[], x, none, rfl, rfl, λ _ m => nomatch m⟩
 rw [yL] at hl
 exact ⟨ys, z, e4, by omega, hy, hf⟩
theorem zje {k x : Int} {n m : Nat} (h : KN k n) (h0 : k ≠ 0) (hn2 : n <= 8) (hm : 0 < m) : ∃ r, Row n r /\ LD n m (jK k n) (eK k) (λ _ a => rAt r a) /\ RE (Zk [(true, .int k), (true, .int n), (true, .int x)]) (zX r) := by
 have n1 := h.n1
 rcases h with ⟨rfl, hn⟩ | ⟨rfl, hn⟩ | ⟨rfl, hn⟩ | ⟨rfl, rfl⟩
 · exact absurd rfl h0
 · obtain ⟨ys, z, e4, l1, l2, hf⟩ := zlq (k := 1) (x := x) (n := n) (.inl rfl) hn hn2
   have hp := sortI_perm ys
   have hlen : (sortI ys).length = n - 1 := by rw [hp.length_eq, l1]
   have hr : Row n (0 :: sortI ys) := ⟨by rw [zzQ, hlen]; omega, λ y m => by
    rcases zS.mp m with rfl | m
    · omega
    · exact (l2 y (hp.mem_iff.mp m)).1⟩
   have s3 := xY (i := 3) (as := [sI 1, sI n, sI z, sN (ys.map lfI), e4]) (zpz (i := 3) (g := zka) (zs := (sortI ys).map D.int) rfl (by
    show (Wx (ys.map D.int)).bind _ = _
    rw [zgM]
    show (if ys.length < 64 then _ else _) = _
    rw [if_pos (by omega)])) (zG rfl)
   rw [zil] at s3
   refine ⟨_, hr, ldM hm rfl (λ a ha => (rowAt hr ha).2) λ a b ha hb hab => ?_, wK rfl (zH (yD (eqT (zb (i := 0) rfl) zf rfl) rfl) (zH (xY (i := 3) (Yp yG (szl rfl)) (zG rfl)) (zH (wU (zgo (i := 1) (j := n) (zy zf (zy (zb (i := 1) rfl) zP)) (by omega) (by omega) (by omega) (by omega)) (by rw [show ((n : Int) - 1).toNat = n - 1 by omega]; exact hf)) (zH (Zc (eqT (zb (i := 0) rfl) zf rfl) s3) (wH (znT (i := 3) (xs := sortI ys) (ds := [.int 0]) (ZC (os := [lfI 0]) (z9 zf yG) (szl rfl) rfl rfl) rfl (by rw [hlen]; show 1 + _ <= _; omega)))))))⟩
   by_cases he : a = b
   · rw [he]; exact Int.le_refl _
   have a0 := ha.1
   have b1 := hb.2
   have hs : (0 :: sortI ys).Pairwise (· <= ·) := List.pairwise_cons.mpr ⟨λ y m => (l2 y (hp.mem_iff.mp m)).1.1, XF ys⟩
   rw [XJ (by rw [hr.1]; omega), XJ (by rw [hr.1]; omega)]
   exact zjx hs (by omega) (by rw [hr.1]; omega)
 · obtain ⟨ys, z, e4, l1, l2, hf⟩ := zlq (k := 2) (x := x) (n := n) (.inr rfl) hn hn2
   have hr : Row n (0 :: ys) := ⟨by rw [zzQ, l1]; omega, λ y m => by
    rcases zS.mp m with rfl | m
    · omega
    · exact (l2 y m).1⟩
   refine ⟨_, hr, ldL rfl (λ a ha => (rowAt hr ha).2) λ a ha ha0 => ?_, wK rfl (zH (yD (eqT (zb (i := 0) rfl) zf rfl) rfl) (zH (xY (i := 3) (Yp yG (szl rfl)) (zG rfl)) (zH (wU (zgo (i := 1) (j := n) (zy zf (zy (zb (i := 1) rfl) zP)) (by omega) (by omega) (by omega) (by omega)) (by rw [show ((n : Int) - 1).toNat = n - 1 by omega]; exact hf)) (zH (yD (eqT (zb (i := 0) rfl) zf rfl) rfl) (wH (znT (i := 3) (xs := ys) (ds := [.int 0]) (ZC (os := [lfI 0]) (z9 zf yG) (szl rfl) rfl rfl) rfl (by rw [l1]; show 1 + _ <= _; omega)))))))⟩
   have a0 := ha.1
   have a1 := ha.2
   have hk : a.toNat < (0 :: ys).length := by rw [hr.1]; omega
   rw [XJ hk]
   obtain ⟨j, ek⟩ : ∃ j, a.toNat = j + 1 := ⟨a.toNat - 1, by omega⟩
   have : (0 :: ys)[a.toNat] = ys[j]'(by rw [zzQ] at hk; omega) := by simp only [ek, List.getElem_cons_succ]
   rw [this]
   have := (l2 _ (List.getElem_mem (show j < ys.length by rw [zzQ] at hk; omega))).2 rfl
   omega
 · obtain ⟨r, r1, r2⟩ := zio (f := λ a => if x % 2 = 0 then a else sP a) (N := 4) (n := 4) (u := true) (as := [sI 3, sI (4 : Nat), sI x, none, none]) (cap := [none, some 2]) (fr := aC (fV 1) aN) (fe := f2 (vd (dC (fV 0) (dC (f2 (f2 (f2 (fC (.int 2)) (f2 (fC (.int 1)) (f2 (fV 0) (fC (.int 2)) (zp .Mod)) (zp .Sub)) (zp .Mult)) (fC (.int 1)) (zp .Add)) (f2 (fV 0) (fC (.int 2)) (zp .FloorDiv)) (zp .Sub)) dN))) (f2 (fV 1) (fC (.int 2)) (zp .Mod)) ixP) (zy (zb rfl) zP) (by omega) λ b hb => by
    have b0 := hb.1
    have b1 := hb.2
    refine ⟨[sI b, sI x], rfl, zoa (ZC (os := [lfI b, lfI (2 * (1 - b % 2) + 1 - b / 2)]) (z9 (zb (i := 0) rfl) (z9 (zft (yN (wI zf (zft zf (yf (zb (i := 0) rfl) zf (by decide))) (zT (by decide) (by decide)) (zT (by omega) (by omega))) zf) (xZ (zb (i := 0) rfl) zf (by decide) (zT (by decide) (by decide)))) yG)) (szl rfl) rfl rfl) (WD.e (yf (zb (i := 1) rfl) zf (by decide))) zjK, ?_⟩
    show InR 4 (if x % 2 = 0 then b else sP b)
    split
    · exact hb
    · exact f4 (P := λ a => InR 4 (sP a)) (by decide) hb
   refine ⟨r, ⟨r1.1, r1.2.1⟩, ldP ?_, wK rfl (zbc (zdT (eqT (zb (i := 0) rfl) zf rfl) (wH r2)))⟩
   by_cases hx : x % 2 = 0
   · exact .inl λ a ha => (r1.2.2 a ha).trans (if_pos hx)
   · exact .inr λ a ha => (r1.2.2 a ha).trans (if_neg hx)
theorem zcT {k x : Int} {n m : Nat} (h : KN k n) (hn2 : n <= 8) (hm0 : 0 < m) (hm : m <= 8) (hx : St x) : ∃ T, Tab m n T /\ LD n m (jK k n) (eK k) (jAt T) /\ RE (yU [(true, .int k), (true, .int n), (true, .int m), (true, .int x)]) (zY T) := by
 have n1 := h.n1
 have hJ := ljK h
 by_cases h0 : k = 0
 · subst h0
   obtain ⟨g, g0, g1, gn, gm, hg⟩ := zjA (n := n) (m := m) n1 hn2 hm
   have q0 : 0 <= (n : Int) / g := Int.ediv_nonneg (by omega) (by omega)
   have q1 : (n : Int) / g <= n := Int.ediv_le_self _ (by omega)
   have hLD := ldS (x0 := x % 8) (x1 := x / 8 % 8) n1 hm0 g0 gn gm
   have hd : WD (f2 (fV 1) (zJ (aC (fV 1) (aC (fV 2) aN)) vA) (zp .FloorDiv)) [sI 0, sI n, sI m, sI x, none, none] true (.int ((n : Int) / g)) := xZ (zb (i := 1) rfl) (vq (zy (zb (i := 1) rfl) (zy (zb (i := 2) rfl) zP)) hg) g0 (zT (by omega) (by omega))
   generalize (n : Int) / g = q at q0 q1 hLD hd
   have y0 := Int.emod_nonneg (x / 8) (show (8 : Int) ≠ 0 by decide)
   have y1 := Int.emod_lt_of_pos (x / 8) (show (0 : Int) < 8 by decide)
   have z0 := Int.emod_nonneg x (show (8 : Int) ≠ 0 by decide)
   have z1 := Int.emod_lt_of_pos x (show (0 : Int) < 8 by decide)
   have s5 := yC (st := true) (i := 5) (as := [sI 0, sI n, sI m, sI x, none, none]) (wI hd (yf (xZ (zb (i := 3) rfl) (zf (x := .int 8)) (by decide) (zT (by decide) (by decide))) (zf (x := .int 8)) (by decide)) (zT (by omega) (by omega)) (zT (by omega) (by omega))) (zG rfl)
   have st0 : 0 <= q * (x / 8 % 8) := Int.mul_nonneg q0 y0
   have st1 : q * (x / 8 % 8) <= 8 * 8 := Int.mul_le_mul (by omega) (by omega) y0 (by decide)
   obtain ⟨T, t1, t2⟩ := ziN (f := λ c a => (x % 8 * a + q * (x / 8 % 8) * c) % n) (n := n) (k := m) (u := true) (as := [sI 0, sI n, sI m, sI x, none, sI (q * (x / 8 % 8))]) (cap := [none, some 1, some 5, some 3]) (fr := aC (fV 2) aN)
    (fe := yp (yI (aC (fV 1) aN) yO) [none, some 1, some 2, some 0, some 3] (gN 0) xr (f2 (f2 (f2 (f2 (fV 4) (fC (.int 8)) (zp .Mod)) (fV 0) (zp .Mult)) (f2 (fV 2) (fV 3) (zp .Mult)) (zp .Add)) (fV 1) (zp .Mod))) (zy (zb rfl) zP) (by omega) λ c hc => by
     have c0 := hc.1
     have c1 := hc.2
     obtain ⟨r, r1, r2⟩ := zio (f := λ a => (x % 8 * a + q * (x / 8 % 8) * c) % n) (N := n) (n := n) (u := true) (as := [sI c, sI n, sI (q * (x / 8 % 8)), sI x]) (cap := [none, some 1, some 2, some 0, some 3]) (fr := aC (fV 1) aN) (fe := f2 (f2 (f2 (f2 (fV 4) (fC (.int 8)) (zp .Mod)) (fV 0) (zp .Mult)) (f2 (fV 2) (fV 3) (zp .Mult)) (zp .Add)) (fV 1) (zp .Mod)) (zy (zb rfl) zP) (by omega) λ b hb => by
      have b0 := hb.1
      have b1 := hb.2
      exact ⟨[sI b, sI n, sI (q * (x / 8 % 8)), sI c, sI x], rfl, WD.e (yf (yN (wI (yf (zb (i := 4) rfl) zf (by decide)) (zb (i := 0) rfl) (zT (by omega) (by omega)) (zT (by omega) (by omega))) (wI (zb (i := 2) rfl) (zb (i := 3) rfl) (zT (by omega) (by omega)) (zT (by omega) (by omega)))) (zb (i := 1) rfl) (by omega)), zeh n1⟩
     exact ⟨[sI c, sI n, sI (q * (x / 8 % 8)), sI x], r, rfl, r2, r1⟩
   refine ⟨T, t1.1, hLD.congr hm0 (ljS n1) (λ _ _ _ _ => rfl) (λ c a hc ha => ?_), wK rfl (zH (yD (yH (zgq (zb (i := 0) rfl) zf) rfl) rfl) (zH s5 (wH t2)))⟩
   rw [t1.2 c a hc ha]
   show (x % 8 * a + q * (x / 8 % 8) * c) % (n : Int) = (a * (x % 8) + c * q * (x / 8 % 8)) % (n : Int)
   rw [Int.mul_comm (x % 8) a, Int.mul_comm (q * (x / 8 % 8)) c, Int.mul_assoc c q]
 · have hk : 0 < k := by rcases h with ⟨rfl, _⟩ | ⟨rfl, _⟩ | ⟨rfl, _⟩ | ⟨rfl, _⟩ <;> omega
   obtain ⟨r, hr, hd, hi⟩ := zje (x := x) h h0 hn2 hm0
   obtain ⟨T, t1, t2⟩ := copies (n := n) (m := m) (s := true) (u := true) (cap := [none, some 4]) (as := [sI k, sI n, sI m, sI x, sT (zX r), none]) (fr := aC (fV 2) aN) hr hm (zy (zb rfl) zP) (λ b => ⟨[sI b, sT (zX r)], rfl, zb rfl⟩)
   exact ⟨T, t1.1, hd.congr hm0 hJ (λ _ _ _ _ => rfl) t1.2, wK rfl (zbc (zdT (yH (zgq (zb (i := 0) rfl) zf) (congrArg some (decide_eq_true hk))) (zH (Z4 (p := 4) (zeV (WD.e (zb (i := 0) rfl)) (WD.e (zb (i := 1) rfl)) (WD.e (zb (i := 3) rfl)) hi) (zG rfl)) (wH t2))))⟩
open L2 (yM)
theorem kinds_ok {x : Int} : ∃ (k : Int) (n : Nat) (k2 : Int) (n2 : Nat), KN k n /\ KN k2 n2 /\ n * n2 <= 8 /\ eK k2 = 0 /\ RE (vX [(true, .int x)]) (.tup [.int k, .int n, .int k2, .int n2]) := by
 have s1 : zK true 1 (f2 (fV 0) (fC (.int 4)) (zp .Mod)) [sI x, none, none, none] = some (.nx [sI x, sI (x % 4), none, none]) := yC (i := 1) (yf (zb (i := 0) rfl) zf (by decide)) (zG rfl)
 obtain ⟨sz, z1, z8, s2⟩ : ∃ sz : Int, 1 <= sz /\ sz <= 8 /\ zK true 2 (f2 (vd (dC (f2 (fC (.int 1)) (f2 (f2 (fV 0) (fC (.int 4)) (zp .FloorDiv)) (fC (.int 5)) (zp .Mod)) (zp .Add)) (dC (f2 (fC (.int 1)) (f2 (f2 (fV 0) (fC (.int 4)) (zp .FloorDiv)) (fC (.int 8)) (zp .Mod)) (zp .Add)) dN))) (fP (aC (f2 (f2 (f2 (fV 0) (fC (.int 40)) (zp .FloorDiv)) (fC (.int 4)) (zp .Mod)) (fC (.int 1)) (zL .Eq)) aN) Xm) ixP) [sI x, sI (x % 4), none, none] = some (.nx [sI x, sI (x % 4), sI sz, none]) := by
  have w5 := yN (as := [sI x, sI (x % 4), none, none]) (zf (x := .int 1)) (yf (xZ (zb (i := 0) rfl) (zf (x := .int 4)) (by decide) (zT (by decide) (by decide))) (zf (x := .int 5)) (by decide))
  have w8 := yN (as := [sI x, sI (x % 4), none, none]) (zf (x := .int 1)) (yf (xZ (zb (i := 0) rfl) (zf (x := .int 4)) (by decide) (zT (by decide) (by decide))) (zf (x := .int 8)) (by decide))
  refine ⟨if (x / 40 % 4 == 1) = true then 1 + x / 4 % 8 else 1 + x / 4 % 5, by split <;> omega, by split <;> omega, yC (i := 2) (f2E (ZC (os := [lfI (1 + x / 4 % 5), lfI (1 + x / 4 % 8)]) (z9 w5 (z9 w8 yG)) (szl rfl) rfl rfl) (WD.e (ZQ (zy (zdv (c := x / 40 % 4 == 1) (yf (xZ (zb (i := 0) rfl) (zf (x := .int 40)) (by decide) (zT (by decide) (by decide))) (zf (x := .int 4)) (by decide)) (zf (x := .int 1)) rfl) zP) rfl rfl)) zki) (zG rfl)⟩
 obtain ⟨n, hk, n8, s3⟩ : ∃ n : Nat, KN (x % 4) n /\ n <= 8 /\ sIf (fT (f2 (fV 1) (fC (.int 3)) (zL .Eq))) (zK true 2 (fC (.int 4))) sNx [sI x, sI (x % 4), sI sz, none] = some (.nx [sI x, sI (x % 4), sI n, none]) := by
  by_cases h3 : x % 4 = 3
  · exact ⟨4, by rw [h3]; exact .inr (.inr (.inr ⟨rfl, rfl⟩)), by decide, Zc (eqT (zb (i := 1) rfl) zf (by simp [h3])) (yC (i := 2) zf (zG rfl))⟩
  · refine ⟨sz.toNat, ?_, by omega, (yD (eqT (zb (i := 1) rfl) zf (by simp [h3])) rfl).trans (by rw [show ((sz.toNat : Nat) : Int) = sz by omega]; rfl)⟩
    rcases (show x % 4 = 0 \/ x % 4 = 1 \/ x % 4 = 2 by omega) with h | h | h <;> rw [h]
    · exact .inl ⟨rfl, by omega⟩
    · exact .inr (.inl ⟨rfl, by omega⟩)
    · exact .inr (.inr (.inl ⟨rfl, by omega⟩))
 have s4 : zK true 3 (f2 (fC (.int 1)) (f2 (f2 (fV 0) (fC (.int 160)) (zp .FloorDiv)) (fC (.int 3)) (zp .Mod)) (zp .Add)) [sI x, sI (x % 4), sI n, none] = some (.nx [sI x, sI (x % 4), sI n, sI (1 + x / 160 % 3)]) := yC (i := 3) (yN zf (yf (xZ (zb (i := 0) rfl) zf (by decide) (zT (by decide) (by decide))) zf (by decide))) (zG rfl)
 have n1 := hk.n1
 obtain ⟨n2, p2, q2, s5⟩ : ∃ n2 : Nat, 1 <= n2 /\ n * n2 <= 8 /\ sIf (fT (f2 (f2 (fV 2) (fV 3) (zp .Mult)) (fC (.int 8)) (zL .Gt))) (zK true 3 (fC (.int 1))) sNx [sI x, sI (x % 4), sI n, sI (1 + x / 160 % 3)] = some (.nx [sI x, sI (x % 4), sI n, sI n2]) := by
  have wm := zgq (wI (as := [sI x, sI (x % 4), sI n, sI (1 + x / 160 % 3)]) (zb (i := 2) rfl) (zb (i := 3) rfl) (zT (i := (n : Int)) (by omega) (by omega)) (zT (i := 1 + x / 160 % 3) (by omega) (by omega))) (zf (x := .int 8))
  by_cases h : (8 : Int) < (n : Int) * (1 + x / 160 % 3)
  · exact ⟨1, by decide, by omega, Zc (yH wm (congrArg some (decide_eq_true h))) (yC (i := 3) zf (zG rfl))⟩
  · have e : (((1 + x / 160 % 3).toNat : Nat) : Int) = 1 + x / 160 % 3 := by omega
    refine ⟨(1 + x / 160 % 3).toNat, by omega, ?_, (yD (yH wm (congrArg some (decide_eq_false h))) rfl).trans (by rw [e]; rfl)⟩
    have : ((n * (1 + x / 160 % 3).toNat : Nat) : Int) <= 8 := by rw [zzS, e]; omega
    omega
 have w7 := yf (as := [sI x, sI (x % 4), sI n, sI n2]) (xZ (zb (i := 0) rfl) (zf (x := .int 480)) (by decide) (zT (by decide) (by decide))) (zf (x := .int 3)) (by decide)
 refine ⟨x % 4, n, x / 480 % 3, n2, hk, ?_, q2, ?_, wK rfl (zH s1 (zH s2 (zH s3 (zH s4 (zH s5 (wH (zmG (os := [lfI (x % 4), lfI n, lfI (x / 480 % 3), lfI n2]) (z9 (zb (i := 1) rfl) (z9 (zb (i := 2) rfl) (z9 w7 (z9 (zb (i := 3) rfl) yG)))) (szl rfl) rfl rfl))))))) ⟩
 · rcases (show x / 480 % 3 = 0 \/ x / 480 % 3 = 1 \/ x / 480 % 3 = 2 by omega) with h | h | h <;> rw [h]
   · exact .inl ⟨rfl, by omega⟩
   · exact .inr (.inl ⟨rfl, by omega⟩)
   · exact .inr (.inr (.inl ⟨rfl, by omega⟩))
 · exact if_neg (by omega)
abbrev ch (c : Nat) : Str := ⟨#[c]⟩
theorem zhW : ∀ cs : List Nat, (Str.join "" (cs.map ch)).cps.toList = cs
 | [] => rfl
 | [x] => rfl
 | x :: y :: r => by
  show (ch x ++ "" ++ Str.join "" ((y :: r).map ch)).cps.toList = _
  rw [Str.cps_append, Str.cps_append, Array.toList_append, Array.toList_append, zhW (y :: r)]
  rfl
def lt (c : Int) (k : Nat) (at_ : Int) (i : Nat) : Nat := 97 + ((mx c i / 64 + (k : Int) * (if ((i : Int) == at_) = true then 1 else 0)) % 26).toNat
def wd (c : Int) (n : Nat) (at_ : Int) (k : Nat) : Str := Str.join "" (((List.range n).map (lt c k at_)).map ch)
theorem zoN {c at_ : Int} {n k j : Nat} (h0 : 0 <= at_) (h1 : at_ < n) (hk : k < 10) (hj : j < 10) (h : wd c n at_ k = wd c n at_ j) : k = j := by
 have h := congrArg (λ s : Str => s.cps.toList[at_.toNat]?) h
 simp only [wd, zhW, zzF] at h
 rw [List.getElem?_range (by omega)] at h
 have h : some (lt c k at_ at_.toNat) = some (lt c j at_ at_.toNat) := h
 injection h with h
 unfold lt at h
 rw [show ((at_.toNat : Nat) : Int) = at_ by omega] at h
 simp only [beq_self_eq_true, if_true, Int.mul_one] at h
 omega
theorem zkq {c : Int} : ∃ ss : List Str, ss.length = 10 /\ ss.Nodup /\ RE (vY [(true, .int c), (true, .int (10 : Nat))]) (.lst (ss.map D.str)) := by
 have z0 := Int.emod_nonneg c (show (8 : Int) ≠ 0 by decide)
 have z1 := Int.emod_lt_of_pos c (show (0 : Int) < 8 by decide)
 obtain ⟨n, hn, hn1, hn8⟩ : ∃ n : Nat, (n : Int) = 1 + c % 8 /\ 1 <= n /\ n <= 8 := ⟨(1 + c % 8).toNat, by omega, by omega, by omega⟩
 have t0 := Int.emod_nonneg (c / 8) (show (n : Int) ≠ 0 by omega)
 have t1 := Int.emod_lt_of_pos (c / 8) (show (0 : Int) < n by omega)
 have s3 := yC (st := true) (i := 3) (as := [sI c, sI (10 : Nat), sT (.str abc), none, none, none, none, none]) (yN (zf (x := .int 1)) (yf (zb (i := 0) rfl) (zf (x := .int 8)) (by decide))) (zG rfl)
 rw [<- hn] at s3
 have s4 := yC (st := true) (i := 4) (as := [sI c, sI (10 : Nat), sT (.str abc), sI n, none, none, none, none]) (yf (xZ (zb (i := 0) rfl) (zf (x := .int 8)) (by decide) (zT (by decide) (by decide))) (zb (i := 3) (x := .int n) (s := true) rfl) (by omega)) (zG rfl)
 generalize hat : c / 8 % (n : Int) = at_ at t0 t1 s4
 obtain ⟨as', hf, os, e6, e7, rfl, ho⟩ := xT (g := gN 6) (f := (zA (zK true 7 (yp (yI (aC (fV 3) aN) yO) [none, some 2, some 6, some 0, some 4] (gN 0) xr (f2 (fV 1) (f2 (f2 (f2 (zJ (aC (fV 3) (aC (fV 0) aN)) yJ) (fC (.int 64)) (zp .FloorDiv)) (f2 (fV 2) (fP (aC (f2 (fV 0) (fV 4) (zL .Eq)) aN) Xm) (zp .Mult)) (zp .Add)) (fC (.int 26)) (zp .Mod)) ixP)))
  (yV (wF 5 (dC (zdh .str (fC (.str "")) (aC (fV 7) aN) zgX) dN) v4))))
  (λ i as => ∃ (os : List O) (e6 e7 : Option O), as = [sI c, sI (10 : Nat), sT (.str abc), sI n, sI at_, sN os, e6, e7] /\ Ows D.str (λ _ => True) os ((List.range i).map (wd c n at_)))
  (xf 0 10) 0 [sI c, sI (10 : Nat), sT (.str abc), sI n, sI at_, sN [], none, none] (λ i x as hx' hI => by
   obtain ⟨os, e6, e7, rfl, ho⟩ := hI
   obtain ⟨rfl, hi⟩ := xX hx'
   rw [Nat.zero_add] at ho
   rw [Int.zero_add]
   obtain ⟨l, l1, l2, l3⟩ := znx (λ c => D.str (ch c)) (Q := λ j a => a = lt c i at_ j) (n := n) (u := true) (as := [sI c, sI (10 : Nat), sT (.str abc), sI n, sI at_, sN os, sI i, e7]) (cap := [none, some 2, some 6, some 0, some 4]) (fr := aC (fV 3) aN) (fe := f2 (fV 1) (f2 (f2 (f2 (zJ (aC (fV 3) (aC (fV 0) aN)) yJ) (fC (.int 64)) (zp .FloorDiv)) (f2 (fV 2) (fP (aC (f2 (fV 0) (fV 4) (zL .Eq)) aN) Xm) (zp .Mult)) (zp .Add)) (fC (.int 26)) (zp .Mod)) ixP) (zy (zb rfl) zP) (by omega) λ j hj => by
    have q0 := Int.emod_nonneg (mx c j / 64 + (i : Int) * (if ((j : Int) == at_) = true then 1 else 0)) (show (26 : Int) ≠ 0 by decide)
    have q1 := Int.emod_lt_of_pos (mx c j / 64 + (i : Int) * (if ((j : Int) == at_) = true then 1 else 0)) (show (0 : Int) < 26 by decide)
    refine ⟨[sI j, sT (.str abc), sI i, sI c, sI at_], _, rfl, WD.e (yP (zb (i := 1) rfl) (yf (yN (xZ (vq (zy (zb (i := 3) rfl) (zy (zb (i := 0) rfl) zP)) (zdy (by omega) (by omega))) zf (by decide) (zT (by decide) (by decide))) (wI (zb (i := 2) rfl) (ZQ (x := .int (if ((j : Int) == at_) = true then 1 else 0)) (zy (zdv (c := (j : Int) == at_) (zb (i := 0) rfl) (zb (i := 4) rfl) rfl) zP) rfl rfl) (zT (by omega) (by omega)) (by split <;> exact zT (by decide) (by decide)))) zf (by decide)) (zpI q0 q1) rfl), rfl⟩
   have el : l = (List.range n).map (lt c i at_) := by
    refine List.ext_getElem? λ j => ?_
    rw [zzF]
    by_cases hj : j < n
    · rw [List.getElem?_range hj, zzB (by omega), l2 j _ (zzB (by omega))]; rfl
    · rw [List.getElem?_eq_none (by omega), List.getElem?_eq_none (by rw [List.length_range]; omega)]; rfl
   have hm : WE (zdh .str (fC (.str "")) (aC (fV 7) aN) zgX) [sI c, sI (10 : Nat), sT (.str abc), sI n, sI at_, sN os, sI i, sT (.lst (l.map λ c => D.str (ch c)))] (.str (wd c n at_ i)) := by
    refine WD.e (zmw zf rfl (zy (zb (i := 7) rfl) zP) ?_ rfl)
    have e1 : l.map (λ c => D.str (ch c)) = (l.map ch).map D.str := by rw [List.map_map]; rfl
    rw [e1]
    show (zch ((l.map ch).map D.str)).bind _ = _
    rw [zgj]
    show (if ((l.map ch).map (·.length)).sum + (l.map ch).length * 0 <= 16777216 then some (R0.im (.str (Txt.join "" (l.map ch)))) else none) = _
    have e2 := zqF (l.map ch) λ s m => by
     obtain ⟨a, _, rfl⟩ := List.mem_map.mp m
     rfl
    rw [if_pos (by rw [e2, zD]; omega), zkt, el]; rfl
   obtain ⟨os', o1, o2⟩ := zrF (i := 5) (toD := D.str) (Q := λ _ => True) rfl ho (by rw [zD, List.length_range]; omega) hm trivial
   refine ⟨[sI c, sI (10 : Nat), sT (.str abc), sI n, sI at_, sN os, sI i, e7], rfl, _, zZ (Z4 (p := 7) l3 (zG rfl)) o2, os', _, _, rfl, ?_⟩
   rw [show 0 + i + 1 = i + 1 by omega, List.range_succ, List.map_append]
   exact o1)
  ⟨[], none, none, rfl, Ows.nil⟩
 rw [yL, Nat.zero_add] at ho
 refine ⟨(List.range 10).map (wd c n at_), by rw [zD, List.length_range], ?_, wK rfl (zH (yC (i := 2) zf (zG rfl)) (zH s3 (zH s4 (zH (xY (i := 5) (Yp yG (szl rfl)) (zG rfl)) (zH (wU (ww (zy (zb (i := 1) rfl) zP) (by decide) (by decide)) hf) (Ows.retB (i := 5) rfl ho))))))⟩
 exact List.pairwise_map.mpr ((List.nodup_range (n := 10)).imp_of_mem λ ha hb hne he => hne (zoN t0 t1 (List.mem_range.mp ha) (List.mem_range.mp hb) he))
open L2 (yM)
structure Par where
 c : Int
 h : Int
 w : Nat
 xs : List Int
 ys : List Int
 k : Int
 n : Nat
 k2 : Int
 n2 : Nat
 m : Nat
structure POk (P : Par) : Prop where
 k1 : KN P.k P.n
 k2 : KN P.k2 P.n2
 n8 : P.n * P.n2 <= 8
 e2 : eK P.k2 = 0
 m1 : 1 <= P.m
 m6 : P.m <= 6
 w4 : P.w <= 4
 xl : P.xs.length = 1 + 2 * P.w
 xS : ∀ x ∈ P.xs, St x
 yl : P.ys.length = 13
 yS : ∀ x ∈ P.ys, St x
abbrev Par.N (P : Par) : Nat := P.n * P.n2
theorem POk.n1 {P : Par} (h : POk P) : 1 <= P.n := h.k1.n1
theorem POk.p2 {P : Par} (h : POk P) : 1 <= P.n2 := h.k2.n1
theorem POk.a8 {P : Par} (h : POk P) : P.n <= 8 := zzL (Nat.le_mul_of_pos_right _ h.p2) h.n8
theorem POk.b8 {P : Par} (h : POk P) : P.n2 <= 8 := zzL (Nat.le_mul_of_pos_left _ h.n1) h.n8
theorem POk.N1 {P : Par} (h : POk P) : 1 <= P.N := Nat.mul_pos h.n1 h.p2
abbrev Z (P : Par) (e11 e12 e13 e14 e15 e16 e17 e18 e19 e20 e21 e22 e23 e24 e25 e26 e27 : Option O) : AS :=
 [sI P.c, sI P.h, sI P.w, sT (zX P.xs), sT (zX P.ys), sI P.k, sI P.n, sI P.k2, sI P.n2, sI P.m, sI P.N, e11, e12, e13, e14, e15, e16, e17, e18, e19, e20, e21, e22, e23, e24, e25, e26, e27]
def Rq (r : Option Out) (Q : D -> Prop) : Prop := ∃ x, Rt r x /\ Q x
theorem Zq {f g : SF} {as as1 : AS} {Q : D -> Prop} (h1 : f as = some (.nx as1)) (h2 : Rq (g as1) Q) : Rq (zA f g as) Q := by
 obtain ⟨x, h, q⟩ := h2
 exact ⟨x, zH h1 h, q⟩
theorem zoJ {f : SF} {as : AS} {i : Nat} {o : O} {Q : D -> Prop} (h : as[i]? = some (some o)) (k : Rq (f (as.set i (some o.frz))) Q) : Rq (zjH i f as) Q := by
 unfold zjH
 rw [h]; exact k
theorem zmM {c h : Int} {w : Nat} (hw : w <= 4) {f : SF} {Q : D -> Prop} (K : ∀ P : Par, POk P -> P.w = w -> P.h = h -> Rq (f (Z P none none none none none none none none none none none none none none none none none)) Q) :
 Rq ((zA (zK true 3 (zJ (aC (fV 0) (aC (f2 (fC (.int 1)) (f2 (fC (.int 2)) (fV 2) (zp .Mult)) (zp .Add)) aN)) yR))
 (zA (zK true 4 (zJ (aC (fV 1) (aC (fC (.int 13)) aN)) yR))
 (zA (zeg (zJ (aC (f2 (fV 3) (fC (.int 0)) ixP) aN) vX) (gT 4 (gsC (gN 5) (gsC (gN 6) (gsC (gN 7) (gsC (gN 8) gsN))))))
 (zA (zK true 9 (f2 (f2 (fC (.int 1)) (f2 (f2 (fV 4) (fC (.int 0)) ixP) (fC (.int 4)) (zp .Mod)) (zp .Add)) (f2 (fC (.int 2)) (fP (aC (f2 (f2 (f2 (f2 (fV 4) (fC (.int 0)) ixP) (fC (.int 4)) (zp .FloorDiv)) (fC (.int 8)) (zp .Mod)) (fC (.int 5)) (zL .Eq)) aN) Xm) (zp .Mult)) (zp .Add)))
 (zA (zK true 10 (f2 (fV 6) (fV 8) (zp .Mult))) f))))) (yE 28 [(true, .int c), (true, .int h), (true, .int w)])) Q := by
 have w1 := yN (as := yE 28 [(true, .int c), (true, .int h), (true, .int w)]) (zf (x := .int 1)) (wI (zf (x := .int 2)) (zb (i := 2) (s := true) (x := .int w) rfl) (zT (by decide) (by decide)) (zT (by omega) (by omega)))
 rw [show (1 : Int) + 2 * (w : Int) = ((1 + 2 * w : Nat) : Int) by omega] at w1
 obtain ⟨xs, xl, xS, wx⟩ := stE (m := 1 + 2 * w) (by omega) (WD.e (zb (i := 0) (as := yE 28 [(true, .int c), (true, .int h), (true, .int w)]) rfl)) (WD.e w1)
 obtain ⟨ys, yl, yS, wy⟩ := stE (m := 13) (as := [sI c, sI h, sI w, sT (zX xs), none, none, none, none, none, none, none, none, none, none, none, none, none, none, none, none, none, none, none, none, none, none, none, none]) (b := fC (.int 13)) (by omega) (WD.e (zb (i := 1) rfl)) (WD.e zf)
 obtain ⟨x0, a0, b0⟩ := at2 xS (k := 0) (by omega) (by omega)
 obtain ⟨y0, c0, d0⟩ := at2 yS (k := 0) (by omega) (by omega)
 obtain ⟨k, n, k2, n2, h1, h2, h3, h4, h5⟩ := kinds_ok (x := x0)
 have hm0 : 1 <= 1 + y0 % 4 + 2 * (if (y0 / 4 % 8 == 5) = true then 1 else 0) /\ 1 + y0 % 4 + 2 * (if (y0 / 4 % 8 == 5) = true then 1 else 0) <= 6 := by split <;> omega
 obtain ⟨m, hm⟩ : ∃ m : Nat, (m : Int) = 1 + y0 % 4 + 2 * (if (y0 / 4 % 8 == 5) = true then 1 else 0) := ⟨(1 + y0 % 4 + 2 * (if (y0 / 4 % 8 == 5) = true then 1 else 0)).toNat, by omega⟩
 have P1 : POk ⟨c, h, w, xs, ys, k, n, k2, n2, m⟩ := ⟨h1, h2, h3, h4, by show 1 <= m; omega, by show m <= 6; omega, hw, xl, xS, yl, yS⟩
 have A8 : n <= 8 := P1.a8
 have B8 : n2 <= 8 := P1.b8
 have y4 : WD (f2 (fV 4) (fC (.int 0)) ixP) [sI c, sI h, sI w, sT (zX xs), sT (zX ys), sI k, sI n, sI k2, sI n2, none, none, none, none, none, none, none, none, none, none, none, none, none, none, none, none, none, none, none] true (.int y0) := yP (zb (i := 4) rfl) zf c0 rfl
 have s9 := yC (st := true) (i := 9) (yN (yN (zf (x := .int 1)) (yf y4 (zf (x := .int 4)) (by decide))) (wI (zf (x := .int 2)) (ZQ (g := Xm) (x := .int (if (y0 / 4 % 8 == 5) = true then 1 else 0)) (zy (zdv (c := y0 / 4 % 8 == 5) (yf (xZ y4 (zf (x := .int 4)) (by decide) (zT (by decide) (by decide))) (zf (x := .int 8)) (by decide)) (zf (x := .int 5)) rfl) zP) rfl rfl) (zT (by decide) (by decide)) (by split <;> exact zT (by decide) (by decide)))) (zG rfl)
 rw [<- hm] at s9
 have s10 := yC (st := true) (i := 10) (as := [sI c, sI h, sI w, sT (zX xs), sT (zX ys), sI k, sI n, sI k2, sI n2, sI m, none, none, none, none, none, none, none, none, none, none, none, none, none, none, none, none, none, none]) (wI (zb (i := 6) rfl) (zb (i := 8) rfl) (zT (i := (n : Int)) (by omega) (by omega)) (zT (i := (n2 : Int)) (by omega) (by omega))) (zG rfl)
 rw [<- zzS] at s10
 exact Zq (Z4 (p := 3) wx (zG rfl)) (Zq (Z4 (p := 4) wy (zG rfl)) (Zq (zrp (zay (zoa (WD.e (zb (i := 3) rfl)) (WD.e zf) a0) h5) rfl) (Zq s9 (Zq s10 (K ⟨c, h, w, xs, ys, k, n, k2, n2, m⟩ P1 rfl rfl)))))
theorem zkd {P : Par} (h : POk P) {f : SF} {Q : D -> Prop} (K : ∀ (F : List Int) (e11 e13 : Option O), F.Perm (zbM P.N) -> Rq (f (Z P e11 (sT (zX F)) e13 none none none none none none none none none none none none none none)) Q) :
 Rq ((zA (zK false 11 (fP (aC (fV 10) aN) lrP))
 (zA (zK false 12 (vd dN))
 (zA (xm (yI (aC (fV 10) aN) yO) (gN 13) (yV (wF 12 (dC (wF 11 (dC (f2 (f2 (fV 4) (f2 (fC (.int 1)) (fV 13) (zp .Add)) ixP) (fP (aC (fV 11) aN) vU) (zp .Mod)) dN) XQ) dN) v4)))
 (zjH 12 f)))) (Z P none none none none none none none none none none none none none none none none none)) Q := by
 have N8 := h.n8
 obtain ⟨as', hf, L, F, e13, rfl, hp, hlen⟩ := xT (g := gN 13) (f := yV (wF 12 (dC (wF 11 (dC (f2 (f2 (fV 4) (f2 (fC (.int 1)) (fV 13) (zp .Add)) ixP) (fP (aC (fV 11) aN) vU) (zp .Mod)) dN) XQ) dN) v4))
  (λ i as => ∃ (L F : List Int) (e13 : Option O), as = Z P (sN (L.map lfI)) (sN (F.map lfI)) e13 none none none none none none none none none none none none none none /\ (L ++ F).Perm (zbM P.N) /\ L.length + i = P.N)
  (xf 0 P.N) 0 (Z P (sN ((zbM P.N).map lfI)) (sN []) none none none none none none none none none none none none none none none) (λ i x as hx' hI => by
   obtain ⟨L, F, e13, rfl, hp, hlen⟩ := hI
   obtain ⟨rfl, hi⟩ := xX hx'
   obtain ⟨y, a1, b1⟩ := at2 h.yS (k := 1 + (0 + i)) (by omega) (by rw [h.yl]; have : i < P.n * P.n2 := hi; omega)
   have hL0 : 0 < L.length := by have : i < P.N := hi; omega
   have hL8 : L.length <= 8 := zzL (show L.length <= P.N by omega) N8
   have l0 : (0 : Int) < ((L.map lfI).length : Int) := by rw [zD]; omega
   have z0 := Int.emod_nonneg y (show ((L.map lfI).length : Int) ≠ 0 by omega)
   have z1 := Int.emod_lt_of_pos y l0
   have hk : (y % ((L.map lfI).length : Int)).toNat < L.length := by rw [zD] at z0 z1 ⊢; omega
   generalize hkk : (y % ((L.map lfI).length : Int)).toNat = k at hk
   have pop := zlu (as := Z P (sN (L.map lfI)) (sN (F.map lfI)) (sI (0 + i)) none none none none none none none none none none none none none none) (i := 11) (os := L.map lfI) (o := lfI L[k]) rfl (yf (yP (zb (i := 4) rfl) (yN zf (zb (i := 13) rfl)) a1 rfl) (zql (i := 11) rfl) l0) z0 z1 (by rw [zD]; exact Nat.lt_of_le_of_lt hL8 (by decide)) (by rw [hkk, zzF, zzB hk]; rfl)
   rw [hkk, show (L.map lfI).eraseIdx k = (L.eraseIdx k).map lfI by rw [List.eraseIdx_eq_take_drop_succ, List.eraseIdx_eq_take_drop_succ, List.map_append, List.map_take, List.map_drop]] at pop
   have hF : F.length <= 8 := by
    have e := hp.length_eq
    rw [zzG, zD, List.length_range] at e
    have : P.N <= 8 := N8
    omega
   have ap := zcG (i := 12) (os := F.map lfI) (as := Z P (sN (L.map lfI)) (sN (F.map lfI)) (sI (0 + i)) none none none none none none none none none none none none none none) rfl pop rfl (by rw [zD]; exact yM (by omega))
   rw [<- W8] at ap
   refine ⟨Z P (sN (L.map lfI)) (sN (F.map lfI)) (sI (0 + i)) none none none none none none none none none none none none none none, rfl, _, ap, L.eraseIdx k, F ++ [L[k]], _, rfl, ?_, by rw [List.length_eraseIdx_of_lt hk]; omega⟩
   rw [<- List.append_assoc]
   refine (List.perm_append_singleton _ _).trans ?_
   rw [<- List.cons_append]
   exact ((zdz L k hk).append_right F).trans hp)
  ⟨zbM P.N, [], none, rfl, by rw [List.append_nil], by rw [zD, List.length_range]; rfl⟩
 rw [yL] at hlen
 have hL : L = [] := List.eq_nil_of_length_eq_zero (by omega)
 subst hL
 have s2 := xY (i := 11) (as := Z P none none none none none none none none none none none none none none none none none) (zon (a := fV 10) (x := .int P.N) (g := lrP) (zs := (zbM P.N).map D.int) (WD.e (zb (i := 10) rfl)) (by
  show (if (0 : Int) <= P.N /\ (P.N : Int) <= 100000 then _ else _) = _
  rw [if_pos ⟨by omega, by have : P.N <= 8 := N8; omega⟩, List.map_map]; rfl)) (zG rfl)
 rw [zil] at s2
 have hfz : (O.nd .ls (F.map lfI)).frz = .lf true (zX F) := by
  show O.lf (O.nd .ls (F.map lfI)).str (O.nd .ls (F.map lfI)).toD = _
  rw [(Vb F).1, (Vb F).2]
 refine Zq s2 (Zq (xY (i := 12) (Yp yG (szl rfl)) (zG rfl)) (Zq (wU (ww (zy (zb (i := 10) rfl) zP) (by omega) (by have : P.N <= 8 := N8; omega)) (by rw [Int.toNat_natCast]; exact hf)) (zoJ (i := 12) rfl ?_)))
 rw [hfz]
 exact K F _ _ hp
open L2 (yM)
abbrev Par.j (P : Par) : Int -> Int -> Int := jB P.n2 (jK P.k P.n) (jK P.k2 P.n2)
abbrev Par.e (P : Par) : Int := eK P.k * P.n2 + eK P.k2
theorem POk.lj {P : Par} (h : POk P) : LJ P.N P.j P.e := ljB (ljK h.k1) (ljK h.k2) h.p2
theorem zeK {as : AS} {F : List Int} {i : Nat} {fi : IF} {xs : List It1} (hF : F.length <= 8) (hx : xs.length <= 8) (h1 : fi as = some (xs, as)) (h2 : ∀ y ∈ xs, ∃ d, y = (true, d)) (hc : ∀ d : D, gN 0 (true, d) (YB [none, some i] as) = some [sT d, sT (zX F)]) :
 yp fi [none, some i] (gN 0) xr (yp (Z9 (fV 1)) [none] (gN 0) xr (fC (.int 0))) as = some (.ow (Z5 (List.replicate xs.length (List.replicate F.length (0 : Int)))), as) := by
 refine zcN h1 (szs (by omega)) (zfZ xs λ y m => ?_)
 obtain ⟨d, rfl⟩ := h2 y m
 refine ⟨_, hc d, ?_⟩
 have e := zgx (as0 := [none]) (F.map D.int) (λ d => ⟨[sT d], rfl⟩)
 rw [zD] at e
 exact zcN (zlH (WD.e (zb (i := 1) rfl))) (szs (by rw [zD, zD]; omega)) e
theorem zmn {P : Par} (h : POk P) {F : List Int} (hF : F.Perm (zbM P.N)) {e11 e13 : Option O} {f : SF} {Q : D -> Prop} (K : ∀ (J : TZ) (e15 e16 e17 : Option O), Tab P.N P.N J -> (∀ a b, InR P.N a -> InR P.N b -> jAt J (rAt F a) (rAt F b) = rAt F (P.j a b)) -> Rq (f (Z P e11 (sT (zX F)) e13 (some (Z5 J)) e15 e16 e17 none none none none none none none none none none)) Q) :
 Rq ((zA (zK false 14 (yp (Z9 (fV 12)) [none, some 12] (gN 0) xr (yp (Z9 (fV 1)) [none] (gN 0) xr (fC (.int 0)))))
 (zA (xm (yI (aC (fV 10) aN) yO) (gN 15) (xm (yI (aC (fV 10) aN) yO) (gN 16) (zA (zK true 17 (f2 (zJ (aC (fV 5) (aC (fV 6) (aC (f2 (fV 15) (fV 8) (zp .FloorDiv)) (aC (f2 (fV 16) (fV 8) (zp .FloorDiv)) aN)))) zO) (fV 8) (zp .Mult)))
 (zA (zK true 17 (f2 (fV 17) (zJ (aC (fV 7) (aC (fV 8) (aC (f2 (fV 15) (fV 8) (zp .Mod)) (aC (f2 (fV 16) (fV 8) (zp .Mod)) aN)))) zO) (zp .Add)))
 (V4 14 (xAt 12 (xV 15)) (xAt 12 (xV 16)) (xAt 12 (xV 17)))))))
 f)) (Z P e11 (sT (zX F)) e13 none none none none none none none none none none none none none none)) Q := by
 have N8 : P.N <= 8 := h.n8
 have N1 := h.N1
 have p2 := h.p2
 have b8 := h.b8
 have a8 := h.a8
 obtain ⟨hR, _⟩ := Yk hF
 have hl := hR.1
 have hz := zeK (as := Z P e11 (sT (zX F)) e13 none none none none none none none none none none none none none none) (F := F) (i := 12) (xs := (F.map D.int).map λ d => (true, d)) (by omega) (by rw [zD, zD]; omega) (zlH (WD.e (zb (i := 12) rfl))) (λ y m => by
  obtain ⟨d, _, rfl⟩ := List.mem_map.mp m
  exact ⟨d, rfl⟩) (λ d => rfl)
 rw [zD, zD, hl] at hz
 have lj := h.lj
 have lk1 := ljK h.k1
 have lk2 := ljK h.k2
 have pN : ∀ a, InR P.N a -> InR P.N (rAt F a) := λ a ha => (rowAt hR ha).2
 have pi : ∀ a a', InR P.N a -> InR P.N a' -> rAt F a = rAt F a' -> a = a' := λ a a' ha ha' e => zge hF ha ha' e
 obtain ⟨J, e15, e16, e17, hf, t1, t2⟩ := ziu (v := 15) (K := P.N) (n := P.N) (L := P.N) (M := P.N) (S := λ T x y z => Z P e11 (sT (zX F)) e13 (some (Z5 T)) x y z none none none none none none none none none none) (f := rAt F) (g := rAt F) (w := λ a b => rAt F (P.j a b)) (F := xm (yI (aC (fV 10) aN) yO) (gN 16) (zA (zK true 17 (f2 (zJ (aC (fV 5) (aC (fV 6) (aC (f2 (fV 15) (fV 8) (zp .FloorDiv)) (aC (f2 (fV 16) (fV 8) (zp .FloorDiv)) aN)))) zO) (fV 8) (zp .Mult)))
  (zA (zK true 17 (f2 (fV 17) (zJ (aC (fV 7) (aC (fV 8) (aC (f2 (fV 15) (fV 8) (zp .Mod)) (aC (f2 (fV 16) (fV 8) (zp .Mod)) aN)))) zO) (zp .Add)))
  (V4 14 (xAt 12 (xV 15)) (xAt 12 (xV 16)) (xAt 12 (xV 17)))))) (x0 := none) (y0 := none) (z0 := none) pN pi pN (λ _ _ _ _ _ => rfl) (λ T a y z hT ha => by
   obtain ⟨T', y', z', k1, k2, k3, k4⟩ := zlp (v := 16) (K := P.N) (n := P.N) (L := P.N) (S := λ T y z => Z P e11 (sT (zX F)) e13 (some (Z5 T)) (sI a) y z none none none none none none none none none none) (p := rAt F a) (g := rAt F) (w := λ b => rAt F (P.j a b)) (f := (zA (zK true 17 (f2 (zJ (aC (fV 5) (aC (fV 6) (aC (f2 (fV 15) (fV 8) (zp .FloorDiv)) (aC (f2 (fV 16) (fV 8) (zp .FloorDiv)) aN)))) zO) (fV 8) (zp .Mult)))
  (zA (zK true 17 (f2 (fV 17) (zJ (aC (fV 7) (aC (fV 8) (aC (f2 (fV 15) (fV 8) (zp .Mod)) (aC (f2 (fV 16) (fV 8) (zp .Mod)) aN)))) zO) (zp .Add)))
  (V4 14 (xAt 12 (xV 15)) (xAt 12 (xV 16)) (xAt 12 (xV 17)))))) (x0 := y) (y0 := z) (pN a ha) pN pi (λ b hb => pN _ (lj.cl a b ha hb)) (λ _ _ _ _ => rfl) (λ T b z hT hb => by
   have ua := yo p2 ha
   have ub := yo p2 hb
   have c1 := lk1.cl _ _ ua.1 ub.1
   have j1 := zaV h.k1 ua.1 ub.1
   have j2 := zaV h.k2 ua.2 ub.2
   have b2 : (P.n2 : Int).natAbs < big := zT (by omega) (by omega)
   have s1 := yC (st := true) (i := 17) (as := Z P e11 (sT (zX F)) e13 (some (Z5 T)) (sI a) (sI b) z none none none none none none none none none none) (wI (vq (zy (zb (i := 5) rfl) (zy (zb (i := 6) rfl) (zy (xZ (zb (i := 15) rfl) (zb (i := 8) rfl) (by omega) b2) (zy (xZ (zb (i := 16) rfl) (zb (i := 8) rfl) (by omega) b2) zP)))) j1) (zb (i := 8) rfl) (zT (by have := c1.1; omega) (by have := c1.2; omega)) b2) (zG rfl)
   have s2 := yC (st := true) (i := 17) (as := Z P e11 (sT (zX F)) e13 (some (Z5 T)) (sI a) (sI b) (sI (jK P.k P.n (a / P.n2) (b / P.n2) * P.n2)) none none none none none none none none none none) (yN (zb (i := 17) rfl) (vq (zy (zb (i := 7) rfl) (zy (zb (i := 8) rfl) (zy (yf (zb (i := 15) rfl) (zb (i := 8) rfl) (by omega)) (zy (yf (zb (i := 16) rfl) (zb (i := 8) rfl) (by omega)) zP)))) j2)) (zG rfl)
   exact ⟨_, zZ s1 (zZ s2 (ziT (i := 14) (T := T) hT (pN a ha) (pN b hb) (zlb (i := 12) rfl (zbT (i := 15) rfl) hR ha) (zlb (i := 12) rfl (zbT (i := 16) rfl) hR hb) (zlb (i := 12) rfl (zbT (i := 17) rfl) hR (lj.cl a b ha hb)) rfl))⟩) hT
   refine ⟨T', y', z', ?_, k2, k3, k4⟩
   rw [ZD (v := 10) (n := P.N) rfl (by omega)]
   exact k1) (zgT N1)
 refine Zq (xY (i := 14) hz (zG rfl)) (Zq (wU (ww (zy (zb (i := 10) rfl) zP) (by omega) (by omega)) (by rw [Int.toNat_natCast]; exact hf)) (K J e15 e16 e17 t1 t2))
open L2 (yM)
theorem perm_back {F : List Int} {n : Nat} (h : F.Perm (zbM n)) : ∃ B : Int -> Int, (∀ a, InR n a -> InR n (B a)) /\ ∀ a, InR n a -> rAt F (B a) = a := by
 obtain ⟨hR, hm⟩ := Yk h
 refine ⟨λ a => (F.idxOf a : Nat), λ a ha => ?_, λ a ha => ?_⟩
 · have := List.idxOf_lt_length_of_mem (hm a ha.1 ha.2)
   rw [hR.1] at this
   exact ⟨Int.natCast_nonneg _, Int.ofNat_lt.mpr this⟩
 · have hl := List.idxOf_lt_length_of_mem (hm a ha.1 ha.2)
   rw [XJ (by rw [Int.toNat_natCast]; exact hl)]
   simp only [Int.toNat_natCast]
   exact List.getElem_idxOf hl
abbrev Good (P : Par) (F : List Int) (J : TZ) (p : Str × TZ) : Prop := Tab P.m P.N p.2 /\ LD P.N P.m (jAt J) (rAt F P.e) (jAt p.2)
abbrev Y (P : Par) (F : List Int) (J : TZ) (e11 e16 : Option O) (ss : List Str) (os : List O) (e13 e15 e17 e20 e21 e22 e23 : Option O) : AS := Z P e11 (sT (zX F)) e13 (some (Z5 J)) e15 e16 e17 (sT (.lst (ss.map D.str))) (sN os) e20 e21 e22 e23 none none none none
abbrev mdI : SF := (zA (zK true 17 (f2 (f2 (fV 20) (fV 23) ixP) (f2 (fV 15) (fV 8) (zp .FloorDiv)) ixP))
 (zA (zK true 17 (f2 (f2 (fV 17) (fV 8) (zp .Mult)) (f2 (f2 (fV 21) (fV 23) ixP) (f2 (fV 15) (fV 8) (zp .Mod)) ixP) (zp .Add)))
 (V4 22 (xV 23) (xAt 12 (xV 15)) (xAt 12 (xV 17)))))
theorem zlA {P : Par} (h : POk P) {F : List Int} (hF : F.Perm (zbM P.N)) {J T1 T2 : TZ} {e11 e16 : Option O} {ss : List Str} {os : List O} {e13 e15 e17 e23 : Option O} (t1 : Tab P.m P.n T1) (t2 : Tab P.m P.n2 T2) (l1 : LD P.n P.m (jK P.k P.n) (eK P.k) (jAt T1)) (l2 : LD P.n2 P.m (jK P.k2 P.n2) (eK P.k2) (jAt T2)) :
 ∃ (T : TZ) (x y z : Option O), forL (gN 23) (xm (yI (aC (fV 10) aN) yO) (gN 15) mdI) (xf 0 P.m) (Y P F J e11 e16 ss os e13 e15 e17 (sT (zY T1)) (sT (zY T2)) (some (Z5 (List.replicate P.m (List.replicate P.N 0)))) e23) = some (.nx (Y P F J e11 e16 ss os e13 y z (sT (zY T1)) (sT (zY T2)) (some (Z5 T)) x)) /\ Tab P.m P.N T /\ ∀ c a, InR P.m c -> InR P.N a -> jAt T c (rAt F a) = rAt F (dB P.n2 (jAt T1) (jAt T2) c a) := by
 have N8 : P.N <= 8 := h.n8
 have N1 := h.N1
 have p2 := h.p2
 have b8 := h.b8
 have a8 := h.a8
 obtain ⟨hR, _⟩ := Yk hF
 have ld := ldB (ljK h.k1) (ljK h.k2) p2 l1 l2
 have pN : ∀ a, InR P.N a -> InR P.N (rAt F a) := λ a ha => (rowAt hR ha).2
 have pi : ∀ a a', InR P.N a -> InR P.N a' -> rAt F a = rAt F a' -> a = a' := λ a a' ha ha' e => zge hF ha ha' e
 exact ziu (v := 23) (K := P.m) (n := P.N) (L := P.N) (M := P.m) (S := λ T x y z => Y P F J e11 e16 ss os e13 y z (sT (zY T1)) (sT (zY T2)) (some (Z5 T)) x) (f := λ c => c) (g := rAt F) (w := λ c a => rAt F (dB P.n2 (jAt T1) (jAt T2) c a)) (λ _ ha => ha) (λ _ _ _ _ e => e) pN (λ _ _ _ _ _ => rfl) (λ T c y z hT hc => by
  obtain ⟨T', y', z', k1, k2, k3, k4⟩ := zlp (v := 15) (K := P.m) (n := P.N) (L := P.N) (S := λ T y z => Y P F J e11 e16 ss os e13 y z (sT (zY T1)) (sT (zY T2)) (some (Z5 T)) (sI c)) (p := c) (g := rAt F) (w := λ a => rAt F (dB P.n2 (jAt T1) (jAt T2) c a)) (f := mdI) (x0 := y) (y0 := z) hc pN pi (λ a ha => pN _ (ld.cl c a hc ha)) (λ _ _ _ _ => rfl) (λ T a z hT ha => by
   have ua := yo p2 ha
   have b2 : (P.n2 : Int).natAbs < big := zT (by omega) (by omega)
   obtain ⟨q1, r1⟩ := Wn (as := Y P F J e11 e16 ss os e13 (sI a) z (sT (zY T1)) (sT (zY T2)) (some (Z5 T)) (sI c)) t1 hc ua.1 (zb (i := 20) rfl) (zb (i := 23) rfl) (xZ (zb (i := 15) rfl) (zb (i := 8) rfl) (by omega) b2)
   have s1 := yC (st := true) (i := 17) q1 (zG rfl)
   obtain ⟨q2, r2⟩ := Wn (as := Y P F J e11 e16 ss os e13 (sI a) (sI (jAt T1 c (a / P.n2))) (sT (zY T1)) (sT (zY T2)) (some (Z5 T)) (sI c)) t2 hc ua.2 (zb (i := 21) rfl) (zb (i := 23) rfl) (yf (zb (i := 15) rfl) (zb (i := 8) rfl) (by omega))
   have s2 := yC (st := true) (i := 17) (yN (wI (zb (i := 17) rfl) (zb (i := 8) rfl) (zT (i := jAt T1 c (a / P.n2)) (by have := r1.1; omega) (by have := r1.2; omega)) b2) q2) (zG rfl)
   exact ⟨_, zZ s1 (zZ s2 (ziT (i := 22) (T := T) hT hc (pN a ha) (zbT (i := 23) rfl) (zlb (i := 12) rfl (zbT (i := 15) rfl) hR ha) (zlb (i := 12) rfl (zbT (i := 17) rfl) hR (ld.cl c a hc ha)) rfl))⟩) hT
  refine ⟨T', y', z', ?_, k2, k3, k4⟩
  rw [ZD (v := 10) (n := P.N) rfl (by omega)]
  exact k1) (zgT N1)
abbrev ddB : SF := (zA (zK true 20 (zJ (aC (fV 5) (aC (fV 6) (aC (fV 9) (aC (f2 (fV 3) (f2 (fC (.int 1)) (f2 (fC (.int 2)) (fV 13) (zp .Mult)) (zp .Add)) ixP) aN)))) yU))
 (zA (zK true 21 (zJ (aC (fV 7) (aC (fV 8) (aC (fV 9) (aC (f2 (fV 3) (f2 (fC (.int 2)) (f2 (fC (.int 2)) (fV 13) (zp .Mult)) (zp .Add)) ixP) aN)))) yU))
 (zA (zK false 22 (yp (yI (aC (fV 9) aN) yO) [none, some 12] (gN 0) xr (yp (Z9 (fV 1)) [none] (gN 0) xr (fC (.int 0)))))
 (zA (xm (yI (aC (fV 9) aN) yO) (gN 23) (xm (yI (aC (fV 10) aN) yO) (gN 15) mdI))
 (yV (wF 19 (dC (yF (dC (f2 (fV 18) (fV 13) ixP) (dC (fV 22) dN))) dN) v4))))))
theorem take_snoc {α : Type} {l : List α} {i : Nat} {a : α} (h : l[i]? = some a) : l.take (i + 1) = l.take i ++ [a] := by rw [List.take_succ, h]; rfl
theorem zkL {P : Par} (h : POk P) {F : List Int} (hF : F.Perm (zbM P.N)) {J : TZ} (hJ : ∀ a b, InR P.N a -> InR P.N b -> jAt J (rAt F a) (rAt F b) = rAt F (P.j a b)) {e11 e16 : Option O} {ss : List Str} (hs : ss.length = 10) {i : Nat} (hi : i < P.w) {os : List O} {Ds : DD} (ho : Ows wk (Good P F J) os Ds) (hD : Ds.map (·.1) = ss.take i) {e15 e17 e20 e21 e22 e23 : Option O} :
 ∃ (os' : List O) (Ds' : DD) (e15' e17' e20' e21' e22' e23' : Option O), ddB (Y P F J e11 e16 ss os (sI i) e15 e17 e20 e21 e22 e23) = some (.nx (Y P F J e11 e16 ss os' (sI i) e15' e17' e20' e21' e22' e23')) /\ Ows wk (Good P F J) os' Ds' /\ Ds'.map (·.1) = ss.take (i + 1) := by
 have N8 : P.N <= 8 := h.n8
 have w4 := h.w4
 have m1 := h.m1
 have m6 := h.m6
 obtain ⟨hR, _⟩ := Yk hF
 have hxl := h.xl
 obtain ⟨x1, a1, b1⟩ := at2 h.xS (k := 1 + 2 * i) (by omega) (by omega)
 obtain ⟨x2, a2, b2⟩ := at2 h.xS (k := 2 + 2 * i) (by omega) (by omega)
 obtain ⟨T1, t1, l1, r1⟩ := zcT h.k1 h.a8 m1 (by omega) b1
 obtain ⟨T2, t2, l2, r2⟩ := zcT h.k2 h.b8 m1 (by omega) b2
 have bi : ((i : Nat) : Int).natAbs < big := zT (by omega) (by omega)
 have s20 := Z4 (p := 20) (as := Y P F J e11 e16 ss os (sI i) e15 e17 e20 e21 e22 e23) (zky (WD.e (zb (i := 5) rfl)) (WD.e (zb (i := 6) rfl)) (WD.e (zb (i := 9) rfl)) (WD.e (yP (zb (i := 3) rfl) (yN (zf (x := .int 1)) (wI (zf (x := .int 2)) (zb (i := 13) rfl) (zT (by decide) (by decide)) bi)) a1 rfl)) r1) (zG rfl)
 have s21 := Z4 (p := 21) (as := Y P F J e11 e16 ss os (sI i) e15 e17 (sT (zY T1)) e21 e22 e23) (zky (WD.e (zb (i := 7) rfl)) (WD.e (zb (i := 8) rfl)) (WD.e (zb (i := 9) rfl)) (WD.e (yP (zb (i := 3) rfl) (yN (zf (x := .int 2)) (wI (zf (x := .int 2)) (zb (i := 13) rfl) (zT (by decide) (by decide)) bi)) a2 rfl)) r2) (zG rfl)
 have hz := zeK (as := Y P F J e11 e16 ss os (sI i) e15 e17 (sT (zY T1)) (sT (zY T2)) e22 e23) (F := F) (i := 12) (xs := xf 0 P.m) (by rw [hR.1]; exact N8) (by rw [yL]; omega) (by
  have := ww (as := Y P F J e11 e16 ss os (sI i) e15 e17 (sT (zY T1)) (sT (zY T2)) e22 e23) (zy (zb (i := 9) (x := .int P.m) (s := true) rfl) zP) (by omega) (by omega)
  rw [Int.toNat_natCast] at this
  exact this) (λ y m => by
  obtain ⟨b, rfl, _, _⟩ := zcQ m
  exact ⟨_, rfl⟩) (λ d => rfl)
 rw [yL, hR.1] at hz
 have s22 := xY (i := 22) hz (zG rfl)
 obtain ⟨T, x, y, z, hf, q1, q2⟩ := zlA h hF (J := J) (e11 := e11) (e16 := e16) (ss := ss) (os := os) (e13 := sI i) (e15 := e15) (e17 := e17) (e23 := e23) t1 t2 l1 l2
 rw [<- ZD (v := 9) (n := P.m) rfl (by omega)] at hf
 obtain ⟨s, hsi⟩ : ∃ s, ss[i]? = some s := ⟨ss[i]'(by omega), zzB (by omega)⟩
 have wn : WD (f2 (fV 18) (fV 13) ixP) (Y P F J e11 e16 ss os (sI i) y z (sT (zY T1)) (sT (zY T2)) (some (Z5 T)) x) true (.str s) := Zu (zb (i := 18) rfl) (zb (i := 13) rfl) (XR hsi)
 have hb := zhP (j := 22) (as := Y P F J e11 e16 ss os (sI i) y z (sT (zY T1)) (sT (zY T2)) (some (Z5 T)) x) (ps := T.map zal) (fr := dN) (os := []) rfl rfl
 have ap := zcG (i := 19) (os0 := os) (os := os) (as := Y P F J e11 e16 ss os (sI i) y z (sT (zY T1)) (sT (zY T2)) (some (Z5 T)) x) rfl (ziw (Yw wn hb) (szl rfl)) rfl (by
  rw [ho.ln]
  have := congrArg List.length hD
  rw [zD, zzP] at this
  exact yM (by omega))
 rw [ziI] at ap
 obtain ⟨B, b1', b2'⟩ := perm_back hF
 have ld := ldB (ljK h.k1) (ljK h.k2) h.p2 l1 l2
 have hg : Good P F J (s, T) := ⟨q1, ldT h.m1 h.lj ld (λ a ha => (rowAt hR ha).2) b1' b2' hJ q2⟩
 refine ⟨_, Ds ++ [(s, T)], _, _, _, _, _, _, zZ s20 (zZ s21 (zZ s22 (zZ hf ap))), ho.snoc rfl rfl hg, ?_⟩
 rw [List.map_append, hD, take_snoc hsi]; rfl
theorem zkP {P : Par} (h : POk P) {F : List Int} (hF : F.Perm (zbM P.N)) {J : TZ} (hJ : ∀ a b, InR P.N a -> InR P.N b -> jAt J (rAt F a) (rAt F b) = rAt F (P.j a b)) {e11 e13 e15 e16 e17 : Option O} {f : SF} {Q : D -> Prop}
 (K : ∀ (ss : List Str) (os : List O) (Ds : DD) (e13 e15 e17 e20 e21 e22 e23 : Option O), ss.length = 10 -> ss.Nodup -> Ows wk (Good P F J) os Ds -> Ds.map (·.1) = ss.take P.w -> Rq (f (Y P F J e11 e16 ss os e13 e15 e17 e20 e21 e22 e23)) Q) :
 Rq ((zA (zK true 18 (zJ (aC (f2 (fV 1) (fC (.int 7)) (zp .FloorDiv)) (aC (fC (.int 10)) aN)) vY))
 (zA (zK false 19 (vd dN))
 (zA (xm (yI (aC (fV 2) aN) yO) (gN 13) ddB)
 f))) (Z P e11 (sT (zX F)) e13 (some (Z5 J)) e15 e16 e17 none none none none none none none none none none)) Q := by
 have w4 := h.w4
 obtain ⟨ss, s1, s2, s3⟩ := zkq (c := P.h / 7)
 obtain ⟨as', hf, os, Ds, e13', e15', e17', e20', e21', e22', e23', rfl, ho, hD⟩ := xT (g := gN 13) (f := ddB)
  (λ i as => ∃ (os : List O) (Ds : DD) (e13 e15 e17 e20 e21 e22 e23 : Option O), as = Y P F J e11 e16 ss os e13 e15 e17 e20 e21 e22 e23 /\ Ows wk (Good P F J) os Ds /\ Ds.map (·.1) = ss.take i)
  (xf 0 P.w) 0 (Y P F J e11 e16 ss [] e13 e15 e17 none none none none) (λ i x as hx hI => by
   obtain ⟨os, Ds, e13, e15, e17, e20, e21, e22, e23, rfl, ho, hD⟩ := hI
   obtain ⟨rfl, hi⟩ := xX hx
   rw [Nat.zero_add] at hD
   rw [Int.zero_add, Nat.zero_add]
   obtain ⟨os', Ds', a15, a17, a20, a21, a22, a23, k1, k2, k3⟩ := zkL (e11 := e11) (e16 := e16) (e15 := e15) (e17 := e17) (e20 := e20) (e21 := e21) (e22 := e22) (e23 := e23) h hF hJ s1 hi ho hD
   exact ⟨_, rfl, _, k1, os', Ds', _, _, _, _, _, _, _, rfl, k2, k3⟩)
  ⟨[], [], _, _, _, _, _, _, _, rfl, Ows.nil, rfl⟩
 rw [yL, Nat.zero_add] at hD
 exact Zq (Z4 (p := 18) (zkU (WD.e (xZ (zb (i := 1) rfl) (zf (x := .int 7)) (by decide) (zT (by decide) (by decide)))) (WD.e (zf (x := .int 10))) s3) (zG rfl)) (Zq (xY (i := 19) (Yp yG (szl rfl)) (zG rfl)) (Zq (wU (ww (zy (zb (i := 2) rfl) zP) (by omega) (by omega)) (by rw [Int.toNat_natCast]; exact hf)) (K ss os Ds _ _ _ _ _ _ _ s1 s2 ho hD)))
open L2 (yM)
def held (n : Nat) (b : Int) : List Int := ((List.range n).filter λ i => b / 2 ^ i % 2 == 1).map λ (i : Nat) => (i : Int)
abbrev sgO (p : Str × List Int) : O := .lf true (Zm p)
theorem zfM : ∀ S : SS, (S.map sgO).all O.isLf = true /\ O.strs (S.map sgO) = true /\ O.toDs (S.map sgO) = S.map Zm
 | [] => ⟨rfl, rfl, rfl⟩
 | p :: r => ⟨(zfM r).1, (zfM r).2.1, congrArg (Zm p :: ·) (zfM r).2.2⟩
theorem zkF {os : List O} (hs : O.strs os = true) : (Yv os).str = true /\ (Yv os).toD = .tup (O.toDs os) := by
 unfold Yv
 split
 · exact ⟨hs, rfl⟩
 · exact ⟨hs, rfl⟩
theorem zqi {P : Par} (h : POk P) {b : Int} {as : AS} (h1 : as[10]? = some (sI P.N)) (h2 : ∀ d : D, gN 0 (true, d) (YB [none, some 25] as) = some [sT d, sI b]) :
 WE (yp (yI (aC (fV 10) aN) yO) [none, some 25] (gN 0) (fT (f2 (f2 (f2 (fV 1) (f2 (fC (.int 1)) (fV 0) zjG) (zp .FloorDiv)) (fC (.int 2)) (zp .Mod)) (fC (.int 1)) (zL .Eq))) (fV 0)) as (zX (held P.N b)) := by
 have N8 : P.N <= 8 := h.n8
 have := zpE (as := as) (h := λ (i : Nat) => D.int i) (p := λ i => b / 2 ^ i % 2 == 1) (it := λ (i : Nat) => (true, D.int (0 + (i : Int)))) (fi := yI (aC (fV 10) aN) yO) (cap := [none, some 25]) (gg := gN 0) (tt := fT (f2 (f2 (f2 (fV 1) (f2 (fC (.int 1)) (fV 0) zjG) (zp .FloorDiv)) (fC (.int 2)) (zp .Mod)) (fC (.int 1)) (zL .Eq))) (fe := fV 0) (List.range P.N) (by
  have := ww (zy (zb (i := 10) h1) zP) (show (0 : Int) <= P.N by omega) (by omega)
  rw [Int.toNat_natCast] at this
  exact this) (by rw [List.length_range]; omega) (λ i hi => by
   have hi := List.mem_range.mp hi
   rw [Int.zero_add]
   have p0 : (0 : Int) < 2 ^ i := Int.pow_pos (by decide)
   have p1 : (2 : Int) ^ i < 1000 := by
    rcases (show i = 0 \/ i = 1 \/ i = 2 \/ i = 3 \/ i = 4 \/ i = 5 \/ i = 6 \/ i = 7 by omega) with rfl | rfl | rfl | rfl | rfl | rfl | rfl | rfl <;> decide
   have ws : WD (f2 (fC (.int 1)) (fV 0) zjG) [sI i, sI b] true (.int (2 ^ i)) := yP zf (zb (i := 0) rfl) (by
    show (if (0 : Int) <= i /\ (i : Int) <= 1000000 /\ (1 : Int).natAbs < 2 ^ 64 then some (R0.im (.int (1 * 2 ^ (i : Int).toNat))) else none) = _
    rw [if_pos ⟨by omega, by omega, by decide⟩, Int.toNat_natCast, Int.one_mul]) rfl
   exact ⟨[sI i, sI b], h2 _, eqT (yf (xZ (zb (i := 1) rfl) ws p0 (zT (by omega) (by omega))) zf (by decide)) zf rfl, λ _ => WD.e (zb (i := 0) rfl)⟩)
 unfold held
 rw [show D.lst (((List.range P.N).filter λ i => b / 2 ^ i % 2 == 1).map λ (i : Nat) => D.int i) = zX (((List.range P.N).filter λ i => b / 2 ^ i % 2 == 1).map λ (i : Nat) => (i : Int)) by show _ = D.lst _; rw [List.map_map]; rfl] at this
 exact this
abbrev V (P : Par) (F : List Int) (J : TZ) (ss : List Str) (os : List O) (e11 e15 e16 e17 e20 e21 e22 e23 : Option O) (S : SS) (e13 e25 e26 e27 : Option O) : AS := Z P e11 (sT (zX F)) e13 (some (Z5 J)) e15 e16 e17 (sT (.lst (ss.map D.str))) (sN os) e20 e21 e22 e23 (sN (S.map sgO)) e25 e26 e27
abbrev sgB : SF := (zA (zK true 25 (f2 (fV 4) (f2 (fC (.int 9)) (fV 13) (zp .Add)) ixP))
 (zA (zK true 26 (yp (yI (aC (fV 10) aN) yO) [none, some 25] (gN 0) (fT (f2 (f2 (f2 (fV 1) (f2 (fC (.int 1)) (fV 0) zjG) (zp .FloorDiv)) (fC (.int 2)) (zp .Mod)) (fC (.int 1)) (zL .Eq))) (fV 0)))
 (yV (wF 24 (dC (yF (dC (f2 (fV 18) (f2 (fV 13) (f2 (fC (.int 4)) (f2 (f2 (fV 25) (fC (.int 512)) (zp .FloorDiv)) (fC (.int 2)) (zp .Mod)) (zp .Mult)) (zp .Add)) ixP) (dC (fV 26) dN))) dN) v4))))
abbrev SgI (P : Par) (ss : List Str) (i : Nat) (S : SS) : Prop := S.length = i /\ (S.map (·.1)).Nodup /\ ∀ p ∈ S, (∃ b, p.2 = held P.N b) /\ ∃ j, j % 4 < i /\ j < 7 /\ ss[j]? = some p.1
theorem zkM {P : Par} (h : POk P) {F : List Int} {J : TZ} {ss : List Str} (hs : ss.length = 10) (hn : ss.Nodup) {os : List O} {e11 e15 e16 e17 e20 e21 e22 e23 e25 e26 e27 : Option O} {S : SS} {i : Nat} (hi : i < 3) (hI : SgI P ss i S) :
 ∃ (S' : SS) (e25' e26' : Option O), sgB (V P F J ss os e11 e15 e16 e17 e20 e21 e22 e23 S (sI i) e25 e26 e27) = some (.nx (V P F J ss os e11 e15 e16 e17 e20 e21 e22 e23 S' (sI i) e25' e26' e27)) /\ SgI P ss (i + 1) S' := by
 obtain ⟨i1, i2, i3⟩ := hI
 obtain ⟨b, a1, b1⟩ := at2 h.yS (k := 9 + i) (by omega) (by rw [h.yl]; omega)
 have q0 := Int.emod_nonneg (b / 512) (show (2 : Int) ≠ 0 by decide)
 have q1 := Int.emod_lt_of_pos (b / 512) (show (0 : Int) < 2 by decide)
 have hw := zqi h (b := b) (as := V P F J ss os e11 e15 e16 e17 e20 e21 e22 e23 S (sI i) (sI b) e26 e27) rfl (λ d => rfl)
 obtain ⟨j, ej⟩ : ∃ j : Nat, (j : Int) = (i : Int) + 4 * (b / 512 % 2) := ⟨((i : Int) + 4 * (b / 512 % 2)).toNat, by omega⟩
 have hj : ss[j]? = some (ss[j]'(by omega)) := zzB (by omega)
 have wi := yN (as := V P F J ss os e11 e15 e16 e17 e20 e21 e22 e23 S (sI i) (sI b) (sT (zX (held P.N b))) e27) (zb (i := 13) (x := .int i) (s := true) rfl) (wI (zf (x := .int 4)) (yf (xZ (zb (i := 25) rfl) (zf (x := .int 512)) (by decide) (zT (by decide) (by decide))) (zf (x := .int 2)) (by decide)) (zT (by decide) (by decide)) (zT (by omega) (by omega)))
 rw [<- ej] at wi
 have ap := zcG (i := 24) (os0 := S.map sgO) (os := S.map sgO) (as := V P F J ss os e11 e15 e16 e17 e20 e21 e22 e23 S (sI i) (sI b) (sT (zX (held P.N b))) e27) rfl (zhE (z9 (Zu (zb (i := 18) rfl) wi (XR hj)) (z9 (zb (i := 26) rfl) yG)) (szl rfl)) rfl (by rw [zD, i1]; exact yM (by omega))
 rw [show S.map sgO ++ [Yv [O.lf true (.str (ss[j]'(by omega))), O.lf true (zX (held P.N b))]] = (S ++ [((ss[j]'(by omega)), held P.N b)]).map sgO by rw [List.map_append]; rfl] at ap
 refine ⟨_, _, _, zZ (yC (i := 25) (yP (zb (i := 4) rfl) (yN zf (zb (i := 13) rfl)) a1 rfl) (zG rfl)) (zZ (Z4 (p := 26) hw (zG rfl)) ap), by rw [zzG, i1]; rfl, ?_, λ p m => ?_⟩
 · rw [List.map_append]
   refine List.nodup_append.mpr ⟨i2, zzT.mpr ⟨List.not_mem_nil, List.nodup_nil⟩, λ x mx y my e => ?_⟩
   obtain ⟨p, mp, rfl⟩ := List.mem_map.mp mx
   obtain ⟨_, j', j1, j2, j3⟩ := i3 p mp
   have my := zzO.mp my
   subst my
   have hj' := zzD.mp j3
   obtain ⟨l', e'⟩ := hj'
   have : ss[j'] = ss[j]'(by omega) := e'.trans e
   have := (List.getElem_inj hn).mp this
   omega
 · rcases zzJ.mp m with m | m
   · obtain ⟨z1, j', j1, j2, j3⟩ := i3 p m
     exact ⟨z1, j', by omega, j2, j3⟩
   · rw [zzO.mp m]
     exact ⟨⟨b, rfl⟩, j, by omega, by omega, hj⟩
theorem zlf {P : Par} (h : POk P) {F : List Int} (hF : F.Perm (zbM P.N)) {J : TZ} {ss : List Str} (hs : ss.length = 10) (hn : ss.Nodup) {os : List O} {Ds : DD} (ho : Ows wk (Good P F J) os Ds) {e11 e13 e15 e16 e17 e20 e21 e22 e23 : Option O} :
 ∃ S : SS, S.length <= 3 /\ (S.map (·.1)).Nodup /\ (∀ p ∈ S, ∃ b, p.2 = held P.N b) /\ Rt ((zA (zK false 24 (vd dN))
 (zA (xm (yI (aC (fC (.int 3)) aN) yO) (gN 13) sgB)
 (zA (zK true 27 (f2 (fV 12) (f2 (vd (dC (fC (.int 0)) (dC (fV 8) dN))) (fP (aC (f2 (fV 5) (fC (.int 3)) (zL .Eq)) aN) Xm) ixP) ixP))
 (yh (yF (dC (fV 10) (dC (fV 9) (dC (fV 14) (dC (fV 27) (dC (fV 19) (dC (fSl (fV 24) oN (oS (f2 (f2 (fV 4) (fC (.int 12)) ixP) (fC (.int 4)) (zp .Mod))) slP) dN)))))))))))
 (Y P F J e11 e16 ss os e13 e15 e17 e20 e21 e22 e23)) (zE P.N P.m J (rAt F P.e) Ds S) := by
 obtain ⟨hR, _⟩ := Yk hF
 obtain ⟨as', hf, S, a13, a25, a26, rfl, i1, i2, i3⟩ := xT (g := gN 13) (f := sgB)
  (λ i as => ∃ (S : SS) (e13 e25 e26 : Option O), as = V P F J ss os e11 e15 e16 e17 e20 e21 e22 e23 S e13 e25 e26 none /\ SgI P ss i S)
  (xf 0 3) 0 (V P F J ss os e11 e15 e16 e17 e20 e21 e22 e23 [] e13 none none none) (λ i x as hx hI => by
   obtain ⟨S, e13, e25, e26, rfl, hI⟩ := hI
   obtain ⟨rfl, hi⟩ := xX hx
   rw [Nat.zero_add] at hI
   rw [Int.zero_add, Nat.zero_add]
   obtain ⟨S', a, b, k1, k2⟩ := zkM (F := F) (J := J) (os := os) (e11 := e11) (e15 := e15) (e16 := e16) (e17 := e17) (e20 := e20) (e21 := e21) (e22 := e22) (e23 := e23) (e25 := e25) (e26 := e26) (e27 := none) h hs hn hi hI
   exact ⟨_, rfl, _, k1, S', _, _, _, rfl, k2⟩)
  ⟨[], _, _, _, rfl, rfl, List.nodup_nil, λ _ m => nomatch m⟩
 rw [yL] at i1
 obtain ⟨y, y1, y2⟩ := at2 h.yS (k := 12) (by omega) (by rw [h.yl]; omega)
 have q0 := Int.emod_nonneg y (show (4 : Int) ≠ 0 by decide)
 have q1 := Int.emod_lt_of_pos y (show (0 : Int) < 4 by decide)
 obtain ⟨g1, g2, g3⟩ := zfM S
 have ce := h.lj.ce
 have ee : (if (P.k == 3) = true then (P.n2 : Int) else 0) = P.e := by
  show _ = eK P.k * P.n2 + eK P.k2
  rw [h.e2]
  unfold eK
  by_cases hk : P.k = 3 <;> simp [hk]
 have wE : WD (f2 (vd (dC (fC (.int 0)) (dC (fV 8) dN))) (fP (aC (f2 (fV 5) (fC (.int 3)) (zL .Eq)) aN) Xm) ixP) (V P F J ss os e11 e15 e16 e17 e20 e21 e22 e23 S a13 a25 a26 none) true (.int P.e) := by
  rw [<- ee]
  exact f2E (ZC (os := [lfI 0, lfI P.n2]) (z9 zf (z9 (zb (i := 8) rfl) yG)) (szl rfl) rfl rfl) (WD.e (ZQ (x := .int (if (P.k == 3) = true then 1 else 0)) (zy (zdv (c := P.k == 3) (zb (i := 5) rfl) zf rfl) zP) rfl rfl)) zki
 have s27 := yC (st := true) (i := 27) (yP (zb (i := 12) rfl) wE (rowAt hR ce).1 rfl) (zG rfl)
 have hfJ := ziI J
 have hfD := ho.frz
 have wy : oS (f2 (f2 (fV 4) (fC (.int 12)) ixP) (fC (.int 4)) (zp .Mod)) ((V P F (J) ss os e11 e15 e16 e17 e20 e21 e22 e23 S a13 a25 a26 (sI (rAt F P.e))).set 14 (some (Z5 J).frz) |>.set 19 (some (O.nd .ls os).frz)) = some (some (y % 4), _) := zdf (yf (yP (zb (i := 4) rfl) zf y1 rfl) zf (by decide))
 have sl := zpj (as := (V P F (J) ss os e11 e15 e16 e17 e20 e21 e22 e23 S a13 a25 a26 (sI (rAt F P.e))).set 14 (some (Z5 J).frz) |>.set 19 (some (O.nd .ls os).frz)) (i := 24) (os := S.map sgO) (fl := oN) (lo := none) rfl g1 g2 rfl wy
 have ct := zkv (xs := (S.take (y % 4).toNat).map Zm) (ys := (S.drop (y % 4).toNat).map Zm)
 rw [<- List.map_append, List.take_append_drop, zD, zzP, Nat.min_eq_left (by omega), show (((y % 4).toNat : Nat) : Int) = y % 4 by omega] at ct
 have ct : cutD (S.map Zm) none (some (y % 4)) = (S.take (y % 4).toNat).map Zm := by
  injection ct with ct
  injection ct
 rw [g3, ct] at sl
 have w0 : (dC (fV 10) (dC (fV 9) (dC (fV 14) (dC (fV 27) (dC (fV 19) (dC (fSl (fV 24) oN (oS (f2 (f2 (fV 4) (fC (.int 12)) ixP) (fC (.int 4)) (zp .Mod))) slP) dN)))))) (V P F J ss os e11 e15 e16 e17 e20 e21 e22 e23 S a13 a25 a26 (sI (rAt F P.e))) = some (_, _) :=
  Yw (zb (i := 10) rfl) (Yw (zb (i := 9) rfl) (zhP (j := 14) (ps := J.map zal) rfl (Yw (zb (i := 27) rfl) (zhP (j := 19) (ps := os) rfl (Yw sl rfl)))))
 have hfin := ziw w0 (szl rfl)
 rw [hfJ, hfD] at hfin
 have ms := zkF (os := [lfI P.N, lfI P.m, .lf true (zY J), lfI (rAt F P.e), .lf true (.lst (Ds.map wk)), .nd .ls (((S.take (y % 4).toNat).map Zm).map (O.lf true))]) (by
  show (O.strs (((S.take (y % 4).toNat).map Zm).map (O.lf true)) && true) = true
  rw [zdS]; rfl)
 have rt := ziD hfin ms.1
 refine ⟨S.take (y % 4).toNat, by rw [zzP]; omega, ?_, λ p m => (i3 p (List.mem_of_mem_take m)).1, zH (xY (i := 24) (Yp yG (szl rfl)) (zG rfl)) (zH (wU (ww (j := 3) (zy zf zP) (by decide) (by decide)) hf) (zH s27 ⟨_, rt, ms.1, ms.2.trans ?_⟩))⟩
 · rw [List.map_take]; exact i2.sublist (List.take_sublist _ _)
 · show D.tup [.int P.N, .int P.m, zY J, .int (rAt F P.e), .lst (Ds.map wk), .lst (O.toDs (((S.take (y % 4).toNat).map Zm).map (O.lf true)))] = _
   rw [zek]
structure Made (n m : Nat) (J : TZ) (e : Int) (Ds : DD) (S : SS) : Prop where
 al : Alg n m J e Ds
 la : LawA n m J e Ds
 s3 : S.length <= 3
 sn : (S.map (·.1)).Nodup
 sh : ∀ p ∈ S, ∃ b, p.2 = held n b
theorem zhG {c h : Int} {w : Nat} (hw : w <= 4) : ∃ n m J e Ds S, Made n m J e Ds S /\ Ds.length = w /\ RE (vD [(true, .int c), (true, .int h), (true, .int w)]) (zE n m J e Ds S) := by
 obtain ⟨x, hr, n, m, J, e, Ds, S, h1, h2, rfl⟩ : Rq (Xe (yE 28 [(true, .int c), (true, .int h), (true, .int w)])) (λ x => ∃ n m J e Ds S, Made n m J e Ds S /\ Ds.length = w /\ x = zE n m J e Ds S) := by
  refine zmM hw λ P hP hw' hh => zkd hP λ F e11 e13 hF => zmn hP hF λ J e15 e16 e17 hJ hJ2 => zkP hP hF hJ2 λ ss os Ds e13 e15 e17 e20 e21 e22 e23 s1 s2 ho hD => ?_
  obtain ⟨S, q1, q2, q3, q4⟩ := zlf hP hF (J := J) s1 s2 ho (e11 := e11) (e13 := e13) (e15 := e15) (e16 := e16) (e17 := e17) (e20 := e20) (e21 := e21) (e22 := e22) (e23 := e23)
  obtain ⟨hR, _⟩ := Yk hF
  obtain ⟨B, b1, b2⟩ := perm_back hF
  have hl : Ds.length = P.w := by
   have := congrArg List.length hD
   rw [zD, zzP, s1] at this
   have := hP.w4
   omega
  have ce := (rowAt hR hP.lj.ce).2
  exact ⟨_, q4, P.N, P.m, J, rAt F P.e, Ds, S, ⟨⟨hP.N1, hP.n8, hP.m1, hP.m6, hJ, ce.1, ce.2, by have := hP.w4; omega, λ p m => (ho.al p m).1, by rw [hD]; exact s2.sublist (List.take_sublist _ _)⟩, ⟨ljT hP.lj (λ a ha => (rowAt hR ha).2) b1 b2 hJ2, λ p m => (ho.al p m).2⟩, q1, q2, q3⟩, by omega, rfl⟩
 exact ⟨n, m, J, e, Ds, S, h1, h2, wK rfl hr⟩
abbrev En : Type := Int × Int × D
abbrev ky (x : En) : Int × Int := (x.1, x.2.1)
def tk (es : List En) : List En -> List En
 | [] => es
 | x :: r => tk (if ky x ∈ es.map ky then es else es ++ [x]) r
theorem zfG : ∀ (xs es : List En), ∃ t, tk es xs = es ++ t
 | [], es => ⟨[], (List.append_nil _).symm⟩
 | x :: r, es => by
  unfold tk
  obtain ⟨t, h⟩ := zfG r (if ky x ∈ es.map ky then es else es ++ [x])
  rw [h]
  split
  · exact ⟨t, rfl⟩
  · exact ⟨x :: t, by rw [List.append_assoc]; rfl⟩
theorem zeZ {Q : En -> Prop} : ∀ (xs es : List En), (∀ x ∈ es, Q x) -> (∀ x ∈ xs, Q x) -> ∀ x ∈ tk es xs, Q x
 | [], es, h, _ => h
 | x :: r, es, h, g => by
  unfold tk
  refine zeZ r _ (λ y m => ?_) λ y m => g y (zzA _ m)
  split at m
  · exact h y m
  · rcases zzJ.mp m with m | m
    · exact h y m
    · rw [zzO.mp m]; exact g x zzC
theorem zic : ∀ (xs es : List En), (es.map ky).Nodup -> ((tk es xs).map ky).Nodup
 | [], es, h => h
 | x :: r, es, h => by
  unfold tk
  refine zic r _ ?_
  split
  · exact h
  · rename_i hn
    rw [List.map_append]
    refine List.nodup_append.mpr ⟨h, zzT.mpr ⟨List.not_mem_nil, List.nodup_nil⟩, λ a m b m' e => ?_⟩
    have : b = ky x := zzO.mp m'
    subst e this
    exact hn m
theorem zaZ {xs es : List En} {k : Int × Int} (h : k ∈ es.map ky) : k ∈ (tk es xs).map ky := by
 obtain ⟨t, e⟩ := zfG xs es
 rw [e, List.map_append]
 exact zzM _ h
theorem zem : ∀ (xs es : List En) (x : En), x ∈ xs -> ky x ∈ (tk es xs).map ky
 | y :: r, es, x, m => by
  unfold tk
  rcases zS.mp m with rfl | m
  · refine zaZ ?_
    split
    · assumption
    · rw [List.map_append]; exact zzI _ zzC
  · exact zem r _ x m
def two (m : Nat) (J : TZ) (es : List En) (p q : Nat) : En := (jAt J (es.getD p (0, 0, .non)).1 (es.getD q (0, 0, .non)).1, ((es.getD p (0, 0, .non)).2.1 + (es.getD q (0, 0, .non)).2.1) % m, .tup [.str "two", .int p, .int q])
def fol (m : Nat) (J : TZ) (Ds : DD) (es : List En) (k : Nat) : List En :=
 (Ds.map λ p => (jAt p.2 (es.getD k (0, 0, .non)).2.1 (es.getD k (0, 0, .non)).1, (es.getD k (0, 0, .non)).2.1, D.tup [.str "deed", .str p.1, .int k])) ++ (List.range (k + 1)).flatMap λ p => [two m J es p k, two m J es k p]
def Ok (n m : Nat) (x : En) : Prop := InR n x.1 /\ InR m x.2.1
structure Cl (n m : Nat) (J : TZ) (Ds : DD) (es : List En) (at_ : Nat) : Prop where
 nd : (es.map ky).Nodup
 ok : ∀ x ∈ es, Ok n m x
 dd : ∀ k, k < at_ -> ∀ x, es[k]? = some x -> ∀ p ∈ Ds, (jAt p.2 x.2.1 x.1, x.2.1) ∈ es.map ky
 tw : ∀ p q, p < at_ -> q < at_ -> ∀ x y, es[p]? = some x -> es[q]? = some y -> (jAt J x.1 y.1, (x.2.1 + y.2.1) % m) ∈ es.map ky
variable {n m : Nat} {J : TZ} {e : Int} {Ds : DD} {es : List En}
theorem gd {k : Nat} {x : En} (h : es[k]? = some x) : es.getD k (0, 0, .non) = x := by rw [List.getD_eq_getElem?_getD, h]; rfl
theorem zkG (L : LawA n m J e Ds) (m1 : 1 <= m) {p q : Nat} {x y : En} (hx : es[p]? = some x) (hy : es[q]? = some y) (ox : Ok n m x) (oy : Ok n m y) : Ok n m (two m J es p q) := by
 unfold two
 rw [gd hx, gd hy]
 exact ⟨L.lj.cl _ _ ox.1 oy.1, zeh (by omega)⟩
theorem Cl.fol_ok {k : Nat} (L : LawA n m J e Ds) (m1 : 1 <= m) (h : Cl n m J Ds es k) (hk : k < es.length) : ∀ x ∈ fol m J Ds es k, Ok n m x := λ x mx => by
 have ek := zzB hk
 have ok := h.ok _ (List.getElem_mem hk)
 rcases zzJ.mp mx with mx | mx
 · obtain ⟨p, mp, rfl⟩ := List.mem_map.mp mx
   rw [gd ek]
   exact ⟨(L.ld p mp).cl _ _ ok.2 ok.1, ok.2⟩
 · obtain ⟨p, mp, mx⟩ := List.mem_flatMap.mp mx
   have hp : p < es.length := by have := List.mem_range.mp mp; omega
   have ep := zzB hp
   have op := h.ok _ (List.getElem_mem hp)
   rcases zS.mp mx with rfl | mx
   · exact zkG L m1 ep ek op ok
   · rw [zzO.mp mx]; exact zkG L m1 ek ep ok op
theorem Cl.step {k : Nat} (L : LawA n m J e Ds) (m1 : 1 <= m) (h : Cl n m J Ds es k) (hk : k < es.length) : Cl n m J Ds (tk es (fol m J Ds es k)) (k + 1) := by
 obtain ⟨t, et⟩ := zfG (fol m J Ds es k) es
 have at_ : ∀ {i : Nat} {x : En}, i < k + 1 -> (tk es (fol m J Ds es k))[i]? = some x -> es[i]? = some x := λ hi hx => by
  rw [et, List.getElem?_append_left (by omega)] at hx; exact hx
 refine ⟨zic _ _ h.nd, zeZ _ _ h.ok (h.fol_ok L m1 hk), λ i hi x hx p mp => ?_, λ p q hp hq x y hx hy => ?_⟩
 · have ex := at_ hi hx
   by_cases e1 : i < k
   · exact zaZ (h.dd i e1 x ex p mp)
   · have : i = k := by omega
     subst this
     have := zem (fol m J Ds es i) es _ (zzM _ (List.mem_map.mpr ⟨p, mp, rfl⟩))
     rw [gd ex] at this
     exact this
 · have ex := at_ hp hx
   have ey := at_ hq hy
   by_cases e1 : p < k /\ q < k
   · exact zaZ (h.tw p q e1.1 e1.2 x y ex ey)
   · by_cases e2 : q = k
     · subst e2
       have := zem (fol m J Ds es q) es _ (zzI _ (List.mem_flatMap.mpr ⟨p, List.mem_range.mpr (by omega), zzC⟩))
       unfold two at this
       rw [gd ex, gd ey] at this
       exact this
     · have : p = k := by omega
       subst this
       have := zem (fol m J Ds es p) es _ (zzI _ (List.mem_flatMap.mpr ⟨q, List.mem_range.mpr (by omega), zzA _ zzC⟩))
       unfold two at this
       rw [gd ex, gd ey] at this
       exact this
structure Kn (n m : Nat) (J : TZ) (e : Int) (Ds : DD) (ks : List (Int × Int)) : Prop where
 o : (e, 0) ∈ ks
 d : ∀ v c, (v, c) ∈ ks -> ∀ p ∈ Ds, (jAt p.2 c v, c) ∈ ks
 t : ∀ v c v' c', (v, c) ∈ ks -> (v', c') ∈ ks -> (jAt J v v', (c + c') % m) ∈ ks
theorem Cl.kn (h : Cl n m J Ds es es.length) (h0 : (e, 0) ∈ es.map ky) : Kn n m J e Ds (es.map ky) := by
 have ix : ∀ {v c : Int}, (v, c) ∈ es.map ky -> ∃ i x, i < es.length /\ es[i]? = some x /\ x.1 = v /\ x.2.1 = c := λ hm => by
  obtain ⟨x, mx, ex⟩ := List.mem_map.mp hm
  obtain ⟨i, hi, hx⟩ := List.getElem_of_mem mx
  cases ex
  exact ⟨i, x, hi, by rw [zzB hi, hx], rfl, rfl⟩
 refine ⟨h0, λ v c hm p mp => ?_, λ v c v' c' h1 h2 => ?_⟩
 · obtain ⟨i, x, hi, hx, rfl, rfl⟩ := ix hm
   exact h.dd i hi x hx p mp
 · obtain ⟨i, x, hi, hx, rfl, rfl⟩ := ix h1
   obtain ⟨j, y, hj, hy, rfl, rfl⟩ := ix h2
   exact h.tw i j hi hj x y hx hy
theorem zjf {ps : List (Int × Int)} (nd : ps.Nodup) (h : ∀ p ∈ ps, InR n p.1 /\ InR m p.2) : ps.length <= n * m := by
 have hs : ps ⊆ (List.range (n * m)).map λ k => (((k / m : Nat) : Int), ((k % m : Nat) : Int)) := λ p mp => by
  obtain ⟨⟨a, b⟩, c, d⟩ := h p mp
  have hm : 0 < m := by omega
  refine List.mem_map.mpr ⟨p.1.toNat * m + p.2.toNat, List.mem_range.mpr ?_, ?_⟩
  · calc p.1.toNat * m + p.2.toNat < p.1.toNat * m + m := by omega
     _ = (p.1.toNat + 1) * m := by rw [Nat.add_mul, Nat.one_mul]
     _ <= n * m := Nat.mul_le_mul_right _ (by omega)
  · have e1 : (p.1.toNat * m + p.2.toNat) / m = p.1.toNat := by
     rw [Nat.mul_comm, Nat.mul_add_div hm, Nat.div_eq_of_lt (by omega)]; rfl
    have e2 : (p.1.toNat * m + p.2.toNat) % m = p.2.toNat := by
     rw [Nat.mul_comm, Nat.mul_add_mod, Nat.mod_eq_of_lt (by omega)]
    rw [e1, e2]
    exact Prod.ext (by show ((p.1.toNat : Nat) : Int) = p.1; omega) (by show ((p.2.toNat : Nat) : Int) = p.2; omega)
 have := nd.length_le_of_subset hs
 rw [zD, List.length_range] at this
 exact this
variable {n m : Nat} {J : TZ} {e : Int} {Ds : DD} {es : List En} {row : List Int}
inductive How (row : List Int) (m : Nat) (J : TZ) (e : Int) (Ds : DD) (pre : List En) : En -> Prop
 | none : How row m J e Ds pre (e, 0, .tup [.str "none"])
 | one {v : Int} : v ∈ row -> How row m J e Ds pre (v, 1 % (m : Int), .tup [.str "one", .int v])
 | deed {p : Str × TZ} {k : Nat} {y : En} : p ∈ Ds -> pre[k]? = some y -> How row m J e Ds pre (jAt p.2 y.2.1 y.1, y.2.1, .tup [.str "deed", .str p.1, .int k])
 | two {p q : Nat} {y z : En} : pre[p]? = some y -> pre[q]? = some z -> How row m J e Ds pre (jAt J y.1 z.1, (y.2.1 + z.2.1) % m, .tup [.str "two", .int p, .int q])
theorem zfC {t : List En} {k : Nat} {y : En} (h : es[k]? = some y) : (es ++ t)[k]? = some y := by
 rw [List.getElem?_append_left (zzD.mp h).1]; exact h
theorem How.mono {t : List En} {x : En} (h : How row m J e Ds es x) : How row m J e Ds (es ++ t) x := by
 cases h with
 | none => exact .none
 | one h => exact .one h
 | deed h1 h2 => exact .deed h1 (zfC h2)
 | two h1 h2 => exact .two (zfC h1) (zfC h2)
def Hw (row : List Int) (m : Nat) (J : TZ) (e : Int) (Ds : DD) (es : List En) : Prop := ∀ k x, es[k]? = some x -> How row m J e Ds (es.take k) x
theorem Hw.snoc {x : En} (h : Hw row m J e Ds es) (hx : How row m J e Ds es x) : Hw row m J e Ds (es ++ [x]) := λ k y hy => by
 by_cases c : k < es.length
 · rw [List.getElem?_append_left c] at hy
   rw [List.take_append_of_le_length (by omega)]
   exact h k y hy
 · have l := (zzD.mp hy).1
   rw [zzG] at l
   have l : k < es.length + 1 := l
   have ek : k = es.length := by omega
   subst ek
   rw [List.getElem?_append_right (zzK _), Nat.sub_self] at hy
   cases hy
   rw [List.take_left]
   exact hx
theorem zgE : ∀ (xs es : List En), Hw row m J e Ds es -> (∀ x ∈ xs, How row m J e Ds es x) -> Hw row m J e Ds (tk es xs)
 | [], es, h, _ => h
 | x :: r, es, h, g => by
  unfold tk
  split
  · exact zgE r es h λ y my => g y (zzA _ my)
  · exact zgE r _ (h.snoc (g x zzC)) λ y my => (g y (zzA _ my)).mono
theorem zmY {k : Nat} {x : En} (hk : es[k]? = some x) : ∀ y ∈ fol m J Ds es k, How row m J e Ds es y := λ y my => by
 have hl := (zzD.mp hk).1
 rcases zzJ.mp my with my | my
 · obtain ⟨p, mp, rfl⟩ := List.mem_map.mp my
   rw [gd hk]
   exact .deed mp hk
 · obtain ⟨p, mp, my⟩ := List.mem_flatMap.mp my
   have hp : p < es.length := by have := List.mem_range.mp mp; omega
   have ep := zzB hp
   rcases zS.mp my with rfl | my
   · unfold two
     rw [gd ep, gd hk]
     exact .two ep hk
   · rw [zzO.mp my]
     unfold two
     rw [gd ep, gd hk]
     exact .two hk ep
abbrev pD (p : Int × Int) : D := .tup [.int p.1, .int p.2]
abbrev kP (p : Int × Int) : List Key := [.inl p.1, .inl p.2]
theorem zoA (ds : List D) : (ds.map (O.lf true)).all O.isLf = true := by
 rw [List.all_eq_true]
 intro x mx
 obtain ⟨d, _, rfl⟩ := List.mem_map.mp mx
 rfl
theorem znI {k : PF.Kind} (ds : List D) : (O.nd k (ds.map (O.lf true))).kl = some true := by
 show (if (ds.map (O.lf true)).all O.isLf = true then some (O.strs (ds.map (O.lf true))) else none) = _
 rw [if_pos (zoA ds), zdS]
theorem zqd {as : AS} {i : Nat} {a : EF} {g : D -> D -> Option R0} {k : PF.Kind} {ds : List D} {X x z : D} (ha : WD a as true x) (h : as[i]? = some (some (.nd k (ds.map (O.lf true))))) (hX : (O.nd k (ds.map (O.lf true))).toD = X) (hg : g x X = some (.im z)) : WE (f2 a (fV i) g) as z := by
 have e2 : RV.view as (.bo i) = some (X, some true) := by rw [VH h, znI, hX]
 refine ⟨.lf (zF z || true) z, ?_, Bool.or_true _, rfl⟩
 unfold WD at ha
 unfold f2
 simp only [zcf h, ha, Option.bind_some, RV.frz, e2]
 show ((g x X).bind _) = _
 rw [hg]
 show ((if (zF z || true) = true then some (RV.ow (lfs true z)) else none : Option RV).bind _) = _
 rw [if_pos (Bool.or_true _)]; rfl
theorem zhB {p q : Int × Int} (h : kP p = kP q) : p = q := by
 obtain ⟨a, b⟩ := p
 obtain ⟨c, d⟩ := q
 have h1 := (List.cons.inj h).1
 have h2 := (List.cons.inj (List.cons.inj h).2).1
 have e1 : a = c := Sum.inl.inj h1
 have e2 : b = d := Sum.inl.inj h2
 rw [e1, e2]
theorem ziK {p : Int × Int} : ∀ {ps : List (Int × Int)} {fs : List D}, ps.length = fs.length -> p ∈ ps -> ∃ x ∈ fs, zcZ (ps.map kP) fs (kP p) = some x
 | [], _, _, h => nomatch h
 | q :: ps, [], h, _ => by simp at h
 | q :: ps, f :: fs, hl, h => by
  unfold zcZ
  rw [List.map_cons, List.zip_cons_cons]
  by_cases e : q = p
  · rw [List.find?_cons_of_pos (by simp [e])]; exact ⟨f, zzC .., rfl⟩
  · rw [List.find?_cons_of_neg (by simpa using λ z : kP q = kP p => e (zhB z))]
    obtain ⟨x, mx, hx⟩ := ziK (ps := ps) (fs := fs) (by simpa using hl) ((zS.mp h).resolve_left λ z => e z.symm)
    exact ⟨x, zzA _ mx, hx⟩
theorem zgV {p : Int × Int} : ∀ {ps : List (Int × Int)} {fs : List D}, p ∉ ps -> zcZ (ps.map kP) fs (kP p) = none
 | [], _, _ => rfl
 | q :: ps, [], _ => rfl
 | q :: ps, f :: fs, h => by
  unfold zcZ
  rw [List.map_cons, List.zip_cons_cons, List.find?_cons_of_neg (by simpa using λ z : kP q = kP p => h (by rw [<- zhB z]; exact zzC ..))]
  exact zgV (ps := ps) (fs := fs) λ z => h (zzA _ z)
theorem znD {p : Int × Int} {ps : List (Int × Int)} {fs : List D} (hl : ps.length = fs.length) : inP (pD p) (.dt (ps.map kP) fs) = some (decide (p ∈ ps)) := by
 show some (zcZ (ps.map kP) fs (kP p)).isSome = _
 by_cases h : p ∈ ps
 · obtain ⟨x, _, hx⟩ := ziK hl h
   rw [hx, decide_eq_true h]; rfl
 · rw [zgV h, decide_eq_false h]; rfl
abbrev dP (ps : List (Int × Int)) (fs : List D) : Option O := some (.nd (.dt (ps.map kP)) (fs.map (O.lf true)))
theorem zhf {ks : List (List Key)} (fs : List D) : (O.nd (.dt ks) (fs.map (O.lf true))).toD = .dt ks fs := by
 show D.dt ks (O.toDs (fs.map (O.lf true))) = _
 rw [zek]
theorem zhS (ds : List D) : (O.nd .ls (ds.map (O.lf true))).toD = .lst ds := by
 show D.lst (O.toDs (ds.map (O.lf true))) = _
 rw [zek]
theorem ziq {p : Int × Int} {ps : List (Int × Int)} (h : p ∉ ps) : zjn (ps.map kP) (kP p) = false := by
 unfold zjn
 rw [List.any_eq_false]
 intro k mk
 obtain ⟨q, mq, rfl⟩ := List.mem_map.mp mk
 simpa using λ z : kP q = kP p => h (by rw [<- zhB z]; exact mq)
theorem zmF {as : AS} {j k : Nat} {fv : EF} {p : Int × Int} {ps : List (Int × Int)} {fs : List D} {x : D} (h5 : as[j]? = some (dP ps fs)) (h11 : as[k]? = some (sT (pD p))) (hv : WE fv as x) (hn : p ∉ ps) (hl : ps.length <= 1000) :
 V7 j (fV k) fv as = some (.nx (as.set j (dP (ps ++ [p]) (fs ++ [x])))) := by
 obtain ⟨o, h1, h2, h3⟩ := hv
 have e : XD as (.ow o) = some ((o.str, o.toD), as) := rfl
 have e1 : fV k as = some (.ow (.lf true (pD p)), as) := zb h11
 have e3 : zou (.ow (.lf true (pD p))) = some (kP p) := rfl
 unfold V7
 simp only [h1, Option.bind_some, e, h5, e1, e3, zD, if_pos (show ps.length < sizeLine from Nat.lt_of_le_of_lt hl (by decide))]
 unfold YG ZP
 rw [ziq hn, h2, h3]
 simp only [Bool.false_eq_true, if_false, dP, List.map_append, List.map_cons, List.map_nil]
theorem zlo {f : EF} {as : AS} {c : Bool} (h : WE f as (.bl c)) : WD f as true (.bl c) := by
 obtain ⟨o, h1, h2, h3⟩ := h
 cases o with
 | lf st d =>
  have e1 : st = true := h2
  have e2 : d = .bl c := h3
  subst e1 e2
  exact h1
 | nd k os => cases k <;> cases h3
theorem zll {p : Int × Int} {ps : List (Int × Int)} {fs : List D} (hl : ps.length = fs.length) : zL .NotIn (pD p) (.dt (ps.map kP) fs) = some (.im (.bl (!decide (p ∈ ps)))) := by
 unfold zL
 simp only [znD hl]
 rfl
abbrev eD (x : En) : D := .tup [.int x.1, .int x.2.1, x.2.2]
abbrev eO (es : List En) : O := .nd .ls ((es.map eD).map (O.lf true))
abbrev yes (es : List En) : List D := es.map λ _ => .bl true
abbrev kO (es : List En) : O := .nd (.dt ((es.map ky).map kP)) ((yes es).map (O.lf true))
abbrev T5 (es xs : List En) (e3 e4 : Option O) : AS := [some (eO es), some (kO es), sT (.lst (xs.map eD)), e3, e4]
abbrev tnB : SF := (zA (zK true 4 (yF (dC (f2 (fV 3) (fC (.int 0)) ixP) (dC (f2 (fV 3) (fC (.int 1)) ixP) dN))))
 (sIf (fT (f2 (fV 4) (fV 1) (zL .NotIn))) (zA (V7 1 (fV 4) (fC (.bl true)))
 (yV (wF 0 (dC (fV 3) dN) v4))) sNx))
theorem zhv {xs : List En} : ∀ (r es : List En) (e3 e4 : Option O), es.length + r.length <= 1000 ->
 ∃ e3' e4', forL (gN 3) tnB ((r.map eD).map λ d => (true, d)) (T5 es xs e3 e4) = some (.nx (T5 (tk es r) xs e3' e4'))
 | [], es, e3, e4, _ => ⟨e3, e4, rfl⟩
 | x :: r, es, e3, e4, hl => by
  have hl' : es.length + (r.length + 1) <= 1000 := hl
  have w1 : WD (f2 (fV 3) (fC (.int 0)) ixP) (T5 es xs (sT (eD x)) e4) true (.int x.1) := yP (g := ixP) (zb (i := 3) rfl) (zf (x := .int 0)) rfl rfl
  have w2 : WD (f2 (fV 3) (fC (.int 1)) ixP) (T5 es xs (sT (eD x)) e4) true (.int x.2.1) := yP (g := ixP) (zb (i := 3) rfl) (zf (x := .int 1)) rfl rfl
  have s4 := Z4 (p := 4) (Zg (WD.e w1) (WD.e w2)) (zG rfl)
  have fl : (es.map ky).length = (yes es).length := by rw [zD, zD]
  have tn := yH (zlo (zqd (as := T5 es xs (sT (eD x)) (sT (pD (ky x)))) (i := 1) (g := zL .NotIn) (z := .bl (!decide (ky x ∈ es.map ky))) (zb (i := 4) rfl) rfl (zhf (yes es)) (zll fl))) rfl
  by_cases hc : ky x ∈ es.map ky
  · rw [decide_eq_true hc] at tn
    obtain ⟨e3', e4', hf⟩ := zhv r es (sT (eD x)) (sT (pD (ky x))) (by omega)
    refine ⟨e3', e4', ?_⟩
    have ht : tk es (x :: r) = tk es r := by unfold tk; rw [if_pos hc]; cases r <;> rfl
    rw [ht]
    exact Zn (as1 := T5 es xs (sT (eD x)) e4) rfl (zZ s4 (yD tn rfl)) hf
  · rw [decide_eq_false hc] at tn
    have sd := zmF (as := T5 es xs (sT (eD x)) (sT (pD (ky x)))) (j := 1) (k := 4) (fs := yes es) rfl rfl (WD.e (zf (x := .bl true))) hc (by rw [zD]; omega)
    have sa := zdD (as := (T5 es xs (sT (eD x)) (sT (pD (ky x)))).set 1 (dP (es.map ky ++ [ky x]) (yes es ++ [.bl true]))) (i := 0) (a := fV 3) (os := (es.map eD).map (O.lf true)) rfl (by rw [zD, zD]; exact Nat.lt_of_le_of_lt (show es.length <= 1000 by omega) (by decide)) (zb (i := 3) rfl)
    obtain ⟨e3', e4', hf⟩ := zhv r (es ++ [x]) (sT (eD x)) (sT (pD (ky x))) (by rw [zzG]; show es.length + 1 + r.length <= 1000; omega)
    refine ⟨e3', e4', ?_⟩
    have ht : tk es (x :: r) = tk (es ++ [x]) r := by
     show tk (if ky x ∈ es.map ky then es else es ++ [x]) r = _
     rw [if_neg hc]
    rw [ht]
    have el : (es.map eD).map (O.lf true) ++ [O.lf true (eD x)] = ((es ++ [x]).map eD).map (O.lf true) := by rw [List.map_append, List.map_append]; rfl
    have e5 : dP (es.map ky ++ [ky x]) (yes es ++ [.bl true]) = some (kO (es ++ [x])) := by
     show some (O.nd _ _) = some (O.nd _ _)
     rw [show es.map ky ++ [ky x] = (es ++ [x]).map ky by rw [List.map_append]; rfl, show yes es ++ [.bl true] = yes (es ++ [x]) by show _ = (es ++ [x]).map _; rw [List.map_append]; rfl]
    rw [el] at sa
    rw [e5] at sd sa
    exact Zn (as1 := T5 es xs (sT (eD x)) e4) rfl (zZ s4 (Zc tn (zZ sd sa))) hf
theorem zna {es xs : List En} (hl : es.length + xs.length <= 1000) : xj (eO es) (kO es) (true, .lst (xs.map eD)) = some (eO (tk es xs), kO (tk es xs)) := by
 obtain ⟨e3', e4', hf⟩ := zhv (xs := xs) xs es none none hl
 have h : zan (startM 5 (eO es) (kO es) (true, .lst (xs.map eD))) = some (.nx (T5 (tk es xs) xs e3' e4')) :=
  wU (as := T5 es xs none none) (zlQ (zb (i := 2) rfl)) hf
 unfold xj gM
 rw [h]
 rfl
variable {n m : Nat} {J : PF.TZ} {e : Int} {Ds : PF.DD} {S : PF.SS} {es : List En}
theorem zlv (A : Alg n m J e Ds) (L : LawA n m J e Ds) : RE (xF [(true, zE n m J e Ds S)]) .non := by
 have h : Yy (yE 2 [(true, zE n m J e Ds S)]) = some (.nx [sT (zE n m J e Ds S), sT .non]) := zZ (Z4 (p := 1) (zay (WD.e (zb (i := 0) rfl)) (zjp A L)) (zG rfl)) (yD (yH (yP (zb (i := 1) rfl) zf rfl rfl) rfl) rfl)
 refine ⟨.lf true .non, ?_, rfl, rfl⟩
 unfold xF fnR
 rw [if_pos (by rfl), h]; rfl
theorem enD {s : Bool} {a b : EF} {as : AS} {k : Nat} {x : En} (h : es[k]? = some x) (ha : WD a as s (.lst (es.map eD))) (hb : WD b as true (.int k)) : WD (f2 a b ixP) as (zF (eD x) || (s && true)) (eD x) := zlk ha hb (XR h)
theorem en0 {s : Bool} {a b : EF} {as : AS} {x : En} (ha : WD a as s (eD x)) (hb : WD b as true (.int 0)) : WD (f2 a b ixP) as true (.int x.1) := yP ha hb rfl rfl
theorem en1 {s : Bool} {a b : EF} {as : AS} {x : En} (ha : WD a as s (eD x)) (hb : WD b as true (.int 1)) : WD (f2 a b ixP) as true (.int x.2.1) := yP ha hb rfl rfl
theorem VN {a b c : EF} {as : AS} {x y z : D} (ha : WE a as x) (hb : WE b as y) (hc : WE c as z) : WE (yF (dC a (dC b (dC c dN)))) as (.tup [x, y, z]) := by
 obtain ⟨q, j1, rfl, j3⟩ := VP hc yG
 obtain ⟨p, k1, rfl, k3⟩ := VP hb j3
 obtain ⟨o, h1, rfl, h3⟩ := VP ha k3
 exact zfp h3 (by show 3 <= _; omega) (by show (o.str && (p.str && (q.str && true))) = true; rw [h1, k1, j1]; rfl) rfl
theorem zex (A : Alg n m J e Ds) (m1 : 1 <= m) {s : Bool} {p q : Nat} {x y : En} (hx : es[p]? = some x) (hy : es[q]? = some y) (ox : Ok n m x) (oy : Ok n m y) : RE (v9 [(true, zE n m J e Ds S), (s, .lst (es.map eD)), (true, .int p), (true, .int q)]) (eD (two m J es p q)) := by
 have s4 := yC (st := true) (as := yE 6 [(true, zE n m J e Ds S), (s, .lst (es.map eD)), (true, .int p), (true, .int q)]) (i := 4) (enD hx (zb (i := 1) rfl) (zb (i := 2) rfl)) (zG rfl)
 have s5 := yC (st := true) (as := [sT (zE n m J e Ds S), some (.lf s (.lst (es.map eD))), sI p, sI q, some (.lf (zF (eD x) || (s && true)) (eD x)), none]) (i := 5) (enD hy (zb (i := 1) rfl) (zb (i := 3) rfl)) (zG rfl)
 have w1 : WD (f2 (f2 (f2 (fV 0) (fC (.int 2)) ixP) (f2 (fV 4) (fC (.int 0)) ixP) ixP) (f2 (fV 5) (fC (.int 0)) ixP) ixP) [sT (zE n m J e Ds S), some (.lf s (.lst (es.map eD))), sI p, sI q, some (.lf (zF (eD x) || (s && true)) (eD x)), some (.lf (zF (eD y) || (s && true)) (eD y))] true (.int (jAt J x.1 y.1)) :=
  Xb A.j ox.1 oy.1 (f2E (WD.e (zb (i := 0) rfl)) (WD.e zf) rfl) (en0 (zb (i := 4) rfl) zf) (en0 (zb (i := 5) rfl) zf)
 have w2 : WD (f2 (f2 (f2 (fV 4) (fC (.int 1)) ixP) (f2 (fV 5) (fC (.int 1)) ixP) (zp .Add)) (f2 (fV 0) (fC (.int 1)) ixP) (zp .Mod)) [sT (zE n m J e Ds S), some (.lf s (.lst (es.map eD))), sI p, sI q, some (.lf (zF (eD x) || (s && true)) (eD x)), some (.lf (zF (eD y) || (s && true)) (eD y))] true (.int ((x.2.1 + y.2.1) % m)) :=
  yf (yN (en1 (zb (i := 4) rfl) zf) (en1 (zb (i := 5) rfl) zf)) (f2E (WD.e (zb (i := 0) rfl)) (WD.e zf) rfl) (by omega)
 have w3 : WE (yF (dC (fC (.str "two")) (dC (fV 2) (dC (fV 3) dN)))) [sT (zE n m J e Ds S), some (.lf s (.lst (es.map eD))), sI p, sI q, some (.lf (zF (eD x) || (s && true)) (eD x)), some (.lf (zF (eD y) || (s && true)) (eD y))] (.tup [.str "two", .int p, .int q]) := VN (WD.e zf) (WD.e (zb (i := 2) rfl)) (WD.e (zb (i := 3) rfl))
 have e1 : eD (two m J es p q) = .tup [.int (jAt J x.1 y.1), .int ((x.2.1 + y.2.1) % m), .tup [.str "two", .int p, .int q]] := by unfold two; rw [gd hx, gd hy]
 rw [e1]
 exact wK rfl (zH s4 (zH s5 (wH (VN (WD.e w1) (WD.e w2) w3))))
theorem znK {a b c d : EF} {as : AS} {s : Bool} {x l z : D} {p q : Int} {g : List (Bool × D) -> Option O} (ha : WD a as true x) (hb : WD b as s l) (hc : WD c as true (.int p)) (hd : WD d as true (.int q)) (hg : RE (g [(true, x), (zF l || s, l), (true, .int p), (true, .int q)]) z) : WE (zJ (aC a (aC b (aC c (aC d aN)))) g) as z := by
 obtain ⟨o, h1, h2, h3⟩ := hg
 exact ⟨o, ZF (zy ha (zy hb (zy hc (zy hd zP)))) (by show g [(zF x || true, x), (zF l || s, l), (true, .int p), (true, .int q)] = _; rw [Bool.or_true]; exact h1), h2, h3⟩
variable {n m : Nat} {J : PF.TZ} {e : Int} {Ds : PF.DD} {S : PF.SS} {es : List En}
theorem zrn {as : AS} {i : Nat} {fe : EF} {os ps : List O} (h : as[i]? = some (some (.nd .ls os))) (e1 : fe as = some (.ow (.nd .ls ps), as)) (hl : os.length + ps.length <= 1000) :
 yV (wF i (dC fe dN) zjo) as = some (.nx (as.set i (some (.nd .ls (os ++ ps))))) := by
 unfold yV wF
 rw [h]
 show (((dC fe dN as).bind _).bind _) = _
 unfold dC
 rw [e1]
 show ((match as[i]? with | some (some (.nd .ls os)) => (zjo os [.nd .ls ps]).bind λ z => some (RV.ow z.2, as.set i (some (.nd .ls z.1))) | _ => none).bind _) = _
 rw [h]
 show (((if os.length + ps.length <= sizeLine then some (os ++ ps, O.lf true .non) else none : Option (List O × O)).bind _).bind _) = _
 rw [if_pos (szs (by omega))]; rfl
theorem zgA : ∀ (a b : List O), O.toDs (a ++ b) = O.toDs a ++ O.toDs b
 | [], _ => rfl
 | x :: a, b => congrArg (x.toD :: ·) (zgA a b)
theorem zgw : ∀ {a b : List O}, O.strs a = true -> O.strs b = true -> O.strs (a ++ b) = true
 | [], _, _, h => h
 | x :: a, b, h, h' => by
  have h := (Bool.and_eq_true _ _).mp (show (x.str && O.strs a) = true from h)
  show (x.str && O.strs (a ++ b)) = true
  rw [h.1, zgw h.2 h']; rfl
def Oe (os : List O) (l : List En) : Prop := O.strs os = true /\ O.toDs os = l.map eD
theorem Oe.len {os : List O} {l : List En} (h : Oe os l) : os.length = l.length := by have := congrArg List.length h.2; rw [WY, zD] at this; exact this
abbrev B7 (s : Bool) (A : D) (es : List En) (k : Nat) (v c : Int) (os : List O) (e6 : Option O) : AS := [sT A, some (.lf s (.lst (es.map eD))), sI k, sI v, sI c, some (.nd .ls os), e6]
abbrev foB : SF := (yV (wF 5 (dC (vd (dC (zJ (aC (fV 0) (aC (fV 1) (aC (fV 6) (aC (fV 2) aN)))) v9) (dC (zJ (aC (fV 0) (aC (fV 1) (aC (fV 2) (aC (fV 6) aN)))) v9) dN))) dN) zjo))
abbrev prs (m : Nat) (J : PF.TZ) (es : List En) (k i : Nat) : List En := (List.range i).flatMap λ p => [two m J es p k, two m J es k p]
theorem zgW {k i : Nat} : prs m J es k (i + 1) = prs m J es k i ++ [two m J es i k, two m J es k i] := by
 show (List.range (i + 1)).flatMap _ = _
 rw [List.range_succ, List.flatMap_append]; rfl
theorem zfk {k : Nat} : ∀ i, (prs m J es k i).length = 2 * i
 | 0 => rfl
 | i + 1 => by rw [zgW, zzG, zfk i]; show 2 * i + 2 = _; omega
theorem zoy (A : Alg n m J e Ds) (m1 : 1 <= m) {s : Bool} {k : Nat} {x : En} (hk : es[k]? = some x) (ok : ∀ y ∈ es, Ok n m y) (hl : k < 100) {v c : Int} {os0 : List O} {l0 : List En} (h0 : Oe os0 l0) (ll : l0.length <= 10) :
 ∃ os e6, forL (gN 6) foB (xf 0 (k + 1)) (B7 s (zE n m J e Ds S) es k v c os0 none) = some (.nx (B7 s (zE n m J e Ds S) es k v c os e6)) /\ Oe os (l0 ++ prs m J es k (k + 1)) := by
 have ox := ok x (List.mem_of_getElem? hk)
 have hke : k < es.length := (zzD.mp hk).1
 obtain ⟨as', hf, os, e6, rfl, ho⟩ := xT (g := gN 6) (f := foB) (λ i as => ∃ os e6, as = B7 s (zE n m J e Ds S) es k v c os e6 /\ Oe os (l0 ++ prs m J es k i)) (xf 0 (k + 1)) 0 (B7 s (zE n m J e Ds S) es k v c os0 none) (λ i y as hy hI => by
  obtain ⟨os, e6, rfl, ho⟩ := hI
  obtain ⟨rfl, hi⟩ := xX hy
  rw [Nat.zero_add] at ho
  have hp : i < es.length := by omega
  have ep := zzB hp
  have op := ok _ (List.getElem_mem hp)
  refine ⟨B7 s (zE n m J e Ds S) es k v c os (sI (0 + i)), rfl, ?_⟩
  rw [show (0 + (i : Int)) = (i : Int) by omega]
  obtain ⟨o2, j1, j2, j3⟩ := VP (znK (as := B7 s (zE n m J e Ds S) es k v c os (sI i)) (zb (i := 0) rfl) (zb (i := 1) rfl) (zb (i := 2) rfl) (zb (i := 6) rfl) (zex (S := S) A m1 hk ep ox op)) yG
  obtain ⟨o1, k1, k2, k3⟩ := VP (znK (as := B7 s (zE n m J e Ds S) es k v c os (sI i)) (zb (i := 0) rfl) (zb (i := 1) rfl) (zb (i := 6) rfl) (zb (i := 2) rfl) (zex (S := S) A m1 ep hk op ox)) j3
  have e1 := Yp k3 (szl rfl)
  have ln := ho.len
  rw [zzG, zfk] at ln
  refine ⟨_, zrn (as := B7 s (zE n m J e Ds S) es k v c os (sI i)) (i := 5) rfl e1 (by show os.length + 2 <= 1000; omega), os ++ [o1, o2], sI i, rfl, ?_⟩
  rw [Nat.zero_add, zgW, <- List.append_assoc]
  refine ⟨zgw ho.1 (by show (o1.str && (o2.str && true)) = true; rw [k1, j1]; rfl), ?_⟩
  rw [zgA, ho.2]
  show _ ++ [o1.toD, o2.toD] = _
  rw [k2, j2, List.map_append (l₁ := l0 ++ prs m J es k i)]; rfl) ⟨os0, none, rfl, by rw [show prs m J es k 0 = [] from rfl, List.append_nil]; exact h0⟩
 rw [yL, Nat.zero_add] at ho
 exact ⟨os, e6, hf, ho⟩
variable {n m : Nat} {J : PF.TZ} {e : Int} {Ds : PF.DD} {S : PF.SS} {es : List En}
theorem zcj {α : Type} {f : EF} {as : AS} {g : α -> D} {l : List α} (h : WE f as (.lst (l.map g))) : Z9 f as = some (l.map λ a => (true, g a), as) := by
 have := zlH h
 rw [List.map_map] at this
 exact this
theorem znl {p : Str × PF.TZ} {a b c : Option O} : gT 2 (gsC (gN 0) (gsC (gN 1) gsN)) (true, wk p) [none, none, a, b, c] = some [sT (.str p.1), sT (zY p.2), a, b, c] := by
 have k : kids true [.str p.1, zY p.2] = [(true, .str p.1), (true, zY p.2)] := by
  show [(zF (.str p.1) || true, .str p.1), (zF (zY p.2) || true, zY p.2)] = _
  rw [Bool.or_true, Bool.or_true]
 unfold gT
 simp only [wk, k]
 rfl
theorem zfa (A : Alg n m J e Ds) (L : LawA n m J e Ds) {s : Bool} {k : Nat} {x : En} (hk : es[k]? = some x) (ok : ∀ y ∈ es, Ok n m y) (hl : k < 100) : RE (wV [(true, zE n m J e Ds S), (s, .lst (es.map eD)), (true, .int k)]) (.lst ((fol m J Ds es k).map eD)) := by
 have ox := ok x (List.mem_of_getElem? hk)
 have s3 := Z4 (as := yE 7 [(true, zE n m J e Ds S), (s, .lst (es.map eD)), (true, .int k)]) (p := 3) (WD.e (en0 (enD hk (zb (i := 1) rfl) (zb (i := 2) rfl)) zf)) (zG rfl)
 have s4 := Z4 (as := [sT (zE n m J e Ds S), some (.lf s (.lst (es.map eD))), sI k, sI x.1, none, none, none]) (p := 4) (WD.e (en1 (enD hk (zb (i := 1) rfl) (zb (i := 2) rfl)) zf)) (zG rfl)
 have hi := zcj (as := [sT (zE n m J e Ds S), some (.lf s (.lst (es.map eD))), sI k, sI x.1, sI x.2.1, none, none]) (f := f2 (fV 0) (fC (.int 4)) ixP) (g := wk) (l := Ds) (WD.e (f2E (WD.e (zb (i := 0) rfl)) (WD.e zf) rfl))
 obtain ⟨os, c1, c2, c3⟩ := zbw (h := λ p => eD (jAt p.2 x.2.1 x.1, x.2.1, D.tup [.str "deed", .str p.1, .int k])) (it := λ p => (true, wk p)) (gg := gT 2 (gsC (gN 0) (gsC (gN 1) gsN))) (fe := yF (dC (f2 (f2 (fV 1) (fV 2) ixP) (fV 3) ixP) (dC (fV 2) (dC (yF (dC (fC (.str "deed")) (dC (fV 0) (dC (fV 4) dN)))) dN)))) (as0 := [none, none, sI x.2.1, sI x.1, sI k]) Ds λ p mp =>
  ⟨_, znl, VN (WD.e (Wn (A.ds p mp) ox.2 ox.1 (zb (i := 1) rfl) (zb (i := 2) rfl) (zb (i := 3) rfl)).1) (WD.e (zb (i := 2) rfl)) (VN (WD.e zf) (WD.e (zb (i := 0) rfl)) (WD.e (zb (i := 4) rfl)))⟩
 have dl := A.dl
 have s5 := xY (i := 5) (zcN (cap := [none, none, some 4, some 3, some 2]) hi (szs (by rw [zD]; omega)) c1) (zG rfl)
 have h0 : Oe os (Ds.map λ p => (jAt p.2 x.2.1 x.1, x.2.1, D.tup [.str "deed", .str p.1, .int k])) := ⟨c2, by rw [c3, List.map_map]; rfl⟩
 obtain ⟨os', e6, hf, ho⟩ := zoy (S := S) A A.m1 hk ok hl (v := x.1) (c := x.2.1) h0 (by rw [zD]; omega)
 have hr := ww (as := B7 s (zE n m J e Ds S) es k x.1 x.2.1 os none) (zy (yN (zb (i := 2) rfl) (zf (x := .int 1))) zP) (by omega) (by omega)
 rw [show ((k : Int) + 1).toNat = k + 1 by omega] at hr
 have ef : (fol m J Ds es k) = (Ds.map λ p => (jAt p.2 x.2.1 x.1, x.2.1, D.tup [.str "deed", .str p.1, .int k])) ++ prs m J es k (k + 1) := by unfold fol; rw [gd hk]
 rw [ef]
 refine wK rfl (zH s3 (zH s4 (zH s5 (zH (wU hr hf) ?_))))
 exact Ows.retB (Q := λ _ => True) (i := 5) rfl ⟨ho.1, ho.2, λ _ _ => True.intro, ho.len⟩
variable {n m : Nat} {J : PF.TZ} {e : Int} {Ds : PF.DD} {S : PF.SS} {es : List En}
theorem zbK {as : AS} {i j : Nat} {fe : EF} {xs : List En} (hi : as[i]? = some (some (eO es))) (hj : as[j]? = some (some (kO es))) (h : WE fe as (.lst (xs.map eD))) (hl : es.length + xs.length <= 1000) :
 zat i j fe xj as = some (.nx ((as.set i (some (eO (tk es xs)))).set j (some (kO (tk es xs))))) := by
 obtain ⟨o, h1, h2, h3⟩ := h
 have e : XD as (.ow o) = some ((o.str, o.toD), as) := rfl
 unfold zat
 simp only [hi, hj, h1, e, Option.bind_some, h2, h3, zna hl]
abbrev C5 (A r : D) (es : List En) (k : Nat) : AS := [sT A, sT r, some (eO es), some (kO es), sI k]
abbrev coT : TF := fT (f2 (fV 4) (fP (aC (fV 2) aN) vU) (zL .Lt))
abbrev coB : SF := (zA (zat 2 3 (zJ (aC (fV 0) (aC (fV 2) (aC (fV 4) aN))) wV) xj) (zlR 4 1))
theorem zrJ (A : Alg n m J e Ds) (L : LawA n m J e Ds) {r : D} {k : Nat} {x : En} (hk : es[k]? = some x) (ok : ∀ y ∈ es, Ok n m y) (hl : k < 100) : WE (zJ (aC (fV 0) (aC (fV 2) (aC (fV 4) aN))) wV) (C5 (zE n m J e Ds S) r es k) (.lst ((fol m J Ds es k).map eD)) := by
 obtain ⟨o, h1, h2, h3⟩ := zfa (S := S) (s := false) A L hk ok hl
 refine ⟨o, zcW (rs := [.ow (.lf true (zE n m J e Ds S)), .bo 2, .ow (.lf true (.int k))]) (xs := [(zF (zE n m J e Ds S) || true, zE n m J e Ds S), (false, (eO es).toD), (true, .int k)]) rfl rfl ?_, h2, h3⟩
 rw [Bool.or_true, zhS]; exact h1
theorem zmc {k : Nat} (A : Alg n m J e Ds) : (fol m J Ds es k).length <= 6 + 2 * (k + 1) := by
 have := A.dl
 unfold fol
 rw [zzG, zD]
 have := zfk (m := m) (J := J) (es := es) (k := k) (k + 1)
 unfold prs at this
 rw [this]; omega
theorem Cl.le {k : Nat} (A : Alg n m J e Ds) (h : Cl n m J Ds es k) : es.length <= 48 := by
 have := zjf h.nd λ p mp => by
  obtain ⟨x, mx, rfl⟩ := List.mem_map.mp mp
  exact h.ok x mx
 rw [zD] at this
 exact zzL this (zzL (Nat.mul_le_mul A.n8 A.m6) (by decide))
theorem znF (A : Alg n m J e Ds) (L : LawA n m J e Ds) {row : List Int} {r : D} : ∀ (d k f : Nat) (es : List En), Cl n m J Ds es k -> k <= es.length -> d + k = 49 -> d < f -> Hw row m J e Ds es -> ∃ es', whL coT coB f (C5 (zE n m J e Ds S) r es k) = some (.nx (C5 (zE n m J e Ds S) r es' es'.length)) /\ Cl n m J Ds es' es'.length /\ Hw row m J e Ds es' /\ ∀ q ∈ es.map ky, q ∈ es'.map ky
 | 0, k, f, es, h, hk, hd, hf, _ => by have := h.le A; omega
 | d + 1, k, f, es, h, hk, hd, hf, hw => by
  obtain ⟨f, rfl⟩ : ∃ g, f = g + 1 := ⟨f - 1, by omega⟩
  have le := h.le A
  have lt := zid (zb (as := C5 (zE n m J e Ds S) r es k) (i := 4) rfl) (zql (as := C5 (zE n m J e Ds S) r es k) (i := 2) rfl)
  rw [zD, zD] at lt
  by_cases hc : k < es.length
  · have tt : WT coT (C5 (zE n m J e Ds S) r es k) true := yH lt (congrArg some (decide_eq_true (by omega)))
    have ek := zzB hc
    have fl := zmc (es := es) (k := k) A
    have s1 := zbK (as := C5 (zE n m J e Ds S) r es k) (i := 2) (j := 3) rfl rfl (zrJ A L ek h.ok (by omega)) (by omega)
    obtain ⟨t, et⟩ := zfG (fol m J Ds es k) es
    obtain ⟨es', h1, h2, hw', h3⟩ := znF A L d (k + 1) f (tk es (fol m J Ds es k)) (h.step L A.m1 hc) (by rw [et, zzG]; omega) (by omega) (by omega) (zgE _ _ hw (zmY ek))
    exact ⟨es', zlS tt (zZ s1 rfl) h1, h2, hw', λ q mq => h3 q (zaZ mq)⟩
  · have ee : k = es.length := by omega
    subst ee
    have tt : WT coT (C5 (zE n m J e Ds S) r es es.length) false := yH lt (congrArg some (decide_eq_false (by omega)))
    exact ⟨es, zlC tt, h, hw, λ q mq => mq⟩
variable {n m : Nat} {J : PF.TZ} {e : Int} {Ds : PF.DD} {S : PF.SS}
abbrev zhu (m : Nat) (v : Int) : En := (v, 1 % (m : Int), .tup [.str "one", .int v])
theorem zjv (A : Alg n m J e Ds) (L : LawA n m J e Ds) {row : List Int} (hr : ∀ v ∈ row, InR n v) (hl : row.length <= 10) :
 ∃ es : List En, v6 [(true, zE n m J e Ds S), (true, zX row)] = some (eO es) /\ Kn n m J e Ds (es.map ky) /\ (∀ v ∈ row, (v, 1 % (m : Int)) ∈ es.map ky) /\ es.length <= 48 /\ (es.map ky).Nodup /\ (∀ x ∈ es, Ok n m x) /\ Hw row m J e Ds es := by
 have m1 := A.m1
 have s0 : yV (zJ (aC (fV 0) aN) xF) (yE 5 [(true, zE n m J e Ds S), (true, zX row)]) = some (.nx (yE 5 [(true, zE n m J e Ds S), (true, zX row)])) := by
  obtain ⟨o, h1, _⟩ := zay (as := yE 5 [(true, zE n m J e Ds S), (true, zX row)]) (WD.e (zb (i := 0) rfl)) (zlv (S := S) A L)
  unfold yV; rw [h1]; rfl
 have s2 := xY (as := yE 5 [(true, zE n m J e Ds S), (true, zX row)]) (i := 2) (Yp yG (szl rfl)) (zG rfl)
 have s3 := xY (as := [sT (zE n m J e Ds S), sT (zX row), some (.nd .ls []), none, none]) (f := zlT) (o := .nd (.dt []) []) (i := 3) rfl (zG rfl)
 have w0 : WE (vd (dC (yF (dC (f2 (fV 0) (fC (.int 3)) ixP) (dC (fC (.int 0)) (dC (yF (dC (fC (.str "none")) dN)) dN)))) dN)) [sT (zE n m J e Ds S), sT (zX row), some (eO []), some (kO []), none] (.lst ([((e, 0, .tup [.str "none"]) : En)].map eD)) := by
  obtain ⟨o, h1, h2, h3⟩ := VP (as := [sT (zE n m J e Ds S), sT (zX row), some (eO []), some (kO []), none]) (VN (WD.e (f2E (a := fV 0) (b := fC (.int 3)) (g := ixP) (z := .int e) (WD.e (zb (i := 0) rfl)) (WD.e zf) rfl)) (WD.e (zf (x := .int 0))) (zib (WD.e (zf (x := .str "none"))))) yG
  exact ZC h3 (szl rfl) (by show (o.str && true) = true; rw [h1]; rfl) (by show D.lst [o.toD] = _; rw [h2]; rfl)
 have c1 := zbK (i := 2) (j := 3) rfl rfl w0 (by show 0 + 1 <= 1000; decide)
 have w1 : WE (yp (Z9 (fV 1)) [none, some 0] (gN 0) xr (yF (dC (fV 0) (dC (f2 (fC (.int 1)) (f2 (fV 1) (fC (.int 1)) ixP) (zp .Mod)) (dC (yF (dC (fC (.str "one")) (dC (fV 0) dN))) dN))))) [sT (zE n m J e Ds S), sT (zX row), some (eO (tk [] [((e, 0, .tup [.str "none"]) : En)])), some (kO (tk [] [((e, 0, .tup [.str "none"]) : En)])), none] (.lst ((row.map (zhu m)).map eD)) := by
  have := zas (h := λ v => eD (zhu m v)) (it := λ v => (true, D.int v)) (as := [sT (zE n m J e Ds S), sT (zX row), some (eO (tk [] [((e, 0, .tup [.str "none"]) : En)])), some (kO (tk [] [((e, 0, .tup [.str "none"]) : En)])), none]) (cap := [none, some 0]) (gg := gN 0) (fe := yF (dC (fV 0) (dC (f2 (fC (.int 1)) (f2 (fV 1) (fC (.int 1)) ixP) (zp .Mod)) (dC (yF (dC (fC (.str "one")) (dC (fV 0) dN))) dN)))) row (zcj (f := fV 1) (g := D.int) (WD.e (zb (i := 1) rfl))) (by omega) λ v _ => ⟨[sI v, sT (zE n m J e Ds S)], rfl, VN (WD.e (zb (i := 0) rfl)) (WD.e (yf (zf (x := .int 1)) (f2E (a := fV 1) (b := fC (.int 1)) (g := ixP) (z := .int m) (WD.e (zb (i := 1) rfl)) (WD.e zf) rfl) (by omega))) (Zg (WD.e (zf (x := .str "one"))) (WD.e (zb (i := 0) rfl)))⟩
  rw [List.map_map]; exact this
 have c2 := zbK (i := 2) (j := 3) rfl rfl w1 (by rw [zD]; show 1 + row.length <= 1000; omega)
 have s4 := yC (st := true) (as := [sT (zE n m J e Ds S), sT (zX row), some (eO (tk (tk [] [((e, 0, .tup [.str "none"]) : En)]) (row.map (zhu m)))), some (kO (tk (tk [] [((e, 0, .tup [.str "none"]) : En)]) (row.map (zhu m)))), none]) (i := 4) (zf (x := .int 0)) (zG rfl)
 have cl : Cl n m J Ds (tk (tk [] [((e, 0, .tup [.str "none"]) : En)]) (row.map (zhu m))) 0 := ⟨zic _ _ (zic _ _ List.nodup_nil), zeZ _ _ (zeZ _ _ (λ _ z => nomatch z) λ x mx => by rw [zzO.mp mx]; exact ⟨⟨A.e0, A.en⟩, ⟨Int.le_refl _, by show (0 : Int) < m; omega⟩⟩) λ x mx => by
  obtain ⟨v, mv, rfl⟩ := List.mem_map.mp mx
  exact ⟨hr v mv, zeh (by omega)⟩, λ k hk => absurd hk (by omega), λ p q hp => absurd hp (by omega)⟩
 have hw : Hw row m J e Ds (tk (tk [] [((e, 0, .tup [.str "none"]) : En)]) (row.map (zhu m))) := zgE _ _ (zgE _ _ (λ _ _ z => nomatch z) λ x mx => by rw [zzO.mp mx]; exact .none) λ x mx => by
  obtain ⟨v, mv, rfl⟩ := List.mem_map.mp mx
  exact .one mv
 obtain ⟨es, h1, h2, hw', h3⟩ := znF (S := S) (r := zX row) A L 49 0 10000 _ cl (Nat.zero_le _) rfl (by decide) hw
 refine ⟨es, WQ rfl (zZ s0 (zZ s2 (zZ s3 (zZ c1 (zZ c2 (zZ s4 (zZ h1 (zcH (i := 2) rfl (zdS _))))))))), h2.kn (h3 _ (zaZ (zem _ _ ((e, 0, .tup [.str "none"]) : En) zzC))), λ v mv => h3 _ (zem _ _ (zhu m v) (List.mem_map.mpr ⟨v, mv, rfl⟩)), h2.le A, h2.nd, h2.ok, hw'⟩
variable {n m : Nat} {J : PF.TZ} {e : Int} {Ds : PF.DD} {S : PF.SS}
abbrev vaB : SF := (yV (wF 5 (dC (f2 (zJ (aC (zJ (aC (fV 0) (aC (f2 (fV 1) (fV 6) (zp .Add)) aN)) zW) (aC (f2 (fV 6) (fC (.int 80)) (zp .Add)) aN)) yJ) (fV 3) (zp .Mod)) dN) v4))
theorem zjy {ns : List Int} {st w n : Nat} {num : Int} (hn : 1 <= n) (hw : w <= 20) : ∃ row : List Int, row.length <= w /\ (∀ v ∈ row, InR n v) /\ RE (wC [(true, .lst (ns.map D.int)), (true, .int st), (true, .int w), (true, .int n), (true, .int num)]) (zX row) := by
 have m0 := Int.emod_nonneg num (show ((w : Int) + 1) ≠ 0 by omega)
 have m1 := Int.emod_lt_of_pos num (show (0 : Int) < (w : Int) + 1 by omega)
 obtain ⟨as', hf, ys, e6, rfl, hl, hy⟩ := xT (g := gN 6) (f := vaB) (λ i as => ∃ (ys : List Int) (e6 : Option O), as = [sT (.lst (ns.map D.int)), sI st, sI w, sI n, sI num, sN (ys.map lfI), e6] /\ ys.length = i /\ ∀ y ∈ ys, InR n y)
  (xf 0 (num % ((w : Int) + 1)).toNat) 0 [sT (.lst (ns.map D.int)), sI st, sI w, sI n, sI num, sN [], none] (λ i x as hx hI => by
   obtain ⟨ys, e6, rfl, hl, hy⟩ := hI
   obtain ⟨rfl, hi⟩ := xX hx
   refine ⟨[sT (.lst (ns.map D.int)), sI st, sI w, sI n, sI num, sN (ys.map lfI), sI (0 + i)], rfl, ?_⟩
   obtain ⟨c, hc⟩ := zcM (ns := ns) (k := (st : Int) + (0 + i)) (by omega)
   have wm := vq (as := [sT (.lst (ns.map D.int)), sI st, sI w, sI n, sI num, sN (ys.map lfI), sI (0 + i)]) (zy (vq (zy (zb (i := 0) rfl) (zy (yN (zb (i := 1) rfl) (zb (i := 6) rfl)) zP)) hc) (zy (yN (zb (i := 6) rfl) (zf (x := .int 80))) zP)) (zdy (c := c) (k := (0 + i : Int) + 80) (by omega) (by omega))
   have ap := zdD (i := 5) (as := [sT (.lst (ns.map D.int)), sI st, sI w, sI n, sI num, sN (ys.map lfI), sI (0 + i)]) rfl (by rw [zD]; exact yM (by omega)) (yf wm (zb (i := 3) rfl) (by omega))
   rw [<- W8] at ap
   exact ⟨_, ap, ys ++ [_], _, rfl, by rw [zzG, hl]; rfl, λ y my => (zzJ.mp my).elim (hy y) λ my => by rw [zzO.mp my]; exact zeh (by omega)⟩)
  ⟨[], none, rfl, rfl, λ _ z => nomatch z⟩
 rw [yL] at hl
 have hr := ww (as := [sT (.lst (ns.map D.int)), sI st, sI w, sI n, sI num, sN [], none]) (zy (yf (zb (i := 4) rfl) (yN (zb (i := 2) rfl) (zf (x := .int 1))) (by omega)) zP) m0 (by omega)
 refine ⟨ys, by omega, hy, wK rfl (zH (xY (i := 5) (Yp yG (szl rfl)) (zG rfl)) (zH (wU hr hf) ?_))⟩
 exact ⟨_, zcH (i := 5) rfl (wW ys).2.1, (Vb ys).1, (Vb ys).2⟩
theorem zpQ (o : O) : o.frz = .lf o.str o.toD := by cases o <;> rfl
variable {n m : Nat} {J : PF.TZ} {e : Int} {Ds : PF.DD} {S : PF.SS} {es : List En}
abbrev knD (es : List En) : D := .dt ((es.map ky).map kP) (yes es)
variable {n m : Nat} {J : PF.TZ} {e : Int} {Ds : PF.DD} {S : PF.SS} {es : List En}
def VV (f : EF) (as : AS) (d : D) : Prop := ∃ rv lv, f as = some (rv, as) /\ rv.frz.view as = some (d, some lv)
theorem yZ {f : EF} {as : AS} {s : Bool} {d : D} (h : WD f as s d) : VV f as d := ⟨.ow (.lf s d), s, h, rfl⟩
theorem znS {f : EF} {as : AS} {d : D} (h : WE f as d) : VV f as d := by
 obtain ⟨o, h1, h2, h3⟩ := h
 refine ⟨.ow o, o.str, h1, ?_⟩
 show some (o.frz.toD, some o.frz.str) = _
 rw [zpQ, h3]; rfl
theorem zrd {as : AS} {i : Nat} {k : PF.Kind} {ds : List D} {X : D} (h : as[i]? = some (some (.nd k (ds.map (O.lf true))))) (hX : (O.nd k (ds.map (O.lf true))).toD = X) : VV (fV i) as X := ⟨.bo i, true, zcf h, (VH h).trans (by rw [znI, hX])⟩
theorem vf2 {a b : EF} {as : AS} {x y z : D} {g : D -> D -> Option R0} (ha : VV a as x) (hb : VV b as y) (hg : g x y = some (.im z)) (e : zF z = true) : WD (f2 a b g) as true z := by
 obtain ⟨ra, la, h1, h2⟩ := ha
 obtain ⟨rb, lb, h3, h4⟩ := hb
 unfold WD f2
 simp only [h1, h3, h2, h4, hg, Option.bind_some]
 show (if (zF z || true) = true then some (RV.ow (.lf (zF z || (la && lb)) z)) else none : Option RV).bind _ = _
 rw [e]; rfl
theorem vP1 {a : EF} {as : AS} {x z : D} {g : List D -> Option R0} (ha : VV a as x) (hg : g [x] = some (.im z)) (e : zF z = true) : WD (fP (aC a aN) g) as true z := by
 obtain ⟨ra, la, h1, h2⟩ := ha
 have ev : views as [ra.frz] = some ([x], some (la && true)) := by
  show (ra.frz.view as).bind _ = _
  rw [h2]; rfl
 unfold WD fP aC
 simp only [h1, Option.bind_some, aN, ev, hg]
 show (if (zF z || true) = true then some (RV.ow (.lf (zF z || (la && true)) z)) else none : Option RV).bind _ = _
 rw [e]; rfl
theorem vsl {f : EF} {fl fh : OF} {as : AS} {y z : D} {lo hi : Option Int} (ha : VV f as y) (hl : fl as = some (lo, as)) (hh : fh as = some (hi, as)) (hg : slP y lo hi = some (.im z)) : ∃ s, WD (fSl f fl fh slP) as s z := by
 obtain ⟨ra, la, h1, h2⟩ := ha
 refine ⟨zF z || la, ?_⟩
 unfold WD fSl
 simp only [h1, hl, hh, h2, hg, Option.bind_some]
 show (if (zF z || true) = true then some (RV.ow (.lf (zF z || la) z)) else none : Option RV).bind _ = _
 rw [if_pos (Bool.or_true _)]; rfl
theorem vix {a b : EF} {as : AS} {x y z : D} (ha : VV a as x) (hb : VV b as y) (hg : ixP x y = some (.im z)) : ∃ s, WD (f2 a b ixP) as s z := by
 obtain ⟨ra, la, h1, h2⟩ := ha
 obtain ⟨rb, lb, h3, h4⟩ := hb
 refine ⟨zF z || (la && lb), ?_⟩
 unfold WD f2
 simp only [h1, h3, h2, h4, hg, Option.bind_some]
 show (if (zF z || true) = true then some (RV.ow (.lf (zF z || (la && lb)) z)) else none : Option RV).bind _ = _
 rw [if_pos (Bool.or_true _)]; rfl
theorem zpB {f : EF} {as : AS} {d : D} {c : String} {q : Bool} (ha : VV f as d) (e : zdE (tyD d) c = q) (ho : zgp d = true := by rfl) : WD (zbO f c) as true (.bl q) := by
 obtain ⟨ra, la, h1, h2⟩ := ha
 subst e
 unfold WD zbO
 simp only [h1, h2, Option.bind_some]
 rw [if_pos ho]
theorem zqR {f fc : EF} {as : AS} {ds : List D} {c : Nat} (hc : c <= ds.length) (ha : VV f as (.lst ds)) (h2 : WD fc as true (.int c)) : ∃ o, fSl f oN (oS fc) slP as = some (.ow o, as) /\ o.toD = .lst (ds.take c) := by
 obtain ⟨ra, la, h1, hv⟩ := ha
 have ct := zkv (xs := ds.take c) (ys := ds.drop c)
 rw [List.take_append_drop, zzP, Nat.min_eq_left hc] at ct
 refine ⟨.nd .ls ((ds.take c).map (lfs la)), ?_, ?_⟩
 · have ho : oN as = some (none, as) := rfl
   unfold fSl
   simp only [h1, zdf h2, ho, hv, ct, Option.bind_some]
   show (if ((ds.take c).all zF || true) = true then some (RV.ow (.nd .ls ((ds.take c).map (lfs la)))) else none : Option RV).bind _ = _
   rw [if_pos (Bool.or_true _)]; rfl
 · show D.lst (O.toDs _) = _
   rw [zkn, List.map_map, show O.toD ∘ lfs la = id from rfl, List.map_id]
theorem W6 {s : Bool} {x : Int} : ye [(s, .int x)] = sT (.bl true) :=
 WQ rfl (Y8 (zpF (k := true) (zkD (zb rfl) rfl) (λ _ => zqc (q := false) (zkD (zb rfl) rfl)) (λ h => nomatch h)))
theorem eqP {a b : Int × Int} : eqF 60 (pD a) (pD b) = some (a == b) := by
 show some ((a.1 == b.1) && ((a.2 == b.2) && true)) = _
 rw [Bool.and_true]; rfl
theorem ziJ {v : Int} : ∀ row : List Int, anyF (λ y => eqF 50 y (.int v)) (row.map D.int) = some (row.any (· == v))
 | [] => rfl
 | x :: r => by
  show ((anyF (λ y => eqF 50 y (.int v)) (r.map D.int)).bind _) = _
  rw [ziJ r]; rfl
theorem zoR {v : Int} {row : List Int} (h : v ∈ row) : zL .In (.int v) (zX row) = some (.im (.bl true)) := by
 show ((anyF (λ y => eqF 50 y (.int v)) (row.map D.int)).bind _) = _
 rw [ziJ, List.any_eq_true.mpr ⟨v, h, by simp⟩]; rfl
variable {n m : Nat} {J : PF.TZ} {e : Int} {Ds : PF.DD} {S : PF.SS} {es : List En}
theorem zir {A nm : D} {p : Str × PF.TZ} {e2 e3 : Option O} : gT 2 (gsC (gN 2) (gsC (gN 3) gsN)) (true, wk p) [sT A, sT nm, e2, e3] = some [sT A, sT nm, sT (.str p.1), sT (zY p.2)] := by
 have k : kids true [.str p.1, zY p.2] = [(true, .str p.1), (true, zY p.2)] := by
  show [(zF (.str p.1) || true, .str p.1), (zF (zY p.2) || true, zY p.2)] = _
  rw [Bool.or_true, Bool.or_true]
 unfold gT
 simp only [wk, k]
 rfl
abbrev rwB : SF := (sIf (fT (f2 (fV 2) (fV 1) (zL .Eq))) (yh (fV 3)) sNx)
theorem zgc {A : D} {p : Str × PF.TZ} : ∀ (ds : PF.DD) (e2 e3 : Option O), p ∈ ds -> (ds.map (·.1)).Nodup -> forL (gT 2 (gsC (gN 2) (gsC (gN 3) gsN))) rwB ((ds.map wk).map λ d => (true, d)) [sT A, sT (.str p.1), e2, e3] = some (.rt (.lf true (zY p.2)))
 | [], _, _, h, _ => nomatch h
 | q :: ds, e2, e3, h, nd => by
  have nd' := zzT.mp (show (q.1 :: ds.map (·.1)).Nodup from nd)
  have t := yH (zeQ (as := [sT A, sT (.str p.1), sT (.str q.1), sT (zY q.2)]) (WD.e (zb (i := 2) rfl)) (WD.e (zb (i := 1) rfl)) (q := q.1 == p.1) rfl) rfl
  rcases zS.mp h with rfl | h
  · rw [beq_self_eq_true] at t
    exact zgS zir (Zc t (Y8 (zb (i := 3) rfl)))
  · have ne : (q.1 == p.1) = false := by
     rw [beq_eq_false_iff_ne]
     intro z
     exact nd'.1 (z ▸ List.mem_map_of_mem (f := (·.1)) h)
    rw [ne] at t
    exact Zn zir (yD t rfl) (zgc ds _ _ h nd'.2)
theorem zms (A : Alg n m J e Ds) {p : Str × PF.TZ} (mp : p ∈ Ds) : Yt [(true, zE n m J e Ds S), (true, .str p.1)] = some (.lf true (zY p.2)) := by
 have hi := zlQ (as := yE 4 [(true, zE n m J e Ds S), (true, .str p.1)]) (f := f2 (fV 0) (fC (.int 4)) ixP) (ds := Ds.map wk) (f2E (WD.e (zb (i := 0) rfl)) (WD.e zf) rfl)
 refine WQ rfl ?_
 have hf := wU (g := gT 2 (gsC (gN 2) (gsC (gN 3) gsN))) (f := rwB) hi (zgc (A := zE n m J e Ds S) Ds none none mp A.nd)
 unfold zai zA
 rw [hf]; rfl
theorem ziS (A : Alg n m J e Ds) {s t : Bool} {y z : En} (oy : Ok n m y) (oz : Ok n m z) {dy dz : D} (hy : ∀ k : Nat, k < 2 -> ixP dy (.int k) = ixP (eD y) (.int k)) (hz : ∀ k : Nat, k < 2 -> ixP dz (.int k) = ixP (eD z) (.int k)) : RE (xq [(true, zE n m J e Ds S), (s, dy), (t, dz)]) (pD (jAt J y.1 z.1, (y.2.1 + z.2.1) % m)) := by
 have m1 := A.m1
 have y0 : ixP dy (.int 0) = some (.im (.int y.1)) := hy 0 (by decide)
 have y1 : ixP dy (.int 1) = some (.im (.int y.2.1)) := hy 1 (by decide)
 have z0 : ixP dz (.int 0) = some (.im (.int z.1)) := hz 0 (by decide)
 have z1 : ixP dz (.int 1) = some (.im (.int z.2.1)) := hz 1 (by decide)
 have w : ∀ {i : Nat} {d : D} {u : Bool} {k v : Int} , (yE 3 [(true, zE n m J e Ds S), (s, dy), (t, dz)])[i]? = some (some (.lf u d)) -> ixP d (.int k) = some (.im (.int v)) -> WD (f2 (fV i) (fC (.int k)) ixP) (yE 3 [(true, zE n m J e Ds S), (s, dy), (t, dz)]) true (.int v) := λ h1 h2 => vf2 (yZ (zb h1)) (yZ zf) h2 rfl
 refine wK rfl (wH (Zg (WD.e ?_) (WD.e ?_)))
 · exact Xb A.j oy.1 oz.1 (f2E (WD.e (zb (i := 0) rfl)) (WD.e zf) rfl) (w (i := 1) rfl y0) (w (i := 2) rfl z0)
 · exact yf (yN (w (i := 1) rfl y1) (w (i := 2) rfl z1)) (f2E (WD.e (zb (i := 0) rfl)) (WD.e zf) rfl) (by omega)
theorem zqs {x : En} : slP (eD x) none (some 2) = some (.im (pD (ky x))) := rfl
theorem zhs (A : Alg n m J e Ds) {s t : Bool} {p : Str × PF.TZ} {k : Nat} {y : En} (mp : p ∈ Ds) (hk : es[k]? = some y) (oy : Ok n m y) : RE (vJ [(true, zE n m J e Ds S), (s, .lst (es.map eD)), (t, .tup [.str "deed", .str p.1, .int k])]) (pD (jAt p.2 y.2.1 y.1, y.2.1)) := by
 have hl := (zzD.mp hk).1
 have w1 : ∀ e3 e4 e5, WD (f2 (fV 2) (fC (.int 1)) ixP) [sT (zE n m J e Ds S), some (.lf s (.lst (es.map eD))), some (.lf t (.tup [.str "deed", .str p.1, .int k])), e3, e4, e5] true (.str p.1) := λ _ _ _ => vf2 (yZ (zb (i := 2) rfl)) (yZ zf) rfl rfl
 have w2 : ∀ e3 e4 e5, WD (f2 (fV 2) (fC (.int 2)) ixP) [sT (zE n m J e Ds S), some (.lf s (.lst (es.map eD))), some (.lf t (.tup [.str "deed", .str p.1, .int k])), e3, e4, e5] true (.int k) := λ _ _ _ => vf2 (yZ (zb (i := 2) rfl)) (yZ zf) rfl rfl
 have s3 := yC (st := true) (as := yE 6 [(true, zE n m J e Ds S), (s, .lst (es.map eD)), (t, .tup [.str "deed", .str p.1, .int k])]) (i := 3) (zpt (WD.e (zb (i := 0) rfl)) (WD.e (w1 none none none)) (zms (S := S) A mp)) (zG rfl)
 have wl : WD (fP (aC (fV 1) aN) vU) [sT (zE n m J e Ds S), some (.lf s (.lst (es.map eD))), some (.lf t (.tup [.str "deed", .str p.1, .int k])), sT (zY p.2), none, none] true (.int (es.length : Nat)) := vP1 (yZ (zb (i := 1) rfl)) (by show some (R0.im (.int ((es.map eD).length : Nat))) = _; rw [zD]) rfl
 have t1 : WT (fT (f2 (fV 3) (fC .non) (zL .Is))) [sT (zE n m J e Ds S), some (.lf s (.lst (es.map eD))), some (.lf t (.tup [.str "deed", .str p.1, .int k])), sT (zY p.2), none, none] false := yH (f2E (WD.e (zb (i := 3) rfl)) (WD.e (zf (x := .non))) rfl) rfl
 have t2 := YT (yH (c := true) (vq (as := [sT (zE n m J e Ds S), some (.lf s (.lst (es.map eD))), some (.lf t (.tup [.str "deed", .str p.1, .int k])), sT (zY p.2), none, none]) (zy (w2 _ _ _) zP) W6) rfl)
 have t3 := YT (yH (c := true) (zis (zf (x := .int 0)) (w2 (sT (zY p.2)) none none) wl) (by rw [decide_eq_true (show (0 : Int) <= k by omega), decide_eq_true (show (k : Int) < es.length by omega)]; rfl))
 obtain ⟨u, we⟩ := vix (yZ (zb (as := [sT (zE n m J e Ds S), some (.lf s (.lst (es.map eD))), some (.lf t (.tup [.str "deed", .str p.1, .int k])), sT (zY p.2), none, none]) (i := 1) rfl)) (yZ (w2 _ _ _)) (XR (f := eD) hk)
 obtain ⟨u', wc⟩ := vsl (yZ we) (lo := none) (fl := oN) rfl (zdf (zf (x := .int 2))) zqs
 have sa : zeg (fSl (f2 (fV 1) (f2 (fV 2) (fC (.int 2)) ixP) ixP) oN (oS (fC (.int 2))) slP) (gT 2 (gsC (gN 4) (gsC (gN 5) gsN))) [sT (zE n m J e Ds S), some (.lf s (.lst (es.map eD))), some (.lf t (.tup [.str "deed", .str p.1, .int k])), sT (zY p.2), none, none] = some (.nx [sT (zE n m J e Ds S), some (.lf s (.lst (es.map eD))), some (.lf t (.tup [.str "deed", .str p.1, .int k])), sT (zY p.2), sI y.1, sI y.2.1]) := zhD wc rfl
 refine wK rfl (zH s3 (zH (yD (Wy (l := false) t1 (λ _ => Wy (l := false) t2 (λ _ => t3) λ h => nomatch h) λ h => nomatch h) rfl) (zH sa (wH (Zg (WD.e ?_) (WD.e (zb (i := 5) rfl)))))))
 exact (Wn (A.ds p mp) oy.2 oy.1 (zb (i := 3) rfl) (zb (i := 5) rfl) (zb (i := 4) rfl)).1
variable {n m : Nat} {J : PF.TZ} {e : Int} {Ds : PF.DD} {S : PF.SS} {pre : List En} {row : List Int}
abbrev H5 (A : D) (row : List Int) (pre : List En) (t u : Bool) (hw : D) (e4 : Option O) : AS := [sT A, sT (zX row), some (.lf t (.lst (pre.map eD))), some (.lf u hw), e4]
abbrev H6 (A : D) (row : List Int) (pre : List En) (t u : Bool) (p q : Nat) (e4 : Option O) : AS := H5 A row pre t u (.tup [.str "two", .int p, .int q]) e4
section
variable {A : D} {t u : Bool} {hw : D} {e4 : Option O}
theorem zkQ : VV (fV 3) (H5 A row pre t u hw e4) hw := yZ (zb rfl)
theorem zlE {ds : List D} {k : Nat} (h : ds.length = k) : WD (fP (aC (fV 3) aN) vU) (H5 A row pre t u (.tup ds) e4) true (.int k) := vP1 zkQ (by show some (R0.im (.int (ds.length : Nat))) = _; rw [h]) rfl
theorem zkp {k : Int} {d : D} (h : ixP hw (.int k) = some (.im d)) (e : zF d = true) : WD (f2 (fV 3) (fC (.int k)) ixP) (H5 A row pre t u hw e4) true d := vf2 zkQ (yZ zf) h e
theorem zmt {q : Bool} (h : eqF 60 hw (.tup [.str "none"]) = some q) : WT (fT (f2 (fV 3) (yF (dC (fC (.str "none")) dN)) (zL .Eq))) (H5 A row pre t u hw e4) q :=
 yH (vf2 (z := .bl q) zkQ (znS (zib (WD.e (zf (x := .str "none"))))) (by show (eqF 60 _ _).bind _ = _; rw [h]; rfl) rfl) rfl
theorem zkk {ds : List D} (h : 2 <= ds.length) : WT (Yb (Zb (fT (zbO (fV 3) "tuple"))) (fT (f2 (fP (aC (fV 3) aN) vU) (fC (.int 2)) (zL .Lt)))) (H5 A row pre t u (.tup ds) e4) false :=
 Wy (l := false) (YT (yH (c := true) (zpB zkQ rfl) rfl)) (λ _ => yH (zid (zlE rfl) (zf (x := .int 2))) (congrArg some (decide_eq_false (by omega)))) λ z => nomatch z
theorem zrD {x : D} {ds : List D} : ixP (.tup (x :: ds)) (.int 0) = some (.im x) := by
 have h := Xy (xs := x :: ds) (j := 0) (v := x) rfl
 show imR (atI _ ((0 : Nat) : Int)) = _
 rw [h]; rfl
theorem zie {c d : Str} {ds : List D} : WT (fT (f2 (f2 (fV 3) (fC (.int 0)) ixP) (fC (.str d)) (zL .Eq))) (H5 A row pre t u (.tup (.str c :: ds)) e4) (c == d) :=
 yH (zeQ (WD.e (zkp (d := .str c) zrD rfl)) (WD.e (zf (x := .str d))) rfl) rfl
theorem znM {ds : List D} {k : Int} : WT (fT (f2 (fP (aC (fV 3) aN) vU) (fC (.int k)) (zL .Eq))) (H5 A row pre t u (.tup ds) e4) ((ds.length : Int) == k) :=
 yH (zeQ (WD.e (zlE rfl)) (WD.e (zf (x := .int k))) rfl) rfl
theorem znG {c : Str} {ds : List D} (h : (c == "one") = false) : WT (Yu (fT (f2 (f2 (fV 3) (fC (.int 0)) ixP) (fC (.str "one")) (zL .Eq))) (Yu (fT (f2 (fP (aC (fV 3) aN) vU) (fC (.int 2)) (zL .Eq))) (Yu (fT (zJ (aC (f2 (fV 3) (fC (.int 1)) ixP) aN) ye)) (fT (f2 (f2 (fV 3) (fC (.int 1)) ixP) (fV 1) (zL .In)))))) (H5 A row pre t u (.tup (.str c :: ds)) e4) false :=
 zbt (l := false) zie (λ z => absurd z (by rw [h]; exact Bool.false_ne_true)) λ _ => rfl
end
theorem zhm {a b c : EF} {as : AS} {s t : Bool} {x y w z : D} {g : List (Bool × D) -> Option O} (ha : WD a as true x) (hb : WD b as s y) (hc : WD c as t w) (hg : ∀ s t, RE (g [(true, x), (s, y), (t, w)]) z) : WE (zJ (aC a (aC b (aC c aN))) g) as z := by
 obtain ⟨o, h1, h2, h3⟩ := hg (zF y || s) (zF w || t)
 exact ⟨o, ZF (zy ha (zy hb (zy hc zP))) (by show g [(zF x || true, x), (zF y || s, y), (zF w || t, w)] = _; rw [Bool.or_true]; exact h1), h2, h3⟩
abbrev loB : SF := (sIf (Yb (Zb (fT (zJ (aC (fV 4) aN) ye))) (Zb (fT (Xa (fC (.int 0)) (fV 4) (fP (aC (fV 2) aN) vU) (zL .LtE) (zL .Lt))))) (yh (fC .non)) sNx)
theorem zkJ {A hw : D} {t u : Bool} {p : Nat} (hp : p < pre.length) : loB (H5 A row pre t u hw (sI p)) = some (.nx (H5 A row pre t u hw (sI p))) := by
 have wl : WD (fP (aC (fV 2) aN) vU) (H5 A row pre t u hw (sI p)) true (.int (pre.length : Nat)) := vP1 (yZ (zb (i := 2) rfl)) (by show some (R0.im (.int ((pre.map eD).length : Nat))) = _; rw [zD]) rfl
 have t2 := YT (yH (c := true) (vq (as := H5 A row pre t u hw (sI p)) (zy (zb (i := 4) rfl) zP) W6) rfl)
 have t3 := YT (yH (c := true) (zis (zf (x := .int 0)) (zb (i := 4) rfl) wl) (by rw [decide_eq_true (show (0 : Int) <= p by omega), decide_eq_true (show (p : Int) < pre.length by omega)]; rfl))
 exact yD (Wy (l := false) t2 (λ _ => t3) λ h => nomatch h) rfl
theorem zpS (A : Alg n m J e Ds) {t u : Bool} {x : En} (h : How row m J e Ds pre x) (ok : ∀ y ∈ pre, Ok n m y) : RE (vm [(true, zE n m J e Ds S), (true, zX row), (t, .lst (pre.map eD)), (u, x.2.2)]) (pD (ky x)) := by
 have m1 := A.m1
 cases h with
 | none =>
  exact wK rfl (zbc (zdT (zmt rfl) (wH (Zg (WD.e (f2E (a := fV 0) (b := fC (.int 3)) (g := ixP) (z := .int e) (WD.e (zb (i := 0) rfl)) (WD.e zf) rfl)) (WD.e (zf (x := .int 0)))))))
 | @one v hv =>
  have w1 : WD (f2 (fV 3) (fC (.int 1)) ixP) (H5 (zE n m J e Ds S) row pre t u (.tup [.str "one", .int v]) none) true (.int v) := zkp rfl rfl
  have t3 : WT (Yu (fT (f2 (f2 (fV 3) (fC (.int 0)) ixP) (fC (.str "one")) (zL .Eq))) (Yu (fT (f2 (fP (aC (fV 3) aN) vU) (fC (.int 2)) (zL .Eq))) (Yu (fT (zJ (aC (f2 (fV 3) (fC (.int 1)) ixP) aN) ye)) (fT (f2 (f2 (fV 3) (fC (.int 1)) ixP) (fV 1) (zL .In)))))) (H5 (zE n m J e Ds S) row pre t u (.tup [.str "one", .int v]) none) true :=
   zbt (k := true) zie (λ _ => zbt (k := true) znM (λ _ => zbt (k := true) (yH (vq (zy w1 zP) W6) rfl) (λ _ => yH (vf2 (z := .bl true) (yZ w1) (yZ (zb (i := 1) rfl)) (zoR hv) rfl) rfl) λ z => nomatch z) λ z => nomatch z) λ z => nomatch z
  exact wK rfl (zH (yD (zmt rfl) rfl) (zH (yD (zkk (by show 2 <= 2; decide)) rfl) (zbc (zdT t3 (wH (Zg (WD.e w1) (WD.e (yf (zf (x := .int 1)) (f2E (a := fV 0) (b := fC (.int 1)) (g := ixP) (z := .int m) (WD.e (zb (i := 0) rfl)) (WD.e zf) rfl) (by omega)))))))))
 | @deed p k y mp hk =>
  have oy := ok y (List.mem_of_getElem? hk)
  have t4 : WT (Yu (fT (f2 (f2 (fV 3) (fC (.int 0)) ixP) (fC (.str "deed")) (zL .Eq))) (fT (f2 (fP (aC (fV 3) aN) vU) (fC (.int 3)) (zL .Eq)))) (H5 (zE n m J e Ds S) row pre t u (.tup [.str "deed", .str p.1, .int k]) none) true := zbt (k := true) zie (λ _ => znM) λ z => nomatch z
  exact wK rfl (zH (yD (zmt rfl) rfl) (zH (yD (zkk (by show 2 <= 3; decide)) rfl) (zH (yD (znG rfl) rfl) (zbc (zdT t4 (wH (zhm (zb (i := 0) rfl) (zb (i := 2) rfl) (zb (i := 3) rfl) λ s t => zhs A mp hk oy)))))))
 | @two p q y z hp hq =>
  have oy := ok y (List.mem_of_getElem? hp)
  have oz := ok z (List.mem_of_getElem? hq)
  have lp := (zzD.mp hp).1
  have lq := (zzD.mp hq).1
  have t4 : WT (Yu (fT (f2 (f2 (fV 3) (fC (.int 0)) ixP) (fC (.str "deed")) (zL .Eq))) (fT (f2 (fP (aC (fV 3) aN) vU) (fC (.int 3)) (zL .Eq)))) (H6 (zE n m J e Ds S) row pre t u p q none) false := zbt (k := false) zie (λ z => nomatch z) λ _ => rfl
  have t5 : WT (Yb (fT (f2 (f2 (fV 3) (fC (.int 0)) ixP) (fC (.str "two")) (zL .NotEq))) (fT (f2 (fP (aC (fV 3) aN) vU) (fC (.int 3)) (zL .NotEq)))) (H6 (zE n m J e Ds S) row pre t u p q none) false :=
   Wy (l := false) (yH (zds (WD.e (zkp (d := .str "two") rfl rfl)) (WD.e (zf (x := .str "two"))) (q := true) rfl) rfl) (λ _ => yH (zds (WD.e (zlE rfl)) (WD.e (zf (x := .int 3))) (q := true) rfl) rfl) λ z => nomatch z
  obtain ⟨v, wc⟩ := vsl (z := .tup [.int p, .int q]) (zkQ (A := zE n m J e Ds S) (row := row) (pre := pre) (t := t) (u := u) (hw := .tup [.str "two", .int p, .int q]) (e4 := none)) (fl := oS (fC (.int 1))) (fh := oN) (lo := some 1) (hi := none) (zdf (zf (x := .int 1))) rfl rfl
  have hi : zfS (fSl (fV 3) (oS (fC (.int 1))) oN slP) (H6 (zE n m J e Ds S) row pre t u p q none) = some ([(true, .int p), (true, .int q)], H6 (zE n m J e Ds S) row pre t u p q none) := by
   unfold zfS
   unfold WD at wc
   rw [wc]; rfl
  have hf := wU (f := loB) (g := gN 4) hi (Zn (as1 := H6 (zE n m J e Ds S) row pre t u p q (sI p)) rfl (zkJ lp) (Zn (as1 := H6 (zE n m J e Ds S) row pre t u p q (sI q)) rfl (zkJ lq) rfl))
  have wp : WD (f2 (fV 3) (fC (.int 1)) ixP) (H6 (zE n m J e Ds S) row pre t u p q (sI q)) true (.int p) := zkp rfl rfl
  have wq : WD (f2 (fV 3) (fC (.int 2)) ixP) (H6 (zE n m J e Ds S) row pre t u p q (sI q)) true (.int q) := zkp rfl rfl
  obtain ⟨v1, w1⟩ := vix (yZ (zb (i := 2) rfl)) (yZ wp) (XR (f := eD) hp)
  obtain ⟨v2, w2⟩ := vix (yZ (zb (i := 2) rfl)) (yZ wq) (XR (f := eD) hq)
  exact wK rfl (zH (yD (zmt rfl) rfl) (zH (yD (zkk (by show 2 <= 3; decide)) rfl) (zH (yD (znG rfl) rfl) (zH (yD t4 rfl) (zH (yD t5 rfl) (zH hf (wH (zhm (zb (i := 0) rfl) w1 w2 λ s t => ziS A oy oz (λ _ _ => rfl) λ _ _ => rfl))))))))
variable {n m : Nat} {J : PF.TZ} {e : Int} {Ds : PF.DD} {S : PF.SS} {es : List En} {row : List Int}
abbrev X5 (A : D) (row : List Int) (t : Bool) (es : List En) (N : List (Int × Int)) (e4 : Option O) : AS := [sT A, sT (zX row), some (.lf t (knD es)), sT (.lst (N.map pD)), e4]
theorem zda {t : Bool} : ∀ l : List En, kids t (((l.map ky).map kP).map tkD) = l.map λ z => (t, pD (ky z))
 | [] => rfl
 | z :: l => by
  show (t, pD (ky z)) :: kids t (((l.map ky).map kP).map tkD) = _
  rw [zda l]; rfl
theorem zkR {A : D} {t : Bool} {N : List (Int × Int)} {e4 : Option O} : ziZ (fV 2) (X5 A row t es N e4) = some (es.map λ z => (t, pD (ky z)), X5 A row t es N e4) := by
 have h : ziZ (fV 2) (X5 A row t es N e4) = some (kids t (((es.map ky).map kP).map tkD), X5 A row t es N e4) := rfl
 rw [zda] at h; exact h
theorem zjD {A : D} {t : Bool} {N : List (Int × Int)} {e4 : Option O} : zdi (fV 2) (X5 A row t es N e4) = some (es.map λ z => (t, pD (ky z)), X5 A row t es N e4) := by
 have h : zdi (fV 2) (X5 A row t es N e4) = some (kids t (((es.map ky).map kP).map tkD), X5 A row t es N e4) := rfl
 rw [zda] at h; exact h
theorem zoo {xs ys : List (Int × Int)} (h : xs.length + ys.length <= 100000) : zp .Add (.lst (xs.map pD)) (.lst (ys.map pD)) = some (.fl ((xs ++ ys).map pD)) := by
 show (if (xs.map pD).length + (ys.map pD).length <= sizeLine then some (R0.fl (xs.map pD ++ ys.map pD)) else none) = _
 rw [zD, zD, if_pos (szs (by omega)), List.map_append]
theorem zqQ {p : Str × PF.TZ} {c : Option O} : gT 2 (gsC (gN 0) (gsC (gN 1) gsN)) (true, wk p) [none, none, c] = some [sT (.str p.1), sT (zY p.2), c] := by
 have k : kids true [.str p.1, zY p.2] = [(true, .str p.1), (true, zY p.2)] := by
  show [(zF (.str p.1) || true, .str p.1), (zF (zY p.2) || true, zY p.2)] = _
  rw [Bool.or_true, Bool.or_true]
 unfold gT
 simp only [wk, k]
 rfl
theorem znW {y : En} : ∀ k : Nat, k < 2 -> ixP (pD (ky y)) (.int k) = ixP (eD y) (.int k)
 | 0, _ => rfl
 | 1, _ => rfl
 | k + 2, h => absurd h (by omega)
abbrev clB : SF := (zA (zK true 3 (f2 (fV 3) (yp (Z9 (f2 (fV 0) (fC (.int 4)) ixP)) [none, none, some 4] (gT 2 (gsC (gN 0) (gsC (gN 1) gsN))) xr (yF (dC (f2 (f2 (fV 1) (f2 (fV 2) (fC (.int 1)) ixP) ixP) (f2 (fV 2) (fC (.int 0)) ixP) ixP) (dC (f2 (fV 2) (fC (.int 1)) ixP) dN)))) (zp .Add)))
 (zK true 3 (f2 (fV 3) (yp (zdi (fV 2)) [none, some 0, some 4] (gN 0) xr (zJ (aC (fV 1) (aC (fV 2) (aC (fV 0) aN))) xq)) (zp .Add))))
theorem zox (A : Alg n m J e Ds) (K : Kn n m J e Ds (es.map ky)) (ok : ∀ x ∈ es, Ok n m x) (hl : es.length <= 48) {t : Bool} {N0 : List (Int × Int)} (h0 : ∀ p ∈ N0, p ∈ es.map ky) (l0 : N0.length <= 100) :
 ∃ N e4, forL (gN 4) clB (es.map λ z => (t, pD (ky z))) (X5 (zE n m J e Ds S) row t es N0 none) = some (.nx (X5 (zE n m J e Ds S) row t es N e4)) /\ (∀ p ∈ N, p ∈ es.map ky) /\ N.length <= 10000 := by
 have dl := A.dl
 obtain ⟨as', hf, N, e4, rfl, hN, lN⟩ := xT (g := gN 4) (f := clB) (λ i as => ∃ (N : List (Int × Int)) (e4 : Option O), as = X5 (zE n m J e Ds S) row t es N e4 /\ (∀ p ∈ N, p ∈ es.map ky) /\ N.length <= 100 + 60 * i)
  (es.map λ z => (t, pD (ky z))) 0 (X5 (zE n m J e Ds S) row t es N0 none) (λ i x as hx hI => by
   obtain ⟨N, e4, rfl, hN, lN⟩ := hI
   rw [zzF] at hx
   cases hy : es[i]? with
   | none => rw [hy] at hx; cases hx
   | some y =>
    rw [hy] at hx
    cases hx
    have my := List.mem_of_getElem? hy
    have oy := ok y my
    have hi := (zzD.mp hy).1
    refine ⟨X5 (zE n m J e Ds S) row t es N (some (.lf t (pD (ky y)))), rfl, ?_⟩
    have kk : ky y ∈ es.map ky := List.mem_map_of_mem my
    have hb := zcj (as := X5 (zE n m J e Ds S) row t es N (some (.lf t (pD (ky y))))) (f := f2 (fV 0) (fC (.int 4)) ixP) (g := wk) (l := Ds) (WD.e (f2E (WD.e (zb (i := 0) rfl)) (WD.e zf) rfl))
    have wx : ∀ {p : Str × PF.TZ} {k : Int} {v : Int}, ixP (pD (ky y)) (.int k) = some (.im (.int v)) -> WD (f2 (fV 2) (fC (.int k)) ixP) [sT (.str p.1), sT (zY p.2), some (.lf t (pD (ky y)))] true (.int v) := λ h => vf2 (yZ (zb (i := 2) rfl)) (yZ zf) h rfl
    have c1 := zas (h := λ p : Str × PF.TZ => pD (jAt p.2 y.2.1 y.1, y.2.1)) (cap := [none, none, some 4]) (gg := gT 2 (gsC (gN 0) (gsC (gN 1) gsN))) (fe := yF (dC (f2 (f2 (fV 1) (f2 (fV 2) (fC (.int 1)) ixP) ixP) (f2 (fV 2) (fC (.int 0)) ixP) ixP) (dC (f2 (fV 2) (fC (.int 1)) ixP) dN))) Ds hb (by omega) λ p mp => ⟨[sT (.str p.1), sT (zY p.2), some (.lf t (pD (ky y)))], zqQ, Zg (WD.e (Wn (A.ds p mp) oy.2 oy.1 (zb (i := 1) rfl) (wx (p := p) rfl) (wx (p := p) rfl)).1) (WD.e (wx (p := p) rfl))⟩
    rw [show Ds.map (λ p : Str × PF.TZ => pD (jAt p.2 y.2.1 y.1, y.2.1)) = (Ds.map λ p : Str × PF.TZ => (jAt p.2 y.2.1 y.1, y.2.1)).map pD by rw [List.map_map]; rfl] at c1
    have s1 := Z4 (p := 3) (zpP (WD.e (zb (i := 3) rfl)) c1 (zoo (by rw [zD]; omega))) (zG rfl)
    have c2 := zas (h := λ z : En => pD (jAt J y.1 z.1, (y.2.1 + z.2.1) % m)) (cap := [none, some 0, some 4]) (gg := gN 0) (fe := zJ (aC (fV 1) (aC (fV 2) (aC (fV 0) aN))) xq) es (zjD (A := zE n m J e Ds S) (row := row) (t := t) (es := es) (N := N ++ Ds.map λ p : Str × PF.TZ => (jAt p.2 y.2.1 y.1, y.2.1)) (e4 := some (.lf t (pD (ky y))))) (by omega) λ z mz => ⟨[some (.lf t (pD (ky z))), sT (zE n m J e Ds S), some (.lf t (pD (ky y)))], rfl, zhm (zb (i := 1) rfl) (zb (i := 2) rfl) (zb (i := 0) rfl) λ s t => ziS A oy (ok z mz) znW znW⟩
    rw [show es.map (λ z : En => pD (jAt J y.1 z.1, (y.2.1 + z.2.1) % m)) = (es.map λ z : En => (jAt J y.1 z.1, (y.2.1 + z.2.1) % (m : Int))).map pD by rw [List.map_map]; rfl] at c2
    have s2 := Z4 (p := 3) (zpP (WD.e (zb (i := 3) rfl)) c2 (zoo (by rw [zzG, zD, zD]; omega))) (zG rfl)
    refine ⟨_, zZ s1 s2, _, _, rfl, λ p mp => ?_, by rw [zzG, zzG, zD, zD]; omega⟩
    rcases zzJ.mp mp with mp | mp
    · rcases zzJ.mp mp with mp | mp
      · exact hN p mp
      · obtain ⟨q, mq, rfl⟩ := List.mem_map.mp mp
        exact K.d _ _ kk q mq
    · obtain ⟨z, mz, rfl⟩ := List.mem_map.mp mp
      exact K.t _ _ _ _ kk (List.mem_map_of_mem mz))
  ⟨N0, none, rfl, h0, by omega⟩
 rw [zD] at lN
 exact ⟨N, e4, hf, hN, by omega⟩
theorem zjk (A : Alg n m J e Ds) (K : Kn n m J e Ds (es.map ky)) (ok : ∀ x ∈ es, Ok n m x) (hl : es.length <= 48) {t : Bool} (hk : ∀ v ∈ row, (v, 1 % (m : Int)) ∈ es.map ky) (rl : row.length <= 10) : RE (wZ [(true, zE n m J e Ds S), (true, zX row), (t, knD es)]) (.bl true) := by
 have m1 := A.m1
 have w1 : WE (vd (dC (yF (dC (f2 (fV 0) (fC (.int 3)) ixP) (dC (fC (.int 0)) dN))) dN)) (yE 5 [(true, zE n m J e Ds S), (true, zX row), (t, knD es)]) (.lst ([(e, 0)].map pD)) := by
  obtain ⟨o, h1, h2, h3⟩ := VP (as := yE 5 [(true, zE n m J e Ds S), (true, zX row), (t, knD es)]) (Zg (WD.e (f2E (a := fV 0) (b := fC (.int 3)) (g := ixP) (z := .int e) (WD.e (zb (i := 0) rfl)) (WD.e zf) rfl)) (WD.e (zf (x := .int 0)))) yG
  exact ZC h3 (szl rfl) (by show (o.str && true) = true; rw [h1]; rfl) (by show D.lst [o.toD] = _; rw [h2]; rfl)
 have w2 := zas (as := yE 5 [(true, zE n m J e Ds S), (true, zX row), (t, knD es)]) (h := λ v => pD (v, 1 % (m : Int))) (it := λ v => (true, D.int v)) (cap := [none, some 0]) (gg := gN 0) (fe := yF (dC (fV 0) (dC (f2 (fC (.int 1)) (f2 (fV 1) (fC (.int 1)) ixP) (zp .Mod)) dN))) row (zcj (f := fV 1) (g := D.int) (WD.e (zb (i := 1) rfl))) (by omega) λ v _ => ⟨[sI v, sT (zE n m J e Ds S)], rfl, Zg (WD.e (zb (i := 0) rfl)) (WD.e (yf (zf (x := .int 1)) (f2E (a := fV 1) (b := fC (.int 1)) (g := ixP) (z := .int m) (WD.e (zb (i := 1) rfl)) (WD.e zf) rfl) (by omega)))⟩
 rw [show row.map (λ v => pD (v, 1 % (m : Int))) = (row.map λ v => (v, 1 % (m : Int))).map pD by rw [List.map_map]; rfl] at w2
 have s3 := Z4 (p := 3) (zpP w1 w2 (zoo (by rw [zD]; show 1 + row.length <= 100000; omega))) (zG rfl)
 obtain ⟨N, e4, hf, hN, lN⟩ := zox (S := S) (row := row) (t := t) A K ok hl (N0 := [(e, 0)] ++ row.map λ v => (v, 1 % (m : Int))) (λ p mp => by
  rcases zzJ.mp mp with mp | mp
  · rw [zzO.mp mp]; exact K.o
  · obtain ⟨v, mv, rfl⟩ := List.mem_map.mp mp
    exact hk v mv) (by rw [zzG, zD]; show 1 + row.length <= 100; omega)
 have fl : (es.map ky).length = (yes es).length := by rw [zD, zD]
 obtain ⟨os, c1, c2, c3⟩ := zbJ (h := pD) (p := λ _ => false) (it := λ p => (true, pD p)) (gg := gN 0) (tt := fT (f2 (fV 0) (fV 1) (zL .NotIn))) (fe := fV 0) (as0 := [none, some (.lf t (knD es))]) N λ p mp => ⟨[sT (pD p), some (.lf t (knD es))], rfl, by
  have nn := zll (p := p) fl
  rw [decide_eq_true (hN p mp)] at nn
  exact yH (vf2 (yZ (zb (i := 0) rfl)) (yZ (zb (i := 1) rfl)) nn rfl) rfl, λ z => nomatch z⟩
 rw [show N.filter (λ _ => false) = [] from List.filter_eq_nil_iff.mpr λ _ _ z => nomatch z] at c3
 have wc := zdw (cap := [none, some 2]) (zcj (as := X5 (zE n m J e Ds S) row t es N e4) (f := fV 3) (g := pD) (l := N) (WD.e (zb (i := 3) rfl))) (by rw [zD]; omega) c1 c2 c3
 exact wK rfl (zH s3 (zH (wU zkR hf) (wH (WD.e (zeQ (q := true) wc (ZC yG (szl rfl) rfl rfl) rfl)))))
variable {n m : Nat} {J : PF.TZ} {e : Int} {Ds : PF.DD} {S : PF.SS} {es : List En} {row : List Int}
theorem zrG {as : AS} {j : Nat} {fk fv : EF} {u : Bool} {p : Int × Int} {ps : List (Int × Int)} {fs : List D} {x : D} (h5 : as[j]? = some (dP ps fs)) (hk : WD fk as u (pD p)) (hv : WE fv as x) (hn : p ∉ ps) (hl : ps.length <= 1000) :
 V7 j fk fv as = some (.nx (as.set j (dP (ps ++ [p]) (fs ++ [x])))) := by
 obtain ⟨o, h1, h2, h3⟩ := hv
 have e : XD as (.ow o) = some ((o.str, o.toD), as) := rfl
 have e3 : zou (.ow (.lf u (pD p))) = some (kP p) := rfl
 unfold WD at hk
 unfold V7
 simp only [h1, Option.bind_some, e, h5, hk, e3, zD, if_pos (show ps.length < sizeLine from Nat.lt_of_le_of_lt hl (by decide))]
 unfold YG ZP
 rw [ziq hn, h2, h3]
 simp only [Bool.false_eq_true, if_false, dP, List.map_append, List.map_cons, List.map_nil]
abbrev Y6 (A : D) (row : List Int) (s : Bool) (es d : List En) (e4 e5 : Option O) : AS := [sT A, sT (zX row), some (.lf s (.lst (es.map eD))), some (kO d), e4, e5]
abbrev Y7 (A : D) (row : List Int) (s : Bool) (es : List En) (i : Nat) (u : Bool) (x : En) : AS := Y6 A row s es (es.take i) (sI i) (some (.lf u (eD x)))
abbrev riB : SF := (zA (zK true 5 (f2 (fV 2) (fV 4) ixP))
 (zA (sIf (Yb (Zb (fT (zbO (fV 5) "tuple"))) (Yb (fT (f2 (fP (aC (fV 5) aN) vU) (fC (.int 3)) (zL .NotEq))) (Yb (Zb (fT (zJ (aC (f2 (fV 5) (fC (.int 0)) ixP) aN) ye))) (Zb (fT (zJ (aC (f2 (fV 5) (fC (.int 1)) ixP) aN) ye)))))) (yh (fC (.bl false))) sNx)
 (zA (sIf (Yb (fT (f2 (fSl (fV 5) oN (oS (fC (.int 2))) slP) (fV 3) (zL .In))) (fT (f2 (zJ (aC (fV 0) (aC (fV 1) (aC (fSl (fV 2) oN (oS (fV 4)) slP) (aC (f2 (fV 5) (fC (.int 2)) ixP) aN)))) vm) (fSl (fV 5) oN (oS (fC (.int 2))) slP) (zL .NotEq)))) (yh (fC (.bl false))) sNx)
 (V7 3 (fSl (fV 5) oN (oS (fC (.int 2))) slP) (fC (.bl true))))))
theorem zpn (A : Alg n m J e Ds) (ok : ∀ x ∈ es, Ok n m x) (hl : es.length <= 48) (nd : (es.map ky).Nodup) (hw : Hw row m J e Ds es) {s : Bool} :
 ∃ e4 e5, forL (gN 4) riB (xf 0 es.length) (Y6 (zE n m J e Ds S) row s es [] none none) = some (.nx (Y6 (zE n m J e Ds S) row s es es e4 e5)) := by
 obtain ⟨as', hf, e4, e5, rfl⟩ := xT (g := gN 4) (f := riB) (λ i as => ∃ e4 e5, as = Y6 (zE n m J e Ds S) row s es (es.take i) e4 e5) (xf 0 es.length) 0 (Y6 (zE n m J e Ds S) row s es [] none none) (λ i x as hx hI => by
  obtain ⟨e4, e5, rfl⟩ := hI
  obtain ⟨rfl, hi⟩ := xX hx
  rw [Int.zero_add, Nat.zero_add]
  have ex := zzB hi
  generalize es[i] = x at ex
  refine ⟨Y6 (zE n m J e Ds S) row s es (es.take i) (sI i) e5, rfl, ?_⟩
  obtain ⟨u, w5⟩ := vix (yZ (zb (as := Y6 (zE n m J e Ds S) row s es (es.take i) (sI i) e5) (i := 2) rfl)) (yZ (zb (i := 4) rfl)) (XR (f := eD) ex)
  have s5 := yC (st := true) (i := 5) w5 (zG rfl)
  have v5 : VV (fV 5) (Y7 (zE n m J e Ds S) row s es i u x) (eD x) := yZ (zb rfl)
  have x0 : WD (f2 (fV 5) (fC (.int 0)) ixP) (Y7 (zE n m J e Ds S) row s es i u x) true (.int x.1) := vf2 v5 (yZ zf) rfl rfl
  have x1 : WD (f2 (fV 5) (fC (.int 1)) ixP) (Y7 (zE n m J e Ds S) row s es i u x) true (.int x.2.1) := vf2 v5 (yZ zf) rfl rfl
  have t1 := Wy (l := false) (YT (yH (c := true) (zpB (c := "tuple") v5 rfl) rfl)) (λ _ => Wy (l := false) (yH (zds (WD.e (vP1 (g := vU) (z := .int 3) v5 rfl rfl)) (WD.e (zf (x := .int 3))) (q := true) rfl) rfl) (λ _ => Wy (l := false) (YT (yH (c := true) (vq (zy x0 zP) W6) rfl)) (λ _ => YT (yH (c := true) (vq (zy x1 zP) W6) rfl)) λ z => nomatch z) λ z => nomatch z) λ z => nomatch z
  obtain ⟨u2, wc⟩ := vsl v5 (lo := none) (fl := oN) rfl (zdf (zf (x := .int 2))) zqs
  have et : es.take (i + 1) = es.take i ++ [x] := by rw [List.take_succ, ex]; rfl
  have hn : ky x ∉ (es.take i).map ky := by
   have h2 : (es.take (i + 1)).map ky = (es.take i).map ky ++ [ky x] := by rw [et, List.map_append]; rfl
   have h3 : ((es.take (i + 1)).map ky).Nodup := nd.sublist ((List.take_sublist _ _).map _)
   rw [h2] at h3
   exact λ z => (List.nodup_append.mp h3).2.2 _ z _ zzC rfl
  have fl : ((es.take i).map ky).length = (yes (es.take i)).length := by rw [zD, zD]
  have ni := znD (p := ky x) fl
  rw [decide_eq_false hn] at ni
  have t2 : WT (fT (f2 (fSl (fV 5) oN (oS (fC (.int 2))) slP) (fV 3) (zL .In))) (Y7 (zE n m J e Ds S) row s es i u x) false := yH (vf2 (z := .bl false) (yZ wc) (zrd (i := 3) rfl (zhf (yes (es.take i)))) (by unfold zL; simp only [ni]; rfl) rfl) rfl
  obtain ⟨o, k1, k2⟩ := zqR (f := fV 2) (fc := fV 4) (as := Y7 (zE n m J e Ds S) row s es i u x) (c := i) (by rw [zD]; omega) (yZ (zb rfl)) (zb rfl)
  obtain ⟨u3, x2⟩ := vix v5 (yZ (zf (x := .int 2))) (z := x.2.2) rfl
  have wh : WE (zJ (aC (fV 0) (aC (fV 1) (aC (fSl (fV 2) oN (oS (fV 4)) slP) (aC (f2 (fV 5) (fC (.int 2)) ixP) aN)))) vm) (Y7 (zE n m J e Ds S) row s es i u x) (pD (ky x)) := by
   obtain ⟨o', h1, h2, h3⟩ := zpS (S := S) (t := zF (.lst ((es.take i).map eD)) || o.str) (u := zF x.2.2 || u3) A (hw i x ex) λ y my => ok y (List.mem_of_mem_take my)
   exact ⟨o', ZF (zy (zb (i := 0) rfl) (zy (zb (i := 1) rfl) (zgG k1 (zy x2 zP)))) (by
    show vm [(zF (zE n m J e Ds S) || true, zE n m J e Ds S), (zF (zX row) || true, zX row), (zF o.toD || o.str, o.toD), (zF x.2.2 || u3, x.2.2)] = _
    rw [Bool.or_true, Bool.or_true, k2, <- List.map_take]; exact h1), h2, h3⟩
  have t3 : WT (fT (f2 (zJ (aC (fV 0) (aC (fV 1) (aC (fSl (fV 2) oN (oS (fV 4)) slP) (aC (f2 (fV 5) (fC (.int 2)) ixP) aN)))) vm) (fSl (fV 5) oN (oS (fC (.int 2))) slP) (zL .NotEq))) (Y7 (zE n m J e Ds S) row s es i u x) false := yH (vf2 (z := .bl false) (znS wh) (yZ wc) (by unfold zL; simp only [eqP, beq_self_eq_true]; rfl) rfl) rfl
  have sd := zrG (as := Y7 (zE n m J e Ds S) row s es i u x) (j := 3) (fs := yes (es.take i)) rfl wc (WD.e (zf (x := .bl true))) hn (by rw [zD, zzP]; omega)
  have e5 : dP ((es.take i).map ky ++ [ky x]) (yes (es.take i) ++ [.bl true]) = some (kO (es.take (i + 1))) := by
   show some (O.nd _ _) = some (O.nd _ _)
   rw [et, show (es.take i).map ky ++ [ky x] = (es.take i ++ [x]).map ky by rw [List.map_append]; rfl, show yes (es.take i) ++ [.bl true] = yes (es.take i ++ [x]) by show _ = (es.take i ++ [x]).map _; rw [List.map_append]; rfl]
  rw [e5] at sd
  exact ⟨_, zZ s5 (zZ (yD t1 rfl) (zZ (yD (Wy (l := false) t2 (λ _ => t3) λ z => nomatch z) rfl) sd)), _, _, rfl⟩) ⟨none, none, rfl⟩
 rw [yL, Nat.zero_add, List.take_length] at hf
 exact ⟨e4, e5, hf⟩
theorem zfX (A : Alg n m J e Ds) (K : Kn n m J e Ds (es.map ky)) (ok : ∀ x ∈ es, Ok n m x) (hl : es.length <= 48) (nd : (es.map ky).Nodup) (hw : Hw row m J e Ds es) {s : Bool} (hk : ∀ v ∈ row, (v, 1 % (m : Int)) ∈ es.map ky) (rl : row.length <= 10) : RE (wB [(true, zE n m J e Ds S), (true, zX row), (s, .lst (es.map eD))]) (.bl true) := by
 have v2 : VV (fV 2) (yE 6 [(true, zE n m J e Ds S), (true, zX row), (s, .lst (es.map eD))]) (.lst (es.map eD)) := yZ (zb rfl)
 have t0 := YT (yH (c := true) (zpB (c := "list") v2 rfl) rfl)
 have s3 := xY (as := yE 6 [(true, zE n m J e Ds S), (true, zX row), (s, .lst (es.map eD))]) (f := zlT) (o := .nd (.dt []) []) (i := 3) rfl (zG rfl)
 obtain ⟨e4, e5, hf⟩ := zpn (S := S) (s := s) A ok hl nd hw
 have hr := ww (as := Y6 (zE n m J e Ds S) row s es [] none none) (zy (vP1 (g := vU) (z := .int (es.length : Nat)) (yZ (zb (i := 2) rfl)) (by show some (R0.im (.int ((es.map eD).length : Nat))) = _; rw [zD]) rfl) zP) (by omega) (by omega)
 rw [Int.toNat_natCast] at hr
 have wc : WE (zJ (aC (fV 0) (aC (fV 1) (aC (fV 3) aN))) wZ) (Y6 (zE n m J e Ds S) row s es es e4 e5) (.bl true) := by
  obtain ⟨o, h1, h2, h3⟩ := zjk (S := S) (t := false) A K ok hl hk rl
  refine ⟨o, zcW (rs := [.ow (.lf true (zE n m J e Ds S)), .ow (.lf true (zX row)), .bo 3]) (xs := [(zF (zE n m J e Ds S) || true, zE n m J e Ds S), (zF (zX row) || true, zX row), (false, (kO es).toD)]) rfl rfl ?_, h2, h3⟩
  rw [Bool.or_true, Bool.or_true, zhf]; exact h1
 exact wK rfl (zH (yD t0 rfl) (zH s3 (zH (wU hr hf) (wH wc))))
variable {n m : Nat} {J : PF.TZ} {e : Int} {Ds : PF.DD} {S : PF.SS} {es : List En} {row : List Int}
theorem zci {f : D -> D -> Option Bool} : ∀ xs : List D, (∀ x ∈ xs, f x x = some true) -> eqL f xs xs = some true
 | [], _ => rfl
 | x :: r, h => by
  show ((f x x).bind λ b => (eqL f r r).bind λ c => some (b && c)) = _
  rw [h x zzC, zci r λ y my => h y (zzA _ my)]; rfl
theorem zhp {k : Nat} (r : List Int) : eqF (k + 2) (zX r) (zX r) = some true := zci _ λ x mx => by
 obtain ⟨v, _, rfl⟩ := List.mem_map.mp mx
 show some (v == v) = _
 rw [beq_self_eq_true]
theorem zkV {k : Nat} (T : PF.TZ) : eqF (k + 3) (zY T) (zY T) = some true := zci _ λ x mx => by
 obtain ⟨v, _, rfl⟩ := List.mem_map.mp mx
 exact zhp v
theorem eq_str {k : Nat} (x : Str) : eqF (k + 1) (.str x) (.str x) = some true := by
 show some (x == x) = _
 rw [beq_self_eq_true]
theorem eq_int {k : Nat} (x : Int) : eqF (k + 1) (.int x) (.int x) = some true := by
 show some (x == x) = _
 rw [beq_self_eq_true]
theorem all2 {f : D -> D -> Option Bool} {a b : D} (ha : f a a = some true) (hb : f b b = some true) : ∀ x ∈ [a, b], f x x = some true := λ x mx => by
 rcases zS.mp mx with rfl | mx
 · exact ha
 · rw [zzO.mp mx]; exact hb
theorem zoZ : eqF 60 (zE n m J e Ds S) (zE n m J e Ds S) = some true := zci _ λ x mx => by
 rcases zS.mp mx with rfl | mx
 · exact eq_int _
 rcases zS.mp mx with rfl | mx
 · exact eq_int _
 rcases zS.mp mx with rfl | mx
 · exact zkV (k := 56) J
 rcases zS.mp mx with rfl | mx
 · exact eq_int _
 rcases zS.mp mx with rfl | mx
 · refine zci _ λ x mx => ?_
   obtain ⟨p, _, rfl⟩ := List.mem_map.mp mx
   exact zci _ (all2 (eq_str _) (zkV (k := 54) p.2))
 · rw [zzO.mp mx]
   refine zci _ λ x mx => ?_
   obtain ⟨p, _, rfl⟩ := List.mem_map.mp mx
   exact zci _ (all2 (eq_str _) (zhp (k := 55) p.2))
theorem zqf {a b : D} : gT 2 (gsC (gN 0) (gsC (gN 1) gsN)) (true, .tup [a, b]) [none, none] = some [sT a, sT b] := by
 have k : kids true [a, b] = [(true, a), (true, b)] := by
  show [(zF a || true, a), (zF b || true, b)] = _
  rw [Bool.or_true, Bool.or_true]
 unfold gT
 simp only [k]
 rfl
theorem zhc {i : Nat} {as : AS} {T : PF.TZ} (hl : T.length <= 1000) (h : as[i]? = some (sT (zY T))) : WE (yp (Z9 (fV i)) [none] (gN 0) xr (fP (aC (fV 0) aN) lstP)) as (zY T) :=
 zas (h := zX) (it := λ r => (true, zX r)) T (zcj (g := zX) (WD.e (zb h))) (by omega) λ r _ => ⟨[sT (zX r)], rfl, zfR (zb (i := 0) rfl)⟩
theorem zmg {a b c d f g : EF} {as : AS} {x y z u v w : D} (ha : WE a as x) (hb : WE b as y) (hc : WE c as z) (hd : WE d as u) (hf : WE f as v) (hg : WE g as w) : WE (yF (dC a (dC b (dC c (dC d (dC f (dC g dN))))))) as (.tup [x, y, z, u, v, w]) := by
 obtain ⟨o6, i6, rfl, j6⟩ := VP hg yG
 obtain ⟨o5, i5, rfl, j5⟩ := VP hf j6
 obtain ⟨o4, i4, rfl, j4⟩ := VP hd j5
 obtain ⟨o3, i3, rfl, j3⟩ := VP hc j4
 obtain ⟨o2, i2, rfl, j2⟩ := VP hb j3
 obtain ⟨o1, i1, rfl, j1⟩ := VP ha j2
 exact zfp j1 (by show 6 <= _; omega) (by show (o1.str && (o2.str && (o3.str && (o4.str && (o5.str && (o6.str && true)))))) = true; rw [i1, i2, i3, i4, i5, i6]; rfl) rfl
theorem zrW : gT 6 (gsC (gN 1) (gsC (gN 2) (gsC (gN 3) (gsC (gN 4) (gsC (gN 5) (gsC (gN 6) gsN)))))) (true, zE n m J e Ds S) (yE 9 [(true, zE n m J e Ds S)]) = some [sT (zE n m J e Ds S), sI n, sI m, sT (zY J), sI e, sT (.lst (Ds.map wk)), sT (.lst (S.map Zm)), none, none] := rfl
theorem zmy (A : Alg n m J e Ds) (s3 : S.length <= 3) : RE (Yx [(true, zE n m J e Ds S)]) (zE n m J e Ds S) := by
 have dl := A.dl
 have n8 := A.n8
 have m6 := A.m6
 have sa : zeg (fV 0) (gT 6 (gsC (gN 1) (gsC (gN 2) (gsC (gN 3) (gsC (gN 4) (gsC (gN 5) (gsC (gN 6) gsN))))))) (yE 9 [(true, zE n m J e Ds S)]) = some (.nx [sT (zE n m J e Ds S), sI n, sI m, sT (zY J), sI e, sT (.lst (Ds.map wk)), sT (.lst (S.map Zm)), none, none]) := zhD (zb (i := 0) rfl) zrW
 have s7 := Z4 (p := 7) (zas (as := [sT (zE n m J e Ds S), sI n, sI m, sT (zY J), sI e, sT (.lst (Ds.map wk)), sT (.lst (S.map Zm)), none, none]) (h := wk) (it := λ p => (true, wk p)) (cap := [none, none]) (gg := gT 2 (gsC (gN 0) (gsC (gN 1) gsN))) (fe := yF (dC (fV 0) (dC (yp (Z9 (fV 1)) [none] (gN 0) xr (fP (aC (fV 0) aN) lstP)) dN))) Ds (zcj (f := fV 5) (g := wk) (WD.e (zb (i := 5) rfl))) (by omega) λ p mp => ⟨[sT (.str p.1), sT (zY p.2)], zqf, Zg (WD.e (zb (i := 0) rfl)) (zhc (by rw [(A.ds p mp).1]; omega) rfl)⟩) (zG rfl)
 have s8 := Z4 (p := 8) (zas (as := [sT (zE n m J e Ds S), sI n, sI m, sT (zY J), sI e, sT (.lst (Ds.map wk)), sT (.lst (S.map Zm)), sT (.lst (Ds.map wk)), none]) (h := Zm) (it := λ p => (true, Zm p)) (cap := [none, none]) (gg := gT 2 (gsC (gN 0) (gsC (gN 1) gsN))) (fe := yF (dC (fV 0) (dC (fP (aC (fV 1) aN) lstP) dN))) S (zcj (f := fV 6) (g := Zm) (WD.e (zb (i := 6) rfl))) (by omega) λ p mp => ⟨[sT (.str p.1), sT (zX p.2)], zqf, Zg (WD.e (zb (i := 0) rfl)) (zfR (zb (i := 1) rfl))⟩) (zG rfl)
 exact wK rfl (zH sa (zH s7 (zH s8 (wH (zmg (WD.e (zb (i := 1) rfl)) (WD.e (zb (i := 2) rfl)) (zhc (i := 3) (by rw [A.j.1]; omega) rfl) (WD.e (zb (i := 4) rfl)) (WD.e (zb (i := 7) rfl)) (WD.e (zb (i := 8) rfl)))))))
abbrev Z6 (ns : List Int) (A : D) (row : List Int) (o : Option O) : AS := [sT (.lst (ns.map D.int)), sT A, sT (zX row), sT A, sT (zX row), o]
theorem zkh (ns : List Int) (hns : ns.length <= 63) : zcU [(true, .lst (ns.map .int))] = some (.lf true (.bl true)) := by
 obtain ⟨c0, h0⟩ := zcM (ns := ns) (k := 0) (s := true) (t := true) (by omega)
 obtain ⟨c1, h1⟩ := zcM (ns := ns) (k := 1) (s := true) (t := true) (by omega)
 obtain ⟨c2, h2⟩ := zcM (ns := ns) (k := 2) (s := true) (t := true) (by omega)
 have z0 := Int.emod_nonneg c2 (show (5 : Int) ≠ 0 by decide)
 have z1 := Int.emod_lt_of_pos c2 (show (0 : Int) < 5 by decide)
 obtain ⟨w, ew⟩ : ∃ w : Nat, (w : Int) = c2 % 5 := ⟨_, Int.toNat_of_nonneg z0⟩
 obtain ⟨n, m, J, e, Ds, S, M, hw, ha⟩ := zhG (c := c0) (h := c1) (w := w) (by omega)
 rw [ew] at ha
 obtain ⟨row, v1, v2, v3⟩ := zjy (ns := ns) (st := 3) (w := 5) (n := n) (num := c2 / 5) M.al.n1 (by decide)
 obtain ⟨es, g1, K, g3, g4, g5, g6, g7⟩ := zjv (S := S) M.al M.la v2 (by omega)
 have cl : ∀ (as : AS) (k : Int) (x : Int), as[0]? = some (sT (.lst (ns.map .int))) -> zW [(true, .lst (ns.map .int)), (true, .int k)] = sT (.int x) -> WD (zJ (aC (fV 0) (aC (fC (.int k)) aN)) zW) as true (.int x) := λ as k x h hh => vq (zy (zb h) (zy zf zP)) hh
 have s1 := Z4 (as := yE 6 [(true, .lst (ns.map .int))]) (p := 1) (zeV (WD.e (cl _ 0 c0 rfl h0)) (WD.e (cl _ 1 c1 rfl h1)) (WD.e (yf (cl _ 2 c2 rfl h2) zf (by decide))) ha) (zG rfl)
 have a1 : WE (zJ (aC (fV 0) (aC (fC (.int 3)) (aC (fC (.int 5)) (aC (f2 (fV 1) (fC (.int 0)) ixP) (aC (f2 (zJ (aC (fV 0) (aC (fC (.int 2)) aN)) zW) (fC (.int 5)) (zp .FloorDiv)) aN))))) wC) [sT (.lst (ns.map D.int)), sT (zE n m J e Ds S), none, none, none, none] (zX row) := by
  obtain ⟨o, r1, r2, r3⟩ := v3
  exact ⟨o, ZF (zy (zb (i := 0) rfl) (zy (zf (x := .int 3)) (zy (zf (x := .int 5)) (zy (f2E (a := fV 1) (b := fC (.int 0)) (g := ixP) (z := .int n) (WD.e (zb (i := 1) rfl)) (WD.e zf) rfl) (zy (xZ (cl _ 2 c2 rfl h2) (zf (x := .int 5)) (by decide) (zT (by decide) (by decide))) zP))))) (by show wC [(zF (.lst (ns.map D.int)) || true, .lst (ns.map D.int)), (true, .int 3), (true, .int 5), (true, .int n), (true, .int (c2 / 5))] = _; rw [Bool.or_true]; exact r1), r2, r3⟩
 have s2 := Z4 (p := 2) a1 (zG rfl)
 have s3 := Z4 (as := [sT (.lst (ns.map D.int)), sT (zE n m J e Ds S), sT (zX row), none, none, none]) (p := 3) (zay (WD.e (zb (i := 1) rfl)) (zmy M.al M.s3)) (zG rfl)
 have s4 := Z4 (as := [sT (.lst (ns.map D.int)), sT (zE n m J e Ds S), sT (zX row), sT (zE n m J e Ds S), none, none]) (p := 4) (zfR (zb (i := 2) rfl)) (zG rfl)
 have cm : ∀ e5, zJ (aC (fV 3) (aC (fV 4) aN)) v6 (Z6 ns (zE n m J e Ds S) row e5) = some (.ow (eO es), (Z6 ns (zE n m J e Ds S) row e5)) := λ e5 =>
  ZF (zax (WD.e (zb (i := 3) rfl)) (zax (WD.e (zb (i := 4) rfl)) zP)) (by show v6 [(zF (zE n m J e Ds S) || true, zE n m J e Ds S), (zF (zX row) || true, zX row)] = _; rw [Bool.or_true, Bool.or_true]; exact g1)
 have s5 := xY (i := 5) (cm none) (zG rfl)
 have w1 : WD (zJ (aC (fV 1) (aC (fV 2) (aC (fV 5) aN))) wB) (Z6 ns (zE n m J e Ds S) row (some (eO es))) true (.bl true) := by
  refine zlo ?_
  obtain ⟨o, k1, k2, k3⟩ := zfX (S := S) (s := false) M.al K g6 g4 g5 g7 g3 (by omega)
  refine ⟨o, zcW (rs := [.ow (.lf true (zE n m J e Ds S)), .ow (.lf true (zX row)), .bo 5]) (xs := [(zF (zE n m J e Ds S) || true, zE n m J e Ds S), (zF (zX row) || true, zX row), (false, (eO es).toD)]) rfl rfl ?_, k2, k3⟩
  rw [Bool.or_true, Bool.or_true, zhS]; exact k1
 have t2 := yH (zds (as := (Z6 ns (zE n m J e Ds S) row (some (eO es)))) (WD.e (zb (i := 3) rfl)) (WD.e (zb (i := 1) rfl)) (zoZ (n := n) (m := m) (J := J) (e := e) (Ds := Ds) (S := S))) rfl
 have t3 := yH (zds (as := (Z6 ns (zE n m J e Ds S) row (some (eO es)))) (WD.e (zb (i := 4) rfl)) (WD.e (zb (i := 2) rfl)) (zhp (k := 58) row)) rfl
 have s6 : yV (wF 5 dN zno) (Z6 ns (zE n m J e Ds S) row (some (eO es))) = some (.nx (Z6 ns (zE n m J e Ds S) row (sN []))) := rfl
 have w2 := zlo (zeV (WD.e (zb (i := 1) rfl)) (WD.e (zb (i := 2) rfl)) ⟨eO es, cm (sN []), zdS _, zhS _⟩ (zfX (S := S) (s := true) M.al K g6 g4 g5 g7 g3 (by omega)))
 exact WQ rfl (zZ s1 (zZ s2 (zZ s3 (zZ s4 (zZ s5 (zZ (yD (Wy (l := false) (YT (yH w1 rfl)) (λ _ => Wy (l := false) t2 (λ _ => t3) λ z => nomatch z) λ z => nomatch z) rfl) (zZ s6 (Y8 w2))))))))
end G60
end
namespace G60
open PySem PySem.W PyProof.Rows L2
abbrev kF (n q : Str) (s : Stmt) (pm cd : Value) : Obj := ⟨.type "function", none, .func (fnOf n q (zfm s) (Vz s) (zB s) .none .none .none pm none cd .none), #[]⟩
abbrev kC (n : Str) (a : Nat) (q : Str) (b c : Nat) (i3 i4 i5 i6 i7 : Int) (r8 : Addr) (b9 : Bool) (i10 : Int) (r11 r13 r14 r15 : Addr) (i16 i17 : Int) (d : Nat) : Obj := ⟨.type "code", none, .fields #[.str n a, .str q b, .str "/claim/cut.py" c, .int i3 0, .int i4 0, .int i5 0, .int i6 0, .int i7 0, .ref r8, .bool b9, .int i10 0, .ref r11, .none, .ref r13, .ref r14, .ref r15, .int i16 0, .int i17 0, .str "/claim/cut.py" d], #[]⟩
abbrev kD (es : List DictEntry) (n : Nat) : Obj := ⟨.type "dict", none, .dict es.toArray n, #[]⟩
abbrev kE (P : Params) (x : Str) (t : Nat) (v : Value) : DictEntry := ⟨PyData.keyHash P x, .str x t, v⟩
abbrev kR (P : Params) (x : Str) (t : Nat) (a : Addr) : DictEntry := kE P x t (.ref a)
def K (P : Params) : Frag :=
 (nat_lit 3, kD [kE P "__name__" 165 (.str "law_stretchdeeds_k60_lists_of_what_comes" 336), kE P "__doc__" 166 .none, kE P "__package__" 167 .none, kE P "__loader__" 168 (.builtin "__main__.__loader__#opaque"), kE P "__spec__" 169 .none, kR P "__annotations__" 170 6, kR P "__builtins__" 171 4, kE P "__file__" 173 (.str "/claim/cut.py" 172), kE P "__cached__" 174 .none, kR P "StretchError" 206 24, kR P "NotLetBy" 231 44, kR P "nothing_fails" 243 53, kR P "parting_fails" 255 60, kR P "doing_fails" 271 67, kR P "deeds_fail" 282 74, kR P "what_fails" 290 81, kR P "check_let_by" 298 88, kR P "two_of" 312 95, kR P "following" 318 100, kR P "take_new" 329 107, kR P "coming" 335 112, kR P "_law_cell_at" 345 119, kR P "_law_mixed" 354 126, kR P "_law_whole" 361 133, kR P "_law_words" 367 138, kR P "_law_common" 375 145, kR P "_law_joined_by" 386 152, kR P "_law_images" 392 157, kR P "_law_done_by" 398 162, kR P "_law_kinds" 408 169, kR P "_law_stream" 419 176, kR P "_law_algebra" 425 181, kR P "_law_copy" 431 186, kR P "_law_values" 444 193, kR P "_law_rows" 454 200, kR P "_law_by_deed" 466 207, kR P "_law_by_two" 475 214, kR P "_law_how" 486 221, kR P "_law_closed" 492 226, kR P "_law_right" 504 233, kR P "law" 516 240] 41) ::
 (nat_lit 52, kC "nothing_fails" 234 "nothing_fails" 235 236 10 1 0 0 3 47 true 181 48 49 50 51 241 10 242) ::
 (nat_lit 53, kF "nothing_fails" "nothing_fails" vP (.str "stretchdeeds.algebras" 232) (.ref 52)) ::
 (nat_lit 59, kC "parting_fails" 244 "parting_fails" 245 246 17 1 0 0 3 54 true 181 55 56 57 58 253 17 254) ::
 (nat_lit 60, kF "parting_fails" "parting_fails" vQ (.str "stretchdeeds.algebras" 232) (.ref 59)) ::
 (nat_lit 66, kC "doing_fails" 256 "doing_fails" 257 258 26 3 0 0 3 61 true 181 62 63 64 65 269 26 270) ::
 (nat_lit 67, kF "doing_fails" "doing_fails" Zw (.str "stretchdeeds.algebras" 232) (.ref 66)) ::
 (nat_lit 73, kC "deeds_fail" 272 "deeds_fail" 273 274 37 1 0 0 3 68 true 181 69 70 71 72 280 37 281) ::
 (nat_lit 74, kF "deeds_fail" "deeds_fail" Yj (.str "stretchdeeds.algebras" 232) (.ref 73)) ::
 (nat_lit 80, kC "what_fails" 283 "what_fails" 284 285 46 1 0 0 3 75 true 181 76 77 78 79 288 46 289) ::
 (nat_lit 81, kF "what_fails" "what_fails" Yi (.str "stretchdeeds.algebras" 232) (.ref 80)) ::
 (nat_lit 87, kC "check_let_by" 291 "check_let_by" 292 293 53 1 0 0 3 82 true 181 83 84 85 86 296 53 297) ::
 (nat_lit 88, kF "check_let_by" "check_let_by" Zh (.str "stretchdeeds.algebras" 232) (.ref 87)) ::
 (nat_lit 94, kC "two_of" 301 "two_of" 302 303 58 4 0 0 3 89 true 181 90 91 92 93 310 58 311) ::
 (nat_lit 95, kF "two_of" "two_of" zbm (.str "stretchdeeds.coming" 299) (.ref 94)) ::
 (nat_lit 99, ⟨.type "code", none, .fields #[(.str "following" 313), (.str "following" 314), (.str "/claim/cut.py" 315), (.int (62) 0), (.int (3) 0), (.int (0) 0), (.int (0) 0), (.int (3) 0), (.ref 96), (.bool true), (.int (181) 0), (.ref 97), .none, .none, .none, (.ref 98), (.int (316) 0), (.int (62) 0), (.str "/claim/cut.py" 317)], #[]⟩) ::
 (nat_lit 100, kF "following" "following" ZR (.str "stretchdeeds.coming" 299) (.ref 99)) ::
 (nat_lit 106, kC "take_new" 319 "take_new" 320 321 69 3 0 0 3 101 true 181 102 103 104 105 327 69 328) ::
 (nat_lit 107, kF "take_new" "take_new" Wc (.str "stretchdeeds.coming" 299) (.ref 106)) ::
 (nat_lit 111, ⟨.type "code", none, .fields #[(.str "coming" 330), (.str "coming" 331), (.str "/claim/cut.py" 332), (.int (75) 0), (.int (2) 0), (.int (0) 0), (.int (0) 0), (.int (3) 0), (.ref 108), (.bool true), (.int (181) 0), (.ref 109), .none, .none, .none, (.ref 110), (.int (333) 0), (.int (75) 0), (.str "/claim/cut.py" 334)], #[]⟩) ::
 (nat_lit 112, kF "coming" "coming" Ve (.str "stretchdeeds.coming" 299) (.ref 111)) ::
 (nat_lit 118, kC "_law_cell_at" 338 "_law_cell_at" 339 340 87 2 0 0 3 113 true 181 114 115 116 117 343 87 344) ::
 (nat_lit 119, kF "_law_cell_at" "_law_cell_at" Zx (.str "law_stretchdeeds_k60_lists_of_what_comes" 336) (.ref 118)) ::
 (nat_lit 125, kC "_law_mixed" 346 "_law_mixed" 347 348 91 2 0 0 3 120 true 181 121 122 123 124 352 91 353) ::
 (nat_lit 126, kF "_law_mixed" "_law_mixed" YD (.str "law_stretchdeeds_k60_lists_of_what_comes" 336) (.ref 125)) ::
 (nat_lit 132, kC "_law_whole" 355 "_law_whole" 356 357 94 1 0 0 3 127 true 181 128 129 130 131 359 94 360) ::
 (nat_lit 133, kF "_law_whole" "_law_whole" YK (.str "law_stretchdeeds_k60_lists_of_what_comes" 336) (.ref 132)) ::
 (nat_lit 137, ⟨.type "code", none, .fields #[(.str "_law_words" 362), (.str "_law_words" 363), (.str "/claim/cut.py" 364), (.int (96) 0), (.int (2) 0), (.int (0) 0), (.int (0) 0), (.int (3) 0), (.ref 134), (.bool true), (.int (181) 0), (.ref 135), .none, .none, .none, (.ref 136), (.int (365) 0), (.int (96) 0), (.str "/claim/cut.py" 366)], #[]⟩) ::
 (nat_lit 138, kF "_law_words" "_law_words" ZL (.str "law_stretchdeeds_k60_lists_of_what_comes" 336) (.ref 137)) ::
 (nat_lit 144, kC "_law_common" 368 "_law_common" 369 370 105 2 0 0 3 139 true 181 140 141 142 143 373 105 374) ::
 (nat_lit 145, kF "_law_common" "_law_common" Yc (.str "law_stretchdeeds_k60_lists_of_what_comes" 336) (.ref 144)) ::
 (nat_lit 151, kC "_law_joined_by" 376 "_law_joined_by" 377 378 109 4 0 0 3 146 true 181 147 148 149 150 384 109 385) ::
 (nat_lit 152, kF "_law_joined_by" "_law_joined_by" vO (.str "law_stretchdeeds_k60_lists_of_what_comes" 336) (.ref 151)) ::
 (nat_lit 156, ⟨.type "code", none, .fields #[(.str "_law_images" 387), (.str "_law_images" 388), (.str "/claim/cut.py" 389), (.int (118) 0), (.int (3) 0), (.int (0) 0), (.int (0) 0), (.int (3) 0), (.ref 153), (.bool true), (.int (181) 0), (.ref 154), .none, .none, .none, (.ref 155), (.int (390) 0), (.int (118) 0), (.str "/claim/cut.py" 391)], #[]⟩) ::
 (nat_lit 157, kF "_law_images" "_law_images" Zd (.str "law_stretchdeeds_k60_lists_of_what_comes" 336) (.ref 156)) ::
 (nat_lit 161, ⟨.type "code", none, .fields #[(.str "_law_done_by" 393), (.str "_law_done_by" 394), (.str "/claim/cut.py" 395), (.int (128) 0), (.int (4) 0), (.int (0) 0), (.int (0) 0), (.int (3) 0), (.ref 158), (.bool true), (.int (181) 0), (.ref 159), .none, .none, .none, (.ref 160), (.int (396) 0), (.int (128) 0), (.str "/claim/cut.py" 397)], #[]⟩) ::
 (nat_lit 162, kF "_law_done_by" "_law_done_by" wN (.str "law_stretchdeeds_k60_lists_of_what_comes" 336) (.ref 161)) ::
 (nat_lit 168, kC "_law_kinds" 399 "_law_kinds" 400 401 134 1 0 0 3 163 true 181 164 165 166 167 406 134 407) ::
 (nat_lit 169, kF "_law_kinds" "_law_kinds" YF (.str "law_stretchdeeds_k60_lists_of_what_comes" 336) (.ref 168)) ::
 (nat_lit 175, kC "_law_stream" 409 "_law_stream" 410 411 143 2 0 0 3 170 true 181 171 172 173 174 417 143 418) ::
 (nat_lit 176, kF "_law_stream" "_law_stream" Z8 (.str "law_stretchdeeds_k60_lists_of_what_comes" 336) (.ref 175)) ::
 (nat_lit 180, ⟨.type "code", none, .fields #[(.str "_law_algebra" 420), (.str "_law_algebra" 421), (.str "/claim/cut.py" 422), (.int (153) 0), (.int (3) 0), (.int (0) 0), (.int (0) 0), (.int (3) 0), (.ref 177), (.bool true), (.int (181) 0), (.ref 178), .none, .none, .none, (.ref 179), (.int (423) 0), (.int (153) 0), (.str "/claim/cut.py" 424)], #[]⟩) ::
 (nat_lit 181, kF "_law_algebra" "_law_algebra" wg (.str "law_stretchdeeds_k60_lists_of_what_comes" 336) (.ref 180)) ::
 (nat_lit 185, ⟨.type "code", none, .fields #[(.str "_law_copy" 426), (.str "_law_copy" 427), (.str "/claim/cut.py" 428), (.int (188) 0), (.int (1) 0), (.int (0) 0), (.int (0) 0), (.int (3) 0), (.ref 182), (.bool true), (.int (181) 0), (.ref 183), .none, .none, .none, (.ref 184), (.int (429) 0), (.int (188) 0), (.str "/claim/cut.py" 430)], #[]⟩) ::
 (nat_lit 186, kF "_law_copy" "_law_copy" vV (.str "law_stretchdeeds_k60_lists_of_what_comes" 336) (.ref 185)) ::
 (nat_lit 192, kC "_law_values" 432 "_law_values" 433 434 193 5 0 0 3 187 true 181 188 189 190 191 442 193 443) ::
 (nat_lit 193, kF "_law_values" "_law_values" Yd (.str "law_stretchdeeds_k60_lists_of_what_comes" 336) (.ref 192)) ::
 (nat_lit 199, kC "_law_rows" 445 "_law_rows" 446 447 198 2 0 0 3 194 true 181 195 196 197 198 452 198 453) ::
 (nat_lit 200, kF "_law_rows" "_law_rows" Wo (.str "law_stretchdeeds_k60_lists_of_what_comes" 336) (.ref 199)) ::
 (nat_lit 206, kC "_law_by_deed" 455 "_law_by_deed" 456 457 203 3 0 0 3 201 true 181 202 203 204 205 464 203 465) ::
 (nat_lit 207, kF "_law_by_deed" "_law_by_deed" ZG (.str "law_stretchdeeds_k60_lists_of_what_comes" 336) (.ref 206)) ::
 (nat_lit 213, kC "_law_by_two" 467 "_law_by_two" 468 469 209 3 0 0 3 208 true 181 209 210 211 212 473 209 474) ::
 (nat_lit 214, kF "_law_by_two" "_law_by_two" Ye (.str "law_stretchdeeds_k60_lists_of_what_comes" 336) (.ref 213)) ::
 (nat_lit 220, kC "_law_how" 476 "_law_how" 477 478 211 4 0 0 3 215 true 181 216 217 218 219 484 211 485) ::
 (nat_lit 221, kF "_law_how" "_law_how" VF (.str "law_stretchdeeds_k60_lists_of_what_comes" 336) (.ref 220)) ::
 (nat_lit 225, ⟨.type "code", none, .fields #[(.str "_law_closed" 487), (.str "_law_closed" 488), (.str "/claim/cut.py" 489), (.int (226) 0), (.int (3) 0), (.int (0) 0), (.int (0) 0), (.int (3) 0), (.ref 222), (.bool true), (.int (181) 0), (.ref 223), .none, .none, .none, (.ref 224), (.int (490) 0), (.int (226) 0), (.str "/claim/cut.py" 491)], #[]⟩) ::
 (nat_lit 226, kF "_law_closed" "_law_closed" xR (.str "law_stretchdeeds_k60_lists_of_what_comes" 336) (.ref 225)) ::
 (nat_lit 232, kC "_law_right" 493 "_law_right" 494 495 232 3 0 0 3 227 true 181 228 229 230 231 502 232 503) ::
 (nat_lit 233, kF "_law_right" "_law_right" YJ (.str "law_stretchdeeds_k60_lists_of_what_comes" 336) (.ref 232)) ::
 (nat_lit 239, kC "law" 505 "law" 506 507 244 1 0 0 3 234 true 181 235 236 237 238 514 244 515) ::
 (nat_lit 240, kF "law" "law" zjb (.str "law_stretchdeeds_k60_lists_of_what_comes" 336) (.ref 239)) ::
 []
def kA : List Addr := [3, 52, 53, 59, 60, 66, 67, 73, 74, 80, 81, 87, 88, 94, 95, 99, 100, 106, 107, 111, 112, 118, 119, 125, 126, 132, 133, 137, 138, 144, 145, 151, 152, 156, 157, 161, 162, 168, 169, 175, 176, 180, 181, 185, 186, 192, 193, 199, 200, 206, 207, 213, 214, 220, 221, 225, 226, 232, 233, 239, 240]
def qv : Program := { PySem.Challenge.pw_stretchdeeds_k60_lists_of_what_comes with main := { PySem.Challenge.pw_stretchdeeds_k60_lists_of_what_comes.main with body := [1, 2, 4, 5, 6, 7, 8, 9, 11, 12, 13, 14, 16, 17, 18, 19, 20, 21, 22, 23, 24, 25, 26, 27, 28, 29, 30, 31, 32, 33, 34, 35].map top } }
theorem kAe (P : Params) : kA = (K P).map (·.1) := by kernel_rfl
set_option maxRecDepth 100000
theorem ws : PySem.Challenge.rw_stretchdeeds_k60_lists_of_what_comes.wellSaid = true := by kernel_rfl
abbrev Xt (s : Shared) : Bool := xlAt qv [] s && recOk (RowW.records (OpenRow.toRowW PySem.Challenge.rw_stretchdeeds_k60_lists_of_what_comes.row)) s
abbrev hk : Hook := kHook K kA kAe
theorem hl : LeftO PySem.Challenge.pw_stretchdeeds_k60_lists_of_what_comes qv [] Xt hk.obs hk.val 4000 := λ w => by kernel_rfl
end G60
open PySem PySem.W PyProof.Rows
set_option maxRecDepth 100000 in
set_option maxHeartbeats 0 in
theorem PySem.Challenge.cw_stretchdeeds_k60_lists_of_what_comes_holds : PySem.Challenge.rw_stretchdeeds_k60_lists_of_what_comes.Holds := by
 w_on; refine holds_law G60.ws λ said => ?_
 refine holds_open (q := G60.qv) (loose := []) (Xt := G60.Xt) (XP := XL G60.qv []) (Yf := Hook.obs (kHook G60.K G60.kA G60.kAe)) (Ya := Hook.val (kHook G60.K G60.kA G60.kAe)) (YP := Hook.says (kHook G60.K G60.kA G60.kAe)) (N := 4000) G60.hl (Hook.of (kHook G60.K G60.kA G60.kAe)) (Hook.keeps (kHook G60.K G60.kA G60.kAe)) (λ s e => xl_of s (Bool.and_eq_true_iff.mp e).1) XL.keeps (by rfl) (by rfl) (by rfl) (λ s e => recFacts_of (Bool.and_eq_true_iff.mp e).2) (by rfl) (by first | assumption | decide +kernel) (by decide +kernel) ⟨rfl, rfl, rfl, rfl, rfl, by decide +kernel⟩ ?hw ?hc
 (case hw => w_witness2)
 k_fill
 refine G60.walk (l := PySem.Challenge.rw_stretchdeeds_k60_lists_of_what_comes) rfl rfl (λ w h Y => PySem.W.kIn_of Y) G60.zkh ?F
 case F =>
  intro w mg fa h KX G hmg
  refine' G60.zpr KX G hmg ?_ ?_ ?_ ?_ ?_ ?_ ?_ ?_ ?_ ?_ ?_ ?_ ?_ ?_ ?_ ?_ ?_ ?_ ?_ ?_ ?_ ?_ ?_ ?_ ?_ ?_ ?_ ?_ ?_ ?_ ?_ ?_ ?_ ?_ ?_ ?_ ?_ ?_ ?_ ?_ ?_ ?_ ?_ ?_ ?_ ?_ ?_ ?_ ?_ ?_ ?_ ?_ ?_ ?_ ?_ ?_ ?_ ?_ ?_ ?_ ?_ ?_ ?_ ?_ ?_ ?_ ?_ ?_ ?_
  all_goals try first | k_is | (change _ = _; k_is) | exact ⟨_, ⟨_, _, _, _, _, _, _, _, _, rfl, by k_is, by k_is⟩, by k_is⟩ | rfl
#print axioms PySem.Challenge.cw_stretchdeeds_k60_lists_of_what_comes_holds
