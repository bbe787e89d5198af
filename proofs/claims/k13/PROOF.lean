import PyProof.Rows.All
import Wide.All
import OpenK.AllK
import Wide.FinOn
import PyProof.EqAt
import PyProof.EqKinds
import PyProof.TupleCall
import PyProof.NeKinds
import PyProof.AutoSeq1
import KE.LcSums
import PyProof.Rows.StrWeight2
import PyProof.StrBlockG
import KE.KIntText
import PyProof.CallStr
import PyProof.WalksEnum
import PyProof.Rows.EnumRows
import PyProof.Rows.FactsT2
import KE.KRevIter
import PyProof.StrWalks
import PyProof.ReprRoads
import PyProof.StrLawsTight
import PyProof.Rows.StrItems
import PyProof.Rows.ReprOcc
import PyProof.Rows.StrJoinMade
import PyProof.ReprLen
import PyProof.ZipIter
import PyProof.Rows.SortWalk
import PyProof.ListRange
import PyProof.AttrMissHeap
import PyProof.Rows.SumAny
import Lean
import PySem.Challenge.RW_stretchdeeds_k13_what_fails
set_option Elab.async false
set_option linter.all false
set_option maxRecDepth 100000
abbrev zC := PySem.W.Frag
abbrev zD := @List.length_map
abbrev zzA := @List.mem_cons
abbrev zzB := @List.mem_cons_of_mem
abbrev zzC := @List.getElem?_eq_getElem
abbrev zzD := @List.mem_cons_self
abbrev zzE := @List.getElem?_eq_some_iff
abbrev zzF := @List.size_toArray
abbrev zzG := @List.getElem?_map
abbrev zzH := @List.length_append
abbrev zzI := @Nat.lt_of_lt_of_le
abbrev zzJ := @List.mem_append_right
abbrev zzK := @List.mem_append
abbrev zzL := @Nat.le_refl
abbrev zzM := @Nat.le_trans
abbrev zzN := @List.mem_append_left
abbrev zzO := @Nat.ne_of_lt
abbrev zzP := @List.mem_singleton
abbrev zzQ := @List.length_take
abbrev zzR := @List.length_cons
abbrev zzS := @List.length_set
abbrev zzT := @Int.natCast_mul
abbrev zzU := @List.nodup_cons
abbrev zzV := @Option.map_eq_some_iff
abbrev zzW := @List.getElem?_set_ne
section
namespace L2
open PySem PySem.Spec PyProof.Rows
abbrev Key := Sum Int Str
def zfg : Key -> Value -> Bool
 | .inl k, v => Value.isInt k v
 | .inr x, v => Value.isStrOf x v
def zqK (w : World) : Key -> Int
 | .inl k => hashInt k
 | .inr x => hashStr w x
theorem wH : ∀ {k : Key} {v : Value}, zfg k v = true -> (∃ i t, k = Sum.inl i /\ v = Value.int i t) \/ (∃ x t, k = Sum.inr x /\ v = Value.str x t)
 | .inl i, v, h => by
  obtain ⟨t, e⟩ := Value.isInt_shape (k := i) (v := v) h
  exact .inl ⟨i, t, rfl, e⟩
 | .inr x, v, h => by
  obtain ⟨t, e⟩ := Value.isStrOf_shape (x := x) (v := v) h
  exact .inr ⟨x, t, rfl, e⟩
theorem zjq (i : Int) (t : Tok) : zfg (.inl i) (.int i t) = true := by simp [zfg, Value.isInt]
theorem zjt (x : Str) (t : Tok) : zfg (.inr x) (.str x t) = true := by simp [zfg, Value.isStrOf]
theorem zoQ (a b : Int) : decide ((Sum.inl a : Key) = Sum.inl b) = (a == b) := by
 by_cases e : a = b
 · subst e; simp
 · have h : ¬ (Sum.inl a : Key) = Sum.inl b := λ q => e (Sum.inl.inj q)
   rw [decide_eq_false h]
   exact (beq_eq_false_iff_ne.mpr e).symm
theorem zoX (a b : Str) : decide ((Sum.inr a : Key) = Sum.inr b) = decide (a = b) := by
 by_cases e : a = b
 · subst e; simp
 · have h : ¬ (Sum.inr a : Key) = Sum.inr b := λ q => e (Sum.inr.inj q)
   rw [decide_eq_false h, decide_eq_false e]
theorem zol (a : Int) (b : Str) : decide ((Sum.inl a : Key) = Sum.inr b) = false := decide_eq_false (λ q => nomatch q)
theorem zoS (a : Str) (b : Int) : decide ((Sum.inr a : Key) = Sum.inl b) = false := decide_eq_false (λ q => nomatch q)
def Zg (prog : Program) (w : World) : PySem.KeyKind prog w Key where
 is := zfg
 hash := zqK w
 inj := λ v a b ha hb => by
  rcases wH ha with ⟨i, t, rfl, rfl⟩ | ⟨x, t, rfl, rfl⟩
  · rcases wH hb with ⟨j, u, rfl, e⟩ | ⟨y, u, rfl, e⟩
    · injection e with e1 _; rw [e1]
    · exact nomatch e
  · rcases wH hb with ⟨j, u, rfl, e⟩ | ⟨y, u, rfl, e⟩
    · exact nomatch e
    · injection e with e1 _; rw [e1]
 byValue := λ k v h => by
  rcases wH h with ⟨i, t, rfl, rfl⟩ | ⟨x, t, rfl, rfl⟩ <;> rfl
 pyHash := λ hv h => by
  rcases wH hv with ⟨i, t, rfl, rfl⟩ | ⟨x, t, rfl, rfl⟩
  · exact wpAny_pyHash_int h
  · exact wpAny_pyHash_str h
 eqBool := λ hu hv h => by
  rcases wH hu with ⟨i, t, rfl, rfl⟩ | ⟨x, t, rfl, rfl⟩
  · rcases wH hv with ⟨j, u, rfl, rfl⟩ | ⟨y, u, rfl, rfl⟩
    · rw [zoQ] at h; exact wpAny_eqBool_int h
    · rw [zol] at h; exact SeqAt.EqAt.int_str i t y u _ _ _ _ h
  · rcases wH hv with ⟨j, u, rfl, rfl⟩ | ⟨y, u, rfl, rfl⟩
    · rw [zoS] at h; exact SeqAt.EqAt.str_int x t j u _ _ _ _ h
    · rw [zoX] at h; exact wpAny_eqBool_str h
 «strs» := λ k x t v h => by
  rcases wH h with ⟨i, u, rfl, e⟩ | ⟨y, u, rfl, e⟩
  · exact nomatch e
  · injection e with e1 _
    subst e1
    cases v <;> rfl
theorem zhb (prog : Program) (w : World) (i : Int) (t : Tok) : (Zg prog w).is (.inl i) (.int i t) = true := zjq i t
theorem Vn (prog : Program) (w : World) (x : Str) (t : Tok) : (Zg prog w).is (.inr x) (.str x t) = true := zjt x t
end L2
namespace L2
open PySem PySem.Spec PyProof.Rows
inductive V where
 | non | bl (b : Bool) | int (i : Int) | str (x : Str) | byt (b : Array UInt8) | flt (b : UInt64) | ref (a : Addr) | ty (n : String)
 deriving DecidableEq
def RelV : V -> Value -> Prop
 | .non, u => u = Value.none
 | .bl b, u => u = Value.bool b
 | .int i, u => ∃ t, u = Value.int i t
 | .str x, u => ∃ t, u = Value.str x t
 | .byt b, u => ∃ t, u = Value.bytes b t
 | .flt b, u => ∃ t, u = Value.float b t
 | .ref a, u => u = Value.ref a
 | .ty n, u => u = Value.type n
abbrev Vals : List V -> List Value -> Prop := Paired RelV
theorem Vals.length (r : Vals xs us) : xs.length = us.length := Paired.length r
theorem Vals.get : ∀ {xs : List V} {us : List Value} {i : Nat} {x : V}, Vals xs us -> xs[i]? = some x -> ∃ u, us[i]? = some u /\ RelV x u
 | _, _, _, _, .nil, e => by simp at e
 | _, _, 0, _, .cons r _, e => by simp at e; subst e; exact ⟨_, rfl, r⟩
 | _, _, i + 1, x, .cons _ t, e => by
  obtain ⟨u, h1, h2⟩ := Vals.get (i := i) (x := x) t (by simpa using e)
  exact ⟨u, by simpa using h1, h2⟩
theorem Vals.set (r : RelV x u) : ∀ {xs : List V} {us : List Value} (i : Nat), Vals xs us -> Vals (xs.set i x) (us.set i u)
 | _, _, _, .nil => .nil
 | _, _, 0, .cons _ t => .cons r t
 | _, _, i + 1, .cons q t => .cons q (Vals.set r i t)
theorem Vals.append : ∀ {xs ys : List V} {us ws : List Value}, Vals xs us -> Vals ys ws -> Vals (xs ++ ys) (us ++ ws)
 | _, _, _, _, .nil, s => s
 | _, _, _, _, .cons r t, s => .cons r (Vals.append t s)
theorem Vals.take : ∀ {xs : List V} {us : List Value} (n : Nat), Vals xs us -> Vals (xs.take n) (us.take n)
 | _, _, 0, _ => .nil
 | _, _, _ + 1, .nil => .nil
 | _, _, n + 1, .cons r t => .cons r (Vals.take n t)
theorem Vals.drop : ∀ {xs : List V} {us : List Value} (n : Nat), Vals xs us -> Vals (xs.drop n) (us.drop n)
 | _, _, 0, r => r
 | _, _, _ + 1, .nil => .nil
 | _, _, n + 1, .cons _ t => Vals.drop n t
def zhq : Option V -> Option Value -> Prop
 | some v, some u => RelV v u
 | none, none => True
 | _, _ => False
def KV {κ : Type} : List (κ × V) -> List (κ × Value) -> Prop := Paired λ (p : κ × V) (q : κ × Value) => p.1 = q.1 /\ RelV p.2 q.2
def kV : Key -> V
 | .inl i => .int i
 | .inr x => .str x
inductive HO where
 | lst (xs : List V)
 | tup (xs : List V)
 | dK (kvs : List (Key × V)) | dT (kvs : List (List Key × V))
 | set (S : Int -> Bool) (n : Nat)
 | ins (C dx : Addr) (fs : List (Str × V))
 | own (x : Addr)
 | xd (fs : List (Str × V))
 | met (f x : Addr)
 | rng (lo hi : Int)
 | frz (o : Obj) (u : HO)
 | tbl (ps : Array Value)
 | ext (φ : Heap -> Prop)
abbrev Hp := Addr -> Option HO
def upd (H : Hp) (a : Addr) (o : HO) : Hp := λ b => if b = a then some o else H b
theorem yW : upd H a o a = some o := by unfold upd; rw [if_pos rfl]
theorem yj (h : b ≠ a) : upd H a o b = H b := by unfold upd; rw [if_neg h]
theorem yV {H : Hp} {a b : Addr} {o : HO} (h : H a = some o) (h' : H b = none) : a ≠ b := by
 intro e; subst e; rw [h] at h'; cases h'
section
variable (P : Program) (w : World)
def Zf (H : Hp) (h : Heap) (a : Addr) : HO -> Prop
 | .lst xs => xs.length <= sizeLine /\ ∃ (its : List Value) (n : Nat), Vals xs its /\ h.get? a = some { cls := .type "list", data := .seq its.toArray n }
 | .tup xs => xs.length <= sizeLine /\ ∃ its : List Value, Vals xs its /\ IsTup h a its.toArray
 | .dK kvs => kvs.length <= sizeLine /\ (a == sysModules) = false /\ ∃ vs, KV kvs vs /\ h.DictOf (Zg P w) a vs
 | .dT kvs => kvs.length <= sizeLine /\ (a == sysModules) = false /\ ∃ xs : List (List Key × Addr × Value),
  Paired (λ (p : List Key × V) (q : List Key × Addr × Value) => p.1 = q.1 /\ H q.2.1 = some (.tup (p.1.map kV)) /\ RelV p.2 q.2.2) kvs xs /\
  ∃ o es ep, h.get? a = some o /\ o.ExactDict /\ o.data = .dict es ep /\ es.toList = xs.map (entryOfKey (tupleKind (Zg P w))) /\ (xs.map (·.1)).Nodup
 | .set S n => h.SetOf (intKind P w) a S n
 | .ins C dx fs => H dx = some (.own a) /\ fs.length <= 1000 /\ dx ≠ a /\ h.get? a = some (PySem.W.instObj C dx) /\
  ∃ mA, h.Ns1 dx mA /\ (∀ f, zhq (fs.lookup f) (mA f)) /\ PySem.Within mA (fs.map (·.1))
 | .own _ => ∃ o, h.get? a = some o
 | .xd fs => ∃ mA, h.Ns1 a mA /\ ∀ f, zhq (fs.lookup f) (mA f)
 | .rng lo hi => ∃ t u v, h.get? a = some { cls := .type "range", data := .fields #[.int lo t, .int hi u, .int 1 v] }
 | .frz o u => h.get? a = some o /\ Zf H h a u
 | .tbl ps => h.get? a = some { cls := .none, data := .fields ps }
 | .met f x => h.get? a = some (PySem.W.methodObj (.ref f) (.ref x))
 | .ext φ => φ h /\ (∃ o, h.get? a = some o) /\ ∀ h1 h2 : Heap, φ h1 -> (∀ o, h1.get? a = some o -> h2.get? a = some o) -> φ h2
def HOk (H : Hp) (h : Heap) : Prop := ∀ a o, H a = some o -> Zf P w H h a o
end
section
variable {P : Program} {w : World} {H H' : Hp} {h h' : Heap} {a : Addr} {o : HO}
theorem Zf.lt (x : Zf P w H h a o) : a < h.objs.size := by
 cases o with
 | lst xs => obtain ⟨_, _, _, _, e⟩ := x; exact Heap.lt_size e
 | tup xs => obtain ⟨_, _, _, p⟩ := x; exact p.lt
 | dK kvs => obtain ⟨_, _, _, _, o, _, _, e, _⟩ := x; exact Heap.lt_size e
 | dT kvs => obtain ⟨_, _, _, _, o, _, _, e, _⟩ := x; exact Heap.lt_size e
 | set S n => obtain ⟨o, _, _, _, e, _⟩ := x; exact Heap.lt_size e
 | ins C dx fs => obtain ⟨_, _, _, e, _⟩ := x; exact Heap.lt_size e
 | own y => obtain ⟨_, e⟩ := x; exact Heap.lt_size e
 | xd fs => obtain ⟨_, ⟨_, _, _, e, _⟩, _⟩ := x; exact Heap.lt_size e
 | rng lo hi => obtain ⟨_, _, _, e⟩ := x; exact Heap.lt_size e
 | frz ob u => obtain ⟨e, _⟩ := x; exact Heap.lt_size e
 | tbl ps => exact Heap.lt_size (show h.get? a = some _ from x)
 | met f y => exact Heap.lt_size (show h.get? a = some _ from x)
 | ext φ => obtain ⟨_, ⟨_, e⟩, _⟩ := x; exact Heap.lt_size e
theorem Paired.mapP : ∀ {l₁ : List α} {l₂ : List β}, Paired F l₁ l₂ -> (∀ a b, F a b -> G a b) -> Paired G l₁ l₂
 | _, _, .nil, _ => .nil
 | _, _, .cons r t, f => .cons (f _ _ r) (Paired.mapP t f)
theorem Zf.stay (x : Zf P w H h a o) (k : ∀ b u, (b = a \/ H b = some (.own a)) -> h.get? b = some u -> h'.get? b = some u)
 (ho : ∀ b, H b = some (.own a) -> H' b = some (.own a)) (ht : ∀ b xs, H b = some (.tup xs) -> H' b = some (.tup xs)) : Zf P w H' h' a o := by
 induction o with
 | lst xs => obtain ⟨z, its, n, r, e⟩ := x; exact ⟨z, its, n, r, k _ _ (.inl rfl) e⟩
 | tup xs => obtain ⟨z, its, r, ob, e, c⟩ := x; exact ⟨z, its, r, ob, k _ _ (.inl rfl) e, c⟩
 | dK kvs => obtain ⟨z, y, vs, r, ob, es, ep, e, c⟩ := x; exact ⟨z, y, vs, r, ob, es, ep, k _ _ (.inl rfl) e, c⟩
 | dT kvs =>
  obtain ⟨z, y, xs, r, ob, es, ep, e, c⟩ := x
  exact ⟨z, y, xs, Paired.mapP r λ p q z => ⟨z.1, ht _ _ z.2.1, z.2.2⟩, ob, es, ep, k _ _ (.inl rfl) e, c⟩
 | set S n => obtain ⟨ob, es, ep, t, e, c⟩ := x; exact ⟨ob, es, ep, t, k _ _ (.inl rfl) e, c⟩
 | ins C dx fs =>
  obtain ⟨d, z, ne, e, mA, ⟨od, es, ep, e2, c⟩, r⟩ := x
  exact ⟨ho _ d, z, ne, k _ _ (.inl rfl) e, mA, ⟨od, es, ep, k _ _ (.inr d) e2, c⟩, r⟩
 | own y => obtain ⟨ob, e⟩ := x; exact ⟨ob, k _ _ (.inl rfl) e⟩
 | xd fs => obtain ⟨mA, ⟨od, es, ep, e, c⟩, r⟩ := x; exact ⟨mA, ⟨od, es, ep, k _ _ (.inl rfl) e, c⟩, r⟩
 | rng lo hi => obtain ⟨t, u, v, e⟩ := x; exact ⟨t, u, v, k _ _ (.inl rfl) e⟩
 | frz ob u ih => obtain ⟨e, q⟩ := x; exact ⟨k _ _ (.inl rfl) e, ih q⟩
 | tbl ps =>
  have e : h.get? a = some { cls := .none, data := .fields ps } := x
  show h'.get? a = some { cls := .none, data := .fields ps }
  exact k a _ (.inl rfl) e
 | met f y =>
  have e : h.get? a = some (PySem.W.methodObj (.ref f) (.ref y)) := x
  show h'.get? a = some (PySem.W.methodObj (.ref f) (.ref y))
  exact k a _ (.inl rfl) e
 | ext φ => obtain ⟨p, ⟨o, e⟩, st⟩ := x; exact ⟨st _ _ p λ o q => k _ _ (.inl rfl) q, ⟨o, k _ _ (.inl rfl) e⟩, st⟩
theorem HOk.lt (x : HOk P w H h) (e : H a = some o) : a < h.objs.size := (x a o e).lt
theorem HOk.fresh (x : HOk P w H h) (e : h.objs.size <= a) : H a = none := by
 cases q : H a with
 | none => rfl
 | some u => exact absurd (zzI (x.lt q) e) (Nat.lt_irrefl _)
theorem HOk.kept (x : HOk P w H h) (k : ∀ b u, h.get? b = some u -> h'.get? b = some u) : HOk P w H h' := λ a o e =>
 (x a o e).stay (λ b u _ q => k b u q) (λ _ q => q) λ _ _ q => q
theorem HOk.laid (x : HOk P w H h) (k : ∀ b u, h.get? b = some u -> h'.get? b = some u) (hp : h.objs.size <= a) (new : Zf P w (upd H a o) h' a o) : HOk P w (upd H a o) h' := λ b u e => by
 have hn := x.fresh hp
 by_cases hb : b = a
 · subst hb; rw [yW] at e; cases e; exact new
 · rw [yj hb] at e
   exact (x b u e).stay (λ c v _ q => k c v q) (λ c q => by rw [yj (yV q hn)]; exact q) λ c xs q => by rw [yj (yV q hn)]; exact q
end
def Rd (H : Hp) (a : Addr) (u : HO) : Prop := H a = some u \/ ∃ o, H a = some (.frz o u)
theorem Rd.ok (r : Rd H a u) (x : HOk P w H h) : Zf P w H h a u := by
 rcases r with r | ⟨o, r⟩
 · exact x a u r
 · obtain ⟨_, q⟩ := x a _ r
   exact q
def Mut : Option HO -> Prop
 | some (.lst _) => True
 | some (.dK _) => True
 | some (.dT _) => True
 | some (.set _ _) => True
 | some (.ins _ _ _) => True
 | some (.ext _) => True
 | _ => False
section
variable {P : Program} {w : World} {H : Hp} {h h' : Heap} {x e : Addr} {o' : HO}
theorem HOk.write (ok : HOk P w H h) (mu : Mut (H x)) (he : e = x \/ H e = some (.own x)) (k : ∀ b u, b ≠ e -> h.get? b = some u -> h'.get? b = some u) (heo : ∃ u, h'.get? e = some u)
 (new : Zf P w (upd H x o') h' x o') : HOk P w (upd H x o') h' := λ b u q => by
 have nown : ∀ c y, H c = some (.own y) -> c ≠ x := λ c y r z => by subst z; rw [r] at mu; exact mu
 have ntup : ∀ c xs, H c = some (.tup xs) -> c ≠ x := λ c xs r z => by subst z; rw [r] at mu; exact mu
 by_cases hb : b = x
 · subst hb; rw [yW] at q; cases q; exact new
 · rw [yj hb] at q
   by_cases hbe : b = e
   · have q' : H b = some (.own x) := by
      rcases he with z | z
      · exact absurd (hbe.trans z) hb
      · rw [hbe]; exact z
     rw [q] at q'; cases q'
     obtain ⟨v, hv⟩ := heo
     exact ⟨v, by rw [hbe]; exact hv⟩
   · refine (ok b u q).stay (λ c v hc r => k c v ?_ r) (λ c r => by rw [yj (nown c b r)]; exact r) λ c xs r => by rw [yj (ntup c xs r)]; exact r
     rcases hc with rfl | hc
     · exact hbe
     · rintro rfl
       rcases he with z | z
       · exact nown c b hc z
       · rw [hc] at z; cases z; exact hb rfl
end
structure Un (fs ex : List Addr) (H H' : Hp) (h h' : Heap) : Prop where
 keep : ∀ b o, h.get? b = some o -> H b = none -> b ∉ fs -> b ∉ ex -> h'.get? b = some o
 slot : ∀ b o, h.get? b = some o -> H b = none -> b ∈ fs -> b ∉ ex -> ∃ sl, h'.get? b = some { o with slots := sl }
 free : ∀ b o, h.get? b = some o -> H b = none -> b ∉ ex -> H' b = none
 there : ∀ b o, h.get? b = some o -> b ∉ ex -> ∃ o', h'.get? b = some o'
 tups : ∀ b xs, H b = some (.tup xs) -> H' b = some (.tup xs)
 frzs : ∀ b o u, H b = some (.frz o u) -> H' b = some (.frz o u)
 tbls : ∀ b ps, H b = some (.tbl ps) -> ∃ more, H' b = some (.tbl (ps ++ more))
section
variable {fs fs' ex ex' : List Addr} {H H1 H2 : Hp} {h h1 h2 h' : Heap} {a x e : Addr} {o : HO}
theorem Un.any (u : Un fs ex H H1 h h1) (q : h.get? b = some ob) (n : H b = none) (hx : b ∉ ex) : ∃ sl, h1.get? b = some { ob with slots := sl } := by
 by_cases hb : b ∈ fs
 · exact u.slot b ob q n hb hx
 · exact ⟨ob.slots, u.keep b ob q n hb hx⟩
theorem Un.kept (k : ∀ b u, h.get? b = some u -> h'.get? b = some u) : Un fs ex H H h h' :=
 ⟨λ b ob q _ _ _ => k b ob q, λ b ob q _ _ _ => ⟨ob.slots, k b ob q⟩, λ _ _ _ n _ => n, λ b ob q _ => ⟨ob, k b ob q⟩, λ _ _ q => q, λ _ _ _ q => q, λ _ ps q => ⟨#[], by rw [q]; simp⟩⟩
theorem Un.refl : Un fs ex H H h h := Un.kept λ _ _ q => q
theorem Un.laid (k : ∀ b u, h.get? b = some u -> h'.get? b = some u) (hp : h.objs.size <= a) (hn : H a = none) : Un fs ex H (upd H a o) h h' where
 keep := λ b u q _ _ _ => k b u q
 slot := λ b u q _ _ _ => ⟨u.slots, k b u q⟩
 free := λ b u q n _ => by rw [yj (zzO (zzI (Heap.lt_size q) hp))]; exact n
 there := λ b u q _ => ⟨u, k b u q⟩
 tups := λ b xs q => by rw [yj (yV q hn)]; exact q
 frzs := λ b u xs q => by rw [yj (yV q hn)]; exact q
 tbls := λ b ps q => ⟨#[], by rw [yj (yV q hn), q]; simp⟩
theorem Un.write (mu : Mut (H x)) (he : e = x \/ H e = some (.own x)) (k : ∀ b u, b ≠ e -> h.get? b = some u -> h'.get? b = some u) (heo : ∃ u, h'.get? e = some u) : Un fs ex H (upd H x o) h h' := by
 have hx : ∀ b, H b = none -> b ≠ x := λ b n z => by subst z; rw [n] at mu; exact mu
 have hb : ∀ b, H b = none -> b ≠ e := λ b n z => by
  subst z
  rcases he with r | r
  · exact hx b n r
  · rw [n] at r; cases r
 have hm : ∀ b u, H b = some u -> ¬ Mut (some u) -> b ≠ x := λ b u q nm z => by subst z; rw [q] at mu; exact nm mu
 refine ⟨λ b u q n _ _ => k b u (hb b n) q, λ b u q n _ _ => ⟨u.slots, k b u (hb b n) q⟩, λ b u q n _ => by rw [yj (hx b n)]; exact n, λ b u q _ => ?_,
  λ b xs q => by rw [yj (hm b _ q λ z => z)]; exact q, λ b u xs q => by rw [yj (hm b _ q λ z => z)]; exact q, λ b ps q => ⟨#[], by rw [yj (hm b _ q λ z => z), q]; simp⟩⟩
 by_cases hbe : b = e
 · subst hbe; exact heo
 · exact ⟨u, k b u hbe q⟩
end
def trk (h : Heap) (H : Hp) : List Addr := (List.range h.objs.size).filter λ a => (H a).isSome
def zfN (h : Heap) (H : Hp) : Heap := PySem.W.hideAll h (trk h H)
theorem zjj (h : Heap) (H : Hp) : (zfN h H).objs.size = h.objs.size := PySem.W.hideAll_size _ _
theorem zlA (e : h.get? b = some o) (n : H b = none) : (zfN h H).get? b = some o :=
 PySem.W.hideAll_get _ e λ hm => by
  have q : (H b).isSome = true := (List.mem_filter.mp hm).2
  rw [n] at q; simp at q
theorem zmY (e : (zfN h H).get? b = some o) : h.get? b = some o /\ H b = none := by
 have e' : h.get? b = some o := PySem.W.of_hideAll (trk h H) e
 refine ⟨e', ?_⟩
 cases q : H b with
 | none => rfl
 | some x =>
  have hm : b ∈ trk h H := List.mem_filter.mpr ⟨List.mem_range.mpr (Heap.lt_size e'), by simp [q]⟩
  have z : (zfN h H).get? b = none := PySem.W.hideAll_none (trk h H) hm
  rw [z] at e; cases e
end L2
namespace L2
open PySem PySem.Spec PyProof.Rows
structure Mod (K : zC) (mg : Str -> Option Value) (base : Heap) : Prop where
 kin : K.In base
 glob : base.Ns mainGlobals mg
 blt : ∃ mb, base.Ns builtinsNs mb /\ ∀ x : Str, x ≠ "__name__" -> mb x = bootBuiltins x
 nolimit : base.NoLimit
structure Cx where
 prog : Program
 w : World
 K : zC
 mg : Str -> Option Value
 base : Heap
 A : Around
 N : List Str
 s₀ : Shared
 H₀ : Hp
 env : Env
 outer : List Env
 stack : List Env
 ex : List Addr
 fn : Str -> Bool
 calm : Bool
 pn : List (Addr × Obj)
 xe : Value -> Shared -> Prop
def frs (l : List Env) : List Addr := l.filterMap (·.frame)
abbrev Cx.fs (X : Cx) : List Addr := frs X.outer
def Vis (sc : Scope) (x : Str) : Prop := sc.names.lookup x = some .local \/ sc.names.lookup x = some .cell \/ sc.names.lookup x = some .free
def Loc (sc : Scope) (x : Str) : Prop := sc.names.lookup x = some .local \/ sc.names.lookup x = some .cell
def Look (env : Env) (h : Heap) (m : Str -> Option Value) (x : Str) (u : Value) : Prop :=
 (env.kindOf x = some .local /\ m x = some u) \/ ((env.kindOf x = some .cell \/ env.kindOf x = some .free) /\ ∃ c, env.cells.lookup x = some c /\ h.IsCell c (some u))
structure Cx.Ok (X : Cx) : Prop where
 mod : Mod X.K X.mg X.base
 kind : X.env.scope.kind = .function
 glob : X.env.globals = mainGlobals
 blt : X.env.builtins = builtinsNs
 above : X.s₀.heap.objs.size <= X.env.locals
 inj : ∀ x y c, X.env.cells.lookup x = some c -> X.env.cells.lookup y = some c -> x = y
 has : ∀ x, (X.env.kindOf x = some .cell \/ X.env.kindOf x = some .free) -> ∃ c, X.env.cells.lookup x = some c
 cab : ∀ x c, X.fn x = true -> X.env.cells.lookup x = some c -> X.s₀.heap.objs.size <= c
 hd : X.calm = true -> X.A.handled = none
 frames : X.A.frames = some X.stack
 stk : X.stack = X.outer \/ (X.stack = X.env :: X.outer /\ X.env.frame = some X.env.locals)
 exf : ∀ b ∈ X.ex, b ≠ X.env.locals /\ ∀ x c, X.env.cells.lookup x = some c -> c ≠ b
 bs : ∀ b o, X.base.get? b = some o -> X.s₀.heap.get? b = some o /\ X.H₀ b = none
 bsz : X.base.objs.size <= X.s₀.heap.objs.size
 noex : ∀ b o, X.base.get? b = some o -> b ∉ X.ex
 exfs : ∀ b ∈ X.ex, b ∉ X.fs
 funs : X.s₀.heap.FunFrames X.base X.outer
 frf : ∀ b ∈ X.fs, X.H₀ b = none
structure Inv (X : Cx) (pins : List (Addr × Obj)) (σ : List (Option V)) (H : Hp) (s : Shared) : Prop where
 ok : X.Ok
 os : s.os = X.s₀.os
 bare : AllBare s.gens
 base : Un X.fs X.ex X.H₀ H X.s₀.heap s.heap
 loc : ∃ m, s.heap.Ns X.env.locals m /\ ∀ (i : Nat) (x : Str) (v : V), X.N[i]? = some x -> σ[i]? = some (some v) -> Vis X.env.scope x -> ∃ u, RelV v u /\ Look X.env s.heap m x u
 cell : ∀ x c, X.env.cells.lookup x = some c -> ∃ v, s.heap.IsCell c v
 free : H X.env.locals = none
 freeC : ∀ x c, X.env.cells.lookup x = some c -> H c = none
 pin : ∀ p ∈ X.pn ++ pins, s.heap.get? p.1 = some p.2 /\ H p.1 = none /\ p.1 ≠ X.env.locals /\ p.1 ∉ X.fs /\ ∀ v, p.2.data ≠ .cell v
 hok : HOk X.prog X.w H s.heap
 len : σ.length = X.N.length
section
variable {X : Cx} {pins : List (Addr × Obj)} {σ : List (Option V)} {H H' : Hp} {s : Shared} {h' : Heap}
theorem Cx.Ok.nofr (ok : X.Ok) (e : X.base.get? b = some o) : b ∉ X.fs := λ hb => by
 have := (ok.funs.mem hb).1
 rw [e] at this; cases this
theorem Inv.bs (I : Inv X pins σ H s) : ∀ b o, X.base.get? b = some o -> s.heap.get? b = some o /\ H b = none := λ b o e =>
 ⟨I.base.keep b o (I.ok.bs b o e).1 (I.ok.bs b o e).2 (I.ok.nofr e) (I.ok.noex b o e), I.base.free b o (I.ok.bs b o e).1 (I.ok.bs b o e).2 (I.ok.noex b o e)⟩
theorem Inv.bk (I : Inv X pins σ H s) : ∀ b o, X.base.get? b = some o -> s.heap.get? b = some o := λ b o e => (I.bs b o e).1
theorem Inv.mod (I : Inv X pins σ H s) : Mod X.K X.mg X.base := I.ok.mod
theorem Inv.kIn (I : Inv X pins σ H s) : X.K.In s.heap := I.ok.mod.kin.keeps I.bk
theorem Inv.lt (I : Inv X pins σ H s) : X.env.locals < s.heap.objs.size := let ⟨_, hn, _⟩ := I.loc; hn.lt
theorem Inv.sz (I : Inv X pins σ H s) : X.s₀.heap.objs.size <= s.heap.objs.size := zzM I.ok.above (Nat.le_of_lt I.lt)
theorem Inv.nofs (I : Inv X pins σ H s) (h : s.heap.objs.size <= a) : a ∉ X.fs := λ hb => by
 obtain ⟨_, o, ho, _⟩ := I.ok.funs.mem hb
 exact absurd (zzI (Heap.lt_size ho) (zzM I.sz h)) (Nat.lt_irrefl _)
theorem Inv.cne (I : Inv X pins σ H s) : ∀ x c, X.env.cells.lookup x = some c -> c ≠ X.env.locals := λ x c e z => by
 obtain ⟨v, o, ho, hd⟩ := I.cell x c e
 obtain ⟨m, ⟨o', es, ep, ho', hd', _⟩, _⟩ := I.loc
 rw [z, ho'] at ho; cases ho; rw [hd'] at hd; cases hd
theorem Inv.funs (I : Inv X pins σ H s) : s.heap.FunFrames X.base X.outer := by
 have all : ∀ (l : List Env), (∀ b ∈ frs l, b ∈ X.fs) -> X.s₀.heap.FunFrames X.base l -> s.heap.FunFrames X.base l := by
  intro l
  induction l with
  | nil => intro _ _; trivial
  | cons env r ih =>
   intro hs hl
   obtain ⟨hk, ⟨L, o, hf, hn, ho, hd⟩, hr⟩ := hl
   have hL : L ∈ X.fs := hs L (by unfold frs; rw [List.filterMap_cons, hf]; exact zzD)
   obtain ⟨sl, e⟩ := I.base.slot L o ho (I.ok.frf L hL) hL λ z => I.ok.exfs L z hL
   exact ⟨hk, ⟨L, _, hf, hn, e, hd⟩, ih (λ b hb => hs b (by unfold frs; rw [List.filterMap_cons, hf]; exact zzB _ hb)) hr⟩
 exact all X.outer (λ _ hb => hb) I.ok.funs
theorem Inv.stack (I : Inv X pins σ H s) : s.heap.FunFrames X.base X.stack := by
 rcases I.ok.stk with e | ⟨e, hf⟩
 · rw [e]; exact I.funs
 · rw [e]
   obtain ⟨m, hn, _⟩ := I.loc
   refine .cons (by rw [I.ok.kind]; decide) hf hn ?_ I.funs
   exact Heap.get?_none_of_le (zzM I.ok.bsz I.ok.above)
theorem Inv.stkSub (I : Inv X pins σ H s) : ∀ b ∈ frs X.stack, b ∈ X.env.locals :: X.fs := λ b hb => by
 rcases I.ok.stk with e | ⟨e, hf⟩
 · rw [e] at hb; exact zzB _ hb
 · rw [e] at hb
   unfold frs at hb
   rw [List.filterMap_cons, hf] at hb
   exact hb
theorem Inv.stkFree (I : Inv X pins σ H s) : ∀ b ∈ frs X.stack, H b = none := λ b hb => by
 rcases zzA.mp (I.stkSub b hb) with e | hb
 · rw [e]; exact I.free
 · obtain ⟨_, o, ho, _⟩ := I.ok.funs.mem hb
   exact I.base.free b o ho (I.ok.frf b hb) λ z => I.ok.exfs b z hb
theorem Inv.step {g' : Array GenState} {t' : Nat} {d' : Drawn} {ch : List Addr} (I : Inv X pins σ H s)
 (hch : ∀ b ∈ ch, (b ∈ X.ex \/ X.s₀.heap.objs.size <= b) /\ b ≠ X.env.locals /\ (∀ x c, X.env.cells.lookup x = some c -> c ≠ b) /\ ∀ p ∈ X.pn ++ pins, p.1 ≠ b)
 (keep : ∀ b o, b ≠ X.env.locals -> b ∉ X.fs -> b ∉ ch -> s.heap.get? b = some o -> H b = none -> h'.get? b = some o)
 (slot : ∀ b o, b ≠ X.env.locals -> b ∈ X.fs -> b ∉ ch -> s.heap.get? b = some o -> H b = none -> ∃ sl, h'.get? b = some { o with slots := sl }) (free : ∀ b o, b ∉ ch -> s.heap.get? b = some o -> H b = none -> H' b = none)
 (there : ∀ b o, b ∉ ch -> s.heap.get? b = some o -> ∃ o', h'.get? b = some o')
 (tups : ∀ b xs, H b = some (.tup xs) -> H' b = some (.tup xs)) (frzs : ∀ b o u, H b = some (.frz o u) -> H' b = some (.frz o u)) (tbls : ∀ b ps, H b = some (.tbl ps) -> ∃ more, H' b = some (.tbl (ps ++ more)))
 (ns : ∀ m, s.heap.Ns X.env.locals m -> h'.Ns X.env.locals m) (hok : HOk X.prog X.w H' h') (hg : AllBare g') :
 Inv X pins σ H' { s with heap := h', gens := g', drawn := d', toks := t' } := by
 have neL : ∀ b o, X.s₀.heap.get? b = some o -> b ≠ X.env.locals := λ b o e => zzO (zzI (Heap.lt_size e) I.ok.above)
 have neC : ∀ b o, X.s₀.heap.get? b = some o -> b ∉ X.ex -> b ∉ ch := λ b o e hx hb => by
  rcases (hch b hb).1 with z | z
  · exact hx z
  · exact absurd (zzI (Heap.lt_size e) z) (Nat.lt_irrefl _)
 have cellK : ∀ x c, X.env.cells.lookup x = some c -> ∀ v, s.heap.IsCell c v -> h'.IsCell c v := λ x c e v ⟨o, ho, hd⟩ => by
  have nch : c ∉ ch := λ z => (hch c z).2.2.1 x c e rfl
  by_cases hc : c ∈ X.fs
  · obtain ⟨sl, q⟩ := slot c o (I.cne x c e) hc nch ho (I.freeC x c e)
    exact ⟨_, q, hd⟩
  · exact ⟨o, keep c o (I.cne x c e) hc nch ho (I.freeC x c e), hd⟩
 refine ⟨I.ok, I.os, hg, ⟨λ b o e n hb hx => ?_, λ b o e n hb hx => ?_, λ b o e n hx => ?_, λ b o e hx => ?_, λ b xs e => tups b xs (I.base.tups b xs e), λ b o xs e => frzs b o xs (I.base.frzs b o xs e), λ b ps e => ?_⟩, ?_, λ x c e => ?_, ?_, λ x c e => ?_, λ p hp => ?_, hok, I.len⟩
 · exact keep b o (neL b o e) hb (neC b o e hx) (I.base.keep b o e n hb hx) (I.base.free b o e n hx)
 · obtain ⟨sl, e1⟩ := I.base.slot b o e n hb hx
   obtain ⟨sl', e2⟩ := slot b _ (neL b o e) hb (neC b o e hx) e1 (I.base.free b o e n hx)
   exact ⟨sl', e2⟩
 · obtain ⟨o', e1⟩ := I.base.there b o e hx
   exact free b o' (neC b o e hx) e1 (I.base.free b o e n hx)
 · obtain ⟨o', e1⟩ := I.base.there b o e hx
   exact there b o' (neC b o e hx) e1
 · obtain ⟨m1, e1⟩ := I.base.tbls b ps e
   obtain ⟨m2, e2⟩ := tbls b _ e1
   exact ⟨m1 ++ m2, by rw [e2, Array.append_assoc]⟩
 · obtain ⟨m, hn, hl⟩ := I.loc
   refine ⟨m, ns m hn, λ i x v e1 e2 e3 => ?_⟩
   obtain ⟨u, r, l⟩ := hl i x v e1 e2 e3
   refine ⟨u, r, ?_⟩
   rcases l with l | ⟨k, c, e, z⟩
   · exact .inl l
   · exact .inr ⟨k, c, e, cellK x c e _ z⟩
 · obtain ⟨v, z⟩ := I.cell x c e
   exact ⟨v, cellK x c e v z⟩
 · obtain ⟨m, ⟨o, _, _, ho, _⟩, _⟩ := I.loc
   exact free _ o (λ z => (hch _ z).2.1 rfl) ho I.free
 · obtain ⟨v, o, ho, hd⟩ := I.cell x c e
   exact free c o (λ z => (hch c z).2.2.1 x c e rfl) ho (I.freeC x c e)
 · obtain ⟨e, n, ne, nf, d⟩ := I.pin p hp
   have nch : p.1 ∉ ch := λ z => (hch p.1 z).2.2.2 p hp rfl
   exact ⟨keep p.1 p.2 ne nf nch e n, free p.1 p.2 nch e n, ne, nf, d⟩
theorem Inv.un {t' : Nat} (I : Inv X pins σ H s) (u : Un X.fs [] H H' s.heap h') (hok : HOk X.prog X.w H' h') : Inv X pins σ H' { s with heap := h', toks := t' } := by
 obtain ⟨m, ⟨o, es, ep, ho, r⟩, _⟩ := id I.loc
 obtain ⟨sl, hL⟩ := u.any ho I.free (by simp)
 exact I.step (g' := s.gens) (d' := s.drawn) (ch := []) (λ _ z => nomatch z) (λ b o _ hb _ e n => u.keep b o e n hb (by simp)) (λ b o _ hb _ e n => u.slot b o e n hb (by simp)) (λ b o _ e n => u.free b o e n (by simp)) (λ b o _ e => u.there b o e (by simp)) u.tups u.frzs u.tbls (λ m' hm => by
  obtain ⟨o', es', ep', ho', r'⟩ := hm
  rw [ho] at ho'; cases ho'
  exact ⟨_, es', ep', hL, r'⟩) hok I.bare
theorem Inv.call {g' : Array GenState} {t' : Nat} {d' : Drawn} {ch : List Addr} (I : Inv X pins σ H s) (u : Un (frs X.stack) ch H H' s.heap h') (hok : HOk X.prog X.w H' h') (hg : AllBare g')
 (hch : ∀ b ∈ ch, (b ∈ X.ex \/ X.s₀.heap.objs.size <= b) /\ b ≠ X.env.locals /\ (∀ x c, X.env.cells.lookup x = some c -> c ≠ b) /\ ∀ p ∈ X.pn ++ pins, p.1 ≠ b) :
 Inv X pins σ H' { s with heap := h', gens := g', drawn := d', toks := t' } := by
 obtain ⟨m, ⟨o, es, ep, ho, r⟩, _⟩ := id I.loc
 obtain ⟨sl, hL⟩ := u.any ho I.free λ z => (hch _ z).2.1 rfl
 exact I.step (ch := ch) hch (λ b o hL hb hc e n => u.keep b o e n (λ z => (zzA.mp (I.stkSub b z)).elim hL hb) hc) (λ b o _ _ hc e n => u.any e n hc) (λ b o hc e n => u.free b o e n hc) (λ b o hc e => u.there b o e hc) u.tups u.frzs u.tbls (λ m' hm => by
  obtain ⟨o', es', ep', ho', r'⟩ := hm
  rw [ho] at ho'; cases ho'
  exact ⟨_, es', ep', hL, r'⟩) hok hg
theorem Inv.turned {t' : Nat} {it : Addr} (I : Inv X pins σ H s) (k : ∀ b o, b ≠ it -> s.heap.get? b = some o -> h'.get? b = some o) (hn : H it = none) (hL : it ≠ X.env.locals)
 (h1 : it ∈ X.ex \/ X.s₀.heap.objs.size <= it) (h2 : ∀ x c, X.env.cells.lookup x = some c -> c ≠ it) (h3 : ∀ p ∈ X.pn ++ pins, p.1 ≠ it) : Inv X pins σ H { s with heap := h', toks := t' } := by
 have nit : ∀ b u, H b = some u -> b ≠ it := λ b u e z => by rw [z, hn] at e; cases e
 refine I.step (g' := s.gens) (d' := s.drawn) (ch := [it]) (λ b hb => ?_) (λ b o _ _ hc e _ => k b o (λ z => hc (by simp [z])) e) (λ b o _ _ hc e _ => ⟨o.slots, k b o (λ z => hc (by simp [z])) e⟩) (λ _ _ _ _ n => n)
  (λ b o hc e => ⟨o, k b o (λ z => hc (by simp [z])) e⟩) (λ _ _ e => e) (λ _ _ _ e => e) (λ b ps e => ⟨#[], by rw [e]; simp⟩) (λ m hm => ?_) (λ b u e => ?_) I.bare
 · have e : b = it := by simpa using hb
   subst e
   exact ⟨h1, hL, h2, h3⟩
 · obtain ⟨o, es, ep, ho, r⟩ := hm
   exact ⟨o, es, ep, k _ o (Ne.symm hL) ho, r⟩
 · refine (I.hok b u e).stay (λ c v hc q => k c v ?_ q) (λ _ q => q) λ _ _ q => q
   rcases hc with z | z
   · rw [z]; exact nit b u e
   · exact nit c _ z
theorem Inv.tok (I : Inv X pins σ H s) (t : Nat) : Inv X pins σ H { s with toks := t } := I.un (h' := s.heap) (t' := t) Un.refl I.hok
theorem Inv.kept (I : Inv X pins σ H s) (k : ∀ b u, s.heap.get? b = some u -> h'.get? b = some u) : Inv X pins σ H { s with heap := h', toks := t' } := I.un (Un.kept k) (I.hok.kept k)
theorem Inv.laid (I : Inv X pins σ H s) (k : ∀ b u, s.heap.get? b = some u -> h'.get? b = some u) (hp : s.heap.objs.size <= a) (new : Zf X.prog X.w (upd H a o) h' a o) :
 Inv X pins σ (upd H a o) { s with heap := h', toks := t' } := I.un (Un.laid k hp (I.hok.fresh hp)) (I.hok.laid k hp new)
theorem Inv.write (I : Inv X pins σ H s) (mu : Mut (H x)) (he : e = x \/ H e = some (.own x)) (k : ∀ b u, b ≠ e -> s.heap.get? b = some u -> h'.get? b = some u) (heo : ∃ u, h'.get? e = some u)
 (new : Zf X.prog X.w (upd H x o) h' x o) : Inv X pins σ (upd H x o) { s with heap := h', toks := t' } := I.un (Un.write mu he k heo) (I.hok.write mu he k heo new)
theorem Inv.weak (I : Inv X pins σ H s) (hl : σ'.length = σ.length) (w : ∀ (i : Nat) v, σ'[i]? = some (some v) -> σ[i]? = some (some v)) : Inv X pins σ' H s :=
 ⟨I.ok, I.os, I.bare, I.base, let ⟨m, hn, hl'⟩ := I.loc; ⟨m, hn, λ i x v e1 e2 e3 => hl' i x v e1 (w i v e2) e3⟩, I.cell, I.free, I.freeC, I.pin, I.hok, hl.trans I.len⟩
theorem Inv.pins_of (I : Inv X pins σ H s) (h : ∀ p ∈ pins', s.heap.get? p.1 = some p.2 /\ H p.1 = none /\ p.1 ≠ X.env.locals /\ p.1 ∉ X.fs /\ ∀ v, p.2.data ≠ .cell v) : Inv X pins' σ H s :=
 ⟨I.ok, I.os, I.bare, I.base, I.loc, I.cell, I.free, I.freeC, λ p hp => (zzK.mp hp).elim (λ z => I.pin p (zzN _ z)) (h p), I.hok, I.len⟩
theorem zgH {N : List Str} (hN : N.Nodup) {i j : Nat} {x : Str} (a : N[i]? = some x) (b : N[j]? = some x) : i = j := by
 obtain ⟨h1, e1⟩ := zzE.mp a
 obtain ⟨h2, e2⟩ := zzE.mp b
 exact (List.getElem_inj hN).mp (e1.trans e2.symm)
theorem zfh {M : Model} {A : Around} {E : Value -> Shared -> Prop} {i : Nat} {x : Str} {v : V} {u : Value} {Q : Unit -> Shared -> Prop} (I : Inv X pins σ H s) (hN : X.N.Nodup) (hi : X.N[i]? = some x) (hx : Loc X.env.scope x) (r : RelV v u)
 (h : ∀ s', Inv X pins (σ.set i (some v)) H s' -> (∃ a, Heap.SameBut a s.heap s'.heap /\ (a = X.env.locals \/ X.env.cells.lookup x = some a)) -> Q () s') (hf : X.fn x = true \/ X.env.scope.names.lookup x = some .local := by first | exact .inl rfl | exact .inr rfl | assumption) : wpAny M A (storeName X.env x u) Q E s := by
 obtain ⟨m, hn, hl⟩ := id I.loc
 have hcls : (X.env.scope.kind == .class || (X.env.scope.kind == .module && X.env.locals != X.env.globals)) = false := by rw [I.ok.kind]; rfl
 have hiσ : i < σ.length := by rw [I.len]; exact (zzE.mp hi).1
 have cne := I.cne
 have tracked : ∀ {a : Addr} {h' : Heap}, (∃ o, s.heap.get? a = some o /\ H a = none) -> Heap.SameBut a s.heap h' -> HOk X.prog X.w H h' := λ {a h'} ha hs b ob e => by
  obtain ⟨_, _, hfree⟩ := ha
  refine (I.hok b ob e).stay (λ c w' hc q => (hs.2 c ?_).trans q) (λ _ q => q) λ _ _ q => q
  rintro rfl
  rcases hc with rfl | hc
  · rw [hfree] at e; cases e
  · rw [hfree] at hc; cases hc
 rcases hx with hk | hk
 · refine wpAny_storeName_local hk hn (λ h' hn' hs => ?_) hcls
   obtain ⟨oL, _, _, hoL, _⟩ := id hn
   refine h _ ⟨I.ok, I.os, I.bare, ⟨λ b o e n hb hx => ?_, λ b o e n hb hx => ?_, I.base.free, λ b o e hx => ?_, I.base.tups, I.base.frzs, I.base.tbls⟩, ⟨_, hn', λ j y v' e1 e2 e3 => ?_⟩, λ y c e => ?_, I.free, I.freeC, λ p hp => ?_, tracked ⟨oL, hoL, I.free⟩ hs, by simpa using I.len⟩ ⟨_, hs, .inl rfl⟩
   · exact (hs.2 b (zzO (zzI (Heap.lt_size e) I.ok.above))).trans (I.base.keep b o e n hb hx)
   · obtain ⟨sl, e1⟩ := I.base.slot b o e n hb hx
     exact ⟨sl, (hs.2 b (zzO (zzI (Heap.lt_size e) I.ok.above))).trans e1⟩
   · obtain ⟨o', e1⟩ := I.base.there b o e hx
     exact ⟨o', (hs.2 b (zzO (zzI (Heap.lt_size e) I.ok.above))).trans e1⟩
   · by_cases hj : j = i
     · subst hj
       rw [hi] at e1; cases e1
       rw [List.getElem?_set_self hiσ] at e2
       cases e2
       exact ⟨u, r, .inl ⟨hk, by simp⟩⟩
     · rw [zzW (Ne.symm hj)] at e2
       obtain ⟨u', r', q⟩ := hl j y v' e1 e2 e3
       refine ⟨u', r', ?_⟩
       rcases q with ⟨k, e⟩ | ⟨k, c, e, z⟩
       · refine .inl ⟨k, ?_⟩
         have : y ≠ x := λ e => hj (zgH hN e1 (e ▸ hi))
         simp [this, e]
       · exact .inr ⟨k, c, e, z.sameBut hs (cne y c e)⟩
   · obtain ⟨w', z⟩ := I.cell y c e
     exact ⟨w', z.sameBut hs (cne y c e)⟩
   · obtain ⟨e, n, ne, nf, d⟩ := I.pin p hp
     exact ⟨(hs.2 p.1 ne).trans e, n, ne, nf, d⟩
 · have hfn : X.fn x = true := by
    rcases hf with z | z
    · exact z
    · rw [z] at hk; cases hk
   obtain ⟨c, hc⟩ := I.ok.has x (.inl hk)
   obtain ⟨w', z⟩ := I.cell x c hc
   refine wpAny_storeName_cell I.ok.kind hk hc z (λ h' hc' hs => ?_)
   obtain ⟨oc, hoc, hocd⟩ := id z
   refine h { s with heap := h' } ⟨I.ok, I.os, I.bare, ⟨λ b o e n hb hx => ?_, λ b o e n hb hx => ?_, I.base.free, λ b o e hx => ?_, I.base.tups, I.base.frzs, I.base.tbls⟩, ⟨m, hn.sameBut hs (Ne.symm (cne x c hc)), λ j y v' e1 e2 e3 => ?_⟩, λ y c' e => ?_, I.free, I.freeC, λ p hp => ?_, tracked ⟨oc, hoc, I.freeC x c hc⟩ hs, by simpa using I.len⟩ ⟨c, hs, .inr hc⟩
   · exact (hs.2 b (zzO (zzI (Heap.lt_size e) (I.ok.cab x c hfn hc)))).trans (I.base.keep b o e n hb hx)
   · obtain ⟨sl, e1⟩ := I.base.slot b o e n hb hx
     exact ⟨sl, (hs.2 b (zzO (zzI (Heap.lt_size e) (I.ok.cab x c hfn hc)))).trans e1⟩
   · obtain ⟨o', e1⟩ := I.base.there b o e hx
     exact ⟨o', (hs.2 b (zzO (zzI (Heap.lt_size e) (I.ok.cab x c hfn hc)))).trans e1⟩
   · by_cases hj : j = i
     · subst hj
       rw [hi] at e1; cases e1
       rw [List.getElem?_set_self hiσ] at e2
       cases e2
       exact ⟨u, r, .inr ⟨.inl hk, c, hc, hc'⟩⟩
     · rw [zzW (Ne.symm hj)] at e2
       obtain ⟨u', r', q⟩ := hl j y v' e1 e2 e3
       refine ⟨u', r', ?_⟩
       rcases q with q | ⟨k, c', e, z'⟩
       · exact .inl q
       · refine .inr ⟨k, c', e, z'.sameBut hs ?_⟩
         rintro rfl
         exact hj (zgH hN e1 (I.ok.inj _ _ _ e hc ▸ hi))
   · by_cases hcc : c' = c
     · subst hcc; exact ⟨_, hc'⟩
     · obtain ⟨w2, z2⟩ := I.cell y c' e
       exact ⟨w2, z2.sameBut hs hcc⟩
   · obtain ⟨e, n, ne, nf, d⟩ := I.pin p hp
     refine ⟨(hs.2 p.1 ?_).trans e, n, ne, nf, d⟩
     intro q
     rw [q, hoc] at e
     have q' : oc = p.2 := Option.some.inj e
     exact d w' (by rw [<- q']; exact hocd)
theorem zbx (I : Inv X pins σ H s) (hN : X.N.Nodup) (hi : X.N[i]? = some x) (hx : Loc X.env.scope x) (r : RelV v u)
 (h : ∀ s', Inv X pins (σ.set i (some v)) H s' -> Q () s') (hf : X.fn x = true \/ X.env.scope.names.lookup x = some .local := by first | exact .inl rfl | exact .inr rfl | assumption) : wpAny M A (storeName X.env x u) Q E s :=
 zfh I hN hi hx r (λ s' I' _ => h s' I') hf
theorem Inv.call' (I : Inv X pins σ H s) (ho : s'.os = s.os) (u : Un (frs X.stack) ch H H' s.heap s'.heap) (hok : HOk X.prog X.w H' s'.heap) (hg : AllBare s'.gens)
 (hch : ∀ b ∈ ch, (b ∈ X.ex \/ X.s₀.heap.objs.size <= b) /\ b ≠ X.env.locals /\ (∀ x c, X.env.cells.lookup x = some c -> c ≠ b) /\ ∀ p ∈ X.pn ++ pins, p.1 ≠ b) : Inv X pins σ H' s' := by
 obtain ⟨h', g', d', t', o'⟩ := s'
 have e : o' = s.os := ho
 subst e
 exact I.call (g' := g') (t' := t') (d' := d') u hok hg hch
end
abbrev XK := Value -> Option Addr -> Hp -> Prop
abbrev St := List (Option V)
abbrev VK := V -> Hp -> Prop
abbrev TE := St -> Hp -> VK -> Prop
abbrev TT := St -> Hp -> (Bool -> Hp -> Prop) -> Prop
abbrev TA := St -> Hp -> (List V -> Hp -> Prop) -> Prop
structure Ends where
 nx : St -> Hp -> Prop
 rt : VK
 bk : St -> Hp -> Prop := λ _ _ => False
 ct : St -> Hp -> Prop := λ _ _ => False
abbrev TS := Ends -> St -> Hp -> Prop
def EP (X : Cx) (pins : List (Addr × Obj)) (σ : St) (Q : VK) (u : Value) (s' : Shared) : Prop := ∃ v H', Inv X pins σ H' s' /\ RelV v u /\ Q v H'
def TP (X : Cx) (pins : List (Addr × Obj)) (σ : St) (Q : Bool -> Hp -> Prop) (b : Bool) (s' : Shared) : Prop := ∃ H', Inv X pins σ H' s' /\ Q b H'
def AP (X : Cx) (pins : List (Addr × Obj)) (σ : St) (Q : List V -> Hp -> Prop) (us : List Value) (s' : Shared) : Prop := ∃ vs H', Inv X pins σ H' s' /\ Vals vs us /\ Q vs H'
def SP (X : Cx) (pins : List (Addr × Obj)) (D : Ends) (f : Flow) (s' : Shared) : Prop :=
 match f with
 | .next => ∃ σ' H', Inv X pins σ' H' s' /\ D.nx σ' H'
 | .brk => ∃ σ' H', Inv X pins σ' H' s' /\ D.bk σ' H'
 | .cont => ∃ σ' H', Inv X pins σ' H' s' /\ D.ct σ' H'
 | .ret u => ∃ v σ' H', Inv X pins σ' H' s' /\ RelV v u /\ D.rt v H'
def PE (X : Cx) (e : Expr) (t : TE) : Prop :=
 ∀ (pins : List (Addr × Obj)) (s : Shared) (σ : St) (H : Hp) (Q : VK), Inv X pins σ H s -> t σ H Q -> wpAny (model X.prog X.w) X.A (eval e X.env) (EP X pins σ Q) X.xe s
def PT (X : Cx) (e : Expr) (t : TT) : Prop :=
 ∀ (pins : List (Addr × Obj)) (s : Shared) (σ : St) (H : Hp) (Q : Bool -> Hp -> Prop), Inv X pins σ H s -> t σ H Q -> wpAny (model X.prog X.w) X.A (isTrue e X.env (eval e X.env)) (TP X pins σ Q) X.xe s
def PW (X : Cx) (e : Expr) (t : TT) : Prop :=
 ∀ (whole : Sem Value) (pins : List (Addr × Obj)) (s : Shared) (σ : St) (H : Hp) (Q : Bool -> Hp -> Prop), Inv X pins σ H s -> t σ H Q -> wpAny (model X.prog X.w) X.A (isTrue e X.env whole) (TP X pins σ Q) X.xe s
theorem PW.pt (h : PW X e t) : PT X e t := h _
def PA (X : Cx) (es : List Expr) (t : TA) : Prop :=
 ∀ (pos : Pos) (pins : List (Addr × Obj)) (s : Shared) (σ : St) (H : Hp) (Q : List V -> Hp -> Prop), Inv X pins σ H s -> t σ H Q -> wpAny (model X.prog X.w) X.A (spliced (backTo pos (starEach es X.env))) (AP X pins σ Q) X.xe s
def PS (X : Cx) (st : Stmt) (t : TS) : Prop :=
 ∀ (pins : List (Addr × Obj)) (s : Shared) (σ : St) (H : Hp) (D : Ends), Inv X pins σ H s -> t D σ H -> wpAny (model X.prog X.w) X.A (exec st X.env) (SP X pins D) X.xe s
def PSs (X : Cx) (st : List Stmt) (t : TS) : Prop :=
 ∀ (pins : List (Addr × Obj)) (s : Shared) (σ : St) (H : Hp) (D : Ends), Inv X pins σ H s -> t D σ H -> wpAny (model X.prog X.w) X.A (execs st X.env) (SP X pins D) X.xe s
theorem thn (h : wpAny M A t Q E s) (hQ : ∀ a s, Q a s -> Q' a s) : wpAny M A t Q' E s := wpAny_mono h hQ λ _ _ x => x
end L2
namespace L2
open PySem PySem.Spec PyProof.Rows
section
variable {X : Cx}
def Xh (i : Nat) : TE := λ σ H Q => ∃ v, σ[i]? = some (some v) /\ Q v H
def tC (v : V) : TE := λ _ H Q => Q v H
theorem zkL (hN : X.N[i]? = some x) (hv : Vis X.env.scope x) (hd : (x == ("__debug__" : Str)) = false := by decide) (hcd : (x == ("__classdict__" : Str)) = false := by decide) : PE X (.Name x pos) (Xh i) := by
 intro pins s σ H Q I h
 obtain ⟨v, e, h⟩ := h
 obtain ⟨m, hn, hl⟩ := I.loc
 obtain ⟨u, r, l⟩ := hl i x v hN e hv
 have fin : EP X pins σ Q u s := ⟨v, H, I, r, h⟩
 rcases l with ⟨hk, hm⟩ | ⟨hk, c, hc, hcell⟩
 · exact wpAny_Name (wpAny_loadName_local I.ok.kind hk hn hm fin) hd
 · rcases hk with hk | hk
   · exact wpAny_Name (wpAny_loadName_cell I.ok.kind hk hc hcell fin) hd
   · exact wpAny_Name (wpAny_loadName_free I.ok.kind hk hc hcell fin hcd) hd
theorem zfZ : PE X (.Constant (.int i) j pos) (tC (.int i)) := λ _ _ _ H _ I h => wpAny_Constant_int ⟨.int i, H, I.tok _, ⟨_, rfl⟩, h⟩
theorem zqj : PE X (.Constant (.bool b) j pos) (tC (.bl b)) := λ _ _ _ H _ I h => Constant_bool ⟨.bl b, H, I, rfl, h⟩
theorem zoy : PE X (.Constant .none j pos) (tC .non) := λ _ _ _ H _ I h => Constant_none ⟨.non, H, I, rfl, h⟩
theorem zoJ : PE X (.Constant (.str x) j pos) (tC (.str x)) := λ _ _ _ H _ I h => Calls.Constant_str ⟨.str x, H, I.tok _, ⟨_, rfl⟩, h⟩
def Gl (X : Cx) (x : Str) : Prop := X.env.kindOf x = some .globalImplicit
theorem zmK (I : Inv X pins σ H s) (hg : Gl X x) (hm : X.mg x = some u) (h : Q u s)
 (hd : (x == ("__debug__" : Str)) = false := by decide) : wpAny (model X.prog X.w) X.A (eval (.Name x pos) X.env) Q E s :=
 Calls.Name_function_global I.ok.kind hg (Calls.loadGlobal_global (by rw [I.ok.glob]; exact I.mod.glob.keeps I.bk) hm h) hd
theorem zaG (I : Inv X pins σ H s) (hg : Gl X x) (hm : X.mg x = none) (hv : bootBuiltins x = some u) (h : Q u s)
 (hn : x ≠ "__name__" := by decide) (hd : (x == ("__debug__" : Str)) = false := by decide) : wpAny (model X.prog X.w) X.A (eval (.Name x pos) X.env) Q E s := by
 obtain ⟨mb, h1, h2⟩ := I.mod.blt
 exact Calls.Name_function_global I.ok.kind hg (Calls.loadGlobal_builtin (by rw [I.ok.glob]; exact I.mod.glob.keeps I.bk) hm (by rw [I.ok.blt]; exact h1.keeps I.bk) ((h2 x hn).trans hv) h) hd
theorem zmL (hg : Gl X x) (hm : X.mg x = none) (hv : bootBuiltins x = some u) (r : RelV v u) (hn : x ≠ "__name__" := by decide) (hd : (x == ("__debug__" : Str)) = false := by decide) : PE X (.Name x pos) (tC v) :=
 λ _ _ _ H _ I h => zaG I hg hm hv ⟨v, H, I, r, h⟩ hn hd
variable {a b : Expr} {ta tb : TE} {pos : Pos}
variable {tA tB' : TT} {rest : List Expr}
def zqx (t u : TT) : TT := λ σ H Q => t σ H λ c H1 => if c = true then u σ H1 Q else Q false H1
def tOr (t u : TT) : TT := λ σ H Q => t σ H λ c H1 => if c = true then Q true H1 else u σ H1 Q
def zqI (t : TT) : TT := λ σ H Q => t σ H λ c H1 => Q (!c) H1
theorem zlW (ha : PT X a tA) : PW X (.BoolOp .And [a] pos) tA := by
 intro wh pins s σ H Q I h
 refine isTrue_and (thn (ha pins s σ H Q I h) λ c s1 e => ?_)
 cases c with
 | true => exact isTrue_and_nil e
 | false => exact e
theorem zpm (ha : PT X a tA) : PW X (.BoolOp .Or [a] pos) tA := by
 intro wh pins s σ H Q I h
 refine isTrue_or (thn (ha pins s σ H Q I h) λ c s1 e => ?_)
 cases c with
 | false => exact isTrue_or_nil e
 | true => exact e
theorem zoR (ha : PT X a tA) (hb : PW X (.BoolOp .And (b :: rest) pos) tB') : PW X (.BoolOp .And (a :: b :: rest) pos) (zqx tA tB') := by
 intro wh pins s σ H Q I h
 refine isTrue_and (thn (ha pins s σ H _ I h) λ c s1 ⟨H1, I1, q1⟩ => ?_)
 cases c with
 | true => exact hb wh pins s1 σ H1 Q I1 q1
 | false => exact ⟨H1, I1, q1⟩
theorem zpS (ha : PT X a tA) (hb : PW X (.BoolOp .Or (b :: rest) pos) tB') : PW X (.BoolOp .Or (a :: b :: rest) pos) (tOr tA tB') := by
 intro wh pins s σ H Q I h
 refine isTrue_or (thn (ha pins s σ H _ I h) λ c s1 ⟨H1, I1, q1⟩ => ?_)
 cases c with
 | true => exact ⟨H1, I1, q1⟩
 | false => exact hb wh pins s1 σ H1 Q I1 q1
theorem zoq (ha : PT X a tA) : PT X (.UnaryOp .Not a pos) (zqI tA) := by
 intro pins s σ H Q I h
 exact isTrue_not (ha pins s σ H (λ c H1 => Q (!c) H1) I h)
def zqd (ta tb : TE) : TE := λ σ H Q => ta σ H λ x H1 => ∃ c, x = .bl c /\ if c = true then tb σ H1 Q else Q (.bl false) H1
def zpx (ta : TE) : TE := λ σ H Q => ta σ H λ x H1 => ∃ c, x = .bl c /\ Q (.bl (!c)) H1
theorem zoL (h : PE X a t) : PE X (.BoolOp op [a] pos) t := λ pins s σ H Q I hw => BoolOp_one (h pins s σ H Q I hw)
theorem zpc (ha : PE X a ta) (hb : PE X (.BoolOp .And (b :: rest) pos) tb) : PE X (.BoolOp .And (a :: b :: rest) pos) (zqd ta tb) := by
 intro pins s σ H Q I h
 refine BoolOp_and (thn (ha pins s σ H _ I h) λ v s1 ⟨x, H1, I1, r1, q1⟩ => ?_)
 obtain ⟨c, rfl, q1⟩ := q1
 cases r1
 refine wpAny_truthy_bool ?_
 cases c with
 | true => exact hb pins s1 σ H1 Q I1 q1
 | false => exact ⟨.bl false, H1, I1, rfl, q1⟩
theorem zpl (ha : PE X a ta) : PE X (.UnaryOp .Not a pos) (zpx ta) := by
 intro pins s σ H Q I h
 refine UnaryOp_ (thn (ha pins s σ H _ I h) λ v s1 ⟨x, H1, I1, r1, q1⟩ => ?_)
 obtain ⟨c, rfl, q1⟩ := q1
 cases r1
 exact not_of (wpAny_truthy_bool ⟨.bl (!c), H1, I1, rfl, q1⟩)
end
end L2
namespace L2
open PySem PySem.Spec PyProof.Rows
def SqL (K : zC) (H : Hp) (a : Addr) (xs : List V) : Prop :=
 Rd H a (.lst xs) \/
  ∃ (o : Obj) (its : Array Value) (n : Nat), K.lookup a = some o /\ o.cls = .type "list" /\ o.dict = none /\ o.data = .seq its n /\ its.size <= sizeLine /\ Vals xs its.toList
def RdL (K : zC) (H : Hp) (a : Addr) (xs : List V) : Prop :=
 Rd H a (.lst xs) \/ ∃ (its : Array Value) (n : Nat), K.lookup a = some { cls := .type "list", data := .seq its n } /\ its.size <= sizeLine /\ Vals xs its.toList
def SqT (K : zC) (H : Hp) (a : Addr) (xs : List V) : Prop :=
 Rd H a (.tup xs) \/
  ∃ (o : Obj) (its : Array Value) (n : Nat), K.lookup a = some o /\ o.cls = .type "tuple" /\ o.data = .seq its n /\ its.size <= sizeLine /\ Vals xs its.toList
def zqY : Value -> Option V
 | .none => some .non
 | .bool b => some (.bl b)
 | .int i _ => some (.int i)
 | .str x _ => some (.str x)
 | .bytes b _ => some (.byt b)
 | .float b _ => some (.flt b)
 | .ref a => some (.ref a)
 | .type n => some (.ty n)
 | _ => none
theorem RelV.abs (r : RelV x u) : zqY u = some x := by
 cases x with
 | non => cases r; rfl
 | bl _ => cases r; rfl
 | int _ => obtain ⟨t, rfl⟩ := r; rfl
 | str _ => obtain ⟨t, rfl⟩ := r; rfl
 | byt _ => obtain ⟨t, rfl⟩ := r; rfl
 | flt _ => obtain ⟨t, rfl⟩ := r; rfl
 | ref _ => cases r; rfl
 | ty _ => cases r; rfl
theorem RelV.inj (r : RelV x u) (q : RelV y u) : x = y := Option.some.inj (r.abs.symm.trans q.abs)
theorem Vals.inj : ∀ {xs ys : List V} {us : List Value}, Vals xs us -> Vals ys us -> xs = ys
 | _, _, _, .nil, .nil => rfl
 | _, _, _, .cons r t, .cons r' t' => by rw [r.inj r', Vals.inj t t']
section
variable {X : Cx} {pins : List (Addr × Obj)} {σ : St} {H : Hp} {s : Shared} {a : Addr} {xs ys : List V}
theorem Inv.list (I : Inv X pins σ H s) (h : SqL X.K H a xs) : ∃ its : List Value, Vals xs its /\ PlainL s.heap a its.toArray /\ xs.length <= sizeLine := by
 rcases h with h | ⟨o, its, n, hk, hc, hd, hs, hz, r⟩
 · obtain ⟨z, its, n, r, e⟩ := h.ok I.hok
   exact ⟨its, r, ⟨_, n, e, rfl, rfl, rfl⟩, z⟩
 · refine ⟨its.toList, r, ⟨o, n, I.kIn a o hk, hc, hd, by simpa using hs⟩, ?_⟩
   have e := r.length
   simp only [Array.length_toList] at e
   omega
theorem Inv.tuple (I : Inv X pins σ H s) (h : SqT X.K H a xs) : ∃ its : List Value, Vals xs its /\ IsTup s.heap a its.toArray /\ xs.length <= sizeLine := by
 rcases h with h | ⟨o, its, n, hk, hc, hs, hz, r⟩
 · obtain ⟨z, its, r, p⟩ := h.ok I.hok
   exact ⟨its, r, p, z⟩
 · refine ⟨its.toList, r, ⟨o, I.kIn a o hk, hc, n, by simpa using hs⟩, ?_⟩
   have e := r.length
   simp only [Array.length_toList] at e
   omega
theorem Inv.list_inj (I : Inv X pins σ H s) (h : SqL X.K H a xs) (h' : SqL X.K H a ys) : xs = ys := by
 obtain ⟨its, r, ⟨o, n, e, _, _, d⟩, _⟩ := I.list h
 obtain ⟨its', r', ⟨o', n', e', _, _, d'⟩, _⟩ := I.list h'
 rw [e] at e'; cases e'
 rw [d] at d'
 injection d' with d1 _
 have : its = its' := by simpa using congrArg Array.toList d1
 subst this
 exact r.inj r'
theorem Inv.tuple_inj (I : Inv X pins σ H s) (h : SqT X.K H a xs) (h' : SqT X.K H a ys) : xs = ys := by
 obtain ⟨its, r, ⟨o, e, _, n, d⟩, _⟩ := I.tuple h
 obtain ⟨its', r', ⟨o', e', _, n', d'⟩, _⟩ := I.tuple h'
 rw [e] at e'; cases e'
 rw [d] at d'
 injection d' with d1 _
 have : its = its' := by simpa using congrArg Array.toList d1
 subst this
 exact r.inj r'
end
abbrev Cx.wish (X : Cx) (E : Value -> Shared -> Prop) : Cx := { X with xe := E }
abbrev Cx.nox (X : Cx) : Cx := X.wish λ _ _ => False
theorem Cx.Ok.wish {X : Cx} (ok : X.Ok) (E : Value -> Shared -> Prop) : (X.wish E).Ok :=
 ⟨ok.mod, ok.kind, ok.glob, ok.blt, ok.above, ok.inj, ok.has, ok.cab, ok.hd, ok.frames, ok.stk, ok.exf, ok.bs, ok.bsz, ok.noex, ok.exfs, ok.funs, ok.frf⟩
theorem Cx.Ok.unwish {X : Cx} {E : Value -> Shared -> Prop} (ok : (X.wish E).Ok) : X.Ok :=
 ⟨ok.mod, ok.kind, ok.glob, ok.blt, ok.above, ok.inj, ok.has, ok.cab, ok.hd, ok.frames, ok.stk, ok.exf, ok.bs, ok.bsz, ok.noex, ok.exfs, ok.funs, ok.frf⟩
section
variable {X : Cx} {pins : List (Addr × Obj)} {σ : St} {H : Hp} {s : Shared} {E : Value -> Shared -> Prop}
theorem Inv.wish (I : Inv X pins σ H s) (E : Value -> Shared -> Prop) : Inv (X.wish E) pins σ H s := ⟨I.ok.wish E, I.os, I.bare, I.base, I.loc, I.cell, I.free, I.freeC, I.pin, I.hok, I.len⟩
theorem Inv.unwish (I : Inv (X.wish E) pins σ H s) : Inv X pins σ H s := ⟨I.ok.unwish, I.os, I.bare, I.base, I.loc, I.cell, I.free, I.freeC, I.pin, I.hok, I.len⟩
theorem SP.unwish (h : SP (X.wish E) pins D f s') : SP X pins D f s' := by
 cases f with
 | next => obtain ⟨σ', H', I, q⟩ := h; exact ⟨σ', H', I.unwish, q⟩
 | brk => obtain ⟨σ', H', I, q⟩ := h; exact ⟨σ', H', I.unwish, q⟩
 | cont => obtain ⟨σ', H', I, q⟩ := h; exact ⟨σ', H', I.unwish, q⟩
 | ret u => obtain ⟨v, σ', H', I, r, q⟩ := h; exact ⟨v, σ', H', I.unwish, r, q⟩
theorem PSs.nox {st : List Stmt} {t : TS} (h : PSs X.nox st t) : PSs X st t := λ pins s σ H D I hw =>
 wpAny_mono (h pins s σ H D (I.wish _) hw) (λ _ _ q => q.unwish) λ _ _ z => False.elim z
end
section
variable {X : Cx} {st : Stmt} {rest : List Stmt} {t u : TS} {e : Expr} {te : TE} {pos : Pos}
def zpW : TS := λ D σ H => D.nx σ H
def zrd (t u : TS) : TS := λ D σ H => t { D with nx := u D } σ H
theorem ziw : PSs X [] zpW := λ _ _ σ H _ I h => wpAny_execs_nil ⟨σ, H, I, h⟩
theorem Xr (h1 : PS X st t) (h2 : PSs X rest u) : PSs X (st :: rest) (zrd t u) := by
 intro pins s σ H D I h
 refine wpAny_execs_cons (thn (h1 pins s σ H { D with nx := u D } I h) λ f s1 q => ?_)
 cases f with
 | next =>
  obtain ⟨σ', H', I', q⟩ := q
  exact h2 pins s1 σ' H' D I' q
 | ret v => exact q
 | brk => exact q
 | cont => exact q
theorem zaV (h1 : PS X st t) : PSs X [st] t := by
 intro pins s σ H D I h
 refine wpAny_execs_cons (thn (h1 pins s σ H D I h) λ f s1 q => ?_)
 cases f with
 | next => exact wpAny_execs_nil q
 | ret v => exact q
 | brk => exact q
 | cont => exact q
theorem Inv.quiet (I : Inv X pins σ H s) : interactive X.env = false := by simp [interactive, I.ok.kind]
def zps (te : TE) : TS := λ D σ H => te σ H λ _ H1 => D.nx σ H1
theorem zmf (he : PE X e te) (hs : swapsWith e none pos.line X.env = pure false := by rfl) : PS X (.Expr e pos) (zps te) := by
 intro pins s σ H D I h
 exact wpAny_Expr_any (thn (he pins s σ H _ I h) λ v s1 ⟨x, H1, I1, r1, q1⟩ => ⟨σ, H1, I1, q1⟩) I.quiet hs
def zrs (te : TE) : TS := λ D σ H => te σ H D.rt
theorem zkF (he : PE X e te) : PS X (.Return (some e) pos) (zrs te) := by
 intro pins s σ H D I h
 exact wpAny_Return_some (thn (he pins s σ H _ I h) λ v s1 ⟨x, H1, I1, r1, q1⟩ => ⟨x, σ, H1, I1, r1, q1⟩)
def zrc (c : TT) (t u : TS) : TS := λ D σ H => c σ H λ b H1 => if b = true then t D σ H1 else u D σ H1
theorem znj (hc : PT X c tc) (ha : PSs X a t) (hb : PSs X b u) : PS X (.If c a b pos) (zrc tc t u) := by
 intro pins s σ H D I h
 refine wpAny_If (thn (hc pins s σ H _ I h) λ d s1 ⟨H1, I1, q1⟩ => ?_)
 cases d with
 | true => exact ha pins s1 σ H1 D I1 q1
 | false => exact hb pins s1 σ H1 D I1 q1
end
abbrev TG := V -> St -> Hp -> (St -> Hp -> Prop) -> Prop
abbrev TGs := List V -> St -> Hp -> (St -> Hp -> Prop) -> Prop
def PG (X : Cx) (target : Expr) (t : TG) : Prop :=
 ∀ (pins : List (Addr × Obj)) (s : Shared) (σ : St) (H : Hp) (v : V) (u : Value) (Q : St -> Hp -> Prop), Inv X pins σ H s -> RelV v u -> t v σ H Q ->
  wpAny (model X.prog X.w) X.A (assign target X.env u) (λ _ s' => ∃ σ' H', Inv X pins σ' H' s' /\ Q σ' H') X.xe s
def PGs (X : Cx) (ts : List Expr) (t : TGs) : Prop :=
 ∀ (pins : List (Addr × Obj)) (s : Shared) (σ : St) (H : Hp) (vs : List V) (us : List Value) (Q : St -> Hp -> Prop), Inv X pins σ H s -> Vals vs us -> t vs σ H Q ->
  wpAny (model X.prog X.w) X.A (assignInOrder ((assignEach ts X.env).map (·.2)) us) (λ _ s' => ∃ σ' H', Inv X pins σ' H' s' /\ Q σ' H') X.xe s
abbrev zpF := V -> V -> V -> Hp -> (Hp -> Prop) -> Prop
def zpC (X : Cx) (t : zpF) : Prop :=
 ∀ (pins : List (Addr × Obj)) (s : Shared) (σ : St) (H : Hp) (o i v : V) (ov iv u : Value) (Q : Hp -> Prop), Inv X pins σ H s -> RelV o ov -> RelV i iv -> RelV v u -> t o i v H Q ->
  wpAny (model X.prog X.w) X.A (setItem ov iv u) (λ _ s' => ∃ H', Inv X pins σ H' s' /\ Q H') X.xe s
section
variable {X : Cx} {pos : Pos}
def zgX (i : Nat) : TG := λ v σ H Q => Q (σ.set i (some v)) H
theorem Yk (hN : X.N.Nodup) (hi : X.N[i]? = some x) (hx : Loc X.env.scope x) (hf : X.fn x = true \/ X.env.scope.names.lookup x = some .local := by first | exact .inl rfl | exact .inr rfl | assumption) : PG X (.Name x pos) (zgX i) := by
 intro pins s σ H v u Q I r h
 exact wpAny_assign_Name (zbx I hN hi hx r (λ s' I' => ⟨_, H, I', h⟩) hf)
def zrb : TGs := λ vs σ H Q => vs = [] /\ Q σ H
def zpQ (t : TG) (u : TGs) : TGs := λ vs σ H Q => ∃ v r, vs = v :: r /\ t v σ H λ σ' H' => u r σ' H' Q
theorem zfF : PGs X [] zrb := by
 intro pins s σ H vs us Q I r h
 obtain ⟨e, h⟩ := h
 subst e
 cases r
 exact assignInOrder_nil ⟨σ, H, I, h⟩
theorem v9 (h1 : PG X e t) (h2 : PGs X es u)
 (hs : (assignEach (e :: es) X.env).map (·.2) = assign e X.env :: (assignEach es X.env).map (·.2) := by rfl) : PGs X (e :: es) (zpQ t u) := by
 intro pins s σ H vs us Q I r h
 obtain ⟨v, vr, e1, h⟩ := h
 subst e1
 cases r with
 | cons r rr =>
  rw [hs]
  refine assignInOrder_cons (thn (h1 pins s σ H _ _ _ I r h) λ _ s1 ⟨σ1, H1, I1, q1⟩ => ?_)
  exact h2 pins s1 σ1 H1 _ _ Q I1 rr q1
def zqS (K : zC) (n : Nat) (t : TGs) : TG := λ v σ H Q => ∃ a xs, v = .ref a /\ SqT K H a xs /\ xs.length = n /\ t xs σ H Q
theorem zie (hc : X.calm = true) (h : PGs X es t)
 (hn : (assignEach es X.env).length = n := by rfl) (hst : (assignEach es X.env).findIdx? (·.1) = none := by rfl) : PG X (.Tuple es k pos) (zqS X.K n t) := by
 intro pins s σ H v u Q I r hw
 obtain ⟨a, xs, e1, hq, hl, hw⟩ := hw
 subst e1
 cases r
 obtain ⟨its, rv, ht, hz⟩ := I.tuple hq
 refine assign_Tuple_tuple (I.ok.hd hc) ht (by simp [hn, <- hl, rv.length]) hst λ h' hx => ?_
 have I1 : Inv X pins σ H { s with heap := h' } := I.kept (t' := s.toks) λ b o e => hx b o (zzO (Heap.lt_size e)) e
 exact h pins _ σ H xs _ Q I1 (by simpa using rv) hw
def zqy (to ti : TE) (t : zpF) : TG := λ v σ H Q => to σ H λ o H1 => ti σ H1 λ i H2 => t o i v H2 λ H3 => Q σ H3
theorem zbM (ho : PE X o to) (hi : PE X i ti) (hs : zpC X t)
 (ha : ∀ v, assign (.Subscript o i pos) X.env v = (do
  let ov <- holding [v] (eval o X.env)
  let iv <- holding [v, ov] (eval i X.env)
  standAt pos
  holding [v, ov, iv] (setItem ov iv v)
  release [v, ov, iv] []) := by intro _; rfl) : PG X (.Subscript o i pos) (zqy to ti t) := by
 intro pins s σ H v u Q I r h
 rw [ha]
 refine wpAny_bind (wpAny_holding (thn (ho pins s σ H _ I h) λ ov s1 ⟨x, H1, I1, r1, q1⟩ => ?_))
 refine wpAny_bind (wpAny_holding (thn (hi pins s1 σ H1 _ I1 q1) λ iv s2 ⟨y, H2, I2, r2, q2⟩ => ?_))
 refine wpAny_bind (wpAny_standAt (wpAny_bind (wpAny_holding (thn (hs pins s2 σ H2 x y v ov iv u _ I2 r1 r2 r q2) λ _ s3 ⟨H3, I3, q3⟩ => ?_))))
 exact wpAny_release ⟨σ, H3, I3, q3⟩
def zpd (te : TE) (g : TG) : TS := λ D σ H => te σ H λ x H1 => g x σ H1 D.nx
theorem WM (he : PE X e te) (hg : PG X tg g) (hs : swapsWithSole [tg] e pos.line X.env = pure false := by rfl) (hw : swappedStores [tg] e X.env = pure none := by rfl)
 (h1 : (assignEach [tg] X.env).map (·.2) = [assign tg X.env] := by rfl) : PS X (.Assign [tg] e pos) (zpd te g) := by
 intro pins s σ H D I h
 refine wpAny_Assign_stores (thn (he pins s σ H _ I h) λ v s1 ⟨x, H1, I1, r1, q1⟩ => ?_) hs hw
 rw [h1]
 exact thn (hg pins s1 σ H1 x v _ I1 r1 q1) λ _ s2 q => q
theorem zjY (hN : X.N.Nodup) (hi : X.N[i]? = some x) (hx : Loc X.env.scope x) (he : PE X e te) (hs : swapsWith e (some (.Name x pos')) pos.line X.env = pure false := by rfl) (hf : X.fn x = true \/ X.env.scope.names.lookup x = some .local := by first | exact .inl rfl | exact .inr rfl | assumption) :
 PS X (.Assign [.Name x pos'] e pos) (zpd te (zgX i)) := by
 intro pins s σ H D I h
 refine wpAny_Assign_Name (thn (he pins s σ H _ I h) λ v s1 ⟨y, H1, I1, r1, q1⟩ => ?_) hs
 exact zbx I1 hN hi hx r1 (λ s2 I2 => ⟨_, H1, I2, q1⟩) hf
def zrm (i j : Nat) (ta : TA) : TS := λ D σ H => ta σ H λ vs H1 => ∃ v w, vs = [v, w] /\ D.nx ((σ.set i (some v)).set j (some w)) H1
theorem zoN (hc : X.calm = true) (hN : X.N.Nodup) (hi : X.N[i]? = some x) (hj : X.N[j]? = some y) (hij : i ≠ j)
 (hx : X.env.scope.names.lookup x = some .local) (hy : X.env.scope.names.lookup y = some .local) (ha : PA X [a, b] ta)
 (hw : swappedStores [.Tuple [.Name x px, .Name y py] kt pt] (.Tuple [a, b] k2 pt2) X.env = pure (some [x, y]))
 (hs : swapsWithSole [.Tuple [.Name x px, .Name y py] kt pt] (.Tuple [a, b] k2 pt2) pos.line X.env = pure false := by rfl) :
 PS X (.Assign [.Tuple [.Name x px, .Name y py] kt pt] (.Tuple [a, b] k2 pt2) pos) (zrm i j ta) := by
 intro pins s σ H D I h
 rw [exec_Assign_arm]
 refine wpAny_bind (wpAny_standAt ?_)
 rw [hs]
 refine wpAny_bind (wpAny_pure ?_)
 rw [if_neg (by decide)]
 refine wpAny_bind (Tuple_ (thn (ha _ pins s σ H _ I h) λ us s1 ⟨vs, H1, I1, r1, q1⟩ => ?_))
 obtain ⟨v, w, e1, q1⟩ := q1
 subst e1
 obtain ⟨u1, u2, rfl, rv, rw'⟩ : ∃ u1 u2, us = [u1, u2] /\ RelV v u1 /\ RelV w u2 := by
  cases r1 with
  | cons p q =>
   cases q with
   | cons p' q' =>
    cases q'
    exact ⟨_, _, rfl, p, p'⟩
 refine wpAny_newObj_type ?_ (by show 2 <= sizeLine; decide)
 have I2 : Inv X pins σ H1 { s1 with heap := s1.heap.push { cls := .type "tuple", data := .seq [u1, u2].toArray } } := I1.kept (t' := s1.toks) λ b o e => Heap.get?_push_of_some _ e
 rw [hw]
 refine wpAny_bind (wpAny_pure ?_)
 show wpAny (model X.prog X.w) X.A (do rule "assign.swapped-stores"; let items <- unpackItems (.ref s1.heap.objs.size) 2 none; assignInOrder [λ v => bindName X.env y v, λ v => bindName X.env x v] items.reverse; pure Flow.next) _ _ _
 refine wpAny_bind (wpAny_rule (wpAny_bind (unpackItems_tuple (items := #[u1, u2]) (I.ok.hd hc) (IsTup.new s1.heap _) λ h' hx' => ?_)))
 have I3 := I2.kept (h' := h') (t' := s1.toks) λ b o e => hx' b o (zzO (Heap.lt_size e)) e
 show wpAny _ _ (assignInOrder [λ v => bindName X.env y v, λ v => bindName X.env x v] [u2, u1] >>= λ _ => pure Flow.next) _ _ _
 refine wpAny_bind (assignInOrder_cons (wpAny_bindName (zbx I3 hN hj (.inl hy) rw' (λ s2 I4 => ?_) (.inr hy))))
 refine assignInOrder_cons (wpAny_bindName (zbx I4 hN hi (.inl hx) rv (λ s3 I5 => assignInOrder_nil (wpAny_pure ?_)) (.inr hx)))
 rw [List.set_comm _ _ (Ne.symm hij)] at I5
 exact ⟨_, H1, I5, q1⟩
end
section
variable {X : Cx} {pos : Pos}
def znU (c : TT) (tb : TS) : TS := λ D σ H => ∃ W : Nat -> St -> Hp -> Prop, (∃ m, W m σ H) /\ ∀ m σ H, W m σ H ->
 c σ H λ b H1 => if b = true then ∃ N : St -> Hp -> Prop, (∀ σ' H', N σ' H' -> ∃ m', m' < m /\ W m' σ' H') /\ tb { D with nx := N, ct := N, bk := D.nx } σ H1 else D.nx σ H1
theorem zlD (hp : PassesOwn (model X.prog X.w) X.A X.env X.xe) (hc : PT X c tc) (hb : PSs X body tb) : PS X (.While c body [] pos) (znU tc tb) := by
 intro pins s σ H D I h
 obtain ⟨W, ⟨m0, w0⟩, turn⟩ := h
 refine wpAny_While (codeAny_whileLoop (λ n s' => ∃ σ' H', Inv X pins σ' H' s' /\ W n σ' H') ?_ m0 ⟨σ, H, I, w0⟩)
 rintro n s1 ⟨σ1, H1, I1, w1⟩
 refine wpAny_passesOwn hp (thn (hc pins s1 σ1 H1 _ I1 (turn n σ1 H1 w1)) λ b s2 ⟨H2, I2, q2⟩ => ?_)
 cases b with
 | true =>
  obtain ⟨N, hN, q2⟩ := q2
  rw [if_pos rfl]
  refine wpAny_passesOwn hp (thn (hb pins s2 σ1 H2 _ I2 q2) λ f s3 q3 => ?_)
  cases f with
  | next =>
   obtain ⟨σ3, H3, I3, n3⟩ := q3
   obtain ⟨m', hm, w3⟩ := hN σ3 H3 n3
   exact ⟨m', hm, σ3, H3, I3, w3⟩
  | cont =>
   obtain ⟨σ3, H3, I3, n3⟩ := q3
   obtain ⟨m', hm, w3⟩ := hN σ3 H3 n3
   exact ⟨m', hm, σ3, H3, I3, w3⟩
  | brk => exact q3
  | ret v => exact q3
 | false =>
  rw [if_neg Bool.false_ne_true]
  exact wpAny_execs_nil ⟨σ1, H2, I2, q2⟩
end
structure It where
 go : Nat -> Hp -> Prop
 yld : Nat -> Hp -> V -> Hp -> Prop
 stop : Nat -> Hp -> Prop
def zcR (X : Cx) (pins : List (Addr × Obj)) (H : Hp) (b : Addr) : Prop :=
 H b = none /\ b ≠ X.env.locals /\ b ∉ X.fs /\ (b ∈ X.ex \/ X.s₀.heap.objs.size <= b) /\ (∀ x c, X.env.cells.lookup x = some c -> c ≠ b) /\ ∀ p ∈ X.pn ++ pins, p.1 ≠ b
theorem Inv.fpOk (I : Inv X pins σ H s) (hb : s.heap.objs.size <= b) (hn : H' b = none) : zcR X pins H' b := by
 refine ⟨hn, Nat.ne_of_gt (zzI I.lt hb), I.nofs hb, .inr (zzM I.sz hb), λ x c e z => ?_, λ p hp z => ?_⟩
 · obtain ⟨v, q⟩ := I.cell x c e
   exact absurd (zzI q.lt (by rw [z]; exact hb)) (Nat.lt_irrefl _)
 · exact absurd (zzI (Heap.lt_size (I.pin p hp).1) (by rw [z]; exact hb)) (Nat.lt_irrefl _)
structure Turn (P : Program) (w : World) (K : zC) (tg : Expr) (J : It) (fp : List Addr) (it : Addr) (tn : Nat -> Heap -> Prop) : Prop where
 mem : it ∈ fp
 obj : ∀ i h, tn i h -> ∀ b ∈ fp, ∃ o, h.get? b = some o /\ ∀ v, o.data ≠ .cell v
 keep : ∀ i h h', tn i h -> (∀ b ∈ fp, ∀ o, h.get? b = some o -> h'.get? b = some o) -> tn i h'
 item : ∀ (X : Cx), X.prog = P -> X.w = w -> X.K = K -> X.calm = true -> ∀ (i : Nat) (pins : List (Addr × Obj)) (s : Shared) (σ : St) (H : Hp) (E : Value -> Shared -> Prop), Inv X pins σ H s -> (∀ b ∈ fp, zcR X pins H b) -> tn i s.heap -> J.go i H ->
  wpAny (model P w) X.A (pyNext (.ref it)) (λ r s1 => ∃ u, r = some u /\
   wpAny (model P w) X.A (letOwnedTupleGo tg (.ref it) u) (λ _ s2 => ∃ x H', Inv X pins σ H' s2 /\ RelV x u /\ J.yld i H x H' /\ tn (i + 1) s2.heap /\ ∀ b ∈ fp, H' b = none) E s1) E s
 done : ∀ (X : Cx), X.prog = P -> X.w = w -> X.K = K -> X.calm = true -> ∀ (i : Nat) (pins : List (Addr × Obj)) (s : Shared) (σ : St) (H : Hp) (E : Value -> Shared -> Prop), Inv X pins σ H s -> (∀ b ∈ fp, zcR X pins H b) -> tn i s.heap -> J.stop i H ->
  wpAny (model P w) X.A (pyNext (.ref it)) (λ r s1 => r = none /\ Inv X pins σ H s1) E s
 self : ∀ (A : Around) (i : Nat) (s : Shared) (Q : Value -> Shared -> Prop) (E : Value -> Shared -> Prop), tn i s.heap -> Q (.ref it) s -> wpAny (model P w) A (pyIter (.ref it)) Q E s
abbrev TI := St -> Hp -> (It -> Hp -> Prop) -> Prop
def PIE (X : Cx) (pins : List (Addr × Obj)) (σ : St) (tg : Expr) (R : It -> Hp -> Prop) (itv : Value) (s2 : Shared) : Prop :=
 ∃ (it : Addr) (fp : List Addr) (tn : Nat -> Heap -> Prop) (J : It) (H' : Hp), itv = .ref it /\ Inv X pins σ H' s2 /\ Turn X.prog X.w X.K tg J fp it tn /\ tn 0 s2.heap /\ (∀ b ∈ fp, zcR X pins H' b) /\ R J H'
def PI (X : Cx) (tg iter : Expr) (wi : TI) : Prop :=
 ∀ (pins : List (Addr × Obj)) (s : Shared) (σ : St) (H : Hp) (R : It -> Hp -> Prop), Inv X pins σ H s -> wi σ H R ->
  wpAny (model X.prog X.w) X.A (eval iter X.env) (λ v s1 => wpAny (model X.prog X.w) X.A (pyIter v) (PIE X pins σ tg R) X.xe s1) X.xe s
theorem zkg (ho : s.heap.get? it = some o) (hc : o.cls = .type n) (hd : o.data = .fields vs)
 (hn : ["enumerate", "zip", "dict_itemiterator", "dict_reverseitemiterator", "odict_iterator", "itertools.zip_longest", "itertools.pairwise"].contains n = false) (hQ : Q () s) : wpAny M A (letOwnedTupleGo tg (.ref it) u) Q E s := by
 unfold letOwnedTupleGo
 cases tg <;> first
  | exact wpAny_pure hQ
  | (cases u <;> first
   | exact wpAny_pure hQ
   | (refine wpAny_bind (wpAny_load ho ?_)
      rw [hc, hd]
      show wpAny M A (if (["enumerate", "zip", "dict_itemiterator", "dict_reverseitemiterator", "odict_iterator", "itertools.zip_longest", "itertools.pairwise"].contains n && vs[0]? == some (rawInt _)) = true then _ else _) Q E s
      rw [if_neg (by intro h; rw [hn, Bool.false_and] at h; cases h)]
      exact wpAny_pure hQ))
def Itl (K : zC) (a : Addr) : It :=
 ⟨λ i H => ∃ xs x, SqL K H a xs /\ xs[i]? = some x, λ i H x H' => H' = H /\ ∀ xs, SqL K H a xs -> xs[i]? = some x, λ i H => ∃ xs, SqL K H a xs /\ xs.length <= i⟩
def Itt (K : zC) (a : Addr) : It :=
 ⟨λ i H => ∃ xs x, SqT K H a xs /\ xs[i]? = some x, λ i H x H' => H' = H /\ ∀ xs, SqT K H a xs -> xs[i]? = some x, λ i H => ∃ xs, SqT K H a xs /\ xs.length <= i⟩
def Itr (lo : Int) (n : Nat) : It := ⟨λ i _ => i < n, λ i H x H' => H' = H /\ x = .int (lo + i), λ i _ => n <= i⟩
theorem zjK {P : Program} {w : World} {K : zC} {tg : Expr} (a it : Addr) : Turn P w K tg (Itl K a) [it] it (λ i h => h.IsListIter it a i) where
 mem := by simp
 obj := λ i h st b hb => by
  have e : b = it := by simpa using hb
  subst e
  obtain ⟨o, e, c, d⟩ := st
  exact ⟨o, e, λ v z => by rw [d] at z; cases z⟩
 keep := λ i h h' st k => st.at λ o e => k it (by simp) o e
 item := by
  intro X hP hw hK hc i pins s σ H E I hf st hg
  subst hP hw hK
  obtain ⟨xs, x, hq, hx⟩ := hg
  obtain ⟨its, rv, p, hz⟩ := I.list hq
  obtain ⟨u, hu, ru⟩ := rv.get hx
  obtain ⟨f0, f1, f2, f3, f4, f5⟩ := hf it (by simp)
  refine wpAny_pyNext_list_item st p.isList (x := u) (by simpa using hu) λ h' st' sb => ?_
  have I1 : Inv X pins σ H { s with heap := h' } := I.turned (t' := s.toks) (λ b o hb e => (sb.2 b hb).trans e) f0 f1 f3 f4 f5
  obtain ⟨o, e, c, d⟩ := id st'
  exact ⟨u, rfl, zkg (s := { s with heap := h' }) e c d (by decide) ⟨x, H, I1, ru, ⟨rfl, λ ys hy => by rw [I.list_inj hy hq]; exact hx⟩, st', λ b hb => (hf b hb).1⟩⟩
 done := by
  intro X hP hw hK hc i pins s σ H E I hf st hg
  subst hP hw hK
  obtain ⟨xs, hq, hx⟩ := hg
  obtain ⟨its, rv, p, hz⟩ := I.list hq
  obtain ⟨f0, f1, f2, f3, f4, f5⟩ := hf it (by simp)
  have hl := rv.length
  exact wpAny_pyNext_list_end (I.ok.hd hc) st p.isList (by simp; omega) λ h' eb => ⟨rfl, I.turned (t' := s.toks) (λ b o hb e => eb b o hb e) f0 f1 f3 f4 f5⟩
 self := λ _ _ _ _ _ st h => wpAny_pyIter_listiter st h
theorem zhB {P : Program} {w : World} {K : zC} {tg : Expr} (a it : Addr) : Turn P w K tg (Itt K a) [it] it (λ i h => h.IsTupleIter it a i) where
 mem := by simp
 obj := λ i h st b hb => by
  have e : b = it := by simpa using hb
  subst e
  obtain ⟨o, e, c, d⟩ := st
  exact ⟨o, e, λ v z => by rw [d] at z; cases z⟩
 keep := λ i h h' st k => st.at λ o e => k it (by simp) o e
 item := by
  intro X hP hw hK hc i pins s σ H E I hf st hg
  subst hP hw hK
  obtain ⟨xs, x, hq, hx⟩ := hg
  obtain ⟨its, rv, p, hz⟩ := I.tuple hq
  obtain ⟨u, hu, ru⟩ := rv.get hx
  obtain ⟨f0, f1, f2, f3, f4, f5⟩ := hf it (by simp)
  refine wpAny_pyNext_tuple_item st (show s.heap.IsTuple a its.toArray from p) (x := u) (by simpa using hu) λ h' st' sb => ?_
  have I1 : Inv X pins σ H { s with heap := h' } := I.turned (t' := s.toks) (λ b o hb e => (sb.2 b hb).trans e) f0 f1 f3 f4 f5
  obtain ⟨o, e, c, d⟩ := id st'
  exact ⟨u, rfl, zkg (s := { s with heap := h' }) e c d (by decide) ⟨x, H, I1, ru, ⟨rfl, λ ys hy => by rw [I.tuple_inj hy hq]; exact hx⟩, st', λ b hb => (hf b hb).1⟩⟩
 done := by
  intro X hP hw hK hc i pins s σ H E I hf st hg
  subst hP hw hK
  obtain ⟨xs, hq, hx⟩ := hg
  obtain ⟨its, rv, p, hz⟩ := I.tuple hq
  obtain ⟨f0, f1, f2, f3, f4, f5⟩ := hf it (by simp)
  have hl := rv.length
  exact wpAny_pyNext_tuple_end (I.ok.hd hc) st (show s.heap.IsTuple a its.toArray from p) (by simp; omega) λ h' eb => ⟨rfl, I.turned (t' := s.toks) (λ b o hb e => eb b o hb e) f0 f1 f3 f4 f5⟩
 self := λ _ _ _ _ _ st h => wpAny_pyIter_tupleiter st h
theorem zhS {P : Program} {w : World} {K : zC} {tg : Expr} (it : Addr) (lo : Int) (n : Nat) : Turn P w K tg (Itr lo n) [it] it (λ i h => IsRangeIter h it (lo + (i : Nat) * 1) ((n : Int) - (i : Nat)) 1) where
 mem := by simp
 obj := λ i h st b hb => by
  have e : b = it := by simpa using hb
  subst e
  exact ⟨_, st, λ v z => by
   have z' : Data.fields _ = Data.cell v := z
   cases z'⟩
 keep := λ i h h' st k => k it (by simp) _ st
 item := by
  intro X hP hw hK hc i pins s σ H E I hf st hg
  subst hP hw hK
  obtain ⟨f0, f1, f2, f3, f4, f5⟩ := hf it (by simp)
  have W := Walks.range (prog := X.prog) (w := X.w) (I.ok.hd hc) it lo 1 n
  refine W.item i s _ _ hg st λ v h' tk hv st' kk => ?_
  obtain ⟨t, rfl⟩ := hv
  have I1 : Inv X pins σ H { s with heap := h', toks := tk } := I.turned (λ b o hb e => kk b o (by simpa using hb) e) f0 f1 f3 f4 f5
  refine ⟨_, rfl, zkg (s := { s with heap := h', toks := tk }) (n := "range_iterator") st' rfl rfl (by decide) ⟨.int (lo + i), H, I1, ⟨t, ?_⟩, ⟨rfl, rfl⟩, st', λ b hb => (hf b hb).1⟩⟩
  rw [Int.mul_one]
 done := by
  intro X hP hw hK hc i pins s σ H E I hf st hg
  subst hP hw hK
  obtain ⟨f0, f1, f2, f3, f4, f5⟩ := hf it (by simp)
  exact wpAny_pyNext_range_end (I.ok.hd hc) st (by have : n <= i := hg; omega) λ h' eb => ⟨rfl, I.turned (t' := s.toks) (λ b o hb e => eb b o hb e) f0 f1 f3 f4 f5⟩
 self := λ _ _ _ _ _ st h => wpAny_pyIter_rangeiter st h
end L2
namespace L2
open PySem PySem.Spec PyProof.Rows
section
variable {X : Cx} {tg : Expr}
def zqb (K : zC) (tl : TE) : TI := λ σ H R => tl σ H λ x H1 => ∃ a, x = .ref a /\ (∃ xs, SqL K H1 a xs) /\ R (Itl K a) H1
def zqL (K : zC) (tl : TE) : TI := λ σ H R => tl σ H λ x H1 => ∃ a, x = .ref a /\ (∃ xs, SqT K H1 a xs) /\ R (Itt K a) H1
theorem zde {l : Expr} {tl : TE} (hl : PE X l tl) : PI X tg l (zqb X.K tl) := by
 intro pins s σ H R I h
 refine thn (hl pins s σ H _ I h) λ v s1 ⟨x, H1, I1, r1, q1⟩ => ?_
 obtain ⟨a, e, ⟨xs, hq⟩, q⟩ := q1
 subst e
 cases r1
 obtain ⟨its, rv, p, hz⟩ := I1.list hq
 refine wpAny_pyIter_list p.isList ?_
 refine ⟨s1.heap.objs.size, [s1.heap.objs.size], _, _, H1, rfl, I1.kept (t' := s1.toks) λ b o e => Heap.get?_push_of_some _ e, zjK a _, ⟨_, Heap.get?_push_size _ rfl, rfl, rfl⟩, λ b hb => ?_, q⟩
 have e : b = s1.heap.objs.size := by simpa using hb
 subst e
 exact I1.fpOk (zzL _) (I1.hok.fresh (zzL _))
theorem zhH {l : Expr} {tl : TE} (hl : PE X l tl) : PI X tg l (zqL X.K tl) := by
 intro pins s σ H R I h
 refine thn (hl pins s σ H _ I h) λ v s1 ⟨x, H1, I1, r1, q1⟩ => ?_
 obtain ⟨a, e, ⟨xs, hq⟩, q⟩ := q1
 subst e
 cases r1
 obtain ⟨its, rv, p, hz⟩ := I1.tuple hq
 refine wpAny_pyIter_tuple (show s1.heap.IsTuple a its.toArray from p) ?_
 refine ⟨s1.heap.objs.size, [s1.heap.objs.size], _, _, H1, rfl, I1.kept (t' := s1.toks) λ b o e => Heap.get?_push_of_some _ e, zhB a _, ⟨_, Heap.get?_push_size _ rfl, rfl, rfl⟩, λ b hb => ?_, q⟩
 have e : b = s1.heap.objs.size := by simpa using hb
 subst e
 exact I1.fpOk (zzL _) (I1.hok.fresh (zzL _))
theorem zko {pins : List (Addr × Obj)} {σ : St} {H : Hp} {s : Shared} {R : It -> Hp -> Prop} {E : Value -> Shared -> Prop} {lo hi : Int} {t u v : Tok} {tk : Nat} (I : Inv X pins σ H s) (h1 : -(2 ^ 62) <= lo) (h2 : lo < 2 ^ 62) (h3 : -(2 ^ 62) <= hi) (h4 : hi < 2 ^ 62)
 (q : R (Itr lo (hi - lo).toNat) H) : wpAny (model X.prog X.w) X.A (pyIter (.ref s.heap.objs.size)) (PIE X pins σ tg R) E { s with heap := s.heap.push { cls := .type "range", data := .fields #[.int lo t, .int hi u, .int 1 v] }, toks := tk } := by
 refine wpAny_pyIter_range (IsRange.new ..) (small_one h1 h2 h3 h4) ?_
 have I1 : Inv X pins σ H { s with heap := s.heap.push { cls := .type "range", data := .fields #[.int lo t, .int hi u, .int 1 v] }, toks := tk } := I.kept λ b o e => Heap.get?_push_of_some _ e
 refine ⟨(s.heap.push { cls := .type "range", data := .fields #[.int lo t, .int hi u, .int 1 v] }).objs.size, [(s.heap.push { cls := .type "range", data := .fields #[.int lo t, .int hi u, .int 1 v] }).objs.size], _, _, H, rfl,
  I1.kept (t' := tk) λ b o e => Heap.get?_push_of_some _ e, zhS _ lo (hi - lo).toNat, ?_, λ b hb => ?_, q⟩
 · have e1 : lo + ((0 : Nat) : Int) * 1 = lo := by simp
   have e2 : (((hi - lo).toNat : Nat) : Int) - ((0 : Nat) : Int) = Builtin.Range.rangeSize lo hi 1 := by rw [rangeSize_one]; split <;> omega
   show IsRangeIter _ _ (lo + ((0 : Nat) : Int) * 1) ((((hi - lo).toNat : Nat) : Int) - ((0 : Nat) : Int)) 1
   rw [e1, e2]
   exact Heap.get?_push_size _ rfl
 · have e : b = (s.heap.push { cls := .type "range", data := .fields #[.int lo t, .int hi u, .int 1 v] }).objs.size := by simpa using hb
   subst e
   exact I1.fpOk (zzL _) (I1.hok.fresh (zzL _))
def zqg (ta : TA) : TI := λ σ H R => ta σ H λ vs H1 => ∃ j : Int, vs = [.int j] /\ -(2 ^ 62) <= j /\ j < 2 ^ 62 /\ R (Itr 0 j.toNat) H1
theorem zfb {a : Expr} {ta : TA} {p pos : Pos} (hg : Gl X "range") (hm : X.mg "range" = none) (ha : PA X [a] ta) (hs : starEach [a] X.env = [(false, eval a X.env)] := by rfl) : PI X tg (.Call (.Name "range" p) [a] [] pos) (zqg ta) := by
 intro pins s σ H R I h
 refine Call_ (zaG I hg hm boot_range (PyProof.Rows.callWith_type1 (thn (ha pos pins s σ H _ I h) λ us s1 ⟨vs, H1, I1, r1, q1⟩ => ?_) hs rfl))
 obtain ⟨j, e, q1, q2, q⟩ := q1
 subst e
 cases r1 with
 | cons r rr =>
  cases rr
  obtain ⟨t, rfl⟩ := r
  exact call_range_1 (zko I1 (by omega) (by omega) q1 q2 (by simpa using q))
def zqE (wi : TI) (g : TG) (tb : TS) : TS := λ D σ H => wi σ H λ J H1 => ∃ W : Nat -> Nat -> St -> Hp -> Prop, (∃ m, W 0 m σ H1) /\ ∀ i m σ H, W i m σ H ->
 (J.stop i H /\ D.nx σ H) \/ (J.go i H /\ ∃ N : St -> Hp -> Prop, (∀ σ' H', N σ' H' -> ∃ m', m' < m /\ W (i + 1) m' σ' H') /\ ∀ x H', J.yld i H x H' -> g x σ H' λ σ2 H2 => tb { D with nx := N, ct := N, bk := D.nx } σ2 H2)
def zdF (fp : List Addr) (h : Heap) : List (Addr × Obj) := fp.filterMap λ b => (h.get? b).map λ o => (b, o)
theorem X7 (hb : b ∈ fp) (e : h.get? b = some o) : (b, o) ∈ zdF fp h := List.mem_filterMap.mpr ⟨b, hb, by rw [e]; rfl⟩
theorem zjn (hp : p ∈ zdF fp h) : p.1 ∈ fp /\ h.get? p.1 = some p.2 := by
 obtain ⟨b, hb, e⟩ := List.mem_filterMap.mp hp
 cases q : h.get? b with
 | none => rw [q] at e; cases e
 | some o =>
  rw [q] at e
  have e' : (b, o) = p := Option.some.inj e
  subst e'
  exact ⟨hb, q⟩
theorem Inv.pinned (I : Inv X pins σ H s) (hf : ∀ b ∈ fp, zcR X pins H b) (ho : ∀ b ∈ fp, ∃ o, s.heap.get? b = some o /\ ∀ v, o.data ≠ .cell v) : Inv X (pins ++ zdF fp s.heap) σ H s :=
 I.pins_of λ p hp => (zzK.mp hp).elim (λ z => I.pin p (zzJ _ z)) λ z => by
  obtain ⟨hb, e⟩ := zjn z
  obtain ⟨f0, f1, f2, _⟩ := hf p.1 hb
  obtain ⟨o, e', d⟩ := ho p.1 hb
  rw [e] at e'; cases e'
  exact ⟨e, f0, f1, f2, d⟩
theorem Inv.unpinned (I : Inv X (pins ++ pl) σ H s) : Inv X pins σ H s := I.pins_of λ p hp => I.pin p (zzJ _ (zzN _ hp))
theorem zhR (hp : PassesOwn (model X.prog X.w) X.A X.env X.xe) (hc : X.calm = true) (hi : PI X tg iter wi) (hg : PG X tg g) (hb : PSs X body tb)
 (hs : ∀ x, foldedSetIterable iter X.env x = pure x := by intro _; rfl) : PS X (.For tg iter body [] pos) (zqE wi g tb) := by
 intro pins s σ H D I h
 refine wpAny_For (thn (hi pins s σ H _ I h) λ v s1 h1 => thn h1 λ itv s2 h2 => ?_) hs
 obtain ⟨it, fp, tn, J, H2, e, I2, T, st2, f2, W, ⟨m0, w0⟩, turn⟩ := h2
 subst e
 have stat : ∀ {H' : Hp}, (∀ b ∈ fp, H' b = none) -> ∀ b ∈ fp, zcR X pins H' b := λ hn b hb => ⟨hn b hb, (f2 b hb).2⟩
 refine codeAny_forLoop_any (λ n s' => ∃ i σ' H', Inv X pins σ' H' s' /\ tn i s'.heap /\ (∀ b ∈ fp, H' b = none) /\ W i n σ' H') ?_ m0 ⟨0, σ, H2, I2, st2, λ b hb => (f2 b hb).1, w0⟩
 rintro n s3 ⟨i, σ3, H3, I3, st3, fr3, w3⟩
 rcases turn i n σ3 H3 w3 with ⟨stop, qn⟩ | ⟨go, N, hN, step⟩
 · refine wpAny_passesOwn hp (thn (T.done X rfl rfl rfl hc i pins s3 σ3 H3 X.xe I3 (stat fr3) st3 stop) λ r s4 ⟨hr, I4⟩ => ?_)
   subst hr
   exact wpAny_execs_nil ⟨σ3, H3, I4, qn⟩
 · refine wpAny_passesOwn hp (thn (T.item X rfl rfl rfl hc i pins s3 σ3 H3 X.xe I3 (stat fr3) st3 go) λ r s4 ⟨u, hr, h4⟩ => ?_)
   subst hr
   refine wpAny_passesOwn hp (thn h4 λ _ s5 ⟨x, H5, I5, r5, y5, st5, fr5⟩ => ?_)
   have I5' := I5.pinned (stat fr5) (T.obj _ _ st5)
   refine wpAny_passesOwn hp (thn (hg _ s5 σ3 H5 x u _ I5' r5 (step x H5 y5)) λ _ s6 ⟨σ6, H6, I6, q6⟩ => ?_)
   refine wpAny_passesOwn hp (thn (hb _ s6 σ6 H6 _ I6 q6) λ f s7 q7 => ?_)
   have again : ∀ {σ7 : St} {H7 : Hp}, Inv X (pins ++ zdF fp s5.heap) σ7 H7 s7 -> N σ7 H7 -> ∃ m, m < n /\ ∃ i σ' H', Inv X pins σ' H' s7 /\ tn i s7.heap /\ (∀ b ∈ fp, H' b = none) /\ W i m σ' H' := λ {σ7 H7} I7 n7 => by
    obtain ⟨m', hm, w7⟩ := hN σ7 H7 n7
    refine ⟨m', hm, i + 1, σ7, H7, I7.unpinned, T.keep _ _ _ st5 λ b hb o e => (I7.pin (b, o) (zzJ _ (zzJ _ (X7 hb e)))).1, λ b hb => ?_, w7⟩
    obtain ⟨o, e, d⟩ := T.obj _ _ st5 b hb
    exact (I7.pin (b, o) (zzJ _ (zzJ _ (X7 hb e)))).2.1
   cases f with
   | next => obtain ⟨σ7, H7, I7, n7⟩ := q7; exact again I7 n7
   | cont => obtain ⟨σ7, H7, I7, n7⟩ := q7; exact again I7 n7
   | brk => obtain ⟨σ7, H7, I7, q7⟩ := q7; exact ⟨σ7, H7, I7.unpinned, q7⟩
   | ret v => obtain ⟨x7, σ7, H7, I7, r7, q7⟩ := q7; exact ⟨x7, σ7, H7, I7.unpinned, r7, q7⟩
end
theorem zjT {K : zC} {a : Addr} {xs : List V} {g : TG} {tb : TS} {D : Ends} {σ : St} {H : Hp} (Pv : Nat -> St -> Hp -> Prop) (h0 : Pv 0 σ H) (hl : ∀ i σ H, i <= xs.length -> Pv i σ H -> SqL K H a xs)
 (hs : ∀ i x σ H, xs[i]? = some x -> Pv i σ H -> g x σ H λ σ2 H2 => tb { D with nx := Pv (i + 1), ct := Pv (i + 1), bk := D.nx } σ2 H2) (hd : ∀ σ H, Pv xs.length σ H -> D.nx σ H) :
 ∃ W : Nat -> Nat -> St -> Hp -> Prop, (∃ m, W 0 m σ H) /\ ∀ i m σ H, W i m σ H ->
  ((Itl K a).stop i H /\ D.nx σ H) \/ ((Itl K a).go i H /\ ∃ N : St -> Hp -> Prop, (∀ σ' H', N σ' H' -> ∃ m', m' < m /\ W (i + 1) m' σ' H') /\ ∀ x H', (Itl K a).yld i H x H' -> g x σ H' λ σ2 H2 => tb { D with nx := N, ct := N, bk := D.nx } σ2 H2) := by
 refine ⟨λ i m σ H => m = xs.length - i /\ i <= xs.length /\ Pv i σ H, ⟨xs.length, by simp, Nat.zero_le _, h0⟩, ?_⟩
 rintro i m σ H ⟨rfl, hi, p⟩
 have q := hl i σ H hi p
 by_cases hlt : i < xs.length
 · refine .inr ⟨⟨xs, xs[i], q, by simp [hlt]⟩, Pv (i + 1), λ σ' H' p' => ⟨xs.length - (i + 1), by omega, rfl, hlt, p'⟩, λ x H' y => ?_⟩
   obtain ⟨e, y⟩ := y
   subst e
   exact hs i x σ _ (y xs q) p
 · have e : i = xs.length := by omega
   subst e
   exact .inl ⟨⟨xs, q, zzL _⟩, hd σ H p⟩
end L2
namespace L2
open PySem PySem.Spec PyProof.Rows
abbrev R2 := V -> V -> Hp -> VK -> Prop
def OpR (X : Cx) (f : Value -> Value -> Sem Value) (r : R2) : Prop :=
 ∀ (pins : List (Addr × Obj)) (s : Shared) (σ : St) (H : Hp) (x y : V) (v u : Value) (Q : VK), Inv X pins σ H s -> RelV x v -> RelV y u -> r x y H Q ->
  wpAny (model X.prog X.w) X.A (f v u) (EP X pins σ Q) X.xe s
def V3 (X : Cx) (f : Value) (r : List V -> Hp -> VK -> Prop) : Prop :=
 ∀ (pins : List (Addr × Obj)) (s : Shared) (σ : St) (H : Hp) (xs : List V) (us : List Value) (Q : VK), Inv X pins σ H s -> Vals xs us -> r xs H Q ->
  wpAny (model X.prog X.w) X.A (call f us) (EP X pins σ Q) X.xe s
def zqN (X : Cx) (r : V -> Hp -> (Bool -> Hp -> Prop) -> Prop) : Prop :=
 ∀ (pins : List (Addr × Obj)) (s : Shared) (σ : St) (H : Hp) (x : V) (v : Value) (Q : Bool -> Hp -> Prop), Inv X pins σ H s -> RelV x v -> r x H Q ->
  wpAny (model X.prog X.w) X.A (truthy v) (TP X pins σ Q) X.xe s
def tOp (r : R2) (ta tb : TE) : TE := λ σ H Q => ta σ H λ x H1 => tb σ H1 λ y H2 => r x y H2 Q
def rI (C : Int -> Int -> Prop) (g : Int -> Int -> V) : R2 := λ x y H Q => ∃ i j, x = .int i /\ y = .int j /\ C i j /\ Q (g i j) H
def rI0 (g : Int -> Int -> V) : R2 := λ x y H Q => ∃ i j, x = .int i /\ y = .int j /\ Q (g i j) H
section
variable {X : Cx} {a b c : Expr} {ta tb tc : TE} {pos : Pos}
theorem zoe (ha : PE X a ta) (hb : PE X b tb) {pins : List (Addr × Obj)} {s : Shared} {σ : St} {H : Hp} {R : V -> V -> Hp -> Prop} (I : Inv X pins σ H s)
 (h : ta σ H λ x H1 => tb σ H1 λ y H2 => R x y H2) {Q : Value -> Shared -> Prop} {f : Value -> Value -> Sem Value}
 (hf : ∀ v u s2 x y H2, Inv X pins σ H2 s2 -> RelV x v -> RelV y u -> R x y H2 -> wpAny (model X.prog X.w) X.A (f v u) Q X.xe s2) :
 wpAny (model X.prog X.w) X.A (eval a X.env) (λ v s₁ => wpAny (model X.prog X.w) X.A (eval b X.env) (λ u s₂ => wpAny (model X.prog X.w) X.A (f v u) Q X.xe s₂) X.xe s₁) X.xe s := by
 refine thn (ha pins s σ H _ I h) λ v s1 ⟨x, H1, I1, r1, q1⟩ => ?_
 refine thn (hb pins s1 σ H1 _ I1 q1) λ u s2 ⟨y, H2, I2, r2, q2⟩ => ?_
 exact hf v u s2 x y H2 I2 r1 r2 q2
theorem znm {op : Operator} {r : R2} (ho : OpR X (binaryOp op) r) (ha : PE X a ta) (hb : PE X b tb) : PE X (.BinOp a op b pos) (tOp r ta tb) := by
 intro pins s σ H Q I h
 exact wpAny_BinOp (zoe ha hb I h λ v u s2 x y H2 I2 rx ry q => ho pins s2 σ H2 x y v u Q I2 rx ry q)
theorem opI {f : Value -> Value -> Sem Value} {C : Int -> Int -> Prop} {g : Int -> Int -> Int}
 (rule : ∀ (i j : Int) (t u : Tok) (s : Shared) (Q : Value -> Shared -> Prop) (E : Value -> Shared -> Prop), C i j -> Q (.int (g i j) s.toks) { s with toks := s.toks + 1 } -> wpAny (model X.prog X.w) X.A (f (.int i t) (.int j u)) Q E s) :
 OpR X f (rI C λ i j => .int (g i j)) := by
 intro pins s σ H x y v u Q I rx ry h
 obtain ⟨i, j, rfl, rfl, hc, q⟩ := h
 obtain ⟨t, rfl⟩ := rx
 obtain ⟨t', rfl⟩ := ry
 exact rule i j t t' s _ _ hc ⟨.int (g i j), H, I.tok _, ⟨_, rfl⟩, q⟩
theorem zqa {f : Value -> Value -> Sem Value} {g : Int -> Int -> Int}
 (rule : ∀ (i j : Int) (t u : Tok) (s : Shared) (Q : Value -> Shared -> Prop) (E : Value -> Shared -> Prop), Q (.int (g i j) s.toks) { s with toks := s.toks + 1 } -> wpAny (model X.prog X.w) X.A (f (.int i t) (.int j u)) Q E s) :
 OpR X f (rI0 λ i j => .int (g i j)) := by
 intro pins s σ H x y v u Q I rx ry h
 obtain ⟨i, j, rfl, rfl, q⟩ := h
 obtain ⟨t, rfl⟩ := rx
 obtain ⟨t', rfl⟩ := ry
 exact rule i j t t' s _ _ ⟨.int (g i j), H, I.tok _, ⟨_, rfl⟩, q⟩
theorem zmb {f : Value -> Value -> Sem Value} {g : Int -> Int -> Bool}
 (rule : ∀ (i j : Int) (t u : Tok) (s : Shared) (Q : Value -> Shared -> Prop) (E : Value -> Shared -> Prop), Q (.bool (g i j)) s -> wpAny (model X.prog X.w) X.A (f (.int i t) (.int j u)) Q E s) :
 OpR X f (rI0 λ i j => .bl (g i j)) := by
 intro pins s σ H x y v u Q I rx ry h
 obtain ⟨i, j, rfl, rfl, q⟩ := h
 obtain ⟨t, rfl⟩ := rx
 obtain ⟨t', rfl⟩ := ry
 exact rule i j t t' s _ _ ⟨.bl (g i j), H, I, rfl, q⟩
def zrk (i j : Int) : Prop := 0 < j /\ j < 1073741824
def zra (i j : Int) : Prop := 0 <= j /\ j <= 1000000 /\ i.natAbs < 2 ^ 64
theorem znM : OpR X (binaryOp .Add) (rI0 λ i j => .int (i + j)) := zqa λ _ _ _ _ _ _ _ q => add_int q
theorem znI : OpR X (binaryOp .Sub) (rI0 λ i j => .int (i - j)) := zqa λ _ _ _ _ _ _ _ q => sub_int q
theorem zkV : OpR X (binaryOp .Mod) (rI (λ _ j => 0 < j) λ i j => .int (i % j)) := opI λ i j _ _ _ _ _ hc q => by
 have h1 : (0 : Int) < j := hc
 exact mod_int' (by omega) (by rw [Int.fmod_eq_emod_of_nonneg i (by omega)]; exact q)
theorem zoC : OpR X (binaryOp .Pow) (rI zra λ i j => .int (i ^ j.toNat)) := opI λ _ _ _ _ _ _ _ hc q => pow_int_small hc.1 hc.2.1 hc.2.2 q
end
section
variable {X : Cx} {a b c : Expr} {ta tb tc : TE} {pos : Pos}
theorem vK (I : Inv X pins σ H s) (q : Q (.bl k) H) (e : k = k') : EP X pins σ Q (.bool k') s := by
 subst e
 exact ⟨.bl k, H, I, rfl, q⟩
theorem zpy : OpR X (compareOp .Lt) (rI0 λ i j => .bl (decide (i < j))) := zmb λ _ _ _ _ _ _ _ q => lt_int q
theorem zpu : OpR X (compareOp .LtE) (rI0 λ i j => .bl (decide (i <= j))) := zmb λ _ _ _ _ _ _ _ q => le_int q
theorem zpL : OpR X (compareOp .Gt) (rI0 λ i j => .bl (decide (j < i))) := zmb λ _ _ _ _ _ _ _ q => gt_int q
theorem zpU : OpR X (compareOp .GtE) (rI0 λ i j => .bl (decide (j <= i))) := zmb λ _ _ _ _ _ _ _ q => ge_int q
theorem zjB : OpR X (compareOp .In) (λ x y H Q => ∃ i j, x = .str i /\ y = .str j /\ Q (.bl (!(Builtin.Str.occurrences j i 0 j.length 1).isEmpty)) H) := by
 intro pins s σ H x y v u Q I rx ry h
 obtain ⟨i, j, rfl, rfl, q⟩ := h
 obtain ⟨t, rfl⟩ := rx
 obtain ⟨t', rfl⟩ := ry
 exact in_str (vK I q rfl)
theorem zoH : OpR X (compareOp .Is) (λ x y H Q => y = .non /\ Q (.bl (decide (x = .non))) H) := by
 intro pins s σ H x y v u Q I rx ry h
 obtain ⟨rfl, q⟩ := h
 cases ry
 refine is_none_gen (vK I q ?_)
 cases x <;> first
  | (cases rx; rfl)
  | (obtain ⟨t, rfl⟩ := rx; rfl)
theorem zmN : OpR X (compareOp .IsNot) (λ x y H Q => y = .non /\ Q (.bl (!decide (x = .non))) H) := by
 intro pins s σ H x y v u Q I rx ry h
 obtain ⟨rfl, q⟩ := h
 cases ry
 refine isnot_none_gen (vK I q ?_)
 cases x <;> first
  | (cases rx; rfl)
  | (obtain ⟨t, rfl⟩ := rx; rfl)
theorem zgb : OpR X (compareOp .NotIn) (λ x y H Q => ∃ i j, x = .str i /\ y = .str j /\ Q (.bl (!(!(Builtin.Str.occurrences j i 0 j.length 1).isEmpty))) H) := by
 intro pins s σ H x y v u Q I rx ry h
 obtain ⟨i, j, rfl, rfl, q⟩ := h
 obtain ⟨t, rfl⟩ := rx
 obtain ⟨t', rfl⟩ := ry
 exact notIn_str (vK I q rfl)
theorem yq (b : Expr) (h : op ≠ .In := by decide) (h2 : op ≠ .NotIn := by decide) : behindInMarks op b = false := by
 have e1 : (op == CmpOp.In) = false := by cases op <;> first | rfl | exact absurd rfl h
 have e2 : (op == CmpOp.NotIn) = false := by cases op <;> first | rfl | exact absurd rfl h2
 cases b <;> simp [behindInMarks, e1, e2]
theorem zmC {op : CmpOp} {r : R2} (ho : OpR X (compareOp op) r) (ha : PE X a ta) (hb : PE X b tb) (hm : behindInMarks op b = false) : PE X (.Compare a [op] [b] pos) (tOp r ta tb) := by
 intro pins s σ H Q I h
 exact wpAny_Compare1 (zoe ha hb I h λ v u s2 x y H2 I2 rx ry q => ho pins s2 σ H2 x y v u Q I2 rx ry q) hm
def zqr (t : TE) : TT := λ σ H Q => t σ H λ x H' => ∃ k, x = .bl k /\ Q k H'
theorem zna (ho : OpR X (compareOp op) r) (ha : PE X a ta) (hb : PE X b tb) (hm : behindInMarks op b = false) : PT X (.Compare a [op] [b] pos) (zqr (tOp r ta tb)) := by
 intro pins s σ H Q I h
 refine wpAny_isTrue_Compare1 (thn (ha pins s σ H _ I h) λ v s1 ⟨x, H1, I1, r1, q1⟩ => thn (hb pins s1 σ H1 _ I1 q1) λ u s2 ⟨y, H2, I2, r2, q2⟩ =>
  thn (ho pins s2 σ H2 x y v u _ I2 r1 r2 q2) λ c s3 ⟨z, H3, I3, r3, k, e, q3⟩ => ?_) hm
 subst e
 cases r3
 exact wpAny_truthy_bool ⟨H3, I3, q3⟩
def zof (K : zC) (x : V) (H : Hp) (k : Bool) : Prop :=
 match x with
 | .non => k = false
 | .bl b => k = b
 | .int i => k = (i != 0)
 | .str y => y.length <= sizeLine /\ k = ((y.length : Int) != 0)
 | .byt y => y.size <= sizeLine /\ k = ((y.size : Int) != 0)
 | .ref p => (∃ xs, SqL K H p xs /\ k = !xs.isEmpty) \/ (∃ xs, SqT K H p xs /\ k = !xs.isEmpty) \/ ∃ kvs, H p = some (.dK kvs) /\ k = !kvs.isEmpty
 | _ => False
theorem zhC (r : KV kvs vs) : (!vs.isEmpty) = !kvs.isEmpty := by
 cases r <;> rfl
theorem zdj (r : Vals xs its) : (!its.toArray.isEmpty) = !xs.isEmpty := by
 cases r <;> simp
theorem zao : (sizeLine : Nat) < 2 ^ 63 := by rw [sizeLine_eq]; decide
theorem zpi : zqN X (λ x H Q => ∃ k, zof X.K x H k /\ Q k H) := by
 intro pins s σ H x v Q I rx h
 obtain ⟨k, e, q⟩ := h
 have hl := zao
 have hs : sizeLine = 16777216 := sizeLine_eq
 cases x with
 | non =>
  cases rx
  have e' : k = false := e
  subst e'
  exact truthy_none ⟨H, I, q⟩
 | bl b =>
  cases rx
  have e' : k = b := e
  subst e'
  exact wpAny_truthy_bool ⟨H, I, q⟩
 | int i =>
  obtain ⟨t, rfl⟩ := rx
  have e' : k = (i != 0) := e
  subst e'
  exact PySem.P.truthy_int ⟨H, I, q⟩
 | str y =>
  obtain ⟨t, rfl⟩ := rx
  obtain ⟨hy, e'⟩ : y.length <= sizeLine /\ k = ((y.length : Int) != 0) := e
  subst e'
  exact PySem.P.truthy_str (by omega) ⟨H, I.tok _, q⟩
 | byt y =>
  obtain ⟨t, rfl⟩ := rx
  obtain ⟨hy, e'⟩ : y.size <= sizeLine /\ k = ((y.size : Int) != 0) := e
  subst e'
  exact PySem.W.truthy_bytes (by omega) ⟨H, I.tok _, q⟩
 | ref p =>
  cases rx
  have e' : (∃ xs, SqL X.K H p xs /\ k = !xs.isEmpty) \/ (∃ xs, SqT X.K H p xs /\ k = !xs.isEmpty) \/ ∃ kvs, H p = some (.dK kvs) /\ k = !kvs.isEmpty := e
  rcases e' with ⟨xs, hx, e'⟩ | ⟨xs, hx, e'⟩ | ⟨kvs, hx, e'⟩
  · subst e'
    obtain ⟨its, r, pl, hz⟩ := I.list hx
    have hlen := r.length
    exact wpAny_truthy_list pl.isList (by simp only [zzF]; omega) ⟨H, I.tok _, by rw [zdj r]; exact q⟩
  · subst e'
    obtain ⟨its, r, pl, hz⟩ := I.tuple hx
    have hlen := r.length
    exact truthy_tuple pl (by simp only [zzF]; omega) ⟨H, I.tok _, by rw [zdj r]; exact q⟩
  · subst e'
    obtain ⟨hz, hS, vs, r, m⟩ : kvs.length <= sizeLine /\ (p == sysModules) = false /\ ∃ vs, KV kvs vs /\ s.heap.DictOf (Zg X.prog X.w) p vs := I.hok p _ hx
    have hlen : kvs.length = vs.length := Paired.length r
    exact wpAny_truthy_dict hS m (by omega) ⟨H, I.tok _, by rw [zhC r]; exact q⟩
 | _ => exact (show False from e).elim
theorem zlm (ha : PE X a ta) (he : ∀ whole, isTrue a X.env whole = (do let v <- whole; standAt a.pos; holding [v] (truthy v))) :
 PT X a (λ σ H Q => ta σ H λ x H' => ∃ k, zof X.K x H' k /\ Q k H') := by
 intro pins s σ H Q I h
 exact isTrue_plain (thn (ha pins s σ H _ I h) λ v s1 ⟨x, H1, I1, r1, q1⟩ => zpi pins s1 σ H1 x v Q I1 r1 q1) (he _)
theorem zhU : OpR X (binaryOp .Add) (λ x y H Q => ∃ i j, x = .str i /\ y = .str j /\ i.length + j.length <= sizeLine /\ Q (.str (i ++ j)) H) := by
 intro pins s σ H x y v u Q I rx ry h
 obtain ⟨i, j, rfl, rfl, hz, q⟩ := h
 obtain ⟨t, rfl⟩ := rx
 obtain ⟨t', rfl⟩ := ry
 exact add_str (λ t' tk => ⟨.str (i ++ j), H, I.tok _, ⟨_, rfl⟩, q⟩) hz
theorem vals1 (r : Vals [x] us) : ∃ u, us = [u] /\ RelV x u := by
 cases r with
 | cons r1 r2 => cases r2; exact ⟨_, rfl, r1⟩
theorem vals2 (r : Vals [x, y] us) : ∃ u w', us = [u, w'] /\ RelV x u /\ RelV y w' := by
 cases r with
 | cons r1 r2 =>
  cases r2 with
  | cons r3 r4 => cases r4; exact ⟨_, _, rfl, r1, r3⟩
theorem zjs (hc : X.calm = true) : V3 X (.builtin "max") (λ xs H Q => ∃ i j, xs = [.int i, .int j] /\ Q (.int (if j > i then j else i)) H) := by
 intro pins s σ H xs us Q I r h
 obtain ⟨i, j, rfl, q⟩ := h
 obtain ⟨u, w', rfl, ⟨t, rfl⟩, ⟨t', rfl⟩⟩ := vals2 r
 refine max_two_ints (I.ok.hd hc) λ h' tk k => ⟨_, H, I.kept k, ?_, q⟩
 by_cases hj : j > i
 · rw [if_pos hj, if_pos hj]; exact ⟨_, rfl⟩
 · rw [if_neg hj, if_neg hj]; exact ⟨_, rfl⟩
theorem zfu : V3 X (.type "int") (λ xs H Q => (∃ i, xs = [.int i] /\ Q (.int i) H) \/ ∃ k, xs = [.bl k] /\ Q (.int (if k then 1 else 0)) H) := by
 intro pins s σ H xs us Q I r h
 rcases h with ⟨i, rfl, q⟩ | ⟨k, rfl, q⟩
 · obtain ⟨u, rfl, t, rfl⟩ := vals1 r
   exact call_int_int ⟨.int i, H, I, ⟨_, rfl⟩, q⟩
 · obtain ⟨u, rfl, r1⟩ := vals1 r
   cases r1
   exact call_int_bool ⟨.int (if k then 1 else 0), H, I.tok _, ⟨_, rfl⟩, q⟩
theorem zgF : V3 X (.builtin "divmod") (λ xs H Q => ∃ i j, xs = [.int i, .int j] /\ zrk i j /\ ∀ p, H p = none -> Q (.ref p) (upd H p (.tup [.int (i / j), .int (i % j)]))) := by
 intro pins s σ H xs us Q I r h
 obtain ⟨i, j, rfl, ⟨h1, h2⟩, q⟩ := h
 obtain ⟨u, w', rfl, ⟨t, rfl⟩, ⟨t', rfl⟩⟩ := vals2 r
 refine divmod_int (by omega) ?_ (.inl (PyProof.noPylong_small (by omega)))
 rw [Int.fdiv_eq_ediv_of_nonneg i (by omega), Int.fmod_eq_emod_of_nonneg i (by omega)]
 have hn : H s.heap.objs.size = none := I.hok.fresh (zzL _)
 refine ⟨.ref s.heap.objs.size, _, ?_, rfl, q _ hn⟩
 refine I.laid (λ b o e => Heap.get?_push_of_some _ e) (zzL _) ⟨by simp only [zzR, List.length_nil]; rw [sizeLine_eq]; decide, [.int (i / j) s.toks, .int (i % j) (s.toks + 1)], .cons ⟨_, rfl⟩ (.cons ⟨_, rfl⟩ .nil), ?_⟩
 exact ⟨_, Heap.get?_push_size s.heap rfl, rfl, 0, rfl⟩
end
end L2
namespace L2
open PySem PySem.Spec PyProof.Rows
structure ObjM (h : Heap) (x dx C : Addr) (mA : Str -> Option Value) : Prop where
 obj : h.get? x = some (PySem.W.instObj C dx)
 ns : h.Ns1 dx mA
 ne : dx ≠ x
theorem zhq.some_of (r : zhq (some v) o) : ∃ u, o = some u /\ RelV v u := by
 cases o with
 | none => exact (show False from r).elim
 | some u => exact ⟨u, rfl, r⟩
structure Cls (K : zC) (C : Addr) : Prop where
 pg : PySem.W.plainGet K C Str.empty = true
 hd : PySem.W.hasDictIn K C = true
 po : PySem.W.plainOver K C = true
 sa : PySem.W.findIn K (.ref C) "__setattr__" = some (some (.builtin "object.__setattr__"))
structure Con (K : zC) (C : Addr) (f : Str) (v : V) (u : Value) : Prop where
 at_ : PySem.W.findIn K (.ref C) f = some (some u)
 rel : RelV v u
 get : PySem.W.specialIn K u "__get__" = some none
 cp : PySem.W.copiedNames.contains f = false
structure Meth (K : zC) (C : Addr) (m : Str) (f : Addr) : Prop where
 at_ : PySem.W.findIn K (.ref C) m = some (some (.ref f))
 fn : PySem.W.isFn K (.ref f) = true
 kp : PySem.W.keepIn K (.ref f) = true
section
variable {X : Cx} {pins : List (Addr × Obj)} {σ : St} {H : Hp} {s : Shared} {A : Around} {E : Value -> Shared -> Prop} {Q : Value -> Shared -> Prop} {c : Value} {b : Bool}
inductive TyOf (K : zC) (H : Hp) : V -> Value -> Prop where
 | non : TyOf K H .non (.type "NoneType")
 | bl (x : Bool) : TyOf K H (.bl x) (.type "bool")
 | int (i : Int) : TyOf K H (.int i) (.type "int")
 | str (x : Str) : TyOf K H (.str x) (.type "str")
 | flt (x : UInt64) : TyOf K H (.flt x) (.type "float")
 | lst {a : Addr} {xs : List V} (e : H a = some (.lst xs)) : TyOf K H (.ref a) (.type "list")
 | frz {a : Addr} {o : Obj} {xs : List V} (e : H a = some (.frz o (.lst xs))) : TyOf K H (.ref a) (.type "list")
 | tup {a : Addr} {xs : List V} (e : H a = some (.tup xs)) : TyOf K H (.ref a) (.type "tuple")
 | dK {a : Addr} {kvs : List (Key × V)} (e : H a = some (.dK kvs)) : TyOf K H (.ref a) (.type "dict")
 | dT {a : Addr} {kvs : List (List Key × V)} (e : H a = some (.dT kvs)) : TyOf K H (.ref a) (.type "dict")
 | ins {a C dx : Addr} {fs : List (Str × V)} (e : H a = some (.ins C dx fs)) (cl : Cls K C) (ha : PySem.W.findIn K (.ref C) "__class__" = some (some (.builtin "object.__class__")))
  (hn : PySem.W.specialIn K (.builtin "object.__class__") "__get__" = some (some (.builtin "getset_descriptor.__get__"))) (htk : PySem.W.takesIn K (.builtin "object.__class__") = some true)
  (hm : PySem.W.mroIn K C (.type "object") = some true) : TyOf K H (.ref a) (.ref C)
end
end L2
namespace L2
open PySem PySem.Spec PyProof.Rows
structure Room (k : Nat) (A : Around) : Prop where
 hd : A.handled = none
 dp : A.depth + 3 * k + 5 < recursionLimit
 un : A.units + 16 * k + 200 < cLine
 gd : A.guards = some []
theorem Room.mono (r : Room k A) (h : j <= k) : Room j A := ⟨r.hd, by have := r.dp; omega, by have := r.un; omega, r.gd⟩
theorem Room.deeper (r : Room (k + 1) A) (env : Env) : Room k (A.deeper env) :=
 ⟨r.hd, by have := r.dp; show A.depth + 1 + 3 * k + 5 < _; omega, by have := r.un; show A.units + 3 + 16 * k + 200 < _; omega, r.gd⟩
theorem Room.depth (r : Room k A) : A.depth < recursionLimit := by have := r.dp; omega
def zqf : TA := λ _ H Q => Q [] H
def znv (ta : TE) (tr : TA) : TA := λ σ H Q => ta σ H λ x H1 => tr σ H1 λ xs H2 => Q (x :: xs) H2
section
variable {X : Cx} {e : Expr} {es : List Expr} {te : TE} {t : TA} {pos : Pos}
theorem zey : PA X [] zqf := λ _ _ _ _ H Q I h => Calls.spliced_nil ⟨[], H, I, .nil, h⟩
theorem VF (ha : PE X e te) (hr : PA X es t) (hs : starEach (e :: es) X.env = (false, eval e X.env) :: starEach es X.env := by rfl) : PA X (e :: es) (znv te t) := by
 intro pos pins s σ H Q I h
 rw [hs]
 show wpAny _ _ (spliced ((false, eval e X.env) :: backTo pos (starEach es X.env))) _ _ s
 refine Calls.spliced_cons (thn (ha pins s σ H _ I h) λ u s1 ⟨x, H1, I1, r1, q1⟩ => ?_)
 exact thn (hr pos pins s1 σ H1 _ I1 q1) λ us s2 ⟨xs, H2, I2, r2, q2⟩ => ⟨x :: xs, H2, I2, .cons r1 r2, q2⟩
def zqJ (t : TA) : TE := λ σ H Q => t σ H λ xs H1 => xs.length <= sizeLine /\ ∀ p, H1 p = none -> Q (.ref p) (upd H1 p (.tup xs))
def zqM (t : TA) : TE := λ σ H Q => t σ H λ xs H1 => xs.length <= sizeLine /\ ∀ p, H1 p = none -> Q (.ref p) (upd H1 p (.lst xs))
theorem znO (h : PA X es t) : PE X (.Tuple es x1 pos) (zqJ t) := by
 intro pins s σ H Q I hq
 refine wpAny_Tuple_spliced (thn (h pos pins s σ H _ I hq) λ us s1 ⟨xs, H1, I1, r, z, q⟩ => ⟨by rw [<- r.length]; exact z, ?_⟩)
 have hf : H1 s1.heap.objs.size = none := I1.hok.fresh (zzL _)
 refine ⟨.ref s1.heap.objs.size, upd H1 s1.heap.objs.size (.tup xs), I1.laid (t' := s1.toks) (λ b u e => Heap.get?_push_of_some _ e) (zzL _) ?_, rfl, q _ hf⟩
 exact ⟨z, us, r, ⟨_, Heap.get?_push_size _ rfl, rfl, _, rfl⟩⟩
theorem znF (h : PA X es t) : PE X (.List es pos) (zqM t) := by
 intro pins s σ H Q I hq
 refine wpAny_List_spliced (thn (h pos pins s σ H _ I hq) λ us s1 ⟨xs, H1, I1, r, z, q⟩ => ⟨by rw [<- r.length]; exact z, ?_⟩)
 have hf : H1 s1.heap.objs.size = none := I1.hok.fresh (zzL _)
 refine ⟨.ref s1.heap.objs.size, upd H1 s1.heap.objs.size (.lst xs), I1.laid (t' := s1.toks) (λ b u e => Heap.get?_push_of_some _ e) (zzL _) ?_, rfl, q _ hf⟩
 exact ⟨z, us, 0, r, Heap.get?_push_size _ rfl⟩
end
abbrev Sp := List V -> Hp -> VK -> XK -> Prop
abbrev CXT := List Env -> Hp -> Shared -> XK -> Value -> Shared -> Prop
structure Env0 (P : Program) (w : World) (K : zC) (mg : Str -> Option Value) (base : Heap) (A : Around) (outer : List Env) (s : Shared) (H : Hp) : Prop where
 frames : A.frames = some outer
 mod : Mod K mg base
 bs : ∀ b o, base.get? b = some o -> s.heap.get? b = some o /\ H b = none
 bsz : base.objs.size <= s.heap.objs.size
 funs : s.heap.FunFrames base outer
 frf : ∀ b ∈ frs outer, H b = none
 hok : HOk P w H s.heap
 bare : AllBare s.gens
def CE (outer : List Env) (P : Program) (w : World) (H : Hp) (s : Shared) (Q : VK) (u : Value) (s' : Shared) : Prop :=
 ∃ v H', s'.os = s.os /\ AllBare s'.gens /\ Un (frs outer) [] H H' s.heap s'.heap /\ HOk P w H' s'.heap /\ RelV v u /\ Q v H'
def CR (CX : CXT) (outer : List Env) (P : Program) (w : World) (H : Hp) (s : Shared) (Q : VK) (E : XK) (r : Result) (s' : Shared) : Prop :=
 match r with
 | .ok (.ret u) => CE outer P w H s Q u s'
 | .ok _ => False
 | .error e => CX outer H s E e s'
structure FnOk (P : Program) (w : World) (K : zC) (mg : Str -> Option Value) (base : Heap) (CX : CXT) (k : Nat) (f : Addr) (fd : FuncData) (ps : List Str) (sp : Sp) : Prop where
 len : ∀ vs H Q E, sp vs H Q E -> vs.length = ps.length
 run : ∀ (A : Around) (outer : List Env) (s : Shared) (H : Hp) (args : Args) (us : List Value) (vs : List V) (Q : VK) (E : XK), Room k A -> Env0 P w K mg base A outer s H -> BindsTo s fd args (ps.zip us) -> Vals vs us -> sp vs H Q E ->
  codeAny (model P w) A (.call (.ref f) args) (CR CX outer P w H s Q E) s
theorem FnOk.imp {P : Program} {w : World} {K : zC} {mg : Str -> Option Value} {base : Heap} {CX : CXT} {k : Nat} {f : Addr} {fd : FuncData} {ps : List Str} {sp sp' : Sp} (F : FnOk P w K mg base CX k f fd ps sp)
 (h : ∀ vs H Q E, sp' vs H Q E -> sp vs H Q E) : FnOk P w K mg base CX k f fd ps sp' :=
 ⟨λ vs H Q E q => F.len vs H Q E (h _ _ _ _ q), λ A outer s H args us vs Q E hr he hb hv hs => F.run A outer s H args us vs Q E hr he hb hv (h _ _ _ _ hs)⟩
section
variable {X : Cx} {pins : List (Addr × Obj)} {σ : St} {H : Hp} {s s' : Shared}
theorem Inv.env0 (I : Inv X pins σ H s) : Env0 X.prog X.w X.K X.mg X.base X.A X.stack s H :=
 ⟨I.ok.frames, I.ok.mod, I.bs, zzM I.ok.bsz I.sz, I.stack, I.stkFree, I.hok, I.bare⟩
theorem Inv.after (I : Inv X pins σ H s) (h : CE X.stack X.prog X.w H s Q u s') : EP X pins σ Q u s' := by
 obtain ⟨v, H', os, bare, un, hok, r, q⟩ := h
 obtain ⟨hh, g, d, t, os'⟩ := s'
 obtain rfl : os' = s.os := os
 exact ⟨v, H', I.call (h' := hh) (g' := g) (d' := d) (t' := t) (ch := []) un hok bare (λ b z => absurd z (by simp)), r, q⟩
end
def znw (sp : Sp) (dvs : List V) (E : XK) (t : TA) : TE := λ σ H Q => t σ H λ vs H1 => sp (vs ++ dvs) H1 Q E
def Binds (K : zC) (fd : FuncData) (ps : List Str) (ds : List Value) : Prop :=
 ∀ (s : Shared) (us : List Value), K.In s.heap -> (us ++ ds).length = ps.length -> BindsTo s fd ⟨us, []⟩ (ps.zip (us ++ ds))
theorem Binds.all {K : zC} {fd : FuncData} {ps : List Str} (h : ∀ us : List Value, us.length = ps.length -> bindArgs fd ⟨us, []⟩ = pure (ps.zip us)) : Binds K fd ps [] := λ s us _ hl => by
 rw [List.append_nil] at hl ⊢
 exact .of_eq (h us hl)
def zfJ (CX : CXT) (X : Cx) (E : XK) : Prop := ∀ (pins : List (Addr × Obj)) (σ : St) (H : Hp) (s : Shared) (e : Value) (s' : Shared), Inv X pins σ H s -> CX X.stack H s E e s' -> X.xe e s'
section
variable {X : Cx} {CX : CXT} {k : Nat} {f C : Addr} {fd : FuncData} {ps : List Str} {sp : Sp} {dvs : List V} {ds : List Value} {E : XK} {x m : Str} {p pos apos : Pos} {e o : Expr} {es : List Expr} {ta : TE} {t : TA}
theorem zoP (F : FnOk X.prog X.w X.K X.mg X.base CX k f fd ps sp) (hr : Room k X.A) (hb : Binds X.K fd ps ds) (hd : Vals dvs ds) (hx : zfJ CX X E)
 (I : Inv X pins σ H s) (r : Vals vs us) (h : sp (vs ++ dvs) H Q E) : wpAny (model X.prog X.w) X.A (call (.ref f) us) (EP X pins σ Q) X.xe s := by
 have r2 : Vals (vs ++ dvs) (us ++ ds) := r.append hd
 have hl : (us ++ ds).length = ps.length := by rw [<- r2.length]; exact F.len _ _ _ _ h
 refine wpAny_call (codeAny_mono (F.run X.A X.stack s H ⟨us, []⟩ (us ++ ds) (vs ++ dvs) Q E hr I.env0 (hb s us I.kIn hl) r2 h) λ r s' hq => ?_)
 cases r with
 | error e => exact hx pins σ H s e s' I hq
 | ok fl =>
  cases fl with
  | ret u => exact I.after hq
  | next => exact False.elim hq
  | brk => exact False.elim hq
  | cont => exact False.elim hq
theorem zmE (F : FnOk X.prog X.w X.K X.mg X.base CX k f fd ps sp) (hr : Room k X.A) (hg : Gl X x) (hm : X.mg x = some (.ref f)) (hk : PySem.W.keepIn X.K (.ref f) = true) (hb : Binds X.K fd ps ds) (hd : Vals dvs ds) (hx : zfJ CX X E)
 (ha : PA X (e :: es) t) (hdb : (x == ("__debug__" : Str)) = false := by decide) (he : starEach (e :: es) X.env = (false, eval e X.env) :: starEach es X.env := by rfl) (hpl : (backTo pos (starEach es X.env)).any (·.1) = false := by rfl) :
 PE X (.Call (.Name x p) (e :: es) [] pos) (znw sp dvs E t) := by
 intro pins s σ H Q I h
 refine wpAny_Call_Name_kw (zmK I hg hm ?_ hdb)
 refine PySem.W.callWith_K (h₀ := X.base) I.ok.mod.kin hk (thn (ha pos pins s σ H _ I h) λ us s1 ⟨vs, H1, I1, r, q⟩ => ⟨I1.kIn, ?_⟩) he hpl
 exact zoP F hr hb hd hx I1 r q
structure Mk (K : zC) (C f : Addr) : Prop where
 makes : PySem.W.makesIn K C = true
 init : PySem.W.findIn K (.ref C) "__init__" = some (some (.ref f))
 fn : PySem.W.isFn K (.ref f) = true
 kp : PySem.W.keepIn K (.ref C) = true
end
section
variable {X : Cx} {CX : CXT} {k : Nat} {f C : Addr} {fd : FuncData} {ps ks : List Str} {sp : Sp} {E : XK} {x m : Str} {p pos apos kpos : Pos} {e o : Expr} {es : List Expr} {kws : List Keyword} {te ta : TE} {t tk : TA} {nm : Option Str}
structure KBinds (K : zC) (fd : FuncData) (ps ks : List Str) (g : List Value -> List Value -> List Value) (gV : List V -> List V -> List V) : Prop where
 to : ∀ (s : Shared) (us ws : List Value), K.In s.heap -> (g us ws).length = ps.length -> BindsTo s fd ⟨us, ks.zip ws⟩ (ps.zip (g us ws))
 rel : ∀ {vs : List V} {us : List Value} {zs : List V} {ws : List Value}, Vals vs us -> Vals zs ws -> Vals (gV vs zs) (g us ws)
variable {g : List Value -> List Value -> List Value} {gV : List V -> List V -> List V}
end
structure FnScope (N P : List Str) (sc : Scope) : Prop where
 kind : sc.kind = .function
 co : sc.isCoroutine = false
 gen : sc.isGenerator = false
 nd : N.Nodup
 pre : N.take P.length = P
 par : ∀ x ∈ P, sc.names.lookup x = some .local \/ sc.names.lookup x = some .cell
 nofree : ∀ y ∈ sc.names, y.2 ≠ .free
theorem zfx {kindOf : Str -> Option NameKind} {x : Str} : ∀ {binds : List (Str × Value)} {m : Str -> Option Value}, (∀ v, (x, v) ∉ binds) -> bindL kindOf binds m x = m x
 | [], _, _ => rfl
 | (n, v) :: r, m, h => by
  unfold bindL
  rw [zfx λ w hw => h w (zzB _ hw)]
  split
  · have : x ≠ n := by rintro rfl; exact h v zzD
    simp [this]
  · rfl
theorem zfn {kindOf : Str -> Option NameKind} {x : Str} : ∀ {binds : List (Str × Value)} {m : Str -> Option Value}, (∀ v, (x, v) ∉ binds) -> bindC kindOf binds m x = m x
 | [], _, _ => rfl
 | (n, v) :: r, m, h => by
  unfold bindC
  rw [zfn λ w hw => h w (zzB _ hw)]
  split
  · rfl
  · have : x ≠ n := by rintro rfl; exact h v zzD
    simp [this]
theorem zeU {kindOf : Str -> Option NameKind} {x : Str} {v : Value} : ∀ {P : List Str} {vs : List Value} {i : Nat} {m : Str -> Option Value}, P.Nodup -> P[i]? = some x -> vs[i]? = some v -> kindOf x = some .local ->
 bindL kindOf (P.zip vs) m x = some v
 | [], _, _, _, _, h, _, _ => by simp at h
 | _ :: _, [], _, _, _, _, h, _ => by simp at h
 | p :: P, w :: vs, 0, m, nd, h1, h2, hk => by
  simp at h1 h2; subst h1; subst h2
  show bindL kindOf ((p, w) :: P.zip vs) m p = _
  unfold bindL
  rw [zfx λ v hv => (zzU.mp nd).1 (List.of_mem_zip hv).1, if_pos hk]
  simp
 | p :: P, w :: vs, i + 1, m, nd, h1, h2, hk => by
  show bindL kindOf ((p, w) :: P.zip vs) m x = _
  unfold bindL
  exact zeU (i := i) (zzU.mp nd).2 (by simpa using h1) (by simpa using h2) hk
theorem zff {kindOf : Str -> Option NameKind} {x : Str} {v : Value} : ∀ {P : List Str} {vs : List Value} {i : Nat} {m : Str -> Option Value}, P.Nodup -> P[i]? = some x -> vs[i]? = some v -> kindOf x ≠ some .local ->
 bindC kindOf (P.zip vs) m x = some v
 | [], _, _, _, _, h, _, _ => by simp at h
 | _ :: _, [], _, _, _, _, h, _ => by simp at h
 | p :: P, w :: vs, 0, m, nd, h1, h2, hk => by
  simp at h1 h2; subst h1; subst h2
  show bindC kindOf ((p, w) :: P.zip vs) m p = _
  unfold bindC
  rw [zfn λ v hv => (zzU.mp nd).1 (List.of_mem_zip hv).1, if_neg hk]
  simp
 | p :: P, w :: vs, i + 1, m, nd, h1, h2, hk => by
  show bindC kindOf ((p, w) :: P.zip vs) m x = _
  unfold bindC
  exact zff (i := i) (zzU.mp nd).2 (by simpa using h1) (by simpa using h2) hk
def start (N : List Str) (vs : List V) : St := vs.map some ++ List.replicate (N.length - vs.length) none
def zhJ (CX : CXT) (P : Program) (w : World) (K : zC) (mg : Str -> Option Value) (base : Heap) (N : List Str) (qual : Str) (scope : Scope) (f : Addr) (cd : Value) (A : Around) (outer : List Env) (s : Shared) (H : Hp) (E : XK) : Cx where
 prog := P
 w := w
 K := K
 mg := mg
 base := base
 A := A.deeper (envOfC qual scope s.heap.objs.size f cd)
 N := N
 s₀ := s
 H₀ := H
 env := envOfC qual scope s.heap.objs.size f cd
 outer := outer
 stack := envOfC qual scope s.heap.objs.size f cd :: outer
 ex := []
 calm := true
 fn := λ _ => true
 pn := []
 xe := λ e s' => wpAny (model P w) (A.deeper (envOfC qual scope s.heap.objs.size f cd)) (leaving (envOfC qual scope s.heap.objs.size f cd) e) (λ _ s'' => CX outer H s E e s'') (λ e' s'' => CX outer H s E e' s'') s'
theorem zgT {sc : Scope} {n : Nat} {x : Str} (h : sc.names.lookup x = some .cell) : ∃ c, (cellsFrom n sc.names []).lookup x = some c := by
 have q := PySem.W.cellsFrom_some sc.names n [] (.inl h)
 exact Option.isSome_iff_exists.mp q
theorem zjr {CX : CXT} {P : Program} {w : World} {K : zC} {mg : Str -> Option Value} {base : Heap} {N ps : List Str} {qual : Str} {scope : Scope} {f : Addr} {cd : Value} {A : Around} {outer : List Env} {s s1 : Shared} {H : Hp} {E : XK} {us : List Value} {vs : List V}
 (S : FnScope N ps scope) (hd : A.handled = none) (e0 : Env0 P w K mg base A outer s H) (hl : vs.length = ps.length) (r : Vals vs us)
 (x : InCallC s s.heap.objs.size (bindL (envOfC qual scope s.heap.objs.size f cd).kindOf (ps.zip us) λ _ => none) (cellsFrom (s.heap.objs.size + 1) scope.names []) (bindC (envOfC qual scope s.heap.objs.size f cd).kindOf (ps.zip us) λ _ => none) s1) :
 Inv (zhJ CX P w K mg base N qual scope f cd A outer s H E) [] (start N vs) H s1 := by
 have hpl : ps.length <= N.length := by have := congrArg List.length S.pre; rw [zzQ] at this; omega
 obtain ⟨h1, tk, rfl, hk⟩ := x.done
 have noA : ∀ b : Addr, b ∉ (zhJ CX P w K mg base N qual scope f cd A outer s H E).ex := λ b z => absurd (show b ∈ ([] : List Addr) from z) (by simp)
 refine ⟨⟨e0.mod, S.kind, rfl, rfl, zzL _, λ y z c h1 h2 => ?_, λ y hy => ?_, λ y c _ h => ?_, λ _ => hd, Around.frames_deeper e0.frames, .inr ⟨rfl, rfl⟩, λ b z => absurd z (noA b), e0.bs, e0.bsz, λ b _ _ => noA b, λ b z => absurd z (noA b), e0.funs, e0.frf⟩,
  rfl, e0.bare, Un.kept hk, ⟨_, x.toInCall.ns, λ i y v h1 h2 h3 => ?_⟩, λ y c h => ⟨_, x.cell y c h⟩, e0.hok.fresh (zzL _), λ y c h => ?_, λ p hp => absurd (show p ∈ ([] : List (Addr × Obj)) from hp) (by simp), e0.hok.kept hk, ?_⟩
 · exact name_of_addr x.apart (PySem.mem_of_lookup h1) (PySem.mem_of_lookup h2)
 · have hy : scope.names.lookup y = some .cell \/ scope.names.lookup y = some .free := hy
   rcases hy with hy | hy
   · exact zgT hy
   · exact absurd rfl (S.nofree _ (PySem.mem_of_lookup hy))
 · exact Nat.le_of_lt (x.above y c (PySem.mem_of_lookup h))
 · have hi : i < vs.length := by
    unfold start at h2
    by_cases hi : i < vs.length
    · exact hi
    · rw [List.getElem?_append_right (by simpa using hi)] at h2
      rw [List.getElem?_replicate] at h2
      split at h2 <;> cases h2
   have ha : vs[i]? = some v := by
    unfold start at h2
    rw [List.getElem?_append_left (by simpa using hi), zzG] at h2
    cases e : vs[i]? with
    | none => rw [e] at h2; cases h2
    | some a => rw [e] at h2; cases h2; rfl
   obtain ⟨u, hu, rv⟩ := r.get ha
   have hp : ps[i]? = some y := by
    rw [<- S.pre, List.getElem?_take_of_lt (by omega)]; exact h1
   have ndP : ps.Nodup := by rw [<- S.pre]; exact S.nd.sublist (List.take_sublist _ _)
   refine ⟨u, rv, ?_⟩
   rcases S.par y (List.mem_of_getElem? hp) with k | k
   · exact .inl ⟨k, zeU ndP hp hu k⟩
   · obtain ⟨c, e⟩ := zgT (n := s.heap.objs.size + 1) k
     refine .inr ⟨.inl k, c, e, ?_⟩
     have q := x.cell y c e
     rw [zff ndP hp hu (by show scope.names.lookup y ≠ _; rw [k]; decide)] at q
     exact q
 · exact e0.hok.fresh (Nat.le_of_lt (x.above y c (PySem.mem_of_lookup h)))
 · unfold start
   show _ = N.length
   rw [zzH, zD, List.length_replicate]
   omega
theorem zpt {CX : CXT} {P : Program} {w : World} {K : zC} {mg : Str -> Option Value} {base : Heap} {k : Nat} {f : Addr} {name qual : Str} {params : Arguments} {body : List Stmt} {scope : Scope} {dV kV doc pm cdv ct oc : Value} {an od : Option Addr}
 {osl : Array (Option Value)} {N ps : List Str} {sp : Sp} (lk : K.lookup f = some ⟨oc, od, .func (PySem.W.fnOf name qual params body scope dV kV doc pm an cdv ct), osl⟩) (hcd : PySem.W.codeIn K cdv qual = true) (S : FnScope N ps scope)
 (len : ∀ vs H Q E, sp vs H Q E -> vs.length = ps.length)
 (hbody : ∀ (A : Around) (outer : List Env) (s : Shared) (H : Hp) (vs : List V) (Q : VK) (E : XK), Room k (A.deeper (envOfC qual scope s.heap.objs.size f cdv)) -> sp vs H Q E ->
  ∃ t, PSs (zhJ CX P w K mg base N qual scope f cdv A outer s H E) body t /\ t { nx := λ _ H' => Q .non H', rt := Q } (start N vs) H) :
 FnOk P w K mg base CX (k + 1) f (PySem.W.fnOf name qual params body scope dV kV doc pm an cdv ct) ps sp := by
 refine ⟨len, λ A outer s H args us vs Q E hr e0 hb r hsp => ?_⟩
 have hl := len _ _ _ _ hsp
 have KX : K.In s.heap := e0.mod.kin.keeps λ b o e => (e0.bs b o e).1
 have lim : s.heap.NoLimit := e0.mod.nolimit.keeps λ b o e => (e0.bs b o e).1
 have hkind : ∀ y ∈ ps.zip us, scope.names.lookup y.1 = some .local \/ (scope.names.lookup y.1 = some .cell /\ ((cellsFrom (s.heap.objs.size + 1) scope.names []).lookup y.1).isSome = true) := λ ⟨n, v⟩ hy => by
  rcases S.par n (List.of_mem_zip hy).1 with q | q
  · exact .inl q
  · exact .inr ⟨q, PySem.W.cellsFrom_some _ _ _ (.inl q)⟩
 refine codeAny_call_function hr.depth (KX _ _ lk) rfl S.co S.gen rfl (PySem.W.codeRec_of KX hcd) (hb _ _ _ _ ?_)
 refine wpAny_newFunctionEnv_cells S.kind hkind λ env he s1 x => ?_
 subst he
 refine ⟨lim.keeps x.toInCall.keep, codeAny_func ?_⟩
 obtain ⟨t, ht, hq⟩ := hbody A outer s H vs Q E (hr.deeper _) hsp
 have I : Inv (zhJ CX P w K mg base N qual scope f cdv A outer s H E) [] (start N vs) H s1 := zjr S hr.hd e0 hl r x
 refine wpAny_mono (ht [] s1 (start N vs) H _ I hq) (λ fl s' hs => ?_) λ e s' hs => hs
 have fin : ∀ {σ' : St} {H' : Hp} {v : V} {u : Value}, Inv (zhJ CX P w K mg base N qual scope f cdv A outer s H E) [] σ' H' s' -> RelV v u -> Q v H' -> CE outer P w H s Q u s' :=
  λ {σ' H' v u} J rv q => ⟨v, H', J.os, J.bare, J.base, J.hok, rv, q⟩
 cases fl with
 | ret u =>
  obtain ⟨v, σ', H', J, rv, q⟩ := hs
  exact fin J rv q
 | next =>
  obtain ⟨σ', H', J, q⟩ := hs
  exact fin (v := V.non) (u := Value.none) J rfl q
 | brk =>
  obtain ⟨_, _, _, q⟩ := hs
  exact False.elim q
 | cont =>
  obtain ⟨_, _, _, q⟩ := hs
  exact False.elim q
end L2
namespace L2
open PySem PySem.Spec PyProof.Rows
section
variable {X : Cx} {x : Str} {p pos : Pos} {e : Expr} {es : List Expr} {t : TA} {id T : String} {r : List V -> Hp -> VK -> Prop}
def tCB (r : List V -> Hp -> VK -> Prop) (t : TA) : TE := λ σ H Q => t σ H λ vs H1 => r vs H1 Q
theorem zdE (hc : V3 X (.builtin id) r) (hg : Gl X x) (hm : X.mg x = none) (hv : bootBuiltins x = some (.builtin id)) (ha : PA X (e :: es) t) (hn : x ≠ "__name__" := by decide) (hdb : (x == ("__debug__" : Str)) = false := by decide)
 (he : starEach (e :: es) X.env = (false, eval e X.env) :: starEach es X.env := by rfl) (hpl : (backTo pos (starEach es X.env)).any (·.1) = false := by rfl) : PE X (.Call (.Name x p) (e :: es) [] pos) (tCB r t) := by
 intro pins s σ H Q I h
 refine wpAny_Call_Name_kw (zaG I hg hm hv ?_ hn hdb)
 exact PyProof.Rows.callWith_builtin1 (thn (ha pos pins s σ H _ I h) λ us s1 ⟨vs, H1, I1, r1, q1⟩ => hc pins s1 σ H1 vs us Q I1 r1 q1) he hpl
theorem zjL (hc : V3 X (.type T) r) (hg : Gl X x) (hm : X.mg x = none) (hv : bootBuiltins x = some (.type T)) (ha : PA X (e :: es) t) (hn : x ≠ "__name__" := by decide) (hdb : (x == ("__debug__" : Str)) = false := by decide)
 (he : starEach (e :: es) X.env = (false, eval e X.env) :: starEach es X.env := by rfl) (hpl : (backTo pos (starEach es X.env)).any (·.1) = false := by rfl) : PE X (.Call (.Name x p) (e :: es) [] pos) (tCB r t) := by
 intro pins s σ H Q I h
 refine wpAny_Call_Name_kw (zaG I hg hm hv ?_ hn hdb)
 exact PyProof.Rows.callWith_type1 (thn (ha pos pins s σ H _ I h) λ us s1 ⟨vs, H1, I1, r1, q1⟩ => hc pins s1 σ H1 vs us Q I1 r1 q1) he hpl
end
end L2
namespace L2
open PySem PySem.Spec PyProof.Rows
section
variable {κ : Type} [DecidableEq κ]
def zbR (kvs : List (κ × V)) (k : κ) : Option V := (kvs.find? λ kv => decide (kv.1 = k)).map (·.2)
theorem zjP {p : κ × V} {r : List (κ × V)} {k : κ} (e : p.1 = k) : zbR (p :: r) k = some p.2 := by simp [zbR, List.find?_cons, e]
theorem zlu {p : κ × V} {r : List (κ × V)} {k : κ} (e : ¬ p.1 = k) : zbR (p :: r) k = zbR r k := by simp [zbR, List.find?_cons, e]
theorem zhq.isSome_eq (r : zhq o u) : o.isSome = u.isSome := by
 cases o with
 | none => cases u with
  | none => rfl
  | some _ => exact (show False from r).elim
 | some _ => cases u with
  | none => exact (show False from r).elim
  | some _ => rfl
theorem KV.val {kvs : List (κ × V)} {vs : List (κ × Value)} (r : KV kvs vs) (k : κ) : zhq (zbR kvs k) (valueAt vs k) := by
 unfold KV at r
 induction r with
 | nil => exact True.intro
 | @cons p q ps qs h t ih =>
  obtain ⟨h1, h2⟩ := h
  by_cases e : p.1 = k
  · have e' : q.1 = k := h1.symm.trans e
    have b : valueAt (q :: qs) k = some q.2 := by simp [valueAt, List.find?_cons, e']
    rw [zjP e, b]; exact h2
  · have e' : ¬ q.1 = k := λ z => e (h1.trans z)
    have b : valueAt (q :: qs) k = valueAt qs k := by simp [valueAt, List.find?_cons, e']
    rw [zlu e, b]; exact ih
theorem KV.length (r : KV kvs vs) : kvs.length = vs.length := Paired.length r
end
theorem zlq (r : RelV (kV k) u) : (Zg P w).is k u = true := by
 cases k with
 | inl i => obtain ⟨t, e⟩ := (show ∃ t, u = Value.int i t from r); subst e; exact zhb P w i t
 | inr x => obtain ⟨t, e⟩ := (show ∃ t, u = Value.str x t from r); subst e; exact Vn P w x t
section
variable {P : Program} {w : World} {H : Hp} {h : Heap} {a : Addr}
theorem zqe (ok : HOk P w H h) (e : Rd H a u) : Zf P w H h a u := e.ok ok
theorem zpG (ok : HOk P w H h) (e : Rd H a (.dK kvs)) : kvs.length <= sizeLine /\ (a == sysModules) = false /\ ∃ vs, KV kvs vs /\ h.DictOf (Zg P w) a vs :=
 show Zf P w H h a (.dK kvs) from zqe ok e
end
structure M1 (X : Cx) (o : Expr) (m : Str) (apos : Pos) (e : Expr) (cpos : Pos) : Prop where
 base : attributeBase o m X.env (eval o X.env) = eval o X.env
 few : ((backTo cpos (starEach [e] X.env)).all (λ x => !x.1) && (backToKw cpos (keywordEach [] X.env)).all (λ x => x.1.isSome)
  && decide (([e] : List Expr).length + ([] : List Keyword).length + (if ([] : List Keyword).isEmpty then 0 else 1) < 30)) = true
 line : (apos.endLine == cpos.line) = true
 trees : backTo cpos (starEach [e] X.env) = [(false, eval e X.env)]
structure M2 (X : Cx) (o : Expr) (m : Str) (apos : Pos) (e f : Expr) (cpos : Pos) : Prop where
 base : attributeBase o m X.env (eval o X.env) = eval o X.env
 few : ((backTo cpos (starEach [e, f] X.env)).all (λ x => !x.1) && (backToKw cpos (keywordEach [] X.env)).all (λ x => x.1.isSome)
  && decide (([e, f] : List Expr).length + ([] : List Keyword).length + (if ([] : List Keyword).isEmpty then 0 else 1) < 30)) = true
 line : (apos.endLine == cpos.line) = true
 trees : backTo cpos (starEach [e, f] X.env) = [(false, eval e X.env), (false, eval f X.env)]
end L2
namespace HT
open PySem PyProof.Rows
section
variable {prog : Program} {w : World} {A : Around} {E : Value -> Shared -> Prop} {s : Shared}
theorem zmc (ht : IsTup s.heap t vs.toArray) (hb : IsTup s.heap b ws.toArray) (hv : vs ≠ [])
 (h1 : ws = [] -> Q (.ref t) s) (h2 : ws ≠ [] -> Q (.ref s.heap.objs.size) { s with heap := s.heap.push { cls := .type "tuple", data := .seq (vs ++ ws).toArray } })
 (hsz : vs.length + ws.length <= sizeLine) : wpAny (model prog w) A (binaryOp .Add (.ref t) (.ref b)) Q E s := by
 obtain ⟨⟨cls, dd, data, sl⟩, ho, hc, n, hd⟩ := id ht
 obtain ⟨⟨cls2, dd2, data2, sl2⟩, ho2, hc2, n2, hd2⟩ := id hb
 simp only at hc hd hc2 hd2
 subst hc hd hc2 hd2
 have e : vs.toArray ++ ws.toArray = (vs ++ ws).toArray := by simp
 by_cases hw : ws = []
 · exact concat_meets ⟨_, ho, rfl⟩ ⟨_, ho2, rfl⟩ noFill_tuple_add seq_tuple_add PySem.F.slot_tuple_add PySem.F.entry_tuple_add (PySem.F.args_tuple_add_2 _ _)
    (tuple_addW1 t b vs.toArray ws.toArray n n2 dd dd2 sl sl2 (by simpa using hv) (by simp [hw])) ⟨ho, ho2, h1 hw⟩
 · refine concat_meets ⟨_, ho, rfl⟩ ⟨_, ho2, rfl⟩ noFill_tuple_add seq_tuple_add PySem.F.slot_tuple_add PySem.F.entry_tuple_add (PySem.F.args_tuple_add_2 _ _)
    (tuple_addW2 t b vs.toArray ws.toArray n n2 dd dd2 sl sl2 (by simpa using hv) (by simpa using hw) (by rw [zzF, zzF]; exact hsz)) ⟨ho, ho2, ?_⟩
   rw [e]
   exact h2 hw
def sIx (n d : Nat) : Option Int -> Nat
 | none => d
 | some v => if v < 0 then (v + (n : Int)).toNat else min v.toNat n
theorem zgR (n d : Nat) : sIx n d none = d := rfl
theorem zda (n d k : Nat) : sIx n d (some (k : Int)) = min k n := by
 show (if (k : Int) < 0 then ((k : Int) + (n : Int)).toNat else min (k : Int).toNat n) = min k n
 rw [if_neg (by omega), Int.toNat_natCast]
theorem znR (n d : Nat) (hd : d <= n) (o : Option Int) : sIx n d o <= n := by
 cases o with
 | none => exact hd
 | some v =>
  show (if v < 0 then (v + (n : Int)).toNat else min v.toNat n) <= n
  by_cases hv : v < 0
  · rw [if_pos hv]; omega
  · rw [if_neg hv]; exact Nat.min_le_right _ _
theorem ziK (v : Int) (n d : Nat) : (if v < 0 then max (v + (n : Int)) 0 else min v (n : Int)) = ((sIx n d (some v) : Nat) : Int) := by
 show (if v < 0 then max (v + (n : Int)) 0 else min v (n : Int)) = (((if v < 0 then (v + (n : Int)).toNat else min v.toNat n) : Nat) : Int)
 by_cases hv : v < 0
 · simp only [if_pos hv]; omega
 · simp only [if_neg hv]; omega
theorem zik (lo hi : Option Int) (n : Nat) : Builtin.Slice.sliceAdjust lo hi 1 (n : Int) = (((sIx n 0 lo : Nat) : Int), ((sIx n n hi : Nat) : Int)) := by
 have h1 : ¬ ((1 : Int) < 0) := by omega
 unfold Builtin.Slice.sliceAdjust
 simp only [h1, if_false]
 refine Prod.ext ?_ ?_
 · cases lo with
   | none => rfl
   | some v => exact ziK v n 0
 · cases hi with
   | none => rfl
   | some v => exact ziK v n n
theorem zib (i j : Nat) : Builtin.Slice.slicePlaces (i : Int) (j : Int) 1 = j - i := by
 unfold Builtin.Slice.slicePlaces
 have h1 : (1 : Int) > 0 := by omega
 simp only [h1, if_true, Int.ediv_one]
 split <;> omega
theorem zeb (p : IsPart v o) (h : Q o s) : wpAny (model prog w) A (Builtin.Slice.slicePartIndex v) Q E s := by
 cases p with
 | none => exact slicePart_none h
 | int i t => exact slicePart_int h
theorem zbC {sl : Addr} {vl vu : Value} {lo hi : Option Int} {n : Nat} {Q : Int × Int × Nat -> Shared -> Prop} (hs : s.heap.IsSliceOf sl vl vu .none) (pl : IsPart vl lo) (pu : IsPart vu hi)
 (h : Q (((sIx n 0 lo : Nat) : Int), 1, sIx n n hi - sIx n 0 lo) s) : wpAny (model prog w) A (Builtin.Slice.sliceApplied (.ref sl) (pure (n : Int))) Q E s := by
 obtain ⟨os, hos, hcs, hds⟩ := id hs
 unfold Builtin.Slice.sliceApplied Builtin.Slice.sliceFields
 refine wpAny_bind (wpAny_bind (wpAny_field hos hds (x := vl) rfl (wpAny_bind (wpAny_field hos hds (x := vu) rfl (wpAny_bind (wpAny_field hos hds (x := .none) rfl (wpAny_pure ?_)))))))
 refine wpAny_bind (slicePart_none ?_)
 show wpAny _ _ (if ((1 : Int) == 0) = true then _ else _) _ _ s
 rw [if_neg (by decide)]
 refine wpAny_bind (zeb pl (wpAny_bind (zeb pu (wpAny_bind (wpAny_pure ?_)))))
 show wpAny _ _ (match Builtin.Slice.sliceAdjust lo hi 1 (n : Int) with | (lo, hi) => pure (lo, (1 : Int), Builtin.Slice.slicePlaces lo hi 1)) _ _ s
 rw [zik lo hi n]
 show wpAny _ _ (pure (((sIx n 0 lo : Nat) : Int), (1 : Int), Builtin.Slice.slicePlaces ((sIx n 0 lo : Nat) : Int) ((sIx n n hi : Nat) : Int) 1)) _ _ s
 rw [zib]
 exact wpAny_pure h
theorem zkz (xs : Array Value) (i k : Nat) : ((List.range k).filterMap λ (m : Nat) => xs[((i : Int) + (m : Int) * 1).toNat]?).toArray = ((xs.toList.drop i).take k).toArray := by
 have e : (λ (m : Nat) => xs[((i : Int) + (m : Int) * 1).toNat]?) = λ m => xs[i + m]? := by
  funext m
  have : ((i : Int) + (m : Int) * 1).toNat = i + m := by omega
  rw [this]
 rw [e]
 have := pick_run xs i k
 rw [List.filterMap_map] at this
 have e2 : ((λ x => xs[x]?) ∘ λ x => i + x) = λ m => xs[i + m]? := rfl
 rw [e2] at this
 rw [this]
theorem zbr {t sl : Addr} {items : Array Value} {vl vu : Value} {lo hi : Option Int} {Q : Value -> Shared -> Prop} (ht : IsTup s.heap t items) (hs : s.heap.IsSliceOf sl vl vu .none) (pl : IsPart vl lo) (pu : IsPart vu hi)
 (hw : ¬ (sIx items.size 0 lo = 0 /\ sIx items.size items.size hi = items.size))
 (h : Q (.ref s.heap.objs.size) { s with heap := s.heap.push { cls := .type "tuple", data := .seq ((items.toList.drop (sIx items.size 0 lo)).take (sIx items.size items.size hi - sIx items.size 0 lo)).toArray } })
 (hsz : items.size <= sizeLine) : wpAny (model prog w) A (getItem (.ref t) (.ref sl)) Q E s := by
 have htake : sizeOk (.seq ((items.toList.drop (sIx items.size 0 lo)).take (sIx items.size items.size hi - sIx items.size 0 lo)).toArray) := by
  show ((items.toList.drop (sIx items.size 0 lo)).take (sIx items.size items.size hi - sIx items.size 0 lo)).toArray.size <= sizeLine
  rw [zzF, zzQ, List.length_drop, Array.length_toList]
  omega
 have hj : sIx items.size items.size hi <= items.size := znR _ _ (zzL _) hi
 obtain ⟨os, hos, hcs, hds⟩ := id hs
 have hTs : s.TypeIs (.ref sl) "slice" := ⟨os, hos, hcs⟩
 unfold getItem
 try with_reducible refine wpAny_holding ?_
 first | refine wpAny_bind (wpAny_pure ?_) | skip
 refine wpAny_bind (wpAny_sequenceKey ht.typeIs (by decide) ?_)
 refine wpAny_bind (wpAny_callSpecial?_slot (name := Str.ofString "__getitem__") ht.typeIs PyProof.Rows.slot_tuple_getitem
  (wpAny_call_entry PyProof.Rows.slot_tuple_getitem ht.typeIs entry_tuple_getitem ?_ (args_tuple_getitem _ _)))
 show wpAny _ _ (Builtin.Tuple.tupleItemsOf (.ref t) >>= _) _ _ s
 refine wpAny_bind (tupleItemsOf_ ht ?_)
 refine wpAny_bind (wpAny_typeOf hTs ?_)
 rw [if_pos (by decide)]
 refine wpAny_bind (zbC hs pl pu ?_)
 have hno : ¬ ((((sIx items.size 0 lo : Nat) : Int) == 0 && (1 : Int) == 1 && (sIx items.size items.size hi - sIx items.size 0 lo) == items.size) = true) := by
  intro q
  rw [Bool.and_eq_true, Bool.and_eq_true] at q
  have q1 : ((sIx items.size 0 lo : Nat) : Int) = 0 := eq_of_beq q.1.1
  have q2 : sIx items.size items.size hi - sIx items.size 0 lo = items.size := eq_of_beq q.2
  exact hw ⟨by omega, by omega⟩
 show wpAny _ _ (if (((sIx items.size 0 lo : Nat) : Int) == 0 && (1 : Int) == 1 && (sIx items.size items.size hi - sIx items.size 0 lo) == items.size) = true then _ else _) _ _ s
 rw [if_neg hno, zkz]
 first
  | exact wpAny_bind (m := Builtin.Tuple.tupleExact _) (wpAny_newObj_type (wpAny_pure ⟨_, rfl, wpAny_pure h⟩) htake)
  | exact wpAny_bind (m := Builtin.Tuple.tupleExact _) (wpAny_newObj_type (wpAny_bind (wpAny_pure (wpAny_pure ⟨_, rfl, wpAny_pure h⟩))) htake)
  | exact wpAny_bind (wpAny_bind (m := Builtin.Tuple.tupleExact _) (wpAny_newObj_type (wpAny_pure (wpAny_pure ⟨_, rfl, wpAny_pure h⟩)) htake))
  | exact wpAny_bind (wpAny_bind (m := Builtin.Tuple.tupleExact _) (wpAny_newObj_type (wpAny_pure ⟨_, rfl, wpAny_pure h⟩) htake))
end
end HT
namespace L2
open PySem PySem.Spec PyProof.Rows
abbrev TO := St -> Hp -> (Option Int -> Hp -> Prop) -> Prop
def PO (X : Cx) (e : Option Expr) (t : TO) : Prop :=
 ∀ (pins : List (Addr × Obj)) (s : Shared) (σ : St) (H : Hp) (Q : Option Int -> Hp -> Prop), Inv X pins σ H s -> t σ H Q ->
  wpAny (model X.prog X.w) X.A (evalPart e X.env) (λ u s' => ∃ o H', Inv X pins σ H' s' /\ IsPart u o /\ Q o H') X.xe s
def zmh : TO := λ _ H Q => Q none H
def zpX (t : TE) : TO := λ σ H Q => t σ H λ x H1 => ∃ i, x = .int i /\ Q (some i) H1
theorem intsAre_of : ∀ {us : List Value}, Vals (ns.map V.int) us -> IntsAre us ns := by
 induction ns with
 | nil => intro us r; rw [List.map_nil] at r; cases r; exact .nil
 | cons n ns ih =>
  intro us r
  rw [List.map_cons] at r
  cases r with
  | cons r1 r2 =>
   obtain ⟨t, e⟩ := r1
   subst e
   exact .cons n t (ih r2)
section
variable {X : Cx} {e : Expr} {te : TE} {lo hi : Option Expr} {tl th : TO} {pos p2 : Pos}
theorem zmy : PO X none zmh := by
 intro pins s σ H Q I h
 rw [evalPart_none]
 exact wpAny_pure ⟨none, H, I, .none, h⟩
theorem zmi (h : PE X e te) : PO X (some e) (zpX te) := by
 intro pins s σ H Q I hw
 rw [evalPart_some]
 refine thn (h pins s σ H _ I hw) λ u s1 ⟨x, H1, I1, r1, q1⟩ => ?_
 obtain ⟨i, rfl, q⟩ := q1
 obtain ⟨t, rfl⟩ := r1
 exact ⟨some i, H1, I1, .int i t, q⟩
def SlR (X : Cx) (r : V -> Option Int -> Option Int -> Hp -> VK -> Prop) : Prop :=
 ∀ (pins : List (Addr × Obj)) (s : Shared) (σ : St) (H : Hp) (x : V) (v vl vu : Value) (lo hi : Option Int) (sl : Addr) (Q : VK), Inv X pins σ H s -> RelV x v -> s.heap.IsSliceOf sl vl vu .none -> IsPart vl lo -> IsPart vu hi -> r x lo hi H Q ->
  ∃ T id, typeLookup (.type T) "__getitem__" = pure (some (.builtin id)) /\ s.TypeIs v T /\ wpAny (model X.prog X.w) X.A (getItem v (.ref sl)) (EP X pins σ Q) X.xe s
def tSl (r : V -> Option Int -> Option Int -> Hp -> VK -> Prop) (te : TE) (tl th : TO) : TE := λ σ H Q => te σ H λ x H1 => tl σ H1 λ l H2 => th σ H2 λ u H3 => r x l u H3 Q
theorem zgW (hr : SlR X r) (he : PE X e te) (hl : PO X lo tl) (hu : PO X hi th) : PE X (.Subscript e (.Slice lo hi none p2) pos) (tSl r te tl th) := by
 intro pins s σ H Q I h
 refine Subscript_ (thn (he pins s σ H _ I h) λ v s1 ⟨x, H1, I1, r1, q1⟩ => ?_)
 refine wpAny_Slice (thn (hl pins s1 σ H1 _ I1 q1) λ vl s2 ⟨l, H2, I2, pl, q2⟩ => thn (hu pins s2 σ H2 _ I2 q2) λ vu s3 ⟨u, H3, I3, pu, q3⟩ => ?_)
 rw [evalPart_none]
 refine wpAny_pure ?_
 have I4 : Inv X pins σ H3 { s3 with heap := s3.heap.push { cls := .type "slice", data := .fields #[vl, vu, .none] } } := I3.kept (t' := s3.toks) λ b ob q => Heap.get?_push_of_some _ q
 obtain ⟨T, id, hT, ht, hg⟩ := hr pins { s3 with heap := s3.heap.push { cls := .type "slice", data := .fields #[vl, vu, .none] } } σ H3 x v vl vu l u s3.heap.objs.size Q I4 r1 (Heap.IsSliceOf.new ..) pl pu q3
 show wpAny (model X.prog X.w) X.A (subscriptTail e (.Slice lo hi none p2) v (.ref s3.heap.objs.size)) (EP X pins σ Q) X.xe { s3 with heap := s3.heap.push { cls := .type "slice", data := .fields #[vl, vu, .none] } }
 exact tail_any (ops := [.ref s3.heap.objs.size, v]) ht hT hg (by with_unfolding_all rfl)
def zgM (xs : List V) (lo hi : Option Int) : List V := (xs.drop (HT.sIx xs.length 0 lo)).take (HT.sIx xs.length xs.length hi - HT.sIx xs.length 0 lo)
theorem zcf (xs : List V) (lo hi : Option Int) : (zgM xs lo hi).length <= xs.length := by
 unfold zgM
 rw [zzQ, List.length_drop]
 omega
def zqz (K : zC) : V -> Option Int -> Option Int -> Hp -> VK -> Prop := λ x lo hi H Q => ∃ a xs, x = .ref a /\ SqT K H a xs /\
 ¬ (HT.sIx xs.length 0 lo = 0 /\ HT.sIx xs.length xs.length hi = xs.length) /\ ∀ p, H p = none -> Q (.ref p) (upd H p (.tup (zgM xs lo hi)))
theorem zox : SlR X (zqz X.K) := by
 intro pins s σ H x v vl vu lo hi sl Q I rx hs pl pu h
 obtain ⟨a, xs, rfl, hx, hw, q⟩ := h
 cases rx
 obtain ⟨its, r, ht, hz⟩ := I.tuple hx
 have hlen : its.toArray.size = xs.length := by rw [zzF]; exact r.length.symm
 refine ⟨"tuple", _, PyProof.Rows.slot_tuple_getitem.lookup, ht.typeIs, ?_⟩
 refine HT.zbr ht hs pl pu (by rw [hlen]; exact hw) ?_ (by rw [hlen]; exact hz)
 rw [hlen]
 refine ⟨.ref s.heap.objs.size, _, I.laid (t' := s.toks) (o := .tup (zgM xs lo hi)) (λ b ob q => Heap.get?_push_of_some _ q) (zzL _) ?_, rfl, q _ (I.hok.fresh (zzL _))⟩
 exact ⟨zzM (zcf xs lo hi) hz, _, (r.drop (HT.sIx xs.length 0 lo)).take (HT.sIx xs.length xs.length hi - HT.sIx xs.length 0 lo), IsTup.new _ _⟩
def zpA (K : zC) : R2 := λ x y H Q => ∃ a b xs ys, x = .ref a /\ y = .ref b /\ SqT K H a xs /\ SqT K H b ys /\ xs ≠ [] /\ xs.length + ys.length <= sizeLine /\
 (ys = [] -> Q (.ref a) H) /\ (ys ≠ [] -> ∀ p, H p = none -> Q (.ref p) (upd H p (.tup (xs ++ ys))))
theorem Vals.nil_iff (r : Vals xs us) : us = [] ↔ xs = [] := by
 cases r with
 | nil => simp
 | cons _ _ => simp
theorem zmu : OpR X (binaryOp .Add) (zpA X.K) := by
 intro pins s σ H x y v u Q I rx ry h
 obtain ⟨a, b, xs, ys, rfl, rfl, ha, hb, hx, hz, q1, q2⟩ := h
 cases rx
 cases ry
 obtain ⟨its, r1, p1, _⟩ := I.tuple ha
 obtain ⟨its2, r2, p2, _⟩ := I.tuple hb
 refine HT.zmc p1 p2 (λ z => hx (r1.nil_iff.mp z)) (λ z => ⟨.ref a, H, I, rfl, q1 (r2.nil_iff.mp z)⟩) (λ z => ?_) (by rw [<- r1.length, <- r2.length]; exact hz)
 refine ⟨.ref s.heap.objs.size, _, I.laid (t' := s.toks) (o := .tup (xs ++ ys)) (λ b ob q => Heap.get?_push_of_some _ q) (zzL _) ?_, rfl, q2 (λ w => z (r2.nil_iff.mpr w)) _ (I.hok.fresh (zzL _))⟩
 exact ⟨by rw [zzH]; exact hz, _, r1.append r2, IsTup.new _ _⟩
end
end L2
namespace L2
open PySem PySem.Spec PyProof.Rows
def ixN (n : Nat) (i : Int) : Option Nat := if 0 <= i then (if i < n then some i.toNat else none) else if -(n : Int) <= i then some (i + n).toNat else none
def atI {α : Type} (xs : List α) (i : Int) : Option α := (ixN xs.length i).bind λ j => xs[j]?
theorem ziH (h : ixN n i = some j) : seqIndex? i n = some j /\ j < n /\ -(n : Int) <= i /\ i < n := by
 unfold ixN at h
 by_cases h0 : 0 <= i
 · rw [if_pos h0] at h
   by_cases h1 : i < n
   · rw [if_pos h1] at h
     have e : i.toNat = j := Option.some.inj h
     exact ⟨by rw [seqIndex_of h0 h1, e], by omega, by omega, h1⟩
   · rw [if_neg h1] at h; cases h
 · rw [if_neg h0] at h
   by_cases h1 : -(n : Int) <= i
   · rw [if_pos h1] at h
     have e : (i + n).toNat = j := Option.some.inj h
     exact ⟨by rw [seqIndex_neg (by omega) h1, e], by omega, h1, by omega⟩
   · rw [if_neg h1] at h; cases h
theorem zfM (h : atI xs i = some v) : ∃ j, seqIndex? i xs.length = some j /\ xs[j]? = some v /\ j < xs.length /\ -(xs.length : Int) <= i /\ i < xs.length := by
 unfold atI at h
 cases e : ixN xs.length i with
 | none => rw [e] at h; cases h
 | some j =>
  rw [e] at h
  obtain ⟨h1, h2, h3, h4⟩ := ziH e
  exact ⟨j, h1, h, h2, h3, h4⟩
theorem Ye {α : Type} {xs : List α} {j : Nat} {v : α} (h : xs[j]? = some v) : atI xs (j : Int) = some v := by
 have hj : j < xs.length := (zzE.mp h).1
 have e : ixN xs.length (j : Int) = some j := by
  unfold ixN
  rw [if_pos (by omega), if_pos (by omega)]; simp
 unfold atI; rw [e]; exact h
def Zy (b : Expr) : Prop := ∀ o i, subscripted b false o i = operate [o, i] (getItem o i)
def IxR (X : Cx) (r : R2) : Prop :=
 ∀ (value slice : Expr) (pins : List (Addr × Obj)) (s : Shared) (σ : St) (H : Hp) (x y : V) (v u : Value) (Q : VK), Inv X pins σ H s -> RelV x v -> RelV y u -> r x y H Q ->
  subscripted slice false v u = operate [v, u] (getItem v u) -> wpAny (model X.prog X.w) X.A (subscriptTail value slice v u) (EP X pins σ Q) X.xe s
def MtR (X : Cx) (id : String) (r : V -> List V -> Hp -> VK -> Prop) : Prop :=
 ∀ (pins : List (Addr × Obj)) (s : Shared) (σ : St) (H : Hp) (x : V) (xs : List V) (v : Value) (us : List Value) (Q : VK), Inv X pins σ H s -> RelV x v -> Vals xs us -> r x xs H Q ->
  wpAny (model X.prog X.w) X.A (call (.builtin id) (v :: us)) (EP X pins σ Q) X.xe s
section
variable {X : Cx} {a b : Expr} {ta tb : TE} {pos : Pos}
theorem zcz (hr : IxR X r) (ha : PE X a ta) (hb : PE X b tb) (hs : Zy b) : PE X (.Subscript a b pos) (tOp r ta tb) := by
 intro pins s σ H Q I h
 exact Subscript_ (zoe ha hb I h λ v u s2 x y H2 I2 rx ry q => hr a b pins s2 σ H2 x y v u Q I2 rx ry q (hs _ _))
def zrg (K : zC) : R2 := λ x y H Q => ∃ p xs i v, x = .ref p /\ y = .int i /\ SqL K H p xs /\ atI xs i = some v /\ Q v H
def zrp (K : zC) : R2 := λ x y H Q => ∃ p xs i v, x = .ref p /\ y = .int i /\ SqT K H p xs /\ atI xs i = some v /\ Q v H
def zqW : R2 := λ x y H Q => ∃ z i c, x = .str z /\ y = .int i /\ z.length <= sizeLine /\ atI z.cps.toList i = some c /\ Q (.str ⟨#[c]⟩) H
theorem Wd : IxR X (zrg X.K) := by
 intro value slice pins s σ H x y v u Q I rx ry h hs
 obtain ⟨p, xs, i, z, rfl, rfl, hq, he, q⟩ := h
 cases rx
 obtain ⟨t, rfl⟩ := ry
 obtain ⟨its, r, pl, hz⟩ := I.list hq
 obtain ⟨j, h1, h2, h3, h4, h5⟩ := zfM he
 obtain ⟨w, ew, rw'⟩ := r.get h2
 have hl := r.length
 have hn := zao
 have fin : EP X pins σ Q w s := ⟨z, H, I, rw', q⟩
 by_cases h0 : 0 <= i
 · have hj : i.toNat = j := by
    rw [seqIndex_of h0 h5] at h1
    exact Option.some.inj h1
   exact item_listR pl.isList h0 (by omega) (by rw [hj]; simpa using ew) fin hs
 · have hj : (i + (its.toArray.size : Int)).toNat = j := by
    rw [seqIndex_neg (by omega) h4] at h1
    rw [zzF, <- hl]
    exact Option.some.inj h1
   exact subscriptTail_builtinR (x := w) pl.isList.typeIs slot_list_getitem.lookup
    (wpAny_getItem_list_neg (Q := λ r s' => r = w /\ EP X pins σ Q r s') pl.isList (by omega) (by rw [zzF] <;> omega) (by omega) (by rw [hj]; simpa using ew) ⟨rfl, fin⟩) hs
theorem zlh : IxR X (zrp X.K) := by
 intro value slice pins s σ H x y v u Q I rx ry h hs
 obtain ⟨p, xs, i, z, rfl, rfl, hq, he, q⟩ := h
 cases rx
 obtain ⟨t, rfl⟩ := ry
 obtain ⟨its, r, pl, hz⟩ := I.tuple hq
 obtain ⟨j, h1, h2, h3, h4, h5⟩ := zfM he
 obtain ⟨w, ew, rw'⟩ := r.get h2
 have hl := r.length
 have hn := zao
 have fin : EP X pins σ Q w s := ⟨z, H, I, rw', q⟩
 exact subscriptTail_builtinR (x := w) pl.typeIs slot_tuple_getitem.lookup
  (getItem_tuple (j := j) (Q := λ r s' => r = w /\ EP X pins σ Q r s') pl (by omega) (by omega) (by rw [zzF, <- hl]; exact h1) (by simpa using ew) ⟨rfl, fin⟩) hs
theorem znL : IxR X zqW := by
 intro value slice pins s σ H x y v u Q I rx ry h hs
 obtain ⟨z, i, c, rfl, rfl, hz, he, q⟩ := h
 obtain ⟨t, rfl⟩ := rx
 obtain ⟨t', rfl⟩ := ry
 obtain ⟨j, h1, h2, h3, h4, h5⟩ := zfM he
 have hl : z.cps.toList.length = z.length := by simp [Str.length]
 rw [hl] at h1 h4 h5
 have hn := zao
 exact tail_any (typeIs_str s z t) slot_str_getitem.lookup (getItem_str (c := c) (by
  have e1 : decide (i < -(2 ^ 63 : Int)) = false := decide_eq_false (by omega)
  have e2 : decide (i ≥ 2 ^ 63) = false := decide_eq_false (by omega)
  rw [e1, e2, Bool.or_false]) (by rw [h1]; simpa using h2) ⟨.str ⟨#[c]⟩, H, I.tok _, ⟨_, rfl⟩, q⟩) hs
theorem zia (its : List Value) (n j : Nat) (u : Value) : Obj.mapSeq (·.setIfInBounds j u) { cls := .type "list", data := .seq its.toArray n } = { cls := .type "list", data := .seq (its.set j u).toArray n } := by
 simp [Obj.mapSeq]
theorem Inv.lst (I : Inv X pins σ H s) (h : H p = some (.lst xs)) :
 ∃ (its : List Value) (n : Nat), Vals xs its /\ s.heap.get? p = some { cls := .type "list", data := .seq its.toArray n } /\ xs.length <= sizeLine := by
 obtain ⟨z, its, n, r, e⟩ := I.hok p _ h
 exact ⟨its, n, r, e, z⟩
theorem Inv.lstUpd {pins : List (Addr × Obj)} {σ : St} {H : Hp} {s : Shared} {p : Addr} {xs ys : List V} {its its' : List Value} {n n' : Nat} {f : Obj -> Obj} (I : Inv X pins σ H s) (h : H p = some (.lst xs))
 (ho : s.heap.get? p = some { cls := .type "list", data := .seq its.toArray n }) (hf : f { cls := .type "list", data := .seq its.toArray n } = { cls := .type "list", data := .seq its'.toArray n' }) (r : Vals ys its') (hz : ys.length <= sizeLine) (t : Nat) :
 Inv X pins σ (upd H p (.lst ys)) { s with heap := s.heap.update p f, toks := t } := by
 have e : (s.heap.update p f).get? p = some { cls := .type "list", data := .seq its'.toArray n' } := by
  rw [Heap.get?_update_self f ho (by rw [hf] <;> rfl), hf]
 refine I.write (x := p) (e := p) (by rw [h]; trivial) (.inl rfl) (λ b u hb q => (Heap.get?_update_other _ _ (Ne.symm hb)).trans q) ⟨_, e⟩ ?_
 exact ⟨hz, its', n', r, e⟩
def zpK : V -> V -> V -> Hp -> (Hp -> Prop) -> Prop := λ o i v H Q => ∃ p xs k j, o = .ref p /\ i = .int k /\ H p = some (.lst xs) /\ ixN xs.length k = some j /\ Q (upd H p (.lst (xs.set j v)))
theorem set_list : zpC X zpK := by
 intro pins s σ H o i v ov iv u Q I ro ri rv h
 obtain ⟨p, xs, k, j, rfl, rfl, hp, hj, q⟩ := h
 cases ro
 obtain ⟨t, rfl⟩ := ri
 obtain ⟨its, n, r, ho, hz⟩ := I.lst hp
 obtain ⟨h1, h2, h3, h4⟩ := ziH hj
 have hl := r.length
 have hn := zao
 have I' : Inv X pins σ (upd H p (.lst (xs.set j v))) { s with heap := s.heap.update p (Obj.mapSeq (·.setIfInBounds j u)) } :=
  I.lstUpd hp ho (zia its n j u) (r.set rv j) (by rw [zzS]; exact hz) s.toks
 by_cases h0 : 0 <= k
 · have hk : k.toNat = j := by
    rw [seqIndex_of h0 h4] at h1
    exact Option.some.inj h1
   exact PySem.W.ki_setAt ho h0 (by omega) (by rw [zzF, <- hl]; exact h4) (by rw [hk]; exact ⟨_, I', q⟩)
 · have hk : (k + (its.toArray.size : Int)).toNat = j := by
    rw [seqIndex_neg (by omega) h3] at h1
    rw [zzF, <- hl]
    exact Option.some.inj h1
   exact PySem.W.ki_setBack ho (by omega) (by rw [zzF, <- hl]; exact h3) (by omega) (by rw [hk]; exact ⟨_, I', q⟩)
theorem zfX (lo hi : Option Int) (n : Nat) : (sliceBounds lo hi none n).1 = ((HT.sIx n 0 lo : Nat) : Int) /\ (sliceBounds lo hi none n).2.1 = ((HT.sIx n n hi : Nat) : Int) /\ (sliceBounds lo hi none n).2.2 = 1 := by
 refine ⟨?_, ?_, rfl⟩
 · cases lo with
   | none => simp [sliceBounds, HT.sIx]
   | some i =>
    simp only [sliceBounds, HT.sIx, Option.getD_none, show (1 : Int) > 0 by decide, if_true]
    by_cases h : i < 0
    · simp only [h, if_true] <;> omega
    · simp only [h, if_false] <;> omega
 · cases hi with
   | none => simp [sliceBounds, HT.sIx]
   | some i =>
    simp only [sliceBounds, HT.sIx, Option.getD_none, show (1 : Int) > 0 by decide, if_true]
    by_cases h : i < 0
    · simp only [h, if_true] <;> omega
    · simp only [h, if_false] <;> omega
theorem zeD (its : List Value) (lo hi : Option Int) : slicePick its.toArray lo hi none = ((its.drop (HT.sIx its.length 0 lo)).take (HT.sIx its.length its.length hi - HT.sIx its.length 0 lo)).toArray := by
 obtain ⟨h1, h2, h3⟩ := zfX lo hi its.toArray.size
 unfold slicePick
 rw [h1, h2, h3]
 simp only [sliceRange_one, pick_run, zzF] <;> rfl
def zrn (K : zC) : V -> Option Int -> Option Int -> Hp -> VK -> Prop := λ x lo hi H Q => ∃ a xs, x = .ref a /\ SqL K H a xs /\ ∀ p, H p = none -> Q (.ref p) (upd H p (.lst (zgM xs lo hi)))
theorem zmX : SlR X (zrn X.K) := by
 intro pins s σ H x v vl vu lo hi sl Q I rx hs pl pu h
 obtain ⟨a, xs, rfl, hx, q⟩ := h
 cases rx
 obtain ⟨its, r, ht, hz⟩ := I.list hx
 have hlen := r.length
 refine ⟨"list", _, slot_list_getitem.lookup, ht.isList.typeIs, ?_⟩
 refine wpAny_getItem_list_slice ht.isList hs pl pu .none (by simp) ?_ (by rw [zzF] <;> omega)
 rw [zeD, <- hlen]
 refine ⟨.ref s.heap.objs.size, _, I.laid (t' := s.toks) (o := .lst (zgM xs lo hi)) (λ b ob q => Heap.get?_push_of_some _ q) (zzL _) ?_, rfl, q _ (I.hok.fresh (zzL _))⟩
 exact ⟨zzM (zcf xs lo hi) hz, _, 0, (r.drop (HT.sIx xs.length 0 lo)).take (HT.sIx xs.length xs.length hi - HT.sIx xs.length 0 lo), Heap.get?_push_size _ rfl⟩
theorem Xy : V3 X (.builtin "len") (λ xs H Q => ∃ p ys, xs = [.ref p] /\ (SqL X.K H p ys \/ SqT X.K H p ys) /\ Q (.int ys.length) H) := by
 intro pins s σ H xs us Q I r h
 obtain ⟨p, ys, rfl, hq, q⟩ := h
 obtain ⟨u, rfl, rx⟩ := vals1 r
 cases rx
 have hn := zao
 rcases hq with hq | hq
 · obtain ⟨its, r', pl, hz⟩ := I.list hq
   have hlen := r'.length
   exact Calls.call_len_list pl.isList (by simp only [zzF] <;> omega) ⟨.int ys.length, H, I.tok _, ⟨s.toks + 1, by rw [zzF, hlen]⟩, q⟩
 · obtain ⟨its, r', pl, hz⟩ := I.tuple hq
   have hlen := r'.length
   exact len_tuple pl (by simp only [zzF] <;> omega) ⟨.int ys.length, H, I.tok _, ⟨s.toks + 1, by rw [zzF, hlen]⟩, q⟩
theorem zfQ : V3 X (.builtin "len") (λ xs H Q => ∃ z, xs = [.str z] /\ z.length <= sizeLine /\ Q (.int z.length) H) := by
 intro pins s σ H xs us Q I r h
 obtain ⟨z, rfl, hz, q⟩ := h
 obtain ⟨u, rfl, t, rfl⟩ := vals1 r
 have hn := zao
 exact len_str (by omega) ⟨.int z.length, H, I.tok _, ⟨_, rfl⟩, q⟩
theorem zbl : V3 X (.type "list") (λ xs H Q => ∃ p ys, xs = [.ref p] /\ (SqL X.K H p ys \/ SqT X.K H p ys) /\ ∀ l, H l = none -> Q (.ref l) (upd H l (.lst ys))) := by
 intro pins s σ H xs us Q I r h
 obtain ⟨p, ys, rfl, hq, q⟩ := h
 obtain ⟨u, rfl, rx⟩ := vals1 r
 cases rx
 have fin : ∀ (its : List Value), Vals ys its -> ys.length <= sizeLine -> ∀ (h' : Heap) (c' : Nat), (∀ b o', s.heap.get? b = some o' -> h'.get? b = some o') ->
  h'.get? s.heap.objs.size = some { cls := .type "list", dict := none, data := .seq its.toArray c', slots := #[] } -> EP X pins σ Q (.ref s.heap.objs.size) { s with heap := h' } := λ its r' hz h' c' kp e =>
  ⟨.ref s.heap.objs.size, _, I.laid (t' := s.toks) kp (zzL _) (show Zf X.prog X.w _ h' _ (.lst ys) from ⟨hz, its, c', r', e⟩), rfl, q _ (I.hok.fresh (zzL _))⟩
 rcases hq with hq | hq
 · obtain ⟨its, r', pl, hz⟩ := I.list hq
   have hlen := r'.length
   obtain ⟨o, ho, hc, n, hd⟩ := pl.isList
   exact call_list_seq p (.inl rfl) ho hc hd (λ h' c' kp e => fin its r' hz h' c' kp e) (by simp only [zzF] <;> omega)
 · obtain ⟨its, r', pl, hz⟩ := I.tuple hq
   have hlen := r'.length
   obtain ⟨o, ho, hc, n, hd⟩ := pl
   exact call_list_seq p (.inr rfl) ho hc hd (λ h' c' kp e => fin its r' hz h' c' kp e) (by simp only [zzF] <;> omega)
def tyV (K : zC) (T : String) (x : V) (H : Hp) : Prop := match x with
 | .str _ => T = "str"
 | .int _ => T = "int"
 | .ref p => (T = "list" /\ ∃ xs, SqL K H p xs) \/ (T = "tuple" /\ ∃ o, K.lookup p = some o /\ o.cls = .type "tuple" /\ o.dict = none) \/
  (T = "dict" /\ ((∃ kvs, H p = some (.dK kvs)) \/ ∃ kvs, H p = some (.dT kvs))) \/ (T = "set" /\ ∃ S n, H p = some (.set S n))
 | _ => False
theorem zoi (I : Inv X pins σ H s) (r : RelV x v) (ty : tyV X.K T x H) :
 s.TypeIs v T /\ ∀ a, v = .ref a -> ∃ ob, s.heap.get? a = some ob /\ ob.dict = none := by
 cases x with
 | str z =>
  obtain ⟨t, rfl⟩ := r
  cases (show T = "str" from ty)
  exact ⟨typeIs_str s z t, λ _ e => nomatch e⟩
 | int i =>
  obtain ⟨t, rfl⟩ := r
  cases (show T = "int" from ty)
  exact ⟨typeIs_int s i t, λ _ e => nomatch e⟩
 | ref p =>
  cases r
  rcases ty with ⟨rfl, xs, hq⟩ | ⟨rfl, o, hk, hc, hd⟩ | ⟨rfl, hk⟩ | ⟨rfl, S, n, hk⟩
  · obtain ⟨its, _, pl, _⟩ := I.list hq
    refine ⟨pl.isList.typeIs, λ a e => ?_⟩
    cases e
    obtain ⟨o, n, e, c, hd, _⟩ := pl
    exact ⟨o, e, hd⟩
  · refine ⟨⟨o, I.kIn p o hk, hc⟩, λ a e => ?_⟩
    cases e
    exact ⟨o, I.kIn _ o hk, hd⟩
  · have z : ∃ o, s.heap.get? p = some o /\ o.ExactDict := by
     rcases hk with ⟨kvs, hk⟩ | ⟨kvs, hk⟩
     · obtain ⟨_, _, _, _, o, _, _, e, ex, _⟩ := I.hok p _ hk
       exact ⟨o, e, ex⟩
     · obtain ⟨_, _, _, _, o, _, _, e, ex, _⟩ := I.hok p _ hk
       exact ⟨o, e, ex⟩
    obtain ⟨o, e, ex⟩ := z
    refine ⟨⟨o, e, ex.1⟩, λ a e2 => ?_⟩
    cases e2
    exact ⟨o, e, ex.2.1⟩
  · obtain ⟨o, _, _, _, e, ex, _⟩ := I.hok p _ hk
    refine ⟨⟨o, e, ex.1⟩, λ a e2 => ?_⟩
    cases e2
    exact ⟨o, e, ex.2.1⟩
 | _ => exact False.elim ty
def tBM (K : zC) (T : String) (r : V -> List V -> Hp -> VK -> Prop) (to : TE) (t : TA) : TE := λ σ H Q => to σ H λ x H1 => tyV K T x H1 /\ t σ H1 λ xs H2 => r x xs H2 Q
variable {o e : Expr} {es : List Expr} {to : TE} {t : TA} {name : Str} {apos cpos : Pos} {T id : String} {r : V -> List V -> Hp -> VK -> Prop}
theorem zpZ (pa : PlainAttrs T) (slot : Slot T name id) (hty : typeOf (.builtin id) = pure (.type "method_descriptor")) (hm : MtR X id r) (ho : PE X o to) (ha : PA X (e :: es) t)
 (hbase : attributeBase o name X.env (eval o X.env) = eval o X.env := by rfl)
 (hfew : ((backTo cpos (starEach (e :: es) X.env)).all (λ x => !x.1) && (backToKw cpos (keywordEach [] X.env)).all (λ x => x.1.isSome)
  && decide ((e :: es).length + ([] : List Keyword).length + (if ([] : List Keyword).isEmpty then 0 else 1) < 30)) = true := by rfl)
 (hline : (apos.endLine == cpos.line) = true := by rfl) (hs : starEach (e :: es) X.env = (false, eval e X.env) :: starEach es X.env := by rfl) (hplain : (backTo cpos (starEach es X.env)).any (·.1) = false := by rfl) :
 PE X (.Call (.Attribute o name apos) (e :: es) [] cpos) (tBM X.K T r to t) := by
 intro pins s σ H Q I h
 refine wpAny_Call_method_late hbase hfew hline rfl (thn (ho pins s σ H _ I h) λ v s1 ⟨x, H1, I1, r1, ty, q1⟩ => ?_)
 obtain ⟨h1, h2⟩ := zoi I1 r1 ty
 refine ⟨T, id, pa, slot, hty, h1, h2, ?_⟩
 have hA := ha cpos pins s1 σ H1 _ I1 q1
 rw [hs] at hA ⊢
 refine Calls.callWith_builtin (by show (false || (backTo cpos (starEach es X.env)).any (·.1)) = false; rw [hplain] <;> rfl) (Calls.evalArgs_plain ?_)
 exact thn hA λ us s2 ⟨vs, H2, I2, r2, q2⟩ => hm pins s2 σ H2 x vs v us Q I2 r1 r2 q2
end
end L2
namespace L2
open PySem PySem.Spec PyProof.Rows
def MtM (X : Cx) (id : String) (r : V -> List V -> Hp -> VK -> Prop) : Prop :=
 ∀ (pins : List (Addr × Obj)) (s : Shared) (σ : St) (H : Hp) (x : V) (xs : List V) (v : Value) (us : List Value) (Q : VK), Inv X pins σ H s -> RelV x v -> Vals xs us -> r x xs H Q ->
  wpAny (model X.prog X.w) X.A (call (.builtin id) (v :: us)) (EP X pins σ Q) X.xe s
theorem Vals.one : ∀ {x : V} {us : List Value}, Vals [x] us -> ∃ u, us = [u] /\ RelV x u
 | _, _, .cons r .nil => ⟨_, rfl, r⟩
theorem Vals.eraseIdx : ∀ {xs : List V} {us : List Value} (i : Nat), Vals xs us -> Vals (xs.eraseIdx i) (us.eraseIdx i)
 | _, _, _, .nil => .nil
 | _, _, 0, .cons _ t => t
 | _, _, i + 1, .cons r t => .cons r (Vals.eraseIdx i t)
theorem Vals.rep (h : Vals xs us) : ∀ k : Nat, Vals (List.replicate k xs).flatten (List.replicate k us).flatten
 | 0 => .nil
 | k + 1 => by
  rw [List.replicate_succ, List.replicate_succ, List.flatten_cons, List.flatten_cons]
  exact Vals.append h (Vals.rep h k)
theorem zeY : ∀ (l : List α) (i : Nat), (l.eraseIdx i).length <= l.length
 | [], _ => zzL _
 | _ :: _, 0 => Nat.le_succ _
 | _ :: r, i + 1 => Nat.succ_le_succ (zeY r i)
theorem foldl_rep (its : List Value) : ∀ (k : Nat) (acc : List Value),
 List.foldl (λ x1 x2 => x1 ++ x2) acc.toArray (List.replicate k its.toArray) = (acc ++ (List.replicate k its).flatten).toArray
 | 0, acc => by simp
 | k + 1, acc => by
  have e : acc.toArray ++ its.toArray = (acc ++ its).toArray := by simp
  have e2 : (acc ++ its) ++ (List.replicate k its).flatten = acc ++ (List.replicate (k + 1) its).flatten := by
   rw [List.replicate_succ, List.flatten_cons, List.append_assoc]
  rw [<- e2, <- foldl_rep its k (acc ++ its), <- e, List.replicate_succ, List.foldl_cons]
section
variable {X : Cx} {pins : List (Addr × Obj)} {σ : St} {H : Hp} {s : Shared} {l b : Addr} {xs ys zs : List V}
theorem Inv.lset {its its' : List Value} {n : Nat} {f : Array Value -> Array Value} {t' : Nat} (I : Inv X pins σ H s) (hH : H l = some (.lst xs))
 (e : s.heap.get? l = some { cls := .type "list", data := .seq its.toArray n }) (hf : f its.toArray = its'.toArray) (hv : Vals ys its') (hz : ys.length <= sizeLine) :
 Inv X pins σ (upd H l (.lst ys)) { s with heap := s.heap.update l (Obj.mapSeq f), toks := t' } := by
 have q := PySem.IsL.update e f
 rw [hf] at q
 refine I.write (x := l) (e := l) (by rw [hH]; exact trivial) (.inl rfl) (λ b' u hb hu => (Heap.get?_update_other s.heap (Obj.mapSeq f) (Ne.symm hb)).trans hu) ⟨_, q⟩ ?_
 exact ⟨hz, its', _, hv, q⟩
theorem Inv.lnew (I : Inv X pins σ H s) (hv : Vals ys its) (hz : ys.length <= sizeLine) :
 Inv X pins σ (upd H s.heap.objs.size (.lst ys)) { s with heap := s.heap.push { cls := .type "list", data := .seq its.toArray }, toks := t' } :=
 I.laid (λ _ _ q => Heap.get?_push_of_some _ q) (zzL _) ⟨hz, its, 0, hv, Heap.get?_push_size _ rfl⟩
theorem Inv.fresh (I : Inv X pins σ H s) : H s.heap.objs.size = none := I.hok.fresh (zzL _)
theorem Inv.lstM (I : Inv X pins σ H s) (hH : H l = some (.lst xs)) : xs.length <= sizeLine /\ ∃ (its : List Value) (n : Nat), Vals xs its /\ xs.length = its.length /\ s.heap.get? l = some { cls := .type "list", data := .seq its.toArray n } := by
 obtain ⟨z, its, n, r, e⟩ := I.hok l _ hH
 exact ⟨z, its, n, r, r.length, e⟩
theorem zkJ (h : n <= sizeLine) : Builtin.List.listTooLong n = false := by
 unfold Builtin.List.listTooLong
 exact decide_eq_false (by omega)
end
section
variable {X : Cx}
def ziR : V -> List V -> Hp -> VK -> Prop := λ x vs H Q => ∃ l xs y, x = .ref l /\ vs = [y] /\ H l = some (.lst xs) /\ xs.length < sizeLine /\ Q .non (upd H l (.lst (xs ++ [y])))
theorem wG : MtM X "list.append" ziR := by
 intro pins s σ H x vs v us Q I rx rv h
 obtain ⟨l, xs, y, rfl, rfl, hH, hz, q⟩ := h
 cases rx
 obtain ⟨u, rfl, ru⟩ := rv.one
 obtain ⟨z, its, n, r, hl, e⟩ := I.lstM hH
 refine call_meets F.slot_list_append ⟨_, e, rfl⟩ F.entry_list_append (F.args_list_append_2 _ _) (PySem.list_append l its.toArray n u (by rw [zzF]; omega)) ⟨e, ?_⟩
 refine ⟨.non, _, I.lset (its' := its ++ [u]) hH e (by simp) (r.append (.cons ru .nil)) ?_, rfl, q⟩
 rw [zzH, List.length_singleton]
 omega
def zlF : V -> List V -> Hp -> VK -> Prop := λ x vs H Q => ∃ l xs i k y, x = .ref l /\ vs = [.int i] /\ H l = some (.lst xs) /\ -(2 ^ 63) <= i /\ i < 2 ^ 63 /\ seqIndex? i xs.length = some k /\ xs[k]? = some y /\ Q y (upd H l (.lst (xs.eraseIdx k)))
theorem zkn : MtM X "list.pop" zlF := by
 intro pins s σ H x vs v us Q I rx rv h
 obtain ⟨l, xs, i, k, y, rfl, rfl, hH, h1, h2, hk, hy, q⟩ := h
 cases rx
 obtain ⟨u, rfl, ru⟩ := rv.one
 obtain ⟨t, rfl⟩ := ru
 obtain ⟨z, its, n, r, hl, e⟩ := I.lstM hH
 obtain ⟨w, hw, rw'⟩ := r.get hy
 refine call_meets F.slot_list_pop ⟨_, e, rfl⟩ F.entry_list_pop (F.args_list_pop_2 _ _)
  (MeetsSeq.list_pop_at l its.toArray n i t k w (fitsIndex_both h1 h2) (by rw [zzF, <- hl]; exact hk) (by rw [<- Array.getElem?_toList]; exact hw) (by rw [zzF]; omega)) ⟨e, ?_⟩
 refine ⟨y, _, I.lset (its' := its.eraseIdx k) hH e ?_ (r.eraseIdx k) ?_, rw', q⟩
 · show its.toArray.eraseIdxIfInBounds k = (its.eraseIdx k).toArray
   rw [List.eraseIdxIfInBounds_toArray]
 · have := zeY xs k
   omega
theorem len_rep (xs : List α) (k : Nat) : (List.replicate k xs).flatten.length = k * xs.length := by
 induction k with
 | zero => simp
 | succ k ih => rw [List.replicate_succ, List.flatten_cons, zzH, ih, Nat.succ_mul, Nat.add_comm]
end
end L2
namespace Att
open PySem PySem.W PySem.Calls PyProof.Rows
theorem zcP : ∀ (ns : List Int) (vs : List Value), WellAll P h vs (ns.map WData.int) -> IntsAre vs ns := by
 intro ns
 induction ns with
 | nil =>
  intro vs w
  rw [List.map_nil] at w
  cases w
  exact .nil
 | cons n ns ih =>
  intro vs w
  rw [List.map_cons] at w
  cases w with
  | cons a b =>
   cases a
   exact .cons _ _ (ih _ b)
theorem zjo {l : OpenLaw} {n : Nat} (hn : l.most = some n) {P : Params} {h : Heap} {args : List WData} {vals : List Value}
 (hpre : l.row.toRowW.claim.pre args = true) (hwl : WellAll P h vals args) :
 ∃ a vs ns, vals = [Value.ref a] /\ args = [WData.list (ns.map WData.int)] /\ h.get? a = some { cls := .type "list", data := .seq vs.toArray } /\ IntsAre vs ns /\ ns.length <= n := by
 have hsh : WShape.hasAll [] args [.list .int] = true := (pre_splitW hpre).1
 have hc : l.pre.holds [] { args := args } = true := (pre_splitW hpre).2
 obtain ⟨d, r, rfl, h1, h2⟩ := hasAllW_cons hsh
 obtain rfl := hasAllW_nil h2
 obtain ⟨xs, rfl, h3⟩ := hasW_list h1
 obtain ⟨ns, rfl⟩ := items_int h3
 have hlen : ns.length <= n := by
  unfold OpenLaw.pre at hc
  have h4 : (WTm.not (.lt (.lit (.int (n : Int))) (.len (.arg 0)))).holds [] { args := [.list (ns.map .int)] } = true := by
   have h4 := (holds_andW hc).1
   rw [hn] at h4
   exact h4
  have h5 := condW_of h4 (w_not (w_lt w_lit (w_len_list (w_arg rfl))))
  rw [zD] at h5
  refine Nat.le_of_not_lt λ q => ?_
  have q' : (n : Int) < ((ns.length : Nat) : Int) := by omega
  first
   | (rw [decide_eq_true q'] at h5; exact absurd h5 (by decide))
   | (simp at h5; omega)
 cases hwl with
 | cons w1 w2 =>
  cases w2
  cases w1 with
  | list ho hall => exact ⟨_, _, ns, rfl, rfl, ho, zcP ns _ hall, hlen⟩
theorem zjx (l : OpenLaw) (args : List WData) : l.row.toRowW.claim.post args (.bool true) args = true :=
 postW_of (r := l.row.toRowW) (X := (true == true))
  (show WShape.has [] (.bool true) .bool = true by first | rfl | decide | simp [WShape.has, WShape.arms, WShape.armsAll])
  (show (WTm.eq .res (.lit (.bool true))).value [] { args := args, res := some (.bool true), after := args } = some (.bool (true == true)) from w_eq_bool (w_res rfl) w_lit) rfl
theorem zgE {l : OpenLaw} {n : Nat} {q : Program} {loose : List Str} {XP : (Str -> Option Value) -> Heap -> Prop} {YP : World -> Heap -> Prop} {d : DefRec}
 (hn : l.most = some n) (hdf : d.params.defaults = [])
 (call : ∀ (w : World) (s₀ s₁ : Shared) (mg mb : Str -> Option Value) (fa : Addr) (o : Obj) (pm cd doc : Value) (a : Addr) (vs : List Value) (ns : List Int),
  Ground q loose [] XP w s₀ mg mb s₁.heap -> YP w s₁.heap ->
  s₁.heap.get? fa = some o -> o.data = .func (docDef d.name d.params d.body d.scope pm cd doc) -> s₁.heap.CodeRec cd d.name -> mg d.name = some (.ref fa) ->
  s₁.heap.get? a = some { cls := .type "list", data := .seq vs.toArray } -> IntsAre vs ns -> ns.length <= n -> s₁.gens = #[] ->
  codeAny (model l.prog w) callerA (.call (.ref fa) ⟨[.ref a], []⟩) (λ r s' => r = .ok (.ret (.bool true)) /\ OldK s₁.heap s'.heap /\ s'.os = s₁.os /\ AllBare s'.gens) s₁) :
 WalkO q loose XP YP l.row.toRowW d [] (λ f vs => PySem.call f vs) := by
 intro w s₀ s₁ mg mb G Y fa o pm cd doc dV kV ho hd hcd hD hmg hg args vals as hpre hlay hrd hwl hlo
 obtain rfl : dV = .none := Dflts.none hD hdf
 obtain rfl : kV = .none := Dflts.noKw hD
 obtain ⟨a, vs, ns, rfl, rfl, hobj, hints, hlen⟩ := zjo hn hpre hwl
 refine enter_call (codeAny_mono (call w s₀ s₁ mg mb fa o pm cd doc a vs ns G Y ho (fd_plain hd) hcd hmg hobj hints hlen hg) λ r s' hq => ?_)
 obtain ⟨rfl, h2, h3, h4⟩ := hq
 exact ⟨.inl ⟨.bool true, .bool true, [], rfl, λ _ => rfl, .bool true, zjx l _, λ _ => ⟨List.Pairwise.nil, λ _ hm => (nomatch hm)⟩⟩, h2, h3, h4⟩
end Att
namespace L2
open PySem PySem.Spec PyProof.Rows
theorem Xq : ∀ {vs : List Value} {ns : List Int}, IntsAre vs ns -> Vals (ns.map V.int) vs
 | _, _, .nil => .nil
 | _, _, .cons n t h => .cons ⟨t, rfl⟩ (Xq h)
def Only (H : Hp) : Prop := ∀ b, H b = none \/ ∃ o xs, H b = some (.frz o (.lst xs))
theorem zkB {P : Program} {w : World} {K : zC} {mg mb : Str -> Option Value} {CX : CXT} {k : Nat} {fa a : Addr} {fd : FuncData} {x : Str} {sp : Sp} {s₁ : Shared} {vs : List Value} {ns : List Int}
 (KX : K.In s₁.heap) (hns : s₁.heap.Ns mainGlobals mg) (hb : s₁.heap.Ns builtinsNs mb) (hbb : ∀ x : Str, x ≠ "__name__" -> mb x = bootBuiltins x) (hlim : s₁.heap.NoLimit) (hg : s₁.gens = #[])
 (ha : s₁.heap.get? a = some { cls := .type "list", data := .seq vs.toArray }) (hi : IntsAre vs ns) (hl : ns.length <= sizeLine) (hr : Room k callerA)
 (F : ∀ base : Heap, K.In base -> base.Ns mainGlobals mg -> FnOk P w K mg base CX k fa fd [x] sp) (hbind : ∀ (s : Shared) (u : Value), BindsTo s fd ⟨[u], []⟩ [(x, u)])
 (hsp : ∀ H : Hp, Only H -> RdL K H a (ns.map V.int) -> sp [.ref a] H (λ v _ => v = .bl true) λ _ _ _ => False)
 (hCX : ∀ H e s', CX [] H s₁ (λ _ _ _ => False) e s' -> False) :
 codeAny (model P w) callerA (.call (.ref fa) ⟨[.ref a], []⟩) (λ r s' => r = .ok (.ret (.bool true)) /\ OldK s₁.heap s'.heap /\ s'.os = s₁.os /\ AllBare s'.gens) s₁ := by
 have rv := Xq hi
 have lenV := hi.length
 have core : ∀ H : Hp, Only H -> RdL K H a (ns.map V.int) -> HOk P w H s₁.heap -> (∀ b, H b ≠ none -> b = a) -> (H a ≠ none -> K.lookup a = none) ->
  codeAny (model P w) callerA (.call (.ref fa) ⟨[.ref a], []⟩) (λ r s' => r = .ok (.ret (.bool true)) /\ OldK s₁.heap s'.heap /\ s'.os = s₁.os /\ AllBare s'.gens) s₁ := by
  intro H hO hS hok hA hK
  have base_of : ∀ {b : Addr} {o : Obj}, s₁.heap.get? b = some o -> H b = none -> (zfN s₁.heap H).get? b = some o := λ e n => zlA e n
  have noA : ∀ {b : Addr} {o : Obj} {es : Array DictEntry} {ep : Nat}, s₁.heap.get? b = some o -> o.data = .dict es ep -> H b = none := λ {b o es ep} e d => by
   cases q : H b with
   | none => rfl
   | some u =>
    have e' : b = a := hA b (by rw [q]; simp)
    subst e'
    rw [ha] at e; cases e
    have d' : Data.seq vs.toArray _ = Data.dict es ep := d
    cases d'
  have nsK : ∀ {b : Addr} {m : Str -> Option Value}, s₁.heap.Ns b m -> (zfN s₁.heap H).Ns b m := λ {b m} ⟨o, es, ep, e, d, r⟩ => ⟨o, es, ep, base_of e (noA e d), d, r⟩
  have hKb : K.In (zfN s₁.heap H) := λ b o e => base_of (KX b o e) (by
   cases q : H b with
   | none => rfl
   | some u =>
    have e' : b = a := hA b (by rw [q]; simp)
    subst e'
    rw [hK (by rw [q]; simp)] at e; cases e)
  have hM : Mod K mg (zfN s₁.heap H) := ⟨hKb, nsK hns, ⟨mb, nsK hb, hbb⟩, let ⟨mc, h1, h2⟩ := hlim; ⟨mc, nsK h1, h2⟩⟩
  have e0 : Env0 P w K mg (zfN s₁.heap H) callerA [] s₁ H := ⟨rfl, hM, λ b o e => zmY e, Nat.le_of_eq (zjj _ _), trivial, λ b hb => absurd (show b ∈ ([] : List Addr) from hb) (by simp), hok, .of_eq hg⟩
  refine codeAny_mono ((F _ hKb (nsK hns)).run callerA [] s₁ H ⟨[.ref a], []⟩ [.ref a] [.ref a] _ _ hr e0 (hbind s₁ (.ref a)) (.cons rfl .nil) (hsp H hO hS)) λ r s' h => ?_
  cases r with
  | error e => exact (hCX H e s' h).elim
  | ok fl =>
   cases fl with
   | next => exact False.elim h
   | brk => exact False.elim h
   | cont => exact False.elim h
   | ret u =>
    obtain ⟨v, H', os, bare, un, hok', r', q⟩ := h
    have q' : v = .bl true := q
    subst q'
    obtain rfl : u = Value.bool true := r'
    refine ⟨rfl, OldK.of_keep λ b o e => ?_, os, bare⟩
    cases q : H b with
    | none => exact un.keep b o e q (by intro z; exact absurd (show b ∈ ([] : List Addr) from z) (by simp)) (by simp)
    | some u =>
     rcases hO b with z | ⟨ob, xs, z⟩
     · rw [q] at z; cases z
     · have z2 := un.frzs b ob _ z
       obtain ⟨e1, _⟩ := hok b _ z
       obtain ⟨e2, _⟩ := hok' b _ z2
       rw [e] at e1; cases e1
       exact e2
 cases hk : K.lookup a with
 | some o =>
  have e := KX a o hk
  rw [ha] at e
  cases e
  refine core (λ _ => none) (λ _ => .inl rfl) (.inr ⟨vs.toArray, _, hk, by rw [zzF, lenV]; exact hl, by simpa using rv⟩) (λ b u z => by have z' : (none : Option HO) = some u := z; cases z') (λ b z => absurd rfl z) λ z => absurd rfl z
 | none =>
  refine core (λ b => if b = a then some (.frz { cls := .type "list", data := .seq vs.toArray } (.lst (ns.map V.int))) else none) (λ b => ?_) (.inl (.inr ⟨{ cls := .type "list", data := .seq vs.toArray }, if_pos rfl⟩)) (λ b u z => ?_) (λ b z => ?_) λ _ => hk
  · by_cases hb : b = a
    · exact .inr ⟨_, _, if_pos hb⟩
    · exact .inl (if_neg hb)
  · by_cases hb : b = a
    · have z' := (if_pos hb).symm.trans z
      cases z'
      subst hb
      exact ⟨ha, by rw [zD]; exact hl, vs, _, rv, ha⟩
    · have z' := (if_neg hb).symm.trans z
      cases z'
  · by_cases hb : b = a
    · exact hb
    · exact absurd (if_neg hb) z
end L2
namespace L2
open PySem PySem.Spec PyProof.Rows
theorem walk_of {l : PySem.W.OpenLaw} {n k : Nat} {q : Program} {loose : List Str} {XP : (Str -> Option Value) -> Heap -> Prop} {YP : World -> Heap -> Prop} {d : DefRec} {K : Params -> zC} {CX : World -> CXT} {sp : World -> Sp} {x : Str}
 (hn : l.most = some n) (hn2 : n <= sizeLine) (hdf : d.params.defaults = []) (hr : Room k callerA)
 (hY : ∀ (w : World) (h : Heap), YP w h -> (K w.params).In h)
 (F : ∀ (w : World) (mg : Str -> Option Value) (fa : Addr) (h : Heap), (K w.params).In h -> h.Ns mainGlobals mg -> mg d.name = some (.ref fa) ->
  ∃ fd : FuncData, (∀ (s : Shared) (u : Value), BindsTo s fd ⟨[u], []⟩ [(x, u)]) /\
   ∀ base : Heap, (K w.params).In base -> base.Ns mainGlobals mg -> FnOk l.prog w (K w.params) mg base (CX w) k fa fd [x] (sp w))
 (hsp : ∀ (w : World) (H : Hp) (a : Addr) (ns : List Int), ns.length <= n -> Only H -> RdL (K w.params) H a (ns.map V.int) -> sp w [.ref a] H (λ v _ => v = .bl true) λ _ _ _ => False)
 (hCX : ∀ (w : World) (H : Hp) (s : Shared) (e : Value) (s' : Shared), CX w [] H s (λ _ _ _ => False) e s' -> False) :
 PySem.W.WalkO q loose XP YP l.row.toRowW d [] (λ f vs => PySem.call f vs) := by
 refine Att.zgE hn hdf λ w s₀ s₁ mg mb fa o pm cd doc a vs ns G Y ho hd hcd hmg hobj hints hlen hg => ?_
 have KX := hY w _ Y
 obtain ⟨fd, hb, hF⟩ := F w mg fa _ KX G.T.g hmg
 exact zkB KX G.T.g G.T.b G.T.builtins G.T.nolimit hg hobj hints (zzM hlen hn2) hr hF hb (λ H hO hS => hsp w H a ns hlen hO hS) λ H e s' => hCX w H s₁ e s'
end L2
namespace L2
open PySem PySem.Spec PyProof.Rows
def zgq (s : Stmt) : Arguments := match s with
 | .FunctionDef _ a _ _ _ _ _ _ _ _ => a
 | _ => { posonlyargs := [], args := [], vararg := none, kwonlyargs := [], kw_defaults := [], kwarg := none, defaults := [] }
def zaL (s : Stmt) : List Stmt := match s with
 | .FunctionDef _ _ b _ _ _ _ _ _ _ => b
 | _ => []
def zE (s : Stmt) : Scope := match s with
 | .FunctionDef _ _ _ _ _ _ sc _ _ _ => sc
 | _ => { kind := .function, names := [], isGenerator := false, isCoroutine := false }
abbrev CX0 : CXT := λ _ _ _ _ _ _ => False
abbrev E0 : XK := λ _ _ _ => False
theorem yM : zfJ CX0 X E0 := λ _ _ _ _ _ _ _ h => h.elim
structure Fun (K : zC) (x qual : Str) (st : Stmt) (f : Addr) (fd : FuncData) : Prop where
 ex : ∃ (oc : Value) (od : Option Addr) (kV doc pm : Value) (an : Option Addr) (cdv ct : Value) (osl : Array (Option Value)),
  fd = PySem.W.fnOf x qual (zgq st) (zaL st) (zE st) .none kV doc pm an cdv ct /\ K.lookup f = some ⟨oc, od, .func fd, osl⟩ /\ PySem.W.codeIn K cdv qual = true
 kp : PySem.W.keepIn K (.ref f) = true
section
variable {P : Program} {w : World} {K : zC} {mg : Str -> Option Value} {base : Heap}
theorem Fun.ok {x qual : Str} {st : Stmt} {f : Addr} {fd : FuncData} {N ps : List Str} {k : Nat} {sp : Sp} (F : Fun K x qual st f fd) (S : FnScope N ps (zE st)) (len : ∀ vs H Q E, sp vs H Q E -> vs.length = ps.length)
 (hbody : ∀ (cdv : Value) (A : Around) (outer : List Env) (s : Shared) (H : Hp) (vs : List V) (Q : VK) (E : XK), Room k (A.deeper (envOfC qual (zE st) s.heap.objs.size f cdv)) -> sp vs H Q E ->
  ∃ t, PSs (zhJ CX0 P w K mg base N qual (zE st) f cdv A outer s H E).nox (zaL st) t /\ t { nx := λ _ H' => Q .non H', rt := Q } (start N vs) H) : FnOk P w K mg base CX0 (k + 1) f fd ps sp := by
 obtain ⟨oc, od, kV, doc, pm, an, cdv, ct, osl, rfl, lk, hcd⟩ := F.ex
 refine zpt lk hcd S len λ A outer s H vs Q E hr hsp => ?_
 obtain ⟨t, h, q⟩ := hbody cdv A outer s H vs Q E hr hsp
 exact ⟨t, h.nox, q⟩
theorem Fun.binds {x qual : Str} {st : Stmt} {f : Addr} {fd : FuncData} {ps : List Str} (F : Fun K x qual st f fd)
 (h : ∀ (kV doc pm : Value) (an : Option Addr) (cdv ct : Value) (us : List Value), us.length = ps.length -> bindArgs (PySem.W.fnOf x qual (zgq st) (zaL st) (zE st) .none kV doc pm an cdv ct) ⟨us, []⟩ = pure (ps.zip us)) : Binds K fd ps [] := by
 obtain ⟨oc, od, kV, doc, pm, an, cdv, ct, osl, rfl, lk, hcd⟩ := F.ex
 exact .all (h kV doc pm an cdv ct)
end
theorem vC (h : n <= 1000) : n < sizeLine := Nat.lt_of_le_of_lt h (by decide)
section
variable {X : Cx}
theorem pv (i : Nat) (hN : X.N[i]? = some x := by rfl) (hv : Vis X.env.scope x := by first | exact Or.inl rfl | exact Or.inr (Or.inl rfl) | exact Or.inr (Or.inr rfl)) (hd : (x == ("__debug__" : Str)) = false := by decide)
 (hcd : (x == ("__classdict__" : Str)) = false := by decide) : PE X (.Name x pos) (Xh i) := zkL hN hv hd hcd
end
end L2
end
section
namespace PF
open PySem PySem.Spec PyProof.Rows L2
abbrev St := L2.St
structure KD where
 d : Addr -> List (Key × V) -> Prop
 c : Str -> Addr
instance : CoeFun KD (λ _ => Addr -> List (Key × V) -> Prop) := ⟨KD.d⟩
inductive D where
 | non | bl (b : Bool) | int (i : Int) | str (x : Str) | tup (ds : List D) | lst (ds : List D) | dct (kvs : List (Key × D)) | cl (c : Str) | ob (c : Str) (ns : List Str) (ds : List D)
mutual
inductive Rp (K : zC) (kd : KD) (O : Addr -> Prop) (H : Hp) : V -> D -> Prop
 | non : Rp K kd O H .non .non
 | bl (b : Bool) : Rp K kd O H (.bl b) (.bl b)
 | int (i : Int) : Rp K kd O H (.int i) (.int i)
 | str (x : Str) : Rp K kd O H (.str x) (.str x)
 | tup {a : Addr} {vs : List V} {ds : List D} : ¬ O a -> Rd H a (.tup vs) -> RpL K kd O H vs ds -> Rp K kd O H (.ref a) (.tup ds)
 | tupK {a : Addr} {o : Obj} {its : Array Value} {n : Nat} {vs : List V} {ds : List D} : K.lookup a = some o -> o.cls = .type "tuple" -> o.data = .seq its n -> its.size <= sizeLine -> Vals vs its.toList -> RpL K kd O H vs ds -> Rp K kd O H (.ref a) (.tup ds)
 | lst {a : Addr} {vs : List V} {ds : List D} : ¬ O a -> Rd H a (.lst vs) -> RpL K kd O H vs ds -> Rp K kd O H (.ref a) (.lst ds)
 | lstK {a : Addr} {its : Array Value} {n : Nat} {vs : List V} {ds : List D} : K.lookup a = some { cls := .type "list", data := .seq its n } -> its.size <= sizeLine -> Vals vs its.toList -> RpL K kd O H vs ds -> Rp K kd O H (.ref a) (.lst ds)
 | dct {a : Addr} {kvs : List (Key × V)} {ds : List (Key × D)} : ¬ O a -> Rd H a (.dK kvs) -> RpM K kd O H kvs ds -> Rp K kd O H (.ref a) (.dct ds)
 | dctK {a : Addr} {kvs : List (Key × V)} {ds : List (Key × D)} : kd a kvs -> RpM K kd O H kvs ds -> Rp K kd O H (.ref a) (.dct ds)
 | cl (c : Str) : Rp K kd O H (.ref (kd.c c)) (.cl c)
 | ob {a dx : Addr} {c : Str} {ns : List Str} {vs : List V} {ds : List D} : ¬ O a -> H a = some (.ins (kd.c c) dx (ns.zip vs)) -> ns.length = vs.length -> RpL K kd O H vs ds -> Rp K kd O H (.ref a) (.ob c ns ds)
inductive RpL (K : zC) (kd : KD) (O : Addr -> Prop) (H : Hp) : List V -> List D -> Prop
 | nil : RpL K kd O H [] []
 | cons {v : V} {d : D} {vs : List V} {ds : List D} : Rp K kd O H v d -> RpL K kd O H vs ds -> RpL K kd O H (v :: vs) (d :: ds)
inductive RpM (K : zC) (kd : KD) (O : Addr -> Prop) (H : Hp) : List (Key × V) -> List (Key × D) -> Prop
 | nil : RpM K kd O H [] []
 | cons {k : Key} {v : V} {d : D} {vs : List (Key × V)} {ds : List (Key × D)} : Rp K kd O H v d -> RpM K kd O H vs ds -> RpM K kd O H ((k, v) :: vs) ((k, d) :: ds)
end
structure Grow (W : Addr -> Prop) (H : Hp) (W' : Addr -> Prop) (H' : Hp) : Prop where
 keep : ∀ b o, H b = some o -> ¬ W b -> H' b = some o
 own : ∀ b, W' b -> W b \/ H b = none
theorem Grow.refl {W : Addr -> Prop} {H : Hp} : Grow W H W H := ⟨λ _ _ h _ => h, λ _ h => .inl h⟩
theorem Grow.trans {W W1 W2 : Addr -> Prop} {H H1 H2 : Hp} (a : Grow W H W1 H1) (b : Grow W1 H1 W2 H2) : Grow W H W2 H2 where
 keep := λ x o h n => b.keep x o (a.keep x o h n) λ q => (a.own x q).elim n λ z => by rw [z] at h; cases h
 own := λ x q => by
  rcases b.own x q with h | h
  · exact a.own x h
  · cases e : H x with
    | none => exact .inr rfl
    | some o =>
     refine .inl (Classical.byContradiction λ n => ?_)
     rw [a.keep x o e n] at h
     cases h
theorem Grow.less {W W' : Addr -> Prop} {H : Hp} (h : ∀ a, W' a -> W a) : Grow W H W' H := ⟨λ _ _ q _ => q, λ b q => .inl (h b q)⟩
abbrev Un2 (F W : Addr -> Prop) : Addr -> Prop := λ a => F a \/ W a
section
variable {K : zC} {kd : KD} {F W W' : Addr -> Prop} {H H' : Hp}
theorem VJ {a : Addr} {u : HO} (g : Grow W H W' H') (n : ¬ W a) (h : Rd H a u) : Rd H' a u := by
 rcases h with h | ⟨o, h⟩
 · exact .inl (g.keep _ _ h n)
 · exact .inr ⟨o, g.keep _ _ h n⟩
theorem zlI {a : Addr} {u : HO} (h : Rd H a u) : H a ≠ none := by
 rcases h with h | ⟨o, h⟩ <;> (rw [h]; simp)
theorem zbn {a : Addr} {u : HO} (g : Grow W H W' H') (n : ¬ Un2 F W a) (h : Rd H a u) : ¬ Un2 F W' a := λ q =>
 q.elim (λ z => n (.inl z)) λ z => (g.own a z).elim (λ y => n (.inr y)) λ y => zlI h y
theorem Rp.grow (g : Grow W H W' H') {v : V} {d : D} (h : Rp K kd (Un2 F W) H v d) : Rp K kd (Un2 F W') H' v d :=
 Rp.rec (motive_1 := λ v d _ => Rp K kd (Un2 F W') H' v d) (motive_2 := λ vs ds _ => RpL K kd (Un2 F W') H' vs ds) (motive_3 := λ vs ds _ => RpM K kd (Un2 F W') H' vs ds) .non .bl .int .str (λ n h _ r => .tup (zbn g n h) (VJ g (λ z => n (.inr z)) h) r) (λ a b c e f _ r => .tupK a b c e f r) (λ n h _ r => .lst (zbn g n h) (VJ g (λ z => n (.inr z)) h) r) (λ a e f _ r => .lstK a e f r) (λ n h _ r => .dct (zbn g n h) (VJ g (λ z => n (.inr z)) h) r) (λ h _ r => .dctK h r) .cl (λ n h l _ r => .ob (zbn g n (.inl h)) (g.keep _ _ h λ z => n (.inr z)) l r) .nil (λ _ _ h r => .cons h r) .nil (λ _ _ h r => .cons h r) h
theorem RpL.ind {O : Addr -> Prop} {P : List V -> List D -> Prop} (h0 : P [] []) (h1 : ∀ {v d vs ds}, Rp K kd O H v d -> RpL K kd O H vs ds -> P vs ds -> P (v :: vs) (d :: ds)) {vs : List V} {ds : List D} (h : RpL K kd O H vs ds) : P vs ds :=
 RpL.rec (motive_1 := λ _ _ _ => True) (motive_2 := λ vs ds _ => P vs ds) (motive_3 := λ _ _ _ => True) ⟨⟩ (λ _ => ⟨⟩) (λ _ => ⟨⟩) (λ _ => ⟨⟩) (λ _ _ _ _ => ⟨⟩) (λ _ _ _ _ _ _ _ => ⟨⟩) (λ _ _ _ _ => ⟨⟩) (λ _ _ _ _ _ => ⟨⟩) (λ _ _ _ _ => ⟨⟩) (λ _ _ _ => ⟨⟩) (λ _ => ⟨⟩) (λ _ _ _ _ _ => ⟨⟩) h0 (λ a r _ ih => h1 a r ih) ⟨⟩ (λ _ _ _ _ => ⟨⟩) h
theorem RpM.ind {O : Addr -> Prop} {P : List (Key × V) -> List (Key × D) -> Prop} (h0 : P [] []) (h1 : ∀ {k v d vs ds}, Rp K kd O H v d -> RpM K kd O H vs ds -> P vs ds -> P ((k, v) :: vs) ((k, d) :: ds)) {vs : List (Key × V)} {ds : List (Key × D)} (h : RpM K kd O H vs ds) : P vs ds :=
 RpM.rec (motive_1 := λ _ _ _ => True) (motive_2 := λ _ _ _ => True) (motive_3 := λ vs ds _ => P vs ds) ⟨⟩ (λ _ => ⟨⟩) (λ _ => ⟨⟩) (λ _ => ⟨⟩) (λ _ _ _ _ => ⟨⟩) (λ _ _ _ _ _ _ _ => ⟨⟩) (λ _ _ _ _ => ⟨⟩) (λ _ _ _ _ _ => ⟨⟩) (λ _ _ _ _ => ⟨⟩) (λ _ _ _ => ⟨⟩) (λ _ => ⟨⟩) (λ _ _ _ _ _ => ⟨⟩) ⟨⟩ (λ _ _ _ _ => ⟨⟩) h0 (λ a r _ ih => h1 a r ih) h
theorem RpL.grow (g : Grow W H W' H') {vs : List V} {ds : List D} (h : RpL K kd (Un2 F W) H vs ds) : RpL K kd (Un2 F W') H' vs ds := RpL.ind .nil (λ a _ r => .cons (Rp.grow g a) r) h
theorem Rp.less {O O' : Addr -> Prop} (g : ∀ a, O' a -> O a) {v : V} {d : D} (h : Rp K kd O H v d) : Rp K kd O' H v d :=
 Rp.rec (motive_1 := λ v d _ => Rp K kd O' H v d) (motive_2 := λ vs ds _ => RpL K kd O' H vs ds) (motive_3 := λ vs ds _ => RpM K kd O' H vs ds) .non .bl .int .str (λ n h _ r => .tup (λ z => n (g _ z)) h r) (λ a b c e f _ r => .tupK a b c e f r) (λ n h _ r => .lst (λ z => n (g _ z)) h r) (λ a e f _ r => .lstK a e f r) (λ n h _ r => .dct (λ z => n (g _ z)) h r) (λ h _ r => .dctK h r) .cl (λ n h l _ r => .ob (λ z => n (g _ z)) h l r) .nil (λ _ _ h r => .cons h r) .nil (λ _ _ h r => .cons h r) h
theorem RpL.less {O O' : Addr -> Prop} (g : ∀ a, O' a -> O a) {vs : List V} {ds : List D} (h : RpL K kd O H vs ds) : RpL K kd O' H vs ds := RpL.ind .nil (λ a _ r => .cons (Rp.less g a) r) h
theorem RpM.less {O O' : Addr -> Prop} (g : ∀ a, O' a -> O a) {vs : List (Key × V)} {ds : List (Key × D)} (h : RpM K kd O H vs ds) : RpM K kd O' H vs ds := RpM.ind .nil (λ a _ r => .cons (Rp.less g a) r) h
theorem RpL.length {O : Addr -> Prop} {vs : List V} {ds : List D} (h : RpL K kd O H vs ds) : vs.length = ds.length := RpL.ind (P := λ vs ds => vs.length = ds.length) rfl (λ _ _ r => congrArg (· + 1) r) h
theorem RpM.length {O : Addr -> Prop} {vs : List (Key × V)} {ds : List (Key × D)} (h : RpM K kd O H vs ds) : vs.length = ds.length := RpM.ind (P := λ vs ds => vs.length = ds.length) rfl (λ _ _ r => congrArg (· + 1) r) h
theorem RpL.get {O : Addr -> Prop} {vs : List V} {ds : List D} {i : Nat} {d : D} (h : RpL K kd O H vs ds) (e : ds[i]? = some d) : ∃ v, vs[i]? = some v /\ Rp K kd O H v d :=
 RpL.ind (P := λ vs ds => ∀ i, ds[i]? = some d -> ∃ v, vs[i]? = some v /\ Rp K kd O H v d) (λ i e => by rw [List.getElem?_nil] at e; cases e) (λ a _ ih i e => by
  cases i with
  | zero => cases e; exact ⟨_, rfl, a⟩
  | succ i => exact ih i e) h i e
theorem RpL.append {O : Addr -> Prop} {vs ws : List V} {ds es : List D} (h : RpL K kd O H vs ds) (r : RpL K kd O H ws es) : RpL K kd O H (vs ++ ws) (ds ++ es) := RpL.ind (P := λ vs ds => RpL K kd O H (vs ++ ws) (ds ++ es)) r (λ a _ t => .cons a t) h
theorem RpL.take {O : Addr -> Prop} {vs : List V} {ds : List D} (n : Nat) (h : RpL K kd O H vs ds) : RpL K kd O H (vs.take n) (ds.take n) :=
 RpL.ind (P := λ vs ds => ∀ n, RpL K kd O H (vs.take n) (ds.take n)) (λ n => by rw [List.take_nil, List.take_nil]; exact .nil) (λ a _ ih n => by
  cases n with
  | zero => exact .nil
  | succ n => exact .cons a (ih n)) h n
theorem RpL.drop {O : Addr -> Prop} {vs : List V} {ds : List D} (n : Nat) (h : RpL K kd O H vs ds) : RpL K kd O H (vs.drop n) (ds.drop n) :=
 RpL.ind (P := λ vs ds => ∀ n, RpL K kd O H (vs.drop n) (ds.drop n)) (λ n => by rw [List.drop_nil, List.drop_nil]; exact .nil) (λ a b ih n => by
  cases n with
  | zero => exact .cons a b
  | succ n => exact ih n) h n
theorem RpL.rep {O : Addr -> Prop} {vs : List V} {ds : List D} (h : RpL K kd O H vs ds) : ∀ k : Nat, RpL K kd O H (List.replicate k vs).flatten (List.replicate k ds).flatten
 | 0 => .nil
 | k + 1 => by
  rw [List.replicate_succ, List.replicate_succ, List.flatten_cons, List.flatten_cons]
  exact h.append (RpL.rep h k)
end
inductive Vw (K : zC) (kd : KD) (O : Addr -> Prop) (H : Hp) : V -> D -> Prop
 | non : Vw K kd O H .non .non
 | bl (b : Bool) : Vw K kd O H (.bl b) (.bl b)
 | int (i : Int) : Vw K kd O H (.int i) (.int i)
 | str (x : Str) : Vw K kd O H (.str x) (.str x)
 | tup {a : Addr} {vs : List V} {ds : List D} : Rp K kd O H (.ref a) (.tup ds) -> SqT K H a vs -> RpL K kd O H vs ds -> Vw K kd O H (.ref a) (.tup ds)
 | lst {a : Addr} {vs : List V} {ds : List D} : RdL K H a vs -> RpL K kd O H vs ds -> Vw K kd O H (.ref a) (.lst ds)
 | dct {a : Addr} {kvs : List (Key × V)} {ds : List (Key × D)} : (Rd H a (.dK kvs) \/ kd a kvs) -> RpM K kd O H kvs ds -> Vw K kd O H (.ref a) (.dct ds)
 | cl (c : Str) : Vw K kd O H (.ref (kd.c c)) (.cl c)
 | ob {a dx : Addr} {c : Str} {ns : List Str} {vs : List V} {ds : List D} : H a = some (.ins (kd.c c) dx (ns.zip vs)) -> ns.length = vs.length -> RpL K kd O H vs ds -> Vw K kd O H (.ref a) (.ob c ns ds)
theorem Rp.vw {K : zC} {kd : KD} {O : Addr -> Prop} {H : Hp} {v : V} {d : D} (h : Rp K kd O H v d) : Vw K kd O H v d := by
 cases h with
 | non => exact .non
 | bl b => exact .bl b
 | int i => exact .int i
 | str x => exact .str x
 | tup n h r => exact .tup (.tup n h r) (.inl h) r
 | tupK a b c e f r => exact .tup (.tupK a b c e f r) (.inr ⟨_, _, _, a, b, c, e, f⟩) r
 | lst n h r => exact .lst (.inl h) r
 | lstK a e f r => exact .lst (.inr ⟨_, _, a, e, f⟩) r
 | dct n h r => exact .dct (.inl h) r
 | dctK h r => exact .dct (.inr h) r
 | cl c => exact .cl c
 | ob n h l r => exact .ob h l r
theorem _root_.L2.RdL.sq {K : zC} {H : Hp} {a : Addr} {xs : List V} (h : RdL K H a xs) : SqL K H a xs := by
 rcases h with h | ⟨its, n, k, z, r⟩
 · exact .inl h
 · exact .inr ⟨_, its, n, k, rfl, rfl, rfl, z, r⟩
theorem zhY {X : Cx} {pins : List (Addr × Obj)} {σ : St} {H : Hp} {s : Shared} {a : Addr} {xs : List V} (I : Inv X pins σ H s) (h : RdL X.K H a xs) :
 xs.length <= sizeLine /\ ∃ (its : List Value) (n : Nat), Vals xs its /\ s.heap.get? a = some { cls := .type "list", data := .seq its.toArray n } := by
 rcases h with h | ⟨its, n, k, z, r⟩
 · exact h.ok I.hok
 · refine ⟨by rw [r.length]; simpa using z, its.toList, n, r, by simpa using I.kIn _ _ k⟩
theorem Rp.cl_eq {K : zC} {kd : KD} {O : Addr -> Prop} {H : Hp} {C : Addr} {c : Str} (h : Rp K kd O H (.ref C) (.cl c)) : C = kd.c c := by
 cases h; rfl
def yt : D -> Bool
 | .non => true | .bl _ => true | .int _ => true | .str _ => true | _ => false
theorem Rp.flat {K : zC} {kd : KD} {O O' : Addr -> Prop} {H H' : Hp} {v : V} {d : D} (h : Rp K kd O H v d) (e : yt d = true) : Rp K kd O' H' v d := by
 cases h with
 | non => exact .non
 | bl b => exact .bl b
 | int i => exact .int i
 | str x => exact .str x
 | _ => cases e
inductive Kind where
 | ls | tp | dc (ks : List Key) | ob (c : Str) (ns : List Str)
inductive O where
 | lf (st : Bool) (d : D) | nd (k : Kind) (os : List O)
abbrev lfs (st : Bool) (d : D) : O := .lf (yt d || st) d
mutual
inductive Ro (L : Bool -> V -> D -> Prop) (N : Addr -> Prop) (H : Hp) : V -> O -> List Addr -> Prop
 | lf {st : Bool} {v : V} {d : D} : L st v d -> Ro L N H v (.lf st d) []
 | ls {a : Addr} {vs : List V} {os : List O} {fp : List Addr} : H a = some (.lst vs) -> RoL L N H vs os fp -> Ro L N H (.ref a) (.nd .ls os) (a :: fp)
 | dc {a : Addr} {ks : List Key} {vs : List V} {os : List O} {fp : List Addr} : H a = some (.dK (ks.zip vs)) -> ks.length = vs.length -> RoL L N H vs os fp -> Ro L N H (.ref a) (.nd (.dc ks) os) (a :: fp)
 | ob {a dx C : Addr} {c : Str} {ns : List Str} {vs : List V} {os : List O} {fp : List Addr} : L true (.ref C) (.cl c) -> H a = some (.ins C dx (ns.zip vs)) -> ns.length = vs.length -> RoL L N H vs os fp -> Ro L N H (.ref a) (.nd (.ob c ns) os) (a :: fp)
 | tp {a : Addr} {vs : List V} {os : List O} {fp : List Addr} : N a -> H a = some (.tup vs) -> RoL L N H vs os fp -> Ro L N H (.ref a) (.nd .tp os) fp
inductive RoL (L : Bool -> V -> D -> Prop) (N : Addr -> Prop) (H : Hp) : List V -> List O -> List Addr -> Prop
 | nil : RoL L N H [] [] []
 | cons {v : V} {o : O} {vs : List V} {os : List O} {fp fq : List Addr} : Ro L N H v o fp -> RoL L N H vs os fq -> RoL L N H (v :: vs) (o :: os) (fp ++ fq)
end
mutual
def O.toD : O -> D
 | .lf _ d => d
 | .nd .ls os => .lst (O.toDs os)
 | .nd .tp os => .tup (O.toDs os)
 | .nd (.dc ks) os => .dct (ks.zip (O.toDs os))
 | .nd (.ob c ns) os => .ob c ns (O.toDs os)
def O.toDs : List O -> List D
 | [] => []
 | o :: r => o.toD :: O.toDs r
end
mutual
def O.str : O -> Bool
 | .lf st _ => st
 | .nd _ os => O.strs os
def O.strs : List O -> Bool
 | [] => true
 | o :: r => o.str && O.strs r
end
section
variable {L L' : Bool -> V -> D -> Prop} {N N' : Addr -> Prop} {H H' : Hp} {K : zC} {kd : KD} {Ob : Addr -> Prop}
theorem Ro.mono (hL : ∀ st v d, L st v d -> L' st v d) (hN : ∀ a vs, N a -> H a = some (.tup vs) -> N' a /\ H' a = some (.tup vs)) {v : V} {o : O} {fp : List Addr} (k : ∀ a ∈ fp, ∀ u, H a = some u -> H' a = some u) (h : Ro L N H v o fp) : Ro L' N' H' v o fp :=
 Ro.rec (motive_1 := λ v o fp _ => (∀ a ∈ fp, ∀ u, H a = some u -> H' a = some u) -> Ro L' N' H' v o fp) (motive_2 := λ vs os fp _ => (∀ a ∈ fp, ∀ u, H a = some u -> H' a = some u) -> RoL L' N' H' vs os fp)
  (λ h _ => .lf (hL _ _ _ h)) (λ h _ r k => .ls (k _ zzD _ h) (r λ a m => k a (zzB _ m))) (λ h l _ r k => .dc (k _ zzD _ h) l (r λ a m => k a (zzB _ m))) (λ c h l _ r k => .ob (hL _ _ _ c) (k _ zzD _ h) l (r λ a m => k a (zzB _ m))) (λ n h _ r k => .tp (hN _ _ n h).1 (hN _ _ n h).2 (r k))
  (λ _ => .nil) (λ _ _ h r k => .cons (h λ a m => k a (zzN _ m)) (r λ a m => k a (zzJ _ m))) h k
theorem RoL.ind {P : List V -> List O -> List Addr -> Prop} (h0 : P [] [] []) (h1 : ∀ {v o vs os fp fq}, Ro L N H v o fp -> RoL L N H vs os fq -> P vs os fq -> P (v :: vs) (o :: os) (fp ++ fq)) {vs : List V} {os : List O} {fp : List Addr} (h : RoL L N H vs os fp) : P vs os fp :=
 RoL.rec (motive_1 := λ _ _ _ _ => True) (motive_2 := λ vs os fp _ => P vs os fp) (λ _ => ⟨⟩) (λ _ _ _ => ⟨⟩) (λ _ _ _ _ => ⟨⟩) (λ _ _ _ _ _ => ⟨⟩) (λ _ _ _ _ => ⟨⟩) h0 (λ a r _ ih => h1 a r ih) h
theorem RoL.mono (hL : ∀ st v d, L st v d -> L' st v d) (hN : ∀ a vs, N a -> H a = some (.tup vs) -> N' a /\ H' a = some (.tup vs)) {vs : List V} {os : List O} {fp : List Addr} (k : ∀ a ∈ fp, ∀ u, H a = some u -> H' a = some u) (h : RoL L N H vs os fp) : RoL L' N' H' vs os fp :=
 RoL.ind (P := λ vs os fp => (∀ a ∈ fp, ∀ u, H a = some u -> H' a = some u) -> RoL L' N' H' vs os fp) (λ _ => .nil) (λ h _ r k => .cons (Ro.mono hL hN (λ a m => k a (zzN _ m)) h) (r λ a m => k a (zzJ _ m))) h k
theorem zdf : ∀ {ks : List Key} {vs : List V} {ds : List D}, RpL K kd Ob H vs ds -> ks.length = vs.length -> RpM K kd Ob H (ks.zip vs) (ks.zip ds)
 | [], _, _, _, _ => .nil
 | _ :: _, _, _, .nil, e => by simp at e
 | _ :: _, _, _, .cons h r, e => .cons h (zdf r (by simpa using e))
theorem Ro.rp (b : Bool) (hL : ∀ st v d, (b = true -> st = true) -> L st v d -> Rp K kd Ob H v d) (hN : ∀ a, N a -> ¬ Ob a) {v : V} {o : O} {fp : List Addr} (s : b = true -> o.str = true) (k : ∀ a ∈ fp, ¬ Ob a) (h : Ro L N H v o fp) : Rp K kd Ob H v o.toD :=
 Ro.rec (motive_1 := λ v o fp _ => (b = true -> o.str = true) -> (∀ a ∈ fp, ¬ Ob a) -> Rp K kd Ob H v o.toD) (motive_2 := λ vs os fp _ => (b = true -> O.strs os = true) -> (∀ a ∈ fp, ¬ Ob a) -> RpL K kd Ob H vs (O.toDs os))
  (λ h s _ => hL _ _ _ s h) (λ h _ r s k => .lst (k _ zzD) (.inl h) (r s λ a m => k a (zzB _ m))) (λ h l _ r s k => .dct (k _ zzD) (.inl h) (zdf (r s λ a m => k a (zzB _ m)) l)) (λ c h l _ r s k => by
   have e := (hL _ _ _ (λ _ => rfl) c).cl_eq
   subst e
   exact .ob (k _ zzD) h l (r s λ a m => k a (zzB _ m))) (λ n h _ r s k => .tup (hN _ n) (.inl h) (r s k))
  (λ _ _ => .nil) (λ _ _ h r s k => .cons (h (λ z => ((Bool.and_eq_true _ _).mp (s z)).1) λ a m => k a (zzN _ m)) (r (λ z => ((Bool.and_eq_true _ _).mp (s z)).2) λ a m => k a (zzJ _ m))) h s k
theorem RoL.rp (b : Bool) (hL : ∀ st v d, (b = true -> st = true) -> L st v d -> Rp K kd Ob H v d) (hN : ∀ a, N a -> ¬ Ob a) {vs : List V} {os : List O} {fp : List Addr} (s : b = true -> O.strs os = true) (k : ∀ a ∈ fp, ¬ Ob a) (h : RoL L N H vs os fp) : RpL K kd Ob H vs (O.toDs os) :=
 RoL.ind (P := λ vs os fp => (b = true -> O.strs os = true) -> (∀ a ∈ fp, ¬ Ob a) -> RpL K kd Ob H vs (O.toDs os)) (λ _ _ => .nil) (λ h _ r s k => .cons (Ro.rp b hL hN (λ z => ((Bool.and_eq_true _ _).mp (s z)).1) (λ a m => k a (zzN _ m)) h) (r (λ z => ((Bool.and_eq_true _ _).mp (s z)).2) λ a m => k a (zzJ _ m))) h s k
theorem RoL.length {vs : List V} {os : List O} {fp : List Addr} (h : RoL L N H vs os fp) : vs.length = os.length := RoL.ind (P := λ vs os _ => vs.length = os.length) rfl (λ _ _ r => congrArg (· + 1) r) h
theorem zci : ∀ os : List O, (O.toDs os).length = os.length
 | [] => rfl
 | _ :: r => congrArg (· + 1) (zci r)
theorem RoL.append {vs ws : List V} {os ps : List O} {f g : List Addr} (h : RoL L N H vs os f) (r : RoL L N H ws ps g) : RoL L N H (vs ++ ws) (os ++ ps) (f ++ g) := RoL.ind (P := λ vs os f => RoL L N H (vs ++ ws) (os ++ ps) (f ++ g)) r (λ h _ t => by rw [List.append_assoc]; exact .cons h t) h
theorem RoL.one {v : V} {o : O} {f : List Addr} (h : Ro L N H v o f) : RoL L N H [v] [o] f := by
 have := RoL.cons h (RoL.nil (L := L) (N := N) (H := H))
 rw [List.append_nil] at this
 exact this
theorem RoL.at_ {k : Nat} {o : O} : ∀ {vs : List V} {os : List O} {fp : List Addr}, RoL L N H vs os fp -> os[k]? = some o -> ∃ v f fo g, vs[k]? = some v /\ fp = f ++ (fo ++ g) /\ Ro L N H v o fo /\ RoL L N H (vs.take k) (os.take k) f /\ RoL L N H (vs.drop (k + 1)) (os.drop (k + 1)) g := by
 induction k with
 | zero =>
  intro vs os fp h e
  cases h with
  | nil => cases e
  | cons h r =>
   rw [List.getElem?_cons_zero] at e
   cases e
   exact ⟨_, [], _, _, rfl, rfl, h, .nil, r⟩
 | succ k ih =>
  intro vs os fp h e
  cases h with
  | nil => cases e
  | cons h r =>
   rw [List.getElem?_cons_succ] at e
   obtain ⟨v, f, fo, g, e1, e2, h1, h2, h3⟩ := ih r e
   subst e2
   exact ⟨v, _, fo, g, by rw [List.getElem?_cons_succ]; exact e1, (List.append_assoc _ _ _).symm, h1, .cons h h2, h3⟩
theorem zcq {α : Type} (l : List α) (k : Nat) : l.eraseIdx k = l.take k ++ l.drop (k + 1) := List.eraseIdx_eq_take_drop_succ l k
end
abbrev AS := List (Option O)
abbrev Ad := Nat -> List Addr
def Gw (T : List Addr) (ad : Ad) : Addr -> Prop := λ a => a ∈ T \/ ∃ i, a ∈ ad i
abbrev Lv (F B G : Addr -> Prop) (st : Bool) : Addr -> Prop := Un2 (λ a => (st = true /\ F a) \/ B a) G
abbrev Lf (K : zC) (kd : KD) (F B G : Addr -> Prop) (H : Hp) : Bool -> V -> D -> Prop := λ st v d => Rp K kd (Lv F B G st) H v d
abbrev Nf (F B G : Addr -> Prop) : Addr -> Prop := λ a => ¬ Lv F B G true a
abbrev RoS (K : zC) (kd : KD) (F B G : Addr -> Prop) (H : Hp) : V -> O -> List Addr -> Prop := Ro (Lf K kd F B G H) (Nf F B G) H
abbrev Yh (K : zC) (kd : KD) (F B G : Addr -> Prop) (H : Hp) : List V -> List O -> List Addr -> Prop := RoL (Lf K kd F B G H) (Nf F B G) H
def zeh (K : zC) (kd : KD) (F B G : Addr -> Prop) (H : Hp) : Option O -> Option (Option V) -> List Addr -> Prop
 | none, _, fp => fp = []
 | some o, s, fp => ∃ v, s = some (some v) /\ RoS K kd F B G H v o fp
structure Rel (K : zC) (kd : KD) (F B : Addr -> Prop) (T : List Addr) (ad : Ad) (as : AS) (σ : St) (H : Hp) : Prop where
 len : as.length = σ.length
 out : ∀ i, as.length <= i -> ad i = []
 nd : ∀ i, (ad i).Nodup
 inj : ∀ i j a, a ∈ ad i -> a ∈ ad j -> i = j
 tnd : T.Nodup
 dis : ∀ i a, a ∈ ad i -> a ∉ T
 ftr : ∀ a, F a -> H a ≠ none
 btr : ∀ a, B a -> H a ≠ none /\ ¬ F a /\ ¬ Gw T ad a
 gtr : ∀ a, Gw T ad a -> H a ≠ none /\ ¬ F a
 sl : ∀ i s, as[i]? = some s -> zeh K kd F B (Gw T ad) H s σ[i]? (ad i)
inductive RV where
 | ow (o : O) | bo (i : Nat)
def vZ (K : zC) (kd : KD) (F B : Addr -> Prop) (T : List Addr) (ad : Ad) (σ : St) (H : Hp) (v : V) : RV -> Prop
 | .ow o => RoS K kd F B (Gw T ad) H v o T
 | .bo i => T = [] /\ σ[i]? = some (some v)
def O.frz (o : O) : O := .lf o.str o.toD
def RV.frz : RV -> RV
 | .ow o => .ow o.frz
 | .bo i => .bo i
def O.isLf : O -> Bool
 | .lf _ _ => true
 | _ => false
def O.kl : O -> Option Bool
 | .lf st _ => some st
 | .nd _ os => if os.all O.isLf = true then some (O.strs os) else none
def RV.view (as : AS) : RV -> Option (D × Option Bool)
 | .ow o => some (o.toD, some o.str)
 | .bo i => match as[i]? with
  | some (some o) => some (o.toD, o.kl)
  | _ => none
def Obl (F B G : Addr -> Prop) : Option Bool -> Addr -> Prop
 | some st => Lv F B G st
 | none => λ _ => False
section
variable {K : zC} {kd : KD} {F B F' B' : Addr -> Prop} {G G' : Addr -> Prop} {T T' : List Addr} {ad ad1 : Ad} {as as1 : AS} {σ : St} {H H1 H' : Hp} {v : V} {r : RV} {o : O} {fp : List Addr} {vs : List V} {os : List O}
theorem RoS.grow (g : Grow G H G' H') (k : ∀ a ∈ fp, ∀ u, H a = some u -> H' a = some u) (h : RoS K kd F B G H v o fp) : RoS K kd F B G' H' v o fp :=
 Ro.mono (λ st v d r => Rp.grow g r) (λ a vs n e => ⟨λ z => z.elim (λ y => n (.inl y)) λ y => (g.own a y).elim (λ w => n (.inr w)) λ w => (by rw [w] at e; cases e), g.keep a _ e (λ w => n (.inr w))⟩) k h
theorem Yh.grow (g : Grow G H G' H') (k : ∀ a ∈ fp, ∀ u, H a = some u -> H' a = some u) (h : Yh K kd F B G H vs os fp) : Yh K kd F B G' H' vs os fp :=
 RoL.mono (λ st v d r => Rp.grow g r) (λ a vs n e => ⟨λ z => z.elim (λ y => n (.inl y)) λ y => (g.own a y).elim (λ w => n (.inr w)) λ w => (by rw [w] at e; cases e), g.keep a _ e (λ w => n (.inr w))⟩) k h
theorem RoS.lv (g : ∀ st a, Lv F' B' G' st a -> Lv F B G st a) (h : RoS K kd F B G H v o fp) : RoS K kd F' B' G' H v o fp :=
 Ro.mono (λ st v d r => r.less (g st)) (λ a vs n e => ⟨λ z => n (g true a z), e⟩) (λ _ _ _ e => e) h
theorem Yh.lv (g : ∀ st a, Lv F' B' G' st a -> Lv F B G st a) (h : Yh K kd F B G H vs os fp) : Yh K kd F' B' G' H vs os fp :=
 RoL.mono (λ st v d r => r.less (g st)) (λ a vs n e => ⟨λ z => n (g true a z), e⟩) (λ _ _ _ e => e) h
theorem RoS.less (g : ∀ a, G' a -> G a) (h : RoS K kd F B G H v o fp) : RoS K kd F B G' H v o fp := RoS.lv (λ _ a z => z.elim .inl λ y => .inr (g a y)) h
theorem Gw.drop : ∀ a, Gw [] ad a -> Gw T ad a := λ _ h => h.elim (λ z => nomatch z) .inr
theorem Rel.trk (R : Rel K kd F B T ad as σ H) (st : Bool) : ∀ a, Lv F B (Gw T ad) st a -> H a ≠ none := λ a h => by
 rcases h with (h | h) | h
 · exact R.ftr a h.2
 · exact (R.btr a h).1
 · exact (R.gtr a h).1
theorem Rel.tr (R : Rel K kd F B T ad as σ H) (lv : Option Bool) : ∀ a, Obl F B (Gw T ad) lv a -> H a ≠ none := λ a h => by
 cases lv with
 | none => exact h.elim
 | some st => exact R.trk st a h
theorem zeh.lv {s : Option O} {x : Option (Option V)} (g : ∀ st a, Lv F' B' G' st a -> Lv F B G st a) (h : zeh K kd F B G H s x fp) : zeh K kd F' B' G' H s x fp := by
 cases s with
 | none => exact h
 | some o => obtain ⟨v, e, r⟩ := h; exact ⟨v, e, RoS.lv g r⟩
theorem zeh.less {s : Option O} {x : Option (Option V)} (g : ∀ a, G' a -> G a) (h : zeh K kd F B G H s x fp) : zeh K kd F B G' H s x fp := h.lv (λ _ a z => z.elim .inl λ y => .inr (g a y))
theorem zeh.grow {s : Option O} {x : Option (Option V)} (g : Grow G H G' H') (k : ∀ a ∈ fp, ∀ u, H a = some u -> H' a = some u) (h : zeh K kd F B G H s x fp) : zeh K kd F B G' H' s x fp := by
 cases s with
 | none => exact h
 | some o => obtain ⟨v, e, r⟩ := h; exact ⟨v, e, RoS.grow g k r⟩
theorem Rel.drop (R : Rel K kd F B T ad as σ H) : Rel K kd F B [] ad as σ H where
 len := R.len
 out := R.out
 nd := R.nd
 inj := R.inj
 tnd := List.nodup_nil
 dis := λ _ _ _ z => nomatch z
 ftr := R.ftr
 btr := λ a h => let ⟨h1, h2, h3⟩ := R.btr a h; ⟨h1, h2, λ z => h3 (Gw.drop a z)⟩
 gtr := λ a h => R.gtr a (Gw.drop a h)
 sl := λ i s e => (R.sl i s e).less Gw.drop
theorem zif (R : Rel K kd F B T ad as σ H) (h : RoS K kd F B (Gw T ad) H v o T) : Rp K kd (Lv F B (Gw [] ad) o.str) H v o.toD :=
 Ro.rp o.str (λ st v d hs r => r.less λ a z => z.elim (λ y => .inl (y.elim (λ x => .inl ⟨hs x.1, x.2⟩) .inr)) λ y => .inr (Gw.drop a y))
  (λ a n z => n (z.elim (λ y => .inl (y.elim (λ x => .inl ⟨rfl, x.2⟩) .inr)) λ y => .inr (Gw.drop a y))) id
  (λ a m z => by
   rcases z with (z | z) | z | ⟨i, z⟩
   · exact (R.gtr a (.inl m)).2 z.2
   · exact (R.btr a z).2.2 (.inl m)
   · cases z
   · exact R.dis i a z m) h
theorem vZ.drop (R : Rel K kd F B T ad as σ H) (h : vZ K kd F B T ad σ H v r) : vZ K kd F B [] ad σ H v r.frz := by
 cases r with
 | ow o => exact .lf (zif R h)
 | bo i => exact ⟨rfl, h.2⟩
theorem vZ.grow (g : Grow (Gw [] ad) H (Gw [] ad1) H1) (h : vZ K kd F B [] ad σ H v r) : vZ K kd F B [] ad1 σ H1 v r := by
 cases r with
 | ow o => exact RoS.grow g (λ _ m => nomatch m) h
 | bo i => exact h
theorem zkf {vs : List V} {os : List O} {fp : List Addr} (h : Yh K kd F B G H vs os fp) : os.all O.isLf = true -> fp = [] :=
 RoL.ind (P := λ _ os fp => os.all O.isLf = true -> fp = []) (λ _ => rfl) (λ h _ ih e => by
  rw [List.all_cons, Bool.and_eq_true] at e
  rw [ih e.2, List.append_nil]
  cases h with
  | lf => rfl
  | ls => cases e.1
  | dc => cases e.1
  | ob => cases e.1
  | tp => cases e.1) h
theorem zdO {st : Bool} {b : Bool} (hs : b = true -> st = true) : ∀ a, Lv F B G b a -> Lv F B G st a := λ a z => z.elim (λ y => .inl (y.elim (λ x => .inl ⟨hs x.1, x.2⟩) .inr)) .inr
theorem zea (h : Yh K kd F B G H vs os fp) (e : os.all O.isLf = true) : RpL K kd (Lv F B G (O.strs os)) H vs (O.toDs os) := by
 have := zkf h e
 subst this
 exact RoL.rp (O.strs os) (λ st v d hs r => r.less (zdO hs)) (λ a n z => n (zdO (λ _ => rfl) a z)) id (by intro a m; cases m) h
theorem zbi (h : Yh K kd F B G H vs os fp) : RpL K kd (λ _ => False) H vs (O.toDs os) := RoL.rp false (λ st v d _ r => r.less λ _ z => z.elim) (λ _ _ z => z) (λ z => Bool.noConfusion z) (λ _ _ z => z) h
theorem zgh (h : RoS K kd F B G H v o fp) : Rp K kd (λ _ => False) H v o.toD := Ro.rp false (λ st v d _ r => r.less λ _ z => z.elim) (λ _ _ z => z) (λ z => Bool.noConfusion z) (λ _ _ z => z) h
theorem zge (h : RoS K kd F B G H v o []) : Rp K kd (Lv F B G o.str) H v o.toD :=
 Ro.rp o.str (λ st v d hs r => r.less (zdO hs)) (λ a n z => n (zdO (λ _ => rfl) a z)) id (by intro a m; cases m) h
theorem RoS.vw (h : RoS K kd F B G H v o fp) : Vw K kd (Obl F B G o.kl) H v o.toD := by
 cases h with
 | lf h => exact h.vw
 | ls hH r =>
  rename_i a vs' os' fp'
  show Vw K kd (Obl F B G (if os'.all O.isLf = true then some (O.strs os') else none)) H _ (.lst (O.toDs os'))
  by_cases e : os'.all O.isLf = true
  · rw [if_pos e]; exact .lst (.inl (.inl hH)) (zea r e)
  · rw [if_neg e]; exact .lst (.inl (.inl hH)) (zbi r)
 | dc hH l r =>
  rename_i a ks vs' os' fp'
  show Vw K kd (Obl F B G (if os'.all O.isLf = true then some (O.strs os') else none)) H _ (.dct (ks.zip (O.toDs os')))
  by_cases e : os'.all O.isLf = true
  · rw [if_pos e]; exact .dct (.inl (.inl hH)) (zdf (zea r e) l)
  · rw [if_neg e]; exact .dct (.inl (.inl hH)) (zdf (zbi r) l)
 | ob hc hH l r =>
  rename_i a dx C c ns vs' os' fp'
  have ec : C = kd.c c := hc.cl_eq
  subst ec
  show Vw K kd (Obl F B G (if os'.all O.isLf = true then some (O.strs os') else none)) H _ (.ob c ns (O.toDs os'))
  by_cases e : os'.all O.isLf = true
  · rw [if_pos e]; exact .ob hH l (zea r e)
  · rw [if_neg e]; exact .ob hH l (zbi r)
 | tp n hH r =>
  rename_i a vs' os'
  show Vw K kd (Obl F B G (if os'.all O.isLf = true then some (O.strs os') else none)) H _ (.tup (O.toDs os'))
  by_cases e : os'.all O.isLf = true
  · rw [if_pos e]
    have rl := zea r e
    exact .tup (.tup (λ z => n (zdO (λ _ => rfl) _ z)) (.inl hH) rl) (.inl (.inl hH)) rl
  · rw [if_neg e]; exact .tup (.tup (λ z => z) (.inl hH) (zbi r)) (.inl (.inl hH)) (zbi r)
theorem vZ.vw (R : Rel K kd F B [] ad as σ H) (h : vZ K kd F B [] ad σ H v r) {d : D} {lv : Option Bool} (e : r.view as = some (d, lv)) : Vw K kd (Obl F B (Gw [] ad) lv) H v d := by
 cases r with
 | ow o =>
  cases e
  exact (zge h).vw
 | bo i =>
  have e : (match as[i]? with | some (some o) => some (o.toD, o.kl) | _ => none) = some (d, lv) := e
  cases k : as[i]? with
  | none => rw [k] at e; cases e
  | some s =>
   cases s with
   | none => rw [k] at e; cases e
   | some o =>
    rw [k] at e
    cases e
    obtain ⟨w, hw, ro⟩ := R.sl i _ k
    rw [h.2] at hw
    cases hw
    exact ro.vw
theorem Rel.add {N : List Addr} (R : Rel K kd F B T ad as σ H) (hn : N.Nodup) (hl : ∀ a ∈ N, H a = none) (k : ∀ b u, H b = some u -> H' b = some u) (h1 : ∀ a ∈ N, H' a ≠ none) : Rel K kd F B (N ++ T) ad as σ H' /\ Grow (Gw T ad) H (Gw (N ++ T) ad) H' := by
 have g : Grow (Gw T ad) H (Gw (N ++ T) ad) H' := ⟨λ b u h _ => k b u h, λ b h => by
  rcases h with h | h
  · rcases zzK.mp h with h | h
    · exact .inr (hl b h)
    · exact .inl (.inl h)
  · exact .inl (.inr h)⟩
 have kn : ∀ a, H a ≠ none -> H' a ≠ none := λ a z => by
  cases e : H a with
  | none => exact absurd e z
  | some u => rw [k a u e]; simp
 refine ⟨⟨R.len, R.out, R.nd, R.inj, ?_, λ i a m z => ?_, λ a z => kn a (R.ftr a z), λ a z => ?_, λ a z => ?_, λ i s e => (R.sl i s e).grow g λ a _ u h => k a u h⟩, g⟩
 · refine List.nodup_append.mpr ⟨hn, R.tnd, λ a m b m' e => ?_⟩
   subst e
   exact (R.gtr a (.inl m')).1 (hl a m)
 · rcases zzK.mp z with z | z
   · exact (R.gtr a (.inr ⟨i, m⟩)).1 (hl a z)
   · exact R.dis i a m z
 · obtain ⟨b1, b2, b3⟩ := R.btr a z
   refine ⟨kn a b1, b2, λ y => ?_⟩
   rcases y with y | y
   · rcases zzK.mp y with y | y
     · exact b1 (hl a y)
     · exact b3 (.inl y)
   · exact b3 (.inr y)
 · rcases z with z | z
   · rcases zzK.mp z with z | z
     · exact ⟨h1 a z, λ f => R.ftr a f (hl a z)⟩
     · exact ⟨kn a (R.gtr a (.inl z)).1, (R.gtr a (.inl z)).2⟩
   · exact ⟨kn a (R.gtr a (.inr z)).1, (R.gtr a (.inr z)).2⟩
theorem Rel.more (R : Rel K kd F B T ad as σ H) (k : ∀ b u, H b = some u -> H' b = some u) : Rel K kd F B T ad as σ H' /\ Grow (Gw T ad) H (Gw T ad) H' :=
 R.add (N := []) List.nodup_nil (λ _ m => nomatch m) k (λ _ m => nomatch m)
theorem Rel.news (R : Rel K kd F B [] ad as σ H) (hn : T'.Nodup) (hl : ∀ a ∈ T', H a = none) (k : ∀ b u, H b = some u -> H' b = some u) (h1 : ∀ a ∈ T', H' a ≠ none) : Rel K kd F B T' ad as σ H' /\ Grow (Gw [] ad) H (Gw T' ad) H' := by
 have := R.add hn hl k h1
 rw [List.append_nil] at this
 exact this
end
inductive R0 where
 | im (d : D) | fl (ds : List D) | fd (kvs : List (Key × D))
def RQ (K : zC) (kd : KD) (O : Addr -> Prop) (H : Hp) (Q : VK) : R0 -> Prop
 | .im d => ∀ v H', (∀ b o, H b = some o -> H' b = some o) -> Rp K kd O H' v d -> Q v H'
 | .fl ds => ∀ l vs H', H l = none -> (∀ b o, H b = some o -> H' b = some o) -> H' l = some (.lst vs) -> RpL K kd (Un2 O (· = l)) H' vs ds -> Q (.ref l) H'
 | .fd ds => ∀ l vs H', H l = none -> (∀ b o, H b = some o -> H' b = some o) -> H' l = some (.dK vs) -> RpM K kd (Un2 O (· = l)) H' vs ds -> Q (.ref l) H'
def wrap (lv : Option Bool) : R0 -> Option RV
 | .im d => if (yt d || lv.isSome) = true then some (.ow (lfs (lv.getD false) d)) else none
 | .fl ds => if (ds.all yt || lv.isSome) = true then some (.ow (.nd .ls (ds.map (lfs (lv.getD false))))) else none
 | .fd kvs => if ((kvs.map (·.2)).all yt || lv.isSome) = true then some (.ow (.nd (.dc (kvs.map (·.1))) ((kvs.map (·.2)).map (lfs (lv.getD false))))) else none
theorem bS_ {α β : Type} {o : Option α} {f : α -> Option β} {b : β} (h : o.bind f = some b) : ∃ a, o = some a /\ f a = some b := by
 cases o with
 | none => cases h
 | some a => exact ⟨a, rfl, h⟩
theorem ite_some' {α : Type} {c : Prop} [Decidable c] {a : Option α} {b : α} (h : (if c then a else none) = some b) : c /\ a = some b := by
 by_cases hc : c
 · rw [if_pos hc] at h; exact ⟨hc, h⟩
 · rw [if_neg hc] at h; cases h
theorem yc {α : Type} {c : Prop} [Decidable c] {a b : α} (h : (if c then some a else none) = some b) : c /\ a = b := by
 by_cases hc : c
 · rw [if_pos hc] at h; cases h; exact ⟨hc, rfl⟩
 · rw [if_neg hc] at h; cases h
section
variable {K : zC} {kd : KD} {F B : Addr -> Prop} {G : Addr -> Prop} {ad : Ad} {as : AS} {σ : St} {H H' : Hp} {v : V} {r : R0} {rv : RV} {Q : VK} {lv : Option Bool}
theorem znr {Ob : Addr -> Prop} {d : D} (h : yt d = true \/ lv.isSome = true) (hO : ∀ st, lv = some st -> ∀ a, Lv F B G st a -> Ob a) (rp : Rp K kd Ob H v d) : Lf K kd F B G H (yt d || lv.getD false) v d := by
 cases e : yt d with
 | true => exact rp.flat e
 | false =>
  rw [e] at h
  cases lv with
  | none => rcases h with h | h <;> cases h
  | some st => exact rp.less (hO st rfl)
theorem zkZ {Ob : Addr -> Prop} {N : Addr -> Prop} (hO : ∀ st, lv = some st -> ∀ a, Lv F B G st a -> Ob a) {vs : List V} {ds : List D} (e : (ds.all yt || lv.isSome) = true) (h : RpL K kd Ob H vs ds) : RoL (Lf K kd F B G H) N H vs (ds.map (lfs (lv.getD false))) [] :=
 RpL.ind (P := λ vs ds => (ds.all yt || lv.isSome) = true -> RoL (Lf K kd F B G H) N H vs (ds.map (lfs (lv.getD false))) []) (λ _ => .nil) (λ {v d vs ds} h _ ih e => by
  rw [List.all_cons] at e
  have e1 : yt d = true \/ lv.isSome = true := by
   cases h1 : lv.isSome <;> cases h2 : yt d <;> simp [h1, h2] at e ⊢
  have e2 : (ds.all yt || lv.isSome) = true := by
   cases h1 : lv.isSome with
   | true => simp
   | false =>
    rw [h1, Bool.or_false, Bool.and_eq_true] at e
    rw [Bool.or_false]; exact e.2
  exact RoL.cons (.lf (znr e1 hO h)) (ih e2)) h e
theorem zjI {O : Addr -> Prop} {vs : List (Key × V)} {ds : List (Key × D)} (h : RpM K kd O H vs ds) : vs = (ds.map (·.1)).zip (vs.map (·.2)) /\ RpL K kd O H (vs.map (·.2)) (ds.map (·.2)) :=
 RpM.ind (P := λ vs ds => vs = (ds.map (·.1)).zip (vs.map (·.2)) /\ RpL K kd O H (vs.map (·.2)) (ds.map (·.2))) ⟨rfl, .nil⟩ (λ h _ ih => by
  obtain ⟨h1, h2⟩ := ih
  refine ⟨?_, .cons h h2⟩
  conv => lhs; rw [h1]
  rfl) h
theorem Vz (R : Rel K kd F B [] ad as σ H) (e : wrap lv r = some rv) (q : ∀ v T' H', Rel K kd F B T' ad as σ H' -> vZ K kd F B T' ad σ H' v rv -> Grow (Gw [] ad) H (Gw T' ad) H' -> Q v H') : RQ K kd (Obl F B (Gw [] ad) lv) H Q r := by
 have hO : ∀ (l : List Addr) st, lv = some st -> ∀ a, Lv F B (Gw l ad) st a -> Un2 (Obl F B (Gw [] ad) lv) (· ∈ l) a := by
  intro l st e a z
  subst e
  rcases z with z | z | z
  · exact .inl (.inl z)
  · exact .inr z
  · exact .inl (.inr (.inr z))
 cases r with
 | im d =>
  obtain ⟨c, rfl⟩ := yc e
  intro v H' k rp
  obtain ⟨R', g⟩ := R.more k
  refine q v [] H' R' (.lf (znr ((Bool.or_eq_true _ _).mp c) (λ st e a z => ?_) rp)) g
  exact (hO [] st e a z).elim id λ m => nomatch m
 | fl ds =>
  obtain ⟨c, rfl⟩ := yc e
  intro l vs H' hl k hl' rp
  obtain ⟨R', g⟩ := R.news (T' := [l]) (by simp) (λ a m => by rw [zzP.mp m]; exact hl) k (λ a m => by rw [zzP.mp m, hl']; simp)
  exact q _ [l] H' R' (.ls hl' (zkZ (λ st e a z => (hO [l] st e a z).elim .inl λ m => .inr (zzP.mp m)) c rp)) g
 | fd ds =>
  obtain ⟨c, rfl⟩ := yc e
  intro l vs H' hl k hl' rp
  obtain ⟨R', g⟩ := R.news (T' := [l]) (by simp) (λ a m => by rw [zzP.mp m]; exact hl) k (λ a m => by rw [zzP.mp m, hl']; simp)
  obtain ⟨e1, r1⟩ := zjI rp
  refine q _ [l] H' R' (.dc (vs := vs.map (·.2)) (by rw [hl', <- e1]) (by rw [zD, zD, rp.length]) (zkZ (λ st e a z => (hO [l] st e a z).elim .inl λ m => .inr (zzP.mp m)) c r1)) g
end
abbrev EF := AS -> Option (RV × AS)
def al (K : zC) (kd : KD) (f : EF) : TE := λ σ H Q => ∃ F B ad as r as', Rel K kd F B [] ad as σ H /\ f as = some (r, as') /\
 ∀ v T' ad' H', Rel K kd F B T' ad' as' σ H' -> vZ K kd F B T' ad' σ H' v r -> Grow (Gw [] ad) H (Gw T' ad') H' -> Q v H'
@[irreducible] def AE (X : Cx) (kd : KD) (e : Expr) (f : EF) : Prop := PE X e (al X.K kd f)
theorem xU {X : Cx} {e : Expr} {t t' : TE} (h : PE X e t) (k : ∀ σ H Q, t' σ H Q -> t σ H Q) : PE X e t' := λ pins s σ H Q I q => h pins s σ H Q I (k σ H Q q)
section
variable {K : zC} {kd : KD} {F B : Addr -> Prop} {ad : Ad} {as as1 : AS} {σ : St} {H : Hp} {r : RV} {f : EF} {P : VK}
theorem WR (R : Rel K kd F B [] ad as σ H) (e : f as = some (r, as1)) (k : ∀ v ad1 H1, Rel K kd F B [] ad1 as1 σ H1 -> vZ K kd F B [] ad1 σ H1 v r.frz -> Grow (Gw [] ad) H (Gw [] ad1) H1 -> P v H1) : al K kd f σ H P :=
 ⟨F, B, ad, as, r, as1, R, e, λ v T' ad' H' R' rv g => k v ad' H' R'.drop (vZ.drop R' rv) (g.trans (Grow.less Gw.drop))⟩
end
def OpD (X : Cx) (kd : KD) (f : Value -> Value -> Sem Value) (g : D -> D -> Option R0) : Prop :=
 OpR X f (λ x y H Q => ∃ O d e r, (∀ a, O a -> H a ≠ none) /\ Vw X.K kd O H x d /\ Vw X.K kd O H y e /\ g d e = some r /\ RQ X.K kd O H Q r)
inductive VwL (K : zC) (kd : KD) (O : Addr -> Prop) (H : Hp) : List V -> List D -> Prop
 | nil : VwL K kd O H [] []
 | cons {v : V} {d : D} {vs : List V} {ds : List D} : Vw K kd O H v d -> VwL K kd O H vs ds -> VwL K kd O H (v :: vs) (d :: ds)
def CallD (X : Cx) (kd : KD) (f : Value) (g : List D -> Option R0) : Prop :=
 V3 X f (λ xs H Q => ∃ O ds r, (∀ a, O a -> H a ≠ none) /\ VwL X.K kd O H xs ds /\ g ds = some r /\ RQ X.K kd O H Q r)
def IxD (X : Cx) (kd : KD) (g : D -> D -> Option R0) : Prop :=
 IxR X (λ x y H Q => ∃ O d e r, (∀ a, O a -> H a ≠ none) /\ Vw X.K kd O H x d /\ Vw X.K kd O H y e /\ g d e = some r /\ RQ X.K kd O H Q r)
def meet : Option Bool -> Option Bool -> Option Bool
 | some a, some b => some (a && b)
 | _, _ => none
theorem Obl.meet1 {F B G : Addr -> Prop} {a b : Option Bool} : ∀ x, Obl F B G (meet a b) x -> Obl F B G a x := λ x h => by
 cases a with
 | none => cases b <;> exact h.elim
 | some p =>
  cases b with
  | none => exact h.elim
  | some q => exact zdO (λ z => ((Bool.and_eq_true _ _).mp z).1) x h
theorem Obl.meet2 {F B G : Addr -> Prop} {a b : Option Bool} : ∀ x, Obl F B G (meet a b) x -> Obl F B G b x := λ x h => by
 cases a with
 | none => cases b <;> exact h.elim
 | some p =>
  cases b with
  | none => exact h.elim
  | some q => exact zdO (λ z => ((Bool.and_eq_true _ _).mp z).2) x h
theorem Vw.less {K : zC} {kd : KD} {O O' : Addr -> Prop} {H : Hp} {v : V} {d : D} (g : ∀ a, O' a -> O a) (h : Vw K kd O H v d) : Vw K kd O' H v d := by
 cases h with
 | non => exact .non
 | bl b => exact .bl b
 | int i => exact .int i
 | str x => exact .str x
 | tup r s l => exact .tup (r.less g) s (l.less g)
 | lst h l => exact .lst h (l.less g)
 | dct h l => exact .dct h (l.less g)
 | cl c => exact .cl c
 | ob h k l => exact .ob h k (l.less g)
def f2 (fa fb : EF) (g : D -> D -> Option R0) : EF := λ as => (fa as).bind λ p => (fb p.2).bind λ q => (p.1.frz.view q.2).bind λ x => (q.1.frz.view q.2).bind λ y => (g x.1 y.1).bind λ r => (wrap (meet x.2 y.2) r).bind λ z => some (z, q.2)
theorem ziA {fa fb : EF} {g : D -> D -> Option R0} {as as' : AS} {rv : RV} (h : f2 fa fb g as = some (rv, as')) :
 ∃ p as1 q x y lx ly r, fa as = some (p, as1) /\ fb as1 = some (q, as') /\ p.frz.view as' = some (x, lx) /\ q.frz.view as' = some (y, ly) /\ g x y = some r /\ wrap (meet lx ly) r = some rv := by
 unfold f2 at h
 obtain ⟨⟨p, as1⟩, h1, h⟩ := bS_ h
 obtain ⟨⟨q, as2⟩, h2, h⟩ := bS_ h
 obtain ⟨⟨x, lx⟩, h3, h⟩ := bS_ h
 obtain ⟨⟨y, ly⟩, h4, h⟩ := bS_ h
 obtain ⟨r, h5, h⟩ := bS_ h
 obtain ⟨z, h6, h⟩ := bS_ h
 cases h
 exact ⟨p, as1, q, x, y, lx, ly, r, h1, h2, h3, h4, h5, h6⟩
section
variable {X : Cx} {kd : KD} {a b c : Expr} {fa fb fc : EF} {pos : Pos}
theorem al2 {g : D -> D -> Option R0} {R2' : R2} (hr : ∀ x y H Q, (∃ O d e r, (∀ a, O a -> H a ≠ none) /\ Vw X.K kd O H x d /\ Vw X.K kd O H y e /\ g d e = some r /\ RQ X.K kd O H Q r) -> R2' x y H Q)
 {σ : St} {H : Hp} {Q : VK} (h : al X.K kd (f2 fa fb g) σ H Q) : tOp R2' (al X.K kd fa) (al X.K kd fb) σ H Q := by
 obtain ⟨F, B, ad, as, r, as', R, e, q⟩ := h
 obtain ⟨p, as1, z, x, y, lx, ly, r0, h1, h2, h3, h4, h5, h6⟩ := ziA e
 refine WR R h1 λ v ad1 H1 R1 rv1 g1 => WR R1 h2 λ u ad2 H2 R2 rv2 g2 => hr _ _ _ _ ?_
 exact ⟨_, x, y, r0, R2.tr _, (vZ.vw R2 (rv1.grow g2) h3).less Obl.meet1, (vZ.vw R2 rv2 h4).less Obl.meet2, h5, Vz R2 h6 λ w T' H' R' rv' g' => q w T' ad2 H' R' rv' ((g1.trans g2).trans g')⟩
theorem zx {op : Operator} {g : D -> D -> Option R0} (ho : OpD X kd (binaryOp op) g) (ha : AE X kd a fa) (hb' : AE X kd b fb) : AE X kd (.BinOp a op b pos) (f2 fa fb g) := by with_unfolding_all exact (xU (znm ho ha hb') λ σ H Q h => al2 (λ _ _ _ _ z => z) h)
theorem zin {op : CmpOp} {g : D -> D -> Option R0} (ho : OpD X kd (compareOp op) g) (ha : AE X kd a fa) (hb' : AE X kd b fb) (hm : behindInMarks op b = false) : AE X kd (.Compare a [op] [b] pos) (f2 fa fb g) := by with_unfolding_all exact (xU (zmC ho ha hb' hm) λ σ H Q h => al2 (λ _ _ _ _ z => z) h)
theorem zpJ {g : D -> D -> Option R0} (ho : IxD X kd g) (ha : AE X kd a fa) (hb' : AE X kd b fb) (hm : Zy b) : AE X kd (.Subscript a b pos) (f2 fa fb g) := by with_unfolding_all exact (xU (zcz ho ha hb' hm) λ σ H Q h => al2 (λ _ _ _ _ z => z) h)
def fC (d : D) : EF := λ as => some (.ow (.lf true d), as)
def fV (i : Nat) : EF := λ as => match as[i]? with
 | some (some (.lf st d)) => some (.ow (.lf st d), as)
 | some (some (.nd _ _)) => some (.bo i, as)
 | _ => none
theorem zfP {v : V} {d : D} (h : PE X a (tC v)) (hr : ∀ O H, Rp X.K kd O H v d) : AE X kd a (fC d) := by with_unfolding_all exact (xU h λ σ H Q h => by
 obtain ⟨F, B, ad, as, r, as', R, e, q⟩ := h
 cases e
 exact q v [] ad H R (.lf (hr _ _)) Grow.refl)
theorem zpp {i : Nat} (h : PE X a (Xh i)) : AE X kd a (fV i) := by with_unfolding_all exact (xU h λ σ H Q h => by
 obtain ⟨F, B, ad, as, r, as', R, e, q⟩ := h
 unfold fV at e
 cases k : as[i]? with
 | none => rw [k] at e; cases e
 | some s =>
  rw [k] at e
  cases s with
  | none => cases e
  | some o =>
   obtain ⟨v, h1, h2⟩ := R.sl i _ k
   cases o with
   | lf st d =>
    cases e
    have e0 : ad i = [] := by
     generalize hfp : ad i = fp at h2
     cases h2
     rfl
    rw [e0] at h2
    exact ⟨v, h1, q v [] ad H R h2 Grow.refl⟩
   | nd kk os =>
    cases e
    exact ⟨_, h1, q _ [] ad H R ⟨rfl, h1⟩ Grow.refl⟩)
end
def yS (ad : Ad) (i : Nat) (x : List Addr) : Ad := λ j => if j = i then x else ad j
section
variable {K : zC} {kd : KD} {F B : Addr -> Prop} {T T1 T2 : List Addr} {ad ad1 : Ad} {as as1 : AS} {σ : St} {H H1 : Hp} {v : V} {r : RV} {o : O} {i : Nat}
theorem zH {x : List Addr} : yS ad i x i = x := if_pos rfl
theorem zA {j : Nat} {x : List Addr} (h : j ≠ i) : yS ad i x j = ad j := if_neg h
theorem vA : ∀ a, Gw T (yS ad i []) a -> Gw T ad a := λ a h => by
 rcases h with h | ⟨j, h⟩
 · exact .inl h
 · by_cases e : j = i
   · subst e; rw [zH] at h; cases h
   · rw [zA e] at h; exact .inr ⟨j, h⟩
theorem XX : ∀ a, Gw [] (yS ad i T) a -> Gw T ad a := λ a h => by
 rcases h with h | ⟨j, h⟩
 · cases h
 · by_cases e : j = i
   · subst e; rw [zH] at h; exact .inl h
   · rw [zA e] at h; exact .inr ⟨j, h⟩
theorem ziC : ∀ st a, Lv F (λ a => B a \/ a ∈ T) (Gw [] ad) st a -> Lv F B (Gw T ad) st a := λ st a z => by
 rcases z with (z | z | z) | z
 · exact .inl (.inl z)
 · exact .inl (.inr z)
 · exact .inr (.inl z)
 · exact .inr (Gw.drop a z)
theorem zbz : ∀ st a, Lv F B (Gw (T1 ++ T2) ad) st a -> Lv F (λ a => B a \/ a ∈ T1) (Gw T2 ad) st a := λ st a z => by
 rcases z with (z | z) | z | z
 · exact .inl (.inl z)
 · exact .inl (.inr (.inl z))
 · rcases zzK.mp z with z | z
   · exact .inl (.inr (.inr z))
   · exact .inr (.inl z)
 · exact .inr (.inr z)
theorem Rel.hide (R : Rel K kd F B T ad as σ H) : Rel K kd F (λ a => B a \/ a ∈ T) [] ad as σ H where
 len := R.len
 out := R.out
 nd := R.nd
 inj := R.inj
 tnd := List.nodup_nil
 dis := λ _ _ _ z => nomatch z
 ftr := R.ftr
 btr := λ a h => by
  rcases h with h | h
  · obtain ⟨h1, h2, h3⟩ := R.btr a h
    exact ⟨h1, h2, λ z => h3 (Gw.drop a z)⟩
  · exact ⟨(R.gtr a (.inl h)).1, (R.gtr a (.inl h)).2, λ z => z.elim (λ m => nomatch m) λ ⟨j, y⟩ => R.dis j a y h⟩
 gtr := λ a h => R.gtr a (Gw.drop a h)
 sl := λ i s e => (R.sl i s e).lv ziC
theorem Rel.unhide (hn : T1.Nodup) (hb : ∀ a ∈ T1, ¬ B a) (R : Rel K kd F (λ a => B a \/ a ∈ T1) T2 ad as σ H) : Rel K kd F B (T1 ++ T2) ad as σ H where
 len := R.len
 out := R.out
 nd := R.nd
 inj := R.inj
 tnd := List.nodup_append.mpr ⟨hn, R.tnd, λ a m b m' e => by subst e; exact (R.btr a (.inr m)).2.2 (.inl m')⟩
 dis := λ i a m z => by
  rcases zzK.mp z with z | z
  · exact (R.btr a (.inr z)).2.2 (.inr ⟨i, m⟩)
  · exact R.dis i a m z
 ftr := R.ftr
 btr := λ a h => by
  obtain ⟨h1, h2, h3⟩ := R.btr a (.inl h)
  refine ⟨h1, h2, λ z => ?_⟩
  rcases z with z | z
  · rcases zzK.mp z with z | z
    · exact hb a z h
    · exact h3 (.inl z)
  · exact h3 (.inr z)
 gtr := λ a h => by
  rcases h with h | h
  · rcases zzK.mp h with h | h
    · exact ⟨(R.btr a (.inr h)).1, (R.btr a (.inr h)).2.1⟩
    · exact R.gtr a (.inl h)
  · exact R.gtr a (.inr h)
 sl := λ i s e => (R.sl i s e).lv zbz
theorem Rel.frz (R : Rel K kd F B T ad as σ H) (h : as[i]? = some (some o)) :
 Rel K kd F B T (yS ad i []) (as.set i (some o.frz)) σ H /\ ∃ v, σ[i]? = some (some v) /\ Rp K kd (Lv F B (Gw T (yS ad i [])) o.str) H v o.toD := by
 obtain ⟨v, hv, ro⟩ := R.sl i _ h
 have rp : Rp K kd (Lv F B (Gw T (yS ad i [])) o.str) H v o.toD :=
  Ro.rp o.str (λ st v d hs r => r.less λ a z => z.elim (λ y => .inl (y.elim (λ x => .inl ⟨hs x.1, x.2⟩) .inr)) λ y => .inr (vA a y))
   (λ a n z => n (z.elim (λ y => .inl (y.elim (λ x => .inl ⟨rfl, x.2⟩) .inr)) λ y => .inr (vA a y))) id
   (λ a m z => by
    rcases z with (z | z) | z | ⟨j, z⟩
    · exact (R.gtr a (.inr ⟨i, m⟩)).2 z.2
    · exact (R.btr a z).2.2 (.inr ⟨i, m⟩)
    · exact R.dis i a m z
    · by_cases e : j = i
      · subst e; rw [zH] at z; cases z
      · rw [zA e] at z; exact e (R.inj j i a z m)) ro
 have hi : i < as.length := (zzE.mp h).1
 refine ⟨⟨by rw [zzS]; exact R.len, λ j hj => ?_, λ j => ?_, λ j k a h1 h2 => ?_, R.tnd, λ j a h1 => ?_, R.ftr, λ a h1 => ?_, λ a h1 => R.gtr a (vA a h1), λ j s e => ?_⟩, v, hv, rp⟩
 · rw [zzS] at hj
   rw [zA (by omega)]; exact R.out j hj
 · by_cases e : j = i
   · subst e; rw [zH]; exact List.nodup_nil
   · rw [zA e]; exact R.nd j
 · by_cases e : j = i
   · subst e; rw [zH] at h1; cases h1
   · by_cases e' : k = i
     · subst e'; rw [zH] at h2; cases h2
     · rw [zA e] at h1; rw [zA e'] at h2; exact R.inj j k a h1 h2
 · by_cases e : j = i
   · subst e; rw [zH] at h1; cases h1
   · rw [zA e] at h1; exact R.dis j a h1
 · obtain ⟨b1, b2, b3⟩ := R.btr a h1
   exact ⟨b1, b2, λ z => b3 (vA a z)⟩
 · by_cases q : j = i
   · subst q
     rw [List.getElem?_set_self hi] at e
     cases e
     rw [zH]
     exact ⟨v, hv, .lf rp⟩
   · rw [zzW (Ne.symm q)] at e
     rw [zA q]
     exact (R.sl j s e).less vA
theorem Rel.put (R : Rel K kd F B T ad as σ H) (hi : i < as.length) (h : RoS K kd F B (Gw T ad) H v o T) : Rel K kd F B [] (yS ad i T) (as.set i (some o)) (σ.set i (some v)) H := by
 have hi' : i < σ.length := by rw [<- R.len]; exact hi
 refine ⟨by rw [zzS, zzS]; exact R.len, λ j hj => ?_, λ j => ?_, λ j k a h1 h2 => ?_, List.nodup_nil, (λ _ _ _ z => nomatch z), R.ftr, λ a h1 => ?_, λ a h1 => R.gtr a (XX a h1), λ j s e => ?_⟩
 · rw [zzS] at hj
   rw [zA (by omega)]; exact R.out j hj
 · by_cases e : j = i
   · subst e; rw [zH]; exact R.tnd
   · rw [zA e]; exact R.nd j
 · by_cases e : j = i
   · subst e
     rw [zH] at h1
     by_cases e' : k = j
     · exact e'.symm
     · rw [zA e'] at h2
       exact (R.dis k a h2 h1).elim
   · rw [zA e] at h1
     by_cases e' : k = i
     · subst e'
       rw [zH] at h2
       exact (R.dis j a h1 h2).elim
     · rw [zA e'] at h2
       exact R.inj j k a h1 h2
 · obtain ⟨b1, b2, b3⟩ := R.btr a h1
   exact ⟨b1, b2, λ z => b3 (XX a z)⟩
 · by_cases q : j = i
   · subst q
     rw [List.getElem?_set_self hi] at e
     cases e
     rw [zH, List.getElem?_set_self hi']
     exact ⟨v, rfl, h.less XX⟩
   · rw [zzW (Ne.symm q)] at e
     rw [zA q, zzW (Ne.symm q)]
     exact (R.sl j s e).less XX
def toO (as : AS) : RV -> Option (O × AS)
 | .ow o => some (o, as)
 | .bo i => match as[i]? with
  | some (some o) => some (o.frz, as.set i (some o.frz))
  | _ => none
theorem zdC {as' : AS} (R : Rel K kd F B T ad as σ H) (h : vZ K kd F B T ad σ H v r) (e : toO as r = some (o, as')) : ∃ ad', Rel K kd F B T ad' as' σ H /\ RoS K kd F B (Gw T ad') H v o T /\ ∀ a, Gw T ad' a -> Gw T ad a := by
 cases r with
 | ow o' => cases e; exact ⟨ad, R, h, λ _ z => z⟩
 | bo i =>
  have e : (match as[i]? with | some (some o) => some (o.frz, as.set i (some o.frz)) | _ => none) = some (o, as') := e
  cases k : as[i]? with
  | none => rw [k] at e; cases e
  | some s =>
   cases s with
   | none => rw [k] at e; cases e
   | some o1 =>
    rw [k] at e
    cases e
    obtain ⟨hT, hs⟩ := h
    subst hT
    obtain ⟨R', w, hw, rp⟩ := R.frz k
    rw [hs] at hw
    cases hw
    exact ⟨_, R', .lf rp, vA⟩
end
abbrev TF := AS -> Option (Bool × AS)
def alT (K : zC) (kd : KD) (f : TF) : TT := λ σ H Q => ∃ F B ad as b as', Rel K kd F B [] ad as σ H /\ f as = some (b, as') /\
 ∀ ad' H', Rel K kd F B [] ad' as' σ H' -> Grow (Gw [] ad) H (Gw [] ad') H' -> Q b H'
@[irreducible] def AT (X : Cx) (kd : KD) (e : Expr) (f : TF) : Prop := PT X e (alT X.K kd f)
@[irreducible] def AW (X : Cx) (kd : KD) (e : Expr) (f : TF) : Prop := PW X e (alT X.K kd f)
def truth : D -> Option Bool
 | .non => some false
 | .bl b => some b
 | .int i => some (i != 0)
 | .str x => if x.length <= sizeLine then some ((x.length : Int) != 0) else none
 | .tup ds => some (!ds.isEmpty)
 | .lst ds => some (!ds.isEmpty)
 | _ => none
def fT (f : EF) : TF := λ as => (f as).bind λ p => (p.1.frz.view p.2).bind λ x => (truth x.1).bind λ b => some (b, p.2)
def YJ (f g : TF) : TF := λ as => (f as).bind λ p => if p.1 = true then g p.2 else some (false, p.2)
def Wz (f g : TF) : TF := λ as => (f as).bind λ p => if p.1 = true then some (true, p.2) else g p.2
def Za (f : TF) : TF := λ as => (f as).bind λ p => some (!p.1, p.2)
def asI : D -> Option Int
 | .int i => some i
 | _ => none
def asS : D -> Option Str
 | .str i => some i
 | _ => none
def asL : D -> Option (List D)
 | .lst i => some i
 | _ => none
def asT : D -> Option (List D)
 | .tup i => some i
 | _ => none
theorem zbP {d : D} {i : List D} (e : asL d = some i) : d = .lst i := by
 cases d with
 | lst j => cases e; rfl
 | _ => cases e
theorem zoU {d : D} {i : List D} (e : asT d = some i) : d = .tup i := by
 cases d with
 | tup j => cases e; rfl
 | _ => cases e
theorem zgk {d : D} {c : Int} (h : asI d = some c) : d = .int c := by
 cases d with
 | int i => cases h; rfl
 | _ => cases h
def asB : D -> Option Bool
 | .bl i => some i
 | _ => none
theorem znK {d : D} {c : Bool} (h : asB d = some c) : d = .bl c := by
 cases d with
 | bl i => cases h; rfl
 | _ => cases h
def rvD : RV -> Option D
 | .ow (.lf _ d) => some d
 | _ => none
theorem zkb {r : RV} {d : D} (h : rvD r = some d) : ∃ st, r = .ow (.lf st d) := by
 cases r with
 | bo i => cases h
 | ow o =>
  cases o with
  | nd k os => cases h
  | lf st d => cases h; exact ⟨st, rfl⟩
def rvB (r : RV) : Option Bool := (rvD r).bind asB
theorem zkv {r : RV} {c : Bool} (h : rvB r = some c) : ∃ st, r = .ow (.lf st (.bl c)) := by
 obtain ⟨d, h1, h⟩ := bS_ h
 cases znK h
 exact zkb h1
def rvI (r : RV) : Option Int := (rvD r).bind asI
theorem zpj {r : RV} {c : Int} (h : rvI r = some c) : ∃ st, r = .ow (.lf st (.int c)) := by
 obtain ⟨d, h1, h⟩ := bS_ h
 cases zgk h
 exact zkb h1
def zpn {α : Type} : List α -> Option (α × α)
 | [a, b] => some (a, b)
 | _ => none
theorem ziW {α : Type} {os : List α} {p : α × α} (h : zpn os = some p) : os = [p.1, p.2] := by
 cases os with
 | nil => cases h
 | cons x r =>
  cases r with
  | nil => cases h
  | cons y r =>
   cases r with
   | nil => cases h; rfl
   | cons _ _ => cases h
def rvL (r : RV) : Option (Bool × List D) := match r with
 | .ow (.lf s d) => (asL d).bind λ l => some (s, l)
 | _ => none
theorem zks {r : RV} {p : Bool × List D} (h : rvL r = some p) : r = .ow (.lf p.1 (.lst p.2)) := by
 cases r with
 | bo i => cases h
 | ow o =>
  cases o with
  | nd k os => cases h
  | lf st d =>
   obtain ⟨l, h1, h⟩ := bS_ (show (asL d).bind _ = _ from h)
   cases h
   cases zbP h1
   rfl
def zmx (f g : EF) : EF := λ as => (f as).bind λ p => (rvB p.1).bind λ c => if c = true then g p.2 else some (.ow (.lf true (.bl false)), p.2)
def zma (f : EF) : EF := λ as => (f as).bind λ p => (rvB p.1).bind λ c => some (.ow (.lf true (.bl (!c))), p.2)
section
variable {X : Cx} {kd : KD} {a b c : Expr} {fa fb : EF} {ta tb : TF} {pos : Pos} {es rest : List Expr}
theorem zhT {e : Expr} {t t' : TT} (h : PT X e t) (k : ∀ σ H Q, t' σ H Q -> t σ H Q) : PT X e t' := λ pins s σ H Q I q => h pins s σ H Q I (k σ H Q q)
theorem zkD {e : Expr} {t t' : TT} (h : PW X e t) (k : ∀ σ H Q, t' σ H Q -> t σ H Q) : PW X e t' := λ w pins s σ H Q I q => h w pins s σ H Q I (k σ H Q q)
theorem zop {O : Addr -> Prop} {H : Hp} {v : V} {d : D} {k : Bool} (h : Vw X.K kd O H v d) (e : truth d = some k) : zof X.K v H k := by
 cases h with
 | non => cases e; rfl
 | bl b => cases e; rfl
 | int i => cases e; rfl
 | str x =>
  have e : (if x.length <= sizeLine then some ((x.length : Int) != 0) else none) = some k := e
  by_cases hl : x.length <= sizeLine
  · rw [if_pos hl] at e; cases e; exact ⟨hl, rfl⟩
  · rw [if_neg hl] at e; cases e
 | tup r hs hr =>
  cases e
  refine .inr (.inl ⟨_, hs, ?_⟩)
  cases hr <;> rfl
 | lst hs hr =>
  cases e
  refine .inl ⟨_, hs.sq, ?_⟩
  cases hr <;> rfl
 | dct => cases e
 | cl => cases e
 | ob => cases e
theorem zaf (ha : AE X kd a fa) (he : ∀ whole, isTrue a X.env whole = (do let v <- whole; standAt a.pos; holding [v] (truthy v))) : AT X kd a (fT fa) := by with_unfolding_all exact (zhT (zlm ha he) λ σ H Q h => by
 obtain ⟨F, B, ad, as, bb, as', R, e, q⟩ := h
 obtain ⟨⟨p, as1⟩, h1, e⟩ := bS_ (show (fa as).bind _ = _ from e)
 obtain ⟨⟨d, lv⟩, h2, e⟩ := bS_ e
 obtain ⟨k, h3, e⟩ := bS_ e
 cases e
 exact WR R h1 λ v ad1 H1 R1 rv1 g1 => ⟨_, zop (vZ.vw R1 rv1 h2) h3, q ad1 H1 R1 g1⟩)
theorem yr {op : CmpOp} {g : D -> D -> Option R0} (ho : OpD X kd (compareOp op) g) (hg : ∀ x y r, g x y = some r -> ∃ k, r = .im (.bl k)) (ha : AE X kd a fa) (hb : AE X kd b fb) (hm : behindInMarks op b = false) :
 AT X kd (.Compare a [op] [b] pos) (fT (f2 fa fb g)) := by with_unfolding_all exact (zhT (zna ho ha hb hm) λ σ H Q h => by
 obtain ⟨F, B, ad, as, bb, as', R, e, q⟩ := h
 obtain ⟨⟨p, as1⟩, h1, e⟩ := bS_ (show (f2 fa fb g as).bind _ = _ from e)
 obtain ⟨⟨d, lv⟩, h2, e⟩ := bS_ e
 obtain ⟨k, h3, e⟩ := bS_ e
 cases e
 obtain ⟨_, _, _, x, y, _, _, r0, _, _, _, _, hp, hw⟩ := ziA h1
 obtain ⟨k', rfl⟩ := hg _ _ _ hp
 cases hw
 cases h2
 cases h3
 refine al2 (λ _ _ _ _ z => z) ⟨F, B, ad, as, _, _, R, h1, λ v T' ad' H' R' rv g' => ?_⟩
 generalize hT : T' = T2 at rv R' g'
 cases rv with
 | lf rp =>
  cases rp
  exact ⟨_, rfl, q ad' H' R' g'⟩)
theorem zag (ha : AT X kd a ta) : AT X kd (.UnaryOp .Not a pos) (Za ta) := by with_unfolding_all exact (zhT (zoq ha) λ σ H Q h => by
 obtain ⟨F, B, ad, as, bb, as', R, e, q⟩ := h
 obtain ⟨⟨p, as1⟩, h1, e⟩ := bS_ (show (ta as).bind _ = _ from e)
 cases e
 exact ⟨F, B, ad, as, p, _, R, h1, λ ad' H' R' g => q ad' H' R' g⟩)
theorem Yr (ha : AT X kd a ta) : AW X kd (.BoolOp .And [a] pos) ta := by with_unfolding_all exact (zlW ha)
theorem Yp (ha : AT X kd a ta) : AW X kd (.BoolOp .Or [a] pos) ta := by with_unfolding_all exact (zpm ha)
theorem zdz (ha : AT X kd a ta) (hb : AW X kd (.BoolOp .And (b :: rest) pos) tb) : AW X kd (.BoolOp .And (a :: b :: rest) pos) (YJ ta tb) := by with_unfolding_all exact (zkD (zoR ha hb) λ σ H Q h => by
 obtain ⟨F, B, ad, as, bb, as', R, e, q⟩ := h
 obtain ⟨⟨p, as1⟩, h1, e⟩ := bS_ (show (ta as).bind _ = _ from e)
 refine ⟨F, B, ad, as, p, as1, R, h1, λ ad' H' R' g => ?_⟩
 cases p with
 | true => exact ⟨F, B, ad', as1, bb, as', R', e, λ ad2 H2 R2 g2 => q ad2 H2 R2 (g.trans g2)⟩
 | false => cases e; exact q ad' H' R' g)
theorem zdS (ha : AT X kd a ta) (hb : AW X kd (.BoolOp .Or (b :: rest) pos) tb) : AW X kd (.BoolOp .Or (a :: b :: rest) pos) (Wz ta tb) := by with_unfolding_all exact (zkD (zpS ha hb) λ σ H Q h => by
 obtain ⟨F, B, ad, as, bb, as', R, e, q⟩ := h
 obtain ⟨⟨p, as1⟩, h1, e⟩ := bS_ (show (ta as).bind _ = _ from e)
 refine ⟨F, B, ad, as, p, as1, R, h1, λ ad' H' R' g => ?_⟩
 cases p with
 | false => exact ⟨F, B, ad', as1, bb, as', R', e, λ ad2 H2 R2 g2 => q ad2 H2 R2 (g.trans g2)⟩
 | true => cases e; exact q ad' H' R' g)
theorem AW.at_ {e : Expr} (h : AW X kd e ta) : AT X kd e ta := by with_unfolding_all exact (PW.pt h)
theorem znk {K : zC} {F B : Addr -> Prop} {T : List Addr} {ad : Ad} {σ : St} {H : Hp} {v : V} {st c : Bool} (h : vZ K kd F B T ad σ H v (.ow (.lf st (.bl c)))) : T = [] /\ v = .bl c := by
 have h : RoS K kd F B (Gw T ad) H v (.lf st (.bl c)) T := h
 generalize hT : Gw T ad = G at h
 cases h with
 | lf rp => cases rp; exact ⟨rfl, rfl⟩
theorem zpq {op} (ha : AE X kd a fa) : AE X kd (.BoolOp op [a] pos) fa := by with_unfolding_all exact (zoL ha)
theorem znQ (ha : AE X kd a fa) (hb : AE X kd (.BoolOp .And (b :: rest) pos) fb) : AE X kd (.BoolOp .And (a :: b :: rest) pos) (zmx fa fb) := by with_unfolding_all exact (xU (zpc ha hb) λ σ H Q h => by
 obtain ⟨F, B, ad, as, r, as', R, e, q⟩ := h
 obtain ⟨⟨p, as1⟩, h1, e⟩ := bS_ (show (fa as).bind _ = _ from e)
 refine ⟨F, B, ad, as, p, as1, R, h1, λ v T' ad' H' R' rv g => ?_⟩
 obtain ⟨k, e1, e⟩ := bS_ e
 obtain ⟨st, rfl⟩ := zkv e1
 obtain ⟨rfl, rfl⟩ := znk rv
 cases k with
 | true => exact ⟨true, rfl, ⟨F, B, ad', as1, r, as', R', e, λ v T2 ad2 H2 R2 rv g2 => q v T2 ad2 H2 R2 rv (g.trans g2)⟩⟩
 | false =>
  cases e
  exact ⟨false, rfl, q _ [] ad' H' R' (.lf (.bl false)) g⟩)
theorem znY (ha : AE X kd a fa) : AE X kd (.UnaryOp .Not a pos) (zma fa) := by with_unfolding_all exact (xU (zpl ha) λ σ H Q h => by
 obtain ⟨F, B, ad, as, r, as', R, e, q⟩ := h
 obtain ⟨⟨p, as1⟩, h1, e⟩ := bS_ (show (fa as).bind _ = _ from e)
 refine ⟨F, B, ad, as, p, as1, R, h1, λ v T' ad' H' R' rv g => ?_⟩
 obtain ⟨k, e1, e⟩ := bS_ e
 obtain ⟨st, rfl⟩ := zkv e1
 obtain ⟨rfl, rfl⟩ := znk rv
 cases e
 exact ⟨k, rfl, q _ [] ad' H' R' (.lf (.bl _)) g⟩)
end
abbrev AF := AS -> Option (List RV × AS)
inductive RVs (K : zC) (kd : KD) (F B : Addr -> Prop) (ad : Ad) (σ : St) (H : Hp) : List V -> List RV -> Prop
 | nil : RVs K kd F B ad σ H [] []
 | cons {v : V} {r : RV} {vs : List V} {rs : List RV} : vZ K kd F B [] ad σ H v r -> RVs K kd F B ad σ H vs rs -> RVs K kd F B ad σ H (v :: vs) (r :: rs)
def alA (K : zC) (kd : KD) (f : AF) : TA := λ σ H Q => ∃ F B ad as rs as', Rel K kd F B [] ad as σ H /\ f as = some (rs, as') /\
 ∀ vs ad' H', Rel K kd F B [] ad' as' σ H' -> RVs K kd F B ad' σ H' vs rs -> Grow (Gw [] ad) H (Gw [] ad') H' -> Q vs H'
@[irreducible] def AA (X : Cx) (kd : KD) (es : List Expr) (f : AF) : Prop := PA X es (alA X.K kd f)
def aN : AF := λ as => some ([], as)
def aC (fa : EF) (fr : AF) : AF := λ as => (fa as).bind λ p => (fr p.2).bind λ q => some (p.1.frz :: q.1, q.2)
theorem zgp {X : Cx} {e : List Expr} {t t' : TA} (h : PA X e t) (k : ∀ σ H Q, t' σ H Q -> t σ H Q) : PA X e t' := λ pos pins s σ H Q I q => h pos pins s σ H Q I (k σ H Q q)
abbrev DF := AS -> Option (List O × AS)
def alD (K : zC) (kd : KD) (f : DF) : TA := λ σ H Q => ∃ F B ad as os as', Rel K kd F B [] ad as σ H /\ f as = some (os, as') /\
 ∀ vs T' ad' H', Rel K kd F B T' ad' as' σ H' -> Yh K kd F B (Gw T' ad') H' vs os T' -> Grow (Gw [] ad) H (Gw T' ad') H' -> Q vs H'
@[irreducible] def AD (X : Cx) (kd : KD) (es : List Expr) (f : DF) : Prop := PA X es (alD X.K kd f)
def dN : DF := λ as => some ([], as)
def dC (fa : EF) (fr : DF) : DF := λ as => (fa as).bind λ p => (toO p.2 p.1).bind λ x => (fr x.2).bind λ q => some (x.1 :: q.1, q.2)
def views (as : AS) : List RV -> Option (List D × Option Bool)
 | [] => some ([], some true)
 | r :: rs => (r.view as).bind λ x => (views as rs).bind λ y => some (x.1 :: y.1, meet x.2 y.2)
def fP (fr : AF) (g : List D -> Option R0) : EF := λ as => (fr as).bind λ p => (views p.2 p.1).bind λ x => (g x.1).bind λ r => (wrap x.2 r).bind λ z => some (z, p.2)
def zkt (as : AS) : RV -> Option (Bool × D)
 | .ow o => some (yt o.toD || o.str, o.toD)
 | .bo i => match as[i]? with
  | some (some o) => some (false, o.toD)
  | _ => none
def zal (as : AS) : List RV -> Option (List (Bool × D))
 | [] => some []
 | r :: rs => (zkt as r).bind λ x => (zal as rs).bind λ y => some (x :: y)
def zQ (fr : AF) (g : List (Bool × D) -> Option O) : EF := λ as => (fr as).bind λ p => (zal p.2 p.1).bind λ x => (g x).bind λ o => some (.ow o, p.2)
def RQO (K : zC) (kd : KD) (F : Addr -> Prop) (H : Hp) (Q : VK) (o : O) : Prop :=
 ∀ v T H', T.Nodup -> (∀ a ∈ T, H a = none) -> (∀ b u, H b = some u -> H' b = some u) -> (∀ a ∈ T, H' a ≠ none) -> Ro (λ _ v d => Rp K kd (Un2 F (· ∈ T)) H' v d) (λ a => ¬ Un2 F (· ∈ T) a) H' v o T -> Q v H'
inductive RpA (K : zC) (kd : KD) (F : Addr -> Prop) (H : Hp) : List V -> List (Bool × D) -> Prop
 | nil : RpA K kd F H [] []
 | cons {v : V} {st : Bool} {d : D} {vs : List V} {ds : List (Bool × D)} : Rp K kd (λ a => st = true /\ F a) H v d -> RpA K kd F H vs ds -> RpA K kd F H (v :: vs) ((st, d) :: ds)
def spD (K : zC) (kd : KD) (g : List (Bool × D) -> Option O) : Sp := λ vs H Q _ => ∃ F ds o, (∀ a, F a -> H a ≠ none) /\ RpA K kd F H vs ds /\ g ds = some o /\ RQO K kd F H Q o
def YW (os : List O) : O := if os.all O.isLf = true then .lf (O.strs os) (.tup (O.toDs os)) else .nd .tp os
def yZ (fr : DF) : EF := λ as => (fr as).bind λ p => if p.1.length <= sizeLine then some (.ow (YW p.1), p.2) else none
def xG (fr : DF) : EF := λ as => (fr as).bind λ p => if p.1.length <= sizeLine then some (.ow (.nd .ls p.1), p.2) else none
section
variable {X : Cx} {kd : KD} {a b c : Expr} {fa fb : EF} {ta tb : TF} {pos : Pos} {es rest : List Expr} {fr : AF} {fd : DF}
theorem RpA.length {K : zC} {F : Addr -> Prop} {H : Hp} {vs : List V} {ds : List (Bool × D)} (h : RpA K kd F H vs ds) : vs.length = ds.length := by
 induction h with
 | nil => rfl
 | cons _ _ ih => exact congrArg (· + 1) ih
theorem zp : AA X kd [] aN := by with_unfolding_all exact (zgp zey λ σ H Q h => by
 obtain ⟨F, B, ad, as, rs, as', R, e, q⟩ := h
 cases e
 exact q [] ad H R .nil Grow.refl)
theorem zf (ha : AE X kd a fa) (hr : AA X kd es fr) (hs : starEach (a :: es) X.env = (false, eval a X.env) :: starEach es X.env) : AA X kd (a :: es) (aC fa fr) := by with_unfolding_all exact (zgp (VF ha hr hs) λ σ H Q h => by
 obtain ⟨F, B, ad, as, rs, as', R, e, q⟩ := h
 obtain ⟨⟨p, as1⟩, h1, e⟩ := bS_ (show (fa as).bind _ = _ from e)
 obtain ⟨⟨z, as2⟩, h2, e⟩ := bS_ e
 cases e
 refine WR R h1 λ v ad1 H1 R1 rv1 g1 => ⟨F, B, ad1, as1, z, _, R1, h2, λ vs ad2 H2 R2 rv2 g2 => ?_⟩
 exact q _ ad2 H2 R2 (.cons (rv1.grow g2) rv2) (g1.trans g2))
theorem zN : AD X kd [] dN := by with_unfolding_all exact (zgp zey λ σ H Q h => by
 obtain ⟨F, B, ad, as, rs, as', R, e, q⟩ := h
 cases e
 exact q [] [] ad H R .nil Grow.refl)
theorem zg (ha : AE X kd a fa) (hr : AD X kd es fd) (hs : starEach (a :: es) X.env = (false, eval a X.env) :: starEach es X.env) : AD X kd (a :: es) (dC fa fd) := by with_unfolding_all exact (zgp (VF ha hr hs) λ σ H Q h => by
 obtain ⟨F, B, ad, as, rs, as', R, e, q⟩ := h
 obtain ⟨⟨p, as1⟩, h1, e⟩ := bS_ (show (fa as).bind _ = _ from e)
 obtain ⟨⟨o, as2⟩, h2, e⟩ := bS_ e
 obtain ⟨⟨os, as3⟩, h3, e⟩ := bS_ e
 cases e
 refine ⟨F, B, ad, as, p, as1, R, h1, λ v T1 ad1 H1 R1 rv1 g1 => ?_⟩
 obtain ⟨ad2, R2, ro2, le2⟩ := zdC R1 rv1 h2
 refine ⟨F, _, ad2, as2, os, _, R2.hide, h3, λ vs T3 ad3 H3 R3 ro3 g3 => ?_⟩
 have kT : ∀ a ∈ T1, ∀ u, H1 a = some u -> H3 a = some u := λ a m u e => g3.keep a u e λ z => z.elim (λ y => nomatch y) λ ⟨i, y⟩ => R2.dis i a y m
 have r1 : RoS X.K kd F B (Gw (T1 ++ T3) ad3) H3 v o T1 := RoS.lv zbz (RoS.grow g3 kT (RoS.lv ziC ro2))
 have r3 : Yh X.K kd F B (Gw (T1 ++ T3) ad3) H3 vs os T3 := Yh.lv zbz ro3
 refine q _ (T1 ++ T3) ad3 H3 (R3.unhide R2.tnd λ a m z => (R2.btr a z).2.2 (.inl m)) (.cons r1 r3) ((g1.trans (Grow.less le2)).trans ⟨λ b u e n => g3.keep b u e λ z => n (Gw.drop b z), λ b z => ?_⟩)
 rcases z with z | z
 · rcases zzK.mp z with z | z
   · exact .inl (.inl z)
   · exact (g3.own b (.inl z)).elim (λ y => .inl (Gw.drop b y)) .inr
 · exact (g3.own b (.inr z)).elim (λ y => .inl (Gw.drop b y)) .inr)
theorem xg {x1} (h : AD X kd es fd) : AE X kd (.Tuple es x1 pos) (yZ fd) := by with_unfolding_all exact (xU (znO h) λ σ H Q h => by
 obtain ⟨F, B, ad, as, r, as', R, e, q⟩ := h
 obtain ⟨⟨os, as1⟩, h1, e⟩ := bS_ (show (fd as).bind _ = _ from e)
 obtain ⟨hz, e⟩ := yc e
 cases e
 refine ⟨F, B, ad, as, os, _, R, h1, λ vs T1 ad1 H1 R1 ro1 g1 => ⟨by rw [ro1.length]; exact hz, λ p hp => ?_⟩⟩
 have k : ∀ b o, H1 b = some o -> upd H1 p (.tup vs) b = some o := λ b o hb => by rw [yj (yV hb hp)]; exact hb
 obtain ⟨R2, g2⟩ := R1.more k
 have ro2 := Yh.grow g2 (λ a _ u h => k a u h) ro1
 have np : ∀ st, ¬ Lv F B (Gw T1 ad1) st p := λ st z => R1.trk st p z hp
 refine q _ T1 ad1 _ R2 ?_ (g1.trans g2)
 show RoS X.K kd F B (Gw T1 ad1) _ _ (YW os) T1
 unfold YW
 by_cases hl : os.all O.isLf = true
 · rw [if_pos hl]
   have := zkf ro2 hl
   subst this
   exact .lf (.tup (np _) (.inl yW) (zea ro2 hl))
 · rw [if_neg hl]
   exact .tp (np _) yW ro2)
theorem xj (h : AD X kd es fd) : AE X kd (.List es pos) (xG fd) := by with_unfolding_all exact (xU (znF h) λ σ H Q h => by
 obtain ⟨F, B, ad, as, r, as', R, e, q⟩ := h
 obtain ⟨⟨os, as1⟩, h1, e⟩ := bS_ (show (fd as).bind _ = _ from e)
 obtain ⟨hz, e⟩ := yc e
 cases e
 refine ⟨F, B, ad, as, os, _, R, h1, λ vs T1 ad1 H1 R1 ro1 g1 => ⟨by rw [ro1.length]; exact hz, λ p hp => ?_⟩⟩
 have k : ∀ b o, H1 b = some o -> upd H1 p (.lst vs) b = some o := λ b o hb => by rw [yj (yV hb hp)]; exact hb
 obtain ⟨R2, g2⟩ := R1.add (N := [p]) (by simp) (λ a m => by rw [zzP.mp m]; exact hp) k (λ a m => by rw [zzP.mp m, yW]; simp)
 exact q _ _ ad1 _ R2 (.ls yW (Yh.grow g2 (λ a _ u h => k a u h) ro1)) (g1.trans g2))
theorem VwL.less {K : zC} {O O' : Addr -> Prop} {H : Hp} (g : ∀ a, O' a -> O a) {vs : List V} {ds : List D} (h : VwL K kd O H vs ds) : VwL K kd O' H vs ds := by
 induction h with
 | nil => exact .nil
 | cons h _ ih => exact .cons (h.less g) ih
theorem zbg {K : zC} {F B : Addr -> Prop} {ad : Ad} {as : AS} {σ : St} {H : Hp} (R : Rel K kd F B [] ad as σ H) {vs : List V} {rs : List RV} {ds : List D} {lv : Option Bool} (h : RVs K kd F B ad σ H vs rs) (e : views as rs = some (ds, lv)) : VwL K kd (Obl F B (Gw [] ad) lv) H vs ds := by
 induction h generalizing ds lv with
 | nil => cases e; exact .nil
 | cons h t ih =>
  obtain ⟨⟨d, l⟩, h1, e⟩ := bS_ (show (RV.view as _).bind _ = _ from e)
  obtain ⟨⟨ds, l2⟩, h2, e⟩ := bS_ e
  cases e
  exact .cons ((vZ.vw R h h1).less Obl.meet1) ((ih h2).less Obl.meet2)
theorem alP {g : List D -> Option R0} {σ : St} {H : Hp} {Q : VK} {R' : List V -> Hp -> VK -> Prop} (hr : ∀ vs H Q, (∃ O ds r, (∀ a, O a -> H a ≠ none) /\ VwL X.K kd O H vs ds /\ g ds = some r /\ RQ X.K kd O H Q r) -> R' vs H Q)
 (h : al X.K kd (fP fr g) σ H Q) : alA X.K kd fr σ H λ vs H1 => R' vs H1 Q := by
 obtain ⟨F, B, ad, as, r, as', R, e, q⟩ := h
 obtain ⟨⟨p, as1⟩, h1, e⟩ := bS_ (show (fr as).bind _ = _ from e)
 obtain ⟨⟨ds, lv⟩, h2, e⟩ := bS_ e
 obtain ⟨z, h3, e⟩ := bS_ e
 obtain ⟨y, h4, e⟩ := bS_ e
 cases e
 exact ⟨F, B, ad, as, p, _, R, h1, λ vs ad1 H1 R1 rv1 g1 => hr _ _ _ ⟨_, ds, z, R1.tr _, zbg R1 rv1 h2, h3, Vz R1 h4 λ w T' H' R' rv' g' => q w T' ad1 H' R' rv' (g1.trans g')⟩⟩
theorem zlH {K : zC} {F B : Addr -> Prop} {ad : Ad} {as : AS} {σ : St} {H : Hp} (R : Rel K kd F B [] ad as σ H) {vs : List V} {rs : List RV} {ds : List (Bool × D)} (h : RVs K kd F B ad σ H vs rs) (e : zal as rs = some ds) : RpA K kd (Lv F B (Gw [] ad) true) H vs ds := by
 induction h generalizing ds with
 | nil => cases e; exact .nil
 | cons h t ih =>
  rename_i v r vs rs
  obtain ⟨⟨st, d⟩, h1, e⟩ := bS_ (show (zkt as r).bind _ = _ from e)
  obtain ⟨ds, h2, e⟩ := bS_ e
  cases e
  refine .cons ?_ (ih h2)
  cases r with
  | ow o =>
   cases h1
   cases hf : yt o.toD with
   | true => exact (zgh h).flat hf
   | false =>
    refine (zge h).less λ a z => ?_
    have zs : o.str = true := z.1
    rw [zs]
    exact z.2
  | bo i =>
   have e : (match as[i]? with | some (some o) => some (false, o.toD) | _ => none) = some (st, d) := h1
   cases k : as[i]? with
   | none => rw [k] at e; cases e
   | some s =>
    cases s with
    | none => rw [k] at e; cases e
    | some o =>
     rw [k] at e
     cases e
     obtain ⟨w, hw, ro⟩ := R.sl i _ k
     rw [h.2] at hw
     cases hw
     exact (zgh ro).less λ a z => nomatch z.1
theorem zpk {K : zC} {F B : Addr -> Prop} {ad : Ad} {as : AS} {σ : St} {H : Hp} {Q : VK} {o : O} (R : Rel K kd F B [] ad as σ H) (q : ∀ v T' H', Rel K kd F B T' ad as σ H' -> vZ K kd F B T' ad σ H' v (.ow o) -> Grow (Gw [] ad) H (Gw T' ad) H' -> Q v H') :
 RQO K kd (Lv F B (Gw [] ad) true) H Q o := λ v T H' hn hl k h1 ro => by
 obtain ⟨R', g⟩ := R.news hn hl k h1
 have le : ∀ st a, Lv F B (Gw T ad) st a -> Un2 (Lv F B (Gw [] ad) true) (· ∈ T) a := λ st a z => by
  rcases z with (z | z) | z | z
  · exact .inl (.inl (.inl ⟨rfl, z.2⟩))
  · exact .inl (.inl (.inr z))
  · exact .inr z
  · exact .inl (.inr (.inr z))
 exact q v T H' R' (Ro.mono (λ st v d r => r.less (le st)) (λ a vs n e => ⟨λ z => n (le true a z), e⟩) (λ _ _ _ e => e) ro) g
theorem znG {g : List (Bool × D) -> Option O} {σ : St} {H : Hp} {Q : VK} {E : XK} (h : al X.K kd (zQ fr g) σ H Q) : znw (spD X.K kd g) [] E (alA X.K kd fr) σ H Q := by
 obtain ⟨F, B, ad, as, r, as', R, e, q⟩ := h
 obtain ⟨⟨p, as1⟩, h1, e⟩ := bS_ (show (fr as).bind _ = _ from e)
 obtain ⟨ds, h2, e⟩ := bS_ e
 obtain ⟨o, h3, e⟩ := bS_ e
 cases e
 refine ⟨F, B, ad, as, p, _, R, h1, λ vs ad1 H1 R1 rv1 g1 => ?_⟩
 show spD X.K kd g (vs ++ []) H1 Q E
 rw [List.append_nil]
 exact ⟨_, ds, o, R1.trk true, zlH R1 rv1 h2, h3, zpk R1 λ w T' H' R' rv' g' => q w T' ad1 H' R' rv' (g1.trans g')⟩
end
inductive Out where
 | nx (as : AS) | rt (o : O) | bk (as : AS) | ct (as : AS)
abbrev SF := AS -> Option Out
structure RetOk (K : zC) (kd : KD) (F : Addr -> Prop) (T : List Addr) (H : Hp) (v : V) (o : O) : Prop where
 nd : T.Nodup
 tr : ∀ a ∈ T, H a ≠ none
 ro : Ro (λ _ v d => Rp K kd (Un2 F (· ∈ T)) H v d) (λ a => ¬ Un2 F (· ∈ T) a) H v o T
def ziB (K : zC) (kd : KD) (F B : Addr -> Prop) (ad : Ad) (H : Hp) (D : Ends) : Out -> Prop
 | .nx as' => ∀ σ' ad' H', Rel K kd F B [] ad' as' σ' H' -> Grow (Gw [] ad) H (Gw [] ad') H' -> D.nx σ' H'
 | .bk as' => ∀ σ' ad' H', Rel K kd F B [] ad' as' σ' H' -> Grow (Gw [] ad) H (Gw [] ad') H' -> D.bk σ' H'
 | .ct as' => ∀ σ' ad' H', Rel K kd F B [] ad' as' σ' H' -> Grow (Gw [] ad) H (Gw [] ad') H' -> D.ct σ' H'
 | .rt o => ∀ v T H', RetOk K kd F T H' v o -> Grow (Gw [] ad) H (· ∈ T) H' -> D.rt v H'
def be (K : zC) (kd : KD) (f : SF) : TS := λ D σ H => ∃ F B ad as o, Rel K kd F B [] ad as σ H /\ f as = some o /\ ziB K kd F B ad H D o
@[irreducible] def ASt (X : Cx) (kd : KD) (st : Stmt) (f : SF) : Prop := PS X st (be X.K kd f)
@[irreducible] def ASs (X : Cx) (kd : KD) (st : List Stmt) (f : SF) : Prop := PSs X st (be X.K kd f)
theorem vJ {X : Cx} {e : Stmt} {t t' : TS} (h : PS X e t) (k : ∀ D σ H, t' D σ H -> t D σ H) : PS X e t' := λ pins s σ H D I q => h pins s σ H D I (k D σ H q)
theorem Vv {X : Cx} {e : List Stmt} {t t' : TS} (h : PSs X e t) (k : ∀ D σ H, t' D σ H -> t D σ H) : PSs X e t' := λ pins s σ H D I q => h pins s σ H D I (k D σ H q)
theorem ziB.pre {K : zC} {kd : KD} {F B : Addr -> Prop} {ad ad1 : Ad} {H H1 : Hp} {D : Ends} {o : Out} (g : Grow (Gw [] ad) H (Gw [] ad1) H1) (h : ziB K kd F B ad H D o) : ziB K kd F B ad1 H1 D o := by
 cases o with
 | nx as => exact λ σ' ad' H' R g' => h σ' ad' H' R (g.trans g')
 | bk as => exact λ σ' ad' H' R g' => h σ' ad' H' R (g.trans g')
 | ct as => exact λ σ' ad' H' R g' => h σ' ad' H' R (g.trans g')
 | rt r => exact λ v T H' R g' => h v T H' R (g.trans g')
def sNx : SF := λ as => some (.nx as)
def zF (f g : SF) : SF := λ as => (f as).bind λ o => match o with | .nx as' => g as' | o => some o
def sIf (c : TF) (f g : SF) : SF := λ as => (c as).bind λ p => if p.1 = true then f p.2 else g p.2
def xN (f : EF) : SF := λ as => (f as).bind λ p => some (.nx p.2)
def zjO (as : AS) : RV -> Option O
 | .ow o => if o.str = true then some o else none
 | .bo i => match as[i]? with
  | some (some o) => if o.str = true then some o else none
  | _ => none
def yL (f : EF) : SF := λ as => (f as).bind λ p => (zjO p.2 p.1).bind λ o => some (.rt o)
def zR (z : Bool) (i : Nat) (f : EF) : SF := λ as => (f as).bind λ p => (toO p.2 (if z = true then p.1.frz else p.1)).bind λ x => if i < x.2.length then some (.nx (x.2.set i (some x.1))) else none
theorem Ro.strong {L : Bool -> V -> D -> Prop} {N : Addr -> Prop} {H : Hp} {v : V} {o : O} {fp : List Addr} (h : Ro L N H v o fp) (e : o.str = true) : Ro (λ st v d => st = true /\ L st v d) N H v o fp :=
 Ro.rec (motive_1 := λ v o fp _ => o.str = true -> Ro (λ st v d => st = true /\ L st v d) N H v o fp) (motive_2 := λ vs os fp _ => O.strs os = true -> RoL (λ st v d => st = true /\ L st v d) N H vs os fp)
  (λ h e => .lf ⟨e, h⟩) (λ h _ r e => .ls h (r e)) (λ h l _ r e => .dc h l (r e)) (λ c h l _ r e => .ob ⟨rfl, c⟩ h l (r e)) (λ n h _ r e => .tp n h (r e)) (λ _ => .nil) (λ _ _ h r e => .cons (h ((Bool.and_eq_true _ _).mp e).1) (r ((Bool.and_eq_true _ _).mp e).2)) h e
section
variable {K : zC} {kd : KD} {F B : Addr -> Prop} {T : List Addr} {ad ad1 : Ad} {as as1 : AS} {σ : St} {H H1 : Hp} {v : V} {r : RV} {o : O}
theorem zhV {T' : List Addr} (R : Rel K kd F B T ad as σ H) (hn : T'.Nodup) (hs : ∀ a ∈ T', Gw T ad a) (h : RoS K kd F B (Gw T ad) H v o T') (e : o.str = true) : RetOk K kd F T' H v o := by
 have le : ∀ a, Un2 F (· ∈ T') a -> Lv F B (Gw T ad) true a := λ a z => z.elim (λ y => .inl (.inl ⟨rfl, y⟩)) λ y => .inr (hs a y)
 exact ⟨hn, λ a m => (R.gtr a (hs a m)).1, Ro.mono (λ st v d r => by obtain ⟨rfl, r⟩ := r; exact r.less le) (λ a vs n e => ⟨λ z => n (le a z), e⟩) (λ _ _ _ e => e) (Ro.strong h e)⟩
theorem Rel.ret (R : Rel K kd F B T ad as σ H) (hr : vZ K kd F B T ad σ H v r) (e : zjO as r = some o) : ∃ T', RetOk K kd F T' H v o /\ ∀ b ∈ T', Gw T ad b := by
 cases r with
 | ow o' =>
  obtain ⟨hs, rfl⟩ := yc e
  exact ⟨T, zhV R R.tnd (λ a m => .inl m) hr hs, λ a m => .inl m⟩
 | bo i =>
  have e : (match as[i]? with | some (some o) => if o.str = true then some o else none | _ => none) = some o := e
  cases k : as[i]? with
  | none => rw [k] at e; cases e
  | some s =>
   cases s with
   | none => rw [k] at e; cases e
   | some o1 =>
    rw [k] at e
    obtain ⟨hs, rfl⟩ := yc e
    obtain ⟨w, hw, ro⟩ := R.sl i _ k
    rw [hr.2] at hw
    cases hw
    exact ⟨ad i, zhV R (R.nd i) (λ a m => .inr ⟨i, m⟩) ro hs, λ a m => .inr ⟨i, m⟩⟩
end
section
variable {X : Cx} {kd : KD} {st : Stmt} {sts rest : List Stmt} {a b c e : Expr} {fa fb : EF} {ta : TF} {pos : Pos} {f g : SF}
theorem yu : ASs X kd [] sNx := by with_unfolding_all exact (Vv ziw λ D σ H h => by
 obtain ⟨F, B, ad, as, o, R, e, q⟩ := h
 cases e
 exact q σ ad H R Grow.refl)
theorem zj (h1 : ASt X kd st f) (h2 : ASs X kd rest g) : ASs X kd (st :: rest) (zF f g) := by with_unfolding_all exact (Vv (Xr h1 h2) λ D σ H h => by
 obtain ⟨F, B, ad, as, o, R, e, q⟩ := h
 obtain ⟨o1, e1, e⟩ := bS_ (show (f as).bind _ = _ from e)
 refine ⟨F, B, ad, as, o1, R, e1, ?_⟩
 cases o1 with
 | nx as1 => exact λ σ' ad' H' R' g' => ⟨F, B, ad', as1, o, R', e, q.pre g'⟩
 | bk as1 => cases e; exact q
 | ct as1 => cases e; exact q
 | rt r => cases e; exact q)
theorem zu (h1 : ASt X kd st f) : ASs X kd [st] f := by with_unfolding_all exact (zaV h1)
theorem xF (hc : AT X kd c ta) (ha : ASs X kd sts f) (hb : ASs X kd rest g) : ASt X kd (.If c sts rest pos) (sIf ta f g) := by with_unfolding_all exact (vJ (znj hc ha hb) λ D σ H h => by
 obtain ⟨F, B, ad, as, o, R, e, q⟩ := h
 obtain ⟨⟨p, as1⟩, h1, e⟩ := bS_ (show (ta as).bind _ = _ from e)
 refine ⟨F, B, ad, as, p, as1, R, h1, λ ad' H' R' g => ?_⟩
 cases p with
 | true => exact ⟨F, B, ad', as1, o, R', e, q.pre g⟩
 | false => exact ⟨F, B, ad', as1, o, R', e, q.pre g⟩)
theorem vV (he : AE X kd e fa) (hs : swapsWith e none pos.line X.env = pure false) : ASt X kd (.Expr e pos) (xN fa) := by with_unfolding_all exact (vJ (zmf he hs) λ D σ H h => by
 obtain ⟨F, B, ad, as, o, R, e, q⟩ := h
 obtain ⟨⟨p, as1⟩, h1, e⟩ := bS_ (show (fa as).bind _ = _ from e)
 cases e
 exact ⟨F, B, ad, as, p, as1, R, h1, λ v T' ad' H' R' rv g => q σ ad' H' R'.drop (g.trans (Grow.less Gw.drop))⟩)
theorem yf (he : AE X kd e fa) : ASt X kd (.Return (some e) pos) (yL fa) := by with_unfolding_all exact (vJ (zkF he) λ D σ H h => by
 obtain ⟨F, B, ad, as, o, R, e, q⟩ := h
 obtain ⟨⟨p, as1⟩, h1, e⟩ := bS_ (show (fa as).bind _ = _ from e)
 obtain ⟨r, h2, e⟩ := bS_ e
 cases e
 refine ⟨F, B, ad, as, p, as1, R, h1, λ v T' ad' H' R' rv g => ?_⟩
 obtain ⟨T2, ro, le⟩ := R'.ret rv h2
 exact q v T2 H' ro (g.trans (Grow.less le)))
theorem zlc {K : zC} {F B : Addr -> Prop} {T : List Addr} {ad : Ad} {as as2 : AS} {σ : St} {H : Hp} {v : V} {r : RV} {z : Bool} {o : O} {i : Nat} (R : Rel K kd F B T ad as σ H) (rv : vZ K kd F B T ad σ H v r)
 (h2 : toO as (if z = true then r.frz else r) = some (o, as2)) (hl : i < as2.length) : ∃ ad', Rel K kd F B [] ad' (as2.set i (some o)) (σ.set i (some v)) H /\ ∀ a, Gw [] ad' a -> Gw T ad a := by
 cases z with
 | true =>
  obtain ⟨ad1, R1, ro, le⟩ := zdC R.drop (vZ.drop R rv) h2
  exact ⟨_, R1.put hl ro, λ a y => Gw.drop a (le a (XX a y))⟩
 | false =>
  obtain ⟨ad1, R1, ro, le⟩ := zdC R rv h2
  exact ⟨_, R1.put hl ro, λ a y => le a (XX a y)⟩
theorem zoM {z : Bool} {i : Nat} {x : Str} {pos' : Pos} (hN : X.N.Nodup) (hi : X.N[i]? = some x) (hx : Loc X.env.scope x) (he : AE X kd e fa) (hs : swapsWith e (some (.Name x pos')) pos.line X.env = pure false) (hf : X.fn x = true \/ X.env.scope.names.lookup x = some .local) :
 ASt X kd (.Assign [.Name x pos'] e pos) (zR z i fa) := by with_unfolding_all exact (vJ (zjY hN hi hx he hs hf) λ D σ H h => by
 obtain ⟨F, B, ad, as, o, R, e, q⟩ := h
 obtain ⟨⟨p, as1⟩, h1, e⟩ := bS_ (show (fa as).bind _ = _ from e)
 obtain ⟨⟨y, as2⟩, h2, e⟩ := bS_ e
 obtain ⟨hl, e⟩ := yc e
 cases e
 refine ⟨F, B, ad, as, p, as1, R, h1, λ v T' ad' H' R' rv g => ?_⟩
 obtain ⟨ad2, R2, le⟩ := zlc R' rv h2 hl
 exact q _ ad2 H' R2 (g.trans (Grow.less le)))
end
def Yt (n : Nat) (ds : List (Bool × D)) : AS := ds.map (λ x => some (.lf x.1 x.2)) ++ List.replicate (n - ds.length) none
def zro : Out -> Option O
 | .nx _ => some (.lf true .non)
 | .rt o => some o
 | _ => none
def fnR (n m : Nat) (f : SF) (ds : List (Bool × D)) : Option O := if ds.length = m then (f (Yt n ds)).bind zro else none
theorem RpA.get {K : zC} {kd : KD} {F : Addr -> Prop} {H : Hp} : ∀ {vs : List V} {ds : List (Bool × D)} {i : Nat} {x : Bool × D}, RpA K kd F H vs ds -> ds[i]? = some x -> ∃ v, vs[i]? = some v /\ Rp K kd (λ a => x.1 = true /\ F a) H v x.2
 | _, _, _, _, .nil, e => by simp at e
 | _, _, 0, _, .cons h _, e => by simp at e; subst e; exact ⟨_, rfl, h⟩
 | _, _, i + 1, _, .cons _ r, e => by
  obtain ⟨v, h1, h2⟩ := RpA.get (i := i) r (by simpa using e)
  exact ⟨v, by simpa using h1, h2⟩
theorem zjy {K : zC} {kd : KD} {F : Addr -> Prop} {H : Hp} {N : List Str} {vs : List V} {ds : List (Bool × D)} (ht : ∀ a, F a -> H a ≠ none) (rp : RpA K kd F H vs ds) :
 Rel K kd F (λ _ => False) [] (λ _ => []) (Yt N.length ds) (L2.start N vs) H := by
 have hl := rp.length
 have no : ∀ a, ¬ Gw [] (λ _ => []) a := λ a z => z.elim (λ y => nomatch y) λ ⟨_, y⟩ => nomatch y
 refine ⟨by unfold Yt L2.start; simp [hl], λ _ _ => rfl, λ _ => List.nodup_nil, (λ _ _ _ z => nomatch z), List.nodup_nil, (λ _ _ _ z => nomatch z), ht, (λ _ z => z.elim), λ a z => (no a z).elim, λ i s e => ?_⟩
 unfold Yt at e
 unfold L2.start
 by_cases hi : i < ds.length
 · rw [List.getElem?_append_left (by rw [zD]; exact hi), zzG] at e
   obtain ⟨d, hd, ea⟩ := zzV.mp e
   subst ea
   obtain ⟨v, hv, rv⟩ := rp.get hd
   rw [List.getElem?_append_left (by rw [zD, hl]; exact hi), zzG, hv]
   refine ⟨v, rfl, .lf (rv.less λ a z => ?_)⟩
   rcases z with (z | z) | z
   · exact z
   · exact z.elim
   · exact (no a z).elim
 · rw [List.getElem?_append_right (by rw [zD]; omega)] at e
   have := List.mem_of_getElem? e
   have ea : s = none := (List.mem_replicate.mp this).2
   subst ea
   rfl
section
variable {P : Program} {w : World} {K : zC} {mg : Str -> Option Value} {base : Heap}
theorem zkd {kd : KD} {F : Addr -> Prop} {H H' : Hp} {Q : VK} {o : O} {v : V} {T : List Addr} (q : RQO K kd F H Q o) (ro : RetOk K kd F T H' v o) (g : Grow (Gw [] λ _ => []) H (· ∈ T) H') : Q v H' := by
 have no : ∀ a, ¬ Gw [] (λ _ => []) a := λ a z => z.elim (λ y => nomatch y) λ ⟨_, y⟩ => nomatch y
 exact q v T H' ro.nd (λ a m => (g.own a m).resolve_left (no a)) (λ b u h => g.keep b u h (no b)) ro.tr ro.ro
theorem wA {kd : KD} {x qual : Str} {st : Stmt} {f : Addr} {fd : FuncData} {N ps : List Str} {k : Nat} {c : SF} (Fn : Fun K x qual st f fd) (S : FnScope N ps (zE st))
 (hb : ∀ (cdv : Value) (A : Around) (outer : List Env) (s : Shared) (H : Hp) (E : XK), Room k (A.deeper (envOfC qual (zE st) s.heap.objs.size f cdv)) -> ASs (zhJ CX0 P w K mg base N qual (zE st) f cdv A outer s H E).nox kd (zaL st) c) :
 FnOk P w K mg base CX0 (k + 1) f fd ps (spD K kd (fnR N.length ps.length c)) := by
 with_unfolding_all (
 refine Fn.ok S (λ vs H Q E h => ?_) (λ cdv A outer s H vs Q E hr h => ⟨_, hb cdv A outer s H E hr, ?_⟩)
 · obtain ⟨F, ds, r, _, rp, e, _⟩ := h
   unfold fnR at e
   by_cases hl : ds.length = ps.length
   · rw [rp.length, hl]
   · rw [if_neg hl] at e; cases e
 · obtain ⟨F, ds, r, ht, rp, e, q⟩ := h
   unfold fnR at e
   by_cases hl : ds.length = ps.length
   · rw [if_pos hl] at e
     obtain ⟨o, e1, e⟩ := bS_ e
     refine ⟨F, λ _ => False, λ _ => [], Yt N.length ds, o, zjy ht rp, e1, ?_⟩
     cases o with
     | nx as => cases e; exact λ σ' ad' H' R g => zkd q (T := []) ⟨List.nodup_nil, (λ _ m => nomatch m), .lf .non⟩ (g.trans (Grow.less (λ _ z => nomatch z)))
     | rt o => cases e; exact λ v T H' ro g => zkd q ro g
     | bk => cases e
     | ct => cases e
   · rw [if_neg hl] at e; cases e)
end
abbrev It1 := Bool × D
abbrev GF := It1 -> AS -> Option AS
abbrev GFs := List It1 -> AS -> Option AS
def kids (st : Bool) (ds : List D) : List It1 := ds.map λ d => (yt d || st, d)
inductive RpI (K : zC) (kd : KD) (F B G : Addr -> Prop) (H : Hp) : List V -> List It1 -> Prop
 | nil : RpI K kd F B G H [] []
 | cons {v : V} {x : It1} {vs : List V} {ds : List It1} : Rp K kd (Lv F B G x.1) H v x.2 -> RpI K kd F B G H vs ds -> RpI K kd F B G H (v :: vs) (x :: ds)
def alG (K : zC) (kd : KD) (S : List Nat) (g : GF) : TG := λ v σ H Q => ∃ F B ad as x as', Rel K kd F B [] ad as σ H /\ Rp K kd (Lv F B (Gw [] ad) x.1) H v x.2 /\ g x as = some as' /\
 ∀ σ' ad' H', Rel K kd F B [] ad' as' σ' H' -> Grow (Gw [] ad) H (Gw [] ad') H' -> (∀ j, j ∉ S -> σ'[j]? = σ[j]?) -> Q σ' H'
def zqH (K : zC) (kd : KD) (S : List Nat) (g : GFs) : TGs := λ vs σ H Q => ∃ F B ad as ds as', Rel K kd F B [] ad as σ H /\ RpI K kd F B (Gw [] ad) H vs ds /\ g ds as = some as' /\
 ∀ σ' ad' H', Rel K kd F B [] ad' as' σ' H' -> Grow (Gw [] ad) H (Gw [] ad') H' -> (∀ j, j ∉ S -> σ'[j]? = σ[j]?) -> Q σ' H'
@[irreducible] def AG (X : Cx) (kd : KD) (tg : Expr) (S : List Nat) (g : GF) : Prop := PG X tg (alG X.K kd S g)
@[irreducible] def AGs (X : Cx) (kd : KD) (tg : List Expr) (S : List Nat) (g : GFs) : Prop := PGs X tg (zqH X.K kd S g)
theorem zoO {X : Cx} {e : Expr} {t t' : TG} (h : PG X e t) (k : ∀ v σ H Q, t' v σ H Q -> t v σ H Q) : PG X e t' := λ pins s σ H v u Q I r q => h pins s σ H v u Q I r (k v σ H Q q)
theorem zjb {X : Cx} {e : List Expr} {t t' : TGs} (h : PGs X e t) (k : ∀ v σ H Q, t' v σ H Q -> t v σ H Q) : PGs X e t' := λ pins s σ H v u Q I r q => h pins s σ H v u Q I r (k v σ H Q q)
def gN (i : Nat) : GF := λ x as => if i < as.length then some (as.set i (some (.lf x.1 x.2))) else none
def gsN : GFs := λ ds as => match ds with | [] => some as | _ :: _ => none
def gsC (g : GF) (gs : GFs) : GFs := λ ds as => match ds with | [] => none | d :: r => (g d as).bind λ as1 => gs r as1
def gT (n : Nat) (gs : GFs) : GF := λ x as => match x.2 with
 | .tup ds => if ds.length = n then gs (kids x.1 ds) as else none
 | .lst ds => if ds.length = n then gs (kids x.1 ds) as else none
 | _ => none
section
variable {K : zC} {kd : KD} {F B G G' : Addr -> Prop} {H H' : Hp}
theorem RpI.length {vs : List V} {ds : List It1} (h : RpI K kd F B G H vs ds) : vs.length = ds.length := by
 induction h with
 | nil => rfl
 | cons _ _ ih => exact congrArg (· + 1) ih
theorem RpI.grow (g : Grow G H G' H') {vs : List V} {ds : List It1} (h : RpI K kd F B G H vs ds) : RpI K kd F B G' H' vs ds := by
 induction h with
 | nil => exact .nil
 | cons h _ ih => exact .cons (Rp.grow g h) ih
theorem RpI.get {vs : List V} {ds : List It1} {i : Nat} {x : It1} (h : RpI K kd F B G H vs ds) (e : ds[i]? = some x) : ∃ v, vs[i]? = some v /\ Rp K kd (Lv F B G x.1) H v x.2 := by
 induction h generalizing i with
 | nil => simp at e
 | cons h r ih =>
  cases i with
  | zero => simp at e; subst e; exact ⟨_, rfl, h⟩
  | succ i =>
   obtain ⟨v, h1, h2⟩ := ih (i := i) (by simpa using e)
   exact ⟨v, by simpa using h1, h2⟩
theorem VH {st : Bool} {vs : List V} {ds : List D} (h : RpL K kd (Lv F B G st) H vs ds) : RpI K kd F B G H vs (kids st ds) :=
 RpL.ind (P := λ vs ds => RpI K kd F B G H vs (kids st ds)) .nil (λ {v d vs ds} h _ ih => by
  refine .cons (x := (yt d || st, d)) ?_ ih
  cases e : yt d with
  | true => exact h.flat e
  | false => exact h) h
end
section
variable {prog : Program} {w : World} {A : Around} {E : Value -> Shared -> Prop} {s : Shared}
theorem zfp {it l : Addr} {items : Array Value} (hne : l ≠ it) : ∀ (n i : Nat) (s : Shared) (Q : List Value -> Shared -> Prop), s.heap.IsListIter it l i -> s.heap.IsList l items -> i + n <= items.size ->
 (∀ h', h'.IsListIter it l (i + n) -> Heap.SameBut it s.heap h' -> Q ((items.toList.drop i).take n) { s with heap := h' }) -> wpAny (model prog w) A (draw (.ref it) n) Q E s
 | 0, i, s, Q, hit, _, _, hQ => by
  show wpAny _ _ (pure []) Q E s
  exact wpAny_pure (by simpa using hQ s.heap hit (Heap.SameBut.refl ..))
 | n + 1, i, s, Q, hit, ht, hle, hQ => by
  have hlt : i < items.size := by omega
  show wpAny _ _ (pyNext (.ref it) >>= _) Q E s
  refine wpAny_bind (wpAny_pyNext_list_item hit ht (x := items[i]) (by simp [hlt]) λ h₁ hit₁ hs₁ => ?_)
  refine wpAny_bind (wpAny_holding (zfp hne n (i + 1) _ _ hit₁ (ht.extBut hs₁.extBut hne) (by omega) λ h₂ hit₂ hs₂ => wpAny_pure ?_))
  have hd : items.toList.drop i = items[i] :: items.toList.drop (i + 1) := by simp [List.drop_eq_getElem_cons, hlt]
  have := hQ h₂ (by rw [show i + (n + 1) = i + 1 + n by omega]; exact hit₂) (hs₁.trans hs₂)
  rw [hd, List.take_succ_cons] at this
  exact this
theorem zhj {l : Addr} {items : Array Value} {targets : List (Bool × (Value -> Sem Unit))} {Q : Unit -> Shared -> Prop} (hh : A.handled = none) (ht : s.heap.IsList l items)
 (hn : targets.length = items.size) (hstar : targets.findIdx? (·.1) = none)
 (h : ∀ h', Heap.ExtBut s.heap.objs.size s.heap h' -> wpAny (model prog w) A (assignInOrder (targets.map (·.2)) items.toList) Q E { s with heap := h' }) :
 wpAny (model prog w) A (unpack (.ref l) targets) Q E s := by
 unfold unpack
 rw [hn, hstar]
 refine wpAny_bind (wpAny_holding ?_)
 have hlt : l ≠ s.heap.objs.size := by obtain ⟨o, ho, _⟩ := ht; exact zzO (Heap.lt_size ho)
 unfold unpackItems
 refine wpAny_bind ?_
 unfold notIterableAtAll
 refine wpAny_bind (wpAny_specialOf ht.typeIs PySem.F.slot_list_iter.lookup ?_)
 refine wpAny_pure ?_
 simp only [Bool.false_eq_true, if_false]
 refine wpAny_bind (wpAny_holding (wpAny_pyIter_list ht ?_))
 refine wpAny_bind (wpAny_holding (zfp hlt items.size 0 _ _ ⟨_, Heap.get?_push_size _ rfl, rfl, rfl⟩ (ht.push _) (by omega) λ h₁ hit₁ hs₁ => ?_))
 have hall : List.take items.size (List.drop 0 items.toList) = items.toList := by
  rw [List.drop_zero]; exact List.take_of_length_le (by simp)
 rw [hall]
 rw [if_neg (by simp)]
 have ht₁ : h₁.IsList l items := (ht.push _).extBut hs₁.extBut hlt
 refine wpAny_bind (wpAny_holding (wpAny_pyNext_list_end hh hit₁ ht₁ (by simp) λ h₂ he₂ => ?_))
 simp only [Option.isSome_none, Bool.false_eq_true, if_false]
 exact wpAny_pure (h h₂ λ b o hb e => he₂ b o hb (hs₁.extBut b o hb (Heap.get?_push_of_some _ e)))
end
section
variable {X : Cx} {kd : KD} {a b c e tg iter : Expr} {es : List Expr} {body : List Stmt} {fa fb : EF} {pos : Pos} {g : GF} {gs : GFs} {f : SF} {ta : TF} {S S1 S2 : List Nat}
def zqP (K : zC) (n : Nat) (t : TGs) : TG := λ v σ H Q => ∃ a xs, v = .ref a /\ SqL K H a xs /\ xs.length = n /\ t xs σ H Q
theorem zkI {es : List Expr} {k : Nat} {t : TGs} {n : Nat} (hc : X.calm = true) (h : PGs X es t) (hn : (assignEach es X.env).length = n) (hst : (assignEach es X.env).findIdx? (·.1) = none) : PG X (.Tuple es k pos) (zqP X.K n t) := by
 intro pins s σ H v u Q I r hw
 obtain ⟨a, xs, e1, hq, hl, hw⟩ := hw
 subst e1
 cases r
 obtain ⟨its, rv, ht, hz⟩ := I.list hq
 rw [assign_Tuple]
 refine wpAny_bind (wpAny_standAt (zhj (I.ok.hd hc) ht.isList (by simp [hn, <- hl, rv.length]) hst λ h' hx => ?_))
 have I1 : Inv X pins σ H { s with heap := h' } := I.kept (t' := s.toks) λ b o e => hx b o (zzO (Heap.lt_size e)) e
 exact h pins _ σ H xs _ Q I1 (by simpa using rv) hw
theorem zlJ {i : Nat} {x : Str} (hN : X.N.Nodup) (hi : X.N[i]? = some x) (hx : Loc X.env.scope x) (hf : X.fn x = true \/ X.env.scope.names.lookup x = some .local) : AG X kd (.Name x pos) [i] (gN i) := by with_unfolding_all exact (zoO (Yk hN hi hx hf) λ v σ H Q h => by
 obtain ⟨F, B, ad, as, y, as', R, rp, e, q⟩ := h
 obtain ⟨hl, e⟩ := yc e
 cases e
 exact q _ _ H (R.put hl (o := .lf y.1 y.2) (.lf rp)) (Grow.less XX) λ j hj => zzW (λ z => hj (by rw [z]; simp)))
theorem vY : AGs X kd [] [] gsN := by with_unfolding_all exact (zjb zfF λ vs σ H Q h => by
 obtain ⟨F, B, ad, as, ds, as', R, rp, e, q⟩ := h
 cases rp with
 | nil => cases e; exact ⟨rfl, q σ ad H R Grow.refl λ _ _ => rfl⟩
 | cons => cases e)
theorem zX (h1 : AG X kd a S1 g) (h2 : AGs X kd es S2 gs) (hs : (assignEach (a :: es) X.env).map (·.2) = assign a X.env :: (assignEach es X.env).map (·.2)) : AGs X kd (a :: es) (S1 ++ S2) (gsC g gs) := by with_unfolding_all exact (zjb (v9 h1 h2 hs) λ vs σ H Q h => by
 obtain ⟨F, B, ad, as, ds, as', R, rp, e, q⟩ := h
 cases rp with
 | nil => cases e
 | cons r rr =>
  obtain ⟨as1, e1, e⟩ := bS_ (show (g _ as).bind _ = _ from e)
  refine ⟨_, _, rfl, F, B, ad, as, _, as1, R, r, e1, λ σ' ad' H' R' g' k' => ?_⟩
  exact ⟨F, B, ad', as1, _, as', R', rr.grow g', e, λ σ2 ad2 H2 R2 g2 k2 => q σ2 ad2 H2 R2 (g'.trans g2) λ j hj => (k2 j λ z => hj (zzJ _ z)).trans (k' j λ z => hj (zzN _ z))⟩)
theorem Z2 {k n : Nat} (hc : X.calm = true) (h : AGs X kd es S gs) (hn : (assignEach es X.env).length = n) (hst : (assignEach es X.env).findIdx? (·.1) = none) : AG X kd (.Tuple es k pos) S (gT n gs) := by
 with_unfolding_all (
 intro pins s σ H v u Q I r hw
 obtain ⟨F, B, ad, as, ⟨st, d⟩, as', R, rp, e, q⟩ := hw
 cases d with
 | tup ds =>
  have e : (if ds.length = n then gs (kids st ds) as else none) = some as' := e
  by_cases hl : ds.length = n
  · rw [if_pos hl] at e
    have go : ∃ a xs, v = .ref a /\ SqT X.K H a xs /\ RpL X.K kd (Lv F B (Gw [] ad) st) H xs ds := by
     cases rp with
     | tup n h r => exact ⟨_, _, rfl, .inl h, r⟩
     | tupK a b c e f r => exact ⟨_, _, rfl, .inr ⟨_, _, _, a, b, c, e, f⟩, r⟩
    obtain ⟨a, xs, rfl, hs, rl⟩ := go
    exact zie hc h hn hst pins s σ H _ u Q I r ⟨a, xs, rfl, hs, by rw [rl.length, hl], F, B, ad, as, _, as', R, VH rl, e, q⟩
  · rw [if_neg hl] at e; cases e
 | lst ds =>
  have e : (if ds.length = n then gs (kids st ds) as else none) = some as' := e
  by_cases hl : ds.length = n
  · rw [if_pos hl] at e
    cases rp with
    | lstK a b c r' => exact zkI hc h hn hst pins s σ H _ u Q I r ⟨_, _, rfl, .inr ⟨_, _, _, a, rfl, rfl, rfl, b, c⟩, by rw [r'.length, hl], F, B, ad, as, _, as', R, VH r', e, q⟩
    | lst n h' r' => exact zkI hc h hn hst pins s σ H _ u Q I r ⟨_, _, rfl, .inl h', by rw [r'.length, hl], F, B, ad, as, _, as', R, VH r', e, q⟩
  · rw [if_neg hl] at e; cases e
 | _ => cases e)
def zdM (as : AS) (r : RV) : Option (It1 × AS) := (toO as r.frz).bind λ x => match x.1 with | .lf st d => some ((st, d), x.2) | _ => none
theorem zbV {K : zC} {F B : Addr -> Prop} {T : List Addr} {ad : Ad} {as as' : AS} {σ : St} {H : Hp} {v : V} {r : RV} {x : It1} (R : Rel K kd F B T ad as σ H) (h : vZ K kd F B T ad σ H v r) (e : zdM as r = some (x, as')) :
 ∃ ad', Rel K kd F B [] ad' as' σ H /\ Rp K kd (Lv F B (Gw [] ad') x.1) H v x.2 /\ ∀ a, Gw [] ad' a -> Gw T ad a := by
 obtain ⟨⟨o, as1⟩, h1, e⟩ := bS_ e
 obtain ⟨ad1, R1, ro, le⟩ := zdC R.drop (vZ.drop R h) h1
 cases o with
 | lf st d =>
  cases e
  refine ⟨ad1, R1, ?_, λ a y => Gw.drop a (le a y)⟩
  have := zge ro
  exact this
 | nd k os => cases e
def zcJ (f : EF) (g : GF) : SF := λ as => (f as).bind λ p => (zdM p.2 p.1).bind λ q => (g q.1 q.2).bind λ as' => some (.nx as')
theorem zbD (he : AE X kd e fa) (hg : AG X kd tg S g) (hs : swapsWithSole [tg] e pos.line X.env = pure false) (hw : swappedStores [tg] e X.env = pure none) (h1 : (assignEach [tg] X.env).map (·.2) = [assign tg X.env]) :
 ASt X kd (.Assign [tg] e pos) (zcJ fa g) := by with_unfolding_all exact (vJ (WM he hg hs hw h1) λ D σ H h => by
 obtain ⟨F, B, ad, as, o, R, e, q⟩ := h
 obtain ⟨⟨p, as1⟩, h1, e⟩ := bS_ (show (fa as).bind _ = _ from e)
 obtain ⟨⟨x, as2⟩, h2, e⟩ := bS_ e
 obtain ⟨as3, h3, e⟩ := bS_ e
 cases e
 refine ⟨F, B, ad, as, p, as1, R, h1, λ v T' ad' H' R' rv g1 => ?_⟩
 obtain ⟨ad2, R2, rp, le⟩ := zbV R' rv h2
 exact ⟨F, B, ad2, as2, _, as3, R2, rp, h3, λ σ' ad' H' R' g' _ => q σ' ad' H' R' ((g1.trans (Grow.less le)).trans g')⟩)
structure ItOk (K : zC) (kd : KD) (F B : Addr -> Prop) (ad : Ad) (H : Hp) (J : It) (ds : List It1) : Prop where
 all : ∀ (ad2 : Ad) (H2 : Hp), Grow (Gw [] ad) H (Gw [] ad2) H2 -> (∀ st a, Lv F B (Gw [] ad2) st a -> H2 a ≠ none) -> ∀ i, (i < ds.length -> J.go i H2) /\ (ds.length <= i -> J.stop i H2) /\
  ∀ v H3, J.yld i H2 v H3 -> (∀ b o, H2 b = some o -> H3 b = some o) /\ ∀ x, ds[i]? = some x -> Rp K kd (Lv F B (Gw [] ad2) x.1) H3 v x.2
abbrev IF := AS -> Option (List It1 × AS)
def alI (K : zC) (kd : KD) (f : IF) : TI := λ σ H R => ∃ F B ad as ds as', Rel K kd F B [] ad as σ H /\ f as = some (ds, as') /\
 ∀ J ad' H', Rel K kd F B [] ad' as' σ H' -> Grow (Gw [] ad) H (Gw [] ad') H' -> ItOk K kd F B ad' H' J ds -> R J H'
@[irreducible] def AI (X : Cx) (kd : KD) (tg iter : Expr) (f : IF) : Prop := PI X tg iter (alI X.K kd f)
def forL (g : GF) (f : SF) : List It1 -> AS -> Option Out
 | [], as => some (.nx as)
 | d :: r, as => (g d as).bind λ as1 => (f as1).bind λ o => match o with
  | .nx as' => forL g f r as'
  | .ct as' => forL g f r as'
  | .bk as' => some (.nx as')
  | .rt r => some (.rt r)
def wy (fi : IF) (g : GF) (f : SF) : SF := λ as => (fi as).bind λ p => forL g f p.1 p.2
theorem yQ {fi : IF} (hp : PassesOwn (model X.prog X.w) X.A X.env X.xe) (hc : X.calm = true) (hi : AI X kd tg iter fi) (hg : AG X kd tg S g) (hb : ASs X kd body f) (hs : ∀ x, foldedSetIterable iter X.env x = pure x) :
 ASt X kd (.For tg iter body [] pos) (wy fi g f) := by with_unfolding_all exact (vJ (zhR hp hc hi hg hb hs) λ D σ H h => by
 obtain ⟨F, B, ad, as, o, R, e, q⟩ := h
 obtain ⟨⟨ds, as1⟩, h1, e⟩ := bS_ (show (fi as).bind _ = _ from e)
 refine ⟨F, B, ad, as, ds, as1, R, h1, λ J ad1 H1 R1 g1 it => ?_⟩
 refine ⟨λ i m σ2 H2 => m + i = ds.length /\ ∃ ad2 as2, Rel X.K kd F B [] ad2 as2 σ2 H2 /\ Grow (Gw [] ad1) H1 (Gw [] ad2) H2 /\ forL g f (ds.drop i) as2 = some o, ⟨ds.length, rfl, ad1, as1, R1, Grow.refl, e⟩, ?_⟩
 rintro i m σ2 H2 ⟨hm, ad2, as2, R2, g2, e2⟩
 obtain ⟨k1, k2, k3⟩ := it.all ad2 H2 g2 R2.trk i
 by_cases hi : i < ds.length
 · refine .inr ⟨k1 hi, λ σ3 H3 => ∃ ad3 as3, Rel X.K kd F B [] ad3 as3 σ3 H3 /\ Grow (Gw [] ad1) H1 (Gw [] ad3) H3 /\ forL g f (ds.drop (i + 1)) as3 = some o, λ σ3 H3 ⟨ad3, as3, R3, g3, e3⟩ => ⟨m - 1, by omega, by omega, ad3, as3, R3, g3, e3⟩, λ v H3 hy => ?_⟩
   obtain ⟨kp, rp⟩ := k3 v H3 hy
   rw [List.drop_eq_getElem_cons hi] at e2
   obtain ⟨as3, e3, e2⟩ := bS_ (show (g _ as2).bind _ = _ from e2)
   obtain ⟨o3, e4, e2⟩ := bS_ e2
   obtain ⟨R3, g3⟩ := R2.more kp
   refine ⟨F, B, ad2, as2, _, as3, R3, rp _ (zzC hi), e3, λ σ4 ad4 H4 R4 g4 _ => ?_⟩
   refine ⟨F, B, ad4, as3, o3, R4, e4, ?_⟩
   have gg := (g2.trans g3).trans g4
   cases o3 with
   | nx as5 => exact λ σ5 ad5 H5 R5 g5 => ⟨ad5, as5, R5, gg.trans g5, e2⟩
   | ct as5 => exact λ σ5 ad5 H5 R5 g5 => ⟨ad5, as5, R5, gg.trans g5, e2⟩
   | bk as5 =>
    cases e2
    exact λ σ5 ad5 H5 R5 g5 => q σ5 ad5 H5 R5 (g1.trans (gg.trans g5))
   | rt r =>
    cases e2
    exact λ v T H5 ro g5 => q v T H5 ro (g1.trans (gg.trans g5))
 · refine .inl ⟨k2 (by omega), ?_⟩
   rw [List.drop_eq_nil_of_le (by omega)] at e2
   cases e2
   exact q σ2 ad2 H2 R2 (g1.trans g2))
def whL (c : TF) (f : SF) : Nat -> AS -> Option Out
 | 0, _ => none
 | n + 1, as => (c as).bind λ p => if p.1 = true then (f p.2).bind λ o => match o with
  | .nx as' => whL c f n as'
  | .ct as' => whL c f n as'
  | .bk as' => some (.nx as')
  | .rt r => some (.rt r) else some (.nx p.2)
theorem zlf {n : Nat} (hp : PassesOwn (model X.prog X.w) X.A X.env X.xe) (hc : AT X kd c ta) (hb : ASs X kd body f) : ASt X kd (.While c body [] pos) (whL ta f n) := by with_unfolding_all exact (vJ (zlD hp hc hb) λ D σ H h => by
 obtain ⟨F, B, ad, as, o, R, e, q⟩ := h
 refine ⟨λ m σ2 H2 => ∃ ad2 as2, Rel X.K kd F B [] ad2 as2 σ2 H2 /\ Grow (Gw [] ad) H (Gw [] ad2) H2 /\ whL ta f m as2 = some o, ⟨n, ad, as, R, Grow.refl, e⟩, ?_⟩
 rintro m σ2 H2 ⟨ad2, as2, R2, g2, e2⟩
 cases m with
 | zero => cases e2
 | succ m =>
  obtain ⟨⟨p, as3⟩, e3, e2⟩ := bS_ (show (ta as2).bind _ = _ from e2)
  refine ⟨F, B, ad2, as2, p, as3, R2, e3, λ ad3 H3 R3 g3 => ?_⟩
  cases p with
  | true =>
   rw [if_pos rfl] at e2 ⊢
   obtain ⟨o3, e4, e2⟩ := bS_ e2
   refine ⟨λ σ3 H3 => ∃ ad3 as3, Rel X.K kd F B [] ad3 as3 σ3 H3 /\ Grow (Gw [] ad) H (Gw [] ad3) H3 /\ whL ta f m as3 = some o, λ σ3 H3 h => ⟨m, by omega, h⟩, F, B, ad3, as3, o3, R3, e4, ?_⟩
   have gg := g2.trans g3
   cases o3 with
   | nx as5 => exact λ σ5 ad5 H5 R5 g5 => ⟨ad5, as5, R5, gg.trans g5, e2⟩
   | ct as5 => exact λ σ5 ad5 H5 R5 g5 => ⟨ad5, as5, R5, gg.trans g5, e2⟩
   | bk as5 =>
    cases e2
    exact λ σ5 ad5 H5 R5 g5 => q σ5 ad5 H5 R5 (gg.trans g5)
   | rt r =>
    cases e2
    exact λ v T H5 ro g5 => q v T H5 ro (gg.trans g5)
  | false =>
   rw [if_neg Bool.false_ne_true] at e2 ⊢
   cases e2
   exact q σ2 ad3 H3 R3 (g2.trans g3))
def zgQ : It1 -> Option (List It1)
 | (st, .lst ds) => some (kids st ds)
 | (st, .tup ds) => some (kids st ds)
 | _ => none
def zfz (f : EF) : IF := λ as => (f as).bind λ p => (zdM p.2 p.1).bind λ q => (zgQ q.1).bind λ ds => some (ds, q.2)
theorem ziS {K : zC} {F B : Addr -> Prop} {ad : Ad} {H : Hp} {a : Addr} {vs : List V} {ds : List It1} (hs : ∀ (ad3 : Ad) (H3 : Hp), Grow (Gw [] ad) H (Gw [] ad3) H3 -> SqL K H3 a vs) (r : RpI K kd F B (Gw [] ad) H vs ds) : ItOk K kd F B ad H (Itl K a) ds := ⟨λ ad3 H3 g3 _ i => by
 have hr3 := hs ad3 H3 g3
 have rl3 := r.grow g3
 refine ⟨λ hi => ?_, λ hi => ⟨_, hr3, by rw [r.length]; exact hi⟩, λ v H4 hy => ?_⟩
 · obtain ⟨u, hu, _⟩ := r.get (zzC hi)
   exact ⟨_, u, hr3, hu⟩
 · obtain ⟨rfl, hv⟩ := hy
   refine ⟨λ _ _ z => z, λ d hd => ?_⟩
   obtain ⟨u, hu, ru⟩ := rl3.get hd
   have := hv _ hr3
   rw [hu] at this
   cases this
   exact ru⟩
theorem znN {K : zC} {F B : Addr -> Prop} {ad : Ad} {H : Hp} {a : Addr} {vs : List V} {ds : List It1} (hs : ∀ (ad3 : Ad) (H3 : Hp), Grow (Gw [] ad) H (Gw [] ad3) H3 -> SqT K H3 a vs) (r : RpI K kd F B (Gw [] ad) H vs ds) : ItOk K kd F B ad H (Itt K a) ds := ⟨λ ad3 H3 g3 _ i => by
 have hr3 := hs ad3 H3 g3
 have rl3 := r.grow g3
 refine ⟨λ hi => ?_, λ hi => ⟨_, hr3, by rw [r.length]; exact hi⟩, λ v H4 hy => ?_⟩
 · obtain ⟨u, hu, _⟩ := r.get (zzC hi)
   exact ⟨_, u, hr3, hu⟩
 · obtain ⟨rfl, hv⟩ := hy
   refine ⟨λ _ _ z => z, λ d hd => ?_⟩
   obtain ⟨u, hu, ru⟩ := rl3.get hd
   have := hv _ hr3
   rw [hu] at this
   cases this
   exact ru⟩
theorem zgt (he : AE X kd e fa) : AI X kd tg e (zfz fa) := by
 with_unfolding_all (
 intro pins s σ H R I h
 obtain ⟨F, B, ad, as, ds, as', Rl, e, q⟩ := h
 obtain ⟨⟨p, as1⟩, h1, e⟩ := bS_ (show (fa as).bind _ = _ from e)
 obtain ⟨⟨⟨st, x⟩, as2⟩, h2, e⟩ := bS_ e
 obtain ⟨ys, h3, e⟩ := bS_ e
 cases e
 cases x with
 | lst xs =>
  cases h3
  refine zde he pins s σ H R I ⟨F, B, ad, as, p, as1, Rl, h1, λ v T1 ad1 H1 R1 rv1 g1 => ?_⟩
  obtain ⟨ad2, R2, rp, le⟩ := zbV R1 rv1 h2
  cases rp with
  | lst hn hr rl => exact ⟨_, rfl, ⟨_, .inl hr⟩, q _ ad2 H1 R2 (g1.trans (Grow.less le)) (ziS (λ ad3 H3 g3 => .inl (VJ g3 (λ z => hn (.inr z)) hr)) (VH rl))⟩
  | lstK a b c rl => exact ⟨_, rfl, ⟨_, .inr ⟨_, _, _, a, rfl, rfl, rfl, b, c⟩⟩, q _ ad2 H1 R2 (g1.trans (Grow.less le)) (ziS (λ ad3 H3 g3 => .inr ⟨_, _, _, a, rfl, rfl, rfl, b, c⟩) (VH rl))⟩
 | tup xs =>
  cases h3
  refine zhH he pins s σ H R I ⟨F, B, ad, as, p, as1, Rl, h1, λ v T1 ad1 H1 R1 rv1 g1 => ?_⟩
  obtain ⟨ad2, R2, rp, le⟩ := zbV R1 rv1 h2
  have go : ∃ a ys, v = .ref a /\ (∀ (ad3 : Ad) (H3 : Hp), Grow (Gw [] ad2) H1 (Gw [] ad3) H3 -> SqT X.K H3 a ys) /\ RpL X.K kd (Lv F B (Gw [] ad2) st) H1 ys xs := by
   cases rp with
   | tup n h r => exact ⟨_, _, rfl, λ ad3 H3 g3 => .inl (VJ g3 (λ z => n (.inr z)) h), r⟩
   | tupK a b c e f r => exact ⟨_, _, rfl, λ ad3 H3 g3 => .inr ⟨_, _, _, a, b, c, e, f⟩, r⟩
  obtain ⟨a, ys, rfl, hs, rl⟩ := go
  exact ⟨_, rfl, ⟨_, hs ad2 H1 Grow.refl⟩, q _ ad2 H1 R2 (g1.trans (Grow.less le)) (znN hs (VH rl))⟩
 | _ => cases h3)
def wQ (lo : Int) (n : Nat) : List It1 := (List.range n).map λ (i : Nat) => (true, D.int (lo + (i : Int)))
theorem zoo {K : zC} {F B : Addr -> Prop} {ad : Ad} {H : Hp} (lo : Int) (n : Nat) : ItOk K kd F B ad H (Itr lo n) (wQ lo n) := ⟨λ ad2 H2 g _ i => by
 have hl : (wQ lo n).length = n := by unfold wQ; simp
 refine ⟨λ hi => by rw [hl] at hi; exact hi, λ hi => by rw [hl] at hi; exact hi, λ v H3 hy => ?_⟩
 obtain ⟨rfl, rfl⟩ := hy
 refine ⟨λ _ _ z => z, λ d hd => ?_⟩
 have hi : i < n := by rw [<- hl]; exact (zzE.mp hd).1
 unfold wQ at hd
 rw [zzG, List.getElem?_range hi] at hd
 cases hd
 exact .int _⟩
def zpR : List D -> Option D
 | [x] => some x
 | _ => none
theorem znb {ds : List D} {d : D} (h : zpR ds = some d) : ds = [d] := by
 cases ds with
 | nil => cases h
 | cons x r =>
  cases r with
  | nil => cases h; rfl
  | cons _ _ => cases h
def yD (ds : List D) : Option (List It1) := ((zpR ds).bind asI).bind λ j => if -(2 ^ 62) <= j /\ j < 2 ^ 62 then some (wQ 0 j.toNat) else none
theorem zje {ds : List D} {xs : List It1} (h : yD ds = some xs) : ∃ j, ds = [.int j] /\ (if -(2 ^ 62) <= j /\ j < 2 ^ 62 then some (wQ 0 j.toNat) else none) = some xs := by
 obtain ⟨j, h1, h⟩ := bS_ h
 obtain ⟨d, h2, h1⟩ := bS_ h1
 cases zgk h1
 exact ⟨j, znb h2, h⟩
def yE (fr : AF) (h : List D -> Option (List It1)) : IF := λ as => (fr as).bind λ p => (views p.2 p.1).bind λ ds => (h ds.1).bind λ xs => some (xs, p.2)
theorem yC {fr : AF} {p : Pos} (hg : Gl X "range") (hm : X.mg "range" = none) (ha : AA X kd [a] fr) (hs : starEach [a] X.env = [(false, eval a X.env)]) : AI X kd tg (.Call (.Name "range" p) [a] [] pos) (yE fr yD) := by
 with_unfolding_all (
 intro pins s σ H R I h
 obtain ⟨F, B, ad, as, ds, as', Rl, e, q⟩ := h
 obtain ⟨⟨ps, as1⟩, h1, e⟩ := bS_ (show (fr as).bind _ = _ from e)
 obtain ⟨⟨xs, lv⟩, h2, e⟩ := bS_ e
 obtain ⟨ys, h3, e⟩ := bS_ e
 cases e
 obtain ⟨j, rfl, h3⟩ := zje h3
 · obtain ⟨hj, e3⟩ := yc h3
   cases e3
   refine zfb hg hm ha hs pins s σ H R I ⟨F, B, ad, as, ps, _, Rl, h1, λ vs ad1 H1 R1 rv1 g1 => ?_⟩
   have vl := zbg R1 rv1 h2
   cases vl with
   | cons v1 v2 =>
    cases v2
    cases v1
    exact ⟨j, rfl, hj.1, hj.2, q _ ad1 H1 R1 g1 (zoo 0 _)⟩)
theorem Rel.mut {K : zC} {F B : Addr -> Prop} {T fo : List Addr} {ad : Ad} {as : AS} {σ : St} {H : Hp} {i : Nat} {l : Addr} {fp fp' : List Addr} {n : O} {u : HO} (R : Rel K kd F B T ad as σ H) (hi : i < as.length) (hl : ad i = l :: fp) (hs : σ[i]? = some (some (.ref l)))
 (hsub : ∀ a ∈ fp' ++ fo, a ∈ fp ++ T) (hnd : (fp' ++ fo).Nodup) (hu : H l ≠ none)
 (ro : ∀ (H' : Hp) (G' : Addr -> Prop), H' l = some u -> Grow (Gw T ad) H G' H' -> (∀ a ∈ fp', ∀ w, H a = some w -> H' a = some w) -> RoS K kd F B G' H' (.ref l) n (l :: fp')) :
 Rel K kd F B fo (yS ad i (l :: fp')) (as.set i (some n)) σ (upd H l u) /\ Grow (Gw T ad) H (Gw fo (yS ad i (l :: fp'))) (upd H l u) := by
 have hli : l ∈ ad i := by rw [hl]; exact zzD
 have lT : l ∉ T := R.dis i l hli
 have lfp : l ∉ fp := by have := R.nd i; rw [hl] at this; exact (zzU.mp this).1
 have lsub : ∀ a ∈ fp' ++ fo, a ≠ l := λ a m e => by
  subst e
  rcases zzK.mp (hsub _ m) with z | z
  · exact lfp z
  · exact lT z
 have sub : ∀ a ∈ fp' ++ fo, Gw T ad a := λ a m => by
  rcases zzK.mp (hsub a m) with z | z
  · exact .inr ⟨i, by rw [hl]; exact zzB _ z⟩
  · exact .inl z
 have gsub : ∀ a, Gw fo (yS ad i (l :: fp')) a -> Gw T ad a := λ a z => by
  rcases z with z | ⟨j, z⟩
  · exact sub a (zzJ _ z)
  · by_cases e : j = i
    · subst e
      rw [zH] at z
      rcases zzA.mp z with z | z
      · subst z; exact .inr ⟨j, hli⟩
      · exact sub a (zzN _ z)
    · rw [zA e] at z; exact .inr ⟨j, z⟩
 have g : Grow (Gw T ad) H (Gw fo (yS ad i (l :: fp'))) (upd H l u) := ⟨λ b w h n => by rw [yj (λ e => n (by subst e; exact .inr ⟨i, hli⟩))]; exact h, λ b z => .inl (gsub b z)⟩
 have kn : ∀ a, H a ≠ none -> upd H l u a ≠ none := λ a z => by
  by_cases e : a = l
  · subst e; rw [yW]; simp
  · rw [yj e]; exact z
 obtain ⟨hnd1, hnd2, hnd3⟩ := List.nodup_append.mp hnd
 have inT : ∀ j a, j ≠ i -> a ∈ ad j -> a ∈ fp' ++ fo -> False := λ j a hj m m' => by
  rcases zzK.mp (hsub a m') with z | z
  · exact hj (R.inj j i a m (by rw [hl]; exact zzB _ z))
  · exact R.dis j a m z
 refine ⟨⟨by rw [zzS]; exact R.len, λ j hj => ?_, λ j => ?_, λ j k a h1 h2 => ?_, hnd2, λ j a h1 h2 => ?_, λ a z => kn a (R.ftr a z), λ a z => ?_, λ a z => ⟨kn a (R.gtr a (gsub a z)).1, (R.gtr a (gsub a z)).2⟩, λ j s e => ?_⟩, g⟩
 · rw [zzS] at hj
   rw [zA (by omega)]; exact R.out j hj
 · by_cases e : j = i
   · subst e; rw [zH]
     exact zzU.mpr ⟨λ m => lsub l (zzN _ m) rfl, hnd1⟩
   · rw [zA e]; exact R.nd j
 · by_cases e : j = i
   · subst e
     by_cases e' : k = j
     · exact e'.symm
     · rw [zH] at h1
       rw [zA e'] at h2
       rcases zzA.mp h1 with z | z
       · subst z; exact R.inj j k a hli h2
       · exact (inT k a e' h2 (zzN _ z)).elim
   · rw [zA e] at h1
     by_cases e' : k = i
     · subst e'
       rw [zH] at h2
       rcases zzA.mp h2 with z | z
       · subst z; exact R.inj j k a h1 hli
       · exact (inT j a e h1 (zzN _ z)).elim
     · rw [zA e'] at h2
       exact R.inj j k a h1 h2
 · by_cases e : j = i
   · subst e
     rw [zH] at h1
     rcases zzA.mp h1 with z | z
     · subst z; exact lsub a (zzJ _ h2) rfl
     · exact hnd3 a z a h2 rfl
   · rw [zA e] at h1
     exact inT j a e h1 (zzJ _ h2)
 · obtain ⟨b1, b2, b3⟩ := R.btr a z
   exact ⟨kn a b1, b2, λ y => b3 (gsub a y)⟩
 · by_cases q : j = i
   · subst q
     rw [List.getElem?_set_self hi] at e
     cases e
     rw [zH]
     refine ⟨_, hs, ro _ _ yW g λ a m w h => ?_⟩
     rw [yj (lsub a (zzN _ m))]; exact h
   · rw [zzW (Ne.symm q)] at e
     rw [zA q]
     refine (R.sl j s e).grow g λ a m w h => ?_
     rw [yj (λ z => q (R.inj j i l (by rw [<- z]; exact m) hli))]; exact h
abbrev MG := List O -> List O -> Option (List O × O)
def wU (i : Nat) (fr : DF) (g : MG) : EF := λ as => match as[i]? with
 | some (some (.nd .ls _)) => (fr as).bind λ p => match p.2[i]? with
  | some (some (.nd .ls os)) => (g os p.1).bind λ z => some (.ow z.2, p.2.set i (some (.nd .ls z.1)))
  | _ => none
 | _ => none
def MuD (X : Cx) (kd : KD) (r : V -> List V -> Hp -> VK -> Prop) (g : MG) : Prop :=
 ∀ (F B G : Addr -> Prop) (l : Addr) (vs ws : List V) (os es os' : List O) (o : O) (fp fq : List Addr) (H : Hp) (Q : VK), H l = some (.lst vs) -> Yh X.K kd F B G H vs os fp -> Yh X.K kd F B G H ws es fq -> (fp ++ fq).Nodup -> g os es = some (os', o) ->
  (∀ v vs' fp' fo, Yh X.K kd F B G H vs' os' fp' -> RoS X.K kd F B G H v o fo -> (∀ a ∈ fp' ++ fo, a ∈ fp ++ fq) -> (fp' ++ fo).Nodup -> Q v (upd H l (.lst vs'))) -> r (.ref l) ws H Q
theorem zpY {i : Nat} {fr : DF} {g : MG} {r : V -> List V -> Hp -> VK -> Prop} (hr : MuD X kd r g)
 {σ : St} {H : Hp} {Q : VK} (h : al X.K kd (wU i fr g) σ H Q) : tBM X.K "list" r (Xh i) (alD X.K kd fr) σ H Q := by
 obtain ⟨F, B, ad, as, z, as', R, e, q⟩ := h
 unfold wU at e
 cases k : as[i]? with
 | none => rw [k] at e; cases e
 | some a0 =>
  rw [k] at e
  match a0, e, k with
  | some (.nd .ls os0), e, k =>
   obtain ⟨⟨es, as1⟩, h1, e⟩ := bS_ (show (fr as).bind _ = _ from e)
   obtain ⟨v0, hs0, ro0⟩ := R.sl i _ k
   generalize hfp0 : ad i = fp0 at ro0
   cases ro0 with
   | ls hH0 rl0 =>
   rename_i l vs0 fp00
   refine ⟨_, hs0, .inl ⟨rfl, _, .inl (.inl hH0)⟩, F, B, ad, as, es, as1, R, h1, λ ws T1 ad1 H1 R1 ro1 g1 => ?_⟩
   cases k2 : as1[i]? with
   | none => rw [k2] at e; cases e
   | some a2 =>
    rw [k2] at e
    match a2, e, k2 with
    | some (.nd .ls os), e, k2 =>
     obtain ⟨⟨os', o⟩, h3, e⟩ := bS_ (show (g os es).bind _ = _ from e)
     cases e
     obtain ⟨v1, hs1, ro2⟩ := R1.sl i _ k2
     rw [hs0] at hs1
     cases hs1
     generalize hfp : ad1 i = fp1 at ro2
     cases ro2 with
     | ls hH rl =>
     rename_i vs fp
     have hnd : (fp ++ T1).Nodup := List.nodup_append.mpr ⟨by have := R1.nd i; rw [hfp] at this; exact (zzU.mp this).2, R1.tnd, λ a m b m' e => by
          subst e; exact R1.dis i a (by rw [hfp]; exact zzB _ m) m'⟩
     refine hr F B (Gw T1 ad1) _ vs ws os es os' o fp T1 H1 Q hH rl ro1 hnd h3 λ v vs' fp' fo rl' ro' hsub hnd' => ?_
     obtain ⟨R3, g3⟩ := R1.mut (n := .nd .ls os') (u := .lst vs') (zzE.mp k2).1 hfp hs0 hsub hnd' (by rw [hH]; simp) λ H' G' hl' gr kp => .ls hl' (Yh.grow gr kp rl')
     have lno : ∀ a ∈ fo, ∀ w, H1 a = some w -> upd H1 l (.lst vs') a = some w := λ a m w h => by
          rw [yj (λ e => ?_)]
          · exact h
          · subst e
            rcases zzK.mp (hsub _ (zzJ _ m)) with z | z
            · have := R1.nd i; rw [hfp] at this; exact (zzU.mp this).1 z
            · exact R1.dis i _ (by rw [hfp]; exact zzD) z
     exact q v fo _ _ R3 (RoS.grow g3 lno ro') (g1.trans g3)
end
end PF
end
section
set_option exponentiation.threshold 5000
namespace PF
open PySem PySem.Spec PyProof.Rows L2
section
variable {K : zC} {kd : KD} {O : Addr -> Prop} {H : Hp} {Q : VK}
theorem yN {d : D} {v : V} (q : RQ K kd O H Q (.im d)) (r : Rp K kd O H v d) : Q v H := q v H (λ _ _ z => z) r
theorem ziX {vs : List V} {ds : List D} {p : Addr} {o : HO} (hp : H p = none) (r : RpL K kd O H vs ds) : RpL K kd (Un2 O (· = p)) (upd H p o) vs ds :=
 RpL.grow (F := O) (W := λ _ => False) ⟨λ b u q _ => by rw [yj (yV q hp)]; exact q, λ b z => .inr (by rw [z]; exact hp)⟩ (r.less λ a z => z.elim id False.elim)
theorem YB {p : Addr} {o : HO} (hp : H p = none) : ∀ b u, H b = some u -> upd H p o b = some u := λ b u q => by rw [yj (yV q hp)]; exact q
theorem zbB {vs : List V} {ds : List D} (q : RQ K kd O H Q (.fl ds)) (r : RpL K kd O H vs ds) : ∀ p, H p = none -> Q (.ref p) (upd H p (.lst vs)) := λ p hp =>
 q p vs _ hp (YB hp) yW (ziX hp r)
theorem zgl {vs : List V} {ds : List D} (ht : ∀ a, O a -> H a ≠ none) (q : RQ K kd O H Q (.im (.tup ds))) (r : RpL K kd O H vs ds) : ∀ p, H p = none -> Q (.ref p) (upd H p (.tup vs)) := λ p hp =>
 q _ _ (YB hp) (.tup (λ z => ht p z hp) (.inl yW) ((ziX hp r).less λ a z => .inl z))
end
def big : Nat := 2 ^ 4000
theorem zht {i : Int} (h : i.natAbs < big) : Builtin.Int.intBits i <= 2 ^ 20 := by
 unfold Builtin.Int.intBits
 split
 · exact Nat.zero_le _
 · have : i.natAbs.log2 < 4000 := by
    rcases Nat.eq_zero_or_pos i.natAbs with h0 | hp
    · rw [h0]; decide
    · exact (Nat.log2_lt (Nat.ne_of_gt hp)).mpr h
   have e : (2 : Nat) ^ 20 = 1048576 := by decide
   omega
def onI (f : Int -> Int -> Option R0) (x y : D) : Option R0 := (asI x).bind λ i => (asI y).bind λ j => f i j
def zrj (x y : D) : Option R0 := match x with
 | .int i => (asI y).bind λ j => some (.im (.int (i + j)))
 | .str x => (asS y).bind λ y => if x.length + y.length <= sizeLine then some (.im (.str (x ++ y))) else none
 | .lst xs => (asL y).bind λ ys => if xs.length + ys.length <= sizeLine then some (.fl (xs ++ ys)) else none
 | .tup xs => (asT y).bind λ ys => if xs.length + ys.length <= sizeLine then some (.im (.tup (xs ++ ys))) else none
 | _ => none
def zqA (x y : D) : Option R0 := match x with
 | .int i => (asI y).bind λ j => if i.natAbs < big /\ j.natAbs < big then some (.im (.int (i * j))) else none
 | .lst xs => (asI y).bind λ k => if -(2 ^ 63) <= k /\ k < 2 ^ 63 /\ xs.length * k.toNat <= sizeLine then some (.fl (List.replicate k.toNat xs).flatten) else none
 | .tup xs => (asI y).bind λ k => if 1 <= k /\ k < 2 ^ 63 /\ xs.length ≠ 0 /\ xs.length * k.toNat <= sizeLine then some (.im (.tup (List.replicate k.toNat xs).flatten)) else none
 | _ => none
def zm (o : Operator) (x y : D) : Option R0 := match o with
 | .Add => zrj x y
 | .Sub => onI (λ i j => some (.im (.int (i - j)))) x y
 | .Mult => zqA x y
 | .FloorDiv => onI (λ i j => if 0 < j /\ j.natAbs < big then some (.im (.int (i / j))) else none) x y
 | .Mod => onI (λ i j => if 0 < j then some (.im (.int (i % j))) else none) x y
 | .Pow => onI (λ i j => if 0 <= j /\ j <= 1000000 /\ i.natAbs < 2 ^ 64 then some (.im (.int (i ^ j.toNat))) else none) x y
 | _ => none
theorem XC {K : zC} {kd : KD} {O : Addr -> Prop} {H : Hp} {v : V} {d : D} {i : Int} (h : Vw K kd O H v d) (e : asI d = some i) : d = .int i /\ v = .int i := by
 cases h with
 | int j => cases e; exact ⟨rfl, rfl⟩
 | _ => cases e
theorem zoh {K : zC} {kd : KD} {O : Addr -> Prop} {H : Hp} {v : V} {d : D} {i : Str} (h : Vw K kd O H v d) (e : asS d = some i) : d = .str i /\ v = .str i := by
 cases h with
 | str j => cases e; exact ⟨rfl, rfl⟩
 | _ => cases e
theorem Wf {K : zC} {kd : KD} {O : Addr -> Prop} {H : Hp} {v w : V} {d e : D} {f : Int -> Int -> Option R0} {r : R0} (vx : Vw K kd O H v d) (vy : Vw K kd O H w e) (h : onI f d e = some r) : ∃ i j, v = .int i /\ w = .int j /\ f i j = some r := by
 obtain ⟨i, h1, h⟩ := bS_ (show (asI d).bind _ = _ from h)
 obtain ⟨j, h2, h⟩ := bS_ h
 exact ⟨i, j, (XC vx h1).2, (XC vy h2).2, h⟩
section
variable {X : Cx} {kd : KD}
theorem zme : OpR X (binaryOp .Add) (λ x y H Q => ∃ l b xs zs, x = .ref l /\ y = .ref b /\ RdL X.K H l xs /\ RdL X.K H b zs /\ xs.length + zs.length <= sizeLine /\ ∀ p, H p = none -> Q (.ref p) (upd H p (.lst (xs ++ zs)))) := by
 intro pins s σ H x y v u Q I rx ry h
 obtain ⟨l, b, xs, zs, rfl, rfl, hH, hB, hz, q⟩ := h
 cases rx
 cases ry
 obtain ⟨z, its, n, r, e⟩ := zhY I hH
 obtain ⟨z2, its2, n2, r2, e2⟩ := zhY I hB
 have hl := r.length
 have hl2 := r2.length
 refine PySem.P.add_list e e2 ?_ (by rw [zzF, zzF]; omega)
 have ea : its.toArray ++ its2.toArray = (its ++ its2).toArray := by simp
 rw [ea]
 exact ⟨.ref _, _, I.lnew (t' := s.toks) (r.append r2) (by rw [zzH]; omega), rfl, q _ I.fresh⟩
theorem zmO : OpR X (binaryOp .Mult) (λ x y H Q => ∃ l k xs, x = .ref l /\ y = .int k /\ RdL X.K H l xs /\ -(2 ^ 63) <= k /\ k < 2 ^ 63 /\ xs.length * k.toNat <= sizeLine /\
 ∀ p, H p = none -> Q (.ref p) (upd H p (.lst (List.replicate k.toNat xs).flatten))) := by
 intro pins s σ H x y v u Q I rx ry h
 obtain ⟨l, k, xs, rfl, rfl, hH, h1, h2, hz, q⟩ := h
 cases rx
 obtain ⟨t, rfl⟩ := ry
 obtain ⟨z, its, n, r, e⟩ := zhY I hH
 have hl := r.length
 have hlen : its.toArray.size * k.toNat <= sizeLine := by rw [zzF, <- hl]; exact hz
 have hcap : ¬ its.toArray.size * k.toNat > (2 ^ 63 - 1) / 8 := by
  have : (sizeLine : Nat) <= (2 ^ 63 - 1) / 8 := by decide
  omega
 have hfit : ¬ (!Builtin.List.listFitsIndex k) = true := by
  rw [fitsIndex_both h1 h2]
  exact Bool.false_ne_true
 have hlong : ¬ Builtin.List.listTooLong (its.toArray.size * k.toNat) = true := by
  rw [zkJ hlen]
  exact Bool.false_ne_true
 have hnew : List.foldl (λ x1 x2 => x1 ++ x2) #[] (List.replicate (if its.toArray.isEmpty = true then 0 else k.toNat) its.toArray) = (List.replicate k.toNat its).flatten.toArray := by
  have f0 : ∀ m : Nat, List.foldl (λ x1 x2 => x1 ++ x2) #[] (List.replicate m its.toArray) = (List.replicate m its).flatten.toArray := λ m => by
   have := foldl_rep its m []
   rw [List.nil_append] at this
   exact this
  rw [f0]
  cases its with
  | nil => simp
  | cons a r' => rw [if_neg (by simp)]
 refine wpAny_binaryOp_repeat_ref (T := "list") (U := "int") (by decide) ⟨_, e, rfl⟩ (λ s' => typeIs_int s' k t) noFill_list_mul F.fills_int_mul F.slot_int_rmul repeat_list F.slot_int_index.lookup
  (call_meets F.slot_int_rmul (typeIs_int s k t) F.entry_int_rmul (F.args_int_rmul_2 _ _) (int___rmul___int_list k t l its.toArray n)
   ⟨e, rfl, ⟨_, e, rfl⟩, call_meets F.slot_list_mul ⟨_, e, rfl⟩ F.entry_list_mul (F.args_list_mul_2 _ _) (AutoListH.list___mul___list_int_3 l its.toArray n k t hfit hcap hlong) ⟨e, ?_⟩⟩)
 rw [hnew]
 refine ⟨.ref _, _, I.lnew (t' := s.toks) (r.rep k.toNat) ?_, rfl, q _ I.fresh⟩
 rw [len_rep, Nat.mul_comm]
 exact hz
theorem tuple_addW0 (l b : Addr) (items items2 : Array Value) (n n2 : Nat) (dd dd2 : Option Addr) (sl sl2 : Array (Option Value)) (h0 : items.isEmpty = true) :
 Meets (Builtin.«tuple.__add__» { pos := [.ref l, .ref b] }) (λ _ R s => s.heap.get? l = some { cls := .type "tuple", dict := dd, data := .seq items n, slots := sl } /\ s.heap.get? b = some { cls := .type "tuple", dict := dd2, data := .seq items2 n2, slots := sl2 } /\ R (.ok (.ret (.ref b))) s) :=
 .of_wp λ prog w A R s h => by
  obtain ⟨hp, g, d, tk, os⟩ := s; obtain ⟨hl, hb, h⟩ := h
  have f2 := AutoSeq1.sub_tuple_tuple
  wp_walk using wpAny_loadPart' hl, wpAny_loadPart' hb
  exact ⟨_, rfl, h⟩
theorem zhi (l : Addr) (items : Array Value) (n : Nat) (dd : Option Addr) (sl : Array (Option Value)) (u : Tok) :
 Meets (Builtin.«tuple.__mul__» { pos := [.ref l, .int 1 u] }) (λ _ R s => s.heap.get? l = some { cls := .type "tuple", dict := dd, data := .seq items n, slots := sl } /\ R (.ok (.ret (.ref l))) s) :=
 .of_wp λ prog w A R s h => by
  obtain ⟨hp, g, d, tk, os⟩ := s; obtain ⟨hl, h⟩ := h
  have f2 := AutoSeq1.sub_tuple_tuple
  wp_walk using wpAny_loadPart' hl
  exact ⟨_, rfl, h⟩
theorem zgZ (l : Addr) (items its2 : Array Value) (n : Nat) (dd : Option Addr) (sl : Array (Option Value)) (x : Int) (u : Tok) (c1 : ¬ (decide (x < -2 ^ 63) || decide (x ≥ 2 ^ 63)) = true) (c2 : ¬ (items.isEmpty || x == 1) = true) (c3 : ¬ (decide (x <= 0) || items.isEmpty) = true)
 (hcap : ¬ (items.size : Int) * x > (2 ^ 63 - 1) / 8) (ht : ¬ Builtin.Tuple.tupleTooMany (items.size * x) = true) (hz : ¬ (List.foldl (λ x1 x2 => x1 ++ x2) #[] (List.replicate x.toNat items)).size > sizeLine) :
 Meets (Builtin.«tuple.__mul__» { pos := [.ref l, .int x u] }) (λ _ R s => s.heap.get? l = some { cls := .type "tuple", dict := dd, data := .seq items n, slots := sl } /\ R (.ok (.ret (.ref s.heap.objs.size))) { s with heap := s.heap.push { cls := .type "tuple", data := .seq (List.foldl (λ x1 x2 => x1 ++ x2) #[] (List.replicate x.toNat items)) } }) :=
 .of_wp λ prog w A R s h => by
  obtain ⟨hp, g, d, tk, os⟩ := s; obtain ⟨hl, h⟩ := h
  have f2 := AutoSeq1.sub_tuple_tuple
  wp_walk using wpAny_loadPart' hl
  rw [if_neg c1]
  wp_walk using wpAny_loadPart' hl
  rw [if_neg hcap]
  wp_walk
  exact ⟨_, rfl, h⟩
theorem zbS : fillsNumberSlot (Value.type "tuple") "mul" = pure false := PySem.fillsNumberSlot_seq rfl rfl rfl rfl
theorem zgx : seqRepeat? (Value.type "tuple") = pure (some (Value.builtin "tuple.__mul__")) := W.of_pureOf rfl
theorem zeq (a : Int) (t : Tok) (l : Addr) (items : Array Value) (n : Nat) (dd : Option Addr) (sl : Array (Option Value)) :
 Meets (Builtin.«int.__rmul__» { pos := [.int a t, .ref l] }) (λ _ R s => s.heap.get? l = some { cls := .type "tuple", dict := dd, data := .seq items n, slots := sl } /\ R (.ok (.ret .notImplemented)) s) :=
 .of_wp λ prog w A R s h => by
  obtain ⟨hp, g, d, tk, os⟩ := s; obtain ⟨hl, h⟩ := h
  wp_walk using wpAny_load' hl, wpAny_loadPart' hl
  exact ⟨_, rfl, h⟩
theorem zlX : OpR X (binaryOp .Add) (λ x y H Q => ∃ a b ys, x = .ref a /\ y = .ref b /\ SqT X.K H a [] /\ SqT X.K H b ys /\ Q (.ref b) H) := by
 intro pins s σ H x y v u Q I rx ry h
 obtain ⟨a, b, ys, rfl, rfl, ha, hb, q⟩ := h
 cases rx
 cases ry
 obtain ⟨its, r1, p1, _⟩ := I.tuple ha
 obtain ⟨its2, r2, p2, _⟩ := I.tuple hb
 cases r1
 obtain ⟨⟨cls, dd, data, sl⟩, ho, hc, n, hd⟩ := id p1
 obtain ⟨⟨cls2, dd2, data2, sl2⟩, ho2, hc2, n2, hd2⟩ := id p2
 simp only at hc hd hc2 hd2
 subst hc hd hc2 hd2
 exact concat_meets ⟨_, ho, rfl⟩ ⟨_, ho2, rfl⟩ noFill_tuple_add seq_tuple_add PySem.F.slot_tuple_add PySem.F.entry_tuple_add (PySem.F.args_tuple_add_2 _ _) (tuple_addW0 a b _ _ n n2 dd dd2 sl sl2 rfl) ⟨ho, ho2, ⟨.ref b, H, I, rfl, q⟩⟩
theorem zlG : OpR X (binaryOp .Mult) (λ x y H Q => ∃ l k xs, x = .ref l /\ y = .int k /\ SqT X.K H l xs /\ xs ≠ [] /\ 1 <= k /\ k < 2 ^ 63 /\ xs.length * k.toNat <= sizeLine /\ (k = 1 -> Q (.ref l) H) /\
 (2 <= k -> ∀ p, H p = none -> Q (.ref p) (upd H p (.tup (List.replicate k.toNat xs).flatten)))) := by
 intro pins s σ H x y v u Q I rx ry h
 obtain ⟨l, k, xs, rfl, rfl, hH, hne, h1, h2, hz, q1, q2⟩ := h
 cases rx
 obtain ⟨t, rfl⟩ := ry
 obtain ⟨its, r, p, _⟩ := I.tuple hH
 have hl := r.length
 have hlen : its.toArray.size * k.toNat <= sizeLine := by rw [zzF, <- hl]; exact hz
 have hki : ((its.toArray.size : Int) * k) = ((its.toArray.size * k.toNat : Nat) : Int) := by
  rw [zzT, Int.toNat_of_nonneg (by omega)]
 have he : its.toArray.isEmpty = false := by
  cases its with
  | nil => rw [List.length_nil] at hl; exact absurd (List.length_eq_zero_iff.mp hl) hne
  | cons a r' => rfl
 have hnew : List.foldl (λ x1 x2 => x1 ++ x2) #[] (List.replicate k.toNat its.toArray) = (List.replicate k.toNat its).flatten.toArray := by
  have := foldl_rep its k.toNat []
  rw [List.nil_append] at this
  exact this
 obtain ⟨⟨cls, dd, data, sl⟩, ho, hc, n, hd⟩ := id p
 simp only at hc hd
 subst hc hd
 refine wpAny_binaryOp_repeat_ref (T := "tuple") (U := "int") (by decide) ⟨_, ho, rfl⟩ (λ s' => typeIs_int s' k t) zbS F.fills_int_mul F.slot_int_rmul zgx F.slot_int_index.lookup
  (call_meets F.slot_int_rmul (typeIs_int s k t) F.entry_int_rmul (F.args_int_rmul_2 _ _) (zeq k t l its.toArray n dd sl) ⟨ho, rfl, ⟨_, ho, rfl⟩, ?_⟩)
 by_cases hk : k = 1
 · subst hk
   exact call_meets F.slot_tuple_mul ⟨_, ho, rfl⟩ F.entry_tuple_mul (F.args_tuple_mul_2 _ _) (zhi l its.toArray n dd sl t) ⟨ho, ⟨.ref l, H, I, rfl, q1 rfl⟩⟩
 · have hfl : (List.replicate k.toNat xs).flatten.length <= sizeLine := by rw [len_rep, Nat.mul_comm]; exact hz
   refine call_meets F.slot_tuple_mul ⟨_, ho, rfl⟩ F.entry_tuple_mul (F.args_tuple_mul_2 _ _) (zgZ l its.toArray #[] n dd sl k t (by simp; omega) (by rw [he]; simpa using hk) (by rw [he]; simp; omega) ?_ ?_ ?_) ⟨ho, ?_⟩
   · rw [hki]
     have : ((sizeLine : Nat) : Int) <= (2 ^ 63 - 1) / 8 := by decide
     omega
   · unfold Builtin.Tuple.tupleTooMany
     rw [hki]
     simp only [gt_iff_lt, decide_eq_true_eq]
     omega
   · rw [hnew, zzF, len_rep, Nat.mul_comm]
     rw [zzF] at hlen
     omega
   · rw [hnew]
     refine ⟨.ref s.heap.objs.size, _, I.laid (t' := s.toks) (o := .tup (List.replicate k.toNat xs).flatten) (λ b ob q => Heap.get?_push_of_some _ q) (zzL _) ?_, rfl, q2 (by omega) _ (I.hok.fresh (zzL _))⟩
     exact ⟨hfl, _, r.rep k.toNat, IsTup.new _ _⟩
theorem zy (op : Operator) : OpD X kd (binaryOp op) (zm op) := by
 intro pins s σ H x y v u Q I rx ry h
 obtain ⟨O, d, e, r, ht, vx, vy, he, q⟩ := h
 cases op with
 | Add =>
  cases vx with
  | int i =>
   obtain ⟨j, h1, he⟩ := bS_ (show (asI e).bind _ = _ from he)
   obtain ⟨rfl, rfl⟩ := XC vy h1
   cases he
   exact znM pins s σ H _ _ v u Q I rx ry ⟨_, _, rfl, rfl, yN q (.int _)⟩
  | str i =>
   obtain ⟨j, h1, he⟩ := bS_ (show (asS e).bind _ = _ from he)
   obtain ⟨rfl, rfl⟩ := zoh vy h1
   obtain ⟨c, rfl⟩ := yc he
   exact zhU pins s σ H _ _ v u Q I rx ry ⟨_, _, rfl, rfl, c, yN q (.str _)⟩
  | lst hx rx' =>
   obtain ⟨j, h1, he⟩ := bS_ (show (asL e).bind _ = _ from he)
   cases zbP h1
   obtain ⟨c, rfl⟩ := yc he
   cases vy with
   | lst hy ry' => exact zme pins s σ H _ _ v u Q I rx ry ⟨_, _, _, _, rfl, rfl, hx, hy, by rw [rx'.length, ry'.length]; exact c, zbB q (rx'.append ry')⟩
  | @tup a1 vs1 ds1 r1 hx rx' =>
   obtain ⟨j, h1, he⟩ := bS_ (show (asT e).bind _ = _ from he)
   cases zoU h1
   obtain ⟨c, rfl⟩ := yc he
   cases vy with
   | tup r2 hy ry' =>
    by_cases h0 : vs1 = ([] : List V)
    · subst h0
      cases rx'
      exact zlX pins s σ H _ _ v u Q I rx ry ⟨_, _, _, rfl, rfl, hx, hy, yN q r2⟩
    refine zmu pins s σ H _ _ v u Q I rx ry ⟨_, _, _, _, rfl, rfl, hx, hy, h0, by rw [rx'.length, ry'.length]; exact c, λ hn => ?_, λ hn => zgl ht q (rx'.append ry')⟩
    · subst hn
      cases ry'
      rw [List.append_nil] at q
      exact yN q r1
  | _ => cases he
 | Sub =>
  obtain ⟨i, j, rfl, rfl, he⟩ := Wf vx vy he
  cases he
  exact znI pins s σ H _ _ v u Q I rx ry ⟨_, _, rfl, rfl, yN q (.int _)⟩
 | Mult =>
  cases vx with
  | int i =>
   obtain ⟨j, h1, he⟩ := bS_ (show (asI e).bind _ = _ from he)
   obtain ⟨rfl, rfl⟩ := XC vy h1
   obtain ⟨c, rfl⟩ := yc he
   obtain ⟨t, rfl⟩ := rx
   obtain ⟨t', rfl⟩ := ry
   exact mul_int ⟨.int _, H, I.tok _, ⟨_, rfl⟩, yN q (.int _)⟩ (IntMulOk.of_bits (zht c.1) (zht c.2))
  | lst hx rx' =>
   obtain ⟨j, h1, he⟩ := bS_ (show (asI e).bind _ = _ from he)
   obtain ⟨rfl, rfl⟩ := XC vy h1
   obtain ⟨c, rfl⟩ := yc he
   exact zmO pins s σ H _ _ v u Q I rx ry ⟨_, _, _, rfl, rfl, hx, c.1, c.2.1, by rw [rx'.length]; exact c.2.2, zbB q (rx'.rep _)⟩
  | tup r1 hx rx' =>
   obtain ⟨j, h1, he⟩ := bS_ (show (asI e).bind _ = _ from he)
   obtain ⟨rfl, rfl⟩ := XC vy h1
   obtain ⟨c, rfl⟩ := yc he
   refine zlG pins s σ H _ _ v u Q I rx ry ⟨_, _, _, rfl, rfl, hx, λ e => ?_, c.1, c.2.1, by rw [rx'.length]; exact c.2.2.2, λ e => ?_, λ _ => zgl ht q (rx'.rep _)⟩
   · have := rx'.length
     rw [e] at this
     exact c.2.2.1 this.symm
   · subst e
     refine yN q ?_
     rw [show (1 : Int).toNat = 1 from rfl, List.replicate_one, List.flatten_cons, List.flatten_nil, List.append_nil]
     exact r1
  | _ => cases he
 | FloorDiv =>
  obtain ⟨i, j, rfl, rfl, he⟩ := Wf vx vy he
  obtain ⟨c, rfl⟩ := yc he
  obtain ⟨t, rfl⟩ := rx
  obtain ⟨t', rfl⟩ := ry
  refine floordiv_int (by omega) ?_ (.inl (PyProof.noPylong_of_log2 ?_))
  · rw [Int.fdiv_eq_ediv_of_nonneg _ (by omega)]
    exact ⟨.int _, H, I.tok _, ⟨_, rfl⟩, yN q (.int _)⟩
  · exact zzI ((Nat.log2_lt (by have := c.1; omega)).mpr (show _ < 2 ^ 4000 from c.2)) (by decide)
 | Mod =>
  obtain ⟨i, j, rfl, rfl, he⟩ := Wf vx vy he
  obtain ⟨c, rfl⟩ := yc he
  exact zkV pins s σ H _ _ v u Q I rx ry ⟨_, _, rfl, rfl, c, yN q (.int _)⟩
 | Pow =>
  obtain ⟨i, j, rfl, rfl, he⟩ := Wf vx vy he
  obtain ⟨c, rfl⟩ := yc he
  exact zoC pins s σ H _ _ v u Q I rx ry ⟨_, _, rfl, rfl, c, yN q (.int _)⟩
 | _ => cases he
end
def eqL (f : D -> D -> Option Bool) : List D -> List D -> Option Bool
 | [], [] => some true
 | x :: r, y :: t => (f x y).bind λ b => (eqL f r t).bind λ c => some (b && c)
 | _, _ => some false
def eqF : Nat -> D -> D -> Option Bool
 | 0, _, _ => none
 | _ + 1, .non, .non => some true
 | _ + 1, .bl a, .bl b => some (a == b)
 | _ + 1, .int a, .int b => some (a == b)
 | _ + 1, .str a, .str b => some (a == b)
 | _ + 1, .bl a, .int b => some ((if a then 1 else 0) == b)
 | _ + 1, .int a, .bl b => some (a == (if b then 1 else 0))
 | n + 1, .lst xs, .lst ys => eqL (eqF n) xs ys
 | n + 1, .tup xs, .tup ys => eqL (eqF n) xs ys
 | _ + 1, .dct _, _ => none
 | _ + 1, .cl _, _ => none
 | _ + 1, .ob _ _ _, _ => none
 | _ + 1, _, .dct _ => none
 | _ + 1, _, .cl _ => none
 | _ + 1, _, .ob _ _ _ => none
 | _ + 1, _, _ => some false
def eqJ (f : D -> D -> Option Bool) (xs ys : List D) (j : Nat) : Bool := match xs[j]?, ys[j]? with
 | some d, some e => (f d e).getD false
 | _, _ => false
theorem zee {f : D -> D -> Option Bool} : ∀ {xs ys : List D} {b : Bool}, eqL f xs ys = some b -> (∀ (j : Nat) d e, xs[j]? = some d -> ys[j]? = some e -> ∃ c, f d e = some c) /\
 b = ((List.range (min xs.length ys.length)).all (eqJ f xs ys) && xs.length == ys.length)
 | [], [], b, h => by cases h; exact ⟨λ j d e h => by simp at h, by simp⟩
 | [], y :: t, b, h => by cases h; exact ⟨λ j d e h => by simp at h, by simp⟩
 | x :: r, [], b, h => by cases h; exact ⟨λ j d e _ h => by simp at h, by simp⟩
 | x :: r, y :: t, b, h => by
  obtain ⟨b1, h1, h⟩ := bS_ (show (f x y).bind _ = _ from h)
  obtain ⟨c1, h2, h⟩ := bS_ h
  cases h
  obtain ⟨k1, k2⟩ := zee h2
  refine ⟨λ j d e hd he => ?_, ?_⟩
  · cases j with
    | zero => simp at hd he; subst hd he; exact ⟨b1, h1⟩
    | succ j => exact k1 j d e (by simpa using hd) (by simpa using he)
  · have e0 : min (x :: r).length (y :: t).length = min r.length t.length + 1 := by simp only [zzR]; omega
    rw [e0, List.range_succ_eq_map, List.all_cons, List.all_map, k2]
    have e1 : eqJ f (x :: r) (y :: t) 0 = b1 := by show (f x y).getD false = b1; rw [h1]; rfl
    have e2 : (eqJ f (x :: r) (y :: t) ∘ Nat.succ) = eqJ f r t := by
     funext j
     show eqJ f (x :: r) (y :: t) (j + 1) = _
     unfold eqJ
     simp
    have e3 : ((x :: r).length == (y :: t).length) = (r.length == t.length) := by
     by_cases hh : r.length = t.length <;> simp [hh]
    rw [e1, e2, e3, Bool.and_assoc]
structure EqAll (A : Around) (s : Shared) (u v : Value) (b : Bool) : Prop where
 rc : SeqAt.RcAt A s u v b
 ne : SeqAt.RcNeAt A s u v (!b)
 eq : SeqAt.EqAt A s u v b
section
variable {X : Cx} {kd : KD} {pins : List (Addr × Obj)} {σ : St} {H : Hp} {s : Shared} {O : Addr -> Prop}
theorem ziG (I : Inv X pins σ H s) {a : Addr} {xs ys : List V} (h : SqT X.K H a xs) (h' : SqL X.K H a ys) : False := by
 obtain ⟨_, _, ⟨o, e, c, _⟩, _⟩ := I.tuple h
 obtain ⟨_, _, ⟨o', n, e', c', _⟩, _⟩ := I.list h'
 rw [e] at e'
 cases e'
 rw [c] at c'
 exact absurd c' (by decide)
theorem zjd (I : Inv X pins σ H s) : ∀ (n : Nat) (v : V) (d e : D) (b : Bool), Vw X.K kd O H v d -> Vw X.K kd O H v e -> eqF n d e = some b -> b = true
 | 0, _, _, _, _, _, _, h => by cases h
 | n + 1, v, d, e, b, h1, h2, h => by
  have lst : ∀ (vs : List V) (ds es : List D) (b : Bool), RpL X.K kd O H vs ds -> RpL X.K kd O H vs es -> eqL (eqF n) ds es = some b -> b = true := by
   intro vs
   induction vs with
   | nil => intro ds es b r1 r2 h; cases r1; cases r2; cases h; rfl
   | cons v vs ih =>
    intro ds es b r1 r2 h
    cases r1 with
    | cons a1 r1 =>
     cases r2 with
     | cons a2 r2 =>
      obtain ⟨b1, k1, h⟩ := bS_ (show (eqF n _ _).bind _ = _ from h)
      obtain ⟨c1, k2, h⟩ := bS_ h
      cases h
      rw [zjd I n _ _ _ _ a1.vw a2.vw k1, ih _ _ _ r1 r2 k2]
      rfl
  cases h1 with
  | non => cases h2; cases h; rfl
  | bl x => cases h2; cases h; simp
  | int x => cases h2; cases h; simp
  | str x => cases h2; cases h; simp
  | tup r1 s1 l1 =>
   cases h2 with
   | tup r2 s2 l2 =>
    have := I.tuple_inj s1 s2
    subst this
    exact lst _ _ _ _ l1 l2 h
   | lst s2 l2 => exact (ziG I s1 s2.sq).elim
   | _ => cases h
  | lst s1 l1 =>
   cases h2 with
   | tup r2 s2 l2 => exact (ziG I s2 s1.sq).elim
   | lst s2 l2 =>
    have := I.list_inj s1.sq s2.sq
    subst this
    exact lst _ _ _ _ l1 l2 h
   | _ => cases h
  | _ => cases h
theorem zgi (I : Inv X pins σ H s) : ∀ (n : Nat) (A : Around) (x y : V) (d e : D) (u v : Value) (b : Bool), A.units + n < cLine -> Vw X.K kd O H x d -> Vw X.K kd O H y e -> RelV x u -> RelV y v -> eqF n d e = some b -> EqAll A s u v b
 | 0, _, _, _, _, _, _, _, _, _, _, _, _, _, h => by cases h
 | n + 1, A, x, y, d, e, u, v, b, hu, h1, h2, r1, r2, h => by
  have hu0 : A.units < cLine := by omega
  have itm : ∀ {vs ws : List V} {its its2 : List Value} {ds es : List D}, RpL X.K kd O H vs ds -> RpL X.K kd O H ws es -> Vals vs its -> Vals ws its2 -> (∀ (j : Nat) d e, ds[j]? = some d -> es[j]? = some e -> ∃ c, eqF n d e = some c) ->
   ∀ j (h1 : j < its.toArray.size) (h2 : j < its2.toArray.size), SeqAt.EqAt A.in1 s its.toArray[j] its2.toArray[j] (eqJ (eqF n) ds es j) := by
   intro vs ws its its2 ds es l1 l2 v1 v2 hd j j1 j2
   have q1 : j < ds.length := by rw [<- l1.length, v1.length]; simpa using j1
   have q2 : j < es.length := by rw [<- l2.length, v2.length]; simpa using j2
   obtain ⟨a1, ha1, ra1⟩ := l1.get (zzC q1)
   obtain ⟨a2, ha2, ra2⟩ := l2.get (zzC q2)
   obtain ⟨u1, hu1, ru1⟩ := v1.get ha1
   obtain ⟨u2, hu2, ru2⟩ := v2.get ha2
   obtain ⟨c, hc⟩ := hd j _ _ (zzC q1) (zzC q2)
   have e1 : its.toArray[j] = u1 := by
    have := (zzE.mp hu1).2
    simpa using this
   have e2 : its2.toArray[j] = u2 := by
    have := (zzE.mp hu2).2
    simpa using this
   rw [e1, e2]
   have e3 : eqJ (eqF n) ds es j = c := by
    unfold eqJ
    rw [zzC q1, zzC q2]
    show (eqF n _ _).getD false = c
    rw [hc]; rfl
   rw [e3]
   exact (zgi I n A.in1 a1 a2 _ _ u1 u2 c (by show A.units + 1 + n < cLine; omega) ra1.vw ra2.vw ru1 ru2 hc).eq
  have same : ∀ {a a' : Addr}, x = .ref a -> y = .ref a' -> a = a' -> b = true := by
   intro a a' e1 e2 e3
   subst e1 e2 e3
   exact zjd I (n + 1) _ _ _ _ h1 h2 h
  cases h1 with
  | non =>
   cases r1
   cases h2 with
   | non => cases r2; cases h; exact ⟨SeqAt.RcAt.none_none, SeqAt.RcNeAt.none_none, SeqAt.EqAt.same _⟩
   | bl => cases r2; cases h; exact ⟨SeqAt.RcAt.none_bool _, SeqAt.RcNeAt.none_bool _, SeqAt.EqAt.none_bool _⟩
   | int => obtain ⟨t, rfl⟩ := r2; cases h; exact ⟨SeqAt.RcAt.none_int _ _, SeqAt.RcNeAt.none_int _ _, SeqAt.EqAt.none_int _ _⟩
   | str => obtain ⟨t, rfl⟩ := r2; cases h; exact ⟨SeqAt.RcAt.none_str _ _, SeqAt.RcNeAt.none_str _ _, SeqAt.EqAt.none_str _ _⟩
   | tup r s2 l2 =>
    cases r2; cases h
    obtain ⟨its, rv, p, _⟩ := I.tuple s2
    exact ⟨SeqAt.RcAt.none_tuple p hu0, SeqAt.RcNeAt.none_tuple p hu0, SeqAt.EqAt.none_tuple p hu0⟩
   | lst s2 l2 =>
    cases r2; cases h
    obtain ⟨its, rv, p, _⟩ := I.list s2.sq
    exact ⟨SeqAt.RcAt.none_list p.isList hu0, SeqAt.RcNeAt.none_list p.isList hu0, SeqAt.EqAt.none_list p.isList hu0⟩
   | _ => cases h
  | bl c =>
   cases r1
   cases h2 with
   | non => cases r2; cases h; exact ⟨SeqAt.RcAt.bool_none _, SeqAt.RcNeAt.bool_none _, SeqAt.EqAt.bool_none _⟩
   | bl => cases r2; cases h; exact ⟨SeqAt.RcAt.bool_bool _ _, SeqAt.RcNeAt.bool_bool _ _, SeqAt.EqAt.bool_bool _ _⟩
   | int => obtain ⟨t, rfl⟩ := r2; cases h; exact ⟨SeqAt.RcAt.bool_int _ _ _, SeqAt.RcNeAt.bool_int _ _ _, SeqAt.EqAt.bool_int _ _ _⟩
   | str => obtain ⟨t, rfl⟩ := r2; cases h; exact ⟨SeqAt.RcAt.bool_str _ _ _, SeqAt.RcNeAt.bool_str _ _ _, SeqAt.EqAt.bool_str _ _ _⟩
   | tup r s2 l2 =>
    cases r2; cases h
    obtain ⟨its, rv, p, _⟩ := I.tuple s2
    exact ⟨SeqAt.RcAt.bool_tuple _ p hu0, SeqAt.RcNeAt.bool_tuple _ p hu0, SeqAt.EqAt.bool_tuple _ p hu0⟩
   | lst s2 l2 =>
    cases r2; cases h
    obtain ⟨its, rv, p, _⟩ := I.list s2.sq
    exact ⟨SeqAt.RcAt.bool_list _ p.isList hu0, SeqAt.RcNeAt.bool_list _ p.isList hu0, SeqAt.EqAt.bool_list _ p.isList hu0⟩
   | _ => cases h
  | int c =>
   obtain ⟨t0, rfl⟩ := r1
   cases h2 with
   | non => cases r2; cases h; exact ⟨SeqAt.RcAt.int_none _ _, SeqAt.RcNeAt.int_none _ _, SeqAt.EqAt.int_none _ _⟩
   | bl => cases r2; cases h; exact ⟨SeqAt.RcAt.int_bool _ _ _, SeqAt.RcNeAt.int_bool _ _ _, SeqAt.EqAt.int_bool _ _ _⟩
   | int => obtain ⟨t, rfl⟩ := r2; cases h; exact ⟨SeqAt.RcAt.int_int _ _ _ _, SeqAt.RcNeAt.int_int _ _ _ _, SeqAt.EqAt.int_int _ _ _ _⟩
   | str => obtain ⟨t, rfl⟩ := r2; cases h; exact ⟨SeqAt.RcAt.int_str _ _ _ _, SeqAt.RcNeAt.int_str _ _ _ _, SeqAt.EqAt.int_str _ _ _ _⟩
   | tup r s2 l2 =>
    cases r2; cases h
    obtain ⟨its, rv, p, _⟩ := I.tuple s2
    exact ⟨SeqAt.RcAt.int_tuple _ _ p hu0, SeqAt.RcNeAt.int_tuple _ _ p hu0, SeqAt.EqAt.int_tuple _ _ p hu0⟩
   | lst s2 l2 =>
    cases r2; cases h
    obtain ⟨its, rv, p, _⟩ := I.list s2.sq
    exact ⟨SeqAt.RcAt.int_list _ _ p.isList hu0, SeqAt.RcNeAt.int_list _ _ p.isList hu0, SeqAt.EqAt.int_list _ _ p.isList hu0⟩
   | _ => cases h
  | str c =>
   obtain ⟨t0, rfl⟩ := r1
   cases h2 with
   | non => cases r2; cases h; exact ⟨SeqAt.RcAt.str_none _ _, SeqAt.RcNeAt.str_none _ _, SeqAt.EqAt.str_none _ _⟩
   | bl => cases r2; cases h; exact ⟨SeqAt.RcAt.str_bool _ _ _, SeqAt.RcNeAt.str_bool _ _ _, SeqAt.EqAt.str_bool _ _ _⟩
   | int => obtain ⟨t, rfl⟩ := r2; cases h; exact ⟨SeqAt.RcAt.str_int _ _ _ _, SeqAt.RcNeAt.str_int _ _ _ _, SeqAt.EqAt.str_int _ _ _ _⟩
   | str => obtain ⟨t, rfl⟩ := r2; cases h; exact ⟨SeqAt.RcAt.str_str _ _ _ _, SeqAt.RcNeAt.str_str _ _ _ _, SeqAt.EqAt.str_str _ _ _ _⟩
   | tup r s2 l2 =>
    cases r2; cases h
    obtain ⟨its, rv, p, _⟩ := I.tuple s2
    exact ⟨SeqAt.RcAt.str_tuple _ _ p hu0, SeqAt.RcNeAt.str_tuple _ _ p hu0, SeqAt.EqAt.str_tuple _ _ p hu0⟩
   | lst s2 l2 =>
    cases r2; cases h
    obtain ⟨its, rv, p, _⟩ := I.list s2.sq
    exact ⟨SeqAt.RcAt.str_list _ _ p.isList hu0, SeqAt.RcNeAt.str_list _ _ p.isList hu0, SeqAt.EqAt.str_list _ _ p.isList hu0⟩
   | _ => cases h
  | @tup a1 vs1 ds1 r s1 l1 =>
   cases r1
   obtain ⟨its1, rv1, p1, _⟩ := I.tuple s1
   cases h2 with
   | non => cases r2; cases h; exact ⟨SeqAt.RcAt.tuple_none p1 hu0, SeqAt.RcNeAt.tuple_none p1 hu0, SeqAt.EqAt.tuple_none p1 hu0⟩
   | bl => cases r2; cases h; exact ⟨SeqAt.RcAt.tuple_bool _ p1 hu0, SeqAt.RcNeAt.tuple_bool _ p1 hu0, SeqAt.EqAt.tuple_bool _ p1 hu0⟩
   | int => obtain ⟨t, rfl⟩ := r2; cases h; exact ⟨SeqAt.RcAt.tuple_int _ _ p1 hu0, SeqAt.RcNeAt.tuple_int _ _ p1 hu0, SeqAt.EqAt.tuple_int _ _ p1 hu0⟩
   | str => obtain ⟨t, rfl⟩ := r2; cases h; exact ⟨SeqAt.RcAt.tuple_str _ _ p1 hu0, SeqAt.RcNeAt.tuple_str _ _ p1 hu0, SeqAt.EqAt.tuple_str _ _ p1 hu0⟩
   | @tup a2 vs2 ds2 r' s2 l2 =>
    cases r2
    obtain ⟨its2, rv2, p2, _⟩ := I.tuple s2
    obtain ⟨k1, k2⟩ := zee h
    have he := itm l1 l2 rv1 rv2 k1
    have eb : ((List.range (min its1.toArray.size its2.toArray.size)).all (eqJ (eqF n) ds1 ds2) && its1.toArray.size == its2.toArray.size) = b := by
     rw [k2, zzF, zzF, <- rv1.length, <- rv2.length, l1.length, l2.length]
    have b1 := SeqAt.RcAt.tuples p1 p2 hu0 he
    have b2 := SeqAt.RcNeAt.tuples p1 p2 hu0 he
    rw [eb] at b1 b2
    refine ⟨b1, b2, ?_⟩
    by_cases ha : a1 = a2
    · have hb := same rfl rfl ha
      subst ha
      rw [hb]
      exact SeqAt.EqAt.same _
    · exact SeqAt.EqAt.of_refs ha b1
   | lst s2 l2 =>
    cases r2; cases h
    obtain ⟨its, rv, p, _⟩ := I.list s2.sq
    exact ⟨SeqAt.RcAt.tuple_list p1 p.isList hu0, SeqAt.RcNeAt.tuple_list p1 p.isList hu0, SeqAt.EqAt.tuple_list p1 p.isList hu0⟩
   | _ => cases h
  | @lst a1 vs1 ds1 s1 l1 =>
   cases r1
   obtain ⟨its1, rv1, p1, _⟩ := I.list s1.sq
   cases h2 with
   | non => cases r2; cases h; exact ⟨SeqAt.RcAt.list_none p1.isList hu0, SeqAt.RcNeAt.list_none p1.isList hu0, SeqAt.EqAt.list_none p1.isList hu0⟩
   | bl => cases r2; cases h; exact ⟨SeqAt.RcAt.list_bool _ p1.isList hu0, SeqAt.RcNeAt.list_bool _ p1.isList hu0, SeqAt.EqAt.list_bool _ p1.isList hu0⟩
   | int => obtain ⟨t, rfl⟩ := r2; cases h; exact ⟨SeqAt.RcAt.list_int _ _ p1.isList hu0, SeqAt.RcNeAt.list_int _ _ p1.isList hu0, SeqAt.EqAt.list_int _ _ p1.isList hu0⟩
   | str => obtain ⟨t, rfl⟩ := r2; cases h; exact ⟨SeqAt.RcAt.list_str _ _ p1.isList hu0, SeqAt.RcNeAt.list_str _ _ p1.isList hu0, SeqAt.EqAt.list_str _ _ p1.isList hu0⟩
   | tup r' s2 l2 =>
    cases r2; cases h
    obtain ⟨its2, rv2, p2, _⟩ := I.tuple s2
    exact ⟨SeqAt.RcAt.list_tuple p1.isList p2 hu0, SeqAt.RcNeAt.list_tuple p1.isList p2 hu0, SeqAt.EqAt.list_tuple p1.isList p2 hu0⟩
   | @lst a2 vs2 ds2 s2 l2 =>
    cases r2
    obtain ⟨its2, rv2, p2, _⟩ := I.list s2.sq
    obtain ⟨k1, k2⟩ := zee h
    have he := itm l1 l2 rv1 rv2 k1
    have ez1 : its1.toArray.size = _ := zzF.trans (rv1.length.symm.trans l1.length)
    have ez2 : its2.toArray.size = _ := zzF.trans (rv2.length.symm.trans l2.length)
    have both : SeqAt.RcAt A s (.ref a1) (.ref a2) b /\ SeqAt.RcNeAt A s (.ref a1) (.ref a2) (!b) := by
     by_cases hz : its1.toArray.size = its2.toArray.size
     · have b1 := SeqAt.RcAt.lists p1.isList p2.isList hz hu0 he
       have b2 := SeqAt.RcNeAt.lists p1.isList p2.isList hz hu0 he
       have eb : (List.range its1.toArray.size).all (eqJ (eqF n) ds1 ds2) = b := by
        rw [k2, <- ez1, <- ez2, <- hz, Nat.min_self]
        simp
       rw [eb] at b1 b2
       exact ⟨b1, b2⟩
     · have hz' : (its1.toArray.size != its2.toArray.size) = true := by simpa using hz
       have eb : b = false := by
        rw [k2, <- ez1, <- ez2]
        have : (its1.toArray.size == its2.toArray.size) = false := by simpa using hz
        rw [this, Bool.and_false]
       rw [eb]
       exact ⟨SeqAt.RcAt.lists_lengths p1.isList p2.isList hz' hu0, SeqAt.RcNeAt.lists_lengths p1.isList p2.isList hz' hu0⟩
    refine ⟨both.1, both.2, ?_⟩
    by_cases ha : a1 = a2
    · have hb := same rfl rfl ha
      subst ha
      rw [hb]
      exact SeqAt.EqAt.same _
    · exact SeqAt.EqAt.of_refs ha both.1
   | _ => cases h
  | _ => cases h
end
structure DkAt (P : Program) (w : World) (h : Heap) (a : Addr) (kvs : List (Key × V)) : Prop where
 le : kvs.length <= sizeLine
 ns : (a == sysModules) = false
 ex : ∃ vs, KV kvs vs /\ h.DictOf (Zg P w) a vs
structure KdOk (X : Cx) (kd : KD) : Prop where
 inj : ∀ a k k', kd a k -> kd a k' -> k = k'
 inK : ∀ a k, kd a k -> ∃ o, X.K.lookup a = some o
 at_ : ∀ a k h, kd a k -> X.K.In h -> DkAt X.prog X.w h a k
section
variable {X : Cx} {kd : KD} {pins : List (Addr × Obj)} {σ : St} {H : Hp} {s : Shared} {O : Addr -> Prop}
theorem zeR (I : Inv X pins σ H s) (hk : KdOk X kd) {a : Addr} {kvs : List (Key × V)} (h : Rd H a (.dK kvs) \/ kd a kvs) : DkAt X.prog X.w s.heap a kvs := by
 rcases h with h | h
 · obtain ⟨z, hd, vs, rel, dd⟩ := zpG I.hok h
   exact ⟨z, hd, vs, rel, dd⟩
 · exact hk.at_ _ _ _ h I.kIn
theorem zke (I : Inv X pins σ H s) : ∀ (n : Nat) (v : V) (d e x : D) (b c : Bool), Vw X.K kd O H v d -> Vw X.K kd O H v e -> eqF n d x = some b -> eqF n e x = some c -> b = c
 | 0, _, _, _, _, _, _, _, _, h, _ => by cases h
 | n + 1, v, d, e, x, b, c, h1, h2, h, h' => by
  have lst : ∀ (vs : List V) (ds es xs : List D) (b c : Bool), RpL X.K kd O H vs ds -> RpL X.K kd O H vs es -> eqL (eqF n) ds xs = some b -> eqL (eqF n) es xs = some c -> b = c := by
   intro vs
   induction vs with
   | nil => intro ds es xs b c r1 r2 h h'; cases r1; cases r2; exact Option.some.inj (h.symm.trans h')
   | cons v vs ih =>
    intro ds es xs b c r1 r2 h h'
    cases r1 with
    | cons a1 r1 =>
     cases r2 with
     | cons a2 r2 =>
      cases xs with
      | nil => cases h; cases h'; rfl
      | cons x xs =>
       obtain ⟨b1, k1, h⟩ := bS_ (show (eqF n _ _).bind _ = _ from h)
       obtain ⟨c1, k2, h⟩ := bS_ h
       obtain ⟨b2, k3, h'⟩ := bS_ (show (eqF n _ _).bind _ = _ from h')
       obtain ⟨c2, k4, h'⟩ := bS_ h'
       cases h; cases h'
       rw [zke I n _ _ _ _ _ _ a1.vw a2.vw k1 k3, ih _ _ _ _ _ r1 r2 k2 k4]
  cases h1 with
  | tup r1 s1 l1 =>
   cases h2 with
   | tup r2 s2 l2 =>
    have := I.tuple_inj s1 s2
    subst this
    cases x with
    | tup xs => exact lst _ _ _ _ _ _ l1 l2 h h'
    | _ => exact Option.some.inj (h.symm.trans h')
   | lst s2 l2 => exact (ziG I s1 s2.sq).elim
   | _ => cases h'
  | lst s1 l1 =>
   cases h2 with
   | tup r2 s2 l2 => exact (ziG I s2 s1.sq).elim
   | lst s2 l2 =>
    have := I.list_inj s1.sq s2.sq
    subst this
    cases x with
    | lst xs => exact lst _ _ _ _ _ _ l1 l2 h h'
    | _ => exact Option.some.inj (h.symm.trans h')
   | _ => cases h'
  | dct s1 l1 => cases h
  | cl => cases h
  | ob => cases h
  | _ => cases h2; exact Option.some.inj (h.symm.trans h')
end
def zlM : D -> Option Key
 | .int i => some (.inl i)
 | .str x => some (.inr x)
 | _ => none
def zfD (kvs : List (Key × D)) (k : Key) : Option D := (kvs.find? λ kv => decide (kv.1 = k)).map (·.2)
theorem zgm {K : zC} {kd : KD} {O : Addr -> Prop} {H : Hp} (k : Key) {vs : List (Key × V)} {ds : List (Key × D)} (h : RpM K kd O H vs ds) : (∃ v d, zbR vs k = some v /\ zfD ds k = some d /\ Rp K kd O H v d) \/ (zbR vs k = none /\ zfD ds k = none) :=
 RpM.ind (P := λ vs ds => (∃ v d, zbR vs k = some v /\ zfD ds k = some d /\ Rp K kd O H v d) \/ (zbR vs k = none /\ zfD ds k = none)) (.inr ⟨rfl, rfl⟩) (λ {k' v d vs ds} a _ ih => by
  by_cases e : k' = k
  · left
    refine ⟨_, _, ?_, ?_, a⟩
    · unfold zbR; simp [e]
    · unfold zfD; simp [e]
  · rcases ih with ⟨v, d, h1, h2, h3⟩ | ⟨h1, h2⟩
    · left
      refine ⟨v, d, ?_, ?_, h3⟩
      · unfold zbR at h1 ⊢; simpa [e] using h1
      · unfold zfD at h2 ⊢; simpa [e] using h2
    · right
      refine ⟨?_, ?_⟩
      · unfold zbR at h1 ⊢; simpa [e] using h1
      · unfold zfD at h2 ⊢; simpa [e] using h2) h
def anyF (f : D -> Option Bool) : List D -> Option Bool
 | [] => some false
 | x :: r => (f x).bind λ b => (anyF f r).bind λ c => some (b || c)
def blR (b : Bool) : R0 := .im (.bl b)
def inP (x : D) : D -> Option Bool
 | .lst ys => anyF (λ y => eqF 50 y x) ys
 | .tup ys => anyF (λ y => eqF 50 y x) ys
 | .str y => match x with | .str i => some (!(Builtin.Str.occurrences y i 0 y.length 1).isEmpty) | _ => none
 | .dct kvs => (zlM x).bind λ k => some (zfD kvs k).isSome
 | _ => none
def isP : D -> D -> Option Bool
 | d, .non => some (match d with | .non => true | _ => false)
 | d, .bl b => match d with | .bl c => some (c == b) | _ => some false
 | _, _ => none
def zkj (f : Int -> Int -> Bool) : D -> D -> Option R0 := onI λ i j => some (blR (f i j))
def zW (o : CmpOp) (d e : D) : Option R0 := match o with
 | .Eq => (eqF 60 d e).bind λ b => some (blR b)
 | .NotEq => (eqF 60 d e).bind λ b => some (blR !b)
 | .Lt => zkj (λ i j => decide (i < j)) d e
 | .LtE => zkj (λ i j => decide (i <= j)) d e
 | .Gt => zkj (λ i j => decide (j < i)) d e
 | .GtE => zkj (λ i j => decide (j <= i)) d e
 | .In => (inP d e).bind λ b => some (blR b)
 | .NotIn => (inP d e).bind λ b => some (blR !b)
 | .Is => (isP d e).bind λ b => some (blR b)
 | .IsNot => (isP d e).bind λ b => some (blR !b)
theorem VG {o : Option Bool} {f : Bool -> Bool} {r : R0} (h : (o.bind λ b => some (blR (f b))) = some r) : ∃ k, r = .im (.bl k) := by
 obtain ⟨b, _, h⟩ := bS_ h
 cases h
 exact ⟨_, rfl⟩
theorem zcX {x y : D} {f : Int -> Int -> Bool} {r : R0} (h : zkj f x y = some r) : ∃ k, r = .im (.bl k) := by
 obtain ⟨i, _, h⟩ := bS_ (show (asI x).bind _ = _ from h)
 obtain ⟨j, _, h⟩ := bS_ h
 cases h
 exact ⟨_, rfl⟩
theorem zU (op : CmpOp) (x y : D) (r : R0) (h : zW op x y = some r) : ∃ k, r = .im (.bl k) := by
 cases op with
 | Eq => exact VG (f := id) h
 | NotEq => exact VG (f := not) h
 | Lt => exact zcX h
 | LtE => exact zcX h
 | Gt => exact zcX h
 | GtE => exact zcX h
 | In => exact VG (f := id) h
 | NotIn => exact VG (f := not) h
 | Is => exact VG (f := id) h
 | IsNot => exact VG (f := not) h
section
variable {X : Cx} {kd : KD} {pins : List (Addr × Obj)} {σ : St} {H : Hp} {s : Shared} {O : Addr -> Prop}
noncomputable def eqW (K : zC) (kd : KD) (O : Addr -> Prop) (H : Hp) (n : Nat) (x : D) (u : Value) : Bool := @decide (∃ v d, RelV v u /\ Rp K kd O H v d /\ eqF n d x = some true) (Classical.propDecidable _)
theorem zgz (I : Inv X pins σ H s) (hk : KdOk X kd) {n : Nat} {x d : D} {v : V} {u : Value} {b : Bool} (r : RelV v u) (p : Rp X.K kd O H v d) (e : eqF n d x = some b) : eqW X.K kd O H n x u = b := by
 unfold eqW
 cases b with
 | true => exact @decide_eq_true _ (Classical.propDecidable _) ⟨v, d, r, p, e⟩
 | false =>
  refine @decide_eq_false _ (Classical.propDecidable _) λ ⟨v', d', r', p', e'⟩ => ?_
  have := r.inj r'
  subst this
  exact Bool.noConfusion (zke I n _ _ _ _ _ _ p.vw p'.vw e e')
theorem zcZ (I : Inv X pins σ H s) (hk : KdOk X kd) {n : Nat} {x : D} {vs : List V} {us : List Value} {ds : List D} {b : Bool} (hv : Vals vs us) (h : RpL X.K kd O H vs ds) (e : anyF (λ y => eqF n y x) ds = some b) : us.any (eqW X.K kd O H n x) = b :=
 RpL.ind (P := λ vs ds => ∀ us b, Vals vs us -> anyF (λ y => eqF n y x) ds = some b -> us.any (eqW X.K kd O H n x) = b) (λ us b hv e => by cases e; cases hv; rfl) (λ {v d vs ds} a _ ih us b hv h => by
  cases hv with
  | cons r t =>
   obtain ⟨b1, h1, h⟩ := bS_ (show (eqF n _ x).bind _ = _ from h)
   obtain ⟨c1, h2, h⟩ := bS_ h
   cases h
   rw [List.any_cons, zgz I hk r a h1, ih _ _ t h2]) h us b hv e
theorem Xu {f : D -> Option Bool} : ∀ {ds : List D} {b : Bool}, anyF f ds = some b -> ∀ d ∈ ds, ∃ c, f d = some c
 | [], _, _, d, hd => by simp at hd
 | x :: r, b, h, d, hd => by
  obtain ⟨b1, h1, h⟩ := bS_ (show (f x).bind _ = _ from h)
  obtain ⟨c1, h2, h⟩ := bS_ h
  rcases zzA.mp hd with e | e
  · subst e; exact ⟨b1, h1⟩
  · exact Xu h2 d e
theorem zaU (I : Inv X pins σ H s) (hk : KdOk X kd) {n : Nat} {A : Around} (hu : A.units + n < cLine) {x : V} {v : Value} {d : D} (vx : Vw X.K kd O H x d) (rx : RelV x v) {vs : List V} {us : List Value} {ds : List D} (hv : Vals vs us) (h : RpL X.K kd O H vs ds) (k : ∀ e ∈ ds, ∃ c, eqF n e d = some c) : ∀ u ∈ us, SeqAt.EqAt A s u v (eqW X.K kd O H n d u) :=
 RpL.ind (P := λ vs ds => ∀ us, Vals vs us -> (∀ e ∈ ds, ∃ c, eqF n e d = some c) -> ∀ u ∈ us, SeqAt.EqAt A s u v (eqW X.K kd O H n d u)) (λ us hv _ u hu => by cases hv; simp at hu) (λ a q ih us hv h u hm => by
  cases hv with
  | cons r t =>
   rcases zzA.mp hm with e | e
   · subst e
     obtain ⟨c, hc⟩ := h _ zzD
     rw [zgz I hk r a hc]
     exact (zgi I n A _ _ _ _ _ _ _ hu a.vw vx r rx hc).eq
   · exact ih _ t (λ e he => h e (zzB _ he)) u e) h us hv k
theorem zdr {A : Around} {E : Value -> Shared -> Prop} {x : V} {v : Value} {b c : Bool} {d : D} {Q : Bool -> Shared -> Prop} (vx : Vw X.K kd O H x d) (rx : RelV x v) (e : isP d (.bl b) = some c) (h : Q c s) : wpAny (model X.prog X.w) A (isSame v (.bool b)) Q E s := by
 cases vx with
 | non => cases rx; cases e; exact wpAny_pure h
 | bl k =>
  cases rx
  have e : some (k == b) = some c := e
  cases e
  refine wpAny_pure ?_
  cases k <;> cases b <;> exact h
 | int => obtain ⟨t, rfl⟩ := rx; cases e; exact wpAny_pure h
 | str => obtain ⟨t, rfl⟩ := rx; cases e; exact wpAny_pure h
 | tup => cases rx; cases e; exact wpAny_pure h
 | lst => cases rx; cases e; exact wpAny_pure h
 | dct => cases rx; cases e; exact wpAny_pure h
 | cl => cases rx; cases e; exact wpAny_pure h
 | ob => cases rx; cases e; exact wpAny_pure h
theorem yo (hk : KdOk X kd) (hu : X.A.units + 100 < cLine) (op : CmpOp) : OpD X kd (compareOp op) (zW op) := by
 intro pins s σ H x y v u Q I rx ry h
 obtain ⟨O, d, e, r, ht, vx, vy, he, q⟩ := h
 cases op with
 | Eq =>
  obtain ⟨b, h1, he⟩ := bS_ (show (eqF 60 d e).bind _ = _ from he)
  cases he
  exact (zgi I 60 X.A x y d e v u b (by omega) vx vy rx ry h1).rc _ _ _ _ (vK I (yN q (.bl _)) rfl)
 | NotEq =>
  obtain ⟨b, h1, he⟩ := bS_ (show (eqF 60 d e).bind _ = _ from he)
  cases he
  exact (zgi I 60 X.A x y d e v u b (by omega) vx vy rx ry h1).ne _ _ _ _ (vK I (yN q (.bl _)) rfl)
 | Lt =>
  obtain ⟨i, j, rfl, rfl, he⟩ := Wf vx vy he
  cases he
  exact zpy pins s σ H _ _ v u Q I rx ry ⟨_, _, rfl, rfl, yN q (.bl _)⟩
 | LtE =>
  obtain ⟨i, j, rfl, rfl, he⟩ := Wf vx vy he
  cases he
  exact zpu pins s σ H _ _ v u Q I rx ry ⟨_, _, rfl, rfl, yN q (.bl _)⟩
 | Gt =>
  obtain ⟨i, j, rfl, rfl, he⟩ := Wf vx vy he
  cases he
  exact zpL pins s σ H _ _ v u Q I rx ry ⟨_, _, rfl, rfl, yN q (.bl _)⟩
 | GtE =>
  obtain ⟨i, j, rfl, rfl, he⟩ := Wf vx vy he
  cases he
  exact zpU pins s σ H _ _ v u Q I rx ry ⟨_, _, rfl, rfl, yN q (.bl _)⟩
 | In =>
  obtain ⟨b, h1, he⟩ := bS_ (show (inP d e).bind _ = _ from he)
  cases he
  cases vy with
  | lst hs rl =>
   cases ry
   obtain ⟨its, rv, p, _⟩ := I.list hs.sq
   refine SeqAt.in_listAt (eqW X.K kd O H 50 d) p.isList (λ w hw => zaU I hk (by show X.A.units + 1 + 50 < cLine; omega) vx rx rv rl (Xu h1) w (by simpa using hw)) ?_
   have := zcZ I hk rv rl h1
   rw [show its.toArray.any (eqW X.K kd O H 50 d) = b by rw [<- this]; simp]
   exact vK (I) (yN q (.bl _)) rfl
  | tup rp hs rl =>
   cases ry
   obtain ⟨its, rv, p, _⟩ := I.tuple hs
   refine SeqAt.in_tupleAt (eqW X.K kd O H 50 d) p (λ w hw => zaU I hk (by show X.A.units + 1 + 50 < cLine; omega) vx rx rv rl (Xu h1) w (by simpa using hw)) ?_
   have := zcZ I hk rv rl h1
   rw [show its.toArray.any (eqW X.K kd O H 50 d) = b by rw [<- this]; simp]
   exact vK (I) (yN q (.bl _)) rfl
  | str z =>
   cases vx with
   | str i => cases h1; exact zjB pins s σ H _ _ v u Q I rx ry ⟨_, _, rfl, rfl, yN q (.bl _)⟩
   | _ => cases h1
  | dct hs rm =>
   cases ry
   obtain ⟨k, k1, h1⟩ := bS_ h1
   cases h1
   obtain ⟨z, hd, vs, rel, dd⟩ := zeR I hk hs
   have ek : x = kV k := by
    cases vx with
    | int i => cases k1; rfl
    | str i => cases k1; rfl
    | _ => cases k1
   subst ek
   refine wpAny_in_of (zlq rx) hd dd.mapOf ?_
   rw [<- (rel.val k).isSome_eq]
   rcases zgm k rm with ⟨v1, d1, e1, e2, _⟩ | ⟨e1, e2⟩
   · rw [e1]; rw [e2] at q; exact vK (I.tok _) (yN q (.bl _)) rfl
   · rw [e1]; rw [e2] at q; exact vK (I.tok _) (yN q (.bl _)) rfl
  | _ => cases h1
 | NotIn =>
  obtain ⟨b, h1, he⟩ := bS_ (show (inP d e).bind _ = _ from he)
  cases he
  cases vy with
  | lst hs rl =>
   cases ry
   obtain ⟨its, rv, p, _⟩ := I.list hs.sq
   refine SeqAt.notIn_listAt (eqW X.K kd O H 50 d) p.isList (λ w hw => zaU I hk (by show X.A.units + 1 + 50 < cLine; omega) vx rx rv rl (Xu h1) w (by simpa using hw)) ?_
   have := zcZ I hk rv rl h1
   rw [show its.toArray.any (eqW X.K kd O H 50 d) = b by rw [<- this]; simp]
   exact vK (I) (yN q (.bl _)) rfl
  | tup rp hs rl =>
   cases ry
   obtain ⟨its, rv, p, _⟩ := I.tuple hs
   refine SeqAt.notIn_tupleAt (eqW X.K kd O H 50 d) p (λ w hw => zaU I hk (by show X.A.units + 1 + 50 < cLine; omega) vx rx rv rl (Xu h1) w (by simpa using hw)) ?_
   have := zcZ I hk rv rl h1
   rw [show its.toArray.any (eqW X.K kd O H 50 d) = b by rw [<- this]; simp]
   exact vK (I) (yN q (.bl _)) rfl
  | str z =>
   cases vx with
   | str i => cases h1; exact zgb pins s σ H _ _ v u Q I rx ry ⟨_, _, rfl, rfl, yN q (.bl _)⟩
   | _ => cases h1
  | dct hs rm =>
   cases ry
   obtain ⟨k, k1, h1⟩ := bS_ h1
   cases h1
   obtain ⟨z, hd, vs, rel, dd⟩ := zeR I hk hs
   have ek : x = kV k := by
    cases vx with
    | int i => cases k1; rfl
    | str i => cases k1; rfl
    | _ => cases k1
   subst ek
   refine wpAny_notIn_of (zlq rx) hd dd.mapOf ?_
   rw [<- (rel.val k).isSome_eq]
   rcases zgm k rm with ⟨v1, d1, e1, e2, _⟩ | ⟨e1, e2⟩
   · rw [e1]; rw [e2] at q; exact vK (I.tok _) (yN q (.bl _)) rfl
   · rw [e1]; rw [e2] at q; exact vK (I.tok _) (yN q (.bl _)) rfl
  | _ => cases h1
 | Is =>
  obtain ⟨b, h1, he⟩ := bS_ (show (isP d e).bind _ = _ from he)
  cases he
  cases vy with
  | non =>
   refine zoH pins s σ H _ _ v u Q I rx ry ⟨rfl, ?_⟩
   have : decide (x = V.non) = b := by cases vx <;> (cases h1; rfl)
   rw [this]
   exact yN q (.bl b)
  | bl c =>
   cases ry
   exact wpAny_bind (zdr vx rx h1 (wpAny_pure (vK I (yN q (.bl _)) rfl)))
  | _ => cases h1
 | IsNot =>
  obtain ⟨b, h1, he⟩ := bS_ (show (isP d e).bind _ = _ from he)
  cases he
  cases vy with
  | non =>
   refine zmN pins s σ H _ _ v u Q I rx ry ⟨rfl, ?_⟩
   have : decide (x = V.non) = b := by cases vx <;> (cases h1; rfl)
   rw [this]
   exact yN q (.bl _)
  | bl c =>
   cases ry
   exact wpAny_bind (zdr vx rx h1 (wpAny_pure (vK I (yN q (.bl _)) rfl)))
  | _ => cases h1
end
theorem zjg {K : zC} {kd : KD} {O : Addr -> Prop} {H : Hp} {vs : List V} {ds : List D} {i : Int} {d : D} (r : RpL K kd O H vs ds) (h : atI ds i = some d) : ∃ v, atI vs i = some v /\ Rp K kd O H v d := by
 unfold atI at h ⊢
 obtain ⟨j, h1, h2⟩ := bS_ h
 rw [r.length, h1]
 exact r.get h2
def imR (o : Option D) : Option R0 := o.bind λ d => some (.im d)
def ixP (x y : D) : Option R0 := match x with
 | .lst xs => (asI y).bind λ i => imR (atI xs i)
 | .tup xs => (asI y).bind λ i => imR (atI xs i)
 | .str x => (asI y).bind λ i => if x.length <= sizeLine then (atI x.cps.toList i).bind λ c => some (.im (.str ⟨#[c]⟩)) else none
 | .dct kvs => (zlM y).bind λ k => imR (zfD kvs k)
 | _ => none
theorem zdl {o : Option D} {r : R0} (h : imR o = some r) : ∃ d, o = some d /\ r = .im d := by
 obtain ⟨d, h1, h2⟩ := bS_ (show o.bind _ = _ from h)
 cases h2
 exact ⟨d, h1, rfl⟩
section
variable {X : Cx} {kd : KD}
theorem zon {K : zC} {O : Addr -> Prop} {H : Hp} {x : V} {d : D} {k : Key} (vx : Vw K kd O H x d) (e : zlM d = some k) : x = kV k := by
 cases vx with
 | int i => cases e; rfl
 | str i => cases e; rfl
 | _ => cases e
theorem zqZ (hk : KdOk X kd) : IxD X kd ixP := by
 intro value slice pins s σ H x y v u Q I rx ry h hs
 obtain ⟨O, d, e, r, ht, vx, vy, he, q⟩ := h
 cases vx with
 | lst hr rl =>
  obtain ⟨i, h0, he⟩ := bS_ (show (asI e).bind _ = _ from he)
  obtain ⟨rfl, rfl⟩ := XC vy h0
  obtain ⟨d, h1, rfl⟩ := zdl he
  obtain ⟨w, hw, rw'⟩ := zjg rl h1
  exact Wd value slice pins s σ H _ _ v u Q I rx ry ⟨_, _, _, w, rfl, rfl, hr.sq, hw, yN q rw'⟩ hs
 | tup rp hr rl =>
  obtain ⟨i, h0, he⟩ := bS_ (show (asI e).bind _ = _ from he)
  obtain ⟨rfl, rfl⟩ := XC vy h0
  obtain ⟨d, h1, rfl⟩ := zdl he
  obtain ⟨w, hw, rw'⟩ := zjg rl h1
  exact zlh value slice pins s σ H _ _ v u Q I rx ry ⟨_, _, _, w, rfl, rfl, hr, hw, yN q rw'⟩ hs
 | str z =>
  obtain ⟨i, h0, he⟩ := bS_ (show (asI e).bind _ = _ from he)
  obtain ⟨rfl, rfl⟩ := XC vy h0
  obtain ⟨hz, he⟩ := ite_some' he
  obtain ⟨c, h1, he⟩ := bS_ he
  cases he
  exact znL value slice pins s σ H _ _ v u Q I rx ry ⟨_, _, c, rfl, rfl, hz, h1, yN q (.str _)⟩ hs
 | dct hr rm =>
  obtain ⟨k, h1, he⟩ := bS_ (show (zlM e).bind _ = _ from he)
  obtain ⟨d, h2, rfl⟩ := zdl he
  cases rx
  obtain ⟨z, hd, vs, rel, dd⟩ := zeR I hk hr
  have := zon vy h1
  subst this
  rcases zgm k rm with ⟨v1, d1, e1, e2, rp⟩ | ⟨e1, e2⟩
  · rw [h2] at e2
    cases e2
    obtain ⟨w', hw, rw'⟩ := zhq.some_of (v := v1) (o := valueAt vs k) (by rw [<- e1]; exact rel.val k)
    exact tail_any dd.typeIs PySem.F.slot_dict_getitem.lookup (wpAny_getItem_of (zlq ry) dd.mapOf hw ⟨v1, H, I.tok _, rw', yN q rp⟩) hs
  · rw [h2] at e2; cases e2
 | _ => cases he
def cutD (xs : List D) (lo hi : Option Int) : List D := (xs.drop (HT.sIx xs.length 0 lo)).take (HT.sIx xs.length xs.length hi - HT.sIx xs.length 0 lo)
theorem zjh {K : zC} {O : Addr -> Prop} {H : Hp} {vs : List V} {ds : List D} (r : RpL K kd O H vs ds) (lo hi : Option Int) : RpL K kd O H (zgM vs lo hi) (cutD ds lo hi) := by
 unfold zgM cutD
 rw [r.length]
 exact (r.drop _).take _
def slP (x : D) (lo hi : Option Int) : Option R0 := match x with
 | .lst xs => some (.fl (cutD xs lo hi))
 | .tup xs => if HT.sIx xs.length 0 lo = 0 /\ HT.sIx xs.length xs.length hi = xs.length then none else some (.im (.tup (cutD xs lo hi)))
 | _ => none
abbrev OF := AS -> Option (Option Int × AS)
def oN : OF := λ as => some (none, as)
def oS (f : EF) : OF := λ as => (f as).bind λ p => (rvI p.1).bind λ i => some (some i, p.2)
def fSl (fa : EF) (fl fh : OF) (g : D -> Option Int -> Option Int -> Option R0) : EF := λ as => (fa as).bind λ p => (fl p.2).bind λ l => (fh l.2).bind λ h => (p.1.frz.view h.2).bind λ x => (g x.1 l.1 h.1).bind λ r => (wrap x.2 r).bind λ z => some (z, h.2)
def alO (K : zC) (kd : KD) (f : OF) : TO := λ σ H Q => ∃ F B ad as o as', Rel K kd F B [] ad as σ H /\ f as = some (o, as') /\
 ∀ ad' H', Rel K kd F B [] ad' as' σ H' -> Grow (Gw [] ad) H (Gw [] ad') H' -> Q o H'
@[irreducible] def AO (X : Cx) (kd : KD) (e : Option Expr) (f : OF) : Prop := PO X e (alO X.K kd f)
theorem zjZ {e : Option Expr} {t t' : TO} (h : PO X e t) (k : ∀ σ H Q, t' σ H Q -> t σ H Q) : PO X e t' := λ pins s σ H Q I q => h pins s σ H Q I (k σ H Q q)
theorem Vx : AO X kd none oN := by with_unfolding_all exact (zjZ zmy λ σ H Q h => by
 obtain ⟨F, B, ad, as, o, as', R, e, q⟩ := h
 cases e
 exact q ad H R Grow.refl)
theorem zoF {K : zC} {F B : Addr -> Prop} {T : List Addr} {ad : Ad} {σ : St} {H : Hp} {v : V} {st : Bool} {c : Int} (h : vZ K kd F B T ad σ H v (.ow (.lf st (.int c)))) : T = [] /\ v = .int c := by
 have h : RoS K kd F B (Gw T ad) H v (.lf st (.int c)) T := h
 generalize hT : Gw T ad = G at h
 cases h with
 | lf rp => cases rp; exact ⟨rfl, rfl⟩
theorem vm {a : Expr} {fa : EF} (ha : AE X kd a fa) : AO X kd (some a) (oS fa) := by with_unfolding_all exact (zjZ (zmi ha) λ σ H Q h => by
 obtain ⟨F, B, ad, as, o, as', R, e, q⟩ := h
 obtain ⟨⟨p, as1⟩, h1, e⟩ := bS_ (show (fa as).bind _ = _ from e)
 obtain ⟨i, e1, e⟩ := bS_ e
 obtain ⟨st, rfl⟩ := zpj e1
 cases e
 refine ⟨F, B, ad, as, _, _, R, h1, λ v T' ad1 H1 R1 rv1 g1 => ?_⟩
 obtain ⟨rfl, rfl⟩ := zoF rv1
 exact ⟨i, rfl, q ad1 H1 R1 g1⟩)
theorem zqC : SlR X (λ x lo hi H Q => ∃ O d r, (∀ a, O a -> H a ≠ none) /\ Vw X.K kd O H x d /\ slP d lo hi = some r /\ RQ X.K kd O H Q r) := by
 intro pins s σ H x v vl vu lo hi sl Q I rx hs pl pu h
 obtain ⟨O, d, r, ht, vx, he, q⟩ := h
 cases vx with
 | lst hr rl => cases he; exact zmX pins s σ H _ v vl vu lo hi sl Q I rx hs pl pu ⟨_, _, rfl, hr.sq, zbB q (zjh rl lo hi)⟩
 | tup rp hr rl =>
  have he : (if _ then none else some _ : Option R0) = _ := he
  split at he
  · cases he
  · rename_i hw
    cases he
    exact zox pins s σ H _ v vl vu lo hi sl Q I rx hs pl pu ⟨_, _, rfl, hr, by rw [rl.length]; exact hw, zgl ht q (zjh rl lo hi)⟩
 | _ => cases he
theorem ZM {a : Expr} {lo hi : Option Expr} {fa : EF} {fl fh : OF} {pos p2 : Pos} (ha : AE X kd a fa) (hl : AO X kd lo fl) (hh : AO X kd hi fh) : AE X kd (.Subscript a (.Slice lo hi none p2) pos) (fSl fa fl fh slP) := by with_unfolding_all exact (xU (zgW zqC ha hl hh) λ σ H Q h => by
 obtain ⟨F, B, ad, as, r, as', R, e, q⟩ := h
 obtain ⟨⟨p, as1⟩, h1, e⟩ := bS_ (show (fa as).bind _ = _ from e)
 obtain ⟨⟨l, as2⟩, h2, e⟩ := bS_ e
 obtain ⟨⟨u, as3⟩, h3, e⟩ := bS_ e
 obtain ⟨⟨d, lv⟩, h4, e⟩ := bS_ e
 obtain ⟨r', h5, e⟩ := bS_ e
 obtain ⟨z, h6, e⟩ := bS_ e
 cases e
 refine WR R h1 λ v ad1 H1 R1 rv1 g1 => ⟨F, B, ad1, as1, l, as2, R1, h2, λ ad2 H2 R2 g2 => ⟨F, B, ad2, as2, u, _, R2, h3, λ ad3 H3 R3 g3 => ?_⟩⟩
 exact ⟨_, d, r', R3.tr _, vZ.vw R3 ((rv1.grow g2).grow g3) h4, h5, Vz R3 h6 λ w T' H' R' rv' g' => q w T' ad3 H' R' rv' (((g1.trans g2).trans g3).trans g')⟩)
def tyD : D -> String
 | .non => "NoneType" | .bl _ => "bool" | .int _ => "int" | .str _ => "str" | .tup _ => "tuple" | .lst _ => "list" | .dct _ => "dict" | _ => ""
def zit : D -> Bool
 | .cl _ => false | .ob _ _ _ => false | _ => true
def zeX (t c : String) : Bool := t == c || (t == "bool" && c == "int")
def zbd (c : String) : Bool := c == "int" || c == "bool" || c == "str" || c == "list" || c == "tuple" || c == "dict"
theorem zpf (K : zC) (d : D) (c : String) (h : zbd c = true) (ho : zit d = true) : PySem.W.kitOne K (.type (tyD d)) (.type c) = some (zeX (tyD d) c) := by
 have : c = "int" \/ c = "bool" \/ c = "str" \/ c = "list" \/ c = "tuple" \/ c = "dict" := by
  unfold zbd at h
  simp only [Bool.or_eq_true, beq_iff_eq] at h
  rcases h with ((((h | h) | h) | h) | h) | h <;> simp [h]
 rcases this with rfl | rfl | rfl | rfl | rfl | rfl <;> cases d <;> first | rfl | cases ho
theorem zou (hk : KdOk X kd) {pins : List (Addr × Obj)} {σ : St} {H : Hp} {s : Shared} {O : Addr -> Prop} {A : Around} {E : Value -> Shared -> Prop} {Q : Value -> Shared -> Prop} {c : String} {x : V} {u : Value} {d : D} (I : Inv X pins σ H s) (rx : RelV x u) (vx : Vw X.K kd O H x d) (hc : zbd c = true) (ho : zit d = true)
 (h : ∀ tk, Q (.bool (zeX (tyD d) c)) { s with toks := tk }) : wpAny (model X.prog X.w) A (call (.builtin "isinstance") [u, .type c]) Q E s := by
 have e := zpf X.K d c hc ho
 cases vx with
 | non => cases rx; exact PySem.W.kia_one PySem.W.kitx_none I.kIn True.intro e (λ z => nomatch z) h
 | bl y => cases rx; exact PySem.W.kia_one PySem.W.kitx_bool I.kIn True.intro e (λ z => nomatch z) h
 | int i => obtain ⟨t, rfl⟩ := rx; exact PySem.W.kia_one PySem.W.kitx_int I.kIn True.intro e (λ z => nomatch z) h
 | str y => obtain ⟨t, rfl⟩ := rx; exact PySem.W.kia_one PySem.W.kitx_str I.kIn True.intro e (λ z => nomatch z) h
 | lst hr rl =>
  cases rx
  obtain ⟨its, rv, ⟨o, n, h1, h2, _⟩, _⟩ := I.list hr.sq
  exact PySem.W.kia_one PySem.W.kitx_list I.kIn ⟨o, h1, h2⟩ e (λ z => nomatch z) h
 | tup rp hr rl =>
  cases rx
  obtain ⟨its, rv, ⟨o, h1, h2, _⟩, _⟩ := I.tuple hr
  exact PySem.W.kia_one PySem.W.kitx_tuple I.kIn ⟨o, h1, h2⟩ e (λ z => nomatch z) h
 | dct hr rm =>
  cases rx
  obtain ⟨z, hd, vs, rel, ⟨o, es, ep, h1, h2, _⟩⟩ := zeR I hk hr
  exact PySem.W.kia_one PySem.W.kitx_dict I.kIn ⟨o, h1, h2.1⟩ e (λ z => nomatch z) h
 | cl => cases ho
 | ob => cases ho
end
def Wn : List D -> Option (List Int)
 | [] => some []
 | .int i :: r => (Wn r).bind λ s => some (i :: s)
 | _ :: _ => none
def zpe : List Int -> Int
 | [] => 0
 | x :: r => r.foldl (λ a b => if a < b then b else a) x
theorem zeT : ∀ (r : List Int) (x : Int), r.foldl (λ a b => if a < b then b else a) x ∈ x :: r /\ ∀ a ∈ x :: r, a <= r.foldl (λ a b => if a < b then b else a) x
 | [], x => ⟨by simp, by simp⟩
 | y :: r, x => by
  rw [List.foldl_cons]
  obtain ⟨h1, h2⟩ := zeT r (if x < y then y else x)
  refine ⟨?_, λ a ha => ?_⟩
  · rcases zzA.mp h1 with e | e
    · rw [e]; split <;> simp
    · exact zzB _ (zzB _ e)
  · have h3 := h2 _ zzD
    rcases zzA.mp ha with e | e
    · subst e; exact Int.le_trans (by split <;> omega) h3
    · rcases zzA.mp e with e | e
      · subst e; exact Int.le_trans (by split <;> omega) h3
      · exact h2 a (zzB _ e)
theorem zlP {ns : List Int} {M : Int} (h1 : M ∈ ns) (h2 : ∀ a ∈ ns, a <= M) : zpe ns = M := by
 cases ns with
 | nil => simp at h1
 | cons x r =>
  obtain ⟨k1, k2⟩ := zeT r x
  have a1 := k2 M h1
  have a2 := h2 _ k1
  show r.foldl _ x = M
  omega
def on1 (f : D -> Option R0) (ds : List D) : Option R0 := match ds with
 | [x] => f x
 | _ => none
theorem zdA {K : zC} {kd : KD} {O : Addr -> Prop} {H : Hp} {f : D -> Option R0} {xs : List V} {ds : List D} {r : R0} (vl : VwL K kd O H xs ds) (h : on1 f ds = some r) : ∃ x d, xs = [x] /\ Vw K kd O H x d /\ f d = some r := by
 cases vl with
 | nil => cases h
 | cons a b =>
  cases b with
  | nil => exact ⟨_, _, rfl, a, h⟩
  | cons _ _ => cases h
def zrq : D -> Option R0
 | .lst ds => some (.im (.int ds.length))
 | .tup ds => some (.im (.int ds.length))
 | .str x => if x.length <= sizeLine then some (.im (.int x.length)) else none
 | .dct kvs => some (.im (.int kvs.length))
 | _ => none
def zcG : List D -> Option R0 := on1 zrq
def zqT : D -> Option R0
 | .int i => some (.im (.int i))
 | .bl b => some (.im (.int (if b then 1 else 0)))
 | _ => none
def zri : D -> Option R0
 | .lst ds => some (.fl ds)
 | .tup ds => some (.fl ds)
 | _ => none
def lstP : List D -> Option R0 := on1 zri
def znP (ds : List D) : Option R0 := match ds with
 | [x, y] => onI (λ i j => some (.im (.int (if j > i then j else i)))) x y
 | [x] => (asL x).bind λ ds => (Wn ds).bind λ ns => if 0 < ns.length then some (.im (.int (zpe ns))) else none
 | _ => none
theorem zmP {K : zC} {kd : KD} {O : Addr -> Prop} {H : Hp} {xs : List V} {d : D} (h : VwL K kd O H xs [d]) : ∃ x, xs = [x] /\ Vw K kd O H x d := by
 cases h with
 | cons a b => cases b; exact ⟨_, rfl, a⟩
theorem znc {K : zC} {kd : KD} {O : Addr -> Prop} {H : Hp} {xs : List V} {d e : D} (h : VwL K kd O H xs [d, e]) : ∃ x y, xs = [x, y] /\ Vw K kd O H x d /\ Vw K kd O H y e := by
 cases h with
 | cons a b =>
  cases b with
  | cons b c => cases c; exact ⟨_, _, rfl, a, b⟩
theorem zkE {K : zC} {kd : KD} {O : Addr -> Prop} {H : Hp} {vs : List V} {ds : List D} {ns : List Int} (h : RpL K kd O H vs ds) (e : Wn ds = some ns) : vs = ns.map V.int :=
 RpL.ind (P := λ vs ds => ∀ ns, Wn ds = some ns -> vs = ns.map V.int) (λ ns e => by cases e; rfl) (λ {v d vs ds} a _ ih ns e => by
  cases d with
  | int i =>
   obtain ⟨s, h1, h2⟩ := bS_ (show (Wn _).bind _ = _ from e)
   cases h2
   cases a
   rw [ih _ h1]
   rfl
  | _ => cases e) h ns e
section
variable {X : Cx} {kd : KD}
theorem Yn (hk : KdOk X kd) : CallD X kd (.builtin "len") zcG := by
 intro pins s σ H xs us Q I r h
 obtain ⟨O, ds, z, ht, vl, he, q⟩ := h
 obtain ⟨x, d, rfl, vx, he⟩ := zdA vl he
 cases vx with
 | lst hr rl => cases he; exact Xy pins s σ H _ us Q I r ⟨_, _, rfl, .inl hr.sq, by rw [rl.length]; exact yN q (.int _)⟩
 | tup rp hr rl => cases he; exact Xy pins s σ H _ us Q I r ⟨_, _, rfl, .inr hr, by rw [rl.length]; exact yN q (.int _)⟩
 | str y =>
  obtain ⟨c, rfl⟩ := yc he
  exact zfQ pins s σ H _ us Q I r ⟨_, rfl, c, yN q (.int _)⟩
 | dct hr rm =>
  cases he
  obtain ⟨u, rfl, ru⟩ := vals1 r
  cases ru
  obtain ⟨z, hd, vs, rel, dd⟩ := zeR I hk hr
  refine call_len_dict hd dd (by rw [<- rel.length]; rw [sizeLine_eq] at z; omega) ?_
  rw [<- rel.length, rm.length]
  exact ⟨.int _, H, I.tok _, ⟨_, rfl⟩, yN q (.int _)⟩
 | _ => cases he
theorem Yo : CallD X kd (.type "list") lstP := by
 intro pins s σ H xs us Q I r h
 obtain ⟨O, ds, z, ht, vl, he, q⟩ := h
 obtain ⟨x, d, rfl, vx, he⟩ := zdA vl he
 cases vx with
 | lst hr rl => cases he; exact zbl pins s σ H _ us Q I r ⟨_, _, rfl, .inl hr.sq, zbB q rl⟩
 | tup rp hr rl => cases he; exact zbl pins s σ H _ us Q I r ⟨_, _, rfl, .inr hr, zbB q rl⟩
 | _ => cases he
theorem zjC (hc : X.calm = true) : CallD X kd (.builtin "max") znP := by
 intro pins s σ H xs us Q I r h
 obtain ⟨O, ds, z, ht, vl, he, q⟩ := h
 cases vl with
 | nil => cases he
 | cons vx vl =>
  cases vl with
  | nil =>
   obtain ⟨ds, h0, he⟩ := bS_ (show (asL _).bind _ = _ from he)
   cases zbP h0
   obtain ⟨ns, h1, he⟩ := bS_ he
   obtain ⟨c, rfl⟩ := yc he
   cases vx with
   | lst hr rl =>
    obtain ⟨u, rfl, ru⟩ := vals1 r
    cases ru
    obtain ⟨its, rv, p, _⟩ := I.list hr.sq
    rw [zkE rl h1] at rv
    have hi := intsAre_of rv
    obtain ⟨ys, e⟩ := hi.allInts.items
    have hns : ns = ys.toList.map (·.1) := by rw [<- hi.numsOf, <- nums_intItems, <- e]
    have hsz : 0 < ys.size := by
     have h3 := c; rw [hns, zD, Array.length_toList] at h3; exact h3
    have hl := p.isList
    rw [e] at hl
    refine max_intList (I.ok.hd hc) hl hsz λ v h' tk hv kp => ?_
    obtain ⟨t, rfl⟩ := intItems_at hv
    obtain ⟨k1, k2⟩ := argBest_gt (numAt ys) (ys.size - 1)
    refine ⟨.int (zpe ns), H, I.kept kp, ⟨t, ?_⟩, yN q (.int _)⟩
    congr 1
    refine (zlP ?_ λ a ha => ?_).symm
    · rw [hns, numAt_eq]
      have hlt : argBest (λ i j => decide (numAt ys i > numAt ys j)) (ys.size - 1) < (ys.toList.map (·.1)).length := by rw [zD, Array.length_toList]; omega
      rw [List.getD_eq_getElem?_getD, zzC hlt]
      exact List.getElem_mem hlt
    · rw [hns] at ha
      obtain ⟨j, hj, rfl⟩ := List.getElem_of_mem ha
      have hj' := hj
      rw [zD, Array.length_toList] at hj
      have := k2 j (by omega)
      rw [numAt_eq ys j, List.getD_eq_getElem?_getD, zzC hj'] at this
      exact this
  | cons vy vl =>
   cases vl with
   | nil =>
    obtain ⟨i, j, rfl, rfl, he⟩ := Wf vx vy he
    cases he
    exact zjs hc pins s σ H _ us Q I r ⟨_, _, rfl, yN q (.int _)⟩
   | cons _ _ => cases he
end
def vH (env : Env) : List (Str × NameKind) -> List (Str × Addr) -> List (Str × Addr)
 | [], cs => cs
 | (n, k) :: r, cs => vH env r (if k == .free then ((n, (env.cells.lookup n).getD 0) :: cs) else cs)
theorem zac {scope : Scope} {env : Env} (h : ∀ x ∈ scope.names, x.2 = .free -> ∃ c, env.cells.lookup x.1 = some c) : closureFor scope env = pure (vH env scope.names []) := by
 have go : ∀ (names : List (Str × NameKind)) (cs : List (Str × Addr)) (f : Str × NameKind -> List (Str × Addr) -> Sem (ForInStep (List (Str × Addr)))),
  (∀ name kind cs, f (name, kind) cs = if kind == .free then (do let a <- cellOf env name; pure (.yield ((name, a) :: cs))) else pure (.yield cs)) ->
  (∀ x ∈ names, x.2 = .free -> ∃ c, env.cells.lookup x.1 = some c) -> (forIn names cs f : Sem (List (Str × Addr))) = pure (vH env names cs) := by
  intro names
  induction names with
  | nil => intro cs f _ _; rfl
  | cons x r ih =>
   intro cs f hf hx
   obtain ⟨n, k⟩ := x
   rw [List.forIn_cons, hf]
   unfold vH
   by_cases hk : (k == .free) = true
   · obtain ⟨c, hc⟩ := hx (n, k) zzD (by simpa using hk)
     rw [if_pos hk, if_pos hk]
     have e : cellOf env n = pure c := by unfold cellOf; rw [hc]
     rw [e, hc]
     exact ih _ f hf λ y hy => hx y (zzB _ hy)
   · rw [if_neg hk, if_neg hk]
     exact ih _ f hf λ y hy => hx y (zzB _ hy)
 simp only [closureFor]
 rw [go scope.names [] _ (λ name kind cs => ?_) h]
 · rfl
 · rfl
theorem zeZ {env : Env} : ∀ (names : List (Str × NameKind)) (cs : List (Str × Addr)) (p : Str × Addr), p ∈ vH env names cs -> p ∈ cs \/ ((p.1, NameKind.free) ∈ names /\ p.2 = (env.cells.lookup p.1).getD 0)
 | [], _, _, h => .inl h
 | (n, k) :: r, cs, p, h => by
  unfold vH at h
  rcases zeZ r _ p h with h | h
  · by_cases hk : (k == .free) = true
    · rw [if_pos hk] at h
      rcases zzA.mp h with e | h
      · subst e
        have : k = .free := by simpa using hk
        subst this
        exact .inr ⟨zzD, rfl⟩
      · exact .inl h
    · rw [if_neg hk] at h; exact .inl h
  · exact .inr ⟨zzB _ h.1, h.2⟩
theorem zez {env : Env} : ∀ (names : List (Str × NameKind)) (cs : List (Str × Addr)) (p : Str × Addr), p ∈ cs -> p ∈ vH env names cs
 | [], _, _, h => h
 | (n, k) :: r, cs, p, h => by
  unfold vH
  refine zez r _ p ?_
  split
  · exact zzB _ h
  · exact h
theorem zfy {env : Env} : ∀ (names : List (Str × NameKind)) (cs : List (Str × Addr)) (x : Str), (x, NameKind.free) ∈ names -> (x, (env.cells.lookup x).getD 0) ∈ vH env names cs
 | (n, k) :: r, cs, x, h => by
  unfold vH
  rcases zzA.mp h with e | h
  · cases e
    exact zez r _ _ (by simp)
  · exact zfy r _ x h
theorem Xc {α : Type} {x : Str} {a : α} : ∀ {l : List (Str × α)}, (∀ p ∈ l, p.1 = x -> p.2 = a) -> (∃ b, (x, b) ∈ l) -> l.lookup x = some a
 | [], _, h => by obtain ⟨_, h⟩ := h; cases h
 | (k, v) :: r, u, h => by
  rw [List.lookup_cons]
  cases hb : x == k with
  | true =>
   have := u (k, v) zzD (beq_iff_eq.mp hb).symm
   exact congrArg some this
  | false =>
   refine Xc (λ p hp => u p (zzB _ hp)) ?_
   obtain ⟨b, h⟩ := h
   rcases zzA.mp h with e | h
   · cases e; simp at hb
   · exact ⟨b, h⟩
theorem zbN : ∀ (names : List (Str × NameKind)) (h : Heap) (acc : List (Str × Addr)) (p : Str × Addr), p ∈ cellsFrom h.objs.size names acc ->
 p ∈ acc \/ ((p.1, NameKind.cell) ∈ names /\ (pushCells h names).IsCell p.2 none /\ h.objs.size <= p.2)
 | [], _, _, _, m => .inl m
 | (n, k) :: r, h, acc, p, m => by
  unfold cellsFrom at m
  unfold pushCells
  split at m
  · rename_i hk
    rw [if_pos hk]
    have e : (h.push { cls := .type "cell", data := .cell none }).objs.size = h.objs.size + 1 := Heap.size_push ..
    rw [<- e] at m
    rcases zbN r _ _ p m with m | ⟨m1, m2, m3⟩
    · rcases zzA.mp m with e2 | m
      · subst e2
        have : k = .cell := by simpa using hk
        subst this
        refine .inr ⟨zzD, ?_, zzL _⟩
        have z : (h.push { cls := .type "cell", data := .cell none }).IsCell h.objs.size none := ⟨_, Heap.get?_push_size _ rfl, rfl⟩
        exact z.keeps (pushCells_keeps r _)
      · exact .inl m
    · exact .inr ⟨zzB _ m1, m2, by rw [e] at m3; omega⟩
  · rename_i hk
    rw [if_neg hk]
    rcases zbN r h acc p m with m | ⟨m1, m2, m3⟩
    · exact .inl m
    · exact .inr ⟨zzB _ m1, m2, m3⟩
theorem Wh : ∀ (names : List (Str × NameKind)) (n : Nat) (acc : List (Str × Addr)) (p : Str × Addr), p ∈ acc -> p ∈ cellsFrom n names acc
 | [], _, _, _, m => m
 | (_, k) :: r, n, acc, p, m => by
  unfold cellsFrom
  split
  · exact Wh r _ _ p (zzB _ m)
  · exact Wh r _ _ p m
theorem zbQ : ∀ (names : List (Str × NameKind)) (n : Nat) (acc : List (Str × Addr)) (x : Str), (x, NameKind.cell) ∈ names -> ∃ c, (x, c) ∈ cellsFrom n names acc
 | (y, k) :: r, n, acc, x, m => by
  unfold cellsFrom
  rcases zzA.mp m with e | m
  · cases e
    rw [if_pos (by decide)]
    exact ⟨n, Wh r _ _ _ zzD⟩
  · split
    · exact zbQ r _ _ x m
    · exact zbQ r _ _ x m
theorem zca : ∀ (names : List (Str × NameKind)) (n : Nat) (acc : List (Str × Addr)), (∀ p ∈ acc, p.2 < n) -> (∀ p ∈ acc, ∀ q ∈ acc, p.2 = q.2 -> p.1 = q.1) -> ∀ p ∈ cellsFrom n names acc, ∀ q ∈ cellsFrom n names acc, p.2 = q.2 -> p.1 = q.1
 | [], _, _, _, h => h
 | (y, k) :: r, n, acc, lt, h => by
  unfold cellsFrom
  split
  · refine zca r (n + 1) _ (λ p m => ?_) (λ p m q m' e => ?_)
    · rcases zzA.mp m with z | m
      · subst z; exact Nat.lt_succ_self _
      · exact Nat.lt_succ_of_lt (lt p m)
    · rcases zzA.mp m with z | m
      · rcases zzA.mp m' with z' | m'
        · rw [z, z']
        · subst z; have := lt q m'; rw [<- e] at this; exact absurd this (Nat.lt_irrefl _)
      · rcases zzA.mp m' with z' | m'
        · subst z'; have := lt p m; rw [e] at this; exact absurd this (Nat.lt_irrefl _)
        · exact h p m q m' e
  · exact zca r n acc lt h
section
variable {M : Model} {A : Around} {E : Value -> Shared -> Prop} {s : Shared}
def Vr (scope : Scope) (env : Env) (cl : List (Str × Addr)) (L : Addr) : Env :=
 { scope := relabel scope env, locals := L, globals := env.globals, cells := cellsFrom (L + 1) scope.names cl, qual := env.qual, func := none, code := env.code, frame := env.frame, builtins := env.builtins }
theorem zfG {scope : Scope} {env : Env} {cl : List (Str × Addr)} {Q : Env -> Shared -> Prop}
 (h : ∀ h' env', { env' with scope := relabel scope env } = Vr scope env cl s.heap.objs.size -> env'.locals = s.heap.objs.size -> (∀ b o, s.heap.get? b = some o -> h'.get? b = some o) -> h'.Ns s.heap.objs.size (λ _ => none) ->
  (∀ p ∈ cellsFrom (s.heap.objs.size + 1) scope.names cl, p ∈ cl \/ ((p.1, NameKind.cell) ∈ scope.names /\ h'.IsCell p.2 none /\ s.heap.objs.size + 1 <= p.2)) -> Q env' { s with heap := h' }) :
 wpAny M A (newFunctionEnv scope env.globals cl [] env.qual none .none (some env)) Q E s := by
 simp only [newFunctionEnv, Option.isSome_some, if_true]
 refine wpAny_bind (wpAny_alloc ?_)
 refine wpAny_bind (wpAny_layCells _ (λ name kind cells => by cases hkc : kind == NameKind.cell <;> simp [hkc]) _ _ _ _ ?_)
 have e : (s.heap.push { cls := .type "dict", data := .dict #[] }).objs.size = s.heap.objs.size + 1 := Heap.size_push ..
 refine wpAny_bind (wpAny_pure (wpAny_pure (h _ _ ?_ rfl (λ b o q => pushCells_keeps _ _ b o (Heap.get?_push_of_some _ q)) ((Heap.Ns.new s.heap (.type "dict")).keeps (pushCells_keeps _ _)) λ p m => ?_)))
 · unfold Vr
   rw [<- e]
 · rw [<- e] at m
   rcases zbN _ _ _ p m with m | ⟨m1, m2, m3⟩
   · exact .inl m
   · exact .inr ⟨m1, m2, by rw [e] at m3; exact m3⟩
end
abbrev vp (X : Cx) (N : List Str) (scope : Scope) (cl : List (Str × Addr)) (s : Shared) (H : Hp) (fp : List Addr) : Cx :=
 { X with N := N, s₀ := s, H₀ := H, env := Vr scope X.env cl (s.heap.objs.size + 1), outer := X.stack, ex := fp, fn := λ x => scope.names.lookup x == some .cell, pn := [], xe := λ _ _ => False }
def zqo (σ : St) : Option Nat -> Option V
 | none => none
 | some j => (σ[j]?).getD none
def Zj (cap : List (Option Nat)) (σ : St) : St := cap.map (zqo σ)
def wB (N XN : List Str) (names : List (Str × NameKind)) (envNames : List (Str × NameKind)) (cap : List (Option Nat)) : Bool :=
 N.length == cap.length && (N.zip cap).all (λ p => match p.2 with | none => true | some j => XN[j]? == some p.1 && names.contains (p.1, NameKind.free)) &&
 names.all (λ p => p.2 != .free || envNames.lookup p.1 == some .cell || envNames.lookup p.1 == some .free) && decide (names.map (·.1)).Nodup
def PTs (X : Cx) (ifs : List Expr) (t : TT) : Prop :=
 ∀ (pins : List (Addr × Obj)) (s : Shared) (σ : St) (H : Hp) (Q : Bool -> Hp -> Prop), Inv X pins σ H s -> t σ H Q ->
  wpAny (model X.prog X.w) X.A (forIn ifs true λ c r => if r = true then do let ok <- isTrue c X.env (eval c X.env); pure (ForInStep.yield ok) else pure (ForInStep.yield r)) (TP X pins σ Q) X.xe s
theorem zlR {X : Cx} : PTs X [] (λ _ H Q => Q true H) := λ pins s σ H Q I h => wpAny_tests_nil ⟨H, I, h⟩
theorem zlO {X : Cx} {c : Expr} {t : TT} (h : PT X c t) : PTs X [c] t := λ pins s σ H Q I q => wpAny_tests_one (h pins s σ H Q I q)
def zlk (wi : TI) (cap : List (Option Nat)) (g : TG) (tt : TT) (te : TE) : TE := λ σ H Q => wi σ H λ J H1 => ∃ W : Nat -> Nat -> List V -> Hp -> Prop, (∃ m, W 0 m [] H1) /\ ∀ i m ys H, W i m ys H -> ys.length <= sizeLine /\
 ((J.stop i H /\ ∀ p, H p = none -> Q (.ref p) (upd H p (.lst ys))) \/ (J.go i H /\ ∀ x H', J.yld i H x H' -> g x (Zj cap σ) H' λ σ2 H2 => (∀ (j : Nat) v, (Zj cap σ)[j]? = some (some v) -> σ2[j]? = some (some v)) /\
   tt σ2 H2 λ b H3 => if b = true then ys.length < sizeLine /\ te σ2 H3 λ y H4 => ∃ m', m' < m /\ W (i + 1) m' (ys ++ [y]) H4 else ∃ m', m' < m /\ W (i + 1) m' ys H3))
section
variable {prog : Program} {w : World} {A : Around} {E : Value -> Shared -> Prop} {R : Result -> Shared -> Prop} {s : Shared}
theorem zga {elt target iter : Expr} {ifs : List Expr} {scope : Scope} {pos : Pos} {it acc : Value} {env : Env} (I : Nat -> Shared -> Prop)
 (turn : ∀ n s (E : Value -> Shared -> Prop), I n s -> wpAny (model prog w) A (pyNext it) (λ r s₁ => match r with
  | none => R (.ok .next) s₁
  | some v => wpAny (model prog w) A (letOwnedTupleGo target it v) (λ _ s₁ => wpAny (model prog w) A (assign target env v) (λ _ s₂ =>
   wpAny (model prog w) A (forIn ifs true λ c r => if r = true then do let ok <- isTrue c env (eval c env); pure (ForInStep.yield ok) else pure (ForInStep.yield r)) (λ ok s₃ =>
    if ok = true then wpAny (model prog w) A (eval elt env) (λ x s₄ =>
     wpAny (model prog w) A (call (.builtin "list.append") [acc, x]) (λ _ s₅ => ∃ m, m < n /\ I m s₅) E s₄) E s₃
    else ∃ m, m < n /\ I m s₃) E s₂) E s₁) E s₁) E s)
 (n : Nat) (h : I n s) :
 codeAny (model prog w) A (.compLoop (.ListComp elt [⟨target, iter, ifs, 0⟩] scope pos) 0 it acc env) R s := by
 refine codeAny_loop rfl I (λ n s hI => ?_) n h
 show wpAny _ A ((compTurn (.ListComp elt [⟨target, iter, ifs, 0⟩] scope pos) 0 it acc env).onRaise (λ x => do noteFrame x env; theTreesLotGoes x)) _ _ s
 refine wpAny_noted ?_
 rw [compTurn_list]
 refine wpAny_bind (wpAny_standAt (wpAny_bind (wpAny_mono (turn n s _ hI) (λ r s₁ h₁ => ?_) λ _ _ h' => h')))
 cases r with
 | none => exact wpAny_pure h₁
 | some v =>
  refine wpAny_bind (wpAny_mono h₁ (λ _ s₁ h₁ => ?_) λ _ _ h' => h')
  refine wpAny_bind (wpAny_mono h₁ (λ _ s₂ h₂ => wpAny_bind (wpAny_mono h₂ (λ ok s₃ h₃ => ?_) λ _ _ h' => h')) λ _ _ h' => h')
  cases ok with
  | false => exact wpAny_pure ⟨rfl, h₃⟩
  | true =>
   exact wpAny_bind (wpAny_bind (wpAny_mono h₃ (λ x s₄ h₄ => wpAny_bind (wpAny_mono h₄ (λ _ s₅ h₅ => wpAny_pure (wpAny_pure ⟨rfl, h₅⟩)) λ _ _ h' => h')) λ _ _ h' => h'))
end
structure CapOk (N XN : List Str) (names : List (Str × NameKind)) (envNames : List (Str × NameKind)) (cap : List (Option Nat)) : Prop where
 len : N.length = cap.length
 at_ : ∀ (i : Nat) x (j : Nat), N[i]? = some x -> cap[i]? = some (some j) -> XN[j]? = some x /\ (x, NameKind.free) ∈ names
 fr : ∀ p ∈ names, p.2 = .free -> envNames.lookup p.1 = some .cell \/ envNames.lookup p.1 = some .free
 nd : (names.map (·.1)).Nodup
theorem zha {N XN : List Str} {names envNames : List (Str × NameKind)} {cap : List (Option Nat)} (h : wB N XN names envNames cap = true) : CapOk N XN names envNames cap := by
 unfold wB at h
 simp only [Bool.and_eq_true, beq_iff_eq, List.all_eq_true, decide_eq_true_eq] at h
 obtain ⟨⟨⟨h1, h2⟩, h3⟩, h4⟩ := h
 refine ⟨h1, λ i x j e1 e2 => ?_, λ p hp e => ?_, h4⟩
 · have m : (x, some j) ∈ N.zip cap := List.mem_of_getElem? (i := i) (by rw [List.getElem?_zip_eq_some]; exact ⟨e1, e2⟩)
   have := h2 _ m
   simp only [Bool.and_eq_true, beq_iff_eq] at this
   exact ⟨this.1, by simpa using this.2⟩
 · have := h3 p hp
   rw [e] at this
   simpa using this
theorem zgy {names : List (Str × NameKind)} (h : (names.map (·.1)).Nodup) {x : Str} {k k' : NameKind} (m : (x, k) ∈ names) (m' : (x, k') ∈ names) : k = k' := by
 induction names with
 | nil => cases m
 | cons p r ih =>
  obtain ⟨h1, h2⟩ := zzU.mp (show (p.1 :: r.map (·.1)).Nodup from h)
  rcases zzA.mp m with e | m
  · rcases zzA.mp m' with e' | m'
    · rw [<- e] at e'; cases e'; rfl
    · exact absurd (List.mem_map.mpr ⟨_, m', by rw [<- e]⟩) h1
  · rcases zzA.mp m' with e' | m'
    · exact absurd (List.mem_map.mpr ⟨_, m, by rw [<- e']⟩) h1
    · exact ih h2 m m'
theorem zbG {names : List (Str × NameKind)} (h : (names.map (·.1)).Nodup) {x : Str} {k : NameKind} (m : (x, k) ∈ names) : names.lookup x = some k :=
 Xc (λ p hp e => by obtain ⟨y, k'⟩ := p; cases (show y = x from e); exact zgy h hp m) ⟨k, m⟩
theorem WF {env : Env} {scope : Scope} (x : Str) : (relabel scope env).names.lookup x = (scope.names.lookup x).map λ k => if (k == .free && env.scope.kind == .function && env.kindOf x == some .cell) = true then NameKind.cell else k := by
 unfold relabel
 show (scope.names.map _).lookup x = _
 generalize scope.names = names
 induction names with
 | nil => rfl
 | cons p r ih =>
  obtain ⟨n, k⟩ := p
  rw [List.map_cons, List.lookup_cons (k := n) (as := r)]
  cases hb : x == n with
  | true =>
   have e : x = n := beq_iff_eq.mp hb
   subst e
   show List.lookup x ((if (k == NameKind.free && env.scope.kind == .function && env.kindOf x == some .cell) = true then (x, NameKind.cell) else (x, k)) :: _) = _
   show _ = some (if (k == NameKind.free && env.scope.kind == .function && env.kindOf x == some .cell) = true then NameKind.cell else k)
   split
   · rw [List.lookup_cons, hb]
   · rw [List.lookup_cons, hb]
  | false =>
   show List.lookup x ((if (k == NameKind.free && env.scope.kind == .function && env.kindOf n == some .cell) = true then (n, NameKind.cell) else (n, k)) :: _) = _
   split
   · rw [List.lookup_cons, hb]; exact ih
   · rw [List.lookup_cons, hb]; exact ih
theorem zhX {X : Cx} {pins : List (Addr × Obj)} {σ : St} {H : Hp} {s : Shared} {N : List Str} {scope : Scope} {cap : List (Option Nat)} {fp : List Addr} {h' : Heap} (I : Inv X pins σ H s) (C : CapOk N X.N scope.names X.env.scope.names cap) (hk : scope.kind = .function)
 (hf : ∀ b ∈ fp, zcR X pins H b) (ho : ∀ b ∈ fp, ∃ o, s.heap.get? b = some o)
 (old : ∀ b o, s.heap.get? b = some o -> h'.get? b = some o) (ns : h'.Ns (s.heap.objs.size + 1) (λ _ => none))
 (hc : ∀ p ∈ cellsFrom (s.heap.objs.size + 1 + 1) scope.names (vH X.env scope.names []), p ∈ vH X.env scope.names [] \/ ((p.1, NameKind.cell) ∈ scope.names /\ h'.IsCell p.2 none /\ s.heap.objs.size + 1 + 1 <= p.2)) :
 Inv (vp X N scope (vH X.env scope.names []) s H fp) [] (Zj cap σ) H { s with heap := h' } := by
 have has : ∀ x, (x, NameKind.free) ∈ scope.names -> ∃ c, X.env.cells.lookup x = some c := λ x m => I.ok.has x (C.fr _ m rfl)
 have clo : ∀ p ∈ vH X.env scope.names [], X.env.cells.lookup p.1 = some p.2 /\ (p.1, NameKind.free) ∈ scope.names := λ p m => by
  rcases zeZ _ _ p m with z | ⟨z1, z2⟩
  · cases z
  · obtain ⟨c, e⟩ := has _ z1
    rw [e] at z2
    exact ⟨by rw [e]; exact congrArg some z2.symm, z1⟩
 have look : ∀ x c, (cellsFrom (s.heap.objs.size + 1 + 1) scope.names (vH X.env scope.names [])).lookup x = some c -> (X.env.cells.lookup x = some c /\ (x, NameKind.free) ∈ scope.names) \/ ((x, NameKind.cell) ∈ scope.names /\ h'.IsCell c none /\ s.heap.objs.size + 1 + 1 <= c) := λ x c e => by
  rcases hc _ (mem_of_lookup e) with m | m
  · exact .inl (clo _ m)
  · exact .inr m
 have lt : ∀ x c, X.env.cells.lookup x = some c -> c < s.heap.objs.size := λ x c e => by obtain ⟨v, z⟩ := I.cell x c e; exact z.lt
 have lookF : ∀ x, (x, NameKind.free) ∈ scope.names -> ∃ c, (cellsFrom (s.heap.objs.size + 1 + 1) scope.names (vH X.env scope.names [])).lookup x = some c /\ X.env.cells.lookup x = some c := λ x m => by
  obtain ⟨c, e⟩ := has x m
  have m1 := Wh scope.names (s.heap.objs.size + 1 + 1) _ _ (zfy (env := X.env) scope.names [] x m)
  refine ⟨c, Xc (λ p hp ep => ?_) ⟨_, m1⟩, e⟩
  rcases hc p hp with z | z
  · have := (clo p z).1
    rw [ep, e] at this
    exact (Option.some.inj this).symm
  · rw [ep] at z
    exact absurd (zgy C.nd z.1 m) (by decide)
 have kinds : ∀ x, ((relabel scope X.env).names.lookup x = some .cell \/ (relabel scope X.env).names.lookup x = some .free) -> (x, NameKind.free) ∈ scope.names \/ (x, NameKind.cell) ∈ scope.names := λ x h => by
  rw [WF] at h
  cases e : scope.names.lookup x with
  | none => rw [e] at h; rcases h with h | h <;> cases h
  | some k =>
   have m := mem_of_lookup e
   cases k with
   | free => exact .inl m
   | cell => exact .inr m
   | _ => rw [e] at h; rcases h with h | h <;> (simp at h)
 have lsz : s.heap.objs.size + 1 < h'.objs.size := ns.lt
 refine ⟨⟨I.ok.mod, hk, I.ok.glob, I.ok.blt, Nat.le_succ _, ?_, ?_, ?_, I.ok.hd, I.ok.frames, .inl rfl, ?_, I.bs, zzM I.ok.bsz I.sz, ?_, ?_, I.stack, I.stkFree⟩, rfl, I.bare, (Un.kept old), ⟨_, ns, ?_⟩, ?_, I.hok.fresh (Nat.le_succ _), ?_, (λ _ z => nomatch z), I.hok.kept old, ?_⟩
 · intro x y c e1 e2
   refine zca scope.names (s.heap.objs.size + 1 + 1) _ (λ p m => ?_) (λ p m q m' e => ?_) (x, c) (mem_of_lookup e1) (y, c) (mem_of_lookup e2) rfl
   · exact Nat.lt_succ_of_lt (Nat.lt_succ_of_lt (lt _ _ (clo p m).1))
   · refine I.ok.inj _ _ _ (clo p m).1 ?_
     rw [e]; exact (clo q m').1
 · intro x h
   rcases kinds x h with m | m
   · obtain ⟨c, e, _⟩ := lookF x m; exact ⟨c, e⟩
   · obtain ⟨c, e⟩ := zbQ scope.names (s.heap.objs.size + 1 + 1) (vH X.env scope.names []) x m
     cases q : (cellsFrom (s.heap.objs.size + 1 + 1) scope.names (vH X.env scope.names [])).lookup x with
     | some c' => exact ⟨c', q⟩
     | none =>
      exfalso
      have := List.lookup_eq_none_iff.mp q (x, c) e
      simp at this
 · intro x c hx e
   have hx : (scope.names.lookup x == some .cell) = true := hx
   have m := mem_of_lookup (beq_iff_eq.mp hx)
   rcases look x c e with z | z
   · exact absurd (zgy C.nd z.2 m) (by decide)
   · exact zzM (zzM (Nat.le_succ _) (Nat.le_succ _)) z.2.2
 · intro b hb
   obtain ⟨o, e⟩ := ho b hb
   refine ⟨zzO (Nat.lt_succ_of_lt (Heap.lt_size e)), λ x c ec => ?_⟩
   rcases look x c ec with z | z
   · exact (hf b hb).2.2.2.2.1 x c z.1
   · have := Heap.lt_size e
     intro q; subst q
     exact absurd (zzI this (zzM (zzM (Nat.le_succ _) (Nat.le_succ _)) z.2.2)) (Nat.lt_irrefl _)
 · intro b o e hb
   rcases (hf b hb).2.2.2.1 with z | z
   · exact I.ok.noex b o e z
   · exact absurd (zzI (Heap.lt_size e) (zzM I.ok.bsz z)) (Nat.lt_irrefl _)
 · intro b hb hm
   rcases zzA.mp (I.stkSub b hm) with z | z
   · exact (hf b hb).2.1 z
   · exact (hf b hb).2.2.1 z
 · intro i x v e1 e2 e3
   have e2 : (Zj cap σ)[i]? = some (some v) := e2
   unfold Zj at e2
   rw [zzG] at e2
   cases ec : cap[i]? with
   | none => rw [ec] at e2; cases e2
   | some c =>
    cases c with
    | none => rw [ec] at e2; cases e2
    | some j =>
     rw [ec] at e2
     have e2 : (σ[j]?).getD none = some v := Option.some.inj e2
     obtain ⟨xn, m⟩ := C.at_ i x j e1 ec
     have es : σ[j]? = some (some v) := by
      cases q : σ[j]? with
      | none => rw [q] at e2; cases e2
      | some y => rw [q] at e2; exact congrArg some e2
     have kf := C.fr _ m rfl
     obtain ⟨mm, hn, hl⟩ := I.loc
     obtain ⟨u, r, l⟩ := hl j x v xn es (by rcases kf with k | k; exact .inr (.inl k); exact .inr (.inr k))
     refine ⟨u, r, .inr ⟨?_, ?_⟩⟩
     · show (relabel scope X.env).names.lookup x = some .cell \/ (relabel scope X.env).names.lookup x = some .free
       rw [WF, zbG C.nd m]
       show some (if _ then _ else _) = _ \/ some (if _ then _ else _) = _
       split
       · exact .inl rfl
       · exact .inr rfl
     · obtain ⟨c, ec, eo⟩ := lookF x m
       refine ⟨c, ec, ?_⟩
       rcases l with ⟨k1, _⟩ | ⟨_, c2, e4, z⟩
       · have k1 : X.env.scope.names.lookup x = some .local := k1
         rcases kf with k | k <;> (rw [k1] at k; cases k)
       · rw [eo] at e4; cases e4
         exact z.keeps old
 · intro x c e
   rcases look x c e with z | z
   · obtain ⟨v, q⟩ := I.cell x c z.1; exact ⟨v, q.keeps old⟩
   · exact ⟨none, z.2.1⟩
 · intro x c e
   rcases look x c e with z | z
   · exact I.freeC x c z.1
   · exact I.hok.fresh (zzM (zzM (Nat.le_succ _) (Nat.le_succ _)) z.2.2)
 · show (Zj cap σ).length = N.length
   unfold Zj
   rw [zD, C.len]
abbrev lobj (its : List Value) : Obj := { cls := .type "list", data := .seq its.toArray its.length }
section
variable {X : Cx} {pins : List (Addr × Obj)} {σ : St} {H2 : Hp} {s2 : Shared} {elt tg iter : Expr} {ifs : List Expr} {scope : Scope} {pos : Pos} {N : List Str} {cap : List (Option Nat)} {g : TG} {tt : TT} {te : TE} {wi : TI}
set_option maxHeartbeats 1000000
theorem zdZ {J : It} {it : Addr} {fp : List Addr} {tn : Nat -> Heap -> Prop} {Q : VK} {R : Value -> Addr -> Result -> Shared -> Prop} {E : Value -> Shared -> Prop}
 (hc : X.calm = true) (C : CapOk N X.N scope.names X.env.scope.names cap) (hk : scope.kind = .function)
 (hg : ∀ cl s H fp, PG (vp X N scope cl s H fp) tg g) (ht : ∀ cl s H fp, PTs (vp X N scope cl s H fp) ifs tt) (he : ∀ cl s H fp, PE (vp X N scope cl s H fp) elt te)
 (I2 : Inv X pins σ H2 s2) (T : Turn X.prog X.w X.K tg J fp it tn) (st2 : tn 0 s2.heap) (f2 : ∀ b ∈ fp, zcR X pins H2 b)
 (W : Nat -> Nat -> List V -> Hp -> Prop) (m0 : Nat) (w0 : W 0 m0 [] H2)
 (turn : ∀ i m ys H, W i m ys H -> ys.length <= sizeLine /\ ((J.stop i H /\ ∀ p, H p = none -> Q (.ref p) (upd H p (.lst ys))) \/ (J.go i H /\ ∀ x H', J.yld i H x H' -> g x (Zj cap σ) H' λ σ2 H2 => (∀ (j : Nat) v, (Zj cap σ)[j]? = some (some v) -> σ2[j]? = some (some v)) /\
  tt σ2 H2 λ b H3 => if b = true then ys.length < sizeLine /\ te σ2 H3 λ y H4 => ∃ m', m' < m /\ W (i + 1) m' (ys ++ [y]) H4 else ∃ m', m' < m /\ W (i + 1) m' ys H3)))
 (fin : ∀ ys H3 s1 m, Inv X pins σ (upd H3 s2.heap.objs.size (.lst ys)) s1 -> s1.heap.Ns (s2.heap.objs.size + 1) m -> zcR X pins (upd H3 s2.heap.objs.size (.lst ys)) (s2.heap.objs.size + 1) ->
  Q (.ref s2.heap.objs.size) (upd H3 s2.heap.objs.size (.lst ys)) -> R (.ref s2.heap.objs.size) (s2.heap.objs.size + 1) (.ok .next) s1) :
 wpAny (model X.prog X.w) X.A (newList []) (λ acc s₃ => wpAny (model X.prog X.w) X.A (newFunctionEnv scope X.env.globals (vH X.env scope.names []) [] X.env.qual none .none (some X.env)) (λ cenv s₄ =>
  codeAny (model X.prog X.w) X.A (.compStart (.ListComp elt [⟨tg, iter, ifs, 0⟩] scope pos) 0 (.ref it) acc { cenv with scope := relabel scope X.env }) (R acc cenv.locals) s₄) E s₃) E s2 := by
 refine wpAny_newObj_type (zfG λ h' env' eE eL old hns hcells => ?_)
 have e1 : (s2.heap.push { cls := .type "list", dict := none, data := .seq ([] : List Value).toArray }).objs.size = s2.heap.objs.size + 1 := Heap.size_push ..
 dsimp only at eE eL old hns hcells
 rw [e1] at eE eL hns hcells
 have hD0 : (s2.heap.push { cls := .type "list", dict := none, data := .seq ([] : List Value).toArray }).get? s2.heap.objs.size = some (lobj []) := Heap.get?_push_size _ rfl
 have hD : h'.get? s2.heap.objs.size = some (lobj []) := old _ _ hD0
 have old' : ∀ b o, s2.heap.get? b = some o -> h'.get? b = some o := λ b o q => old b o (Heap.get?_push_of_some _ q)
 have fex : ∀ b ∈ fp, ∃ o, s2.heap.get? b = some o := λ b hb => by obtain ⟨o, e, _⟩ := T.obj _ _ st2 b hb; exact ⟨o, e⟩
 have flt : ∀ b ∈ fp, b < s2.heap.objs.size := λ b hb => by obtain ⟨o, e⟩ := fex b hb; exact Heap.lt_size e
 have I' := zhX I2 C hk f2 fex old' hns hcells
 rw [eE, eL]
 generalize hX : vp X N scope (vH X.env scope.names []) s2 H2 fp = X' at I'
 have xP : X'.prog = X.prog := by rw [<- hX]
 have xw : X'.w = X.w := by rw [<- hX]
 have xK : X'.K = X.K := by rw [<- hX]
 have xA : X'.A = X.A := by rw [<- hX]
 have xe : X'.env = Vr scope X.env (vH X.env scope.names []) (s2.heap.objs.size + 1) := by rw [<- hX]
 have xL : X'.env.locals = s2.heap.objs.size + 1 := by rw [xe]; rfl
 have xfs : X'.fs = frs X.stack := by rw [<- hX]
 have xex : X'.ex = fp := by rw [<- hX]
 have xs : X'.s₀ = s2 := by rw [<- hX]
 have xH : X'.H₀ = H2 := by rw [<- hX]
 have xpn : X'.pn = [] := by rw [<- hX]
 have xc : X'.calm = true := by rw [<- hX]; exact hc
 have xE : X'.xe = λ _ _ => False := by rw [<- hX]
 have hg' : PG X' tg g := by rw [<- hX]; exact hg _ _ _ _
 have ht' : PTs X' ifs tt := by rw [<- hX]; exact ht _ _ _ _
 have he' : PE X' elt te := by rw [<- hX]; exact he _ _ _ _
 have H2D : H2 s2.heap.objs.size = none := I2.hok.fresh (zzL _)
 have Dfs : s2.heap.objs.size ∉ X'.fs := by
  rw [xfs]
  intro hm
  rcases zzA.mp (I2.stkSub _ hm) with z | z
  · exact absurd I2.lt (by rw [<- z]; exact Nat.lt_irrefl _)
  · exact I2.nofs (zzL _) z
 have DL : s2.heap.objs.size ≠ X'.env.locals := by rw [xL]; exact zzO (Nat.lt_succ_self _)
 have pinD : ∀ {σ' : St} {H' : Hp} {s' : Shared} {its : List Value} {ps : List (Addr × Obj)}, Inv X' ps σ' H' s' -> s'.heap.get? s2.heap.objs.size = some (lobj its) -> H' s2.heap.objs.size = none -> Inv X' [(s2.heap.objs.size, lobj its)] σ' H' s' := λ I e n =>
  I.pins_of λ p hp => by
   cases zzP.mp hp
   exact ⟨e, n, DL, Dfs, λ v z => by cases z⟩
 have stat : ∀ {H' : Hp} {its : List Value}, (∀ b ∈ fp, H' b = none) -> ∀ b ∈ fp, zcR X' [(s2.heap.objs.size, lobj its)] H' b := λ hn b hb => by
  refine ⟨hn b hb, ?_, ?_, .inl (by rw [xex]; exact hb), (I'.ok.exf b (by rw [xex]; exact hb)).2, λ p hp => ?_⟩
  · exact (I'.ok.exf b (by rw [xex]; exact hb)).1
  · exact I'.ok.exfs b (by rw [xex]; exact hb)
  · rw [xpn, List.nil_append] at hp
    cases zzP.mp hp
    exact Nat.ne_of_gt (flt b hb)
 have loop : ∀ (n : Nat) (s' : Shared), (∃ i ys its H3, Inv X' [(s2.heap.objs.size, lobj its)] (Zj cap σ) H3 s' /\ tn i s'.heap /\ (∀ b ∈ fp, H3 b = none) /\ Vals ys its /\ W i n ys H3) ->
  codeAny (model X.prog X.w) X.A (.compLoop (.ListComp elt [⟨tg, iter, ifs, 0⟩] scope pos) 0 (.ref it) (.ref s2.heap.objs.size) (Vr scope X.env (vH X.env scope.names []) (s2.heap.objs.size + 1)))
   (R (.ref s2.heap.objs.size) (s2.heap.objs.size + 1)) s' := by
  intro n s' h0
  refine zga (λ n s' => ∃ i ys its H3, Inv X' [(s2.heap.objs.size, lobj its)] (Zj cap σ) H3 s' /\ tn i s'.heap /\ (∀ b ∈ fp, H3 b = none) /\ Vals ys its /\ W i n ys H3) ?_ n h0
  clear h0 n s'
  rintro n s3 E' ⟨i, ys, its, H3, I3, st3, fr3, rv3, w3⟩
  obtain ⟨hz, hstep⟩ := turn i n ys H3 w3
  rcases hstep with ⟨stop, qn⟩ | ⟨go, step⟩
  · have := T.done X' xP xw xK xc i _ s3 _ H3 E' I3 (stat fr3) st3 stop
    rw [xA] at this
    refine wpAny_mono this (λ r s4 ⟨hr, I4⟩ => ?_) λ _ _ z => z
    subst hr
    obtain ⟨gD, nD, _⟩ := I4.pin (s2.heap.objs.size, lobj its) (by rw [xpn]; simp)
    obtain ⟨m, hn, _⟩ := I4.loc
    rw [xL] at hn
    have b4 := I4.base
    rw [xfs, xex, xH, xs] at b4
    have nL : H3 (s2.heap.objs.size + 1) = none := by have := I4.free; rw [xL] at this; exact this
    have neD : ∀ b o, s2.heap.get? b = some o -> b ≠ s2.heap.objs.size := λ b o e => zzO (Heap.lt_size e)
    have neH : ∀ b u, H2 b = some u -> b ≠ s2.heap.objs.size := λ b u e z => by rw [z, H2D] at e; cases e
    have ne3 : ∀ b u, H3 b = some u -> b ≠ s2.heap.objs.size := λ b u e z => by rw [z, nD] at e; cases e
    have hok4 := I4.hok
    rw [xP, xw] at hok4
    refine fin ys H3 s4 m (I2.call' (ch := fp) ?_ ⟨b4.keep, b4.slot, λ b o e n hx => ?_, b4.there, λ b xs e => ?_, λ b o u e => ?_, λ b ps e => ?_⟩ ?_ I4.bare λ b hb => ?_) hn (I2.fpOk (Nat.le_succ _) (by rw [yj (Nat.ne_of_gt (Nat.lt_succ_self _))]; exact nL)) (qn _ nD)
    · have := I4.os; rw [xs] at this; exact this
    · rw [yj (neD b o e)]; exact b4.free b o e n hx
    · rw [yj (neH b _ e)]; exact b4.tups b xs e
    · rw [yj (neH b _ e)]; exact b4.frzs b o u e
    · rw [yj (neH b _ e)]; exact b4.tbls b ps e
    · intro b u e
      by_cases hb : b = s2.heap.objs.size
      · subst hb
        rw [yW] at e
        cases e
        exact ⟨hz, its, its.length, rv3, gD⟩
      · rw [yj hb] at e
        exact (hok4 b u e).stay (λ c v _ q => q) (λ c q => by rw [yj (ne3 c _ q)]; exact q) λ c xs q => by rw [yj (ne3 c _ q)]; exact q
    · obtain ⟨f0, f1, f3, f4, f5, f6⟩ := f2 b hb
      exact ⟨f4, f1, f5, f6⟩
  · have := T.item X' xP xw xK xc i _ s3 _ H3 E' I3 (stat fr3) st3 go
    rw [xA] at this
    refine wpAny_mono this (λ r s4 ⟨u, hr, h4⟩ => ?_) λ _ _ z => z
    subst hr
    refine wpAny_mono h4 (λ _ s5 ⟨x, H5, I5, r5, y5, st5, fr5⟩ => ?_) λ _ _ z => z
    have I5' := I5.pinned (stat fr5) (T.obj _ _ st5)
    have h6 := hg' _ s5 _ H5 x u _ I5' r5 (step x H5 y5)
    rw [xP, xw, xA, xe, xE] at h6
    refine wpAny_mono h6 (λ _ s6 ⟨σ6, H6, I6, cap6, q6⟩ => ?_) λ _ _ z => z.elim
    have h7 := ht' _ s6 σ6 H6 _ I6 q6
    rw [xP, xw, xA, xe, xE] at h7
    refine wpAny_mono h7 (λ b s7 ⟨H7, I7, q7⟩ => ?_) λ _ _ z => z.elim
    have keep : ∀ {H8 : Hp} {s8 : Shared}, Inv X' ([(s2.heap.objs.size, lobj its)] ++ zdF fp s5.heap) σ6 H8 s8 -> Inv X' [(s2.heap.objs.size, lobj its)] (Zj cap σ) H8 s8 /\ tn (i + 1) s8.heap /\ ∀ b ∈ fp, H8 b = none := λ {H8 s8} I8 => by
     refine ⟨I8.unpinned.weak ?_ cap6, T.keep _ _ _ st5 λ b hb o e => (I8.pin (b, o) (zzJ _ (zzJ _ (X7 hb e)))).1, λ b hb => ?_⟩
     · rw [I3.len]; exact I8.len.symm
     · obtain ⟨o, e, d⟩ := T.obj _ _ st5 b hb
       exact (I8.pin (b, o) (zzJ _ (zzJ _ (X7 hb e)))).2.1
    cases b with
    | false =>
     obtain ⟨m', hm, w7⟩ := q7
     obtain ⟨k1, k2, k3⟩ := keep I7
     exact ⟨m', hm, i + 1, ys, its, H7, k1, k2, k3, rv3, w7⟩
    | true =>
     obtain ⟨hz2, q7⟩ := q7
     have h8 := he' _ s7 σ6 H7 _ I7 q7
     rw [xP, xw, xA, xe, xE] at h8
     show wpAny _ _ _ _ _ _
     refine wpAny_mono h8 (λ yv s8 ⟨y, H8, I8, ry, m', hm, w8⟩ => ?_) λ _ _ z => z.elim
     obtain ⟨k1, k2, k3⟩ := keep I8
     obtain ⟨gD, nD, _⟩ := k1.pin (s2.heap.objs.size, lobj its) (by rw [xpn]; simp)
     have hl := rv3.length
     refine append_at gD (λ h9 sb gD9 => ?_) (by rw [zzF]; omega)
     have I9 : Inv X' [] (Zj cap σ) H8 { s8 with heap := h9 } := (k1.pins_of (pins' := []) (λ _ z => nomatch z)).turned (t' := s8.toks) (it := s2.heap.objs.size) (λ b o hb e => (sb.2 b hb).trans e) nD DL (.inr (by rw [xs]; exact zzL _)) (λ x c ec z => by
      obtain ⟨v, o, ho, hd⟩ := k1.cell x c ec
      rw [z, gD] at ho
      cases ho
      cases hd) (λ p hp => by rw [xpn] at hp; cases hp)
     have gD9' : h9.get? s2.heap.objs.size = some (lobj (its ++ [yv])) := by
      rw [gD9]
      congr 1
      show ({ cls := .type "list", data := .seq (its.toArray.push yv) (its.length + 1) } : Obj) = { cls := .type "list", data := .seq (its ++ [yv]).toArray (its ++ [yv]).length }
      rw [zzH, List.length_singleton, List.push_toArray]
     refine ⟨m', hm, i + 1, ys ++ [y], its ++ [yv], H8, pinD I9 gD9' nD, T.keep _ _ _ k2 λ b hb o e => (sb.2 b (zzO (flt b hb))).trans e, k3, rv3.append (.cons ry .nil), w8⟩
 have start : ∃ i ys its H3, Inv X' [(s2.heap.objs.size, lobj its)] (Zj cap σ) H3 { s2 with heap := h' } /\ tn i h' /\ (∀ b ∈ fp, H3 b = none) /\ Vals ys its /\ W i m0 ys H3 :=
  ⟨0, [], [], H2, pinD I' hD H2D, T.keep _ _ _ st2 λ b hb o e => old' b o e, λ b hb => (f2 b hb).1, .nil, w0⟩
 exact codeAny_compStart_list (loop m0 _ start) (T.self _ 0 _ _ _ (T.keep _ _ _ st2 λ b hb o e => old' b o e) (loop m0 _ start))
theorem zmH (hc : X.calm = true) (hi : PI X tg iter wi) (hk : scope.kind = .function) (hcap : wB N X.N scope.names X.env.scope.names cap = true)
 (hg : ∀ cl s H fp, PG (vp X N scope cl s H fp) tg g) (ht : ∀ cl s H fp, PTs (vp X N scope cl s H fp) ifs tt) (he : ∀ cl s H fp, PE (vp X N scope cl s H fp) elt te)
 (hs : ∀ x, foldedSetIterable iter X.env x = pure x) : PE X (.ListComp elt [⟨tg, iter, ifs, 0⟩] scope pos) (zlk wi cap g tt te) := by
 intro pins s σ H Q I h
 have C := zha hcap
 rw [eval_ListComp]
 refine wpAny_comprehension_free (use := none) rfl hs (zac λ x m e => I.ok.has x.1 (C.fr x m e)) hk (λ y m e => zbG C.nd (by rw [<- e]; exact m)) ?_
 refine thn (hi pins s σ H _ I h) λ v s1 h1 => thn h1 λ itv s2 h2 => ?_
 obtain ⟨it, fp, tn, J, H2, e, I2, T, st2, f2, W, ⟨m0, w0⟩, turn⟩ := h2
 subst e
 refine zdZ (R := λ acc C r s' => compPost (model X.prog X.w) X.A X.xe none (EP X pins σ Q) acc C r s') hc C hk hg ht he I2 T st2 f2 W m0 w0 turn λ ys H3 s3 m I3 hn fl q => ?_
 refine ⟨m, hn, λ h' sb => ?_⟩
 obtain ⟨f0, f1, f3, f4, f5, f6⟩ := fl
 exact ⟨.ref s2.heap.objs.size, _, I3.turned (t' := s3.toks) (λ b o hb e => (sb.2 b hb).trans e) f0 f1 f4 f5 f6, rfl, q⟩
theorem zmd {i : Nat} {y : Str} {py spos : Pos} (hN : X.N.Nodup) (hiy : X.N[i]? = some y) (hy : Loc X.env.scope y) (hf : X.fn y = true \/ X.env.scope.names.lookup y = some .local)
 (hsw : swapsWith (.ListComp elt [⟨tg, iter, ifs, 0⟩] scope pos) (some (.Name y py)) spos.line X.env = pure true)
 (hc : X.calm = true) (hi : PI X tg iter wi) (hk : scope.kind = .function) (hcap : wB N X.N scope.names X.env.scope.names cap = true)
 (hg : ∀ cl s H fp, PG (vp X N scope cl s H fp) tg g) (ht : ∀ cl s H fp, PTs (vp X N scope cl s H fp) ifs tt) (he : ∀ cl s H fp, PE (vp X N scope cl s H fp) elt te)
 (hs : ∀ x, foldedSetIterable iter X.env x = pure x) : PS X (.Assign [.Name y py] (.ListComp elt [⟨tg, iter, ifs, 0⟩] scope pos) spos) (zpd (zlk wi cap g tt te) (zgX i)) := by
 intro pins s σ H D I h
 have C := zha hcap
 rw [exec_Assign_Name_used _ _ _ _ hsw]
 refine wpAny_bind (wpAny_standAt (wpAny_bind ?_))
 show wpAny _ X.A (do let _ <- comprehension (.ListComp elt [⟨tg, iter, ifs, 0⟩] scope pos) scope X.env _ (newList []) false (eval iter X.env) (some (assign (.Name y py) X.env))) _ _ s
 refine wpAny_bind (wpAny_mono (wpAny_comprehension_free (use := some (assign (.Name y py) X.env)) (Q := λ _ s' => SP X pins D .next s') rfl hs (zac λ x m e => I.ok.has x.1 (C.fr x m e)) hk (λ y m e => zbG C.nd (by rw [<- e]; exact m)) ?_) (λ _ s' hq => wpAny_pure (wpAny_pure hq)) λ _ _ e => e)
 refine thn (hi pins s σ H _ I h) λ v s1 h1 => thn h1 λ itv s2 h2 => ?_
 obtain ⟨it, fp, tn, J, H2, e, I2, T, st2, f2, W, ⟨m0, w0⟩, turn⟩ := h2
 subst e
 refine zdZ (Q := λ x H1 => zgX i x σ H1 D.nx) (R := λ acc C r s' => compPost (model X.prog X.w) X.A X.xe (some (assign (.Name y py) X.env)) (λ _ s' => SP X pins D .next s') acc C r s') hc C hk hg ht he I2 T st2 f2 W m0 w0 turn λ ys H3 s3 m I3 hn fl q => ?_
 obtain ⟨f0, f1, f3, f4, f5, f6⟩ := fl
 refine wpAny_assign_Name (zfh I3 hN hiy hy (v := .ref s2.heap.objs.size) rfl (λ s4 I4 ⟨a, sb, ha⟩ => ?_) hf)
 refine ⟨m, hn.sameBut sb (λ z => ?_), λ h' sb' => ?_⟩
 · rcases ha with ha | ha
   · exact f1 (z.trans ha)
   · exact f5 y a ha z.symm
 · exact ⟨_, _, I4.turned (t' := s4.toks) (λ b o hb e => (sb'.2 b hb).trans e) f0 f1 f4 f5 f6, q⟩
end
structure ItC (K : zC) (kd : KD) (F : Addr -> Prop) (H : Hp) (J : It) (ds : List It1) : Prop where
 all : ∀ (H2 : Hp) (T : Addr -> Prop), (∀ b u, H b = some u -> H2 b = some u) -> (∀ a, T a -> H a = none /\ H2 a ≠ none) -> ∀ i, (i < ds.length -> J.go i H2) /\ (ds.length <= i -> J.stop i H2) /\
  ∀ v H3, J.yld i H2 v H3 -> (∀ b o, H2 b = some o -> H3 b = some o) /\ ∀ x, ds[i]? = some x -> Rp K kd (λ a => x.1 = true /\ (F a \/ T a)) H3 v x.2
def alC (K : zC) (kd : KD) (f : IF) : TI := λ σ H R => ∃ F B ad as ds as', Rel K kd F B [] ad as σ H /\ f as = some (ds, as') /\
 ∀ J ad' H', Rel K kd F B [] ad' as' σ H' -> Grow (Gw [] ad) H (Gw [] ad') H' -> ItC K kd (Lv F B (Gw [] ad') true) H' J ds -> R J H'
@[irreducible] def AIc (X : Cx) (kd : KD) (tg iter : Expr) (f : IF) : Prop := PI X tg iter (alC X.K kd f)
def zbJ (os : List O) : List It1 := os.map λ o => match o with | .lf st d => (st, d) | o => (false, o.toD)
def zqw (as : AS) : RV -> Option (List It1)
 | .ow o => zgQ (o.str, o.toD)
 | .bo i => match as[i]? with
  | some (some (.nd .ls os)) => some (zbJ os)
  | some (some (.nd .tp os)) => some (zbJ os)
  | _ => none
def Y8 (f : EF) : IF := λ as => (f as).bind λ p => (zqw p.2 p.1).bind λ ds => some (ds, p.2)
section
variable {K : zC} {kd : KD} {F B : Addr -> Prop} {G : Addr -> Prop} {T : List Addr} {ad : Ad} {as : AS} {σ : St} {H H' : Hp}
inductive RpC (K : zC) (kd : KD) (F : Addr -> Prop) (H : Hp) : List V -> List It1 -> Prop
 | nil : RpC K kd F H [] []
 | cons {v : V} {x : It1} {vs : List V} {ds : List It1} : Rp K kd (λ a => x.1 = true /\ F a) H v x.2 -> RpC K kd F H vs ds -> RpC K kd F H (v :: vs) (x :: ds)
theorem RpC.length {vs : List V} {ds : List It1} (h : RpC K kd F H vs ds) : vs.length = ds.length := by
 induction h with
 | nil => rfl
 | cons _ _ ih => exact congrArg (· + 1) ih
theorem RpC.get {vs : List V} {ds : List It1} {i : Nat} {x : It1} (h : RpC K kd F H vs ds) (e : ds[i]? = some x) : ∃ v, vs[i]? = some v /\ Rp K kd (λ a => x.1 = true /\ F a) H v x.2 := by
 induction h generalizing i with
 | nil => simp at e
 | cons h r ih =>
  cases i with
  | zero => simp at e; subst e; exact ⟨_, rfl, h⟩
  | succ i =>
   obtain ⟨v, h1, h2⟩ := ih (i := i) (by simpa using e)
   exact ⟨v, by simpa using h1, h2⟩
theorem Rp.since {Ob : Addr -> Prop} {v : V} {d : D} {T : Addr -> Prop} (k : ∀ b u, H b = some u -> H' b = some u) (hT : ∀ a, T a -> H a = none) (h : Rp K kd Ob H v d) : Rp K kd (Un2 Ob T) H' v d :=
 Rp.grow (F := Ob) (W := λ _ => False) (W' := T) (H' := H') ⟨λ b u q _ => k b u q, λ b z => .inr (hT b z)⟩ (h.less λ a z => z.elim id False.elim)
theorem zex {st : Bool} {vs : List V} {ds : List D} (h : RpL K kd (Lv F B G st) H vs ds) : RpC K kd (Lv F B G true) H vs (kids st ds) :=
 RpL.ind (P := λ vs ds => RpC K kd (Lv F B G true) H vs (kids st ds)) .nil (λ {v d vs ds} h _ ih => by
  refine .cons (x := (yt d || st, d)) ?_ ih
  cases e : yt d with
  | true => exact h.flat e
  | false =>
   refine h.less λ a z => ?_
   have zs : st = true := z.1
   rw [zs]; exact z.2) h
theorem znE {vs : List V} {os : List O} {fp : List Addr} (h : Yh K kd F B G H vs os fp) : RpC K kd (Lv F B G true) H vs (zbJ os) :=
 RoL.ind (P := λ vs os _ => RpC K kd (Lv F B G true) H vs (zbJ os)) .nil (λ {v o vs os fp fq} h _ ih => by
  have ha := zgh h
  refine .cons ?_ ih
  cases h with
  | lf rp => exact rp.less λ a z => (by have zs := z.1; dsimp only at zs; rw [zs]; exact z.2)
  | ls => exact ha.less λ a z => nomatch z.1
  | dc => exact ha.less λ a z => nomatch z.1
  | ob => exact ha.less λ a z => nomatch z.1
  | tp => exact ha.less λ a z => nomatch z.1) h
theorem zdJ {a : Addr} {vs : List V} {ds : List It1} (h : SqL K H a vs) (r : RpC K kd F H vs ds) : ItC K kd F H (Itl K a) ds := ⟨λ H3 T k hT i => by
 have hr3 : SqL K H3 a vs := by
  rcases h with (h | ⟨o, h⟩) | h
  · exact .inl (.inl (k _ _ h))
  · exact .inl (.inr ⟨o, k _ _ h⟩)
  · exact .inr h
 refine ⟨λ hi => ?_, λ hi => ⟨_, hr3, by rw [r.length]; exact hi⟩, λ v H4 hy => ?_⟩
 · obtain ⟨u, hu, _⟩ := r.get (zzC hi)
   exact ⟨_, u, hr3, hu⟩
 · obtain ⟨rfl, hv⟩ := hy
   refine ⟨λ _ _ z => z, λ d hd => ?_⟩
   obtain ⟨u, hu, ru⟩ := r.get hd
   have := hv _ hr3
   rw [hu] at this
   cases this
   exact (ru.since k λ a z => (hT a z).1).less λ a z => z.2.elim (λ y => .inl ⟨z.1, y⟩) .inr⟩
theorem ziZ {a : Addr} {vs : List V} {ds : List It1} (h : SqT K H a vs) (r : RpC K kd F H vs ds) : ItC K kd F H (Itt K a) ds := ⟨λ H3 T k hT i => by
 have hr3 : SqT K H3 a vs := by
  rcases h with (h | ⟨o, h⟩) | h
  · exact .inl (.inl (k _ _ h))
  · exact .inl (.inr ⟨o, k _ _ h⟩)
  · exact .inr h
 refine ⟨λ hi => ?_, λ hi => ⟨_, hr3, by rw [r.length]; exact hi⟩, λ v H4 hy => ?_⟩
 · obtain ⟨u, hu, _⟩ := r.get (zzC hi)
   exact ⟨_, u, hr3, hu⟩
 · obtain ⟨rfl, hv⟩ := hy
   refine ⟨λ _ _ z => z, λ d hd => ?_⟩
   obtain ⟨u, hu, ru⟩ := r.get hd
   have := hv _ hr3
   rw [hu] at this
   cases this
   exact (ru.since k λ a z => (hT a z).1).less λ a z => z.2.elim (λ y => .inl ⟨z.1, y⟩) .inr⟩
theorem zmj (lo : Int) (n : Nat) : ItC K kd F H (Itr lo n) (wQ lo n) := ⟨λ H2 T k hT i => by
 have hl : (wQ lo n).length = n := by unfold wQ; simp
 refine ⟨λ hi => by rw [hl] at hi; exact hi, λ hi => by rw [hl] at hi; exact hi, λ v H3 hy => ?_⟩
 obtain ⟨rfl, rfl⟩ := hy
 refine ⟨λ _ _ z => z, λ d hd => ?_⟩
 have hi : i < n := by rw [<- hl]; exact (zzE.mp hd).1
 unfold wQ at hd
 rw [zzG, List.getElem?_range hi] at hd
 cases hd
 exact .int _⟩
end
theorem Wl {X : Cx} {kd : KD} {tg e : Expr} {fa : EF} (he : AE X kd e fa) : AIc X kd tg e (Y8 fa) := by
 with_unfolding_all (
 intro pins s σ H R I h
 obtain ⟨F, B, ad, as, ds, as', Rl, e, q⟩ := h
 obtain ⟨⟨p, as1⟩, h1, e⟩ := bS_ (show (fa as).bind _ = _ from e)
 obtain ⟨ys, h2, e⟩ := bS_ e
 cases e
 cases p with
 | ow o =>
  have h2 : zgQ (o.str, o.toD) = some ds := h2
  generalize hd : o.toD = d at h2
  cases d with
  | lst xs =>
   cases h2
   refine zde he pins s σ H R I ⟨F, B, ad, as, _, as1, Rl, h1, λ v T1 ad1 H1 R1 rv1 g1 => ?_⟩
   have rp := zif R1 rv1
   rw [hd] at rp
   cases rp with
   | lst hn hr rl => exact ⟨_, rfl, ⟨_, .inl hr⟩, q _ ad1 H1 R1.drop (g1.trans (Grow.less Gw.drop)) (zdJ (.inl hr) (zex rl))⟩
   | lstK a b c rl => exact ⟨_, rfl, ⟨_, .inr ⟨_, _, _, a, rfl, rfl, rfl, b, c⟩⟩, q _ ad1 H1 R1.drop (g1.trans (Grow.less Gw.drop)) (zdJ (.inr ⟨_, _, _, a, rfl, rfl, rfl, b, c⟩) (zex rl))⟩
  | tup xs =>
   cases h2
   refine zhH he pins s σ H R I ⟨F, B, ad, as, _, as1, Rl, h1, λ v T1 ad1 H1 R1 rv1 g1 => ?_⟩
   have rp := zif R1 rv1
   rw [hd] at rp
   have go : ∃ a ys, v = .ref a /\ SqT X.K H1 a ys /\ RpL X.K kd (Lv F B (Gw [] ad1) o.str) H1 ys xs := by
    cases rp with
    | tup n h r => exact ⟨_, _, rfl, .inl h, r⟩
    | tupK a b c e f r => exact ⟨_, _, rfl, .inr ⟨_, _, _, a, b, c, e, f⟩, r⟩
   obtain ⟨a, ys, rfl, hs, rl⟩ := go
   exact ⟨_, rfl, ⟨_, hs⟩, q _ ad1 H1 R1.drop (g1.trans (Grow.less Gw.drop)) (ziZ hs (zex rl))⟩
  | _ => cases h2
 | bo i =>
  have h2 : (match as1[i]? with | some (some (.nd .ls os)) => some (zbJ os) | some (some (.nd .tp os)) => some (zbJ os) | _ => none) = some ds := h2
  cases k : as1[i]? with
  | none => rw [k] at h2; cases h2
  | some s0 =>
   rw [k] at h2
   match s0, h2, k with
   | some (.nd .ls os), h2, k =>
    cases h2
    refine zde he pins s σ H R I ⟨F, B, ad, as, _, as1, Rl, h1, λ v T1 ad1 H1 R1 rv1 g1 => ?_⟩
    obtain ⟨rfl, hs⟩ := rv1
    obtain ⟨w, hw, ro⟩ := R1.sl i _ k
    rw [hs] at hw
    cases hw
    generalize hfp : ad1 i = fp at ro
    cases ro with
    | ls hH rl => exact ⟨_, rfl, ⟨_, .inl (.inl hH)⟩, q _ ad1 H1 R1 g1 (zdJ (.inl (.inl hH)) (znE rl))⟩
   | some (.nd .tp os), h2, k =>
    cases h2
    refine zhH he pins s σ H R I ⟨F, B, ad, as, _, as1, Rl, h1, λ v T1 ad1 H1 R1 rv1 g1 => ?_⟩
    obtain ⟨rfl, hs⟩ := rv1
    obtain ⟨w, hw, ro⟩ := R1.sl i _ k
    rw [hs] at hw
    cases hw
    generalize hfp : ad1 i = fp at ro
    cases ro with
    | tp n hH rl => exact ⟨_, rfl, ⟨_, .inl (.inl hH)⟩, q _ ad1 H1 R1 g1 (ziZ (.inl (.inl hH)) (znE rl))⟩)
theorem yG {X : Cx} {kd : KD} {tg a : Expr} {pos : Pos} {fr : AF} {p : Pos} (hg : Gl X "range") (hm : X.mg "range" = none) (ha : AA X kd [a] fr) (hs : starEach [a] X.env = [(false, eval a X.env)]) : AIc X kd tg (.Call (.Name "range" p) [a] [] pos) (yE fr yD) := by
 with_unfolding_all (
 intro pins s σ H R I h
 obtain ⟨F, B, ad, as, ds, as', Rl, e, q⟩ := h
 obtain ⟨⟨ps, as1⟩, h1, e⟩ := bS_ (show (fr as).bind _ = _ from e)
 obtain ⟨⟨xs, lv⟩, h2, e⟩ := bS_ e
 obtain ⟨ys, h3, e⟩ := bS_ e
 cases e
 obtain ⟨j, rfl, h3⟩ := zje h3
 · obtain ⟨hj, e3⟩ := yc h3
   cases e3
   refine zfb hg hm ha hs pins s σ H R I ⟨F, B, ad, as, ps, _, Rl, h1, λ vs ad1 H1 R1 rv1 g1 => ?_⟩
   have vl := zbg R1 rv1 h2
   cases vl with
   | cons v1 v2 =>
    cases v2
    cases v1
    exact ⟨j, rfl, hj.1, hj.2, q _ ad1 H1 R1 g1 (zmj 0 _)⟩)
def zqV (as : AS) : Option Nat -> Option O
 | none => none
 | some j => match as[j]? with
  | some (some (.lf st d)) => some (.lf st d)
  | some (some o) => some (.lf false o.toD)
  | _ => none
def Zq (cap : List (Option Nat)) (as : AS) : AS := cap.map (zqV as)
def wz (g : GF) (tt : TF) (fe : EF) (as0 : AS) : List It1 -> Option (List O)
 | [] => some []
 | x :: r => (g x as0).bind λ as1 => (tt as1).bind λ b => if b.1 = true then (fe b.2).bind λ p => (toO p.2 p.1).bind λ q => if q.1.str = true then (wz g tt fe as0 r).bind λ os => some (q.1 :: os) else none
  else wz g tt fe as0 r
def zZ (fi : IF) (cap : List (Option Nat)) (g : GF) (tt : TF) (fe : EF) : EF := λ as => (fi as).bind λ p => if p.1.length <= sizeLine then (wz g tt fe (Zq cap p.2) p.1).bind λ os => some (.ow (.nd .ls os), p.2) else none
def yP : TF := λ as => some (true, as)
section
variable {K : zC} {kd : KD} {F B : Addr -> Prop} {T : List Addr} {ad : Ad} {as : AS} {σ : St} {H H' : Hp} {cap : List (Option Nat)}
theorem zlU (R : Rel K kd F B [] ad as σ H) (k : ∀ b u, H b = some u -> H' b = some u) (hT : ∀ a ∈ T, H a = none) (hT' : ∀ a ∈ T, H' a ≠ none) :
 Rel K kd (Un2 (Lv F B (Gw [] ad) true) (· ∈ T)) (λ _ => False) [] (λ _ => []) (Zq cap as) (Zj cap σ) H' := by
 have no : ∀ a, ¬ Gw [] (λ _ => []) a := λ a z => z.elim (λ y => nomatch y) λ ⟨_, y⟩ => nomatch y
 have kn : ∀ a, H a ≠ none -> H' a ≠ none := λ a z => by
  cases e : H a with
  | none => exact absurd e z
  | some u => rw [k a u e]; simp
 have up : ∀ {st : Bool} {v : V} {d : D}, Rp K kd (λ a => st = true /\ Lv F B (Gw [] ad) true a) H v d -> Rp K kd (Lv (Un2 (Lv F B (Gw [] ad) true) (· ∈ T)) (λ _ => False) (Gw [] λ _ => []) st) H' v d := λ {st v d} h => by
  have := Rp.grow (F := λ a => st = true /\ Lv F B (Gw [] ad) true a) (W := λ _ => False) (W' := (· ∈ T)) (H' := H') ⟨λ b u q _ => k b u q, λ b z => .inr (hT b z)⟩ (h.less λ a z => z.elim id False.elim)
  refine this.less λ a z => ?_
  rcases z with (⟨z1, z2⟩ | z) | z
  · rcases z2 with z2 | z2
    · exact .inl ⟨z1, z2⟩
    · exact .inr z2
  · exact z.elim
  · exact (no a z).elim
 refine ⟨by unfold Zq Zj; rw [zD, zD], λ _ _ => rfl, λ _ => List.nodup_nil, (λ _ _ _ z => nomatch z), List.nodup_nil, (λ _ _ _ z => nomatch z), λ a z => z.elim (λ y => kn a (R.trk true a y)) (hT' a), (λ _ z => z.elim), λ a z => (no a z).elim, λ i s e => ?_⟩
 unfold Zq at e
 rw [zzG] at e
 obtain ⟨c, hc, rfl⟩ := zzV.mp e
 have es : (Zj cap σ)[i]? = some (zqo σ c) := by
  unfold Zj
  rw [zzG, hc]
  rfl
 rw [es]
 cases c with
 | none => rfl
 | some j =>
  show zeh _ _ _ _ _ _ (match as[j]? with | some (some (.lf st d)) => some (.lf st d) | some (some o) => some (.lf false o.toD) | _ => none) _ _
  cases k2 : as[j]? with
  | none => rfl
  | some s0 =>
   cases s0 with
   | none => rfl
   | some o =>
    obtain ⟨v, hv, ro⟩ := R.sl j _ k2
    cases o with
    | lf st d =>
     have e0 : ad j = [] := by
      generalize hfp : ad j = fp at ro
      cases ro
      rfl
     rw [e0] at ro
     refine ⟨v, by show some ((σ[j]?).getD none) = _; rw [hv]; rfl, .lf (up ?_)⟩
     exact (zge ro).less λ a z => by have zs : st = true := z.1; show Lv F B (Gw [] ad) st a; rw [zs]; exact z.2
    | nd kk os => exact ⟨v, by show some ((σ[j]?).getD none) = _; rw [hv]; rfl, .lf (up ((zgh ro).less λ a z => nomatch z.1))⟩
theorem zlt {S : List Nat} {fi : IF} {g : GF} {tt : TF} {fe : EF} {Q : VK} (hS : ∀ i ∈ S, cap[i]? = some none) (h : al K kd (zZ fi cap g tt fe) σ H Q) :
 zlk (alC K kd fi) cap (alG K kd S g) (alT K kd tt) (al K kd fe) σ H Q := by
 obtain ⟨F, B, ad, as, r, as', R, e, q⟩ := h
 obtain ⟨⟨ds, as1⟩, h1, e⟩ := bS_ (show (fi as).bind _ = _ from e)
 by_cases hz : ds.length <= sizeLine
 · have e : (if ds.length <= sizeLine then (wz g tt fe (Zq cap as1) ds).bind λ os => some (RV.ow (.nd .ls os), as1) else none) = some (r, as') := e
   rw [if_pos hz] at e
   obtain ⟨os, h2, e⟩ := bS_ e
   cases e
   refine ⟨F, B, ad, as, ds, as', R, h1, λ J ad1 H1 R1 g1 it => ?_⟩
   refine ⟨λ i m ys H3 => m + i = ds.length /\ ∃ T os1 os2, os = os1 ++ os2 /\ wz g tt fe (Zq cap as') (ds.drop i) = some os2 /\ os1.length <= i /\ T.Nodup /\ (∀ a ∈ T, H1 a = none /\ H3 a ≠ none) /\ (∀ b u, H1 b = some u -> H3 b = some u) /\
    RoL (λ _ v d => Rp K kd (Un2 (Lv F B (Gw [] ad1) true) (· ∈ T)) H3 v d) (λ a => ¬ Un2 (Lv F B (Gw [] ad1) true) (· ∈ T) a) H3 ys os1 T, ⟨ds.length, rfl, [], [], os, rfl, h2, zzL _, List.nodup_nil, (λ _ m => nomatch m), (λ _ _ z => z), .nil⟩, ?_⟩
   rintro i m ys H3 ⟨hm, T, os1, os2, eo, ec, hl, tnd, tf, k3, rl⟩
   obtain ⟨i1, i2, i3⟩ := it.all H3 (· ∈ T) k3 tf i
   have yl := rl.length
   refine ⟨by omega, ?_⟩
   by_cases hi : i < ds.length
   · refine .inr ⟨i1 hi, λ v H4 hy => ?_⟩
     obtain ⟨k4, rp⟩ := i3 v H4 hy
     rw [List.drop_eq_getElem_cons hi] at ec
     obtain ⟨as2, e2, ec⟩ := bS_ (show (g _ _).bind _ = _ from ec)
     obtain ⟨⟨b, as3⟩, e3, ec⟩ := bS_ ec
     have k14 : ∀ b u, H1 b = some u -> H4 b = some u := λ b u h => k4 b u (k3 b u h)
     have kn4 : ∀ a, H3 a ≠ none -> H4 a ≠ none := λ a z => by
      cases e : H3 a with
      | none => exact absurd e z
      | some u => rw [k4 a u e]; simp
     have R4 := zlU (cap := cap) (T := T) R1 k14 (λ a z => (tf a z).1) (λ a z => kn4 a (tf a z).2)
     have no : ∀ a, ¬ Gw [] (λ _ => []) a := λ a z => z.elim (λ y => nomatch y) λ ⟨_, y⟩ => nomatch y
     refine ⟨_, _, _, _, ds[i], as2, R4, (rp _ (zzC hi)).less λ a z => ?_, e2, λ σ5 ad5 H5 R5 g5 keep5 => ⟨λ j w hw => ?_, _, _, ad5, as2, b, as3, R5, e3, λ ad6 H6 R6 g6 => ?_⟩⟩
     · rcases z with (z | z) | z
       · exact z
       · exact z.elim
       · exact (no a z).elim
     · rw [keep5 j λ z => ?_]
       · exact hw
       · have := hS j z
         unfold Zj at hw
         rw [zzG, this] at hw
         cases hw
     · -- what stood is kept
       have g46 := g5.trans g6
       have k46 : ∀ b u, H4 b = some u -> H6 b = some u := λ b u h => g46.keep b u h (no b)
       have k36 : ∀ b u, H3 b = some u -> H6 b = some u := λ b u h => k46 b u (k4 b u h)
       have kn6 : ∀ a, H3 a ≠ none -> H6 a ≠ none := λ a z => by
        cases e : H3 a with
        | none => exact absurd e z
        | some u => rw [k36 a u e]; simp
       have up : ∀ {H7 : Hp} {T2 : List Addr}, (∀ b u, H3 b = some u -> H7 b = some u) -> (∀ a ∈ T2, H3 a = none) -> RoL (λ _ v d => Rp K kd (Un2 (Lv F B (Gw [] ad1) true) (· ∈ T ++ T2)) H7 v d) (λ a => ¬ Un2 (Lv F B (Gw [] ad1) true) (· ∈ T ++ T2) a) H7 ys os1 T := λ {H7 T2} k7 f7 =>
        RoL.mono (λ st v d r => (r.since k7 f7).less λ a z => z.elim (λ y => .inl (.inl y)) λ y => (zzK.mp y).elim (λ x => .inl (.inr x)) .inr)
         (λ a vs n e => ⟨λ z => z.elim (λ y => n (.inl y)) λ y => (zzK.mp y).elim (λ x => n (.inr x)) λ x => (by have := f7 a x; rw [this] at e; cases e), k7 _ _ e⟩) (λ a _ u h => k7 a u h) rl
       cases b with
       | false =>
        have := up (T2 := []) k36 (λ _ m => nomatch m)
        rw [List.append_nil] at this
        exact ⟨m - 1, by omega, by omega, T, os1, os2, eo, ec, Nat.le_succ_of_le hl, tnd, λ a z => ⟨(tf a z).1, kn6 a (tf a z).2⟩, λ b u h => k36 b u (k3 b u h), this⟩
       | true =>
        rw [if_pos rfl] at ec
        obtain ⟨⟨p, as7⟩, e7, ec⟩ := bS_ ec
        obtain ⟨⟨o, as8⟩, e8, ec⟩ := bS_ ec
        by_cases hs : o.str = true
        · have ec : (if o.str = true then (wz g tt fe (Zq cap as') (ds.drop (i + 1))).bind λ os => some (o :: os) else none) = some os2 := ec
          rw [if_pos hs] at ec
          obtain ⟨os3, e9, ec⟩ := bS_ ec
          cases ec
          refine ⟨by omega, _, _, ad6, as3, p, as7, R6, e7, λ y T2 ad7 H7 R7 rv7 g7 => ?_⟩
          obtain ⟨ad8, R8, ro8, le8⟩ := zdC R7 rv7 e8
          have g47 := g46.trans g7
          have k47 : ∀ b u, H4 b = some u -> H7 b = some u := λ b u h => g47.keep b u h (no b)
          have k37 : ∀ b u, H3 b = some u -> H7 b = some u := λ b u h => k47 b u (k4 b u h)
          have f42 : ∀ a ∈ T2, H4 a = none := λ a z => (g47.own a (.inl z)).resolve_left (no a)
          have f32 : ∀ a ∈ T2, H3 a = none := λ a z => by
             cases e : H3 a with
             | none => rfl
             | some u => have := k4 a u e; rw [f42 a z] at this; cases this
          have rt := zhV R8 R8.tnd (λ a z => .inl z) ro8 hs
          have ro9 : Ro (λ _ v d => Rp K kd (Un2 (Lv F B (Gw [] ad1) true) (· ∈ T ++ T2)) H7 v d) (λ a => ¬ Un2 (Lv F B (Gw [] ad1) true) (· ∈ T ++ T2) a) H7 y o T2 :=
             Ro.mono (λ st v d r => r.less λ a z => z.elim (λ y => .inl (.inl y)) λ y => (zzK.mp y).elim (λ x => .inl (.inr x)) .inr)
              (λ a vs n e => ⟨λ z => n (z.elim (λ y => .inl (.inl y)) λ y => (zzK.mp y).elim (λ x => .inl (.inr x)) .inr), e⟩) (λ _ _ _ h => h) rt.ro
          refine ⟨m - 1, by omega, by omega, T ++ T2, os1 ++ [o], os3, by rw [eo, List.append_assoc]; rfl, e9, by rw [zzH, List.length_singleton]; omega, List.nodup_append.mpr ⟨tnd, rt.nd, λ a z b z' e => ?_⟩, λ a z => ?_, λ b u h => k37 b u (k3 b u h), (up k37 f32).append (RoL.one ro9)⟩
          · subst e
            exact (tf a z).2 (f32 a z')
          · rcases zzK.mp z with z | z
            · refine ⟨(tf a z).1, ?_⟩
              cases e : H3 a with
              | none => exact absurd e (tf a z).2
              | some u => rw [k37 a u e]; simp
            · refine ⟨?_, rt.tr a z⟩
              cases e : H1 a with
              | none => rfl
              | some u => have := k3 a u e; rw [f32 a z] at this; cases this
        · have ec : (if o.str = true then (wz g tt fe (Zq cap as') (ds.drop (i + 1))).bind λ os => some (o :: os) else none) = some os2 := ec
          rw [if_neg hs] at ec
          cases ec
   · refine .inl ⟨i2 (by omega), λ p hp => ?_⟩
     rw [List.drop_eq_nil_of_le (by omega)] at ec
     cases ec
     rw [List.append_nil] at eo
     subst eo
     have pT : p ∉ T := λ z => (tf p z).2 hp
     have H1p : H1 p = none := by
      cases e : H1 p with
      | none => rfl
      | some u => have := k3 p u e; rw [hp] at this; cases this
     have kp : ∀ b u, H3 b = some u -> upd H3 p (.lst ys) b = some u := λ b u h => by rw [yj (yV h hp)]; exact h
     obtain ⟨R9, g9⟩ := R1.news (T' := p :: T) (H' := upd H3 p (.lst ys)) (zzU.mpr ⟨pT, tnd⟩) (λ a z => (zzA.mp z).elim (λ e => by rw [e]; exact H1p) λ z => (tf a z).1) (λ b u h => kp b u (k3 b u h)) (λ a z => by
      rcases zzA.mp z with e | z
      · rw [e, yW]; simp
      · cases e : H3 a with
        | none => exact absurd e (tf a z).2
        | some u => rw [kp a u e]; simp)
     refine q _ (p :: T) ad1 _ R9 (.ls yW ?_) (g1.trans g9)
     have le : ∀ st a, Lv F B (Gw (p :: T) ad1) st a -> Un2 (Un2 (Lv F B (Gw [] ad1) true) (· ∈ T)) (· = p) a := λ st a z => by
      rcases z with (z | z) | z | z
      · exact .inl (.inl (.inl (.inl ⟨rfl, z.2⟩)))
      · exact .inl (.inl (.inl (.inr z)))
      · exact (zzA.mp z).elim .inr λ y => .inl (.inr y)
      · exact .inl (.inl (.inr (.inr z)))
     exact RoL.mono (λ st v d r => (r.since kp (T := (· = p)) λ a z => by rw [z]; exact hp).less (le st)) (λ a vs n e => ⟨λ z => (le true a z).elim n λ y => (by rw [y, hp] at e; cases e), kp _ _ e⟩) (λ a _ u h => kp a u h) rl
 · have e : (if ds.length <= sizeLine then (wz g tt fe (Zq cap as1) ds).bind λ os => some (RV.ow (.nd .ls os), as1) else none) = some (r, as') := e
   rw [if_neg hz] at e
   cases e
end
section
variable {X : Cx} {kd : KD} {elt tg iter e a b c : Expr} {es ifs : List Expr} {scope : Scope} {pos : Pos} {N : List Str} {cap : List (Option Nat)} {g : GF} {tt : TF} {fe fa fb : EF} {fi : IF} {S : List Nat} {fr : AF} {fd : DF}
theorem yJ : PTs X [] (alT X.K kd yP) := λ pins s σ H Q I h => by
 obtain ⟨F, B, ad, as, b, as', R, e, q⟩ := h
 cases e
 exact zlR pins s σ H Q I (q ad H R Grow.refl)
theorem ziJ (h : AT X kd c tt) : PTs X [c] (alT X.K kd tt) := by with_unfolding_all exact (zlO h)
theorem yO (hc : X.calm = true) (hi : AIc X kd tg iter fi) (hk : scope.kind = .function) (hcap : wB N X.N scope.names X.env.scope.names cap = true) (hS : S.all (λ i => cap[i]? == some none) = true)
 (hg : ∀ cl s H fp, AG (vp X N scope cl s H fp) kd tg S g) (ht : ∀ cl s H fp, PTs (vp X N scope cl s H fp) ifs (alT X.K kd tt)) (he : ∀ cl s H fp, AE (vp X N scope cl s H fp) kd elt fe)
 (hs : ∀ x, foldedSetIterable iter X.env x = pure x) : AE X kd (.ListComp elt [⟨tg, iter, ifs, 0⟩] scope pos) (zZ fi cap g tt fe) := by with_unfolding_all exact (xU (zmH (g := alG X.K kd S g) (te := al X.K kd fe) hc hi hk hcap hg ht he hs) λ σ H Q h => zlt (λ i m => by simpa using List.all_eq_true.mp hS i m) h)
theorem zbe {z : Bool} {i : Nat} {y : Str} {py spos : Pos} (hN : X.N.Nodup) (hiy : X.N[i]? = some y) (hy : Loc X.env.scope y) (hf : X.fn y = true \/ X.env.scope.names.lookup y = some .local)
 (hsw : swapsWith (.ListComp elt [⟨tg, iter, ifs, 0⟩] scope pos) (some (.Name y py)) spos.line X.env = pure true)
 (hc : X.calm = true) (hi : AIc X kd tg iter fi) (hk : scope.kind = .function) (hcap : wB N X.N scope.names X.env.scope.names cap = true) (hS : S.all (λ i => cap[i]? == some none) = true)
 (hg : ∀ cl s H fp, AG (vp X N scope cl s H fp) kd tg S g) (ht : ∀ cl s H fp, PTs (vp X N scope cl s H fp) ifs (alT X.K kd tt)) (he : ∀ cl s H fp, AE (vp X N scope cl s H fp) kd elt fe)
 (hs : ∀ x, foldedSetIterable iter X.env x = pure x) : ASt X kd (.Assign [.Name y py] (.ListComp elt [⟨tg, iter, ifs, 0⟩] scope pos) spos) (zR z i (zZ fi cap g tt fe)) := by with_unfolding_all exact (vJ (zmd (g := alG X.K kd S g) (te := al X.K kd fe) hN hiy hy hf hsw hc hi hk hcap hg ht he hs) λ D σ H h => by
 obtain ⟨F, B, ad, as, o, R, e, q⟩ := h
 obtain ⟨⟨p, as1⟩, h1, e⟩ := bS_ (show (zZ fi cap g tt fe as).bind _ = _ from e)
 obtain ⟨⟨y, as2⟩, h2, e⟩ := bS_ e
 obtain ⟨hl, e⟩ := yc e
 cases e
 refine zlt (Q := λ x H1 => zgX i x σ H1 D.nx) (λ i m => by simpa using List.all_eq_true.mp hS i m) ⟨F, B, ad, as, p, as1, R, h1, λ v T' ad' H' R' rv g => ?_⟩
 obtain ⟨ad2, R2, le⟩ := zlc R' rv h2 hl
 exact q _ ad2 H' R2 (g.trans (Grow.less le)))
theorem zT {k : Nat} {f : Addr} {fdt : FuncData} {ps : List Str} {gg : List (Bool × D) -> Option O} {x : Str} {p : Pos} (F : FnOk X.prog X.w X.K X.mg X.base CX0 k f fdt ps (spD X.K kd gg)) (hr : Room k X.A) (hg : Gl X x) (hm : X.mg x = some (.ref f)) (hk : PySem.W.keepIn X.K (.ref f) = true)
 (hb : Binds X.K fdt ps []) (hx : zfJ CX0 X (λ _ _ _ => False)) (ha : AA X kd (e :: es) fr) (hdb : (x == ("__debug__" : Str)) = false) (he : starEach (e :: es) X.env = (false, eval e X.env) :: starEach es X.env) (hpl : (backTo pos (starEach es X.env)).any (·.1) = false) :
 AE X kd (.Call (.Name x p) (e :: es) [] pos) (zQ fr gg) := by with_unfolding_all exact (xU (zmE F hr hg hm hk hb .nil hx ha hdb he hpl) λ σ H Q h => znG h)
theorem Y7 {id : String} {gg : List D -> Option R0} {x : Str} {p : Pos} (hc : CallD X kd (.builtin id) gg) (hg : Gl X x) (hm : X.mg x = none) (hv : bootBuiltins x = some (.builtin id)) (ha : AA X kd (e :: es) fr) (hn : x ≠ "__name__") (hdb : (x == ("__debug__" : Str)) = false)
 (he : starEach (e :: es) X.env = (false, eval e X.env) :: starEach es X.env) (hpl : (backTo pos (starEach es X.env)).any (·.1) = false) : AE X kd (.Call (.Name x p) (e :: es) [] pos) (fP fr gg) := by with_unfolding_all exact (xU (zdE hc hg hm hv ha hn hdb he hpl) λ σ H Q h => alP (λ _ _ _ z => z) h)
theorem Xw {T : String} {gg : List D -> Option R0} {x : Str} {p : Pos} (hc : CallD X kd (.type T) gg) (hg : Gl X x) (hm : X.mg x = none) (hv : bootBuiltins x = some (.type T)) (ha : AA X kd (e :: es) fr) (hn : x ≠ "__name__") (hdb : (x == ("__debug__" : Str)) = false)
 (he : starEach (e :: es) X.env = (false, eval e X.env) :: starEach es X.env) (hpl : (backTo pos (starEach es X.env)).any (·.1) = false) : AE X kd (.Call (.Name x p) (e :: es) [] pos) (fP fr gg) := by with_unfolding_all exact (xU (zjL hc hg hm hv ha hn hdb he hpl) λ σ H Q h => alP (λ _ _ _ z => z) h)
def zbF (fa : EF) (c : String) : EF := λ as => (fa as).bind λ p => (p.1.frz.view p.2).bind λ x => if zit x.1 = true then some (.ow (.lf true (.bl (zeX (tyD x.1) c))), p.2) else none
theorem zki (hk : KdOk X kd) : V3 X (.builtin "isinstance") (λ xs H Q => ∃ x c O d, xs = [x, .ty c] /\ zbd c = true /\ Vw X.K kd O H x d /\ zit d = true /\ Q (.bl (zeX (tyD d) c)) H) := by
 intro pins s σ H xs us Q I r h
 obtain ⟨x, c, O, d, rfl, hc, vx, ho, q⟩ := h
 cases r with
 | cons r1 r2 =>
  cases r2 with
  | cons r2 r3 =>
   cases r3
   cases (show _ = Value.type c from r2)
   exact zou hk I r1 vx hc ho λ tk => ⟨.bl _, H, I.tok tk, rfl, q⟩
theorem zdX {c : String} {x y : Str} {p p2 : Pos} (hkd : KdOk X kd) (hc : zbd c = true) (hg : Gl X x) (hm : X.mg x = none) (hv : bootBuiltins x = some (.builtin "isinstance")) (hg2 : Gl X y) (hm2 : X.mg y = none) (hv2 : bootBuiltins y = some (.type c)) (ha : AE X kd a fa)
 (hn : x ≠ "__name__") (hdb : (x == ("__debug__" : Str)) = false) (hn2 : y ≠ "__name__") (hdb2 : (y == ("__debug__" : Str)) = false)
 (he : starEach [a, .Name y p2] X.env = (false, eval a X.env) :: starEach [.Name y p2] X.env) (he2 : starEach [.Name y p2] X.env = (false, eval (.Name y p2) X.env) :: starEach [] X.env) (hpl : (backTo pos (starEach [.Name y p2] X.env)).any (·.1) = false) :
 AE X kd (.Call (.Name x p) [a, .Name y p2] [] pos) (zbF fa c) := by with_unfolding_all exact (xU (zdE (zki hkd) hg hm hv (VF ha (VF (zmL (v := .ty c) hg2 hm2 hv2 rfl hn2 hdb2) zey he2) he) hn hdb he hpl) λ σ H Q h => by
 obtain ⟨F, B, ad, as, r, as', R, e, q⟩ := h
 obtain ⟨⟨p, as1⟩, h1, e⟩ := bS_ (show (fa as).bind _ = _ from e)
 obtain ⟨⟨d, lv⟩, h2, e⟩ := bS_ e
 obtain ⟨ho, e⟩ := yc e
 cases e
 exact WR R h1 λ v ad1 H1 R1 rv1 g1 => ⟨v, c, _, d, rfl, hc, vZ.vw R1 rv1 h2, ho, q _ [] ad1 H1 R1 (.lf (.bl _)) g1⟩)
def wO : MG := λ os es => match es with | [o] => if os.length < sizeLine then some (os ++ [o], .lf true .non) else none | _ => none
def WP : MG := λ os es => match es with | [.lf _ (.int i)] => if -(2 ^ 63) <= i /\ i < 2 ^ 63 then (seqIndex? i os.length).bind λ k => (os[k]?).bind λ o => some (os.eraseIdx k, o) else none | _ => none
theorem zlT {l f fo g : List Addr} (h : l.Nodup) (e : l = f ++ (fo ++ g)) : ((f ++ g) ++ fo).Nodup /\ ∀ a ∈ (f ++ g) ++ fo, a ∈ l := by
 subst e
 have p : (f ++ (fo ++ g)).Perm ((f ++ g) ++ fo) := by
  rw [List.append_assoc]
  exact (List.perm_append_comm).append_left f
 exact ⟨p.nodup_iff.mp h, λ a m => p.mem_iff.mpr m⟩
theorem Z4 : MuD X kd ziR wO := by
 intro F B G l vs ws os es os' o fp fq H Q hH rl rw' hn e k
 unfold wO at e
 split at e
 · obtain ⟨hz, e⟩ := yc e
   cases e
   cases rw' with
   | cons h1 h2 =>
    cases h2
    rw [List.append_nil] at hn k
    exact ⟨l, vs, _, rfl, rfl, hH, by rw [rl.length]; exact hz, k _ _ _ [] (rl.append (RoL.one h1)) (.lf .non) (λ a m => by rwa [List.append_nil] at m) (by rw [List.append_nil]; exact hn)⟩
 · cases e
theorem zka : MuD X kd zlF WP := by
 intro F B G l vs ws os es os' o fp fq H Q hH rl rw' hn e k
 unfold WP at e
 split at e
 · rename_i st i
   split at e
   · rename_i hi
     obtain ⟨j, hj, e⟩ := bS_ e
     obtain ⟨o1, ho, e⟩ := bS_ e
     cases e
     obtain ⟨v, f, fo, gg, hv, hf, ro, r1, r2⟩ := rl.at_ ho
     cases rw' with
     | cons h1 h2 =>
      cases h2
      cases h1 with
      | lf rp =>
       cases rp
       rw [List.append_nil, List.append_nil] at hn k
       obtain ⟨n1, n2⟩ := zlT hn hf
       refine ⟨l, vs, i, j, v, rfl, rfl, hH, hi.1, hi.2, by rw [rl.length]; exact hj, hv, k v _ (f ++ gg) fo ?_ ro n2 n1⟩
       rw [zcq, zcq]
       exact r1.append r2
   · cases e
 · cases e
theorem Zu {i : Nat} {x : Str} {gg : MG} {r : V -> List V -> Hp -> VK -> Prop} {name : Str} {id : String} {apos cpos p : Pos} (hm : MtM X id r) (hr : MuD X kd r gg) (slot : Slot "list" name id) (hty : typeOf (.builtin id) = pure (.type "method_descriptor")) (ho : PE X (.Name x p) (Xh i)) (ha : AD X kd (e :: es) fd)
 (hbase : attributeBase (.Name x p) name X.env (eval (.Name x p) X.env) = eval (.Name x p) X.env)
 (hfew : ((backTo cpos (starEach (e :: es) X.env)).all (λ x => !x.1) && (backToKw cpos (keywordEach [] X.env)).all (λ x => x.1.isSome)
  && decide ((e :: es).length + ([] : List Keyword).length + (if ([] : List Keyword).isEmpty then 0 else 1) < 30)) = true)
 (hline : (apos.endLine == cpos.line) = true) (hs : starEach (e :: es) X.env = (false, eval e X.env) :: starEach es X.env) (hplain : (backTo cpos (starEach es X.env)).any (·.1) = false) :
 AE X kd (.Call (.Attribute (.Name x p) name apos) (e :: es) [] cpos) (wU i fd gg) := by with_unfolding_all exact (xU (zpZ PySem.F.plainAttrs_list slot hty hm ho ha hbase hfew hline hs hplain) λ σ H Q h => zpY hr h)
end
inductive Ty where
 | str | lst | dct | int
def Ty.nm : Ty -> String
 | .str => "str" | .lst => "list" | .dct => "dict" | .int => "int"
def zml : Ty -> D -> Bool
 | .str, .str _ => true
 | .lst, .lst _ => true
 | .dct, .dct _ => true
 | .int, .int _ => true
 | _, _ => false
def tyS (X : Cx) (T : String) (x : V) (H : Hp) : Prop := ∀ (pins : List (Addr × Obj)) (σ : St) (s : Shared) (v : Value), Inv X pins σ H s -> RelV x v -> s.TypeIs v T /\ ∀ a, v = .ref a -> ∃ ob, s.heap.get? a = some ob /\ ob.dict = none
def tMD (X : Cx) (T : String) (r : V -> List V -> Hp -> VK -> Prop) (to : TE) (t : TA) : TE := λ σ H Q => to σ H λ x H1 => tyS X T x H1 /\ t σ H1 λ xs H2 => r x xs H2 Q
section
variable {X : Cx} {kd : KD} {o e : Expr} {es : List Expr} {to : TE} {t : TA} {name : Str} {apos cpos : Pos} {T id : String} {r : V -> List V -> Hp -> VK -> Prop}
theorem zpD (pa : PlainAttrs T) (slot : Slot T name id) (hty : typeOf (.builtin id) = pure (.type "method_descriptor")) (hm : MtR X id r) (ho : PE X o to) (ha : PA X (e :: es) t)
 (hbase : attributeBase o name X.env (eval o X.env) = eval o X.env)
 (hfew : ((backTo cpos (starEach (e :: es) X.env)).all (λ x => !x.1) && (backToKw cpos (keywordEach [] X.env)).all (λ x => x.1.isSome)
  && decide ((e :: es).length + ([] : List Keyword).length + (if ([] : List Keyword).isEmpty then 0 else 1) < 30)) = true)
 (hline : (apos.endLine == cpos.line) = true) (hs : starEach (e :: es) X.env = (false, eval e X.env) :: starEach es X.env) (hplain : (backTo cpos (starEach es X.env)).any (·.1) = false) :
 PE X (.Call (.Attribute o name apos) (e :: es) [] cpos) (tMD X T r to t) := by
 intro pins s σ H Q I h
 refine wpAny_Call_method_late hbase hfew hline rfl (thn (ho pins s σ H _ I h) λ v s1 ⟨x, H1, I1, r1, ty, q1⟩ => ?_)
 obtain ⟨h1, h2⟩ := ty _ _ _ _ I1 r1
 refine ⟨T, id, pa, slot, hty, h1, h2, ?_⟩
 have hA := ha cpos pins s1 σ H1 _ I1 q1
 rw [hs] at hA ⊢
 refine Calls.callWith_builtin (by show (false || (backTo cpos (starEach es X.env)).any (·.1)) = false; rw [hplain] <;> rfl) (Calls.evalArgs_plain ?_)
 exact thn hA λ us s2 ⟨vs, H2, I2, r2, q2⟩ => hm pins s2 σ H2 x vs v us Q I2 r1 r2 q2
def MtD (X : Cx) (kd : KD) (id : String) (g : D -> List D -> Option R0) : Prop :=
 MtR X id (λ x xs H Q => ∃ O d ds r, (∀ a, O a -> H a ≠ none) /\ Vw X.K kd O H x d /\ VwL X.K kd O H xs ds /\ g d ds = some r /\ RQ X.K kd O H Q r)
theorem zqn (hk : KdOk X kd) {O : Addr -> Prop} {H : Hp} {x : V} {d : D} {ty : Ty} (h : Vw X.K kd O H x d) (e : zml ty d = true) : tyS X ty.nm x H := by
 intro pins σ s v I rx
 cases h with
 | str z =>
  obtain ⟨t, rfl⟩ := rx
  cases ty <;> first | (cases e; done) | exact ⟨typeIs_str s z t, λ _ e => nomatch e⟩
 | int z =>
  obtain ⟨t, rfl⟩ := rx
  cases ty <;> first | (cases e; done) | exact ⟨typeIs_int s z t, λ _ e => nomatch e⟩
 | lst hr rl =>
  cases rx
  obtain ⟨its, _, pl, _⟩ := I.list hr.sq
  cases ty <;> first | (cases e; done) | skip
  refine ⟨pl.isList.typeIs, λ a e => ?_⟩
  cases e
  obtain ⟨o, n, e, c, hd, _⟩ := pl
  exact ⟨o, e, hd⟩
 | dct hr rm =>
  cases rx
  obtain ⟨z, hd, vs, rel, dd⟩ := zeR I hk hr
  cases ty <;> first | (cases e; done) | skip
  refine ⟨dd.typeIs, λ b q => ?_⟩
  cases q
  obtain ⟨ob, _, _, h1, h2, _⟩ := dd
  exact ⟨ob, h1, h2.2.1⟩
 | non => cases ty <;> cases e
 | bl => cases ty <;> cases e
 | tup => cases ty <;> cases e
 | cl => cases ty <;> cases e
 | ob => cases ty <;> cases e
def Wu (ty : Ty) (fa : EF) (fr : AF) (g : D -> List D -> Option R0) : EF := λ as => (fa as).bind λ p => (p.1.frz.view p.2).bind λ w => if zml ty w.1 = true then (fr p.2).bind λ q => (p.1.frz.view q.2).bind λ x => (views q.2 q.1).bind λ y => (g x.1 y.1).bind λ r => (wrap (meet x.2 y.2) r).bind λ z => some (z, q.2) else none
theorem zpo (hk : KdOk X kd) {ty : Ty} {fa : EF} {fr : AF} {g : D -> List D -> Option R0} {σ : St} {H : Hp} {Q : VK} (h : al X.K kd (Wu ty fa fr g) σ H Q) :
 tMD X ty.nm (λ x xs H Q => ∃ O d ds r, (∀ a, O a -> H a ≠ none) /\ Vw X.K kd O H x d /\ VwL X.K kd O H xs ds /\ g d ds = some r /\ RQ X.K kd O H Q r) (al X.K kd fa) (alA X.K kd fr) σ H Q := by
 obtain ⟨F, B, ad, as, r, as', R, e, q⟩ := h
 obtain ⟨⟨p, as1⟩, h1, e⟩ := bS_ (show (fa as).bind _ = _ from e)
 obtain ⟨⟨d0, l0⟩, h0, e⟩ := bS_ e
 obtain ⟨hty, e⟩ := ite_some' e
 obtain ⟨⟨ps, as2⟩, h2, e⟩ := bS_ e
 obtain ⟨⟨d, lv⟩, h3, e⟩ := bS_ e
 obtain ⟨⟨ds, lv2⟩, h4, e⟩ := bS_ e
 obtain ⟨r0, h5, e⟩ := bS_ e
 obtain ⟨z, h6, e⟩ := bS_ e
 cases e
 refine WR R h1 λ v ad1 H1 R1 rv1 g1 => ⟨zqn hk (vZ.vw R1 rv1 h0) hty, F, B, ad1, as1, ps, _, R1, h2, λ vs ad2 H2 R2 rv2 g2 => ?_⟩
 exact ⟨_, d, ds, r0, R2.tr _, (vZ.vw R2 (rv1.grow g2) h3).less Obl.meet1, (zbg R2 rv2 h4).less Obl.meet2, h5, Vz R2 h6 λ w T' H' R' rv' g' => q w T' ad2 H' R' rv' ((g1.trans g2).trans g')⟩
theorem zgs {ty : Ty} {a : Expr} {fa : EF} {fr : AF} {g : D -> List D -> Option R0} (hk : KdOk X kd) (hm : MtD X kd id g) (pa : PlainAttrs ty.nm) (slot : Slot ty.nm name id) (hty : typeOf (.builtin id) = pure (.type "method_descriptor")) (ho : AE X kd a fa) (ha : AA X kd (e :: es) fr)
 (hbase : attributeBase a name X.env (eval a X.env) = eval a X.env)
 (hfew : ((backTo cpos (starEach (e :: es) X.env)).all (λ x => !x.1) && (backToKw cpos (keywordEach [] X.env)).all (λ x => x.1.isSome)
  && decide ((e :: es).length + ([] : List Keyword).length + (if ([] : List Keyword).isEmpty then 0 else 1) < 30)) = true)
 (hline : (apos.endLine == cpos.line) = true) (hs : starEach (e :: es) X.env = (false, eval e X.env) :: starEach es X.env) (hplain : (backTo cpos (starEach es X.env)).any (·.1) = false) :
 AE X kd (.Call (.Attribute a name apos) (e :: es) [] cpos) (Wu ty fa fr g) := by with_unfolding_all exact (xU (zpD pa slot hty hm ho ha hbase hfew hline hs hplain) λ σ H Q h => zpo hk h)
end
section
variable {K : zC} {kd : KD} {F B G : Addr -> Prop} {T : List Addr} {ad : Ad} {as : AS} {σ : St} {H H' : Hp}
inductive RPs (K : zC) (kd : KD) (F B G : Addr -> Prop) (H : Hp) : List (V × V) -> List (Key × O) -> Prop
 | nil : RPs K kd F B G H [] []
 | cons {k : Key} {v : V} {o : O} {ps : List (V × V)} {kos : List (Key × O)} : RoS K kd F B G H v o [] -> RPs K kd F B G H ps kos -> RPs K kd F B G H ((kV k, v) :: ps) ((k, o) :: kos)
end
abbrev Fn := List (Bool × D) -> Option O
section
variable {P : Program} {w : World} {K : zC} {mg : Str -> Option Value} {base : Heap} {kd : KD}
theorem yI {A : Around} {k : Nat} (hr : Room k A) : A.units + 100 < cLine := by have := hr.un; omega
def KD1 (P : Program) (w : World) (K : zC) (kd : KD) : Prop := ∀ X : Cx, X.prog = P -> X.w = w -> X.K = K -> KdOk X kd
theorem Vs {O : Addr -> Prop} {H : Hp} : ∀ ns : List Int, RpL K kd O H (ns.map V.int) (ns.map D.int)
 | [] => .nil
 | _ :: r => .cons (.int _) (Vs r)
theorem zoV {H : Hp} {a : Addr} {ns : List Int} {g : Fn} {E : XK} (hg : g [(true, .lst (ns.map D.int))] = some (.lf true (.bl true))) (hS : RdL K H a (ns.map V.int)) : spD K kd g [.ref a] H (λ v _ => v = .bl true) E := by
 refine ⟨λ _ => False, [(true, .lst (ns.map D.int))], .lf true (.bl true), (λ _ z => z.elim), .cons ?_ .nil, hg, λ v T H' _ _ _ _ ro => ?_⟩
 · rcases hS with h | ⟨its, n, k, z, r⟩
   · exact .lst (λ z => z.2) h (Vs ns)
   · exact .lstK k z r (Vs ns)
 · cases ro with
   | lf rp => cases rp; rfl
end
namespace Bt
theorem len : bootBuiltins "len" = some (.builtin "len") := by decide +kernel
theorem max : bootBuiltins "max" = some (.builtin "max") := by decide +kernel
theorem sorted : bootBuiltins "sorted" = some (.builtin "sorted") := by decide +kernel
theorem divmod : bootBuiltins "divmod" = some (.builtin "divmod") := by decide +kernel
theorem isinstance : bootBuiltins "isinstance" = some (.builtin "isinstance") := by decide +kernel
theorem int : bootBuiltins "int" = some (.type "int") := by decide +kernel
theorem bool : bootBuiltins "bool" = some (.type "bool") := by decide +kernel
theorem str : bootBuiltins "str" = some (.type "str") := by decide +kernel
theorem list : bootBuiltins "list" = some (.type "list") := by decide +kernel
theorem tuple : bootBuiltins "tuple" = some (.type "tuple") := by decide +kernel
theorem n (x : Str) (h : (x == ("__name__" : Str)) = false) : x ≠ "__name__" := λ e => by subst e; simp at h
end Bt
def WD (f : EF) (as : AS) (st : Bool) (d : D) : Prop := f as = some (.ow (.lf st d), as)
def WT (f : TF) (as : AS) (b : Bool) : Prop := f as = some (b, as)
def WA (f : AF) (as : AS) (rs : List (Bool × D)) : Prop := f as = some (rs.map (λ x => .ow (.lf x.1 x.2)), as)
def WO (f : DF) (as : AS) (os : List O) : Prop := f as = some (os, as)
section
variable {as : AS} {f a b : EF} {s t : Bool} {x y z : D} {i j : Int}
theorem zc : WD (fC x) as true x := rfl
theorem zb {i : Nat} (h : as[i]? = some (some (.lf s x))) : WD (fV i) as s x := by unfold WD fV; rw [h]
theorem znu {g : D -> D -> Option R0} (ha : WD a as s x) (hb : WD b as t y) (hg : g x y = some (.im z)) : WD (f2 a b g) as (yt z || (s && t)) z := by
 unfold WD f2 at *
 rw [ha]; show ((b as).bind _) = _
 rw [hb]; show ((g x y).bind _) = _
 rw [hg]
 show (if (yt z || (meet (some s) (some t)).isSome) = true then _ else _ : Option RV).bind _ = _
 rw [if_pos (by unfold meet; simp)]
 rfl
theorem zpM {g : D -> D -> Option R0} {oa ob : O} (ha : a as = some (.ow oa, as)) (hb : b as = some (.ow ob, as)) (hg : g oa.toD ob.toD = some (.im z)) : WD (f2 a b g) as (yt z || (oa.str && ob.str)) z := by
 unfold WD f2 at *
 rw [ha]; show ((b as).bind _) = _
 rw [hb]; show ((g oa.toD ob.toD).bind _) = _
 rw [hg]
 show (if (yt z || (meet (some oa.str) (some ob.str)).isSome) = true then _ else _ : Option RV).bind _ = _
 rw [if_pos (by unfold meet; simp)]
 rfl
theorem zM {g : D -> D -> Option R0} (ha : WD a as s x) (hb : WD b as t y) (hg : g x y = some (.im z)) (e : yt z = true) : WD (f2 a b g) as true z := by
 have := znu ha hb hg; rw [e] at this; exact this
theorem xq (ha : WD a as s (.int i)) (hb : WD b as t (.int j)) : WD (f2 a b (zm .Add)) as true (.int (i + j)) := zM ha hb rfl rfl
theorem zil (ha : WD a as s (.int i)) (hb : WD b as t (.int j)) : WD (f2 a b (zm .Sub)) as true (.int (i - j)) := zM ha hb rfl rfl
theorem wC (ha : WD a as s (.int i)) (hb : WD b as t (.int j)) (h1 : i.natAbs < big) (h2 : j.natAbs < big) : WD (f2 a b (zm .Mult)) as true (.int (i * j)) := zM ha hb (by show (if _ then _ else _) = _; rw [if_pos ⟨h1, h2⟩]) rfl
theorem Yz (ha : WD a as s (.int i)) (hb : WD b as t (.int j)) (h1 : 0 < j) (h2 : j.natAbs < big) : WD (f2 a b (zm .FloorDiv)) as true (.int (i / j)) := zM ha hb (by show (if _ then _ else _) = _; rw [if_pos ⟨h1, h2⟩]) rfl
theorem yF (ha : WD a as s (.int i)) (hb : WD b as t (.int j)) (h1 : 0 < j) : WD (f2 a b (zm .Mod)) as true (.int (i % j)) := zM ha hb (by show (if _ then _ else _) = _; rw [if_pos h1]) rfl
theorem xm {c : Bool} (ha : WD a as s x) (hb : WD b as t y) (h : eqF 60 x y = some c) : WD (f2 a b (zW .Eq)) as true (.bl c) := zM ha hb (by show (eqF 60 x y).bind _ = _; rw [h]; rfl) rfl
theorem znp {c : Bool} (ha : WD a as s x) (hb : WD b as t y) (h : eqF 60 x y = some c) : WD (f2 a b (zW .NotEq)) as true (.bl (!c)) := zM ha hb (by show (eqF 60 x y).bind _ = _; rw [h]; rfl) rfl
theorem zhw (ha : WD a as s (.int i)) (hb : WD b as t (.int j)) : WD (f2 a b (zW .Lt)) as true (.bl (decide (i < j))) := zM ha hb rfl rfl
theorem Xp (ha : WD a as s (.int i)) (hb : WD b as t (.int j)) : WD (f2 a b (zW .Gt)) as true (.bl (decide (j < i))) := zM ha hb rfl rfl
theorem yh {c : Bool} (h : WD f as s x) (e : truth x = some c) : WT (fT f) as c := by
 unfold WT fT; unfold WD at h
 rw [h]; show ((truth x).bind _) = _
 rw [e]; rfl
theorem Vm {c : TF} {k : Bool} (h : WT c as k) : WT (Za c) as (!k) := by unfold WT Za at *; rw [h]; rfl
theorem XR {c e : TF} {k l : Bool} (h : WT c as k) (h2 : k = true -> WT e as l) (h3 : k = false -> l = false) : WT (YJ c e) as l := by
 unfold WT YJ at *; rw [h]
 cases k with
 | true => exact h2 rfl
 | false => rw [h3 rfl]; rfl
theorem zfo {c e : TF} {k l : Bool} (h : WT c as k) (h2 : k = false -> WT e as l) (h3 : k = true -> l = true) : WT (Wz c e) as l := by
 unfold WT Wz at *; rw [h]
 cases k with
 | false => exact h2 rfl
 | true => rw [h3 rfl]; rfl
theorem zoZ {k l : Bool} (h : WD a as s (.bl k)) (h2 : k = true -> WD b as true (.bl l)) (h3 : k = false -> l = false) : WD (zmx a b) as true (.bl l) := by
 unfold WD zmx at *; rw [h]
 cases k with
 | true => exact h2 rfl
 | false => rw [h3 rfl]; rfl
theorem zO : WA aN as [] := rfl
theorem zJ {fr : AF} {rs : List (Bool × D)} (ha : WD a as s x) (hr : WA fr as rs) : WA (aC a fr) as ((s, x) :: rs) := by
 unfold WA aC at *; unfold WD at ha
 rw [ha]; show ((fr as).bind _) = _
 rw [hr]; rfl
theorem zbI : ∀ rs : List (Bool × D), zal as (rs.map (λ x => .ow (.lf x.1 x.2))) = some (rs.map λ x => (yt x.2 || x.1, x.2))
 | [] => rfl
 | r :: rs => by
  show (zkt as (.ow (.lf r.1 r.2))).bind _ = _
  show (zal as (rs.map _)).bind _ = _
  rw [zbI rs]; rfl
theorem Vb : ∀ rs : List (Bool × D), views as (rs.map (λ x => .ow (.lf x.1 x.2))) = some (rs.map (·.2), some (rs.all (·.1)))
 | [] => rfl
 | r :: rs => by
  show (views as (rs.map _)).bind _ = _
  rw [Vb rs]; rfl
theorem zgd {fr : AF} {rs : List (Bool × D)} {g : List (Bool × D) -> Option O} (ha : WA fr as rs) (hg : g (rs.map λ x => (yt x.2 || x.1, x.2)) = some (.lf s x)) : WD (zQ fr g) as s x := by
 unfold WD zQ; unfold WA at ha
 rw [ha]; show (zal as _).bind _ = _
 rw [zbI]; show (g _).bind _ = _
 rw [hg]; rfl
theorem Y4 {fr : AF} {rs : List (Bool × D)} {o : O} {g : List (Bool × D) -> Option O} (ha : WA fr as rs) (hg : g (rs.map λ x => (yt x.2 || x.1, x.2)) = some o) : zQ fr g as = some (.ow o, as) := by
 unfold zQ; unfold WA at ha
 rw [ha]; show (zal as _).bind _ = _
 rw [zbI]; show (g _).bind _ = _
 rw [hg]; rfl
theorem ziM {fr : AF} {rs : List (Bool × D)} {g : List D -> Option R0} (ha : WA fr as rs) (hg : g (rs.map (·.2)) = some (.im x)) : WD (fP fr g) as (yt x || rs.all (·.1)) x := by
 unfold WD fP; unfold WA at ha
 rw [ha]; show (views as _).bind _ = _
 rw [Vb]; show (g _).bind _ = _
 rw [hg]
 show (if (yt x || (some (rs.all (·.1))).isSome) = true then _ else _ : Option RV).bind _ = _
 rw [if_pos (by simp)]; rfl
theorem vQ {fr : AF} {rs : List (Bool × D)} {g : List D -> Option R0} (ha : WA fr as rs) (hg : g (rs.map (·.2)) = some (.im x)) (e : yt x = true) : WD (fP fr g) as true x := by
 have := ziM ha hg; rw [e] at this; exact this
theorem yp : WO dN as [] := rfl
theorem zq {fr : DF} {os : List O} (ha : WD a as s x) (hr : WO fr as os) : WO (dC a fr) as (.lf s x :: os) := by
 unfold WO dC at *; unfold WD at ha
 rw [ha]; show ((fr as).bind _) = _
 rw [hr]; rfl
theorem vI {fr : DF} {os : List O} (h : WO fr as os) (hl : os.length <= sizeLine) : xG fr as = some (.ow (.nd .ls os), as) := by
 unfold xG; unfold WO at h
 rw [h]; show (if os.length <= sizeLine then _ else _) = _
 rw [if_pos hl]
theorem yx {f g : SF} {as1 : AS} {o : Option Out} (h1 : f as = some (.nx as1)) (h2 : g as1 = o) : zF f g as = o := by unfold zF; rw [h1]; exact h2
theorem ziD {f g : SF} {o : O} (h1 : f as = some (.rt o)) : zF f g as = some (.rt o) := by unfold zF; rw [h1]; rfl
theorem vL {c : TF} {f g : SF} {o : Option Out} (h : WT c as true) (h1 : f as = o) : sIf c f g as = o := by unfold sIf; unfold WT at h; rw [h]; exact h1
theorem ym {c : TF} {f g : SF} {o : Option Out} (h : WT c as false) (h1 : g as = o) : sIf c f g as = o := by unfold sIf; unfold WT at h; rw [h]; exact h1
theorem yR {i : Nat} {st : Bool} (h : WD f as s x) (hi : i < as.length) : zR st i f as = some (.nx (as.set i (some (.lf s x)))) := by
 unfold zR; unfold WD at h
 rw [h]
 cases st <;> exact if_pos hi
theorem ww {i : Nat} {o : O} (h : f as = some (.ow o, as)) (hi : i < as.length) : zR false i f as = some (.nx (as.set i (some o))) := by
 unfold zR
 rw [h]
 exact if_pos hi
theorem zng {i : Nat} {o : O} (h : f as = some (.ow o, as)) (hi : i < as.length) : zR true i f as = some (.nx (as.set i (some o.frz))) := by
 unfold zR
 rw [h]
 exact if_pos hi
theorem zdI (h : WD f as true x) : yL f as = some (.rt (.lf true x)) := by unfold yL; unfold WD at h; rw [h]; rfl
theorem zcu {n m : Nat} {c : SF} {ds : List (Bool × D)} {o : O} (hl : ds.length = m) (h : c (Yt n ds) = some (.rt o)) : fnR n m c ds = some o := by unfold fnR; rw [if_pos hl, h]; rfl
theorem xW {g : GF} {f : SF} (I : Nat -> AS -> Prop) : ∀ (xs : List It1) (k : Nat) (as : AS), (∀ i x as, xs[i]? = some x -> I (k + i) as -> ∃ as1, g x as = some as1 /\ ∃ as2, f as1 = some (.nx as2) /\ I (k + i + 1) as2) -> I k as -> ∃ as', forL g f xs as = some (.nx as') /\ I (k + xs.length) as'
 | [], k, as, _, h => ⟨as, rfl, h⟩
 | x :: r, k, as, st, h => by
  obtain ⟨as1, h1, as2, h2, h3⟩ := st 0 x as rfl h
  obtain ⟨as', h4, h5⟩ := xW I r (k + 1) as2 (λ i y as e q => by
   obtain ⟨u, k1, v, k2, k3⟩ := st (i + 1) y as e (by rw [show k + (i + 1) = k + 1 + i by omega]; exact q)
   exact ⟨u, k1, v, k2, by rw [show k + 1 + i + 1 = k + (i + 1) + 1 by omega]; exact k3⟩) h3
  refine ⟨as', ?_, by rw [zzR, show k + (r.length + 1) = k + 1 + r.length by omega]; exact h5⟩
  show (g x as).bind _ = _
  rw [h1]; show (f as1).bind _ = _
  rw [h2]; exact h4
theorem wR {fi : IF} {g : GF} {f : SF} {xs : List It1} {as' : AS} {o : Option Out} (h : fi as = some (xs, as')) (h2 : forL g f xs as' = o) : wy fi g f as = o := by unfold wy; rw [h]; exact h2
theorem vf {lo : Int} {n i : Nat} {x : It1} (h : (wQ lo n)[i]? = some x) : x = (true, .int (lo + i)) /\ i < n := by
 unfold wQ at h
 rw [zzG] at h
 cases e : (List.range n)[i]? with
 | none => rw [e] at h; cases h
 | some k =>
  rw [e] at h
  obtain ⟨h1, h2⟩ := zzE.mp e
  rw [List.length_range] at h1
  rw [List.getElem_range] at h2
  subst h2
  exact ⟨(Option.some.inj h).symm, h1⟩
theorem xY {fr : AF} {j : Int} {u : Bool} (h : WA fr as [(u, .int j)]) (h0 : 0 <= j) (h1 : j < 1000000) : yE fr yD as = some (wQ 0 j.toNat, as) := by
 unfold yE; unfold WA at h
 rw [h]
 simp only [Option.bind_some, Vb]
 show ((if -(2 ^ 62) <= j /\ j < 2 ^ 62 then some (wQ 0 j.toNat) else none).bind _) = _
 rw [if_pos ⟨by omega, by omega⟩]; rfl
theorem zjX {fr : AF} {rs : List (Bool × D)} {o : O} (ha : a as = some (.ow o, as)) (hr : WA fr as rs) : WA (aC a fr) as ((o.str, o.toD) :: rs) := by
 unfold WA aC at *
 rw [ha]; show ((fr as).bind _) = _
 rw [hr]; rfl
theorem zgC {i : Nat} {o : O} (h : as[i]? = some (some o)) : RV.view as (.bo i) = some (o.toD, o.kl) := by simp only [RV.view, h]
theorem zkx {i : Nat} {o : O} (h : as[i]? = some (some o)) : toO as (.bo i) = some (o.frz, as.set i (some o.frz)) := by simp only [toO, h]
theorem zmU {i : Nat} {o : O} (h : as[i]? = some (some o)) (hs : o.str = true) : zjO as (.bo i) = some o := by simp only [zjO, h, hs, if_true]
theorem zfl {i : Nat} {k : Kind} {os : List O} (h : as[i]? = some (some (.nd k os))) : fV i as = some (.bo i, as) := by unfold fV; rw [h]
theorem zqU {i : Nat} {os : List O} (h : as[i]? = some (some (.nd .ls os))) : WD (fP (aC (fV i) aN) zcG) as true (.int os.length) := by
 have e : views as [.bo i] = some ([.lst (O.toDs os)], meet (O.nd .ls os).kl (some true)) := by
  show (RV.view as (.bo i)).bind _ = _
  rw [zgC h]; rfl
 unfold WD fP aC
 rw [zfl h]
 simp only [Option.bind_some, aN, RV.frz, e]
 rw [show zcG [.lst (O.toDs os)] = some (.im (.int os.length)) by show some (R0.im (.int ((O.toDs os).length : Nat))) = _; rw [zci]]
 rfl
theorem zcb {g : GF} {f : SF} {d : It1} {r : List It1} {as1 as2 : AS} {o : Option Out} (h1 : g d as = some as1) (h2 : f as1 = some (.nx as2)) (h3 : forL g f r as2 = o) : forL g f (d :: r) as = o := by
 show (g d as).bind _ = _
 rw [h1]; show (f as1).bind _ = _
 rw [h2]; exact h3
theorem zlx {g : GF} {f : SF} {d : It1} {r : List It1} {as1 : AS} {o : O} (h1 : g d as = some as1) (h2 : f as1 = some (.rt o)) : forL g f (d :: r) as = some (.rt o) := by
 show (g d as).bind _ = _
 rw [h1]; show (f as1).bind _ = _
 rw [h2]; rfl
theorem zow {i : Nat} {os : List O} (h : as[i]? = some (some (.nd .ls os))) (hl : os.length < sizeLine) (ha : WD a as s x) : xN (wU i (dC a dN) wO) as = some (.nx (as.set i (some (.nd .ls (os ++ [.lf s x]))))) := by
 unfold xN wU; rw [h]
 have e : dC a dN as = some ([.lf s x], as) := zq ha yp
 show ((dC a dN as).bind _).bind _ = _
 rw [e]; show (Option.bind (match as[i]? with | some (some (.nd .ls os)) => _ | _ => none) _) = _
 rw [h]; show ((wO os [.lf s x]).bind _).bind _ = _
 have e2 : wO os [.lf s x] = some (os ++ [.lf s x], .lf true .non) := by unfold wO; exact if_pos hl
 rw [e2]; rfl
theorem zly {i : Nat} {os : List O} {k : Int} {o : O} (h : as[i]? = some (some (.nd .ls os))) (ha : WD a as s (.int k)) (h0 : 0 <= k) (h1 : k < os.length) (hs : os.length < 2 ^ 60) (ho : os[k.toNat]? = some o) : wU i (dC a dN) WP as = some (.ow o, as.set i (some (.nd .ls (os.eraseIdx k.toNat)))) := by
 unfold wU; rw [h]
 have e : dC a dN as = some ([.lf s (.int k)], as) := zq ha yp
 show ((dC a dN as).bind _) = _
 rw [e]; show (match as[i]? with | some (some (.nd .ls os)) => _ | _ => none) = _
 rw [h]; show ((WP os [.lf s (.int k)]).bind _) = _
 have e2 : WP os [.lf s (.int k)] = some (os.eraseIdx k.toNat, o) := by
  unfold WP
  show (if -(2 ^ 63) <= k /\ k < 2 ^ 63 then _ else _) = _
  rw [if_pos ⟨by omega, by omega⟩]
  have e3 : seqIndex? k os.length = some k.toNat := by unfold seqIndex?; simp; omega
  rw [e3]; show ((os[k.toNat]?).bind _) = _
  rw [ho]; rfl
 rw [e2]; rfl
theorem zor {g : GF} {o : O} {as' : AS} (h : f as = some (.ow o, as)) (hg : g (o.str, o.toD) as = some as') : zcJ f g as = some (.nx as') := by
 unfold zcJ; rw [h]
 show (g (o.str, o.toD) as).bind _ = _
 rw [hg]; rfl
theorem zix {i : Nat} {o : O} (h : as[i]? = some (some o)) (hs : o.str = true) : yL (fV i) as = some (.rt o) := by
 cases o with
 | lf st d => unfold yL fV; rw [h]; have : st = true := hs; subst this; rfl
 | nd k os =>
  unfold yL; rw [zfl h]; show (zjO as (.bo i)).bind _ = _
  rw [zmU h hs]; rfl
theorem zbO {fr : DF} {os : List O} (h : WO fr as os) (hl : os.length <= sizeLine) (ha : os.all O.isLf = true) : WD (yZ fr) as (O.strs os) (.tup (O.toDs os)) := by
 unfold WD yZ; unfold WO at h
 rw [h]; show (if os.length <= sizeLine then some (RV.ow (YW os), as) else _) = _
 rw [if_pos hl]; unfold YW; rw [if_pos ha]
theorem zoj {g : D -> D -> Option R0} {oa ob : O} {zs : List D} {as1 as2 : AS} (ha : a as = some (.ow oa, as1)) (hb : b as1 = some (.ow ob, as2)) (hg : g oa.toD ob.toD = some (.fl zs)) : f2 a b g as = some (.ow (.nd .ls (zs.map (lfs (oa.str && ob.str)))), as2) := by
 unfold f2
 rw [ha]; show ((b as1).bind _) = _
 rw [hb]; show ((g oa.toD ob.toD).bind _) = _
 rw [hg]
 show (if (zs.all yt || (meet (some oa.str) (some ob.str)).isSome) = true then _ else _ : Option RV).bind _ = _
 rw [if_pos (by unfold meet; simp)]
 rfl
theorem xM {g : D -> D -> Option R0} (ha : WD a as true x) (hb : WD b as true y) (hg : g x y = some (.im z)) : WD (f2 a b g) as true z := by
 have := znu ha hb hg
 rw [show (yt z || (true && true)) = true by simp] at this
 exact this
theorem zbw : ∀ zs : List D, zs.map (lfs true) = zs.map (O.lf true)
 | [] => rfl
 | z :: r => by
  show lfs true z :: r.map (lfs true) = _
  rw [zbw r]; unfold lfs; rw [Bool.or_true]; rfl
theorem zmp {g : D -> D -> Option R0} {oa ob : O} {zs : List D} {as1 as2 : AS} (ha : a as = some (.ow oa, as1)) (hb : b as1 = some (.ow ob, as2)) (hg : g oa.toD ob.toD = some (.fl zs)) (h1 : oa.str = true) (h2 : ob.str = true) : f2 a b g as = some (.ow (.nd .ls (zs.map (O.lf true))), as2) := by
 have := zoj ha hb hg
 rw [h1, h2, show (true && true) = true from rfl, zbw] at this
 exact this
theorem xX {fr : DF} {o : O} {os : List O} {as1 as2 : AS} (ha : a as = some (.ow o, as1)) (hr : fr as1 = some (os, as2)) : dC a fr as = some (o :: os, as2) := by
 unfold dC
 rw [ha]; show ((fr as1).bind _) = _
 rw [hr]; rfl
theorem add_lists {xs ys : List D} (h : xs.length + ys.length <= sizeLine) : zm .Add (.lst xs) (.lst ys) = some (.fl (xs ++ ys)) := if_pos h
theorem zbZ (lo : Int) (n : Nat) : wQ lo (n + 1) = (true, .int lo) :: wQ (lo + 1) n := by
 unfold wQ
 rw [List.range_succ_eq_map, List.map_cons, List.map_map]
 congr 1
 · simp
 · apply List.map_congr_left
   intro i _
   show (true, D.int _) = (true, D.int _)
   congr 2
   show lo + ((i + 1 : Nat) : Int) = _
   omega
theorem zli {fr : AF} {rs : List (Bool × D)} {g : List D -> Option R0} (ha : WA fr as rs) (hg : g (rs.map (·.2)) = some (.im x)) (e : rs.all (·.1) = true) : WD (fP fr g) as true x := by
 have := ziM ha hg; rw [e, Bool.or_true] at this; exact this
theorem zgw {ty : Ty} {fr : AF} {rs : List (Bool × D)} {g : D -> List D -> Option R0} (ha : WD a as s y) (ht : zml ty y = true) (hr : WA fr as rs) (hg : g y (rs.map (·.2)) = some (.im x)) (e : yt x = true) : WD (Wu ty a fr g) as true x := by
 unfold WD Wu; unfold WD at ha; unfold WA at hr
 rw [ha]
 show (if zml ty y = true then _ else _ : Option (RV × AS)) = _
 rw [if_pos ht, hr]
 simp only [Option.bind_some, Vb]
 show ((g y (rs.map (·.2))).bind _) = _
 rw [hg]
 show (if (yt x || _) = true then _ else _ : Option RV).bind _ = _
 rw [if_pos (by rw [e]; rfl)]
 show some (RV.ow (.lf (yt x || _) x), as) = _
 rw [e]; rfl
theorem zkc {fl fh : OF} {lo hi : Option Int} {g : D -> Option Int -> Option Int -> Option R0} (ha : WD a as s y) (hl : fl as = some (lo, as)) (hh : fh as = some (hi, as)) (hg : g y lo hi = some (.im x)) : WD (fSl a fl fh g) as (yt x || s) x := by
 unfold WD fSl; unfold WD at ha
 rw [ha]; show ((fl as).bind _) = _
 rw [hl]; show ((fh as).bind _) = _
 rw [hh]; show ((g y lo hi).bind _) = _
 rw [hg]
 show (if (yt x || (some s).isSome) = true then _ else _ : Option RV).bind _ = _
 rw [if_pos (by simp)]; rfl
theorem VL {fi : IF} {cap : List (Option Nat)} {g : GF} {tt : TF} {fe : EF} {xs : List It1} {os : List O} (h1 : fi as = some (xs, as)) (hl : xs.length <= sizeLine) (h2 : wz g tt fe (Zq cap as) xs = some os) : zZ fi cap g tt fe as = some (.ow (.nd .ls os), as) := by
 unfold zZ
 rw [h1]; show (if xs.length <= sizeLine then _ else _) = _
 rw [if_pos hl]; show (wz g tt fe (Zq cap as) xs).bind _ = _
 rw [h2]; rfl
end
theorem szl {n : Nat} (h : Nat.ble n 1000 = true) : n <= sizeLine := Nat.le_of_lt (vC (Nat.le_of_ble_eq_true h))
theorem zG {a b : Nat} (h : Nat.ble (a + 1) b = true) : a < b := Nat.le_of_ble_eq_true h
theorem zY {i : Int} (h0 : -(10 ^ 200) < i) (h1 : i < 10 ^ 200) : i.natAbs < big := by
 have : (10 : Nat) ^ 200 < big := by unfold big; decide +kernel
 have e : ((10 ^ 200 : Nat) : Int) = (10 : Int) ^ 200 := by norm_cast
 have : (i.natAbs : Int) < ((10 ^ 200 : Nat) : Int) := by rw [e]; omega
 omega
theorem zmV {ns : List Int} {k : Int} (h0 : 0 <= k) (h1 : k < ns.length) : ∃ x, ixP (.lst (ns.map D.int)) (.int k) = some (.im (.int x)) := by
 have hk : k.toNat < ns.length := by omega
 refine ⟨ns[k.toNat], ?_⟩
 have h := Ye (xs := ns.map D.int) (j := k.toNat) (v := D.int ns[k.toNat]) (by rw [zzG, zzC hk]; rfl)
 rw [show ((k.toNat : Nat) : Int) = k by omega] at h
 show imR (atI _ _) = _
 rw [h]; rfl
section
variable {X : Cx} {kd : KD} {K : zC} {mg : Str -> Option Value}
def spL (K : zC) (g : Fn) : Sp := λ vs H Q E => ∀ kd : KD, spD K kd g vs H Q E
end
def lfO : O -> Option (Bool × D)
 | .lf s d => some (s, d)
 | _ => none
theorem zkS {o : O} {p : Bool × D} (h : lfO o = some p) : o = .lf p.1 p.2 := by
 cases o with
 | lf s d => cases h; rfl
 | nd k os => cases h
def zlo (i j : Nat) (fd : DF) : SF := λ as => (fd as).bind λ p => (zpn p.1).bind λ o => (lfO o.1).bind λ a => (lfO o.2).bind λ b => if i < p.2.length /\ j < p.2.length then some (.nx ((p.2.set i (some (.lf a.1 a.2))).set j (some (.lf b.1 b.2)))) else none
section
variable {X : Cx} {kd : KD} {a b : Expr} {fd : DF} {pos : Pos}
theorem zoG {i j : Nat} {x y : Str} {px py pt : Pos} {kt k2 pt2} (hc : X.calm = true) (hN : X.N.Nodup) (hi : X.N[i]? = some x) (hj : X.N[j]? = some y) (hij : i ≠ j)
 (hx : X.env.scope.names.lookup x = some .local) (hy : X.env.scope.names.lookup y = some .local) (ha : AD X kd [a, b] fd)
 (hw : swappedStores [.Tuple [.Name x px, .Name y py] kt pt] (.Tuple [a, b] k2 pt2) X.env = pure (some [x, y]))
 (hs : swapsWithSole [.Tuple [.Name x px, .Name y py] kt pt] (.Tuple [a, b] k2 pt2) pos.line X.env = pure false) :
 ASt X kd (.Assign [.Tuple [.Name x px, .Name y py] kt pt] (.Tuple [a, b] k2 pt2) pos) (zlo i j fd) := by with_unfolding_all exact (vJ (zoN hc hN hi hj hij hx hy ha hw hs) λ D σ H h => by
 obtain ⟨F, B, ad, as, o, R, e, q⟩ := h
 obtain ⟨⟨os, as1⟩, h1, e⟩ := bS_ (show (fd as).bind _ = _ from e)
 obtain ⟨⟨o1, o2⟩, e1, e⟩ := bS_ e
 obtain ⟨⟨s1, d1⟩, e2, e⟩ := bS_ e
 obtain ⟨⟨s2, d2⟩, e3, e⟩ := bS_ e
 cases ziW e1
 cases zkS e2
 cases zkS e3
 · obtain ⟨⟨l1, l2⟩, e⟩ := yc e
   cases e
   refine ⟨F, B, ad, as, _, as1, R, h1, λ vs T' ad' H' R' rl g => ?_⟩
   cases rl with
   | cons ra rb =>
    cases rb with
    | cons rb rn =>
     cases rn
     cases ra with
     | lf ra =>
      cases rb with
      | lf rb =>
       refine ⟨_, _, rfl, ?_⟩
       have R2 := R'.put (T := []) (i := i) (o := .lf s1 d1) l1 (.lf ra)
       have R3 := R2.put (T := []) (i := j) (o := .lf s2 d2) (by rw [zzS]; exact l2) (RoS.less vA (.lf rb))
       exact q _ _ _ R3 (g.trans (Grow.less λ a z => vA a (vA a z))))
end
inductive Ents (w : World) : List DictEntry -> List (Key × V) -> Prop
 | nil : Ents w [] []
 | str {x : Str} {t : Tok} {v : V} {u : Value} {r : List DictEntry} {s : List (Key × V)} : RelV v u -> Ents w r s -> Ents w (⟨PyData.keyHash w.params x, .str x t, u⟩ :: r) ((.inr x, v) :: s)
theorem Ents.keys {P : Program} {w : World} : ∀ {es : List DictEntry} {kvs : List (Key × V)}, Ents w es kvs -> ∀ e ∈ es, ∃ k, (Zg P w).is k e.key = true /\ e.hash = (Zg P w).hash k
 | _, _, .nil, _, m => nomatch m
 | _, _, .str (x := x) (t := t) _ r, e, m => by
  rcases zzA.mp m with rfl | m
  · exact ⟨.inr x, Vn P w x t, rfl⟩
  · exact r.keys e m
theorem Ents.pairs {P : Program} {w : World} : ∀ {es : List DictEntry} {kvs : List (Key × V)}, Ents w es kvs -> ∃ vs, KV kvs vs /\ Pairs (Zg P w) es vs /\ vs.map (·.1) = kvs.map (·.1)
 | _, _, .nil => ⟨[], .nil, .nil, rfl⟩
 | _, _, .str (x := x) (t := t) (u := u) h r => by
  obtain ⟨vs, h1, h2, h3⟩ := r.pairs (P := P)
  exact ⟨(.inr x, u) :: vs, .cons ⟨rfl, h⟩ h1, .cons (Vn P w x t) rfl h2, by rw [List.map_cons, List.map_cons, h3]⟩
structure DctAt (w : World) (K : zC) (a : Addr) (kvs : List (Key × V)) : Prop where
 ex : ∃ es ep, K.lookup a = some { cls := .type "dict", data := .dict es ep } /\ Ents w es.toList kvs
 nd : (kvs.map (·.1)).Nodup
 le : kvs.length <= sizeLine
 ns : (a == sysModules) = false
def kdL (l : List (Addr × List (Key × V))) (c : Str -> Addr := λ _ => 0) : KD := ⟨λ a k => l.lookup a = some k, c⟩
theorem lookup_mem {l : List (Addr × List (Key × V))} {a : Addr} {k : List (Key × V)} (h : l.lookup a = some k) : (a, k) ∈ l := by
 induction l with
 | nil => cases h
 | cons p r ih =>
  rw [List.lookup_cons] at h
  by_cases e : a = p.1
  · subst e
    rw [beq_self_eq_true] at h
    cases h
    exact zzD
  · rw [show (a == p.1) = false from beq_eq_false_iff_ne.mpr e] at h
    exact zzB _ (ih h)
theorem zoY {P : Program} {w : World} {K : zC} {l : List (Addr × List (Key × V))} {c : Str -> Addr} (h : ∀ p ∈ l, DctAt w K p.1 p.2) : KD1 P w K (kdL l c) := λ X e1 e2 e3 => by
 subst e1; subst e2; subst e3
 refine ⟨λ a k k' h1 h2 => Option.some.inj (h1.symm.trans h2), λ a k h1 => ?_, λ a k hp h1 hin => ?_⟩
 · obtain ⟨es, ep, e, _⟩ := (h _ (lookup_mem h1)).ex
   exact ⟨_, e⟩
 · have q := h _ (lookup_mem h1)
   obtain ⟨es, ep, e, en⟩ := q.ex
   obtain ⟨vs, h2, h3, h4⟩ := en.pairs (P := X.prog)
   refine ⟨q.le, q.ns, vs, h2, _, es, ep, hin _ _ e, ⟨rfl, rfl, rfl⟩, rfl, λ x m => en.keys x (by simpa using m), h3, by rw [h4]; exact q.nd⟩
def isStar : Expr -> Bool
 | .Starred .. => true
 | _ => false
theorem za {a : Expr} {es : List Expr} {env : Env} (h : isStar a = false) : starEach (a :: es) env = (false, eval a env) :: starEach es env := by
 cases a <;> first | rfl | cases h
section
variable {as : AS} {f a b c : EF} {s t u : Bool} {x y z : D} {i j k : Int}
theorem zpg {cl : String} (h : WD f as s x) (ho : zit x = true := by rfl) : WD (zbF f cl) as true (.bl (zeX (tyD x) cl)) := by
 unfold WD zbF at *; rw [h]; show (if zit x = true then _ else _) = _; rw [if_pos ho]; rfl
theorem zbH {cl : String} {q : Bool} (h : WD f as s x) (e : zeX (tyD x) cl = q) (ho : zit x = true := by rfl) : WD (zbF f cl) as true (.bl q) := by subst e; exact zpg h ho
theorem zfs {fl fh : OF} {lo hi : Option Int} {g : D -> Option Int -> Option Int -> Option R0} (ha : WD a as true y) (hl : fl as = some (lo, as)) (hh : fh as = some (hi, as)) (hg : g y lo hi = some (.im x)) : WD (fSl a fl fh g) as true x := by
 have := zkc ha hl hh hg; rw [Bool.or_true] at this; exact this
theorem zph {q : Bool} (h : WD f as s (.bl q)) : WD (zma f) as true (.bl (!q)) := by
 unfold WD zma at *; rw [h]; rfl
theorem zoW {cc : TF} {g : SF} {n : Nat} {as1 : AS} {o : Option Out} (h : WT cc as true) (h1 : g as = some (.nx as1)) (h2 : whL cc g n as1 = o) : whL cc g (n + 1) as = o := by
 unfold WT at h
 show (cc as).bind _ = _
 rw [h]; show (g as).bind _ = _
 rw [h1]; exact h2
theorem zok {cc : TF} {g : SF} {n : Nat} (h : WT cc as false) : whL cc g (n + 1) as = some (.nx as) := by
 unfold WT at h
 show (cc as).bind _ = _
 rw [h]; rfl
theorem zos {p q : Nat} {fd : DF} (h : WO fd as [.lf s x, .lf t y]) (hi : p < as.length) (hj : q < as.length) : zlo p q fd as = some (.nx ((as.set p (some (.lf s x))).set q (some (.lf t y)))) := by
 unfold zlo; unfold WO at h
 rw [h]; show (if _ then _ else _) = _
 rw [if_pos ⟨hi, hj⟩]
theorem zfk {g : GF} {tt : TF} {fe : EF} {as0 as1 : AS} {w : It1} {r : List It1} {o : Option (List O)} (h1 : g w as0 = some as1) (h2 : WT tt as1 false) (h3 : wz g tt fe as0 r = o) : wz g tt fe as0 (w :: r) = o := by
 unfold WT at h2
 show (g w as0).bind _ = _
 rw [h1]; show (tt as1).bind _ = _
 rw [h2]; exact h3
theorem zjG {g : GF} {tt : TF} {fe : EF} {as0 as1 : AS} {w : It1} {r : List It1} {os : List O} (h1 : g w as0 = some as1) (h2 : WT tt as1 true) (h3 : WD fe as1 true x) (h4 : wz g tt fe as0 r = some os) : wz g tt fe as0 (w :: r) = some (.lf true x :: os) := by
 unfold WT at h2; unfold WD at h3
 show (g w as0).bind _ = _
 rw [h1]; show (tt as1).bind _ = _
 rw [h2]; show (fe as1).bind _ = _
 rw [h3]; show (wz g tt fe as0 r).bind _ = _
 rw [h4]; rfl
def WE (f : EF) (as : AS) (x : D) : Prop := ∃ o, f as = some (.ow o, as) /\ o.str = true /\ o.toD = x
def RE (r : Option O) (x : D) : Prop := ∃ o, r = some o /\ o.str = true /\ o.toD = x
theorem WD.e (h : WD f as true x) : WE f as x := ⟨_, h, rfl, rfl⟩
theorem vD {fr : DF} {os : List O} (h : WO fr as os) (hl : os.length <= sizeLine) (hs : O.strs os = true) (e : D.lst (O.toDs os) = x) : WE (xG fr) as x := ⟨_, vI h hl, hs, e⟩
theorem Yw {fr : AF} {rs : List (Bool × D)} (h : WE a as x) (hr : WA fr as rs) : WA (aC a fr) as ((true, x) :: rs) := by
 obtain ⟨o, h1, h2, rfl⟩ := h
 have := zjX h1 hr
 rw [h2] at this
 exact this
theorem zdU {g : List (Bool × D) -> Option O} (ha : WE a as x) (hg : RE (g [(true, x)]) z) : WE (zQ (aC a aN) g) as z := by
 obtain ⟨o, h1, h2, h3⟩ := hg
 exact ⟨o, Y4 (Yw ha zO) (by show g [(yt x || true, x)] = _; rw [Bool.or_true]; exact h1), h2, h3⟩
theorem zak {g : List (Bool × D) -> Option O} (ha : WE a as x) (hb : WE b as y) (hg : RE (g [(true, x), (true, y)]) z) : WE (zQ (aC a (aC b aN)) g) as z := by
 obtain ⟨o, h1, h2, h3⟩ := hg
 exact ⟨o, Y4 (Yw ha (Yw hb zO)) (by show g [(yt x || true, x), (yt y || true, y)] = _; rw [Bool.or_true, Bool.or_true]; exact h1), h2, h3⟩
theorem Xj {w : D} {g : List (Bool × D) -> Option O} (ha : WE a as x) (hb : WE b as y) (hc : WE c as w) (hg : RE (g [(true, x), (true, y), (true, w)]) z) : WE (zQ (aC a (aC b (aC c aN))) g) as z := by
 obtain ⟨o, h1, h2, h3⟩ := hg
 exact ⟨o, Y4 (Yw ha (Yw hb (Yw hc zO))) (by show g [(yt x || true, x), (yt y || true, y), (yt w || true, w)] = _; rw [Bool.or_true, Bool.or_true, Bool.or_true]; exact h1), h2, h3⟩
theorem zpa {g : List (Bool × D) -> Option O} (ha : WE a as x) (hb : WE b as y) (hg : g [(true, x), (true, y)] = some (.lf s z)) : WD (zQ (aC a (aC b aN)) g) as s z := Y4 (Yw ha (Yw hb zO)) (by show g [(yt x || true, x), (yt y || true, y)] = _; rw [Bool.or_true, Bool.or_true]; exact hg)
theorem f2E {g : D -> D -> Option R0} (ha : WE a as x) (hb : WE b as y) (hg : g x y = some (.im z)) : WD (f2 a b g) as true z := by
 obtain ⟨o, h1, h2, rfl⟩ := ha
 obtain ⟨p, h3, h4, rfl⟩ := hb
 have := zpM h1 h3 hg
 rw [h2, h4, Bool.and_true, Bool.or_true] at this
 exact this
theorem f2L {g : D -> D -> Option R0} {zs : List D} (ha : WE a as x) (hb : WE b as y) (hg : g x y = some (.fl zs)) : f2 a b g as = some (.ow (.nd .ls (zs.map (O.lf true))), as) := by
 obtain ⟨o, h1, h2, rfl⟩ := ha
 obtain ⟨p, h3, h4, rfl⟩ := hb
 exact zmp h1 h3 hg h2 h4
theorem ziv : ∀ zs : List D, O.strs (zs.map (O.lf true)) = true
 | [] => rfl
 | _ :: r => ziv r
theorem ziz : ∀ zs : List D, O.toDs (zs.map (O.lf true)) = zs
 | [] => rfl
 | z :: r => congrArg (z :: ·) (ziz r)
theorem zoK {g : D -> D -> Option R0} {zs : List D} (ha : WE a as x) (hb : WE b as y) (hg : g x y = some (.fl zs)) : WE (f2 a b g) as (.lst zs) := ⟨_, f2L ha hb hg, ziv zs, congrArg D.lst (ziz zs)⟩
theorem Zw {p : Nat} (h : WE f as x) (hi : p < as.length) : zR true p f as = some (.nx (as.set p (some (.lf true x)))) := by
 obtain ⟨o, h1, h2, rfl⟩ := h
 have := zng h1 hi
 rw [show o.frz = .lf true o.toD by unfold O.frz; rw [h2]] at this
 exact this
theorem zjS {q : Bool} (ha : WE a as x) (hb : WE b as y) (h : eqF 60 x y = some q) : WD (f2 a b (zW .NotEq)) as true (.bl (!q)) := f2E ha hb (by show (eqF 60 x y).bind _ = _; rw [h]; rfl)
theorem Vg {fr : DF} {o : O} {os : List O} (ha : a as = some (.ow o, as)) (hr : WO fr as os) : WO (dC a fr) as (o :: os) := xX ha hr
theorem zfC {fr : DF} {os : List O} (h : WO fr as os) (hl : os.length <= sizeLine) : yZ fr as = some (.ow (YW os), as) := by
 unfold yZ; unfold WO at h
 rw [h]; show (if os.length <= sizeLine then some (RV.ow (YW os), as) else _) = _
 rw [if_pos hl]
theorem zaX {fl fh : OF} {lo hi : Option Int} {g : D -> Option Int -> Option Int -> Option R0} {zs : List D} (ha : WE a as y) (hl : fl as = some (lo, as)) (hh : fh as = some (hi, as)) (hg : g y lo hi = some (.fl zs)) : WE (fSl a fl fh g) as (.lst zs) := by
 obtain ⟨o, h1, h2, rfl⟩ := ha
 refine ⟨.nd .ls (zs.map (O.lf true)), ?_, ziv zs, congrArg D.lst (ziz zs)⟩
 unfold fSl
 rw [h1]; show ((fl as).bind _) = _
 rw [hl]; show ((fh as).bind _) = _
 rw [hh]; show ((g o.toD lo hi).bind _) = _
 rw [hg]
 show (if (zs.all yt || (some o.str).isSome) = true then some (RV.ow (.nd .ls (zs.map (lfs ((some o.str).getD false))))) else none : Option RV).bind _ = _
 rw [if_pos (by simp), h2]
 show some (RV.ow (.nd .ls (zs.map (lfs true))), as) = _
 rw [zbw]
theorem zjN {xs ys : List D} : slP (.lst (xs ++ ys)) (some (xs.length : Int)) none = some (.fl ys) := by
 show some (R0.fl (cutD (xs ++ ys) (some (xs.length : Int)) none)) = _
 congr 2
 unfold cutD
 rw [HT.zda, HT.zgR, zzH, Nat.min_eq_left (by omega), List.drop_left, List.take_of_length_le (by omega)]
theorem zdV : ∀ ds : List D, kids true ds = ds.map λ d => (true, d)
 | [] => rfl
 | d :: r => by show (yt d || true, d) :: kids true r = _; rw [zdV r, Bool.or_true]; rfl
theorem zfw {ds : List D} (h : WE f as (.lst ds)) : Y8 f as = some (ds.map λ d => (true, d), as) := by
 obtain ⟨o, h1, h2, h3⟩ := h
 unfold Y8
 rw [h1]; show (zgQ (o.str, o.toD)).bind _ = _
 rw [h2, h3]; show some (kids true ds, as) = _
 rw [zdV]
theorem znA {ds : List D} (h : WD f as true (.lst ds)) : zfz f as = some (ds.map λ d => (true, d), as) := by
 unfold zfz; unfold WD at h
 rw [h]; show some (kids true ds, as) = _
 rw [zdV]
end
def zcE : List D -> Option (List Str)
 | [] => some []
 | .str x :: r => (zcE r).bind λ s => some (x :: s)
 | _ :: _ => none
theorem zmz {K : zC} {kd : KD} {O : Addr -> Prop} {H : Hp} {vs : List V} {us : List Value} {ds : List D} {ns : List Str} (h : RpL K kd O H vs ds) (hv : Vals vs us) (e : zcE ds = some ns) : StrsAre us ns :=
 RpL.ind (P := λ vs ds => ∀ us ns, Vals vs us -> zcE ds = some ns -> StrsAre us ns) (λ us ns hv e => by cases e; cases hv; exact .nil) (λ {v d vs ds} a _ ih us ns hv e => by
  cases hv with
  | cons b t =>
   cases a with
   | str x =>
    obtain ⟨ys, h1, h2⟩ := bS_ (show (zcE _).bind _ = _ from e)
    cases h2
    obtain ⟨tk, rfl⟩ := b
    exact .cons _ _ (ih _ _ t h1)
   | _ => cases e) h us ns hv e
def zjf : D -> List D -> Option R0
 | .str sep, [.lst ds] => (zcE ds).bind λ ys => if (ys.map (·.length)).sum + ys.length * sep.length <= 16777216 then some (.im (.str (Txt.join sep ys))) else none
 | _, _ => none
section
variable {X : Cx} {kd : KD}
theorem zmB : MtD X kd "str.join" zjf := by
 intro pins s σ H x xs v us Q I rx r h
 obtain ⟨O, d, ds, r0, ht, vx, vl, he, q⟩ := h
 unfold zjf at he
 split at he
 · rename_i sep es
   obtain ⟨ys, h1, he⟩ := bS_ he
   obtain ⟨hz, he⟩ := yc he
   cases he
   cases vx
   obtain ⟨t, rfl⟩ := rx
   obtain ⟨y, rfl, vy⟩ := zmP vl
   cases vy with
   | lst hr rl =>
    obtain ⟨u, rfl, ru⟩ := vals1 r
    cases ru
    obtain ⟨its, rv, pl, _⟩ := I.list hr.sq
    exact join_list pl.isList (zmz rl (by simpa using rv) h1) hz λ t' k => ⟨.str _, H, I.tok _, ⟨t', rfl⟩, yN q (.str _)⟩
 · cases he
def zqF : D -> Option R0
 | .str x => if x.length <= 640 then (PySem.intText? x).bind λ n => some (.im (.int n)) else none
 | d => zqT d
def zdu : List D -> Option R0 := on1 zqF
theorem zaE : CallD X kd (.type "int") zdu := by
 intro pins s σ H xs us Q I r h
 obtain ⟨O, ds, z, ht, vl, he, q⟩ := h
 obtain ⟨x, d, rfl, vx, he⟩ := zdA vl he
 cases vx with
 | str y =>
  obtain ⟨hl, he⟩ := ite_some' he
  obtain ⟨n, hn, he⟩ := bS_ he
  cases he
  obtain ⟨u, rfl, ru⟩ := vals1 r
  obtain ⟨t, rfl⟩ := ru
  exact PySem.W.KIN.call_text hn hl ⟨.int _, H, I.tok _, ⟨_, rfl⟩, yN q (.int _)⟩
 | int i => cases he; exact zfu pins s σ H _ us Q I r (.inl ⟨_, rfl, yN q (.int _)⟩)
 | bl b => cases he; exact zfu pins s σ H _ us Q I r (.inr ⟨_, rfl, yN q (.int _)⟩)
 | _ => cases he
end
section
variable {X : Cx} {pins : List (Addr × Obj)} {σ : List (Option V)} {H : Hp} {s : Shared} {h' : Heap}
theorem zgf {t' : Nat} {ch : List Addr} {T : Addr} {o : HO} (I : Inv X pins σ H s) (hf : ∀ b ∈ ch, zcR X pins H b) (k : ∀ b u, b ∉ ch -> s.heap.get? b = some u -> h'.get? b = some u) (hp : s.heap.objs.size <= T)
 (new : Zf X.prog X.w (upd H T o) h' T o) : Inv X pins σ (upd H T o) { s with heap := h', toks := t' } := by
 have hn : H T = none := I.hok.fresh hp
 have nT : ∀ b u, s.heap.get? b = some u -> b ≠ T := λ b u e z => absurd (zzI (Heap.lt_size e) (by rw [z]; exact hp)) (Nat.lt_irrefl _)
 have nc : ∀ b u, H b = some u -> b ∉ ch := λ b u e z => by have := (hf b z).1; rw [e] at this; cases this
 refine I.step (g' := s.gens) (d' := s.drawn) (ch := ch) (λ b hb => ?_) (λ b o _ _ hc e _ => k b o hc e) (λ b o _ _ hc e _ => ⟨o.slots, k b o hc e⟩) (λ b o _ e n => by rw [yj (nT b o e)]; exact n)
  (λ b o hc e => ⟨o, k b o hc e⟩) (λ b xs e => by rw [yj (yV e hn)]; exact e) (λ b o u e => by rw [yj (yV e hn)]; exact e) (λ b ps e => ⟨#[], by rw [yj (yV e hn), e]; simp⟩) (λ m hm => ?_) (λ b u e => ?_) I.bare
 · obtain ⟨f0, f1, f2, f3, f4, f5⟩ := hf b hb
   exact ⟨f3, f1, f4, f5⟩
 · obtain ⟨o, es, ep, ho, r⟩ := hm
   exact ⟨o, es, ep, k _ o (λ z => (hf _ z).2.1 rfl) ho, r⟩
 · by_cases hb : b = T
   · subst hb; rw [yW] at e; cases e; exact new
   · rw [yj hb] at e
     refine (I.hok b u e).stay (λ c v hc q => k c v ?_ q) (λ c q => by rw [yj (yV q hn)]; exact q) λ c xs q => by rw [yj (yV q hn)]; exact q
     rcases hc with z | z
     · rw [z]; exact nc b u e
     · exact nc c _ z
end
theorem zkU (sep : Str) (ys : List Str) : Txt.join sep ys = Str.join sep ys := StrLaws.glued_eq_join sep ys
section
variable {as : AS} {f a b : EF} {s t : Bool} {x y z : D}
theorem zkm {xs ys : List D} : slP (.lst (xs ++ ys)) none (some (xs.length : Int)) = some (.fl xs) := by
 show some (R0.fl (cutD (xs ++ ys) none (some (xs.length : Int)))) = _
 congr 2
 unfold cutD
 rw [HT.zda, HT.zgR, zzH, Nat.min_eq_left (by omega), List.drop_zero, Nat.sub_zero, List.take_left]
end
def Itz (K : zC) (a b : Addr) : It :=
 ⟨λ i H => ∃ xs ys x y, SqL K H a xs /\ SqL K H b ys /\ xs[i]? = some x /\ ys[i]? = some y,
  λ i H v H' => ∃ T x y, H T = none /\ v = .ref T /\ H' = upd H T (.tup [x, y]) /\ (∀ xs, SqL K H a xs -> xs[i]? = some x) /\ ∀ ys, SqL K H b ys -> ys[i]? = some y,
  λ i H => ∃ xs ys, SqL K H a xs /\ SqL K H b ys /\ (xs.length <= i \/ ys.length <= i)⟩
theorem zhN {X : Cx} {pins : List (Addr × Obj)} {σ : List (Option V)} {H : Hp} {s : Shared} {h' : Heap} {t' : Nat} {ch : List Addr} (I : Inv X pins σ H s) (hf : ∀ b ∈ ch, zcR X pins H b) (k : ∀ b u, b ∉ ch -> s.heap.get? b = some u -> h'.get? b = some u) : Inv X pins σ H { s with heap := h', toks := t' } := by
 have nc : ∀ b u, H b = some u -> b ∉ ch := λ b u e z => by have := (hf b z).1; rw [e] at this; cases this
 refine I.step (g' := s.gens) (d' := s.drawn) (ch := ch) (λ b hb => ?_) (λ b o _ _ hc e _ => k b o hc e) (λ b o _ _ hc e _ => ⟨o.slots, k b o hc e⟩) (λ b o _ e n => n)
  (λ b o hc e => ⟨o, k b o hc e⟩) (λ b xs e => e) (λ b o u e => e) (λ b ps e => ⟨#[], by rw [e]; simp⟩) (λ m hm => ?_) (λ b u e => ?_) I.bare
 · obtain ⟨f0, f1, f2, f3, f4, f5⟩ := hf b hb
   exact ⟨f3, f1, f4, f5⟩
 · obtain ⟨o, es, ep, ho, r⟩ := hm
   exact ⟨o, es, ep, k _ o (λ z => (hf _ z).2.1 rfl) ho, r⟩
 · refine (I.hok b u e).stay (λ c v hc q => k c v ?_ q) (λ c q => q) λ c xs q => q
   rcases hc with z | z
   · rw [z]; exact nc b u e
   · exact nc c _ z
theorem zlE {P : Program} {w : World} {K : zC} {elts : List Expr} {k : Nat} {pos : Pos} (a b z TI TO i1 i2 : Addr) (D : ZipApart z TI TO i1 i2 a b) : Turn P w K (.Tuple elts k pos) (Itz K a b) [z, TI, TO, i1, i2] z
 (λ i h => IsZip h z TI TO .none /\ IsPair h TI (.ref i1) (.ref i2) /\ (∃ p q, IsPair h TO p q) /\ h.IsListIter i1 a i /\ h.IsListIter i2 b i) where
 mem := by simp
 obj := λ i h st c hc => by
  obtain ⟨hz, hTI, ⟨p, q, hTO⟩, ⟨o1, e1, c1, d1⟩, ⟨o2, e2, c2, d2⟩⟩ := st
  simp only [zzA, List.not_mem_nil, or_false] at hc
  rcases hc with rfl | rfl | rfl | rfl | rfl
  · exact ⟨_, hz, λ v z => by cases z⟩
  · exact ⟨_, hTI, λ v z => by cases z⟩
  · exact ⟨_, hTO, λ v z => by cases z⟩
  · exact ⟨o1, e1, λ v z => by rw [d1] at z; cases z⟩
  · exact ⟨o2, e2, λ v z => by rw [d2] at z; cases z⟩
 keep := λ i h h' st kk => by
  obtain ⟨hz, hTI, ⟨p, q, hTO⟩, h1, h2⟩ := st
  exact ⟨kk z (by simp) _ hz, kk TI (by simp) _ hTI, ⟨p, q, kk TO (by simp) _ hTO⟩, h1.at λ o e => kk i1 (by simp) o e, h2.at λ o e => kk i2 (by simp) o e⟩
 item := by
  intro X hP hw hK hc i pins s σ H E I hf st hg
  subst hP hw hK
  obtain ⟨xs, ys, x, y, hq, hr, hx, hy⟩ := hg
  obtain ⟨its, rv, p, hz⟩ := I.list hq
  obtain ⟨jts, rw', p', hz'⟩ := I.list hr
  obtain ⟨u, hu, ru⟩ := rv.get hx
  obtain ⟨u', hu', ru'⟩ := rw'.get hy
  have W := WalksT.zip2 (prog := X.prog) (w := X.w) (A := X.A) (I.ok.hd hc) z TI TO i1 i2 a b D its.toArray jts.toArray
  obtain ⟨s1, s2, s3, s4, s5⟩ := st
  have hil : i < min its.toArray.size jts.toArray.size := by
   have := (zzE.mp hu).1
   have := (zzE.mp hu').1
   simp only [zzF]; omega
  refine W.item i s _ _ hil ⟨s1, s2, s3, s4, s5, p.isList, p'.isList⟩ λ T vals h1 tk hP hT hTup hMid kk => ?_
  obtain ⟨v, v', hv, hv', rfl⟩ := hP
  have e1 : v = u := by rw [show its.toArray[i]? = its[i]? by simp, hu] at hv; cases hv; rfl
  have e2 : v' = u' := by rw [show jts.toArray[i]? = jts[i]? by simp, hu'] at hv'; cases hv'; rfl
  subst e1 e2
  refine ⟨_, rfl, W.go elts k pos i T { s with heap := h1, toks := tk } _ _ hMid λ h2 hSt kk2 => ?_⟩
  have hn : H T = none := I.hok.fresh hT
  have hTw := W.apart i T h1 hMid
  have sub : ∀ c, c ∉ [z, TI, TO, i1, i2] -> c ∉ [z, TO, i1, i2] := λ c hc m => hc (by simp only [zzA, List.not_mem_nil, or_false] at m ⊢; rcases m with rfl | rfl | rfl | rfl <;> simp)
  have k2 : ∀ c o, c ∉ [z, TI, TO, i1, i2] -> s.heap.get? c = some o -> h2.get? c = some o := λ c o hb q => kk2 c o (sub c hb) (kk c o (sub c hb) q)
  have hT2 : IsTup h2 T #[v, v'] := by
   obtain ⟨o, q1, q2⟩ := hTup
   exact ⟨o, kk2 T o hTw q1, q2⟩
  obtain ⟨t1, t2, t3, t4, t5, _, _⟩ := hSt
  refine ⟨.ref T, upd H T (.tup [x, y]), zgf (s := s) (t' := tk) (ch := [z, TI, TO, i1, i2]) I hf k2 hT ⟨by show 2 <= sizeLine; decide, [v, v'], .cons ru (.cons ru' .nil), hT2⟩, rfl, ⟨T, x, y, hn, rfl, rfl, λ q hq' => by rw [I.list_inj hq' hq]; exact hx, λ q hq' => by rw [I.list_inj hq' hr]; exact hy⟩, ⟨t1, t2, t3, t4, t5⟩, λ c hc => ?_⟩
  have hcT : c ≠ T := λ e => by
   have : c < s.heap.objs.size := by
    have hob : ∀ d ∈ [z, TI, TO, i1, i2], ∃ o, s.heap.get? d = some o := λ d hd => by
     obtain ⟨pp, qq, hTO⟩ := s3
     obtain ⟨o1, e1, _⟩ := s4
     obtain ⟨o2, e2, _⟩ := s5
     simp only [zzA, List.not_mem_nil, or_false] at hd
     rcases hd with rfl | rfl | rfl | rfl | rfl
     · exact ⟨_, s1⟩
     · exact ⟨_, s2⟩
     · exact ⟨_, hTO⟩
     · exact ⟨_, e1⟩
     · exact ⟨_, e2⟩
    obtain ⟨o, ho⟩ := hob c hc
    exact Heap.lt_size ho
   rw [e] at this
   exact absurd (zzI this hT) (Nat.lt_irrefl _)
  rw [yj hcT]
  exact (hf c hc).1
 done := by
  intro X hP hw hK hc i pins s σ H E I hf st hg
  subst hP hw hK
  obtain ⟨xs, ys, hq, hr, hx⟩ := hg
  obtain ⟨its, rv, p, hz⟩ := I.list hq
  obtain ⟨jts, rw', p', hz'⟩ := I.list hr
  have hl := rv.length
  have hl' := rw'.length
  obtain ⟨s1, s2, ⟨pp, qq, s3⟩, s4, s5⟩ := st
  refine wpAny_pyNext_zip_end (I.ok.hd hc) D s1 s2 s3 s4 s5 p.isList p'.isList (hx.imp (λ h => by simp; omega) (λ h => by simp; omega)) λ h' eb => ⟨rfl, zhN (t' := s.toks) (ch := [z, TI, TO, i1, i2]) I hf λ c o hc q => eb c o ?_ ?_ ?_ ?_ q⟩ <;> (intro e; exact hc (by simp [e]))
 self := λ _ _ _ _ _ st h => wpAny_pyIter_zip st.1 h
section
variable {X : Cx} {tg : Expr}
def zpH (K : zC) (ta : TA) : TI := λ σ H R => ta σ H λ vs H1 => ∃ a b, vs = [.ref a, .ref b] /\ (∃ xs, SqL K H1 a xs) /\ (∃ ys, SqL K H1 b ys) /\ R (Itz K a b) H1
theorem zjz (I l1 l2 : Nat) (h1 : l1 < I) (h2 : l2 < I) : ZipApart (I + 4) (I + 2) (I + 3) I (I + 1) l1 l2 := by
 constructor <;> (show (_ : Nat) ≠ _; omega)
theorem zog {l l' : Expr} {ta : TA} {p pos pos' : Pos} {elts : List Expr} {k : Nat} (hg : Gl X "zip") (hm : X.mg "zip" = none) (ha : PA X [l, l'] ta) (hs : starEach [l, l'] X.env = [(false, eval l X.env), (false, eval l' X.env)]) (hs2 : starEach [l'] X.env = [(false, eval l' X.env)]) :
 PI X (.Tuple elts k pos') (.Call (.Name "zip" p) [l, l'] [] pos) (zpH X.K ta) := by
 intro pins s σ H R I h
 refine Call_ (zaG I hg hm boot_zip (PyProof.Rows.callWith_type1 (thn (ha pos pins s σ H _ I h) λ us s1 ⟨vs, H1, I1, r1, q1⟩ => ?_) (by rw [hs, hs2]) (by rw [hs2]; rfl)))
 obtain ⟨a, b, rfl, ⟨xs, hq⟩, ⟨ys, hr⟩, q⟩ := q1
 cases r1 with
 | cons r rr =>
  cases rr with
  | cons r' rr =>
   cases rr
   cases r
   cases r'
   obtain ⟨its, rv, pl, hz⟩ := I1.list hq
   obtain ⟨jts, rw', pl', hz'⟩ := I1.list hr
   obtain ⟨o1, ho1, _⟩ := pl.isList
   obtain ⟨o2, ho2, _⟩ := pl'.isList
   refine call_zip_2 pl.isList pl'.isList λ h' hZ hTI hTO hi1 hi2 hsz hk => ?_
   refine wpAny_pyIter_zip hZ ⟨s1.heap.objs.size + 4, [s1.heap.objs.size + 4, s1.heap.objs.size + 2, s1.heap.objs.size + 3, s1.heap.objs.size, s1.heap.objs.size + 1], _, _, H1, rfl, I1.kept (t' := s1.toks) hk, zlE a b _ _ _ _ _ (zjz _ _ _ (Heap.lt_size ho1) (Heap.lt_size ho2)), ⟨hZ, hTI, ⟨_, _, hTO⟩, hi1, hi2⟩, λ c hc => ?_, q⟩
   have hb' : s1.heap.objs.size <= c := by
    simp only [zzA, List.not_mem_nil, or_false] at hc
    rcases hc with rfl | rfl | rfl | rfl | rfl <;> first | exact zzL _ | exact Nat.le_add_right _ _
   exact I1.fpOk hb' (I1.hok.fresh hb')
end
section
variable {X : Cx} {kd : KD} {tg e : Expr} {fa : EF}
def Wy (st : Bool) : List D -> List D -> List It1
 | x :: r, y :: t => (st, .tup [x, y]) :: Wy st r t
 | _, _ => []
theorem zbp (st : Bool) : ∀ (xs ys : List D), (Wy st xs ys).length = min xs.length ys.length
 | [], _ => by simp [Wy]
 | _ :: _, [] => by simp [Wy]
 | _ :: r, _ :: t => by simp only [Wy, zzR, zbp st r t]; omega
theorem Vo {st : Bool} : ∀ {xs ys : List D} {i : Nat} {y : It1}, (Wy st xs ys)[i]? = some y -> ∃ d e, xs[i]? = some d /\ ys[i]? = some e /\ y = (st, .tup [d, e])
 | [], _, _, _, h => by simp [Wy] at h
 | _ :: _, [], _, _, h => by simp [Wy] at h
 | x :: r, y :: t, 0, z, h => by
  simp only [Wy, List.getElem?_cons_zero] at h
  cases h
  exact ⟨x, y, rfl, rfl, rfl⟩
 | x :: r, y :: t, i + 1, z, h => by
  simp only [Wy, List.getElem?_cons_succ] at h
  obtain ⟨d, e, h1, h2, h3⟩ := Vo h
  exact ⟨d, e, by simpa using h1, by simpa using h2, h3⟩
theorem znW {K : zC} {F B : Addr -> Prop} {ad : Ad} {H : Hp} {a b : Addr} {vs ws : List V} {st : Bool} {ds es : List D} (hs : ∀ (ad3 : Ad) (H3 : Hp), Grow (Gw [] ad) H (Gw [] ad3) H3 -> SqL K H3 a vs) (hs' : ∀ (ad3 : Ad) (H3 : Hp), Grow (Gw [] ad) H (Gw [] ad3) H3 -> SqL K H3 b ws)
 (r : RpL K kd (Lv F B (Gw [] ad) st) H vs ds) (r' : RpL K kd (Lv F B (Gw [] ad) st) H ws es) : ItOk K kd F B ad H (Itz K a b) (Wy st ds es) := ⟨λ ad3 H3 g3 tr i => by
 have hr3 := hs ad3 H3 g3
 have hr4 := hs' ad3 H3 g3
 have rl3 : RpL K kd (Lv F B (Gw [] ad3) st) H3 vs ds := RpL.grow g3 r
 have rl4 : RpL K kd (Lv F B (Gw [] ad3) st) H3 ws es := RpL.grow g3 r'
 have hlen := zbp st ds es
 have l1 : vs.length = ds.length := r.length
 have l2 : ws.length = es.length := r'.length
 refine ⟨λ hi => ?_, λ hi => ⟨_, _, hr3, hr4, by omega⟩, λ v H4 hy => ?_⟩
 · obtain ⟨u, hu, _⟩ := r.get (zzC (show i < ds.length by omega))
   obtain ⟨u', hu', _⟩ := r'.get (zzC (show i < es.length by omega))
   exact ⟨_, _, u, u', hr3, hr4, hu, hu'⟩
 · obtain ⟨T, x, y, hn, rfl, rfl, hv, hv'⟩ := hy
   refine ⟨YB hn, λ q hq => ?_⟩
   obtain ⟨d, e, hd, he, rfl⟩ := Vo hq
   obtain ⟨u, hu, ru⟩ := rl3.get hd
   obtain ⟨u', hu', ru'⟩ := rl4.get he
   have := hv _ hr3
   rw [hu] at this
   cases this
   have := hv' _ hr4
   rw [hu'] at this
   cases this
   exact .tup (λ z => tr _ _ z hn) (.inl yW) (.cons (Rp.grow ⟨λ b o q _ => YB hn b o q, λ b z => .inl z⟩ ru) (.cons (Rp.grow ⟨λ b o q _ => YB hn b o q, λ b z => .inl z⟩ ru') .nil))⟩
def zjD (fr : AF) : IF := λ as => (fr as).bind λ p => (zpn p.1).bind λ o => (rvL o.1).bind λ a => (rvL o.2).bind λ b => some (Wy (a.1 && b.1) a.2 b.2, p.2)
theorem zgj {K : zC} {F B : Addr -> Prop} {ad : Ad} {H : Hp} {v : V} {st q : Bool} {ds : List D} (rp : Rp K kd (Lv F B (Gw [] ad) st) H v (.lst ds)) (hq : q = true -> st = true) : ∃ a vs, v = .ref a /\ (∀ (ad3 : Ad) (H3 : Hp), Grow (Gw [] ad) H (Gw [] ad3) H3 -> SqL K H3 a vs) /\ RpL K kd (Lv F B (Gw [] ad) q) H vs ds := by
 have le : ∀ a, Lv F B (Gw [] ad) q a -> Lv F B (Gw [] ad) st a := λ a z => z.imp (λ y => y.imp (λ x => ⟨hq x.1, x.2⟩) id) id
 cases rp with
 | lst hn hr rl => exact ⟨_, _, rfl, λ ad3 H3 g3 => .inl (VJ g3 (λ z => hn (.inr z)) hr), rl.less le⟩
 | lstK a b c rl => exact ⟨_, _, rfl, λ ad3 H3 g3 => .inr ⟨_, _, _, a, rfl, rfl, rfl, b, c⟩, rl.less le⟩
theorem zic {l l' : Expr} {fr : AF} {p pos pos' : Pos} {elts : List Expr} {k : Nat} (hg : Gl X "zip") (hm : X.mg "zip" = none) (ha : AA X kd [l, l'] fr) (hs : starEach [l, l'] X.env = [(false, eval l X.env), (false, eval l' X.env)]) (hs2 : starEach [l'] X.env = [(false, eval l' X.env)]) :
 AI X kd (.Tuple elts k pos') (.Call (.Name "zip" p) [l, l'] [] pos) (zjD fr) := by
 with_unfolding_all (
 intro pins s σ H R I h
 obtain ⟨F, B, ad, as, ds, as', Rl, e', q⟩ := h
 obtain ⟨⟨rs, as1⟩, h1, e'⟩ := bS_ (show (fr as).bind _ = _ from e')
 obtain ⟨⟨o1, o2⟩, e1, e'⟩ := bS_ e'
 obtain ⟨⟨s1, d1⟩, e2, e'⟩ := bS_ e'
 obtain ⟨⟨s2, d2⟩, e3, e'⟩ := bS_ e'
 cases ziW e1
 cases zks e2
 cases zks e3
 · cases e'
   refine zog hg hm ha hs hs2 pins s σ H R I ⟨F, B, ad, as, _, as1, Rl, h1, λ vs ad1 H1 R1 rv1 g1 => ?_⟩
   cases rv1 with
   | cons r1 rr =>
    cases rr with
    | cons r2 rr =>
     cases rr
     cases r1 with
     | lf rp1 =>
      cases r2 with
      | lf rp2 =>
       obtain ⟨a, vs, rfl, ha, ra⟩ := zgj (q := s1 && s2) rp1 (λ z => (Bool.and_eq_true_iff.mp z).1)
       obtain ⟨b, ws, rfl, hb, rb⟩ := zgj (q := s1 && s2) rp2 (λ z => (Bool.and_eq_true_iff.mp z).2)
       exact ⟨a, b, rfl, ⟨_, ha _ _ Grow.refl⟩, ⟨_, hb _ _ Grow.refl⟩, q _ ad1 H1 R1 g1 (znW ha hb ra rb)⟩)
end
def insI (x : Int) : List Int -> List Int
 | [] => [x]
 | y :: r => if x <= y then x :: y :: r else y :: insI x r
def sortI : List Int -> List Int
 | [] => []
 | x :: r => insI x (sortI r)
theorem insI_perm (x : Int) : ∀ l : List Int, (insI x l).Perm (x :: l)
 | [] => List.Perm.refl _
 | y :: r => by
  unfold insI
  split
  · exact List.Perm.refl _
  · exact ((insI_perm x r).cons y).trans (List.Perm.swap x y r)
theorem sortI_perm : ∀ l : List Int, (sortI l).Perm l
 | [] => List.Perm.refl _
 | x :: r => (insI_perm x (sortI r)).trans ((sortI_perm r).cons x)
theorem zcc (x : Int) : ∀ l : List Int, l.Pairwise (· <= ·) -> (insI x l).Pairwise (· <= ·)
 | [], _ => by simp [insI]
 | y :: r, h => by
  unfold insI
  rw [List.pairwise_cons] at h
  split
  · rename_i hxy
    rw [List.pairwise_cons, List.pairwise_cons]
    refine ⟨λ z hz => ?_, h⟩
    rcases zzA.mp hz with rfl | hz
    · exact hxy
    · exact Int.le_trans hxy (h.1 z hz)
  · rename_i hxy
    rw [List.pairwise_cons]
    refine ⟨λ z hz => ?_, zcc x r h.2⟩
    rcases zzA.mp ((insI_perm x r).mem_iff.mp hz) with rfl | hz
    · omega
    · exact h.1 z hz
theorem Wi : ∀ l : List Int, (sortI l).Pairwise (· <= ·)
 | [] => List.Pairwise.nil
 | x :: r => zcc x _ (Wi r)
theorem zfa : ∀ (a b : List Int), a.Perm b -> a.Pairwise (· <= ·) -> b.Pairwise (· <= ·) -> a = b
 | [], b, p, _, _ => by rw [List.nil_perm] at p; exact p.symm
 | x :: r, [], p, _, _ => by rw [List.perm_nil] at p; cases p
 | x :: r, y :: t, p, ha, hb => by
  rw [List.pairwise_cons] at ha hb
  have hxy : x = y := by
   have h1 : x ∈ y :: t := p.mem_iff.mp (zzD ..)
   have h2 : y ∈ x :: r := p.mem_iff.mpr (zzD ..)
   rcases zzA.mp h1 with e | e
   · exact e
   · rcases zzA.mp h2 with e' | e'
     · exact e'.symm
     · have := hb.1 x e
       have := ha.1 y e'
       omega
  subst hxy
  rw [zfa r t (List.Perm.cons_inv p) ha.2 hb.2]
theorem ints_of {K : zC} {kd : KD} {O : Addr -> Prop} {H : Hp} {vs : List V} {us : List Value} {ds : List D} {ns : List Int} (h : RpL K kd O H vs ds) (hv : Vals vs us) (e : Wn ds = some ns) : IntsAre us ns :=
 RpL.ind (P := λ vs ds => ∀ us ns, Vals vs us -> Wn ds = some ns -> IntsAre us ns) (λ us ns hv e => by cases e; cases hv; exact .nil) (λ {v d vs ds} a _ ih us ns hv e => by
  cases hv with
  | cons b t =>
   cases a with
   | int x =>
    obtain ⟨ys, h1, h2⟩ := bS_ (show (Wn _).bind _ = _ from e)
    cases h2
    obtain ⟨tk, rfl⟩ := b
    exact .cons _ _ (ih _ _ t h1)
   | _ => cases e) h us ns hv e
theorem Xq : ∀ {us : List Value} {ns : List Int}, IntsAre us ns -> Vals (ns.map V.int) us
 | _, _, .nil => .nil
 | _, _, .cons n t r => .cons ⟨t, rfl⟩ (Xq r)
theorem zhs {K : zC} {kd : KD} {O : Addr -> Prop} {H : Hp} : ∀ ns : List Int, RpL K kd O H (ns.map V.int) (ns.map D.int)
 | [] => .nil
 | y :: r => .cons (.int y) (zhs r)
def zls : List D -> Option R0 := on1 λ x => (asL x).bind λ ds => (Wn ds).bind λ ns => if ns.length < 64 then some (.fl ((sortI ns).map .int)) else none
section
variable {X : Cx} {kd : KD}
theorem zhK : CallD X kd (.builtin "sorted") zls := by
 intro pins s σ H xs us Q I r h
 obtain ⟨O, ds, z, ht, vl, he, q⟩ := h
 obtain ⟨x, d, rfl, vx, he⟩ := zdA vl he
 obtain ⟨ds, h0, he2⟩ := bS_ (show (asL d).bind _ = _ from he)
 cases zbP h0
 · obtain ⟨ns, h1, he⟩ := bS_ he2
   obtain ⟨hz, he⟩ := yc he
   cases he
   cases vx with
   | lst hr rl =>
    obtain ⟨u, rfl, ru⟩ := vals1 r
    cases ru
    obtain ⟨its, rv, pl, _⟩ := I.list hr.sq
    have hI := ints_of rl rv h1
    have hl := hI.length
    refine sorted_ints pl.isList hI (by omega) λ out ns' a1 a2 a3 => ?_
    have e : ns' = sortI ns := zfa _ _ (a2.trans (sortI_perm ns).symm) a3 (Wi ns)
    subst e
    obtain ⟨ee, hob⟩ := sortedAll_at s.heap its out
    have hn : H (s.heap.objs.size + 1) = none := I.hok.fresh (Nat.le_succ _)
    refine ⟨.ref (s.heap.objs.size + 1), _, I.laid (t' := s.toks) (λ b o e => sortedAll_old e) (Nat.le_succ _) (show Zf X.prog X.w _ _ _ (.lst ((sortI ns).map V.int)) from ⟨?_, out.toList, ee, Xq a1, by simpa [seqObj] using hob⟩), rfl, zbB q (zhs _) _ hn⟩
    rw [zD, (sortI_perm ns).length_eq]
    exact Nat.le_of_lt (vC (by omega))
end
def zeE (f : D -> Option Bool) : List D -> Option Nat
 | [] => none
 | x :: r => (f x).bind λ b => if b = true then (anyF f r).bind λ _ => some 0 else (zeE f r).bind λ j => some (j + 1)
def W7 (d : D) : List D -> Option R0 := on1 λ x => (asL d).bind λ ds => (zeE (λ y => eqF 50 y x) ds).bind λ j => if ds.length <= 1000 then some (.im (.int j)) else none
theorem zhp {f : D -> Option Bool} : ∀ {ds : List D} {j : Nat}, zeE f ds = some j -> ∀ d ∈ ds, ∃ c, f d = some c
 | [], _, h, _, m => nomatch m
 | x :: r, j, h, d, m => by
  obtain ⟨b, h1, h⟩ := bS_ (show (f x).bind _ = _ from h)
  rcases zzA.mp m with rfl | m
  · exact ⟨b, h1⟩
  · cases b with
    | true =>
     obtain ⟨c, h2, _⟩ := bS_ (show (anyF f r).bind _ = _ from h)
     exact Xu h2 d m
    | false =>
     obtain ⟨k, h2, _⟩ := bS_ (show (zeE f r).bind _ = _ from h)
     exact zhp h2 d m
section
variable {X : Cx} {kd : KD} {pins : List (Addr × Obj)} {σ : St} {H : Hp} {s : Shared} {O : Addr -> Prop}
theorem zmJ (I : Inv X pins σ H s) (hk : KdOk X kd) {n : Nat} {x : D} {vs : List V} {us : List Value} {ds : List D} {j : Nat} (hv : Vals vs us) (h : RpL X.K kd O H vs ds) (e : zeE (λ y => eqF n y x) ds = some j) : ∃ h : j < us.length, eqW X.K kd O H n x us[j] = true /\ ∀ m (hm : m < us.length), m < j -> eqW X.K kd O H n x us[m] = false :=
 RpL.ind (P := λ vs ds => ∀ us j, Vals vs us -> zeE (λ y => eqF n y x) ds = some j -> ∃ h : j < us.length, eqW X.K kd O H n x us[j] = true /\ ∀ m (hm : m < us.length), m < j -> eqW X.K kd O H n x us[m] = false) (λ us j hv e => by cases e) (λ {v d vs ds} a _ ih us j hv h => by
  cases hv with
  | cons r t =>
   obtain ⟨b, h1, h⟩ := bS_ (show (eqF n _ x).bind _ = _ from h)
   cases b with
   | true =>
    obtain ⟨c, h2, h3⟩ := bS_ (show (anyF _ _).bind _ = _ from h)
    cases h3
    exact ⟨by simp, zgz I hk r a h1, λ m hm hlt => by omega⟩
   | false =>
    obtain ⟨k, h2, h3⟩ := bS_ (show (zeE _ _).bind _ = _ from h)
    cases h3
    obtain ⟨hk', e1, e2⟩ := ih _ _ t h2
    refine ⟨by simpa using hk', by simpa using e1, λ m hm hlt => ?_⟩
    cases m with
    | zero => exact zgz I hk r a h1
    | succ m => simpa using e2 m (by simpa using hm) (by omega)) h us j hv e
theorem zgN (hk : KdOk X kd) (hu : X.A.units + 100 < cLine) : MtD X kd "list.index" W7 := by
 intro pins s σ H x xs v us Q I rx r h
 obtain ⟨O, d, ds, r0, ht, vx, vl, he, q⟩ := h
 obtain ⟨y', y, rfl, vy, he⟩ := zdA vl he
 obtain ⟨es, h0, he2⟩ := bS_ (show (asL d).bind _ = _ from he)
 cases zbP h0
 · obtain ⟨j, h1, he⟩ := bS_ he2
   obtain ⟨hz, he⟩ := yc he
   cases he
   obtain ⟨u, rfl, ru⟩ := vals1 r
   cases vx with
   | lst hr rl =>
    cases rx
    obtain ⟨its, rv, pl, _⟩ := I.list hr.sq
    obtain ⟨⟨cls, dd, data, sl⟩, ho, hc, n, hd⟩ := pl.isList
    simp only at hc hd
    subst hc hd
    obtain ⟨hj, e1, e2⟩ := zmJ I hk rv rl h1
    have hlen := rv.length
    have hlen2 := rl.length
    refine call_meets PySem.F.slot_list_index ⟨_, ho, rfl⟩ PySem.F.entry_list_index (PySem.F.args_list_index_2 _ _)
     (SeqAt.list_indexAt _ its.toArray n dd sl _ (eqW X.K kd O H 50 y) j (by simpa using hj) (by omega) (by simpa using e1) (λ m hm hlt => by simpa using e2 m (by simpa using hm) hlt))
     ⟨ho, λ w hw => zaU I hk (by show X.A.units + 1 + 50 < cLine; omega) vy ru rv rl (zhp h1) w (by simpa using hw), ⟨.int j, H, I.tok _, ⟨_, rfl⟩, yN q (.int _)⟩⟩
end
theorem zcp : ∀ {vs : List V} {us : List Value}, vs.length = us.length -> (∀ (i : Nat) v u, vs[i]? = some v -> us[i]? = some u -> RelV v u) -> Vals vs us
 | [], [], _, _ => .nil
 | [], _ :: _, h, _ => by simp at h
 | _ :: _, [], h, _ => by simp at h
 | v :: vs, u :: us, h, k => .cons (k 0 v u rfl rfl) (zcp (by simpa using h) λ i a b x y => k (i + 1) a b (by simpa using x) (by simpa using y))
section
variable {X : Cx} {tg : Expr}
def zqv (ta : TA) : TE := λ σ H Q => ta σ H λ vs H1 => ∃ j : Int, vs = [.int j] /\ -(2 ^ 62) <= j /\ j < 2 ^ 62 /\ ∀ r, H1 r = none -> Q (.ref r) (upd H1 r (.rng 0 j))
theorem zkM {a : Expr} {ta : TA} {p pos : Pos} (hg : Gl X "range") (hm : X.mg "range" = none) (ha : PA X [a] ta) (hs : starEach [a] X.env = [(false, eval a X.env)]) : PE X (.Call (.Name "range" p) [a] [] pos) (zqv ta) := by
 intro pins s σ H Q I h
 refine Call_ (zaG I hg hm boot_range (PyProof.Rows.callWith_type1 (thn (ha pos pins s σ H _ I h) λ us s1 ⟨vs, H1, I1, r1, q1⟩ => ?_) hs rfl))
 obtain ⟨j, e, b1, b2, q⟩ := q1
 subst e
 cases r1 with
 | cons r rr =>
  cases rr
  obtain ⟨t, rfl⟩ := r
  exact call_range_1 ⟨.ref s1.heap.objs.size, _, I1.laid (λ b o e => Heap.get?_push_of_some _ e) (zzL _) (show Zf X.prog X.w _ _ _ (.rng 0 j) from ⟨_, _, _, Heap.get?_push_size _ rfl⟩), rfl, q _ (I1.hok.fresh (zzL _))⟩
def tLR (ta : TA) : TE := λ σ H Q => znv (zqv ta) zqf σ H λ vs H2 => ∃ r H1, ∃ j : Int, vs = [.ref r] /\ H1 r = none /\ H2 = upd H1 r (.rng 0 j) /\ 0 <= j /\ j <= 100000 /\ ∀ l, H2 l = none -> Q (.ref l) (upd H2 l (.lst ((List.range j.toNat).map λ (i : Nat) => V.int i)))
theorem zjw {a : Expr} {ta : TA} {p p' pos pos' : Pos} (hc : X.calm = true) (hg : Gl X "range") (hm : X.mg "range" = none) (hgl : Gl X "list") (hml : X.mg "list" = none) (ha : PA X [a] ta) (hs : starEach [a] X.env = [(false, eval a X.env)])
 (hs' : starEach [.Call (.Name "range" p) [a] [] pos] X.env = [(false, eval (.Call (.Name "range" p) [a] [] pos) X.env)]) : PE X (.Call (.Name "list" p') [.Call (.Name "range" p) [a] [] pos] [] pos') (tLR ta) := by
 intro pins s σ H Q I h
 refine Call_ (zaG I hgl hml Bt.list (PyProof.Rows.callWith_type1 (thn ((VF (zkM hg hm ha hs) zey hs') pos' pins s σ H (λ vs H2 => ∃ r H1, ∃ j : Int, vs = [.ref r] /\ H1 r = none /\ H2 = upd H1 r (.rng 0 j) /\ 0 <= j /\ j <= 100000 /\ ∀ l, H2 l = none -> Q (.ref l) (upd H2 l (.lst ((List.range j.toNat).map λ (i : Nat) => V.int i)))) I ?_) λ us s1 ⟨vs, H2, I2, r1, q1⟩ => ?_) hs' rfl))
 · exact h
 obtain ⟨r, H1, j, rfl, hn, rfl, h0, h1, q⟩ := q1
 cases r1 with
 | cons rr rs =>
  cases rs
  cases rr
  obtain ⟨t, u, v, ho⟩ := I2.hok r _ (yW ..)
  have hsz : Builtin.Range.rangeSize 0 j 1 = (j.toNat : Nat) := by rw [rangeSize_one]; split <;> omega
  refine call_list_range (I2.ok.hd hc) ho (small_one (by omega) (by omega) (by omega) (by omega)) (n := j.toNat) (by exact_mod_cast hsz) (by omega) λ h' tk acc c' hk hob hit => ?_
  refine ⟨.ref s1.heap.objs.size, _, I2.laid hk (zzL _) (show Zf X.prog X.w _ _ _ (.lst ((List.range j.toNat).map λ (i : Nat) => V.int i)) from ⟨?_, acc.toList, c', ?_, by simpa using hob⟩), rfl, q _ (I2.hok.fresh (zzL _))⟩
  · rw [zD, List.length_range]; exact zzM (show j.toNat <= 100000 by omega) (by decide)
  · refine zcp (by rw [zD, List.length_range]; simpa using hit.1.symm) λ i x y hx hy => ?_
    rw [zzG] at hx
    obtain ⟨tk', e⟩ := hit.2 i y (by simpa using hy)
    cases hr : (List.range j.toNat)[i]? with
    | none => rw [hr] at hx; cases hx
    | some k =>
     rw [hr] at hx
     obtain ⟨_, hk'⟩ := zzE.mp hr
     rw [List.getElem_range] at hk'
     subst hk'
     cases hx
     exact ⟨tk', by rw [e]; simp⟩
end
section
variable {X : Cx} {kd : KD}
def lrP : List D -> Option R0
 | [.int j] => if 0 <= j /\ j <= 100000 then some (.fl ((List.range j.toNat).map λ (i : Nat) => .int i)) else none
 | _ => none
theorem ziL {K : zC} {O : Addr -> Prop} {H : Hp} : ∀ l : List Nat, RpL K kd O H (l.map λ (i : Nat) => V.int i) (l.map λ (i : Nat) => D.int i)
 | [] => .nil
 | y :: r => .cons (.int y) (ziL r)
theorem zfc {a : Expr} {fr : AF} {p p' pos pos' : Pos} (hc : X.calm = true) (hg : Gl X "range") (hm : X.mg "range" = none) (hgl : Gl X "list") (hml : X.mg "list" = none) (ha : AA X kd [a] fr) (hs : starEach [a] X.env = [(false, eval a X.env)])
 (hs' : starEach [.Call (.Name "range" p) [a] [] pos] X.env = [(false, eval (.Call (.Name "range" p) [a] [] pos) X.env)]) : AE X kd (.Call (.Name "list" p') [.Call (.Name "range" p) [a] [] pos] [] pos') (fP fr lrP) := by
 with_unfolding_all exact (xU (zjw hc hg hm hgl hml ha hs hs') λ σ H Q h => by
  obtain ⟨F, B, ad, as, r, as', R, e, q⟩ := h
  obtain ⟨⟨rs, as1⟩, h1, e⟩ := bS_ (show (fr as).bind _ = _ from e)
  obtain ⟨⟨ds, lv⟩, h2, e⟩ := bS_ e
  obtain ⟨r0, h3, e⟩ := bS_ e
  obtain ⟨z, h4, e⟩ := bS_ e
  cases e
  match ds, h3, h2 with
  | [.int j], h3, h2 =>
   obtain ⟨⟨b1, b2⟩, e3⟩ := yc (show (if 0 <= j /\ j <= 100000 then some (R0.fl ((List.range j.toNat).map λ (i : Nat) => .int i)) else none) = some r0 from h3)
   cases e3
   refine (show alA X.K kd fr σ H _ from ⟨F, B, ad, as, rs, as1, R, h1, λ vs ad1 H1 R1 rv1 g1 => ?_⟩)
   have vl := zbg R1 rv1 h2
   have rq := Vz R1 h4 (Q := Q) λ w T' H' R' rv' g' => q w T' ad1 H' R' rv' (g1.trans g')
   cases vl with
   | cons v1 v2 =>
    cases v2
    cases v1
    refine ⟨j, rfl, by omega, by omega, λ r hr => ⟨r, H1, j, rfl, hr, rfl, b1, b2, λ l hl => ?_⟩⟩
    have hlr : l ≠ r := λ e => by rw [e, yW] at hl; cases hl
    have hl1 : H1 l = none := by rw [yj hlr] at hl; exact hl
    exact rq l _ _ hl1 (λ b o q => YB hl b o (YB hr b o q)) yW (ziL _))
end
theorem zaP {L : Bool -> V -> D -> Prop} {N : Addr -> Prop} {H : Hp} {vs : List V} {ls : List O} {fp : List Addr} (h : RoL L N H vs ls fp) : vs.length = ls.length := RoL.length h
section
variable {K : zC} {kd : KD} {F B G : Addr -> Prop} {H : Hp}
theorem zbm {p : Addr} {u : HO} (hp : G p) : Grow G H G (upd H p u) := ⟨λ b w h n => by rw [yj (λ e => n (by subst e; exact hp))]; exact h, λ b z => .inl z⟩
theorem zcY : ∀ (os : List O) {vs : List V} {fp : List Addr} {n : Nat} {o : O}, Yh K kd F B G H vs os fp -> fp.Nodup -> (∀ a ∈ fp, G a) -> os[n]? = some o ->
 ∃ v f, vs[n]? = some v /\ RoS K kd F B G H v o f /\ f.Nodup /\ (∀ a ∈ f, a ∈ fp) /\ ∀ (p : Addr) (u : HO) (o' : O), p ∈ f -> RoS K kd F B G (upd H p u) v o' f -> Yh K kd F B G (upd H p u) vs (os.set n o') fp
 | [], _, _, _, _, _, _, _, e => by simp at e
 | o1 :: os, _, _, n, o, r, hn, hG, e => by
  cases r with
  | cons a r =>
   rename_i v vs fp fq
   obtain ⟨n1, n2, n3⟩ := List.nodup_append.mp hn
   cases n with
   | zero =>
    simp at e
    subst e
    exact ⟨v, fp, rfl, a, n1, λ x m => zzN _ m, λ p u o' hp ro => .cons ro (Yh.grow (zbm (hG p (zzN _ hp))) (λ x m w h => by rw [yj (λ e => n3 p hp x m e.symm)]; exact h) r)⟩
   | succ n =>
    obtain ⟨v', f, h1, h2, h3, h4, h5⟩ := zcY os (n := n) (o := o) r n2 (λ x m => hG x (zzJ _ m)) (by simpa using e)
    exact ⟨v', f, by simpa using h1, h2, h3, λ x m => zzJ _ (h4 x m), λ p u o' hp ro => .cons (RoS.grow (zbm (hG p (zzJ _ (h4 p hp)))) (λ x m w h => by rw [yj (λ e => n3 x m p (h4 p hp) e)]; exact h) a) (h5 p u o' hp ro)⟩
theorem zeV {L : Bool -> V -> D -> Prop} {N : Addr -> Prop} {v : V} {st' : Bool} {d' : D} (h : L st' v d') : ∀ (os : List O) {vs : List V} {fp : List Addr} {n : Nat} {st : Bool} {d : D}, RoL L N H vs os fp -> os[n]? = some (.lf st d) -> RoL L N H (vs.set n v) (os.set n (.lf st' d')) fp
 | [], _, _, _, _, _, _, e => by simp at e
 | o1 :: os, _, _, n, st, d, r, e => by
  cases r with
  | cons a r =>
   cases n with
   | zero =>
    simp at e
    subst e
    cases a with
    | lf _ => exact .cons (.lf h) r
   | succ n => exact .cons a (zeV h os (n := n) (st := st) (d := d) r (by simpa using e))
theorem zbj {v : V} {inner : List O} {fp : List Addr} {n : Nat} {st : Bool} {d : D} (c : Int) (r : RoS K kd F B G H v (.nd .ls inner) fp) (hn : fp.Nodup) (hG : ∀ a ∈ fp, G a) (e : inner[n]? = some (.lf st d)) :
 ∃ p ivs, v = .ref p /\ p ∈ fp /\ H p = some (.lst ivs) /\ n < ivs.length /\ RoS K kd F B G (upd H p (.lst (ivs.set n (.int c)))) v (.nd .ls (inner.set n (.lf true (.int c)))) fp := by
 cases r with
 | ls hp ir =>
  rename_i p ivs ifp
  have hpfp : p ∉ ifp := (zzU.mp hn).1
  refine ⟨p, ivs, rfl, zzD .., hp, by rw [zaP ir]; exact (zzE.mp e).1, .ls yW (zeV (.int c) inner (Yh.grow (zbm (hG p (zzD ..))) (λ x m w h => by rw [yj (λ e => hpfp (by subst e; exact m))]; exact h) ir) e)⟩
theorem zeu {v : V} {os : List O} {fp : List Addr} {n : Nat} {o : O} (r : RoS K kd F B G H v (.nd .ls os) fp) (hn : fp.Nodup) (hG : ∀ a ∈ fp, G a) (e : os[n]? = some o) :
 ∃ l vs w f, v = .ref l /\ H l = some (.lst vs) /\ vs[n]? = some w /\ RoS K kd F B G H w o f /\ f.Nodup /\ (∀ a ∈ f, a ∈ fp) /\ ∀ (p : Addr) (u : HO) (o' : O), p ∈ f -> RoS K kd F B G (upd H p u) w o' f -> RoS K kd F B G (upd H p u) v (.nd .ls (os.set n o')) fp := by
 cases r with
 | ls hp ir =>
  rename_i l vs ifp
  obtain ⟨w, f, h1, h2, h3, h4, h5⟩ := zcY os ir (zzU.mp hn).2 (λ a m => hG a (zzB _ m)) e
  exact ⟨l, vs, w, f, rfl, hp, h1, h2, h3, λ a m => zzB _ (h4 a m), λ p u o' hpf ro => .ls (by rw [yj (λ e => (zzU.mp hn).1 (by rw [e]; exact h4 p hpf))]; exact hp) (h5 p u o' hpf ro)⟩
theorem zkk {v : V} {os : List O} {fp : List Addr} {n : Nat} {o : O} (r : RoS K kd F B G H v (.nd .tp os) fp) (hn : fp.Nodup) (hG : ∀ a ∈ fp, G a) (e : os[n]? = some o) :
 ∃ l vs w f, v = .ref l /\ H l = some (.tup vs) /\ vs[n]? = some w /\ RoS K kd F B G H w o f /\ f.Nodup /\ (∀ a ∈ f, a ∈ fp) /\ ∀ (p : Addr) (u : HO) (o' : O), p ∈ f -> RoS K kd F B G (upd H p u) w o' f -> RoS K kd F B G (upd H p u) v (.nd .tp (os.set n o')) fp := by
 cases r with
 | tp hN hp ir =>
  rename_i l vs
  obtain ⟨w, f, h1, h2, h3, h4, h5⟩ := zcY os ir hn hG e
  exact ⟨l, vs, w, f, rfl, hp, h1, h2, h3, h4, λ p u o' hpf ro => .tp hN (by rw [yj (λ e => hN (.inr (by rw [e]; exact hG p (h4 p hpf))))]; exact hp) (h5 p u o' hpf ro)⟩
end
section
variable {K : zC} {kd : KD} {F B : Addr -> Prop} {ad : Ad} {as : AS} {σ : St} {H : Hp} {i : Nat} {o : O}
theorem Rel.slotU (R : Rel K kd F B [] ad as σ H) (k : as[i]? = some (some o)) :
 ∃ v, σ[i]? = some (some v) /\ RoS K kd F B (Gw [] ad) H v o (ad i) /\ (ad i).Nodup /\ (∀ a ∈ ad i, Gw [] ad a) /\
  ∀ (p : Addr) (u : HO) (o' : O), p ∈ ad i -> RoS K kd F B (Gw [] ad) (upd H p u) v o' (ad i) -> Rel K kd F B [] ad (as.set i (some o')) σ (upd H p u) /\ Grow (Gw [] ad) H (Gw [] ad) (upd H p u) := by
 obtain ⟨v, hv, ro⟩ := R.sl i _ k
 have hi : i < as.length := (zzE.mp k).1
 refine ⟨v, hv, ro, R.nd i, λ a m => .inr ⟨i, m⟩, λ p u o' hp ro' => ?_⟩
 have g : Grow (Gw [] ad) H (Gw [] ad) (upd H p u) := zbm (.inr ⟨i, hp⟩)
 have kn : ∀ a, H a ≠ none -> upd H p u a ≠ none := λ a z => by
  by_cases e : a = p
  · subst e; rw [yW]; simp
  · rw [yj e]; exact z
 refine ⟨⟨by rw [zzS]; exact R.len, λ j hj => R.out j (by rw [zzS] at hj; exact hj), R.nd, R.inj, R.tnd, R.dis, λ a z => kn a (R.ftr a z), λ a z => ⟨kn a (R.btr a z).1, (R.btr a z).2⟩, λ a z => ⟨kn a (R.gtr a z).1, (R.gtr a z).2⟩, λ j s e => ?_⟩, g⟩
 by_cases q : j = i
 · subst q
   rw [List.getElem?_set_self hi] at e
   cases e
   exact ⟨v, hv, ro'⟩
 · rw [zzW (Ne.symm q)] at e
   exact (R.sl j s e).grow g λ a m u h => by rw [yj (λ e => q (R.inj j i a m (by rw [e]; exact hp)))]; exact h
theorem Rel.any {y : Nat} {v : Option V} (R : Rel K kd F B [] ad as σ H) (hy : as[y]? = some none) : Rel K kd F B [] ad as (σ.set y v) H := by
 refine ⟨by rw [zzS]; exact R.len, R.out, R.nd, R.inj, R.tnd, R.dis, R.ftr, R.btr, R.gtr, λ j s e => ?_⟩
 by_cases q : j = y
 · subst q
   rw [hy] at e
   cases e
   exact R.sl j none hy
 · rw [zzW (Ne.symm q)]
   exact R.sl j s e
end
abbrev IXF := AS -> Option Int
def tSt (K : zC) (kd : KD) (f : IXF) : TE := λ σ H Q => ∃ F B ad as k, Rel K kd F B [] ad as σ H /\ f as = some k /\ Q (.int k) H
@[irreducible] def AK (X : Cx) (kd : KD) (e : Expr) (f : IXF) : Prop := PE X e (tSt X.K kd f)
def xC (c : Int) : IXF := λ _ => some c
def ZZ : O -> Option (List O)
 | .nd .ls os => some os
 | _ => none
def zfA : O -> Option (List O)
 | .nd .tp os => some os
 | _ => none
def W4 : O -> Option D
 | .lf _ d => some d
 | _ => none
def atO {α : Type} (f : O -> Option α) (os : List O) (k : Nat) : Option α := os[k]?.bind f
def slO {α : Type} (f : O -> Option α) (as : AS) (i : Nat) : Option α := as[i]?.bind λ s => s.bind f
theorem zji {o : O} {os : List O} (h : ZZ o = some os) : o = .nd .ls os := by
 cases o with
 | lf s d => cases h
 | nd k os => cases k <;> cases h; rfl
theorem zfO {o : O} {os : List O} (h : zfA o = some os) : o = .nd .tp os := by
 cases o with
 | lf s d => cases h
 | nd k os => cases k <;> cases h; rfl
theorem ziE {o : O} {d : D} (h : W4 o = some d) : ∃ st, o = .lf st d := by
 cases o with
 | lf s d => cases h; exact ⟨s, rfl⟩
 | nd k os => cases h
theorem zhz {α : Type} {f : O -> Option α} {os : List O} {k : Nat} {a : α} (h : atO f os k = some a) : ∃ o, os[k]? = some o /\ f o = some a := bS_ h
theorem zdi {α : Type} {f : O -> Option α} {as : AS} {k : Nat} {a : α} (h : slO f as k = some a) : ∃ o, as[k]? = some (some o) /\ f o = some a := by
 obtain ⟨s, h1, h⟩ := bS_ h
 obtain ⟨o, rfl, h⟩ := bS_ h
 exact ⟨o, h1, h⟩
theorem zjv {os inner : List O} {k : Nat} (h : atO ZZ os k = some inner) : os[k]? = some (.nd .ls inner) := by
 obtain ⟨o, h1, h⟩ := zhz h
 cases zji h
 exact h1
theorem zrl {os inner : List O} {k : Nat} (h : atO zfA os k = some inner) : os[k]? = some (.nd .tp inner) := by
 obtain ⟨o, h1, h⟩ := zhz h
 cases zfO h
 exact h1
theorem zlj {os : List O} {d : D} {k : Nat} (h : atO W4 os k = some d) : ∃ st, os[k]? = some (.lf st d) := by
 obtain ⟨o, h1, h⟩ := zhz h
 obtain ⟨st, rfl⟩ := ziE h
 exact ⟨st, h1⟩
theorem zij {as : AS} {inner : List O} {k : Nat} (h : slO ZZ as k = some inner) : as[k]? = some (some (.nd .ls inner)) := by
 obtain ⟨o, h1, h⟩ := zdi h
 cases zji h
 exact h1
theorem znS {as : AS} {d : D} {k : Nat} (h : slO W4 as k = some d) : ∃ st, as[k]? = some (some (.lf st d)) := by
 obtain ⟨o, h1, h⟩ := zdi h
 obtain ⟨st, rfl⟩ := ziE h
 exact ⟨st, h1⟩
theorem Yb {α : Type} {f : O -> Option α} {os : List O} {k : Nat} {o : O} {a : α} (h : os[k]? = some o) (e : f o = some a) : atO f os k = some a := by unfold atO; rw [h]; exact e
theorem VB {α : Type} {f : O -> Option α} {as : AS} {k : Nat} {o : O} {a : α} (h : as[k]? = some (some o)) (e : f o = some a) : slO f as k = some a := by unfold slO; rw [h]; exact e
def xV (i : Nat) : IXF := λ as => (slO W4 as i).bind asI
def xAt (i : Nat) (f : IXF) : IXF := λ as => (f as).bind λ k => if 0 <= k then (slO W4 as i).bind λ d => (asL d).bind λ ds => ds[k.toNat]?.bind asI else none
def WX (f g : IXF) : IXF := λ as => (f as).bind λ a => (g as).bind λ b => if 0 < b then some (a % b) else none
def zln (i : Nat) : IXF := λ as => (slO ZZ as i).bind λ os => some (os.length : Int)
section
variable {X : Cx} {kd : KD} {f g : IXF} {a b : Expr}
theorem X6 {c : Int} {j pos} : AK X kd (.Constant (.int c) j pos) (xC c) := by
 with_unfolding_all exact (xU zfZ λ σ H Q h => by
  obtain ⟨F, B, ad, as, k, R, e, q⟩ := h
  cases e
  exact q)
theorem Xo {i : Nat} {x : Str} {p : Pos} (hv : PE X (.Name x p) (Xh i)) : AK X kd (.Name x p) (xV i) := by
 with_unfolding_all exact (xU hv λ σ H Q h => by
  obtain ⟨F, B, ad, as, k, R, e, q⟩ := h
  obtain ⟨d, e1, e⟩ := bS_ (show (slO W4 as i).bind _ = _ from e)
  cases zgk e
  obtain ⟨st, k1⟩ := znS e1
  obtain ⟨v, hv, ro⟩ := R.sl i _ k1
  generalize ad i = fp at ro
  cases ro with
  | lf rp => cases rp; exact ⟨_, hv, q⟩)
theorem zep {i : Nat} {x : Str} {p pos : Pos} (hv : PE X (.Name x p) (Xh i)) (hb : AK X kd b f) (hs : Zy b) : AK X kd (.Subscript (.Name x p) b pos) (xAt i f) := by
 with_unfolding_all exact (xU (zcz Wd hv hb hs) λ σ H Q h => by
  obtain ⟨F, B, ad, as, c, R, e, q⟩ := h
  obtain ⟨k, h1, e⟩ := bS_ (show (f as).bind _ = _ from e)
  obtain ⟨hk, e⟩ := ite_some' e
  obtain ⟨d0, e1, e3⟩ := bS_ e
  obtain ⟨ds, e2, e4⟩ := bS_ e3
  obtain ⟨d, k2, e5⟩ := bS_ e4
  cases zbP e2
  cases zgk e5
  obtain ⟨st, k1⟩ := znS e1
  obtain ⟨v, hv, ro⟩ := R.sl i _ k1
  generalize ad i = fp at ro
  cases ro with
  | lf rp =>
   obtain ⟨l, vs, rfl, hq, rl⟩ := zgj (ad := ad) (q := st) rp (λ z => z)
   obtain ⟨w, hw, rw'⟩ := rl.get k2
   cases rw'
   refine ⟨_, hv, F, B, ad, as, k, R, h1, l, vs, k, _, rfl, rfl, hq ad H Grow.refl, ?_, q⟩
   have := Ye hw
   rw [Int.toNat_of_nonneg hk] at this
   exact this)
theorem zav {pos : Pos} (ha : AK X kd a f) (hb : AK X kd b g) : AK X kd (.BinOp a .Mod b pos) (WX f g) := by
 with_unfolding_all exact (xU (znm zkV ha hb) λ σ H Q h => by
  obtain ⟨F, B, ad, as, c, R, e, q⟩ := h
  obtain ⟨m, h1, e⟩ := bS_ (show (f as).bind _ = _ from e)
  obtain ⟨n, h2, e⟩ := bS_ e
  obtain ⟨hn, e⟩ := yc e
  cases e
  exact ⟨F, B, ad, as, m, R, h1, F, B, ad, as, n, R, h2, m, n, rfl, rfl, hn, q⟩)
theorem zot {i : Nat} {x : Str} {p p0 pos : Pos} (hg : Gl X "len") (hm : X.mg "len" = none) (hb : bootBuiltins "len" = some (.builtin "len")) (hv : PE X (.Name x p) (Xh i)) (hst : starEach [.Name x p] X.env = (false, eval (.Name x p) X.env) :: starEach [] X.env) (hpl : (backTo pos (starEach [] X.env)).any (·.1) = false) : AK X kd (.Call (.Name "len" p0) [.Name x p] [] pos) (zln i) := by
 with_unfolding_all exact (xU (zdE Xy hg hm hb (VF hv zey hst) (by decide) (by decide) hst hpl) λ σ H Q h => by
  obtain ⟨F, B, ad, as, c, R, e, q⟩ := h
  obtain ⟨os, e1, e⟩ := bS_ (show (slO ZZ as i).bind _ = _ from e)
  cases e
  obtain ⟨v, hv, ro⟩ := R.sl i _ (zij e1)
  generalize ad i = fp at ro
  cases ro with
  | ls hH rl =>
   rename_i l vs fp
   refine ⟨_, hv, l, vs, rfl, .inl (.inl (.inl hH)), ?_⟩
   rw [zaP rl]
   exact q)
end
def zkQ (i : Nat) (f fv : IXF) : SF := λ as => (f as).bind λ k => (fv as).bind λ c => if 0 <= k then (slO ZZ as i).bind λ os => (atO W4 os k.toNat).bind λ _ => some (.nx (as.set i (some (.nd .ls (os.set k.toNat (.lf true (.int c))))))) else none
def zaO (i : Nat) (f1 f2 fv : IXF) : SF := λ as => (f1 as).bind λ k1 => (f2 as).bind λ k2 => (fv as).bind λ c => if 0 <= k1 /\ 0 <= k2 then (slO ZZ as i).bind λ os => (atO ZZ os k1.toNat).bind λ inner => (atO W4 inner k2.toNat).bind λ _ => some (.nx (as.set i (some (.nd .ls (os.set k1.toNat (.nd .ls (inner.set k2.toNat (.lf true (.int c))))))))) else none
def noS (as : AS) (y : Nat) : Bool := match as[y]? with
 | some none => true
 | _ => false
theorem zbL {as : AS} {y : Nat} (h : noS as y = true) : as[y]? = some none := by
 unfold noS at h
 cases k : as[y]? with
 | none => rw [k] at h; cases h
 | some s =>
  cases s with
  | none => rfl
  | some _ => rw [k] at h; cases h
def zkX (y i : Nat) (f1 : IXF) (n : Nat) (f2 f3 fv : IXF) : SF := λ as => (f1 as).bind λ k1 => (f2 as).bind λ k2 => (f3 as).bind λ k3 => (fv as).bind λ c => if 0 <= k1 /\ 0 <= k2 /\ 0 <= k3 /\ noS as y = true then
 (slO ZZ as i).bind λ os => (atO zfA os k1.toNat).bind λ ps => (atO ZZ ps n).bind λ rows => (atO ZZ rows k2.toNat).bind λ inner => (atO W4 inner k3.toNat).bind λ _ => some (.nx (as.set i (some (.nd .ls (os.set k1.toNat (.nd .tp (ps.set n (.nd .ls (rows.set k2.toNat (.nd .ls (inner.set k3.toNat (.lf true (.int c))))))))))))) else none
theorem zms {n j : Nat} (h : j < n) : ixN n (j : Int) = some j := by
 unfold ixN
 rw [if_pos (by omega), if_pos (by omega)]; simp
theorem VD {n : Nat} {k : Int} (h0 : 0 <= k) (h : k.toNat < n) : ixN n k = some k.toNat := by
 have := zms h
 rw [show ((k.toNat : Nat) : Int) = k by omega] at this
 exact this
theorem zdb {α : Type} {xs : List α} {k : Int} {v : α} (h0 : 0 <= k) (h : xs[k.toNat]? = some v) : atI xs k = some v := by
 have := Ye h
 rw [show ((k.toNat : Nat) : Int) = k by omega] at this
 exact this
section
variable {X : Cx} {kd : KD} {f f1 f2 f3 fv : IXF} {e1 e2 e3 ev : Expr} {i y : Nat}
theorem zlQ {x : Str} {p tpos pos : Pos} (ho : PE X (.Name x p) (Xh i)) (h1 : AK X kd e1 f) (hv : AK X kd ev fv)
 (ha : ∀ v, assign (.Subscript (.Name x p) e1 tpos) X.env v = (do
  let ov <- holding [v] (eval (.Name x p) X.env)
  let iv <- holding [v, ov] (eval e1 X.env)
  standAt tpos
  holding [v, ov, iv] (setItem ov iv v)
  release [v, ov, iv] []))
 (hs : swapsWithSole [.Subscript (.Name x p) e1 tpos] ev pos.line X.env = pure false) (hw : swappedStores [.Subscript (.Name x p) e1 tpos] ev X.env = pure none)
 (hm : (assignEach [.Subscript (.Name x p) e1 tpos] X.env).map (·.2) = [assign (.Subscript (.Name x p) e1 tpos) X.env]) :
 ASt X kd (.Assign [.Subscript (.Name x p) e1 tpos] ev pos) (zkQ i f fv) := by
 with_unfolding_all exact (vJ (WM hv (zbM ho h1 set_list ha) hs hw hm) λ D σ H h => by
  obtain ⟨F, B, ad, as, o, R, e, q⟩ := h
  obtain ⟨k, j1, e⟩ := bS_ (show (f as).bind _ = _ from e)
  obtain ⟨c, j2, e⟩ := bS_ e
  obtain ⟨hk, e⟩ := ite_some' e
  obtain ⟨os, e1, e⟩ := bS_ e
  obtain ⟨d, e2, e⟩ := bS_ e
  have k1 := zij e1
  obtain ⟨st, k2⟩ := zlj e2
  cases e
  obtain ⟨v, sv, ro, hn, hG, up⟩ := R.slotU k1
  obtain ⟨p, ivs, rfl, hp, hH, hl, ro'⟩ := zbj c ro hn hG k2
  obtain ⟨R2, g2⟩ := up p _ _ hp ro'
  exact ⟨F, B, ad, as, c, R, j2, _, sv, F, B, ad, as, k, R, j1, p, ivs, k, k.toNat, rfl, rfl, hH, VD hk hl, q σ ad _ R2 g2⟩)
theorem zmQ {x : Str} {p p1 tpos pos : Pos} (ho : PE X (.Name x p) (Xh i)) (h1 : AK X kd e1 f1) (hp1 : Zy e1) (h2 : AK X kd e2 f2) (hv : AK X kd ev fv)
 (ha : ∀ v, assign (.Subscript (.Subscript (.Name x p) e1 p1) e2 tpos) X.env v = (do
  let ov <- holding [v] (eval (.Subscript (.Name x p) e1 p1) X.env)
  let iv <- holding [v, ov] (eval e2 X.env)
  standAt tpos
  holding [v, ov, iv] (setItem ov iv v)
  release [v, ov, iv] []))
 (hs : swapsWithSole [.Subscript (.Subscript (.Name x p) e1 p1) e2 tpos] ev pos.line X.env = pure false) (hw : swappedStores [.Subscript (.Subscript (.Name x p) e1 p1) e2 tpos] ev X.env = pure none)
 (hm : (assignEach [.Subscript (.Subscript (.Name x p) e1 p1) e2 tpos] X.env).map (·.2) = [assign (.Subscript (.Subscript (.Name x p) e1 p1) e2 tpos) X.env]) :
 ASt X kd (.Assign [.Subscript (.Subscript (.Name x p) e1 p1) e2 tpos] ev pos) (zaO i f1 f2 fv) := by
 with_unfolding_all exact (vJ (WM hv (zbM (zcz Wd ho h1 hp1) h2 set_list ha) hs hw hm) λ D σ H h => by
  obtain ⟨F, B, ad, as, o, R, e, q⟩ := h
  obtain ⟨n1, j1, e⟩ := bS_ (show (f1 as).bind _ = _ from e)
  obtain ⟨n2, j2, e⟩ := bS_ e
  obtain ⟨c, j3, e⟩ := bS_ e
  obtain ⟨⟨hk1, hk2⟩, e⟩ := ite_some' e
  obtain ⟨os, e1, e⟩ := bS_ e
  obtain ⟨inner, e2, e⟩ := bS_ e
  obtain ⟨d, e3, e⟩ := bS_ e
  have k1 := zij e1
  have k2 := zjv e2
  obtain ⟨st, k3⟩ := zlj e3
  cases e
  obtain ⟨v, sv, ro, hn, hG, up⟩ := R.slotU k1
  obtain ⟨l, vs, w, fw, rfl, hH, hvs, rw1, fn, fs, up1⟩ := zeu ro hn hG k2
  obtain ⟨p, ivs, rfl, hp, hHp, hl, ro'⟩ := zbj c rw1 fn (λ a m => hG a (fs a m)) k3
  obtain ⟨R2, g2⟩ := up p _ _ (fs p hp) (up1 p _ _ hp ro')
  exact ⟨F, B, ad, as, c, R, j3, _, sv, F, B, ad, as, n1, R, j1, l, vs, n1, _, rfl, rfl, .inl (.inl hH), zdb hk1 hvs, F, B, ad, as, n2, R, j2, p, ivs, n2, n2.toNat, rfl, rfl, hHp, VD hk2 hl, q σ ad _ R2 g2⟩)
theorem zmk {x z : Str} {n : Nat} {ec : Expr} {p p1 p2 py pos0 q0 q1 tpos pos : Pos} (hN : X.N.Nodup) (hyi : X.N[y]? = some z) (hyl : Loc X.env.scope z) (hyf : X.fn z = true \/ X.env.scope.names.lookup z = some .local)
 (ho : PE X (.Name x p) (Xh i)) (h1 : AK X kd e1 f1) (hp1 : Zy e1) (hc : PE X ec (tC (.int n))) (hpc : Zy ec) (hsw : swapsWith (.Subscript (.Subscript (.Name x p) e1 p1) ec p2) (some (.Name z py)) pos0.line X.env = pure false)
 (ho2 : PE X (.Name z q0) (Xh y)) (h2 : AK X kd e2 f2) (hp2 : Zy e2) (h3 : AK X kd e3 f3) (hv : AK X kd ev fv)
 (ha : ∀ v, assign (.Subscript (.Subscript (.Name z q0) e2 q1) e3 tpos) X.env v = (do
  let ov <- holding [v] (eval (.Subscript (.Name z q0) e2 q1) X.env)
  let iv <- holding [v, ov] (eval e3 X.env)
  standAt tpos
  holding [v, ov, iv] (setItem ov iv v)
  release [v, ov, iv] []))
 (hs : swapsWithSole [.Subscript (.Subscript (.Name z q0) e2 q1) e3 tpos] ev pos.line X.env = pure false) (hw : swappedStores [.Subscript (.Subscript (.Name z q0) e2 q1) e3 tpos] ev X.env = pure none)
 (hm : (assignEach [.Subscript (.Subscript (.Name z q0) e2 q1) e3 tpos] X.env).map (·.2) = [assign (.Subscript (.Subscript (.Name z q0) e2 q1) e3 tpos) X.env]) :
 ASs X kd [.Assign [.Name z py] (.Subscript (.Subscript (.Name x p) e1 p1) ec p2) pos0, .Assign [.Subscript (.Subscript (.Name z q0) e2 q1) e3 tpos] ev pos] (zkX y i f1 n f2 f3 fv) := by
 with_unfolding_all exact (Vv (Xr (zjY hN hyi hyl (zcz zlh (zcz Wd ho h1 hp1) hc hpc) hsw hyf) (zaV (WM hv (zbM (zcz Wd ho2 h2 hp2) h3 set_list ha) hs hw hm))) λ D σ H h => by
  obtain ⟨F, B, ad, as, o, R, e, q⟩ := h
  obtain ⟨n1, j1, e⟩ := bS_ (show (f1 as).bind _ = _ from e)
  obtain ⟨n2, j2, e⟩ := bS_ e
  obtain ⟨n3, j3, e⟩ := bS_ e
  obtain ⟨c, j4, e⟩ := bS_ e
  obtain ⟨⟨hk1, hk2, hk3, hy⟩, e⟩ := ite_some' e
  have hy := zbL hy
  obtain ⟨os, e1, e⟩ := bS_ e
  obtain ⟨ps, e2, e⟩ := bS_ e
  obtain ⟨rows, e3, e⟩ := bS_ e
  obtain ⟨inner, e4, e⟩ := bS_ e
  obtain ⟨d, e5, e⟩ := bS_ e
  have k1 := zij e1
  have k2 := zrl e2
  have k3 := zjv e3
  have k4 := zjv e4
  obtain ⟨st, k5⟩ := zlj e5
  cases e
  obtain ⟨v, sv, ro, hn, hG, up⟩ := R.slotU k1
  obtain ⟨l, vs, w, fw, rfl, hH, hvs, rw1, fn, fs, up1⟩ := zeu ro hn hG k2
  obtain ⟨l2, vs2, w2, fw2, rfl, hH2, hvs2, rw2, fn2, fs2, up2⟩ := zkk rw1 fn (λ a m => hG a (fs a m)) k3
  obtain ⟨l3, vs3, w3, fw3, rfl, hH3, hvs3, rw3, fn3, fs3, up3⟩ := zeu rw2 fn2 (λ a m => hG a (fs a (fs2 a m))) k4
  obtain ⟨p, ivs, rfl, hp, hHp, hl, ro'⟩ := zbj c rw3 fn3 (λ a m => hG a (fs a (fs2 a (fs3 a m)))) k5
  have m3 := fs3 p hp
  have m2 := fs2 p m3
  have m1 := fs p m2
  obtain ⟨R2, g2⟩ := up p _ _ m1 (up1 p _ _ m2 (up2 p _ _ m3 (up3 p _ _ hp ro')))
  have yl : y < σ.length := by rw [<- R.len]; exact (zzE.mp hy).1
  have R' := R.any (y := y) (v := some (.ref l3)) hy
  have niy : i ≠ y := λ e => by subst e; rw [hy] at k1; cases k1
  have R2' := R2.any (y := y) (v := some (.ref l3)) (by rw [zzW niy]; exact hy)
  refine ⟨_, sv, F, B, ad, as, n1, R, j1, l, vs, n1, _, rfl, rfl, .inl (.inl hH), zdb hk1 hvs, l2, vs2, (n : Int), _, rfl, rfl, .inl (.inl hH2), Ye hvs2, ?_⟩
  exact ⟨F, B, ad, as, c, R', j4, _, List.getElem?_set_self yl, F, B, ad, as, n2, R', j2, l3, vs3, n2, _, rfl, rfl, .inl (.inl hH3), zdb hk2 hvs3, F, B, ad, as, n3, R', j3, p, ivs, n3, n3.toNat, rfl, rfl, hHp, VD hk3 hl, q _ ad _ R2' g2⟩)
end
section
variable {X : Cx} {kd : KD}
theorem zoT : SlR X (λ x lo hi H Q => ∃ z, x = .str z /\ z.length <= sizeLine /\ Q (.str (Txt.slice z lo hi)) H) := by
 intro pins s σ H x v vl vu lo hi sl Q I rx hs pl pu h
 obtain ⟨z, rfl, hz, q⟩ := h
 obtain ⟨t, rfl⟩ := rx
 refine ⟨"str", _, F.slot_str_getitem.lookup, typeIs_str _ _ _, ?_⟩
 cases pl with
 | none =>
  cases pu with
  | none => exact wpAny_getItem_str_slice (l := none) (u := none) (st := none) hs rfl (post_val_or_str ⟨zzM (Txt.slice_le z _ _) hz, λ t' k => ⟨.str _, H, I.kept (λ _ _ e => e), ⟨_, rfl⟩, q⟩⟩)
  | int j uj => exact wpAny_getItem_str_slice (l := none) (u := some (j, uj)) (st := none) hs rfl (post_val_or_str ⟨zzM (Txt.slice_le z _ _) hz, λ t' k => ⟨.str _, H, I.kept (λ _ _ e => e), ⟨_, rfl⟩, q⟩⟩)
 | int i ui =>
  cases pu with
  | none => exact wpAny_getItem_str_slice (l := some (i, ui)) (u := none) (st := none) hs rfl (post_val_or_str ⟨zzM (Txt.slice_le z _ _) hz, λ t' k => ⟨.str _, H, I.kept (λ _ _ e => e), ⟨_, rfl⟩, q⟩⟩)
  | int j uj => exact wpAny_getItem_str_slice (l := some (i, ui)) (u := some (j, uj)) (st := none) hs rfl (post_val_or_str ⟨zzM (Txt.slice_le z _ _) hz, λ t' k => ⟨.str _, H, I.kept (λ _ _ e => e), ⟨_, rfl⟩, q⟩⟩)
def slS : D -> Option Int -> Option Int -> Option R0
 | .str z, lo, hi => if z.length <= sizeLine then some (.im (.str (Txt.slice z lo hi))) else none
 | _, _, _ => none
theorem zpw : SlR X (λ x lo hi H Q => ∃ O d r, (∀ a, O a -> H a ≠ none) /\ Vw X.K kd O H x d /\ slS d lo hi = some r /\ RQ X.K kd O H Q r) := by
 intro pins s σ H x v vl vu lo hi sl Q I rx hs pl pu h
 obtain ⟨O, d, r, ht, vx, he, q⟩ := h
 unfold slS at he
 split at he
 · obtain ⟨c, rfl⟩ := yc he
   cases vx
   exact zoT pins s σ H _ v vl vu lo hi sl Q I rx hs pl pu ⟨_, rfl, c, yN q (.str _)⟩
 · cases he
theorem zfm {a : Expr} {lo hi : Option Expr} {fa : EF} {fl fh : OF} {pos p2 : Pos} (ha : AE X kd a fa) (hl : AO X kd lo fl) (hh : AO X kd hi fh) : AE X kd (.Subscript a (.Slice lo hi none p2) pos) (fSl fa fl fh slS) := by with_unfolding_all exact (xU (zgW zpw ha hl hh) λ σ H Q h => by
 obtain ⟨F, B, ad, as, r, as', R, e, q⟩ := h
 obtain ⟨⟨p, as1⟩, h1, e⟩ := bS_ (show (fa as).bind _ = _ from e)
 obtain ⟨⟨l, as2⟩, h2, e⟩ := bS_ e
 obtain ⟨⟨u, as3⟩, h3, e⟩ := bS_ e
 obtain ⟨⟨d, lv⟩, h4, e⟩ := bS_ e
 obtain ⟨r', h5, e⟩ := bS_ e
 obtain ⟨z, h6, e⟩ := bS_ e
 cases e
 refine WR R h1 λ v ad1 H1 R1 rv1 g1 => ⟨F, B, ad1, as1, l, as2, R1, h2, λ ad2 H2 R2 g2 => ⟨F, B, ad2, as2, u, _, R2, h3, λ ad3 H3 R3 g3 => ?_⟩⟩
 exact ⟨_, d, r', R3.tr _, vZ.vw R3 ((rv1.grow g2).grow g3) h4, h5, Vz R3 h6 λ w T' H' R' rv' g' => q w T' ad3 H' R' rv' (((g1.trans g2).trans g3).trans g')⟩)
end
def zhD : List D -> Option R0
 | [.int i, .int j] => if 0 < j /\ j < 1073741824 then some (.im (.tup [.int (i / j), .int (i % j)])) else none
 | _ => none
theorem l1_ {α : Type} {P : List α -> Prop} (h : ∀ a, P [a]) : ∀ us : List α, us.length = 1 -> P us
 | [a], _ => h a
theorem l2_ {α : Type} {P : List α -> Prop} (h : ∀ a b, P [a, b]) : ∀ us : List α, us.length = 2 -> P us
 | [a, b], _ => h a b
theorem l3_ {α : Type} {P : List α -> Prop} (h : ∀ a b c, P [a, b, c]) : ∀ us : List α, us.length = 3 -> P us
 | [a, b, c], _ => h a b c
theorem l4_ {α : Type} {P : List α -> Prop} (h : ∀ a b c d, P [a, b, c, d]) : ∀ us : List α, us.length = 4 -> P us
 | [a, b, c, d], _ => h a b c d
theorem l5_ {α : Type} {P : List α -> Prop} (h : ∀ a b c d e, P [a, b, c, d, e]) : ∀ us : List α, us.length = 5 -> P us
 | [a, b, c, d, e], _ => h a b c d e
section
variable {X : Cx} {kd : KD}
theorem zeS : CallD X kd (.builtin "divmod") zhD := by
 intro pins s σ H xs us Q I r h
 obtain ⟨O, ds, z, ht, vl, he, q⟩ := h
 unfold zhD at he
 split at he
 · obtain ⟨hc, rfl⟩ := yc he
   obtain ⟨x, y, rfl, vx, vy⟩ := znc vl
   cases vx; cases vy
   exact zgF pins s σ H _ us Q I r ⟨_, _, rfl, hc, zgl ht q (.cons (.int _) (.cons (.int _) .nil))⟩
 · cases he
theorem aI {c : Int} {j pos} : AE X kd (.Constant (.int c) j pos) (fC (.int c)) := zfP zfZ λ _ _ => .int _
theorem aS {c : Str} {j pos} : AE X kd (.Constant (.str c) j pos) (fC (.str c)) := zfP zoJ λ _ _ => .str _
theorem aZ {j pos} : AE X kd (.Constant .none j pos) (fC .non) := zfP zoy λ _ _ => .non
theorem aB {c : Bool} {j pos} : AE X kd (.Constant (.bool c) j pos) (fC (.bl c)) := zfP zqj λ _ _ => .bl _
theorem ax {P : Program} {w : World} {K : zC} {a b : Expr} {fa fb : EF} {pos : Pos} (hkd : KD1 P w K kd) (ha : AE X kd a fa) (hb : AE X kd b fb) (h1 : X.prog = P := by rfl) (h2 : X.w = w := by rfl) (h3 : X.K = K := by rfl) (hm : Zy b := by exact λ _ _ => rfl) : AE X kd (.Subscript a b pos) (f2 fa fb ixP) := zpJ (zqZ (hkd _ h1 h2 h3)) ha hb hm
theorem sv (z : Bool) (i : Nat) {x : Str} {pos pos' : Pos} {e : Expr} {fa : EF} (hN : X.N.Nodup) (he : AE X kd e fa) (hi : X.N[i]? = some x := by rfl) (hx : Loc X.env.scope x := by first | exact Or.inl rfl | exact Or.inr rfl) (hs : swapsWith e (some (.Name x pos')) pos.line X.env = pure false := by rfl) (hf : X.fn x = true \/ X.env.scope.names.lookup x = some .local := by first | exact Or.inl rfl | exact Or.inr rfl) :
 ASt X kd (.Assign [.Name x pos'] e pos) (zR z i fa) := zoM hN hi hx he hs hf
theorem an (i : Nat) {x : Str} {pos : Pos} (hN : X.N.Nodup) (hi : X.N[i]? = some x := by rfl) (hx : Loc X.env.scope x := by first | exact Or.inl rfl | exact Or.inr rfl) (hf : X.fn x = true \/ X.env.scope.names.lookup x = some .local := by first | exact Or.inl rfl | exact Or.inr rfl) : AG X kd (.Name x pos) [i] (gN i) := zlJ hN hi hx hf
theorem av (i : Nat) {x : Str} {pos : Pos} (hN : X.N[i]? = some x := by rfl) (hv : Vis X.env.scope x := by first | exact Or.inl rfl | exact Or.inr (Or.inl rfl) | exact Or.inr (Or.inr rfl)) (hd : (x == ("__debug__" : Str)) = false := by decide)
 (hcd : (x == ("__classdict__" : Str)) = false := by decide) : AE X kd (.Name x pos) (fV i) := zpp (zkL hN hv hd hcd)
end
structure CI (K : zC) (kd : KD) (mg : Str -> Option Value) (c : Str) (C : Addr) : Prop where
 eq : kd.c c = C
 cl : Cls K C
 mks : PySem.W.makesIn K C = true
 kp : PySem.W.keepIn K (.ref C) = true
 mg : mg c = some (.ref C)
theorem szs {n : Nat} (h : n <= 1000000) : n <= sizeLine := zzM h (by decide)
section
variable {as : AS} {f fo a b : EF} {fr : AF} {s t : Bool} {x y z d : D} {c m : Str} {ns cs : List Str} {ds : List D} {tbl : List (Str × Fn)} {g : Fn} {o : O}
inductive SqD : D -> List D -> Prop
 | l (ds : List D) : SqD (.lst ds) ds
 | t (ds : List D) : SqD (.tup ds) ds
theorem zfd {α : Type} {h : α -> D} {p : α -> Bool} {it : α -> It1} {gg : GF} {tt : TF} {fe : EF} {as0 : AS} : ∀ (l : List α), (∀ q ∈ l, ∃ as1, gg (it q) as0 = some as1 /\ WT tt as1 (p q) /\ (p q = true -> WE fe as1 (h q))) -> ∃ os, wz gg tt fe as0 (l.map it) = some os /\ O.strs os = true /\ O.toDs os = (l.filter p).map h
 | [], _ => ⟨[], rfl, rfl, rfl⟩
 | q :: l, H => by
  obtain ⟨os, e1, e2, e3⟩ := zfd l λ p m => H p (zzB _ m)
  obtain ⟨as1, h1, h2, h3⟩ := H q zzD
  cases hp : p q with
  | false =>
   rw [hp] at h2
   refine ⟨os, zfk h1 h2 e1, e2, ?_⟩
   rw [List.filter_cons_of_neg (by simp [hp])]; exact e3
  | true =>
   rw [hp] at h2
   obtain ⟨o, k1, k2, k3⟩ := h3 hp
   refine ⟨o :: os, ?_, by show (o.str && O.strs os) = true; rw [k2, e2]; rfl, ?_⟩
   · unfold WT at h2
     show wz gg tt fe as0 (it q :: l.map it) = _
     unfold wz
     rw [h1]; show (tt as1).bind _ = _
     rw [h2]; show ((fe as1).bind _) = _
     rw [k1]; show (if o.str = true then _ else _) = _
     rw [if_pos k2, e1]; rfl
   · rw [List.filter_cons_of_pos hp]
     show o.toD :: O.toDs os = _
     rw [k3, e3]; rfl
theorem zkR {fi : IF} {cap : List (Option Nat)} {gg : GF} {tt : TF} {fe : EF} {xs : List It1} {os : List O} {zs : List D} (h1 : fi as = some (xs, as)) (hl : xs.length <= 1000000) (h2 : wz gg tt fe (Zq cap as) xs = some os) (hs : O.strs os = true) (e : O.toDs os = zs) : WE (zZ fi cap gg tt fe) as (.lst zs) := by
 refine ⟨.nd .ls os, ?_, hs, congrArg D.lst e⟩
 unfold zZ
 rw [h1]; show (if xs.length <= sizeLine then _ else _) = _
 rw [if_pos (szs hl), h2]; rfl
theorem znV {fd : DF} {os : List O} {zs : List D} (h : WO fd as os) (hl : os.length <= 1000000) (hs : O.strs os = true) (e : O.toDs os = zs) : WE (yZ fd) as (.tup zs) := by
 refine ⟨YW os, zfC h (szs hl), ?_, ?_⟩
 · unfold YW; split
   · exact hs
   · exact hs
 · subst e
   unfold YW; split
   · rfl
   · rfl
theorem zjp {fd : DF} {os : List O} (h : WE a as x) (hr : WO fd as os) : ∃ o, o.str = true /\ o.toD = x /\ WO (dC a fd) as (o :: os) := by
 obtain ⟨o, h1, h2, h3⟩ := h
 exact ⟨o, h2, h3, Vg h1 hr⟩
end
open AutoSeq1 (wpAny_loadPart')
def zmZ (n : Nat) (K : zC) (kd : KD) (F B : Addr -> Prop) (ad : Ad) (σ : St) (H : Hp) (D : Ends) : Out -> Prop
 | .nx as' => ∀ σ' ad' H', (∀ i, i < n -> σ'[i]? = σ[i]?) -> Rel K kd F B [] ad' as' σ' H' -> Grow (Gw [] ad) H (Gw [] ad') H' -> D.nx σ' H'
 | .bk as' => ∀ σ' ad' H', (∀ i, i < n -> σ'[i]? = σ[i]?) -> Rel K kd F B [] ad' as' σ' H' -> Grow (Gw [] ad) H (Gw [] ad') H' -> D.bk σ' H'
 | .ct as' => ∀ σ' ad' H', (∀ i, i < n -> σ'[i]? = σ[i]?) -> Rel K kd F B [] ad' as' σ' H' -> Grow (Gw [] ad) H (Gw [] ad') H' -> D.ct σ' H'
 | .rt _ => False
def bp (n : Nat) (K : zC) (kd : KD) (f : SF) : TS := λ D σ H => ∃ F B ad as o, Rel K kd F B [] ad as σ H /\ f as = some o /\ zmZ n K kd F B ad σ H D o
@[irreducible] def AP (X : Cx) (kd : KD) (n : Nat) (st : Stmt) (f : SF) : Prop := PS X st (bp n X.K kd f)
@[irreducible] def APs (X : Cx) (kd : KD) (n : Nat) (st : List Stmt) (f : SF) : Prop := PSs X st (bp n X.K kd f)
theorem zmZ.pre {n : Nat} {K : zC} {kd : KD} {F B : Addr -> Prop} {ad ad1 : Ad} {σ σ1 : St} {H H1 : Hp} {D : Ends} {o : Out} (s : ∀ i, i < n -> σ1[i]? = σ[i]?) (g : Grow (Gw [] ad) H (Gw [] ad1) H1) (h : zmZ n K kd F B ad σ H D o) : zmZ n K kd F B ad1 σ1 H1 D o := by
 cases o with
 | nx as => exact λ σ' ad' H' s' R g' => h σ' ad' H' (λ i hi => (s' i hi).trans (s i hi)) R (g.trans g')
 | bk as => exact λ σ' ad' H' s' R g' => h σ' ad' H' (λ i hi => (s' i hi).trans (s i hi)) R (g.trans g')
 | ct as => exact λ σ' ad' H' s' R g' => h σ' ad' H' (λ i hi => (s' i hi).trans (s i hi)) R (g.trans g')
 | rt _ => exact h
section
variable {X : Cx} {kd : KD} {n : Nat} {e c tg iter : Expr} {st : Stmt} {rest sts body : List Stmt} {fa : EF} {ta : TF} {f g : SF} {pos pos' : Pos}
theorem zjc : APs X kd n [] sNx := by with_unfolding_all exact (Vv ziw λ D σ H h => by
 obtain ⟨F, B, ad, as, o, R, e, q⟩ := h
 cases e
 exact q σ ad H (λ _ _ => rfl) R Grow.refl)
theorem zjV (h1 : AP X kd n st f) (h2 : APs X kd n rest g) : APs X kd n (st :: rest) (zF f g) := by with_unfolding_all exact (Vv (Xr h1 h2) λ D σ H h => by
 obtain ⟨F, B, ad, as, o, R, e, q⟩ := h
 obtain ⟨o1, e1, e⟩ := bS_ (show (f as).bind _ = _ from e)
 refine ⟨F, B, ad, as, o1, R, e1, ?_⟩
 cases o1 with
 | nx as1 => exact λ σ' ad' H' s' R' g' => ⟨F, B, ad', as1, o, R', e, q.pre s' g'⟩
 | bk as1 => cases e; exact q
 | ct as1 => cases e; exact q
 | rt r => cases e; exact q)
theorem zfH (h1 : AP X kd n st f) : APs X kd n [st] f := by with_unfolding_all exact (zaV h1)
theorem znD (hc : AT X kd c ta) (ha : APs X kd n sts f) (hb : APs X kd n rest g) : AP X kd n (.If c sts rest pos) (sIf ta f g) := by with_unfolding_all exact (vJ (znj hc ha hb) λ D σ H h => by
 obtain ⟨F, B, ad, as, o, R, e, q⟩ := h
 obtain ⟨⟨p, as1⟩, h1, e⟩ := bS_ (show (ta as).bind _ = _ from e)
 refine ⟨F, B, ad, as, p, as1, R, h1, λ ad' H' R' g => ?_⟩
 cases p with
 | true => exact ⟨F, B, ad', as1, o, R', e, q.pre (λ _ _ => rfl) g⟩
 | false => exact ⟨F, B, ad', as1, o, R', e, q.pre (λ _ _ => rfl) g⟩)
theorem znX {fi : IF} {S : List Nat} {gt : GF} (hS : ∀ i, i < n -> i ∉ S) (hp : PassesOwn (model X.prog X.w) X.A X.env X.xe) (hc : X.calm = true) (hi : AI X kd tg iter fi) (hg : AG X kd tg S gt) (hb : APs X kd n body f) (hs : ∀ x, foldedSetIterable iter X.env x = pure x) :
 AP X kd n (.For tg iter body [] pos) (wy fi gt f) := by with_unfolding_all exact (vJ (zhR hp hc hi hg hb hs) λ D σ H h => by
 obtain ⟨F, B, ad, as, o, R, e, q⟩ := h
 obtain ⟨⟨ds, as1⟩, h1, e⟩ := bS_ (show (fi as).bind _ = _ from e)
 refine ⟨F, B, ad, as, ds, as1, R, h1, λ J ad1 H1 R1 g1 it => ?_⟩
 refine ⟨λ i m σ2 H2 => m + i = ds.length /\ ∃ ad2 as2, (∀ k, k < n -> σ2[k]? = σ[k]?) /\ Rel X.K kd F B [] ad2 as2 σ2 H2 /\ Grow (Gw [] ad1) H1 (Gw [] ad2) H2 /\ forL gt f (ds.drop i) as2 = some o, ⟨ds.length, rfl, ad1, as1, λ _ _ => rfl, R1, Grow.refl, e⟩, ?_⟩
 rintro i m σ2 H2 ⟨hm, ad2, as2, s2, R2, g2, e2⟩
 obtain ⟨k1, k2, k3⟩ := it.all ad2 H2 g2 R2.trk i
 by_cases hi : i < ds.length
 · refine .inr ⟨k1 hi, λ σ3 H3 => ∃ ad3 as3, (∀ k, k < n -> σ3[k]? = σ[k]?) /\ Rel X.K kd F B [] ad3 as3 σ3 H3 /\ Grow (Gw [] ad1) H1 (Gw [] ad3) H3 /\ forL gt f (ds.drop (i + 1)) as3 = some o, λ σ3 H3 ⟨ad3, as3, s3, R3, g3, e3⟩ => ⟨m - 1, by omega, by omega, ad3, as3, s3, R3, g3, e3⟩, λ v H3 hy => ?_⟩
   obtain ⟨kp, rp⟩ := k3 v H3 hy
   rw [List.drop_eq_getElem_cons hi] at e2
   obtain ⟨as3, e3, e2⟩ := bS_ (show (gt _ as2).bind _ = _ from e2)
   obtain ⟨o3, e4, e2⟩ := bS_ e2
   obtain ⟨R3, g3⟩ := R2.more kp
   refine ⟨F, B, ad2, as2, _, as3, R3, rp _ (zzC hi), e3, λ σ4 ad4 H4 R4 g4 s4 => ?_⟩
   refine ⟨F, B, ad4, as3, o3, R4, e4, ?_⟩
   have gg := (g2.trans g3).trans g4
   have s4' : ∀ k, k < n -> σ4[k]? = σ[k]? := λ k hk => (s4 k (hS k hk)).trans (s2 k hk)
   cases o3 with
   | nx as5 => exact λ σ5 ad5 H5 s5 R5 g5 => ⟨ad5, as5, λ k hk => (s5 k hk).trans (s4' k hk), R5, gg.trans g5, e2⟩
   | ct as5 => exact λ σ5 ad5 H5 s5 R5 g5 => ⟨ad5, as5, λ k hk => (s5 k hk).trans (s4' k hk), R5, gg.trans g5, e2⟩
   | bk as5 =>
    cases e2
    exact λ σ5 ad5 H5 s5 R5 g5 => q σ5 ad5 H5 (λ k hk => (s5 k hk).trans (s4' k hk)) R5 (g1.trans (gg.trans g5))
   | rt r => cases e2; exact q.elim
 · refine .inl ⟨k2 (by omega), ?_⟩
   rw [List.drop_eq_nil_of_le (by omega)] at e2
   cases e2
   exact q σ2 ad2 H2 s2 R2 (g1.trans g2))
end
section
variable {K : zC} {kd : KD} {F B : Addr -> Prop} {T : List Addr} {ad : Ad} {as : AS} {σ : St} {H : Hp} {i : Nat} {o : O} {v : V}
theorem zfq {a : Addr} : Gw (ad i) (yS ad i []) a ↔ Gw [] ad a := by
 constructor
 · rintro (z | ⟨j, z⟩)
   · exact .inr ⟨i, z⟩
   · by_cases e : j = i
     · subst e; rw [zH] at z; cases z
     · rw [zA e] at z; exact .inr ⟨j, z⟩
 · rintro (z | ⟨j, z⟩)
   · cases z
   · by_cases e : j = i
     · subst e; exact .inl z
     · exact .inr ⟨j, by rw [zA e]; exact z⟩
theorem Rel.mv (R : Rel K kd F B [] ad as σ H) (h : as[i]? = some (some o)) :
 Rel K kd F B (ad i) (yS ad i []) (as.set i none) σ H /\ ∃ v, σ[i]? = some (some v) /\ RoS K kd F B (Gw (ad i) (yS ad i [])) H v o (ad i) := by
 have hi : i < as.length := (zzE.mp h).1
 obtain ⟨v, hv, ro⟩ := R.sl i _ h
 refine ⟨⟨by rw [zzS]; exact R.len, λ j hj => ?_, λ j => ?_, λ j k a h1 h2 => ?_, R.nd i, λ j a h1 h2 => ?_, R.ftr, λ a h1 => ?_, λ a h1 => R.gtr a (zfq.mp h1), λ j s e => ?_⟩, v, hv, ro.less λ a z => zfq.mp z⟩
 · rw [zzS] at hj
   rw [zA (by omega)]; exact R.out j hj
 · by_cases e : j = i
   · subst e; rw [zH]; exact List.nodup_nil
   · rw [zA e]; exact R.nd j
 · by_cases e : j = i
   · subst e; rw [zH] at h1; cases h1
   · rw [zA e] at h1
     by_cases e' : k = i
     · subst e'; rw [zH] at h2; cases h2
     · rw [zA e'] at h2; exact R.inj j k a h1 h2
 · by_cases e : j = i
   · subst e; rw [zH] at h1; cases h1
   · rw [zA e] at h1
     exact e (R.inj j i a h1 h2)
 · obtain ⟨b1, b2, b3⟩ := R.btr a h1
   exact ⟨b1, b2, λ z => b3 (zfq.mp z)⟩
 · by_cases q : j = i
   · subst q
     rw [List.getElem?_set_self hi] at e
     cases e
     rw [zH]; exact (rfl : ([] : List Addr) = [])
   · rw [zzW (Ne.symm q)] at e
     rw [zA q]
     have := R.sl j s e
     cases s with
     | none => exact this
     | some o' =>
      obtain ⟨w, hw, rw'⟩ := this
      exact ⟨w, hw, rw'.less λ a z => zfq.mp z⟩
theorem Rel.put2 {T1 T2 : List Addr} (R : Rel K kd F B (T1 ++ T2) ad as σ H) (hi : i < as.length) (h0 : ad i = []) (h : RoS K kd F B (Gw (T1 ++ T2) ad) H v o T1) :
 Rel K kd F B T2 (yS ad i T1) (as.set i (some o)) (σ.set i (some v)) H := by
 have hi' : i < σ.length := by rw [<- R.len]; exact hi
 obtain ⟨n1, n2, n3⟩ := List.nodup_append.mp R.tnd
 have le : ∀ a, Gw T2 (yS ad i T1) a -> Gw (T1 ++ T2) ad a := by
  rintro a (z | ⟨j, z⟩)
  · exact .inl (zzJ _ z)
  · by_cases e : j = i
    · subst e; rw [zH] at z; exact .inl (zzN _ z)
    · rw [zA e] at z; exact .inr ⟨j, z⟩
 refine ⟨by rw [zzS, zzS]; exact R.len, λ j hj => ?_, λ j => ?_, λ j k a h1 h2 => ?_, n2, λ j a h1 h2 => ?_, R.ftr, λ a h1 => ?_, λ a h1 => R.gtr a (le a h1), λ j s e => ?_⟩
 · rw [zzS] at hj
   rw [zA (by omega)]; exact R.out j hj
 · by_cases e : j = i
   · subst e; rw [zH]; exact n1
   · rw [zA e]; exact R.nd j
 · by_cases e : j = i
   · subst e
     rw [zH] at h1
     by_cases e' : k = j
     · exact e'.symm
     · rw [zA e'] at h2
       exact (R.dis k a h2 (zzN _ h1)).elim
   · rw [zA e] at h1
     by_cases e' : k = i
     · subst e'
       rw [zH] at h2
       exact (R.dis j a h1 (zzN _ h2)).elim
     · rw [zA e'] at h2
       exact R.inj j k a h1 h2
 · by_cases e : j = i
   · subst e; rw [zH] at h1; exact n3 a h1 a h2 rfl
   · rw [zA e] at h1
     exact R.dis j a h1 (zzJ _ h2)
 · obtain ⟨b1, b2, b3⟩ := R.btr a h1
   exact ⟨b1, b2, λ z => b3 (le a z)⟩
 · by_cases q : j = i
   · subst q
     rw [List.getElem?_set_self hi] at e
     cases e
     rw [zH, List.getElem?_set_self hi']
     exact ⟨v, rfl, h.less le⟩
   · rw [zzW (Ne.symm q)] at e
     rw [zA q, zzW (Ne.symm q)]
     have := R.sl j s e
     cases s with
     | none => exact this
     | some o' =>
      obtain ⟨w, hw, rw'⟩ := this
      exact ⟨w, hw, rw'.less le⟩
end
def fMv (i : Nat) : EF := λ as => match as[i]? with
 | some (some o) => some (.ow o, as.set i none)
 | _ => none
theorem znl {X : Cx} {kd : KD} {i : Nat} {x : Str} {p : Pos} (hv : PE X (.Name x p) (Xh i)) : AE X kd (.Name x p) (fMv i) := by with_unfolding_all exact (xU hv λ σ H Q h => by
 obtain ⟨F, B, ad, as, r, as', R, e, q⟩ := h
 unfold fMv at e
 cases k : as[i]? with
 | none => rw [k] at e; cases e
 | some s =>
  cases s with
  | none => rw [k] at e; cases e
  | some o =>
   rw [k] at e
   cases e
   obtain ⟨R', v, hv, ro⟩ := R.mv k
   exact ⟨v, hv, q v (ad i) _ H R' ro (Grow.less λ a z => zfq.mp z)⟩)
theorem ziy {L : Bool -> V -> D -> Prop} {N : Addr -> Prop} {H : Hp} {v : V} {o' : O} {T : List Addr} (h : Ro L N H v o' T) : ∀ (os : List O) {vs : List V} {fp : List Addr} {k : Nat}, RoL L N H vs os fp -> k < os.length ->
 ∃ fp', (∀ a ∈ fp', a ∈ fp \/ a ∈ T) /\ (fp.Nodup -> T.Nodup -> (∀ a ∈ fp, a ∉ T) -> fp'.Nodup) /\ RoL L N H (vs.set k v) (os.set k o') fp'
 | [], _, _, _, _, e => absurd e (Nat.not_lt_zero _)
 | o1 :: os, _, _, k, r, e => by
  cases r with
  | cons a r =>
   rename_i w vs f g
   cases k with
   | zero =>
    refine ⟨T ++ g, λ a m => (zzK.mp m).elim .inr λ z => .inl (zzJ _ z), λ n1 n2 n3 => ?_, .cons h r⟩
    obtain ⟨_, m2, _⟩ := List.nodup_append.mp n1
    exact List.nodup_append.mpr ⟨n2, m2, λ a m b m' e => by subst e; exact n3 a (zzJ _ m') m⟩
   | succ k =>
    obtain ⟨fp', h1, h2, h3⟩ := ziy h os (k := k) r (by simpa using e)
    refine ⟨f ++ fp', λ a m => (zzK.mp m).elim (λ z => .inl (zzN _ z)) λ z => (h1 a z).elim (λ y => .inl (zzJ _ y)) .inr, λ n1 n2 n3 => ?_, .cons a h3⟩
    obtain ⟨m1, m2, m3⟩ := List.nodup_append.mp n1
    refine List.nodup_append.mpr ⟨m1, h2 m2 n2 λ a m => n3 a (zzJ _ m), λ a m b m' e => ?_⟩
    subst e
    exact (h1 a m').elim (λ y => m3 a m a y rfl) λ y => n3 a (zzN _ m) y
def zho (i : Nat) (f : IXF) (fe : EF) : SF := λ as => (fe as).bind λ p => match p.1 with
 | .ow o' => (f p.2).bind λ k => if 0 <= k then (slO ZZ p.2 i).bind λ os => if k.toNat < os.length then some (.nx (p.2.set i (some (.nd .ls (os.set k.toNat o'))))) else none else none
 | .bo _ => none
section
variable {X : Cx} {kd : KD} {n : Nat} {f f1 f2 f3 fv : IXF} {fe : EF} {e1 e2 e3 ev : Expr} {i y : Nat}
theorem zlZ {x : Str} {p tpos pos : Pos} (ho : PE X (.Name x p) (Xh i)) (h1 : AK X kd e1 f) (hv : AE X kd ev fe)
 (ha : ∀ v, assign (.Subscript (.Name x p) e1 tpos) X.env v = (do
  let ov <- holding [v] (eval (.Name x p) X.env)
  let iv <- holding [v, ov] (eval e1 X.env)
  standAt tpos
  holding [v, ov, iv] (setItem ov iv v)
  release [v, ov, iv] []))
 (hs : swapsWithSole [.Subscript (.Name x p) e1 tpos] ev pos.line X.env = pure false) (hw : swappedStores [.Subscript (.Name x p) e1 tpos] ev X.env = pure none)
 (hm : (assignEach [.Subscript (.Name x p) e1 tpos] X.env).map (·.2) = [assign (.Subscript (.Name x p) e1 tpos) X.env]) :
 AP X kd n (.Assign [.Subscript (.Name x p) e1 tpos] ev pos) (zho i f fe) := by
 with_unfolding_all exact (vJ (WM hv (zbM ho h1 set_list ha) hs hw hm) λ D σ H h => by
  obtain ⟨F, B, ad, as, o, R, e, q⟩ := h
  obtain ⟨⟨r, as1⟩, j1, e⟩ := bS_ (show (fe as).bind _ = _ from e)
  cases r with
  | bo _ => cases e
  | ow o' =>
   obtain ⟨k, j2, e⟩ := bS_ (show (f as1).bind _ = _ from e)
   obtain ⟨hk, e⟩ := ite_some' e
   obtain ⟨os, e1, e⟩ := bS_ e
   obtain ⟨hl, e⟩ := yc e
   have k1 := zij e1
   cases e
   refine ⟨F, B, ad, as, _, as1, R, j1, λ v T1 ad1 H1 R1 rv1 g1 => ?_⟩
   obtain ⟨w, hw, ro⟩ := R1.sl i _ k1
   generalize hfp : ad1 i = fp1 at ro
   cases ro with
   | ls hH rl =>
    rename_i l vs fp
    have rv : RoS X.K kd F B (Gw T1 ad1) H1 v o' T1 := rv1
    obtain ⟨fp', c1, c2, c3⟩ := ziy rv os rl hl
    have hnd := R1.nd i
    rw [hfp] at hnd
    have hdis : ∀ a ∈ fp, a ∉ T1 := λ a m => R1.dis i a (by rw [hfp]; exact zzB _ m)
    obtain ⟨R2, g2⟩ := R1.mut (fo := []) (n := .nd .ls (os.set k.toNat o')) (u := .lst (vs.set k.toNat v)) (zzE.mp k1).1 hfp hw (fp' := fp') (λ a m => by
     rw [List.append_nil] at m
     exact zzK.mpr (c1 a m)) (by rw [List.append_nil]; exact c2 (zzU.mp hnd).2 R1.tnd hdis) (by rw [hH]; simp) λ H' G' hl' gr kp => .ls hl' (Yh.grow gr kp c3)
    exact ⟨_, hw, F, B, ad1, as1, k, R1.drop, j2, l, vs, k, k.toNat, rfl, rfl, hH, VD hk (by rw [zaP rl]; exact hl), q σ _ _ (λ _ _ => rfl) R2 (g1.trans g2)⟩)
theorem zmw {x : Str} {p p1 tpos pos : Pos} (ho : PE X (.Name x p) (Xh i)) (h1 : AK X kd e1 f1) (hp1 : Zy e1) (h2 : AK X kd e2 f2) (hv : AK X kd ev fv)
 (ha : ∀ v, assign (.Subscript (.Subscript (.Name x p) e1 p1) e2 tpos) X.env v = (do
  let ov <- holding [v] (eval (.Subscript (.Name x p) e1 p1) X.env)
  let iv <- holding [v, ov] (eval e2 X.env)
  standAt tpos
  holding [v, ov, iv] (setItem ov iv v)
  release [v, ov, iv] []))
 (hs : swapsWithSole [.Subscript (.Subscript (.Name x p) e1 p1) e2 tpos] ev pos.line X.env = pure false) (hw : swappedStores [.Subscript (.Subscript (.Name x p) e1 p1) e2 tpos] ev X.env = pure none)
 (hm : (assignEach [.Subscript (.Subscript (.Name x p) e1 p1) e2 tpos] X.env).map (·.2) = [assign (.Subscript (.Subscript (.Name x p) e1 p1) e2 tpos) X.env]) :
 AP X kd n (.Assign [.Subscript (.Subscript (.Name x p) e1 p1) e2 tpos] ev pos) (zaO i f1 f2 fv) := by
 with_unfolding_all exact (vJ (WM hv (zbM (zcz Wd ho h1 hp1) h2 set_list ha) hs hw hm) λ D σ H h => by
  obtain ⟨F, B, ad, as, o, R, e, q⟩ := h
  obtain ⟨n1, j1, e⟩ := bS_ (show (f1 as).bind _ = _ from e)
  obtain ⟨n2, j2, e⟩ := bS_ e
  obtain ⟨c, j3, e⟩ := bS_ e
  obtain ⟨⟨hk1, hk2⟩, e⟩ := ite_some' e
  obtain ⟨os, e1, e⟩ := bS_ e
  obtain ⟨inner, e2, e⟩ := bS_ e
  obtain ⟨d, e3, e⟩ := bS_ e
  have k1 := zij e1
  have k2 := zjv e2
  obtain ⟨st, k3⟩ := zlj e3
  cases e
  obtain ⟨v, sv, ro, hn, hG, up⟩ := R.slotU k1
  obtain ⟨l, vs, w, fw, rfl, hH, hvs, rw1, fn, fs, up1⟩ := zeu ro hn hG k2
  obtain ⟨p, ivs, rfl, hp, hHp, hl, ro'⟩ := zbj c rw1 fn (λ a m => hG a (fs a m)) k3
  obtain ⟨R2, g2⟩ := up p _ _ (fs p hp) (up1 p _ _ hp ro')
  exact ⟨F, B, ad, as, c, R, j3, _, sv, F, B, ad, as, n1, R, j1, l, vs, n1, _, rfl, rfl, .inl (.inl hH), zdb hk1 hvs, F, B, ad, as, n2, R, j2, p, ivs, n2, n2.toNat, rfl, rfl, hHp, VD hk2 hl, q σ ad _ (λ _ _ => rfl) R2 g2⟩)
end
def zjH (k : Int) (d : O) : Option O := (zfA d).bind λ ps => if ps.length = 2 then (atO ZZ ps 1).bind λ rows => (atO ZZ rows 0).bind λ inner => (atO W4 inner k.toNat).bind λ _ => some (.nd .tp (ps.set 1 (.nd .ls (rows.set 0 (.nd .ls (inner.set k.toNat (.lf true (.int k)))))))) else none
def zft (k : Int) : List O -> Option (List O)
 | [] => some []
 | d :: r => (zjH k d).bind λ d' => (zft k r).bind λ r' => some (d' :: r')
def zne (i jn jr j : Nat) : SF := λ as => (xV j as).bind λ k => if 0 <= k /\ noS as jn = true /\ noS as jr = true /\ jn ≠ jr then (slO ZZ as i).bind λ ds => (zft k ds).bind λ ds' => some (.nx (as.set i (some (.nd .ls ds')))) else none
theorem zfj {k : Int} : ∀ {ds ds' : List O}, zft k ds = some ds' -> ds'.length = ds.length /\ ∀ (t : Nat) (d : O), ds[t]? = some d -> ∃ d', zjH k d = some d' /\ ds'[t]? = some d'
 | [], _, h => by cases h; exact ⟨rfl, λ _ _ e => by simp at e⟩
 | x :: r, _, h => by
  obtain ⟨d', h1, h⟩ := bS_ (show (zjH k x).bind _ = _ from h)
  obtain ⟨r', h2, h⟩ := bS_ h
  cases h
  obtain ⟨l, g⟩ := zfj h2
  refine ⟨by rw [zzR, zzR, l], λ t d e => ?_⟩
  cases t with
  | zero => simp at e; subst e; exact ⟨d', h1, rfl⟩
  | succ t => exact g t d (by simpa using e)
theorem zkT {ds ds' : List O} {t : Nat} {d' : O} (hl : ds'.length = ds.length) (ht : t < ds.length) (h : ds'[t]? = some d') : (ds'.take t ++ ds.drop t).set t d' = ds'.take (t + 1) ++ ds.drop (t + 1) := by
 have lt : (ds'.take t).length = t := by rw [zzQ]; omega
 rw [List.set_append_right _ _ (by omega), lt, Nat.sub_self, List.take_succ, h, List.drop_eq_getElem_cons ht, List.append_assoc]
 rfl
theorem zkq {ds ds' : List O} {t : Nat} (hl : ds'.length = ds.length) (ht : t < ds.length) : (ds'.take t ++ ds.drop t)[t]? = ds[t]? := by
 have lt : (ds'.take t).length = t := by rw [zzQ]; omega
 rw [List.getElem?_append_right (by omega), lt, Nat.sub_self, List.getElem?_drop, Nat.add_zero]
theorem zmM {K : zC} {kd : KD} {F B G : Addr -> Prop} {H : Hp} {v : V} {os : List O} {fp : List Addr} {n : Nat} {o : O} (r : RoS K kd F B G H v (.nd .ls os) fp) (hn : fp.Nodup) (hG : ∀ a ∈ fp, G a) (e : os[n]? = some o) :
 ∃ l vs w f, v = .ref l /\ H l = some (.lst vs) /\ vs[n]? = some w /\ RoS K kd F B G H w o f /\ f.Nodup /\ (∀ a ∈ f, a ∈ fp) /\ (∀ a ∈ f, a ≠ l) /\ ∀ (p : Addr) (u : HO) (o' : O), p ∈ f -> RoS K kd F B G (upd H p u) w o' f -> RoS K kd F B G (upd H p u) v (.nd .ls (os.set n o')) fp := by
 cases r with
 | ls hp ir =>
  rename_i l vs ifp
  obtain ⟨w, f, h1, h2, h3, h4, h5⟩ := zcY os ir (zzU.mp hn).2 (λ a m => hG a (zzB _ m)) e
  exact ⟨l, vs, w, f, rfl, hp, h1, h2, h3, λ a m => zzB _ (h4 a m), λ a m e => (zzU.mp hn).1 (by rw [<- e]; exact h4 a m), λ p u o' hpf ro => .ls (by rw [yj (λ e => (zzU.mp hn).1 (by rw [e]; exact h4 p hpf))]; exact hp) (h5 p u o' hpf ro)⟩
theorem znZ {X : Cx} {kd : KD} {n i jn jr j m : Nat} {x zn zr w : Str} {p pn pr pt q0 q1 q2 q3 tpos pos pos0 : Pos} {e0 : Expr} (hN : X.N.Nodup)
 (hjn : n <= jn) (hjr : n <= jr) (hij : i ≠ j) (hnj : jn ≠ j) (hrj : jr ≠ j)
 (hin : X.N[jn]? = some zn) (hln : Loc X.env.scope zn) (hfn : X.fn zn = true \/ X.env.scope.names.lookup zn = some .local)
 (hir : X.N[jr]? = some zr) (hlr : Loc X.env.scope zr) (hfr : X.fn zr = true \/ X.env.scope.names.lookup zr = some .local)
 (hp : PassesOwn (model X.prog X.w) X.A X.env X.xe) (hc : X.calm = true) (ho : PE X (.Name x p) (Xh i))
 (ht1 : (assignEach [.Name zn pn, .Name zr pr] X.env).map (·.2) = assign (.Name zn pn) X.env :: (assignEach [.Name zr pr] X.env).map (·.2))
 (ht2 : (assignEach [.Name zr pr] X.env).map (·.2) = assign (.Name zr pr) X.env :: (assignEach [] X.env).map (·.2))
 (hn2 : (assignEach [.Name zn pn, .Name zr pr] X.env).length = 2) (hst : (assignEach [.Name zn pn, .Name zr pr] X.env).findIdx? (·.1) = none)
 (ho2 : PE X (.Name zr q0) (Xh jr)) (h0 : PE X e0 (tC (.int 0))) (hp0 : Zy e0) (h3 : PE X (.Name w q2) (Xh j)) (hv : PE X (.Name w q3) (Xh j))
 (ha : ∀ v, assign (.Subscript (.Subscript (.Name zr q0) e0 q1) (.Name w q2) tpos) X.env v = (do
  let ov <- holding [v] (eval (.Subscript (.Name zr q0) e0 q1) X.env)
  let iv <- holding [v, ov] (eval (.Name w q2) X.env)
  standAt tpos
  holding [v, ov, iv] (setItem ov iv v)
  release [v, ov, iv] []))
 (hs : swapsWithSole [.Subscript (.Subscript (.Name zr q0) e0 q1) (.Name w q2) tpos] (.Name w q3) pos.line X.env = pure false) (hw : swappedStores [.Subscript (.Subscript (.Name zr q0) e0 q1) (.Name w q2) tpos] (.Name w q3) X.env = pure none)
 (hm : (assignEach [.Subscript (.Subscript (.Name zr q0) e0 q1) (.Name w q2) tpos] X.env).map (·.2) = [assign (.Subscript (.Subscript (.Name zr q0) e0 q1) (.Name w q2) tpos) X.env])
 (hfo : ∀ y, foldedSetIterable (.Name x p) X.env y = pure y) :
 AP X kd n (.For (.Tuple [.Name zn pn, .Name zr pr] m pt) (.Name x p) [.Assign [.Subscript (.Subscript (.Name zr q0) e0 q1) (.Name w q2) tpos] (.Name w q3) pos] [] pos0) (zne i jn jr j) := by
 with_unfolding_all exact (vJ (zhR hp hc (zde ho) (zie hc (v9 (Yk hN hin hln hfn) (v9 (Yk hN hir hlr hfr) zfF ht2) ht1) hn2 hst) (zaV (WM hv (zbM (zcz Wd ho2 h0 hp0) h3 set_list ha) hs hw hm)) hfo) λ D σ H h => by
  obtain ⟨F, B, ad, as, o, R, e, q⟩ := h
  obtain ⟨k, j1, e⟩ := bS_ (show (xV j as).bind _ = _ from e)
  obtain ⟨⟨hk, hyn, hyr, hne⟩, e⟩ := ite_some' e
  have hyn := zbL hyn
  have hyr := zbL hyr
  obtain ⟨ds, e1, e⟩ := bS_ e
  obtain ⟨ds', e2, e⟩ := bS_ e
  cases e
  have k1 := zij e1
  obtain ⟨hl, hg⟩ := zfj e2
  have hi : i < as.length := (zzE.mp k1).1
  have nin : i ≠ jn := λ z => by subst z; rw [hyn] at k1; cases k1
  have nir : i ≠ jr := λ z => by subst z; rw [hyr] at k1; cases k1
  obtain ⟨d0, j2, j3⟩ := bS_ (show (slO W4 as j).bind asI = _ from j1)
  obtain ⟨st0, k0⟩ := znS j2
  cases d0 with
  | int c =>
   cases j3
   obtain ⟨vj, hvj, roj⟩ := R.sl j _ k0
   have ej : vj = .int k := by
    generalize ad j = fj at roj
    cases roj with
    | lf rp => cases rp; rfl
   subst ej
   obtain ⟨v, hv', ro⟩ := R.sl i _ k1
   generalize hfp : ad i = fp at ro
   cases ro with
   | ls hH rl =>
    rename_i l vs fp1
    have lvs : vs.length = ds.length := zaP rl
    have hli : l ∈ ad i := by rw [hfp]; exact zzD
    refine ⟨_, hv', l, rfl, ⟨vs, .inl (.inl hH)⟩, zjT (xs := vs) (λ t σ2 H2 => (∀ b, b < n -> σ2[b]? = σ[b]?) /\ σ2[j]? = some (some (.int k)) /\ σ2[i]? = some (some (.ref l)) /\ H2 l = some (.lst vs) /\ Rel X.K kd F B [] ad (as.set i (some (.nd .ls (ds'.take t ++ ds.drop t)))) σ2 H2 /\ Grow (Gw [] ad) H (Gw [] ad) H2) ⟨λ _ _ => rfl, hvj, hv', hH, ?_, Grow.refl⟩ (λ t σ2 H2 _ P => .inl (.inl P.2.2.2.1)) (λ t y σ2 H2 hy P => ?_) λ σ2 H2 P => ?_⟩
    · rw [List.take_zero, List.nil_append, List.drop_zero]
      have : as.set i (some (.nd .ls ds)) = as := by
       refine List.ext_getElem? λ b => ?_
       by_cases z : b = i
       · subst z; rw [List.getElem?_set_self hi, k1]
       · rw [zzW (Ne.symm z)]
      rw [this]; exact R
    · obtain ⟨s2, sj, si, hH2, R2, g2⟩ := P
      have ht : t < ds.length := by rw [<- lvs]; exact (zzE.mp hy).1
      obtain ⟨d', u1, u2⟩ := hg t _ (zzC ht)
      obtain ⟨ps, e3, u1⟩ := bS_ (show (zfA _).bind _ = _ from u1)
      obtain ⟨hps, u1⟩ := ite_some' u1
      obtain ⟨rows, e4, u1⟩ := bS_ u1
      obtain ⟨inner, e5, u1⟩ := bS_ u1
      obtain ⟨dd, e6, u1⟩ := bS_ u1
      cases u1
      have k2 := zfO e3
      have k3 := zjv e4
      have k4 := zjv e5
      obtain ⟨st5, k5⟩ := zlj e6
      have ks : (as.set i (some (.nd .ls (ds'.take t ++ ds.drop t))))[i]? = some (some (.nd .ls (ds'.take t ++ ds.drop t))) := List.getElem?_set_self hi
      have kt : (ds'.take t ++ ds.drop t)[t]? = some (.nd .tp ps) := by rw [zkq hl ht, zzC ht, k2]
      obtain ⟨v2, sv2, ro2, hn', hG, up⟩ := R2.slotU ks
      obtain ⟨l1, vs1, w1, fw, rfl, hH1, hvs1, rw1, fn, fs, fl, up1⟩ := zmM ro2 hn' hG kt
      rw [si] at sv2
      cases sv2
      rw [hH2] at hH1
      cases hH1
      rw [hy] at hvs1
      cases hvs1
      obtain ⟨l2, vs2, w2, fw2, rfl, hHt, hvs2, rw2, fn2, fs2, up2⟩ := zkk rw1 fn (λ a m => hG a (fs a m)) k3
      have lv2 : vs2.length = 2 := by
       generalize hf : fw = fz at rw1
       cases rw1 with
       | tp hN' hH' rl' =>
        rw [hHt] at hH'
        cases hH'
        rw [zaP rl', hps]
      obtain ⟨l3, vs3, w3, fw3, rfl, hH3, hvs3, rw3, fn3, fs3, up3⟩ := zeu rw2 fn2 (λ a m => hG a (fs a (fs2 a m))) k4
      obtain ⟨pp, ivs, rfl, hpp, hHp, hlp, ro'⟩ := zbj k rw3 fn3 (λ a m => hG a (fs a (fs2 a (fs3 a m)))) k5
      have m3 := fs3 pp hpp
      have m2 := fs2 pp m3
      have m1 := fs pp m2
      obtain ⟨R3, g3⟩ := up pp _ _ m1 (up1 pp _ _ m2 (up2 pp _ _ m3 (up3 pp _ _ hpp ro')))
      rw [List.set_set, zkT hl ht u2] at R3
      match vs2, lv2, hvs2, hHt with
      | [wn, wr], _, hvs2, hHt =>
       have ew : wr = .ref l3 := by simpa using hvs2
       subst ew
       have sl2 : σ2.length = as.length := by rw [<- R2.len, zzS]
       have jnl : jn < as.length := (zzE.mp hyn).1
       have jrl : jr < as.length := (zzE.mp hyr).1
       have nlp : l ≠ pp := λ z => fl pp m2 z.symm
       have y1 : ∀ {o : Option O}, (as.set i o)[jn]? = some none := λ {o} => by rw [zzW nin]; exact hyn
       have y2 : ∀ {o : Option O}, (as.set i o)[jr]? = some none := λ {o} => by rw [zzW nir]; exact hyr
       have Ra := (R2.any (y := jn) (v := some wn) y1).any (y := jr) (v := some (.ref l3)) y2
       have Rb := (R3.any (y := jn) (v := some wn) y1).any (y := jr) (v := some (.ref l3)) y2
       have sj' : ((σ2.set jn (some wn)).set jr (some (.ref l3)))[j]? = some (some (.int k)) := by rw [zzW hrj, zzW hnj]; exact sj
       have sr' : ((σ2.set jn (some wn)).set jr (some (.ref l3)))[jr]? = some (some (.ref l3)) := List.getElem?_set_self (by rw [zzS, sl2]; exact jrl)
       refine ⟨l2, [wn, .ref l3], rfl, .inl (.inl hHt), rfl, wn, [.ref l3], rfl, .ref l3, [], rfl, rfl, ?_⟩
       refine ⟨.int k, sj', _, sr', l3, vs3, 0, _, rfl, rfl, .inl (.inl hH3), Ye (j := 0) hvs3, .int k, sj', pp, ivs, k, k.toNat, rfl, rfl, hHp, VD hk hlp, ?_⟩
       have st' : ∀ b, b < n -> ((σ2.set jn (some wn)).set jr (some (.ref l3)))[b]? = σ[b]? := λ b hb => by rw [zzW (by omega), zzW (by omega)]; exact s2 b hb
       exact ⟨st', sj', by rw [zzW (Ne.symm nir), zzW (Ne.symm nin)]; exact si, by rw [yj nlp]; exact hH2, Rb, g2.trans g3⟩
    · obtain ⟨s2, sj, si, hH2, R2, g2⟩ := P
      rw [lvs, List.drop_length, List.append_nil, <- hl, List.take_length] at R2
      exact q σ2 ad H2 s2 R2 g2
  | _ => cases j3)
section
variable {K : zC} {kd : KD} {F B : Addr -> Prop} {T : List Addr} {ad : Ad} {as : AS} {σ : St} {H : Hp} {i : Nat} {o : O} {v : V}
theorem zdm {a : Addr} : Gw (ad i ++ T) (yS ad i []) a ↔ Gw T ad a := by
 constructor
 · rintro (z | ⟨j, z⟩)
   · exact (zzK.mp z).elim (λ y => .inr ⟨i, y⟩) .inl
   · by_cases e : j = i
     · subst e; rw [zH] at z; cases z
     · rw [zA e] at z; exact .inr ⟨j, z⟩
 · rintro (z | ⟨j, z⟩)
   · exact .inl (zzJ _ z)
   · by_cases e : j = i
     · subst e; exact .inl (zzN _ z)
     · exact .inr ⟨j, by rw [zA e]; exact z⟩
theorem Rel.mvT (R : Rel K kd F B T ad as σ H) (h : as[i]? = some (some o)) :
 Rel K kd F B (ad i ++ T) (yS ad i []) (as.set i none) σ H /\ ∃ v, σ[i]? = some (some v) /\ RoS K kd F B (Gw T ad) H v o (ad i) := by
 have hi : i < as.length := (zzE.mp h).1
 obtain ⟨v, hv, ro⟩ := R.sl i _ h
 refine ⟨⟨by rw [zzS]; exact R.len, λ j hj => ?_, λ j => ?_, λ j k a h1 h2 => ?_, List.nodup_append.mpr ⟨R.nd i, R.tnd, λ a m b m' e => by subst e; exact R.dis i a m m'⟩, λ j a h1 h2 => ?_, R.ftr, λ a h1 => ?_, λ a h1 => R.gtr a (zdm.mp h1), λ j s e => ?_⟩, v, hv, ro⟩
 · rw [zzS] at hj
   rw [zA (by omega)]; exact R.out j hj
 · by_cases e : j = i
   · subst e; rw [zH]; exact List.nodup_nil
   · rw [zA e]; exact R.nd j
 · by_cases e : j = i
   · subst e; rw [zH] at h1; cases h1
   · rw [zA e] at h1
     by_cases e' : k = i
     · subst e'; rw [zH] at h2; cases h2
     · rw [zA e'] at h2; exact R.inj j k a h1 h2
 · by_cases e : j = i
   · subst e; rw [zH] at h1; cases h1
   · rw [zA e] at h1
     exact (zzK.mp h2).elim (λ y => e (R.inj j i a h1 y)) λ y => R.dis j a h1 y
 · obtain ⟨b1, b2, b3⟩ := R.btr a h1
   exact ⟨b1, b2, λ z => b3 (zdm.mp z)⟩
 · by_cases q : j = i
   · subst q
     rw [List.getElem?_set_self hi] at e
     cases e
     rw [zH]; exact (rfl : ([] : List Addr) = [])
   · rw [zzW (Ne.symm q)] at e
     rw [zA q]
     have := R.sl j s e
     cases s with
     | none => exact this
     | some o' =>
      obtain ⟨w, hw, rw'⟩ := this
      exact ⟨w, hw, rw'.less λ a z => zdm.mp z⟩
theorem zbY {T1 T2 : List Addr} : ∀ a, Gw T2 (yS ad i T1) a -> Gw (T1 ++ T2) ad a := by
 rintro a (z | ⟨j, z⟩)
 · exact .inl (zzJ _ z)
 · by_cases e : j = i
   · subst e; rw [zH] at z; exact .inl (zzN _ z)
   · rw [zA e] at z; exact .inr ⟨j, z⟩
theorem Rel.none_ad (R : Rel K kd F B T ad as σ H) (h : noS as i = true) : ad i = [] := R.sl i none (zbL h)
end
def zpB (f g : SF) : SF := λ as => (slO zfA as 2).bind λ os => match os with
 | [.lf s0 d0, .lf s1 d1, o2, .lf s3 d3, o4, .lf s5 d5] =>
  if noS as 3 = true /\ noS as 4 = true /\ noS as 5 = true /\ noS as 6 = true /\ noS as 7 = true /\ noS as 8 = true then
   (f ((((((((as.set 2 none).set 3 (some (.lf s0 d0))).set 4 (some (.lf s1 d1))).set 5 (some o2)).set 6 (some (.lf s3 d3))).set 7 (some o4)).set 8 (some (.lf s5 d5))))).bind λ x => match x with
   | .nx asa => (g asa).bind λ y => match y with
    | .nx asb => (slO some asb 5).bind λ p2 => (slO some asb 7).bind λ p4 => if (O.nd .tp [.lf s0 d0, .lf s1 d1, p2, .lf s3 d3, p4, .lf s5 d5]).str = true then some (.rt (.nd .tp [.lf s0 d0, .lf s1 d1, p2, .lf s3 d3, p4, .lf s5 d5])) else none
    | _ => none
   | _ => none
  else none
 | _ => none
theorem zlN {X : Cx} {kd : KD} {f g : SF} {st1 st2 : Stmt} {x x3 x4 x5 x6 x7 x8 : Str} {p p' p3 p4 p5 p6 p7 p8 pt pos pos' : Pos} {m : Nat} (hN : X.N.Nodup) (hc : X.calm = true)
 (h3 : X.N[3]? = some x3) (h4 : X.N[4]? = some x4) (h5 : X.N[5]? = some x5) (h6 : X.N[6]? = some x6) (h7 : X.N[7]? = some x7) (h8 : X.N[8]? = some x8)
 (l3 : Loc X.env.scope x3) (l4 : Loc X.env.scope x4) (l5 : Loc X.env.scope x5) (l6 : Loc X.env.scope x6) (l7 : Loc X.env.scope x7) (l8 : Loc X.env.scope x8)
 (f3 : X.fn x3 = true \/ X.env.scope.names.lookup x3 = some .local) (f4 : X.fn x4 = true \/ X.env.scope.names.lookup x4 = some .local) (f5 : X.fn x5 = true \/ X.env.scope.names.lookup x5 = some .local)
 (f6 : X.fn x6 = true \/ X.env.scope.names.lookup x6 = some .local) (f7 : X.fn x7 = true \/ X.env.scope.names.lookup x7 = some .local) (f8 : X.fn x8 = true \/ X.env.scope.names.lookup x8 = some .local)
 (ho : PE X (.Name x p) (Xh 2)) (ho' : PE X (.Name x p') (Xh 2))
 (a3 : (assignEach [.Name x3 p3, .Name x4 p4, .Name x5 p5, .Name x6 p6, .Name x7 p7, .Name x8 p8] X.env).map (·.2) = assign (.Name x3 p3) X.env :: (assignEach [.Name x4 p4, .Name x5 p5, .Name x6 p6, .Name x7 p7, .Name x8 p8] X.env).map (·.2))
 (a4 : (assignEach [.Name x4 p4, .Name x5 p5, .Name x6 p6, .Name x7 p7, .Name x8 p8] X.env).map (·.2) = assign (.Name x4 p4) X.env :: (assignEach [.Name x5 p5, .Name x6 p6, .Name x7 p7, .Name x8 p8] X.env).map (·.2))
 (a5 : (assignEach [.Name x5 p5, .Name x6 p6, .Name x7 p7, .Name x8 p8] X.env).map (·.2) = assign (.Name x5 p5) X.env :: (assignEach [.Name x6 p6, .Name x7 p7, .Name x8 p8] X.env).map (·.2))
 (a6 : (assignEach [.Name x6 p6, .Name x7 p7, .Name x8 p8] X.env).map (·.2) = assign (.Name x6 p6) X.env :: (assignEach [.Name x7 p7, .Name x8 p8] X.env).map (·.2))
 (a7 : (assignEach [.Name x7 p7, .Name x8 p8] X.env).map (·.2) = assign (.Name x7 p7) X.env :: (assignEach [.Name x8 p8] X.env).map (·.2))
 (a8 : (assignEach [.Name x8 p8] X.env).map (·.2) = assign (.Name x8 p8) X.env :: (assignEach [] X.env).map (·.2))
 (hn : (assignEach [.Name x3 p3, .Name x4 p4, .Name x5 p5, .Name x6 p6, .Name x7 p7, .Name x8 p8] X.env).length = 6) (hst : (assignEach [.Name x3 p3, .Name x4 p4, .Name x5 p5, .Name x6 p6, .Name x7 p7, .Name x8 p8] X.env).findIdx? (·.1) = none)
 (hs : swapsWithSole [.Tuple [.Name x3 p3, .Name x4 p4, .Name x5 p5, .Name x6 p6, .Name x7 p7, .Name x8 p8] m pt] (.Name x p) pos.line X.env = pure false) (hw : swappedStores [.Tuple [.Name x3 p3, .Name x4 p4, .Name x5 p5, .Name x6 p6, .Name x7 p7, .Name x8 p8] m pt] (.Name x p) X.env = pure none)
 (hm : (assignEach [.Tuple [.Name x3 p3, .Name x4 p4, .Name x5 p5, .Name x6 p6, .Name x7 p7, .Name x8 p8] m pt] X.env).map (·.2) = [assign (.Tuple [.Name x3 p3, .Name x4 p4, .Name x5 p5, .Name x6 p6, .Name x7 p7, .Name x8 p8] m pt) X.env])
 (hf : AP X kd 9 st1 f) (hg : AP X kd 9 st2 g) :
 ASs X kd [.Assign [.Tuple [.Name x3 p3, .Name x4 p4, .Name x5 p5, .Name x6 p6, .Name x7 p7, .Name x8 p8] m pt] (.Name x p) pos, st1, st2, .Return (some (.Name x p')) pos'] (zpB f g) := by
 with_unfolding_all exact (Vv (Xr (WM ho (zie hc (v9 (Yk hN h3 l3 f3) (v9 (Yk hN h4 l4 f4) (v9 (Yk hN h5 l5 f5) (v9 (Yk hN h6 l6 f6) (v9 (Yk hN h7 l7 f7) (v9 (Yk hN h8 l8 f8) zfF a8) a7) a6) a5) a4) a3) hn hst) hs hw hm) (Xr hf (Xr hg (zaV (zkF ho'))))) λ D σ H h => by
  obtain ⟨F, B, ad, as, o, R, e, q⟩ := h
  obtain ⟨os, e1, e⟩ := bS_ (show (slO zfA as 2).bind _ = _ from e)
  obtain ⟨o0, k0, e1⟩ := zdi e1
  have k0' := zfO e1
  subst k0'
  match os, e, k0 with
  | [.lf s0 d0, .lf s1 d1, o2, .lf s3 d3, o4, .lf s5 d5], e, k0 =>
   obtain ⟨⟨n3, n4, n5, n6, n7, n8⟩, e⟩ := ite_some' e
   obtain ⟨x1, e2, e⟩ := bS_ e
   cases x1 with
   | nx asa =>
    obtain ⟨x2, e3, e⟩ := bS_ e
    cases x2 with
    | nx asb =>
     have z3 := R.none_ad n3
     have z4 := R.none_ad n4
     have z5 := R.none_ad n5
     have z6 := R.none_ad n6
     have z7 := R.none_ad n7
     have z8 := R.none_ad n8
     have b3 := (zzE.mp (zbL n3)).1
     have b8 := (zzE.mp (zbL n8)).1
     obtain ⟨R1, v, hv, ro⟩ := R.mv k0
     have g1 : ∀ a, Gw (ad 2) (yS ad 2 []) a -> Gw [] ad a := λ a z => zfq.mp z
     generalize hT : ad 2 = T at R1 ro g1
     cases ro with
     | tp hNa hH rl =>
      rename_i a vs
      cases rl with
      | cons r0 rl =>
       cases rl with
       | cons r1 rl =>
        cases rl with
        | cons r2 rl =>
         cases rl with
         | cons r3 rl =>
          cases rl with
          | cons r4 rl =>
           cases rl with
           | cons r5 rl =>
            cases rl
            cases r0 with
            | lf r0 =>
             cases r1 with
             | lf r1 =>
                           cases r3 with
                           | lf r3 =>
                            cases r5 with
                            | lf r5 =>
                               rename_i v0 v1 v2 fA v3 v4 fB v5
                               obtain ⟨p2, e5, e⟩ := bS_ e
                               obtain ⟨p2', k5, y⟩ := zdi e5
                               cases y
                               obtain ⟨p4, e7, e⟩ := bS_ e
                               obtain ⟨p4', k7, y⟩ := zdi e7
                               cases y
                               obtain ⟨hstr, e⟩ := yc e
                               cases e
                               have lf : ∀ {st : Bool} {w : V} {d : PF.D} {G G' : Addr -> Prop}, (∀ a, G' a -> G a) -> Lf X.K kd F B G H st w d -> Lf X.K kd F B G' H st w d := λ le r => Rp.less (λ a z => z.elim .inl λ y => .inr (le a y)) r
                               have R3 := Rel.put2 (i := 3) (T1 := []) (T2 := fA ++ (fB ++ [])) (v := v0) (o := .lf s0 d0) R1 (by rw [zzS]; omega) (by rw [zA (by decide)]; exact z3) (.lf r0)
                               have c3 := λ a z => zbY (i := 3) (ad := yS ad 2 []) (T1 := []) (T2 := fA ++ (fB ++ [])) a z
                               have R4 := Rel.put2 (i := 4) (T1 := []) (T2 := fA ++ (fB ++ [])) (v := v1) (o := .lf s1 d1) R3 (by rw [zzS, zzS]; omega) (by rw [zA (by decide), zA (by decide)]; exact z4) (.lf (lf c3 r1))
                               have c4 := λ a z => c3 a (zbY (i := 4) (T1 := []) (T2 := fA ++ (fB ++ [])) a z)
                               have R5 := Rel.put2 (i := 5) (T1 := fA) (T2 := fB ++ []) (v := v2) (o := o2) R4 (by rw [zzS, zzS, zzS]; omega) (by rw [zA (by decide), zA (by decide), zA (by decide)]; exact z5) (RoS.less c4 r2)
                               have c5 := λ a z => c4 a (zbY (i := 5) (T1 := fA) (T2 := fB ++ []) a z)
                               have R6 := Rel.put2 (i := 6) (T1 := []) (T2 := fB ++ []) (v := v3) (o := .lf s3 d3) R5 (by rw [zzS, zzS, zzS, zzS]; omega) (by rw [zA (by decide), zA (by decide), zA (by decide), zA (by decide)]; exact z6) (.lf (lf c5 r3))
                               have c6 := λ a z => c5 a (zbY (i := 6) (T1 := []) (T2 := fB ++ []) a z)
                               have R7 := Rel.put2 (i := 7) (T1 := fB) (T2 := []) (v := v4) (o := o4) R6 (by rw [zzS, zzS, zzS, zzS, zzS]; omega) (by rw [zA (by decide), zA (by decide), zA (by decide), zA (by decide), zA (by decide)]; exact z7) (RoS.less c6 r4)
                               have c7 := λ a z => c6 a (zbY (i := 7) (T1 := fB) (T2 := []) a z)
                               have R8 := Rel.put2 (i := 8) (T1 := []) (T2 := []) (v := v5) (o := .lf s5 d5) R7 (by rw [zzS, zzS, zzS, zzS, zzS, zzS]; omega) (by rw [zA (by decide), zA (by decide), zA (by decide), zA (by decide), zA (by decide), zA (by decide)]; exact z8) (.lf (lf c7 r5))
                               have c8 := λ a z => c7 a (zbY (i := 8) (T1 := []) (T2 := []) a z)
                               have sl : 8 < σ.length := by rw [<- R.len]; exact b8
                               refine ⟨.ref a, hv, a, _, rfl, .inl (.inl hH), rfl, v0, _, rfl, v1, _, rfl, v2, _, rfl, v3, _, rfl, v4, _, rfl, v5, _, rfl, rfl, ?_⟩
                               refine ⟨F, B, _, _, .nx asa, R8, e2, λ σa ada Ha sa Ra ga => ⟨F, B, ada, asa, .nx asb, Ra, e3, λ σb adb Hb sb Rb gb => ?_⟩⟩
                               have gT := ga.trans gb
                               have st : ∀ b, b < 9 -> σb[b]? = _ := λ b hb => (sb b hb).trans (sa b hb)
                               have w2 := st 2 (by decide)
                               have w5 := st 5 (by decide)
                               have w7 := st 7 (by decide)
                               rw [zzW (by decide), zzW (by decide), zzW (by decide), zzW (by decide), zzW (by decide), zzW (by decide), hv] at w2
                               rw [zzW (by decide), zzW (by decide), zzW (by decide), List.getElem?_set_self (by rw [zzS, zzS]; omega)] at w5
                               rw [zzW (by decide), List.getElem?_set_self (by rw [zzS, zzS, zzS, zzS]; omega)] at w7
                               obtain ⟨Rx, x7', hx7, rx7⟩ := Rb.mvT k7
                               obtain ⟨Ry, x5', hx5, rx5⟩ := Rx.mvT (i := 5) (o := p2) (by rw [zzW (by decide)]; exact k5)
                               rw [w7] at hx7
                               cases hx7
                               rw [w5] at hx5
                               cases hx5
                               have le1 : ∀ a, Gw ((yS adb 7 []) 5 ++ (adb 7 ++ [])) (yS (yS adb 7 []) 5 []) a -> Gw (adb 7 ++ []) (yS adb 7 []) a := λ a z => zdm.mp z
                               have le2 : ∀ a, Gw ((yS adb 7 []) 5 ++ (adb 7 ++ [])) (yS (yS adb 7 []) 5 []) a -> Gw [] adb a := λ a z => zdm.mp (le1 a z)
                               have lg : ∀ {st : Bool} {w : V} {d : PF.D}, Lf X.K kd F B (Gw (fA ++ (fB ++ [])) (yS ad 2 [])) H st w d -> Lf X.K kd F B (Gw ((yS adb 7 []) 5 ++ (adb 7 ++ [])) (yS (yS adb 7 []) 5 [])) Hb st w d := λ r => Rp.less (λ a z => z.elim .inl λ y => .inr (le2 a y)) (Rp.grow gT (Rp.less (λ a z => z.elim .inl λ y => .inr (c8 a y)) r))
                               have na : ∀ a', Gw [] adb a' -> a' = a -> False := λ a' z e => by
                                subst e
                                rcases gT.own _ z with y | y
                                · exact hNa (.inr (c8 _ y))
                                · rw [y] at hH; cases hH
                               have hHa : Hb a = some (.tup [v0, v1, v2, v3, v4, v5]) := gT.keep _ _ hH λ y => hNa (.inr (c8 _ y))
                               have hNb : Nf F B (Gw ((yS adb 7 []) 5 ++ (adb 7 ++ [])) (yS (yS adb 7 []) 5 [])) a := λ z => z.elim (λ y => hNa (.inl y)) λ y => na a (le2 a y) rfl
                               have rl := RoL.cons (fp := []) (.lf (lg r0)) (RoL.cons (fp := []) (.lf (lg r1)) (RoL.cons (RoS.less le1 rx5) (RoL.cons (fp := []) (.lf (lg r3)) (RoL.cons (RoS.less le2 rx7) (RoL.cons (fp := []) (.lf (lg r5)) (RoL.nil (N := Nf F B (Gw ((yS adb 7 []) 5 ++ (adb 7 ++ [])) (yS (yS adb 7 []) 5 [])))))))))
                               have ro : RoS X.K kd F B (Gw ((yS adb 7 []) 5 ++ (adb 7 ++ [])) (yS (yS adb 7 []) 5 [])) Hb (.ref a) (.nd .tp [.lf s0 d0, .lf s1 d1, p2, .lf s3 d3, p4, .lf s5 d5]) ((yS adb 7 []) 5 ++ (adb 7 ++ [])) := Ro.tp hNb hHa rl
                               obtain ⟨T', hret, hle⟩ := Ry.ret (r := .ow (.nd .tp [.lf s0 d0, .lf s1 d1, p2, .lf s3 d3, p4, .lf s5 d5])) ro (if_pos hstr)
                               exact ⟨.ref a, w2, q _ T' Hb hret (((Grow.less λ b z => g1 b (c8 b z)).trans gT).trans (Grow.less λ b z => le2 b (hle b z)))⟩
    | _ => cases e
   | _ => cases e)
end PF
end
section
namespace G13
open PySem PySem.Spec PyProof.Rows L2 PF
def top (i : Nat) : Stmt := PySem.Challenge.pw_stretchdeeds_k13_what_fails.main.body.getD i (.Pass ⟨0, 0, 0, 0⟩)
abbrev vW : Stmt := top 1
abbrev Ww : List Str := ["algebra", "join", "nothing", "a"]
theorem vG : FnScope Ww ["algebra"] (zE vW) := ⟨rfl, rfl, rfl, by decide +kernel, rfl, by decide +kernel, by decide +kernel⟩
def Wt : SF :=
 (zF (zR true 1 (f2 (fV 0) (fC (.int 2)) ixP))
  (zF (zR true 2 (f2 (fV 0) (fC (.int 3)) ixP))
  (zF (wy (yE (aC (f2 (fV 0) (fC (.int 0)) ixP) aN) yD) (gN 3) (sIf (Wz (fT (f2 (f2 (f2 (fV 1) (fV 2) ixP) (fV 3) ixP) (fV 3) (zW .NotEq))) (fT (f2 (f2 (f2 (fV 1) (fV 3) ixP) (fV 2) ixP) (fV 3) (zW .NotEq)))) (yL (yZ (dC (fC (.str "nothing")) (dC (fV 3) dN)))) sNx))
  (yL (fC .non)))))
def vg : Fn := fnR 4 1 Wt
abbrev vU : Stmt := top 2
abbrev Wx : List Str := ["algebra", "n", "join", "a", "b", "c"]
theorem wu : FnScope Wx ["algebra"] (zE vU) := ⟨rfl, rfl, rfl, by decide +kernel, rfl, by decide +kernel, by decide +kernel⟩
def Ws : SF :=
 (zF (zR true 1 (f2 (fV 0) (fC (.int 0)) ixP))
  (zF (zR true 2 (f2 (fV 0) (fC (.int 2)) ixP))
  (zF (wy (yE (aC (fV 1) aN) yD) (gN 3) (wy (yE (aC (fV 1) aN) yD) (gN 4) (wy (yE (aC (fV 1) aN) yD) (gN 5) (sIf (fT (f2 (f2 (f2 (fV 2) (f2 (f2 (fV 2) (fV 3) ixP) (fV 4) ixP) ixP) (fV 5) ixP) (f2 (f2 (fV 2) (fV 3) ixP) (f2 (f2 (fV 2) (fV 4) ixP) (fV 5) ixP) ixP) (zW .NotEq))) (yL (yZ (dC (fC (.str "parting")) (dC (fV 3) (dC (fV 4) (dC (fV 5) dN)))))) sNx))))
  (yL (fC .non)))))
def wZ : Fn := fnR 6 1 Ws
abbrev Zx : Stmt := top 3
abbrev V8 : List Str := ["algebra", "name", "rows", "n", "m", "join", "a", "i", "b", "j"]
theorem xQ : FnScope V8 ["algebra", "name", "rows"] (zE Zx) := ⟨rfl, rfl, rfl, by decide +kernel, rfl, by decide +kernel, by decide +kernel⟩
def V5 : SF :=
 (zF (zR true 3 (f2 (fV 0) (fC (.int 0)) ixP))
  (zF (zR true 4 (f2 (fV 0) (fC (.int 1)) ixP))
  (zF (zR true 5 (f2 (fV 0) (fC (.int 2)) ixP))
  (zF (wy (yE (aC (fV 3) aN) yD) (gN 6) (wy (yE (aC (fV 4) aN) yD) (gN 7) (wy (yE (aC (fV 3) aN) yD) (gN 8) (wy (yE (aC (fV 4) aN) yD) (gN 9) (sIf (fT (f2 (f2 (f2 (fV 2) (f2 (f2 (fV 7) (fV 9) (zm .Add)) (fV 4) (zm .Mod)) ixP) (f2 (f2 (fV 5) (fV 6) ixP) (fV 8) ixP) ixP) (f2 (f2 (fV 5) (f2 (f2 (fV 2) (fV 7) ixP) (fV 6) ixP) ixP) (f2 (f2 (fV 2) (fV 9) ixP) (fV 8) ixP) ixP) (zW .NotEq))) (yL (yZ (dC (fC (.str "doing")) (dC (fV 1) (dC (fV 6) (dC (fV 7) (dC (fV 8) (dC (fV 9) dN)))))))) sNx)))))
  (yL (fC .non))))))
def vh : Fn := fnR 10 3 V5
abbrev Yl : Stmt := top 4
abbrev zbu : List Str := ["algebra", "nothing", "name", "rows", "fault"]
theorem vO : FnScope zbu ["algebra"] (zE Yl) := ⟨rfl, rfl, rfl, by decide +kernel, rfl, by decide +kernel, by decide +kernel⟩
def zbo : SF :=
 (zF (zR true 1 (f2 (fV 0) (fC (.int 3)) ixP))
  (zF (wy (zfz (f2 (fV 0) (fC (.int 4)) ixP)) (gT 2 (gsC (gN 2) (gsC (gN 3) gsN))) (zF (sIf (fT (f2 (f2 (f2 (fV 3) (fC (.int 0)) ixP) (fV 1) ixP) (fV 1) (zW .NotEq))) (yL (yZ (dC (fC (.str "empty")) (dC (fV 2) dN)))) sNx)
  (zF (zR true 4 (zQ (aC (fV 0) (aC (fV 2) (aC (fV 3) aN))) vh))
  (sIf (fT (f2 (fV 4) (fC .non) (zW .IsNot))) (yL (fV 4)) sNx))))
  (yL (fC .non))))
def Ze : Fn := fnR 5 1 zbo
abbrev Yj : Stmt := top 5
abbrev zba : List Str := ["algebra", "fault"]
theorem ZD : FnScope zba ["algebra"] (zE Yj) := ⟨rfl, rfl, rfl, by decide +kernel, rfl, by decide +kernel, by decide +kernel⟩
def zbk : SF :=
 (zF (zR true 1 (zQ (aC (fV 0) aN) vg))
  (zF (sIf (fT (f2 (fV 1) (fC .non) (zW .Is))) (zR true 1 (zQ (aC (fV 0) aN) wZ)) sNx)
  (zF (sIf (fT (f2 (fV 1) (fC .non) (zW .Is))) (zR true 1 (zQ (aC (fV 0) aN) Ze)) sNx)
  (yL (fV 1)))))
def xZ : Fn := fnR 2 1 zbk
abbrev ZJ : Stmt := top 7
abbrev zae : List Str := ["_law_script", "_law_k"]
theorem zec : FnScope zae ["_law_script", "_law_k"] (zE ZJ) := ⟨rfl, rfl, rfl, by decide +kernel, rfl, by decide +kernel, by decide +kernel⟩
def VP : SF :=
 (zF (sIf (fT (f2 (fV 1) (fP (aC (fV 0) aN) zcG) (zW .Lt))) (yL (f2 (fV 0) (fV 1) ixP)) sNx)
  (yL (fC (.int 0))))
def zV : Fn := fnR 2 2 VP
abbrev YZ : Stmt := top 8
abbrev zcx : List Str := ["_law_found"]
theorem zfE : FnScope zcx ["_law_found"] (zE YZ) := ⟨rfl, rfl, rfl, by decide +kernel, rfl, by decide +kernel, by decide +kernel⟩
def zch : SF :=
 (yL (zmx (zbF (fV 0) "int") (zma (zbF (fV 0) "bool"))))
def vo : Fn := fnR 1 1 zch
abbrev Yg : Stmt := top 9
abbrev zaR : List Str := ["_law_cell", "_law_many", "_law_found", "_law_number", "_law_k"]
theorem vP : FnScope zaR ["_law_cell", "_law_many"] (zE Yg) := ⟨rfl, rfl, rfl, by decide +kernel, rfl, by decide +kernel, by decide +kernel⟩
def zaW : SF :=
 (zF (zR false 2 (xG dN))
  (zF (zR true 3 (f2 (f2 (fV 0) (fC (.int 2147483647)) (zm .Mod)) (fC (.int 48271)) (zm .Add)))
  (zF (wy (yE (aC (f2 (fV 1) (fC (.int 1)) (zm .Add)) aN) yD) (gN 4) (zF (zR true 3 (f2 (f2 (f2 (f2 (fV 3) (fV 3) (zm .Mult)) (f2 (fC (.int 48271)) (fV 3) (zm .Mult)) (zm .Add)) (fV 4) (zm .Add)) (fC (.int 2147483647)) (zm .Mod)))
  (xN (wU 2 (dC (f2 (f2 (f2 (fV 3) (fC (.int 40692)) (zm .Mult)) (f2 (fC (.int 7)) (fV 4) (zm .Mult)) (zm .Add)) (fC (.int 2147483399)) (zm .Mod)) dN) wO))))
  (yL (fSl (fV 2) (oS (fC (.int 1))) oN slP)))))
def yg : Fn := fnR 5 2 zaW
abbrev ZL : Stmt := top 10
abbrev Vc : List Str := ["_law_cell", "_law_many", "_law_letters", "_law_xs", "_law_base", "_law_at", "_law_found", "_law_k"]
theorem wX : FnScope Vc ["_law_cell", "_law_many"] (zE ZL) := ⟨rfl, rfl, rfl, by decide +kernel, rfl, by decide +kernel, by decide +kernel⟩
theorem zet : (["_law_x", "_law_letters"] : List Str).Nodup := by decide +kernel
def zcD : SF :=
 (zF (zR true 2 (fC (.str "abcdefghijklmnopqrstuvwxyz")))
  (zF (zR true 3 (zQ (aC (fV 0) (aC (fC (.int 9)) aN)) yg))
  (zF (zR true 4 (Wu .str (fC (.str "")) (aC (zZ (Y8 (fSl (fV 3) oN (oS (f2 (fC (.int 1)) (f2 (fV 0) (fC (.int 8)) (zm .Mod)) (zm .Add))) slP)) [none, some 2] (gN 0) yP (f2 (fV 1) (f2 (fV 0) (fC (.int 26)) (zm .Mod)) ixP)) aN) zjf))
  (zF (zR true 5 (f2 (f2 (fV 0) (fC (.int 8)) (zm .FloorDiv)) (fP (aC (fV 4) aN) zcG) (zm .Mod)))
  (zF (zR false 6 (xG dN))
  (zF (wy (yE (aC (fV 1) aN) yD) (gN 7) (xN (wU 6 (dC (f2 (f2 (fSl (fV 4) oN (oS (fV 5)) slS) (f2 (fV 2) (f2 (f2 (f2 (fV 3) (fC (.int 8)) ixP) (f2 (fC (.int 3)) (fV 7) (zm .Mult)) (zm .Add)) (fC (.int 26)) (zm .Mod)) ixP) (zm .Add)) (fSl (fV 4) (oS (f2 (fV 5) (fC (.int 1)) (zm .Add))) oN slS) (zm .Add)) dN) wO)))
  (yL (fV 6))))))))
def ZX : Fn := fnR 8 2 zcD
abbrev ZK : Stmt := top 11
abbrev zaa : List Str := ["_law_one", "_law_other"]
theorem Vq : FnScope zaa ["_law_one", "_law_other"] (zE ZK) := ⟨rfl, rfl, rfl, by decide +kernel, rfl, by decide +kernel, by decide +kernel⟩
def V6 : SF :=
 (zF (whL (fT (f2 (fV 1) (fC (.int 0)) (zW .Gt))) (zlo 0 1 (dC (fV 1) (dC (f2 (fV 0) (fV 1) (zm .Mod)) dN))) 10000)
  (yL (fV 0)))
def vR : Fn := fnR 2 2 V6
abbrev YH : Stmt := top 12
abbrev zat : List Str := ["_law_n", "_law_m", "_law_xs", "_law_step", "_law_rows_here", "_law_c"]
theorem YL : FnScope zat ["_law_n", "_law_m", "_law_xs"] (zE YH) := ⟨rfl, rfl, rfl, by decide +kernel, rfl, by decide +kernel, by decide +kernel⟩
theorem zeL : (["_law_a", "_law_n", "_law_xs", "_law_c", "_law_step"] : List Str).Nodup := by decide +kernel
def zdw : SF :=
 (zF (zR true 3 (f2 (fV 0) (zQ (aC (fV 0) (aC (fV 1) aN)) vR) (zm .FloorDiv)))
  (zF (zR false 4 (xG dN))
  (zF (wy (yE (aC (fV 1) aN) yD) (gN 5) (xN (wU 4 (dC (zZ (yE (aC (fV 0) aN) yD) [none, some 0, some 2, some 5, some 3] (gN 0) yP (f2 (f2 (f2 (fV 0) (f2 (fV 2) (fC (.int 0)) ixP) (zm .Mult)) (f2 (f2 (fV 3) (fV 4) (zm .Mult)) (f2 (fV 2) (fC (.int 1)) ixP) (zm .Mult)) (zm .Add)) (fV 1) (zm .Mod))) dN) wO)))
  (yL (fV 4)))))
def Yq : Fn := fnR 6 3 zdw
abbrev vB : Stmt := top 13
abbrev Ym : List Str := ["_law_n", "_law_m", "_law_xs", "_law_row"]
theorem V2 : FnScope Ym ["_law_n", "_law_m", "_law_xs"] (zE vB) := ⟨rfl, rfl, rfl, by decide +kernel, rfl, by decide +kernel, by decide +kernel⟩
theorem zcM : (["_law_k", "_law_n", "_law_xs"] : List Str).Nodup := by decide +kernel
theorem zcF : (["_law_c", "_law_row"] : List Str).Nodup := by decide +kernel
def zbc : SF :=
 (zF (zR false 3 (fP (aC (f2 (xG (dC (fC (.int 0)) dN)) (zZ (yE (aC (f2 (fV 0) (fC (.int 1)) (zm .Sub)) aN) yD) [none, some 0, some 2] (gN 0) yP (f2 (f2 (fV 2) (fV 0) ixP) (fV 1) (zm .Mod))) (zm .Add)) aN) zls))
  (zF (zkQ 3 (xC 0) (xC 0))
  (yL (zZ (yE (aC (fV 1) aN) yD) [none, some 3] (gN 0) yP (fP (aC (fV 1) aN) lstP)))))
def Zc : Fn := fnR 4 3 zbc
abbrev Zr : Stmt := top 14
abbrev Wj : List Str := ["_law_n", "_law_m", "_law_xs", "_law_row"]
theorem zcC : FnScope Wj ["_law_n", "_law_m", "_law_xs"] (zE Zr) := ⟨rfl, rfl, rfl, by decide +kernel, rfl, by decide +kernel, by decide +kernel⟩
theorem zeF : (["_law_k", "_law_xs", "_law_n"] : List Str).Nodup := by decide +kernel
theorem zeQ : (["_law_c", "_law_row"] : List Str).Nodup := by decide +kernel
def zel : SF :=
 (zF (zR true 3 (f2 (xG (dC (fC (.int 0)) dN)) (zZ (yE (aC (f2 (fV 0) (fC (.int 1)) (zm .Sub)) aN) yD) [none, some 2, some 0] (gN 0) yP (f2 (fC (.int 1)) (f2 (f2 (fV 1) (fV 0) ixP) (f2 (fV 2) (fC (.int 1)) (zm .Sub)) (zm .Mod)) (zm .Add))) (zm .Add)))
  (yL (zZ (yE (aC (fV 1) aN) yD) [none, some 3] (gN 0) yP (fP (aC (fV 1) aN) lstP))))
def Yu : Fn := fnR 4 3 zel
abbrev wJ : Stmt := top 15
abbrev vz : List Str := ["_law_kind", "_law_n", "_law_maps"]
theorem zaM : FnScope vz ["_law_kind", "_law_n"] (zE wJ) := ⟨rfl, rfl, rfl, by decide +kernel, rfl, by decide +kernel, by decide +kernel⟩
theorem zdL : (["_law_a", "_law_n"] : List Str).Nodup := by decide +kernel
theorem zed : (["_law_b", "_law_n", "_law_a"] : List Str).Nodup := by decide +kernel
theorem zdx : (["_law_a", "_law_n"] : List Str).Nodup := by decide +kernel
theorem zdB : (["_law_b", "_law_a"] : List Str).Nodup := by decide +kernel
theorem zdN : (["_law_a", "_law_n"] : List Str).Nodup := by decide +kernel
theorem zds : (["_law_b", "_law_a"] : List Str).Nodup := by decide +kernel
theorem zeo : (["_law_a", "_law_n"] : List Str).Nodup := by decide +kernel
theorem zdh : (["_law_b", "_law_a"] : List Str).Nodup := by decide +kernel
theorem zdT : (["_law_one", "_law_maps"] : List Str).Nodup := by decide +kernel
theorem zcL : (["_law_two", "_law_maps", "_law_one"] : List Str).Nodup := by decide +kernel
def zcm : SF :=
 (zF (sIf (fT (f2 (fV 0) (fC (.int 0)) (zW .Eq))) (yL (zZ (yE (aC (fV 1) aN) yD) [none, some 1] (gN 0) yP (zZ (yE (aC (fV 1) aN) yD) [none, some 1, some 0] (gN 0) yP (f2 (f2 (fV 2) (fV 0) (zm .Add)) (fV 1) (zm .Mod))))) sNx)
  (zF (sIf (fT (f2 (fV 0) (fC (.int 1)) (zW .Eq))) (yL (zZ (yE (aC (fV 1) aN) yD) [none, some 1] (gN 0) yP (zZ (yE (aC (fV 1) aN) yD) [none, some 0] (gN 0) yP (fP (aC (fV 1) (aC (fV 0) aN)) znP)))) sNx)
  (zF (sIf (fT (f2 (fV 0) (fC (.int 2)) (zW .Eq))) (yL (zZ (yE (aC (fV 1) aN) yD) [none, some 1] (gN 0) yP (zZ (yE (aC (fV 1) aN) yD) [none, some 0] (gN 0) yP (f2 (xG (dC (fV 0) (dC (fV 1) dN))) (fP (aC (f2 (fV 0) (fC (.int 0)) (zW .Eq)) aN) zdu) ixP)))) sNx)
  (zF (sIf (fT (f2 (fV 0) (fC (.int 3)) (zW .Eq))) (yL (zZ (yE (aC (fV 1) aN) yD) [none, some 1] (gN 0) yP (zZ (yE (aC (fV 1) aN) yD) [none, some 0] (gN 0) yP (f2 (xG (dC (fV 1) (dC (fV 0) dN))) (fP (aC (f2 (fV 1) (fC (.int 0)) (zW .Eq)) aN) zdu) ixP)))) sNx)
  (zF (zR true 2 (xG (dC (yZ (dC (fC (.int 0)) (dC (fC (.int 1)) dN))) (dC (yZ (dC (fC (.int 1)) (dC (fC (.int 0)) dN))) (dC (yZ (dC (fC (.int 0)) (dC (fC (.int 0)) dN))) (dC (yZ (dC (fC (.int 1)) (dC (fC (.int 1)) dN))) dN))))))
  (yL (zZ (Y8 (fV 2)) [none, some 2] (gN 0) yP (zZ (Y8 (fV 1)) [none, some 1, some 0] (gN 0) yP (Wu .lst (fV 1) (aC (yZ (dC (f2 (fV 0) (f2 (fV 2) (fC (.int 0)) ixP) ixP) (dC (f2 (fV 0) (f2 (fV 2) (fC (.int 1)) ixP) ixP) dN))) aN) W7)))))))))
def v7 : Fn := fnR 3 2 zcm
abbrev YF : Stmt := top 16
abbrev zaw : List Str := ["_law_kind", "_law_n", "_law_m", "_law_xs"]
theorem zgG : FnScope zaw ["_law_kind", "_law_n", "_law_m", "_law_xs"] (zE YF) := ⟨rfl, rfl, rfl, by decide +kernel, rfl, by decide +kernel, by decide +kernel⟩
theorem zeG : (["_law_c", "_law_xs"] : List Str).Nodup := by decide +kernel
def zej : SF :=
 (zF (sIf (fT (f2 (fV 0) (fC (.int 0)) (zW .Eq))) (yL (zQ (aC (fV 1) (aC (fV 2) (aC (fV 3) aN))) Yq)) sNx)
  (zF (sIf (fT (f2 (fV 0) (fC (.int 1)) (zW .Eq))) (yL (zQ (aC (fV 1) (aC (fV 2) (aC (fV 3) aN))) Zc)) sNx)
  (zF (sIf (fT (f2 (fV 0) (fC (.int 4)) (zW .Lt))) (yL (zQ (aC (fV 1) (aC (fV 2) (aC (fV 3) aN))) Yu)) sNx)
  (yL (zZ (yE (aC (fV 2) aN) yD) [none, some 3] (gN 0) yP (f2 (xG (dC (xG (dC (fC (.int 0)) (dC (fC (.int 1)) (dC (fC (.int 2)) (dC (fC (.int 3)) dN))))) (dC (xG (dC (fC (.int 0)) (dC (fC (.int 1)) (dC (fC (.int 3)) (dC (fC (.int 2)) dN))))) dN))) (f2 (f2 (fV 1) (fC (.int 0)) ixP) (fC (.int 2)) (zm .Mod)) ixP))))))
def Zo : Fn := fnR 4 4 zej
abbrev ZV : Stmt := top 17
abbrev Va : List Str := ["_law_kind", "_law_n", "_law_m", "_law_many", "_law_cell", "_law_rows_here"]
theorem zaS : FnScope Va ["_law_kind", "_law_n", "_law_m", "_law_many", "_law_cell"] (zE ZV) := ⟨rfl, rfl, rfl, by decide +kernel, rfl, by decide +kernel, by decide +kernel⟩
theorem zes : (["_law_k", "_law_kind", "_law_n", "_law_m", "_law_cell"] : List Str).Nodup := by decide +kernel
def zck : SF :=
 (zF (zR true 5 (zZ (yE (aC (fV 3) aN) yD) [none, some 0, some 1, some 2, some 4] (gN 0) yP (zQ (aC (fV 1) (aC (fV 2) (aC (fV 3) (aC (zQ (aC (f2 (fV 4) (f2 (fC (.int 31)) (fV 0) (zm .Mult)) (zm .Add)) (aC (fC (.int 9)) aN)) yg) aN)))) Zo)))
  (yL (yZ (dC (fV 1) (dC (zQ (aC (fV 0) (aC (fV 1) aN)) v7) (dC (fV 5) dN))))))
def wk : Fn := fnR 6 5 zck
abbrev Zd : Stmt := top 18
abbrev XH : List Str := ["_law_one", "_law_other", "_law_m", "_law_n", "_law_by", "_law_join", "_law_p", "_law_here", "_law_there", "_law_deeds", "_law_rows_here", "_law_c", "_law_made_here", "_law_ahead"]
theorem yz : FnScope XH ["_law_one", "_law_other", "_law_m"] (zE Zd) := ⟨rfl, rfl, rfl, by decide +kernel, rfl, by decide +kernel, by decide +kernel⟩
theorem zcO : (["_law_q", "_law_by", "_law_there", "_law_here"] : List Str).Nodup := by decide +kernel
def zbt : SF :=
 (zF (zR true 3 (f2 (f2 (fV 0) (fC (.int 0)) ixP) (f2 (fV 1) (fC (.int 0)) ixP) (zm .Mult)))
  (zF (zR true 4 (f2 (fV 1) (fC (.int 0)) ixP))
  (zF (zR false 5 (xG dN))
  (zF (wy (yE (aC (fV 3) aN) yD) (gN 6) (zF (zR true 7 (f2 (f2 (fV 0) (fC (.int 1)) ixP) (f2 (fV 6) (fV 4) (zm .FloorDiv)) ixP))
  (zF (zR true 8 (f2 (f2 (fV 1) (fC (.int 1)) ixP) (f2 (fV 6) (fV 4) (zm .Mod)) ixP))
  (xN (wU 5 (dC (zZ (yE (aC (fV 3) aN) yD) [none, some 4, some 8, some 7] (gN 0) yP (f2 (f2 (f2 (fV 3) (f2 (fV 0) (fV 1) (zm .FloorDiv)) ixP) (fV 1) (zm .Mult)) (f2 (fV 2) (f2 (fV 0) (fV 1) (zm .Mod)) ixP) (zm .Add))) dN) wO)))))
  (zF (zR false 9 (xG dN))
  (zF (wy (zjD (aC (f2 (fV 0) (fC (.int 2)) ixP) (aC (f2 (fV 1) (fC (.int 2)) ixP) aN))) (gT 2 (gsC (gN 7) (gsC (gN 8) gsN))) (zF (zR false 10 (xG dN))
  (zF (wy (yE (aC (fV 2) aN) yD) (gN 11) (zF (zR false 12 (xG dN))
  (zF (wy (yE (aC (fV 3) aN) yD) (gN 6) (zF (zR true 13 (f2 (f2 (f2 (fV 7) (fV 11) ixP) (f2 (fV 6) (fV 4) (zm .FloorDiv)) ixP) (fV 4) (zm .Mult)))
  (xN (wU 12 (dC (f2 (fV 13) (f2 (f2 (fV 8) (fV 11) ixP) (f2 (fV 6) (fV 4) (zm .Mod)) ixP) (zm .Add)) dN) wO))))
  (xN (wU 10 (dC (fV 12) dN) wO)))))
  (xN (wU 9 (dC (fV 10) dN) wO)))))
  (yL (yZ (dC (fV 3) (dC (fV 5) (dC (fV 9) dN)))))))))))
def Zm : Fn := fnR 14 3 zbt
abbrev XS : Stmt := top 19
abbrev zdk : List Str := ["_law_cell", "_law_m", "_law_many", "_law_xs", "_law_kind", "_law_sizes", "_law_one", "_law_n"]
theorem wV : FnScope zdk ["_law_cell", "_law_m", "_law_many"] (zE XS) := ⟨rfl, rfl, rfl, by decide +kernel, rfl, by decide +kernel, by decide +kernel⟩
def zdW : SF :=
 (zF (zR true 3 (zQ (aC (fV 0) (aC (fC (.int 5)) aN)) yg))
  (zF (zR true 4 (f2 (f2 (fV 3) (fC (.int 0)) ixP) (fC (.int 7)) (zm .Mod)))
  (zF (sIf (fT (f2 (fV 4) (fC (.int 4)) (zW .Gt))) (zF (zR true 5 (f2 (xG (dC (yZ (dC (fC (.int 2)) (dC (fC (.int 2)) dN))) (dC (yZ (dC (fC (.int 3)) (dC (fC (.int 2)) dN))) (dC (yZ (dC (fC (.int 2)) (dC (fC (.int 3)) dN))) (dC (yZ (dC (fC (.int 4)) (dC (fC (.int 2)) dN))) (dC (yZ (dC (fC (.int 2)) (dC (fC (.int 4)) dN))) (dC (yZ (dC (fC (.int 2)) (dC (fC (.int 2)) dN))) dN))))))) (f2 (f2 (fV 3) (fC (.int 1)) ixP) (fC (.int 6)) (zm .Mod)) ixP))
  (zF (zR true 6 (zQ (aC (f2 (f2 (fV 3) (fC (.int 2)) ixP) (fC (.int 4)) (zm .Mod)) (aC (f2 (fV 5) (fC (.int 0)) ixP) (aC (fV 1) (aC (fV 2) (aC (f2 (fV 3) (fC (.int 3)) ixP) aN))))) wk))
  (yL (zQ (aC (fV 6) (aC (zQ (aC (f2 (f2 (fV 3) (fC (.int 4)) ixP) (fC (.int 4)) (zm .Mod)) (aC (f2 (fV 5) (fC (.int 1)) ixP) (aC (fV 1) (aC (fV 2) (aC (f2 (f2 (fV 3) (fC (.int 3)) ixP) (fC (.int 7)) (zm .Add)) aN))))) wk) (aC (fV 1) aN))) Zm)))) sNx)
  (zF (zR true 7 (f2 (xG (dC (fC (.int 2)) (dC (fC (.int 3)) (dC (fC (.int 4)) (dC (fC (.int 5)) (dC (fC (.int 3)) (dC (fC (.int 4)) (dC (fC (.int 6)) (dC (fC (.int 8)) dN))))))))) (f2 (f2 (fV 3) (fC (.int 1)) ixP) (fC (.int 8)) (zm .Mod)) ixP))
  (zF (sIf (YJ (fT (f2 (fV 4) (fC (.int 0)) (zW .Eq))) (fT (f2 (f2 (f2 (fV 3) (fC (.int 2)) ixP) (fC (.int 9)) (zm .Mod)) (fC (.int 0)) (zW .Eq)))) (zR true 7 (fC (.int 1))) sNx)
  (zF (sIf (fT (f2 (fV 4) (fC (.int 4)) (zW .Eq))) (zR true 7 (fC (.int 4))) sNx)
  (yL (zQ (aC (fV 4) (aC (fV 7) (aC (fV 1) (aC (fV 2) (aC (f2 (fV 3) (fC (.int 3)) ixP) aN))))) wk))))))))
def Yv : Fn := fnR 8 3 zdW
abbrev YM : Stmt := top 20
abbrev zcB : List Str := ["_law_cell", "_law_n", "_law_left", "_law_found", "_law_x"]
theorem Z9 : FnScope zcB ["_law_cell", "_law_n"] (zE YM) := ⟨rfl, rfl, rfl, by decide +kernel, rfl, by decide +kernel, by decide +kernel⟩
def zcj : SF :=
 (zF (zR false 2 (fP (aC (fV 1) aN) lrP))
  (zF (zR false 3 (xG dN))
  (zF (wy (zfz (zQ (aC (fV 0) (aC (fV 1) aN)) yg)) (gN 4) (xN (wU 3 (dC (wU 2 (dC (f2 (fV 4) (fP (aC (fV 2) aN) zcG) (zm .Mod)) dN) WP) dN) wO)))
  (yL (fV 3)))))
def ZQ : Fn := fnR 5 2 zcj
abbrev ZR : Stmt := top 21
abbrev WK : List Str := ["_law_cell", "_law_n", "_law_names_here", "_law_signs_here", "_law_x", "_law_name"]
theorem Yc : FnScope WK ["_law_cell", "_law_n", "_law_names_here"] (zE ZR) := ⟨rfl, rfl, rfl, by decide +kernel, rfl, by decide +kernel, by decide +kernel⟩
theorem zef : (["_law_v", "_law_x"] : List Str).Nodup := by decide +kernel
def zco : SF :=
 (zF (zR false 3 (xG dN))
  (zF (wy (zjD (aC (zQ (aC (fV 0) (aC (fP (aC (fV 2) aN) zcG) aN)) yg) (aC (fV 2) aN))) (gT 2 (gsC (gN 4) (gsC (gN 5) gsN))) (xN (wU 3 (dC (yZ (dC (fV 5) (dC (zZ (yE (aC (fV 1) aN) yD) [none, some 4] (gN 0) (fT (f2 (f2 (f2 (fV 1) (f2 (xG (dC (fC (.int 1)) (dC (fC (.int 2)) (dC (fC (.int 4)) (dC (fC (.int 8)) (dC (fC (.int 16)) (dC (fC (.int 32)) (dC (fC (.int 64)) (dC (fC (.int 128)) dN))))))))) (fV 0) ixP) (zm .FloorDiv)) (fC (.int 2)) (zm .Mod)) (fC (.int 1)) (zW .Eq))) (fV 0)) dN))) dN) wO)))
  (yL (fV 3))))
def v6 : Fn := fnR 6 3 zco
abbrev wM : Stmt := top 22
abbrev vN : List Str := ["_law_cell", "_law_other", "_law_ys", "_law_m", "_law_many", "_law_n", "_law_join", "_law_deeds", "_law_order_here", "_law_back", "_law_joins_here", "_law_names_here", "_law_told_here", "_law_name", "_law_rows_here", "_law_signs_here"]
theorem yd : FnScope vN ["_law_cell", "_law_other"] (zE wM) := ⟨rfl, rfl, rfl, by decide +kernel, rfl, by decide +kernel, by decide +kernel⟩
theorem zbA : (["_law_v", "_law_order_here"] : List Str).Nodup := by decide +kernel
theorem zby : (["_law_a", "_law_order_here", "_law_n", "_law_join", "_law_back"] : List Str).Nodup := by decide +kernel
theorem zbT : (["_law_b", "_law_order_here", "_law_join", "_law_back", "_law_a"] : List Str).Nodup := by decide +kernel
theorem zbX : (["_law_row", "_law_order_here", "_law_n", "_law_back"] : List Str).Nodup := by decide +kernel
theorem zbE : (["_law_a", "_law_order_here", "_law_row", "_law_back"] : List Str).Nodup := by decide +kernel
def VR : SF :=
 (zF (zR true 2 (zQ (aC (fV 1) (aC (fC (.int 6)) aN)) yg))
  (zF (zR true 3 (f2 (fC (.int 1)) (f2 (f2 (fV 2) (fC (.int 0)) ixP) (fC (.int 6)) (zm .Mod)) (zm .Add)))
  (zF (sIf (fT (f2 (f2 (f2 (f2 (fV 2) (fC (.int 0)) ixP) (fC (.int 6)) (zm .FloorDiv)) (fC (.int 2)) (zm .Mod)) (fC (.int 0)) (zW .Eq))) (zR true 3 (f2 (fC (.int 1)) (f2 (f2 (f2 (fV 2) (fC (.int 0)) ixP) (fC (.int 12)) (zm .FloorDiv)) (fC (.int 3)) (zm .Mod)) (zm .Add))) sNx)
  (zF (zR true 4 (f2 (xG (dC (fC (.int 1)) (dC (fC (.int 2)) (dC (fC (.int 0)) (dC (fC (.int 4)) (dC (fC (.int 3)) (dC (fC (.int 2)) (dC (fC (.int 6)) (dC (fC (.int 5)) dN))))))))) (f2 (f2 (fV 2) (fC (.int 1)) ixP) (fC (.int 8)) (zm .Mod)) ixP))
  (zF (sIf (fT (f2 (fV 4) (fC (.int 3)) (zW .Gt))) (zR true 3 (f2 (fC (.int 1)) (f2 (fV 3) (fC (.int 2)) (zm .Mod)) (zm .Add))) sNx)
  (zF (zcJ (zQ (aC (fV 0) (aC (fV 3) (aC (fV 4) aN))) Yv) (gT 3 (gsC (gN 5) (gsC (gN 6) (gsC (gN 7) gsN)))))
  (zF (zR true 8 (zQ (aC (f2 (fV 2) (fC (.int 2)) ixP) (aC (fV 5) aN)) ZQ))
  (zF (zR true 9 (zZ (yE (aC (fV 5) aN) yD) [none, some 8] (gN 0) yP (Wu .lst (fV 1) (aC (fV 0) aN) W7)))
  (zF (zR true 10 (zZ (yE (aC (fV 5) aN) yD) [none, some 8, some 5, some 6, some 9] (gN 0) yP (zZ (yE (aC (fV 2) aN) yD) [none, some 1, some 3, some 4, some 0] (gN 0) yP (f2 (fV 1) (f2 (f2 (fV 2) (f2 (fV 3) (fV 4) ixP) ixP) (f2 (fV 3) (fV 0) ixP) ixP) ixP))))
  (zF (zR true 11 (zQ (aC (f2 (fV 2) (fC (.int 3)) ixP) (aC (fC (.int 10)) aN)) ZX))
  (zF (zR false 12 (xG dN))
  (zF (wy (zjD (aC (fSl (fV 11) oN (oS (fC (.int 6))) slP) (aC (fV 7) aN))) (gT 2 (gsC (gN 13) (gsC (gN 14) gsN))) (xN (wU 12 (dC (yZ (dC (fV 13) (dC (zZ (Y8 (fV 14)) [none, some 8, some 5, some 9] (gN 0) yP (zZ (yE (aC (fV 2) aN) yD) [none, some 1, some 0, some 3] (gN 0) yP (f2 (fV 1) (f2 (fV 2) (f2 (fV 3) (fV 0) ixP) ixP) ixP))) dN))) dN) wO)))
  (zF (zR true 15 (zQ (aC (f2 (fV 2) (fC (.int 4)) ixP) (aC (fV 5) (aC (fSl (fV 11) (oS (fC (.int 6))) (oS (f2 (fC (.int 6)) (f2 (xG (dC (fC (.int 1)) (dC (fC (.int 2)) (dC (fC (.int 1)) (dC (fC (.int 4)) (dC (fC (.int 0)) (dC (fC (.int 2)) (dC (fC (.int 3)) (dC (fC (.int 1)) dN))))))))) (f2 (f2 (fV 2) (fC (.int 5)) ixP) (fC (.int 8)) (zm .Mod)) ixP) (zm .Add))) slP) aN))) v6))
  (yL (yZ (dC (fV 5) (dC (fV 3) (dC (fV 10) (dC (f2 (fV 8) (fC (.int 0)) ixP) (dC (fV 12) (dC (fV 15) dN)))))))))))))))))))))
def xf : Fn := fnR 16 2 VR
abbrev Zt : Stmt := top 23
abbrev Xz : List Str := ["_law_algebra_here", "_law_cell", "_law_n", "_law_m", "_law_join", "_law_nothing", "_law_deeds", "_law_signs_here", "_law_xs", "_law_joins_here", "_law_told_here", "_law_way", "_law_rows_here"]
theorem yX : FnScope Xz ["_law_algebra_here", "_law_cell"] (zE Zt) := ⟨rfl, rfl, rfl, by decide +kernel, rfl, by decide +kernel, by decide +kernel⟩
theorem zeK : (["_law_row"] : List Str).Nodup := by decide +kernel
theorem zab : (["_law_name", "_law_rows_here"] : List Str).Nodup := by decide +kernel
theorem zeN : (["_law_row"] : List Str).Nodup := by decide +kernel
def zem : SF :=
 (zF (zcJ (fV 0) (gT 6 (gsC (gN 2) (gsC (gN 3) (gsC (gN 4) (gsC (gN 5) (gsC (gN 6) (gsC (gN 7) gsN))))))))
  (zF (zR true 8 (zQ (aC (fV 1) (aC (fC (.int 8)) aN)) yg))
  (zF (zR false 9 (zZ (Y8 (fV 4)) [none] (gN 0) yP (fP (aC (fV 0) aN) lstP)))
  (zF (zR false 10 (zZ (Y8 (fV 6)) [none, none] (gT 2 (gsC (gN 0) (gsC (gN 1) gsN))) yP (yZ (dC (fV 0) (dC (zZ (Y8 (fV 1)) [none] (gN 0) yP (fP (aC (fV 0) aN) lstP)) dN)))))
  (zF (zR true 11 (f2 (f2 (fV 8) (fC (.int 0)) ixP) (fC (.int 6)) (zm .Mod)))
  (zF (sIf (fT (f2 (fV 11) (fC (.int 0)) (zW .Eq))) (zR true 5 (f2 (f2 (fV 8) (fC (.int 1)) ixP) (fV 2) (zm .Mod))) sNx)
  (zF (sIf (Wz (fT (f2 (fV 11) (fC (.int 1)) (zW .Eq))) (fT (f2 (fV 11) (fC (.int 2)) (zW .Eq)))) (zaO 9 (WX (xAt 8 (xC 2)) (xV 2)) (WX (xAt 8 (xC 3)) (xV 2)) (WX (xAt 8 (xC 4)) (xV 2))) sNx)
  (zF (sIf (YJ (fT (f2 (fV 11) (fC (.int 2)) (zW .Gt))) (fT (f2 (fV 10) (xG dN) (zW .NotEq)))) (zkX 12 10 (WX (xAt 8 (xC 5)) (zln 10)) 1 (WX (xAt 8 (xC 6)) (xV 3)) (WX (xAt 8 (xC 7)) (xV 2)) (WX (xAt 8 (xC 4)) (xV 2))) sNx)
  (yL (yZ (dC (fV 2) (dC (fV 3) (dC (fV 9) (dC (fV 5) (dC (fV 10) (dC (fV 7) dN))))))))))))))))
def Zn : Fn := fnR 13 2 zem
abbrev ZC : Stmt := top 24
abbrev V7 : List Str := ["_law_n", "_law_join", "_law_nothing", "_law_a", "_law_b", "_law_c"]
theorem vq : FnScope V7 ["_law_n", "_law_join", "_law_nothing"] (zE ZC) := ⟨rfl, rfl, rfl, by decide +kernel, rfl, by decide +kernel, by decide +kernel⟩
def V1 : SF :=
 (zF (wy (yE (aC (fV 0) aN) yD) (gN 3) (sIf (Wz (fT (f2 (f2 (f2 (fV 1) (fV 2) ixP) (fV 3) ixP) (fV 3) (zW .NotEq))) (fT (f2 (f2 (f2 (fV 1) (fV 3) ixP) (fV 2) ixP) (fV 3) (zW .NotEq)))) (yL (yZ (dC (fC (.str "nothing")) (dC (fV 3) dN)))) sNx))
  (zF (wy (yE (aC (fV 0) aN) yD) (gN 3) (wy (yE (aC (fV 0) aN) yD) (gN 4) (wy (yE (aC (fV 0) aN) yD) (gN 5) (sIf (fT (f2 (f2 (f2 (fV 1) (f2 (f2 (fV 1) (fV 3) ixP) (fV 4) ixP) ixP) (fV 5) ixP) (f2 (f2 (fV 1) (fV 3) ixP) (f2 (f2 (fV 1) (fV 4) ixP) (fV 5) ixP) ixP) (zW .NotEq))) (yL (yZ (dC (fC (.str "parting")) (dC (fV 3) (dC (fV 4) (dC (fV 5) dN)))))) sNx))))
  (yL (fC .non))))
def vM : Fn := fnR 6 3 V1
abbrev Y5 : Stmt := top 25
abbrev zcs : List Str := ["_law_n", "_law_m", "_law_join", "_law_name", "_law_rows_here", "_law_p", "_law_q", "_law_a", "_law_i", "_law_b", "_law_j", "_law_made_here"]
theorem wK : FnScope zcs ["_law_n", "_law_m", "_law_join", "_law_name", "_law_rows_here"] (zE Y5) := ⟨rfl, rfl, rfl, by decide +kernel, rfl, by decide +kernel, by decide +kernel⟩
def zcg : SF :=
 (zF (wy (yE (aC (f2 (fV 0) (fV 1) (zm .Mult)) aN) yD) (gN 5) (wy (yE (aC (f2 (fV 0) (fV 1) (zm .Mult)) aN) yD) (gN 6) (zF (zcJ (fP (aC (fV 5) (aC (fV 1) aN)) zhD) (gT 2 (gsC (gN 7) (gsC (gN 8) gsN))))
  (zF (zcJ (fP (aC (fV 6) (aC (fV 1) aN)) zhD) (gT 2 (gsC (gN 9) (gsC (gN 10) gsN))))
  (zF (zR true 11 (f2 (f2 (fV 2) (f2 (f2 (fV 4) (fV 8) ixP) (fV 7) ixP) ixP) (f2 (f2 (fV 4) (fV 10) ixP) (fV 9) ixP) ixP))
  (sIf (fT (f2 (f2 (f2 (fV 4) (f2 (f2 (fV 8) (fV 10) (zm .Add)) (fV 1) (zm .Mod)) ixP) (f2 (f2 (fV 2) (fV 7) ixP) (fV 9) ixP) ixP) (fV 11) (zW .NotEq))) (yL (yZ (dC (fC (.str "doing")) (dC (fV 3) (dC (fV 7) (dC (fV 8) (dC (fV 9) (dC (fV 10) dN)))))))) sNx))))))
  (yL (fC .non)))
def v8 : Fn := fnR 12 5 zcg
abbrev YT : Stmt := top 26
abbrev zcv : List Str := ["_law_algebra_here", "_law_n", "_law_m", "_law_join", "_law_nothing", "_law_deeds", "_law_signs_here", "_law_found", "_law_name", "_law_rows_here"]
theorem yU : FnScope zcv ["_law_algebra_here"] (zE YT) := ⟨rfl, rfl, rfl, by decide +kernel, rfl, by decide +kernel, by decide +kernel⟩
def zcw : SF :=
 (zF (zcJ (fV 0) (gT 6 (gsC (gN 1) (gsC (gN 2) (gsC (gN 3) (gsC (gN 4) (gsC (gN 5) (gsC (gN 6) gsN))))))))
  (zF (zR true 7 (zQ (aC (fV 1) (aC (fV 3) (aC (fV 4) aN))) vM))
  (zF (wy (zfz (fV 5)) (gT 2 (gsC (gN 8) (gsC (gN 9) gsN))) (zF (sIf (YJ (fT (f2 (fV 7) (fC .non) (zW .Is))) (fT (f2 (f2 (f2 (fV 9) (fC (.int 0)) ixP) (fV 4) ixP) (fV 4) (zW .NotEq)))) (zR true 7 (yZ (dC (fC (.str "empty")) (dC (fV 8) dN)))) sNx)
  (sIf (fT (f2 (fV 7) (fC .non) (zW .Is))) (zR true 7 (zQ (aC (fV 1) (aC (fV 2) (aC (fV 3) (aC (fV 8) (aC (fV 9) aN))))) v8)) sNx)))
  (yL (fV 7)))))
def ZP : Fn := fnR 10 1 zcw
abbrev Yi : Stmt := top 27
abbrev zaN : List Str := ["_law_cell", "_law_base", "_law_many", "_law_found", "_law_k"]
theorem ZF : FnScope zaN ["_law_cell", "_law_base", "_law_many"] (zE Yi) := ⟨rfl, rfl, rfl, by decide +kernel, rfl, by decide +kernel, by decide +kernel⟩
def zbh : SF :=
 (zF (zR false 3 (xG dN))
  (zF (wy (yE (aC (fV 2) aN) yD) (gN 4) (zF (xN (wU 3 (dC (f2 (fV 0) (fV 1) (zm .Mod)) dN) wO))
  (zR true 0 (f2 (fV 0) (fV 1) (zm .FloorDiv)))))
  (yL (fV 3))))
def Zb : Fn := fnR 5 3 zbh
abbrev wF : Stmt := top 28
abbrev vX : List Str := ["_law_algebra_here", "_law_cell", "_law_n", "_law_m", "_law_join", "_law_nothing", "_law_deeds", "_law_signs_here", "_law_digits_here", "_law_joins_here", "_law_told_here", "_law_k", "_law_at"]
theorem yw : FnScope vX ["_law_algebra_here", "_law_cell"] (zE wF) := ⟨rfl, rfl, rfl, by decide +kernel, rfl, by decide +kernel, by decide +kernel⟩
theorem zaq : (["_law_a", "_law_digits_here", "_law_n"] : List Str).Nodup := by decide +kernel
theorem zai : (["_law_c", "_law_digits_here", "_law_at", "_law_n"] : List Str).Nodup := by decide +kernel
def Wq : SF :=
 (zF (zcJ (fV 0) (gT 6 (gsC (gN 2) (gsC (gN 3) (gsC (gN 4) (gsC (gN 5) (gsC (gN 6) (gsC (gN 7) gsN))))))))
  (zF (zR true 8 (zQ (aC (fV 1) (aC (fV 2) (aC (f2 (f2 (fC (.int 1)) (f2 (fV 2) (fV 2) (zm .Mult)) (zm .Add)) (f2 (f2 (fV 2) (fV 3) (zm .Mult)) (fP (aC (fV 6) aN) zcG) (zm .Mult)) (zm .Add)) aN))) Zb))
  (zF (zR false 9 (zZ (yE (aC (fV 2) aN) yD) [none, some 8, some 2] (gN 0) yP (fSl (fV 1) (oS (f2 (fC (.int 1)) (f2 (fV 2) (fV 0) (zm .Mult)) (zm .Add))) (oS (f2 (f2 (fC (.int 1)) (f2 (fV 2) (fV 0) (zm .Mult)) (zm .Add)) (fV 2) (zm .Add))) slP)))
  (zF (zR false 10 (xG dN))
  (zF (wy (yE (aC (fP (aC (fV 6) aN) zcG) aN) yD) (gN 11) (zF (zR true 12 (f2 (f2 (fC (.int 1)) (f2 (fV 2) (fV 2) (zm .Mult)) (zm .Add)) (f2 (f2 (fV 2) (fV 3) (zm .Mult)) (fV 11) (zm .Mult)) (zm .Add)))
  (xN (wU 10 (dC (yZ (dC (f2 (f2 (fV 6) (fV 11) ixP) (fC (.int 0)) ixP) (dC (zZ (yE (aC (fV 3) aN) yD) [none, some 8, some 12, some 2] (gN 0) yP (fSl (fV 1) (oS (f2 (fV 2) (f2 (fV 3) (fV 0) (zm .Mult)) (zm .Add))) (oS (f2 (f2 (fV 2) (f2 (fV 3) (fV 0) (zm .Mult)) (zm .Add)) (fV 3) (zm .Add))) slP)) dN))) dN) wO))))
  (yL (yZ (dC (fV 2) (dC (fV 3) (dC (fMv 9) (dC (f2 (fV 8) (fC (.int 0)) ixP) (dC (fMv 10) (dC (fV 7) dN)))))))))))))
def wD : Fn := fnR 13 2 Wq
abbrev XF : Stmt := top 29
abbrev zdt : List Str := ["_law_cell", "_law_other", "_law_algebra_here", "_law_n", "_law_m", "_law_join", "_law_nothing", "_law_deeds", "_law_signs_here", "_law_a", "_law_name", "_law_rows_here"]
theorem ZW : FnScope zdt ["_law_cell", "_law_other"] (zE XF) := ⟨rfl, rfl, rfl, by decide +kernel, rfl, by decide +kernel, by decide +kernel⟩
def zeA : SF :=
 (zF (zR false 2 (zQ (aC (zQ (aC (f2 (f2 (fV 0) (fC (.int 6)) (zm .FloorDiv)) (fC (.int 2147483629)) (zm .Mod)) (aC (fV 1) aN)) xf) (aC (f2 (fV 0) (fC (.int 6)) (zm .FloorDiv)) aN)) wD))
  (zpB (sIf (fT (f2 (f2 (fV 0) (fC (.int 3)) (zm .Mod)) (fC (.int 0)) (zW .Gt))) (zF (zho 5 (xV 6) (fP (aC (fV 3) aN) lrP))
  (wy (yE (aC (fV 3) aN) yD) (gN 9) (zaO 5 (xV 9) (xV 6) (xV 9)))) sNx)
  (sIf (fT (f2 (f2 (fV 0) (fC (.int 6)) (zm .Mod)) (fC (.int 2)) (zW .Gt))) (zne 7 10 11 6) sNx)))
def Ys : Fn := fnR 12 2 zeA
abbrev YD : Stmt := top 30
abbrev zaA : List Str := ["_law_algebra_here", "_law_often", "_law_due", "_law_k", "_law_found"]
theorem YS : FnScope zaA ["_law_algebra_here", "_law_often"] (zE YD) := ⟨rfl, rfl, rfl, by decide +kernel, rfl, by decide +kernel, by decide +kernel⟩
theorem zeH : (["_law_part"] : List Str).Nodup := by decide +kernel
def zen : SF :=
 (zF (zR true 2 (zQ (aC (fV 0) aN) ZP))
  (zF (wy (yE (aC (fV 1) aN) yD) (gN 3) (zF (zR true 4 (zQ (aC (fV 0) aN) xZ))
  (zF (sIf (YJ (fT (f2 (fV 2) (fC .non) (zW .Is))) (fT (f2 (fV 4) (fC .non) (zW .IsNot)))) (yL (fC (.bl false))) sNx)
  (sIf (fT (f2 (fV 2) (fC .non) (zW .IsNot))) (zF (sIf (Wz (Za (fT (zbF (fV 4) "tuple"))) (Wz (fT (f2 (fV 4) (fV 2) (zW .NotEq))) (Za (fT (zbF (f2 (fV 4) (fC (.int 0)) ixP) "str"))))) (yL (fC (.bl false))) sNx)
  (sIf (fT (f2 (zZ (Y8 (fV 4)) [none] (gN 0) (YJ (Za (fT (zbF (fV 0) "str"))) (Za (fT (zQ (aC (fV 0) aN) vo)))) (fV 0)) (xG dN) (zW .NotEq))) (yL (fC (.bl false))) sNx)) sNx))))
  (yL (fC (.bl true)))))
def xx : Fn := fnR 5 2 zen
abbrev zgV : Stmt := top 31
abbrev zkW : List Str := ["_law_script", "_law_algebra_here", "_law_many", "_law_cell", "_law_kept_here"]
theorem zaF : FnScope zkW ["_law_script"] (zE zgV) := ⟨rfl, rfl, rfl, by decide +kernel, rfl, by decide +kernel, by decide +kernel⟩
theorem zlp : (["_law_row"] : List Str).Nodup := by decide +kernel
def zni : SF :=
 (zF (zR true 1 (zQ (aC (zQ (aC (fV 0) (aC (fC (.int 0)) aN)) zV) (aC (zQ (aC (fV 0) (aC (fC (.int 1)) aN)) zV) aN)) xf))
  (zF (sIf (Wz (fT (f2 (zQ (aC (fV 1) aN) xZ) (fC .non) (zW .IsNot))) (Za (fT (zQ (aC (fV 1) (aC (fC (.int 1)) aN)) xx)))) (yL (fC (.bl false))) sNx)
  (zF (sIf (Za (fT (zQ (aC (zQ (aC (zQ (aC (fV 0) (aC (fC (.int 2)) aN)) zV) (aC (zQ (aC (fV 0) (aC (fC (.int 1)) aN)) zV) aN)) Ys) (aC (fC (.int 2)) aN)) xx))) (yL (fC (.bl false))) sNx)
  (zF (zR true 2 (f2 (xG (dC (fC (.int 8)) (dC (fC (.int 2)) dN))) (fP (aC (f2 (f2 (f2 (fV 1) (fC (.int 0)) ixP) (f2 (fV 1) (fC (.int 1)) ixP) (zm .Mult)) (fC (.int 16)) (zW .Gt)) aN) zdu) ixP))
  (zF (wy (zfz (fSl (f2 (xG (dC (zQ (aC (fV 0) (aC (fC (.int 3)) aN)) zV) dN)) (fSl (fV 0) (oS (fC (.int 4))) (oS (fC (.int 11))) slP) (zm .Add)) oN (oS (fV 2)) slP)) (gN 3) (zF (zR true 1 (zQ (aC (fV 1) (aC (fV 3) aN)) Zn))
  (zF (zR true 4 (yZ (dC (f2 (fV 1) (fC (.int 0)) ixP) (dC (f2 (fV 1) (fC (.int 1)) ixP) (dC (zZ (Y8 (f2 (fV 1) (fC (.int 2)) ixP)) [none] (gN 0) yP (fP (aC (fV 0) aN) lstP)) (dC (f2 (fV 1) (fC (.int 3)) ixP) (dC (fP (aC (f2 (fV 1) (fC (.int 4)) ixP) aN) lstP) (dC (f2 (fV 1) (fC (.int 5)) ixP) dN))))))))
  (zF (sIf (Wz (Za (fT (zQ (aC (fV 1) (aC (fC (.int 1)) aN)) xx))) (fT (f2 (fV 1) (fV 4) (zW .NotEq)))) (yL (fC (.bl false))) sNx)
  (sIf (fT (f2 (f2 (fV 3) (fC (.int 3)) (zm .Mod)) (fC (.int 0)) (zW .Gt))) (zR true 1 (zQ (aC (zQ (aC (fV 0) (aC (fC (.int 0)) aN)) zV) (aC (zQ (aC (fV 0) (aC (fC (.int 1)) aN)) zV) aN)) xf)) sNx)))))
  (yL (fC (.bl true))))))))
def zdy : Fn := fnR 5 1 zni
set_option genInjectivity false in
set_option genSizeOf false in
structure Adr where
 Z8 : Addr
 Z6 : FuncData
 Z3 : Addr
 Z1 : FuncData
 Xk : Addr
 Xn : FuncData
 Wm : Addr
 XM : FuncData
 Xx : Addr
 XJ : FuncData
 Xb : Addr
 Xe : FuncData
 Vk : Addr
 Ve : FuncData
 X5 : Addr
 Wk : FuncData
 Vl : Addr
 Vt : FuncData
 Xf : Addr
 Y9 : FuncData
 zah : Addr
 zaH : FuncData
 XQ : Addr
 Wa : FuncData
 zaz : Addr
 zaB : FuncData
 W9 : Addr
 Vu : FuncData
 zam : Addr
 zas : FuncData
 Vi : Addr
 Vf : FuncData
 Wg : Addr
 Wb : FuncData
 zax : Addr
 zaI : FuncData
 WW : Addr
 WY : FuncData
 W0 : Addr
 WN : FuncData
 Xd : Addr
 Xi : FuncData
 zar : Addr
 zaC : FuncData
 Xa : Addr
 Xm : FuncData
 Vh : Addr
 W8 : FuncData
 Vd : Addr
 WQ : FuncData
 We : Addr
 X8 : FuncData
 Z5 : Addr
 Z0 : FuncData
 zau : Addr
 zan : FuncData
 zaD : Addr
 zap : FuncData
 zkO : Addr
 zjU : FuncData
structure Txt (K : zC) (kd : KD) (mg : Str -> Option Value) (t : Adr) : Prop where
 Wr : Fun K "nothing_fails" "nothing_fails" vW t.Z8 t.Z6
 zcN : Binds K t.Z6 ["algebra"] []
 vg : mg "nothing_fails" = some (.ref t.Z8)
 Wv : Fun K "parting_fails" "parting_fails" vU t.Z3 t.Z1
 zcQ : Binds K t.Z1 ["algebra"] []
 wZ : mg "parting_fails" = some (.ref t.Z3)
 V4 : Fun K "doing_fails" "doing_fails" Zx t.Xk t.Xn
 zeO : Binds K t.Xn ["algebra", "name", "rows"] []
 vh : mg "doing_fails" = some (.ref t.Xk)
 zaZ : Fun K "deeds_fail" "deeds_fail" Yl t.Wm t.XM
 zfL : Binds K t.XM ["algebra"] []
 Ze : mg "deeds_fail" = some (.ref t.Wm)
 XD : Fun K "what_fails" "what_fails" Yj t.Xx t.XJ
 zaJ : Binds K t.XJ ["algebra"] []
 xZ : mg "what_fails" = some (.ref t.Xx)
 wg : Fun K "_law_cell_at" "_law_cell_at" ZJ t.Xb t.Xe
 wN : Binds K t.Xe ["_law_script", "_law_k"] []
 zV : mg "_law_cell_at" = some (.ref t.Xb)
 zcy : Fun K "_law_whole" "_law_whole" YZ t.Vk t.Ve
 zhv : Binds K t.Ve ["_law_found"] []
 vo : mg "_law_whole" = some (.ref t.Vk)
 wI : Fun K "_law_stream" "_law_stream" Yg t.X5 t.Wk
 wY : Binds K t.Wk ["_law_cell", "_law_many"] []
 yg : mg "_law_stream" = some (.ref t.X5)
 zcl : Fun K "_law_names" "_law_names" ZL t.Vl t.Vt
 zhd : Binds K t.Vt ["_law_cell", "_law_many"] []
 ZX : mg "_law_names" = some (.ref t.Vl)
 V0 : Fun K "_law_divisor" "_law_divisor" ZK t.Xf t.Y9
 zeP : Binds K t.Y9 ["_law_one", "_law_other"] []
 vR : mg "_law_divisor" = some (.ref t.Xf)
 zeg : Fun K "_law_sums" "_law_sums" YH t.zah t.zaH
 zhP : Binds K t.zaH ["_law_n", "_law_m", "_law_xs"] []
 Yq : mg "_law_sums" = some (.ref t.zah)
 zbb : Fun K "_law_rising" "_law_rising" vB t.XQ t.Wa
 zgo : Binds K t.Wa ["_law_n", "_law_m", "_law_xs"] []
 Zc : mg "_law_rising" = some (.ref t.XQ)
 zdY : Fun K "_law_kept" "_law_kept" Zr t.zaz t.zaB
 zhy : Binds K t.zaB ["_law_n", "_law_m", "_law_xs"] []
 Yu : mg "_law_kept" = some (.ref t.zaz)
 zcr : Fun K "_law_joins" "_law_joins" wJ t.W9 t.Vu
 zgJ : Binds K t.Vu ["_law_kind", "_law_n"] []
 v7 : mg "_law_joins" = some (.ref t.W9)
 zew : Fun K "_law_rows" "_law_rows" YF t.zam t.zas
 zhE : Binds K t.zas ["_law_kind", "_law_n", "_law_m", "_law_xs"] []
 Zo : mg "_law_rows" = some (.ref t.zam)
 Y0 : Fun K "_law_plain" "_law_plain" ZV t.Vi t.Vf
 W6 : Binds K t.Vf ["_law_kind", "_law_n", "_law_m", "_law_many", "_law_cell"] []
 wk : mg "_law_plain" = some (.ref t.Vi)
 zaY : Fun K "_law_beside" "_law_beside" Zd t.Wg t.Wb
 zfU : Binds K t.Wb ["_law_one", "_law_other", "_law_m"] []
 Zm : mg "_law_beside" = some (.ref t.Wg)
 zdR : Fun K "_law_made" "_law_made" XS t.zax t.zaI
 zhA : Binds K t.zaI ["_law_cell", "_law_m", "_law_many"] []
 Yv : mg "_law_made" = some (.ref t.zax)
 zct : Fun K "_law_order" "_law_order" YM t.WW t.WY
 zgL : Binds K t.WY ["_law_cell", "_law_n"] []
 ZQ : mg "_law_order" = some (.ref t.WW)
 zcn : Fun K "_law_signs" "_law_signs" ZR t.W0 t.WN
 zhg : Binds K t.WN ["_law_cell", "_law_n", "_law_names_here"] []
 v6 : mg "_law_signs" = some (.ref t.W0)
 ZG : Fun K "_law_algebra" "_law_algebra" wM t.Xd t.Xi
 Y6 : Binds K t.Xi ["_law_cell", "_law_other"] []
 xf : mg "_law_algebra" = some (.ref t.Xd)
 zdv : Fun K "_law_bent" "_law_bent" Zt t.zar t.zaC
 ziu : Binds K t.zaC ["_law_algebra_here", "_law_cell"] []
 Zn : mg "_law_bent" = some (.ref t.zar)
 zad : Fun K "_law_parting" "_law_parting" ZC t.Xa t.Xm
 zeM : Binds K t.Xm ["_law_n", "_law_join", "_law_nothing"] []
 vM : mg "_law_parting" = some (.ref t.Xa)
 zcA : Fun K "_law_doing" "_law_doing" Y5 t.Vh t.W8
 zhh : Binds K t.W8 ["_law_n", "_law_m", "_law_join", "_law_name", "_law_rows_here"] []
 v8 : mg "_law_doing" = some (.ref t.Vh)
 zcd : Fun K "_law_fails" "_law_fails" YT t.Vd t.WQ
 zhm : Binds K t.WQ ["_law_algebra_here"] []
 ZP : mg "_law_fails" = some (.ref t.Vd)
 zbv : Fun K "_law_digits" "_law_digits" Yi t.We t.X8
 zfY : Binds K t.X8 ["_law_cell", "_law_base", "_law_many"] []
 Zb : mg "_law_digits" = some (.ref t.We)
 Wo : Fun K "_law_by_digits" "_law_by_digits" wF t.Z5 t.Z0
 zcH : Binds K t.Z0 ["_law_algebra_here", "_law_cell"] []
 wD : mg "_law_by_digits" = some (.ref t.Z5)
 zdK : Fun K "_law_free" "_law_free" XF t.zau t.zan
 zio : Binds K t.zan ["_law_cell", "_law_other"] []
 Ys : mg "_law_free" = some (.ref t.zau)
 Wc : Fun K "_law_told" "_law_told" YD t.zaD t.zap
 zaj : Binds K t.zap ["_law_algebra_here", "_law_often"] []
 xx : mg "_law_told" = some (.ref t.zaD)
 zpP : Fun K "law" "law" zgV t.zkO t.zjU
 zrt : Binds K t.zjU ["_law_script"] []
 zdy : mg "law" = some (.ref t.zkO)
 zoB : mg "bool" = none
 zhu : mg "divmod" = none
 ziT : mg "int" = none
 Zi : mg "isinstance" = none
 zek : mg "len" = none
 W5 : mg "list" = none
 zqt : mg "max" = none
 zP : mg "range" = none
 zkH : mg "sorted" = none
 znq : mg "str" = none
 zmm : mg "tuple" = none
 zkC : mg "zip" = none
set_option maxHeartbeats 8000000
section
variable {P : Program} {w : World} {K : zC} {mg : Str -> Option Value} {base : Heap} {kd : KD} {t : Adr}
theorem zcS (T : Txt K kd mg t) (hkd : KD1 P w K kd) : FnOk P w K mg base CX0 1 t.Z8 t.Z6 ["algebra"] (spD K kd vg) := by
 refine wA (N := Ww) (ps := ["algebra"]) (k := 0) (c := Wt) T.Wr vG λ cdv A outer s H E hr => ?_
 exact (by
  refine zj ?_ ?_; exact (by refine sv true 1 vG.nd ?_; exact (ax hkd (av 0) aI))
  refine zj ?_ ?_; exact (by refine sv true 2 vG.nd ?_; exact (ax hkd (av 0) aI))
  refine zj ?_ ?_; exact (yQ PassesOwn.never rfl (yC rfl T.zP (zf (ax hkd (av 0) aI) zp (za rfl)) rfl) (an 3 vG.nd) (zu (xF (AW.at_ (zdS (yr (yo (hkd _ rfl rfl rfl) (yI hr) .NotEq) (zU .NotEq) (ax hkd (ax hkd (av 1) (av 2)) (av 3)) (av 3) (yq _)) (Yp (yr (yo (hkd _ rfl rfl rfl) (yI hr) .NotEq) (zU .NotEq) (ax hkd (ax hkd (av 1) (av 3)) (av 2)) (av 3) (yq _))))) (zu (yf (xg (zg aS (zg (av 3) zN (za rfl)) (za rfl))))) yu)) (λ _ => rfl))
  exact zu (yf aZ))
theorem zcK (T : Txt K kd mg t) (hkd : KD1 P w K kd) : FnOk P w K mg base CX0 1 t.Z3 t.Z1 ["algebra"] (spD K kd wZ) := by
 refine wA (N := Wx) (ps := ["algebra"]) (k := 0) (c := Ws) T.Wv wu λ cdv A outer s H E hr => ?_
 exact (by
  refine zj ?_ ?_; exact (by refine sv true 1 wu.nd ?_; exact (ax hkd (av 0) aI))
  refine zj ?_ ?_; exact (by refine sv true 2 wu.nd ?_; exact (ax hkd (av 0) aI))
  refine zj ?_ ?_; exact (yQ PassesOwn.never rfl (yC rfl T.zP (zf (av 1) zp (za rfl)) rfl) (an 3 wu.nd) (zu (yQ PassesOwn.never rfl (yC rfl T.zP (zf (av 1) zp (za rfl)) rfl) (an 4 wu.nd) (zu (yQ PassesOwn.never rfl (yC rfl T.zP (zf (av 1) zp (za rfl)) rfl) (an 5 wu.nd) (zu (xF (yr (yo (hkd _ rfl rfl rfl) (yI hr) .NotEq) (zU .NotEq) (ax hkd (ax hkd (av 2) (ax hkd (ax hkd (av 2) (av 3)) (av 4))) (av 5)) (ax hkd (ax hkd (av 2) (av 3)) (ax hkd (ax hkd (av 2) (av 4)) (av 5))) (yq _)) (zu (yf (xg (by refine zg ?_ ?_ ?_; exact aS; refine zg ?_ ?_ ?_; exact (av 3); refine zg ?_ ?_ ?_; exact (av 4); refine zg ?_ ?_ ?_; exact (av 5); exact zN; exact za rfl; exact za rfl; exact za rfl; exact za rfl)))) yu)) (λ _ => rfl))) (λ _ => rfl))) (λ _ => rfl))
  exact zu (yf aZ))
theorem zeI (T : Txt K kd mg t) (hkd : KD1 P w K kd) : FnOk P w K mg base CX0 1 t.Xk t.Xn ["algebra", "name", "rows"] (spD K kd vh) := by
 refine wA (N := V8) (ps := ["algebra", "name", "rows"]) (k := 0) (c := V5) T.V4 xQ λ cdv A outer s H E hr => ?_
 exact (by
  refine zj ?_ ?_; exact (by refine sv true 3 xQ.nd ?_; exact (ax hkd (av 0) aI))
  refine zj ?_ ?_; exact (by refine sv true 4 xQ.nd ?_; exact (ax hkd (av 0) aI))
  refine zj ?_ ?_; exact (by refine sv true 5 xQ.nd ?_; exact (ax hkd (av 0) aI))
  refine zj ?_ ?_; exact (yQ PassesOwn.never rfl (yC rfl T.zP (zf (av 3) zp (za rfl)) rfl) (an 6 xQ.nd) (zu (yQ PassesOwn.never rfl (yC rfl T.zP (zf (av 4) zp (za rfl)) rfl) (an 7 xQ.nd) (zu (yQ PassesOwn.never rfl (yC rfl T.zP (zf (av 3) zp (za rfl)) rfl) (an 8 xQ.nd) (zu (yQ PassesOwn.never rfl (yC rfl T.zP (zf (av 4) zp (za rfl)) rfl) (an 9 xQ.nd) (zu (xF (yr (yo (hkd _ rfl rfl rfl) (yI hr) .NotEq) (zU .NotEq) (ax hkd (ax hkd (av 2) (zx (zy .Mod) (zx (zy .Add) (av 7) (av 9)) (av 4))) (ax hkd (ax hkd (av 5) (av 6)) (av 8))) (ax hkd (ax hkd (av 5) (ax hkd (ax hkd (av 2) (av 7)) (av 6))) (ax hkd (ax hkd (av 2) (av 9)) (av 8))) (yq _)) (zu (yf (xg (by refine zg ?_ ?_ ?_; exact aS; refine zg ?_ ?_ ?_; exact (av 1); refine zg ?_ ?_ ?_; exact (av 6); refine zg ?_ ?_ ?_; exact (av 7); refine zg ?_ ?_ ?_; exact (av 8); refine zg ?_ ?_ ?_; exact (av 9); exact zN; exact za rfl; exact za rfl; exact za rfl; exact za rfl; exact za rfl; exact za rfl)))) yu)) (λ _ => rfl))) (λ _ => rfl))) (λ _ => rfl))) (λ _ => rfl))
  exact zu (yf aZ))
theorem zgr (T : Txt K kd mg t) (hkd : KD1 P w K kd) : FnOk P w K mg base CX0 2 t.Wm t.XM ["algebra"] (spD K kd Ze) := by
 refine wA (N := zbu) (ps := ["algebra"]) (k := 1) (c := zbo) T.zaZ vO λ cdv A outer s H E hr => ?_
 exact (by
  refine zj ?_ ?_; exact (by refine sv true 1 vO.nd ?_; exact (ax hkd (av 0) aI))
  refine zj ?_ ?_; exact (yQ PassesOwn.never rfl (zgt (ax hkd (av 0) aI)) (Z2 rfl (zX (an 2 vO.nd) (zX (an 3 vO.nd) vY rfl) rfl) rfl rfl) (by
  refine zj ?_ ?_; exact (xF (yr (yo (hkd _ rfl rfl rfl) (yI hr) .NotEq) (zU .NotEq) (ax hkd (ax hkd (av 3) aI) (av 1)) (av 1) (yq _)) (zu (yf (xg (zg aS (zg (av 2) zN (za rfl)) (za rfl))))) yu)
  refine zj ?_ ?_; exact (by refine sv true 4 vO.nd ?_; exact (zT (zeI T hkd) (hr.mono (by omega)) rfl T.vh T.V4.kp T.zeO yM (by refine zf ?_ ?_ ?_; exact (av 0); refine zf ?_ ?_ ?_; exact (av 2); refine zf ?_ ?_ ?_; exact (av 3); exact zp; exact za rfl; exact za rfl; exact za rfl) (by decide) rfl rfl))
  exact zu (xF (yr (yo (hkd _ rfl rfl rfl) (yI hr) .IsNot) (zU .IsNot) (av 4) aZ (yq _)) (zu (yf (av 4))) yu)) (λ _ => rfl))
  exact zu (yf aZ))
theorem zaK (T : Txt K kd mg t) (hkd : KD1 P w K kd) : FnOk P w K mg base CX0 3 t.Xx t.XJ ["algebra"] (spD K kd xZ) := by
 refine wA (N := zba) (ps := ["algebra"]) (k := 2) (c := zbk) T.XD ZD λ cdv A outer s H E hr => ?_
 exact (by
  refine zj ?_ ?_; exact (by refine sv true 1 ZD.nd ?_; exact (zT (zcS T hkd) (hr.mono (by omega)) rfl T.vg T.Wr.kp T.zcN yM (zf (av 0) zp (za rfl)) (by decide) rfl rfl))
  refine zj ?_ ?_; exact (xF (yr (yo (hkd _ rfl rfl rfl) (yI hr) .Is) (zU .Is) (av 1) aZ (yq _)) (zu (by refine sv true 1 ZD.nd ?_; exact (zT (zcK T hkd) (hr.mono (by omega)) rfl T.wZ T.Wv.kp T.zcQ yM (zf (av 0) zp (za rfl)) (by decide) rfl rfl))) yu)
  refine zj ?_ ?_; exact (xF (yr (yo (hkd _ rfl rfl rfl) (yI hr) .Is) (zU .Is) (av 1) aZ (yq _)) (zu (by refine sv true 1 ZD.nd ?_; exact (zT (zgr T hkd) (hr.mono (by omega)) rfl T.Ze T.zaZ.kp T.zfL yM (zf (av 0) zp (za rfl)) (by decide) rfl rfl))) yu)
  exact zu (yf (av 1)))
theorem wL (T : Txt K kd mg t) (hkd : KD1 P w K kd) : FnOk P w K mg base CX0 1 t.Xb t.Xe ["_law_script", "_law_k"] (spD K kd zV) := by
 refine wA (N := zae) (ps := ["_law_script", "_law_k"]) (k := 0) (c := VP) T.wg zec λ cdv A outer s H E hr => ?_
 exact (by
  refine zj ?_ ?_; exact (xF (yr (yo (hkd _ rfl rfl rfl) (yI hr) .Lt) (zU .Lt) (av 1) (Y7 (Yn (hkd _ rfl rfl rfl)) rfl T.zek Bt.len (zf (av 0) zp (za rfl)) (Bt.n _ rfl) (by decide) rfl rfl) (yq _)) (zu (yf (ax hkd (av 0) (av 1)))) yu)
  exact zu (yf aI))
theorem zhf (T : Txt K kd mg t) (hkd : KD1 P w K kd) : FnOk P w K mg base CX0 1 t.Vk t.Ve ["_law_found"] (spD K kd vo) := by
 refine wA (N := zcx) (ps := ["_law_found"]) (k := 0) (c := zch) T.zcy zfE λ cdv A outer s H E hr => ?_
 exact (zu (yf (znQ (zdX (hkd _ rfl rfl rfl) rfl rfl T.Zi Bt.isinstance rfl T.ziT Bt.int (av 0) (Bt.n _ rfl) (by decide) (Bt.n _ rfl) (by decide) rfl rfl rfl) (zpq (znY (zdX (hkd _ rfl rfl rfl) rfl rfl T.Zi Bt.isinstance rfl T.zoB Bt.bool (av 0) (Bt.n _ rfl) (by decide) (Bt.n _ rfl) (by decide) rfl rfl rfl))))))
theorem wW (T : Txt K kd mg t) (hkd : KD1 P w K kd) : FnOk P w K mg base CX0 1 t.X5 t.Wk ["_law_cell", "_law_many"] (spD K kd yg) := by
 refine wA (N := zaR) (ps := ["_law_cell", "_law_many"]) (k := 0) (c := zaW) T.wI vP λ cdv A outer s H E hr => ?_
 exact (by
  refine zj ?_ ?_; exact (by refine sv false 2 vP.nd ?_; exact (xj zN))
  refine zj ?_ ?_; exact (by refine sv true 3 vP.nd ?_; exact (zx (zy .Add) (zx (zy .Mod) (av 0) aI) aI))
  refine zj ?_ ?_; exact (yQ PassesOwn.never rfl (yC rfl T.zP (zf (zx (zy .Add) (av 1) aI) zp (za rfl)) rfl) (an 4 vP.nd) (by
  refine zj ?_ ?_; exact (by refine sv true 3 vP.nd ?_; exact (zx (zy .Mod) (zx (zy .Add) (zx (zy .Add) (zx (zy .Mult) (av 3) (av 3)) (zx (zy .Mult) aI (av 3))) (av 4)) aI))
  exact zu (vV (Zu wG Z4 PySem.F.slot_list_append PySem.F.type_list_append (pv 2) (zg (zx (zy .Mod) (zx (zy .Add) (zx (zy .Mult) (av 3) aI) (zx (zy .Mult) aI (av 4))) aI) zN (za rfl)) rfl rfl rfl rfl rfl) rfl)) (λ _ => rfl))
  exact zu (yf (ZM (av 2) (vm aI) Vx)))
theorem zgK (T : Txt K kd mg t) (hkd : KD1 P w K kd) : FnOk P w K mg base CX0 2 t.Vl t.Vt ["_law_cell", "_law_many"] (spD K kd ZX) := by
 refine wA (N := Vc) (ps := ["_law_cell", "_law_many"]) (k := 1) (c := zcD) T.zcl wX λ cdv A outer s H E hr => ?_
 exact (by
  refine zj ?_ ?_; exact (by refine sv true 2 wX.nd ?_; exact aS)
  refine zj ?_ ?_; exact (by refine sv true 3 wX.nd ?_; exact (zT (wW T hkd) (hr.mono (by omega)) rfl T.yg T.wI.kp T.wY yM (zf (av 0) (zf aI zp (za rfl)) (za rfl)) (by decide) rfl rfl))
  refine zj ?_ ?_; exact (by refine sv true 4 wX.nd ?_; exact (zgs (ty := .str) (hkd _ rfl rfl rfl) zmB PySem.F.plainAttrs_str PySem.F.slot_str_join PySem.F.type_str_join aS (zf (yO (N := ["_law_x", "_law_letters"]) (cap := [none, some 2]) (S := [0]) rfl (Wl (ZM (av 3) Vx (vm (zx (zy .Add) aI (zx (zy .Mod) (av 0) aI))))) rfl (by change wB _ Vc _ (zE ZL).names _ = true; decide +kernel) (by decide) (λ cl s H fp => (an 0 zet)) (λ cl s H fp => yJ) (λ cl s H fp => (ax hkd (av 1) (zx (zy .Mod) (av 0) aI))) (λ _ => rfl)) zp (za rfl)) rfl rfl rfl rfl rfl))
  refine zj ?_ ?_; exact (by refine sv true 5 wX.nd ?_; exact (zx (zy .Mod) (zx (zy .FloorDiv) (av 0) aI) (Y7 (Yn (hkd _ rfl rfl rfl)) rfl T.zek Bt.len (zf (av 4) zp (za rfl)) (Bt.n _ rfl) (by decide) rfl rfl)))
  refine zj ?_ ?_; exact (by refine sv false 6 wX.nd ?_; exact (xj zN))
  refine zj ?_ ?_; exact (yQ PassesOwn.never rfl (yC rfl T.zP (zf (av 1) zp (za rfl)) rfl) (an 7 wX.nd) (zu (vV (Zu wG Z4 PySem.F.slot_list_append PySem.F.type_list_append (pv 6) (zg (zx (zy .Add) (zx (zy .Add) (zfm (av 4) Vx (vm (av 5))) (ax hkd (av 2) (zx (zy .Mod) (zx (zy .Add) (ax hkd (av 3) aI) (zx (zy .Mult) aI (av 7))) aI))) (zfm (av 4) (vm (zx (zy .Add) (av 5) aI)) Vx)) zN (za rfl)) rfl rfl rfl rfl rfl) rfl)) (λ _ => rfl))
  exact zu (yf (av 6)))
theorem zeJ (T : Txt K kd mg t) (hkd : KD1 P w K kd) : FnOk P w K mg base CX0 1 t.Xf t.Y9 ["_law_one", "_law_other"] (spD K kd vR) := by
 refine wA (N := zaa) (ps := ["_law_one", "_law_other"]) (k := 0) (c := V6) T.V0 Vq λ cdv A outer s H E hr => ?_
 exact (by
  refine zj ?_ ?_; exact (zlf (n := 10000) PassesOwn.never (yr (yo (hkd _ rfl rfl rfl) (yI hr) .Gt) (zU .Gt) (av 1) aI (yq _)) (zu (zoG (i := 0) (j := 1) rfl Vq.nd rfl rfl (by decide) rfl rfl (zg (av 1) (zg (zx (zy .Mod) (av 0) (av 1)) zN (za rfl)) (za rfl)) rfl rfl)))
  exact zu (yf (av 0)))
theorem zhW (T : Txt K kd mg t) (hkd : KD1 P w K kd) : FnOk P w K mg base CX0 2 t.zah t.zaH ["_law_n", "_law_m", "_law_xs"] (spD K kd Yq) := by
 refine wA (N := zat) (ps := ["_law_n", "_law_m", "_law_xs"]) (k := 1) (c := zdw) T.zeg YL λ cdv A outer s H E hr => ?_
 exact (by
  refine zj ?_ ?_; exact (by refine sv true 3 YL.nd ?_; exact (zx (zy .FloorDiv) (av 0) (zT (zeJ T hkd) (hr.mono (by omega)) rfl T.vR T.V0.kp T.zeP yM (zf (av 0) (zf (av 1) zp (za rfl)) (za rfl)) (by decide) rfl rfl)))
  refine zj ?_ ?_; exact (by refine sv false 4 YL.nd ?_; exact (xj zN))
  refine zj ?_ ?_; exact (yQ PassesOwn.never rfl (yC rfl T.zP (zf (av 1) zp (za rfl)) rfl) (an 5 YL.nd) (zu (vV (Zu wG Z4 PySem.F.slot_list_append PySem.F.type_list_append (pv 4) (zg (yO (N := ["_law_a", "_law_n", "_law_xs", "_law_c", "_law_step"]) (cap := [none, some 0, some 2, some 5, some 3]) (S := [0]) rfl (yG rfl T.zP (zf (av 0) zp (za rfl)) rfl) rfl (by change wB _ zat _ (zE YH).names _ = true; decide +kernel) (by decide) (λ cl s H fp => (an 0 zeL)) (λ cl s H fp => yJ) (λ cl s H fp => (zx (zy .Mod) (zx (zy .Add) (zx (zy .Mult) (av 0) (ax hkd (av 2) aI)) (zx (zy .Mult) (zx (zy .Mult) (av 3) (av 4)) (ax hkd (av 2) aI))) (av 1))) (λ _ => rfl)) zN (za rfl)) rfl rfl rfl rfl rfl) rfl)) (λ _ => rfl))
  exact zu (yf (av 4)))
theorem zfW (T : Txt K kd mg t) (hkd : KD1 P w K kd) : FnOk P w K mg base CX0 1 t.XQ t.Wa ["_law_n", "_law_m", "_law_xs"] (spD K kd Zc) := by
 refine wA (N := Ym) (ps := ["_law_n", "_law_m", "_law_xs"]) (k := 0) (c := zbc) T.zbb V2 λ cdv A outer s H E hr => ?_
 exact (by
  refine zj ?_ ?_; exact (by refine sv false 3 V2.nd ?_; exact (Y7 zhK rfl T.zkH Bt.sorted (zf (zx (zy .Add) (xj (zg aI zN (za rfl))) (yO (N := ["_law_k", "_law_n", "_law_xs"]) (cap := [none, some 0, some 2]) (S := [0]) rfl (yG rfl T.zP (zf (zx (zy .Sub) (av 0) aI) zp (za rfl)) rfl) rfl (by change wB _ Ym _ (zE vB).names _ = true; decide +kernel) (by decide) (λ cl s H fp => (an 0 zcM)) (λ cl s H fp => yJ) (λ cl s H fp => (zx (zy .Mod) (ax hkd (av 2) (av 0)) (av 1))) (λ _ => rfl))) zp (za rfl)) (Bt.n _ rfl) (by decide) rfl rfl))
  refine zj ?_ ?_; exact (zlQ (pv 3) X6 X6 (λ _ => rfl) rfl rfl rfl)
  exact zu (yf (yO (N := ["_law_c", "_law_row"]) (cap := [none, some 3]) (S := [0]) rfl (yG rfl T.zP (zf (av 1) zp (za rfl)) rfl) rfl (by change wB _ Ym _ (zE vB).names _ = true; decide +kernel) (by decide) (λ cl s H fp => (an 0 zcF)) (λ cl s H fp => yJ) (λ cl s H fp => (Xw Yo rfl T.W5 Bt.list (zf (av 1) zp (za rfl)) (Bt.n _ rfl) (by decide) rfl rfl)) (λ _ => rfl))))
theorem zhI (T : Txt K kd mg t) (hkd : KD1 P w K kd) : FnOk P w K mg base CX0 1 t.zaz t.zaB ["_law_n", "_law_m", "_law_xs"] (spD K kd Yu) := by
 refine wA (N := Wj) (ps := ["_law_n", "_law_m", "_law_xs"]) (k := 0) (c := zel) T.zdY zcC λ cdv A outer s H E hr => ?_
 exact (by
  refine zj ?_ ?_; exact (by refine sv true 3 zcC.nd ?_; exact (zx (zy .Add) (xj (zg aI zN (za rfl))) (yO (N := ["_law_k", "_law_xs", "_law_n"]) (cap := [none, some 2, some 0]) (S := [0]) rfl (yG rfl T.zP (zf (zx (zy .Sub) (av 0) aI) zp (za rfl)) rfl) rfl (by change wB _ Wj _ (zE Zr).names _ = true; decide +kernel) (by decide) (λ cl s H fp => (an 0 zeF)) (λ cl s H fp => yJ) (λ cl s H fp => (zx (zy .Add) aI (zx (zy .Mod) (ax hkd (av 1) (av 0)) (zx (zy .Sub) (av 2) aI)))) (λ _ => rfl))))
  exact zu (yf (yO (N := ["_law_c", "_law_row"]) (cap := [none, some 3]) (S := [0]) rfl (yG rfl T.zP (zf (av 1) zp (za rfl)) rfl) rfl (by change wB _ Wj _ (zE Zr).names _ = true; decide +kernel) (by decide) (λ cl s H fp => (an 0 zeQ)) (λ cl s H fp => yJ) (λ cl s H fp => (Xw Yo rfl T.W5 Bt.list (zf (av 1) zp (za rfl)) (Bt.n _ rfl) (by decide) rfl rfl)) (λ _ => rfl))))
theorem zhr (T : Txt K kd mg t) (hkd : KD1 P w K kd) : FnOk P w K mg base CX0 1 t.W9 t.Vu ["_law_kind", "_law_n"] (spD K kd v7) := by
 refine wA (N := vz) (ps := ["_law_kind", "_law_n"]) (k := 0) (c := zcm) T.zcr zaM λ cdv A outer s H E hr => ?_
 exact (by
  refine zj ?_ ?_; exact (xF (yr (yo (hkd _ rfl rfl rfl) (yI hr) .Eq) (zU .Eq) (av 0) aI (yq _)) (zu (yf (yO (N := ["_law_a", "_law_n"]) (cap := [none, some 1]) (S := [0]) rfl (yG rfl T.zP (zf (av 1) zp (za rfl)) rfl) rfl (by change wB _ vz _ (zE wJ).names _ = true; decide +kernel) (by decide) (λ cl s H fp => (an 0 zdL)) (λ cl s H fp => yJ) (λ cl s H fp => (yO (N := ["_law_b", "_law_n", "_law_a"]) (cap := [none, some 1, some 0]) (S := [0]) rfl (yG rfl T.zP (zf (av 1) zp (za rfl)) rfl) rfl (by with_unfolding_all rfl) (by decide) (λ cl s H fp => (an 0 zed)) (λ cl s H fp => yJ) (λ cl s H fp => (zx (zy .Mod) (zx (zy .Add) (av 2) (av 0)) (av 1))) (λ _ => rfl))) (λ _ => rfl)))) yu)
  refine zj ?_ ?_; exact (xF (yr (yo (hkd _ rfl rfl rfl) (yI hr) .Eq) (zU .Eq) (av 0) aI (yq _)) (zu (yf (yO (N := ["_law_a", "_law_n"]) (cap := [none, some 1]) (S := [0]) rfl (yG rfl T.zP (zf (av 1) zp (za rfl)) rfl) rfl (by change wB _ vz _ (zE wJ).names _ = true; decide +kernel) (by decide) (λ cl s H fp => (an 0 zdx)) (λ cl s H fp => yJ) (λ cl s H fp => (yO (N := ["_law_b", "_law_a"]) (cap := [none, some 0]) (S := [0]) rfl (yG rfl T.zP (zf (av 1) zp (za rfl)) rfl) rfl (by with_unfolding_all rfl) (by decide) (λ cl s H fp => (an 0 zdB)) (λ cl s H fp => yJ) (λ cl s H fp => (Y7 (zjC rfl) rfl T.zqt Bt.max (zf (av 1) (zf (av 0) zp (za rfl)) (za rfl)) (Bt.n _ rfl) (by decide) rfl rfl)) (λ _ => rfl))) (λ _ => rfl)))) yu)
  refine zj ?_ ?_; exact (xF (yr (yo (hkd _ rfl rfl rfl) (yI hr) .Eq) (zU .Eq) (av 0) aI (yq _)) (zu (yf (yO (N := ["_law_a", "_law_n"]) (cap := [none, some 1]) (S := [0]) rfl (yG rfl T.zP (zf (av 1) zp (za rfl)) rfl) rfl (by change wB _ vz _ (zE wJ).names _ = true; decide +kernel) (by decide) (λ cl s H fp => (an 0 zdN)) (λ cl s H fp => yJ) (λ cl s H fp => (yO (N := ["_law_b", "_law_a"]) (cap := [none, some 0]) (S := [0]) rfl (yG rfl T.zP (zf (av 1) zp (za rfl)) rfl) rfl (by with_unfolding_all rfl) (by decide) (λ cl s H fp => (an 0 zds)) (λ cl s H fp => yJ) (λ cl s H fp => (ax hkd (xj (zg (av 0) (zg (av 1) zN (za rfl)) (za rfl))) (Xw zaE rfl T.ziT Bt.int (zf (zin (yo (hkd _ rfl rfl rfl) (yI hr) .Eq) (av 0) aI (yq _)) zp (za rfl)) (Bt.n _ rfl) (by decide) rfl rfl))) (λ _ => rfl))) (λ _ => rfl)))) yu)
  refine zj ?_ ?_; exact (xF (yr (yo (hkd _ rfl rfl rfl) (yI hr) .Eq) (zU .Eq) (av 0) aI (yq _)) (zu (yf (yO (N := ["_law_a", "_law_n"]) (cap := [none, some 1]) (S := [0]) rfl (yG rfl T.zP (zf (av 1) zp (za rfl)) rfl) rfl (by change wB _ vz _ (zE wJ).names _ = true; decide +kernel) (by decide) (λ cl s H fp => (an 0 zeo)) (λ cl s H fp => yJ) (λ cl s H fp => (yO (N := ["_law_b", "_law_a"]) (cap := [none, some 0]) (S := [0]) rfl (yG rfl T.zP (zf (av 1) zp (za rfl)) rfl) rfl (by with_unfolding_all rfl) (by decide) (λ cl s H fp => (an 0 zdh)) (λ cl s H fp => yJ) (λ cl s H fp => (ax hkd (xj (zg (av 1) (zg (av 0) zN (za rfl)) (za rfl))) (Xw zaE rfl T.ziT Bt.int (zf (zin (yo (hkd _ rfl rfl rfl) (yI hr) .Eq) (av 1) aI (yq _)) zp (za rfl)) (Bt.n _ rfl) (by decide) rfl rfl))) (λ _ => rfl))) (λ _ => rfl)))) yu)
  refine zj ?_ ?_; exact (by refine sv true 2 zaM.nd ?_; exact (xj (by refine zg ?_ ?_ ?_; exact (xg (zg aI (zg aI zN (za rfl)) (za rfl))); refine zg ?_ ?_ ?_; exact (xg (zg aI (zg aI zN (za rfl)) (za rfl))); refine zg ?_ ?_ ?_; exact (xg (zg aI (zg aI zN (za rfl)) (za rfl))); refine zg ?_ ?_ ?_; exact (xg (zg aI (zg aI zN (za rfl)) (za rfl))); exact zN; exact za rfl; exact za rfl; exact za rfl; exact za rfl)))
  exact zu (yf (yO (N := ["_law_one", "_law_maps"]) (cap := [none, some 2]) (S := [0]) rfl (Wl (av 2)) rfl (by change wB _ vz _ (zE wJ).names _ = true; decide +kernel) (by decide) (λ cl s H fp => (an 0 zdT)) (λ cl s H fp => yJ) (λ cl s H fp => (yO (N := ["_law_two", "_law_maps", "_law_one"]) (cap := [none, some 1, some 0]) (S := [0]) rfl (Wl (av 1)) rfl (by with_unfolding_all rfl) (by decide) (λ cl s H fp => (an 0 zcL)) (λ cl s H fp => yJ) (λ cl s H fp => (zgs (ty := .lst) (hkd _ rfl rfl rfl) (zgN (hkd _ rfl rfl rfl) (yI hr)) PySem.F.plainAttrs_list PySem.F.slot_list_index PySem.F.type_list_index (av 1) (by refine zf ?_ ?_ ?_; exact (xg (zg (ax hkd (av 0) (ax hkd (av 2) aI)) (zg (ax hkd (av 0) (ax hkd (av 2) aI)) zN (za rfl)) (za rfl))); exact zp; exact za rfl) rfl rfl rfl rfl rfl)) (λ _ => rfl))) (λ _ => rfl))))
theorem zih (T : Txt K kd mg t) (hkd : KD1 P w K kd) : FnOk P w K mg base CX0 3 t.zam t.zas ["_law_kind", "_law_n", "_law_m", "_law_xs"] (spD K kd Zo) := by
 refine wA (N := zaw) (ps := ["_law_kind", "_law_n", "_law_m", "_law_xs"]) (k := 2) (c := zej) T.zew zgG λ cdv A outer s H E hr => ?_
 exact (by
  refine zj ?_ ?_; exact (xF (yr (yo (hkd _ rfl rfl rfl) (yI hr) .Eq) (zU .Eq) (av 0) aI (yq _)) (zu (yf (zT (zhW T hkd) (hr.mono (by omega)) rfl T.Yq T.zeg.kp T.zhP yM (by refine zf ?_ ?_ ?_; exact (av 1); refine zf ?_ ?_ ?_; exact (av 2); refine zf ?_ ?_ ?_; exact (av 3); exact zp; exact za rfl; exact za rfl; exact za rfl) (by decide) rfl rfl))) yu)
  refine zj ?_ ?_; exact (xF (yr (yo (hkd _ rfl rfl rfl) (yI hr) .Eq) (zU .Eq) (av 0) aI (yq _)) (zu (yf (zT (zfW T hkd) (hr.mono (by omega)) rfl T.Zc T.zbb.kp T.zgo yM (by refine zf ?_ ?_ ?_; exact (av 1); refine zf ?_ ?_ ?_; exact (av 2); refine zf ?_ ?_ ?_; exact (av 3); exact zp; exact za rfl; exact za rfl; exact za rfl) (by decide) rfl rfl))) yu)
  refine zj ?_ ?_; exact (xF (yr (yo (hkd _ rfl rfl rfl) (yI hr) .Lt) (zU .Lt) (av 0) aI (yq _)) (zu (yf (zT (zhI T hkd) (hr.mono (by omega)) rfl T.Yu T.zdY.kp T.zhy yM (by refine zf ?_ ?_ ?_; exact (av 1); refine zf ?_ ?_ ?_; exact (av 2); refine zf ?_ ?_ ?_; exact (av 3); exact zp; exact za rfl; exact za rfl; exact za rfl) (by decide) rfl rfl))) yu)
  exact zu (yf (yO (N := ["_law_c", "_law_xs"]) (cap := [none, some 3]) (S := [0]) rfl (yG rfl T.zP (zf (av 2) zp (za rfl)) rfl) rfl (by change wB _ zaw _ (zE YF).names _ = true; decide +kernel) (by decide) (λ cl s H fp => (an 0 zeG)) (λ cl s H fp => yJ) (λ cl s H fp => (ax hkd (xj (by refine zg ?_ ?_ ?_; exact (xj (by refine zg ?_ ?_ ?_; exact aI; refine zg ?_ ?_ ?_; exact aI; refine zg ?_ ?_ ?_; exact aI; refine zg ?_ ?_ ?_; exact aI; exact zN; exact za rfl; exact za rfl; exact za rfl; exact za rfl)); refine zg ?_ ?_ ?_; exact (xj (by refine zg ?_ ?_ ?_; exact aI; refine zg ?_ ?_ ?_; exact aI; refine zg ?_ ?_ ?_; exact aI; refine zg ?_ ?_ ?_; exact aI; exact zN; exact za rfl; exact za rfl; exact za rfl; exact za rfl)); exact zN; exact za rfl; exact za rfl)) (zx (zy .Mod) (ax hkd (av 1) aI) aI))) (λ _ => rfl))))
theorem Vp (T : Txt K kd mg t) (hkd : KD1 P w K kd) : FnOk P w K mg base CX0 4 t.Vi t.Vf ["_law_kind", "_law_n", "_law_m", "_law_many", "_law_cell"] (spD K kd wk) := by
 refine wA (N := Va) (ps := ["_law_kind", "_law_n", "_law_m", "_law_many", "_law_cell"]) (k := 3) (c := zck) T.Y0 zaS λ cdv A outer s H E hr => ?_
 exact (by
  refine zj ?_ ?_; exact (zbe (z := true) (i := 5) (N := ["_law_k", "_law_kind", "_law_n", "_law_m", "_law_cell"]) (cap := [none, some 0, some 1, some 2, some 4]) (S := [0]) zaS.nd rfl (by exact Or.inl rfl) (by exact Or.inr rfl) rfl rfl (yG rfl T.zP (zf (av 3) zp (za rfl)) rfl) rfl (by change wB _ Va _ (zE ZV).names _ = true; decide +kernel) (by decide) (λ cl s H fp => (an 0 zes)) (λ cl s H fp => yJ) (λ cl s H fp => (zT (zih T hkd) (hr.mono (by omega)) rfl T.Zo T.zew.kp T.zhE yM (by refine zf ?_ ?_ ?_; exact (av 1); refine zf ?_ ?_ ?_; exact (av 2); refine zf ?_ ?_ ?_; exact (av 3); refine zf ?_ ?_ ?_; exact (zT (wW T hkd) (hr.mono (by omega)) rfl T.yg T.wI.kp T.wY yM (zf (zx (zy .Add) (av 4) (zx (zy .Mult) aI (av 0))) (zf aI zp (za rfl)) (za rfl)) (by decide) rfl rfl); exact zp; exact za rfl; exact za rfl; exact za rfl; exact za rfl) (by decide) rfl rfl)) (λ _ => rfl))
  exact zu (yf (xg (by refine zg ?_ ?_ ?_; exact (av 1); refine zg ?_ ?_ ?_; exact (zT (zhr T hkd) (hr.mono (by omega)) rfl T.v7 T.zcr.kp T.zgJ yM (zf (av 0) (zf (av 1) zp (za rfl)) (za rfl)) (by decide) rfl rfl); refine zg ?_ ?_ ?_; exact (av 5); exact zN; exact za rfl; exact za rfl; exact za rfl))))
theorem zgu (T : Txt K kd mg t) (hkd : KD1 P w K kd) : FnOk P w K mg base CX0 1 t.Wg t.Wb ["_law_one", "_law_other", "_law_m"] (spD K kd Zm) := by
 refine wA (N := XH) (ps := ["_law_one", "_law_other", "_law_m"]) (k := 0) (c := zbt) T.zaY yz λ cdv A outer s H E hr => ?_
 exact (by
  refine zj ?_ ?_; exact (by refine sv true 3 yz.nd ?_; exact (zx (zy .Mult) (ax hkd (av 0) aI) (ax hkd (av 1) aI)))
  refine zj ?_ ?_; exact (by refine sv true 4 yz.nd ?_; exact (ax hkd (av 1) aI))
  refine zj ?_ ?_; exact (by refine sv false 5 yz.nd ?_; exact (xj zN))
  refine zj ?_ ?_; exact (yQ PassesOwn.never rfl (yC rfl T.zP (zf (av 3) zp (za rfl)) rfl) (an 6 yz.nd) (by
  refine zj ?_ ?_; exact (by refine sv true 7 yz.nd ?_; exact (ax hkd (ax hkd (av 0) aI) (zx (zy .FloorDiv) (av 6) (av 4))))
  refine zj ?_ ?_; exact (by refine sv true 8 yz.nd ?_; exact (ax hkd (ax hkd (av 1) aI) (zx (zy .Mod) (av 6) (av 4))))
  exact zu (vV (Zu wG Z4 PySem.F.slot_list_append PySem.F.type_list_append (pv 5) (zg (yO (N := ["_law_q", "_law_by", "_law_there", "_law_here"]) (cap := [none, some 4, some 8, some 7]) (S := [0]) rfl (yG rfl T.zP (zf (av 3) zp (za rfl)) rfl) rfl (by change wB _ XH _ (zE Zd).names _ = true; decide +kernel) (by decide) (λ cl s H fp => (an 0 zcO)) (λ cl s H fp => yJ) (λ cl s H fp => (zx (zy .Add) (zx (zy .Mult) (ax hkd (av 3) (zx (zy .FloorDiv) (av 0) (av 1))) (av 1)) (ax hkd (av 2) (zx (zy .Mod) (av 0) (av 1))))) (λ _ => rfl)) zN (za rfl)) rfl rfl rfl rfl rfl) rfl)) (λ _ => rfl))
  refine zj ?_ ?_; exact (by refine sv false 9 yz.nd ?_; exact (xj zN))
  refine zj ?_ ?_; exact (yQ PassesOwn.never rfl (zic rfl T.zkC (zf (ax hkd (av 0) aI) (zf (ax hkd (av 1) aI) zp (za rfl)) (za rfl)) rfl rfl) (Z2 rfl (zX (an 7 yz.nd) (zX (an 8 yz.nd) vY rfl) rfl) rfl rfl) (by
  refine zj ?_ ?_; exact (by refine sv false 10 yz.nd ?_; exact (xj zN))
  refine zj ?_ ?_; exact (yQ PassesOwn.never rfl (yC rfl T.zP (zf (av 2) zp (za rfl)) rfl) (an 11 yz.nd) (by
  refine zj ?_ ?_; exact (by refine sv false 12 yz.nd ?_; exact (xj zN))
  refine zj ?_ ?_; exact (yQ PassesOwn.never rfl (yC rfl T.zP (zf (av 3) zp (za rfl)) rfl) (an 6 yz.nd) (by
  refine zj ?_ ?_; exact (by refine sv true 13 yz.nd ?_; exact (zx (zy .Mult) (ax hkd (ax hkd (av 7) (av 11)) (zx (zy .FloorDiv) (av 6) (av 4))) (av 4)))
  exact zu (vV (Zu wG Z4 PySem.F.slot_list_append PySem.F.type_list_append (pv 12) (zg (zx (zy .Add) (av 13) (ax hkd (ax hkd (av 8) (av 11)) (zx (zy .Mod) (av 6) (av 4)))) zN (za rfl)) rfl rfl rfl rfl rfl) rfl)) (λ _ => rfl))
  exact zu (vV (Zu wG Z4 PySem.F.slot_list_append PySem.F.type_list_append (pv 10) (zg (av 12) zN (za rfl)) rfl rfl rfl rfl rfl) rfl)) (λ _ => rfl))
  exact zu (vV (Zu wG Z4 PySem.F.slot_list_append PySem.F.type_list_append (pv 9) (zg (av 10) zN (za rfl)) rfl rfl rfl rfl rfl) rfl)) (λ _ => rfl))
  exact zu (yf (xg (by refine zg ?_ ?_ ?_; exact (av 3); refine zg ?_ ?_ ?_; exact (av 5); refine zg ?_ ?_ ?_; exact (av 9); exact zN; exact za rfl; exact za rfl; exact za rfl))))
theorem zhQ (T : Txt K kd mg t) (hkd : KD1 P w K kd) : FnOk P w K mg base CX0 5 t.zax t.zaI ["_law_cell", "_law_m", "_law_many"] (spD K kd Yv) := by
 refine wA (N := zdk) (ps := ["_law_cell", "_law_m", "_law_many"]) (k := 4) (c := zdW) T.zdR wV λ cdv A outer s H E hr => ?_
 exact (by
  refine zj ?_ ?_; exact (by refine sv true 3 wV.nd ?_; exact (zT (wW T hkd) (hr.mono (by omega)) rfl T.yg T.wI.kp T.wY yM (zf (av 0) (zf aI zp (za rfl)) (za rfl)) (by decide) rfl rfl))
  refine zj ?_ ?_; exact (by refine sv true 4 wV.nd ?_; exact (zx (zy .Mod) (ax hkd (av 3) aI) aI))
  refine zj ?_ ?_; exact (xF (yr (yo (hkd _ rfl rfl rfl) (yI hr) .Gt) (zU .Gt) (av 4) aI (yq _)) (by
  refine zj ?_ ?_; exact (by refine sv true 5 wV.nd ?_; exact (ax hkd (xj (by refine zg ?_ ?_ ?_; exact (xg (zg aI (zg aI zN (za rfl)) (za rfl))); refine zg ?_ ?_ ?_; exact (xg (zg aI (zg aI zN (za rfl)) (za rfl))); refine zg ?_ ?_ ?_; exact (xg (zg aI (zg aI zN (za rfl)) (za rfl))); refine zg ?_ ?_ ?_; exact (xg (zg aI (zg aI zN (za rfl)) (za rfl))); refine zg ?_ ?_ ?_; exact (xg (zg aI (zg aI zN (za rfl)) (za rfl))); refine zg ?_ ?_ ?_; exact (xg (zg aI (zg aI zN (za rfl)) (za rfl))); exact zN; exact za rfl; exact za rfl; exact za rfl; exact za rfl; exact za rfl; exact za rfl)) (zx (zy .Mod) (ax hkd (av 3) aI) aI)))
  refine zj ?_ ?_; exact (by refine sv true 6 wV.nd ?_; exact (zT (Vp T hkd) (hr.mono (by omega)) rfl T.wk T.Y0.kp T.W6 yM (by refine zf ?_ ?_ ?_; exact (zx (zy .Mod) (ax hkd (av 3) aI) aI); refine zf ?_ ?_ ?_; exact (ax hkd (av 5) aI); refine zf ?_ ?_ ?_; exact (av 1); refine zf ?_ ?_ ?_; exact (av 2); refine zf ?_ ?_ ?_; exact (ax hkd (av 3) aI); exact zp; exact za rfl; exact za rfl; exact za rfl; exact za rfl; exact za rfl) (by decide) rfl rfl))
  exact zu (yf (zT (zgu T hkd) (hr.mono (by omega)) rfl T.Zm T.zaY.kp T.zfU yM (by refine zf ?_ ?_ ?_; exact (av 6); refine zf ?_ ?_ ?_; exact (zT (Vp T hkd) (hr.mono (by omega)) rfl T.wk T.Y0.kp T.W6 yM (by refine zf ?_ ?_ ?_; exact (zx (zy .Mod) (ax hkd (av 3) aI) aI); refine zf ?_ ?_ ?_; exact (ax hkd (av 5) aI); refine zf ?_ ?_ ?_; exact (av 1); refine zf ?_ ?_ ?_; exact (av 2); refine zf ?_ ?_ ?_; exact (zx (zy .Add) (ax hkd (av 3) aI) aI); exact zp; exact za rfl; exact za rfl; exact za rfl; exact za rfl; exact za rfl) (by decide) rfl rfl); refine zf ?_ ?_ ?_; exact (av 1); exact zp; exact za rfl; exact za rfl; exact za rfl) (by decide) rfl rfl))) yu)
  refine zj ?_ ?_; exact (by refine sv true 7 wV.nd ?_; exact (ax hkd (xj (by refine zg ?_ ?_ ?_; exact aI; refine zg ?_ ?_ ?_; exact aI; refine zg ?_ ?_ ?_; exact aI; refine zg ?_ ?_ ?_; exact aI; refine zg ?_ ?_ ?_; exact aI; refine zg ?_ ?_ ?_; exact aI; refine zg ?_ ?_ ?_; exact aI; refine zg ?_ ?_ ?_; exact aI; exact zN; exact za rfl; exact za rfl; exact za rfl; exact za rfl; exact za rfl; exact za rfl; exact za rfl; exact za rfl)) (zx (zy .Mod) (ax hkd (av 3) aI) aI)))
  refine zj ?_ ?_; exact (xF (AW.at_ (zdz (yr (yo (hkd _ rfl rfl rfl) (yI hr) .Eq) (zU .Eq) (av 4) aI (yq _)) (Yr (yr (yo (hkd _ rfl rfl rfl) (yI hr) .Eq) (zU .Eq) (zx (zy .Mod) (ax hkd (av 3) aI) aI) aI (yq _))))) (zu (by refine sv true 7 wV.nd ?_; exact aI)) yu)
  refine zj ?_ ?_; exact (xF (yr (yo (hkd _ rfl rfl rfl) (yI hr) .Eq) (zU .Eq) (av 4) aI (yq _)) (zu (by refine sv true 7 wV.nd ?_; exact aI)) yu)
  exact zu (yf (zT (Vp T hkd) (hr.mono (by omega)) rfl T.wk T.Y0.kp T.W6 yM (by refine zf ?_ ?_ ?_; exact (av 4); refine zf ?_ ?_ ?_; exact (av 7); refine zf ?_ ?_ ?_; exact (av 1); refine zf ?_ ?_ ?_; exact (av 2); refine zf ?_ ?_ ?_; exact (ax hkd (av 3) aI); exact zp; exact za rfl; exact za rfl; exact za rfl; exact za rfl; exact za rfl) (by decide) rfl rfl)))
theorem zhc (T : Txt K kd mg t) (hkd : KD1 P w K kd) : FnOk P w K mg base CX0 2 t.WW t.WY ["_law_cell", "_law_n"] (spD K kd ZQ) := by
 refine wA (N := zcB) (ps := ["_law_cell", "_law_n"]) (k := 1) (c := zcj) T.zct Z9 λ cdv A outer s H E hr => ?_
 exact (by
  refine zj ?_ ?_; exact (by refine sv false 2 Z9.nd ?_; exact (zfc rfl rfl T.zP rfl T.W5 (zf (av 1) zp (za rfl)) rfl rfl))
  refine zj ?_ ?_; exact (by refine sv false 3 Z9.nd ?_; exact (xj zN))
  refine zj ?_ ?_; exact (yQ PassesOwn.never rfl (zgt (zT (wW T hkd) (hr.mono (by omega)) rfl T.yg T.wI.kp T.wY yM (zf (av 0) (zf (av 1) zp (za rfl)) (za rfl)) (by decide) rfl rfl)) (an 4 Z9.nd) (zu (vV (Zu wG Z4 PySem.F.slot_list_append PySem.F.type_list_append (pv 3) (zg (Zu zkn zka PySem.F.slot_list_pop PySem.F.type_list_pop (pv 2) (zg (zx (zy .Mod) (av 4) (Y7 (Yn (hkd _ rfl rfl rfl)) rfl T.zek Bt.len (zf (av 2) zp (za rfl)) (Bt.n _ rfl) (by decide) rfl rfl)) zN (za rfl)) rfl rfl rfl rfl rfl) zN (za rfl)) rfl rfl rfl rfl rfl) rfl)) (λ _ => rfl))
  exact zu (yf (av 3)))
theorem zgU (T : Txt K kd mg t) (hkd : KD1 P w K kd) : FnOk P w K mg base CX0 2 t.W0 t.WN ["_law_cell", "_law_n", "_law_names_here"] (spD K kd v6) := by
 refine wA (N := WK) (ps := ["_law_cell", "_law_n", "_law_names_here"]) (k := 1) (c := zco) T.zcn Yc λ cdv A outer s H E hr => ?_
 exact (by
  refine zj ?_ ?_; exact (by refine sv false 3 Yc.nd ?_; exact (xj zN))
  refine zj ?_ ?_; exact (yQ PassesOwn.never rfl (zic rfl T.zkC (zf (zT (wW T hkd) (hr.mono (by omega)) rfl T.yg T.wI.kp T.wY yM (zf (av 0) (zf (Y7 (Yn (hkd _ rfl rfl rfl)) rfl T.zek Bt.len (zf (av 2) zp (za rfl)) (Bt.n _ rfl) (by decide) rfl rfl) zp (za rfl)) (za rfl)) (by decide) rfl rfl) (zf (av 2) zp (za rfl)) (za rfl)) rfl rfl) (Z2 rfl (zX (an 4 Yc.nd) (zX (an 5 Yc.nd) vY rfl) rfl) rfl rfl) (zu (vV (Zu wG Z4 PySem.F.slot_list_append PySem.F.type_list_append (pv 3) (by refine zg ?_ ?_ ?_; exact (xg (zg (av 5) (zg (yO (N := ["_law_v", "_law_x"]) (cap := [none, some 4]) (S := [0]) rfl (yG rfl T.zP (zf (av 1) zp (za rfl)) rfl) rfl (by change wB _ WK _ (zE ZR).names _ = true; decide +kernel) (by decide) (λ cl s H fp => (an 0 zef)) (λ cl s H fp => (ziJ (yr (yo (hkd _ rfl rfl rfl) (yI hr) .Eq) (zU .Eq) (zx (zy .Mod) (zx (zy .FloorDiv) (av 1) (ax hkd (xj (by refine zg ?_ ?_ ?_; exact aI; refine zg ?_ ?_ ?_; exact aI; refine zg ?_ ?_ ?_; exact aI; refine zg ?_ ?_ ?_; exact aI; refine zg ?_ ?_ ?_; exact aI; refine zg ?_ ?_ ?_; exact aI; refine zg ?_ ?_ ?_; exact aI; refine zg ?_ ?_ ?_; exact aI; exact zN; exact za rfl; exact za rfl; exact za rfl; exact za rfl; exact za rfl; exact za rfl; exact za rfl; exact za rfl)) (av 0))) aI) aI (yq _)))) (λ cl s H fp => (av 0)) (λ _ => rfl)) zN (za rfl)) (za rfl))); exact zN; exact za rfl) rfl rfl rfl rfl rfl) rfl)) (λ _ => rfl))
  exact zu (yf (av 3)))
theorem Xg (T : Txt K kd mg t) (hkd : KD1 P w K kd) : FnOk P w K mg base CX0 6 t.Xd t.Xi ["_law_cell", "_law_other"] (spD K kd xf) := by
 refine wA (N := vN) (ps := ["_law_cell", "_law_other"]) (k := 5) (c := VR) T.ZG yd λ cdv A outer s H E hr => ?_
 exact (by
  refine zj ?_ ?_; exact (by refine sv true 2 yd.nd ?_; exact (zT (wW T hkd) (hr.mono (by omega)) rfl T.yg T.wI.kp T.wY yM (zf (av 1) (zf aI zp (za rfl)) (za rfl)) (by decide) rfl rfl))
  refine zj ?_ ?_; exact (by refine sv true 3 yd.nd ?_; exact (zx (zy .Add) aI (zx (zy .Mod) (ax hkd (av 2) aI) aI)))
  refine zj ?_ ?_; exact (xF (yr (yo (hkd _ rfl rfl rfl) (yI hr) .Eq) (zU .Eq) (zx (zy .Mod) (zx (zy .FloorDiv) (ax hkd (av 2) aI) aI) aI) aI (yq _)) (zu (by refine sv true 3 yd.nd ?_; exact (zx (zy .Add) aI (zx (zy .Mod) (zx (zy .FloorDiv) (ax hkd (av 2) aI) aI) aI)))) yu)
  refine zj ?_ ?_; exact (by refine sv true 4 yd.nd ?_; exact (ax hkd (xj (by refine zg ?_ ?_ ?_; exact aI; refine zg ?_ ?_ ?_; exact aI; refine zg ?_ ?_ ?_; exact aI; refine zg ?_ ?_ ?_; exact aI; refine zg ?_ ?_ ?_; exact aI; refine zg ?_ ?_ ?_; exact aI; refine zg ?_ ?_ ?_; exact aI; refine zg ?_ ?_ ?_; exact aI; exact zN; exact za rfl; exact za rfl; exact za rfl; exact za rfl; exact za rfl; exact za rfl; exact za rfl; exact za rfl)) (zx (zy .Mod) (ax hkd (av 2) aI) aI)))
  refine zj ?_ ?_; exact (xF (yr (yo (hkd _ rfl rfl rfl) (yI hr) .Gt) (zU .Gt) (av 4) aI (yq _)) (zu (by refine sv true 3 yd.nd ?_; exact (zx (zy .Add) aI (zx (zy .Mod) (av 3) aI)))) yu)
  refine zj ?_ ?_; exact (zbD (zT (zhQ T hkd) (hr.mono (by omega)) rfl T.Yv T.zdR.kp T.zhA yM (by refine zf ?_ ?_ ?_; exact (av 0); refine zf ?_ ?_ ?_; exact (av 3); refine zf ?_ ?_ ?_; exact (av 4); exact zp; exact za rfl; exact za rfl; exact za rfl) (by decide) rfl rfl) (Z2 rfl (zX (an 5 yd.nd) (zX (an 6 yd.nd) (zX (an 7 yd.nd) vY rfl) rfl) rfl) rfl rfl) rfl rfl rfl)
  refine zj ?_ ?_; exact (by refine sv true 8 yd.nd ?_; exact (zT (zhc T hkd) (hr.mono (by omega)) rfl T.ZQ T.zct.kp T.zgL yM (zf (ax hkd (av 2) aI) (zf (av 5) zp (za rfl)) (za rfl)) (by decide) rfl rfl))
  refine zj ?_ ?_; exact (by refine sv true 9 yd.nd ?_; exact (yO (N := ["_law_v", "_law_order_here"]) (cap := [none, some 8]) (S := [0]) rfl (yG rfl T.zP (zf (av 5) zp (za rfl)) rfl) rfl (by change wB _ vN _ (zE wM).names _ = true; decide +kernel) (by decide) (λ cl s H fp => (an 0 zbA)) (λ cl s H fp => yJ) (λ cl s H fp => (zgs (ty := .lst) (hkd _ rfl rfl rfl) (zgN (hkd _ rfl rfl rfl) (yI hr)) PySem.F.plainAttrs_list PySem.F.slot_list_index PySem.F.type_list_index (av 1) (zf (av 0) zp (za rfl)) rfl rfl rfl rfl rfl)) (λ _ => rfl)))
  refine zj ?_ ?_; exact (zbe (z := true) (i := 10) (N := ["_law_a", "_law_order_here", "_law_n", "_law_join", "_law_back"]) (cap := [none, some 8, some 5, some 6, some 9]) (S := [0]) yd.nd rfl (by exact Or.inl rfl) (by exact Or.inr rfl) rfl rfl (yG rfl T.zP (zf (av 5) zp (za rfl)) rfl) rfl (by change wB _ vN _ (zE wM).names _ = true; decide +kernel) (by decide) (λ cl s H fp => (an 0 zby)) (λ cl s H fp => yJ) (λ cl s H fp => (yO (N := ["_law_b", "_law_order_here", "_law_join", "_law_back", "_law_a"]) (cap := [none, some 1, some 3, some 4, some 0]) (S := [0]) rfl (yG rfl T.zP (zf (av 2) zp (za rfl)) rfl) rfl (by with_unfolding_all rfl) (by decide) (λ cl s H fp => (an 0 zbT)) (λ cl s H fp => yJ) (λ cl s H fp => (ax hkd (av 1) (ax hkd (ax hkd (av 2) (ax hkd (av 3) (av 4))) (ax hkd (av 3) (av 0))))) (λ _ => rfl))) (λ _ => rfl))
  refine zj ?_ ?_; exact (by refine sv true 11 yd.nd ?_; exact (zT (zgK T hkd) (hr.mono (by omega)) rfl T.ZX T.zcl.kp T.zhd yM (zf (ax hkd (av 2) aI) (zf aI zp (za rfl)) (za rfl)) (by decide) rfl rfl))
  refine zj ?_ ?_; exact (by refine sv false 12 yd.nd ?_; exact (xj zN))
  refine zj ?_ ?_; exact (yQ PassesOwn.never rfl (zic rfl T.zkC (zf (ZM (av 11) Vx (vm aI)) (zf (av 7) zp (za rfl)) (za rfl)) rfl rfl) (Z2 rfl (zX (an 13 yd.nd) (zX (an 14 yd.nd) vY rfl) rfl) rfl rfl) (zu (vV (Zu wG Z4 PySem.F.slot_list_append PySem.F.type_list_append (pv 12) (by refine zg ?_ ?_ ?_; exact (xg (zg (av 13) (zg (yO (N := ["_law_row", "_law_order_here", "_law_n", "_law_back"]) (cap := [none, some 8, some 5, some 9]) (S := [0]) rfl (Wl (av 14)) rfl (by change wB _ vN _ (zE wM).names _ = true; decide +kernel) (by decide) (λ cl s H fp => (an 0 zbX)) (λ cl s H fp => yJ) (λ cl s H fp => (yO (N := ["_law_a", "_law_order_here", "_law_row", "_law_back"]) (cap := [none, some 1, some 0, some 3]) (S := [0]) rfl (yG rfl T.zP (zf (av 2) zp (za rfl)) rfl) rfl (by with_unfolding_all rfl) (by decide) (λ cl s H fp => (an 0 zbE)) (λ cl s H fp => yJ) (λ cl s H fp => (ax hkd (av 1) (ax hkd (av 2) (ax hkd (av 3) (av 0))))) (λ _ => rfl))) (λ _ => rfl)) zN (za rfl)) (za rfl))); exact zN; exact za rfl) rfl rfl rfl rfl rfl) rfl)) (λ _ => rfl))
  refine zj ?_ ?_; exact (by refine sv true 15 yd.nd ?_; exact (zT (zgU T hkd) (hr.mono (by omega)) rfl T.v6 T.zcn.kp T.zhg yM (by refine zf ?_ ?_ ?_; exact (ax hkd (av 2) aI); refine zf ?_ ?_ ?_; exact (av 5); refine zf ?_ ?_ ?_; exact (ZM (av 11) (vm aI) (vm (zx (zy .Add) aI (ax hkd (xj (by refine zg ?_ ?_ ?_; exact aI; refine zg ?_ ?_ ?_; exact aI; refine zg ?_ ?_ ?_; exact aI; refine zg ?_ ?_ ?_; exact aI; refine zg ?_ ?_ ?_; exact aI; refine zg ?_ ?_ ?_; exact aI; refine zg ?_ ?_ ?_; exact aI; refine zg ?_ ?_ ?_; exact aI; exact zN; exact za rfl; exact za rfl; exact za rfl; exact za rfl; exact za rfl; exact za rfl; exact za rfl; exact za rfl)) (zx (zy .Mod) (ax hkd (av 2) aI) aI))))); exact zp; exact za rfl; exact za rfl; exact za rfl) (by decide) rfl rfl))
  exact zu (yf (xg (by refine zg ?_ ?_ ?_; exact (av 5); refine zg ?_ ?_ ?_; exact (av 3); refine zg ?_ ?_ ?_; exact (av 10); refine zg ?_ ?_ ?_; exact (ax hkd (av 8) aI); refine zg ?_ ?_ ?_; exact (av 12); refine zg ?_ ?_ ?_; exact (av 15); exact zN; exact za rfl; exact za rfl; exact za rfl; exact za rfl; exact za rfl; exact za rfl))))
theorem zhx (T : Txt K kd mg t) (hkd : KD1 P w K kd) : FnOk P w K mg base CX0 2 t.zar t.zaC ["_law_algebra_here", "_law_cell"] (spD K kd Zn) := by
 refine wA (N := Xz) (ps := ["_law_algebra_here", "_law_cell"]) (k := 1) (c := zem) T.zdv yX λ cdv A outer s H E hr => ?_
 exact (by
  refine zj ?_ ?_; exact (zbD (av 0) (Z2 rfl (zX (an 2 yX.nd) (zX (an 3 yX.nd) (zX (an 4 yX.nd) (zX (an 5 yX.nd) (zX (an 6 yX.nd) (zX (an 7 yX.nd) vY rfl) rfl) rfl) rfl) rfl) rfl) rfl rfl) rfl rfl rfl)
  refine zj ?_ ?_; exact (by refine sv true 8 yX.nd ?_; exact (zT (wW T hkd) (hr.mono (by omega)) rfl T.yg T.wI.kp T.wY yM (zf (av 1) (zf aI zp (za rfl)) (za rfl)) (by decide) rfl rfl))
  refine zj ?_ ?_; exact (zbe (z := false) (i := 9) (N := ["_law_row"]) (cap := [none]) (S := [0]) yX.nd rfl (by exact Or.inl rfl) (by exact Or.inr rfl) rfl rfl (Wl (av 4)) rfl (by change wB _ Xz _ (zE Zt).names _ = true; decide +kernel) (by decide) (λ cl s H fp => (an 0 zeK)) (λ cl s H fp => yJ) (λ cl s H fp => (Xw Yo rfl T.W5 Bt.list (zf (av 0) zp (za rfl)) (Bt.n _ rfl) (by decide) rfl rfl)) (λ _ => rfl))
  refine zj ?_ ?_; exact (zbe (z := false) (i := 10) (N := ["_law_name", "_law_rows_here"]) (cap := [none, none]) (S := [0, 1]) yX.nd rfl (by exact Or.inl rfl) (by exact Or.inr rfl) rfl rfl (Wl (av 6)) rfl (by change wB _ Xz _ (zE Zt).names _ = true; decide +kernel) (by decide) (λ cl s H fp => (Z2 rfl (zX (an 0 zab) (zX (an 1 zab) vY rfl) rfl) rfl rfl)) (λ cl s H fp => yJ) (λ cl s H fp => (xg (zg (av 0) (zg (yO (N := ["_law_row"]) (cap := [none]) (S := [0]) rfl (Wl (av 1)) rfl (by with_unfolding_all rfl) (by decide) (λ cl s H fp => (an 0 zeN)) (λ cl s H fp => yJ) (λ cl s H fp => (Xw Yo rfl T.W5 Bt.list (zf (av 0) zp (za rfl)) (Bt.n _ rfl) (by decide) rfl rfl)) (λ _ => rfl)) zN (za rfl)) (za rfl)))) (λ _ => rfl))
  refine zj ?_ ?_; exact (by refine sv true 11 yX.nd ?_; exact (zx (zy .Mod) (ax hkd (av 8) aI) aI))
  refine zj ?_ ?_; exact (xF (yr (yo (hkd _ rfl rfl rfl) (yI hr) .Eq) (zU .Eq) (av 11) aI (yq _)) (zu (by refine sv true 5 yX.nd ?_; exact (zx (zy .Mod) (ax hkd (av 8) aI) (av 2)))) yu)
  refine zj ?_ ?_; exact (xF (AW.at_ (zdS (yr (yo (hkd _ rfl rfl rfl) (yI hr) .Eq) (zU .Eq) (av 11) aI (yq _)) (Yp (yr (yo (hkd _ rfl rfl rfl) (yI hr) .Eq) (zU .Eq) (av 11) aI (yq _))))) (zu (zmQ (pv 9) (zav (zep (pv 8) X6 (λ _ _ => rfl)) (Xo (pv 2))) (λ _ _ => rfl) (zav (zep (pv 8) X6 (λ _ _ => rfl)) (Xo (pv 2))) (zav (zep (pv 8) X6 (λ _ _ => rfl)) (Xo (pv 2))) (λ _ => rfl) rfl rfl rfl)) yu)
  refine zj ?_ ?_; exact (xF (AW.at_ (zdz (yr (yo (hkd _ rfl rfl rfl) (yI hr) .Gt) (zU .Gt) (av 11) aI (yq _)) (Yr (yr (yo (hkd _ rfl rfl rfl) (yI hr) .NotEq) (zU .NotEq) (av 10) (xj zN) (yq _))))) (zmk (y := 12) (n := 1) yX.nd rfl (by exact Or.inl rfl) (by exact Or.inr rfl) (pv 10) (zav (zep (pv 8) X6 (λ _ _ => rfl)) (zot rfl T.zek Bt.len (pv 10) rfl rfl)) (λ _ _ => rfl) zfZ (λ _ _ => rfl) rfl (pv 12) (zav (zep (pv 8) X6 (λ _ _ => rfl)) (Xo (pv 3))) (λ _ _ => rfl) (zav (zep (pv 8) X6 (λ _ _ => rfl)) (Xo (pv 2))) (zav (zep (pv 8) X6 (λ _ _ => rfl)) (Xo (pv 2))) (λ _ => rfl) rfl rfl rfl) yu)
  exact zu (yf (xg (by refine zg ?_ ?_ ?_; exact (av 2); refine zg ?_ ?_ ?_; exact (av 3); refine zg ?_ ?_ ?_; exact (av 9); refine zg ?_ ?_ ?_; exact (av 5); refine zg ?_ ?_ ?_; exact (av 10); refine zg ?_ ?_ ?_; exact (av 7); exact zN; exact za rfl; exact za rfl; exact za rfl; exact za rfl; exact za rfl; exact za rfl))))
theorem zeB (T : Txt K kd mg t) (hkd : KD1 P w K kd) : FnOk P w K mg base CX0 1 t.Xa t.Xm ["_law_n", "_law_join", "_law_nothing"] (spD K kd vM) := by
 refine wA (N := V7) (ps := ["_law_n", "_law_join", "_law_nothing"]) (k := 0) (c := V1) T.zad vq λ cdv A outer s H E hr => ?_
 exact (by
  refine zj ?_ ?_; exact (yQ PassesOwn.never rfl (yC rfl T.zP (zf (av 0) zp (za rfl)) rfl) (an 3 vq.nd) (zu (xF (AW.at_ (zdS (yr (yo (hkd _ rfl rfl rfl) (yI hr) .NotEq) (zU .NotEq) (ax hkd (ax hkd (av 1) (av 2)) (av 3)) (av 3) (yq _)) (Yp (yr (yo (hkd _ rfl rfl rfl) (yI hr) .NotEq) (zU .NotEq) (ax hkd (ax hkd (av 1) (av 3)) (av 2)) (av 3) (yq _))))) (zu (yf (xg (zg aS (zg (av 3) zN (za rfl)) (za rfl))))) yu)) (λ _ => rfl))
  refine zj ?_ ?_; exact (yQ PassesOwn.never rfl (yC rfl T.zP (zf (av 0) zp (za rfl)) rfl) (an 3 vq.nd) (zu (yQ PassesOwn.never rfl (yC rfl T.zP (zf (av 0) zp (za rfl)) rfl) (an 4 vq.nd) (zu (yQ PassesOwn.never rfl (yC rfl T.zP (zf (av 0) zp (za rfl)) rfl) (an 5 vq.nd) (zu (xF (yr (yo (hkd _ rfl rfl rfl) (yI hr) .NotEq) (zU .NotEq) (ax hkd (ax hkd (av 1) (ax hkd (ax hkd (av 1) (av 3)) (av 4))) (av 5)) (ax hkd (ax hkd (av 1) (av 3)) (ax hkd (ax hkd (av 1) (av 4)) (av 5))) (yq _)) (zu (yf (xg (by refine zg ?_ ?_ ?_; exact aS; refine zg ?_ ?_ ?_; exact (av 3); refine zg ?_ ?_ ?_; exact (av 4); refine zg ?_ ?_ ?_; exact (av 5); exact zN; exact za rfl; exact za rfl; exact za rfl; exact za rfl)))) yu)) (λ _ => rfl))) (λ _ => rfl))) (λ _ => rfl))
  exact zu (yf aZ))
theorem zgY (T : Txt K kd mg t) (hkd : KD1 P w K kd) : FnOk P w K mg base CX0 1 t.Vh t.W8 ["_law_n", "_law_m", "_law_join", "_law_name", "_law_rows_here"] (spD K kd v8) := by
 refine wA (N := zcs) (ps := ["_law_n", "_law_m", "_law_join", "_law_name", "_law_rows_here"]) (k := 0) (c := zcg) T.zcA wK λ cdv A outer s H E hr => ?_
 exact (by
  refine zj ?_ ?_; exact (yQ PassesOwn.never rfl (yC rfl T.zP (zf (zx (zy .Mult) (av 0) (av 1)) zp (za rfl)) rfl) (an 5 wK.nd) (zu (yQ PassesOwn.never rfl (yC rfl T.zP (zf (zx (zy .Mult) (av 0) (av 1)) zp (za rfl)) rfl) (an 6 wK.nd) (by
  refine zj ?_ ?_; exact (zbD (Y7 zeS rfl T.zhu Bt.divmod (zf (av 5) (zf (av 1) zp (za rfl)) (za rfl)) (Bt.n _ rfl) (by decide) rfl rfl) (Z2 rfl (zX (an 7 wK.nd) (zX (an 8 wK.nd) vY rfl) rfl) rfl rfl) rfl rfl rfl)
  refine zj ?_ ?_; exact (zbD (Y7 zeS rfl T.zhu Bt.divmod (zf (av 6) (zf (av 1) zp (za rfl)) (za rfl)) (Bt.n _ rfl) (by decide) rfl rfl) (Z2 rfl (zX (an 9 wK.nd) (zX (an 10 wK.nd) vY rfl) rfl) rfl rfl) rfl rfl rfl)
  refine zj ?_ ?_; exact (by refine sv true 11 wK.nd ?_; exact (ax hkd (ax hkd (av 2) (ax hkd (ax hkd (av 4) (av 8)) (av 7))) (ax hkd (ax hkd (av 4) (av 10)) (av 9))))
  exact zu (xF (yr (yo (hkd _ rfl rfl rfl) (yI hr) .NotEq) (zU .NotEq) (ax hkd (ax hkd (av 4) (zx (zy .Mod) (zx (zy .Add) (av 8) (av 10)) (av 1))) (ax hkd (ax hkd (av 2) (av 7)) (av 9))) (av 11) (yq _)) (zu (yf (xg (by refine zg ?_ ?_ ?_; exact aS; refine zg ?_ ?_ ?_; exact (av 3); refine zg ?_ ?_ ?_; exact (av 7); refine zg ?_ ?_ ?_; exact (av 8); refine zg ?_ ?_ ?_; exact (av 9); refine zg ?_ ?_ ?_; exact (av 10); exact zN; exact za rfl; exact za rfl; exact za rfl; exact za rfl; exact za rfl; exact za rfl)))) yu)) (λ _ => rfl))) (λ _ => rfl))
  exact zu (yf aZ))
theorem zgP (T : Txt K kd mg t) (hkd : KD1 P w K kd) : FnOk P w K mg base CX0 2 t.Vd t.WQ ["_law_algebra_here"] (spD K kd ZP) := by
 refine wA (N := zcv) (ps := ["_law_algebra_here"]) (k := 1) (c := zcw) T.zcd yU λ cdv A outer s H E hr => ?_
 exact (by
  refine zj ?_ ?_; exact (zbD (av 0) (Z2 rfl (zX (an 1 yU.nd) (zX (an 2 yU.nd) (zX (an 3 yU.nd) (zX (an 4 yU.nd) (zX (an 5 yU.nd) (zX (an 6 yU.nd) vY rfl) rfl) rfl) rfl) rfl) rfl) rfl rfl) rfl rfl rfl)
  refine zj ?_ ?_; exact (by refine sv true 7 yU.nd ?_; exact (zT (zeB T hkd) (hr.mono (by omega)) rfl T.vM T.zad.kp T.zeM yM (by refine zf ?_ ?_ ?_; exact (av 1); refine zf ?_ ?_ ?_; exact (av 3); refine zf ?_ ?_ ?_; exact (av 4); exact zp; exact za rfl; exact za rfl; exact za rfl) (by decide) rfl rfl))
  refine zj ?_ ?_; exact (yQ PassesOwn.never rfl (zgt (av 5)) (Z2 rfl (zX (an 8 yU.nd) (zX (an 9 yU.nd) vY rfl) rfl) rfl rfl) (by
  refine zj ?_ ?_; exact (xF (AW.at_ (zdz (yr (yo (hkd _ rfl rfl rfl) (yI hr) .Is) (zU .Is) (av 7) aZ (yq _)) (Yr (yr (yo (hkd _ rfl rfl rfl) (yI hr) .NotEq) (zU .NotEq) (ax hkd (ax hkd (av 9) aI) (av 4)) (av 4) (yq _))))) (zu (by refine sv true 7 yU.nd ?_; exact (xg (zg aS (zg (av 8) zN (za rfl)) (za rfl))))) yu)
  exact zu (xF (yr (yo (hkd _ rfl rfl rfl) (yI hr) .Is) (zU .Is) (av 7) aZ (yq _)) (zu (by refine sv true 7 yU.nd ?_; exact (zT (zgY T hkd) (hr.mono (by omega)) rfl T.v8 T.zcA.kp T.zhh yM (by refine zf ?_ ?_ ?_; exact (av 1); refine zf ?_ ?_ ?_; exact (av 2); refine zf ?_ ?_ ?_; exact (av 3); refine zf ?_ ?_ ?_; exact (av 8); refine zf ?_ ?_ ?_; exact (av 9); exact zp; exact za rfl; exact za rfl; exact za rfl; exact za rfl; exact za rfl) (by decide) rfl rfl))) yu)) (λ _ => rfl))
  exact zu (yf (av 7)))
theorem zgv (T : Txt K kd mg t) (hkd : KD1 P w K kd) : FnOk P w K mg base CX0 1 t.We t.X8 ["_law_cell", "_law_base", "_law_many"] (spD K kd Zb) := by
 refine wA (N := zaN) (ps := ["_law_cell", "_law_base", "_law_many"]) (k := 0) (c := zbh) T.zbv ZF λ cdv A outer s H E hr => ?_
 exact (by
  refine zj ?_ ?_; exact (by refine sv false 3 ZF.nd ?_; exact (xj zN))
  refine zj ?_ ?_; exact (yQ PassesOwn.never rfl (yC rfl T.zP (zf (av 2) zp (za rfl)) rfl) (an 4 ZF.nd) (by
  refine zj ?_ ?_; exact (vV (Zu wG Z4 PySem.F.slot_list_append PySem.F.type_list_append (pv 3) (zg (zx (zy .Mod) (av 0) (av 1)) zN (za rfl)) rfl rfl rfl rfl rfl) rfl)
  exact zu (by refine sv true 0 ZF.nd ?_; exact (zx (zy .FloorDiv) (av 0) (av 1)))) (λ _ => rfl))
  exact zu (yf (av 3)))
theorem zcI (T : Txt K kd mg t) (hkd : KD1 P w K kd) : FnOk P w K mg base CX0 2 t.Z5 t.Z0 ["_law_algebra_here", "_law_cell"] (spD K kd wD) := by
 refine wA (N := vX) (ps := ["_law_algebra_here", "_law_cell"]) (k := 1) (c := Wq) T.Wo yw λ cdv A outer s H E hr => ?_
 exact (by
  refine zj ?_ ?_; exact (zbD (av 0) (Z2 rfl (zX (an 2 yw.nd) (zX (an 3 yw.nd) (zX (an 4 yw.nd) (zX (an 5 yw.nd) (zX (an 6 yw.nd) (zX (an 7 yw.nd) vY rfl) rfl) rfl) rfl) rfl) rfl) rfl rfl) rfl rfl rfl)
  refine zj ?_ ?_; exact (by refine sv true 8 yw.nd ?_; exact (zT (zgv T hkd) (hr.mono (by omega)) rfl T.Zb T.zbv.kp T.zfY yM (by refine zf ?_ ?_ ?_; exact (av 1); refine zf ?_ ?_ ?_; exact (av 2); refine zf ?_ ?_ ?_; exact (zx (zy .Add) (zx (zy .Add) aI (zx (zy .Mult) (av 2) (av 2))) (zx (zy .Mult) (zx (zy .Mult) (av 2) (av 3)) (Y7 (Yn (hkd _ rfl rfl rfl)) rfl T.zek Bt.len (zf (av 6) zp (za rfl)) (Bt.n _ rfl) (by decide) rfl rfl))); exact zp; exact za rfl; exact za rfl; exact za rfl) (by decide) rfl rfl))
  refine zj ?_ ?_; exact (zbe (z := false) (i := 9) (N := ["_law_a", "_law_digits_here", "_law_n"]) (cap := [none, some 8, some 2]) (S := [0]) yw.nd rfl (by exact Or.inl rfl) (by exact Or.inr rfl) rfl rfl (yG rfl T.zP (zf (av 2) zp (za rfl)) rfl) rfl (by change wB _ vX _ (zE wF).names _ = true; decide +kernel) (by decide) (λ cl s H fp => (an 0 zaq)) (λ cl s H fp => yJ) (λ cl s H fp => (ZM (av 1) (vm (zx (zy .Add) aI (zx (zy .Mult) (av 2) (av 0)))) (vm (zx (zy .Add) (zx (zy .Add) aI (zx (zy .Mult) (av 2) (av 0))) (av 2))))) (λ _ => rfl))
  refine zj ?_ ?_; exact (by refine sv false 10 yw.nd ?_; exact (xj zN))
  refine zj ?_ ?_; exact (yQ PassesOwn.never rfl (yC rfl T.zP (zf (Y7 (Yn (hkd _ rfl rfl rfl)) rfl T.zek Bt.len (zf (av 6) zp (za rfl)) (Bt.n _ rfl) (by decide) rfl rfl) zp (za rfl)) rfl) (an 11 yw.nd) (by
  refine zj ?_ ?_; exact (by refine sv true 12 yw.nd ?_; exact (zx (zy .Add) (zx (zy .Add) aI (zx (zy .Mult) (av 2) (av 2))) (zx (zy .Mult) (zx (zy .Mult) (av 2) (av 3)) (av 11))))
  exact zu (vV (Zu wG Z4 PySem.F.slot_list_append PySem.F.type_list_append (pv 10) (by refine zg ?_ ?_ ?_; exact (xg (zg (ax hkd (ax hkd (av 6) (av 11)) aI) (zg (yO (N := ["_law_c", "_law_digits_here", "_law_at", "_law_n"]) (cap := [none, some 8, some 12, some 2]) (S := [0]) rfl (yG rfl T.zP (zf (av 3) zp (za rfl)) rfl) rfl (by change wB _ vX _ (zE wF).names _ = true; decide +kernel) (by decide) (λ cl s H fp => (an 0 zai)) (λ cl s H fp => yJ) (λ cl s H fp => (ZM (av 1) (vm (zx (zy .Add) (av 2) (zx (zy .Mult) (av 3) (av 0)))) (vm (zx (zy .Add) (zx (zy .Add) (av 2) (zx (zy .Mult) (av 3) (av 0))) (av 3))))) (λ _ => rfl)) zN (za rfl)) (za rfl))); exact zN; exact za rfl) rfl rfl rfl rfl rfl) rfl)) (λ _ => rfl))
  exact zu (yf (xg (by refine zg ?_ ?_ ?_; exact (av 2); refine zg ?_ ?_ ?_; exact (av 3); refine zg ?_ ?_ ?_; exact (znl (pv 9)); refine zg ?_ ?_ ?_; exact (ax hkd (av 8) aI); refine zg ?_ ?_ ?_; exact (znl (pv 10)); refine zg ?_ ?_ ?_; exact (av 7); exact zN; exact za rfl; exact za rfl; exact za rfl; exact za rfl; exact za rfl; exact za rfl))))
theorem ziq (T : Txt K kd mg t) (hkd : KD1 P w K kd) : FnOk P w K mg base CX0 7 t.zau t.zan ["_law_cell", "_law_other"] (spD K kd Ys) := by
 refine wA (N := zdt) (ps := ["_law_cell", "_law_other"]) (k := 6) (c := zeA) T.zdK ZW λ cdv A outer s H E hr => ?_
 exact (by
  refine zj ?_ ?_; exact (by refine sv false 2 ZW.nd ?_; exact (zT (zcI T hkd) (hr.mono (by omega)) rfl T.wD T.Wo.kp T.zcH yM (zf (zT (Xg T hkd) (hr.mono (by omega)) rfl T.xf T.ZG.kp T.Y6 yM (zf (zx (zy .Mod) (zx (zy .FloorDiv) (av 0) aI) aI) (zf (av 1) zp (za rfl)) (za rfl)) (by decide) rfl rfl) (zf (zx (zy .FloorDiv) (av 0) aI) zp (za rfl)) (za rfl)) (by decide) rfl rfl))
  exact (zlN ZW.nd rfl rfl rfl rfl rfl rfl rfl (by exact Or.inl rfl) (by exact Or.inl rfl) (by exact Or.inl rfl) (by exact Or.inl rfl) (by exact Or.inl rfl) (by exact Or.inl rfl) (by exact Or.inr rfl) (by exact Or.inr rfl) (by exact Or.inr rfl) (by exact Or.inr rfl) (by exact Or.inr rfl) (by exact Or.inr rfl) (pv 2) (pv 2) rfl rfl rfl rfl rfl rfl rfl rfl rfl rfl rfl (znD (yr (yo (hkd _ rfl rfl rfl) (yI hr) .Gt) (zU .Gt) (zx (zy .Mod) (av 0) aI) aI (yq _)) (zjV (zlZ (pv 5) (Xo (pv 6)) (zfc rfl rfl T.zP rfl T.W5 (zf (av 3) zp (za rfl)) rfl rfl) (λ _ => rfl) rfl rfl rfl) (zfH (znX (by decide) PassesOwn.never rfl (yC rfl T.zP (zf (av 3) zp (za rfl)) rfl) (an 9 ZW.nd) (zfH (zmw (pv 5) (Xo (pv 9)) (λ _ _ => rfl) (Xo (pv 6)) (Xo (pv 9)) (λ _ => rfl) rfl rfl rfl)) (λ _ => rfl)))) zjc) (znD (yr (yo (hkd _ rfl rfl rfl) (yI hr) .Gt) (zU .Gt) (zx (zy .Mod) (av 0) aI) aI (yq _)) (zfH (znZ (i := 7) (jn := 10) (jr := 11) (j := 6) ZW.nd (by decide) (by decide) (by decide) (by decide) (by decide) rfl (by exact Or.inl rfl) (by exact Or.inr rfl) rfl (by exact Or.inl rfl) (by exact Or.inr rfl) PassesOwn.never rfl (pv 7) rfl rfl rfl rfl (pv 11) zfZ (λ _ _ => rfl) (pv 6) (pv 6) (λ _ => rfl) rfl rfl rfl (λ _ => rfl))) zjc)))
theorem zay (T : Txt K kd mg t) (hkd : KD1 P w K kd) : FnOk P w K mg base CX0 4 t.zaD t.zap ["_law_algebra_here", "_law_often"] (spD K kd xx) := by
 refine wA (N := zaA) (ps := ["_law_algebra_here", "_law_often"]) (k := 3) (c := zen) T.Wc YS λ cdv A outer s H E hr => ?_
 exact (by
  refine zj ?_ ?_; exact (by refine sv true 2 YS.nd ?_; exact (zT (zgP T hkd) (hr.mono (by omega)) rfl T.ZP T.zcd.kp T.zhm yM (zf (av 0) zp (za rfl)) (by decide) rfl rfl))
  refine zj ?_ ?_; exact (yQ PassesOwn.never rfl (yC rfl T.zP (zf (av 1) zp (za rfl)) rfl) (an 3 YS.nd) (by
  refine zj ?_ ?_; exact (by refine sv true 4 YS.nd ?_; exact (zT (zaK T hkd) (hr.mono (by omega)) rfl T.xZ T.XD.kp T.zaJ yM (zf (av 0) zp (za rfl)) (by decide) rfl rfl))
  refine zj ?_ ?_; exact (xF (AW.at_ (zdz (yr (yo (hkd _ rfl rfl rfl) (yI hr) .Is) (zU .Is) (av 2) aZ (yq _)) (Yr (yr (yo (hkd _ rfl rfl rfl) (yI hr) .IsNot) (zU .IsNot) (av 4) aZ (yq _))))) (zu (yf aB)) yu)
  exact zu (xF (yr (yo (hkd _ rfl rfl rfl) (yI hr) .IsNot) (zU .IsNot) (av 2) aZ (yq _)) (by
  refine zj ?_ ?_; exact (xF (AW.at_ (zdS (zag (zaf (zdX (hkd _ rfl rfl rfl) rfl rfl T.Zi Bt.isinstance rfl T.zmm Bt.tuple (av 4) (Bt.n _ rfl) (by decide) (Bt.n _ rfl) (by decide) rfl rfl rfl) (λ _ => rfl))) (zdS (yr (yo (hkd _ rfl rfl rfl) (yI hr) .NotEq) (zU .NotEq) (av 4) (av 2) (yq _)) (Yp (zag (zaf (zdX (hkd _ rfl rfl rfl) rfl rfl T.Zi Bt.isinstance rfl T.znq Bt.str (ax hkd (av 4) aI) (Bt.n _ rfl) (by decide) (Bt.n _ rfl) (by decide) rfl rfl rfl) (λ _ => rfl))))))) (zu (yf aB)) yu)
  exact zu (xF (yr (yo (hkd _ rfl rfl rfl) (yI hr) .NotEq) (zU .NotEq) (yO (N := ["_law_part"]) (cap := [none]) (S := [0]) rfl (Wl (av 4)) rfl (by change wB _ zaA _ (zE YD).names _ = true; decide +kernel) (by decide) (λ cl s H fp => (an 0 zeH)) (λ cl s H fp => (ziJ (AW.at_ (zdz (zag (zaf (zdX (hkd _ rfl rfl rfl) rfl rfl T.Zi Bt.isinstance rfl T.znq Bt.str (av 0) (Bt.n _ rfl) (by decide) (Bt.n _ rfl) (by decide) rfl rfl rfl) (λ _ => rfl))) (Yr (zag (zaf (zT (zhf T hkd) (hr.mono (by omega)) rfl T.vo T.zcy.kp T.zhv yM (zf (av 0) zp (za rfl)) (by decide) rfl rfl) (λ _ => rfl)))))))) (λ cl s H fp => (av 0)) (λ _ => rfl)) (xj zN) (yq _)) (zu (yf aB)) yu)) yu)) (λ _ => rfl))
  exact zu (yf aB))
theorem o_law (T : Txt K kd mg t) (hkd : KD1 P w K kd) : FnOk P w K mg base CX0 8 t.zkO t.zjU ["_law_script"] (spD K kd zdy) := by
 refine wA (N := zkW) (ps := ["_law_script"]) (k := 7) (c := zni) T.zpP zaF λ cdv A outer s H E hr => ?_
 exact (by
  refine zj ?_ ?_; exact (by refine sv true 1 zaF.nd ?_; exact (zT (Xg T hkd) (hr.mono (by omega)) rfl T.xf T.ZG.kp T.Y6 yM (zf (zT (wL T hkd) (hr.mono (by omega)) rfl T.zV T.wg.kp T.wN yM (zf (av 0) (zf aI zp (za rfl)) (za rfl)) (by decide) rfl rfl) (zf (zT (wL T hkd) (hr.mono (by omega)) rfl T.zV T.wg.kp T.wN yM (zf (av 0) (zf aI zp (za rfl)) (za rfl)) (by decide) rfl rfl) zp (za rfl)) (za rfl)) (by decide) rfl rfl))
  refine zj ?_ ?_; exact (xF (AW.at_ (zdS (yr (yo (hkd _ rfl rfl rfl) (yI hr) .IsNot) (zU .IsNot) (zT (zaK T hkd) (hr.mono (by omega)) rfl T.xZ T.XD.kp T.zaJ yM (zf (av 1) zp (za rfl)) (by decide) rfl rfl) aZ (yq _)) (Yp (zag (zaf (zT (zay T hkd) (hr.mono (by omega)) rfl T.xx T.Wc.kp T.zaj yM (zf (av 1) (zf aI zp (za rfl)) (za rfl)) (by decide) rfl rfl) (λ _ => rfl)))))) (zu (yf aB)) yu)
  refine zj ?_ ?_; exact (xF (zag (zaf (zT (zay T hkd) (hr.mono (by omega)) rfl T.xx T.Wc.kp T.zaj yM (zf (zT (ziq T hkd) (hr.mono (by omega)) rfl T.Ys T.zdK.kp T.zio yM (zf (zT (wL T hkd) (hr.mono (by omega)) rfl T.zV T.wg.kp T.wN yM (zf (av 0) (zf aI zp (za rfl)) (za rfl)) (by decide) rfl rfl) (zf (zT (wL T hkd) (hr.mono (by omega)) rfl T.zV T.wg.kp T.wN yM (zf (av 0) (zf aI zp (za rfl)) (za rfl)) (by decide) rfl rfl) zp (za rfl)) (za rfl)) (by decide) rfl rfl) (zf aI zp (za rfl)) (za rfl)) (by decide) rfl rfl) (λ _ => rfl))) (zu (yf aB)) yu)
  refine zj ?_ ?_; exact (by refine sv true 2 zaF.nd ?_; exact (ax hkd (xj (zg aI (zg aI zN (za rfl)) (za rfl))) (Xw zaE rfl T.ziT Bt.int (zf (zin (yo (hkd _ rfl rfl rfl) (yI hr) .Gt) (zx (zy .Mult) (ax hkd (av 1) aI) (ax hkd (av 1) aI)) aI (yq _)) zp (za rfl)) (Bt.n _ rfl) (by decide) rfl rfl)))
  refine zj ?_ ?_; exact (yQ PassesOwn.never rfl (zgt (ZM (zx (zy .Add) (xj (zg (zT (wL T hkd) (hr.mono (by omega)) rfl T.zV T.wg.kp T.wN yM (zf (av 0) (zf aI zp (za rfl)) (za rfl)) (by decide) rfl rfl) zN (za rfl))) (ZM (av 0) (vm aI) (vm aI))) Vx (vm (av 2)))) (an 3 zaF.nd) (by
  refine zj ?_ ?_; exact (by refine sv true 1 zaF.nd ?_; exact (zT (zhx T hkd) (hr.mono (by omega)) rfl T.Zn T.zdv.kp T.ziu yM (zf (av 1) (zf (av 3) zp (za rfl)) (za rfl)) (by decide) rfl rfl))
  refine zj ?_ ?_; exact (by refine sv true 4 zaF.nd ?_; exact (xg (by refine zg ?_ ?_ ?_; exact (ax hkd (av 1) aI); refine zg ?_ ?_ ?_; exact (ax hkd (av 1) aI); refine zg ?_ ?_ ?_; exact (yO (N := ["_law_row"]) (cap := [none]) (S := [0]) rfl (Wl (ax hkd (av 1) aI)) rfl (by change wB _ zkW _ (zE zgV).names _ = true; decide +kernel) (by decide) (λ cl s H fp => (an 0 zlp)) (λ cl s H fp => yJ) (λ cl s H fp => (Xw Yo rfl T.W5 Bt.list (zf (av 0) zp (za rfl)) (Bt.n _ rfl) (by decide) rfl rfl)) (λ _ => rfl)); refine zg ?_ ?_ ?_; exact (ax hkd (av 1) aI); refine zg ?_ ?_ ?_; exact (Xw Yo rfl T.W5 Bt.list (zf (ax hkd (av 1) aI) zp (za rfl)) (Bt.n _ rfl) (by decide) rfl rfl); refine zg ?_ ?_ ?_; exact (ax hkd (av 1) aI); exact zN; exact za rfl; exact za rfl; exact za rfl; exact za rfl; exact za rfl; exact za rfl)))
  refine zj ?_ ?_; exact (xF (AW.at_ (zdS (zag (zaf (zT (zay T hkd) (hr.mono (by omega)) rfl T.xx T.Wc.kp T.zaj yM (zf (av 1) (zf aI zp (za rfl)) (za rfl)) (by decide) rfl rfl) (λ _ => rfl))) (Yp (yr (yo (hkd _ rfl rfl rfl) (yI hr) .NotEq) (zU .NotEq) (av 1) (av 4) (yq _))))) (zu (yf aB)) yu)
  exact zu (xF (yr (yo (hkd _ rfl rfl rfl) (yI hr) .Gt) (zU .Gt) (zx (zy .Mod) (av 3) aI) aI (yq _)) (zu (by refine sv true 1 zaF.nd ?_; exact (zT (Xg T hkd) (hr.mono (by omega)) rfl T.xf T.ZG.kp T.Y6 yM (zf (zT (wL T hkd) (hr.mono (by omega)) rfl T.zV T.wg.kp T.wN yM (zf (av 0) (zf aI zp (za rfl)) (za rfl)) (by decide) rfl rfl) (zf (zT (wL T hkd) (hr.mono (by omega)) rfl T.zV T.wg.kp T.wN yM (zf (av 0) (zf aI zp (za rfl)) (za rfl)) (by decide) rfl rfl) zp (za rfl)) (za rfl)) (by decide) rfl rfl))) yu)) (λ _ => rfl))
  exact zu (yf aB))
end
abbrev NsR (K : zC) (x : Str) (f : Addr) : Prop := PySem.W.nsIn K mainGlobals x = some (some (.ref f))
abbrev FnAt (K : zC) (x q : Str) (s : Stmt) (f : Addr) : Prop := ∃ d, Fun K x q s f d
theorem zoD {l : PySem.W.OpenLaw} {w : World} {K : zC} {h : Heap} {mg : Str -> Option Value} {fa : Addr} (X : K.In h) (G : h.Ns mainGlobals mg) (hfa : mg "law" = some (.ref fa))
 {f0 f1 f2 f3 f4 f5 f6 f7 f8 f9 f10 f11 f12 f13 f14 f15 f16 f17 f18 f19 f20 f21 f22 f23 f24 f25 f26 f27 f28 f29 : Addr}
 (a0 : NsR K "nothing_fails" f0) (l0 : FnAt K "nothing_fails" "nothing_fails" vW f0)
 (a1 : NsR K "parting_fails" f1) (l1 : FnAt K "parting_fails" "parting_fails" vU f1)
 (a2 : NsR K "doing_fails" f2) (l2 : FnAt K "doing_fails" "doing_fails" Zx f2)
 (a3 : NsR K "deeds_fail" f3) (l3 : FnAt K "deeds_fail" "deeds_fail" Yl f3)
 (a4 : NsR K "what_fails" f4) (l4 : FnAt K "what_fails" "what_fails" Yj f4)
 (a5 : NsR K "_law_cell_at" f5) (l5 : FnAt K "_law_cell_at" "_law_cell_at" ZJ f5)
 (a6 : NsR K "_law_whole" f6) (l6 : FnAt K "_law_whole" "_law_whole" YZ f6)
 (a7 : NsR K "_law_stream" f7) (l7 : FnAt K "_law_stream" "_law_stream" Yg f7)
 (a8 : NsR K "_law_names" f8) (l8 : FnAt K "_law_names" "_law_names" ZL f8)
 (a9 : NsR K "_law_divisor" f9) (l9 : FnAt K "_law_divisor" "_law_divisor" ZK f9)
 (a10 : NsR K "_law_sums" f10) (l10 : FnAt K "_law_sums" "_law_sums" YH f10)
 (a11 : NsR K "_law_rising" f11) (l11 : FnAt K "_law_rising" "_law_rising" vB f11)
 (a12 : NsR K "_law_kept" f12) (l12 : FnAt K "_law_kept" "_law_kept" Zr f12)
 (a13 : NsR K "_law_joins" f13) (l13 : FnAt K "_law_joins" "_law_joins" wJ f13)
 (a14 : NsR K "_law_rows" f14) (l14 : FnAt K "_law_rows" "_law_rows" YF f14)
 (a15 : NsR K "_law_plain" f15) (l15 : FnAt K "_law_plain" "_law_plain" ZV f15)
 (a16 : NsR K "_law_beside" f16) (l16 : FnAt K "_law_beside" "_law_beside" Zd f16)
 (a17 : NsR K "_law_made" f17) (l17 : FnAt K "_law_made" "_law_made" XS f17)
 (a18 : NsR K "_law_order" f18) (l18 : FnAt K "_law_order" "_law_order" YM f18)
 (a19 : NsR K "_law_signs" f19) (l19 : FnAt K "_law_signs" "_law_signs" ZR f19)
 (a20 : NsR K "_law_algebra" f20) (l20 : FnAt K "_law_algebra" "_law_algebra" wM f20)
 (a21 : NsR K "_law_bent" f21) (l21 : FnAt K "_law_bent" "_law_bent" Zt f21)
 (a22 : NsR K "_law_parting" f22) (l22 : FnAt K "_law_parting" "_law_parting" ZC f22)
 (a23 : NsR K "_law_doing" f23) (l23 : FnAt K "_law_doing" "_law_doing" Y5 f23)
 (a24 : NsR K "_law_fails" f24) (l24 : FnAt K "_law_fails" "_law_fails" YT f24)
 (a25 : NsR K "_law_digits" f25) (l25 : FnAt K "_law_digits" "_law_digits" Yi f25)
 (a26 : NsR K "_law_by_digits" f26) (l26 : FnAt K "_law_by_digits" "_law_by_digits" wF f26)
 (a27 : NsR K "_law_free" f27) (l27 : FnAt K "_law_free" "_law_free" XF f27)
 (a28 : NsR K "_law_told" f28) (l28 : FnAt K "_law_told" "_law_told" YD f28)
 (a29 : NsR K "law" f29) (l29 : FnAt K "law" "law" zgV f29)
 (z0 : PySem.W.nsIn K mainGlobals "bool" = some none) (z1 : PySem.W.nsIn K mainGlobals "divmod" = some none) (z2 : PySem.W.nsIn K mainGlobals "int" = some none) (z3 : PySem.W.nsIn K mainGlobals "isinstance" = some none) (z4 : PySem.W.nsIn K mainGlobals "len" = some none) (z5 : PySem.W.nsIn K mainGlobals "list" = some none) (z6 : PySem.W.nsIn K mainGlobals "max" = some none) (z7 : PySem.W.nsIn K mainGlobals "range" = some none) (z8 : PySem.W.nsIn K mainGlobals "sorted" = some none) (z9 : PySem.W.nsIn K mainGlobals "str" = some none) (z10 : PySem.W.nsIn K mainGlobals "tuple" = some none) (z11 : PySem.W.nsIn K mainGlobals "zip" = some none) :
 ∃ fd : FuncData, (∀ (s : Shared) (v : Value), BindsTo s fd ⟨[v], []⟩ [("_law_script", v)]) /\ ∀ base : Heap, K.In base -> base.Ns mainGlobals mg -> FnOk l.prog w K mg base CX0 8 fa fd ["_law_script"] (spL K zdy) := by
 have e := hfa.symm.trans (PySem.W.mg_of X G a29)
 cases e
 obtain ⟨_, F0⟩ := l0
 have b0 := F0.binds (ps := ["algebra"]) λ _ _ _ _ _ _ => l1_ λ _ => rfl
 obtain ⟨_, F1⟩ := l1
 have b1 := F1.binds (ps := ["algebra"]) λ _ _ _ _ _ _ => l1_ λ _ => rfl
 obtain ⟨_, F2⟩ := l2
 have b2 := F2.binds (ps := ["algebra", "name", "rows"]) λ _ _ _ _ _ _ => l3_ λ _ _ _ => rfl
 obtain ⟨_, F3⟩ := l3
 have b3 := F3.binds (ps := ["algebra"]) λ _ _ _ _ _ _ => l1_ λ _ => rfl
 obtain ⟨_, F4⟩ := l4
 have b4 := F4.binds (ps := ["algebra"]) λ _ _ _ _ _ _ => l1_ λ _ => rfl
 obtain ⟨_, F5⟩ := l5
 have b5 := F5.binds (ps := ["_law_script", "_law_k"]) λ _ _ _ _ _ _ => l2_ λ _ _ => rfl
 obtain ⟨_, F6⟩ := l6
 have b6 := F6.binds (ps := ["_law_found"]) λ _ _ _ _ _ _ => l1_ λ _ => rfl
 obtain ⟨_, F7⟩ := l7
 have b7 := F7.binds (ps := ["_law_cell", "_law_many"]) λ _ _ _ _ _ _ => l2_ λ _ _ => rfl
 obtain ⟨_, F8⟩ := l8
 have b8 := F8.binds (ps := ["_law_cell", "_law_many"]) λ _ _ _ _ _ _ => l2_ λ _ _ => rfl
 obtain ⟨_, F9⟩ := l9
 have b9 := F9.binds (ps := ["_law_one", "_law_other"]) λ _ _ _ _ _ _ => l2_ λ _ _ => rfl
 obtain ⟨_, F10⟩ := l10
 have b10 := F10.binds (ps := ["_law_n", "_law_m", "_law_xs"]) λ _ _ _ _ _ _ => l3_ λ _ _ _ => rfl
 obtain ⟨_, F11⟩ := l11
 have b11 := F11.binds (ps := ["_law_n", "_law_m", "_law_xs"]) λ _ _ _ _ _ _ => l3_ λ _ _ _ => rfl
 obtain ⟨_, F12⟩ := l12
 have b12 := F12.binds (ps := ["_law_n", "_law_m", "_law_xs"]) λ _ _ _ _ _ _ => l3_ λ _ _ _ => rfl
 obtain ⟨_, F13⟩ := l13
 have b13 := F13.binds (ps := ["_law_kind", "_law_n"]) λ _ _ _ _ _ _ => l2_ λ _ _ => rfl
 obtain ⟨_, F14⟩ := l14
 have b14 := F14.binds (ps := ["_law_kind", "_law_n", "_law_m", "_law_xs"]) λ _ _ _ _ _ _ => l4_ λ _ _ _ _ => rfl
 obtain ⟨_, F15⟩ := l15
 have b15 := F15.binds (ps := ["_law_kind", "_law_n", "_law_m", "_law_many", "_law_cell"]) λ _ _ _ _ _ _ => l5_ λ _ _ _ _ _ => rfl
 obtain ⟨_, F16⟩ := l16
 have b16 := F16.binds (ps := ["_law_one", "_law_other", "_law_m"]) λ _ _ _ _ _ _ => l3_ λ _ _ _ => rfl
 obtain ⟨_, F17⟩ := l17
 have b17 := F17.binds (ps := ["_law_cell", "_law_m", "_law_many"]) λ _ _ _ _ _ _ => l3_ λ _ _ _ => rfl
 obtain ⟨_, F18⟩ := l18
 have b18 := F18.binds (ps := ["_law_cell", "_law_n"]) λ _ _ _ _ _ _ => l2_ λ _ _ => rfl
 obtain ⟨_, F19⟩ := l19
 have b19 := F19.binds (ps := ["_law_cell", "_law_n", "_law_names_here"]) λ _ _ _ _ _ _ => l3_ λ _ _ _ => rfl
 obtain ⟨_, F20⟩ := l20
 have b20 := F20.binds (ps := ["_law_cell", "_law_other"]) λ _ _ _ _ _ _ => l2_ λ _ _ => rfl
 obtain ⟨_, F21⟩ := l21
 have b21 := F21.binds (ps := ["_law_algebra_here", "_law_cell"]) λ _ _ _ _ _ _ => l2_ λ _ _ => rfl
 obtain ⟨_, F22⟩ := l22
 have b22 := F22.binds (ps := ["_law_n", "_law_join", "_law_nothing"]) λ _ _ _ _ _ _ => l3_ λ _ _ _ => rfl
 obtain ⟨_, F23⟩ := l23
 have b23 := F23.binds (ps := ["_law_n", "_law_m", "_law_join", "_law_name", "_law_rows_here"]) λ _ _ _ _ _ _ => l5_ λ _ _ _ _ _ => rfl
 obtain ⟨_, F24⟩ := l24
 have b24 := F24.binds (ps := ["_law_algebra_here"]) λ _ _ _ _ _ _ => l1_ λ _ => rfl
 obtain ⟨_, F25⟩ := l25
 have b25 := F25.binds (ps := ["_law_cell", "_law_base", "_law_many"]) λ _ _ _ _ _ _ => l3_ λ _ _ _ => rfl
 obtain ⟨_, F26⟩ := l26
 have b26 := F26.binds (ps := ["_law_algebra_here", "_law_cell"]) λ _ _ _ _ _ _ => l2_ λ _ _ => rfl
 obtain ⟨_, F27⟩ := l27
 have b27 := F27.binds (ps := ["_law_cell", "_law_other"]) λ _ _ _ _ _ _ => l2_ λ _ _ => rfl
 obtain ⟨_, F28⟩ := l28
 have b28 := F28.binds (ps := ["_law_algebra_here", "_law_often"]) λ _ _ _ _ _ _ => l2_ λ _ _ => rfl
 obtain ⟨_, F29⟩ := l29
 obtain ⟨_, _, _, _, _, _, _, _, _, rfl, _, _⟩ := F29.ex
 have b29 := F29.binds (ps := ["_law_script"]) λ _ _ _ _ _ _ => l1_ λ _ => rfl
 let KL : List (Addr × List (Key × V)) := []
 have hkd : KD1 l.prog w K (kdL KL) := zoY λ p m => by
  exact absurd (show p ∈ ([] : List (Addr × List (Key × V))) from m) List.not_mem_nil
 have T : Txt K (kdL KL) mg ⟨_, _, _, _, _, _, _, _, _, _, _, _, _, _, _, _, _, _, _, _, _, _, _, _, _, _, _, _, _, _, _, _, _, _, _, _, _, _, _, _, _, _, _, _, _, _, _, _, _, _, _, _, _, _, _, _, _, _, _, _⟩ := ⟨F0, b0, PySem.W.mg_of X G a0, F1, b1, PySem.W.mg_of X G a1, F2, b2, PySem.W.mg_of X G a2, F3, b3, PySem.W.mg_of X G a3, F4, b4, PySem.W.mg_of X G a4, F5, b5, PySem.W.mg_of X G a5, F6, b6, PySem.W.mg_of X G a6, F7, b7, PySem.W.mg_of X G a7, F8, b8, PySem.W.mg_of X G a8, F9, b9, PySem.W.mg_of X G a9, F10, b10, PySem.W.mg_of X G a10, F11, b11, PySem.W.mg_of X G a11, F12, b12, PySem.W.mg_of X G a12, F13, b13, PySem.W.mg_of X G a13, F14, b14, PySem.W.mg_of X G a14, F15, b15, PySem.W.mg_of X G a15, F16, b16, PySem.W.mg_of X G a16, F17, b17, PySem.W.mg_of X G a17, F18, b18, PySem.W.mg_of X G a18, F19, b19, PySem.W.mg_of X G a19, F20, b20, PySem.W.mg_of X G a20, F21, b21, PySem.W.mg_of X G a21, F22, b22, PySem.W.mg_of X G a22, F23, b23, PySem.W.mg_of X G a23, F24, b24, PySem.W.mg_of X G a24, F25, b25, PySem.W.mg_of X G a25, F26, b26, PySem.W.mg_of X G a26, F27, b27, PySem.W.mg_of X G a27, F28, b28, PySem.W.mg_of X G a28, F29, b29, PySem.W.mg_of X G a29, PySem.W.mg_none_of X G z0, PySem.W.mg_none_of X G z1, PySem.W.mg_none_of X G z2, PySem.W.mg_none_of X G z3, PySem.W.mg_none_of X G z4, PySem.W.mg_none_of X G z5, PySem.W.mg_none_of X G z6, PySem.W.mg_none_of X G z7, PySem.W.mg_none_of X G z8, PySem.W.mg_none_of X G z9, PySem.W.mg_none_of X G z10, PySem.W.mg_none_of X G z11⟩
 exact ⟨_, λ s v => .of_eq rfl, λ base _ _ => (o_law T hkd).imp λ vs H Q E h => h _⟩
theorem walk {l : PySem.W.OpenLaw} {q : Program} {loose : List Str} {XP : (Str -> Option Value) -> Heap -> Prop} {YP : World -> Heap -> Prop} {d : DefRec} {K : Params -> zC} (hn : l.most = some 63) (hdf : d.params.defaults = [])
 (hY : ∀ (w : World) (h : Heap), YP w h -> (K w.params).In h) (hm : ∀ ns : List Int, ns.length <= 63 -> zdy [(true, .lst (ns.map D.int))] = some (.lf true (.bl true)))
 (F : ∀ (w : World) (mg : Str -> Option Value) (fa : Addr) (h : Heap), (K w.params).In h -> h.Ns mainGlobals mg -> mg d.name = some (.ref fa) ->
  ∃ fd : FuncData, (∀ (s : Shared) (u : Value), BindsTo s fd ⟨[u], []⟩ [("_law_script", u)]) /\ ∀ base : Heap, (K w.params).In base -> base.Ns mainGlobals mg -> FnOk l.prog w (K w.params) mg base CX0 8 fa fd ["_law_script"] (spL (K w.params) zdy)) :
 PySem.W.WalkO q loose XP YP l.row.toRowW d [] (λ f vs => PySem.call f vs) :=
 L2.walk_of (n := 63) (k := 8) (x := "_law_script") (CX := λ _ => CX0) (sp := λ w => spL (K w.params) zdy) hn (by decide) hdf ⟨rfl, by decide, by decide, rfl⟩ hY F (λ _ _ a ns hl _ hS kd => zoV (hm ns hl) hS) λ _ _ _ _ _ z => z
end G13
end
section
namespace G13
abbrev InR (n : Nat) (x : Int) : Prop := 0 <= x /\ x < (n : Int)
structure LJ (n : Nat) (j : Int -> Int -> Int) (e : Int) : Prop where
 cl : ∀ a b, InR n a -> InR n b -> InR n (j a b)
 ce : InR n e
 ul : ∀ a, InR n a -> j e a = a
 ur : ∀ a, InR n a -> j a e = a
 as : ∀ a b c, InR n a -> InR n b -> InR n c -> j (j a b) c = j a (j b c)
structure LD (n m : Nat) (j : Int -> Int -> Int) (e : Int) (d : Int -> Int -> Int) : Prop where
 cl : ∀ c a, InR m c -> InR n a -> InR n (d c a)
 em : d 0 e = e
 dn : ∀ a i b k, InR n a -> InR m i -> InR n b -> InR m k -> d ((i + k) % m) (j a b) = j (d i a) (d k b)
theorem zis {x : Int} {n : Nat} (hn : 0 < n) : InR n (x % n) := ⟨Int.emod_nonneg _ (by omega), Int.emod_lt_of_pos _ (by omega)⟩
theorem LJ.congr {n : Nat} {j j' : Int -> Int -> Int} {e : Int} (h : LJ n j e) (q : ∀ a b, InR n a -> InR n b -> j' a b = j a b) : LJ n j' e := by
 refine ⟨λ a b ha hb => by rw [q a b ha hb]; exact h.cl a b ha hb, h.ce, λ a ha => by rw [q _ _ h.ce ha]; exact h.ul a ha, λ a ha => by rw [q _ _ ha h.ce]; exact h.ur a ha, λ a b c ha hb hc => ?_⟩
 rw [q a b ha hb, q b c hb hc, q _ _ (h.cl a b ha hb) hc, q _ _ ha (h.cl b c hb hc)]
 exact h.as a b c ha hb hc
theorem LD.congr {n m : Nat} {j j' : Int -> Int -> Int} {e : Int} {d d' : Int -> Int -> Int} (hm : 0 < m) (hj : LJ n j e) (h : LD n m j e d) (q : ∀ a b, InR n a -> InR n b -> j' a b = j a b) (p : ∀ c a, InR m c -> InR n a -> d' c a = d c a) : LD n m j' e d' := by
 refine ⟨λ c a hc ha => by rw [p c a hc ha]; exact h.cl c a hc ha, by rw [p 0 e ⟨by omega, by omega⟩ hj.ce]; exact h.em, λ a i b k ha hi hb hk => ?_⟩
 rw [q a b ha hb, p _ _ (zis hm) (hj.cl a b ha hb), p i a hi ha, p k b hk hb, q _ _ (h.cl i a hi ha) (h.cl k b hk hb)]
 exact h.dn a i b k ha hi hb hk
def jS (n : Nat) (a b : Int) : Int := (a + b) % n
def jM (a b : Int) : Int := if b > a then b else a
def jL (a b : Int) : Int := if b = 0 then a else b
def jF (a b : Int) : Int := if a = 0 then b else a
def p1 (a : Int) : Int := if a = 1 \/ a = 3 then 1 else 0
def p2 (a : Int) : Int := if a = 0 \/ a = 3 then 1 else 0
def ixM (u v : Int) : Int := if u = 0 then (if v = 0 then 2 else 0) else (if v = 0 then 1 else 3)
def pk (u v k : Int) : Int := if k = 0 then u else v
def j4 (a b : Int) : Int := ixM (pk (p1 b) (p2 b) (p1 a)) (pk (p1 b) (p2 b) (p2 a))
theorem ljS {n : Nat} (hn : 0 < n) : LJ n (jS n) 0 := by
 refine ⟨λ a b _ _ => zis hn, ⟨by omega, by omega⟩, λ a ha => ?_, λ a ha => ?_, λ a b c _ _ _ => ?_⟩
 · unfold jS; rw [Int.zero_add, Int.emod_eq_of_lt ha.1 ha.2]
 · unfold jS; rw [Int.add_zero, Int.emod_eq_of_lt ha.1 ha.2]
 · unfold jS; rw [Int.emod_add_emod, Int.add_emod_emod, Int.add_assoc]
theorem ljM {n : Nat} (hn : 0 < n) : LJ n jM 0 := by
 refine ⟨λ a b ha hb => ?_, ⟨by omega, by omega⟩, λ a ha => ?_, λ a ha => ?_, λ a b c _ _ _ => ?_⟩ <;> unfold jM <;> (try unfold jM) <;> grind
theorem ljL {n : Nat} (hn : 0 < n) : LJ n jL 0 := by
 refine ⟨λ a b ha hb => ?_, ⟨by omega, by omega⟩, λ a ha => ?_, λ a ha => ?_, λ a b c _ _ _ => ?_⟩ <;> unfold jL <;> grind
theorem ljF {n : Nat} (hn : 0 < n) : LJ n jF 0 := by
 refine ⟨λ a b ha hb => ?_, ⟨by omega, by omega⟩, λ a ha => ?_, λ a ha => ?_, λ a b c _ _ _ => ?_⟩ <;> unfold jF <;> grind
theorem four {P : Int -> Prop} (h0 : P 0) (h1 : P 1) (h2 : P 2) (h3 : P 3) {a : Int} (h : InR 4 a) : P a := by
 rcases (show a = 0 \/ a = 1 \/ a = 2 \/ a = 3 by have := h.1; have := h.2; omega) with rfl | rfl | rfl | rfl <;> assumption
theorem f4 {P : Int -> Prop} (h : ∀ a ∈ ([0, 1, 2, 3] : List Int), P a) {a : Int} (ha : InR 4 a) : P a := four (h 0 (by decide)) (h 1 (by decide)) (h 2 (by decide)) (h 3 (by decide)) ha
theorem lj4 : LJ 4 j4 0 := by
 refine ⟨λ a b ha hb => ?_, ⟨by decide, by decide⟩, λ a ha => ?_, λ a ha => ?_, λ a b c ha hb hc => ?_⟩
 · revert b; refine f4 (P := λ a => ∀ b, InR 4 b -> InR 4 (j4 a b)) ?_ ha
   have : ∀ a ∈ ([0, 1, 2, 3] : List Int), ∀ b ∈ ([0, 1, 2, 3] : List Int), InR 4 (j4 a b) := by decide
   exact λ a m b hb => f4 (P := λ b => InR 4 (j4 a b)) (this a m) hb
 · exact f4 (P := λ a => j4 0 a = a) (by decide) ha
 · exact f4 (P := λ a => j4 a 0 = a) (by decide) ha
 · have : ∀ a ∈ ([0, 1, 2, 3] : List Int), ∀ b ∈ ([0, 1, 2, 3] : List Int), ∀ c ∈ ([0, 1, 2, 3] : List Int), j4 (j4 a b) c = j4 a (j4 b c) := by decide
   refine f4 (P := λ a => j4 (j4 a b) c = j4 a (j4 b c)) (λ a m => f4 (P := λ b => j4 (j4 a b) c = j4 a (j4 b c)) (λ b m' => f4 (P := λ c => j4 (j4 a b) c = j4 a (j4 b c)) (this a m b m') hc) hb) ha
theorem ldS {n m : Nat} {g x0 x1 : Int} (hn : 0 < n) (hm : 0 < m) (g0 : 0 < g) (gn : g ∣ n) (gm : g ∣ m) : LD n m (jS n) 0 (λ c a => (a * x0 + c * ((n : Int) / g) * x1) % n) := by
 refine ⟨λ c a _ _ => zis hn, by simp, λ a i b k _ _ _ _ => ?_⟩
 obtain ⟨t, ht⟩ := gm
 have h : (m : Int) * ((n : Int) / g) = n * t := by
  obtain ⟨s, hs⟩ := gn
  rw [hs, Int.mul_ediv_cancel_left _ (by omega), ht]; grind
 show (_ : Int) = jS n _ _
 unfold jS
 rw [<- Int.add_emod]
 generalize (n : Int) / g = st at h
 rw [Int.emod_def (i + k) m, Int.emod_def (a + b) n]
 generalize (i + k) / (m : Int) = q
 generalize (a + b) / (n : Int) = p
 rw [show ((a+b) - (n : Int)*p)*x0 + ((i+k) - (m : Int)*q)*st*x1 = (a*x0 + i*st*x1 + (b*x0 + k*st*x1)) + (n : Int)*(-(p*x0) - t*q*x1) by grind, Int.add_mul_emod_self_left]
theorem ldM {n m : Nat} {r : Int -> Int} (hm : 0 < m) (h0 : r 0 = 0) (hc : ∀ a, InR n a -> InR n (r a)) (hr : ∀ a b, InR n a -> InR n b -> a <= b -> r a <= r b) : LD n m jM 0 (λ _ a => r a) := by
 refine ⟨λ c a _ ha => hc a ha, h0, λ a i b k ha _ hb _ => ?_⟩
 show r (jM a b) = jM (r a) (r b)
 unfold jM
 have h1 := hr a b ha hb
 have h2 := hr b a hb ha
 split <;> split <;> grind
theorem ldL {n m : Nat} {r : Int -> Int} (h0 : r 0 = 0) (hc : ∀ a, InR n a -> InR n (r a)) (hr : ∀ a, InR n a -> a ≠ 0 -> r a ≠ 0) : LD n m jL 0 (λ _ a => r a) := by
 refine ⟨λ c a _ ha => hc a ha, h0, λ a i b k ha _ hb _ => ?_⟩
 show r (jL a b) = jL (r a) (r b)
 unfold jL
 have h2 := hr b hb
 split <;> split <;> grind
theorem ldF {n m : Nat} {r : Int -> Int} (h0 : r 0 = 0) (hc : ∀ a, InR n a -> InR n (r a)) (hr : ∀ a, InR n a -> a ≠ 0 -> r a ≠ 0) : LD n m jF 0 (λ _ a => r a) := by
 refine ⟨λ c a _ ha => hc a ha, h0, λ a i b k ha _ hb _ => ?_⟩
 show r (jF a b) = jF (r a) (r b)
 unfold jF
 have h2 := hr a ha
 split <;> split <;> grind
theorem ld4 {m : Nat} {r : Int -> Int} (h : (∀ a, InR 4 a -> r a = a) \/ (∀ a, InR 4 a -> r a = (if a = 2 then 3 else if a = 3 then 2 else a))) : LD 4 m j4 0 (λ _ a => r a) := by
 rcases h with h | h
 · refine ⟨λ c a _ ha => by show InR 4 (r a); rw [h a ha]; exact ha, h 0 ⟨by decide, by decide⟩, λ a i b k ha _ hb _ => ?_⟩
   show r (j4 a b) = j4 (r a) (r b)
   rw [h a ha, h b hb, h _ (lj4.cl a b ha hb)]
 · refine ⟨λ c a _ ha => by show InR 4 (r a); rw [h a ha]; exact f4 (P := λ a => InR 4 (if a = 2 then 3 else if a = 3 then 2 else a)) (by decide) ha, h 0 ⟨by decide, by decide⟩, λ a i b k ha _ hb _ => ?_⟩
   show r (j4 a b) = j4 (r a) (r b)
   rw [h a ha, h b hb, h _ (lj4.cl a b ha hb)]
   have : ∀ a ∈ ([0, 1, 2, 3] : List Int), ∀ b ∈ ([0, 1, 2, 3] : List Int), (if j4 a b = 2 then 3 else if j4 a b = 3 then 2 else j4 a b) = j4 (if a = 2 then 3 else if a = 3 then 2 else a) (if b = 2 then 3 else if b = 3 then 2 else b) := by decide
   exact f4 (P := λ a => (if j4 a b = 2 then 3 else if j4 a b = 3 then 2 else j4 a b) = j4 (if a = 2 then 3 else if a = 3 then 2 else a) (if b = 2 then 3 else if b = 3 then 2 else b)) (λ a m => f4 (P := λ b => (if j4 a b = 2 then 3 else if j4 a b = 3 then 2 else j4 a b) = j4 (if a = 2 then 3 else if a = 3 then 2 else a) (if b = 2 then 3 else if b = 3 then 2 else b)) (this a m) hb) ha
theorem zkN {n1 n2 : Nat} {x y : Int} (hx : InR n1 x) (hy : InR n2 y) : InR (n1 * n2) (x * n2 + y) := by
 have h1 : 0 <= x * n2 := Int.mul_nonneg hx.1 (by omega)
 have h2 : x * n2 <= ((n1 : Int) - 1) * n2 := Int.mul_le_mul_of_nonneg_right (by have := hx.2; omega) (by omega)
 rw [Int.sub_mul, Int.one_mul] at h2
 refine ⟨by have := hy.1; omega, ?_⟩
 rw [zzT]
 have := hy.2
 omega
theorem yH {n1 n2 : Nat} {p : Int} (h2 : 0 < n2) (h : InR (n1 * n2) p) : InR n1 (p / n2) /\ InR n2 (p % n2) :=
 ⟨⟨Int.ediv_nonneg h.1 (by omega), Int.ediv_lt_of_lt_mul (by omega) (by have := h.2; rw [zzT] at this; exact this)⟩, zis h2⟩
theorem zeC {n2 : Nat} {x y : Int} (hy : InR n2 y) : (x * n2 + y) / n2 = x /\ (x * n2 + y) % n2 = y := by
 have h0 : (n2 : Int) ≠ 0 := by have := hy.1; have := hy.2; omega
 constructor
 · rw [Int.add_comm, Int.add_mul_ediv_right _ _ h0, Int.ediv_eq_zero_of_lt hy.1 hy.2, Int.zero_add]
 · rw [Int.add_comm, Int.add_mul_emod_self_right, Int.emod_eq_of_lt hy.1 hy.2]
theorem zqh {n2 : Nat} {p : Int} : (p / n2) * n2 + p % n2 = p := by rw [Int.mul_comm]; exact Int.mul_ediv_add_emod p n2
def jB (n2 : Nat) (j1 j2 : Int -> Int -> Int) (p q : Int) : Int := j1 (p / n2) (q / n2) * n2 + j2 (p % n2) (q % n2)
def dB (n2 : Nat) (d1 d2 : Int -> Int -> Int) (c p : Int) : Int := d1 c (p / n2) * n2 + d2 c (p % n2)
theorem ljB {n1 n2 : Nat} {j1 j2 : Int -> Int -> Int} (h1 : LJ n1 j1 0) (h2 : LJ n2 j2 0) (p2 : 0 < n2) : LJ (n1 * n2) (jB n2 j1 j2) 0 := by
 refine ⟨λ a b ha hb => ?_, ?_, λ a ha => ?_, λ a ha => ?_, λ a b c ha hb hc => ?_⟩
 · exact zkN (h1.cl _ _ (yH p2 ha).1 (yH p2 hb).1) (h2.cl _ _ (yH p2 ha).2 (yH p2 hb).2)
 · have := zkN h1.ce h2.ce
   simpa using this
 · unfold jB
   rw [Int.zero_ediv, Int.zero_emod, h1.ul _ (yH p2 ha).1, h2.ul _ (yH p2 ha).2, zqh]
 · unfold jB
   rw [Int.zero_ediv, Int.zero_emod, h1.ur _ (yH p2 ha).1, h2.ur _ (yH p2 ha).2, zqh]
 · unfold jB
   rw [(zeC (h2.cl _ _ (yH p2 ha).2 (yH p2 hb).2)).1, (zeC (h2.cl _ _ (yH p2 ha).2 (yH p2 hb).2)).2, (zeC (h2.cl _ _ (yH p2 hb).2 (yH p2 hc).2)).1, (zeC (h2.cl _ _ (yH p2 hb).2 (yH p2 hc).2)).2, h1.as _ _ _ (yH p2 ha).1 (yH p2 hb).1 (yH p2 hc).1, h2.as _ _ _ (yH p2 ha).2 (yH p2 hb).2 (yH p2 hc).2]
theorem ldB {n1 n2 m : Nat} {j1 j2 d1 d2 : Int -> Int -> Int} (h1 : LJ n1 j1 0) (h2 : LJ n2 j2 0) (p2 : 0 < n2) (e1 : LD n1 m j1 0 d1) (e2 : LD n2 m j2 0 d2) : LD (n1 * n2) m (jB n2 j1 j2) 0 (dB n2 d1 d2) := by
 refine ⟨λ c a hc ha => zkN (e1.cl _ _ hc (yH p2 ha).1) (e2.cl _ _ hc (yH p2 ha).2), ?_, λ a i b k ha hi hb hk => ?_⟩
 · unfold dB
   rw [Int.zero_ediv, Int.zero_emod, e1.em, e2.em, Int.zero_mul, Int.add_zero]
 · unfold jB dB
   rw [(zeC (h2.cl _ _ (yH p2 ha).2 (yH p2 hb).2)).1, (zeC (h2.cl _ _ (yH p2 ha).2 (yH p2 hb).2)).2, (zeC (e2.cl i _ hi (yH p2 ha).2)).1, (zeC (e2.cl i _ hi (yH p2 ha).2)).2, (zeC (e2.cl k _ hk (yH p2 hb).2)).1, (zeC (e2.cl k _ hk (yH p2 hb).2)).2, e1.dn _ _ _ _ (yH p2 ha).1 hi (yH p2 hb).1 hk, e2.dn _ _ _ _ (yH p2 ha).2 hi (yH p2 hb).2 hk]
theorem ljT {n : Nat} {j : Int -> Int -> Int} {F B : Int -> Int} (h : LJ n j 0) (hF : ∀ a, InR n a -> InR n (F a)) (hB : ∀ a, InR n a -> InR n (B a)) (hFB : ∀ a, InR n a -> F (B a) = a) (hBF : ∀ a, InR n a -> B (F a) = a) : LJ n (λ a b => F (j (B a) (B b))) (F 0) := by
 refine ⟨λ a b ha hb => hF _ (h.cl _ _ (hB a ha) (hB b hb)), hF 0 h.ce, λ a ha => ?_, λ a ha => ?_, λ a b c ha hb hc => ?_⟩
 · show F (j (B (F 0)) (B a)) = a
   rw [hBF 0 h.ce, h.ul _ (hB a ha), hFB a ha]
 · show F (j (B a) (B (F 0))) = a
   rw [hBF 0 h.ce, h.ur _ (hB a ha), hFB a ha]
 · show F (j (B (F (j (B a) (B b)))) (B c)) = F (j (B a) (B (F (j (B b) (B c)))))
   rw [hBF _ (h.cl _ _ (hB a ha) (hB b hb)), hBF _ (h.cl _ _ (hB b hb) (hB c hc)), h.as _ _ _ (hB a ha) (hB b hb) (hB c hc)]
theorem ldT {n m : Nat} {j d : Int -> Int -> Int} {F B : Int -> Int} (hm : 0 < m) (h : LJ n j 0) (e : LD n m j 0 d) (hF : ∀ a, InR n a -> InR n (F a)) (hB : ∀ a, InR n a -> InR n (B a)) (hFB : ∀ a, InR n a -> F (B a) = a) (hBF : ∀ a, InR n a -> B (F a) = a) : LD n m (λ a b => F (j (B a) (B b))) (F 0) (λ c a => F (d c (B a))) := by
 refine ⟨λ c a hc ha => hF _ (e.cl _ _ hc (hB a ha)), ?_, λ a i b k ha hi hb hk => ?_⟩
 · show F (d 0 (B (F 0))) = F 0
   rw [hBF 0 h.ce, e.em]
 · show F (d ((i + k) % m) (B (F (j (B a) (B b))))) = F (j (B (F (d i (B a)))) (B (F (d k (B b)))))
   rw [hBF _ (h.cl _ _ (hB a ha) (hB b hb)), hBF _ (e.cl _ _ hi (hB a ha)), hBF _ (e.cl _ _ hk (hB b hb)), e.dn _ _ _ _ (hB a ha) hi (hB b hb) hk]
theorem leN {n k : Nat} (h : n <= 8) (hk : 8 <= k := by decide) : n <= k := zzM h hk
theorem np1 {n : Nat} (h : 1 <= n) : (0 : Int) < n := Int.natCast_pos.mpr h
theorem nq1 {n : Nat} (h : 1 <= n) : 0 < n := h
theorem nq2 {n : Nat} (h : 2 <= n) : 0 < n := zzM (by decide) h
theorem stL {x k : Int} (h : 0 <= x /\ x < k) : -(10 ^ 200 : Int) < x := Int.lt_of_lt_of_le (by decide) h.1
theorem stU {x : Int} (h : 0 <= x /\ x < 2147483399) : x < 10 ^ 200 := Int.lt_trans h.2 (by decide)
theorem lnK {l i m : Nat} (h : m <= 8) (e : l = 0 + i) (hi : i < m) : l < 1000 := by rw [e, Nat.zero_add]; exact zzI hi (zzM h (by decide))
theorem zi1 (i : Nat) : 0 + i + 1 = i + 1 := by rw [Nat.zero_add]
theorem lnE {l m : Nat} (h : l = 0 + m) : l = m := by rw [h, Nat.zero_add]
theorem ltL {l k : Nat} {a : Int} (h : l = k) (hk : a < (k : Int) := by decide) : a < (l : Int) := h ▸ hk
theorem tS {a : Int} {n : Nat} (h0 : 0 <= a) (h1 : a < n) : a.toNat < n := Int.ofNat_lt.mp (by rw [Int.toNat_of_nonneg h0]; exact h1)
theorem b6 {n : Nat} (h : n <= 6) : (n : Int) < 10 ^ 200 := Int.lt_of_le_of_lt (Int.ofNat_le.mpr h) (by decide)
theorem bgU {n : Nat} (h : n <= 8) : (n : Int) < 10 ^ 200 := Int.lt_of_le_of_lt (Int.ofNat_le.mpr h) (by decide)
theorem bgL (n : Nat) : -(10 ^ 200 : Int) < n := Int.lt_of_lt_of_le (by decide) (Int.natCast_nonneg n)
theorem mU {n : Nat} {k : Int} (h : n <= 8) (hk : 8 < k := by decide) : (n : Int) < k := Int.lt_of_le_of_lt (Int.ofNat_le.mpr h) hk
theorem iT {n : Nat} {x : Int} (h : InR n x) : x.toNat < n := Int.ofNat_lt.mp (by rw [Int.toNat_of_nonneg h.1]; exact h.2)
theorem iC {n : Nat} {x : Int} (h : InR n x) : ((x.toNat : Nat) : Int) = x := Int.toNat_of_nonneg h.1
theorem zI (i : Nat) : (0 : Int) <= 0 + i := by rw [Int.zero_add]; exact Int.natCast_nonneg i
theorem bL0 {x : Int} (h : 0 <= x) : -(10 ^ 200 : Int) < x := Int.lt_of_lt_of_le (by decide) h
theorem bU0 {x : Int} {n : Nat} (h : x < (n : Int)) (hn : n <= 8) : x < 10 ^ 200 := Int.lt_trans h (bgU hn)
def rAt (r : List Int) (v : Int) : Int := (r[v.toNat]?).getD 0
def jAt (J : List (List Int)) (w v : Int) : Int := rAt ((J[w.toNat]?).getD []) v
open PySem PySem.Spec PyProof.Rows L2 PF
local macro_rules | `(tactic| trivial) => `(tactic| first | with_reducible first | assumption | exact Int.natCast_nonneg _ | exact Nat.le_refl _ | exact Int.le_refl _ | exact rfl | exact leN (by assumption) | exact np1 (by assumption) | exact np2 (by assumption) | exact nq1 (by assumption) | exact nq2 (by assumption) | exact Int.natCast_pos.mpr (by assumption) | exact Nat.le_trans (by assumption) (by decide) | exact bgL _ | exact bgU (by assumption) | exact mU (by assumption) | exact zI _ | exact bL0 (by assumption) | exact bU0 (by assumption) (by assumption) | exact iL (by assumption) | exact iU (by assumption) (by assumption) | exact iC (by assumption) | exact iT (by assumption) | exact stL (by assumption) | exact stU (by assumption) | exact lnK (by assumption) (by assumption) (by assumption) | exact zi1 _ | exact lnE (by assumption) | exact ltL (by assumption) | exact Int.toNat_of_nonneg (by assumption) | exact tS (by assumption) (by assumption) | exact b6 (by assumption) | exact Int.emod_nonneg _ (by decide) | exact Int.emod_lt_of_pos _ (by decide) | decide | omega)
abbrev lfI (x : Int) : O := .lf true (.int x)
abbrev sI (x : Int) : Option O := some (lfI x)
abbrev sT (d : D) : Option O := some (.lf true d)
abbrev sN (os : List O) : Option O := some (.nd .ls os)
abbrev TT : Type := List (List Int)
abbrev DD : Type := List (Str × TT)
abbrev SS : Type := List (Str × List Int)
theorem VM {f : EF} {as as1 : AS} {o : O} (h : f as = some (.ow o, as1)) (hs : o.str = true) : yL f as = some (.rt o) := by
 unfold yL; rw [h]
 show ((if o.str = true then some o else none).bind _) = _
 rw [if_pos hs]; rfl
theorem szs {n : Nat} (h : n <= 1000000) : n <= sizeLine := zzM h (by decide)
theorem vd : ∀ xs : List Int, (xs.map lfI).all O.isLf = true /\ O.strs (xs.map lfI) = true /\ O.toDs (xs.map lfI) = xs.map D.int
 | [] => ⟨rfl, rfl, rfl⟩
 | x :: r => ⟨(vd r).1, (vd r).2.1, congrArg (D.int x :: ·) (vd r).2.2⟩
theorem zcU (xs : List Int) : (xs.map D.int).map (O.lf true) = xs.map lfI := by rw [List.map_map]; rfl
theorem zoI {as : AS} {i : Nat} {os : List O} {fl fh : OF} {lo hi : Option Int} (h : as[i]? = some (sN os)) (hl : os.all O.isLf = true) (hs : O.strs os = true) (h1 : fl as = some (lo, as)) (h2 : fh as = some (hi, as)) :
 fSl (fV i) fl fh slP as = some (.ow (.nd .ls ((cutD (O.toDs os) lo hi).map (O.lf true))), as) := by
 unfold fSl
 rw [zfl h]; show ((fl as).bind _) = _
 rw [h1]; show ((fh as).bind _) = _
 rw [h2]; show ((RV.view as (.bo i)).bind _) = _
 rw [zgC h]
 have e : (O.nd .ls os).kl = some true := by simp only [O.kl, hl, if_true, hs]
 rw [e]
 show (wrap (some true) (.fl (cutD (O.toDs os) lo hi))).bind _ = _
 show (if ((cutD (O.toDs os) lo hi).all yt || true) = true then some (RV.ow (.nd .ls ((cutD (O.toDs os) lo hi).map (lfs true)))) else none : Option RV).bind _ = _
 rw [if_pos (by simp), zbw]; rfl
theorem zjJ {x : D} {xs : List D} : cutD (x :: xs) (some 1) none = xs := by
 have := zjN (xs := [x]) (ys := xs)
 have e : slP (.lst ([x] ++ xs)) (some (([x] : List D).length : Int)) none = some (.fl (cutD (x :: xs) (some 1) none)) := rfl
 rw [e] at this
 injection this with this
 injection this
abbrev stB : SF := (zF (zR true 3 (f2 (f2 (f2 (f2 (fV 3) (fV 3) (zm .Mult)) (f2 (fC (.int 48271)) (fV 3) (zm .Mult)) (zm .Add)) (fV 4) (zm .Add)) (fC (.int 2147483647)) (zm .Mod)))
 (xN (wU 2 (dC (f2 (f2 (f2 (fV 3) (fC (.int 40692)) (zm .Mult)) (f2 (fC (.int 7)) (fV 4) (zm .Mult)) (zm .Add)) (fC (.int 2147483399)) (zm .Mod)) dN) wO)))
theorem zgS (ys : List Int) (w : Int) : (ys ++ [w]).map lfI = ys.map lfI ++ [O.lf true (.int w)] := by rw [List.map_append]; rfl
theorem zdG {A B : Option O} : ∀ (n : Nat) (k x : Int) (ys : List Int) (e4 : Option O), 0 <= k -> k + n <= 1000 -> 0 <= x -> x < 2 ^ 40 -> ys.length + n <= 1000 -> (∀ y ∈ ys, 0 <= y /\ y < 2147483399) -> ∃ (x' : Int) (zs : List Int) (e4' : Option O), zs.length = ys.length + n /\ (∀ z ∈ zs, 0 <= z /\ z < 2147483399) /\
 forL (gN 4) stB (wQ k n) [A, B, sN (ys.map lfI), sI x, e4] = some (.nx [A, B, sN (zs.map lfI), sI x', e4'])
 | 0, k, x, ys, e4, _, _, _, _, _, h => ⟨x, ys, e4, rfl, h, rfl⟩
 | n + 1, k, x, ys, e4, hk, hkn, hx0, hx1, hl, h => by
  have y0 := Int.emod_nonneg (x * x + 48271 * x + k) (show (2147483647 : Int) ≠ 0 by decide)
  have y1 := Int.emod_lt_of_pos (x * x + 48271 * x + k) (show (0 : Int) < 2147483647 by decide)
  have w0 := Int.emod_nonneg ((x * x + 48271 * x + k) % 2147483647 * 40692 + 7 * k) (show (2147483399 : Int) ≠ 0 by decide)
  have w1 := Int.emod_lt_of_pos ((x * x + 48271 * x + k) % 2147483647 * 40692 + 7 * k) (show (0 : Int) < 2147483399 by decide)
  obtain ⟨x', zs, e4', h1, h2, h3⟩ := zdG (A := A) (B := B) n (k + 1) ((x * x + 48271 * x + k) % 2147483647) (ys ++ [((x * x + 48271 * x + k) % 2147483647 * 40692 + 7 * k) % 2147483399]) (sI k) (by trivial) (by trivial) y0 (Int.lt_trans y1 (by decide)) (by rw [zzH]; show ys.length + 1 + n <= _; trivial) (λ z m => by
   rcases zzK.mp m with m | m
   · exact h z m
   · rw [zzP.mp m]; exact ⟨w0, w1⟩)
  refine ⟨x', zs, e4', by rw [h1, zzH]; show ys.length + 1 + n = _; trivial, h2, ?_⟩
  rw [zgS] at h3
  rw [zbZ]
  have bx : x.natAbs < big := zY (Int.lt_of_lt_of_le (by decide) hx0) (Int.lt_trans hx1 (by decide))
  have bk : k.natAbs < big := zY (by trivial) (by trivial)
  exact zcb (as1 := [A, B, sN (ys.map lfI), sI x, sI k]) rfl (yx (yR (i := 3) (yF (xq (xq (wC (zb rfl) (zb rfl) bx bx) (wC zc (zb rfl) (zY (by decide) (by decide)) bx)) (zb rfl)) zc (by decide)) (zG rfl))
   (zow (i := 2) rfl (by rw [zD]; exact vC (by trivial)) (yF (xq (wC (zb rfl) zc (zY (Int.lt_of_lt_of_le (by decide) y0) (Int.lt_trans y1 (by decide))) (zY (by decide) (by decide))) (wC zc (zb rfl) (zY (by decide) (by decide)) bk)) zc (by decide)))) h3
theorem zjF {s : Bool} {c m : Int} (h0 : 0 <= m) (h1 : m <= 900) : ∃ xs : List Int, (xs.length : Int) = m /\ (∀ x ∈ xs, 0 <= x /\ x < 2147483399) /\ yg [(true, .int c), (true, .int m)] = sN (xs.map lfI) := by
 have y0 := Int.emod_nonneg c (show (2147483647 : Int) ≠ 0 by decide)
 have y1 := Int.emod_lt_of_pos c (show (0 : Int) < 2147483647 by decide)
 obtain ⟨x', zs, e4, z1, z2, hf⟩ := zdG (A := sI c) (B := sI m) (m + 1).toNat 0 (c % 2147483647 + 48271) [] none (by trivial) (by trivial) (by trivial) (by trivial) (by show 0 + _ <= _; trivial) (λ _ m => nomatch m)
 cases zs with
 | nil => rw [List.length_nil] at z1; simp at z1; trivial
 | cons z r =>
  refine ⟨r, by rw [zzR] at z1; simp at z1; trivial, λ x hx => z2 x (zzB _ hx), ?_⟩
  obtain ⟨i1, i2, i3⟩ := vd (z :: r)
  have hs := zoI (as := [sI c, sI m, sN ((z :: r).map lfI), sI x', e4]) (i := 2) (fl := oS (fC (.int 1))) (fh := oN) (lo := some 1) (hi := none) rfl i1 i2 rfl rfl
  rw [i3] at hs
  have hc : cutD ((z :: r).map D.int) (some 1) none = r.map D.int := zjJ
  rw [hc, zcU] at hs
  refine zcu rfl (yx (ww (i := 2) (vI yp (szl rfl)) (zG rfl)) (yx (yR (i := 3) (xq (yF (zb rfl) zc (by decide)) zc) (zG rfl)) (yx (wR (xY (zJ (xq (zb rfl) zc) zO) (by trivial) (by trivial)) hf) ?_)))
  exact VM hs (vd r).2.1
theorem V9 (xs : List Int) : (O.nd .ls (xs.map lfI)).str = true /\ (O.nd .ls (xs.map lfI)).toD = .lst (xs.map D.int) := ⟨(vd xs).2.1, congrArg D.lst (vd xs).2.2⟩
abbrev xT (r : List Int) : O := .nd .ls (r.map lfI)
abbrev zL (r : List Int) : D := .lst (r.map D.int)
theorem YQ : ∀ T : TT, O.strs (T.map xT) = true /\ O.toDs (T.map xT) = T.map zL
 | [] => ⟨rfl, rfl⟩
 | r :: T => ⟨by show (O.strs (r.map lfI) && O.strs (T.map xT)) = true; rw [(vd r).2.1, (YQ T).1]; rfl, by
  show D.lst (O.toDs (r.map lfI)) :: O.toDs (T.map xT) = _
  rw [(vd r).2.2, (YQ T).2]; rfl⟩
theorem zbf {g : GF} {fe : EF} {as0 as1 : AS} {y : It1} {r : List It1} {o : O} {os : List O} (h1 : g y as0 = some as1) (h2 : fe as1 = some (.ow o, as1)) (hs : o.str = true) (h3 : wz g yP fe as0 r = some os) : wz g yP fe as0 (y :: r) = some (o :: os) := by
 unfold wz
 rw [h1]; show ((fe as1).bind _) = _
 rw [h2]; show (if o.str = true then _ else _) = _
 rw [if_pos hs, h3]; rfl
theorem xr : ∀ (n : Nat) (k : Int), (wQ k n).length = n
 | 0, _ => rfl
 | n + 1, k => by rw [zbZ]; exact congrArg (· + 1) (xr n (k + 1))
theorem zkh {s : Bool} {x : Int} : vo [(s, .int x)] = sT (.bl true) :=
 zcu rfl (zdI (zoZ (k := true) (zbH (zb rfl) rfl) (λ _ => zph (q := false) (zbH (zb rfl) rfl)) (λ h => nomatch h)))
theorem ZS {f : D -> D -> Option Bool} : ∀ {xs : List D}, (∀ x ∈ xs, f x x = some true) -> eqL f xs xs = some true
 | [], _ => rfl
 | x :: r, h => by
  show (f x x).bind _ = _
  rw [h x (zzD), Option.bind_some, ZS (xs := r) λ y m => h y (zzB _ m)]; rfl
theorem zgg : ∀ {n : Nat} {k : Int} {y : It1}, y ∈ wQ k n -> ∃ b : Int, y = (true, .int b) /\ k <= b /\ b < k + n
 | 0, _, _, h => nomatch h
 | n + 1, k, y, h => by
  rw [zbZ] at h
  rcases zzA.mp h with rfl | h
  · exact ⟨k, rfl, by trivial, by trivial⟩
  · obtain ⟨b, e, h1, h2⟩ := zgg h
    exact ⟨b, e, by trivial, by trivial⟩
theorem zfv {α : Type} (toD : α -> D) {Q : α -> Prop} {g : GF} {fe : EF} {as0 : AS} : ∀ {xs : List It1}, (∀ y ∈ xs, ∃ as1 a, g y as0 = some as1 /\ WE fe as1 (toD a) /\ Q a) -> ∃ (os : List O) (l : List α), wz g yP fe as0 xs = some os /\ O.strs os = true /\ O.toDs os = l.map toD /\ l.length = xs.length /\ ∀ a ∈ l, Q a
 | [], _ => ⟨[], [], rfl, rfl, rfl, rfl, λ _ m => nomatch m⟩
 | y :: xs, H => by
  obtain ⟨as1, a, h1, ⟨o, h2, h3, h4⟩, h5⟩ := H y (zzD ..)
  obtain ⟨os, l, a1, a2, a3, a4, a5⟩ := zfv toD (Q := Q) (g := g) (fe := fe) (as0 := as0) (xs := xs) λ z m => H z (zzB _ m)
  refine ⟨o :: os, a :: l, zbf h1 h2 h3 a1, by show (o.str && O.strs os) = true; rw [h3, a2]; rfl, by show o.toD :: O.toDs os = _; rw [h4, a3]; rfl, congrArg (· + 1) a4, λ b m => ?_⟩
  rcases zzA.mp m with rfl | m
  · exact h5
  · exact a5 b m
theorem ziI {α : Type} (toD : α -> D) {Q : α -> Prop} {fi : IF} {cap : List (Option Nat)} {g : GF} {fe : EF} {as : AS} {xs : List It1} (h1 : fi as = some (xs, as)) (hl : xs.length <= 1000) (H : ∀ y ∈ xs, ∃ as1 a, g y (Zq cap as) = some as1 /\ WE fe as1 (toD a) /\ Q a) :
 ∃ l : List α, l.length = xs.length /\ (∀ a ∈ l, Q a) /\ WE (zZ fi cap g yP fe) as (.lst (l.map toD)) := by
 obtain ⟨os, l, a1, a2, a3, a4, a5⟩ := zfv toD H
 exact ⟨l, a4, a5, _, VL h1 (szs (by trivial)) a1, a2, congrArg D.lst a3⟩
theorem zir {α : Type} (toD : α -> D) {Q : α -> Prop} {fr : AF} {cap : List (Option Nat)} {fe : EF} {as : AS} {n : Nat} {u : Bool} (h1 : WA fr as [(u, .int n)]) (hl : n <= 1000) (H : ∀ b : Int, 0 <= b -> b < n -> ∃ as1 a, gN 0 (true, .int b) (Zq cap as) = some as1 /\ WE fe as1 (toD a) /\ Q a) :
 ∃ l : List α, l.length = n /\ (∀ a ∈ l, Q a) /\ WE (zZ (yE fr yD) cap (gN 0) yP fe) as (.lst (l.map toD)) := by
 obtain ⟨l, a1, a2, a3⟩ := ziI toD (Q := Q) (cap := cap) (g := gN 0) (fe := fe) (xY h1 (by trivial) (by trivial)) (by rw [xr]; trivial) (λ y m => by
  obtain ⟨b, rfl, h0, h2⟩ := zgg m
  exact H b h0 (by trivial))
 rw [xr] at a1
 exact ⟨l, by trivial, a2, a3⟩
theorem zjR {f : EF} {as : AS} {x : D} (h : WE f as x) : ∃ o, yL f as = some (.rt o) /\ o.str = true /\ o.toD = x := by
 obtain ⟨o, h1, h2, h3⟩ := h
 exact ⟨o, VM h1 h2, h2, h3⟩
theorem xO {n m : Nat} {c : SF} {ds : List (Bool × D)} {x : D} (hl : ds.length = m) (h : ∃ o, c (Yt n ds) = some (.rt o) /\ o.str = true /\ o.toD = x) : RE (fnR n m c ds) x := by
 obtain ⟨o, h1, h2, h3⟩ := h
 exact ⟨o, zcu hl h1, h2, h3⟩
abbrev Rt (r : Option Out) (x : D) : Prop := ∃ o, r = some (.rt o) /\ o.str = true /\ o.toD = x
theorem zB {f g : SF} {as as1 : AS} {x : D} (h1 : f as = some (.nx as1)) (h2 : Rt (g as1) x) : Rt (zF f g as) x := by
 obtain ⟨o, a, b, c⟩ := h2
 exact ⟨o, yx h1 a, b, c⟩
theorem Zk {f g : SF} {as : AS} {x : D} (h1 : Rt (f as) x) : Rt (zF f g as) x := by
 obtain ⟨o, a, b, c⟩ := h1
 exact ⟨o, ziD a, b, c⟩
theorem Yx {c : TF} {f g : SF} {as : AS} {x : D} (h : WT c as true) (h1 : Rt (f as) x) : Rt (sIf c f g as) x := by
 obtain ⟨o, a, b, d⟩ := h1
 exact ⟨o, vL h a, b, d⟩
theorem xJ {f : EF} {as : AS} {x : D} (h : WE f as x) : Rt (yL f as) x := zjR h
def Row (n : Nat) (r : List Int) : Prop := r.length = n /\ ∀ x ∈ r, 0 <= x /\ x < (n : Int)
def Tab (k n : Nat) (T : TT) : Prop := T.length = k /\ ∀ r ∈ T, Row n r
abbrev zK (T : TT) : D := .lst (T.map zL)
theorem zer {r : List Int} {P : Int -> Prop} {k : Int} (h0 : 0 <= k) (h1 : k < r.length) (hp : ∀ x ∈ r, P x) : ∃ x, ixP (zL r) (.int k) = some (.im (.int x)) /\ P x := by
 have hk : k.toNat < r.length := by trivial
 refine ⟨r[k.toNat], ?_, hp _ (List.getElem_mem hk)⟩
 have h := Ye (xs := r.map D.int) (j := k.toNat) (v := D.int r[k.toNat]) (by rw [zzG, zzC hk]; rfl)
 rw [show ((k.toNat : Nat) : Int) = k by trivial] at h
 show imR (atI _ _) = _
 rw [h]; rfl
abbrev St (x : Int) : Prop := 0 <= x /\ x < 2147483399
theorem stE {a b : EF} {as : AS} {c : Int} {m : Nat} (hm : m <= 900) (ha : WE a as (.int c)) (hb : WE b as (.int m)) : ∃ xs : List Int, xs.length = m /\ (∀ x ∈ xs, St x) /\ WE (zQ (aC a (aC b aN)) yg) as (zL xs) := by
 obtain ⟨xs, h1, h2, h3⟩ := zjF (s := true) (c := c) (m := m) (by trivial) (by trivial)
 exact ⟨xs, by trivial, h2, zak ha hb ⟨_, h3, (V9 xs).1, (V9 xs).2⟩⟩
theorem zgA {α : Type} {f : α -> D} {l : List α} {i : Nat} {p : α} (h : l[i]? = some p) : ixP (.lst (l.map f)) (.int (i : Int)) = some (.im (f p)) := by
 have h := Ye (xs := l.map f) (j := i) (v := f p) (by rw [zzG, h]; rfl)
 show imR (atI _ _) = _
 rw [h]; rfl
theorem zov {n k : Nat} {r : List Int} {v : Int} (hl : r.length = k) (hr : ∀ x ∈ r, InR n x) (hv : InR k v) : ixP (zL r) (.int v) = some (.im (.int (rAt r v))) /\ InR n (rAt r v) := by
 have hk : v.toNat < r.length := by rw [hl]; have := hv.1; have := hv.2; trivial
 have g := zzC hk
 have e : rAt r v = r[v.toNat] := by unfold rAt; rw [g]; rfl
 rw [e]
 refine ⟨?_, hr _ (List.getElem_mem hk)⟩
 have := zgA (f := D.int) g
 rw [show ((v.toNat : Nat) : Int) = v by have := hv.1; trivial] at this
 exact this
abbrev zdP (T : TT) (w : Int) : List Int := (T[w.toNat]?).getD []
theorem YG {k n : Nat} {T : TT} {w : Int} (hT : Tab k n T) (hw : InR k w) : ixP (zK T) (.int w) = some (.im (zL (zdP T w))) /\ Row n (zdP T w) := by
 have hk : w.toNat < T.length := by rw [hT.1]; have := hw.1; have := hw.2; trivial
 have g := zzC hk
 unfold zdP
 rw [g]
 refine ⟨?_, hT.2 _ (List.getElem_mem hk)⟩
 have := zgA (f := zL) g
 rw [show ((w.toNat : Nat) : Int) = w by have := hw.1; trivial] at this
 exact this
theorem rowAt {n : Nat} {r : List Int} {v : Int} (hr : Row n r) (hv : InR n v) : ixP (zL r) (.int v) = some (.im (.int (rAt r v))) /\ InR n (rAt r v) := zov hr.1 hr.2 hv
theorem ziF {α : Type} (toD : α -> D) {Q : Nat -> α -> Prop} {g : GF} {fe : EF} {as0 : AS} : ∀ {xs : List It1} (k : Nat), (∀ i y, xs[i]? = some y -> ∃ as1 a, g y as0 = some as1 /\ WE fe as1 (toD a) /\ Q (k + i) a) -> ∃ (os : List O) (l : List α), wz g yP fe as0 xs = some os /\ O.strs os = true /\ O.toDs os = l.map toD /\ l.length = xs.length /\ ∀ i a, l[i]? = some a -> Q (k + i) a
 | [], k, _ => ⟨[], [], rfl, rfl, rfl, rfl, λ i a h => by simp at h⟩
 | y :: xs, k, H => by
  obtain ⟨as1, a, h1, ⟨o, h2, h3, h4⟩, h5⟩ := H 0 y rfl
  obtain ⟨os, l, a1, a2, a3, a4, a5⟩ := ziF toD (Q := Q) (g := g) (fe := fe) (as0 := as0) (xs := xs) (k + 1) λ i z m => by
   have := H (i + 1) z (by simpa using m)
   rwa [show k + (i + 1) = k + 1 + i by trivial] at this
  refine ⟨o :: os, a :: l, zbf h1 h2 h3 a1, by show (o.str && O.strs os) = true; rw [h3, a2]; rfl, by show o.toD :: O.toDs os = _; rw [h4, a3]; rfl, congrArg (· + 1) a4, λ i b m => ?_⟩
  cases i with
  | zero => simp at m; subst m; exact h5
  | succ i =>
   have := a5 i b (by simpa using m)
   rwa [show k + 1 + i = k + (i + 1) by trivial] at this
theorem zfi {α : Type} (toD : α -> D) {Q : Nat -> α -> Prop} {fi : IF} {cap : List (Option Nat)} {g : GF} {fe : EF} {as : AS} {xs : List It1} (h1 : fi as = some (xs, as)) (hl : xs.length <= 1000) (H : ∀ i y, xs[i]? = some y -> ∃ as1 a, g y (Zq cap as) = some as1 /\ WE fe as1 (toD a) /\ Q i a) :
 ∃ l : List α, l.length = xs.length /\ (∀ i a, l[i]? = some a -> Q i a) /\ WE (zZ fi cap g yP fe) as (.lst (l.map toD)) := by
 obtain ⟨os, l, a1, a2, a3, a4, a5⟩ := ziF toD (Q := Q) (g := g) (fe := fe) (as0 := Zq cap as) 0 (λ i y h => by rw [Nat.zero_add]; exact H i y h)
 exact ⟨l, a4, (λ i a h => by have := a5 i a h; rwa [Nat.zero_add] at this), _, VL h1 (szs (by trivial)) a1, a2, congrArg D.lst a3⟩
abbrev VN (N n : Nat) (f : Int -> Int) (r : List Int) : Prop := r.length = n /\ (∀ x ∈ r, InR N x) /\ ∀ b, InR n b -> rAt r b = f b
abbrev zaQ (k n : Nat) (f : Int -> Int -> Int) (T : TT) : Prop := Tab k n T /\ ∀ a b, InR k a -> InR n b -> jAt T a b = f a b
theorem zfB {N n : Nat} {f : Int -> Int} {l : List Int} (hl : l.length = n) (h : ∀ (i : Nat) a, l[i]? = some a -> a = f i /\ InR N a) : VN N n f l := by
 refine ⟨hl, λ x m => ?_, λ b hb => ?_⟩
 · obtain ⟨i, hi⟩ := List.getElem?_of_mem m
   exact (h i x hi).2
 · have hk : b.toNat < l.length := by rw [hl]; have := hb.1; have := hb.2; trivial
   have g := zzC hk
   unfold rAt
   rw [g]
   show l[b.toNat] = _
   rw [(h _ _ g).1, show ((b.toNat : Nat) : Int) = b by have := hb.1; trivial]
theorem Vy {k n : Nat} {f : Int -> Int -> Int} {l : TT} (hl : l.length = k) (h : ∀ (i : Nat) r, l[i]? = some r -> VN n n (f i) r) : zaQ k n f l := by
 refine ⟨⟨hl, λ x m => ?_⟩, λ a b ha hb => ?_⟩
 · obtain ⟨i, hi⟩ := List.getElem?_of_mem m
   exact ⟨(h i x hi).1, (h i x hi).2.1⟩
 · have hk : a.toNat < l.length := by rw [hl]; have := ha.1; have := ha.2; trivial
   have g := zzC hk
   unfold jAt
   rw [g]
   show rAt l[a.toNat] b = _
   have := (h _ _ g).2.2 b hb
   rw [show ((a.toNat : Nat) : Int) = a by have := ha.1; trivial] at this
   exact this
theorem zaT {f : Int -> Int} {N : Nat} {fr : AF} {cap : List (Option Nat)} {fe : EF} {as : AS} {n : Nat} {u : Bool} (h1 : WA fr as [(u, .int n)]) (hl : n <= 1000) (H : ∀ b : Int, InR n b -> ∃ as1, gN 0 (true, .int b) (Zq cap as) = some as1 /\ WE fe as1 (.int (f b)) /\ InR N (f b)) :
 ∃ r : List Int, VN N n f r /\ WE (zZ (yE fr yD) cap (gN 0) yP fe) as (zL r) := by
 obtain ⟨l, a1, a2, a3⟩ := zfi D.int (Q := λ i a => a = f i /\ InR N a) (cap := cap) (g := gN 0) (fe := fe) (xY h1 (by trivial) (by trivial)) (by rw [xr]; trivial) (λ i y m => by
  obtain ⟨rfl, hi⟩ := vf m
  obtain ⟨as1, b1, b2, b3⟩ := H (0 + i) ⟨by trivial, by trivial⟩
  exact ⟨as1, f (0 + i), b1, b2, by rw [Int.zero_add], b3⟩)
 rw [xr] at a1
 exact ⟨l, zfB (by trivial) a2, a3⟩
theorem zcT {f : Int -> Int -> Int} {n : Nat} {fr : AF} {cap : List (Option Nat)} {fe : EF} {as : AS} {k : Nat} {u : Bool} (h1 : WA fr as [(u, .int k)]) (hl : k <= 1000) (H : ∀ b : Int, InR k b -> ∃ as1 r, gN 0 (true, .int b) (Zq cap as) = some as1 /\ WE fe as1 (zL r) /\ VN n n (f b) r) :
 ∃ T : TT, zaQ k n f T /\ WE (zZ (yE fr yD) cap (gN 0) yP fe) as (zK T) := by
 obtain ⟨l, a1, a2, a3⟩ := zfi zL (Q := λ i r => VN n n (f i) r) (cap := cap) (g := gN 0) (fe := fe) (xY h1 (by trivial) (by trivial)) (by rw [xr]; trivial) (λ i y m => by
  obtain ⟨rfl, hi⟩ := vf m
  obtain ⟨as1, r, b1, b2, b3⟩ := H (0 + i) ⟨by trivial, by trivial⟩
  rw [Int.zero_add] at b3
  exact ⟨as1, r, b1, b2, b3⟩)
 rw [xr] at a1
 exact ⟨l, Vy (by trivial) a2, a3⟩
theorem zii : ∀ (b : Nat) (a : Int) (f : Nat), b < f -> 0 < a -> a < 1000 -> b < 1000 -> ∃ g e, 0 < g /\ g < 1000 /\ g ∣ a /\ g ∣ (b : Int) /\ whL (fT (f2 (fV 1) (fC (.int 0)) (zW .Gt))) (zlo 0 1 (dC (fV 1) (dC (f2 (fV 0) (fV 1) (zm .Mod)) dN))) f [sI a, sI b] = some (.nx [sI g, e]) := by
 intro b
 induction b using Nat.strongRecOn with
 | ind b ih =>
  intro a f hf ha ha2 hb2
  cases f with
  | zero => trivial
  | succ f =>
   by_cases hb : b = 0
   · subst hb
     exact ⟨a, _, ha, ha2, Int.dvd_refl a, Int.dvd_zero a, zok (yh (Xp (zb rfl) zc) rfl)⟩
   · have m0 := Int.emod_nonneg a (show (b : Int) ≠ 0 by trivial)
     have m1 := Int.emod_lt_of_pos a (show (0 : Int) < b by trivial)
     obtain ⟨g, e, g0, g1, d1, d2, hg⟩ := ih (a % b).toNat (by trivial) b f (by trivial) (by trivial) (by trivial) (by trivial)
     rw [show (((a % b).toNat : Nat) : Int) = a % b by trivial] at hg d2
     refine ⟨g, e, g0, g1, ?_, d1, zoW (yh (Xp (zb rfl) zc) (congrArg some (decide_eq_true (show (0 : Int) < b by trivial)))) (zos (zq (zb rfl) (zq (yF (zb rfl) (zb rfl) (by trivial)) yp)) (zG rfl) (zG rfl)) hg⟩
     rw [<- Int.mul_ediv_add_emod a b]
     exact Int.dvd_add (Int.dvd_trans d1 (Int.dvd_mul_right _ _)) d2
theorem zim {n m : Nat} {s t : Bool} (hn : 0 < n) (hn2 : n <= 8) (hm : m <= 8) : ∃ g : Int, 0 < g /\ g < 1000 /\ g ∣ (n : Int) /\ g ∣ (m : Int) /\ vR [(true, .int n), (true, .int m)] = sI g := by
 obtain ⟨g, e, g0, g1, d1, d2, hg⟩ := zii m n 10000 (by trivial) (by trivial) (by trivial) (by trivial)
 exact ⟨g, g0, g1, d1, d2, zcu rfl (yx hg (zdI (zb rfl)))⟩
theorem strs_snoc : ∀ (os : List O) (o : O), O.strs os = true -> o.str = true -> O.strs (os ++ [o]) = true
 | [], o, _, h => by show (o.str && true) = true; rw [h]; rfl
 | p :: r, o, h, h' => by
  have h := (Bool.and_eq_true _ _).mp (show (p.str && O.strs r) = true from h)
  show (p.str && O.strs (r ++ [o])) = true
  rw [h.1, strs_snoc r o h.2 h']; rfl
theorem zbU : ∀ (os : List O) (o : O), O.toDs (os ++ [o]) = O.toDs os ++ [o.toD]
 | [], o => rfl
 | p :: r, o => congrArg (p.toD :: ·) (zbU r o)
structure Ows {α : Type} (toD : α -> D) (Q : α -> Prop) (os : List O) (l : List α) : Prop where
 st : O.strs os = true
 ds : O.toDs os = l.map toD
 al : ∀ a ∈ l, Q a
 ln : os.length = l.length
theorem Ows.nil {α : Type} {toD : α -> D} {Q : α -> Prop} : Ows toD Q [] [] := ⟨rfl, rfl, (λ _ m => nomatch m), rfl⟩
theorem Ows.snoc {α : Type} {toD : α -> D} {Q : α -> Prop} {os : List O} {l : List α} {o : O} {a : α} (h : Ows toD Q os l) (h1 : o.str = true) (h2 : o.toD = toD a) (h3 : Q a) : Ows toD Q (os ++ [o]) (l ++ [a]) :=
 ⟨strs_snoc os o h.st h1, (by rw [zbU, h.ds, h2, List.map_append]; rfl), (λ b m => (zzK.mp m).elim (h.al b) λ m => (by rw [zzP.mp m]; exact h3)), (by rw [zzH, zzH, h.ln]; rfl)⟩
theorem zcV {as as1 : AS} {a : EF} {i : Nat} {os0 os : List O} {o : O} (h : as[i]? = some (sN os0)) (ha : a as = some (.ow o, as1)) (h1 : as1[i]? = some (sN os)) (hl : os.length < sizeLine) : xN (wU i (dC a dN) wO) as = some (.nx (as1.set i (sN (os ++ [o])))) := by
 unfold xN wU; rw [h]
 have e : dC a dN as = some ([o], as1) := xX ha rfl
 show ((dC a dN as).bind _).bind _ = _
 rw [e]; show (Option.bind (match as1[i]? with | some (some (.nd .ls os)) => _ | _ => none) _) = _
 rw [h1]; show ((wO os [o]).bind _).bind _ = _
 have e2 : wO os [o] = some (os ++ [o], .lf true .non) := by unfold wO; exact if_pos hl
 rw [e2]; rfl
theorem zmR {α : Type} {toD : α -> D} {Q : α -> Prop} {as : AS} {a : EF} {i : Nat} {os : List O} {l : List α} {x : α} (h : as[i]? = some (sN os)) (ho : Ows toD Q os l) (hl : l.length < 1000) (ha : WE a as (toD x)) (hx : Q x) :
 ∃ os', Ows toD Q os' (l ++ [x]) /\ xN (wU i (dC a dN) wO) as = some (.nx (as.set i (sN os'))) := by
 obtain ⟨o, h1, h2, h3⟩ := ha
 exact ⟨os ++ [o], ho.snoc h2 h3 hx, zcV h h1 h (by rw [ho.ln]; exact vC (by trivial))⟩
theorem Ows.retB {α : Type} {toD : α -> D} {Q : α -> Prop} {as : AS} {i : Nat} {os : List O} {l : List α} (h : as[i]? = some (sN os)) (ho : Ows toD Q os l) : Rt (yL (fV i) as) (.lst (l.map toD)) :=
 ⟨_, zix h ho.st, ho.st, congrArg D.lst ho.ds⟩
theorem at2 {xs : List Int} (h : ∀ x ∈ xs, St x) {k : Int} (h0 : 0 <= k) (h1 : k < xs.length) : ∃ x, ixP (zL xs) (.int k) = some (.im (.int x)) /\ St x := zer h0 h1 h
theorem Zh {x : Int} {n : Nat} (hn : 0 < n) : 0 <= x % n /\ x % n < (n : Int) := ⟨Int.emod_nonneg _ (by trivial), Int.emod_lt_of_pos _ (by trivial)⟩
structure OwsX {α : Type} (toD : α -> D) (Q : Nat -> α -> Prop) (os : List O) (l : List α) : Prop where
 st : O.strs os = true
 ds : O.toDs os = l.map toD
 al : ∀ i a, l[i]? = some a -> Q i a
 ln : os.length = l.length
theorem OwsX.nil {α : Type} {toD : α -> D} {Q : Nat -> α -> Prop} : OwsX toD Q [] [] := ⟨rfl, rfl, (λ i a h => by simp at h), rfl⟩
theorem OwsX.snoc {α : Type} {toD : α -> D} {Q : Nat -> α -> Prop} {os : List O} {l : List α} {o : O} {a : α} (h : OwsX toD Q os l) (h1 : o.str = true) (h2 : o.toD = toD a) (h3 : Q l.length a) : OwsX toD Q (os ++ [o]) (l ++ [a]) := by
 refine ⟨strs_snoc os o h.st h1, (by rw [zbU, h.ds, h2, List.map_append]; rfl), (λ i b m => ?_), (by rw [zzH, zzH, h.ln]; rfl)⟩
 by_cases hi : i < l.length
 · rw [List.getElem?_append_left hi] at m
   exact h.al i b m
 · have hl := (zzE.mp m).1
   rw [zzH] at hl
   have e : i = l.length := by have : i < l.length + 1 := hl; trivial
   subst e
   rw [List.getElem?_append_right (zzL _), Nat.sub_self] at m
   cases m
   exact h3
theorem OwsX.ows {α : Type} {toD : α -> D} {Q : Nat -> α -> Prop} {os : List O} {l : List α} (h : OwsX toD Q os l) : Ows toD (λ _ => True) os l := ⟨h.st, h.ds, (λ _ _ => trivial), h.ln⟩
theorem zoz {α : Type} {toD : α -> D} {Q : Nat -> α -> Prop} {as : AS} {a : EF} {i : Nat} {os : List O} {l : List α} {x : α} (h : as[i]? = some (sN os)) (ho : OwsX toD Q os l) (hl : l.length < 1000) (ha : WE a as (toD x)) (hx : Q l.length x) :
 ∃ os', OwsX toD Q os' (l ++ [x]) /\ xN (wU i (dC a dN) wO) as = some (.nx (as.set i (sN os'))) := by
 obtain ⟨o, h1, h2, h3⟩ := ha
 exact ⟨os ++ [o], ho.snoc h2 h3 hx, zcV h h1 h (by rw [ho.ln]; exact vC (by trivial))⟩
theorem zmW {n m : Nat} {xs : List Int} (hn : 0 < n) (hn2 : n <= 8) (hm0 : 0 < m) (hm : m <= 8) (hl : xs.length = 9) (hx : ∀ x ∈ xs, St x) : ∃ T, (Tab m n T /\ LD n m (jS n) 0 (jAt T)) /\ RE (Yq [(true, .int n), (true, .int m), (true, zL xs)]) (zK T) := by
 obtain ⟨g, g0, g1, gn, gm, hg⟩ := zim (s := true) (t := true) (n := n) (m := m) hn hn2 hm
 obtain ⟨x0, a0, b0⟩ := at2 hx (k := 0) (by trivial) (by trivial)
 obtain ⟨x1, a1, b1⟩ := at2 hx (k := 1) (by trivial) (by trivial)
 have q0 : 0 <= (n : Int) / g := Int.ediv_nonneg (by trivial) (by trivial)
 have q1 : (n : Int) / g <= n := Int.ediv_le_self _ (by trivial)
 have hLD := ldS (x0 := x0) (x1 := x1) hn hm0 g0 gn gm
 generalize hst : (n : Int) / g = st at q0 q1 hLD
 have st4 : ∀ (os : List O) (c : Int), 0 <= c -> c < 8 -> ∃ l : List Int, VN n n (λ a => (a * x0 + c * st * x1) % n) l /\ WE (zZ (yE (aC (fV 0) aN) yD) [none, some 0, some 2, some 5, some 3] (gN 0) yP (f2 (f2 (f2 (fV 0) (f2 (fV 2) (fC (.int 0)) ixP) (zm .Mult)) (f2 (f2 (fV 3) (fV 4) (zm .Mult)) (f2 (fV 2) (fC (.int 1)) ixP) (zm .Mult)) (zm .Add)) (fV 1) (zm .Mod)))
  [sI n, sI m, sT (zL xs), sI st, sN os, sI c] (zL l) := λ os c c0 c1 =>
  zaT (N := n) (n := n) (zJ (zb rfl) zO) (by trivial) λ b ⟨h0, h1⟩ => by
   have cs : 0 <= c * st /\ c * st <= 64 := ⟨Int.mul_nonneg c0 q0, by have := Int.mul_le_mul (show c <= 8 by trivial) (show st <= 8 by trivial) q0 (by trivial); trivial⟩
   exact ⟨[sI b, sI n, sT (zL xs), sI c, sI st], rfl, WD.e (yF (xq (wC (zb rfl) (zM (zb rfl) zc a0 rfl) (zY (by trivial) (by trivial)) (zY (by trivial) (by trivial))) (wC (wC (zb rfl) (zb rfl) (zY (by trivial) (by trivial)) (zY (by trivial) (by trivial))) (zM (zb rfl) zc a1 rfl) (zY (by trivial) (by trivial)) (zY (by trivial) (by trivial)))) (zb rfl) (by trivial)), Zh hn⟩
 obtain ⟨as', hf, os, l, e5, rfl, ho, hlen⟩ := xW (g := gN 5) (f := xN (wU 4 (dC (zZ (yE (aC (fV 0) aN) yD) [none, some 0, some 2, some 5, some 3] (gN 0) yP (f2 (f2 (f2 (fV 0) (f2 (fV 2) (fC (.int 0)) ixP) (zm .Mult)) (f2 (f2 (fV 3) (fV 4) (zm .Mult)) (f2 (fV 2) (fC (.int 1)) ixP) (zm .Mult)) (zm .Add)) (fV 1) (zm .Mod))) dN) wO))
  (λ i as => ∃ (os : List O) (l : TT) (e5 : Option O), as = [sI n, sI m, sT (zL xs), sI st, sN os, e5] /\ OwsX zL (λ (i : Nat) r => VN n n (λ a => (a * x0 + (i : Int) * st * x1) % n) r) os l /\ l.length = i)
  (wQ 0 m) 0 [sI n, sI m, sT (zL xs), sI st, sN [], none] (λ i x as hx' hI => by
   obtain ⟨os, l, e5, rfl, ho, hlen⟩ := hI
   obtain ⟨rfl, hi⟩ := vf hx'
   obtain ⟨r, r1, r3⟩ := st4 os (0 + i) (by trivial) (by trivial)
   obtain ⟨os', o1, o2⟩ := zoz (x := r) (i := 4) (toD := zL) (Q := λ (i : Nat) r => VN n n (λ a => (a * x0 + (i : Int) * st * x1) % n) r) rfl ho (by trivial) r3 (by rw [hlen, Nat.zero_add]; rw [Int.zero_add] at r1; exact r1)
   exact ⟨[sI n, sI m, sT (zL xs), sI st, sN os, sI (0 + i)], rfl, _, o2, os', l ++ [r], _, rfl, o1, by rw [zzH, hlen]; rfl⟩)
  ⟨[], [], none, rfl, OwsX.nil, rfl⟩
 rw [xr] at hlen
 have hT : zaQ m n (λ c a => (a * x0 + c * st * x1) % n) l := Vy (by trivial) ho.al
 refine ⟨l, ⟨hT.1, hLD.congr hm0 (ljS hn) (λ _ _ _ _ => rfl) hT.2⟩, xO rfl (zB (as1 := [sI n, sI m, sT (zL xs), sI st, none, none]) ?_ (zB (ww (i := 4) (vI yp (szl rfl)) (zG rfl)) (zB (wR (xY (zJ (zb rfl) zO) (by trivial) (by trivial)) hf) (Ows.retB (i := 4) rfl ho.ows))))⟩
 have := yR (st := true) (i := 3) (as := [sI n, sI m, sT (zL xs), none, none, none]) (Yz (zb (i := 0) rfl) (zgd (zJ (zb (i := 0) rfl) (zJ (zb (i := 1) rfl) zO)) hg) g0 (zY (by trivial) (by trivial))) (zG rfl)
 rw [hst] at this
 exact this
theorem znB {fr : AF} {as : AS} {rs : List (Bool × D)} {g : List D -> Option R0} {zs : List D} (ha : WA fr as rs) (hg : g (rs.map (·.2)) = some (.fl zs)) : fP fr g as = some (.ow (.nd .ls (zs.map (lfs (rs.all (·.1))))), as) := by
 unfold fP; unfold WA at ha
 rw [ha]; show (views as _).bind _ = _
 rw [Vb]; show (g _).bind _ = _
 rw [hg]
 show (if (zs.all yt || (some (rs.all (·.1))).isSome) = true then _ else _ : Option RV).bind _ = _
 rw [if_pos (by simp)]; rfl
theorem zfR {a : EF} {as : AS} {x : D} {g : List D -> Option R0} {zs : List D} (ha : WE a as x) (hg : g [x] = some (.fl zs)) : fP (aC a aN) g as = some (.ow (.nd .ls (zs.map (O.lf true))), as) := by
 have := znB (g := g) (Yw ha (zO (as := as))) hg
 rw [show ([(true, x)].all (·.1)) = true from rfl, zbw] at this
 exact this
theorem znz {a : EF} {as : AS} {s : Bool} {r : List Int} (h : WD a as s (zL r)) : fP (aC a aN) lstP as = some (.ow (xT r), as) := by
 have := znB (g := lstP) (zJ h (zO (as := as))) rfl
 rw [List.map_map] at this
 exact this
theorem znJ {a : EF} {as : AS} {s : Bool} {r : List Int} (h : WD a as s (zL r)) : WE (fP (aC a aN) lstP) as (zL r) := ⟨_, znz h, (V9 r).1, (V9 r).2⟩
theorem zoc {a b c d : EF} {as : AS} {x y z u w : D} {g : List (Bool × D) -> Option O} (ha : WE a as x) (hb : WE b as y) (hc : WE c as z) (hd : WE d as u) (hg : RE (g [(true, x), (true, y), (true, z), (true, u)]) w) : WE (zQ (aC a (aC b (aC c (aC d aN)))) g) as w := by
 obtain ⟨o, h1, h2⟩ := hg
 exact ⟨o, Y4 (Yw ha (Yw hb (Yw hc (Yw hd zO)))) (by show g [(yt x || true, x), (yt y || true, y), (yt z || true, z), (yt u || true, u)] = _; rw [Bool.or_true, Bool.or_true, Bool.or_true, Bool.or_true]; exact h1), h2⟩
theorem zgD {a b c d e : EF} {as : AS} {x y z u v w : D} {g : List (Bool × D) -> Option O} (ha : WE a as x) (hb : WE b as y) (hc : WE c as z) (hd : WE d as u) (he : WE e as v) (hg : RE (g [(true, x), (true, y), (true, z), (true, u), (true, v)]) w) : WE (zQ (aC a (aC b (aC c (aC d (aC e aN))))) g) as w := by
 obtain ⟨o, h1, h2⟩ := hg
 exact ⟨o, Y4 (Yw ha (Yw hb (Yw hc (Yw hd (Yw he zO))))) (by show g [(yt x || true, x), (yt y || true, y), (yt z || true, z), (yt u || true, u), (yt v || true, v)] = _; rw [Bool.or_true, Bool.or_true, Bool.or_true, Bool.or_true, Bool.or_true]; exact h1), h2⟩
theorem zgc {fr : DF} {as : AS} {os : List O} {x : D} (h : WO fr as os) (hl : os.length <= sizeLine) (hs : O.strs os = true) (e : D.tup (O.toDs os) = x) : WE (yZ fr) as x := by
 refine ⟨_, zfC h hl, ?_, ?_⟩
 · unfold YW
   split
   · exact hs
   · exact hs
 · unfold YW
   split
   · exact e
   · exact e
theorem ints_of : ∀ l : List Int, Wn (l.map D.int) = some l
 | [] => rfl
 | x :: r => by
  show (Wn (r.map D.int)).bind _ = _
  rw [ints_of r]; rfl
theorem copies {n m : Nat} {fr : AF} {cap : List (Option Nat)} {as : AS} {u s : Bool} {r : List Int} (hr : Row n r) (hm : m <= 8) (h1 : WA fr as [(u, .int m)]) (h2 : ∀ b : Int, ∃ as1, gN 0 (true, .int b) (Zq cap as) = some as1 /\ WD (fV 1) as1 s (zL r)) :
 ∃ T, zaQ m n (λ _ a => rAt r a) T /\ WE (zZ (yE fr yD) cap (gN 0) yP (fP (aC (fV 1) aN) lstP)) as (zK T) :=
 zcT (f := λ _ a => rAt r a) (n := n) (k := m) (cap := cap) (fe := fP (aC (fV 1) aN) lstP) h1 (by trivial) λ b _ => by
  obtain ⟨as1, g1, g2⟩ := h2 b
  exact ⟨as1, r, g1, znJ g2, hr.1, hr.2, λ _ _ => rfl⟩
theorem zju {l : List Int} (h : l.Pairwise (· <= ·)) {i j : Nat} (hij : i < j) (hj : j < l.length) : l[i] <= l[j] := List.pairwise_iff_getElem.mp h i j (by trivial) hj hij
theorem X4 {r : List Int} {a : Int} (h : a.toNat < r.length) : rAt r a = r[a.toNat] := by unfold rAt; rw [zzC h]; rfl
theorem zjm {n m : Nat} {xs : List Int} (hn : 0 < n) (hn2 : n <= 8) (hm0 : 0 < m) (hm : m <= 8) (hl : xs.length = 9) (hx : ∀ x ∈ xs, St x) : ∃ T, (Tab m n T /\ LD n m jM 0 (jAt T)) /\ RE (Zc [(true, .int n), (true, .int m), (true, zL xs)]) (zK T) := by
 obtain ⟨l, l1, l2, l3⟩ := zir (as := [sI n, sI m, sT (zL xs), none]) (u := true) D.int (Q := λ x => 0 <= x /\ x < (n : Int)) (n := n - 1) (cap := [none, some 0, some 2]) (fr := aC (f2 (fV 0) (fC (.int 1)) (zm .Sub)) aN) (fe := f2 (f2 (fV 2) (fV 0) ixP) (fV 1) (zm .Mod))
  (by rw [show (((n - 1 : Nat) : Nat) : Int) = (n : Int) - 1 by trivial]; exact zJ (zil (zb rfl) zc) zO) (by trivial) (λ b h0 h1 => by
   obtain ⟨x, hx1, hx2⟩ := at2 hx (k := b) h0 (by trivial)
   exact ⟨[sI b, sI n, sT (zL xs)], _, rfl, WD.e (yF (zM (zb rfl) (zb rfl) hx1 rfl) (zb rfl) (by trivial)), Zh hn⟩)
 have w0 : WE (f2 (xG (dC (fC (.int 0)) dN)) (zZ (yE (aC (f2 (fV 0) (fC (.int 1)) (zm .Sub)) aN) yD) [none, some 0, some 2] (gN 0) yP (f2 (f2 (fV 2) (fV 0) ixP) (fV 1) (zm .Mod))) (zm .Add)) [sI n, sI m, sT (zL xs), none] (.lst ((0 :: l).map D.int)) :=
  zoK (vD (os := [lfI 0]) (zq zc yp) (szl rfl) rfl rfl) l3 (add_lists (by rw [zD]; exact szs (by show 1 + _ <= _; trivial)))
 have hp := sortI_perm (0 :: l)
 have hlen : (sortI (0 :: l)).length = n := by rw [hp.length_eq, zzR]; trivial
 have hr : Row n ((sortI (0 :: l)).set 0 0) := by
  refine ⟨by rw [zzS]; exact hlen, λ x m => ?_⟩
  rcases List.mem_or_eq_of_mem_set m with m | rfl
  · rcases zzA.mp (hp.mem_iff.mp m) with rfl | m
    · trivial
    · exact l2 x m
  · trivial
 have s3 := ww (i := 3) (zfR (g := zls) w0 (by
  show (Wn ((0 :: l).map D.int)).bind _ = _
  rw [ints_of]
  show (if (0 :: l).length < 64 then _ else _) = _
  rw [if_pos (by rw [zzR]; trivial)])) (zG rfl)
 rw [zcU] at s3
 have s4 : zkQ 3 (xC 0) (xC 0) [sI n, sI m, sT (zL xs), sN ((sortI (0 :: l)).map lfI)] = some (.nx [sI n, sI m, sT (zL xs), sN (((sortI (0 :: l)).set 0 0).map lfI)]) := by
  cases hs : sortI (0 :: l) with
  | nil => rw [hs] at hlen; simp at hlen; trivial
  | cons y t => rfl
 obtain ⟨T, t1, t2⟩ := copies (n := n) (m := m) (s := false) (u := true) (cap := [none, some 3]) (as := [sI n, sI m, sT (zL xs), sN (((sortI (0 :: l)).set 0 0).map lfI)]) (fr := aC (fV 1) aN) hr hm (zJ (zb rfl) zO) (λ b => ⟨[sI b, some (.lf false (.lst (O.toDs (((sortI (0 :: l)).set 0 0).map lfI))))], rfl, by rw [(vd _).2.2]; exact zb rfl⟩)
 have hz : rAt ((sortI (0 :: l)).set 0 0) 0 = 0 := by
  rw [X4 (by rw [hr.1]; exact hn)]
  exact List.getElem_set_self (by rw [zzS, hlen]; exact hn)
 have hLD : LD n m jM 0 (λ _ a => rAt ((sortI (0 :: l)).set 0 0) a) := by
  refine ldM hm0 hz (λ a ha => (rowAt hr ha).2) λ a b ha hb hab => ?_
  by_cases h0 : a = 0
  · rw [h0, hz]; exact (rowAt hr hb).2.1
  by_cases he : a = b
  · rw [he]; exact Int.le_refl _
  have a0 := ha.1
  have b1 := hb.2
  rw [X4 (by rw [hr.1]; trivial), X4 (by rw [hr.1]; trivial), List.getElem_set_ne (by trivial), List.getElem_set_ne (by trivial)]
  exact zju (Wi (0 :: l)) (by trivial) (by rw [hlen]; trivial)
 exact ⟨T, ⟨t1.1, hLD.congr hm0 (ljM hn) (λ _ _ _ _ => rfl) t1.2⟩, xO rfl (zB s3 (zB s4 (xJ t2)))⟩
theorem ziV {n m : Nat} {xs : List Int} (hn : 2 <= n) (hn2 : n <= 8) (hm0 : 0 < m) (hm : m <= 8) (hl : xs.length = 9) (hx : ∀ x ∈ xs, St x) : ∃ T, (Tab m n T /\ LD n m jL 0 (jAt T) /\ LD n m jF 0 (jAt T)) /\ RE (Yu [(true, .int n), (true, .int m), (true, zL xs)]) (zK T) := by
 obtain ⟨l, l1, l2, l3⟩ := zir (as := [sI n, sI m, sT (zL xs), none]) (u := true) D.int (Q := λ x => 1 <= x /\ x < (n : Int)) (n := n - 1) (cap := [none, some 2, some 0]) (fr := aC (f2 (fV 0) (fC (.int 1)) (zm .Sub)) aN) (fe := f2 (fC (.int 1)) (f2 (f2 (fV 1) (fV 0) ixP) (f2 (fV 2) (fC (.int 1)) (zm .Sub)) (zm .Mod)) (zm .Add))
  (by rw [show (((n - 1 : Nat) : Nat) : Int) = (n : Int) - 1 by trivial]; exact zJ (zil (zb rfl) zc) zO) (by trivial) (λ b h0 h1 => by
   obtain ⟨x, hx1, hx2⟩ := at2 hx (k := b) h0 (by trivial)
   have m0 := Int.emod_nonneg x (show (n : Int) - 1 ≠ 0 by trivial)
   have m1 := Int.emod_lt_of_pos x (show (0 : Int) < (n : Int) - 1 by trivial)
   exact ⟨[sI b, sT (zL xs), sI n], _, rfl, WD.e (xq zc (yF (zM (zb rfl) (zb rfl) hx1 rfl) (zil (zb rfl) zc) (by trivial))), by trivial, by trivial⟩)
 have w0 : WE (f2 (xG (dC (fC (.int 0)) dN)) (zZ (yE (aC (f2 (fV 0) (fC (.int 1)) (zm .Sub)) aN) yD) [none, some 2, some 0] (gN 0) yP (f2 (fC (.int 1)) (f2 (f2 (fV 1) (fV 0) ixP) (f2 (fV 2) (fC (.int 1)) (zm .Sub)) (zm .Mod)) (zm .Add))) (zm .Add)) [sI n, sI m, sT (zL xs), none] (.lst ((0 :: l).map D.int)) :=
  zoK (vD (os := [lfI 0]) (zq zc yp) (szl rfl) rfl rfl) l3 (add_lists (by rw [zD]; exact szs (by show 1 + _ <= _; trivial)))
 have hr : Row n (0 :: l) := ⟨by rw [zzR]; trivial, λ x m => by
  rcases zzA.mp m with rfl | m
  · trivial
  · have := l2 x m; trivial⟩
 obtain ⟨T, t1, t2⟩ := copies (n := n) (m := m) (s := true) (u := true) (cap := [none, some 3]) (as := [sI n, sI m, sT (zL xs), sT (.lst ((0 :: l).map D.int))]) (fr := aC (fV 1) aN) hr hm (zJ (zb rfl) zO) (λ b => ⟨[sI b, sT (.lst ((0 :: l).map D.int))], rfl, zb rfl⟩)
 have hz : rAt (0 :: l) 0 = 0 := rfl
 have hp : ∀ a, InR n a -> a ≠ 0 -> rAt (0 :: l) a ≠ 0 := λ a ha h0 => by
  have a0 := ha.1
  have a1 := ha.2
  have hk : a.toNat < (0 :: l).length := by rw [hr.1]; trivial
  rw [X4 hk]
  have hm := List.getElem_mem hk
  obtain ⟨k, ek⟩ : ∃ k, a.toNat = k + 1 := ⟨a.toNat - 1, by trivial⟩
  have : (0 :: l)[a.toNat] = l[k]'(by rw [zzR] at hk; trivial) := by simp only [ek, List.getElem_cons_succ]
  rw [this]
  have := l2 _ (List.getElem_mem (show k < l.length by rw [zzR] at hk; trivial))
  trivial
 have hc : ∀ a, InR n a -> InR n (rAt (0 :: l) a) := λ a ha => (rowAt hr ha).2
 have n0 : 0 < n := by trivial
 exact ⟨T, ⟨t1.1, (ldL (m := m) hz hc hp).congr hm0 (ljL n0) (λ _ _ _ _ => rfl) t1.2, (ldF (m := m) hz hc hp).congr hm0 (ljF n0) (λ _ _ _ _ => rfl) t1.2⟩, xO rfl (zB (Zw (p := 3) w0 (zG rfl)) (xJ t2))⟩
def KN (k : Int) (n : Nat) : Prop := (k = 0 /\ 1 <= n) \/ (k = 1 /\ 1 <= n) \/ (k = 2 /\ 2 <= n) \/ (k = 3 /\ 2 <= n) \/ (k = 4 /\ n = 4)
theorem zkl {x y : Int} {c : Bool} : ixP (.lst [.int x, .int y]) (.int (if c = true then 1 else 0)) = some (.im (.int (if c = true then y else x))) := by cases c <;> rfl
def jK (k : Int) (n : Nat) : Int -> Int -> Int := if k = 0 then jS n else if k = 1 then jM else if k = 2 then jL else if k = 3 then jF else j4
theorem ljK {k : Int} {n : Nat} (h : KN k n) : LJ n (jK k n) 0 := by
 rcases h with ⟨rfl, hn⟩ | ⟨rfl, hn⟩ | ⟨rfl, hn⟩ | ⟨rfl, hn⟩ | ⟨rfl, rfl⟩
 · exact ljS hn
 · exact ljM hn
 · exact ljL (by trivial)
 · exact ljF (by trivial)
 · exact lj4
theorem zlL {as : AS} {n : Nat} {cap cap2 : List (Option Nat)} {fr : AF} {u : Bool} {fe : EF} {f : Int -> Int -> Int} (hn2 : n <= 8) (h1 : WA fr as [(true, .int n)]) (H : ∀ a : Int, InR n a -> ∃ as1, gN 0 (true, .int a) (Zq cap as) = some as1 /\ WA (aC (fV 1) aN) as1 [(true, .int n)] /\ ∀ b : Int, InR n b -> ∃ as2, gN 0 (true, .int b) (Zq cap2 as1) = some as2 /\ WD fe as2 true (.int (f a b)) /\ InR n (f a b)) :
 ∃ T, zaQ n n f T /\ WE (zZ (yE fr yD) cap (gN 0) yP (zZ (yE (aC (fV 1) aN) yD) cap2 (gN 0) yP fe)) as (zK T) :=
 zcT (n := n) (k := n) (cap := cap) (fe := zZ (yE (aC (fV 1) aN) yD) cap2 (gN 0) yP fe) h1 (by trivial) λ a ha => by
  obtain ⟨as1, g1, g2, g3⟩ := H a ha
  obtain ⟨r, b1, b3⟩ := zaT (f := f a) (N := n) (n := n) (cap := cap2) (fe := fe) g2 (by trivial) λ b hb => by
   obtain ⟨as2, c1, c2, c3⟩ := g3 b hb
   exact ⟨as2, c1, WD.e c2, c3⟩
  exact ⟨as1, r, g1, b3, b1⟩
abbrev zce : List D := [.tup [.int 0, .int 1], .tup [.int 1, .int 0], .tup [.int 0, .int 0], .tup [.int 1, .int 1]]
theorem ziY {i : Nat} {y : It1} (m : (zce.map λ d => (true, d))[i]? = some y) : y = (true, .tup [.int (p1 i), .int (p2 i)]) /\ i < 4 := by
 match i, m with
 | 0, m => cases m; exact ⟨rfl, by decide⟩
 | 1, m => cases m; exact ⟨rfl, by decide⟩
 | 2, m => cases m; exact ⟨rfl, by decide⟩
 | 3, m => cases m; exact ⟨rfl, by decide⟩
theorem zlB (i : Int) : p1 i = 0 \/ p1 i = 1 := by unfold p1; split <;> simp
theorem zkY (i : Int) : p2 i = 0 \/ p2 i = 1 := by unfold p2; split <;> simp
theorem znn {u v k : Int} (hu : u = 0 \/ u = 1) (hv : v = 0 \/ v = 1) : pk u v k = 0 \/ pk u v k = 1 := by unfold pk; split <;> assumption
theorem zlv {u v : Int} (hu : u = 0 \/ u = 1) (hv : v = 0 \/ v = 1) : InR 4 (ixM u v) /\ W7 (.lst zce) [.tup [.int u, .int v]] = some (.im (.int (ixM u v))) := by
 rcases hu with rfl | rfl <;> rcases hv with rfl | rfl
 · exact ⟨by decide, rfl⟩
 · exact ⟨by decide, rfl⟩
 · exact ⟨by decide, rfl⟩
 · exact ⟨by decide, rfl⟩
theorem zja {p q k : Int} (hk : k = 0 \/ k = 1) : ixP (.tup [.int p, .int q]) (.int k) = some (.im (.int (pk p q k))) := by
 rcases hk with rfl | rfl
 · rfl
 · rfl
theorem znT : ∃ T, zaQ 4 4 j4 T /\ RE (v7 [(true, .int 4), (true, .int (4 : Nat))]) (zK T) := by
 obtain ⟨T, t1, t2, t3⟩ := zfi (as := [sI 4, sI (4 : Nat), sT (.lst zce)]) zL (Q := λ i r => VN 4 4 (j4 i) r) (cap := [none, some 2]) (g := gN 0) (fe := zZ (Y8 (fV 1)) [none, some 1, some 0] (gN 0) yP (Wu .lst (fV 1) (aC (yZ (dC (f2 (fV 0) (f2 (fV 2) (fC (.int 0)) ixP) ixP) (dC (f2 (fV 0) (f2 (fV 2) (fC (.int 1)) ixP) ixP) dN))) aN) W7)) (zfw (f := fV 2) (WD.e (zb rfl))) (by rw [zD]; show 4 <= 1000; decide) λ i y m => by
  obtain ⟨rfl, hi⟩ := ziY m
  obtain ⟨r, r1, r2, r3⟩ := zfi (as := [sT (.tup [.int (p1 i), .int (p2 i)]), sT (.lst zce)]) D.int (Q := λ k x => x = j4 i k /\ InR 4 x) (cap := [none, some 1, some 0]) (g := gN 0) (fe := Wu .lst (fV 1) (aC (yZ (dC (f2 (fV 0) (f2 (fV 2) (fC (.int 0)) ixP) ixP) (dC (f2 (fV 0) (f2 (fV 2) (fC (.int 1)) ixP) ixP) dN))) aN) W7) (zfw (f := fV 1) (WD.e (zb rfl))) (by rw [zD]; show 4 <= 1000; decide) λ k y m => by
   obtain ⟨rfl, hk⟩ := ziY m
   obtain ⟨j1, ej⟩ := zlv (znn (k := p1 i) (zlB k) (zkY k)) (znn (k := p2 i) (zlB k) (zkY k))
   exact ⟨[sT (.tup [.int (p1 k), .int (p2 k)]), sT (.lst zce), sT (.tup [.int (p1 i), .int (p2 i)])], j4 i k, rfl, WD.e (zgw (zb rfl) rfl (zJ (zbO (os := [lfI (pk (p1 k) (p2 k) (p1 i)), lfI (pk (p1 k) (p2 k) (p2 i))]) (zq (zM (zb rfl) (zM (zb rfl) zc rfl rfl) (zja (zlB i)) rfl) (zq (zM (zb rfl) (zM (zb rfl) zc rfl rfl) (zja (zkY i)) rfl) yp)) (szl rfl) rfl) zO) ej rfl), rfl, j1⟩
  rw [zD] at r1
  exact ⟨[sT (.tup [.int (p1 i), .int (p2 i)]), sT (.lst zce)], r, rfl, r3, zfB r1 r2⟩
 rw [zD] at t1
 refine ⟨T, Vy t1 t2, xO rfl (zB (ym (yh (xm (zb rfl) zc rfl) rfl) rfl) (zB (ym (yh (xm (zb rfl) zc rfl) rfl) rfl) (zB (ym (yh (xm (zb rfl) zc rfl) rfl) rfl) (zB (ym (yh (xm (zb rfl) zc rfl) rfl) rfl) (zB (Zw (p := 2) (x := .lst zce) (vD (os := zce.map (O.lf true)) ?_ (szl rfl) rfl rfl) (zG rfl)) (xJ t3))))))⟩
 exact zq (zbO (os := [lfI 0, lfI 1]) (zq zc (zq zc yp)) (szl rfl) rfl) (zq (zbO (os := [lfI 1, lfI 0]) (zq zc (zq zc yp)) (szl rfl) rfl) (zq (zbO (os := [lfI 0, lfI 0]) (zq zc (zq zc yp)) (szl rfl) rfl) (zq (zbO (os := [lfI 1, lfI 1]) (zq zc (zq zc yp)) (szl rfl) rfl) yp)))
theorem zjQ {k : Int} {n : Nat} (h : KN k n) (hn2 : n <= 8) : ∃ T, zaQ n n (jK k n) T /\ RE (v7 [(true, .int k), (true, .int n)]) (zK T) := by
 rcases h with ⟨rfl, hn⟩ | ⟨rfl, hn⟩ | ⟨rfl, hn⟩ | ⟨rfl, hn⟩ | ⟨rfl, rfl⟩
 · obtain ⟨T, t1, t2⟩ := zlL (f := jS n) (as := [sI 0, sI n, none]) (n := n) (u := true) (cap := [none, some 1]) (cap2 := [none, some 1, some 0]) (fr := aC (fV 1) aN) (fe := f2 (f2 (fV 2) (fV 0) (zm .Add)) (fV 1) (zm .Mod)) hn2 (zJ (zb rfl) zO) λ a ha => ⟨[sI a, sI n], rfl, zJ (zb rfl) zO, λ b hb => ⟨[sI b, sI n, sI a], rfl, yF (xq (zb rfl) (zb rfl)) (zb rfl) (by trivial), zis hn⟩⟩
   exact ⟨T, t1, xO rfl (Zk (Yx (yh (xm (zb rfl) zc rfl) rfl) (xJ t2)))⟩
 · obtain ⟨T, t1, t2⟩ := zlL (f := jM) (as := [sI 1, sI n, none]) (n := n) (u := true) (cap := [none, some 1]) (cap2 := [none, some 0]) (fr := aC (fV 1) aN) (fe := fP (aC (fV 1) (aC (fV 0) aN)) znP) hn2 (zJ (zb rfl) zO) λ a ha => ⟨[sI a, sI n], rfl, zJ (zb rfl) zO, λ b hb => ⟨[sI b, sI a], rfl, vQ (zJ (zb rfl) (zJ (zb rfl) zO)) rfl rfl, (ljM hn).cl a b ha hb⟩⟩
   exact ⟨T, t1, xO rfl (zB (ym (yh (xm (zb rfl) zc rfl) rfl) rfl) (Zk (Yx (yh (xm (zb rfl) zc rfl) rfl) (xJ t2))))⟩
 · obtain ⟨T, t1, t2⟩ := zlL (f := jL) (as := [sI 2, sI n, none]) (n := n) (u := true) (cap := [none, some 1]) (cap2 := [none, some 0]) (fr := aC (fV 1) aN) (fe := f2 (xG (dC (fV 0) (dC (fV 1) dN))) (fP (aC (f2 (fV 0) (fC (.int 0)) (zW .Eq)) aN) zdu) ixP) hn2 (zJ (zb rfl) zO) λ a ha => ⟨[sI a, sI n], rfl, zJ (zb rfl) zO, λ b hb => ⟨[sI b, sI a], rfl, f2E (vD (os := [lfI b, lfI a]) (zq (zb rfl) (zq (zb rfl) yp)) (szl rfl) rfl rfl) (WD.e (vQ (zJ (xm (zb rfl) zc rfl) zO) rfl rfl)) (zkl.trans (by unfold jL; by_cases h : b = 0 <;> simp [h])), (ljL (by trivial)).cl a b ha hb⟩⟩
   exact ⟨T, t1, xO rfl (zB (ym (yh (xm (zb rfl) zc rfl) rfl) rfl) (zB (ym (yh (xm (zb rfl) zc rfl) rfl) rfl) (Zk (Yx (yh (xm (zb rfl) zc rfl) rfl) (xJ t2)))))⟩
 · obtain ⟨T, t1, t2⟩ := zlL (f := jF) (as := [sI 3, sI n, none]) (n := n) (u := true) (cap := [none, some 1]) (cap2 := [none, some 0]) (fr := aC (fV 1) aN) (fe := f2 (xG (dC (fV 1) (dC (fV 0) dN))) (fP (aC (f2 (fV 1) (fC (.int 0)) (zW .Eq)) aN) zdu) ixP) hn2 (zJ (zb rfl) zO) λ a ha => ⟨[sI a, sI n], rfl, zJ (zb rfl) zO, λ b hb => ⟨[sI b, sI a], rfl, f2E (vD (os := [lfI a, lfI b]) (zq (zb rfl) (zq (zb rfl) yp)) (szl rfl) rfl rfl) (WD.e (vQ (zJ (xm (zb rfl) zc rfl) zO) rfl rfl)) (zkl.trans (by unfold jF; by_cases h : a = 0 <;> simp [h])), (ljF (by trivial)).cl a b ha hb⟩⟩
   exact ⟨T, t1, xO rfl (zB (ym (yh (xm (zb rfl) zc rfl) rfl) rfl) (zB (ym (yh (xm (zb rfl) zc rfl) rfl) rfl) (zB (ym (yh (xm (zb rfl) zc rfl) rfl) rfl) (Zk (Yx (yh (xm (zb rfl) zc rfl) rfl) (xJ t2))))))⟩
 · exact znT
theorem zmt {k : Int} {n m : Nat} {xs : List Int} (h : KN k n) (hn2 : n <= 8) (hm0 : 0 < m) (hm : m <= 8) (hl : xs.length = 9) (hx : ∀ x ∈ xs, St x) : ∃ T, (Tab m n T /\ LD n m (jK k n) 0 (jAt T)) /\ RE (Zo [(true, .int k), (true, .int n), (true, .int m), (true, zL xs)]) (zK T) := by
 rcases h with ⟨rfl, hn⟩ | ⟨rfl, hn⟩ | ⟨rfl, hn⟩ | ⟨rfl, hn⟩ | ⟨rfl, rfl⟩
 · obtain ⟨T, t1, t2⟩ := zmW (m := m) (xs := xs) hn hn2 hm0 hm hl hx
   exact ⟨T, t1, xO rfl (Zk (Yx (yh (xm (zb rfl) zc rfl) rfl) (xJ (Xj (WD.e (zb rfl)) (WD.e (zb rfl)) (WD.e (zb rfl)) t2))))⟩
 · obtain ⟨T, t1, t2⟩ := zjm (m := m) (xs := xs) hn hn2 hm0 hm hl hx
   exact ⟨T, t1, xO rfl (zB (ym (yh (xm (zb rfl) zc rfl) rfl) rfl) (Zk (Yx (yh (xm (zb rfl) zc rfl) rfl) (xJ (Xj (WD.e (zb rfl)) (WD.e (zb rfl)) (WD.e (zb rfl)) t2)))))⟩
 · obtain ⟨T, t1, t2⟩ := ziV (m := m) (xs := xs) hn hn2 hm0 hm hl hx
   exact ⟨T, ⟨t1.1, t1.2.1⟩, xO rfl (zB (ym (yh (xm (zb rfl) zc rfl) rfl) rfl) (zB (ym (yh (xm (zb rfl) zc rfl) rfl) rfl) (Zk (Yx (yh (zhw (zb rfl) zc) rfl) (xJ (Xj (WD.e (zb rfl)) (WD.e (zb rfl)) (WD.e (zb rfl)) t2))))))⟩
 · obtain ⟨T, t1, t2⟩ := ziV (m := m) (xs := xs) hn hn2 hm0 hm hl hx
   exact ⟨T, ⟨t1.1, t1.2.2⟩, xO rfl (zB (ym (yh (xm (zb rfl) zc rfl) rfl) rfl) (zB (ym (yh (xm (zb rfl) zc rfl) rfl) rfl) (Zk (Yx (yh (zhw (zb rfl) zc) rfl) (xJ (Xj (WD.e (zb rfl)) (WD.e (zb rfl)) (WD.e (zb rfl)) t2))))))⟩
 · obtain ⟨x0, a0, b0⟩ := at2 hx (k := 0) (by trivial) (by trivial)
   have hp : ∃ r : List Int, (Row 4 r /\ LD 4 m j4 0 (λ _ a => rAt r a)) /\ ixP (.lst [zL [0, 1, 2, 3], zL [0, 1, 3, 2]]) (.int (x0 % 2)) = some (.im (zL r)) := by
    rcases (show x0 % 2 = 0 \/ x0 % 2 = 1 by trivial) with e | e <;> rw [e]
    · exact ⟨[0, 1, 2, 3], ⟨⟨rfl, by decide⟩, ld4 (.inl λ a ha => f4 (P := λ a => rAt [0, 1, 2, 3] a = a) (by decide) ha)⟩, rfl⟩
    · exact ⟨[0, 1, 3, 2], ⟨⟨rfl, by decide⟩, ld4 (.inr λ a ha => f4 (P := λ a => rAt [0, 1, 3, 2] a = (if a = 2 then 3 else if a = 3 then 2 else a)) (by decide) ha)⟩, rfl⟩
   obtain ⟨r, r1, r2⟩ := hp
   obtain ⟨T, c1, c3⟩ := zcT (as := [sI 4, sI (4 : Nat), sI m, sT (zL xs)]) (u := true) (f := λ _ a => rAt r a) (n := 4) (k := m) (cap := [none, some 3]) (fr := aC (fV 2) aN) (fe := f2 (xG (dC (xG (dC (fC (.int 0)) (dC (fC (.int 1)) (dC (fC (.int 2)) (dC (fC (.int 3)) dN))))) (dC (xG (dC (fC (.int 0)) (dC (fC (.int 1)) (dC (fC (.int 3)) (dC (fC (.int 2)) dN))))) dN))) (f2 (f2 (fV 1) (fC (.int 0)) ixP) (fC (.int 2)) (zm .Mod)) ixP) (zJ (zb rfl) zO) (by trivial) λ b _ =>
    ⟨[sI b, sT (zL xs)], r, rfl, WD.e (f2E (vD (Vg (vI (zq zc (zq zc (zq zc (zq zc yp)))) (szl rfl)) (Vg (vI (zq zc (zq zc (zq zc (zq zc yp)))) (szl rfl)) yp)) (szl rfl) rfl rfl) (WD.e (yF (zM (zb rfl) zc a0 rfl) zc (by decide))) r2), r1.1.1, r1.1.2, λ _ _ => rfl⟩
   exact ⟨T, ⟨c1.1, r1.2.congr hm0 lj4 (λ _ _ _ _ => rfl) c1.2⟩, xO rfl (zB (ym (yh (xm (zb rfl) zc rfl) rfl) rfl) (zB (ym (yh (xm (zb rfl) zc rfl) rfl) rfl) (zB (ym (yh (zhw (zb rfl) zc) rfl) rfl) (xJ c3))))⟩
structure LawP (n m : Nat) (J : TT) (Ds : List TT) : Prop where
 tj : Tab n n J
 lj : LJ n (jAt J) 0
 td : ∀ T ∈ Ds, Tab m n T
 ld : ∀ T ∈ Ds, LD n m (jAt J) 0 (jAt T)
abbrev plD (n : Nat) (J : TT) (Ds : List TT) : D := .tup [.int n, zK J, .lst (Ds.map zK)]
theorem zdH {k c : Int} {n m w : Nat} (h : KN k n) (hn2 : n <= 8) (hm0 : 0 < m) (hm : m <= 8) (hw : w <= 8) : ∃ J Ds, LawP n m J Ds /\ Ds.length = w /\ RE (wk [(true, .int k), (true, .int n), (true, .int m), (true, .int w), (true, .int c)]) (plD n J Ds) := by
 obtain ⟨J, j1, oj, j2, j3, j4⟩ := zjQ h hn2
 obtain ⟨Ds, d1, d2, d3⟩ := zir (as := [sI k, sI n, sI m, sI w, sI c, none]) (u := true) zK (Q := λ T => Tab m n T /\ LD n m (jK k n) 0 (jAt T)) (n := w) (cap := [none, some 0, some 1, some 2, some 4]) (fr := aC (fV 3) aN) (fe := zQ (aC (fV 1) (aC (fV 2) (aC (fV 3) (aC (zQ (aC (f2 (fV 4) (f2 (fC (.int 31)) (fV 0) (zm .Mult)) (zm .Add)) (aC (fC (.int 9)) aN)) yg) aN)))) Zo) (zJ (zb rfl) zO) (by trivial) λ b b0 b1 => by
  obtain ⟨xs, x1, x2, x3⟩ := stE (as := [sI b, sI k, sI n, sI m, sI c]) (a := f2 (fV 4) (f2 (fC (.int 31)) (fV 0) (zm .Mult)) (zm .Add)) (b := fC (.int 9)) (m := 9) (by trivial) (WD.e (xq (zb rfl) (wC zc (zb rfl) (zY (by decide) (by decide)) (zY (by trivial) (by trivial))))) (WD.e zc)
  obtain ⟨T, t1, t2⟩ := zmt h hn2 hm0 hm x1 x2
  exact ⟨[sI b, sI k, sI n, sI m, sI c], T, rfl, zoc (WD.e (zb rfl)) (WD.e (zb rfl)) (WD.e (zb rfl)) x3 t2, t1⟩
 have lj := (ljK h).congr j1.2
 refine ⟨J, Ds, ⟨j1.1, lj, λ T mT => (d2 T mT).1, λ T mT => (d2 T mT).2.congr hm0 (ljK h) j1.2 (λ _ _ _ _ => rfl)⟩, d1, xO rfl (zB (Zw (p := 5) d3 (zG rfl)) (xJ (zgc (os := [lfI n, oj, .lf true (.lst (Ds.map zK))]) (zq (zb rfl) (Vg (Y4 (zJ (zb rfl) (zJ (zb rfl) zO)) j2) (zq (zb rfl) yp))) (szl rfl) ?_ ?_)))⟩
 · show (true && (oj.str && (true && true))) = true
   rw [j3]; rfl
 · show D.tup [.int n, oj.toD, .lst (Ds.map zK)] = _
   rw [j4]
theorem ziO {as : AS} {i j : Nat} {os ps : List O} (hij : i ≠ j) (h : as[i]? = some (sN os)) (hj : as[j]? = some (sN ps)) (hl : os.length < sizeLine) :
 xN (wU i (dC (fV j) dN) wO) as = some (.nx ((as.set j (some (O.nd .ls ps).frz)).set i (sN (os ++ [(O.nd .ls ps).frz])))) := by
 have e : dC (fV j) dN as = some ([(O.nd .ls ps).frz], as.set j (some (O.nd .ls ps).frz)) := by
  unfold dC
  rw [zfl hj]
  show ((toO as (.bo j)).bind _) = _
  rw [zkx hj]; rfl
 unfold xN wU; rw [h]
 show ((dC (fV j) dN as).bind _).bind _ = _
 rw [e]; show (Option.bind (match (as.set j (some (O.nd .ls ps).frz))[i]? with | some (some (.nd .ls os)) => _ | _ => none) _) = _
 rw [zzW (Ne.symm hij), h]; show ((wO os [(O.nd .ls ps).frz]).bind _).bind _ = _
 have e2 : wO os [(O.nd .ls ps).frz] = some (os ++ [(O.nd .ls ps).frz], .lf true .non) := by unfold wO; exact if_pos hl
 rw [e2]; rfl
theorem Ows.frz {α : Type} {toD : α -> D} {Q : α -> Prop} {os : List O} {l : List α} (h : Ows toD Q os l) : (O.nd .ls os).frz = .lf true (.lst (l.map toD)) := by
 show O.lf (O.strs os) (.lst (O.toDs os)) = _
 rw [h.st, h.ds]
section
variable {n1 n2 m : Nat} {J1 J2 : TT} {D1 D2 : List TT}
theorem zld (h1 : 0 < n1) (h2 : 0 < n2) (hn : n1 * n2 <= 8) (j1 : Tab n1 n1 J1) (j2 : Tab n2 n2 J2) :
 ∃ os l e6 e7 e8, OwsX zL (λ (i : Nat) r => VN (n1 * n2) (n1 * n2) (jB n2 (jAt J1) (jAt J2) i) r) os l /\ l.length = n1 * n2 /\ forL (gN 6) (zF (zR true 7 (f2 (f2 (fV 0) (fC (.int 1)) ixP) (f2 (fV 6) (fV 4) (zm .FloorDiv)) ixP))
 (zF (zR true 8 (f2 (f2 (fV 1) (fC (.int 1)) ixP) (f2 (fV 6) (fV 4) (zm .Mod)) ixP))
 (xN (wU 5 (dC (zZ (yE (aC (fV 3) aN) yD) [none, some 4, some 8, some 7] (gN 0) yP (f2 (f2 (f2 (fV 3) (f2 (fV 0) (fV 1) (zm .FloorDiv)) ixP) (fV 1) (zm .Mult)) (f2 (fV 2) (f2 (fV 0) (fV 1) (zm .Mod)) ixP) (zm .Add))) dN) wO))))
  (wQ 0 (n1 * n2)) [sT (plD n1 J1 D1), sT (plD n2 J2 D2), sI m, sI ((n1 * n2 : Nat) : Int), sI n2, sN [], none, none, none, none, none, none, none, none]
  = some (.nx [sT (plD n1 J1 D1), sT (plD n2 J2 D2), sI m, sI ((n1 * n2 : Nat) : Int), sI n2, sN os, e6, e7, e8, none, none, none, none, none]) := by
 have hn2 : n2 <= 8 := zzM (Nat.le_mul_of_pos_left n2 h1) hn
 obtain ⟨as', hf, os, l, e6, e7, e8, rfl, ho, hlen⟩ := xW (g := gN 6) (f := (zF (zR true 7 (f2 (f2 (fV 0) (fC (.int 1)) ixP) (f2 (fV 6) (fV 4) (zm .FloorDiv)) ixP))
  (zF (zR true 8 (f2 (f2 (fV 1) (fC (.int 1)) ixP) (f2 (fV 6) (fV 4) (zm .Mod)) ixP))
  (xN (wU 5 (dC (zZ (yE (aC (fV 3) aN) yD) [none, some 4, some 8, some 7] (gN 0) yP (f2 (f2 (f2 (fV 3) (f2 (fV 0) (fV 1) (zm .FloorDiv)) ixP) (fV 1) (zm .Mult)) (f2 (fV 2) (f2 (fV 0) (fV 1) (zm .Mod)) ixP) (zm .Add))) dN) wO)))))
  (λ i as => ∃ (os : List O) (l : TT) (e6 e7 e8 : Option O), as = [sT (plD n1 J1 D1), sT (plD n2 J2 D2), sI m, sI ((n1 * n2 : Nat) : Int), sI n2, sN os, e6, e7, e8, none, none, none, none, none] /\ OwsX zL (λ (i : Nat) r => VN (n1 * n2) (n1 * n2) (jB n2 (jAt J1) (jAt J2) i) r) os l /\ l.length = i)
  (wQ 0 (n1 * n2)) 0 [sT (plD n1 J1 D1), sT (plD n2 J2 D2), sI m, sI ((n1 * n2 : Nat) : Int), sI n2, sN [], none, none, none, none, none, none, none, none] (λ i x as hx' hI => by
   obtain ⟨os, l, e6, e7, e8, rfl, ho, hlen⟩ := hI
   obtain ⟨rfl, hi⟩ := vf hx'
   obtain ⟨u1, u2⟩ := yH (n1 := n1) (n2 := n2) (p := 0 + i) h2 ⟨by trivial, by trivial⟩
   obtain ⟨a1, b1⟩ := YG j1 u1
   obtain ⟨a2, b2⟩ := YG j2 u2
   have n18 : n1 <= 8 := zzM (Nat.le_mul_of_pos_right n1 h2) hn
   obtain ⟨r, c1, c3⟩ := zaT (f := jB n2 (jAt J1) (jAt J2) (0 + i)) (N := n1 * n2) (as := [sT (plD n1 J1 D1), sT (plD n2 J2 D2), sI m, sI ((n1 * n2 : Nat) : Int), sI n2, sN os, sI (0 + i), sT (zL (zdP J1 ((0 + i) / n2))), sT (zL (zdP J2 ((0 + i) % n2))), none, none, none, none, none]) (u := true) (n := n1 * n2) (cap := [none, some 4, some 8, some 7]) (fr := aC (fV 3) aN) (fe := f2 (f2 (f2 (fV 3) (f2 (fV 0) (fV 1) (zm .FloorDiv)) ixP) (fV 1) (zm .Mult)) (f2 (fV 2) (f2 (fV 0) (fV 1) (zm .Mod)) ixP) (zm .Add)) (zJ (zb rfl) zO) (by trivial) λ b hb => by
    obtain ⟨v1, v2⟩ := yH h2 hb
    obtain ⟨x1, x2⟩ := rowAt b1 v1
    obtain ⟨y1, y2⟩ := rowAt b2 v2
    have x3 : 0 <= jAt J1 ((0 + i) / n2) (b / n2) := x2.1
    have x4 : jAt J1 ((0 + i) / n2) (b / n2) < n1 := x2.2
    exact ⟨[sI b, sI n2, sT (zL (zdP J2 ((0 + i) % n2))), sT (zL (zdP J1 ((0 + i) / n2)))], rfl, WD.e (xq (wC (zM (zb rfl) (Yz (zb rfl) (zb rfl) (by trivial) (zY (by trivial) (by trivial))) x1 rfl) (zb rfl) (zY (by trivial) (by trivial)) (zY (by trivial) (by trivial))) (zM (zb rfl) (yF (zb rfl) (zb rfl) (by trivial)) y1 rfl)), zkN x2 y2⟩
   rw [Int.zero_add] at c1
   obtain ⟨os', o1, o2⟩ := zoz (x := r) (i := 5) (toD := zL) (Q := λ (i : Nat) r => VN (n1 * n2) (n1 * n2) (jB n2 (jAt J1) (jAt J2) i) r) rfl ho (by trivial) c3 (by rw [hlen, Nat.zero_add]; exact c1)
   refine ⟨[sT (plD n1 J1 D1), sT (plD n2 J2 D2), sI m, sI ((n1 * n2 : Nat) : Int), sI n2, sN os, sI (0 + i), e7, e8, none, none, none, none, none], rfl, _, yx (yR (i := 7) (xM (xM (zb (i := 0) rfl) zc rfl) (Yz (zb (i := 6) rfl) (zb (i := 4) rfl) (by trivial) (zY (by trivial) (by trivial))) a1) (zG rfl)) (yx (yR (i := 8) (xM (xM (zb (i := 1) rfl) zc rfl) (yF (zb (i := 6) rfl) (zb (i := 4) rfl) (by trivial)) a2) (zG rfl)) o2), os', l ++ [r], _, _, _, rfl, o1, by rw [zzH, hlen]; rfl⟩)
  ⟨[], [], none, none, none, rfl, OwsX.nil, rfl⟩
 rw [xr] at hlen
 exact ⟨os, l, e6, e7, e8, ho, by trivial, hf⟩
end
abbrev B14 (n1 n2 m : Nat) (J1 J2 : TT) (D1 D2 : List TT) (os5 : List O) (e6 e7 e8 e9 e10 e11 e12 e13 : Option O) : AS :=
 [sT (plD n1 J1 D1), sT (plD n2 J2 D2), sI m, sI ((n1 * n2 : Nat) : Int), sI n2, sN os5, e6, e7, e8, e9, e10, e11, e12, e13]
abbrev bs1 : SF := (zF (zR true 13 (f2 (f2 (f2 (fV 7) (fV 11) ixP) (f2 (fV 6) (fV 4) (zm .FloorDiv)) ixP) (fV 4) (zm .Mult)))
 (xN (wU 12 (dC (f2 (fV 13) (f2 (f2 (fV 8) (fV 11) ixP) (f2 (fV 6) (fV 4) (zm .Mod)) ixP) (zm .Add)) dN) wO)))
abbrev bs2 : SF := (zF (zR false 12 (xG dN))
 (zF (wy (yE (aC (fV 3) aN) yD) (gN 6) bs1)
 (xN (wU 10 (dC (fV 12) dN) wO))))
abbrev bs3 : SF := (zF (zR false 10 (xG dN))
 (zF (wy (yE (aC (fV 2) aN) yD) (gN 11) bs2)
 (xN (wU 9 (dC (fV 10) dN) wO))))
section
variable {n1 n2 m : Nat} {J1 J2 : TT} {D1 D2 : List TT} {os5 : List O}
theorem zqR {T1 T2 : TT} {c : Int} {e6 e9 e10 e13 : Option O} (h1 : 0 < n1) (h2 : 0 < n2) (hn : n1 * n2 <= 8) (t1 : Tab m n1 T1) (t2 : Tab m n2 T2) (c0 : 0 <= c) (c1 : c < m) :
 ∃ os r f6 f13, OwsX D.int (λ (i : Nat) x => x = dB n2 (jAt T1) (jAt T2) c i /\ InR (n1 * n2) x) os r /\ r.length = n1 * n2 /\ forL (gN 6) bs1 (wQ 0 (n1 * n2)) (B14 n1 n2 m J1 J2 D1 D2 os5 e6 (sT (zK T1)) (sT (zK T2)) e9 e10 (sI c) (sN []) e13)
  = some (.nx (B14 n1 n2 m J1 J2 D1 D2 os5 f6 (sT (zK T1)) (sT (zK T2)) e9 e10 (sI c) (sN os) f13)) := by
 have n28 : n2 <= 8 := zzM (Nat.le_mul_of_pos_left n2 h1) hn
 have n18 : n1 <= 8 := zzM (Nat.le_mul_of_pos_right n1 h2) hn
 obtain ⟨a1, b1⟩ := YG t1 ⟨c0, c1⟩
 obtain ⟨a2, b2⟩ := YG t2 ⟨c0, c1⟩
 obtain ⟨as', hf, os, l, f6, f13, rfl, ho, hlen⟩ := xW (g := gN 6) (f := bs1)
  (λ i as => ∃ (os : List O) (l : List Int) (f6 f13 : Option O), as = B14 n1 n2 m J1 J2 D1 D2 os5 f6 (sT (zK T1)) (sT (zK T2)) e9 e10 (sI c) (sN os) f13 /\ OwsX D.int (λ (i : Nat) x => x = dB n2 (jAt T1) (jAt T2) c i /\ InR (n1 * n2) x) os l /\ l.length = i)
  (wQ 0 (n1 * n2)) 0 (B14 n1 n2 m J1 J2 D1 D2 os5 e6 (sT (zK T1)) (sT (zK T2)) e9 e10 (sI c) (sN []) e13) (λ i x as hx' hI => by
   obtain ⟨os, l, f6, f13, rfl, ho, hlen⟩ := hI
   obtain ⟨rfl, hi⟩ := vf hx'
   obtain ⟨u1, u2⟩ := yH (n1 := n1) (n2 := n2) (p := 0 + i) h2 ⟨by trivial, by trivial⟩
   obtain ⟨x1, x2⟩ := rowAt b1 u1
   obtain ⟨y1, y2⟩ := rowAt b2 u2
   have q := zkN x2 y2
   have ev : rAt (zdP T1 c) ((0 + i) / n2) * n2 + rAt (zdP T2 c) ((0 + i) % n2) = dB n2 (jAt T1) (jAt T2) c i := by rw [Int.zero_add]; rfl
   generalize rAt (zdP T1 c) ((0 + i) / n2) = x at x1 x2 q ev
   generalize rAt (zdP T2 c) ((0 + i) % n2) = y at y1 y2 q ev
   have x3 := x2.1
   have x4 := x2.2
   obtain ⟨os', o1, o2⟩ := zoz (as := B14 n1 n2 m J1 J2 D1 D2 os5 (sI (0 + i)) (sT (zK T1)) (sT (zK T2)) e9 e10 (sI c) (sN os) (sI (x * n2))) (x := x * n2 + y) (i := 12) (toD := D.int) (Q := λ (i : Nat) x => x = dB n2 (jAt T1) (jAt T2) c i /\ InR (n1 * n2) x) (a := f2 (fV 13) (f2 (f2 (fV 8) (fV 11) ixP) (f2 (fV 6) (fV 4) (zm .Mod)) ixP) (zm .Add)) rfl ho (by trivial)
    (WD.e (xq (zb rfl) (zM (xM (zb rfl) (zb rfl) a2) (yF (zb rfl) (zb rfl) (by trivial)) y1 rfl))) ⟨by rw [hlen, Nat.zero_add]; exact ev, q⟩
   exact ⟨B14 n1 n2 m J1 J2 D1 D2 os5 (sI (0 + i)) (sT (zK T1)) (sT (zK T2)) e9 e10 (sI c) (sN os) f13, rfl, _, yx (yR (i := 13) (wC (zM (xM (zb (i := 7) rfl) (zb (i := 11) rfl) a1) (Yz (zb (i := 6) rfl) (zb (i := 4) rfl) (by trivial) (zY (by trivial) (by trivial))) x1 rfl) (zb (i := 4) rfl) (zY (by trivial) (by trivial)) (zY (by trivial) (by trivial))) (zG rfl)) o2, os', l ++ [x * n2 + y], _, _, rfl, o1, by rw [zzH, hlen]; rfl⟩)
  ⟨[], [], _, _, rfl, OwsX.nil, rfl⟩
 rw [xr] at hlen
 exact ⟨os, l, f6, f13, ho, by trivial, hf⟩
theorem zqB {T1 T2 : TT} {e6 e9 e11 e12 e13 : Option O} (h1 : 0 < n1) (h2 : 0 < n2) (hn : n1 * n2 <= 8) (hm : m <= 8) (t1 : Tab m n1 T1) (t2 : Tab m n2 T2) :
 ∃ os T f6 f11 f12 f13, OwsX zL (λ (c : Nat) r => VN (n1 * n2) (n1 * n2) (dB n2 (jAt T1) (jAt T2) c) r) os T /\ T.length = m /\ forL (gN 11) bs2 (wQ 0 m) (B14 n1 n2 m J1 J2 D1 D2 os5 e6 (sT (zK T1)) (sT (zK T2)) e9 (sN []) e11 e12 e13)
  = some (.nx (B14 n1 n2 m J1 J2 D1 D2 os5 f6 (sT (zK T1)) (sT (zK T2)) e9 (sN os) f11 f12 f13)) := by
 obtain ⟨as', hf, os, l, f6, f11, f12, f13, rfl, ho, hlen⟩ := xW (g := gN 11) (f := bs2)
  (λ i as => ∃ (os : List O) (l : TT) (f6 f11 f12 f13 : Option O), as = B14 n1 n2 m J1 J2 D1 D2 os5 f6 (sT (zK T1)) (sT (zK T2)) e9 (sN os) f11 f12 f13 /\ OwsX zL (λ (c : Nat) r => VN (n1 * n2) (n1 * n2) (dB n2 (jAt T1) (jAt T2) c) r) os l /\ l.length = i)
  (wQ 0 m) 0 (B14 n1 n2 m J1 J2 D1 D2 os5 e6 (sT (zK T1)) (sT (zK T2)) e9 (sN []) e11 e12 e13) (λ i x as hx' hI => by
   obtain ⟨os, l, f6, f11, f12, f13, rfl, ho, hlen⟩ := hI
   obtain ⟨rfl, hi⟩ := vf hx'
   obtain ⟨ps, r, g6, g13, p1, p2, p3⟩ := zqR (J1 := J1) (J2 := J2) (D1 := D1) (D2 := D2) (os5 := os5) (e6 := f6) (e9 := e9) (e10 := sN os) (e13 := f13) h1 h2 hn t1 t2 (c := 0 + i) (by trivial) (by trivial)
   have ap := ziO (as := B14 n1 n2 m J1 J2 D1 D2 os5 g6 (sT (zK T1)) (sT (zK T2)) e9 (sN os) (sI (0 + i)) (sN ps) g13) (i := 10) (j := 12) (by decide) rfl rfl (by rw [ho.ln]; exact vC (by trivial))
   rw [p1.ows.frz] at ap
   have pr : VN (n1 * n2) (n1 * n2) (dB n2 (jAt T1) (jAt T2) i) r := by
    have := zfB p2 p1.al
    rw [Int.zero_add] at this
    exact this
   exact ⟨B14 n1 n2 m J1 J2 D1 D2 os5 f6 (sT (zK T1)) (sT (zK T2)) e9 (sN os) (sI (0 + i)) f12 f13, rfl, _, yx (ww (i := 12) (vI yp (szl rfl)) (zG rfl)) (yx (wR (xY (zJ (zb (i := 3) rfl) zO) (by trivial) (by trivial)) p3) ap), _, l ++ [r], _, _, _, _, rfl, ho.snoc (o := .lf true (zL r)) (a := r) rfl rfl (by rw [hlen, Nat.zero_add]; exact pr), by rw [zzH, hlen]; rfl⟩)
  ⟨[], [], _, _, _, _, rfl, OwsX.nil, rfl⟩
 rw [xr] at hlen
 exact ⟨os, l, f6, f11, f12, f13, ho, by trivial, hf⟩
theorem zbs {α : Type} {f : α -> D} {l : List α} {i : Nat} {d : D} (h : (l.map f)[i]? = some d) : ∃ a ∈ l, d = f a := by
 rw [zzG] at h
 obtain ⟨a, h1, h2⟩ := zzV.mp h
 exact ⟨a, List.mem_of_getElem? h1, h2.symm⟩
theorem zqO {w : Nat} {e6 e7 e8 e10 e11 e12 e13 : Option O} (h1 : 0 < n1) (h2 : 0 < n2) (hn : n1 * n2 <= 8) (hm : m <= 8) (hw : w <= 8) (l1 : D1.length = w) (l2 : D2.length = w) (hm0 : 0 < m) (L1 : LawP n1 m J1 D1) (L2 : LawP n2 m J2 D2) :
 ∃ os Ds f6 f7 f8 f10 f11 f12 f13, Ows zK (λ T => Tab m (n1 * n2) T /\ LD (n1 * n2) m (jB n2 (jAt J1) (jAt J2)) 0 (jAt T)) os Ds /\ Ds.length = w /\ forL (gT 2 (gsC (gN 7) (gsC (gN 8) gsN))) bs3 (Wy true (D1.map zK) (D2.map zK)) (B14 n1 n2 m J1 J2 D1 D2 os5 e6 e7 e8 (sN []) e10 e11 e12 e13)
  = some (.nx (B14 n1 n2 m J1 J2 D1 D2 os5 f6 f7 f8 (sN os) f10 f11 f12 f13)) := by
 obtain ⟨as', hf, os, l, f6, f7, f8, f10, f11, f12, f13, rfl, ho, hlen⟩ := xW (g := gT 2 (gsC (gN 7) (gsC (gN 8) gsN))) (f := bs3)
  (λ i as => ∃ (os : List O) (l : List TT) (f6 f7 f8 f10 f11 f12 f13 : Option O), as = B14 n1 n2 m J1 J2 D1 D2 os5 f6 f7 f8 (sN os) f10 f11 f12 f13 /\ Ows zK (λ T => Tab m (n1 * n2) T /\ LD (n1 * n2) m (jB n2 (jAt J1) (jAt J2)) 0 (jAt T)) os l /\ l.length = i)
  (Wy true (D1.map zK) (D2.map zK)) 0 (B14 n1 n2 m J1 J2 D1 D2 os5 e6 e7 e8 (sN []) e10 e11 e12 e13) (λ i x as hx' hI => by
   obtain ⟨os, l, f6, f7, f8, f10, f11, f12, f13, rfl, ho, hlen⟩ := hI
   obtain ⟨d, e, z1, z2, rfl⟩ := Vo hx'
   have hil : i < D1.length := by have := (zzE.mp z1).1; rw [zD] at this; exact this
   obtain ⟨T1, m1, rfl⟩ := zbs z1
   obtain ⟨T2, m2, rfl⟩ := zbs z2
   obtain ⟨ps, T, g6, g11, g12, g13, p1, p2, p3⟩ := zqB (J1 := J1) (J2 := J2) (D1 := D1) (D2 := D2) (os5 := os5) (e6 := f6) (e9 := sN os) (e11 := f11) (e12 := f12) (e13 := f13) h1 h2 hn hm (L1.td T1 m1) (L2.td T2 m2)
   have ap := ziO (as := B14 n1 n2 m J1 J2 D1 D2 os5 g6 (sT (zK T1)) (sT (zK T2)) (sN os) (sN ps) g11 g12 g13) (i := 9) (j := 10) (by decide) rfl rfl (by rw [ho.ln]; exact vC (by trivial))
   rw [p1.ows.frz] at ap
   have pt : zaQ m (n1 * n2) (dB n2 (jAt T1) (jAt T2)) T := Vy p2 p1.al
   exact ⟨B14 n1 n2 m J1 J2 D1 D2 os5 f6 (sT (zK T1)) (sT (zK T2)) (sN os) f10 f11 f12 f13, rfl, _, yx (ww (i := 10) (vI yp (szl rfl)) (zG rfl)) (yx (wR (xY (zJ (zb (i := 2) rfl) zO) (by trivial) (by trivial)) p3) ap), _, l ++ [T], _, _, _, _, _, _, _, rfl, ho.snoc (o := .lf true (zK T)) (a := T) rfl rfl ⟨pt.1, (ldB L1.lj L2.lj h2 (L1.ld T1 m1) (L2.ld T2 m2)).congr hm0 (ljB L1.lj L2.lj h2) (λ _ _ _ _ => rfl) pt.2⟩, by rw [zzH, hlen]; rfl⟩)
  ⟨[], [], _, _, _, _, _, _, _, rfl, Ows.nil, rfl⟩
 rw [zbp, zD, zD, l1, l2, Nat.min_self] at hlen
 exact ⟨os, l, f6, f7, f8, f10, f11, f12, f13, ho, by trivial, hf⟩
theorem zdD {as as2 : AS} {j : Nat} {ps : List O} {fr : DF} {os : List O} (hj : as[j]? = some (sN ps)) (hr : fr (as.set j (some (O.nd .ls ps).frz)) = some (os, as2)) : dC (fV j) fr as = some ((O.nd .ls ps).frz :: os, as2) := by
 unfold dC
 rw [zfl hj]
 show ((toO as (.bo j)).bind _) = _
 rw [zkx hj]
 show (fr (as.set j (some (O.nd .ls ps).frz))).bind _ = _
 rw [hr]; rfl
theorem zdc {as as1 : AS} {fr : DF} {os : List O} (h : fr as = some (os, as1)) (hl : os.length <= sizeLine) : yZ fr as = some (.ow (YW os), as1) := by
 unfold yZ
 rw [h]; show (if os.length <= sizeLine then _ else _) = _
 rw [if_pos hl]
theorem zjA {w : Nat} (h1 : 0 < n1) (h2 : 0 < n2) (hn : n1 * n2 <= 8) (hm : m <= 8) (hw : w <= 8) (l1 : D1.length = w) (l2 : D2.length = w) (hm0 : 0 < m) (L1 : LawP n1 m J1 D1) (L2 : LawP n2 m J2 D2) :
 ∃ J Ds, LawP (n1 * n2) m J Ds /\ Ds.length = w /\ RE (Zm [(true, plD n1 J1 D1), (true, plD n2 J2 D2), (true, .int m)]) (plD (n1 * n2) J Ds) := by
 have n28 : n2 <= 8 := zzM (Nat.le_mul_of_pos_left n2 h1) hn
 have n18 : n1 <= 8 := zzM (Nat.le_mul_of_pos_right n1 h2) hn
 obtain ⟨os, J, e6, e7, e8, ho, hl, hf⟩ := zld (m := m) (D1 := D1) (D2 := D2) h1 h2 hn L1.tj L2.tj
 obtain ⟨ps, Ds, f6, f7, f8, f10, f11, f12, f13, po, pl, pf⟩ := zqO (J1 := J1) (J2 := J2) (os5 := os) (e6 := e6) (e7 := e7) (e8 := e8) (e10 := none) (e11 := none) (e12 := none) (e13 := none) h1 h2 hn hm hw l1 l2 hm0 L1 L2
 have hJ : zaQ (n1 * n2) (n1 * n2) (jB n2 (jAt J1) (jAt J2)) J := Vy hl ho.al
 have ljb := ljB L1.lj L2.lj h2
 refine ⟨J, Ds, ⟨hJ.1, ljb.congr hJ.2, λ T mT => (po.al T mT).1, λ T mT => (po.al T mT).2.congr hm0 ljb hJ.2 (λ _ _ _ _ => rfl)⟩, pl, xO rfl (zB (as1 := [sT (plD n1 J1 D1), sT (plD n2 J2 D2), sI m, sI ((n1 * n2 : Nat) : Int), none, none, none, none, none, none, none, none, none, none]) ?_ (zB (yR (i := 4) (zM (zb rfl) zc rfl rfl) (zG rfl)) (zB (ww (i := 5) (vI yp (szl rfl)) (zG rfl)) (zB (wR (xY (zJ (zb rfl) zO) (by trivial) (by trivial)) hf) (zB (ww (i := 9) (vI yp (szl rfl)) (zG rfl)) (zB (wR ?_ pf) ?_))))))⟩
 · have := yR (st := true) (i := 3) (as := [sT (plD n1 J1 D1), sT (plD n2 J2 D2), sI m, none, none, none, none, none, none, none, none, none, none, none]) (wC (zM (g := ixP) (zb (i := 0) rfl) (zc (x := .int 0)) rfl rfl) (zM (g := ixP) (zb (i := 1) rfl) (zc (x := .int 0)) rfl rfl) (zY (i := (n1 : Int)) (by trivial) (by trivial)) (zY (i := (n2 : Int)) (by trivial) (by trivial))) (zG rfl)
   rw [zzT]
   exact this
 · rfl
 · have e := xX (as := B14 n1 n2 m J1 J2 D1 D2 os f6 f7 f8 (sN ps) f10 f11 f12 f13) (a := fV 3) (zb rfl) (zdD (j := 5) (fr := dC (fV 9) dN) rfl (zdD (j := 9) (fr := dN) rfl rfl))
   rw [ho.ows.frz, po.frz] at e
   exact ⟨_, VM (zdc e (szl rfl)) rfl, rfl, rfl⟩
end
abbrev zig : List D := [.tup [.int 2, .int 2], .tup [.int 3, .int 2], .tup [.int 2, .int 3], .tup [.int 4, .int 2], .tup [.int 2, .int 4], .tup [.int 2, .int 2]]
theorem zkp (x : Int) : ∃ a b : Nat, 2 <= a /\ 2 <= b /\ a * b <= 8 /\ ixP (.lst zig) (.int (x % 6)) = some (.im (.tup [.int a, .int b])) := by
 rcases (show x % 6 = 0 \/ x % 6 = 1 \/ x % 6 = 2 \/ x % 6 = 3 \/ x % 6 = 4 \/ x % 6 = 5 by trivial) with e | e | e | e | e | e <;> rw [e]
 · exact ⟨2, 2, by decide, by decide, by decide, rfl⟩
 · exact ⟨3, 2, by decide, by decide, by decide, rfl⟩
 · exact ⟨2, 3, by decide, by decide, by decide, rfl⟩
 · exact ⟨4, 2, by decide, by decide, by decide, rfl⟩
 · exact ⟨2, 4, by decide, by decide, by decide, rfl⟩
 · exact ⟨2, 2, by decide, by decide, by decide, rfl⟩
theorem zpr (x : Int) : ∃ n : Nat, 2 <= n /\ n <= 8 /\ ixP (.lst [.int 2, .int 3, .int 4, .int 5, .int 3, .int 4, .int 6, .int 8]) (.int (x % 8)) = some (.im (.int n)) := by
 rcases (show x % 8 = 0 \/ x % 8 = 1 \/ x % 8 = 2 \/ x % 8 = 3 \/ x % 8 = 4 \/ x % 8 = 5 \/ x % 8 = 6 \/ x % 8 = 7 by trivial) with e | e | e | e | e | e | e | e <;> rw [e]
 · exact ⟨2, by decide, by decide, rfl⟩
 · exact ⟨3, by decide, by decide, rfl⟩
 · exact ⟨4, by decide, by decide, rfl⟩
 · exact ⟨5, by decide, by decide, rfl⟩
 · exact ⟨3, by decide, by decide, rfl⟩
 · exact ⟨4, by decide, by decide, rfl⟩
 · exact ⟨6, by decide, by decide, rfl⟩
 · exact ⟨8, by decide, by decide, rfl⟩
theorem KN4 {x : Int} {n : Nat} (h : 2 <= n) : KN (x % 4) n := by
 rcases (show x % 4 = 0 \/ x % 4 = 1 \/ x % 4 = 2 \/ x % 4 = 3 by trivial) with e | e | e | e <;> rw [e]
 · exact .inl ⟨rfl, by trivial⟩
 · exact .inr (.inl ⟨rfl, by trivial⟩)
 · exact .inr (.inr (.inl ⟨rfl, h⟩))
 · exact .inr (.inr (.inr (.inl ⟨rfl, h⟩)))
theorem znH {as : AS} : WE (xG (dC (yZ (dC (fC (.int 2)) (dC (fC (.int 2)) dN))) (dC (yZ (dC (fC (.int 3)) (dC (fC (.int 2)) dN))) (dC (yZ (dC (fC (.int 2)) (dC (fC (.int 3)) dN))) (dC (yZ (dC (fC (.int 4)) (dC (fC (.int 2)) dN))) (dC (yZ (dC (fC (.int 2)) (dC (fC (.int 4)) dN))) (dC (yZ (dC (fC (.int 2)) (dC (fC (.int 2)) dN))) dN))))))) as (.lst zig) := by
 have t : ∀ a b : Int, WD (yZ (dC (fC (.int a)) (dC (fC (.int b)) dN))) as true (.tup [.int a, .int b]) := λ a b => zbO (os := [lfI a, lfI b]) (zq zc (zq zc yp)) (szl rfl) rfl
 exact vD (os := zig.map (O.lf true)) (zq (t 2 2) (zq (t 3 2) (zq (t 2 3) (zq (t 4 2) (zq (t 2 4) (zq (t 2 2) yp)))))) (szl rfl) rfl rfl
theorem zlV {c : Int} {m w : Nat} (hm0 : 0 < m) (hm : m <= 8) (hw : w <= 8) : ∃ (n : Nat) (J : TT) (Ds : List TT), 1 <= n /\ n <= 8 /\ LawP n m J Ds /\ Ds.length = w /\ RE (Yv [(true, .int c), (true, .int m), (true, .int w)]) (plD n J Ds) := by
 obtain ⟨xs, hl, hx, ws⟩ := stE (as := [sI c, sI m, sI w, none, none, none, none, none]) (a := fV 0) (b := fC (.int 5)) (c := c) (m := 5) (by trivial) (WD.e (zb rfl)) (WD.e zc)
 obtain ⟨x0, a0, _⟩ := at2 hx (k := 0) (by trivial) (by trivial)
 obtain ⟨x1, a1, _⟩ := at2 hx (k := 1) (by trivial) (by trivial)
 obtain ⟨x2, a2, _⟩ := at2 hx (k := 2) (by trivial) (by trivial)
 obtain ⟨x3, a3, _⟩ := at2 hx (k := 3) (by trivial) (by trivial)
 obtain ⟨x4, a4, _⟩ := at2 hx (k := 4) (by trivial) (by trivial)
 have y0 : 0 <= x0 % 7 /\ x0 % 7 < 7 := ⟨by trivial, by trivial⟩
 have start : ∀ (C : SF) (x : D), Rt (C [sI c, sI m, sI w, sT (zL xs), sI (x0 % 7), none, none, none]) x -> Rt (zF (zR true 3 (zQ (aC (fV 0) (aC (fC (.int 5)) aN)) yg)) (zF (zR true 4 (f2 (f2 (fV 3) (fC (.int 0)) ixP) (fC (.int 7)) (zm .Mod))) C) [sI c, sI m, sI w, none, none, none, none, none]) x := λ C x h =>
  zB (Zw (p := 3) ws (zG rfl)) (zB (yR (i := 4) (yF (zM (zb rfl) zc a0 rfl) zc (by decide)) (zG rfl)) h)
 generalize x0 % 7 = k at y0 start
 by_cases hk : 4 < k
 · obtain ⟨a, b, ha, hb, hab, es⟩ := zkp x1
   obtain ⟨J1, D1, L1, l1, p1⟩ := zdH (k := x2 % 4) (c := x3) (m := m) (w := w) (KN4 ha) (zzM (Nat.le_mul_of_pos_right a (by trivial)) hab) hm0 hm hw
   obtain ⟨J2, D2, L2, l2, p2⟩ := zdH (k := x4 % 4) (c := x3 + 7) (m := m) (w := w) (KN4 hb) (zzM (Nat.le_mul_of_pos_left b (by trivial)) hab) hm0 hm hw
   obtain ⟨J, Ds, q1, q2, q4⟩ := zjA (n1 := a) (n2 := b) (m := m) (w := w) (by trivial) (by trivial) hab hm hw l1 l2 hm0 L1 L2
   refine ⟨a * b, J, Ds, Nat.mul_pos (by trivial) (by trivial), hab, q1, q2, xO rfl (start _ _ (Zk (Yx (yh (Xp (zb rfl) zc) (congrArg some (decide_eq_true hk))) (zB (yR (i := 5) (f2E znH (WD.e (yF (zM (zb rfl) zc a1 rfl) zc (by decide))) es) (zG rfl)) (zB (Zw (p := 6) (zgD (WD.e (yF (zM (zb rfl) zc a2 rfl) zc (by decide))) (WD.e (zM (zb rfl) zc rfl rfl)) (WD.e (zb rfl)) (WD.e (zb rfl)) (WD.e (zM (zb rfl) zc a3 rfl)) p1) (zG rfl)) (xJ (Xj (WD.e (zb rfl)) (zgD (WD.e (yF (zM (zb rfl) zc a4 rfl) zc (by decide))) (WD.e (zM (zb rfl) zc rfl rfl)) (WD.e (zb rfl)) (WD.e (zb rfl)) (WD.e (xq (zM (zb rfl) zc a3 rfl) zc)) p2) (WD.e (zb rfl)) q4)))))))⟩
 · obtain ⟨n, n2, n8, en⟩ := zpr x1
   have fin : ∀ n' : Nat, KN k n' -> n' <= 8 -> ∃ (n : Nat) (J : TT) (Ds : List TT), 1 <= n /\ n <= 8 /\ LawP n m J Ds /\ Ds.length = w /\ Rt (yL (zQ (aC (fV 4) (aC (fV 7) (aC (fV 1) (aC (fV 2) (aC (f2 (fV 3) (fC (.int 3)) ixP) aN))))) wk) [sI c, sI m, sI w, sT (zL xs), sI k, none, none, sI n']) (plD n J Ds) := λ n' hK h8 => by
    obtain ⟨J, Ds, L1, l1, p1⟩ := zdH (k := k) (c := x3) (m := m) (w := w) hK h8 hm0 hm hw
    refine ⟨n', J, Ds, ?_, h8, L1, l1, xJ (zgD (WD.e (zb rfl)) (WD.e (zb rfl)) (WD.e (zb rfl)) (WD.e (zb rfl)) (WD.e (zM (zb rfl) zc a3 rfl)) p1)⟩
    unfold KN at hK
    trivial
   have hk' := congrArg some (decide_eq_false hk)
   have set7 : zR true 7 (f2 (xG (dC (fC (.int 2)) (dC (fC (.int 3)) (dC (fC (.int 4)) (dC (fC (.int 5)) (dC (fC (.int 3)) (dC (fC (.int 4)) (dC (fC (.int 6)) (dC (fC (.int 8)) dN))))))))) (f2 (f2 (fV 3) (fC (.int 1)) ixP) (fC (.int 8)) (zm .Mod)) ixP) [sI c, sI m, sI w, sT (zL xs), sI k, none, none, none] = some (.nx [sI c, sI m, sI w, sT (zL xs), sI k, none, none, sI n]) :=
    yR (i := 7) (f2E (vD (os := ([2, 3, 4, 5, 3, 4, 6, 8] : List Int).map lfI) (zq zc (zq zc (zq zc (zq zc (zq zc (zq zc (zq zc (zq zc yp)))))))) (szl rfl) rfl rfl) (WD.e (yF (zM (zb rfl) zc a1 rfl) zc (by decide))) en) (zG rfl)
   by_cases h4 : k = 4
   · subst h4
     obtain ⟨n', J, Ds, r1, r2, r3, r4, r6⟩ := fin 4 (.inr (.inr (.inr (.inr ⟨rfl, rfl⟩)))) (by decide)
     exact ⟨n', J, Ds, r1, r2, r3, r4, xO rfl (start _ _ (zB (ym (yh (Xp (zb rfl) zc) hk') rfl) (zB set7 (zB (ym (XR (k := false) (yh (xm (zb rfl) zc rfl) rfl) (λ h => nomatch h) (λ _ => rfl)) rfl) (zB (vL (yh (xm (zb rfl) zc rfl) rfl) (yR (i := 7) zc (zG rfl))) r6)))))⟩
   · have f4 : ∀ e : Option O, WT (fT (f2 (fV 4) (fC (.int 4)) (zW .Eq))) [sI c, sI m, sI w, sT (zL xs), sI k, none, none, e] false := λ e => yh (xm (zb rfl) zc rfl) (by show some (k == 4) = _; simp [h4])
     by_cases h0 : k = 0 /\ x2 % 9 = 0
     · obtain ⟨rfl, h9⟩ := h0
       obtain ⟨n', J, Ds, r1, r2, r3, r4, r6⟩ := fin 1 (.inl ⟨rfl, zzL _⟩) (by decide)
       exact ⟨n', J, Ds, r1, r2, r3, r4, xO rfl (start _ _ (zB (ym (yh (Xp (zb rfl) zc) hk') rfl) (zB set7 (zB (vL (XR (k := true) (yh (xm (zb rfl) zc rfl) rfl) (λ _ => yh (xm (yF (zM (zb rfl) zc a2 rfl) zc (by decide)) zc rfl) (by show some (x2 % 9 == 0) = _; simp [h9])) (λ h => nomatch h)) (yR (i := 7) zc (zG rfl))) (zB (ym (f4 _) rfl) r6)))))⟩
     · have hK : KN k n := by unfold KN; trivial
       obtain ⟨n', J, Ds, r1, r2, r3, r4, r6⟩ := fin n hK n8
       refine ⟨n', J, Ds, r1, r2, r3, r4, xO rfl (start _ _ (zB (ym (yh (Xp (zb rfl) zc) hk') rfl) (zB set7 (zB (ym (XR (k := k == 0) (yh (xm (zb rfl) zc rfl) rfl) (λ h => yh (xm (yF (zM (zb rfl) zc a2 rfl) zc (by decide)) zc rfl) ?_) (λ _ => rfl)) rfl) (zB (ym (f4 _) rfl) r6)))))⟩
       have hk0 : k = 0 := by simpa using h
       show some (x2 % 9 == 0) = some false
       have : ¬ x2 % 9 = 0 := λ z => h0 ⟨hk0, z⟩
       simp [this]
theorem zlz {f : EF} {as : AS} {ds : List D} (h : WE f as (.lst ds)) : zfz f as = some (ds.map λ d => (true, d), as) := by
 obtain ⟨o, h1, h2, h3⟩ := h
 unfold zfz
 rw [h1]
 have e : zdM as (.ow o) = some ((o.str, o.toD), as) := rfl
 show (zdM as (RV.ow o)).bind (λ q => (zgQ q.1).bind λ ds => some (ds, q.2)) = _
 rw [e, h2, h3]
 show some (kids true ds, as) = _
 rw [zdV]
theorem zdp : ∀ (l : List Int) (k : Nat) (h : k < l.length), (l[k] :: l.eraseIdx k).Perm l
 | x :: r, 0, _ => List.Perm.refl _
 | x :: r, k + 1, h => (List.Perm.swap _ _ _).trans ((zdp r k (by simpa using h)).cons x)
abbrev zbK (n : Nat) : List Int := (List.range n).map λ (i : Nat) => (i : Int)
theorem zlw {c : Int} {n : Nat} (hn : 0 < n) (hn8 : n <= 8) : ∃ F : List Int, F.Perm (zbK n) /\ RE (ZQ [(true, .int c), (true, .int n)]) (zL F) := by
 obtain ⟨xs, hl, hx, ws⟩ := stE (as := [sI c, sI n, sN ((zbK n).map lfI), sN [], none]) (a := fV 0) (b := fV 1) (c := c) (m := n) (by trivial) (WD.e (zb rfl)) (WD.e (zb rfl))
 obtain ⟨as', hf, L, F, e4, rfl, hp, hlen⟩ := xW (g := gN 4) (f := xN (wU 3 (dC (wU 2 (dC (f2 (fV 4) (fP (aC (fV 2) aN) zcG) (zm .Mod)) dN) WP) dN) wO))
  (λ i as => ∃ (L F : List Int) (e4 : Option O), as = [sI c, sI n, sN (L.map lfI), sN (F.map lfI), e4] /\ (L ++ F).Perm (zbK n) /\ L.length + i = n)
  ((xs.map D.int).map λ d => (true, d)) 0 [sI c, sI n, sN ((zbK n).map lfI), sN [], none] (λ i x as hx' hI => by
    obtain ⟨L, F, e4, rfl, hp, hlen⟩ := hI
    have hi : i < n := by
     have := (zzE.mp hx').1
     rw [zD, zD, hl] at this
     exact this
    obtain ⟨y, rfl⟩ : ∃ y : Int, x = (true, .int y) := by
     rw [List.map_map, zzG] at hx'
     obtain ⟨a, _, h2⟩ := zzV.mp hx'
     exact ⟨a, h2.symm⟩
    have l0 : (0 : Int) < ((L.map lfI).length : Int) := by rw [zD]; trivial
    have z0 := Int.emod_nonneg y (show ((L.map lfI).length : Int) ≠ 0 by trivial)
    have z1 := Int.emod_lt_of_pos y l0
    have hk : (y % ((L.map lfI).length : Int)).toNat < L.length := by rw [zD] at z0 z1 ⊢; trivial
    generalize hkk : (y % ((L.map lfI).length : Int)).toNat = k at hk
    have pop := zly (as := [sI c, sI n, sN (L.map lfI), sN (F.map lfI), sI y]) (i := 2) (os := L.map lfI) (o := lfI L[k]) rfl (yF (zb (i := 4) rfl) (zqU (i := 2) rfl) l0) z0 z1 (by rw [zD]; trivial) (by rw [hkk, zzG, zzC hk]; rfl)
    rw [hkk, show (L.map lfI).eraseIdx k = (L.eraseIdx k).map lfI by rw [List.eraseIdx_eq_take_drop_succ, List.eraseIdx_eq_take_drop_succ, List.map_append, List.map_take, List.map_drop]] at pop
    have ap := zcV (i := 3) (os := F.map lfI) (as := [sI c, sI n, sN (L.map lfI), sN (F.map lfI), sI y]) rfl pop rfl (by rw [zD]; have := hp.length_eq; rw [zzH, zD, List.length_range] at this; exact vC (by trivial))
    rw [<- zgS] at ap
    refine ⟨[sI c, sI n, sN (L.map lfI), sN (F.map lfI), sI y], rfl, _, ap, L.eraseIdx k, F ++ [L[k]], _, rfl, ?_, by rw [List.length_eraseIdx_of_lt hk]; trivial⟩
    rw [<- List.append_assoc]
    refine (List.perm_append_singleton _ _).trans ?_
    rw [<- List.cons_append]
    exact ((zdp L k hk).append_right F).trans hp)
  ⟨zbK n, [], none, rfl, by rw [List.append_nil], by rw [zD, List.length_range]; rfl⟩
 rw [zD, zD, hl] at hlen
 have hL : L = [] := List.eq_nil_of_length_eq_zero (by trivial)
 subst hL
 have s2 := ww (i := 2) (as := [sI c, sI n, none, none, none]) (zfR (a := fV 1) (x := .int n) (g := lrP) (zs := (zbK n).map D.int) (WD.e (zb rfl)) (by
  show (if (0 : Int) <= n /\ (n : Int) <= 100000 then _ else _) = _
  rw [if_pos ⟨by trivial, by trivial⟩, List.map_map]; rfl)) (zG rfl)
 rw [zcU] at s2
 exact ⟨F, hp, xO rfl (zB s2 (zB (ww (i := 3) (vI yp (szl rfl)) (zG rfl)) (zB (wR (zlz ws) hf) ⟨_, zix (i := 3) rfl (vd F).2.1, (V9 F).1, (V9 F).2⟩)))⟩
abbrev abc : Str := "abcdefghijklmnopqrstuvwxyz"
theorem zmF : ∀ k, k < 26 -> abc.cps.toList[k]? = some (97 + k) := by decide +kernel
theorem zla {i : Int} (h0 : 0 <= i) (h1 : i < 26) : ixP (.str abc) (.int i) = some (.im (.str ⟨#[97 + i.toNat]⟩)) := by
 show (if abc.length <= sizeLine then (atI abc.cps.toList i).bind (λ c => some (R0.im (.str ⟨#[c]⟩))) else none) = _
 rw [if_pos (show abc.length <= sizeLine by decide +kernel)]
 have := Ye (zmF i.toNat (by trivial))
 rw [show ((i.toNat : Nat) : Int) = i by trivial] at this
 rw [this]; rfl
theorem zhn : ∀ l : List Str, zcE (l.map D.str) = some l
 | [] => rfl
 | x :: r => by
  show (zcE (r.map D.str)).bind _ = _
  rw [zhn r]; rfl
theorem zpO : ∀ l : List Str, (∀ s ∈ l, s.length = 1) -> (l.map (·.length)).sum = l.length
 | [], _ => rfl
 | x :: r, h => by
  show x.length + (r.map (·.length)).sum = r.length + 1
  rw [h x (zzD ..), zpO r λ s m => h s (zzB _ m)]; trivial
theorem len_app (a b : Str) : (a ++ b).length = a.length + b.length := by
 show (a ++ b).cps.size = a.cps.size + b.cps.size
 rw [Str.cps_append, Array.size_append]
theorem zhl : ∀ l : List Str, (∀ s ∈ l, s.length = 1) -> (Str.join "" l).length = l.length
 | [], _ => rfl
 | [x], h => h x (zzD ..)
 | x :: y :: r, h => by
  show (x ++ "" ++ Str.join "" (y :: r)).length = _
  rw [len_app, len_app, h x (zzD ..), zhl (y :: r) λ s m => h s (zzB _ m)]
  show 1 + 0 + (r.length + 1) = r.length + 1 + 1
  trivial
theorem add_str {a b : Str} (h : a.length + b.length <= 1000) : zm .Add (.str a) (.str b) = some (.im (.str (a ++ b))) := if_pos (szs (by trivial))
abbrev nm (A B : Str) (x : Int) (k : Nat) : Str := A ++ ⟨#[97 + ((x + 3 * (k : Int)) % 26).toNat]⟩ ++ B
theorem zpb {A B : Str} {x : Int} {k j : Nat} (hk : k < 10) (hj : j < 10) (h : nm A B x k = nm A B x j) : k = j := by
 have h := congrArg (λ s : Str => s.cps.toList) h
 simp only [Str.cps_append, Array.toList_append, List.append_assoc, List.append_cancel_left_eq] at h
 have h := (List.append_cancel_right h)
 injection h with h
 trivial
theorem zlr {c : Int} : ∃ ss : List Str, ss.length = 10 /\ ss.Nodup /\ RE (ZX [(true, .int c), (true, .int (10 : Nat))]) (.lst (ss.map D.str)) := by
 obtain ⟨xs, hl, hx, ws⟩ := stE (as := [sI c, sI (10 : Nat), sT (.str abc), none, none, none, none, none]) (a := fV 0) (b := fC (.int 9)) (c := c) (m := 9) (by trivial) (WD.e (zb rfl)) (WD.e zc)
 obtain ⟨x8, a8, _⟩ := at2 hx (k := 8) (by trivial) (by trivial)
 have hk : (1 + c % 8).toNat <= 9 := by trivial
 have sl : WE (fSl (fV 3) oN (oS (f2 (fC (.int 1)) (f2 (fV 0) (fC (.int 8)) (zm .Mod)) (zm .Add))) slP) [sI c, sI (10 : Nat), sT (.str abc), sT (zL xs), none, none, none, none] (.lst ((xs.take (1 + c % 8).toNat).map D.int)) := by
  refine zaX (lo := none) (hi := some (1 + c % 8)) (WD.e (zb rfl)) rfl ?_ ?_
  · have := xq (as := [sI c, sI (10 : Nat), sT (.str abc), sT (zL xs), none, none, none, none]) (zc (x := .int 1)) (yF (zb (i := 0) rfl) (zc (x := .int 8)) (by decide))
    unfold oS
    unfold WD at this
    rw [this]; rfl
  · have := zkm (xs := (xs.take (1 + c % 8).toNat).map D.int) (ys := (xs.drop (1 + c % 8).toNat).map D.int)
    rw [<- List.map_append, List.take_append_drop, zD, zzQ, Nat.min_eq_left (by trivial), show (((1 + c % 8).toNat : Nat) : Int) = 1 + c % 8 by trivial] at this
    exact this
 obtain ⟨l, l1, l2, l3⟩ := ziI D.str (Q := λ s => s.length = 1) (cap := [none, some 2]) (g := gN 0) (fe := f2 (fV 1) (f2 (fV 0) (fC (.int 26)) (zm .Mod)) ixP) (zfw sl) (by rw [zD, zD, zzQ]; trivial) λ y m => by
  rw [List.map_map] at m
  obtain ⟨z, _, rfl⟩ := List.mem_map.mp m
  exact ⟨[sI z, sT (.str abc)], ⟨#[97 + (z % 26).toNat]⟩, rfl, WD.e (zM (zb rfl) (yF (zb rfl) zc (by decide)) (zla (by trivial) (by trivial)) rfl), rfl⟩
 rw [zD, zD, zzQ] at l1
 have hb : (Str.join "" l).length = l.length := zhl l l2
 have hm : WD (Wu .str (fC (.str "")) (aC (zZ (Y8 (fSl (fV 3) oN (oS (f2 (fC (.int 1)) (f2 (fV 0) (fC (.int 8)) (zm .Mod)) (zm .Add))) slP)) [none, some 2] (gN 0) yP (f2 (fV 1) (f2 (fV 0) (fC (.int 26)) (zm .Mod)) ixP)) aN) zjf) [sI c, sI (10 : Nat), sT (.str abc), sT (zL xs), none, none, none, none] true (.str (Str.join "" l)) :=
  zgw zc rfl (Yw l3 zO) (by
   show (zcE (l.map D.str)).bind _ = _
   rw [zhn]
   show (if (l.map (·.length)).sum + l.length * 0 <= 16777216 then some (R0.im (.str (Txt.join "" l))) else none) = _
   rw [if_pos (by rw [zpO l l2]; trivial), zkU]) rfl
 generalize Str.join "" l = base at hb hm
 have lb : (0 : Int) < (base.length : Int) := by trivial
 have lz : base.length <= sizeLine := szs (by trivial)
 have z0 := Int.emod_nonneg (c / 8) (show (base.length : Int) ≠ 0 by trivial)
 have z1 := Int.emod_lt_of_pos (c / 8) lb
 generalize hat : c / 8 % (base.length : Int) = at_ at z0 z1
 have lA := Txt.slice_le base none (some at_)
 have lB := Txt.slice_le base (some (at_ + 1)) none
 have eA : slS (.str base) none (some at_) = some (.im (.str (Txt.slice base none (some at_)))) := if_pos lz
 have eB : slS (.str base) (some (at_ + 1)) none = some (.im (.str (Txt.slice base (some (at_ + 1)) none))) := if_pos lz
 generalize Txt.slice base none (some at_) = A at lA eA
 generalize Txt.slice base (some (at_ + 1)) none = B at lB eB
 have lo1 : ∀ (f : EF) (as : AS) (k : Int), WD f as true (.int k) -> oS f as = some (some k, as) := λ f as k h => by
  unfold oS
  unfold WD at h
  rw [h]; rfl
 obtain ⟨as', hf, os, e7, rfl, ho⟩ := xW (g := gN 7) (f := xN (wU 6 (dC (f2 (f2 (fSl (fV 4) oN (oS (fV 5)) slS) (f2 (fV 2) (f2 (f2 (f2 (fV 3) (fC (.int 8)) ixP) (f2 (fC (.int 3)) (fV 7) (zm .Mult)) (zm .Add)) (fC (.int 26)) (zm .Mod)) ixP) (zm .Add)) (fSl (fV 4) (oS (f2 (fV 5) (fC (.int 1)) (zm .Add))) oN slS) (zm .Add)) dN) wO))
  (λ i as => ∃ (os : List O) (e7 : Option O), as = [sI c, sI (10 : Nat), sT (.str abc), sT (zL xs), sT (.str base), sI at_, sN os, e7] /\ Ows D.str (λ _ => True) os ((List.range i).map (nm A B x8)))
  (wQ 0 10) 0 [sI c, sI (10 : Nat), sT (.str abc), sT (zL xs), sT (.str base), sI at_, sN [], none] (λ i x as hx' hI => by
   obtain ⟨os, e7, rfl, ho⟩ := hI
   obtain ⟨rfl, hi⟩ := vf hx'
   rw [Nat.zero_add] at ho
   have d1 := zla (i := (x8 + 3 * ((0 : Int) + i)) % 26) (by trivial) (by trivial)
   have e0 : (x8 + 3 * ((0 : Int) + i)) % 26 = (x8 + 3 * (i : Int)) % 26 := by rw [Int.zero_add]
   obtain ⟨os', o1, o2⟩ := zmR (as := [sI c, sI (10 : Nat), sT (.str abc), sT (zL xs), sT (.str base), sI at_, sN os, sI (0 + i)]) (x := nm A B x8 i) (i := 6) (toD := D.str) (Q := λ _ => True) (a := f2 (f2 (fSl (fV 4) oN (oS (fV 5)) slS) (f2 (fV 2) (f2 (f2 (f2 (fV 3) (fC (.int 8)) ixP) (f2 (fC (.int 3)) (fV 7) (zm .Mult)) (zm .Add)) (fC (.int 26)) (zm .Mod)) ixP) (zm .Add)) (fSl (fV 4) (oS (f2 (fV 5) (fC (.int 1)) (zm .Add))) oN slS) (zm .Add)) rfl ho (by rw [zD, List.length_range]; trivial)
    (WD.e (xM (xM (zfs (zb (i := 4) rfl) rfl (lo1 _ _ _ (zb (i := 5) rfl)) eA) (zM (zb (i := 2) rfl) (yF (xq (zM (zb (i := 3) rfl) zc a8 rfl) (wC zc (zb (i := 7) rfl) (zY (by decide) (by decide)) (zY (by trivial) (by trivial)))) zc (by decide)) d1 rfl) (add_str (by show A.length + 1 <= _; trivial))) (zfs (zb (i := 4) rfl) (lo1 _ _ _ (xq (zb (i := 5) rfl) zc)) rfl eB) (by
     rw [e0]
     exact add_str (by rw [len_app]; show A.length + 1 + B.length <= _; trivial)))) trivial
   refine ⟨[sI c, sI (10 : Nat), sT (.str abc), sT (zL xs), sT (.str base), sI at_, sN os, sI (0 + i)], rfl, _, o2, os', _, rfl, ?_⟩
   rw [show 0 + i + 1 = i + 1 by trivial, List.range_succ, List.map_append]
   exact o1)
  ⟨[], none, rfl, Ows.nil⟩
 rw [xr, Nat.zero_add] at ho
 have s5 := yR (st := true) (i := 5) (as := [sI c, sI (10 : Nat), sT (.str abc), sT (zL xs), sT (.str base), none, none, none]) (yF (Yz (zb (i := 0) rfl) (zc (x := .int 8)) (by decide) (zY (by decide) (by decide))) (vQ (g := zcG) (x := .int base.length) (zJ (zb (i := 4) rfl) zO) (if_pos lz) rfl) lb) (zG rfl)
 rw [hat] at s5
 refine ⟨(List.range 10).map (nm A B x8), by rw [zD, List.length_range], ?_, xO rfl (zB (yR (i := 2) zc (zG rfl)) (zB (Zw (p := 3) ws (zG rfl)) (zB (yR (i := 4) hm (zG rfl)) (zB s5 (zB (ww (i := 6) (vI yp (szl rfl)) (zG rfl)) (zB (wR (xY (zJ (zb rfl) zO) (by decide) (by decide)) hf) (Ows.retB (i := 6) rfl ho)))))))⟩
 exact List.pairwise_map.mpr ((List.nodup_range (n := 10)).imp_of_mem λ ha hb hne he => hne (zpb (List.mem_range.mp ha) (List.mem_range.mp hb) he))
theorem zqk {a b : EF} {as : AS} {d1 d2 : List D} (ha : WE a as (.lst d1)) (hb : WE b as (.lst d2)) : zjD (aC a (aC b aN)) as = some (Wy true d1 d2, as) := by
 have h := Yw ha (Yw hb (zO (as := as)))
 unfold WA at h
 unfold zjD
 rw [h]; rfl
theorem zeW {g : GF} {tt : TF} {fe : EF} {as0 : AS} : ∀ {xs : List It1}, (∀ y ∈ xs, ∃ as1 b x, g y as0 = some as1 /\ WT tt as1 b /\ WD fe as1 true (.int x)) -> ∃ l : List Int, wz g tt fe as0 xs = some (l.map lfI)
 | [], _ => ⟨[], rfl⟩
 | y :: xs, H => by
  obtain ⟨as1, b, x, h1, h2, h3⟩ := H y (zzD ..)
  obtain ⟨l, hl⟩ := zeW (g := g) (tt := tt) (fe := fe) (as0 := as0) (xs := xs) λ z m => H z (zzB _ m)
  cases b with
  | true => exact ⟨x :: l, zjG h1 h2 h3 hl⟩
  | false => exact ⟨l, zfk h1 h2 hl⟩
abbrev xu (p : Str × List Int) : D := .tup [.str p.1, zL p.2]
abbrev zny : List Int := [1, 2, 4, 8, 16, 32, 64, 128]
theorem zjW {c : Int} {n : Nat} {ns : List Str} (hn : n <= 8) (hl : ns.length <= 10) : ∃ ss : SS, RE (v6 [(true, .int c), (true, .int n), (true, .lst (ns.map D.str))]) (.lst (ss.map xu)) := by
 obtain ⟨xs, xl, hx, ws⟩ := stE (as := [sI c, sI n, sT (.lst (ns.map D.str)), sN [], none, none]) (a := fV 0) (b := fP (aC (fV 2) aN) zcG) (c := c) (m := ns.length) (by trivial) (WD.e (zb rfl)) (WD.e (vQ (zJ (zb rfl) zO) (by show some (R0.im (.int ((ns.map D.str).length : Int))) = _; rw [zD]) rfl))
 obtain ⟨as', hf, os, l, e4, e5, rfl, ho⟩ := xW (g := gT 2 (gsC (gN 4) (gsC (gN 5) gsN))) (f := xN (wU 3 (dC (yZ (dC (fV 5) (dC (zZ (yE (aC (fV 1) aN) yD) [none, some 4] (gN 0) (fT (f2 (f2 (f2 (fV 1) (f2 (xG (dC (fC (.int 1)) (dC (fC (.int 2)) (dC (fC (.int 4)) (dC (fC (.int 8)) (dC (fC (.int 16)) (dC (fC (.int 32)) (dC (fC (.int 64)) (dC (fC (.int 128)) dN))))))))) (fV 0) ixP) (zm .FloorDiv)) (fC (.int 2)) (zm .Mod)) (fC (.int 1)) (zW .Eq))) (fV 0)) dN))) dN) wO))
  (λ i as => ∃ (os : List O) (l : SS) (e4 e5 : Option O), as = [sI c, sI n, sT (.lst (ns.map D.str)), sN os, e4, e5] /\ Ows xu (λ _ => True) os l /\ l.length = i)
  (Wy true (xs.map D.int) (ns.map D.str)) 0 [sI c, sI n, sT (.lst (ns.map D.str)), sN [], none, none] (λ i x as hx' hI => by
   obtain ⟨os, l, e4, e5, rfl, ho, hlen⟩ := hI
   obtain ⟨d, e, z1, z2, rfl⟩ := Vo hx'
   have hil : i < ns.length := by have := (zzE.mp z2).1; rw [zD] at this; exact this
   obtain ⟨y, m1, rfl⟩ := zbs z1
   obtain ⟨s, m2, rfl⟩ := zbs z2
   obtain ⟨r, hr⟩ := zeW (g := gN 0) (as0 := [none, sI y]) (tt := fT (f2 (f2 (f2 (fV 1) (f2 (xG (dC (fC (.int 1)) (dC (fC (.int 2)) (dC (fC (.int 4)) (dC (fC (.int 8)) (dC (fC (.int 16)) (dC (fC (.int 32)) (dC (fC (.int 64)) (dC (fC (.int 128)) dN))))))))) (fV 0) ixP) (zm .FloorDiv)) (fC (.int 2)) (zm .Mod)) (fC (.int 1)) (zW .Eq))) (fe := fV 0) (xs := wQ 0 n) λ w m => by
    obtain ⟨b, rfl, b0, b1⟩ := zgg m
    obtain ⟨q, q1, q2⟩ := zer (r := zny) (P := λ x => 0 < x /\ x < 1000) (k := b) b0 (by show b < 8; trivial) (by decide)
    exact ⟨[sI b, sI y], _, b, rfl, yh (xm (yF (Yz (zb rfl) (f2E (vD (os := zny.map lfI) (zq zc (zq zc (zq zc (zq zc (zq zc (zq zc (zq zc (zq zc yp)))))))) (szl rfl) rfl rfl) (WD.e (zb rfl)) q1) q2.1 (zY (by trivial) (by trivial))) zc (by decide)) zc rfl) rfl, zb rfl⟩
   have hc := VL (as := [sI c, sI n, sT (.lst (ns.map D.str)), sN os, sI y, sT (.str s)]) (cap := [none, some 4]) (xY (zJ (zb (i := 1) rfl) zO) (by trivial) (by trivial)) (by rw [xr]; exact szs (by trivial)) hr
   obtain ⟨os', o1, o2⟩ := zmR (as := [sI c, sI n, sT (.lst (ns.map D.str)), sN os, sI y, sT (.str s)]) (x := (s, r)) (i := 3) (toD := xu) (Q := λ _ => True) rfl ho (by trivial) (zgc (zq (zb (i := 5) rfl) (Vg hc yp)) (szl rfl) (by show (true && ((O.nd .ls (r.map lfI)).str && true)) = true; rw [(V9 r).1]; rfl) (by show D.tup [.str s, (O.nd .ls (r.map lfI)).toD] = _; rw [(V9 r).2])) trivial
   exact ⟨[sI c, sI n, sT (.lst (ns.map D.str)), sN os, sI y, sT (.str s)], rfl, _, o2, os', l ++ [(s, r)], _, _, rfl, o1, by rw [zzH, hlen]; rfl⟩)
  ⟨[], [], none, none, rfl, Ows.nil, rfl⟩
 exact ⟨l, xO rfl (zB (ww (i := 3) (vI yp (szl rfl)) (zG rfl)) (zB (wR (zqk ws (WD.e (zb rfl))) hf) (Ows.retB (i := 3) rfl ho.1)))⟩
theorem any_ints (b : Int) : ∀ r : List Int, ∃ t, anyF (λ y => eqF 50 y (.int b)) (r.map D.int) = some t
 | [] => ⟨_, rfl⟩
 | x :: r => by
  obtain ⟨t, h⟩ := any_ints b r
  refine ⟨(x == b) || t, ?_⟩
  show (some (x == b)).bind _ = _
  rw [Option.bind_some, h]; rfl
theorem zhe {b : Int} : ∀ {r : List Int}, b ∈ r -> ∃ j : Nat, j < r.length /\ r[j]? = some b /\ zeE (λ y => eqF 50 y (.int b)) (r.map D.int) = some j
 | x :: r, m => by
  by_cases e : x = b
  · obtain ⟨t, h⟩ := any_ints b r
    refine ⟨0, Nat.succ_pos _, by rw [e]; rfl, ?_⟩
    show (some (x == b)).bind _ = _
    rw [Option.bind_some, show (x == b) = true by simp [e]]
    show (anyF _ (r.map D.int)).bind _ = _
    rw [h]; rfl
  · obtain ⟨j, h1, h3, h2⟩ := zhe (r := r) ((zzA.mp m).resolve_left λ z => e z.symm)
    refine ⟨j + 1, Nat.succ_lt_succ h1, by simpa using h3, ?_⟩
    show (some (x == b)).bind _ = _
    rw [Option.bind_some, show (x == b) = false by simp [e]]
    show (zeE _ (r.map D.int)).bind _ = _
    rw [h2]; rfl
theorem zei {F : List Int} {n : Nat} (h : F.Perm (zbK n)) : Row n F /\ ∀ b : Int, 0 <= b -> b < n -> b ∈ F := by
 refine ⟨⟨by rw [h.length_eq, zD, List.length_range], λ x m => ?_⟩, λ b b0 b1 => h.mem_iff.mpr ?_⟩
 · obtain ⟨i, hi, rfl⟩ := List.mem_map.mp (h.mem_iff.mp m)
   have := List.mem_range.mp hi
   trivial
 · exact List.mem_map.mpr ⟨b.toNat, List.mem_range.mpr (by trivial), by trivial⟩
theorem zmD {α : Type} (toD : α -> D) {Q : Nat -> α -> Prop} {fr : AF} {cap : List (Option Nat)} {fe : EF} {as : AS} {n : Nat} {u : Bool} (h1 : WA fr as [(u, .int n)]) (hl : n <= 1000) (H : ∀ i : Nat, i < n -> ∃ as1 a, gN 0 (true, .int (i : Int)) (Zq cap as) = some as1 /\ WE fe as1 (toD a) /\ Q i a) :
 ∃ l : List α, l.length = n /\ (∀ i a, l[i]? = some a -> Q i a) /\ WE (zZ (yE fr yD) cap (gN 0) yP fe) as (.lst (l.map toD)) := by
 obtain ⟨l, a1, a2, a3⟩ := zfi toD (Q := Q) (cap := cap) (g := gN 0) (fe := fe) (xY h1 (by trivial) (by trivial)) (by rw [xr]; trivial) (λ i y m => by
  obtain ⟨rfl, hi⟩ := vf m
  rw [Int.zero_add]
  exact H i (by trivial))
 rw [xr] at a1
 exact ⟨l, by trivial, a2, a3⟩
theorem zle {F : List Int} {n : Nat} (h : F.Perm (zbK n)) {v w : Int} (hv : InR n v) (hw : InR n w) (e : rAt F v = rAt F w) : v = w := by
 have hl := (zei h).1.1
 have v0 := hv.1
 have v1 := hv.2
 have w0 := hw.1
 have w1 := hw.2
 have nd : F.Nodup := by
  refine h.nodup_iff.mpr (List.pairwise_map.mpr (List.nodup_range.imp λ z q => z (by trivial)))
 rw [X4 (by trivial), X4 (by trivial)] at e
 have := (List.getElem_inj nd).mp e
 trivial
theorem zpV {as : AS} {F : List Int} {n : Nat} {cap : List (Option Nat)} {fr : AF} (hF : F.Perm (zbK n)) (hn : n <= 8) (h1 : WA fr as [(true, .int n)]) (h2 : ∀ b : Int, gN 0 (true, .int b) (Zq cap as) = some [sI b, sT (zL F)]) :
 ∃ B, (Row n B /\ (∀ v, InR n v -> rAt F (rAt B v) = v) /\ ∀ v, InR n v -> rAt B (rAt F v) = v) /\ WE (zZ (yE fr yD) cap (gN 0) yP (Wu .lst (fV 1) (aC (fV 0) aN) W7)) as (zL B) := by
 obtain ⟨r1, r2⟩ := zei hF
 obtain ⟨B, b1, b2, b3⟩ := zmD D.int (Q := λ i x => rAt F x = i /\ InR n x) (n := n) (cap := cap) (fe := Wu .lst (fV 1) (aC (fV 0) aN) W7) h1 (by trivial) λ b hb => by
  obtain ⟨j, j1, j3, j2⟩ := zhe (r2 b (by trivial) (by trivial))
  refine ⟨_, (j : Int), h2 b, WD.e (zgw (zb rfl) rfl (zJ (zb rfl) zO) ?_ rfl), ?_, by trivial, by rw [r1.1] at j1; trivial⟩
  · show (zeE _ (F.map D.int)).bind _ = _
    rw [j2]
    show (if (F.map D.int).length <= 1000 then some (R0.im (.int j)) else none) = _
    rw [if_pos (by rw [zD, r1.1]; trivial)]
  · unfold rAt
    rw [Int.toNat_natCast, j3]; rfl
 have rB : Row n B := ⟨b1, λ x m => by
  obtain ⟨i, hi⟩ := List.getElem?_of_mem m
  exact (b2 i x hi).2⟩
 have fb : ∀ v, InR n v -> rAt F (rAt B v) = v := λ v hv => by
  have v0 := hv.1
  have v1 := hv.2
  have hk : v.toNat < B.length := by trivial
  rw [X4 hk, (b2 _ _ (zzC hk)).1]
  trivial
 exact ⟨B, ⟨rB, fb, λ v hv => zle hF (rowAt rB (rowAt r1 hv).2).2 hv (fb _ (rowAt r1 hv).2)⟩, b3⟩
theorem zjM {f : EF} {g : GF} {as as' : AS} {x : D} (h : WE f as x) (hg : g (true, x) as = some as') : zcJ f g as = some (.nx as') := by
 obtain ⟨o, h1, h2, h3⟩ := h
 exact zor h1 (by rw [h2, h3]; exact hg)
theorem zpT {as : AS} {F B : List Int} {J : TT} {n : Nat} {fr : AF} {cap : List (Option Nat)} (hn : n <= 8) (hF : Row n F) (hB : Row n B) (hJ : Tab n n J) (h1 : WA fr as [(true, .int n)]) (h2 : ∀ a : Int, gN 0 (true, .int a) (Zq cap as) = some [sI a, sT (zL F), sI n, sT (zK J), sT (zL B)]) :
 ∃ T, zaQ n n (λ a b => rAt F (jAt J (rAt B a) (rAt B b))) T /\ WE (zZ (yE fr yD) cap (gN 0) yP (zZ (yE (aC (fV 2) aN) yD) [none, some 1, some 3, some 4, some 0] (gN 0) yP (f2 (fV 1) (f2 (f2 (fV 2) (f2 (fV 3) (fV 4) ixP) ixP) (f2 (fV 3) (fV 0) ixP) ixP) ixP))) as (zK T) :=
 zcT (f := λ a b => rAt F (jAt J (rAt B a) (rAt B b))) (n := n) (k := n) (cap := cap) (fe := zZ (yE (aC (fV 2) aN) yD) [none, some 1, some 3, some 4, some 0] (gN 0) yP (f2 (fV 1) (f2 (f2 (fV 2) (f2 (fV 3) (fV 4) ixP) ixP) (f2 (fV 3) (fV 0) ixP) ixP) ixP)) h1 (by trivial) λ a ha => by
  obtain ⟨r, r1, r3⟩ := zaT (f := λ b => rAt F (jAt J (rAt B a) (rAt B b))) (N := n) (as := [sI a, sT (zL F), sI n, sT (zK J), sT (zL B)]) (u := true) (n := n) (fr := aC (fV 2) aN) (cap := [none, some 1, some 3, some 4, some 0]) (fe := f2 (fV 1) (f2 (f2 (fV 2) (f2 (fV 3) (fV 4) ixP) ixP) (f2 (fV 3) (fV 0) ixP) ixP) ixP) (zJ (zb rfl) zO) (by trivial) λ b hb => by
   obtain ⟨p1, p2⟩ := rowAt hB ha
   obtain ⟨q1, q2⟩ := rowAt hB hb
   obtain ⟨t1, t2⟩ := YG hJ p2
   obtain ⟨v1, v2⟩ := rowAt t2 q2
   obtain ⟨w1, w2⟩ := rowAt hF v2
   exact ⟨[sI b, sT (zL F), sT (zK J), sT (zL B), sI a], rfl, WD.e (zM (zb rfl) (zM (xM (zb rfl) (zM (zb rfl) (zb rfl) p1 rfl) t1) (zM (zb rfl) (zb rfl) q1 rfl) v1 rfl) w1 rfl), w2⟩
  exact ⟨_, r, h2 a, r3, r1⟩
abbrev xR (p : Str × TT) : D := .tup [.str p.1, zK p.2]
abbrev zky : EF := zZ (Y8 (fV 14)) [none, some 8, some 5, some 9] (gN 0) yP (zZ (yE (aC (fV 2) aN) yD) [none, some 1, some 0, some 3] (gN 0) yP (f2 (fV 1) (f2 (fV 2) (f2 (fV 3) (fV 0) ixP) ixP) ixP))
theorem zpz {as : AS} {F B : List Int} {T : TT} {m n : Nat} (hn : n <= 8) (hm : m <= 8) (hF : Row n F) (hB : Row n B) (hT : Tab m n T) (h1 : as[14]? = some (sT (zK T))) (h2 : ∀ d : D, gN 0 (true, d) (Zq [none, some 8, some 5, some 9] as) = some [sT d, sT (zL F), sI n, sT (zL B)]) :
 ∃ T', zaQ m n (λ c a => rAt F (jAt T c (rAt B a))) T' /\ WE zky as (zK T') := by
 obtain ⟨T', t1, t2, t3⟩ := zfi zL (Q := λ (c : Nat) r => VN n n (λ a => rAt F (jAt T c (rAt B a))) r) (cap := [none, some 8, some 5, some 9]) (g := gN 0) (fe := zZ (yE (aC (fV 2) aN) yD) [none, some 1, some 0, some 3] (gN 0) yP (f2 (fV 1) (f2 (fV 2) (f2 (fV 3) (fV 0) ixP) ixP) ixP)) (zfw (f := fV 14) (as := as) (WD.e (zb h1))) (by rw [zD, zD, hT.1]; trivial) λ c y my => by
  rw [List.map_map, zzG] at my
  obtain ⟨r, mr, rfl⟩ := zzV.mp my
  have hr := hT.2 r (List.mem_of_getElem? mr)
  have hj : ∀ v, jAt T c v = rAt r v := λ v => by unfold jAt; rw [Int.toNat_natCast, mr]; rfl
  obtain ⟨l, l1, l3⟩ := zaT (f := λ a => rAt F (jAt T c (rAt B a))) (N := n) (as := [sT (zL r), sT (zL F), sI n, sT (zL B)]) (u := true) (n := n) (fr := aC (fV 2) aN) (cap := [none, some 1, some 0, some 3]) (fe := f2 (fV 1) (f2 (fV 2) (f2 (fV 3) (fV 0) ixP) ixP) ixP) (zJ (zb rfl) zO) (by trivial) λ a ha => by
   obtain ⟨p1, p2⟩ := rowAt hB ha
   obtain ⟨v1, v2⟩ := rowAt hr p2
   obtain ⟨w1, w2⟩ := rowAt hF v2
   rw [hj]
   exact ⟨[sI a, sT (zL F), sT (zL r), sT (zL B)], rfl, WD.e (zM (zb rfl) (zM (zb rfl) (zM (zb rfl) (zb rfl) p1 rfl) v1 rfl) w1 rfl), w2⟩
  exact ⟨_, l, h2 _, l3, l1⟩
 rw [zD, zD] at t1
 exact ⟨T', Vy (by rw [t1, hT.1]) t2, t3⟩
structure Alg (n m : Nat) (J : TT) (e : Int) (Ds : DD) : Prop where
 n1 : 1 <= n
 n8 : n <= 8
 m1 : 1 <= m
 m6 : m <= 6
 j : Tab n n J
 e0 : 0 <= e
 en : e < n
 dl : Ds.length <= 6
 ds : ∀ p ∈ Ds, Tab m n p.2
 nd : (Ds.map (·.1)).Nodup
structure LawA (n m : Nat) (J : TT) (e : Int) (Ds : DD) : Prop where
 lj : LJ n (jAt J) e
 ld : ∀ p ∈ Ds, LD n m (jAt J) e (jAt p.2)
abbrev ye (n m : Nat) (J : TT) (e : Int) (Ds : DD) (S : SS) : D := .tup [.int n, .int m, zK J, .int e, .lst (Ds.map xR), .lst (S.map xu)]
theorem zku {A0 A1 A2 A3 A4 A6 A7 A10 A11 A15 : Option O} {F B : List Int} {Ds : List TT} {ns : List Str} {m n : Nat} (hn : n <= 8) (hm : m <= 8) (hF : Row n F) (hB : Row n B) (hD : ∀ T ∈ Ds, Tab m n T) (hl : Ds.length <= ns.length) (hl8 : Ds.length <= 8) :
 ∃ os l e13 e14, Ows xR (λ p => ∃ T ∈ Ds, zaQ m n (λ c a => rAt F (jAt T c (rAt B a))) p.2) os l /\ l.map (·.1) = ns.take Ds.length /\ l.length = Ds.length /\ forL (gT 2 (gsC (gN 13) (gsC (gN 14) gsN))) (xN (wU 12 (dC (yZ (dC (fV 13) (dC zky dN))) dN) wO)) (Wy true (ns.map D.str) (Ds.map zK))
  [A0, A1, A2, A3, A4, sI n, A6, A7, sT (zL F), sT (zL B), A10, A11, sN [], none, none, A15]
  = some (.nx [A0, A1, A2, A3, A4, sI n, A6, A7, sT (zL F), sT (zL B), A10, A11, sN os, e13, e14, A15]) := by
 obtain ⟨as', hf, os, l, e13, e14, rfl, ho, hlm, hlen⟩ := xW (g := gT 2 (gsC (gN 13) (gsC (gN 14) gsN))) (f := xN (wU 12 (dC (yZ (dC (fV 13) (dC zky dN))) dN) wO))
  (λ i as => ∃ (os : List O) (l : DD) (e13 e14 : Option O), as = [A0, A1, A2, A3, A4, sI n, A6, A7, sT (zL F), sT (zL B), A10, A11, sN os, e13, e14, A15] /\ Ows xR (λ p => ∃ T ∈ Ds, zaQ m n (λ c a => rAt F (jAt T c (rAt B a))) p.2) os l /\ l.map (·.1) = ns.take i /\ l.length = i)
  (Wy true (ns.map D.str) (Ds.map zK)) 0 [A0, A1, A2, A3, A4, sI n, A6, A7, sT (zL F), sT (zL B), A10, A11, sN [], none, none, A15] (λ i x as hx' hI => by
   obtain ⟨os, l, e13, e14, rfl, ho, hlm, hlen⟩ := hI
   obtain ⟨d, e, z1, z2, rfl⟩ := Vo hx'
   have hil : i < Ds.length := by have := (zzE.mp z2).1; rw [zD] at this; exact this
   obtain ⟨T, mT, rfl⟩ := zbs z2
   rw [zzG] at z1
   obtain ⟨s, s1, rfl⟩ := zzV.mp z1
   obtain ⟨T', t1, o, t2, t3, t4⟩ := zpz (as := [A0, A1, A2, A3, A4, sI n, A6, A7, sT (zL F), sT (zL B), A10, A11, sN os, sT (.str s), sT (zK T), A15]) hn hm hF hB (hD T mT) rfl (λ _ => rfl)
   obtain ⟨os', o1, o2⟩ := zmR (as := [A0, A1, A2, A3, A4, sI n, A6, A7, sT (zL F), sT (zL B), A10, A11, sN os, sT (.str s), sT (zK T), A15]) (x := (s, T')) (i := 12) (toD := xR) (Q := λ p => ∃ T ∈ Ds, zaQ m n (λ c a => rAt F (jAt T c (rAt B a))) p.2) rfl ho (by trivial) (zgc (zq (zb (i := 13) rfl) (Vg t2 yp)) (szl rfl) (by show (true && (o.str && true)) = true; rw [t3]; rfl) (by show D.tup [.str s, o.toD] = _; rw [t4])) ⟨T, mT, t1⟩
   refine ⟨[A0, A1, A2, A3, A4, sI n, A6, A7, sT (zL F), sT (zL B), A10, A11, sN os, sT (.str s), sT (zK T), A15], rfl, _, o2, os', l ++ [(s, T')], _, _, rfl, o1, ?_, by rw [zzH, hlen]; rfl⟩
   rw [List.map_append, hlm, show 0 + i + 1 = i + 1 by trivial, Nat.zero_add, List.take_succ, s1]; rfl)
  ⟨[], [], none, none, rfl, Ows.nil, rfl, rfl⟩
 rw [zbp, zD, zD, Nat.min_eq_right hl, Nat.zero_add] at hlm hlen
 exact ⟨os, l, e13, e14, ho, hlm, hlen, hf⟩
theorem zmv (x : Int) : ∃ n : Nat, n <= 6 /\ ixP (.lst (([1, 2, 0, 4, 3, 2, 6, 5] : List Int).map D.int)) (.int (x % 8)) = some (.im (.int n)) := by
 obtain ⟨v, h1, h2⟩ := zer (r := [1, 2, 0, 4, 3, 2, 6, 5]) (P := λ x => 0 <= x /\ x <= 6) (k := x % 8) (by trivial) (by show x % 8 < 8; trivial) (by decide)
 exact ⟨v.toNat, by trivial, by rw [show ((v.toNat : Nat) : Int) = v by trivial]; exact h1⟩
theorem zoA (x : Int) : ∃ n : Nat, n <= 4 /\ ixP (.lst (([1, 2, 1, 4, 0, 2, 3, 1] : List Int).map D.int)) (.int (x % 8)) = some (.im (.int n)) := by
 obtain ⟨v, h1, h2⟩ := zer (r := [1, 2, 1, 4, 0, 2, 3, 1]) (P := λ x => 0 <= x /\ x <= 4) (k := x % 8) (by trivial) (by show x % 8 < 8; trivial) (by decide)
 exact ⟨v.toNat, by trivial, by rw [show ((v.toNat : Nat) : Int) = v by trivial]; exact h1⟩
theorem Vj {f : EF} {as : AS} {k : Int} (h : WD f as true (.int k)) : oS f as = some (some k, as) := by
 unfold oS
 unfold WD at h
 rw [h]; rfl
theorem zfI {α : Type} (f : α -> D) (l : List α) (lo hi : Option Int) : ∃ l' : List α, l'.length <= l.length /\ PF.cutD (l.map f) lo hi = l'.map f := by
 unfold PF.cutD
 rw [zD, <- List.map_drop, <- List.map_take]
 exact ⟨_, by rw [zzQ, List.length_drop]; trivial, rfl⟩
theorem znC {as : AS} {a b c d e f g h : Int} : WE (xG (dC (fC (.int a)) (dC (fC (.int b)) (dC (fC (.int c)) (dC (fC (.int d)) (dC (fC (.int e)) (dC (fC (.int f)) (dC (fC (.int g)) (dC (fC (.int h)) dN))))))))) as (.lst (([a, b, c, d, e, f, g, h] : List Int).map D.int)) :=
 vD (os := ([a, b, c, d, e, f, g, h] : List Int).map lfI) (zq zc (zq zc (zq zc (zq zc (zq zc (zq zc (zq zc (zq zc yp)))))))) (szl rfl) rfl rfl
theorem zdo {c c' : Int} : ∃ n m J e Ds S, (Alg n m J e Ds /\ LawA n m J e Ds) /\ RE (xf [(true, .int c), (true, .int c')]) (ye n m J e Ds S) := by
 obtain ⟨ys, hl, hy, ws⟩ := stE (as := [sI c, sI c', none, none, none, none, none, none, none, none, none, none, none, none, none, none]) (a := fV 1) (b := fC (.int 6)) (c := c') (m := 6) (by trivial) (WD.e (zb rfl)) (WD.e zc)
 obtain ⟨y0, a0, _⟩ := at2 hy (k := 0) (by trivial) (by trivial)
 obtain ⟨y1, a1, _⟩ := at2 hy (k := 1) (by trivial) (by trivial)
 obtain ⟨y2, a2, _⟩ := at2 hy (k := 2) (by trivial) (by trivial)
 obtain ⟨y3, a3, _⟩ := at2 hy (k := 3) (by trivial) (by trivial)
 obtain ⟨y4, a4, _⟩ := at2 hy (k := 4) (by trivial) (by trivial)
 obtain ⟨y5, a5, _⟩ := at2 hy (k := 5) (by trivial) (by trivial)
 obtain ⟨w, w6, ew⟩ := zmv y1
 obtain ⟨k, k4, ek⟩ := zoA y5
 have b3 : (2 : Int).natAbs < big := zY (by decide) (by decide)
 obtain ⟨m1, m11, m16, hC⟩ : ∃ m1 : Int, 1 <= m1 /\ m1 <= 6 /\ sIf (fT (f2 (f2 (f2 (f2 (fV 2) (fC (.int 0)) ixP) (fC (.int 6)) (zm .FloorDiv)) (fC (.int 2)) (zm .Mod)) (fC (.int 0)) (zW .Eq))) (zR true 3 (f2 (fC (.int 1)) (f2 (f2 (f2 (fV 2) (fC (.int 0)) ixP) (fC (.int 12)) (zm .FloorDiv)) (fC (.int 3)) (zm .Mod)) (zm .Add))) sNx
  [sI c, sI c', sT (zL ys), sI (1 + y0 % 6), none, none, none, none, none, none, none, none, none, none, none, none] = some (.nx [sI c, sI c', sT (zL ys), sI m1, none, none, none, none, none, none, none, none, none, none, none, none]) := by
  by_cases h : y0 / 6 % 2 = 0
  · exact ⟨1 + y0 / 12 % 3, by trivial, by trivial, vL (yh (xm (yF (Yz (zM (zb rfl) zc a0 rfl) zc (by decide) (zY (by decide) (by decide))) zc (by decide)) zc rfl) (by show some (y0 / 6 % 2 == 0) = _; simp [h])) (yR (i := 3) (xq zc (yF (Yz (zM (zb rfl) zc a0 rfl) zc (by decide) (zY (by decide) (by decide))) zc (by decide))) (zG rfl))⟩
  · exact ⟨1 + y0 % 6, by trivial, by trivial, ym (yh (xm (yF (Yz (zM (zb rfl) zc a0 rfl) zc (by decide) (zY (by decide) (by decide))) zc (by decide)) zc rfl) (by show some (y0 / 6 % 2 == 0) = _; simp [h])) rfl⟩
 obtain ⟨m, mm1, mm6, hE⟩ : ∃ m : Nat, 1 <= m /\ m <= 6 /\ sIf (fT (f2 (fV 4) (fC (.int 3)) (zW .Gt))) (zR true 3 (f2 (fC (.int 1)) (f2 (fV 3) (fC (.int 2)) (zm .Mod)) (zm .Add))) sNx
  [sI c, sI c', sT (zL ys), sI m1, sI w, none, none, none, none, none, none, none, none, none, none, none] = some (.nx [sI c, sI c', sT (zL ys), sI m, sI w, none, none, none, none, none, none, none, none, none, none, none]) := by
  by_cases h : (3 : Int) < w
  · refine ⟨(1 + m1 % 2).toNat, by trivial, by trivial, ?_⟩
    rw [show (((1 + m1 % 2).toNat : Nat) : Int) = 1 + m1 % 2 by trivial]
    exact vL (yh (Xp (zb rfl) zc) (congrArg some (decide_eq_true h))) (yR (i := 3) (xq zc (yF (zb rfl) zc (by decide))) (zG rfl))
  · refine ⟨m1.toNat, by trivial, by trivial, ?_⟩
    rw [show ((m1.toNat : Nat) : Int) = m1 by trivial]
    exact ym (yh (Xp (zb rfl) zc) (congrArg some (decide_eq_false h))) rfl
 obtain ⟨n, J, Ds, n1, n8, LP, dl, hmade⟩ := zlV (c := c) (m := m) (w := w) (by trivial) (by trivial) (by trivial)
 have hJ := LP.tj
 have hD := LP.td
 obtain ⟨F, hF, hord⟩ := zlw (c := y2) n1 n8
 obtain ⟨rF, _⟩ := zei hF
 obtain ⟨B, ⟨rB, fb, bf⟩, hback⟩ := zpV (as := [sI c, sI c', sT (zL ys), sI m, sI w, sI n, sT (zK J), sT (.lst (Ds.map zK)), sT (zL F), none, none, none, none, none, none, none]) (cap := [none, some 8]) (fr := aC (fV 5) aN) hF n8 (zJ (zb rfl) zO) (λ b => rfl)
 obtain ⟨J', hJ', hjoin⟩ := zpT (as := [sI c, sI c', sT (zL ys), sI m, sI w, sI n, sT (zK J), sT (.lst (Ds.map zK)), sT (zL F), sT (zL B), none, none, none, none, none, none]) (cap := [none, some 8, some 5, some 6, some 9]) (fr := aC (fV 5) aN) n8 rF rB hJ (zJ (zb rfl) zO) (λ a => rfl)
 obtain ⟨ns, nl, nnd, hnames⟩ := zlr (c := y3)
 obtain ⟨os, l, e13, e14, ho, hlm, hlen, hf⟩ := zku (A0 := sI c) (A1 := sI c') (A2 := sT (zL ys)) (A3 := sI m) (A4 := sI w) (A6 := sT (zK J)) (A7 := sT (.lst (Ds.map zK))) (A10 := sT (zK J')) (A11 := sT (.lst (ns.map D.str))) (A15 := none) (ns := ns.take 6) n8 (by trivial) rF rB hD (by rw [zzQ, nl]; trivial) (by trivial)
 obtain ⟨ef, ff⟩ := rowAt rF (v := 0) ⟨by trivial, by trivial⟩
 obtain ⟨ks, kl, ck⟩ := zfI D.str ns (some 6) (some (6 + (k : Int)))
 obtain ⟨S, hS⟩ := zjW (c := y4) (n := n) (ns := ks) n8 (by trivial)
 have cF : ∀ a, InR n a -> InR n (rAt F a) := λ a ha => (rowAt rF ha).2
 have cB : ∀ a, InR n a -> InR n (rAt B a) := λ a ha => (rowAt rB ha).2
 have lj := ljT LP.lj cF cB fb bf
 refine ⟨n, m, J', rAt F 0, l, S, ⟨⟨n1, n8, mm1, mm6, hJ'.1, ff.1, ff.2, by trivial, λ p mp => ?_, ?_⟩, ⟨lj.congr hJ'.2, λ p mp => ?_⟩⟩, ?_⟩
 · obtain ⟨T, _, hT⟩ := ho.al p mp
   exact hT.1
 · rw [hlm]
   exact (nnd.sublist (List.take_sublist _ _)).sublist (List.take_sublist _ _)
 · obtain ⟨T, mT, hT⟩ := ho.al p mp
   exact (ldT (by trivial) LP.lj (LP.ld T mT) cF cB fb bf).congr (by trivial) lj hJ'.2 hT.2
 have z6 : WE (fSl (fV 11) oN (oS (fC (.int 6))) slP) [sI c, sI c', sT (zL ys), sI m, sI w, sI n, sT (zK J), sT (.lst (Ds.map zK)), sT (zL F), sT (zL B), sT (zK J'), sT (.lst (ns.map D.str)), sN [], none, none, none] (.lst ((ns.take 6).map D.str)) := by
  refine zaX (lo := none) (hi := some 6) (WD.e (zb rfl)) rfl (Vj zc) ?_
  have := zkm (xs := (ns.take 6).map D.str) (ys := (ns.drop 6).map D.str)
  rw [<- List.map_append, List.take_append_drop, zD, zzQ, nl] at this
  exact this
 have zS : WE (zQ (aC (f2 (fV 2) (fC (.int 4)) ixP) (aC (fV 5) (aC (fSl (fV 11) (oS (fC (.int 6))) (oS (f2 (fC (.int 6)) (f2 (xG (dC (fC (.int 1)) (dC (fC (.int 2)) (dC (fC (.int 1)) (dC (fC (.int 4)) (dC (fC (.int 0)) (dC (fC (.int 2)) (dC (fC (.int 3)) (dC (fC (.int 1)) dN))))))))) (f2 (f2 (fV 2) (fC (.int 5)) ixP) (fC (.int 8)) (zm .Mod)) ixP) (zm .Add))) slP) aN))) v6) [sI c, sI c', sT (zL ys), sI m, sI w, sI n, sT (zK J), sT (.lst (Ds.map zK)), sT (zL F), sT (zL B), sT (zK J'), sT (.lst (ns.map D.str)), sN os, e13, e14, none] (.lst (S.map xu)) :=
  Xj (WD.e (zM (zb rfl) zc a4 rfl)) (WD.e (zb rfl)) (zaX (lo := some 6) (hi := some (6 + (k : Int))) (WD.e (zb rfl)) (Vj zc) (Vj (xq zc (f2E znC (WD.e (yF (zM (zb rfl) zc a5 rfl) zc (by decide))) ek))) (by show some (R0.fl (PF.cutD (ns.map D.str) (some 6) (some (6 + (k : Int))))) = _; rw [ck])) hS
 refine xO rfl (zB (Zw (p := 2) ws (zG rfl)) (zB (yR (i := 3) (xq zc (yF (zM (zb rfl) zc a0 rfl) zc (by decide))) (zG rfl)) (zB hC (zB (yR (i := 4) (f2E znC (WD.e (yF (zM (zb rfl) zc a1 rfl) zc (by decide))) ew) (zG rfl)) (zB hE
  (zB (as1 := [sI c, sI c', sT (zL ys), sI m, sI w, sI n, sT (zK J), sT (.lst (Ds.map zK)), none, none, none, none, none, none, none, none]) (zjM (Xj (WD.e (zb rfl)) (WD.e (zb rfl)) (WD.e (zb rfl)) hmade) rfl)
  (zB (Zw (p := 8) (zak (WD.e (zM (zb rfl) zc a2 rfl)) (WD.e (zb rfl)) hord) (zG rfl)) (zB (Zw (p := 9) hback (zG rfl)) (zB (Zw (p := 10) hjoin (zG rfl)) (zB (Zw (p := 11) (zak (WD.e (zM (zb rfl) zc a3 rfl)) (WD.e zc) hnames) (zG rfl)) (zB (ww (i := 12) (vI yp (szl rfl)) (zG rfl)) (zB (wR (zqk z6 (WD.e (zb rfl))) hf) (zB (Zw (p := 15) zS (zG rfl)) ?_)))))))))))))
 have e := xX (as := [sI c, sI c', sT (zL ys), sI m, sI w, sI n, sT (zK J), sT (.lst (Ds.map zK)), sT (zL F), sT (zL B), sT (zK J'), sT (.lst (ns.map D.str)), sN os, e13, e14, sT (.lst (S.map xu))]) (a := fV 5) (zb rfl) (xX (a := fV 3) (zb rfl) (xX (a := fV 10) (zb rfl) (xX (a := f2 (fV 8) (fC (.int 0)) ixP) (zM (zb rfl) zc ef rfl) (zdD (j := 12) (fr := dC (fV 15) dN) rfl (xX (a := fV 15) (zb rfl) rfl)))))
 rw [ho.frz] at e
 exact ⟨_, VM (zdc e (szl rfl)) rfl, rfl, rfl⟩
theorem zjk {c : Int} {n k : Nat} (hn : 0 < n) (hn8 : n <= 8) (hk : k <= 900) : ∃ ds : List Int, ds.length = k /\ (∀ x ∈ ds, InR n x) /\ RE (Zb [(true, .int c), (true, .int n), (true, .int k)]) (zL ds) := by
 obtain ⟨as', hf, x, os, l, e4, rfl, ho, hlen⟩ := xW (g := gN 4) (f := zF (xN (wU 3 (dC (f2 (fV 0) (fV 1) (zm .Mod)) dN) wO)) (zR true 0 (f2 (fV 0) (fV 1) (zm .FloorDiv))))
  (λ i as => ∃ (x : Int) (os : List O) (l : List Int) (e4 : Option O), as = [sI x, sI n, sI k, sN os, e4] /\ Ows D.int (InR n) os l /\ l.length = i)
  (wQ 0 k) 0 [sI c, sI n, sI k, sN [], none] (λ i y as hx' hI => by
   obtain ⟨x, os, l, e4, rfl, ho, hlen⟩ := hI
   obtain ⟨rfl, hi⟩ := vf hx'
   obtain ⟨os', o1, o2⟩ := zmR (as := [sI x, sI n, sI k, sN os, sI (0 + i)]) (x := x % n) (i := 3) (toD := D.int) (Q := InR n) (a := f2 (fV 0) (fV 1) (zm .Mod)) rfl ho (by trivial) (WD.e (yF (zb rfl) (zb rfl) (by trivial))) (Zh hn)
   exact ⟨[sI x, sI n, sI k, sN os, sI (0 + i)], rfl, _, yx o2 (yR (i := 0) (Yz (zb rfl) (zb rfl) (by trivial) (zY (by trivial) (by trivial))) (zG rfl)), x / n, os', l ++ [x % n], _, rfl, o1, by rw [zzH, hlen]; rfl⟩)
  ⟨c, [], [], none, rfl, Ows.nil, rfl⟩
 rw [xr] at hlen
 exact ⟨l, by trivial, ho.al, xO rfl (zB (ww (i := 3) (vI yp (szl rfl)) (zG rfl)) (zB (wR (xY (zJ (zb rfl) zO) (by trivial) (by trivial)) hf) (Ows.retB (i := 3) rfl ho)))⟩
theorem zmg {ns : List Int} {k : Int} {s t : Bool} (hk : 0 <= k) : ∃ x, zV [(s, .lst (ns.map .int)), (t, .int k)] = sT (.int x) := by
 by_cases h : k < ((ns.map D.int).length : Int)
 · obtain ⟨x, hx⟩ := zmV (ns := ns) hk (by rw [zD] at h; exact h)
   exact ⟨x, zcu rfl (ziD (vL (yh (zhw (zb rfl) (vQ (zJ (zb rfl) zO) rfl rfl)) (congrArg some (decide_eq_true h))) (zdI (zM (zb rfl) (zb rfl) hx rfl))))⟩
 · exact ⟨0, zcu rfl (yx (ym (yh (zhw (zb rfl) (vQ (zJ (zb rfl) zO) rfl rfl)) (congrArg some (decide_eq_false h))) rfl) (zdI zc))⟩
theorem zmo {ds : List Int} {a n : Nat} (h : a + n <= ds.length) : slP (zL ds) (some (a : Int)) (some ((a + n : Nat) : Int)) = some (.fl (((ds.drop a).take n).map D.int)) := by
 show some (R0.fl (PF.cutD (ds.map D.int) (some (a : Int)) (some ((a + n : Nat) : Int)))) = _
 congr 2
 unfold PF.cutD
 rw [HT.zda, HT.zda, zD, Nat.min_eq_left h, Nat.min_eq_left (show a <= ds.length by trivial), <- List.map_drop, <- List.map_take, Nat.add_sub_cancel_left]
theorem ziQ {ds : List Int} {a n N : Nat} (h : a + n <= ds.length) (hd : ∀ x ∈ ds, InR N x) (e : n = N) : Row N ((ds.drop a).take n) := by
 refine ⟨by rw [zzQ, List.length_drop]; trivial, λ x m => hd x (List.mem_of_mem_drop (List.mem_of_mem_take m))⟩
abbrev bdC : EF := zZ (yE (aC (fV 3) aN) yD) [none, some 8, some 12, some 2] (gN 0) yP (fSl (fV 1) (oS (f2 (fV 2) (f2 (fV 3) (fV 0) (zm .Mult)) (zm .Add))) (oS (f2 (f2 (fV 2) (f2 (fV 3) (fV 0) (zm .Mult)) (zm .Add)) (fV 3) (zm .Add))) slP)
abbrev bdB : SF := (zF (zR true 12 (f2 (f2 (fC (.int 1)) (f2 (fV 2) (fV 2) (zm .Mult)) (zm .Add)) (f2 (f2 (fV 2) (fV 3) (zm .Mult)) (fV 11) (zm .Mult)) (zm .Add)))
 (xN (wU 10 (dC (yZ (dC (f2 (f2 (fV 6) (fV 11) ixP) (fC (.int 0)) ixP) (dC bdC dN))) dN) wO)))
abbrev Y13 (n m : Nat) (a0 a1 a4 a5 a7 a9 : Option O) (Ds : DD) (ds : List Int) (e10 e11 e12 : Option O) : AS :=
 [a0, a1, sI n, sI m, a4, a5, sT (.lst (Ds.map xR)), a7, sT (zL ds), a9, e10, e11, e12]
abbrev Z7 (T : TT) : O := .nd .ls (T.map xT)
abbrev yK (p : Str × TT) : O := .nd .tp [.lf true (.str p.1), Z7 p.2]
abbrev zob : EF := fP (aC (fV 0) aN) lstP
theorem zfr : ∀ T : TT, wz (gN 0) yP zob [none] ((T.map zL).map λ d => (true, d)) = some (T.map xT)
 | [] => rfl
 | r :: T => zbf (as1 := [sT (zL r)]) rfl (znz (zb rfl)) (vd r).2.1 (zfr T)
theorem zhO {f : EF} {as : AS} {T : TT} (hl : T.length <= 1000) (h : WE f as (zK T)) : zZ (Y8 f) [none] (gN 0) yP zob as = some (.ow (Z7 T), as) :=
 VL (zfw h) (by rw [zD, zD]; exact szs (by trivial)) (zfr T)
theorem zbW (p : Str × TT) : (yK p).str = true /\ (yK p).toD = xR p := by
 constructor
 · show (true && (O.strs (p.2.map xT) && true)) = true
   rw [(YQ p.2).1]; rfl
 · show D.tup [.str p.1, .lst (O.toDs (p.2.map xT))] = _
   rw [(YQ p.2).2]
theorem Zv : ∀ Ds : DD, O.strs (Ds.map yK) = true /\ O.toDs (Ds.map yK) = Ds.map xR
 | [] => ⟨rfl, rfl⟩
 | p :: Ds => ⟨by show ((yK p).str && O.strs (Ds.map yK)) = true; rw [(zbW p).1, (Zv Ds).1]; rfl, by
  show (yK p).toD :: O.toDs (Ds.map yK) = _
  rw [(zbW p).2, (Zv Ds).2]; rfl⟩
abbrev zqi : EF := yZ (dC (fV 0) (dC (zZ (Y8 (fV 1)) [none] (gN 0) yP zob) dN))
theorem zkr {p : Str × TT} (hl : p.2.length <= 1000) : zqi [sT (.str p.1), sT (zK p.2)] = some (.ow (yK p), [sT (.str p.1), sT (zK p.2)]) :=
 zfC (os := [.lf true (.str p.1), Z7 p.2]) (zq (zb (i := 0) rfl) (Vg (zhO hl (WD.e (zb (i := 1) rfl))) yp)) (szl rfl)
theorem zdn : ∀ Ds : DD, (∀ p ∈ Ds, p.2.length <= 1000) -> wz (gT 2 (gsC (gN 0) (gsC (gN 1) gsN))) yP zqi [none, none] ((Ds.map xR).map λ d => (true, d)) = some (Ds.map yK)
 | [], _ => rfl
 | p :: Ds, h => zbf (as1 := [sT (.str p.1), sT (zK p.2)]) rfl (zkr (h p (zzD ..))) (zbW p).1 (zdn Ds λ q m => h q (zzB _ m))
theorem Xv {as : AS} {i : Nat} {xs : List Int} {k x : Int} {s : Bool} (h : as[i]? = some (some (.lf s (zL xs)))) (hk : 0 <= k) (hx : xs[k.toNat]? = some x) : xAt i (xC k) as = some x := by
 have e : (xs.map D.int)[k.toNat]? = some (.int x) := by rw [zzG, hx]; rfl
 unfold xAt xC
 show (if 0 <= k then _ else none : Option Int) = _
 rw [if_pos hk, VB (f := W4) h rfl]
 show ((xs.map D.int)[k.toNat]?).bind asI = _
 rw [e]; rfl
theorem Yy {as : AS} {i : Nat} {k : Int} {s : Bool} (h : as[i]? = some (some (.lf s (.int k)))) : xV i as = some k := by
 unfold xV; rw [VB (f := W4) h rfl]; rfl
theorem zlb {as : AS} {i : Nat} {os : List O} (h : as[i]? = some (sN os)) : zln i as = some (os.length : Int) := by
 unfold zln; rw [VB (f := ZZ) h rfl]; rfl
theorem YC {as : AS} {f g : IXF} {a b : Int} (h1 : f as = some a) (h2 : g as = some b) (hb : 0 < b) : WX f g as = some (a % b) := by
 unfold WX; simp only [h1, h2, Option.bind_some, if_pos hb]
theorem zhL {r : List Int} {k : Int} (h : k.toNat < r.length) : (r.map lfI)[k.toNat]? = sT (.int r[k.toNat]) := by
 rw [zzG, zzC h]; rfl
theorem zfe {as : AS} {i : Nat} {f1 f2 fv : IXF} {k1 k2 c : Int} {T : TT} {r : List Int} (h1 : f1 as = some k1) (h2 : f2 as = some k2) (hv : fv as = some c) (p1 : 0 <= k1) (p2 : 0 <= k2) (hi : as[i]? = some (some (Z7 T))) (hr : T[k1.toNat]? = some r) (hk : k2.toNat < r.length) :
 zaO i f1 f2 fv as = some (.nx (as.set i (some (Z7 (T.set k1.toNat (r.set k2.toNat c)))))) := by
 have e1 : (T.map xT)[k1.toNat]? = sN (r.map lfI) := by rw [zzG, hr]; rfl
 have e2 := zhL hk
 have e3 : (T.map xT).set k1.toNat (.nd .ls ((r.map lfI).set k2.toNat (.lf true (.int c)))) = (T.set k1.toNat (r.set k2.toNat c)).map xT := by
  rw [List.map_set]
  show _ = (T.map xT).set k1.toNat (.nd .ls ((r.set k2.toNat c).map lfI))
  rw [List.map_set]
 unfold zaO
 simp only [h1, h2, hv, Option.bind_some, if_pos (show 0 <= k1 /\ 0 <= k2 from ⟨p1, p2⟩), (VB hi rfl : slO ZZ as i = some (T.map xT)), (Yb e1 rfl : atO ZZ _ _ = some (r.map lfI)), (Yb e2 rfl : atO W4 _ _ = some (.int r[k2.toNat])), e3]
theorem zkK {as : AS} {y i : Nat} {f1 f2 f3 fv : IXF} {k1 k2 k3 c : Int} {Ds : DD} {p : Str × TT} {r : List Int} (h1 : f1 as = some k1) (h2 : f2 as = some k2) (h3 : f3 as = some k3) (hv : fv as = some c) (p1 : 0 <= k1) (p2 : 0 <= k2) (p3 : 0 <= k3) (hy : noS as y = true) (hi : as[i]? = some (sN (Ds.map yK))) (hp : Ds[k1.toNat]? = some p) (hr : p.2[k2.toNat]? = some r) (hk : k3.toNat < r.length) :
 zkX y i f1 1 f2 f3 fv as = some (.nx (as.set i (sN ((Ds.set k1.toNat (p.1, p.2.set k2.toNat (r.set k3.toNat c))).map yK)))) := by
 have e1 : (Ds.map yK)[k1.toNat]? = some (.nd .tp [.lf true (.str p.1), .nd .ls (p.2.map xT)]) := by rw [zzG, hp]; rfl
 have e2 : ([.lf true (.str p.1), .nd .ls (p.2.map xT)] : List O)[1]? = sN (p.2.map xT) := rfl
 have e3 : (p.2.map xT)[k2.toNat]? = sN (r.map lfI) := by rw [zzG, hr]; rfl
 have e4 := zhL hk
 have e6 : (p.2.map xT).set k2.toNat (.nd .ls ((r.map lfI).set k3.toNat (.lf true (.int c)))) = (p.2.set k2.toNat (r.set k3.toNat c)).map xT := by
  rw [List.map_set]
  show _ = (p.2.map xT).set k2.toNat (.nd .ls ((r.set k3.toNat c).map lfI))
  rw [List.map_set]
 have e5 : (Ds.map yK).set k1.toNat (.nd .tp ([.lf true (.str p.1), .nd .ls (p.2.map xT)].set 1 (.nd .ls ((p.2.set k2.toNat (r.set k3.toNat c)).map xT)))) = (Ds.set k1.toNat (p.1, p.2.set k2.toNat (r.set k3.toNat c))).map yK := by
  symm; rw [List.map_set]; rfl
 unfold zkX
 simp only [h1, h2, h3, hv, Option.bind_some, if_pos (show 0 <= k1 /\ 0 <= k2 /\ 0 <= k3 /\ noS as y = true from ⟨p1, p2, p3, hy⟩), (VB hi rfl : slO ZZ as i = some (Ds.map yK)), (Yb e1 rfl : atO zfA _ _ = some [.lf true (.str p.1), .nd .ls (p.2.map xT)]), (Yb e2 rfl : atO ZZ _ _ = some (p.2.map xT)), (Yb e3 rfl : atO ZZ _ _ = some (r.map lfI)), (Yb e4 rfl : atO W4 _ _ = some (.int r[k3.toNat])), e6, e5]
theorem zqD {as : AS} {i : Nat} {os : List O} {b : EF} (h : as[i]? = some (sN os)) (hb : b as = some (.ow (.nd .ls []), as)) : WD (f2 (fV i) b (zW .NotEq)) as true (.bl (!os.isEmpty)) := by
 have hc : zW .NotEq (O.nd .ls os).toD (.lst []) = some (.im (.bl (!os.isEmpty))) := by
  cases os with
  | nil => rfl
  | cons o r => rfl
 have hv : RV.view as (RV.ow (O.nd .ls [])).frz = some (.lst [], some true) := rfl
 have hi : RV.view as (RV.bo i).frz = some ((O.nd .ls os).toD, (O.nd .ls os).kl) := zgC h
 have hw : wrap (meet (O.nd .ls os).kl (some true)) (.im (.bl (!os.isEmpty))) = some (.ow (.lf true (.bl (!os.isEmpty)))) := by
  simp [wrap, yt, lfs]
 unfold WD f2
 rw [zfl h]
 simp only [Option.bind_some, hb, hi, hv, hc, hw]
theorem neB {as : AS} {i : Nat} {os : List O} (h : as[i]? = some (sN os)) : WD (f2 (fV i) (xG dN) (zW .NotEq)) as true (.bl (!os.isEmpty)) := zqD h (vI yp (szl rfl))
theorem zdd {n i : Nat} {r : List Int} {c : Int} (hr : Row n r) (hc : InR n c) : Row n (r.set i c) := by
 refine ⟨by rw [zzS]; exact hr.1, λ x m => ?_⟩
 rcases List.mem_or_eq_of_mem_set m with m | rfl
 · exact hr.2 x m
 · exact hc
theorem zbq {k n i : Nat} {T : TT} {r : List Int} (hT : Tab k n T) (hr : Row n r) : Tab k n (T.set i r) := by
 refine ⟨by rw [zzS]; exact hT.1, λ x m => ?_⟩
 rcases List.mem_or_eq_of_mem_set m with m | rfl
 · exact hT.2 x m
 · exact hr
theorem set_same {α : Type} : ∀ {l : List α} {i : Nat} {a : α}, l[i]? = some a -> l.set i a = l
 | [], _, _, h => by simp at h
 | x :: l, 0, a, h => by
  simp at h
  rw [h]; rfl
 | x :: l, i + 1, a, h => congrArg (x :: ·) (set_same (l := l) (i := i) (by simpa using h))
abbrev B13 (n m : Nat) (a0 a1 a4 a6 a7 : Option O) (xs : List Int) (w : Int) (e : Int) (J : TT) (Ds : DD) : AS :=
 [a0, a1, sI n, sI m, a4, sI e, a6, a7, sT (zL xs), some (Z7 J), sN (Ds.map yK), sI w, none]
section
variable {n m : Nat} {a0 a1 a4 a6 a7 : Option O} {xs : List Int} {w e : Int} {J : TT} {Ds : DD}
theorem X3 (hl : xs.length = 8) (k : Nat) (hk : k < 8) : ∃ x, xs[k]? = some x /\ ixP (zL xs) (.int (k : Int)) = some (.im (.int x)) := by
 have g := zzC (l := xs) (i := k) (by trivial)
 exact ⟨_, g, zgA g⟩
theorem zpN (hl : xs.length = 8) (n1 : 1 <= n) (he : InR n e) : ∃ e', InR n e' /\ sIf (fT (f2 (fV 11) (fC (.int 0)) (zW .Eq))) (zR true 5 (f2 (f2 (fV 8) (fC (.int 1)) ixP) (fV 2) (zm .Mod))) sNx (B13 n m a0 a1 a4 a6 a7 xs w e J Ds) = some (.nx (B13 n m a0 a1 a4 a6 a7 xs w e' J Ds)) := by
 obtain ⟨x, _, hx⟩ := X3 hl 1 (by trivial)
 by_cases h : w = 0
 · exact ⟨x % n, Zh n1, vL (yh (xm (zb (i := 11) rfl) zc rfl) (by show some (w == 0) = _; simp [h])) (yR (i := 5) (yF (zM (zb (i := 8) rfl) zc hx rfl) (zb (i := 2) rfl) (by trivial)) (zG rfl))⟩
 · exact ⟨e, he, ym (yh (xm (zb (i := 11) rfl) zc rfl) (by show some (w == 0) = _; simp [h])) rfl⟩
theorem zqq (hl : xs.length = 8) (n1 : 1 <= n) (hJ : Tab n n J) : ∃ J', Tab n n J' /\ sIf (Wz (fT (f2 (fV 11) (fC (.int 1)) (zW .Eq))) (fT (f2 (fV 11) (fC (.int 2)) (zW .Eq)))) (zaO 9 (WX (xAt 8 (xC 2)) (xV 2)) (WX (xAt 8 (xC 3)) (xV 2)) (WX (xAt 8 (xC 4)) (xV 2))) sNx (B13 n m a0 a1 a4 a6 a7 xs w e J Ds) = some (.nx (B13 n m a0 a1 a4 a6 a7 xs w e J' Ds)) := by
 obtain ⟨x2, g2, _⟩ := X3 hl 2 (by trivial)
 obtain ⟨x3, g3, _⟩ := X3 hl 3 (by trivial)
 obtain ⟨x4, g4, _⟩ := X3 hl 4 (by trivial)
 have t1 : WT (fT (f2 (fV 11) (fC (.int 1)) (zW .Eq))) (B13 n m a0 a1 a4 a6 a7 xs w e J Ds) (w == 1) := yh (xm (zb (i := 11) rfl) zc rfl) rfl
 have t2 : WT (fT (f2 (fV 11) (fC (.int 2)) (zW .Eq))) (B13 n m a0 a1 a4 a6 a7 xs w e J Ds) (w == 2) := yh (xm (zb (i := 11) rfl) zc rfl) rfl
 have t : WT (Wz (fT (f2 (fV 11) (fC (.int 1)) (zW .Eq))) (fT (f2 (fV 11) (fC (.int 2)) (zW .Eq)))) (B13 n m a0 a1 a4 a6 a7 xs w e J Ds) (w == 1 || w == 2) := zfo t1 (λ h => by rw [h, Bool.false_or]; exact t2) (λ h => by rw [h]; rfl)
 cases hw : (w == 1 || w == 2) with
 | false => rw [hw] at t; exact ⟨J, hJ, ym t rfl⟩
 | true =>
  rw [hw] at t
  have m2 := Zh (x := x2) n1
  have m3 := Zh (x := x3) n1
  have m4 := Zh (x := x4) n1
  have hk : (x2 % (n : Int)).toNat < J.length := by rw [hJ.1]; trivial
  have hr := zzC hk
  have hR := hJ.2 _ (List.getElem_mem hk)
  generalize J[(x2 % (n : Int)).toNat] = r at hr hR
  have hn : (0 : Int) < n := by trivial
  exact ⟨_, zbq hJ (zdd hR m4), vL t (zfe (YC (Xv (i := 8) rfl (by decide) g2) (Yy (i := 2) rfl) hn) (YC (Xv (i := 8) rfl (by decide) g3) (Yy (i := 2) rfl) hn) (YC (Xv (i := 8) rfl (by decide) g4) (Yy (i := 2) rfl) hn) m2.1 m3.1 rfl hr (by rw [hR.1]; trivial))⟩
theorem zqu (hl : xs.length = 8) (n1 : 1 <= n) (m1 : 1 <= m) (hD : ∀ p ∈ Ds, Tab m n p.2) : ∃ Ds', Ds'.map (·.1) = Ds.map (·.1) /\ (∀ p ∈ Ds', Tab m n p.2) /\ sIf (YJ (fT (f2 (fV 11) (fC (.int 2)) (zW .Gt))) (fT (f2 (fV 10) (xG dN) (zW .NotEq)))) (zkX 12 10 (WX (xAt 8 (xC 5)) (zln 10)) 1 (WX (xAt 8 (xC 6)) (xV 3)) (WX (xAt 8 (xC 7)) (xV 2)) (WX (xAt 8 (xC 4)) (xV 2))) sNx (B13 n m a0 a1 a4 a6 a7 xs w e J Ds) = some (.nx (B13 n m a0 a1 a4 a6 a7 xs w e J Ds')) := by
 obtain ⟨x4, g4, _⟩ := X3 hl 4 (by trivial)
 obtain ⟨x5, g5, _⟩ := X3 hl 5 (by trivial)
 obtain ⟨x6, g6, _⟩ := X3 hl 6 (by trivial)
 obtain ⟨x7, g7, _⟩ := X3 hl 7 (by trivial)
 have t1 : WT (fT (f2 (fV 11) (fC (.int 2)) (zW .Gt))) (B13 n m a0 a1 a4 a6 a7 xs w e J Ds) (decide (2 < w)) := yh (Xp (zb (i := 11) rfl) zc) rfl
 have t2 : WT (fT (f2 (fV 10) (xG dN) (zW .NotEq))) (B13 n m a0 a1 a4 a6 a7 xs w e J Ds) (!(Ds.map yK).isEmpty) := yh (neB (i := 10) rfl) rfl
 have t : WT (YJ (fT (f2 (fV 11) (fC (.int 2)) (zW .Gt))) (fT (f2 (fV 10) (xG dN) (zW .NotEq)))) (B13 n m a0 a1 a4 a6 a7 xs w e J Ds) (decide (2 < w) && !(Ds.map yK).isEmpty) := XR t1 (λ h => by rw [h, Bool.true_and]; exact t2) (λ h => by rw [h]; rfl)
 cases hw : (decide (2 < w) && !(Ds.map yK).isEmpty) with
 | false => rw [hw] at t; exact ⟨Ds, rfl, hD, ym t rfl⟩
 | true =>
  rw [hw] at t
  have hne : 0 < Ds.length := by
   cases Ds with
   | nil => simp at hw
   | cons p r => exact Nat.zero_lt_succ _
  have hlen : ((Ds.map yK).length : Int) = Ds.length := by rw [zD]
  have m4 := Zh (x := x4) n1
  have m5 := Zh (x := x5) hne
  have m6 := Zh (x := x6) m1
  have m7 := Zh (x := x7) n1
  have hk : (x5 % (Ds.length : Int)).toNat < Ds.length := by trivial
  have hp := zzC hk
  have hP := hD _ (List.getElem_mem hk)
  generalize Ds[(x5 % (Ds.length : Int)).toNat] = p at hp hP
  have hk2 : (x6 % (m : Int)).toNat < p.2.length := by rw [hP.1]; trivial
  have hr := zzC hk2
  have hR := hP.2 _ (List.getElem_mem hk2)
  generalize p.2[(x6 % (m : Int)).toNat] = r at hr hR
  have hn : (0 : Int) < n := by trivial
  have hm : (0 : Int) < m := by trivial
  refine ⟨Ds.set (x5 % (Ds.length : Int)).toNat (p.1, p.2.set (x6 % (m : Int)).toNat (r.set (x7 % (n : Int)).toNat (x4 % n))), ?_, λ q mq => ?_, vL t (zkK (YC (Xv (i := 8) rfl (by decide) g5) (by rw [<- hlen]; exact zlb (i := 10) rfl) (by trivial)) (YC (Xv (i := 8) rfl (by decide) g6) (Yy (i := 3) rfl) hm) (YC (Xv (i := 8) rfl (by decide) g7) (Yy (i := 2) rfl) hn) (YC (Xv (i := 8) rfl (by decide) g4) (Yy (i := 2) rfl) hn) m5.1 m6.1 m7.1 rfl rfl hp hr (by rw [hR.1]; trivial))⟩
  · rw [List.map_set]
    exact set_same (by rw [zzG, hp]; rfl)
  · rcases List.mem_or_eq_of_mem_set mq with mq | rfl
    · exact hD q mq
    · exact zbq hP (zdd hR m4)
end
theorem zmT (T : TT) : (Z7 T).frz = .lf true (zK T) := by
 show O.lf (O.strs _) (.lst (O.toDs _)) = _
 rw [(YQ T).1, (YQ T).2]
theorem zjl (Ds : DD) : (O.nd .ls (Ds.map yK)).frz = .lf true (.lst (Ds.map xR)) := by
 show O.lf (O.strs _) (.lst (O.toDs _)) = _
 rw [(Zv Ds).1, (Zv Ds).2]
theorem zmq {n m : Nat} {J : TT} {e c : Int} {Ds : DD} {S : SS} (A : Alg n m J e Ds) : ∃ J' e' Ds', Alg n m J' e' Ds' /\ RE (Zn [(true, ye n m J e Ds S), (true, .int c)]) (ye n m J' e' Ds' S) := by
 have n8 := A.n8
 have m6 := A.m6
 have dl := A.dl
 obtain ⟨xs, xl, hx, ws⟩ := stE (as := [sT (ye n m J e Ds S), sI c, sI n, sI m, sT (zK J), sI e, sT (.lst (Ds.map xR)), sT (.lst (S.map xu)), none, none, none, none, none]) (a := fV 1) (b := fC (.int 8)) (c := c) (m := 8) (by trivial) (WD.e (zb rfl)) (WD.e zc)
 obtain ⟨x0, _, a0⟩ := X3 xl 0 (by trivial)
 obtain ⟨e', he, s1⟩ := zpN (m := m) (a0 := sT (ye n m J e Ds S)) (a1 := sI c) (a4 := sT (zK J)) (a6 := sT (.lst (Ds.map xR))) (a7 := sT (.lst (S.map xu))) (w := x0 % 6) (J := J) (Ds := Ds) xl A.n1 ⟨A.e0, A.en⟩
 obtain ⟨J', hJ, s2⟩ := zqq (m := m) (a0 := sT (ye n m J e Ds S)) (a1 := sI c) (a4 := sT (zK J)) (a6 := sT (.lst (Ds.map xR))) (a7 := sT (.lst (S.map xu))) (w := x0 % 6) (e := e') (Ds := Ds) xl A.n1 A.j
 obtain ⟨Ds', hn, hD, s3⟩ := zqu (a0 := sT (ye n m J e Ds S)) (a1 := sI c) (a4 := sT (zK J)) (a6 := sT (.lst (Ds.map xR))) (a7 := sT (.lst (S.map xu))) (w := x0 % 6) (e := e') (J := J') xl A.n1 A.m1 A.ds
 have hlen : Ds'.length = Ds.length := by rw [<- zD (f := λ p : Str × TT => p.1), hn, zD]
 refine ⟨J', e', Ds', ⟨A.n1, n8, A.m1, m6, hJ, he.1, he.2, by trivial, hD, by rw [hn]; exact A.nd⟩, ?_⟩
 have c9 := ww (i := 9) (zhO (T := J) (f := fV 4) (as := [sT (ye n m J e Ds S), sI c, sI n, sI m, sT (zK J), sI e, sT (.lst (Ds.map xR)), sT (.lst (S.map xu)), sT (zL xs), none, none, none, none]) (by rw [A.j.1]; trivial) (WD.e (zb rfl))) (zG rfl)
 have c10 := ww (i := 10) (VL (cap := [none, none]) (zfw (f := fV 6) (as := [sT (ye n m J e Ds S), sI c, sI n, sI m, sT (zK J), sI e, sT (.lst (Ds.map xR)), sT (.lst (S.map xu)), sT (zL xs), some (Z7 J), none, none, none]) (WD.e (zb rfl))) (by rw [zD, zD]; exact szs (by trivial)) (zdn Ds λ p mp => by rw [(A.ds p mp).1]; trivial)) (zG rfl)
 refine xO rfl (zB (as1 := [sT (ye n m J e Ds S), sI c, sI n, sI m, sT (zK J), sI e, sT (.lst (Ds.map xR)), sT (.lst (S.map xu)), none, none, none, none, none]) (zjM (WD.e (zb rfl)) rfl) (zB (Zw (p := 8) ws (zG rfl)) (zB c9 (zB c10 (zB (yR (i := 11) (yF (zM (zb rfl) zc a0 rfl) zc (by decide)) (zG rfl)) (zB s1 (zB s2 (zB s3 ?_))))))))
 have q := xX (as := B13 n m (sT (ye n m J e Ds S)) (sI c) (sT (zK J)) (sT (.lst (Ds.map xR))) (sT (.lst (S.map xu))) xs (x0 % 6) e' J' Ds') (a := fV 2) (zb rfl) (xX (a := fV 3) (zb rfl) (zdD (j := 9) (fr := dC (fV 5) (dC (fV 10) (dC (fV 7) dN))) rfl (xX (a := fV 5) (zb rfl) (zdD (j := 10) (fr := dC (fV 7) dN) rfl (xX (a := fV 7) (zb rfl) rfl)))))
 rw [zmT, zjl] at q
 exact ⟨_, VM (zdc q (szl rfl)) rfl, rfl, rfl⟩
theorem zgB {n : Nat} {J : TT} {w v : Int} (hJ : Tab n n J) (hw : InR n w) (hv : InR n v) : InR n (jAt J w v) := (rowAt (YG hJ hw).2 hv).2
theorem Xl {a b c : EF} {as : AS} {n : Nat} {J : TT} {w v : Int} (hJ : Tab n n J) (hw : InR n w) (hv : InR n v) (ha : WD a as true (zK J)) (hb : WD b as true (.int w)) (hc : WD c as true (.int v)) : WD (f2 (f2 a b ixP) c ixP) as true (.int (jAt J w v)) :=
 zM (xM ha hb (YG hJ hw).1) hc (rowAt (YG hJ hw).2 hv).1 rfl
theorem W3 {a b c : EF} {as : AS} {m n : Nat} {T : TT} {w v : Int} (hT : Tab m n T) (hw : InR m w) (hv : InR n v) (ha : WD a as true (zK T)) (hb : WD b as true (.int w)) (hc : WD c as true (.int v)) : WD (f2 (f2 a b ixP) c ixP) as true (.int (jAt T w v)) /\ InR n (jAt T w v) :=
 ⟨zM (xM ha hb (YG hT hw).1) hc (rowAt (YG hT hw).2 hv).1 rfl, (rowAt (YG hT hw).2 hv).2⟩
theorem Yd {v n : Nat} {g : GF} {f : SF} {as : AS} {s : Bool} (h : as[v]? = some (some (.lf s (.int n)))) (hn : n <= 1000) : wy (yE (aC (fV v) aN) yD) g f as = forL g f (wQ 0 n) as :=
 wR (xY (zJ (zb h) zO) (by trivial) (by trivial)) (by rw [Int.toNat_natCast])
theorem zhZ {a b : EF} {as : AS} {x y : Int} {s t : Bool} (ha : WD a as s (.int x)) (hb : WD b as t (.int y)) : WT (fT (f2 a b (zW .NotEq))) as (!(x == y)) := yh (znp (c := x == y) ha hb rfl) rfl
abbrev FT := Option (List D)
def oD : FT -> D
 | none => .non
 | some ds => .tup ds
def fs (n : Nat) (t : Int -> FT) : FT := (List.range n).findSome? λ i : Nat => t (i : Int)
abbrev R4 (r : Option Out) (I : AS -> Prop) (t : FT) : Prop := (t = none /\ ∃ as', r = some (.nx as') /\ I as') \/ ∃ ds, t = some ds /\ Rt r (.tup ds)
theorem zmr {g : GF} {f : SF} {d : It1} {r : List It1} {as as1 : AS} {x : D} (h1 : g d as = some as1) (h2 : Rt (f as1) x) : Rt (forL g f (d :: r) as) x := by
 obtain ⟨o, e1, e2⟩ := h2
 exact ⟨o, zlx h1 e1, e2⟩
theorem l_F {α : Type} {g : GF} {f : SF} {it : α -> It1} (I : AS -> Prop) (t : α -> FT) : ∀ (l : List α), (∀ x ∈ l, ∀ as, I as -> ∃ as1, g (it x) as = some as1 /\ R4 (f as1) I (t x)) -> ∀ as, I as -> R4 (forL g f (l.map it) as) I (l.findSome? t)
 | [], _, as, h => .inl ⟨rfl, as, rfl, h⟩
 | x :: l, H, as, h => by
  obtain ⟨as1, h1, h2⟩ := H x zzD as h
  rcases h2 with ⟨e, as2, h2, h3⟩ | ⟨ds, e, h2⟩
  · have k := l_F I t l (λ y my => H y (zzB _ my)) as2 h3
    rw [List.findSome?_cons, e]
    rcases k with ⟨e', as3, k1, k2⟩ | ⟨ds, e', o, k1, k2⟩
    · exact .inl ⟨e', as3, zcb h1 h2 k1, k2⟩
    · exact .inr ⟨ds, e', o, zcb h1 h2 k1, k2⟩
  · rw [List.findSome?_cons, e]
    exact .inr ⟨ds, rfl, zmr h1 h2⟩
theorem VV {v n : Nat} {f : SF} (I : AS -> Prop) (t : Int -> FT) (H : ∀ b, InR n b -> ∀ as, I as -> ∃ as1, gN v (true, .int b) as = some as1 /\ R4 (f as1) I (t b)) {as : AS} (h : I as) : R4 (forL (gN v) f (wQ 0 n) as) I (fs n t) := by
 refine l_F (it := λ i : Nat => (true, D.int (0 + (i : Int)))) I (λ i : Nat => t (i : Int)) (List.range n) (λ i mi as hI => ?_) as h
 have := List.mem_range.mp mi
 rw [Int.zero_add]
 exact H i ⟨by omega, by omega⟩ as hI
theorem zlg {c : TF} {f : EF} {as : AS} {q : Bool} {ds : List D} {I : AS -> Prop} (ht : WT c as q) (hf : WE f as (.tup ds)) (hI : I as) : R4 (sIf c (yL f) sNx as) I (if q = true then some ds else none) := by
 cases q with
 | true => exact .inr ⟨ds, rfl, Yx ht (xJ hf)⟩
 | false => exact .inl ⟨rfl, as, ym ht rfl, hI⟩
theorem R4.seq {f g : SF} {as as1 : AS} {I : AS -> Prop} {t : FT} (h : f as = some (.nx as1)) (k : R4 (g as1) I t) : R4 (zF f g as) I t := by
 rcases k with ⟨e, a, b, c⟩ | ⟨ds, e, b⟩
 · exact .inl ⟨e, a, yx h b, c⟩
 · exact .inr ⟨ds, e, zB h b⟩
theorem R4.imp {r : Option Out} {I I' : AS -> Prop} {t : FT} (h : R4 r I t) (k : ∀ as, I as -> I' as) : R4 r I' t := Or.imp (λ ⟨e, a, b, c⟩ => ⟨e, a, b, k a c⟩) id h
theorem R4.rt {f g : SF} {as : AS} {I : AS -> Prop} {t t' : FT} (h : R4 (f as) I t) (k : ∀ as', I as' -> Rt (g as') (oD t')) : Rt (zF f g as) (oD (t.or t')) := by
 rcases h with ⟨rfl, as', h1, h2⟩ | ⟨ds, rfl, h1⟩
 · exact zB h1 (k as' h2)
 · exact Zk h1
theorem or_none {t : FT} : t.or none = t := by cases t <;> rfl
theorem zdQ {n : Nat} {t t' : Int -> FT} (h : ∀ b, InR n b -> t b = t' b) : fs n t = fs n t' := by
 unfold fs
 have : ∀ l : List Nat, (∀ i ∈ l, i < n) -> l.findSome? (λ i : Nat => t (i : Int)) = l.findSome? λ i : Nat => t' (i : Int) := λ l => by
  induction l with
  | nil => exact λ _ => rfl
  | cons i l ih =>
   intro hl
   have := hl i zzD
   rw [List.findSome?_cons, List.findSome?_cons, h i ⟨by omega, by omega⟩, ih λ j mj => hl j (zzB _ mj)]
 exact this _ λ i mi => List.mem_range.mp mi
theorem zid {m : Nat} (m1 : 1 <= m) (t : Int -> Int -> FT) : ∀ n : Nat, fs (n * m) (λ p => t (p / m) (p % m)) = fs n λ a => fs m λ i => t a i
 | 0 => by rw [Nat.zero_mul]; unfold fs; rfl
 | n + 1 => by
  have ih := zid m1 t n
  unfold fs at ih ⊢
  rw [Nat.succ_mul, List.range_add, List.findSome?_append, ih, List.range_succ, List.findSome?_append]
  congr 1
  rw [List.findSome?_map]
  have e : ∀ l : List Nat, (∀ j ∈ l, j < m) -> l.findSome? ((λ p : Nat => t ((p : Int) / m) ((p : Int) % m)) ∘ λ x => n * m + x) = l.findSome? λ i : Nat => t (n : Int) (i : Int) := λ l => by
   induction l with
   | nil => exact λ _ => rfl
   | cons j l ih =>
    intro hl
    have hj := hl j zzD
    have e1 : (((n * m + j : Nat) : Int)) / m = n := by
     rw [<- Int.natCast_ediv, Nat.mul_comm, Nat.mul_add_div (by omega), Nat.div_eq_of_lt hj, Nat.add_zero]
    have e2 : (((n * m + j : Nat) : Int)) % m = j := by
     rw [<- Int.natCast_emod, Nat.mul_comm, Nat.mul_add_mod, Nat.mod_eq_of_lt hj]
    rw [List.findSome?_cons, List.findSome?_cons, ih λ i mi => hl i (zzB _ mi)]
    have e3 : ((λ p : Nat => t ((p : Int) / m) ((p : Int) % m)) ∘ λ x => n * m + x) j = t (n : Int) (j : Int) := by
     show t (((n * m + j : Nat) : Int) / m) (((n * m + j : Nat) : Int) % m) = _
     rw [e1, e2]
    rw [e3]
  rw [e _ λ j mj => List.mem_range.mp mj]
  simp only [List.findSome?_cons, List.findSome?_nil]
  cases (List.range m).findSome? λ i : Nat => t (n : Int) (i : Int) <;> rfl
theorem YK {n : Nat} {t : Int -> FT} {ds : List D} (h : fs n t = some ds) : ∃ b, t b = some ds := by
 obtain ⟨i, _, hi⟩ := List.exists_of_findSome?_eq_some h
 exact ⟨i, hi⟩
section
variable {S : Option O -> Option O -> Option O -> AS} {vj vn ve : Nat} {J T : TT} {n m : Nat} {e : Int} {Ds : DD} {SS' : SS}
def tU (n : Nat) (J : TT) (e : Int) : FT := fs n λ a => if (!(jAt J e a == a) || !(jAt J a e == a)) = true then some [.str "nothing", .int a] else none
def tA (n : Nat) (J : TT) : FT := fs n λ a => fs n λ b => fs n λ c => if (!(jAt J (jAt J a b) c == jAt J a (jAt J b c))) = true then some [.str "parting", .int a, .int b, .int c] else none
def tD (n m : Nat) (J T : TT) (s : Str) : FT := fs n λ a => fs m λ i => fs n λ b => fs m λ k => if (!(jAt T ((i + k) % m) (jAt J a b) == jAt J (jAt T i a) (jAt T k b))) = true then some [.str "doing", .str s, .int a, .int i, .int b, .int k] else none
theorem zkA {x y z : Option O} (hJ : Tab n n J) (he : InR n e) (hj : ∀ x y z, (S x y z)[vj]? = some (sT (zK J))) (hv : ∀ x y z, (S x y z)[ve]? = some (sI e)) (h3 : ∀ x y z, (S x y z)[3]? = some x) (g3 : ∀ d x y z, gN 3 (true, d) (S x y z) = some (S (sT d) y z)) :
 R4 (forL (gN 3) (sIf (Wz (fT (f2 (f2 (f2 (fV vj) (fV ve) ixP) (fV 3) ixP) (fV 3) (zW .NotEq))) (fT (f2 (f2 (f2 (fV vj) (fV 3) ixP) (fV ve) ixP) (fV 3) (zW .NotEq)))) (yL (yZ (dC (fC (.str "nothing")) (dC (fV 3) dN)))) sNx) (wQ 0 n) (S x y z)) (λ as => ∃ x, as = S x y z) (tU n J e) := by
 refine VV (λ as => ∃ x, as = S x y z) _ (λ a ha as hI => ?_) ⟨x, rfl⟩
 obtain ⟨x, rfl⟩ := hI
 have w3 : WD (fV 3) (S (sI a) y z) true (.int a) := zb (h3 _ _ _)
 have t1 := zhZ (Xl hJ he ha (zb (hj (sI a) y z)) (zb (hv (sI a) y z)) w3) w3
 have t2 := zhZ (Xl hJ ha he (zb (hj (sI a) y z)) w3 (zb (hv (sI a) y z))) w3
 exact ⟨S (sI a) y z, g3 _ _ _ _, zlg (q := !(jAt J e a == a) || !(jAt J a e == a)) (zfo t1 (λ h => by rw [h, Bool.false_or]; exact t2) (λ h => by rw [h]; rfl)) (zgc (os := [.lf true (.str "nothing"), lfI a]) (zq zc (zq w3 yp)) (szl rfl) rfl rfl) ⟨_, rfl⟩⟩
abbrev zrf (vj : Nat) : SF := sIf (fT (f2 (f2 (f2 (fV vj) (f2 (f2 (fV vj) (fV 3) ixP) (fV 4) ixP) ixP) (fV 5) ixP) (f2 (f2 (fV vj) (fV 3) ixP) (f2 (f2 (fV vj) (fV 4) ixP) (fV 5) ixP) ixP) (zW .NotEq))) (yL (yZ (dC (fC (.str "parting")) (dC (fV 3) (dC (fV 4) (dC (fV 5) dN)))))) sNx
abbrev asB (vj vn : Nat) : SF := wy (yE (aC (fV vn) aN) yD) (gN 4) (wy (yE (aC (fV vn) aN) yD) (gN 5) (zrf vj))
theorem yQ {x y z : Option O} (n8 : n <= 8) (hJ : Tab n n J) (hj : ∀ x y z, (S x y z)[vj]? = some (sT (zK J))) (hn : ∀ x y z, (S x y z)[vn]? = some (sI n)) (h3 : ∀ x y z, (S x y z)[3]? = some x) (h4 : ∀ x y z, (S x y z)[4]? = some y) (h5 : ∀ x y z, (S x y z)[5]? = some z)
 (g3 : ∀ d x y z, gN 3 (true, d) (S x y z) = some (S (sT d) y z)) (g4 : ∀ d x y z, gN 4 (true, d) (S x y z) = some (S x (sT d) z)) (g5 : ∀ d x y z, gN 5 (true, d) (S x y z) = some (S x y (sT d))) :
 R4 (forL (gN 3) (asB vj vn) (wQ 0 n) (S x y z)) (λ as => ∃ x y z, as = S x y z) (tA n J) := by
 refine VV (λ as => ∃ x y z, as = S x y z) _ (λ a ha as hI => ?_) ⟨x, y, z, rfl⟩
 obtain ⟨x, y, z, rfl⟩ := hI
 refine ⟨_, g3 _ _ _ _, ?_⟩
 unfold asB
 rw [Yd (hn _ _ _) (by trivial)]
 refine (VV (v := 4) (n := n) (λ as => ∃ y z, as = S (sI a) y z) _ (λ b hb as hI => ?_) ⟨y, z, rfl⟩).imp λ as ⟨y, z, e⟩ => ⟨_, y, z, e⟩
 obtain ⟨y, z, rfl⟩ := hI
 refine ⟨_, g4 _ _ _ _, ?_⟩
 rw [Yd (hn _ _ _) (by trivial)]
 refine (VV (v := 5) (n := n) (λ as => ∃ z, as = S (sI a) (sI b) z) _ (λ c hc as hI => ?_) ⟨z, rfl⟩).imp λ as ⟨z, e⟩ => ⟨_, z, e⟩
 obtain ⟨z, rfl⟩ := hI
 have w3 : WD (fV 3) (S (sI a) (sI b) (sI c)) true (.int a) := zb (h3 _ _ _)
 have w4 : WD (fV 4) (S (sI a) (sI b) (sI c)) true (.int b) := zb (h4 _ _ _)
 have w5 : WD (fV 5) (S (sI a) (sI b) (sI c)) true (.int c) := zb (h5 _ _ _)
 have wj : WD (fV vj) (S (sI a) (sI b) (sI c)) true (zK J) := zb (hj _ _ _)
 have ab := zgB hJ ha hb
 have bc := zgB hJ hb hc
 exact ⟨_, g5 _ _ _ _, zlg (zhZ (Xl hJ ab hc wj (Xl hJ ha hb wj w3 w4) w5) (Xl hJ ha bc wj w3 (Xl hJ hb hc wj w4 w5))) (zgc (os := [.lf true (.str "parting"), lfI a, lfI b, lfI c]) (zq zc (zq w3 (zq w4 (zq w5 yp)))) (szl rfl) rfl rfl) ⟨_, rfl⟩⟩
end
section
variable {n m : Nat} {J T : TT} {e : Int} {Ds : DD} {S : SS}
theorem zdq (n8 : n <= 8) (hJ : Tab n n J) (he : InR n e) : RE (vM [(true, .int n), (true, zK J), (true, .int e)]) (oD ((tU n J e).or (tA n J))) := by
 have k1 := zkA (S := λ x y z => [sI n, sT (zK J), sI e, x, y, z]) (x := none) (y := none) (z := none) (vj := 1) (ve := 2) hJ he (λ _ _ _ => rfl) (λ _ _ _ => rfl) (λ _ _ _ => rfl) (λ _ _ _ _ => rfl)
 rw [<- Yd (v := 0) (n := n) (as := [sI n, sT (zK J), sI e, none, none, none]) rfl (by trivial)] at k1
 refine xO rfl (k1.rt λ as' hI => ?_)
 obtain ⟨x, rfl⟩ := hI
 have k2 := yQ (S := λ x y z => [sI n, sT (zK J), sI e, x, y, z]) (x := x) (y := none) (z := none) (vj := 1) (vn := 0) n8 hJ (λ _ _ _ => rfl) (λ _ _ _ => rfl) (λ _ _ _ => rfl) (λ _ _ _ => rfl) (λ _ _ _ => rfl) (λ _ _ _ _ => rfl) (λ _ _ _ _ => rfl) (λ _ _ _ _ => rfl)
 rw [<- Yd (v := 0) (n := n) (g := gN 3) (f := asB 1 0) (as := [sI n, sT (zK J), sI e, x, none, none]) rfl (by trivial)] at k2
 rw [<- or_none (t := tA n J)]
 exact k2.rt λ _ _ => xJ (WD.e zc)
theorem zhG (n8 : n <= 8) (hJ : Tab n n J) (he : InR n e) : RE (vg [(true, ye n m J e Ds S)]) (oD (tU n J e)) := by
 have s1 : zR true 1 (f2 (fV 0) (fC (.int 2)) ixP) [sT (ye n m J e Ds S), none, none, none] = some (.nx [sT (ye n m J e Ds S), sT (zK J), none, none]) := yR (i := 1) (xM (zb (i := 0) rfl) zc rfl) (zG rfl)
 have s2 : zR true 2 (f2 (fV 0) (fC (.int 3)) ixP) [sT (ye n m J e Ds S), sT (zK J), none, none] = some (.nx [sT (ye n m J e Ds S), sT (zK J), sI e, none]) := yR (i := 2) (xM (zb (i := 0) rfl) zc rfl) (zG rfl)
 have k := zkA (S := λ x _ _ => [sT (ye n m J e Ds S), sT (zK J), sI e, x]) (x := none) (y := none) (z := none) (vj := 1) (ve := 2) hJ he (λ _ _ _ => rfl) (λ _ _ _ => rfl) (λ _ _ _ => rfl) (λ _ _ _ _ => rfl)
 have hr := xY (as := [sT (ye n m J e Ds S), sT (zK J), sI e, none]) (zJ (xM (a := fV 0) (b := fC (.int 0)) (g := ixP) (z := .int n) (zb (i := 0) rfl) (zc (x := .int 0)) rfl) zO) (by trivial) (by trivial)
 rw [Int.toNat_natCast] at hr
 refine xO rfl (zB s1 (zB s2 ?_))
 rw [<- or_none (t := tU n J e)]
 refine R4.rt (I := λ as => ∃ x, as = [sT (ye n m J e Ds S), sT (zK J), sI e, x]) ?_ λ _ _ => xJ (WD.e zc)
 rw [wR hr rfl]; exact k
theorem zhM (n8 : n <= 8) (hJ : Tab n n J) : RE (wZ [(true, ye n m J e Ds S)]) (oD (tA n J)) := by
 have s1 : zR true 1 (f2 (fV 0) (fC (.int 0)) ixP) [sT (ye n m J e Ds S), none, none, none, none, none] = some (.nx [sT (ye n m J e Ds S), sI n, none, none, none, none]) := yR (i := 1) (xM (zb (i := 0) rfl) zc rfl) (zG rfl)
 have s2 : zR true 2 (f2 (fV 0) (fC (.int 2)) ixP) [sT (ye n m J e Ds S), sI n, none, none, none, none] = some (.nx [sT (ye n m J e Ds S), sI n, sT (zK J), none, none, none]) := yR (i := 2) (xM (zb (i := 0) rfl) zc rfl) (zG rfl)
 have k := yQ (S := λ x y z => [sT (ye n m J e Ds S), sI n, sT (zK J), x, y, z]) (x := none) (y := none) (z := none) (vj := 2) (vn := 1) n8 hJ (λ _ _ _ => rfl) (λ _ _ _ => rfl) (λ _ _ _ => rfl) (λ _ _ _ => rfl) (λ _ _ _ => rfl) (λ _ _ _ _ => rfl) (λ _ _ _ _ => rfl) (λ _ _ _ _ => rfl)
 rw [<- Yd (v := 1) (n := n) (g := gN 3) (f := asB 2 1) (as := [sT (ye n m J e Ds S), sI n, sT (zK J), none, none, none]) rfl (by trivial)] at k
 refine xO rfl (zB s1 (zB s2 ?_))
 rw [<- or_none (t := tA n J)]
 exact k.rt λ _ _ => xJ (WD.e zc)
end
section
variable {n m : Nat} {J T : TT} {e : Int} {Ds : DD} {S : SS}
abbrev dfI : SF := (sIf (fT (f2 (f2 (f2 (fV 2) (f2 (f2 (fV 7) (fV 9) (zm .Add)) (fV 4) (zm .Mod)) ixP) (f2 (f2 (fV 5) (fV 6) ixP) (fV 8) ixP) ixP) (f2 (f2 (fV 5) (f2 (f2 (fV 2) (fV 7) ixP) (fV 6) ixP) ixP) (f2 (f2 (fV 2) (fV 9) ixP) (fV 8) ixP) ixP) (zW .NotEq))) (yL (yZ (dC (fC (.str "doing")) (dC (fV 1) (dC (fV 6) (dC (fV 7) (dC (fV 8) (dC (fV 9) dN)))))))) sNx)
abbrev D10 (n m : Nat) (J T : TT) (e : Int) (Ds : DD) (S : SS) (s : Str) (x y z w : Option O) : AS := [sT (ye n m J e Ds S), sT (.str s), sT (zK T), sI n, sI m, sT (zK J), x, y, z, w]
theorem df4 {s : Str} {a i b k : Int} (hJ : Tab n n J) (hT : Tab m n T) (m1 : 1 <= m) (ha : InR n a) (hi : InR m i) (hb : InR n b) (hk : InR m k) : R4 (dfI (D10 n m J T e Ds S s (sI a) (sI i) (sI b) (sI k))) (λ as => ∃ w, as = D10 n m J T e Ds S s (sI a) (sI i) (sI b) w) (if (!(jAt T ((i + k) % m) (jAt J a b) == jAt J (jAt T i a) (jAt T k b))) = true then some [.str "doing", .str s, .int a, .int i, .int b, .int k] else none) := by
 have w2 : WD (fV 2) (D10 n m J T e Ds S s (sI a) (sI i) (sI b) (sI k)) true (zK T) := zb rfl
 have w5 : WD (fV 5) (D10 n m J T e Ds S s (sI a) (sI i) (sI b) (sI k)) true (zK J) := zb rfl
 have w6 : WD (fV 6) (D10 n m J T e Ds S s (sI a) (sI i) (sI b) (sI k)) true (.int a) := zb rfl
 have w7 : WD (fV 7) (D10 n m J T e Ds S s (sI a) (sI i) (sI b) (sI k)) true (.int i) := zb rfl
 have w8 : WD (fV 8) (D10 n m J T e Ds S s (sI a) (sI i) (sI b) (sI k)) true (.int b) := zb rfl
 have w9 : WD (fV 9) (D10 n m J T e Ds S s (sI a) (sI i) (sI b) (sI k)) true (.int k) := zb rfl
 obtain ⟨q1, q2⟩ := W3 hT hi ha w2 w7 w6
 obtain ⟨q3, q4⟩ := W3 hT hk hb w2 w9 w8
 obtain ⟨q5, q6⟩ := W3 hT (w := (i + k) % m) (zis m1) (zgB hJ ha hb) w2 (yF (xq w7 w9) (zb (i := 4) (x := .int m) (s := true) rfl) (by trivial)) (Xl hJ ha hb w5 w6 w8)
 exact zlg (zhZ q5 (Xl hJ q2 q4 w5 q1 q3)) (zgc (os := [.lf true (.str "doing"), .lf true (.str s), lfI a, lfI i, lfI b, lfI k]) (zq zc (zq (zb (i := 1) rfl) (zq w6 (zq w7 (zq w8 (zq w9 yp)))))) (szl rfl) rfl rfl) ⟨_, rfl⟩
theorem zkw {s : Str} (n8 : n <= 8) (m1 : 1 <= m) (m6 : m <= 6) (hJ : Tab n n J) (hT : Tab m n T) : RE (vh [(true, ye n m J e Ds S), (true, .str s), (true, zK T)]) (oD (tD n m J T s)) := by
 have k : R4 (forL (gN 6) (wy (yE (aC (fV 4) aN) yD) (gN 7) (wy (yE (aC (fV 3) aN) yD) (gN 8) (wy (yE (aC (fV 4) aN) yD) (gN 9) dfI))) (wQ 0 n) (D10 n m J T e Ds S s none none none none)) (λ as => ∃ x y z w, as = D10 n m J T e Ds S s x y z w) (tD n m J T s) := by
  refine VV (λ as => ∃ x y z w, as = D10 n m J T e Ds S s x y z w) _ (λ a ha as hI => ?_) ⟨_, _, _, _, rfl⟩
  obtain ⟨x, y, z, w, rfl⟩ := hI
  refine ⟨D10 n m J T e Ds S s (sI a) y z w, rfl, ?_⟩
  rw [Yd (v := 4) (n := m) rfl (by trivial)]
  refine (VV (v := 7) (n := m) (λ as => ∃ y z w, as = D10 n m J T e Ds S s (sI a) y z w) _ (λ i hi as hI => ?_) ⟨_, _, _, rfl⟩).imp λ as ⟨y, z, w, e⟩ => ⟨_, y, z, w, e⟩
  obtain ⟨y, z, w, rfl⟩ := hI
  refine ⟨D10 n m J T e Ds S s (sI a) (sI i) z w, rfl, ?_⟩
  rw [Yd (v := 3) (n := n) rfl (by trivial)]
  refine (VV (v := 8) (n := n) (λ as => ∃ z w, as = D10 n m J T e Ds S s (sI a) (sI i) z w) _ (λ b hb as hI => ?_) ⟨_, _, rfl⟩).imp λ as ⟨z, w, e⟩ => ⟨_, z, w, e⟩
  obtain ⟨z, w, rfl⟩ := hI
  refine ⟨D10 n m J T e Ds S s (sI a) (sI i) (sI b) w, rfl, ?_⟩
  rw [Yd (v := 4) (n := m) rfl (by trivial)]
  refine (VV (v := 9) (n := m) (λ as => ∃ w, as = D10 n m J T e Ds S s (sI a) (sI i) (sI b) w) _ (λ k hk as hI => ?_) ⟨_, rfl⟩).imp λ as ⟨w, e⟩ => ⟨_, w, e⟩
  obtain ⟨w, rfl⟩ := hI
  exact ⟨_, rfl, df4 hJ hT m1 ha hi hb hk⟩
 rw [<- Yd (v := 3) (n := n) (as := D10 n m J T e Ds S s none none none none) rfl (by trivial)] at k
 have s3 : zR true 3 (f2 (fV 0) (fC (.int 0)) ixP) [sT (ye n m J e Ds S), sT (.str s), sT (zK T), none, none, none, none, none, none, none] = some (.nx [sT (ye n m J e Ds S), sT (.str s), sT (zK T), sI n, none, none, none, none, none, none]) := yR (i := 3) (xM (zb (i := 0) rfl) zc rfl) (zG rfl)
 have s4 : zR true 4 (f2 (fV 0) (fC (.int 1)) ixP) [sT (ye n m J e Ds S), sT (.str s), sT (zK T), sI n, none, none, none, none, none, none] = some (.nx [sT (ye n m J e Ds S), sT (.str s), sT (zK T), sI n, sI m, none, none, none, none, none]) := yR (i := 4) (xM (zb (i := 0) rfl) zc rfl) (zG rfl)
 have s5 : zR true 5 (f2 (fV 0) (fC (.int 2)) ixP) [sT (ye n m J e Ds S), sT (.str s), sT (zK T), sI n, sI m, none, none, none, none, none] = some (.nx (D10 n m J T e Ds S s none none none none)) := yR (i := 5) (xM (zb (i := 0) rfl) zc rfl) (zG rfl)
 refine xO rfl (zB s3 (zB s4 (zB s5 ?_)))
 rw [<- or_none (t := tD n m J T s)]
 exact k.rt λ _ _ => xJ (WD.e zc)
abbrev W12 (n m : Nat) (J T : TT) (s : Str) (p q a i b k v : Option O) : AS := [sI n, sI m, sT (zK J), sT (.str s), sT (zK T), p, q, a, i, b, k, v]
abbrev ldI : SF := (zF (zcJ (fP (aC (fV 5) (aC (fV 1) aN)) zhD) (gT 2 (gsC (gN 7) (gsC (gN 8) gsN))))
 (zF (zcJ (fP (aC (fV 6) (aC (fV 1) aN)) zhD) (gT 2 (gsC (gN 9) (gsC (gN 10) gsN))))
 (zF (zR true 11 (f2 (f2 (fV 2) (f2 (f2 (fV 4) (fV 8) ixP) (fV 7) ixP) ixP) (f2 (f2 (fV 4) (fV 10) ixP) (fV 9) ixP) ixP))
 (sIf (fT (f2 (f2 (f2 (fV 4) (f2 (f2 (fV 8) (fV 10) (zm .Add)) (fV 1) (zm .Mod)) ixP) (f2 (f2 (fV 2) (fV 7) ixP) (fV 9) ixP) ixP) (fV 11) (zW .NotEq))) (yL (yZ (dC (fC (.str "doing")) (dC (fV 3) (dC (fV 7) (dC (fV 8) (dC (fV 9) (dC (fV 10) dN)))))))) sNx))))
theorem zqs {a b : EF} {as : AS} {x y : Int} (ha : WD a as true (.int x)) (hb : WD b as true (.int y)) (h0 : 0 < y) (h1 : y < 1000) : WD (fP (aC a (aC b aN)) zhD) as true (.tup [.int (x / y), .int (x % y)]) :=
 zli (zJ ha (zJ hb zO)) (by show (if 0 < y /\ y < 1073741824 then _ else _) = _; rw [if_pos ⟨h0, by trivial⟩]) rfl
theorem zpI {s : Str} {p q : Int} {a i b k v : Option O} (hJ : Tab n n J) (hT : Tab m n T) (m1 : 1 <= m) (m6 : m <= 6) (hp : InR (n * m) p) (hq : InR (n * m) q) : R4 (ldI (W12 n m J T s (sI p) (sI q) a i b k v)) (λ as => ∃ y a i b k v, as = W12 n m J T s (sI p) y a i b k v) (if (!(jAt T ((p % m + q % m) % m) (jAt J (p / m) (q / m)) == jAt J (jAt T (p % m) (p / m)) (jAt T (q % m) (q / m)))) = true then some [.str "doing", .str s, .int (p / m), .int (p % m), .int (q / m), .int (q % m)] else none) := by
 obtain ⟨ha, hi⟩ := yH m1 hp
 obtain ⟨hb, hk⟩ := yH m1 hq
 refine R4.seq (as1 := W12 n m J T s (sI p) (sI q) (sI (p / m)) (sI (p % m)) b k v) (zjM (WD.e (zqs (zb (i := 5) rfl) (zb (i := 1) rfl) (by trivial) (by trivial))) rfl) ?_
 refine R4.seq (as1 := W12 n m J T s (sI p) (sI q) (sI (p / m)) (sI (p % m)) (sI (q / m)) (sI (q % m)) v) (zjM (WD.e (zqs (zb (i := 6) rfl) (zb (i := 1) rfl) (by trivial) (by trivial))) rfl) ?_
 generalize p / (m : Int) = a' at *
 generalize p % (m : Int) = i' at *
 generalize q / (m : Int) = b' at *
 generalize q % (m : Int) = k' at *
 obtain ⟨q1, q2⟩ := W3 (as := W12 n m J T s (sI p) (sI q) (sI a') (sI i') (sI b') (sI k') v) hT hi ha (zb (i := 4) rfl) (zb (i := 8) rfl) (zb (i := 7) rfl)
 obtain ⟨q3, q4⟩ := W3 (as := W12 n m J T s (sI p) (sI q) (sI a') (sI i') (sI b') (sI k') v) hT hk hb (zb (i := 4) rfl) (zb (i := 10) rfl) (zb (i := 9) rfl)
 refine R4.seq (as1 := W12 n m J T s (sI p) (sI q) (sI a') (sI i') (sI b') (sI k') (sI (jAt J (jAt T i' a') (jAt T k' b')))) (yR (i := 11) (Xl hJ q2 q4 (zb (i := 2) rfl) q1 q3) (zG rfl)) ?_
 obtain ⟨q5, _⟩ := W3 (as := W12 n m J T s (sI p) (sI q) (sI a') (sI i') (sI b') (sI k') (sI (jAt J (jAt T i' a') (jAt T k' b')))) hT (w := (i' + k') % m) (zis m1) (zgB hJ ha hb) (zb (i := 4) rfl) (yF (xq (zb (i := 8) rfl) (zb (i := 10) rfl)) (zb (i := 1) (x := .int m) (s := true) rfl) (by trivial)) (Xl hJ ha hb (zb (i := 2) rfl) (zb (i := 7) rfl) (zb (i := 9) rfl))
 exact zlg (zhZ q5 (zb (i := 11) (s := true) rfl)) (zgc (os := [.lf true (.str "doing"), .lf true (.str s), lfI a', lfI i', lfI b', lfI k']) (zq zc (zq (zb (i := 3) rfl) (zq (zb (i := 7) rfl) (zq (zb (i := 8) rfl) (zq (zb (i := 9) rfl) (zq (zb (i := 10) rfl) yp)))))) (szl rfl) rfl rfl) ⟨_, _, _, _, _, _, rfl⟩
theorem zgI {g : GF} {f : SF} {as : AS} (h0 : as[0]? = some (sI n)) (h1 : as[1]? = some (sI m)) (n8 : n <= 8) (m6 : m <= 6) : wy (yE (aC (f2 (fV 0) (fV 1) (zm .Mult)) aN) yD) g f as = forL g f (wQ 0 (n * m)) as := by
 have nm : n * m <= 48 := Nat.mul_le_mul n8 m6
 have w := wC (zb h0) (zb h1) (zY (by trivial) (by trivial)) (zY (by trivial) (by trivial))
 rw [<- zzT] at w
 exact wR (xY (zJ w zO) (by trivial) (by trivial)) (by rw [Int.toNat_natCast])
theorem zfK {s : Str} (n8 : n <= 8) (m1 : 1 <= m) (m6 : m <= 6) (hJ : Tab n n J) (hT : Tab m n T) : RE (v8 [(true, .int n), (true, .int m), (true, zK J), (true, .str s), (true, zK T)]) (oD (tD n m J T s)) := by
 have k : R4 (forL (gN 5) (wy (yE (aC (f2 (fV 0) (fV 1) (zm .Mult)) aN) yD) (gN 6) ldI) (wQ 0 (n * m)) (W12 n m J T s none none none none none none none)) (λ as => ∃ x y a i b k v, as = W12 n m J T s x y a i b k v) (fs (n * m) λ p => fs (n * m) λ q => if (!(jAt T ((p % m + q % m) % m) (jAt J (p / m) (q / m)) == jAt J (jAt T (p % m) (p / m)) (jAt T (q % m) (q / m)))) = true then some [.str "doing", .str s, .int (p / m), .int (p % m), .int (q / m), .int (q % m)] else none) := by
  refine VV (λ as => ∃ x y a i b k v, as = W12 n m J T s x y a i b k v) _ (λ p hp as hI => ?_) ⟨_, _, _, _, _, _, _, rfl⟩
  obtain ⟨x, y, a, i, b, k, v, rfl⟩ := hI
  refine ⟨W12 n m J T s (sI p) y a i b k v, rfl, ?_⟩
  rw [zgI (n := n) (m := m) rfl rfl n8 m6]
  refine (VV (v := 6) (n := n * m) (λ as => ∃ y a i b k v, as = W12 n m J T s (sI p) y a i b k v) _ (λ q hq as hI => ?_) ⟨_, _, _, _, _, _, rfl⟩).imp λ as ⟨y, a, i, b, k, v, e⟩ => ⟨_, y, a, i, b, k, v, e⟩
  obtain ⟨y, a, i, b, k, v, rfl⟩ := hI
  exact ⟨W12 n m J T s (sI p) (sI q) a i b k v, rfl, zpI hJ hT m1 m6 hp hq⟩
 have e1 := zid m1 (λ a i => fs (n * m) λ q => if (!(jAt T ((i + q % m) % m) (jAt J a (q / m)) == jAt J (jAt T i a) (jAt T (q % m) (q / m)))) = true then some [.str "doing", .str s, .int a, .int i, .int (q / m), .int (q % m)] else none) n
 rw [e1] at k
 have e2 : (fs n λ a => fs m λ i => fs (n * m) λ q => if (!(jAt T ((i + q % m) % m) (jAt J a (q / m)) == jAt J (jAt T i a) (jAt T (q % m) (q / m)))) = true then some [.str "doing", .str s, .int a, .int i, .int (q / m), .int (q % m)] else none) = tD n m J T s := by
  unfold tD
  refine zdQ λ a _ => zdQ λ i _ => ?_
  exact zid m1 (λ b k => if (!(jAt T ((i + k) % m) (jAt J a b) == jAt J (jAt T i a) (jAt T k b))) = true then some [.str "doing", .str s, .int a, .int i, .int b, .int k] else none) n
 rw [e2] at k
 rw [<- zgI (n := n) (m := m) (as := W12 n m J T s none none none none none none none) rfl rfl n8 m6] at k
 refine xO rfl ?_
 rw [<- or_none (t := tD n m J T s)]
 exact k.rt λ _ _ => xJ (WD.e zc)
end
section
variable {n m : Nat} {J T : TT} {e : Int} {Ds : DD} {S : SS}
theorem R4.thn {f g : SF} {as : AS} {I I' : AS -> Prop} {t t' : FT} (h : R4 (f as) I t) (k : ∀ as', I as' -> R4 (g as') I' t') : R4 (zF f g as) I' (t.or t') := by
 rcases h with ⟨rfl, as', h1, h2⟩ | ⟨ds, rfl, h1⟩
 · rcases k as' h2 with ⟨e, a, b, c⟩ | ⟨ds, e, b⟩
   · exact .inl ⟨e, a, yx h1 b, c⟩
   · exact .inr ⟨ds, e, zB h1 b⟩
 · exact .inr ⟨ds, rfl, Zk h1⟩
def tE (n m : Nat) (J : TT) (e : Int) (p : Str × TT) : FT := (if (!(jAt p.2 0 e == e)) = true then some [.str "empty", .str p.1] else none).or (tD n m J p.2 p.1)
def tW (n m : Nat) (J : TT) (e : Int) (Ds : DD) : FT := ((tU n J e).or (tA n J)).or (Ds.findSome? (tE n m J e))
theorem zod {t : FT} : zW .Is (oD t) .non = some (.im (.bl t.isNone)) := by cases t <;> rfl
theorem znf {t : FT} : zW .IsNot (oD t) .non = some (.im (.bl t.isSome)) := by cases t <;> rfl
theorem isT {as : AS} {i : Nat} {t : FT} (h : as[i]? = some (sT (oD t))) : WT (fT (f2 (fV i) (fC .non) (zW .Is))) as t.isNone := yh (zM (zb h) (zc (x := .non)) zod rfl) rfl
theorem zoE {as : AS} {i : Nat} {t : FT} (h : as[i]? = some (sT (oD t))) : WT (fT (f2 (fV i) (fC .non) (zW .IsNot))) as t.isSome := yh (zM (zb h) (zc (x := .non)) znf rfl) rfl
theorem zkG (A : Alg n m J e Ds) : RE (Ze [(true, ye n m J e Ds S)]) (oD (Ds.findSome? (tE n m J e))) := by
 have n8 := A.n8
 have m1 := A.m1
 have s1 : zR true 1 (f2 (fV 0) (fC (.int 3)) ixP) [sT (ye n m J e Ds S), none, none, none, none] = some (.nx [sT (ye n m J e Ds S), sI e, none, none, none]) := yR (i := 1) (xM (zb (i := 0) rfl) zc rfl) (zG rfl)
 have k := l_F (g := gT 2 (gsC (gN 2) (gsC (gN 3) gsN))) (f := (zF (sIf (fT (f2 (f2 (f2 (fV 3) (fC (.int 0)) ixP) (fV 1) ixP) (fV 1) (zW .NotEq))) (yL (yZ (dC (fC (.str "empty")) (dC (fV 2) dN)))) sNx)
  (zF (zR true 4 (zQ (aC (fV 0) (aC (fV 2) (aC (fV 3) aN))) vh))
  (sIf (fT (f2 (fV 4) (fC .non) (zW .IsNot))) (yL (fV 4)) sNx)))) (it := λ p : Str × TT => (true, xR p)) (λ as => ∃ (x y z : Option O), as = [sT (ye n m J e Ds S), sI e, x, y, z]) (tE n m J e) Ds (λ p mp as hI => by
   obtain ⟨x, y, z, rfl⟩ := hI
   have hT := A.ds p mp
   obtain ⟨q1, _⟩ := W3 (as := [sT (ye n m J e Ds S), sI e, sT (.str p.1), sT (zK p.2), z]) hT (w := 0) (v := e) ⟨by trivial, by trivial⟩ ⟨A.e0, A.en⟩ (zb (i := 3) rfl) (zc (x := .int 0)) (zb (i := 1) rfl)
   have t1 := zhZ q1 (zb (i := 1) (x := .int e) (s := true) rfl)
   refine ⟨[sT (ye n m J e Ds S), sI e, sT (.str p.1), sT (zK p.2), z], rfl, ?_⟩
   refine (zlg (I := λ as => as = [sT (ye n m J e Ds S), sI e, sT (.str p.1), sT (zK p.2), z]) t1 (zgc (os := [.lf true (.str "empty"), .lf true (.str p.1)]) (zq zc (zq (zb (i := 2) rfl) yp)) (szl rfl) rfl rfl) rfl).thn λ as' hI => ?_
   subst hI
   refine R4.seq (Zw (p := 4) (Xj (WD.e (zb (i := 0) rfl)) (WD.e (zb (i := 2) rfl)) (WD.e (zb (i := 3) rfl)) (zkw (s := p.1) n8 m1 A.m6 A.j hT)) (zG rfl)) ?_
   have tt := zoE (as := [sT (ye n m J e Ds S), sI e, sT (.str p.1), sT (zK p.2), sT (oD (tD n m J p.2 p.1))]) (i := 4) (t := tD n m J p.2 p.1) rfl
   generalize tD n m J p.2 p.1 = t at tt
   cases t with
   | none => exact .inl ⟨rfl, _, ym tt rfl, _, _, _, rfl⟩
   | some ds => exact .inr ⟨ds, rfl, Yx tt (xJ (WD.e (zb (i := 4) rfl)))⟩) [sT (ye n m J e Ds S), sI e, none, none, none] ⟨_, _, _, rfl⟩
 refine xO rfl (zB s1 ?_)
 rw [<- or_none (t := Ds.findSome? (tE n m J e))]
 refine R4.rt (I := λ as => ∃ (x y z : Option O), as = [sT (ye n m J e Ds S), sI e, x, y, z]) ?_ λ _ _ => xJ (WD.e zc)
 have hi := znA (as := [sT (ye n m J e Ds S), sI e, none, none, none]) (f := f2 (fV 0) (fC (.int 4)) ixP) (ds := Ds.map xR) (xM (zb (i := 0) rfl) zc rfl)
 rw [List.map_map] at hi
 rw [wR hi rfl]
 exact k
theorem ziP (A : Alg n m J e Ds) : RE (xZ [(true, ye n m J e Ds S)]) (oD (tW n m J e Ds)) := by
 have r1 := zhG (m := m) (Ds := Ds) (S := S) A.n8 A.j ⟨A.e0, A.en⟩
 have r2 := zhM (m := m) (e := e) (Ds := Ds) (S := S) A.n8 A.j
 have r3 := zkG (S := S) A
 have s1 := Zw (as := Yt 2 [(true, ye n m J e Ds S)]) (p := 1) (zdU (WD.e (zb (i := 0) rfl)) r1) (zG rfl)
 have st : ∀ (t t' : FT) (g : Fn), RE (g [(true, ye n m J e Ds S)]) (oD t') -> sIf (fT (f2 (fV 1) (fC .non) (zW .Is))) (zR true 1 (zQ (aC (fV 0) aN) g)) sNx [sT (ye n m J e Ds S), sT (oD t)] = some (.nx [sT (ye n m J e Ds S), sT (oD (t.or t'))]) := λ t t' g hg => by
  have tt := isT (as := [sT (ye n m J e Ds S), sT (oD t)]) (i := 1) rfl
  cases t with
  | none => exact vL tt (Zw (p := 1) (zdU (WD.e (zb (i := 0) rfl)) hg) (zG rfl))
  | some ds => exact ym tt rfl
 exact xO rfl (zB s1 (zB (st _ _ _ r2) (zB (st _ _ _ r3) (xJ (WD.e (zb (i := 1) rfl))))))
abbrev F10 (n m : Nat) (J : TT) (e : Int) (Ds : DD) (S : SS) (d : D) (x y : Option O) : AS := [sT (ye n m J e Ds S), sI n, sI m, sT (zK J), sI e, sT (.lst (Ds.map xR)), sT (.lst (S.map xu)), sT d, x, y]
abbrev faB : SF := (zF (sIf (YJ (fT (f2 (fV 7) (fC .non) (zW .Is))) (fT (f2 (f2 (f2 (fV 9) (fC (.int 0)) ixP) (fV 4) ixP) (fV 4) (zW .NotEq)))) (zR true 7 (yZ (dC (fC (.str "empty")) (dC (fV 8) dN)))) sNx)
 (sIf (fT (f2 (fV 7) (fC .non) (zW .Is))) (zR true 7 (zQ (aC (fV 1) (aC (fV 2) (aC (fV 3) (aC (fV 8) (aC (fV 9) aN))))) v8)) sNx))
theorem zfS (A : Alg n m J e Ds) : RE (ZP [(true, ye n m J e Ds S)]) (oD (tW n m J e Ds)) := by
 have n8 := A.n8
 have m1 := A.m1
 have he : InR n e := ⟨A.e0, A.en⟩
 have h0 := zdq (e := e) n8 A.j he
 obtain ⟨as', hf, x, y, rfl⟩ := xW (g := gT 2 (gsC (gN 8) (gsC (gN 9) gsN))) (f := faB)
  (λ i as => ∃ (x y : Option O), as = F10 n m J e Ds S (oD (((tU n J e).or (tA n J)).or ((Ds.take i).findSome? (tE n m J e)))) x y)
  ((Ds.map xR).map λ d => (true, d)) 0 (F10 n m J e Ds S (oD ((tU n J e).or (tA n J))) none none) (λ i x as hx' hI => by
    obtain ⟨x, y, rfl⟩ := hI
    rw [List.map_map, zzG] at hx'
    obtain ⟨p, hp, rfl⟩ := zzV.mp hx'
    have hT := A.ds p (List.mem_of_getElem? hp)
    have es : ((tU n J e).or (tA n J)).or ((Ds.take (0 + i + 1)).findSome? (tE n m J e)) = (((tU n J e).or (tA n J)).or ((Ds.take (0 + i)).findSome? (tE n m J e))).or (tE n m J e p) := by
     have e2 : List.findSome? (tE n m J e) (Option.toList (some p)) = tE n m J e p := by
      rw [Option.toList_some, List.findSome?_cons, List.findSome?_nil]
      cases tE n m J e p <;> rfl
     generalize (tU n J e).or (tA n J) = X
     rw [Nat.zero_add, List.take_succ, hp, List.findSome?_append, e2, Option.or_assoc]
    rw [es]
    generalize ((tU n J e).or (tA n J)).or ((Ds.take (0 + i)).findSome? (tE n m J e)) = t
    refine ⟨F10 n m J e Ds S (oD t) (sT (.str p.1)) (sT (zK p.2)), rfl, ?_⟩
    have tn := isT (as := F10 n m J e Ds S (oD t) (sT (.str p.1)) (sT (zK p.2))) (i := 7) rfl
    cases t with
    | some ds => exact ⟨_, yx (ym (XR tn (λ h => nomatch h) (λ _ => rfl)) rfl) (ym tn rfl), _, _, rfl⟩
    | none =>
     obtain ⟨q1, _⟩ := W3 (as := F10 n m J e Ds S (oD none) (sT (.str p.1)) (sT (zK p.2))) hT (w := 0) (v := e) ⟨by trivial, by trivial⟩ he (zb (i := 9) rfl) (zc (x := .int 0)) (zb (i := 4) rfl)
     have t1 := zhZ q1 (zb (i := 4) (x := .int e) (s := true) rfl)
     have t2 := XR (l := !(jAt p.2 0 e == e)) tn (λ _ => t1) (λ h => nomatch h)
     have ed : tE n m J e p = (if (!(jAt p.2 0 e == e)) = true then some [.str "empty", .str p.1] else none).or (tD n m J p.2 p.1) := rfl
     rw [show (none : FT).or (tE n m J e p) = tE n m J e p from rfl, ed]
     generalize (!(jAt p.2 0 e == e)) = q at t2
     cases q with
     | true => exact ⟨_, yx (as1 := F10 n m J e Ds S (.tup [.str "empty", .str p.1]) (sT (.str p.1)) (sT (zK p.2))) (vL t2 (Zw (p := 7) (zgc (os := [.lf true (.str "empty"), .lf true (.str p.1)]) (zq zc (zq (zb (i := 8) rfl) yp)) (szl rfl) rfl rfl) (zG rfl))) (ym (yh (zM (zb (i := 7) rfl) zc rfl rfl) rfl) rfl), _, _, rfl⟩
     | false => exact ⟨_, yx (ym t2 rfl) (vL tn (Zw (p := 7) (zgD (WD.e (zb (i := 1) rfl)) (WD.e (zb (i := 2) rfl)) (WD.e (zb (i := 3) rfl)) (WD.e (zb (i := 8) rfl)) (WD.e (zb (i := 9) rfl)) (zfK (s := p.1) n8 m1 A.m6 A.j hT)) (zG rfl))), _, _, rfl⟩)
  ⟨none, none, by rw [List.take_zero, List.findSome?_nil, or_none]⟩
 rw [zD, zD, Nat.zero_add, List.take_length] at hf
 exact xO rfl (zB (as1 := [sT (ye n m J e Ds S), sI n, sI m, sT (zK J), sI e, sT (.lst (Ds.map xR)), sT (.lst (S.map xu)), none, none, none]) (zjM (WD.e (zb (i := 0) rfl)) rfl) (zB (Zw (p := 7) (Xj (WD.e (zb (i := 1) rfl)) (WD.e (zb (i := 3) rfl)) (WD.e (zb (i := 4) rfl)) h0) (zG rfl)) (zB (wR (znA (zb (i := 5) rfl)) hf) (xJ (WD.e (zb (i := 7) rfl))))))
end
section
variable {n m : Nat} {J T : TT} {e : Int} {Ds : DD} {S : SS}
abbrev Pt (d : D) : Prop := (∃ s, d = .str s) \/ ∃ i, d = .int i
def Gd (ds : List D) : Prop := (∃ s r, ds = .str s :: r) /\ (∀ d ∈ ds, Pt d) /\ ds.length <= 10
theorem ti {q : Bool} {xs ds : List D} (h : (if q = true then some xs else none) = some ds) (g : Gd xs) : Gd ds := by
 cases q with
 | true => cases h; exact g
 | false => cases h
theorem zcW {s : Str} {r : List D} (hl : r.length <= 9) (h : ∀ d ∈ r, Pt d) : Gd (.str s :: r) := ⟨⟨s, r, rfl⟩, λ d md => (zzA.mp md).elim (λ z => .inl ⟨s, z⟩) (h d), Nat.succ_le_succ hl⟩
theorem zfT : ∀ d ∈ ([] : List D), Pt d := λ _ z => nomatch z
theorem WL {i : Int} {r : List D} (h : ∀ d ∈ r, Pt d) : ∀ d ∈ D.int i :: r, Pt d := λ d md => (zzA.mp md).elim (λ z => .inr ⟨i, z⟩) (h d)
theorem zll {s : Str} {r : List D} (h : ∀ d ∈ r, Pt d) : ∀ d ∈ D.str s :: r, Pt d := λ d md => (zzA.mp md).elim (λ z => .inl ⟨s, z⟩) (h d)
theorem zfV {t t' : FT} {ds : List D} (h : t.or t' = some ds) : t = some ds \/ t' = some ds := by
 cases t with
 | none => exact .inr h
 | some x => exact .inl h
theorem zre {ds : List D} (h : tW n m J e Ds = some ds) : Gd ds := by
 rcases zfV h with h | h
 · rcases zfV h with h | h
   · obtain ⟨b, h⟩ := YK h
     exact ti h (zcW (Nat.le_of_ble_eq_true rfl) (WL zfT))
   · obtain ⟨a, h⟩ := YK h
     obtain ⟨b, h⟩ := YK h
     obtain ⟨c, h⟩ := YK h
     exact ti h (zcW (Nat.le_of_ble_eq_true rfl) (WL (WL (WL zfT))))
 · obtain ⟨p, _, h⟩ := List.exists_of_findSome?_eq_some h
   rcases zfV h with h | h
   · exact ti h (zcW (Nat.le_of_ble_eq_true rfl) (zll zfT))
   · obtain ⟨a, h⟩ := YK h
     obtain ⟨i, h⟩ := YK h
     obtain ⟨b, h⟩ := YK h
     obtain ⟨k, h⟩ := YK h
     exact ti h (zcW (Nat.le_of_ble_eq_true rfl) (zll (WL (WL (WL (WL zfT))))))
theorem znh {f : D -> D -> Option Bool} : ∀ xs : List D, (∀ x ∈ xs, f x x = some true) -> eqL f xs xs = some true
 | [], _ => rfl
 | x :: r, h => by
  show ((f x x).bind λ b => (eqL f r r).bind λ c => some (b && c)) = _
  rw [h x zzD, znh r λ y my => h y (zzB _ my)]; rfl
theorem zqc {ds : List D} (g : ∀ d ∈ ds, Pt d) : eqF 60 (.tup ds) (.tup ds) = some true := znh _ λ x mx => by
 rcases g x mx with ⟨s, rfl⟩ | ⟨i, rfl⟩
 · show some (s == s) = _
   rw [beq_self_eq_true]
 · show some (i == i) = _
   rw [beq_self_eq_true]
theorem zrh {x : D} {ds : List D} : ixP (.tup (x :: ds)) (.int 0) = some (.im x) := by
 have h := Ye (xs := x :: ds) (j := 0) (v := x) rfl
 show imR (atI _ ((0 : Nat) : Int)) = _
 rw [h]; rfl
theorem zqp {f : EF} {as : AS} {ds : List D} (h : WD f as true (.tup ds)) : Y8 f as = some (ds.map λ d => (true, d), as) := by
 unfold Y8
 unfold WD at h
 rw [h]; show some (kids true ds, as) = _
 rw [zdV]
abbrev T5 (A : D) (o : Nat) (d : D) (e3 e4 : Option O) : AS := [sT A, sI o, sT d, e3, e4]
abbrev toB : SF := (zF (zR true 4 (zQ (aC (fV 0) aN) xZ))
 (zF (sIf (YJ (fT (f2 (fV 2) (fC .non) (zW .Is))) (fT (f2 (fV 4) (fC .non) (zW .IsNot)))) (yL (fC (.bl false))) sNx)
 (sIf (fT (f2 (fV 2) (fC .non) (zW .IsNot))) (zF (sIf (Wz (Za (fT (zbF (fV 4) "tuple"))) (Wz (fT (f2 (fV 4) (fV 2) (zW .NotEq))) (Za (fT (zbF (f2 (fV 4) (fC (.int 0)) ixP) "str"))))) (yL (fC (.bl false))) sNx)
 (sIf (fT (f2 (zZ (Y8 (fV 4)) [none] (gN 0) (YJ (Za (fT (zbF (fV 0) "str"))) (Za (fT (zQ (aC (fV 0) aN) vo)))) (fV 0)) (xG dN) (zW .NotEq))) (yL (fC (.bl false))) sNx)) sNx)))
theorem zmI (A : Alg n m J e Ds) {o : Nat} (ho : o <= 10) : RE (xx [(true, ye n m J e Ds S), (true, .int o)]) (.bl true) := by
 have g : ∀ ds, tW n m J e Ds = some ds -> Gd ds := λ ds h => zre h
 have w4 := ziP (S := S) A
 have s2 := Zw (as := Yt 5 [(true, ye n m J e Ds S), (true, .int o)]) (p := 2) (zdU (WD.e (zb (i := 0) rfl)) (zfS (S := S) A)) (zG rfl)
 generalize tW n m J e Ds = t at g w4 s2
 obtain ⟨as', hf, e3, e4, rfl⟩ := xW (g := gN 3) (f := toB) (λ _ as => ∃ e3 e4, as = T5 (ye n m J e Ds S) o (oD t) e3 e4) (wQ 0 o) 0 (T5 (ye n m J e Ds S) o (oD t) none none) (λ i x as hx hI => by
  obtain ⟨e3, e4, rfl⟩ := hI
  obtain ⟨rfl, hi⟩ := vf hx
  refine ⟨T5 (ye n m J e Ds S) o (oD t) (sI (0 + i)) e4, rfl, ?_⟩
  have s4 := Zw (as := T5 (ye n m J e Ds S) o (oD t) (sI (0 + i)) e4) (p := 4) (zdU (WD.e (zb (i := 0) rfl)) w4) (zG rfl)
  have n2 := isT (as := T5 (ye n m J e Ds S) o (oD t) (sI (0 + i)) (sT (oD t))) (i := 2) rfl
  have n4 := zoE (as := T5 (ye n m J e Ds S) o (oD t) (sI (0 + i)) (sT (oD t))) (i := 4) rfl
  have n3 := zoE (as := T5 (ye n m J e Ds S) o (oD t) (sI (0 + i)) (sT (oD t))) (i := 2) rfl
  have t1 : WT (YJ (fT (f2 (fV 2) (fC .non) (zW .Is))) (fT (f2 (fV 4) (fC .non) (zW .IsNot)))) (T5 (ye n m J e Ds S) o (oD t) (sI (0 + i)) (sT (oD t))) false := XR (l := false) n2 (λ z => by cases t with | none => exact n4 | some _ => cases z) λ _ => rfl
  cases t with
  | none => exact ⟨_, yx s4 (yx (ym t1 rfl) (ym n3 rfl)), _, _, rfl⟩
  | some ds =>
   obtain ⟨⟨s, r, hds⟩, hp, hl⟩ := g ds rfl
   have v4 : WD (fV 4) (T5 (ye n m J e Ds S) o (.tup ds) (sI (0 + i)) (sT (.tup ds))) true (.tup ds) := zb rfl
   have v2 : WD (fV 2) (T5 (ye n m J e Ds S) o (.tup ds) (sI (0 + i)) (sT (.tup ds))) true (.tup ds) := zb rfl
   have i0 : WD (f2 (fV 4) (fC (.int 0)) ixP) (T5 (ye n m J e Ds S) o (.tup ds) (sI (0 + i)) (sT (.tup ds))) true (.str s) := xM v4 zc (by rw [hds]; exact zrh)
   have t5 := zfo (l := false) (Vm (yh (c := true) (zbH (cl := "tuple") v4 rfl) rfl)) (λ _ => zfo (l := false) (yh (zjS (WD.e v4) (WD.e v2) (zqc hp)) rfl) (λ _ => Vm (yh (c := true) (zbH (cl := "str") i0 rfl) rfl)) λ z => nomatch z) λ z => nomatch z
   obtain ⟨os, c1, c2, c3⟩ := zfd (h := λ d => d) (p := λ _ => false) (it := λ d : D => (true, d)) (gg := gN 0) (tt := YJ (Za (fT (zbF (fV 0) "str"))) (Za (fT (zQ (aC (fV 0) aN) vo)))) (fe := fV 0) (as0 := [none]) ds λ d md => ⟨[sT d], rfl, by
    rcases hp d md with ⟨s, rfl⟩ | ⟨i, rfl⟩
    · have v0 : WD (fV 0) [sT (.str s)] true (.str s) := zb rfl
      exact ⟨XR (k := false) (Vm (yh (c := true) (zbH (cl := "str") v0 rfl) rfl)) (λ z => nomatch z) (λ _ => rfl), λ z => nomatch z⟩
    · have v0 : WD (fV 0) [sI i] true (.int i) := zb rfl
      exact ⟨XR (k := true) (Vm (yh (c := false) (zbH (cl := "str") v0 rfl) rfl)) (λ _ => Vm (yh (c := true) (zgd (zJ v0 zO) zkh) rfl)) (λ z => nomatch z), λ z => nomatch z⟩⟩
   rw [show ds.filter (λ _ => false) = [] from List.filter_eq_nil_iff.mpr λ _ _ z => nomatch z] at c3
   have wc := zkR (cap := [none]) (zqp v4) (by rw [zD]; omega) c1 c2 c3
   have t6 := yh (zjS wc (vD yp (szl rfl) rfl rfl) (q := true) rfl) rfl
   exact ⟨_, yx s4 (yx (ym t1 rfl) (vL n3 (yx (ym t5 rfl) (ym t6 rfl)))), _, _, rfl⟩) ⟨none, none, rfl⟩
 have hr := xY (as := T5 (ye n m J e Ds S) o (oD t) none none) (zJ (zb (i := 1) rfl) zO) (by omega) (by omega)
 rw [Int.toNat_natCast] at hr
 exact xO rfl (zB s2 (zB (wR hr hf) (xJ (WD.e zc))))
end
theorem zqm {f fl fh : EF} {as : AS} {ds : List Int} {a n : Nat} {lo hi : Int} (h : a + n <= ds.length) (hf : WD f as true (zL ds)) (h1 : WD fl as true (.int lo)) (h2 : WD fh as true (.int hi)) (e1 : lo = (a : Int)) (e2 : hi = ((a + n : Nat) : Int)) : fSl f (oS fl) (oS fh) slP as = some (.ow (xT ((ds.drop a).take n)), as) := by
 subst e1 e2
 have e := zmo h
 have k : (((ds.drop a).take n).map D.int).map (lfs true) = ((ds.drop a).take n).map lfI := by rw [List.map_map]; exact List.map_congr_left λ _ _ => rfl
 have v : RV.view as (RV.ow (O.lf true (zL ds))).frz = some (zL ds, some true) := rfl
 unfold WD at hf
 unfold fSl
 simp only [hf, Vj h1, Vj h2, v, e, Option.bind_some]
 show (if ((((ds.drop a).take n).map D.int).all yt || true) = true then some (RV.ow (.nd .ls ((((ds.drop a).take n).map D.int).map (lfs true)))) else none : Option RV).bind _ = _
 rw [if_pos (Bool.or_true _), k]; rfl
theorem zno {fe : EF} {as0 : AS} {Q : List Int -> Prop} : ∀ l : List Int, (∀ a ∈ l, ∃ as1 r, gN 0 (true, .int a) as0 = some as1 /\ fe as1 = some (.ow (xT r), as1) /\ Q r) -> ∃ T : TT, wz (gN 0) yP fe as0 (l.map λ a => (true, .int a)) = some (T.map xT) /\ T.length = l.length /\ ∀ r ∈ T, Q r
 | [], _ => ⟨[], rfl, rfl, λ _ z => nomatch z⟩
 | a :: l, H => by
  obtain ⟨T, e1, e2, e3⟩ := zno l λ b mb => H b (zzB _ mb)
  obtain ⟨as1, r, h1, h2, h3⟩ := H a zzD
  refine ⟨r :: T, ?_, congrArg (· + 1) e2, λ q mq => (zzA.mp mq).elim (λ z => by rw [z]; exact h3) (e3 q)⟩
  show wz (gN 0) yP fe as0 ((true, .int a) :: l.map λ a => (true, .int a)) = _
  unfold wz
  rw [h1]; show ((fe as1).bind _) = _
  rw [h2]; show (if (xT r).str = true then _ else _) = _
  rw [if_pos (V9 r).1, e1]; rfl
theorem zql {fr : AF} {fe : EF} {as : AS} {u : Bool} {k : Nat} {cap : List (Option Nat)} {Q : List Int -> Prop} (h : WA fr as [(u, .int k)]) (hk : k <= 1000) (H : ∀ a : Int, 0 <= a -> a < k -> ∃ as1 r, gN 0 (true, .int a) (Zq cap as) = some as1 /\ fe as1 = some (.ow (xT r), as1) /\ Q r) :
 ∃ T : TT, zZ (yE fr yD) cap (gN 0) yP fe as = some (.ow (Z7 T), as) /\ T.length = k /\ ∀ r ∈ T, Q r := by
 have hr := xY h (by trivial) (by trivial)
 rw [Int.toNat_natCast] at hr
 obtain ⟨T, e1, e2, e3⟩ := zno (fe := fe) (as0 := Zq cap as) (Q := Q) ((List.range k).map λ i : Nat => (0 + (i : Int))) λ a ma => by
  obtain ⟨i, mi, rfl⟩ := List.mem_map.mp ma
  have := List.mem_range.mp mi
  exact H _ (by trivial) (by omega)
 rw [List.map_map] at e1
 rw [zD, List.length_range] at e2
 exact ⟨T, VL hr (by rw [xr]; exact szs (by omega)) e1, e2, e3⟩
theorem znx {as as' : AS} {j : Nat} {o : O} {fr : DF} {os : List O} (h : as[j]? = some (some o)) (hr : fr (as.set j none) = some (os, as')) : dC (fMv j) fr as = some (o :: os, as') := by
 have e : fMv j as = some (.ow o, as.set j none) := by unfold fMv; rw [h]
 unfold dC
 rw [e]; show (fr (as.set j none)).bind _ = _
 rw [hr]; rfl
theorem zdg : ∀ T : TT, (Z7 T).str = true
 | [] => rfl
 | r :: T => by
  show ((xT r).str && O.strs (T.map xT)) = true
  rw [(V9 r).1]; exact zdg T
theorem zmG {n m : Nat} {a0 a1 a4 a5 a7 a9 : Option O} {Ds : DD} {ds : List Int} (n1 : 1 <= n) (n8 : n <= 8) (m6 : m <= 6) (dl : Ds.length <= 6) (d1 : ds.length = 1 + n * n + n * m * Ds.length) (d2 : ∀ x ∈ ds, InR n x) :
 ∃ (l : DD) (e11 e12 : Option O), (∀ p ∈ l, Tab m n p.2) /\ l.map (·.1) = Ds.map (·.1) /\ l.length = Ds.length /\ forL (gN 11) bdB (wQ 0 Ds.length) (Y13 n m a0 a1 a4 a5 a7 a9 Ds ds (sN []) none none) = some (.nx (Y13 n m a0 a1 a4 a5 a7 a9 Ds ds (sN (l.map yK)) e11 e12)) := by
 have nn : n * n <= 64 := Nat.mul_le_mul n8 n8
 have nm : n * m <= 48 := Nat.mul_le_mul n8 m6
 obtain ⟨as', hf, l, e11, e12, rfl, ho, hlm, hlen⟩ := xW (g := gN 11) (f := bdB)
  (λ i as => ∃ (l : DD) (e11 e12 : Option O), as = Y13 n m a0 a1 a4 a5 a7 a9 Ds ds (sN (l.map yK)) e11 e12 /\ (∀ p ∈ l, Tab m n p.2) /\ l.map (·.1) = (Ds.map (·.1)).take i /\ l.length = i)
  (wQ 0 Ds.length) 0 (Y13 n m a0 a1 a4 a5 a7 a9 Ds ds (sN []) none none) (λ i x as hx' hI => by
   obtain ⟨l, e11, e12, rfl, ho, hlm, hlen⟩ := hI
   obtain ⟨rfl, hi⟩ := vf hx'
   rw [Int.zero_add] at hx' ⊢
   have g0 := zzC hi
   generalize Ds[i] = p at g0
   have hk : n * m * i + n * m <= n * m * Ds.length := by rw [<- Nat.mul_succ]; exact Nat.mul_le_mul_left _ hi
   have hk2 : n * m * i <= 288 := zzM (zzM (Nat.le_add_right _ _) hk) (Nat.mul_le_mul nm dl)
   have eat : ((1 + n * n + n * m * i : Nat) : Int) = 1 + n * n + n * m * i := by rw [Int.natCast_add, Int.natCast_add, zzT, zzT, zzT]; rfl
   have enm : ((n * m : Nat) : Int) = n * m := zzT n m
   obtain ⟨T, t3, t1, t2⟩ := zql (as := Y13 n m a0 a1 a4 a5 a7 a9 Ds ds (sN (l.map yK)) (sI i) (sI ((1 + n * n + n * m * i : Nat) : Int))) (u := true) (Q := Row n) (k := m) (fr := aC (fV 3) aN) (cap := [none, some 8, some 12, some 2]) (fe := fSl (fV 1) (oS (f2 (fV 2) (f2 (fV 3) (fV 0) (zm .Mult)) (zm .Add))) (oS (f2 (f2 (fV 2) (f2 (fV 3) (fV 0) (zm .Mult)) (zm .Add)) (fV 3) (zm .Add))) slP) (zJ (zb rfl) zO) (by trivial) λ c c0 c1 => by
    have ha : n * c.toNat + n <= n * m := by rw [<- Nat.mul_succ]; exact Nat.mul_le_mul_left n (by trivial)
    have ec : (c.toNat : Int) = c := by trivial
    have w : WD (f2 (fV 2) (f2 (fV 3) (fV 0) (zm .Mult)) (zm .Add)) [sI c, sT (zL ds), sI ((1 + n * n + n * m * i : Nat) : Int), sI n] true (.int (((1 + n * n + n * m * i : Nat) : Int) + n * c)) := xq (zb rfl) (wC (zb rfl) (zb rfl) (zY (by trivial) (by trivial)) (zY (by trivial) (by trivial)))
    exact ⟨[sI c, sT (zL ds), sI ((1 + n * n + n * m * i : Nat) : Int), sI n], _, rfl, zqm (a := (1 + n * n + n * m * i) + n * c.toNat) (n := n) (by trivial) (zb rfl) w (xq w (zb rfl)) (by rw [Int.natCast_add (1 + n * n + n * m * i), zzT n c.toNat, ec]) (by rw [Int.natCast_add (1 + n * n + n * m * i + n * c.toNat), Int.natCast_add (1 + n * n + n * m * i), zzT n c.toNat, ec]), ziQ (by trivial) d2 rfl⟩
   have ht := zfC (as := Y13 n m a0 a1 a4 a5 a7 a9 Ds ds (sN (l.map yK)) (sI i) (sI ((1 + n * n + n * m * i : Nat) : Int))) (fr := dC (f2 (f2 (fV 6) (fV 11) ixP) (fC (.int 0)) ixP) (dC bdC dN)) (os := [.lf true (.str p.1), Z7 T]) (zq (zM (xM (zb (i := 6) rfl) (zb (i := 11) rfl) (zgA g0)) zc rfl rfl) (Vg t3 yp)) (szl rfl)
   have o2 := zcV (i := 10) (os := l.map yK) rfl ht rfl (by rw [zD, hlen]; exact vC (by omega))
   rw [show YW [.lf true (.str p.1), Z7 T] = yK (p.1, T) from rfl, show l.map yK ++ [yK (p.1, T)] = (l ++ [(p.1, T)]).map yK by rw [List.map_append]; rfl] at o2
   refine ⟨Y13 n m a0 a1 a4 a5 a7 a9 Ds ds (sN (l.map yK)) (sI i) e12, rfl, _, yx (as1 := Y13 n m a0 a1 a4 a5 a7 a9 Ds ds (sN (l.map yK)) (sI i) (sI ((1 + n * n + n * m * i : Nat) : Int))) ?_ o2, l ++ [(p.1, T)], _, _, rfl, λ q mq => (zzK.mp mq).elim (ho q) λ mq => by rw [zzP.mp mq]; exact ⟨t1, t2⟩, ?_, by rw [zzH, hlen]; rfl⟩
   · rw [eat]
     exact yR (i := 12) (xq (xq zc (wC (zb (i := 2) rfl) (zb (i := 2) rfl) (zY (by trivial) (by trivial)) (zY (by trivial) (by trivial)))) (wC (wC (zb (i := 2) rfl) (zb (i := 3) rfl) (zY (by trivial) (by trivial)) (zY (by trivial) (by trivial))) (zb (i := 11) rfl) (by rw [<- enm]; exact zY (by trivial) (by trivial)) (zY (by trivial) (by trivial)))) (zG rfl)
   · rw [List.map_append, hlm, show 0 + i + 1 = i + 1 by trivial, Nat.zero_add, List.take_succ, zzG, g0]; rfl)
  ⟨[], none, none, rfl, (λ _ z => nomatch z), rfl, rfl⟩
 rw [xr, Nat.zero_add] at hlm hlen
 exact ⟨l, e11, e12, ho, by rw [hlm, <- zD (f := λ p : Str × TT => p.1), List.take_length], hlen, hf⟩
theorem zgn {n m : Nat} {J : TT} {e c : Int} {Ds : DD} {S : SS} (A : Alg n m J e Ds) : ∃ J' e' Ds', Alg n m J' e' Ds' /\ wD [(true, ye n m J e Ds S), (true, .int c)] = some (.nd .tp [lfI n, lfI m, Z7 J', lfI e', .nd .ls (Ds'.map yK), .lf true (.lst (S.map xu))]) := by
 have n1 := A.n1
 have n8 := A.n8
 have m6 := A.m6
 have dl := A.dl
 have nn : n * n <= 64 := Nat.mul_le_mul n8 n8
 have nm : n * m <= 48 := Nat.mul_le_mul n8 m6
 have nmd : n * m * Ds.length <= 288 := Nat.mul_le_mul nm dl
 obtain ⟨ds, d1, d2, d3⟩ := zjk (c := c) (n := n) (k := 1 + n * n + n * m * Ds.length) n1 n8 (by trivial)
 obtain ⟨e', e1, e2⟩ := zer (r := ds) (P := InR n) (k := 0) (by trivial) (by trivial) d2
 obtain ⟨J', j3, j1, j2⟩ := zql (as := [sT (ye n m J e Ds S), sI c, sI n, sI m, sT (zK J), sI e, sT (.lst (Ds.map xR)), sT (.lst (S.map xu)), sT (zL ds), none, none, none, none]) (u := true) (Q := Row n) (k := n) (fr := aC (fV 2) aN) (cap := [none, some 8, some 2]) (fe := fSl (fV 1) (oS (f2 (fC (.int 1)) (f2 (fV 2) (fV 0) (zm .Mult)) (zm .Add))) (oS (f2 (f2 (fC (.int 1)) (f2 (fV 2) (fV 0) (zm .Mult)) (zm .Add)) (fV 2) (zm .Add))) slP) (zJ (zb rfl) zO) (by trivial) λ a a0 a1 => by
  have ha : n * a.toNat + n <= n * n := by rw [<- Nat.mul_succ]; exact Nat.mul_le_mul_left n (by trivial)
  have ea : (a.toNat : Int) = a := by trivial
  have w : WD (f2 (fC (.int 1)) (f2 (fV 2) (fV 0) (zm .Mult)) (zm .Add)) [sI a, sT (zL ds), sI n] true (.int (1 + n * a)) := xq zc (wC (zb rfl) (zb rfl) (zY (by trivial) (by trivial)) (zY (by trivial) (by trivial)))
  exact ⟨[sI a, sT (zL ds), sI n], _, rfl, zqm (a := 1 + n * a.toNat) (n := n) (by trivial) (zb rfl) w (xq w (zb rfl)) (by rw [Int.natCast_add, zzT, ea]; rfl) (by rw [Int.natCast_add, Int.natCast_add, zzT, ea]; rfl), ziQ (by trivial) d2 rfl⟩
 obtain ⟨l, e11, e12, ho, hlm, hlen, hf⟩ := zmG (a0 := sT (ye n m J e Ds S)) (a1 := sI c) (a4 := sT (zK J)) (a5 := sI e) (a7 := sT (.lst (S.map xu))) (a9 := some (Z7 J')) n1 n8 m6 dl d1 d2
 refine ⟨J', e', l, ⟨n1, n8, A.m1, m6, ⟨j1, j2⟩, e2.1, e2.2, by trivial, ho, by rw [hlm]; exact A.nd⟩, ?_⟩
 have ek : ((1 + n * n + n * m * Ds.length : Nat) : Int) = 1 + n * n + n * m * ((Ds.map xR).length : Int) := by rw [Int.natCast_add, Int.natCast_add, zzT, zzT, zzT, zD]; rfl
 have enm : ((n * m : Nat) : Int) = n * m := zzT n m
 rw [ek] at d3
 refine zcu rfl (yx (as1 := [sT (ye n m J e Ds S), sI c, sI n, sI m, sT (zK J), sI e, sT (.lst (Ds.map xR)), sT (.lst (S.map xu)), none, none, none, none, none]) (zjM (WD.e (zb rfl)) rfl) (yx (Zw (p := 8) (Xj (WD.e (zb rfl)) (WD.e (zb rfl)) (WD.e (xq (xq zc (wC (zb rfl) (zb rfl) (zY (by trivial) (by trivial)) (zY (by trivial) (by trivial)))) (wC (wC (zb rfl) (zb rfl) (zY (by trivial) (by trivial)) (zY (by trivial) (by trivial))) (vQ (zJ (zb rfl) zO) rfl rfl) (by rw [<- enm]; exact zY (by trivial) (by trivial)) (zY (by rw [zD]; trivial) (by rw [zD]; trivial))))) d3) (zG rfl)) (yx (ww (i := 9) j3 (zG rfl)) (yx (ww (i := 10) (vI yp (szl rfl)) (zG rfl)) (yx (wR (xY (j := ((Ds.map xR).length : Int)) (zJ (vQ (zJ (zb rfl) zO) rfl rfl) zO) (by trivial) (by rw [zD]; trivial)) (by rw [zD]; exact hf)) ?_)))))
 have q : (dC (fV 2) (dC (fV 3) (dC (fMv 9) (dC (f2 (fV 8) (fC (.int 0)) ixP) (dC (fMv 10) (dC (fV 7) dN)))))) (Y13 n m (sT (ye n m J e Ds S)) (sI c) (sT (zK J)) (sI e) (sT (.lst (S.map xu))) (some (Z7 J')) Ds ds (sN (l.map yK)) e11 e12) = some (_, _) :=
  xX (a := fV 2) (zb rfl) (xX (a := fV 3) (zb rfl) (znx (j := 9) rfl (xX (a := f2 (fV 8) (fC (.int 0)) ixP) (zM (zb (i := 8) rfl) zc e1 rfl) (znx (j := 10) rfl (xX (a := fV 7) (zb (i := 7) rfl) rfl)))))
 have st : (O.nd .tp [lfI n, lfI m, Z7 J', lfI e', .nd .ls (l.map yK), .lf true (.lst (S.map xu))]).str = true := by
  show (true && (true && ((Z7 J').str && (true && (O.strs (l.map yK) && (true && true)))))) = true
  rw [(Zv l).1, show (Z7 J').str = true from (zdg J')]; rfl
 exact VM (zdc q (szl rfl)) st
abbrev Z12 (c c' : Int) (n m : Nat) (J : TT) (e : Int) (Ds : DD) (S : D) (e9 : Option O) : AS :=
 [sI c, sI c', none, sI n, sI m, some (Z7 J), sI e, sN (Ds.map yK), sT S, e9, none, none]
section
variable {n m : Nat} {J : TT} {e c c' : Int} {Ds : DD} {S : D}
theorem zlS : Row n (zbK n) := ⟨by rw [zD, List.length_range], λ x mx => by
 obtain ⟨i, mi, rfl⟩ := List.mem_map.mp mx
 have := List.mem_range.mp mi
 exact ⟨by omega, by omega⟩⟩
abbrev frF : SF := sIf (fT (f2 (f2 (fV 0) (fC (.int 3)) (zm .Mod)) (fC (.int 0)) (zW .Gt))) (zF (zho 5 (xV 6) (fP (aC (fV 3) aN) lrP))
 (wy (yE (aC (fV 3) aN) yD) (gN 9) (zaO 5 (xV 9) (xV 6) (xV 9)))) sNx
abbrev frG : SF := sIf (fT (f2 (f2 (fV 0) (fC (.int 6)) (zm .Mod)) (fC (.int 2)) (zW .Gt))) (zne 7 10 11 6) sNx
theorem zjE {as : AS} {i : Nat} {f : IXF} {fe : EF} {k : Int} {T : TT} {r : List Int} (hf : fe as = some (.ow (xT r), as)) (h1 : f as = some k) (p1 : 0 <= k) (hi : as[i]? = some (some (Z7 T))) (hk : k.toNat < T.length) :
 zho i f fe as = some (.nx (as.set i (some (Z7 (T.set k.toNat r))))) := by
 have e3 : (T.map xT).set k.toNat (xT r) = (T.set k.toNat r).map xT := by rw [List.map_set]
 have hl : k.toNat < (T.map xT).length := by rw [zD]; exact hk
 unfold zho
 rw [hf]
 show ((f as).bind _) = _
 rw [h1]
 show (if 0 <= k then _ else none : Option Out) = _
 rw [if_pos p1, (VB hi rfl : slO ZZ as i = some (T.map xT))]
 show (if k.toNat < (T.map xT).length then _ else none : Option Out) = _
 rw [if_pos hl, e3]
theorem zoa (n1 : 1 <= n) (n8 : n <= 8) (hJ : Tab n n J) (he : InR n e) : ∃ J' e9, Tab n n J' /\ frF (Z12 c c' n m J e Ds S none) = some (.nx (Z12 c c' n m J' e Ds S e9)) := by
 have t : WT (fT (f2 (f2 (fV 0) (fC (.int 3)) (zm .Mod)) (fC (.int 0)) (zW .Gt))) (Z12 c c' n m J e Ds S none) (decide (0 < c % 3)) := yh (Xp (yF (zb (i := 0) rfl) zc (by decide)) zc) rfl
 cases hd : decide (0 < c % 3) with
 | false => rw [hd] at t; exact ⟨J, none, hJ, ym t rfl⟩
 | true =>
  rw [hd] at t
  have p := zfR (as := Z12 c c' n m J e Ds S none) (a := fV 3) (x := .int n) (g := lrP) (zs := (zbK n).map D.int) (WD.e (zb (i := 3) rfl)) (by
   show (if (0 : Int) <= n /\ (n : Int) <= 100000 then _ else _) = _
   rw [if_pos ⟨by trivial, by trivial⟩, List.map_map]; rfl)
  rw [zcU] at p
  have s1 := zjE (i := 5) (f := xV 6) (T := J) p (Yy (i := 6) rfl) he.1 rfl (by rw [hJ.1]; have := he.1; have := he.2; omega)
  have hJ1 : Tab n n (J.set e.toNat (zbK n)) := zbq hJ zlS
  generalize J.set e.toNat (zbK n) = J1 at s1 hJ1
  obtain ⟨as', hf, J', e9, rfl, hJ'⟩ := xW (g := gN 9) (f := zaO 5 (xV 9) (xV 6) (xV 9)) (λ _ as => ∃ J' e9, as = Z12 c c' n m J' e Ds S e9 /\ Tab n n J') (wQ 0 n) 0 (Z12 c c' n m J1 e Ds S none) (λ i x as hx hI => by
   obtain ⟨J', e9, rfl, hT⟩ := hI
   obtain ⟨rfl, hi⟩ := vf hx
   have hk : (0 + (i : Int)).toNat < J'.length := by rw [hT.1]; omega
   have hr := zzC hk
   have hR := hT.2 _ (List.getElem_mem hk)
   generalize J'[(0 + (i : Int)).toNat] = r at hr hR
   exact ⟨Z12 c c' n m J' e Ds S (sI (0 + i)), rfl, _, zfe (i := 5) (Yy (i := 9) rfl) (Yy (i := 6) rfl) (Yy (i := 9) rfl) (by omega) he.1 rfl hr (by rw [hR.1]; have := he.1; have := he.2; omega), _, _, rfl, zbq hT (zdd hR ⟨by omega, by omega⟩)⟩) ⟨J1, none, rfl, hJ1⟩
  have hr := xY (as := Z12 c c' n m J1 e Ds S none) (zJ (zb (i := 3) rfl) zO) (by omega) (by omega)
  rw [Int.toNat_natCast] at hr
  exact ⟨J', e9, hJ', vL t (yx s1 (wR hr hf))⟩
theorem zlY {p : Str × TT} (m1 : 1 <= m) (hp : Tab m n p.2) (he : InR n e) : ∃ T, Tab m n T /\ zjH e (yK p) = some (yK (p.1, T)) := by
 have hk : 0 < p.2.length := by rw [hp.1]; exact m1
 have hr := zzC hk
 have hR := hp.2 _ (List.getElem_mem hk)
 generalize p.2[0] = r at hr hR
 have hc : e.toNat < r.length := by rw [hR.1]; have := he.1; have := he.2; omega
 refine ⟨p.2.set 0 (r.set e.toNat e), zbq hp (zdd hR he), ?_⟩
 have e2 : ([.lf true (.str p.1), .nd .ls (p.2.map xT)] : List O)[1]? = sN (p.2.map xT) := rfl
 have e3 : (p.2.map xT)[0]? = sN (r.map lfI) := by rw [zzG, hr]; rfl
 have e4 := zhL hc
 have e6 : (p.2.map xT).set 0 (.nd .ls ((r.map lfI).set e.toNat (.lf true (.int e)))) = (p.2.set 0 (r.set e.toNat e)).map xT := by
  rw [List.map_set]
  show _ = (p.2.map xT).set 0 (.nd .ls ((r.set e.toNat e).map lfI))
  rw [List.map_set]
 unfold zjH
 rw [show zfA (yK p) = some [.lf true (.str p.1), .nd .ls (p.2.map xT)] from rfl, Option.bind_some, if_pos (show ([.lf true (.str p.1), .nd .ls (p.2.map xT)] : List O).length = 2 from rfl), (Yb e2 rfl : atO ZZ _ _ = some (p.2.map xT))]
 show ((atO ZZ (p.2.map xT) 0).bind _) = _
 rw [(Yb e3 rfl : atO ZZ _ _ = some (r.map lfI))]
 show ((atO W4 (r.map lfI) e.toNat).bind _) = _
 rw [(Yb e4 rfl : atO W4 _ _ = some (.int r[e.toNat]))]
 show some (O.nd .tp (([.lf true (.str p.1), .nd .ls (p.2.map xT)] : List O).set 1 (.nd .ls ((p.2.map xT).set 0 (.nd .ls ((r.map lfI).set e.toNat (.lf true (.int e)))))))) = _
 rw [e6]; rfl
theorem ziU (m1 : 1 <= m) (he : InR n e) : ∀ Ds : DD, (∀ p ∈ Ds, Tab m n p.2) -> ∃ Ds' : DD, Ds'.map (·.1) = Ds.map (·.1) /\ (∀ p ∈ Ds', Tab m n p.2) /\ zft e (Ds.map yK) = some (Ds'.map yK)
 | [], _ => ⟨[], rfl, (λ _ z => nomatch z), rfl⟩
 | p :: r, h => by
  obtain ⟨T, h1, h2⟩ := zlY m1 (h p zzD) he
  obtain ⟨l, l1, l2, l3⟩ := ziU m1 he r λ q mq => h q (zzB _ mq)
  refine ⟨(p.1, T) :: l, by rw [List.map_cons, List.map_cons, l1], λ q mq => (zzA.mp mq).elim (λ z => by rw [z]; exact h1) (l2 q), ?_⟩
  show ((zjH e (yK p)).bind _) = _
  rw [h2]
  show ((zft e (r.map yK)).bind _) = _
  rw [l3]; rfl
theorem zom {e9 : Option O} (m1 : 1 <= m) (hD : ∀ p ∈ Ds, Tab m n p.2) (he : InR n e) : ∃ Ds' : DD, Ds'.map (·.1) = Ds.map (·.1) /\ (∀ p ∈ Ds', Tab m n p.2) /\ frG (Z12 c c' n m J e Ds S e9) = some (.nx (Z12 c c' n m J e Ds' S e9)) := by
 have t : WT (fT (f2 (f2 (fV 0) (fC (.int 6)) (zm .Mod)) (fC (.int 2)) (zW .Gt))) (Z12 c c' n m J e Ds S e9) (decide (2 < c % 6)) := yh (Xp (yF (zb (i := 0) rfl) zc (by decide)) zc) rfl
 cases hd : decide (2 < c % 6) with
 | false => rw [hd] at t; exact ⟨Ds, rfl, hD, ym t rfl⟩
 | true =>
  rw [hd] at t
  obtain ⟨Ds', h1, h2, h3⟩ := ziU (n := n) m1 he Ds hD
  refine ⟨Ds', h1, h2, vL t ?_⟩
  unfold zne
  rw [Yy (i := 6) (as := Z12 c c' n m J e Ds S e9) (k := e) (s := true) rfl]
  show (if 0 <= e /\ noS _ 10 = true /\ noS _ 11 = true /\ 10 ≠ 11 then _ else none : Option Out) = _
  rw [if_pos ⟨he.1, rfl, rfl, by decide⟩]
  show ((zft e (Ds.map yK)).bind _) = _
  rw [h3]; rfl
theorem zlK : ∃ n m J e Ds S, Alg n m J e Ds /\ RE (Ys [(true, .int c), (true, .int c')]) (ye n m J e Ds S) := by
 obtain ⟨n, m, J, e, Ds, S, ⟨A, _⟩, hA⟩ := zdo (c := c / 6 % 2147483629) (c' := c')
 obtain ⟨J1, e1, D1, A1, h1⟩ := zgn (S := S) (c := c / 6) A
 obtain ⟨J2, e9, t2, hF⟩ := zoa (m := m) (c := c) (c' := c') (Ds := D1) (S := .lst (S.map xu)) A1.n1 A1.n8 A1.j ⟨A1.e0, A1.en⟩
 obtain ⟨D2, d1, d2, hG⟩ := zom (J := J2) (c := c) (c' := c') (S := .lst (S.map xu)) (e9 := e9) A1.m1 A1.ds ⟨A1.e0, A1.en⟩
 have dl := A1.dl
 have hlen : D2.length = D1.length := by rw [<- zD (f := λ p : Str × TT => p.1), d1, zD]
 refine ⟨n, m, J2, e1, D2, S, ⟨A1.n1, A1.n8, A1.m1, A1.m6, t2, A1.e0, A1.en, by omega, d2, by rw [d1]; exact A1.nd⟩, ?_⟩
 have d6 : WD (f2 (fV 0) (fC (.int 6)) (zm .FloorDiv)) (Yt 12 [(true, .int c), (true, .int c')]) true (.int (c / 6)) := Yz (zb (i := 0) rfl) zc (by decide) (zY (by decide) (by decide))
 have s2 := ww (i := 2) (as := Yt 12 [(true, .int c), (true, .int c')]) (Y4 (g := wD) (Yw (zak (WD.e (yF d6 zc (by decide))) (WD.e (zb (i := 1) rfl)) hA) (Yw (WD.e d6) zO)) h1) (zG rfl)
 have st : (O.nd .tp [lfI n, lfI m, Z7 J2, lfI e1, .nd .ls (D2.map yK), .lf true (.lst (S.map xu))]).str = true := by
  show (true && (true && ((Z7 J2).str && (true && (O.strs (D2.map yK) && (true && true)))))) = true
  rw [(Zv D2).1, show (Z7 J2).str = true from (zdg J2)]; rfl
 refine xO rfl (zB s2 ⟨.nd .tp [lfI n, lfI m, Z7 J2, lfI e1, .nd .ls (D2.map yK), .lf true (.lst (S.map xu))], ?_, st, ?_⟩)
 · show ((frF (Z12 c c' n m J1 e1 D1 (.lst (S.map xu)) none)).bind _) = _
   rw [hF]
   show ((frG (Z12 c c' n m J2 e1 D1 (.lst (S.map xu)) e9)).bind _) = _
   rw [hG]
   exact if_pos st
 · show D.tup [.int n, .int m, .lst (O.toDs (J2.map xT)), .int e1, .lst (O.toDs (D2.map yK)), .lst (S.map xu)] = _
   rw [(Zv D2).2, (YQ J2).2]
end
theorem eqI {k : Nat} {a : Int} : eqF (k + 1) (.int a) (.int a) = some true := by show some (a == a) = _; simp
theorem eqS {k : Nat} {a : Str} : eqF (k + 1) (.str a) (.str a) = some true := by show some (a == a) = _; simp
theorem eqR {k : Nat} {r : List Int} : eqF (k + 2) (zL r) (zL r) = some true := by
 show eqL (eqF (k + 1)) (r.map D.int) (r.map D.int) = _
 refine ZS λ x m => ?_
 obtain ⟨i, _, rfl⟩ := List.mem_map.mp m
 exact eqI
theorem eqT {k : Nat} {T : TT} : eqF (k + 3) (zK T) (zK T) = some true := by
 show eqL (eqF (k + 2)) (T.map zL) (T.map zL) = _
 refine ZS λ x m => ?_
 obtain ⟨i, _, rfl⟩ := List.mem_map.mp m
 exact eqR
theorem zqX {k : Nat} {p : Str × TT} : eqF (k + 4) (xR p) (xR p) = some true := by
 show eqL (eqF (k + 3)) [.str p.1, zK p.2] [.str p.1, zK p.2] = _
 refine ZS λ x m => ?_
 rcases zzA.mp m with rfl | m
 · exact eqS
 rcases zzA.mp m with rfl | m
 · exact eqT
 · exact nomatch m
theorem zqG {k : Nat} {p : Str × List Int} : eqF (k + 3) (xu p) (xu p) = some true := by
 show eqL (eqF (k + 2)) [.str p.1, zL p.2] [.str p.1, zL p.2] = _
 refine ZS λ x m => ?_
 rcases zzA.mp m with rfl | m
 · exact eqS
 rcases zzA.mp m with rfl | m
 · exact eqR
 · exact nomatch m
theorem zqQ {k : Nat} {Ds : DD} : eqF (k + 5) (.lst (Ds.map xR)) (.lst (Ds.map xR)) = some true := by
 show eqL (eqF (k + 4)) (Ds.map xR) (Ds.map xR) = _
 refine ZS λ x m => ?_
 obtain ⟨i, _, rfl⟩ := List.mem_map.mp m
 exact zqX
theorem zrr {k : Nat} {S : SS} : eqF (k + 4) (.lst (S.map xu)) (.lst (S.map xu)) = some true := by
 show eqL (eqF (k + 3)) (S.map xu) (S.map xu) = _
 refine ZS λ x m => ?_
 obtain ⟨i, _, rfl⟩ := List.mem_map.mp m
 exact zqG
theorem eqA {n m : Nat} {J : TT} {e : Int} {Ds : DD} {S : SS} : eqF 60 (ye n m J e Ds S) (ye n m J e Ds S) = some true := by
 show eqL (eqF 59) [.int n, .int m, zK J, .int e, .lst (Ds.map xR), .lst (S.map xu)] [.int n, .int m, zK J, .int e, .lst (Ds.map xR), .lst (S.map xu)] = _
 refine ZS λ x m => ?_
 rcases zzA.mp m with rfl | m
 · exact eqI
 rcases zzA.mp m with rfl | m
 · exact eqI
 rcases zzA.mp m with rfl | m
 · exact eqT
 rcases zzA.mp m with rfl | m
 · exact eqI
 rcases zzA.mp m with rfl | m
 · exact zqQ
 rcases zzA.mp m with rfl | m
 · exact zrr
 · exact nomatch m
theorem zpE {r : Option O} {b : Bool} (h : RE r (.bl b)) : r = some (.lf true (.bl b)) := by
 obtain ⟨o, h1, h2, h3⟩ := h
 cases o with
 | lf s d =>
  have e1 : s = true := h2
  have e2 : d = .bl b := h3
  rw [h1, e1, e2]
 | nd k os => cases k <;> cases h3
theorem YX {n : Nat} {t : Int -> FT} (h : ∀ b, InR n b -> t b = none) : fs n t = none :=
 (zdQ (t' := λ _ => none) h).trans (List.findSome?_eq_none_iff.mpr λ _ _ => rfl)
theorem ziN {b : Bool} {x : List D} (h : b = false) : (if b = true then some x else none) = none := by rw [h]; rfl
theorem zhk {a b : Int} (h : a = b) : (!(a == b)) = false := by rw [h, beq_self_eq_true]; rfl
theorem zmn {n m : Nat} {J : TT} {e : Int} {Ds : DD} (L : LawA n m J e Ds) : tW n m J e Ds = none := by
 have h1 : tU n J e = none := YX λ a ha => ziN (by rw [zhk (L.lj.ul a ha), zhk (L.lj.ur a ha)]; rfl)
 have h2 : tA n J = none := YX λ a ha => YX λ b hb => YX λ c hc => ziN (zhk (L.lj.as a b c ha hb hc))
 have h3 : Ds.findSome? (tE n m J e) = none := List.findSome?_eq_none_iff.mpr λ p mp => by
  have l := L.ld p mp
  unfold tE
  rw [ziN (zhk l.em)]
  show tD n m J p.2 p.1 = none
  exact YX λ a ha => YX λ i hi => YX λ b hb => YX λ k hk => ziN (zhk (l.dn a i b k ha hi hb hk))
 unfold tW
 rw [h1, h2, h3]; rfl
theorem znd {a b c d f g : EF} {as : AS} {x y z u v w : D} (ha : WE a as x) (hb : WE b as y) (hc : WE c as z) (hd : WE d as u) (hf : WE f as v) (hg : WE g as w) : WE (yZ (dC a (dC b (dC c (dC d (dC f (dC g dN))))))) as (.tup [x, y, z, u, v, w]) := by
 obtain ⟨o6, i6, rfl, j6⟩ := zjp hg yp
 obtain ⟨o5, i5, rfl, j5⟩ := zjp hf j6
 obtain ⟨o4, i4, rfl, j4⟩ := zjp hd j5
 obtain ⟨o3, i3, rfl, j3⟩ := zjp hc j4
 obtain ⟨o2, i2, rfl, j2⟩ := zjp hb j3
 obtain ⟨o1, i1, rfl, j1⟩ := zjp ha j2
 exact PF.znV j1 (by show 6 <= _; omega) (by show (o1.str && (o2.str && (o3.str && (o4.str && (o5.str && (o6.str && true)))))) = true; rw [i1, i2, i3, i4, i5, i6]; rfl) rfl
abbrev A5 (ns : List Int) (a1 e2 e3 e4 : Option O) : AS := [sT (.lst (ns.map D.int)), a1, e2, e3, e4]
abbrev zns : EF := zQ (aC (zQ (aC (fV 0) (aC (fC (.int 0)) aN)) zV) (aC (zQ (aC (fV 0) (aC (fC (.int 1)) aN)) zV) aN)) xf
abbrev znt : EF := yZ (dC (f2 (fV 1) (fC (.int 0)) ixP) (dC (f2 (fV 1) (fC (.int 1)) ixP) (dC (zZ (Y8 (f2 (fV 1) (fC (.int 2)) ixP)) [none] (gN 0) yP (fP (aC (fV 0) aN) lstP)) (dC (f2 (fV 1) (fC (.int 3)) ixP) (dC (fP (aC (f2 (fV 1) (fC (.int 4)) ixP) aN) lstP) (dC (f2 (fV 1) (fC (.int 5)) ixP) dN))))))
abbrev zpv : SF := (zF (zR true 1 (zQ (aC (fV 1) (aC (fV 3) aN)) Zn))
 (zF (zR true 4 znt)
 (zF (sIf (Wz (Za (fT (zQ (aC (fV 1) (aC (fC (.int 1)) aN)) xx))) (fT (f2 (fV 1) (fV 4) (zW .NotEq)))) (yL (fC (.bl false))) sNx)
 (sIf (fT (f2 (f2 (fV 3) (fC (.int 3)) (zm .Mod)) (fC (.int 0)) (zW .Gt))) (zR true 1 zns) sNx))))
section
variable {n m : Nat} {J : TT} {e : Int} {Ds : DD} {S : SS} {ns : List Int} {a1 e2 e3 e4 : Option O}
theorem zhF {as : AS} {a : EF} {k : Nat} (A : Alg n m J e Ds) (hk : k <= 10) (ha : WE a as (ye n m J e Ds S)) : WT (fT (zQ (aC a (aC (fC (.int k)) aN)) xx)) as true :=
 yh (zpa ha (WD.e zc) (zpE (zmI A hk))) rfl
theorem zgO {k : Int} (hk : 0 <= k) : ∃ c, WD (zQ (aC (fV 0) (aC (fC (.int k)) aN)) zV) (A5 ns a1 e2 e3 e4) true (.int c) := by
 obtain ⟨c, hc⟩ := zmg (ns := ns) (k := k) (s := true) (t := true) hk
 exact ⟨c, zgd (zJ (zb (i := 0) rfl) (zJ zc zO)) hc⟩
theorem zlC : ∃ n m J e Ds S, (Alg n m J e Ds /\ LawA n m J e Ds) /\ WE zns (A5 ns a1 e2 e3 e4) (ye n m J e Ds S) := by
 obtain ⟨c0, h0⟩ := zgO (ns := ns) (a1 := a1) (e2 := e2) (e3 := e3) (e4 := e4) (k := 0) (by decide)
 obtain ⟨c1, h1⟩ := zgO (ns := ns) (a1 := a1) (e2 := e2) (e3 := e3) (e4 := e4) (k := 1) (by decide)
 obtain ⟨n, m, J, e, Ds, S, hL, hA⟩ := zdo (c := c0) (c' := c1)
 exact ⟨n, m, J, e, Ds, S, hL, zak (WD.e h0) (WD.e h1) hA⟩
theorem zmS (A : Alg n m J e Ds) : WE znt (A5 ns (sT (ye n m J e Ds S)) e2 e3 e4) (ye n m J e Ds S) := by
 have n8 := A.n8
 have v : WD (fV 1) (A5 ns (sT (ye n m J e Ds S)) e2 e3 e4) true (ye n m J e Ds S) := zb (i := 1) rfl
 have c2 := zhO (T := J) (f := f2 (fV 1) (fC (.int 2)) ixP) (as := A5 ns (sT (ye n m J e Ds S)) e2 e3 e4) (by rw [A.j.1]; omega) (WD.e (xM v zc rfl))
 have c4 := zfR (as := A5 ns (sT (ye n m J e Ds S)) e2 e3 e4) (a := f2 (fV 1) (fC (.int 4)) ixP) (g := lstP) (zs := Ds.map xR) (WD.e (xM v zc rfl)) rfl
 exact znd (WD.e (zM v zc rfl rfl)) (WD.e (zM v zc rfl rfl)) ⟨_, c2, zdg J, congrArg D.lst (YQ J).2⟩ (WD.e (zM v zc rfl rfl)) ⟨_, c4, ziv _, congrArg D.lst (ziz _)⟩ (WD.e (xM v zc rfl))
theorem zmA {c : Int} (A : Alg n m J e Ds) : ∃ n' m' J' e' Ds' S' e4', Alg n' m' J' e' Ds' /\ zpv (A5 ns (sT (ye n m J e Ds S)) e2 (sI c) e4) = some (.nx (A5 ns (sT (ye n' m' J' e' Ds' S')) e2 (sI c) e4')) := by
 obtain ⟨J', e', D', A', hb⟩ := zmq (S := S) (c := c) A
 have s1 := Zw (p := 1) (as := A5 ns (sT (ye n m J e Ds S)) e2 (sI c) e4) (zak (WD.e (zb (i := 1) rfl)) (WD.e (zb (i := 3) rfl)) hb) (zG rfl)
 have s4 := Zw (p := 4) (zmS (ns := ns) (S := S) (e2 := e2) (e3 := sI c) (e4 := e4) A') (zG rfl)
 have t1 : WT (Wz (Za (fT (zQ (aC (fV 1) (aC (fC (.int 1)) aN)) xx))) (fT (f2 (fV 1) (fV 4) (zW .NotEq)))) (A5 ns (sT (ye n m J' e' D' S)) e2 (sI c) (sT (ye n m J' e' D' S))) false := zfo (k := false) (Vm (k := true) (zhF (k := 1) A' (by decide) (WD.e (zb (i := 1) rfl)))) (λ _ => yh (znp (c := true) (zb (i := 1) rfl) (zb (i := 4) rfl) eqA) rfl) (λ h => nomatch h)
 have t2 : WT (fT (f2 (f2 (fV 3) (fC (.int 3)) (zm .Mod)) (fC (.int 0)) (zW .Gt))) (A5 ns (sT (ye n m J' e' D' S)) e2 (sI c) (sT (ye n m J' e' D' S))) (decide (0 < c % 3)) := yh (Xp (yF (zb (i := 3) rfl) zc (by decide)) zc) rfl
 cases hd : decide (0 < c % 3) with
 | false =>
  rw [hd] at t2
  exact ⟨n, m, J', e', D', S, _, A', yx s1 (yx s4 (yx (ym t1 rfl) (ym t2 rfl)))⟩
 | true =>
  rw [hd] at t2
  obtain ⟨n2, m2, J2, ee2, D2, S2, ⟨A2, _⟩, hA⟩ := zlC (ns := ns) (a1 := sT (ye n m J' e' D' S)) (e2 := e2) (e3 := sI c) (e4 := sT (ye n m J' e' D' S))
  exact ⟨n2, m2, J2, ee2, D2, S2, _, A2, yx s1 (yx s4 (yx (ym t1 rfl) (vL t2 (Zw (p := 1) hA (zG rfl)))))⟩
end
theorem zkP (ns : List Int) (hns : ns.length <= 63) : zdy [(true, .lst (ns.map .int))] = some (.lf true (.bl true)) := by
 obtain ⟨n, m, J, e, Ds, S, ⟨A, L⟩, hA⟩ := zlC (ns := ns) (a1 := none) (e2 := none) (e3 := none) (e4 := none)
 have n8 := A.n8
 have m6 := A.m6
 have v1 : ∀ e2 e3 e4, WD (fV 1) (A5 ns (sT (ye n m J e Ds S)) e2 e3 e4) true (ye n m J e Ds S) := λ _ _ _ => zb (i := 1) rfl
 have hw := ziP (S := S) A
 rw [zmn L] at hw
 have s1 := Zw (p := 1) hA (zG rfl)
 have t1 : WT (Wz (fT (f2 (zQ (aC (fV 1) aN) xZ) (fC .non) (zW .IsNot))) (Za (fT (zQ (aC (fV 1) (aC (fC (.int 1)) aN)) xx)))) (A5 ns (sT (ye n m J e Ds S)) none none none) false := zfo (k := false) (yh (f2E (zdU (WD.e (v1 _ _ _)) hw) (WD.e zc) rfl) rfl) (λ _ => Vm (k := true) (zhF (k := 1) A (by decide) (WD.e (v1 _ _ _)))) (λ h => nomatch h)
 obtain ⟨c1, h1⟩ := zgO (ns := ns) (a1 := sT (ye n m J e Ds S)) (e2 := none) (e3 := none) (e4 := none) (k := 1) (by decide)
 obtain ⟨c2, h2⟩ := zgO (ns := ns) (a1 := sT (ye n m J e Ds S)) (e2 := none) (e3 := none) (e4 := none) (k := 2) (by decide)
 obtain ⟨nf, mf, Jf, ef, Df, Sf, Af, hf⟩ := zlK (c := c2) (c' := c1)
 have t2 := Vm (zhF (k := 2) Af (by decide) (zak (WD.e h2) (WD.e h1) hf))
 have p0 : WD (f2 (fV 1) (fC (.int 0)) ixP) (A5 ns (sT (ye n m J e Ds S)) none none none) true (.int n) := zM (v1 _ _ _) zc rfl rfl
 have p1 : WD (f2 (fV 1) (fC (.int 1)) ixP) (A5 ns (sT (ye n m J e Ds S)) none none none) true (.int m) := zM (v1 _ _ _) zc rfl rfl
 have w8 : WD (f2 (xG (dC (fC (.int 8)) (dC (fC (.int 2)) dN))) (fP (aC (f2 (f2 (f2 (fV 1) (fC (.int 0)) ixP) (f2 (fV 1) (fC (.int 1)) ixP) (zm .Mult)) (fC (.int 16)) (zW .Gt)) aN) zdu) ixP) (A5 ns (sT (ye n m J e Ds S)) none none none) true (.int (if decide ((16 : Int) < n * m) = true then 2 else 8)) := f2E (vD (os := [lfI 8, lfI 2]) (zq zc (zq zc yp)) (szl rfl) rfl rfl) (WD.e (vQ (zJ (Xp (wC p0 p1 (zY (by trivial) (by trivial)) (zY (by trivial) (by trivial))) (zc (x := .int 16))) zO) rfl rfl)) zkl
 have s2 := Zw (as := A5 ns (sT (ye n m J e Ds S)) none none none) (p := 2) (WD.e w8) (zG rfl)
 generalize (if decide ((16 : Int) < n * m) = true then (2 : Int) else 8) = w at s2
 obtain ⟨c3, h3⟩ := zgO (ns := ns) (a1 := sT (ye n m J e Ds S)) (e2 := sI w) (e3 := none) (e4 := none) (k := 3) (by decide)
 obtain ⟨ks, kl, ck⟩ := zfI D.int ns (some 4) (some 11)
 have sl : WE (fSl (fV 0) (oS (fC (.int 4))) (oS (fC (.int 11))) slP) (A5 ns (sT (ye n m J e Ds S)) (sI w) none none) (zL ks) :=
  zaX (lo := some 4) (hi := some 11) (WD.e (zb (i := 0) rfl)) (Vj zc) (Vj zc) (by show some (R0.fl (PF.cutD (ns.map D.int) (some 4) (some 11))) = _; rw [ck])
 have sa := zoK (g := zm .Add) (vD (os := [lfI c3]) (zq h3 yp) (szl rfl) rfl rfl) sl (add_lists (xs := [D.int c3]) (ys := ks.map D.int) (szs (by rw [zD]; show 1 + ks.length <= _; omega)))
 obtain ⟨qs, ql, cq⟩ := zfI D.int (c3 :: ks) none (some w)
 have sb := zaX (fl := oN) (lo := none) (hi := some w) (g := slP) (zs := qs.map D.int) sa rfl (Vj (zb (i := 2) rfl)) (by show some (R0.fl (PF.cutD ((c3 :: ks).map D.int) none (some w))) = _; rw [cq])
 obtain ⟨as', hl, n', m', J', e', D', S', e3, e4, rfl, A'⟩ := xW (g := gN 3) (f := zpv) (λ _ as => ∃ n m J e Ds S e3 e4, as = A5 ns (sT (ye n m J e Ds S)) (sI w) e3 e4 /\ Alg n m J e Ds) ((qs.map D.int).map λ d => (true, d)) 0 (A5 ns (sT (ye n m J e Ds S)) (sI w) none none) (λ i x as hx hI => by
  obtain ⟨n', m', J', e', D', S', e3, e4, rfl, A'⟩ := hI
  rw [List.map_map, zzG] at hx
  cases hq : qs[i]? with
  | none => rw [hq] at hx; cases hx
  | some c =>
   rw [hq] at hx
   cases hx
   obtain ⟨n2, m2, J2, ee2, D2, S2, f4, A2, hB⟩ := zmA (ns := ns) (S := S') (e2 := sI w) (e4 := e4) (c := c) A'
   exact ⟨A5 ns (sT (ye n' m' J' e' D' S')) (sI w) (sI c) e4, rfl, _, hB, n2, m2, J2, ee2, D2, S2, _, _, rfl, A2⟩) ⟨n, m, J, e, Ds, S, none, none, rfl, A⟩
 exact zcu rfl (yx s1 (yx (ym t1 rfl) (yx (ym t2 rfl) (yx s2 (yx (wR (zlz sb) hl) (zdI zc))))))
end G13
end
namespace G13
open PySem PySem.W PyProof.Rows L2
abbrev kF (n q : Str) (s : Stmt) (pm cd : Value) : Obj := ⟨.type "function", none, .func (fnOf n q (zgq s) (zaL s) (zE s) .none .none .none pm none cd .none), #[]⟩
abbrev kC (n : Str) (a : Nat) (q : Str) (b c : Nat) (i3 i4 i5 i6 i7 : Int) (r8 : Addr) (b9 : Bool) (i10 : Int) (r11 r13 r14 r15 : Addr) (i16 i17 : Int) (d : Nat) : Obj := ⟨.type "code", none, .fields #[.str n a, .str q b, .str "/claim/cut.py" c, .int i3 0, .int i4 0, .int i5 0, .int i6 0, .int i7 0, .ref r8, .bool b9, .int i10 0, .ref r11, .none, .ref r13, .ref r14, .ref r15, .int i16 0, .int i17 0, .str "/claim/cut.py" d], #[]⟩
abbrev kD (es : List DictEntry) (n : Nat) : Obj := ⟨.type "dict", none, .dict es.toArray n, #[]⟩
abbrev kE (P : Params) (x : Str) (t : Nat) (v : Value) : DictEntry := ⟨PyData.keyHash P x, .str x t, v⟩
abbrev kR (P : Params) (x : Str) (t : Nat) (a : Addr) : DictEntry := kE P x t (.ref a)
def K (P : Params) : Frag :=
 (nat_lit 3, kD [kE P "__name__" 165 (.str "law_stretchdeeds_k13_what_fails" 246), kE P "__doc__" 166 .none, kE P "__package__" 167 .none, kE P "__loader__" 168 (.builtin "__main__.__loader__#opaque"), kE P "__spec__" 169 .none, kR P "__annotations__" 170 6, kR P "__builtins__" 171 4, kE P "__file__" 173 (.str "/claim/cut.py" 172), kE P "__cached__" 174 .none, kR P "nothing_fails" 198 21, kR P "parting_fails" 210 28, kR P "doing_fails" 226 35, kR P "deeds_fail" 237 42, kR P "what_fails" 245 49, kR P "_law_cell_at" 255 56, kR P "_law_whole" 262 63, kR P "_law_stream" 273 70, kR P "_law_names" 279 75, kR P "_law_divisor" 287 82, kR P "_law_sums" 293 87, kR P "_law_rising" 299 92, kR P "_law_kept" 305 97, kR P "_law_joins" 311 102, kR P "_law_rows" 317 107, kR P "_law_plain" 323 112, kR P "_law_beside" 329 117, kR P "_law_made" 343 124, kR P "_law_order" 354 131, kR P "_law_signs" 360 136, kR P "_law_algebra" 366 141, kR P "_law_bent" 372 146, kR P "_law_parting" 384 153, kR P "_law_doing" 402 160, kR P "_law_fails" 418 167, kR P "_law_digits" 429 174, kR P "_law_by_digits" 435 179, kR P "_law_free" 453 186, kR P "_law_told" 459 191, kR P "law" 465 196] 39) ::
 (nat_lit 20, kC "nothing_fails" 189 "nothing_fails" 190 191 2 1 0 0 3 15 true 181 16 17 18 19 196 2 197) ::
 (nat_lit 21, kF "nothing_fails" "nothing_fails" vW (.str "stretchdeeds.algebras" 187) (.ref 20)) ::
 (nat_lit 27, kC "parting_fails" 199 "parting_fails" 200 201 9 1 0 0 3 22 true 181 23 24 25 26 208 9 209) ::
 (nat_lit 28, kF "parting_fails" "parting_fails" vU (.str "stretchdeeds.algebras" 187) (.ref 27)) ::
 (nat_lit 34, kC "doing_fails" 211 "doing_fails" 212 213 18 3 0 0 3 29 true 181 30 31 32 33 224 18 225) ::
 (nat_lit 35, kF "doing_fails" "doing_fails" Zx (.str "stretchdeeds.algebras" 187) (.ref 34)) ::
 (nat_lit 41, kC "deeds_fail" 227 "deeds_fail" 228 229 29 1 0 0 3 36 true 181 37 38 39 40 235 29 236) ::
 (nat_lit 42, kF "deeds_fail" "deeds_fail" Yl (.str "stretchdeeds.algebras" 187) (.ref 41)) ::
 (nat_lit 48, kC "what_fails" 238 "what_fails" 239 240 38 1 0 0 3 43 true 181 44 45 46 47 243 38 244) ::
 (nat_lit 49, kF "what_fails" "what_fails" Yj (.str "stretchdeeds.algebras" 187) (.ref 48)) ::
 (nat_lit 55, kC "_law_cell_at" 248 "_law_cell_at" 249 250 46 2 0 0 3 50 true 181 51 52 53 54 253 46 254) ::
 (nat_lit 56, kF "_law_cell_at" "_law_cell_at" ZJ (.str "law_stretchdeeds_k13_what_fails" 246) (.ref 55)) ::
 (nat_lit 62, kC "_law_whole" 256 "_law_whole" 257 258 50 1 0 0 3 57 true 181 58 59 60 61 260 50 261) ::
 (nat_lit 63, kF "_law_whole" "_law_whole" YZ (.str "law_stretchdeeds_k13_what_fails" 246) (.ref 62)) ::
 (nat_lit 69, kC "_law_stream" 263 "_law_stream" 264 265 52 2 0 0 3 64 true 181 65 66 67 68 271 52 272) ::
 (nat_lit 70, kF "_law_stream" "_law_stream" Yg (.str "law_stretchdeeds_k13_what_fails" 246) (.ref 69)) ::
 (nat_lit 74, ⟨.type "code", none, .fields #[(.str "_law_names" 274), (.str "_law_names" 275), (.str "/claim/cut.py" 276), (.int (59) 0), (.int (2) 0), (.int (0) 0), (.int (0) 0), (.int (3) 0), (.ref 71), (.bool true), (.int (181) 0), (.ref 72), .none, .none, .none, (.ref 73), (.int (277) 0), (.int (59) 0), (.str "/claim/cut.py" 278)], #[]⟩) ::
 (nat_lit 75, kF "_law_names" "_law_names" ZL (.str "law_stretchdeeds_k13_what_fails" 246) (.ref 74)) ::
 (nat_lit 81, kC "_law_divisor" 280 "_law_divisor" 281 282 68 2 0 0 3 76 true 181 77 78 79 80 285 68 286) ::
 (nat_lit 82, kF "_law_divisor" "_law_divisor" ZK (.str "law_stretchdeeds_k13_what_fails" 246) (.ref 81)) ::
 (nat_lit 86, ⟨.type "code", none, .fields #[(.str "_law_sums" 288), (.str "_law_sums" 289), (.str "/claim/cut.py" 290), (.int (72) 0), (.int (3) 0), (.int (0) 0), (.int (0) 0), (.int (3) 0), (.ref 83), (.bool true), (.int (181) 0), (.ref 84), .none, .none, .none, (.ref 85), (.int (291) 0), (.int (72) 0), (.str "/claim/cut.py" 292)], #[]⟩) ::
 (nat_lit 87, kF "_law_sums" "_law_sums" YH (.str "law_stretchdeeds_k13_what_fails" 246) (.ref 86)) ::
 (nat_lit 91, ⟨.type "code", none, .fields #[(.str "_law_rising" 294), (.str "_law_rising" 295), (.str "/claim/cut.py" 296), (.int (78) 0), (.int (3) 0), (.int (0) 0), (.int (0) 0), (.int (3) 0), (.ref 88), (.bool true), (.int (181) 0), (.ref 89), .none, .none, .none, (.ref 90), (.int (297) 0), (.int (78) 0), (.str "/claim/cut.py" 298)], #[]⟩) ::
 (nat_lit 92, kF "_law_rising" "_law_rising" vB (.str "law_stretchdeeds_k13_what_fails" 246) (.ref 91)) ::
 (nat_lit 96, ⟨.type "code", none, .fields #[(.str "_law_kept" 300), (.str "_law_kept" 301), (.str "/claim/cut.py" 302), (.int (82) 0), (.int (3) 0), (.int (0) 0), (.int (0) 0), (.int (3) 0), (.ref 93), (.bool true), (.int (181) 0), (.ref 94), .none, .none, .none, (.ref 95), (.int (303) 0), (.int (82) 0), (.str "/claim/cut.py" 304)], #[]⟩) ::
 (nat_lit 97, kF "_law_kept" "_law_kept" Zr (.str "law_stretchdeeds_k13_what_fails" 246) (.ref 96)) ::
 (nat_lit 101, ⟨.type "code", none, .fields #[(.str "_law_joins" 306), (.str "_law_joins" 307), (.str "/claim/cut.py" 308), (.int (85) 0), (.int (2) 0), (.int (0) 0), (.int (0) 0), (.int (3) 0), (.ref 98), (.bool true), (.int (181) 0), (.ref 99), .none, .none, .none, (.ref 100), (.int (309) 0), (.int (85) 0), (.str "/claim/cut.py" 310)], #[]⟩) ::
 (nat_lit 102, kF "_law_joins" "_law_joins" wJ (.str "law_stretchdeeds_k13_what_fails" 246) (.ref 101)) ::
 (nat_lit 106, ⟨.type "code", none, .fields #[(.str "_law_rows" 312), (.str "_law_rows" 313), (.str "/claim/cut.py" 314), (.int (96) 0), (.int (4) 0), (.int (0) 0), (.int (0) 0), (.int (3) 0), (.ref 103), (.bool true), (.int (181) 0), (.ref 104), .none, .none, .none, (.ref 105), (.int (315) 0), (.int (96) 0), (.str "/claim/cut.py" 316)], #[]⟩) ::
 (nat_lit 107, kF "_law_rows" "_law_rows" YF (.str "law_stretchdeeds_k13_what_fails" 246) (.ref 106)) ::
 (nat_lit 111, ⟨.type "code", none, .fields #[(.str "_law_plain" 318), (.str "_law_plain" 319), (.str "/claim/cut.py" 320), (.int (104) 0), (.int (5) 0), (.int (0) 0), (.int (0) 0), (.int (3) 0), (.ref 108), (.bool true), (.int (181) 0), (.ref 109), .none, .none, .none, (.ref 110), (.int (321) 0), (.int (104) 0), (.str "/claim/cut.py" 322)], #[]⟩) ::
 (nat_lit 112, kF "_law_plain" "_law_plain" ZV (.str "law_stretchdeeds_k13_what_fails" 246) (.ref 111)) ::
 (nat_lit 116, ⟨.type "code", none, .fields #[(.str "_law_beside" 324), (.str "_law_beside" 325), (.str "/claim/cut.py" 326), (.int (107) 0), (.int (3) 0), (.int (0) 0), (.int (0) 0), (.int (3) 0), (.ref 113), (.bool true), (.int (181) 0), (.ref 114), .none, .none, .none, (.ref 115), (.int (327) 0), (.int (107) 0), (.str "/claim/cut.py" 328)], #[]⟩) ::
 (nat_lit 117, kF "_law_beside" "_law_beside" Zd (.str "law_stretchdeeds_k13_what_fails" 246) (.ref 116)) ::
 (nat_lit 123, kC "_law_made" 330 "_law_made" 331 332 126 3 0 0 3 118 true 181 119 120 121 122 341 126 342) ::
 (nat_lit 124, kF "_law_made" "_law_made" XS (.str "law_stretchdeeds_k13_what_fails" 246) (.ref 123)) ::
 (nat_lit 130, kC "_law_order" 344 "_law_order" 345 346 139 2 0 0 3 125 true 181 126 127 128 129 352 139 353) ::
 (nat_lit 131, kF "_law_order" "_law_order" YM (.str "law_stretchdeeds_k13_what_fails" 246) (.ref 130)) ::
 (nat_lit 135, ⟨.type "code", none, .fields #[(.str "_law_signs" 355), (.str "_law_signs" 356), (.str "/claim/cut.py" 357), (.int (145) 0), (.int (3) 0), (.int (0) 0), (.int (0) 0), (.int (3) 0), (.ref 132), (.bool true), (.int (181) 0), (.ref 133), .none, .none, .none, (.ref 134), (.int (358) 0), (.int (145) 0), (.str "/claim/cut.py" 359)], #[]⟩) ::
 (nat_lit 136, kF "_law_signs" "_law_signs" ZR (.str "law_stretchdeeds_k13_what_fails" 246) (.ref 135)) ::
 (nat_lit 140, ⟨.type "code", none, .fields #[(.str "_law_algebra" 361), (.str "_law_algebra" 362), (.str "/claim/cut.py" 363), (.int (150) 0), (.int (2) 0), (.int (0) 0), (.int (0) 0), (.int (3) 0), (.ref 137), (.bool true), (.int (181) 0), (.ref 138), .none, .none, .none, (.ref 139), (.int (364) 0), (.int (150) 0), (.str "/claim/cut.py" 365)], #[]⟩) ::
 (nat_lit 141, kF "_law_algebra" "_law_algebra" wM (.str "law_stretchdeeds_k13_what_fails" 246) (.ref 140)) ::
 (nat_lit 145, ⟨.type "code", none, .fields #[(.str "_law_bent" 367), (.str "_law_bent" 368), (.str "/claim/cut.py" 369), (.int (168) 0), (.int (2) 0), (.int (0) 0), (.int (0) 0), (.int (3) 0), (.ref 142), (.bool true), (.int (181) 0), (.ref 143), .none, .none, .none, (.ref 144), (.int (370) 0), (.int (168) 0), (.str "/claim/cut.py" 371)], #[]⟩) ::
 (nat_lit 146, kF "_law_bent" "_law_bent" Zt (.str "law_stretchdeeds_k13_what_fails" 246) (.ref 145)) ::
 (nat_lit 152, kC "_law_parting" 373 "_law_parting" 374 375 182 3 0 0 3 147 true 181 148 149 150 151 382 182 383) ::
 (nat_lit 153, kF "_law_parting" "_law_parting" ZC (.str "law_stretchdeeds_k13_what_fails" 246) (.ref 152)) ::
 (nat_lit 159, kC "_law_doing" 385 "_law_doing" 386 387 192 5 0 0 3 154 true 181 155 156 157 158 400 192 401) ::
 (nat_lit 160, kF "_law_doing" "_law_doing" Y5 (.str "law_stretchdeeds_k13_what_fails" 246) (.ref 159)) ::
 (nat_lit 166, kC "_law_fails" 403 "_law_fails" 404 405 201 1 0 0 3 161 true 181 162 163 164 165 416 201 417) ::
 (nat_lit 167, kF "_law_fails" "_law_fails" YT (.str "law_stretchdeeds_k13_what_fails" 246) (.ref 166)) ::
 (nat_lit 173, kC "_law_digits" 419 "_law_digits" 420 421 210 3 0 0 3 168 true 181 169 170 171 172 427 210 428) ::
 (nat_lit 174, kF "_law_digits" "_law_digits" Yi (.str "law_stretchdeeds_k13_what_fails" 246) (.ref 173)) ::
 (nat_lit 178, ⟨.type "code", none, .fields #[(.str "_law_by_digits" 430), (.str "_law_by_digits" 431), (.str "/claim/cut.py" 432), (.int (216) 0), (.int (2) 0), (.int (0) 0), (.int (0) 0), (.int (3) 0), (.ref 175), (.bool true), (.int (181) 0), (.ref 176), .none, .none, .none, (.ref 177), (.int (433) 0), (.int (216) 0), (.str "/claim/cut.py" 434)], #[]⟩) ::
 (nat_lit 179, kF "_law_by_digits" "_law_by_digits" wF (.str "law_stretchdeeds_k13_what_fails" 246) (.ref 178)) ::
 (nat_lit 185, kC "_law_free" 436 "_law_free" 437 438 225 2 0 0 3 180 true 181 181 182 183 184 451 225 452) ::
 (nat_lit 186, kF "_law_free" "_law_free" XF (.str "law_stretchdeeds_k13_what_fails" 246) (.ref 185)) ::
 (nat_lit 190, ⟨.type "code", none, .fields #[(.str "_law_told" 454), (.str "_law_told" 455), (.str "/claim/cut.py" 456), (.int (236) 0), (.int (2) 0), (.int (0) 0), (.int (0) 0), (.int (3) 0), (.ref 187), (.bool true), (.int (181) 0), (.ref 188), .none, .none, .none, (.ref 189), (.int (457) 0), (.int (236) 0), (.str "/claim/cut.py" 458)], #[]⟩) ::
 (nat_lit 191, kF "_law_told" "_law_told" YD (.str "law_stretchdeeds_k13_what_fails" 246) (.ref 190)) ::
 (nat_lit 195, ⟨.type "code", none, .fields #[(.str "law" 460), (.str "law" 461), (.str "/claim/cut.py" 462), (.int (248) 0), (.int (1) 0), (.int (0) 0), (.int (0) 0), (.int (3) 0), (.ref 192), (.bool true), (.int (181) 0), (.ref 193), .none, .none, .none, (.ref 194), (.int (463) 0), (.int (248) 0), (.str "/claim/cut.py" 464)], #[]⟩) ::
 (nat_lit 196, kF "law" "law" zgV (.str "law_stretchdeeds_k13_what_fails" 246) (.ref 195)) ::
 []
def kA : List Addr := [3, 20, 21, 27, 28, 34, 35, 41, 42, 48, 49, 55, 56, 62, 63, 69, 70, 74, 75, 81, 82, 86, 87, 91, 92, 96, 97, 101, 102, 106, 107, 111, 112, 116, 117, 123, 124, 130, 131, 135, 136, 140, 141, 145, 146, 152, 153, 159, 160, 166, 167, 173, 174, 178, 179, 185, 186, 190, 191, 195, 196]
def qv : Program := { PySem.Challenge.pw_stretchdeeds_k13_what_fails with main := { PySem.Challenge.pw_stretchdeeds_k13_what_fails.main with body := [1, 2, 3, 4, 5, 7, 8, 9, 10, 11, 12, 13, 14, 15, 16, 17, 18, 19, 20, 21, 22, 23, 24, 25, 26, 27, 28, 29, 30, 31].map top } }
theorem kAe (P : Params) : kA = (K P).map (·.1) := by kernel_rfl
set_option maxRecDepth 100000
theorem ws : PySem.Challenge.rw_stretchdeeds_k13_what_fails.wellSaid = true := by kernel_rfl
abbrev Xt (s : Shared) : Bool := xlAt qv [] s && recOk (RowW.records (OpenRow.toRowW PySem.Challenge.rw_stretchdeeds_k13_what_fails.row)) s
abbrev hk : Hook := kHook K kA kAe
theorem hl : LeftO PySem.Challenge.pw_stretchdeeds_k13_what_fails qv [] Xt hk.obs hk.val 4000 := λ w => by kernel_rfl
end G13
open PySem PySem.W PyProof.Rows
set_option maxRecDepth 100000 in
set_option maxHeartbeats 0 in
theorem PySem.Challenge.cw_stretchdeeds_k13_what_fails_holds : PySem.Challenge.rw_stretchdeeds_k13_what_fails.Holds := by
 w_on; refine holds_law G13.ws λ said => ?_
 refine holds_open (q := G13.qv) (loose := []) (Xt := G13.Xt) (XP := XL G13.qv []) (Yf := Hook.obs (kHook G13.K G13.kA G13.kAe)) (Ya := Hook.val (kHook G13.K G13.kA G13.kAe)) (YP := Hook.says (kHook G13.K G13.kA G13.kAe)) (N := 4000) G13.hl (Hook.of (kHook G13.K G13.kA G13.kAe)) (Hook.keeps (kHook G13.K G13.kA G13.kAe)) (λ s e => xl_of s (Bool.and_eq_true_iff.mp e).1) XL.keeps (by rfl) (by rfl) (by rfl) (λ s e => recFacts_of (Bool.and_eq_true_iff.mp e).2) (by rfl) (by first | assumption | decide +kernel) (by decide +kernel) ⟨rfl, rfl, rfl, rfl, rfl, by decide +kernel⟩ ?hw ?hc
 (case hw => w_witness2)
 k_fill
 refine G13.walk (l := PySem.Challenge.rw_stretchdeeds_k13_what_fails) rfl rfl (λ w h Y => PySem.W.kIn_of Y) G13.zkP ?F
 case F =>
  intro w mg fa h KX G hmg
  refine' G13.zoD KX G hmg ?_ ?_ ?_ ?_ ?_ ?_ ?_ ?_ ?_ ?_ ?_ ?_ ?_ ?_ ?_ ?_ ?_ ?_ ?_ ?_ ?_ ?_ ?_ ?_ ?_ ?_ ?_ ?_ ?_ ?_ ?_ ?_ ?_ ?_ ?_ ?_ ?_ ?_ ?_ ?_ ?_ ?_ ?_ ?_ ?_ ?_ ?_ ?_ ?_ ?_ ?_ ?_ ?_ ?_ ?_ ?_ ?_ ?_ ?_ ?_ ?_ ?_ ?_ ?_ ?_ ?_ ?_ ?_ ?_ ?_ ?_ ?_
  all_goals try first | k_is | (change _ = _; k_is) | exact ⟨_, ⟨_, _, _, _, _, _, _, _, _, rfl, by k_is, by k_is⟩, by k_is⟩ | rfl
#print axioms PySem.Challenge.cw_stretchdeeds_k13_what_fails_holds
