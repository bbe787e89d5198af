import PyProof.Rows.All
import Wide.All
import OpenK.AllK
import Wide.FinOn
import PyProof.EqAt
import PyProof.EqKinds
import PyProof.TupleCall
import PyProof.NeKinds
import PyProof.AutoSeq1
import KE.LcSums
import PyProof.Rows.StrWeight2
import PyProof.StrBlockG
import KE.KIntText
import PyProof.CallStr
import PyProof.WalksEnum
import PyProof.Rows.EnumRows
import PyProof.Rows.FactsT2
import KE.KRevIter
import PyProof.StrWalks
import PyProof.ReprRoads
import PyProof.StrLawsTight
import PyProof.Rows.StrItems
import PyProof.Rows.ReprOcc
import PyProof.Rows.StrJoinMade
import PyProof.ReprLen
import PyProof.ZipIter
import PyProof.Rows.SortWalk
import PyProof.ListRange
import PyProof.AttrMissHeap
import PyProof.Rows.SumAny
import Lean
import PySem.Challenge.RW_stretchdeeds_k23_whole_rows_of_an_algebr
set_option Elab.async false
set_option linter.all false
set_option maxRecDepth 100000
abbrev zC := PySem.W.Frag
abbrev zD := @List.length_map
abbrev zS := @List.mem_cons
abbrev zzA := @List.mem_cons_of_mem
abbrev zzB := @List.getElem?_eq_getElem
abbrev zzC := @List.mem_cons_self
abbrev zzD := @List.getElem?_eq_some_iff
abbrev zzE := @List.size_toArray
abbrev zzF := @List.getElem?_map
abbrev zzG := @List.length_append
abbrev zzH := @Nat.lt_of_lt_of_le
abbrev zzI := @List.mem_append_right
abbrev zzJ := @List.mem_append
abbrev zzK := @Nat.le_refl
abbrev zzL := @Nat.le_trans
abbrev zzM := @List.mem_append_left
abbrev zzN := @Nat.ne_of_lt
abbrev zzO := @List.mem_singleton
abbrev zzP := @List.length_take
abbrev zzQ := @List.length_cons
abbrev zzR := @List.length_set
abbrev zzS := @Int.natCast_mul
abbrev zzT := @List.nodup_cons
abbrev zzU := @Option.map_eq_some_iff
abbrev zzV := @List.getElem?_set_ne
section
namespace L2
open PySem PySem.Spec PyProof.Rows
abbrev Key := Sum Int Str
def zee : Key -> Value -> Bool
 | .inl k, v => Value.isInt k v
 | .inr x, v => Value.isStrOf x v
def zsf (w : World) : Key -> Int
 | .inl k => hashInt k
 | .inr x => hashStr w x
theorem xF : ∀ {k : Key} {v : Value}, zee k v = true -> (∃ i t, k = Sum.inl i /\ v = Value.int i t) \/ (∃ x t, k = Sum.inr x /\ v = Value.str x t)
 | .inl i, v, h => by
  obtain ⟨t, e⟩ := Value.isInt_shape (k := i) (v := v) h
  exact .inl ⟨i, t, rfl, e⟩
 | .inr x, v, h => by
  obtain ⟨t, e⟩ := Value.isStrOf_shape (x := x) (v := v) h
  exact .inr ⟨x, t, rfl, e⟩
theorem zjj (i : Int) (t : Tok) : zee (.inl i) (.int i t) = true := by simp [zee, Value.isInt]
theorem zjF (x : Str) (t : Tok) : zee (.inr x) (.str x t) = true := by simp [zee, Value.isStrOf]
theorem zoj (a b : Int) : decide ((Sum.inl a : Key) = Sum.inl b) = (a == b) := by
 by_cases e : a = b
 · subst e; simp
 · have h : ¬ (Sum.inl a : Key) = Sum.inl b := λ q => e (Sum.inl.inj q)
   rw [decide_eq_false h]
   exact (beq_eq_false_iff_ne.mpr e).symm
theorem zoM (a b : Str) : decide ((Sum.inr a : Key) = Sum.inr b) = decide (a = b) := by
 by_cases e : a = b
 · subst e; simp
 · have h : ¬ (Sum.inr a : Key) = Sum.inr b := λ q => e (Sum.inr.inj q)
   rw [decide_eq_false h, decide_eq_false e]
theorem zpj (a : Int) (b : Str) : decide ((Sum.inl a : Key) = Sum.inr b) = false := decide_eq_false (λ q => nomatch q)
theorem zpr (a : Str) (b : Int) : decide ((Sum.inr a : Key) = Sum.inl b) = false := decide_eq_false (λ q => nomatch q)
def wC (prog : Program) (w : World) : PySem.KeyKind prog w Key where
 is := zee
 hash := zsf w
 inj := λ v a b ha hb => by
  rcases xF ha with ⟨i, t, rfl, rfl⟩ | ⟨x, t, rfl, rfl⟩
  · rcases xF hb with ⟨j, u, rfl, e⟩ | ⟨y, u, rfl, e⟩
    · injection e with e1 _; rw [e1]
    · exact nomatch e
  · rcases xF hb with ⟨j, u, rfl, e⟩ | ⟨y, u, rfl, e⟩
    · exact nomatch e
    · injection e with e1 _; rw [e1]
 byValue := λ k v h => by
  rcases xF h with ⟨i, t, rfl, rfl⟩ | ⟨x, t, rfl, rfl⟩ <;> rfl
 pyHash := λ hv h => by
  rcases xF hv with ⟨i, t, rfl, rfl⟩ | ⟨x, t, rfl, rfl⟩
  · exact wpAny_pyHash_int h
  · exact wpAny_pyHash_str h
 eqBool := λ hu hv h => by
  rcases xF hu with ⟨i, t, rfl, rfl⟩ | ⟨x, t, rfl, rfl⟩
  · rcases xF hv with ⟨j, u, rfl, rfl⟩ | ⟨y, u, rfl, rfl⟩
    · rw [zoj] at h; exact wpAny_eqBool_int h
    · rw [zpj] at h; exact SeqAt.EqAt.int_str i t y u _ _ _ _ h
  · rcases xF hv with ⟨j, u, rfl, rfl⟩ | ⟨y, u, rfl, rfl⟩
    · rw [zpr] at h; exact SeqAt.EqAt.str_int x t j u _ _ _ _ h
    · rw [zoM] at h; exact wpAny_eqBool_str h
 «strs» := λ k x t v h => by
  rcases xF h with ⟨i, u, rfl, e⟩ | ⟨y, u, rfl, e⟩
  · exact nomatch e
  · injection e with e1 _
    subst e1
    cases v <;> rfl
theorem zgC (prog : Program) (w : World) (i : Int) (t : Tok) : (wC prog w).is (.inl i) (.int i t) = true := zjj i t
theorem Wy (prog : Program) (w : World) (x : Str) (t : Tok) : (wC prog w).is (.inr x) (.str x t) = true := zjF x t
end L2
namespace L2
open PySem PySem.Spec PyProof.Rows
inductive V where
 | non | bl (b : Bool) | int (i : Int) | str (x : Str) | byt (b : Array UInt8) | flt (b : UInt64) | ref (a : Addr) | ty (n : String)
 deriving DecidableEq
def RelV : V -> Value -> Prop
 | .non, u => u = Value.none
 | .bl b, u => u = Value.bool b
 | .int i, u => ∃ t, u = Value.int i t
 | .str x, u => ∃ t, u = Value.str x t
 | .byt b, u => ∃ t, u = Value.bytes b t
 | .flt b, u => ∃ t, u = Value.float b t
 | .ref a, u => u = Value.ref a
 | .ty n, u => u = Value.type n
abbrev Vals : List V -> List Value -> Prop := Paired RelV
theorem Vals.length {xs : List V} {us : List Value} (r : Vals xs us) : xs.length = us.length := Paired.length r
theorem Vals.get : ∀ {xs : List V} {us : List Value} {i : Nat} {x : V}, Vals xs us -> xs[i]? = some x -> ∃ u, us[i]? = some u /\ RelV x u
 | _, _, _, _, .nil, e => by simp at e
 | _, _, 0, _, .cons r _, e => by simp at e; subst e; exact ⟨_, rfl, r⟩
 | _, _, i + 1, x, .cons _ t, e => by
  obtain ⟨u, h1, h2⟩ := Vals.get (i := i) (x := x) t (by simpa using e)
  exact ⟨u, by simpa using h1, h2⟩
theorem Vals.set {x : V} {u : Value} (r : RelV x u) : ∀ {xs : List V} {us : List Value} (i : Nat), Vals xs us -> Vals (xs.set i x) (us.set i u)
 | _, _, _, .nil => .nil
 | _, _, 0, .cons _ t => .cons r t
 | _, _, i + 1, .cons q t => .cons q (Vals.set r i t)
theorem Vals.append : ∀ {xs ys : List V} {us ws : List Value}, Vals xs us -> Vals ys ws -> Vals (xs ++ ys) (us ++ ws)
 | _, _, _, _, .nil, s => s
 | _, _, _, _, .cons r t, s => .cons r (Vals.append t s)
theorem Vals.take : ∀ {xs : List V} {us : List Value} (n : Nat), Vals xs us -> Vals (xs.take n) (us.take n)
 | _, _, 0, _ => .nil
 | _, _, _ + 1, .nil => .nil
 | _, _, n + 1, .cons r t => .cons r (Vals.take n t)
theorem Vals.drop : ∀ {xs : List V} {us : List Value} (n : Nat), Vals xs us -> Vals (xs.drop n) (us.drop n)
 | _, _, 0, r => r
 | _, _, _ + 1, .nil => .nil
 | _, _, n + 1, .cons _ t => Vals.drop n t
def zaJ : Option V -> Option Value -> Prop
 | some v, some u => RelV v u
 | none, none => True
 | _, _ => False
def KV {κ : Type} : List (κ × V) -> List (κ × Value) -> Prop := Paired λ (p : κ × V) (q : κ × Value) => p.1 = q.1 /\ RelV p.2 q.2
def kV : Key -> V
 | .inl i => .int i
 | .inr x => .str x
inductive HO where
 | lst (xs : List V)
 | tup (xs : List V)
 | dK (kvs : List (Key × V)) | dT (kvs : List (List Key × V))
 | set (S : Int -> Bool) (n : Nat)
 | ins (C dx : Addr) (fs : List (Str × V))
 | own (x : Addr)
 | xd (fs : List (Str × V))
 | met (f x : Addr)
 | rng (lo hi : Int)
 | frz (o : Obj) (u : HO)
 | tbl (ps : Array Value)
 | ext (φ : Heap -> Prop)
abbrev Hp := Addr -> Option HO
def upd (H : Hp) (a : Addr) (o : HO) : Hp := λ b => if b = a then some o else H b
theorem yc {H : Hp} {a : Addr} {o : HO} : upd H a o a = some o := by unfold upd; rw [if_pos rfl]
theorem zO {H : Hp} {a b : Addr} {o : HO} (h : b ≠ a) : upd H a o b = H b := by unfold upd; rw [if_neg h]
theorem yd {H : Hp} {a b : Addr} {o : HO} (h : H a = some o) (h' : H b = none) : a ≠ b := by
 intro e; subst e; rw [h] at h'; cases h'
section
variable (P : Program) (w : World)
def wG (H : Hp) (h : Heap) (a : Addr) : HO -> Prop
 | .lst xs => xs.length <= sizeLine /\ ∃ (its : List Value) (n : Nat), Vals xs its /\ h.get? a = some { cls := .type "list", data := .seq its.toArray n }
 | .tup xs => xs.length <= sizeLine /\ ∃ its : List Value, Vals xs its /\ IsTup h a its.toArray
 | .dK kvs => kvs.length <= sizeLine /\ (a == sysModules) = false /\ ∃ vs, KV kvs vs /\ h.DictOf (wC P w) a vs
 | .dT kvs => kvs.length <= sizeLine /\ (a == sysModules) = false /\ ∃ xs : List (List Key × Addr × Value),
  Paired (λ (p : List Key × V) (q : List Key × Addr × Value) => p.1 = q.1 /\ H q.2.1 = some (.tup (p.1.map kV)) /\ RelV p.2 q.2.2) kvs xs /\
  ∃ o es ep, h.get? a = some o /\ o.ExactDict /\ o.data = .dict es ep /\ es.toList = xs.map (entryOfKey (tupleKind (wC P w))) /\ (xs.map (·.1)).Nodup
 | .set S n => h.SetOf (intKind P w) a S n
 | .ins C dx fs => H dx = some (.own a) /\ fs.length <= 1000 /\ dx ≠ a /\ h.get? a = some (PySem.W.instObj C dx) /\
  ∃ mA, h.Ns1 dx mA /\ (∀ f, zaJ (fs.lookup f) (mA f)) /\ PySem.Within mA (fs.map (·.1))
 | .own _ => ∃ o, h.get? a = some o
 | .xd fs => ∃ mA, h.Ns1 a mA /\ ∀ f, zaJ (fs.lookup f) (mA f)
 | .rng lo hi => ∃ t u v, h.get? a = some { cls := .type "range", data := .fields #[.int lo t, .int hi u, .int 1 v] }
 | .frz o u => h.get? a = some o /\ wG H h a u
 | .tbl ps => h.get? a = some { cls := .none, data := .fields ps }
 | .met f x => h.get? a = some (PySem.W.methodObj (.ref f) (.ref x))
 | .ext φ => φ h /\ (∃ o, h.get? a = some o) /\ ∀ h1 h2 : Heap, φ h1 -> (∀ o, h1.get? a = some o -> h2.get? a = some o) -> φ h2
def HOk (H : Hp) (h : Heap) : Prop := ∀ a o, H a = some o -> wG P w H h a o
end
section
variable {P : Program} {w : World} {H H' : Hp} {h h' : Heap} {a : Addr} {o : HO}
theorem wG.lt (x : wG P w H h a o) : a < h.objs.size := by
 cases o with
 | lst xs => obtain ⟨_, _, _, _, e⟩ := x; exact Heap.lt_size e
 | tup xs => obtain ⟨_, _, _, p⟩ := x; exact p.lt
 | dK kvs => obtain ⟨_, _, _, _, o, _, _, e, _⟩ := x; exact Heap.lt_size e
 | dT kvs => obtain ⟨_, _, _, _, o, _, _, e, _⟩ := x; exact Heap.lt_size e
 | set S n => obtain ⟨o, _, _, _, e, _⟩ := x; exact Heap.lt_size e
 | ins C dx fs => obtain ⟨_, _, _, e, _⟩ := x; exact Heap.lt_size e
 | own y => obtain ⟨_, e⟩ := x; exact Heap.lt_size e
 | xd fs => obtain ⟨_, ⟨_, _, _, e, _⟩, _⟩ := x; exact Heap.lt_size e
 | rng lo hi => obtain ⟨_, _, _, e⟩ := x; exact Heap.lt_size e
 | frz ob u => obtain ⟨e, _⟩ := x; exact Heap.lt_size e
 | tbl ps => exact Heap.lt_size (show h.get? a = some _ from x)
 | met f y => exact Heap.lt_size (show h.get? a = some _ from x)
 | ext φ => obtain ⟨_, ⟨_, e⟩, _⟩ := x; exact Heap.lt_size e
theorem Paired.mapP {α β : Type} {F G : α -> β -> Prop} : ∀ {l₁ : List α} {l₂ : List β}, Paired F l₁ l₂ -> (∀ a b, F a b -> G a b) -> Paired G l₁ l₂
 | _, _, .nil, _ => .nil
 | _, _, .cons r t, f => .cons (f _ _ r) (Paired.mapP t f)
theorem wG.stay (x : wG P w H h a o) (k : ∀ b u, (b = a \/ H b = some (.own a)) -> h.get? b = some u -> h'.get? b = some u)
 (ho : ∀ b, H b = some (.own a) -> H' b = some (.own a)) (ht : ∀ b xs, H b = some (.tup xs) -> H' b = some (.tup xs)) : wG P w H' h' a o := by
 induction o with
 | lst xs => obtain ⟨z, its, n, r, e⟩ := x; exact ⟨z, its, n, r, k _ _ (.inl rfl) e⟩
 | tup xs => obtain ⟨z, its, r, ob, e, c⟩ := x; exact ⟨z, its, r, ob, k _ _ (.inl rfl) e, c⟩
 | dK kvs => obtain ⟨z, y, vs, r, ob, es, ep, e, c⟩ := x; exact ⟨z, y, vs, r, ob, es, ep, k _ _ (.inl rfl) e, c⟩
 | dT kvs =>
  obtain ⟨z, y, xs, r, ob, es, ep, e, c⟩ := x
  exact ⟨z, y, xs, Paired.mapP r λ p q z => ⟨z.1, ht _ _ z.2.1, z.2.2⟩, ob, es, ep, k _ _ (.inl rfl) e, c⟩
 | set S n => obtain ⟨ob, es, ep, t, e, c⟩ := x; exact ⟨ob, es, ep, t, k _ _ (.inl rfl) e, c⟩
 | ins C dx fs =>
  obtain ⟨d, z, ne, e, mA, ⟨od, es, ep, e2, c⟩, r⟩ := x
  exact ⟨ho _ d, z, ne, k _ _ (.inl rfl) e, mA, ⟨od, es, ep, k _ _ (.inr d) e2, c⟩, r⟩
 | own y => obtain ⟨ob, e⟩ := x; exact ⟨ob, k _ _ (.inl rfl) e⟩
 | xd fs => obtain ⟨mA, ⟨od, es, ep, e, c⟩, r⟩ := x; exact ⟨mA, ⟨od, es, ep, k _ _ (.inl rfl) e, c⟩, r⟩
 | rng lo hi => obtain ⟨t, u, v, e⟩ := x; exact ⟨t, u, v, k _ _ (.inl rfl) e⟩
 | frz ob u ih => obtain ⟨e, q⟩ := x; exact ⟨k _ _ (.inl rfl) e, ih q⟩
 | tbl ps =>
  have e : h.get? a = some { cls := .none, data := .fields ps } := x
  show h'.get? a = some { cls := .none, data := .fields ps }
  exact k a _ (.inl rfl) e
 | met f y =>
  have e : h.get? a = some (PySem.W.methodObj (.ref f) (.ref y)) := x
  show h'.get? a = some (PySem.W.methodObj (.ref f) (.ref y))
  exact k a _ (.inl rfl) e
 | ext φ => obtain ⟨p, ⟨o, e⟩, st⟩ := x; exact ⟨st _ _ p λ o q => k _ _ (.inl rfl) q, ⟨o, k _ _ (.inl rfl) e⟩, st⟩
theorem HOk.lt (x : HOk P w H h) (e : H a = some o) : a < h.objs.size := (x a o e).lt
theorem HOk.fresh (x : HOk P w H h) (e : h.objs.size <= a) : H a = none := by
 cases q : H a with
 | none => rfl
 | some u => exact absurd (zzH (x.lt q) e) (Nat.lt_irrefl _)
theorem HOk.kept (x : HOk P w H h) (k : ∀ b u, h.get? b = some u -> h'.get? b = some u) : HOk P w H h' := λ a o e =>
 (x a o e).stay (λ b u _ q => k b u q) (λ _ q => q) λ _ _ q => q
theorem HOk.laid (x : HOk P w H h) (k : ∀ b u, h.get? b = some u -> h'.get? b = some u) (hp : h.objs.size <= a) (new : wG P w (upd H a o) h' a o) : HOk P w (upd H a o) h' := λ b u e => by
 have hn := x.fresh hp
 by_cases hb : b = a
 · subst hb; rw [yc] at e; cases e; exact new
 · rw [zO hb] at e
   exact (x b u e).stay (λ c v _ q => k c v q) (λ c q => by rw [zO (yd q hn)]; exact q) λ c xs q => by rw [zO (yd q hn)]; exact q
end
def Rd (H : Hp) (a : Addr) (u : HO) : Prop := H a = some u \/ ∃ o, H a = some (.frz o u)
theorem Rd.ok {P : Program} {w : World} {H : Hp} {h : Heap} {a : Addr} {u : HO} (r : Rd H a u) (x : HOk P w H h) : wG P w H h a u := by
 rcases r with r | ⟨o, r⟩
 · exact x a u r
 · obtain ⟨_, q⟩ := x a _ r
   exact q
def Mut : Option HO -> Prop
 | some (.lst _) => True
 | some (.dK _) => True
 | some (.dT _) => True
 | some (.set _ _) => True
 | some (.ins _ _ _) => True
 | some (.ext _) => True
 | _ => False
section
variable {P : Program} {w : World} {H : Hp} {h h' : Heap} {x e : Addr} {o' : HO}
theorem HOk.write (ok : HOk P w H h) (mu : Mut (H x)) (he : e = x \/ H e = some (.own x)) (k : ∀ b u, b ≠ e -> h.get? b = some u -> h'.get? b = some u) (heo : ∃ u, h'.get? e = some u)
 (new : wG P w (upd H x o') h' x o') : HOk P w (upd H x o') h' := λ b u q => by
 have nown : ∀ c y, H c = some (.own y) -> c ≠ x := λ c y r z => by subst z; rw [r] at mu; exact mu
 have ntup : ∀ c xs, H c = some (.tup xs) -> c ≠ x := λ c xs r z => by subst z; rw [r] at mu; exact mu
 by_cases hb : b = x
 · subst hb; rw [yc] at q; cases q; exact new
 · rw [zO hb] at q
   by_cases hbe : b = e
   · have q' : H b = some (.own x) := by
      rcases he with z | z
      · exact absurd (hbe.trans z) hb
      · rw [hbe]; exact z
     rw [q] at q'; cases q'
     obtain ⟨v, hv⟩ := heo
     exact ⟨v, by rw [hbe]; exact hv⟩
   · refine (ok b u q).stay (λ c v hc r => k c v ?_ r) (λ c r => by rw [zO (nown c b r)]; exact r) λ c xs r => by rw [zO (ntup c xs r)]; exact r
     rcases hc with rfl | hc
     · exact hbe
     · rintro rfl
       rcases he with z | z
       · exact nown c b hc z
       · rw [hc] at z; cases z; exact hb rfl
end
structure Un (fs ex : List Addr) (H H' : Hp) (h h' : Heap) : Prop where
 keep : ∀ b o, h.get? b = some o -> H b = none -> b ∉ fs -> b ∉ ex -> h'.get? b = some o
 slot : ∀ b o, h.get? b = some o -> H b = none -> b ∈ fs -> b ∉ ex -> ∃ sl, h'.get? b = some { o with slots := sl }
 free : ∀ b o, h.get? b = some o -> H b = none -> b ∉ ex -> H' b = none
 there : ∀ b o, h.get? b = some o -> b ∉ ex -> ∃ o', h'.get? b = some o'
 tups : ∀ b xs, H b = some (.tup xs) -> H' b = some (.tup xs)
 frzs : ∀ b o u, H b = some (.frz o u) -> H' b = some (.frz o u)
 tbls : ∀ b ps, H b = some (.tbl ps) -> ∃ more, H' b = some (.tbl (ps ++ more))
section
variable {fs fs' ex ex' : List Addr} {H H1 H2 : Hp} {h h1 h2 h' : Heap} {a x e : Addr} {o : HO}
theorem Un.any (u : Un fs ex H H1 h h1) {b : Addr} {ob : Obj} (q : h.get? b = some ob) (n : H b = none) (hx : b ∉ ex) : ∃ sl, h1.get? b = some { ob with slots := sl } := by
 by_cases hb : b ∈ fs
 · exact u.slot b ob q n hb hx
 · exact ⟨ob.slots, u.keep b ob q n hb hx⟩
theorem Un.kept (k : ∀ b u, h.get? b = some u -> h'.get? b = some u) : Un fs ex H H h h' :=
 ⟨λ b ob q _ _ _ => k b ob q, λ b ob q _ _ _ => ⟨ob.slots, k b ob q⟩, λ _ _ _ n _ => n, λ b ob q _ => ⟨ob, k b ob q⟩, λ _ _ q => q, λ _ _ _ q => q, λ _ ps q => ⟨#[], by rw [q]; simp⟩⟩
theorem Un.refl : Un fs ex H H h h := Un.kept λ _ _ q => q
theorem Un.laid (k : ∀ b u, h.get? b = some u -> h'.get? b = some u) (hp : h.objs.size <= a) (hn : H a = none) : Un fs ex H (upd H a o) h h' where
 keep := λ b u q _ _ _ => k b u q
 slot := λ b u q _ _ _ => ⟨u.slots, k b u q⟩
 free := λ b u q n _ => by rw [zO (zzN (zzH (Heap.lt_size q) hp))]; exact n
 there := λ b u q _ => ⟨u, k b u q⟩
 tups := λ b xs q => by rw [zO (yd q hn)]; exact q
 frzs := λ b u xs q => by rw [zO (yd q hn)]; exact q
 tbls := λ b ps q => ⟨#[], by rw [zO (yd q hn), q]; simp⟩
theorem Un.write (mu : Mut (H x)) (he : e = x \/ H e = some (.own x)) (k : ∀ b u, b ≠ e -> h.get? b = some u -> h'.get? b = some u) (heo : ∃ u, h'.get? e = some u) : Un fs ex H (upd H x o) h h' := by
 have hx : ∀ b, H b = none -> b ≠ x := λ b n z => by subst z; rw [n] at mu; exact mu
 have hb : ∀ b, H b = none -> b ≠ e := λ b n z => by
  subst z
  rcases he with r | r
  · exact hx b n r
  · rw [n] at r; cases r
 have hm : ∀ b u, H b = some u -> ¬ Mut (some u) -> b ≠ x := λ b u q nm z => by subst z; rw [q] at mu; exact nm mu
 refine ⟨λ b u q n _ _ => k b u (hb b n) q, λ b u q n _ _ => ⟨u.slots, k b u (hb b n) q⟩, λ b u q n _ => by rw [zO (hx b n)]; exact n, λ b u q _ => ?_,
  λ b xs q => by rw [zO (hm b _ q λ z => z)]; exact q, λ b u xs q => by rw [zO (hm b _ q λ z => z)]; exact q, λ b ps q => ⟨#[], by rw [zO (hm b _ q λ z => z), q]; simp⟩⟩
 by_cases hbe : b = e
 · subst hbe; exact heo
 · exact ⟨u, k b u hbe q⟩
end
def trk (h : Heap) (H : Hp) : List Addr := (List.range h.objs.size).filter λ a => (H a).isSome
def zfE (h : Heap) (H : Hp) : Heap := PySem.W.hideAll h (trk h H)
theorem zjs (h : Heap) (H : Hp) : (zfE h H).objs.size = h.objs.size := PySem.W.hideAll_size _ _
theorem zla {h : Heap} {H : Hp} {b : Addr} {o : Obj} (e : h.get? b = some o) (n : H b = none) : (zfE h H).get? b = some o :=
 PySem.W.hideAll_get _ e λ hm => by
  have q : (H b).isSome = true := (List.mem_filter.mp hm).2
  rw [n] at q; simp at q
theorem zml {h : Heap} {H : Hp} {b : Addr} {o : Obj} (e : (zfE h H).get? b = some o) : h.get? b = some o /\ H b = none := by
 have e' : h.get? b = some o := PySem.W.of_hideAll (trk h H) e
 refine ⟨e', ?_⟩
 cases q : H b with
 | none => rfl
 | some x =>
  have hm : b ∈ trk h H := List.mem_filter.mpr ⟨List.mem_range.mpr (Heap.lt_size e'), by simp [q]⟩
  have z : (zfE h H).get? b = none := PySem.W.hideAll_none (trk h H) hm
  rw [z] at e; cases e
end L2
namespace L2
open PySem PySem.Spec PyProof.Rows
structure Mod (K : zC) (mg : Str -> Option Value) (base : Heap) : Prop where
 kin : K.In base
 glob : base.Ns mainGlobals mg
 blt : ∃ mb, base.Ns builtinsNs mb /\ ∀ x : Str, x ≠ "__name__" -> mb x = bootBuiltins x
 nolimit : base.NoLimit
structure Cx where
 prog : Program
 w : World
 K : zC
 mg : Str -> Option Value
 base : Heap
 A : Around
 N : List Str
 s₀ : Shared
 H₀ : Hp
 env : Env
 outer : List Env
 stack : List Env
 ex : List Addr
 fn : Str -> Bool
 calm : Bool
 pn : List (Addr × Obj)
 xe : Value -> Shared -> Prop
def frs (l : List Env) : List Addr := l.filterMap (·.frame)
abbrev Cx.fs (X : Cx) : List Addr := frs X.outer
def Vis (sc : Scope) (x : Str) : Prop := sc.names.lookup x = some .local \/ sc.names.lookup x = some .cell \/ sc.names.lookup x = some .free
def Loc (sc : Scope) (x : Str) : Prop := sc.names.lookup x = some .local \/ sc.names.lookup x = some .cell
def Look (env : Env) (h : Heap) (m : Str -> Option Value) (x : Str) (u : Value) : Prop :=
 (env.kindOf x = some .local /\ m x = some u) \/ ((env.kindOf x = some .cell \/ env.kindOf x = some .free) /\ ∃ c, env.cells.lookup x = some c /\ h.IsCell c (some u))
structure Cx.Ok (X : Cx) : Prop where
 mod : Mod X.K X.mg X.base
 kind : X.env.scope.kind = .function
 glob : X.env.globals = mainGlobals
 blt : X.env.builtins = builtinsNs
 above : X.s₀.heap.objs.size <= X.env.locals
 inj : ∀ x y c, X.env.cells.lookup x = some c -> X.env.cells.lookup y = some c -> x = y
 has : ∀ x, (X.env.kindOf x = some .cell \/ X.env.kindOf x = some .free) -> ∃ c, X.env.cells.lookup x = some c
 cab : ∀ x c, X.fn x = true -> X.env.cells.lookup x = some c -> X.s₀.heap.objs.size <= c
 hd : X.calm = true -> X.A.handled = none
 frames : X.A.frames = some X.stack
 stk : X.stack = X.outer \/ (X.stack = X.env :: X.outer /\ X.env.frame = some X.env.locals)
 exf : ∀ b ∈ X.ex, b ≠ X.env.locals /\ ∀ x c, X.env.cells.lookup x = some c -> c ≠ b
 bs : ∀ b o, X.base.get? b = some o -> X.s₀.heap.get? b = some o /\ X.H₀ b = none
 bsz : X.base.objs.size <= X.s₀.heap.objs.size
 noex : ∀ b o, X.base.get? b = some o -> b ∉ X.ex
 exfs : ∀ b ∈ X.ex, b ∉ X.fs
 funs : X.s₀.heap.FunFrames X.base X.outer
 frf : ∀ b ∈ X.fs, X.H₀ b = none
structure Inv (X : Cx) (pins : List (Addr × Obj)) (σ : List (Option V)) (H : Hp) (s : Shared) : Prop where
 ok : X.Ok
 os : s.os = X.s₀.os
 bare : AllBare s.gens
 base : Un X.fs X.ex X.H₀ H X.s₀.heap s.heap
 loc : ∃ m, s.heap.Ns X.env.locals m /\ ∀ (i : Nat) (x : Str) (v : V), X.N[i]? = some x -> σ[i]? = some (some v) -> Vis X.env.scope x -> ∃ u, RelV v u /\ Look X.env s.heap m x u
 cell : ∀ x c, X.env.cells.lookup x = some c -> ∃ v, s.heap.IsCell c v
 free : H X.env.locals = none
 freeC : ∀ x c, X.env.cells.lookup x = some c -> H c = none
 pin : ∀ p ∈ X.pn ++ pins, s.heap.get? p.1 = some p.2 /\ H p.1 = none /\ p.1 ≠ X.env.locals /\ p.1 ∉ X.fs /\ ∀ v, p.2.data ≠ .cell v
 hok : HOk X.prog X.w H s.heap
 len : σ.length = X.N.length
section
variable {X : Cx} {pins : List (Addr × Obj)} {σ : List (Option V)} {H H' : Hp} {s : Shared} {h' : Heap}
theorem Cx.Ok.nofr (ok : X.Ok) {b : Addr} {o : Obj} (e : X.base.get? b = some o) : b ∉ X.fs := λ hb => by
 have := (ok.funs.mem hb).1
 rw [e] at this; cases this
theorem Inv.bs (I : Inv X pins σ H s) : ∀ b o, X.base.get? b = some o -> s.heap.get? b = some o /\ H b = none := λ b o e =>
 ⟨I.base.keep b o (I.ok.bs b o e).1 (I.ok.bs b o e).2 (I.ok.nofr e) (I.ok.noex b o e), I.base.free b o (I.ok.bs b o e).1 (I.ok.bs b o e).2 (I.ok.noex b o e)⟩
theorem Inv.bk (I : Inv X pins σ H s) : ∀ b o, X.base.get? b = some o -> s.heap.get? b = some o := λ b o e => (I.bs b o e).1
theorem Inv.mod (I : Inv X pins σ H s) : Mod X.K X.mg X.base := I.ok.mod
theorem Inv.kIn (I : Inv X pins σ H s) : X.K.In s.heap := I.ok.mod.kin.keeps I.bk
theorem Inv.lt (I : Inv X pins σ H s) : X.env.locals < s.heap.objs.size := let ⟨_, hn, _⟩ := I.loc; hn.lt
theorem Inv.sz (I : Inv X pins σ H s) : X.s₀.heap.objs.size <= s.heap.objs.size := zzL I.ok.above (Nat.le_of_lt I.lt)
theorem Inv.nofs (I : Inv X pins σ H s) {a : Addr} (h : s.heap.objs.size <= a) : a ∉ X.fs := λ hb => by
 obtain ⟨_, o, ho, _⟩ := I.ok.funs.mem hb
 exact absurd (zzH (Heap.lt_size ho) (zzL I.sz h)) (Nat.lt_irrefl _)
theorem Inv.cne (I : Inv X pins σ H s) : ∀ x c, X.env.cells.lookup x = some c -> c ≠ X.env.locals := λ x c e z => by
 obtain ⟨v, o, ho, hd⟩ := I.cell x c e
 obtain ⟨m, ⟨o', es, ep, ho', hd', _⟩, _⟩ := I.loc
 rw [z, ho'] at ho; cases ho; rw [hd'] at hd; cases hd
theorem Inv.funs (I : Inv X pins σ H s) : s.heap.FunFrames X.base X.outer := by
 have all : ∀ (l : List Env), (∀ b ∈ frs l, b ∈ X.fs) -> X.s₀.heap.FunFrames X.base l -> s.heap.FunFrames X.base l := by
  intro l
  induction l with
  | nil => intro _ _; trivial
  | cons env r ih =>
   intro hs hl
   obtain ⟨hk, ⟨L, o, hf, hn, ho, hd⟩, hr⟩ := hl
   have hL : L ∈ X.fs := hs L (by unfold frs; rw [List.filterMap_cons, hf]; exact zzC)
   obtain ⟨sl, e⟩ := I.base.slot L o ho (I.ok.frf L hL) hL λ z => I.ok.exfs L z hL
   exact ⟨hk, ⟨L, _, hf, hn, e, hd⟩, ih (λ b hb => hs b (by unfold frs; rw [List.filterMap_cons, hf]; exact zzA _ hb)) hr⟩
 exact all X.outer (λ _ hb => hb) I.ok.funs
theorem Inv.stack (I : Inv X pins σ H s) : s.heap.FunFrames X.base X.stack := by
 rcases I.ok.stk with e | ⟨e, hf⟩
 · rw [e]; exact I.funs
 · rw [e]
   obtain ⟨m, hn, _⟩ := I.loc
   refine .cons (by rw [I.ok.kind]; decide) hf hn ?_ I.funs
   exact Heap.get?_none_of_le (zzL I.ok.bsz I.ok.above)
theorem Inv.stkSub (I : Inv X pins σ H s) : ∀ b ∈ frs X.stack, b ∈ X.env.locals :: X.fs := λ b hb => by
 rcases I.ok.stk with e | ⟨e, hf⟩
 · rw [e] at hb; exact zzA _ hb
 · rw [e] at hb
   unfold frs at hb
   rw [List.filterMap_cons, hf] at hb
   exact hb
theorem Inv.stkFree (I : Inv X pins σ H s) : ∀ b ∈ frs X.stack, H b = none := λ b hb => by
 rcases zS.mp (I.stkSub b hb) with e | hb
 · rw [e]; exact I.free
 · obtain ⟨_, o, ho, _⟩ := I.ok.funs.mem hb
   exact I.base.free b o ho (I.ok.frf b hb) λ z => I.ok.exfs b z hb
theorem Inv.step {g' : Array GenState} {t' : Nat} {d' : Drawn} {ch : List Addr} (I : Inv X pins σ H s)
 (hch : ∀ b ∈ ch, (b ∈ X.ex \/ X.s₀.heap.objs.size <= b) /\ b ≠ X.env.locals /\ (∀ x c, X.env.cells.lookup x = some c -> c ≠ b) /\ ∀ p ∈ X.pn ++ pins, p.1 ≠ b)
 (keep : ∀ b o, b ≠ X.env.locals -> b ∉ X.fs -> b ∉ ch -> s.heap.get? b = some o -> H b = none -> h'.get? b = some o)
 (slot : ∀ b o, b ≠ X.env.locals -> b ∈ X.fs -> b ∉ ch -> s.heap.get? b = some o -> H b = none -> ∃ sl, h'.get? b = some { o with slots := sl }) (free : ∀ b o, b ∉ ch -> s.heap.get? b = some o -> H b = none -> H' b = none)
 (there : ∀ b o, b ∉ ch -> s.heap.get? b = some o -> ∃ o', h'.get? b = some o')
 (tups : ∀ b xs, H b = some (.tup xs) -> H' b = some (.tup xs)) (frzs : ∀ b o u, H b = some (.frz o u) -> H' b = some (.frz o u)) (tbls : ∀ b ps, H b = some (.tbl ps) -> ∃ more, H' b = some (.tbl (ps ++ more)))
 (ns : ∀ m, s.heap.Ns X.env.locals m -> h'.Ns X.env.locals m) (hok : HOk X.prog X.w H' h') (hg : AllBare g') :
 Inv X pins σ H' { s with heap := h', gens := g', drawn := d', toks := t' } := by
 have neL : ∀ b o, X.s₀.heap.get? b = some o -> b ≠ X.env.locals := λ b o e => zzN (zzH (Heap.lt_size e) I.ok.above)
 have neC : ∀ b o, X.s₀.heap.get? b = some o -> b ∉ X.ex -> b ∉ ch := λ b o e hx hb => by
  rcases (hch b hb).1 with z | z
  · exact hx z
  · exact absurd (zzH (Heap.lt_size e) z) (Nat.lt_irrefl _)
 have cellK : ∀ x c, X.env.cells.lookup x = some c -> ∀ v, s.heap.IsCell c v -> h'.IsCell c v := λ x c e v ⟨o, ho, hd⟩ => by
  have nch : c ∉ ch := λ z => (hch c z).2.2.1 x c e rfl
  by_cases hc : c ∈ X.fs
  · obtain ⟨sl, q⟩ := slot c o (I.cne x c e) hc nch ho (I.freeC x c e)
    exact ⟨_, q, hd⟩
  · exact ⟨o, keep c o (I.cne x c e) hc nch ho (I.freeC x c e), hd⟩
 refine ⟨I.ok, I.os, hg, ⟨λ b o e n hb hx => ?_, λ b o e n hb hx => ?_, λ b o e n hx => ?_, λ b o e hx => ?_, λ b xs e => tups b xs (I.base.tups b xs e), λ b o xs e => frzs b o xs (I.base.frzs b o xs e), λ b ps e => ?_⟩, ?_, λ x c e => ?_, ?_, λ x c e => ?_, λ p hp => ?_, hok, I.len⟩
 · exact keep b o (neL b o e) hb (neC b o e hx) (I.base.keep b o e n hb hx) (I.base.free b o e n hx)
 · obtain ⟨sl, e1⟩ := I.base.slot b o e n hb hx
   obtain ⟨sl', e2⟩ := slot b _ (neL b o e) hb (neC b o e hx) e1 (I.base.free b o e n hx)
   exact ⟨sl', e2⟩
 · obtain ⟨o', e1⟩ := I.base.there b o e hx
   exact free b o' (neC b o e hx) e1 (I.base.free b o e n hx)
 · obtain ⟨o', e1⟩ := I.base.there b o e hx
   exact there b o' (neC b o e hx) e1
 · obtain ⟨m1, e1⟩ := I.base.tbls b ps e
   obtain ⟨m2, e2⟩ := tbls b _ e1
   exact ⟨m1 ++ m2, by rw [e2, Array.append_assoc]⟩
 · obtain ⟨m, hn, hl⟩ := I.loc
   refine ⟨m, ns m hn, λ i x v e1 e2 e3 => ?_⟩
   obtain ⟨u, r, l⟩ := hl i x v e1 e2 e3
   refine ⟨u, r, ?_⟩
   rcases l with l | ⟨k, c, e, z⟩
   · exact .inl l
   · exact .inr ⟨k, c, e, cellK x c e _ z⟩
 · obtain ⟨v, z⟩ := I.cell x c e
   exact ⟨v, cellK x c e v z⟩
 · obtain ⟨m, ⟨o, _, _, ho, _⟩, _⟩ := I.loc
   exact free _ o (λ z => (hch _ z).2.1 rfl) ho I.free
 · obtain ⟨v, o, ho, hd⟩ := I.cell x c e
   exact free c o (λ z => (hch c z).2.2.1 x c e rfl) ho (I.freeC x c e)
 · obtain ⟨e, n, ne, nf, d⟩ := I.pin p hp
   have nch : p.1 ∉ ch := λ z => (hch p.1 z).2.2.2 p hp rfl
   exact ⟨keep p.1 p.2 ne nf nch e n, free p.1 p.2 nch e n, ne, nf, d⟩
theorem Inv.un {t' : Nat} (I : Inv X pins σ H s) (u : Un X.fs [] H H' s.heap h') (hok : HOk X.prog X.w H' h') : Inv X pins σ H' { s with heap := h', toks := t' } := by
 obtain ⟨m, ⟨o, es, ep, ho, r⟩, _⟩ := id I.loc
 obtain ⟨sl, hL⟩ := u.any ho I.free (by simp)
 exact I.step (g' := s.gens) (d' := s.drawn) (ch := []) (λ _ z => nomatch z) (λ b o _ hb _ e n => u.keep b o e n hb (by simp)) (λ b o _ hb _ e n => u.slot b o e n hb (by simp)) (λ b o _ e n => u.free b o e n (by simp)) (λ b o _ e => u.there b o e (by simp)) u.tups u.frzs u.tbls (λ m' hm => by
  obtain ⟨o', es', ep', ho', r'⟩ := hm
  rw [ho] at ho'; cases ho'
  exact ⟨_, es', ep', hL, r'⟩) hok I.bare
theorem Inv.call {g' : Array GenState} {t' : Nat} {d' : Drawn} {ch : List Addr} (I : Inv X pins σ H s) (u : Un (frs X.stack) ch H H' s.heap h') (hok : HOk X.prog X.w H' h') (hg : AllBare g')
 (hch : ∀ b ∈ ch, (b ∈ X.ex \/ X.s₀.heap.objs.size <= b) /\ b ≠ X.env.locals /\ (∀ x c, X.env.cells.lookup x = some c -> c ≠ b) /\ ∀ p ∈ X.pn ++ pins, p.1 ≠ b) :
 Inv X pins σ H' { s with heap := h', gens := g', drawn := d', toks := t' } := by
 obtain ⟨m, ⟨o, es, ep, ho, r⟩, _⟩ := id I.loc
 obtain ⟨sl, hL⟩ := u.any ho I.free λ z => (hch _ z).2.1 rfl
 exact I.step (ch := ch) hch (λ b o hL hb hc e n => u.keep b o e n (λ z => (zS.mp (I.stkSub b z)).elim hL hb) hc) (λ b o _ _ hc e n => u.any e n hc) (λ b o hc e n => u.free b o e n hc) (λ b o hc e => u.there b o e hc) u.tups u.frzs u.tbls (λ m' hm => by
  obtain ⟨o', es', ep', ho', r'⟩ := hm
  rw [ho] at ho'; cases ho'
  exact ⟨_, es', ep', hL, r'⟩) hok hg
theorem Inv.turned {t' : Nat} {it : Addr} (I : Inv X pins σ H s) (k : ∀ b o, b ≠ it -> s.heap.get? b = some o -> h'.get? b = some o) (hn : H it = none) (hL : it ≠ X.env.locals)
 (h1 : it ∈ X.ex \/ X.s₀.heap.objs.size <= it) (h2 : ∀ x c, X.env.cells.lookup x = some c -> c ≠ it) (h3 : ∀ p ∈ X.pn ++ pins, p.1 ≠ it) : Inv X pins σ H { s with heap := h', toks := t' } := by
 have nit : ∀ b u, H b = some u -> b ≠ it := λ b u e z => by rw [z, hn] at e; cases e
 refine I.step (g' := s.gens) (d' := s.drawn) (ch := [it]) (λ b hb => ?_) (λ b o _ _ hc e _ => k b o (λ z => hc (by simp [z])) e) (λ b o _ _ hc e _ => ⟨o.slots, k b o (λ z => hc (by simp [z])) e⟩) (λ _ _ _ _ n => n)
  (λ b o hc e => ⟨o, k b o (λ z => hc (by simp [z])) e⟩) (λ _ _ e => e) (λ _ _ _ e => e) (λ b ps e => ⟨#[], by rw [e]; simp⟩) (λ m hm => ?_) (λ b u e => ?_) I.bare
 · have e : b = it := by simpa using hb
   subst e
   exact ⟨h1, hL, h2, h3⟩
 · obtain ⟨o, es, ep, ho, r⟩ := hm
   exact ⟨o, es, ep, k _ o (Ne.symm hL) ho, r⟩
 · refine (I.hok b u e).stay (λ c v hc q => k c v ?_ q) (λ _ q => q) λ _ _ q => q
   rcases hc with z | z
   · rw [z]; exact nit b u e
   · exact nit c _ z
theorem Inv.tok (I : Inv X pins σ H s) (t : Nat) : Inv X pins σ H { s with toks := t } := I.un (h' := s.heap) (t' := t) Un.refl I.hok
theorem Inv.kept {t' : Nat} (I : Inv X pins σ H s) (k : ∀ b u, s.heap.get? b = some u -> h'.get? b = some u) : Inv X pins σ H { s with heap := h', toks := t' } := I.un (Un.kept k) (I.hok.kept k)
theorem Inv.laid {a : Addr} {o : HO} {t' : Nat} (I : Inv X pins σ H s) (k : ∀ b u, s.heap.get? b = some u -> h'.get? b = some u) (hp : s.heap.objs.size <= a) (new : wG X.prog X.w (upd H a o) h' a o) :
 Inv X pins σ (upd H a o) { s with heap := h', toks := t' } := I.un (Un.laid k hp (I.hok.fresh hp)) (I.hok.laid k hp new)
theorem Inv.write {x e : Addr} {o : HO} {t' : Nat} (I : Inv X pins σ H s) (mu : Mut (H x)) (he : e = x \/ H e = some (.own x)) (k : ∀ b u, b ≠ e -> s.heap.get? b = some u -> h'.get? b = some u) (heo : ∃ u, h'.get? e = some u)
 (new : wG X.prog X.w (upd H x o) h' x o) : Inv X pins σ (upd H x o) { s with heap := h', toks := t' } := I.un (Un.write mu he k heo) (I.hok.write mu he k heo new)
theorem Inv.weak {σ' : List (Option V)} (I : Inv X pins σ H s) (hl : σ'.length = σ.length) (w : ∀ (i : Nat) v, σ'[i]? = some (some v) -> σ[i]? = some (some v)) : Inv X pins σ' H s :=
 ⟨I.ok, I.os, I.bare, I.base, let ⟨m, hn, hl'⟩ := I.loc; ⟨m, hn, λ i x v e1 e2 e3 => hl' i x v e1 (w i v e2) e3⟩, I.cell, I.free, I.freeC, I.pin, I.hok, hl.trans I.len⟩
theorem Inv.pins_of {pins' : List (Addr × Obj)} (I : Inv X pins σ H s) (h : ∀ p ∈ pins', s.heap.get? p.1 = some p.2 /\ H p.1 = none /\ p.1 ≠ X.env.locals /\ p.1 ∉ X.fs /\ ∀ v, p.2.data ≠ .cell v) : Inv X pins' σ H s :=
 ⟨I.ok, I.os, I.bare, I.base, I.loc, I.cell, I.free, I.freeC, λ p hp => (zzJ.mp hp).elim (λ z => I.pin p (zzM _ z)) (h p), I.hok, I.len⟩
theorem zfJ {N : List Str} (hN : N.Nodup) {i j : Nat} {x : Str} (a : N[i]? = some x) (b : N[j]? = some x) : i = j := by
 obtain ⟨h1, e1⟩ := zzD.mp a
 obtain ⟨h2, e2⟩ := zzD.mp b
 exact (List.getElem_inj hN).mp (e1.trans e2.symm)
theorem zdZ {M : Model} {A : Around} {E : Value -> Shared -> Prop} {i : Nat} {x : Str} {v : V} {u : Value} {Q : Unit -> Shared -> Prop} (I : Inv X pins σ H s) (hN : X.N.Nodup) (hi : X.N[i]? = some x) (hx : Loc X.env.scope x) (r : RelV v u)
 (h : ∀ s', Inv X pins (σ.set i (some v)) H s' -> (∃ a, Heap.SameBut a s.heap s'.heap /\ (a = X.env.locals \/ X.env.cells.lookup x = some a)) -> Q () s') (hf : X.fn x = true \/ X.env.scope.names.lookup x = some .local := by first | exact .inl rfl | exact .inr rfl | assumption) : wpAny M A (storeName X.env x u) Q E s := by
 obtain ⟨m, hn, hl⟩ := id I.loc
 have hcls : (X.env.scope.kind == .class || (X.env.scope.kind == .module && X.env.locals != X.env.globals)) = false := by rw [I.ok.kind]; rfl
 have hiσ : i < σ.length := by rw [I.len]; exact (zzD.mp hi).1
 have cne := I.cne
 have tracked : ∀ {a : Addr} {h' : Heap}, (∃ o, s.heap.get? a = some o /\ H a = none) -> Heap.SameBut a s.heap h' -> HOk X.prog X.w H h' := λ {a h'} ha hs b ob e => by
  obtain ⟨_, _, hfree⟩ := ha
  refine (I.hok b ob e).stay (λ c w' hc q => (hs.2 c ?_).trans q) (λ _ q => q) λ _ _ q => q
  rintro rfl
  rcases hc with rfl | hc
  · rw [hfree] at e; cases e
  · rw [hfree] at hc; cases hc
 rcases hx with hk | hk
 · refine wpAny_storeName_local hk hn (λ h' hn' hs => ?_) hcls
   obtain ⟨oL, _, _, hoL, _⟩ := id hn
   refine h _ ⟨I.ok, I.os, I.bare, ⟨λ b o e n hb hx => ?_, λ b o e n hb hx => ?_, I.base.free, λ b o e hx => ?_, I.base.tups, I.base.frzs, I.base.tbls⟩, ⟨_, hn', λ j y v' e1 e2 e3 => ?_⟩, λ y c e => ?_, I.free, I.freeC, λ p hp => ?_, tracked ⟨oL, hoL, I.free⟩ hs, by simpa using I.len⟩ ⟨_, hs, .inl rfl⟩
   · exact (hs.2 b (zzN (zzH (Heap.lt_size e) I.ok.above))).trans (I.base.keep b o e n hb hx)
   · obtain ⟨sl, e1⟩ := I.base.slot b o e n hb hx
     exact ⟨sl, (hs.2 b (zzN (zzH (Heap.lt_size e) I.ok.above))).trans e1⟩
   · obtain ⟨o', e1⟩ := I.base.there b o e hx
     exact ⟨o', (hs.2 b (zzN (zzH (Heap.lt_size e) I.ok.above))).trans e1⟩
   · by_cases hj : j = i
     · subst hj
       rw [hi] at e1; cases e1
       rw [List.getElem?_set_self hiσ] at e2
       cases e2
       exact ⟨u, r, .inl ⟨hk, by simp⟩⟩
     · rw [zzV (Ne.symm hj)] at e2
       obtain ⟨u', r', q⟩ := hl j y v' e1 e2 e3
       refine ⟨u', r', ?_⟩
       rcases q with ⟨k, e⟩ | ⟨k, c, e, z⟩
       · refine .inl ⟨k, ?_⟩
         have : y ≠ x := λ e => hj (zfJ hN e1 (e ▸ hi))
         simp [this, e]
       · exact .inr ⟨k, c, e, z.sameBut hs (cne y c e)⟩
   · obtain ⟨w', z⟩ := I.cell y c e
     exact ⟨w', z.sameBut hs (cne y c e)⟩
   · obtain ⟨e, n, ne, nf, d⟩ := I.pin p hp
     exact ⟨(hs.2 p.1 ne).trans e, n, ne, nf, d⟩
 · have hfn : X.fn x = true := by
    rcases hf with z | z
    · exact z
    · rw [z] at hk; cases hk
   obtain ⟨c, hc⟩ := I.ok.has x (.inl hk)
   obtain ⟨w', z⟩ := I.cell x c hc
   refine wpAny_storeName_cell I.ok.kind hk hc z (λ h' hc' hs => ?_)
   obtain ⟨oc, hoc, hocd⟩ := id z
   refine h { s with heap := h' } ⟨I.ok, I.os, I.bare, ⟨λ b o e n hb hx => ?_, λ b o e n hb hx => ?_, I.base.free, λ b o e hx => ?_, I.base.tups, I.base.frzs, I.base.tbls⟩, ⟨m, hn.sameBut hs (Ne.symm (cne x c hc)), λ j y v' e1 e2 e3 => ?_⟩, λ y c' e => ?_, I.free, I.freeC, λ p hp => ?_, tracked ⟨oc, hoc, I.freeC x c hc⟩ hs, by simpa using I.len⟩ ⟨c, hs, .inr hc⟩
   · exact (hs.2 b (zzN (zzH (Heap.lt_size e) (I.ok.cab x c hfn hc)))).trans (I.base.keep b o e n hb hx)
   · obtain ⟨sl, e1⟩ := I.base.slot b o e n hb hx
     exact ⟨sl, (hs.2 b (zzN (zzH (Heap.lt_size e) (I.ok.cab x c hfn hc)))).trans e1⟩
   · obtain ⟨o', e1⟩ := I.base.there b o e hx
     exact ⟨o', (hs.2 b (zzN (zzH (Heap.lt_size e) (I.ok.cab x c hfn hc)))).trans e1⟩
   · by_cases hj : j = i
     · subst hj
       rw [hi] at e1; cases e1
       rw [List.getElem?_set_self hiσ] at e2
       cases e2
       exact ⟨u, r, .inr ⟨.inl hk, c, hc, hc'⟩⟩
     · rw [zzV (Ne.symm hj)] at e2
       obtain ⟨u', r', q⟩ := hl j y v' e1 e2 e3
       refine ⟨u', r', ?_⟩
       rcases q with q | ⟨k, c', e, z'⟩
       · exact .inl q
       · refine .inr ⟨k, c', e, z'.sameBut hs ?_⟩
         rintro rfl
         exact hj (zfJ hN e1 (I.ok.inj _ _ _ e hc ▸ hi))
   · by_cases hcc : c' = c
     · subst hcc; exact ⟨_, hc'⟩
     · obtain ⟨w2, z2⟩ := I.cell y c' e
       exact ⟨w2, z2.sameBut hs hcc⟩
   · obtain ⟨e, n, ne, nf, d⟩ := I.pin p hp
     refine ⟨(hs.2 p.1 ?_).trans e, n, ne, nf, d⟩
     intro q
     rw [q, hoc] at e
     have q' : oc = p.2 := Option.some.inj e
     exact d w' (by rw [<- q']; exact hocd)
theorem zaw {M : Model} {A : Around} {E : Value -> Shared -> Prop} {i : Nat} {x : Str} {v : V} {u : Value} {Q : Unit -> Shared -> Prop} (I : Inv X pins σ H s) (hN : X.N.Nodup) (hi : X.N[i]? = some x) (hx : Loc X.env.scope x) (r : RelV v u)
 (h : ∀ s', Inv X pins (σ.set i (some v)) H s' -> Q () s') (hf : X.fn x = true \/ X.env.scope.names.lookup x = some .local := by first | exact .inl rfl | exact .inr rfl | assumption) : wpAny M A (storeName X.env x u) Q E s :=
 zdZ I hN hi hx r (λ s' I' _ => h s' I') hf
theorem Inv.call' {s' : Shared} {ch : List Addr} (I : Inv X pins σ H s) (ho : s'.os = s.os) (u : Un (frs X.stack) ch H H' s.heap s'.heap) (hok : HOk X.prog X.w H' s'.heap) (hg : AllBare s'.gens)
 (hch : ∀ b ∈ ch, (b ∈ X.ex \/ X.s₀.heap.objs.size <= b) /\ b ≠ X.env.locals /\ (∀ x c, X.env.cells.lookup x = some c -> c ≠ b) /\ ∀ p ∈ X.pn ++ pins, p.1 ≠ b) : Inv X pins σ H' s' := by
 obtain ⟨h', g', d', t', o'⟩ := s'
 have e : o' = s.os := ho
 subst e
 exact I.call (g' := g') (t' := t') (d' := d') u hok hg hch
end
abbrev XK := Value -> Option Addr -> Hp -> Prop
abbrev St := List (Option V)
abbrev VK := V -> Hp -> Prop
abbrev TE := St -> Hp -> VK -> Prop
abbrev TT := St -> Hp -> (Bool -> Hp -> Prop) -> Prop
abbrev TA := St -> Hp -> (List V -> Hp -> Prop) -> Prop
structure Ends where
 nx : St -> Hp -> Prop
 rt : VK
 bk : St -> Hp -> Prop := λ _ _ => False
 ct : St -> Hp -> Prop := λ _ _ => False
abbrev TS := Ends -> St -> Hp -> Prop
def EP (X : Cx) (pins : List (Addr × Obj)) (σ : St) (Q : VK) (u : Value) (s' : Shared) : Prop := ∃ v H', Inv X pins σ H' s' /\ RelV v u /\ Q v H'
def TP (X : Cx) (pins : List (Addr × Obj)) (σ : St) (Q : Bool -> Hp -> Prop) (b : Bool) (s' : Shared) : Prop := ∃ H', Inv X pins σ H' s' /\ Q b H'
def AP (X : Cx) (pins : List (Addr × Obj)) (σ : St) (Q : List V -> Hp -> Prop) (us : List Value) (s' : Shared) : Prop := ∃ vs H', Inv X pins σ H' s' /\ Vals vs us /\ Q vs H'
def SP (X : Cx) (pins : List (Addr × Obj)) (D : Ends) (f : Flow) (s' : Shared) : Prop :=
 match f with
 | .next => ∃ σ' H', Inv X pins σ' H' s' /\ D.nx σ' H'
 | .brk => ∃ σ' H', Inv X pins σ' H' s' /\ D.bk σ' H'
 | .cont => ∃ σ' H', Inv X pins σ' H' s' /\ D.ct σ' H'
 | .ret u => ∃ v σ' H', Inv X pins σ' H' s' /\ RelV v u /\ D.rt v H'
def PE (X : Cx) (e : Expr) (t : TE) : Prop :=
 ∀ (pins : List (Addr × Obj)) (s : Shared) (σ : St) (H : Hp) (Q : VK), Inv X pins σ H s -> t σ H Q -> wpAny (model X.prog X.w) X.A (eval e X.env) (EP X pins σ Q) X.xe s
def PT (X : Cx) (e : Expr) (t : TT) : Prop :=
 ∀ (pins : List (Addr × Obj)) (s : Shared) (σ : St) (H : Hp) (Q : Bool -> Hp -> Prop), Inv X pins σ H s -> t σ H Q -> wpAny (model X.prog X.w) X.A (isTrue e X.env (eval e X.env)) (TP X pins σ Q) X.xe s
def PW (X : Cx) (e : Expr) (t : TT) : Prop :=
 ∀ (whole : Sem Value) (pins : List (Addr × Obj)) (s : Shared) (σ : St) (H : Hp) (Q : Bool -> Hp -> Prop), Inv X pins σ H s -> t σ H Q -> wpAny (model X.prog X.w) X.A (isTrue e X.env whole) (TP X pins σ Q) X.xe s
theorem PW.pt {X : Cx} {e : Expr} {t : TT} (h : PW X e t) : PT X e t := h _
def PA (X : Cx) (es : List Expr) (t : TA) : Prop :=
 ∀ (pos : Pos) (pins : List (Addr × Obj)) (s : Shared) (σ : St) (H : Hp) (Q : List V -> Hp -> Prop), Inv X pins σ H s -> t σ H Q -> wpAny (model X.prog X.w) X.A (spliced (backTo pos (starEach es X.env))) (AP X pins σ Q) X.xe s
def PS (X : Cx) (st : Stmt) (t : TS) : Prop :=
 ∀ (pins : List (Addr × Obj)) (s : Shared) (σ : St) (H : Hp) (D : Ends), Inv X pins σ H s -> t D σ H -> wpAny (model X.prog X.w) X.A (exec st X.env) (SP X pins D) X.xe s
def PSs (X : Cx) (st : List Stmt) (t : TS) : Prop :=
 ∀ (pins : List (Addr × Obj)) (s : Shared) (σ : St) (H : Hp) (D : Ends), Inv X pins σ H s -> t D σ H -> wpAny (model X.prog X.w) X.A (execs st X.env) (SP X pins D) X.xe s
theorem thn {α : Type} {t : Sem α} {Q Q' : α -> Shared -> Prop} {M : Model} {A : Around} {E : Value -> Shared -> Prop} {s : Shared} (h : wpAny M A t Q E s) (hQ : ∀ a s, Q a s -> Q' a s) : wpAny M A t Q' E s := wpAny_mono h hQ λ _ _ x => x
end L2
namespace L2
open PySem PySem.Spec PyProof.Rows
section
variable {X : Cx}
def zfa (i : Nat) : TE := λ σ H Q => ∃ v, σ[i]? = some (some v) /\ Q v H
def tC (v : V) : TE := λ _ H Q => Q v H
theorem zkG {i : Nat} {x : Str} {pos : Pos} (hN : X.N[i]? = some x) (hv : Vis X.env.scope x) (hd : (x == ("__debug__" : Str)) = false := by decide) (hcd : (x == ("__classdict__" : Str)) = false := by decide) : PE X (.Name x pos) (zfa i) := by
 intro pins s σ H Q I h
 obtain ⟨v, e, h⟩ := h
 obtain ⟨m, hn, hl⟩ := I.loc
 obtain ⟨u, r, l⟩ := hl i x v hN e hv
 have fin : EP X pins σ Q u s := ⟨v, H, I, r, h⟩
 rcases l with ⟨hk, hm⟩ | ⟨hk, c, hc, hcell⟩
 · exact wpAny_Name (wpAny_loadName_local I.ok.kind hk hn hm fin) hd
 · rcases hk with hk | hk
   · exact wpAny_Name (wpAny_loadName_cell I.ok.kind hk hc hcell fin) hd
   · exact wpAny_Name (wpAny_loadName_free I.ok.kind hk hc hcell fin hcd) hd
theorem zqb {i j pos} : PE X (.Constant (.int i) j pos) (tC (.int i)) := λ _ _ _ H _ I h => wpAny_Constant_int ⟨.int i, H, I.tok _, ⟨_, rfl⟩, h⟩
theorem zrn {b j pos} : PE X (.Constant (.bool b) j pos) (tC (.bl b)) := λ _ _ _ H _ I h => Constant_bool ⟨.bl b, H, I, rfl, h⟩
theorem zoO {j pos} : PE X (.Constant .none j pos) (tC .non) := λ _ _ _ H _ I h => Constant_none ⟨.non, H, I, rfl, h⟩
theorem zpA {x j pos} : PE X (.Constant (.str x) j pos) (tC (.str x)) := λ _ _ _ H _ I h => Calls.Constant_str ⟨.str x, H, I.tok _, ⟨_, rfl⟩, h⟩
def Gl (X : Cx) (x : Str) : Prop := X.env.kindOf x = some .globalImplicit
theorem ziC {E : Value -> Shared -> Prop} {pins : List (Addr × Obj)} {s : Shared} {σ : St} {H : Hp} {x : Str} {u : Value} {pos : Pos} {Q : Value -> Shared -> Prop} (I : Inv X pins σ H s) (hg : Gl X x) (hm : X.mg x = some u) (h : Q u s)
 (hd : (x == ("__debug__" : Str)) = false := by decide) : wpAny (model X.prog X.w) X.A (eval (.Name x pos) X.env) Q E s :=
 Calls.Name_function_global I.ok.kind hg (Calls.loadGlobal_global (by rw [I.ok.glob]; exact I.mod.glob.keeps I.bk) hm h) hd
theorem XD {E : Value -> Shared -> Prop} {pins : List (Addr × Obj)} {s : Shared} {σ : St} {H : Hp} {x : Str} {u : Value} {pos : Pos} {Q : Value -> Shared -> Prop} (I : Inv X pins σ H s) (hg : Gl X x) (hm : X.mg x = none) (hv : bootBuiltins x = some u) (h : Q u s)
 (hn : x ≠ "__name__" := by decide) (hd : (x == ("__debug__" : Str)) = false := by decide) : wpAny (model X.prog X.w) X.A (eval (.Name x pos) X.env) Q E s := by
 obtain ⟨mb, h1, h2⟩ := I.mod.blt
 exact Calls.Name_function_global I.ok.kind hg (Calls.loadGlobal_builtin (by rw [I.ok.glob]; exact I.mod.glob.keeps I.bk) hm (by rw [I.ok.blt]; exact h1.keeps I.bk) ((h2 x hn).trans hv) h) hd
theorem znb {x : Str} {v : V} {u : Value} {pos : Pos} (hg : Gl X x) (hm : X.mg x = none) (hv : bootBuiltins x = some u) (r : RelV v u) (hn : x ≠ "__name__" := by decide) (hd : (x == ("__debug__" : Str)) = false := by decide) : PE X (.Name x pos) (tC v) :=
 λ _ _ _ H _ I h => XD I hg hm hv ⟨v, H, I, r, h⟩ hn hd
variable {a b : Expr} {ta tb : TE} {pos : Pos}
variable {tA tB' : TT} {rest : List Expr}
def tOr (t u : TT) : TT := λ σ H Q => t σ H λ c H1 => if c = true then Q true H1 else u σ H1 Q
def zrN (t : TT) : TT := λ σ H Q => t σ H λ c H1 => Q (!c) H1
theorem zpP (ha : PT X a tA) : PW X (.BoolOp .Or [a] pos) tA := by
 intro wh pins s σ H Q I h
 refine isTrue_or (thn (ha pins s σ H Q I h) λ c s1 e => ?_)
 cases c with
 | false => exact isTrue_or_nil e
 | true => exact e
theorem zqv (ha : PT X a tA) (hb : PW X (.BoolOp .Or (b :: rest) pos) tB') : PW X (.BoolOp .Or (a :: b :: rest) pos) (tOr tA tB') := by
 intro wh pins s σ H Q I h
 refine isTrue_or (thn (ha pins s σ H _ I h) λ c s1 ⟨H1, I1, q1⟩ => ?_)
 cases c with
 | true => exact ⟨H1, I1, q1⟩
 | false => exact hb wh pins s1 σ H1 Q I1 q1
theorem zpJ (ha : PT X a tA) : PT X (.UnaryOp .Not a pos) (zrN tA) := by
 intro pins s σ H Q I h
 exact isTrue_not (ha pins s σ H (λ c H1 => Q (!c) H1) I h)
def zqQ (ta tb : TE) : TE := λ σ H Q => ta σ H λ x H1 => ∃ c, x = .bl c /\ if c = true then tb σ H1 Q else Q (.bl false) H1
def zri (ta : TE) : TE := λ σ H Q => ta σ H λ x H1 => ∃ c, x = .bl c /\ Q (.bl (!c)) H1
theorem zqa {op} {t : TE} (h : PE X a t) : PE X (.BoolOp op [a] pos) t := λ pins s σ H Q I hw => BoolOp_one (h pins s σ H Q I hw)
theorem zoW (ha : PE X a ta) (hb : PE X (.BoolOp .And (b :: rest) pos) tb) : PE X (.BoolOp .And (a :: b :: rest) pos) (zqQ ta tb) := by
 intro pins s σ H Q I h
 refine BoolOp_and (thn (ha pins s σ H _ I h) λ v s1 ⟨x, H1, I1, r1, q1⟩ => ?_)
 obtain ⟨c, rfl, q1⟩ := q1
 cases r1
 refine wpAny_truthy_bool ?_
 cases c with
 | true => exact hb pins s1 σ H1 Q I1 q1
 | false => exact ⟨.bl false, H1, I1, rfl, q1⟩
theorem zpC (ha : PE X a ta) : PE X (.UnaryOp .Not a pos) (zri ta) := by
 intro pins s σ H Q I h
 refine UnaryOp_ (thn (ha pins s σ H _ I h) λ v s1 ⟨x, H1, I1, r1, q1⟩ => ?_)
 obtain ⟨c, rfl, q1⟩ := q1
 cases r1
 exact not_of (wpAny_truthy_bool ⟨.bl (!c), H1, I1, rfl, q1⟩)
end
end L2
namespace L2
open PySem PySem.Spec PyProof.Rows
def SqL (K : zC) (H : Hp) (a : Addr) (xs : List V) : Prop :=
 Rd H a (.lst xs) \/
  ∃ (o : Obj) (its : Array Value) (n : Nat), K.lookup a = some o /\ o.cls = .type "list" /\ o.dict = none /\ o.data = .seq its n /\ its.size <= sizeLine /\ Vals xs its.toList
def RdL (K : zC) (H : Hp) (a : Addr) (xs : List V) : Prop :=
 Rd H a (.lst xs) \/ ∃ (its : Array Value) (n : Nat), K.lookup a = some { cls := .type "list", data := .seq its n } /\ its.size <= sizeLine /\ Vals xs its.toList
def SqT (K : zC) (H : Hp) (a : Addr) (xs : List V) : Prop :=
 Rd H a (.tup xs) \/
  ∃ (o : Obj) (its : Array Value) (n : Nat), K.lookup a = some o /\ o.cls = .type "tuple" /\ o.data = .seq its n /\ its.size <= sizeLine /\ Vals xs its.toList
def zsd : Value -> Option V
 | .none => some .non
 | .bool b => some (.bl b)
 | .int i _ => some (.int i)
 | .str x _ => some (.str x)
 | .bytes b _ => some (.byt b)
 | .float b _ => some (.flt b)
 | .ref a => some (.ref a)
 | .type n => some (.ty n)
 | _ => none
theorem RelV.abs {x : V} {u : Value} (r : RelV x u) : zsd u = some x := by
 cases x with
 | non => cases r; rfl
 | bl _ => cases r; rfl
 | int _ => obtain ⟨t, rfl⟩ := r; rfl
 | str _ => obtain ⟨t, rfl⟩ := r; rfl
 | byt _ => obtain ⟨t, rfl⟩ := r; rfl
 | flt _ => obtain ⟨t, rfl⟩ := r; rfl
 | ref _ => cases r; rfl
 | ty _ => cases r; rfl
theorem RelV.inj {x y : V} {u : Value} (r : RelV x u) (q : RelV y u) : x = y := Option.some.inj (r.abs.symm.trans q.abs)
theorem Vals.inj : ∀ {xs ys : List V} {us : List Value}, Vals xs us -> Vals ys us -> xs = ys
 | _, _, _, .nil, .nil => rfl
 | _, _, _, .cons r t, .cons r' t' => by rw [r.inj r', Vals.inj t t']
section
variable {X : Cx} {pins : List (Addr × Obj)} {σ : St} {H : Hp} {s : Shared} {a : Addr} {xs ys : List V}
theorem Inv.list (I : Inv X pins σ H s) (h : SqL X.K H a xs) : ∃ its : List Value, Vals xs its /\ PlainL s.heap a its.toArray /\ xs.length <= sizeLine := by
 rcases h with h | ⟨o, its, n, hk, hc, hd, hs, hz, r⟩
 · obtain ⟨z, its, n, r, e⟩ := h.ok I.hok
   exact ⟨its, r, ⟨_, n, e, rfl, rfl, rfl⟩, z⟩
 · refine ⟨its.toList, r, ⟨o, n, I.kIn a o hk, hc, hd, by simpa using hs⟩, ?_⟩
   have e := r.length
   simp only [Array.length_toList] at e
   omega
theorem Inv.tuple (I : Inv X pins σ H s) (h : SqT X.K H a xs) : ∃ its : List Value, Vals xs its /\ IsTup s.heap a its.toArray /\ xs.length <= sizeLine := by
 rcases h with h | ⟨o, its, n, hk, hc, hs, hz, r⟩
 · obtain ⟨z, its, r, p⟩ := h.ok I.hok
   exact ⟨its, r, p, z⟩
 · refine ⟨its.toList, r, ⟨o, I.kIn a o hk, hc, n, by simpa using hs⟩, ?_⟩
   have e := r.length
   simp only [Array.length_toList] at e
   omega
theorem Inv.list_inj (I : Inv X pins σ H s) (h : SqL X.K H a xs) (h' : SqL X.K H a ys) : xs = ys := by
 obtain ⟨its, r, ⟨o, n, e, _, _, d⟩, _⟩ := I.list h
 obtain ⟨its', r', ⟨o', n', e', _, _, d'⟩, _⟩ := I.list h'
 rw [e] at e'; cases e'
 rw [d] at d'
 injection d' with d1 _
 have : its = its' := by simpa using congrArg Array.toList d1
 subst this
 exact r.inj r'
theorem Inv.tuple_inj (I : Inv X pins σ H s) (h : SqT X.K H a xs) (h' : SqT X.K H a ys) : xs = ys := by
 obtain ⟨its, r, ⟨o, e, _, n, d⟩, _⟩ := I.tuple h
 obtain ⟨its', r', ⟨o', e', _, n', d'⟩, _⟩ := I.tuple h'
 rw [e] at e'; cases e'
 rw [d] at d'
 injection d' with d1 _
 have : its = its' := by simpa using congrArg Array.toList d1
 subst this
 exact r.inj r'
end
abbrev Cx.wish (X : Cx) (E : Value -> Shared -> Prop) : Cx := { X with xe := E }
abbrev Cx.nox (X : Cx) : Cx := X.wish λ _ _ => False
theorem Cx.Ok.wish {X : Cx} (ok : X.Ok) (E : Value -> Shared -> Prop) : (X.wish E).Ok :=
 ⟨ok.mod, ok.kind, ok.glob, ok.blt, ok.above, ok.inj, ok.has, ok.cab, ok.hd, ok.frames, ok.stk, ok.exf, ok.bs, ok.bsz, ok.noex, ok.exfs, ok.funs, ok.frf⟩
theorem Cx.Ok.unwish {X : Cx} {E : Value -> Shared -> Prop} (ok : (X.wish E).Ok) : X.Ok :=
 ⟨ok.mod, ok.kind, ok.glob, ok.blt, ok.above, ok.inj, ok.has, ok.cab, ok.hd, ok.frames, ok.stk, ok.exf, ok.bs, ok.bsz, ok.noex, ok.exfs, ok.funs, ok.frf⟩
section
variable {X : Cx} {pins : List (Addr × Obj)} {σ : St} {H : Hp} {s : Shared} {E : Value -> Shared -> Prop}
theorem Inv.wish (I : Inv X pins σ H s) (E : Value -> Shared -> Prop) : Inv (X.wish E) pins σ H s := ⟨I.ok.wish E, I.os, I.bare, I.base, I.loc, I.cell, I.free, I.freeC, I.pin, I.hok, I.len⟩
theorem Inv.unwish (I : Inv (X.wish E) pins σ H s) : Inv X pins σ H s := ⟨I.ok.unwish, I.os, I.bare, I.base, I.loc, I.cell, I.free, I.freeC, I.pin, I.hok, I.len⟩
theorem SP.unwish {D : Ends} {f : Flow} {s' : Shared} (h : SP (X.wish E) pins D f s') : SP X pins D f s' := by
 cases f with
 | next => obtain ⟨σ', H', I, q⟩ := h; exact ⟨σ', H', I.unwish, q⟩
 | brk => obtain ⟨σ', H', I, q⟩ := h; exact ⟨σ', H', I.unwish, q⟩
 | cont => obtain ⟨σ', H', I, q⟩ := h; exact ⟨σ', H', I.unwish, q⟩
 | ret u => obtain ⟨v, σ', H', I, r, q⟩ := h; exact ⟨v, σ', H', I.unwish, r, q⟩
theorem PSs.nox {st : List Stmt} {t : TS} (h : PSs X.nox st t) : PSs X st t := λ pins s σ H D I hw =>
 wpAny_mono (h pins s σ H D (I.wish _) hw) (λ _ _ q => q.unwish) λ _ _ z => False.elim z
end
section
variable {X : Cx} {st : Stmt} {rest : List Stmt} {t u : TS} {e : Expr} {te : TE} {pos : Pos}
def zrc : TS := λ D σ H => D.nx σ H
def zrZ (t u : TS) : TS := λ D σ H => t { D with nx := u D } σ H
theorem zmI : PSs X [] zrc := λ _ _ σ H _ I h => wpAny_execs_nil ⟨σ, H, I, h⟩
theorem zgH (h1 : PS X st t) (h2 : PSs X rest u) : PSs X (st :: rest) (zrZ t u) := by
 intro pins s σ H D I h
 refine wpAny_execs_cons (thn (h1 pins s σ H { D with nx := u D } I h) λ f s1 q => ?_)
 cases f with
 | next =>
  obtain ⟨σ', H', I', q⟩ := q
  exact h2 pins s1 σ' H' D I' q
 | ret v => exact q
 | brk => exact q
 | cont => exact q
theorem zih (h1 : PS X st t) : PSs X [st] t := by
 intro pins s σ H D I h
 refine wpAny_execs_cons (thn (h1 pins s σ H D I h) λ f s1 q => ?_)
 cases f with
 | next => exact wpAny_execs_nil q
 | ret v => exact q
 | brk => exact q
 | cont => exact q
theorem Inv.quiet {pins : List (Addr × Obj)} {σ : St} {H : Hp} {s : Shared} (I : Inv X pins σ H s) : interactive X.env = false := by simp [interactive, I.ok.kind]
def zqw (te : TE) : TS := λ D σ H => te σ H λ _ H1 => D.nx σ H1
theorem ziJ (he : PE X e te) (hs : swapsWith e none pos.line X.env = pure false := by rfl) : PS X (.Expr e pos) (zqw te) := by
 intro pins s σ H D I h
 exact wpAny_Expr_any (thn (he pins s σ H _ I h) λ v s1 ⟨x, H1, I1, r1, q1⟩ => ⟨σ, H1, I1, q1⟩) I.quiet hs
def zrH (te : TE) : TS := λ D σ H => te σ H D.rt
theorem zoK (he : PE X e te) : PS X (.Return (some e) pos) (zrH te) := by
 intro pins s σ H D I h
 exact wpAny_Return_some (thn (he pins s σ H _ I h) λ v s1 ⟨x, H1, I1, r1, q1⟩ => ⟨x, σ, H1, I1, r1, q1⟩)
def zrz (c : TT) (t u : TS) : TS := λ D σ H => c σ H λ b H1 => if b = true then t D σ H1 else u D σ H1
theorem zqR {c : Expr} {a b : List Stmt} {tc : TT} (hc : PT X c tc) (ha : PSs X a t) (hb : PSs X b u) : PS X (.If c a b pos) (zrz tc t u) := by
 intro pins s σ H D I h
 refine wpAny_If (thn (hc pins s σ H _ I h) λ d s1 ⟨H1, I1, q1⟩ => ?_)
 cases d with
 | true => exact ha pins s1 σ H1 D I1 q1
 | false => exact hb pins s1 σ H1 D I1 q1
end
abbrev TG := V -> St -> Hp -> (St -> Hp -> Prop) -> Prop
abbrev TGs := List V -> St -> Hp -> (St -> Hp -> Prop) -> Prop
def PG (X : Cx) (target : Expr) (t : TG) : Prop :=
 ∀ (pins : List (Addr × Obj)) (s : Shared) (σ : St) (H : Hp) (v : V) (u : Value) (Q : St -> Hp -> Prop), Inv X pins σ H s -> RelV v u -> t v σ H Q ->
  wpAny (model X.prog X.w) X.A (assign target X.env u) (λ _ s' => ∃ σ' H', Inv X pins σ' H' s' /\ Q σ' H') X.xe s
def PGs (X : Cx) (ts : List Expr) (t : TGs) : Prop :=
 ∀ (pins : List (Addr × Obj)) (s : Shared) (σ : St) (H : Hp) (vs : List V) (us : List Value) (Q : St -> Hp -> Prop), Inv X pins σ H s -> Vals vs us -> t vs σ H Q ->
  wpAny (model X.prog X.w) X.A (assignInOrder ((assignEach ts X.env).map (·.2)) us) (λ _ s' => ∃ σ' H', Inv X pins σ' H' s' /\ Q σ' H') X.xe s
abbrev zpQ := V -> V -> V -> Hp -> (Hp -> Prop) -> Prop
def zqY (X : Cx) (t : zpQ) : Prop :=
 ∀ (pins : List (Addr × Obj)) (s : Shared) (σ : St) (H : Hp) (o i v : V) (ov iv u : Value) (Q : Hp -> Prop), Inv X pins σ H s -> RelV o ov -> RelV i iv -> RelV v u -> t o i v H Q ->
  wpAny (model X.prog X.w) X.A (setItem ov iv u) (λ _ s' => ∃ H', Inv X pins σ H' s' /\ Q H') X.xe s
section
variable {X : Cx} {pos : Pos}
def zgI (i : Nat) : TG := λ v σ H Q => Q (σ.set i (some v)) H
theorem zmm {i : Nat} {x : Str} (hN : X.N.Nodup) (hi : X.N[i]? = some x) (hx : Loc X.env.scope x) (hf : X.fn x = true \/ X.env.scope.names.lookup x = some .local := by first | exact .inl rfl | exact .inr rfl | assumption) : PG X (.Name x pos) (zgI i) := by
 intro pins s σ H v u Q I r h
 exact wpAny_assign_Name (zaw I hN hi hx r (λ s' I' => ⟨_, H, I', h⟩) hf)
def zrs : TGs := λ vs σ H Q => vs = [] /\ Q σ H
def zrg (t : TG) (u : TGs) : TGs := λ vs σ H Q => ∃ v r, vs = v :: r /\ t v σ H λ σ' H' => u r σ' H' Q
theorem znx : PGs X [] zrs := by
 intro pins s σ H vs us Q I r h
 obtain ⟨e, h⟩ := h
 subst e
 cases r
 exact assignInOrder_nil ⟨σ, H, I, h⟩
theorem zln {e : Expr} {es : List Expr} {t : TG} {u : TGs} (h1 : PG X e t) (h2 : PGs X es u)
 (hs : (assignEach (e :: es) X.env).map (·.2) = assign e X.env :: (assignEach es X.env).map (·.2) := by rfl) : PGs X (e :: es) (zrg t u) := by
 intro pins s σ H vs us Q I r h
 obtain ⟨v, vr, e1, h⟩ := h
 subst e1
 cases r with
 | cons r rr =>
  rw [hs]
  refine assignInOrder_cons (thn (h1 pins s σ H _ _ _ I r h) λ _ s1 ⟨σ1, H1, I1, q1⟩ => ?_)
  exact h2 pins s1 σ1 H1 _ _ Q I1 rr q1
def zrM (K : zC) (n : Nat) (t : TGs) : TG := λ v σ H Q => ∃ a xs, v = .ref a /\ SqT K H a xs /\ xs.length = n /\ t xs σ H Q
theorem zpZ {es : List Expr} {k : Nat} {t : TGs} {n : Nat} (hc : X.calm = true) (h : PGs X es t)
 (hn : (assignEach es X.env).length = n := by rfl) (hst : (assignEach es X.env).findIdx? (·.1) = none := by rfl) : PG X (.Tuple es k pos) (zrM X.K n t) := by
 intro pins s σ H v u Q I r hw
 obtain ⟨a, xs, e1, hq, hl, hw⟩ := hw
 subst e1
 cases r
 obtain ⟨its, rv, ht, hz⟩ := I.tuple hq
 refine assign_Tuple_tuple (I.ok.hd hc) ht (by simp [hn, <- hl, rv.length]) hst λ h' hx => ?_
 have I1 : Inv X pins σ H { s with heap := h' } := I.kept (t' := s.toks) λ b o e => hx b o (zzN (Heap.lt_size e)) e
 exact h pins _ σ H xs _ Q I1 (by simpa using rv) hw
def zrJ (to ti : TE) (t : zpQ) : TG := λ v σ H Q => to σ H λ o H1 => ti σ H1 λ i H2 => t o i v H2 λ H3 => Q σ H3
theorem zpT {o i : Expr} {to ti : TE} {t : zpQ} (ho : PE X o to) (hi : PE X i ti) (hs : zqY X t)
 (ha : ∀ v, assign (.Subscript o i pos) X.env v = (do
  let ov <- holding [v] (eval o X.env)
  let iv <- holding [v, ov] (eval i X.env)
  standAt pos
  holding [v, ov, iv] (setItem ov iv v)
  release [v, ov, iv] []) := by intro _; rfl) : PG X (.Subscript o i pos) (zrJ to ti t) := by
 intro pins s σ H v u Q I r h
 rw [ha]
 refine wpAny_bind (wpAny_holding (thn (ho pins s σ H _ I h) λ ov s1 ⟨x, H1, I1, r1, q1⟩ => ?_))
 refine wpAny_bind (wpAny_holding (thn (hi pins s1 σ H1 _ I1 q1) λ iv s2 ⟨y, H2, I2, r2, q2⟩ => ?_))
 refine wpAny_bind (wpAny_standAt (wpAny_bind (wpAny_holding (thn (hs pins s2 σ H2 x y v ov iv u _ I2 r1 r2 r q2) λ _ s3 ⟨H3, I3, q3⟩ => ?_))))
 exact wpAny_release ⟨σ, H3, I3, q3⟩
def zoI (te : TE) (g : TG) : TS := λ D σ H => te σ H λ x H1 => g x σ H1 D.nx
theorem zjR {tg e : Expr} {te : TE} {g : TG} (he : PE X e te) (hg : PG X tg g) (hs : swapsWithSole [tg] e pos.line X.env = pure false := by rfl) (hw : swappedStores [tg] e X.env = pure none := by rfl)
 (h1 : (assignEach [tg] X.env).map (·.2) = [assign tg X.env] := by rfl) : PS X (.Assign [tg] e pos) (zoI te g) := by
 intro pins s σ H D I h
 refine wpAny_Assign_stores (thn (he pins s σ H _ I h) λ v s1 ⟨x, H1, I1, r1, q1⟩ => ?_) hs hw
 rw [h1]
 exact thn (hg pins s1 σ H1 x v _ I1 r1 q1) λ _ s2 q => q
theorem zos {i : Nat} {x : Str} {e : Expr} {te : TE} {pos' : Pos} (hN : X.N.Nodup) (hi : X.N[i]? = some x) (hx : Loc X.env.scope x) (he : PE X e te) (hs : swapsWith e (some (.Name x pos')) pos.line X.env = pure false := by rfl) (hf : X.fn x = true \/ X.env.scope.names.lookup x = some .local := by first | exact .inl rfl | exact .inr rfl | assumption) :
 PS X (.Assign [.Name x pos'] e pos) (zoI te (zgI i)) := by
 intro pins s σ H D I h
 refine wpAny_Assign_Name (thn (he pins s σ H _ I h) λ v s1 ⟨y, H1, I1, r1, q1⟩ => ?_) hs
 exact zaw I1 hN hi hx r1 (λ s2 I2 => ⟨_, H1, I2, q1⟩) hf
def zru (i j : Nat) (ta : TA) : TS := λ D σ H => ta σ H λ vs H1 => ∃ v w, vs = [v, w] /\ D.nx ((σ.set i (some v)).set j (some w)) H1
theorem zpb {i j : Nat} {x y : Str} {a b : Expr} {ta : TA} {px py pt : Pos} {kt k2 pt2} (hc : X.calm = true) (hN : X.N.Nodup) (hi : X.N[i]? = some x) (hj : X.N[j]? = some y) (hij : i ≠ j)
 (hx : X.env.scope.names.lookup x = some .local) (hy : X.env.scope.names.lookup y = some .local) (ha : PA X [a, b] ta)
 (hw : swappedStores [.Tuple [.Name x px, .Name y py] kt pt] (.Tuple [a, b] k2 pt2) X.env = pure (some [x, y]))
 (hs : swapsWithSole [.Tuple [.Name x px, .Name y py] kt pt] (.Tuple [a, b] k2 pt2) pos.line X.env = pure false := by rfl) :
 PS X (.Assign [.Tuple [.Name x px, .Name y py] kt pt] (.Tuple [a, b] k2 pt2) pos) (zru i j ta) := by
 intro pins s σ H D I h
 rw [exec_Assign_arm]
 refine wpAny_bind (wpAny_standAt ?_)
 rw [hs]
 refine wpAny_bind (wpAny_pure ?_)
 rw [if_neg (by decide)]
 refine wpAny_bind (Tuple_ (thn (ha _ pins s σ H _ I h) λ us s1 ⟨vs, H1, I1, r1, q1⟩ => ?_))
 obtain ⟨v, w, e1, q1⟩ := q1
 subst e1
 obtain ⟨u1, u2, rfl, rv, rw'⟩ : ∃ u1 u2, us = [u1, u2] /\ RelV v u1 /\ RelV w u2 := by
  cases r1 with
  | cons p q =>
   cases q with
   | cons p' q' =>
    cases q'
    exact ⟨_, _, rfl, p, p'⟩
 refine wpAny_newObj_type ?_ (by show 2 <= sizeLine; decide)
 have I2 : Inv X pins σ H1 { s1 with heap := s1.heap.push { cls := .type "tuple", data := .seq [u1, u2].toArray } } := I1.kept (t' := s1.toks) λ b o e => Heap.get?_push_of_some _ e
 rw [hw]
 refine wpAny_bind (wpAny_pure ?_)
 show wpAny (model X.prog X.w) X.A (do rule "assign.swapped-stores"; let items <- unpackItems (.ref s1.heap.objs.size) 2 none; assignInOrder [λ v => bindName X.env y v, λ v => bindName X.env x v] items.reverse; pure Flow.next) _ _ _
 refine wpAny_bind (wpAny_rule (wpAny_bind (unpackItems_tuple (items := #[u1, u2]) (I.ok.hd hc) (IsTup.new s1.heap _) λ h' hx' => ?_)))
 have I3 := I2.kept (h' := h') (t' := s1.toks) λ b o e => hx' b o (zzN (Heap.lt_size e)) e
 show wpAny _ _ (assignInOrder [λ v => bindName X.env y v, λ v => bindName X.env x v] [u2, u1] >>= λ _ => pure Flow.next) _ _ _
 refine wpAny_bind (assignInOrder_cons (wpAny_bindName (zaw I3 hN hj (.inl hy) rw' (λ s2 I4 => ?_) (.inr hy))))
 refine assignInOrder_cons (wpAny_bindName (zaw I4 hN hi (.inl hx) rv (λ s3 I5 => assignInOrder_nil (wpAny_pure ?_)) (.inr hx)))
 rw [List.set_comm _ _ (Ne.symm hij)] at I5
 exact ⟨_, H1, I5, q1⟩
end
section
variable {X : Cx} {pos : Pos}
def zpc (c : TT) (tb : TS) : TS := λ D σ H => ∃ W : Nat -> St -> Hp -> Prop, (∃ m, W m σ H) /\ ∀ m σ H, W m σ H ->
 c σ H λ b H1 => if b = true then ∃ N : St -> Hp -> Prop, (∀ σ' H', N σ' H' -> ∃ m', m' < m /\ W m' σ' H') /\ tb { D with nx := N, ct := N, bk := D.nx } σ H1 else D.nx σ H1
theorem zkM {c : Expr} {body : List Stmt} {tc : TT} {tb : TS} (hp : PassesOwn (model X.prog X.w) X.A X.env X.xe) (hc : PT X c tc) (hb : PSs X body tb) : PS X (.While c body [] pos) (zpc tc tb) := by
 intro pins s σ H D I h
 obtain ⟨W, ⟨m0, w0⟩, turn⟩ := h
 refine wpAny_While (codeAny_whileLoop (λ n s' => ∃ σ' H', Inv X pins σ' H' s' /\ W n σ' H') ?_ m0 ⟨σ, H, I, w0⟩)
 rintro n s1 ⟨σ1, H1, I1, w1⟩
 refine wpAny_passesOwn hp (thn (hc pins s1 σ1 H1 _ I1 (turn n σ1 H1 w1)) λ b s2 ⟨H2, I2, q2⟩ => ?_)
 cases b with
 | true =>
  obtain ⟨N, hN, q2⟩ := q2
  rw [if_pos rfl]
  refine wpAny_passesOwn hp (thn (hb pins s2 σ1 H2 _ I2 q2) λ f s3 q3 => ?_)
  cases f with
  | next =>
   obtain ⟨σ3, H3, I3, n3⟩ := q3
   obtain ⟨m', hm, w3⟩ := hN σ3 H3 n3
   exact ⟨m', hm, σ3, H3, I3, w3⟩
  | cont =>
   obtain ⟨σ3, H3, I3, n3⟩ := q3
   obtain ⟨m', hm, w3⟩ := hN σ3 H3 n3
   exact ⟨m', hm, σ3, H3, I3, w3⟩
  | brk => exact q3
  | ret v => exact q3
 | false =>
  rw [if_neg Bool.false_ne_true]
  exact wpAny_execs_nil ⟨σ1, H2, I2, q2⟩
end
structure It where
 go : Nat -> Hp -> Prop
 yld : Nat -> Hp -> V -> Hp -> Prop
 stop : Nat -> Hp -> Prop
def zch (X : Cx) (pins : List (Addr × Obj)) (H : Hp) (b : Addr) : Prop :=
 H b = none /\ b ≠ X.env.locals /\ b ∉ X.fs /\ (b ∈ X.ex \/ X.s₀.heap.objs.size <= b) /\ (∀ x c, X.env.cells.lookup x = some c -> c ≠ b) /\ ∀ p ∈ X.pn ++ pins, p.1 ≠ b
theorem Inv.fpOk {X : Cx} {pins : List (Addr × Obj)} {σ : St} {H H' : Hp} {s : Shared} {b : Addr} (I : Inv X pins σ H s) (hb : s.heap.objs.size <= b) (hn : H' b = none) : zch X pins H' b := by
 refine ⟨hn, Nat.ne_of_gt (zzH I.lt hb), I.nofs hb, .inr (zzL I.sz hb), λ x c e z => ?_, λ p hp z => ?_⟩
 · obtain ⟨v, q⟩ := I.cell x c e
   exact absurd (zzH q.lt (by rw [z]; exact hb)) (Nat.lt_irrefl _)
 · exact absurd (zzH (Heap.lt_size (I.pin p hp).1) (by rw [z]; exact hb)) (Nat.lt_irrefl _)
structure Turn (P : Program) (w : World) (K : zC) (tg : Expr) (J : It) (fp : List Addr) (it : Addr) (tn : Nat -> Heap -> Prop) : Prop where
 mem : it ∈ fp
 obj : ∀ i h, tn i h -> ∀ b ∈ fp, ∃ o, h.get? b = some o /\ ∀ v, o.data ≠ .cell v
 keep : ∀ i h h', tn i h -> (∀ b ∈ fp, ∀ o, h.get? b = some o -> h'.get? b = some o) -> tn i h'
 item : ∀ (X : Cx), X.prog = P -> X.w = w -> X.K = K -> X.calm = true -> ∀ (i : Nat) (pins : List (Addr × Obj)) (s : Shared) (σ : St) (H : Hp) (E : Value -> Shared -> Prop), Inv X pins σ H s -> (∀ b ∈ fp, zch X pins H b) -> tn i s.heap -> J.go i H ->
  wpAny (model P w) X.A (pyNext (.ref it)) (λ r s1 => ∃ u, r = some u /\
   wpAny (model P w) X.A (letOwnedTupleGo tg (.ref it) u) (λ _ s2 => ∃ x H', Inv X pins σ H' s2 /\ RelV x u /\ J.yld i H x H' /\ tn (i + 1) s2.heap /\ ∀ b ∈ fp, H' b = none) E s1) E s
 done : ∀ (X : Cx), X.prog = P -> X.w = w -> X.K = K -> X.calm = true -> ∀ (i : Nat) (pins : List (Addr × Obj)) (s : Shared) (σ : St) (H : Hp) (E : Value -> Shared -> Prop), Inv X pins σ H s -> (∀ b ∈ fp, zch X pins H b) -> tn i s.heap -> J.stop i H ->
  wpAny (model P w) X.A (pyNext (.ref it)) (λ r s1 => r = none /\ Inv X pins σ H s1) E s
 self : ∀ (A : Around) (i : Nat) (s : Shared) (Q : Value -> Shared -> Prop) (E : Value -> Shared -> Prop), tn i s.heap -> Q (.ref it) s -> wpAny (model P w) A (pyIter (.ref it)) Q E s
abbrev TI := St -> Hp -> (It -> Hp -> Prop) -> Prop
def PIE (X : Cx) (pins : List (Addr × Obj)) (σ : St) (tg : Expr) (R : It -> Hp -> Prop) (itv : Value) (s2 : Shared) : Prop :=
 ∃ (it : Addr) (fp : List Addr) (tn : Nat -> Heap -> Prop) (J : It) (H' : Hp), itv = .ref it /\ Inv X pins σ H' s2 /\ Turn X.prog X.w X.K tg J fp it tn /\ tn 0 s2.heap /\ (∀ b ∈ fp, zch X pins H' b) /\ R J H'
def PI (X : Cx) (tg iter : Expr) (wi : TI) : Prop :=
 ∀ (pins : List (Addr × Obj)) (s : Shared) (σ : St) (H : Hp) (R : It -> Hp -> Prop), Inv X pins σ H s -> wi σ H R ->
  wpAny (model X.prog X.w) X.A (eval iter X.env) (λ v s1 => wpAny (model X.prog X.w) X.A (pyIter v) (PIE X pins σ tg R) X.xe s1) X.xe s
theorem zlq {M : Model} {A : Around} {E : Value -> Shared -> Prop} {s : Shared} {tg : Expr} {it : Addr} {u : Value} {o : Obj} {n : String} {vs : Array Value} {Q : Unit -> Shared -> Prop} (ho : s.heap.get? it = some o) (hc : o.cls = .type n) (hd : o.data = .fields vs)
 (hn : ["enumerate", "zip", "dict_itemiterator", "dict_reverseitemiterator", "odict_iterator", "itertools.zip_longest", "itertools.pairwise"].contains n = false) (hQ : Q () s) : wpAny M A (letOwnedTupleGo tg (.ref it) u) Q E s := by
 unfold letOwnedTupleGo
 cases tg <;> first
  | exact wpAny_pure hQ
  | (cases u <;> first
   | exact wpAny_pure hQ
   | (refine wpAny_bind (wpAny_load ho ?_)
      rw [hc, hd]
      show wpAny M A (if (["enumerate", "zip", "dict_itemiterator", "dict_reverseitemiterator", "odict_iterator", "itertools.zip_longest", "itertools.pairwise"].contains n && vs[0]? == some (rawInt _)) = true then _ else _) Q E s
      rw [if_neg (by intro h; rw [hn, Bool.false_and] at h; cases h)]
      exact wpAny_pure hQ))
def Itl (K : zC) (a : Addr) : It :=
 ⟨λ i H => ∃ xs x, SqL K H a xs /\ xs[i]? = some x, λ i H x H' => H' = H /\ ∀ xs, SqL K H a xs -> xs[i]? = some x, λ i H => ∃ xs, SqL K H a xs /\ xs.length <= i⟩
def Itt (K : zC) (a : Addr) : It :=
 ⟨λ i H => ∃ xs x, SqT K H a xs /\ xs[i]? = some x, λ i H x H' => H' = H /\ ∀ xs, SqT K H a xs -> xs[i]? = some x, λ i H => ∃ xs, SqT K H a xs /\ xs.length <= i⟩
def Itr (lo : Int) (n : Nat) : It := ⟨λ i _ => i < n, λ i H x H' => H' = H /\ x = .int (lo + i), λ i _ => n <= i⟩
theorem zjG {P : Program} {w : World} {K : zC} {tg : Expr} (a it : Addr) : Turn P w K tg (Itl K a) [it] it (λ i h => h.IsListIter it a i) where
 mem := by simp
 obj := λ i h st b hb => by
  have e : b = it := by simpa using hb
  subst e
  obtain ⟨o, e, c, d⟩ := st
  exact ⟨o, e, λ v z => by rw [d] at z; cases z⟩
 keep := λ i h h' st k => st.at λ o e => k it (by simp) o e
 item := by
  intro X hP hw hK hc i pins s σ H E I hf st hg
  subst hP hw hK
  obtain ⟨xs, x, hq, hx⟩ := hg
  obtain ⟨its, rv, p, hz⟩ := I.list hq
  obtain ⟨u, hu, ru⟩ := rv.get hx
  obtain ⟨f0, f1, f2, f3, f4, f5⟩ := hf it (by simp)
  refine wpAny_pyNext_list_item st p.isList (x := u) (by simpa using hu) λ h' st' sb => ?_
  have I1 : Inv X pins σ H { s with heap := h' } := I.turned (t' := s.toks) (λ b o hb e => (sb.2 b hb).trans e) f0 f1 f3 f4 f5
  obtain ⟨o, e, c, d⟩ := id st'
  exact ⟨u, rfl, zlq (s := { s with heap := h' }) e c d (by decide) ⟨x, H, I1, ru, ⟨rfl, λ ys hy => by rw [I.list_inj hy hq]; exact hx⟩, st', λ b hb => (hf b hb).1⟩⟩
 done := by
  intro X hP hw hK hc i pins s σ H E I hf st hg
  subst hP hw hK
  obtain ⟨xs, hq, hx⟩ := hg
  obtain ⟨its, rv, p, hz⟩ := I.list hq
  obtain ⟨f0, f1, f2, f3, f4, f5⟩ := hf it (by simp)
  have hl := rv.length
  exact wpAny_pyNext_list_end (I.ok.hd hc) st p.isList (by simp; omega) λ h' eb => ⟨rfl, I.turned (t' := s.toks) (λ b o hb e => eb b o hb e) f0 f1 f3 f4 f5⟩
 self := λ _ _ _ _ _ st h => wpAny_pyIter_listiter st h
theorem zhn {P : Program} {w : World} {K : zC} {tg : Expr} (a it : Addr) : Turn P w K tg (Itt K a) [it] it (λ i h => h.IsTupleIter it a i) where
 mem := by simp
 obj := λ i h st b hb => by
  have e : b = it := by simpa using hb
  subst e
  obtain ⟨o, e, c, d⟩ := st
  exact ⟨o, e, λ v z => by rw [d] at z; cases z⟩
 keep := λ i h h' st k => st.at λ o e => k it (by simp) o e
 item := by
  intro X hP hw hK hc i pins s σ H E I hf st hg
  subst hP hw hK
  obtain ⟨xs, x, hq, hx⟩ := hg
  obtain ⟨its, rv, p, hz⟩ := I.tuple hq
  obtain ⟨u, hu, ru⟩ := rv.get hx
  obtain ⟨f0, f1, f2, f3, f4, f5⟩ := hf it (by simp)
  refine wpAny_pyNext_tuple_item st (show s.heap.IsTuple a its.toArray from p) (x := u) (by simpa using hu) λ h' st' sb => ?_
  have I1 : Inv X pins σ H { s with heap := h' } := I.turned (t' := s.toks) (λ b o hb e => (sb.2 b hb).trans e) f0 f1 f3 f4 f5
  obtain ⟨o, e, c, d⟩ := id st'
  exact ⟨u, rfl, zlq (s := { s with heap := h' }) e c d (by decide) ⟨x, H, I1, ru, ⟨rfl, λ ys hy => by rw [I.tuple_inj hy hq]; exact hx⟩, st', λ b hb => (hf b hb).1⟩⟩
 done := by
  intro X hP hw hK hc i pins s σ H E I hf st hg
  subst hP hw hK
  obtain ⟨xs, hq, hx⟩ := hg
  obtain ⟨its, rv, p, hz⟩ := I.tuple hq
  obtain ⟨f0, f1, f2, f3, f4, f5⟩ := hf it (by simp)
  have hl := rv.length
  exact wpAny_pyNext_tuple_end (I.ok.hd hc) st (show s.heap.IsTuple a its.toArray from p) (by simp; omega) λ h' eb => ⟨rfl, I.turned (t' := s.toks) (λ b o hb e => eb b o hb e) f0 f1 f3 f4 f5⟩
 self := λ _ _ _ _ _ st h => wpAny_pyIter_tupleiter st h
theorem zgX {P : Program} {w : World} {K : zC} {tg : Expr} (it : Addr) (lo : Int) (n : Nat) : Turn P w K tg (Itr lo n) [it] it (λ i h => IsRangeIter h it (lo + (i : Nat) * 1) ((n : Int) - (i : Nat)) 1) where
 mem := by simp
 obj := λ i h st b hb => by
  have e : b = it := by simpa using hb
  subst e
  exact ⟨_, st, λ v z => by
   have z' : Data.fields _ = Data.cell v := z
   cases z'⟩
 keep := λ i h h' st k => k it (by simp) _ st
 item := by
  intro X hP hw hK hc i pins s σ H E I hf st hg
  subst hP hw hK
  obtain ⟨f0, f1, f2, f3, f4, f5⟩ := hf it (by simp)
  have W := Walks.range (prog := X.prog) (w := X.w) (I.ok.hd hc) it lo 1 n
  refine W.item i s _ _ hg st λ v h' tk hv st' kk => ?_
  obtain ⟨t, rfl⟩ := hv
  have I1 : Inv X pins σ H { s with heap := h', toks := tk } := I.turned (λ b o hb e => kk b o (by simpa using hb) e) f0 f1 f3 f4 f5
  refine ⟨_, rfl, zlq (s := { s with heap := h', toks := tk }) (n := "range_iterator") st' rfl rfl (by decide) ⟨.int (lo + i), H, I1, ⟨t, ?_⟩, ⟨rfl, rfl⟩, st', λ b hb => (hf b hb).1⟩⟩
  rw [Int.mul_one]
 done := by
  intro X hP hw hK hc i pins s σ H E I hf st hg
  subst hP hw hK
  obtain ⟨f0, f1, f2, f3, f4, f5⟩ := hf it (by simp)
  exact wpAny_pyNext_range_end (I.ok.hd hc) st (by have : n <= i := hg; omega) λ h' eb => ⟨rfl, I.turned (t' := s.toks) (λ b o hb e => eb b o hb e) f0 f1 f3 f4 f5⟩
 self := λ _ _ _ _ _ st h => wpAny_pyIter_rangeiter st h
end L2
namespace L2
open PySem PySem.Spec PyProof.Rows
section
variable {X : Cx} {tg : Expr}
def zrd (K : zC) (tl : TE) : TI := λ σ H R => tl σ H λ x H1 => ∃ a, x = .ref a /\ (∃ xs, SqL K H1 a xs) /\ R (Itl K a) H1
def zsa (K : zC) (tl : TE) : TI := λ σ H R => tl σ H λ x H1 => ∃ a, x = .ref a /\ (∃ xs, SqT K H1 a xs) /\ R (Itt K a) H1
theorem zfc {l : Expr} {tl : TE} (hl : PE X l tl) : PI X tg l (zrd X.K tl) := by
 intro pins s σ H R I h
 refine thn (hl pins s σ H _ I h) λ v s1 ⟨x, H1, I1, r1, q1⟩ => ?_
 obtain ⟨a, e, ⟨xs, hq⟩, q⟩ := q1
 subst e
 cases r1
 obtain ⟨its, rv, p, hz⟩ := I1.list hq
 refine wpAny_pyIter_list p.isList ?_
 refine ⟨s1.heap.objs.size, [s1.heap.objs.size], _, _, H1, rfl, I1.kept (t' := s1.toks) λ b o e => Heap.get?_push_of_some _ e, zjG a _, ⟨_, Heap.get?_push_size _ rfl, rfl, rfl⟩, λ b hb => ?_, q⟩
 have e : b = s1.heap.objs.size := by simpa using hb
 subst e
 exact I1.fpOk (zzK _) (I1.hok.fresh (zzK _))
theorem zhD {l : Expr} {tl : TE} (hl : PE X l tl) : PI X tg l (zsa X.K tl) := by
 intro pins s σ H R I h
 refine thn (hl pins s σ H _ I h) λ v s1 ⟨x, H1, I1, r1, q1⟩ => ?_
 obtain ⟨a, e, ⟨xs, hq⟩, q⟩ := q1
 subst e
 cases r1
 obtain ⟨its, rv, p, hz⟩ := I1.tuple hq
 refine wpAny_pyIter_tuple (show s1.heap.IsTuple a its.toArray from p) ?_
 refine ⟨s1.heap.objs.size, [s1.heap.objs.size], _, _, H1, rfl, I1.kept (t' := s1.toks) λ b o e => Heap.get?_push_of_some _ e, zhn a _, ⟨_, Heap.get?_push_size _ rfl, rfl, rfl⟩, λ b hb => ?_, q⟩
 have e : b = s1.heap.objs.size := by simpa using hb
 subst e
 exact I1.fpOk (zzK _) (I1.hok.fresh (zzK _))
theorem zge {pins : List (Addr × Obj)} {σ : St} {H : Hp} {s : Shared} {R : It -> Hp -> Prop} {E : Value -> Shared -> Prop} {lo hi : Int} {t u v : Tok} {tk : Nat} (I : Inv X pins σ H s) (h1 : -(2 ^ 62) <= lo) (h2 : lo < 2 ^ 62) (h3 : -(2 ^ 62) <= hi) (h4 : hi < 2 ^ 62)
 (q : R (Itr lo (hi - lo).toNat) H) : wpAny (model X.prog X.w) X.A (pyIter (.ref s.heap.objs.size)) (PIE X pins σ tg R) E { s with heap := s.heap.push { cls := .type "range", data := .fields #[.int lo t, .int hi u, .int 1 v] }, toks := tk } := by
 refine wpAny_pyIter_range (IsRange.new ..) (small_one h1 h2 h3 h4) ?_
 have I1 : Inv X pins σ H { s with heap := s.heap.push { cls := .type "range", data := .fields #[.int lo t, .int hi u, .int 1 v] }, toks := tk } := I.kept λ b o e => Heap.get?_push_of_some _ e
 refine ⟨(s.heap.push { cls := .type "range", data := .fields #[.int lo t, .int hi u, .int 1 v] }).objs.size, [(s.heap.push { cls := .type "range", data := .fields #[.int lo t, .int hi u, .int 1 v] }).objs.size], _, _, H, rfl,
  I1.kept (t' := tk) λ b o e => Heap.get?_push_of_some _ e, zgX _ lo (hi - lo).toNat, ?_, λ b hb => ?_, q⟩
 · have e1 : lo + ((0 : Nat) : Int) * 1 = lo := by simp
   have e2 : (((hi - lo).toNat : Nat) : Int) - ((0 : Nat) : Int) = Builtin.Range.rangeSize lo hi 1 := by rw [rangeSize_one]; split <;> omega
   show IsRangeIter _ _ (lo + ((0 : Nat) : Int) * 1) ((((hi - lo).toNat : Nat) : Int) - ((0 : Nat) : Int)) 1
   rw [e1, e2]
   exact Heap.get?_push_size _ rfl
 · have e : b = (s.heap.push { cls := .type "range", data := .fields #[.int lo t, .int hi u, .int 1 v] }).objs.size := by simpa using hb
   subst e
   exact I1.fpOk (zzK _) (I1.hok.fresh (zzK _))
def zqx (ta : TA) : TI := λ σ H R => ta σ H λ vs H1 => ∃ j : Int, vs = [.int j] /\ -(2 ^ 62) <= j /\ j < 2 ^ 62 /\ R (Itr 0 j.toNat) H1
def zqC (ta : TA) : TI := λ σ H R => ta σ H λ vs H1 => ∃ i j : Int, vs = [.int i, .int j] /\ (-(2 ^ 62) <= i /\ i < 2 ^ 62 /\ -(2 ^ 62) <= j /\ j < 2 ^ 62) /\ R (Itr i (j - i).toNat) H1
theorem zeo {a : Expr} {ta : TA} {p pos : Pos} (hg : Gl X "range") (hm : X.mg "range" = none) (ha : PA X [a] ta) (hs : starEach [a] X.env = [(false, eval a X.env)] := by rfl) : PI X tg (.Call (.Name "range" p) [a] [] pos) (zqx ta) := by
 intro pins s σ H R I h
 refine Call_ (XD I hg hm boot_range (PyProof.Rows.callWith_type1 (thn (ha pos pins s σ H _ I h) λ us s1 ⟨vs, H1, I1, r1, q1⟩ => ?_) hs rfl))
 obtain ⟨j, e, q1, q2, q⟩ := q1
 subst e
 cases r1 with
 | cons r rr =>
  cases rr
  obtain ⟨t, rfl⟩ := r
  exact call_range_1 (zge I1 (by omega) (by omega) q1 q2 (by simpa using q))
theorem zjk {a b : Expr} {ta : TA} {p pos : Pos} (hg : Gl X "range") (hm : X.mg "range" = none) (ha : PA X [a, b] ta) (hs : starEach [a, b] X.env = [(false, eval a X.env), (false, eval b X.env)] := by rfl) (hs2 : starEach [b] X.env = [(false, eval b X.env)] := by rfl) :
 PI X tg (.Call (.Name "range" p) [a, b] [] pos) (zqC ta) := by
 intro pins s σ H R I h
 refine Call_ (XD I hg hm boot_range (PyProof.Rows.callWith_type1 (thn (ha pos pins s σ H _ I h) λ us s1 ⟨vs, H1, I1, r1, q1⟩ => ?_) (by rw [hs, hs2]) (by rw [hs2]; rfl)))
 obtain ⟨i, j, e, ⟨q1, q2, q3, q4⟩, q⟩ := q1
 subst e
 cases r1 with
 | cons r rr =>
  cases rr with
  | cons r' rr =>
   cases rr
   obtain ⟨t, rfl⟩ := r
   obtain ⟨t', rfl⟩ := r'
   exact call_range_2 (zge I1 q1 q2 q3 q4 q)
def zrS (wi : TI) (g : TG) (tb : TS) : TS := λ D σ H => wi σ H λ J H1 => ∃ W : Nat -> Nat -> St -> Hp -> Prop, (∃ m, W 0 m σ H1) /\ ∀ i m σ H, W i m σ H ->
 (J.stop i H /\ D.nx σ H) \/ (J.go i H /\ ∃ N : St -> Hp -> Prop, (∀ σ' H', N σ' H' -> ∃ m', m' < m /\ W (i + 1) m' σ' H') /\ ∀ x H', J.yld i H x H' -> g x σ H' λ σ2 H2 => tb { D with nx := N, ct := N, bk := D.nx } σ2 H2)
def zcY (fp : List Addr) (h : Heap) : List (Addr × Obj) := fp.filterMap λ b => (h.get? b).map λ o => (b, o)
theorem X7 {fp : List Addr} {h : Heap} {b : Addr} {o : Obj} (hb : b ∈ fp) (e : h.get? b = some o) : (b, o) ∈ zcY fp h := List.mem_filterMap.mpr ⟨b, hb, by rw [e]; rfl⟩
theorem zjN {fp : List Addr} {h : Heap} {p : Addr × Obj} (hp : p ∈ zcY fp h) : p.1 ∈ fp /\ h.get? p.1 = some p.2 := by
 obtain ⟨b, hb, e⟩ := List.mem_filterMap.mp hp
 cases q : h.get? b with
 | none => rw [q] at e; cases e
 | some o =>
  rw [q] at e
  have e' : (b, o) = p := Option.some.inj e
  subst e'
  exact ⟨hb, q⟩
theorem Inv.pinned {pins : List (Addr × Obj)} {σ : St} {H : Hp} {s : Shared} {fp : List Addr} (I : Inv X pins σ H s) (hf : ∀ b ∈ fp, zch X pins H b) (ho : ∀ b ∈ fp, ∃ o, s.heap.get? b = some o /\ ∀ v, o.data ≠ .cell v) : Inv X (pins ++ zcY fp s.heap) σ H s :=
 I.pins_of λ p hp => (zzJ.mp hp).elim (λ z => I.pin p (zzI _ z)) λ z => by
  obtain ⟨hb, e⟩ := zjN z
  obtain ⟨f0, f1, f2, _⟩ := hf p.1 hb
  obtain ⟨o, e', d⟩ := ho p.1 hb
  rw [e] at e'; cases e'
  exact ⟨e, f0, f1, f2, d⟩
theorem Inv.unpinned {pins pl : List (Addr × Obj)} {σ : St} {H : Hp} {s : Shared} (I : Inv X (pins ++ pl) σ H s) : Inv X pins σ H s := I.pins_of λ p hp => I.pin p (zzI _ (zzM _ hp))
theorem zon {iter : Expr} {body : List Stmt} {wi : TI} {g : TG} {tb : TS} {pos : Pos} (hp : PassesOwn (model X.prog X.w) X.A X.env X.xe) (hc : X.calm = true) (hi : PI X tg iter wi) (hg : PG X tg g) (hb : PSs X body tb)
 (hs : ∀ x, foldedSetIterable iter X.env x = pure x := by intro _; rfl) : PS X (.For tg iter body [] pos) (zrS wi g tb) := by
 intro pins s σ H D I h
 refine wpAny_For (thn (hi pins s σ H _ I h) λ v s1 h1 => thn h1 λ itv s2 h2 => ?_) hs
 obtain ⟨it, fp, tn, J, H2, e, I2, T, st2, f2, W, ⟨m0, w0⟩, turn⟩ := h2
 subst e
 have stat : ∀ {H' : Hp}, (∀ b ∈ fp, H' b = none) -> ∀ b ∈ fp, zch X pins H' b := λ hn b hb => ⟨hn b hb, (f2 b hb).2⟩
 refine codeAny_forLoop_any (λ n s' => ∃ i σ' H', Inv X pins σ' H' s' /\ tn i s'.heap /\ (∀ b ∈ fp, H' b = none) /\ W i n σ' H') ?_ m0 ⟨0, σ, H2, I2, st2, λ b hb => (f2 b hb).1, w0⟩
 rintro n s3 ⟨i, σ3, H3, I3, st3, fr3, w3⟩
 rcases turn i n σ3 H3 w3 with ⟨stop, qn⟩ | ⟨go, N, hN, step⟩
 · refine wpAny_passesOwn hp (thn (T.done X rfl rfl rfl hc i pins s3 σ3 H3 X.xe I3 (stat fr3) st3 stop) λ r s4 ⟨hr, I4⟩ => ?_)
   subst hr
   exact wpAny_execs_nil ⟨σ3, H3, I4, qn⟩
 · refine wpAny_passesOwn hp (thn (T.item X rfl rfl rfl hc i pins s3 σ3 H3 X.xe I3 (stat fr3) st3 go) λ r s4 ⟨u, hr, h4⟩ => ?_)
   subst hr
   refine wpAny_passesOwn hp (thn h4 λ _ s5 ⟨x, H5, I5, r5, y5, st5, fr5⟩ => ?_)
   have I5' := I5.pinned (stat fr5) (T.obj _ _ st5)
   refine wpAny_passesOwn hp (thn (hg _ s5 σ3 H5 x u _ I5' r5 (step x H5 y5)) λ _ s6 ⟨σ6, H6, I6, q6⟩ => ?_)
   refine wpAny_passesOwn hp (thn (hb _ s6 σ6 H6 _ I6 q6) λ f s7 q7 => ?_)
   have again : ∀ {σ7 : St} {H7 : Hp}, Inv X (pins ++ zcY fp s5.heap) σ7 H7 s7 -> N σ7 H7 -> ∃ m, m < n /\ ∃ i σ' H', Inv X pins σ' H' s7 /\ tn i s7.heap /\ (∀ b ∈ fp, H' b = none) /\ W i m σ' H' := λ {σ7 H7} I7 n7 => by
    obtain ⟨m', hm, w7⟩ := hN σ7 H7 n7
    refine ⟨m', hm, i + 1, σ7, H7, I7.unpinned, T.keep _ _ _ st5 λ b hb o e => (I7.pin (b, o) (zzI _ (zzI _ (X7 hb e)))).1, λ b hb => ?_, w7⟩
    obtain ⟨o, e, d⟩ := T.obj _ _ st5 b hb
    exact (I7.pin (b, o) (zzI _ (zzI _ (X7 hb e)))).2.1
   cases f with
   | next => obtain ⟨σ7, H7, I7, n7⟩ := q7; exact again I7 n7
   | cont => obtain ⟨σ7, H7, I7, n7⟩ := q7; exact again I7 n7
   | brk => obtain ⟨σ7, H7, I7, q7⟩ := q7; exact ⟨σ7, H7, I7.unpinned, q7⟩
   | ret v => obtain ⟨x7, σ7, H7, I7, r7, q7⟩ := q7; exact ⟨x7, σ7, H7, I7.unpinned, r7, q7⟩
end
end L2
namespace L2
open PySem PySem.Spec PyProof.Rows
abbrev R2 := V -> V -> Hp -> VK -> Prop
def OpR (X : Cx) (f : Value -> Value -> Sem Value) (r : R2) : Prop :=
 ∀ (pins : List (Addr × Obj)) (s : Shared) (σ : St) (H : Hp) (x y : V) (v u : Value) (Q : VK), Inv X pins σ H s -> RelV x v -> RelV y u -> r x y H Q ->
  wpAny (model X.prog X.w) X.A (f v u) (EP X pins σ Q) X.xe s
def UnR (X : Cx) (f : Value -> Sem Value) (r : V -> Hp -> VK -> Prop) : Prop :=
 ∀ (pins : List (Addr × Obj)) (s : Shared) (σ : St) (H : Hp) (x : V) (v : Value) (Q : VK), Inv X pins σ H s -> RelV x v -> r x H Q ->
  wpAny (model X.prog X.w) X.A (f v) (EP X pins σ Q) X.xe s
def VJ (X : Cx) (f : Value) (r : List V -> Hp -> VK -> Prop) : Prop :=
 ∀ (pins : List (Addr × Obj)) (s : Shared) (σ : St) (H : Hp) (xs : List V) (us : List Value) (Q : VK), Inv X pins σ H s -> Vals xs us -> r xs H Q ->
  wpAny (model X.prog X.w) X.A (call f us) (EP X pins σ Q) X.xe s
def zrI (X : Cx) (r : V -> Hp -> (Bool -> Hp -> Prop) -> Prop) : Prop :=
 ∀ (pins : List (Addr × Obj)) (s : Shared) (σ : St) (H : Hp) (x : V) (v : Value) (Q : Bool -> Hp -> Prop), Inv X pins σ H s -> RelV x v -> r x H Q ->
  wpAny (model X.prog X.w) X.A (truthy v) (TP X pins σ Q) X.xe s
def tOp (r : R2) (ta tb : TE) : TE := λ σ H Q => ta σ H λ x H1 => tb σ H1 λ y H2 => r x y H2 Q
def tUn (r : V -> Hp -> VK -> Prop) (ta : TE) : TE := λ σ H Q => ta σ H λ x H1 => r x H1 Q
def rI (C : Int -> Int -> Prop) (g : Int -> Int -> V) : R2 := λ x y H Q => ∃ i j, x = .int i /\ y = .int j /\ C i j /\ Q (g i j) H
def rI0 (g : Int -> Int -> V) : R2 := λ x y H Q => ∃ i j, x = .int i /\ y = .int j /\ Q (g i j) H
def rU (g : Int -> V) : V -> Hp -> VK -> Prop := λ x H Q => ∃ i, x = .int i /\ Q (g i) H
section
variable {X : Cx} {a b c : Expr} {ta tb tc : TE} {pos : Pos}
theorem zph (ha : PE X a ta) (hb : PE X b tb) {pins : List (Addr × Obj)} {s : Shared} {σ : St} {H : Hp} {R : V -> V -> Hp -> Prop} (I : Inv X pins σ H s)
 (h : ta σ H λ x H1 => tb σ H1 λ y H2 => R x y H2) {Q : Value -> Shared -> Prop} {f : Value -> Value -> Sem Value}
 (hf : ∀ v u s2 x y H2, Inv X pins σ H2 s2 -> RelV x v -> RelV y u -> R x y H2 -> wpAny (model X.prog X.w) X.A (f v u) Q X.xe s2) :
 wpAny (model X.prog X.w) X.A (eval a X.env) (λ v s₁ => wpAny (model X.prog X.w) X.A (eval b X.env) (λ u s₂ => wpAny (model X.prog X.w) X.A (f v u) Q X.xe s₂) X.xe s₁) X.xe s := by
 refine thn (ha pins s σ H _ I h) λ v s1 ⟨x, H1, I1, r1, q1⟩ => ?_
 refine thn (hb pins s1 σ H1 _ I1 q1) λ u s2 ⟨y, H2, I2, r2, q2⟩ => ?_
 exact hf v u s2 x y H2 I2 r1 r2 q2
theorem zqI {op : Operator} {r : R2} (ho : OpR X (binaryOp op) r) (ha : PE X a ta) (hb : PE X b tb) : PE X (.BinOp a op b pos) (tOp r ta tb) := by
 intro pins s σ H Q I h
 exact wpAny_BinOp (zph ha hb I h λ v u s2 x y H2 I2 rx ry q => ho pins s2 σ H2 x y v u Q I2 rx ry q)
theorem zqS {op : UnaryOp} {r : V -> Hp -> VK -> Prop} (ho : UnR X (unaryOp op) r) (ha : PE X a ta) : PE X (.UnaryOp op a pos) (tUn r ta) := by
 intro pins s σ H Q I h
 exact UnaryOp_ (thn (ha pins s σ H _ I h) λ v s1 ⟨x, H1, I1, r1, q1⟩ => ho pins s1 σ H1 x v Q I1 r1 q1)
theorem opI {f : Value -> Value -> Sem Value} {C : Int -> Int -> Prop} {g : Int -> Int -> Int}
 (rule : ∀ (i j : Int) (t u : Tok) (s : Shared) (Q : Value -> Shared -> Prop) (E : Value -> Shared -> Prop), C i j -> Q (.int (g i j) s.toks) { s with toks := s.toks + 1 } -> wpAny (model X.prog X.w) X.A (f (.int i t) (.int j u)) Q E s) :
 OpR X f (rI C λ i j => .int (g i j)) := by
 intro pins s σ H x y v u Q I rx ry h
 obtain ⟨i, j, rfl, rfl, hc, q⟩ := h
 obtain ⟨t, rfl⟩ := rx
 obtain ⟨t', rfl⟩ := ry
 exact rule i j t t' s _ _ hc ⟨.int (g i j), H, I.tok _, ⟨_, rfl⟩, q⟩
theorem zqq {f : Value -> Value -> Sem Value} {g : Int -> Int -> Int}
 (rule : ∀ (i j : Int) (t u : Tok) (s : Shared) (Q : Value -> Shared -> Prop) (E : Value -> Shared -> Prop), Q (.int (g i j) s.toks) { s with toks := s.toks + 1 } -> wpAny (model X.prog X.w) X.A (f (.int i t) (.int j u)) Q E s) :
 OpR X f (rI0 λ i j => .int (g i j)) := by
 intro pins s σ H x y v u Q I rx ry h
 obtain ⟨i, j, rfl, rfl, q⟩ := h
 obtain ⟨t, rfl⟩ := rx
 obtain ⟨t', rfl⟩ := ry
 exact rule i j t t' s _ _ ⟨.int (g i j), H, I.tok _, ⟨_, rfl⟩, q⟩
theorem znz {f : Value -> Value -> Sem Value} {g : Int -> Int -> Bool}
 (rule : ∀ (i j : Int) (t u : Tok) (s : Shared) (Q : Value -> Shared -> Prop) (E : Value -> Shared -> Prop), Q (.bool (g i j)) s -> wpAny (model X.prog X.w) X.A (f (.int i t) (.int j u)) Q E s) :
 OpR X f (rI0 λ i j => .bl (g i j)) := by
 intro pins s σ H x y v u Q I rx ry h
 obtain ⟨i, j, rfl, rfl, q⟩ := h
 obtain ⟨t, rfl⟩ := rx
 obtain ⟨t', rfl⟩ := ry
 exact rule i j t t' s _ _ ⟨.bl (g i j), H, I, rfl, q⟩
def zqA (i j : Int) : Prop := 0 <= j /\ j <= 1000000 /\ i.natAbs < 2 ^ 64
theorem zpI : OpR X (binaryOp .Add) (rI0 λ i j => .int (i + j)) := zqq λ _ _ _ _ _ _ _ q => add_int q
theorem zpu : OpR X (binaryOp .Sub) (rI0 λ i j => .int (i - j)) := zqq λ _ _ _ _ _ _ _ q => sub_int q
theorem zpi : OpR X (binaryOp .Mod) (rI (λ _ j => 0 < j) λ i j => .int (i % j)) := opI λ i j _ _ _ _ _ hc q => by
 have h1 : (0 : Int) < j := hc
 exact mod_int' (by omega) (by rw [Int.fmod_eq_emod_of_nonneg i (by omega)]; exact q)
theorem zpn : OpR X (binaryOp .Pow) (rI zqA λ i j => .int (i ^ j.toNat)) := opI λ _ _ _ _ _ _ _ hc q => pow_int_small hc.1 hc.2.1 hc.2.2 q
theorem zqk : OpR X (binaryOp .LShift) (rI zqA λ i j => .int (i * 2 ^ j.toNat)) := opI λ _ _ _ _ _ _ _ hc q => lshift_int_small hc.1 hc.2.1 hc.2.2 q
theorem unI {f : Value -> Sem Value} {g : Int -> Int}
 (rule : ∀ (i : Int) (t : Tok) (s : Shared) (Q : Value -> Shared -> Prop) (E : Value -> Shared -> Prop), Q (.int (g i) s.toks) { s with toks := s.toks + 1 } -> wpAny (model X.prog X.w) X.A (f (.int i t)) Q E s) :
 UnR X f (rU λ i => .int (g i)) := by
 intro pins s σ H x v Q I rx h
 obtain ⟨i, rfl, q⟩ := h
 obtain ⟨t, rfl⟩ := rx
 exact rule i t s _ _ ⟨.int (g i), H, I.tok _, ⟨_, rfl⟩, q⟩
theorem zoY : UnR X (unaryOp .USub) (rU λ i => .int (-i)) := unI λ _ _ _ _ _ q => neg_int q
end
section
variable {X : Cx} {a b c : Expr} {ta tb tc : TE} {pos : Pos}
theorem wU {pins : List (Addr × Obj)} {σ : St} {H : Hp} {s : Shared} {Q : VK} {k k' : Bool} (I : Inv X pins σ H s) (q : Q (.bl k) H) (e : k = k') : EP X pins σ Q (.bool k') s := by
 subst e
 exact ⟨.bl k, H, I, rfl, q⟩
theorem zrl : OpR X (compareOp .Lt) (rI0 λ i j => .bl (decide (i < j))) := znz λ _ _ _ _ _ _ _ q => lt_int q
theorem zqu : OpR X (compareOp .LtE) (rI0 λ i j => .bl (decide (i <= j))) := znz λ _ _ _ _ _ _ _ q => le_int q
theorem zqn : OpR X (compareOp .Gt) (rI0 λ i j => .bl (decide (j < i))) := znz λ _ _ _ _ _ _ _ q => gt_int q
theorem zqN : OpR X (compareOp .GtE) (rI0 λ i j => .bl (decide (j <= i))) := znz λ _ _ _ _ _ _ _ q => ge_int q
theorem zjH : OpR X (compareOp .In) (λ x y H Q => ∃ i j, x = .str i /\ y = .str j /\ Q (.bl (!(Builtin.Str.occurrences j i 0 j.length 1).isEmpty)) H) := by
 intro pins s σ H x y v u Q I rx ry h
 obtain ⟨i, j, rfl, rfl, q⟩ := h
 obtain ⟨t, rfl⟩ := rx
 obtain ⟨t', rfl⟩ := ry
 exact in_str (wU I q rfl)
theorem zoN : OpR X (compareOp .Is) (λ x y H Q => y = .non /\ Q (.bl (decide (x = .non))) H) := by
 intro pins s σ H x y v u Q I rx ry h
 obtain ⟨rfl, q⟩ := h
 cases ry
 refine is_none_gen (wU I q ?_)
 cases x <;> first
  | (cases rx; rfl)
  | (obtain ⟨t, rfl⟩ := rx; rfl)
theorem zmR : OpR X (compareOp .IsNot) (λ x y H Q => y = .non /\ Q (.bl (!decide (x = .non))) H) := by
 intro pins s σ H x y v u Q I rx ry h
 obtain ⟨rfl, q⟩ := h
 cases ry
 refine isnot_none_gen (wU I q ?_)
 cases x <;> first
  | (cases rx; rfl)
  | (obtain ⟨t, rfl⟩ := rx; rfl)
theorem zfv : OpR X (compareOp .NotIn) (λ x y H Q => ∃ i j, x = .str i /\ y = .str j /\ Q (.bl (!(!(Builtin.Str.occurrences j i 0 j.length 1).isEmpty))) H) := by
 intro pins s σ H x y v u Q I rx ry h
 obtain ⟨i, j, rfl, rfl, q⟩ := h
 obtain ⟨t, rfl⟩ := rx
 obtain ⟨t', rfl⟩ := ry
 exact notIn_str (wU I q rfl)
theorem yH (b : Expr) {op : CmpOp} (h : op ≠ .In := by decide) (h2 : op ≠ .NotIn := by decide) : behindInMarks op b = false := by
 have e1 : (op == CmpOp.In) = false := by cases op <;> first | rfl | exact absurd rfl h
 have e2 : (op == CmpOp.NotIn) = false := by cases op <;> first | rfl | exact absurd rfl h2
 cases b <;> simp [behindInMarks, e1, e2]
theorem zmM {op : CmpOp} {r : R2} (ho : OpR X (compareOp op) r) (ha : PE X a ta) (hb : PE X b tb) (hm : behindInMarks op b = false) : PE X (.Compare a [op] [b] pos) (tOp r ta tb) := by
 intro pins s σ H Q I h
 exact wpAny_Compare1 (zph ha hb I h λ v u s2 x y H2 I2 rx ry q => ho pins s2 σ H2 x y v u Q I2 rx ry q) hm
def zqt (t : TE) : TT := λ σ H Q => t σ H λ x H' => ∃ k, x = .bl k /\ Q k H'
theorem znf {op : CmpOp} {r : R2} (ho : OpR X (compareOp op) r) (ha : PE X a ta) (hb : PE X b tb) (hm : behindInMarks op b = false) : PT X (.Compare a [op] [b] pos) (zqt (tOp r ta tb)) := by
 intro pins s σ H Q I h
 refine wpAny_isTrue_Compare1 (thn (ha pins s σ H _ I h) λ v s1 ⟨x, H1, I1, r1, q1⟩ => thn (hb pins s1 σ H1 _ I1 q1) λ u s2 ⟨y, H2, I2, r2, q2⟩ =>
  thn (ho pins s2 σ H2 x y v u _ I2 r1 r2 q2) λ c s3 ⟨z, H3, I3, r3, k, e, q3⟩ => ?_) hm
 subst e
 cases r3
 exact wpAny_truthy_bool ⟨H3, I3, q3⟩
def zpv (K : zC) (x : V) (H : Hp) (k : Bool) : Prop :=
 match x with
 | .non => k = false
 | .bl b => k = b
 | .int i => k = (i != 0)
 | .str y => y.length <= sizeLine /\ k = ((y.length : Int) != 0)
 | .byt y => y.size <= sizeLine /\ k = ((y.size : Int) != 0)
 | .ref p => (∃ xs, SqL K H p xs /\ k = !xs.isEmpty) \/ (∃ xs, SqT K H p xs /\ k = !xs.isEmpty) \/ ∃ kvs, H p = some (.dK kvs) /\ k = !kvs.isEmpty
 | _ => False
theorem zhF {κ : Type} {kvs : List (κ × V)} {vs : List (κ × Value)} (r : KV kvs vs) : (!vs.isEmpty) = !kvs.isEmpty := by
 cases r <;> rfl
theorem zdv {xs : List V} {its : List Value} (r : Vals xs its) : (!its.toArray.isEmpty) = !xs.isEmpty := by
 cases r <;> simp
theorem V7 : (sizeLine : Nat) < 2 ^ 63 := by rw [sizeLine_eq]; decide
theorem znZ : zrI X (λ x H Q => ∃ k, zpv X.K x H k /\ Q k H) := by
 intro pins s σ H x v Q I rx h
 obtain ⟨k, e, q⟩ := h
 have hl := V7
 have hs : sizeLine = 16777216 := sizeLine_eq
 cases x with
 | non =>
  cases rx
  have e' : k = false := e
  subst e'
  exact truthy_none ⟨H, I, q⟩
 | bl b =>
  cases rx
  have e' : k = b := e
  subst e'
  exact wpAny_truthy_bool ⟨H, I, q⟩
 | int i =>
  obtain ⟨t, rfl⟩ := rx
  have e' : k = (i != 0) := e
  subst e'
  exact PySem.P.truthy_int ⟨H, I, q⟩
 | str y =>
  obtain ⟨t, rfl⟩ := rx
  obtain ⟨hy, e'⟩ : y.length <= sizeLine /\ k = ((y.length : Int) != 0) := e
  subst e'
  exact PySem.P.truthy_str (by omega) ⟨H, I.tok _, q⟩
 | byt y =>
  obtain ⟨t, rfl⟩ := rx
  obtain ⟨hy, e'⟩ : y.size <= sizeLine /\ k = ((y.size : Int) != 0) := e
  subst e'
  exact PySem.W.truthy_bytes (by omega) ⟨H, I.tok _, q⟩
 | ref p =>
  cases rx
  have e' : (∃ xs, SqL X.K H p xs /\ k = !xs.isEmpty) \/ (∃ xs, SqT X.K H p xs /\ k = !xs.isEmpty) \/ ∃ kvs, H p = some (.dK kvs) /\ k = !kvs.isEmpty := e
  rcases e' with ⟨xs, hx, e'⟩ | ⟨xs, hx, e'⟩ | ⟨kvs, hx, e'⟩
  · subst e'
    obtain ⟨its, r, pl, hz⟩ := I.list hx
    have hlen := r.length
    exact wpAny_truthy_list pl.isList (by simp only [zzE]; omega) ⟨H, I.tok _, by rw [zdv r]; exact q⟩
  · subst e'
    obtain ⟨its, r, pl, hz⟩ := I.tuple hx
    have hlen := r.length
    exact truthy_tuple pl (by simp only [zzE]; omega) ⟨H, I.tok _, by rw [zdv r]; exact q⟩
  · subst e'
    obtain ⟨hz, hS, vs, r, m⟩ : kvs.length <= sizeLine /\ (p == sysModules) = false /\ ∃ vs, KV kvs vs /\ s.heap.DictOf (wC X.prog X.w) p vs := I.hok p _ hx
    have hlen : kvs.length = vs.length := Paired.length r
    exact wpAny_truthy_dict hS m (by omega) ⟨H, I.tok _, by rw [zhF r]; exact q⟩
 | _ => exact (show False from e).elim
theorem zjY (ha : PE X a ta) (he : ∀ whole, isTrue a X.env whole = (do let v <- whole; standAt a.pos; holding [v] (truthy v))) :
 PT X a (λ σ H Q => ta σ H λ x H' => ∃ k, zpv X.K x H' k /\ Q k H') := by
 intro pins s σ H Q I h
 exact isTrue_plain (thn (ha pins s σ H _ I h) λ v s1 ⟨x, H1, I1, r1, q1⟩ => znZ pins s1 σ H1 x v Q I1 r1 q1) (he _)
theorem zhf : OpR X (binaryOp .Add) (λ x y H Q => ∃ i j, x = .str i /\ y = .str j /\ i.length + j.length <= sizeLine /\ Q (.str (i ++ j)) H) := by
 intro pins s σ H x y v u Q I rx ry h
 obtain ⟨i, j, rfl, rfl, hz, q⟩ := h
 obtain ⟨t, rfl⟩ := rx
 obtain ⟨t', rfl⟩ := ry
 exact add_str (λ t' tk => ⟨.str (i ++ j), H, I.tok _, ⟨_, rfl⟩, q⟩) hz
theorem vals1 {x : V} {us : List Value} (r : Vals [x] us) : ∃ u, us = [u] /\ RelV x u := by
 cases r with
 | cons r1 r2 => cases r2; exact ⟨_, rfl, r1⟩
theorem vals2 {x y : V} {us : List Value} (r : Vals [x, y] us) : ∃ u w', us = [u, w'] /\ RelV x u /\ RelV y w' := by
 cases r with
 | cons r1 r2 =>
  cases r2 with
  | cons r3 r4 => cases r4; exact ⟨_, _, rfl, r1, r3⟩
theorem zjn (hc : X.calm = true) : VJ X (.builtin "max") (λ xs H Q => ∃ i j, xs = [.int i, .int j] /\ Q (.int (if j > i then j else i)) H) := by
 intro pins s σ H xs us Q I r h
 obtain ⟨i, j, rfl, q⟩ := h
 obtain ⟨u, w', rfl, ⟨t, rfl⟩, ⟨t', rfl⟩⟩ := vals2 r
 refine max_two_ints (I.ok.hd hc) λ h' tk k => ⟨_, H, I.kept k, ?_, q⟩
 by_cases hj : j > i
 · rw [if_pos hj, if_pos hj]; exact ⟨_, rfl⟩
 · rw [if_neg hj, if_neg hj]; exact ⟨_, rfl⟩
theorem zeb : VJ X (.type "int") (λ xs H Q => (∃ i, xs = [.int i] /\ Q (.int i) H) \/ ∃ k, xs = [.bl k] /\ Q (.int (if k then 1 else 0)) H) := by
 intro pins s σ H xs us Q I r h
 rcases h with ⟨i, rfl, q⟩ | ⟨k, rfl, q⟩
 · obtain ⟨u, rfl, t, rfl⟩ := vals1 r
   exact call_int_int ⟨.int i, H, I, ⟨_, rfl⟩, q⟩
 · obtain ⟨u, rfl, r1⟩ := vals1 r
   cases r1
   exact call_int_bool ⟨.int (if k then 1 else 0), H, I.tok _, ⟨_, rfl⟩, q⟩
end
end L2
namespace L2
open PySem PySem.Spec PyProof.Rows
structure ObjM (h : Heap) (x dx C : Addr) (mA : Str -> Option Value) : Prop where
 obj : h.get? x = some (PySem.W.instObj C dx)
 ns : h.Ns1 dx mA
 ne : dx ≠ x
theorem zje {h : Heap} {dx : Addr} {mA : Str -> Option Value} (n : h.Ns1 dx mA) : ∃ od, h.get? dx = some od /\ ∀ name, PySem.W.lookIn name od = some (mA name) := by
 obtain ⟨o, es, ep, ho, hd, hk, _, hm⟩ := n
 refine ⟨o, ho, λ name => ?_⟩
 have e := hm name
 unfold nsFind findBy at e
 rw [<- Array.find?_toList] at e
 unfold PySem.W.lookIn
 rw [hd]
 dsimp only
 split
 · rename_i y q
   rw [q] at e
   exact congrArg some e
 · rename_i q
   rw [q] at e
   have a : es.toList.any (·.refKey) = false := by
    rw [List.any_eq_false]
    intro y hy
    obtain ⟨z, t, hkey⟩ := hk y (Array.mem_toList_iff.mp hy)
    simp [DictEntry.refKey, hkey]
   have a' : ¬ es.toList.any (·.refKey) = true := by rw [a]; exact Bool.false_ne_true
   rw [if_neg a']
   exact congrArg some e
theorem ObjM.look {h : Heap} {x dx C : Addr} {mA : Str -> Option Value} (I : ObjM h x dx C mA) : ∃ od, PySem.W.InstAt h x (PySem.W.instObj C dx) C (some od) /\ ∀ name, PySem.W.lookIn name od = some (mA name) :=
 let ⟨od, ho, hl⟩ := zje I.ns
 ⟨od, ⟨I.obj, rfl, rfl, ho⟩, hl⟩
section
variable {prog : Program} {w : World} {A : Around} {E : Value -> Shared -> Prop} {s : Shared} {K : zC} {x dx C f : Addr} {mA : Str -> Option Value} {name : Str} {v : Value}
theorem zmf {expr : Bool} {Q : Value -> Shared -> Prop} (X : K.In s.heap) (I : ObjM s.heap x dx C mA) (hg : PySem.W.plainGet K C name = true) (hh : PySem.W.hasDictIn K C = true)
 (ha : PySem.W.findIn K (.ref C) name = some none) (hv : mA name = some v) (hv' : PySem.W.handedIn v = true) (h : Q v { s with toks := s.toks + 1 }) :
 wpAny (model prog w) A (getAttr (.ref x) name expr) Q E s := by
 obtain ⟨od, J, hl⟩ := I.look
 exact PySem.W.get_value X J (PySem.W.plainGet_of hg).1 (PySem.W.findObj_own hh ha rfl (by rw [hl, hv])) hv' h
theorem zlM {pl : Sem Bool} {Q : Value × List Value -> Shared -> Prop} (X : K.In s.heap) (I : ObjM s.heap x dx C mA) (hg : PySem.W.plainGet K C name = true)
 (hf : PySem.W.findIn K (.ref C) name = some (some (.ref f))) (ht : PySem.W.isFn K (.ref f) = true) (hv : mA name = none) (h : Q (.ref f, [.ref x]) s) :
 wpAny (model prog w) A (getMethod (.ref x) name pl) Q E s := by
 obtain ⟨od, J, hl⟩ := I.look
 exact PySem.W.method_fn X J (PySem.W.plainGet_of hg).1 (PySem.W.plainGet_of hg).2 hf (beq_iff_eq.mp ht) (by show (PySem.W.lookIn name od).map (·.isSome) = some false; rw [hl, hv]; rfl) h
theorem zlX {ns : List Str} {Q : Unit -> Shared -> Prop} (X : K.In s.heap) (I : ObjM s.heap x dx C mA)
 (hs : PySem.W.findIn K (.ref C) "__setattr__" = some (some (.builtin "object.__setattr__"))) (hp : PySem.W.plainOver K C = true) (ht : PySem.W.takerIn K C name = some none) (hh : PySem.W.hasDictIn K C = true)
 (hw : PySem.Within mA ns) (hsz : ns.length <= sizeLine)
 (h : ∀ h', ObjM h' x dx C (λ y => if y = name then some v else mA y) -> Heap.SameBut dx s.heap h' -> Q () { s with heap := h', toks := s.toks + 2 }) :
 wpAny (model prog w) A (setAttr (.ref x) name v) Q E s := by
 obtain ⟨od, J, hl⟩ := I.look
 refine PySem.W.set_plain X J hs (PySem.W.osa_open (s := { s with toks := s.toks + 1 }) (r := none) X J hp ht λ b => ?_)
 obtain ⟨cd, hc, hd'⟩ := PySem.W.any_some hh
 have hx : s.heap.get? x = some ⟨.ref C, some dx, .plain, #[]⟩ := I.obj
 refine wpAny_bind (wpAny_pure (wpAny_bind (wpAny_bind (wpAny_loadPart hx (wpAny_bind (PySem.W.Looks.here (s := { s with toks := s.toks + 1 }) (PySem.W.looks_clsIn X hc) ?_))))))
 rw [hd']
 refine wpAny_pure (a := some dx) (wpAny_bind (wpAny_pure (wpAny_bind ?_)))
 refine wpAny_nsSet1 (s := { s with toks := s.toks + 1 }) I.ns λ h' hn2 hs2 => ?_
 obtain ⟨oD, esD, epD, hoD, hdD, hcD⟩ := hn2.count (PySem.Within.cons name v hw)
 refine wpAny_bind (wpAny_lookBehind hoD (by rw [hdD]; exact pastItsLine_dict (zzL hcD (by rw [zzQ]; omega))) ?_)
 exact wpAny_pure (h _ ⟨(hs2.2 _ (Ne.symm I.ne)).trans I.obj, hn2, I.ne⟩ hs2)
theorem zkz {R : Result -> Shared -> Prop} {vs : List Value} {kw : List (Str × Value)} (X : K.In s.heap) (hm : PySem.W.makesIn K C = true)
 (hi : PySem.W.findIn K (.ref C) "__init__" = some (some (.ref f))) (hf : PySem.W.typeIn K (.ref f) = some (.type "function"))
 (h : codeAny (model prog w) (A.under (.builtin "type.__call__" ⟨.ref C :: vs, kw⟩)) (.call (.ref f) ⟨.ref (s.heap.objs.size + 1) :: vs, kw⟩) (PySem.W.InitBack (s.heap.objs.size + 1) R)
  { s with heap := (s.heap.push PySem.W.emptyDict).push (PySem.W.instObj C s.heap.objs.size) }) :
 codeAny (model prog w) A (.call (.ref C) ⟨vs, kw⟩) R s := by
 obtain ⟨hh, g, d, t, os⟩ := s
 exact PySem.W.make_core (PySem.W.makes_of X hm) (PySem.W.looks_findIn X hi) (λ self => PySem.W.bind_fn X self hf) (.inl rfl) h
end
def Wt (f : Str) (v : V) : List (Str × V) -> List (Str × V)
 | [] => [(f, v)]
 | (g, x) :: r => if g = f then (g, v) :: r else (g, x) :: Wt f v r
theorem zbN (f g : Str) (v : V) : ∀ fs : List (Str × V), (Wt f v fs).lookup g = if g = f then some v else fs.lookup g
 | [] => by
  show List.lookup g [(f, v)] = _
  by_cases h : g = f
  · have hb : (g == f) = true := beq_iff_eq.mpr h
    simp only [List.lookup, hb, if_pos h]
  · have hb : (g == f) = false := beq_eq_false_iff_ne.mpr h
    simp only [List.lookup, hb, if_neg h]
 | (k, x) :: r => by
  have ih := zbN f g v r
  rw [show Wt f v ((k, x) :: r) = (if k = f then (k, v) :: r else (k, x) :: Wt f v r) from rfl]
  by_cases hk : k = f
  · rw [if_pos hk]
    by_cases h : g = k
    · have hb : (g == k) = true := beq_iff_eq.mpr h
      simp only [List.lookup, hb, if_pos (h.trans hk)]
    · have hb : (g == k) = false := beq_eq_false_iff_ne.mpr h
      simp only [List.lookup, hb, if_neg (λ e : g = f => h (e.trans hk.symm))]
  · rw [if_neg hk]
    by_cases h : g = k
    · have hb : (g == k) = true := beq_iff_eq.mpr h
      simp only [List.lookup, hb, if_neg (λ e : g = f => hk (h.symm.trans e))]
    · have hb : (g == k) = false := beq_eq_false_iff_ne.mpr h
      simp only [List.lookup, hb]
      exact ih
theorem zbp (f : Str) (v : V) : ∀ fs : List (Str × V), f ∈ (Wt f v fs).map (·.1) /\ ∀ g, g ∈ fs.map (·.1) -> g ∈ (Wt f v fs).map (·.1)
 | [] => ⟨by simp [Wt], λ g h => by simp at h⟩
 | (k, x) :: r => by
  obtain ⟨i1, i2⟩ := zbp f v r
  rw [show Wt f v ((k, x) :: r) = (if k = f then (k, v) :: r else (k, x) :: Wt f v r) from rfl]
  by_cases hk : k = f
  · rw [if_pos hk]
    subst hk
    exact ⟨by simp, λ g h => by simpa using h⟩
  · rw [if_neg hk]
    refine ⟨?_, λ g h => ?_⟩
    · rw [List.map_cons]
      exact zzA _ i1
    · rw [List.map_cons] at h ⊢
      rcases zS.mp h with e | e
      · exact zS.mpr (.inl e)
      · exact zzA _ (i2 g e)
theorem zbY (f : Str) (v : V) : ∀ fs : List (Str × V), (Wt f v fs).length <= fs.length + 1
 | [] => by simp [Wt]
 | (k, x) :: r => by
  have ih := zbY f v r
  rw [show Wt f v ((k, x) :: r) = (if k = f then (k, v) :: r else (k, x) :: Wt f v r) from rfl]
  by_cases hk : k = f
  · rw [if_pos hk, zzQ, zzQ]; omega
  · rw [if_neg hk, zzQ, zzQ]; omega
theorem zaJ.some_of {v : V} {o : Option Value} (r : zaJ (some v) o) : ∃ u, o = some u /\ RelV v u := by
 cases o with
 | none => exact (show False from r).elim
 | some u => exact ⟨u, rfl, r⟩
theorem zaJ.none_of {o : Option Value} (r : zaJ none o) : o = none := by
 cases o with
 | none => rfl
 | some u => exact (show False from r).elim
theorem zjI {v : V} {u : Value} (r : RelV v u) : PySem.W.handedIn u = true := by
 cases v with
 | non => cases (show u = Value.none from r); rfl
 | bl b => cases (show u = Value.bool b from r); rfl
 | int i => obtain ⟨t, e⟩ := (show ∃ t, u = Value.int i t from r); cases e; rfl
 | str x => obtain ⟨t, e⟩ := (show ∃ t, u = Value.str x t from r); cases e; rfl
 | byt b => obtain ⟨t, e⟩ := (show ∃ t, u = Value.bytes b t from r); cases e; rfl
 | flt b => obtain ⟨t, e⟩ := (show ∃ t, u = Value.float b t from r); cases e; rfl
 | ref a => cases (show u = Value.ref a from r); rfl
 | ty n => cases (show u = Value.type n from r); rfl
section
variable {P : Program} {w : World} {H H' : Hp} {h h' : Heap} {a C dx : Addr} {fs fs' : List (Str × V)}
theorem zeL (hok : HOk P w H h) (e : H a = some (.ins C dx fs)) : ∃ mA, ObjM h a dx C mA /\ (∀ f, zaJ (fs.lookup f) (mA f)) /\ PySem.Within mA (fs.map (·.1)) /\ fs.length <= 1000 /\ H dx = some (.own a) := by
 obtain ⟨d, z, ne, ob, mA, n, r, q⟩ := (show wG P w H h a (.ins C dx fs) from hok a _ e)
 exact ⟨mA, ⟨ob, n, ne⟩, r, q, z, d⟩
end
structure Cls (K : zC) (C : Addr) : Prop where
 pg : PySem.W.plainGet K C Str.empty = true
 hd : PySem.W.hasDictIn K C = true
 po : PySem.W.plainOver K C = true
 sa : PySem.W.findIn K (.ref C) "__setattr__" = some (some (.builtin "object.__setattr__"))
theorem Cls.get {K : zC} {C : Addr} (c : Cls K C) (f : Str) : PySem.W.plainGet K C f = true := c.pg
def v9 (K : zC) (C : Addr) (f : Str) : Prop := PySem.W.findIn K (.ref C) f = some none
theorem v9.taker {K : zC} {C : Addr} {f : Str} (n : v9 K C f) : PySem.W.takerIn K C f = some none := by
 unfold PySem.W.takerIn
 rw [show PySem.W.findIn K (.ref C) f = some none from n]
 rfl
structure Con (K : zC) (C : Addr) (f : Str) (v : V) (u : Value) : Prop where
 at_ : PySem.W.findIn K (.ref C) f = some (some u)
 rel : RelV v u
 get : PySem.W.specialIn K u "__get__" = some none
 cp : PySem.W.copiedNames.contains f = false
structure Meth (K : zC) (C : Addr) (m : Str) (f : Addr) : Prop where
 at_ : PySem.W.findIn K (.ref C) m = some (some (.ref f))
 fn : PySem.W.isFn K (.ref f) = true
 kp : PySem.W.keepIn K (.ref f) = true
section
variable {X : Cx} {pins : List (Addr × Obj)} {σ : St} {H : Hp} {s : Shared} {a C dx : Addr} {fs : List (Str × V)} {f : Str} {v : V} {A : Around} {E : Value -> Shared -> Prop}
theorem zht {b : Bool} {Q : Value -> Shared -> Prop} (I : Inv X pins σ H s) (e : H a = some (.ins C dx fs)) (c : Cls X.K C) (n : v9 X.K C f) (l : fs.lookup f = some v)
 (h : ∀ u s', Inv X pins σ H s' -> RelV v u -> Q u s') : wpAny (model X.prog X.w) A (getAttr (.ref a) f b) Q E s := by
 obtain ⟨mA, O, r, _, _, _⟩ := zeL I.hok e
 obtain ⟨u, hu, ru⟩ := zaJ.some_of (v := v) (o := mA f) (by rw [<- l]; exact r f)
 exact zmf I.kIn O (c.get f) c.hd n hu (zjI ru) (h u _ (I.tok _) ru)
theorem zdA {m : Str} {g : Addr} {pl : Sem Bool} {Q : Value × List Value -> Shared -> Prop} (I : Inv X pins σ H s) (e : H a = some (.ins C dx fs)) (c : Cls X.K C) (k : Meth X.K C m g) (l : fs.lookup m = none)
 (h : Q (.ref g, [.ref a]) s) : wpAny (model X.prog X.w) A (getMethod (.ref a) m pl) Q E s := by
 obtain ⟨mA, O, r, _, _, _⟩ := zeL I.hok e
 have hn : mA m = none := zaJ.none_of (by rw [<- l]; exact r m)
 exact zlM I.kIn O (c.get m) k.at_ k.fn hn h
theorem zhL {y : V} {u : Value} {Q : Unit -> Shared -> Prop} (I : Inv X pins σ H s) (e : H a = some (.ins C dx fs)) (c : Cls X.K C) (n : v9 X.K C f) (hl : fs.length < 1000) (ry : RelV y u)
 (h : ∀ s', Inv X pins σ (upd H a (.ins C dx (Wt f y fs))) s' -> Q () s') : wpAny (model X.prog X.w) A (setAttr (.ref a) f u) Q E s := by
 obtain ⟨mA, O, r, wi, _, ho⟩ := zeL I.hok e
 have hz : (fs.map (·.1)).length <= sizeLine := by rw [zD, sizeLine_eq]; omega
 refine zlX I.kIn O c.sa c.po n.taker c.hd wi hz λ h' O' sb => h _ ?_
 have hd : ∃ o, h'.get? dx = some o := let ⟨o, _, _, e', _⟩ := O'.ns; ⟨o, e'⟩
 refine I.write (x := a) (e := dx) (by rw [e]; exact True.intro) (.inr ho) (λ b q hb z => (sb.2 b hb).trans z) hd ?_
 refine ⟨by rw [zO O.ne]; exact ho, ?_, O.ne, O'.obj, _, O'.ns, λ g => ?_, λ g hg => ?_⟩
 · have := zbY f y fs; omega
 · show zaJ ((Wt f y fs).lookup g) (if g = f then some u else mA g)
   rw [zbN]
   by_cases q : g = f
   · rw [if_pos q, if_pos q]; exact ry
   · rw [if_neg q, if_neg q]; exact r g
 · by_cases q : g = f
   · rw [q]; exact (zbp f y fs).1
   · refine (zbp f y fs).2 g (wi g λ z => hg ?_)
     show (if g = f then some u else mA g) = none
     rw [if_neg q]; exact z
theorem Inv.made (I : Inv X pins σ H s) : Inv X pins σ (upd (upd H s.heap.objs.size (.own (s.heap.objs.size + 1))) (s.heap.objs.size + 1) (.ins C s.heap.objs.size []))
 { s with heap := (s.heap.push PySem.W.emptyDict).push (PySem.W.instObj C s.heap.objs.size) } := by
 have e1 : (s.heap.push PySem.W.emptyDict).get? s.heap.objs.size = some PySem.W.emptyDict := Heap.get?_push_size s.heap rfl
 have e2 : ((s.heap.push PySem.W.emptyDict).push (PySem.W.instObj C s.heap.objs.size)).get? (s.heap.objs.size + 1) = some (PySem.W.instObj C s.heap.objs.size) := by
  have := Heap.get?_push_size (s.heap.push PySem.W.emptyDict) (o := PySem.W.instObj C s.heap.objs.size) rfl
  rwa [Heap.size_push] at this
 have e3 : (s.heap.push PySem.W.emptyDict).Ns s.heap.objs.size (λ _ => none) := ⟨PySem.W.emptyDict, #[], _, e1, rfl, (λ e he => absurd he (by simp)), λ _ => rfl⟩
 have I1 := I.laid (a := s.heap.objs.size) (o := .own (s.heap.objs.size + 1)) (h' := s.heap.push PySem.W.emptyDict) (t' := s.toks) (λ b u q => Heap.get?_push_of_some _ q) (zzK _) ⟨_, e1⟩
 refine I1.laid (a := s.heap.objs.size + 1) (o := .ins C s.heap.objs.size []) (t' := s.toks) (λ b u q => Heap.get?_push_of_some _ q) (Nat.le_of_eq (Heap.size_push _ _)) ?_
 have ne : s.heap.objs.size ≠ s.heap.objs.size + 1 := zzN (Nat.lt_succ_self _)
 refine ⟨by rw [zO ne, yc], Nat.zero_le _, ne, e2, λ _ => none, (Heap.Ns1.of_empty e3).at λ o q => Heap.get?_push_of_some _ q, λ _ => True.intro, λ y hy => absurd rfl hy⟩
theorem zmD {prog : Program} {w : World} {env : Env} {e : Expr} {f : Str} {pos : Pos} {s : Shared} {Q : Value -> Shared -> Prop} (hb : attributeBase e f env (eval e env) = eval e env)
 (h : wpAny (model prog w) A (eval e env) (λ o s₁ => wpAny (model prog w) A (getAttr o f true) Q E s₁) E s) : wpAny (model prog w) A (eval (.Attribute e f pos) env) Q E s :=
 Attribute_any_ h (by rw [arm_eval_Attribute, hb])
end
def zrY (K : zC) (ta : TE) (f : Str) : TE := λ σ H Q => ta σ H λ x H1 => ∃ a C dx fs v, x = .ref a /\ H1 a = some (.ins C dx fs) /\ Cls K C /\ v9 K C f /\ fs.lookup f = some v /\ Q v H1
def zsc (K : zC) (ta tv : TE) (f : Str) : TS := λ D σ H => tv σ H λ y H1 => ta σ H1 λ x H2 => ∃ a C dx fs, x = .ref a /\ H2 a = some (.ins C dx fs) /\ Cls K C /\ v9 K C f /\ fs.length < 1000 /\
 D.nx σ (upd H2 a (.ins C dx (Wt f y fs)))
section
variable {X : Cx} {o e value : Expr} {f : Str} {pos pos' tpos : Pos} {ta tv : TE}
theorem zpS (he : PE X e ta) (hb : attributeBase e f X.env (eval e X.env) = eval e X.env) : PE X (.Attribute e f pos) (zrY X.K ta f) := by
 intro pins s σ H Q I h
 refine zmD hb (thn (he pins s σ H _ I h) λ u s1 ⟨x, H1, I1, rx, a, C, dx, fs, v, ex, ea, c, n, l, q⟩ => ?_)
 subst ex
 obtain rfl : u = Value.ref a := rx
 exact zht I1 ea c n l λ u' s2 I2 ru => ⟨v, H1, I2, ru, q⟩
theorem zoe (ha : PE X o ta) (hv : PE X value tv) (hs : swapsWith value (some (.Attribute o f pos')) pos.line X.env = pure false) : PS X (.Assign [.Attribute o f pos'] value pos) (zsc X.K ta tv f) := by
 intro pins s σ H D I h
 refine plainObj_wpAny_Assign_Attribute (thn (hv pins s σ H _ I h) λ u s1 ⟨y, H1, I1, ry, q⟩ => thn (ha pins s1 σ H1 _ I1 q) λ ov s2 ⟨x, H2, I2, rx, a, C, dx, fs, ex, ea, c, n, l, q2⟩ => ?_) hs
 subst ex
 obtain rfl : ov = Value.ref a := rx
 exact zhL I2 ea c n l ry λ s3 I3 => ⟨σ, _, I3, q2⟩
end
section
variable {X : Cx} {pins : List (Addr × Obj)} {σ : St} {H : Hp} {s : Shared} {A : Around} {E : Value -> Shared -> Prop} {Q : Value -> Shared -> Prop} {c : Value} {b : Bool}
inductive TyOf (K : zC) (H : Hp) : V -> Value -> Prop where
 | non : TyOf K H .non (.type "NoneType")
 | bl (x : Bool) : TyOf K H (.bl x) (.type "bool")
 | int (i : Int) : TyOf K H (.int i) (.type "int")
 | str (x : Str) : TyOf K H (.str x) (.type "str")
 | flt (x : UInt64) : TyOf K H (.flt x) (.type "float")
 | lst {a : Addr} {xs : List V} (e : H a = some (.lst xs)) : TyOf K H (.ref a) (.type "list")
 | frz {a : Addr} {o : Obj} {xs : List V} (e : H a = some (.frz o (.lst xs))) : TyOf K H (.ref a) (.type "list")
 | tup {a : Addr} {xs : List V} (e : H a = some (.tup xs)) : TyOf K H (.ref a) (.type "tuple")
 | dK {a : Addr} {kvs : List (Key × V)} (e : H a = some (.dK kvs)) : TyOf K H (.ref a) (.type "dict")
 | dT {a : Addr} {kvs : List (List Key × V)} (e : H a = some (.dT kvs)) : TyOf K H (.ref a) (.type "dict")
 | ins {a C dx : Addr} {fs : List (Str × V)} (e : H a = some (.ins C dx fs)) (cl : Cls K C) (ha : PySem.W.findIn K (.ref C) "__class__" = some (some (.builtin "object.__class__")))
  (hn : PySem.W.specialIn K (.builtin "object.__class__") "__get__" = some (some (.builtin "getset_descriptor.__get__"))) (htk : PySem.W.takesIn K (.builtin "object.__class__") = some true)
  (hm : PySem.W.mroIn K C (.type "object") = some true) : TyOf K H (.ref a) (.ref C)
end
end L2
namespace L2
open PySem PySem.Spec PyProof.Rows
structure Room (k : Nat) (A : Around) : Prop where
 hd : A.handled = none
 dp : A.depth + 3 * k + 5 < recursionLimit
 un : A.units + 16 * k + 200 < cLine
 gd : A.guards = some []
theorem Room.mono {j k : Nat} {A : Around} (r : Room k A) (h : j <= k) : Room j A := ⟨r.hd, by have := r.dp; omega, by have := r.un; omega, r.gd⟩
theorem Room.deeper {k : Nat} {A : Around} (r : Room (k + 1) A) (env : Env) : Room k (A.deeper env) :=
 ⟨r.hd, by have := r.dp; show A.depth + 1 + 3 * k + 5 < _; omega, by have := r.un; show A.units + 3 + 16 * k + 200 < _; omega, r.gd⟩
theorem zhk {A : Around} {C : Addr} {us : List Value} {kw : List (Str × Value)} : (A.under (.builtin "type.__call__" ⟨.ref C :: us, kw⟩)).depth = A.depth + 1 := by
 first | rfl | simp [Around.under, Code.weight, Code.isCreation, Code.isGuard, Code.isCaller, Code.frames, Code.isFrame, guardIds]
theorem zgT {A : Around} {C : Addr} {us : List Value} {kw : List (Str × Value)} : (A.under (.builtin "type.__call__" ⟨.ref C :: us, kw⟩)).units = A.units + 1 := by
 first | rfl | simp [Around.under, Code.cUnits, Code.frames, Code.isFrame]
theorem zgv {A : Around} {C : Addr} {us : List Value} {kw : List (Str × Value)} : (A.under (.builtin "type.__call__" ⟨.ref C :: us, kw⟩)).guards = A.guards := by
 first | rfl | simp [Around.under, Code.guards, Code.isGuard, guardIds, PySem.pushGuards]
theorem Room.make {k : Nat} {A : Around} (r : Room (k + 1) A) (C : Addr) (us : List Value) (kw : List (Str × Value)) : Room k (A.under (.builtin "type.__call__" ⟨.ref C :: us, kw⟩)) :=
 ⟨r.hd, by have := r.dp; rw [zhk]; omega, by have := r.un; rw [zgT]; omega, by rw [zgv]; exact r.gd⟩
theorem Room.depth {k : Nat} {A : Around} (r : Room k A) : A.depth < recursionLimit := by have := r.dp; omega
def zmc : TA := λ _ H Q => Q [] H
def zkE (ta : TE) (tr : TA) : TA := λ σ H Q => ta σ H λ x H1 => tr σ H1 λ xs H2 => Q (x :: xs) H2
section
variable {X : Cx} {e : Expr} {es : List Expr} {te : TE} {t : TA} {pos : Pos}
theorem zdc : PA X [] zmc := λ _ _ _ _ H Q I h => Calls.spliced_nil ⟨[], H, I, .nil, h⟩
theorem VB (ha : PE X e te) (hr : PA X es t) (hs : starEach (e :: es) X.env = (false, eval e X.env) :: starEach es X.env := by rfl) : PA X (e :: es) (zkE te t) := by
 intro pos pins s σ H Q I h
 rw [hs]
 show wpAny _ _ (spliced ((false, eval e X.env) :: backTo pos (starEach es X.env))) _ _ s
 refine Calls.spliced_cons (thn (ha pins s σ H _ I h) λ u s1 ⟨x, H1, I1, r1, q1⟩ => ?_)
 exact thn (hr pos pins s1 σ H1 _ I1 q1) λ us s2 ⟨xs, H2, I2, r2, q2⟩ => ⟨x :: xs, H2, I2, .cons r1 r2, q2⟩
def zrO (t : TA) : TE := λ σ H Q => t σ H λ xs H1 => xs.length <= sizeLine /\ ∀ p, H1 p = none -> Q (.ref p) (upd H1 p (.tup xs))
def zrL (t : TA) : TE := λ σ H Q => t σ H λ xs H1 => xs.length <= sizeLine /\ ∀ p, H1 p = none -> Q (.ref p) (upd H1 p (.lst xs))
theorem zpO {x1} (h : PA X es t) : PE X (.Tuple es x1 pos) (zrO t) := by
 intro pins s σ H Q I hq
 refine wpAny_Tuple_spliced (thn (h pos pins s σ H _ I hq) λ us s1 ⟨xs, H1, I1, r, z, q⟩ => ⟨by rw [<- r.length]; exact z, ?_⟩)
 have hf : H1 s1.heap.objs.size = none := I1.hok.fresh (zzK _)
 refine ⟨.ref s1.heap.objs.size, upd H1 s1.heap.objs.size (.tup xs), I1.laid (t' := s1.toks) (λ b u e => Heap.get?_push_of_some _ e) (zzK _) ?_, rfl, q _ hf⟩
 exact ⟨z, us, r, ⟨_, Heap.get?_push_size _ rfl, rfl, _, rfl⟩⟩
theorem zoF (h : PA X es t) : PE X (.List es pos) (zrL t) := by
 intro pins s σ H Q I hq
 refine wpAny_List_spliced (thn (h pos pins s σ H _ I hq) λ us s1 ⟨xs, H1, I1, r, z, q⟩ => ⟨by rw [<- r.length]; exact z, ?_⟩)
 have hf : H1 s1.heap.objs.size = none := I1.hok.fresh (zzK _)
 refine ⟨.ref s1.heap.objs.size, upd H1 s1.heap.objs.size (.lst xs), I1.laid (t' := s1.toks) (λ b u e => Heap.get?_push_of_some _ e) (zzK _) ?_, rfl, q _ hf⟩
 exact ⟨z, us, 0, r, Heap.get?_push_size _ rfl⟩
end
abbrev Sp := List V -> Hp -> VK -> XK -> Prop
abbrev CXT := List Env -> Hp -> Shared -> XK -> Value -> Shared -> Prop
structure Env0 (P : Program) (w : World) (K : zC) (mg : Str -> Option Value) (base : Heap) (A : Around) (outer : List Env) (s : Shared) (H : Hp) : Prop where
 frames : A.frames = some outer
 mod : Mod K mg base
 bs : ∀ b o, base.get? b = some o -> s.heap.get? b = some o /\ H b = none
 bsz : base.objs.size <= s.heap.objs.size
 funs : s.heap.FunFrames base outer
 frf : ∀ b ∈ frs outer, H b = none
 hok : HOk P w H s.heap
 bare : AllBare s.gens
def CE (outer : List Env) (P : Program) (w : World) (H : Hp) (s : Shared) (Q : VK) (u : Value) (s' : Shared) : Prop :=
 ∃ v H', s'.os = s.os /\ AllBare s'.gens /\ Un (frs outer) [] H H' s.heap s'.heap /\ HOk P w H' s'.heap /\ RelV v u /\ Q v H'
def CR (CX : CXT) (outer : List Env) (P : Program) (w : World) (H : Hp) (s : Shared) (Q : VK) (E : XK) (r : Result) (s' : Shared) : Prop :=
 match r with
 | .ok (.ret u) => CE outer P w H s Q u s'
 | .ok _ => False
 | .error e => CX outer H s E e s'
structure FnOk (P : Program) (w : World) (K : zC) (mg : Str -> Option Value) (base : Heap) (CX : CXT) (k : Nat) (f : Addr) (fd : FuncData) (ps : List Str) (sp : Sp) : Prop where
 len : ∀ vs H Q E, sp vs H Q E -> vs.length = ps.length
 run : ∀ (A : Around) (outer : List Env) (s : Shared) (H : Hp) (args : Args) (us : List Value) (vs : List V) (Q : VK) (E : XK), Room k A -> Env0 P w K mg base A outer s H -> BindsTo s fd args (ps.zip us) -> Vals vs us -> sp vs H Q E ->
  codeAny (model P w) A (.call (.ref f) args) (CR CX outer P w H s Q E) s
theorem FnOk.imp {P : Program} {w : World} {K : zC} {mg : Str -> Option Value} {base : Heap} {CX : CXT} {k : Nat} {f : Addr} {fd : FuncData} {ps : List Str} {sp sp' : Sp} (F : FnOk P w K mg base CX k f fd ps sp)
 (h : ∀ vs H Q E, sp' vs H Q E -> sp vs H Q E) : FnOk P w K mg base CX k f fd ps sp' :=
 ⟨λ vs H Q E q => F.len vs H Q E (h _ _ _ _ q), λ A outer s H args us vs Q E hr he hb hv hs => F.run A outer s H args us vs Q E hr he hb hv (h _ _ _ _ hs)⟩
theorem Env0.make {P : Program} {w : World} {K : zC} {mg : Str -> Option Value} {base : Heap} {A : Around} {outer : List Env} {s : Shared} {H : Hp} (e : Env0 P w K mg base A outer s H) (C : Addr) (us : List Value) (kw : List (Str × Value)) :
 Env0 P w K mg base (A.under (.builtin "type.__call__" ⟨.ref C :: us, kw⟩)) outer s H := ⟨by first | exact e.frames | (simpa [Around.under, Code.envs, Code.isFrame, pushEnvs] using e.frames), e.mod, e.bs, e.bsz, e.funs, e.frf, e.hok, e.bare⟩
section
variable {X : Cx} {pins : List (Addr × Obj)} {σ : St} {H : Hp} {s s' : Shared}
theorem Inv.env0 (I : Inv X pins σ H s) : Env0 X.prog X.w X.K X.mg X.base X.A X.stack s H :=
 ⟨I.ok.frames, I.ok.mod, I.bs, zzL I.ok.bsz I.sz, I.stack, I.stkFree, I.hok, I.bare⟩
theorem Inv.after {Q : VK} {u : Value} (I : Inv X pins σ H s) (h : CE X.stack X.prog X.w H s Q u s') : EP X pins σ Q u s' := by
 obtain ⟨v, H', os, bare, un, hok, r, q⟩ := h
 obtain ⟨hh, g, d, t, os'⟩ := s'
 obtain rfl : os' = s.os := os
 exact ⟨v, H', I.call (h' := hh) (g' := g) (d' := d) (t' := t) (ch := []) un hok bare (λ b z => absurd z (by simp)), r, q⟩
end
def znN (sp : Sp) (dvs : List V) (E : XK) (t : TA) : TE := λ σ H Q => t σ H λ vs H1 => sp (vs ++ dvs) H1 Q E
def znO (C : Addr) (sp : Sp) (dvs : List V) (E : XK) (t : TA) : TE := λ σ H Q => t σ H λ vs H1 => ∀ x dx, H1 x = none -> H1 dx = none -> dx ≠ x ->
 sp (.ref x :: (vs ++ dvs)) (upd (upd H1 dx (.own x)) x (.ins C dx [])) (λ v H2 => v = .non /\ Q (.ref x) H2) E
def Binds (K : zC) (fd : FuncData) (ps : List Str) (ds : List Value) : Prop :=
 ∀ (s : Shared) (us : List Value), K.In s.heap -> (us ++ ds).length = ps.length -> BindsTo s fd ⟨us, []⟩ (ps.zip (us ++ ds))
theorem Binds.all {K : zC} {fd : FuncData} {ps : List Str} (h : ∀ us : List Value, us.length = ps.length -> bindArgs fd ⟨us, []⟩ = pure (ps.zip us)) : Binds K fd ps [] := λ s us _ hl => by
 rw [List.append_nil] at hl ⊢
 exact .of_eq (h us hl)
def Yu (CX : CXT) (X : Cx) (E : XK) : Prop := ∀ (pins : List (Addr × Obj)) (σ : St) (H : Hp) (s : Shared) (e : Value) (s' : Shared), Inv X pins σ H s -> CX X.stack H s E e s' -> X.xe e s'
section
variable {X : Cx} {CX : CXT} {k : Nat} {f C : Addr} {fd : FuncData} {ps : List Str} {sp : Sp} {dvs : List V} {ds : List Value} {E : XK} {x m : Str} {p pos apos : Pos} {e o : Expr} {es : List Expr} {ta : TE} {t : TA}
theorem zgU {pins : List (Addr × Obj)} {σ : St} {H : Hp} {s : Shared} {Q : VK} {us : List Value} {vs : List V} (F : FnOk X.prog X.w X.K X.mg X.base CX k f fd ps sp) (hr : Room k X.A) (hb : Binds X.K fd ps ds) (hd : Vals dvs ds) (hx : Yu CX X E)
 (I : Inv X pins σ H s) (r : Vals vs us) (h : sp (vs ++ dvs) H Q E) : wpAny (model X.prog X.w) X.A (call (.ref f) us) (EP X pins σ Q) X.xe s := by
 have r2 : Vals (vs ++ dvs) (us ++ ds) := r.append hd
 have hl : (us ++ ds).length = ps.length := by rw [<- r2.length]; exact F.len _ _ _ _ h
 refine wpAny_call (codeAny_mono (F.run X.A X.stack s H ⟨us, []⟩ (us ++ ds) (vs ++ dvs) Q E hr I.env0 (hb s us I.kIn hl) r2 h) λ r s' hq => ?_)
 cases r with
 | error e => exact hx pins σ H s e s' I hq
 | ok fl =>
  cases fl with
  | ret u => exact I.after hq
  | next => exact False.elim hq
  | brk => exact False.elim hq
  | cont => exact False.elim hq
theorem znC (F : FnOk X.prog X.w X.K X.mg X.base CX k f fd ps sp) (hr : Room k X.A) (hg : Gl X x) (hm : X.mg x = some (.ref f)) (hk : PySem.W.keepIn X.K (.ref f) = true) (hb : Binds X.K fd ps ds) (hd : Vals dvs ds) (hx : Yu CX X E)
 (ha : PA X (e :: es) t) (hdb : (x == ("__debug__" : Str)) = false := by decide) (he : starEach (e :: es) X.env = (false, eval e X.env) :: starEach es X.env := by rfl) (hpl : (backTo pos (starEach es X.env)).any (·.1) = false := by rfl) :
 PE X (.Call (.Name x p) (e :: es) [] pos) (znN sp dvs E t) := by
 intro pins s σ H Q I h
 refine wpAny_Call_Name_kw (ziC I hg hm ?_ hdb)
 refine PySem.W.callWith_K (h₀ := X.base) I.ok.mod.kin hk (thn (ha pos pins s σ H _ I h) λ us s1 ⟨vs, H1, I1, r, q⟩ => ⟨I1.kIn, ?_⟩) he hpl
 exact zgU F hr hb hd hx I1 r q
structure Mk (K : zC) (C f : Addr) : Prop where
 makes : PySem.W.makesIn K C = true
 init : PySem.W.findIn K (.ref C) "__init__" = some (some (.ref f))
 fn : PySem.W.isFn K (.ref f) = true
 kp : PySem.W.keepIn K (.ref C) = true
theorem zkN {pins : List (Addr × Obj)} {σ : St} {H : Hp} {s : Shared} {Q : VK} {us : List Value} {vs : List V} (M : Mk X.K C f) (F : FnOk X.prog X.w X.K X.mg X.base CX k f fd ps sp) (hr : Room (k + 1) X.A) (hb : Binds X.K fd ps ds) (hd : Vals dvs ds)
 (hx : Yu CX X E) (I : Inv X pins σ H s) (r : Vals vs us)
 (h : ∀ x dx, H x = none -> H dx = none -> dx ≠ x -> sp (.ref x :: (vs ++ dvs)) (upd (upd H dx (.own x)) x (.ins C dx [])) (λ v H2 => v = .non /\ Q (.ref x) H2) E) :
 wpAny (model X.prog X.w) X.A (call (.ref C) us) (EP X pins σ Q) X.xe s := by
 have hq := h (s.heap.objs.size + 1) s.heap.objs.size (I.hok.fresh (Nat.le_succ _)) (I.hok.fresh (zzK _)) (zzN (Nat.lt_succ_self _))
 have I2 := Inv.made (C := C) I
 have r2 : Vals (V.ref (s.heap.objs.size + 1) :: (vs ++ dvs)) (Value.ref (s.heap.objs.size + 1) :: (us ++ ds)) := .cons rfl (r.append hd)
 have hl : (Value.ref (s.heap.objs.size + 1) :: us ++ ds).length = ps.length := by
  have e := r2.length
  rw [F.len _ _ _ _ hq] at e
  exact e.symm
 refine wpAny_call (zkz (f := f) I.kIn M.makes M.init (beq_iff_eq.mp M.fn) (codeAny_mono (F.run _ X.stack _ _ ⟨Value.ref (s.heap.objs.size + 1) :: us, []⟩ (Value.ref (s.heap.objs.size + 1) :: (us ++ ds)) _ _ E (hr.make C us [])
  (I2.env0.make C us []) (hb _ (Value.ref (s.heap.objs.size + 1) :: us) I2.kIn hl) r2 hq) λ r s' hq' => ?_))
 cases r with
 | error e => exact hx pins σ _ _ e s' I2 hq'
 | ok fl =>
  cases fl with
  | ret u =>
   obtain ⟨v, H', I3, rv, ev, q3⟩ := I2.after hq'
   subst ev
   exact ⟨rv, ⟨V.ref (s.heap.objs.size + 1), H', I3, rfl, q3⟩⟩
  | next => exact False.elim hq'
  | brk => exact False.elim hq'
  | cont => exact False.elim hq'
theorem zmC (M : Mk X.K C f) (F : FnOk X.prog X.w X.K X.mg X.base CX k f fd ps sp) (hr : Room (k + 1) X.A) (hg : Gl X x) (hm : X.mg x = some (.ref C)) (hb : Binds X.K fd ps ds) (hd : Vals dvs ds) (hx : Yu CX X E)
 (ha : PA X (e :: es) t) (hdb : (x == ("__debug__" : Str)) = false := by decide) (he : starEach (e :: es) X.env = (false, eval e X.env) :: starEach es X.env := by rfl) (hpl : (backTo pos (starEach es X.env)).any (·.1) = false := by rfl) :
 PE X (.Call (.Name x p) (e :: es) [] pos) (znO C sp dvs E t) := by
 intro pins s σ H Q I h
 refine wpAny_Call_Name_kw (ziC I hg hm ?_ hdb)
 refine PySem.W.callWith_K (h₀ := X.base) I.ok.mod.kin M.kp (thn (ha pos pins s σ H _ I h) λ us s1 ⟨vs, H1, I1, r, q⟩ => ⟨I1.kIn, ?_⟩) he hpl
 exact zkN M F hr hb hd hx I1 r q
end
section
variable {X : Cx} {CX : CXT} {k : Nat} {f C : Addr} {fd : FuncData} {ps ks : List Str} {sp : Sp} {E : XK} {x m : Str} {p pos apos kpos : Pos} {e o : Expr} {es : List Expr} {kws : List Keyword} {te ta : TE} {t tk : TA} {nm : Option Str}
structure KBinds (K : zC) (fd : FuncData) (ps ks : List Str) (g : List Value -> List Value -> List Value) (gV : List V -> List V -> List V) : Prop where
 to : ∀ (s : Shared) (us ws : List Value), K.In s.heap -> (g us ws).length = ps.length -> BindsTo s fd ⟨us, ks.zip ws⟩ (ps.zip (g us ws))
 rel : ∀ {vs : List V} {us : List Value} {zs : List V} {ws : List Value}, Vals vs us -> Vals zs ws -> Vals (gV vs zs) (g us ws)
variable {g : List Value -> List Value -> List Value} {gV : List V -> List V -> List V}
end
structure FnScope (N P : List Str) (sc : Scope) : Prop where
 kind : sc.kind = .function
 co : sc.isCoroutine = false
 gen : sc.isGenerator = false
 nd : N.Nodup
 pre : N.take P.length = P
 par : ∀ x ∈ P, sc.names.lookup x = some .local \/ sc.names.lookup x = some .cell
 nofree : ∀ y ∈ sc.names, y.2 ≠ .free
theorem zeq {kindOf : Str -> Option NameKind} {x : Str} : ∀ {binds : List (Str × Value)} {m : Str -> Option Value}, (∀ v, (x, v) ∉ binds) -> bindL kindOf binds m x = m x
 | [], _, _ => rfl
 | (n, v) :: r, m, h => by
  unfold bindL
  rw [zeq λ w hw => h w (zzA _ hw)]
  split
  · have : x ≠ n := by rintro rfl; exact h v zzC
    simp [this]
  · rfl
theorem zey {kindOf : Str -> Option NameKind} {x : Str} : ∀ {binds : List (Str × Value)} {m : Str -> Option Value}, (∀ v, (x, v) ∉ binds) -> bindC kindOf binds m x = m x
 | [], _, _ => rfl
 | (n, v) :: r, m, h => by
  unfold bindC
  rw [zey λ w hw => h w (zzA _ hw)]
  split
  · rfl
  · have : x ≠ n := by rintro rfl; exact h v zzC
    simp [this]
theorem zea {kindOf : Str -> Option NameKind} {x : Str} {v : Value} : ∀ {P : List Str} {vs : List Value} {i : Nat} {m : Str -> Option Value}, P.Nodup -> P[i]? = some x -> vs[i]? = some v -> kindOf x = some .local ->
 bindL kindOf (P.zip vs) m x = some v
 | [], _, _, _, _, h, _, _ => by simp at h
 | _ :: _, [], _, _, _, _, h, _ => by simp at h
 | p :: P, w :: vs, 0, m, nd, h1, h2, hk => by
  simp at h1 h2; subst h1; subst h2
  show bindL kindOf ((p, w) :: P.zip vs) m p = _
  unfold bindL
  rw [zeq λ v hv => (zzT.mp nd).1 (List.of_mem_zip hv).1, if_pos hk]
  simp
 | p :: P, w :: vs, i + 1, m, nd, h1, h2, hk => by
  show bindL kindOf ((p, w) :: P.zip vs) m x = _
  unfold bindL
  exact zea (i := i) (zzT.mp nd).2 (by simpa using h1) (by simpa using h2) hk
theorem zel {kindOf : Str -> Option NameKind} {x : Str} {v : Value} : ∀ {P : List Str} {vs : List Value} {i : Nat} {m : Str -> Option Value}, P.Nodup -> P[i]? = some x -> vs[i]? = some v -> kindOf x ≠ some .local ->
 bindC kindOf (P.zip vs) m x = some v
 | [], _, _, _, _, h, _, _ => by simp at h
 | _ :: _, [], _, _, _, _, h, _ => by simp at h
 | p :: P, w :: vs, 0, m, nd, h1, h2, hk => by
  simp at h1 h2; subst h1; subst h2
  show bindC kindOf ((p, w) :: P.zip vs) m p = _
  unfold bindC
  rw [zey λ v hv => (zzT.mp nd).1 (List.of_mem_zip hv).1, if_neg hk]
  simp
 | p :: P, w :: vs, i + 1, m, nd, h1, h2, hk => by
  show bindC kindOf ((p, w) :: P.zip vs) m x = _
  unfold bindC
  exact zel (i := i) (zzT.mp nd).2 (by simpa using h1) (by simpa using h2) hk
def start (N : List Str) (vs : List V) : St := vs.map some ++ List.replicate (N.length - vs.length) none
def zfL (CX : CXT) (P : Program) (w : World) (K : zC) (mg : Str -> Option Value) (base : Heap) (N : List Str) (qual : Str) (scope : Scope) (f : Addr) (cd : Value) (A : Around) (outer : List Env) (s : Shared) (H : Hp) (E : XK) : Cx where
 prog := P
 w := w
 K := K
 mg := mg
 base := base
 A := A.deeper (envOfC qual scope s.heap.objs.size f cd)
 N := N
 s₀ := s
 H₀ := H
 env := envOfC qual scope s.heap.objs.size f cd
 outer := outer
 stack := envOfC qual scope s.heap.objs.size f cd :: outer
 ex := []
 calm := true
 fn := λ _ => true
 pn := []
 xe := λ e s' => wpAny (model P w) (A.deeper (envOfC qual scope s.heap.objs.size f cd)) (leaving (envOfC qual scope s.heap.objs.size f cd) e) (λ _ s'' => CX outer H s E e s'') (λ e' s'' => CX outer H s E e' s'') s'
theorem zfX {sc : Scope} {n : Nat} {x : Str} (h : sc.names.lookup x = some .cell) : ∃ c, (cellsFrom n sc.names []).lookup x = some c := by
 have q := PySem.W.cellsFrom_some sc.names n [] (.inl h)
 exact Option.isSome_iff_exists.mp q
theorem zjc {CX : CXT} {P : Program} {w : World} {K : zC} {mg : Str -> Option Value} {base : Heap} {N ps : List Str} {qual : Str} {scope : Scope} {f : Addr} {cd : Value} {A : Around} {outer : List Env} {s s1 : Shared} {H : Hp} {E : XK} {us : List Value} {vs : List V}
 (S : FnScope N ps scope) (hd : A.handled = none) (e0 : Env0 P w K mg base A outer s H) (hl : vs.length = ps.length) (r : Vals vs us)
 (x : InCallC s s.heap.objs.size (bindL (envOfC qual scope s.heap.objs.size f cd).kindOf (ps.zip us) λ _ => none) (cellsFrom (s.heap.objs.size + 1) scope.names []) (bindC (envOfC qual scope s.heap.objs.size f cd).kindOf (ps.zip us) λ _ => none) s1) :
 Inv (zfL CX P w K mg base N qual scope f cd A outer s H E) [] (start N vs) H s1 := by
 have hpl : ps.length <= N.length := by have := congrArg List.length S.pre; rw [zzP] at this; omega
 obtain ⟨h1, tk, rfl, hk⟩ := x.done
 have noA : ∀ b : Addr, b ∉ (zfL CX P w K mg base N qual scope f cd A outer s H E).ex := λ b z => absurd (show b ∈ ([] : List Addr) from z) (by simp)
 refine ⟨⟨e0.mod, S.kind, rfl, rfl, zzK _, λ y z c h1 h2 => ?_, λ y hy => ?_, λ y c _ h => ?_, λ _ => hd, Around.frames_deeper e0.frames, .inr ⟨rfl, rfl⟩, λ b z => absurd z (noA b), e0.bs, e0.bsz, λ b _ _ => noA b, λ b z => absurd z (noA b), e0.funs, e0.frf⟩,
  rfl, e0.bare, Un.kept hk, ⟨_, x.toInCall.ns, λ i y v h1 h2 h3 => ?_⟩, λ y c h => ⟨_, x.cell y c h⟩, e0.hok.fresh (zzK _), λ y c h => ?_, λ p hp => absurd (show p ∈ ([] : List (Addr × Obj)) from hp) (by simp), e0.hok.kept hk, ?_⟩
 · exact name_of_addr x.apart (PySem.mem_of_lookup h1) (PySem.mem_of_lookup h2)
 · have hy : scope.names.lookup y = some .cell \/ scope.names.lookup y = some .free := hy
   rcases hy with hy | hy
   · exact zfX hy
   · exact absurd rfl (S.nofree _ (PySem.mem_of_lookup hy))
 · exact Nat.le_of_lt (x.above y c (PySem.mem_of_lookup h))
 · have hi : i < vs.length := by
    unfold start at h2
    by_cases hi : i < vs.length
    · exact hi
    · rw [List.getElem?_append_right (by simpa using hi)] at h2
      rw [List.getElem?_replicate] at h2
      split at h2 <;> cases h2
   have ha : vs[i]? = some v := by
    unfold start at h2
    rw [List.getElem?_append_left (by simpa using hi), zzF] at h2
    cases e : vs[i]? with
    | none => rw [e] at h2; cases h2
    | some a => rw [e] at h2; cases h2; rfl
   obtain ⟨u, hu, rv⟩ := r.get ha
   have hp : ps[i]? = some y := by
    rw [<- S.pre, List.getElem?_take_of_lt (by omega)]; exact h1
   have ndP : ps.Nodup := by rw [<- S.pre]; exact S.nd.sublist (List.take_sublist _ _)
   refine ⟨u, rv, ?_⟩
   rcases S.par y (List.mem_of_getElem? hp) with k | k
   · exact .inl ⟨k, zea ndP hp hu k⟩
   · obtain ⟨c, e⟩ := zfX (n := s.heap.objs.size + 1) k
     refine .inr ⟨.inl k, c, e, ?_⟩
     have q := x.cell y c e
     rw [zel ndP hp hu (by show scope.names.lookup y ≠ _; rw [k]; decide)] at q
     exact q
 · exact e0.hok.fresh (Nat.le_of_lt (x.above y c (PySem.mem_of_lookup h)))
 · unfold start
   show _ = N.length
   rw [zzG, zD, List.length_replicate]
   omega
theorem zqG {CX : CXT} {P : Program} {w : World} {K : zC} {mg : Str -> Option Value} {base : Heap} {k : Nat} {f : Addr} {name qual : Str} {params : Arguments} {body : List Stmt} {scope : Scope} {dV kV doc pm cdv ct oc : Value} {an od : Option Addr}
 {osl : Array (Option Value)} {N ps : List Str} {sp : Sp} (lk : K.lookup f = some ⟨oc, od, .func (PySem.W.fnOf name qual params body scope dV kV doc pm an cdv ct), osl⟩) (hcd : PySem.W.codeIn K cdv qual = true) (S : FnScope N ps scope)
 (len : ∀ vs H Q E, sp vs H Q E -> vs.length = ps.length)
 (hbody : ∀ (A : Around) (outer : List Env) (s : Shared) (H : Hp) (vs : List V) (Q : VK) (E : XK), Room k (A.deeper (envOfC qual scope s.heap.objs.size f cdv)) -> sp vs H Q E ->
  ∃ t, PSs (zfL CX P w K mg base N qual scope f cdv A outer s H E) body t /\ t { nx := λ _ H' => Q .non H', rt := Q } (start N vs) H) :
 FnOk P w K mg base CX (k + 1) f (PySem.W.fnOf name qual params body scope dV kV doc pm an cdv ct) ps sp := by
 refine ⟨len, λ A outer s H args us vs Q E hr e0 hb r hsp => ?_⟩
 have hl := len _ _ _ _ hsp
 have KX : K.In s.heap := e0.mod.kin.keeps λ b o e => (e0.bs b o e).1
 have lim : s.heap.NoLimit := e0.mod.nolimit.keeps λ b o e => (e0.bs b o e).1
 have hkind : ∀ y ∈ ps.zip us, scope.names.lookup y.1 = some .local \/ (scope.names.lookup y.1 = some .cell /\ ((cellsFrom (s.heap.objs.size + 1) scope.names []).lookup y.1).isSome = true) := λ ⟨n, v⟩ hy => by
  rcases S.par n (List.of_mem_zip hy).1 with q | q
  · exact .inl q
  · exact .inr ⟨q, PySem.W.cellsFrom_some _ _ _ (.inl q)⟩
 refine codeAny_call_function hr.depth (KX _ _ lk) rfl S.co S.gen rfl (PySem.W.codeRec_of KX hcd) (hb _ _ _ _ ?_)
 refine wpAny_newFunctionEnv_cells S.kind hkind λ env he s1 x => ?_
 subst he
 refine ⟨lim.keeps x.toInCall.keep, codeAny_func ?_⟩
 obtain ⟨t, ht, hq⟩ := hbody A outer s H vs Q E (hr.deeper _) hsp
 have I : Inv (zfL CX P w K mg base N qual scope f cdv A outer s H E) [] (start N vs) H s1 := zjc S hr.hd e0 hl r x
 refine wpAny_mono (ht [] s1 (start N vs) H _ I hq) (λ fl s' hs => ?_) λ e s' hs => hs
 have fin : ∀ {σ' : St} {H' : Hp} {v : V} {u : Value}, Inv (zfL CX P w K mg base N qual scope f cdv A outer s H E) [] σ' H' s' -> RelV v u -> Q v H' -> CE outer P w H s Q u s' :=
  λ {σ' H' v u} J rv q => ⟨v, H', J.os, J.bare, J.base, J.hok, rv, q⟩
 cases fl with
 | ret u =>
  obtain ⟨v, σ', H', J, rv, q⟩ := hs
  exact fin J rv q
 | next =>
  obtain ⟨σ', H', J, q⟩ := hs
  exact fin (v := V.non) (u := Value.none) J rfl q
 | brk =>
  obtain ⟨_, _, _, q⟩ := hs
  exact False.elim q
 | cont =>
  obtain ⟨_, _, _, q⟩ := hs
  exact False.elim q
end L2
namespace L2
open PySem PySem.Spec PyProof.Rows
section
variable {X : Cx} {x : Str} {p pos : Pos} {e : Expr} {es : List Expr} {t : TA} {id T : String} {r : List V -> Hp -> VK -> Prop}
def tCB (r : List V -> Hp -> VK -> Prop) (t : TA) : TE := λ σ H Q => t σ H λ vs H1 => r vs H1 Q
theorem zgK (hc : VJ X (.builtin id) r) (hg : Gl X x) (hm : X.mg x = none) (hv : bootBuiltins x = some (.builtin id)) (ha : PA X (e :: es) t) (hn : x ≠ "__name__" := by decide) (hdb : (x == ("__debug__" : Str)) = false := by decide)
 (he : starEach (e :: es) X.env = (false, eval e X.env) :: starEach es X.env := by rfl) (hpl : (backTo pos (starEach es X.env)).any (·.1) = false := by rfl) : PE X (.Call (.Name x p) (e :: es) [] pos) (tCB r t) := by
 intro pins s σ H Q I h
 refine wpAny_Call_Name_kw (XD I hg hm hv ?_ hn hdb)
 exact PyProof.Rows.callWith_builtin1 (thn (ha pos pins s σ H _ I h) λ us s1 ⟨vs, H1, I1, r1, q1⟩ => hc pins s1 σ H1 vs us Q I1 r1 q1) he hpl
theorem zjB (hc : VJ X (.type T) r) (hg : Gl X x) (hm : X.mg x = none) (hv : bootBuiltins x = some (.type T)) (ha : PA X (e :: es) t) (hn : x ≠ "__name__" := by decide) (hdb : (x == ("__debug__" : Str)) = false := by decide)
 (he : starEach (e :: es) X.env = (false, eval e X.env) :: starEach es X.env := by rfl) (hpl : (backTo pos (starEach es X.env)).any (·.1) = false := by rfl) : PE X (.Call (.Name x p) (e :: es) [] pos) (tCB r t) := by
 intro pins s σ H Q I h
 refine wpAny_Call_Name_kw (XD I hg hm hv ?_ hn hdb)
 exact PyProof.Rows.callWith_type1 (thn (ha pos pins s σ H _ I h) λ us s1 ⟨vs, H1, I1, r1, q1⟩ => hc pins s1 σ H1 vs us Q I1 r1 q1) he hpl
end
end L2
namespace L2
open PySem PySem.Spec PyProof.Rows
section
variable {κ : Type} [DecidableEq κ]
def zbd (kvs : List (κ × V)) (k : κ) : Option V := (kvs.find? λ kv => decide (kv.1 = k)).map (·.2)
theorem zko {p : κ × V} {r : List (κ × V)} {k : κ} (e : p.1 = k) : zbd (p :: r) k = some p.2 := by simp [zbd, List.find?_cons, e]
theorem zjV {p : κ × V} {r : List (κ × V)} {k : κ} (e : ¬ p.1 = k) : zbd (p :: r) k = zbd r k := by simp [zbd, List.find?_cons, e]
theorem zaJ.isSome_eq {o : Option V} {u : Option Value} (r : zaJ o u) : o.isSome = u.isSome := by
 cases o with
 | none => cases u with
  | none => rfl
  | some _ => exact (show False from r).elim
 | some _ => cases u with
  | none => exact (show False from r).elim
  | some _ => rfl
theorem KV.val {kvs : List (κ × V)} {vs : List (κ × Value)} (r : KV kvs vs) (k : κ) : zaJ (zbd kvs k) (valueAt vs k) := by
 unfold KV at r
 induction r with
 | nil => exact True.intro
 | @cons p q ps qs h t ih =>
  obtain ⟨h1, h2⟩ := h
  by_cases e : p.1 = k
  · have e' : q.1 = k := h1.symm.trans e
    have b : valueAt (q :: qs) k = some q.2 := by simp [valueAt, List.find?_cons, e']
    rw [zko e, b]; exact h2
  · have e' : ¬ q.1 = k := λ z => e (h1.trans z)
    have b : valueAt (q :: qs) k = valueAt qs k := by simp [valueAt, List.find?_cons, e']
    rw [zjV e, b]; exact ih
theorem KV.length {kvs : List (κ × V)} {vs : List (κ × Value)} (r : KV kvs vs) : kvs.length = vs.length := Paired.length r
end
theorem zie {P : Program} {w : World} {k : Key} {u : Value} (r : RelV (kV k) u) : (wC P w).is k u = true := by
 cases k with
 | inl i => obtain ⟨t, e⟩ := (show ∃ t, u = Value.int i t from r); subst e; exact zgC P w i t
 | inr x => obtain ⟨t, e⟩ := (show ∃ t, u = Value.str x t from r); subst e; exact Wy P w x t
section
variable {P : Program} {w : World} {H : Hp} {h : Heap} {a : Addr}
theorem zqV {u : HO} (ok : HOk P w H h) (e : Rd H a u) : wG P w H h a u := e.ok ok
theorem zrr {kvs : List (Key × V)} (ok : HOk P w H h) (e : Rd H a (.dK kvs)) : kvs.length <= sizeLine /\ (a == sysModules) = false /\ ∃ vs, KV kvs vs /\ h.DictOf (wC P w) a vs :=
 show wG P w H h a (.dK kvs) from zqV ok e
end
section
variable {X : Cx} {pins : List (Addr × Obj)} {σ : St} {H : Hp} {s : Shared} {a : Addr} {y v : V} {u r : Value} {o : Option V} {A : Around} {E : Value -> Shared -> Prop}
theorem Inv.big (I : Inv X pins σ H s) : sysModules < s.heap.objs.size := by
 have h : mainGlobals < s.heap.objs.size := (I.mod.glob.keeps I.bk).lt
 exact Nat.lt_trans (by decide) h
theorem zlA {P : Program} {w : World} {H' : Hp} {h' : Heap} {kvs : List (Key × V)} {vs : List (Key × Value)} (z : kvs.length <= sizeLine) (hd : (a == sysModules) = false) (rel : KV kvs vs) (dd : h'.DictOf (wC P w) a vs) :
 wG P w H' h' a (.dK kvs) := ⟨z, hd, vs, rel, dd⟩
end
structure M1 (X : Cx) (o : Expr) (m : Str) (apos : Pos) (e : Expr) (cpos : Pos) : Prop where
 base : attributeBase o m X.env (eval o X.env) = eval o X.env
 few : ((backTo cpos (starEach [e] X.env)).all (λ x => !x.1) && (backToKw cpos (keywordEach [] X.env)).all (λ x => x.1.isSome)
  && decide (([e] : List Expr).length + ([] : List Keyword).length + (if ([] : List Keyword).isEmpty then 0 else 1) < 30)) = true
 line : (apos.endLine == cpos.line) = true
 trees : backTo cpos (starEach [e] X.env) = [(false, eval e X.env)]
structure M2 (X : Cx) (o : Expr) (m : Str) (apos : Pos) (e f : Expr) (cpos : Pos) : Prop where
 base : attributeBase o m X.env (eval o X.env) = eval o X.env
 few : ((backTo cpos (starEach [e, f] X.env)).all (λ x => !x.1) && (backToKw cpos (keywordEach [] X.env)).all (λ x => x.1.isSome)
  && decide (([e, f] : List Expr).length + ([] : List Keyword).length + (if ([] : List Keyword).isEmpty then 0 else 1) < 30)) = true
 line : (apos.endLine == cpos.line) = true
 trees : backTo cpos (starEach [e, f] X.env) = [(false, eval e X.env), (false, eval f X.env)]
end L2
namespace HT
open PySem PyProof.Rows
section
variable {prog : Program} {w : World} {A : Around} {E : Value -> Shared -> Prop} {s : Shared}
theorem zmQ {t b : Addr} {vs ws : List Value} {Q : Value -> Shared -> Prop} (ht : IsTup s.heap t vs.toArray) (hb : IsTup s.heap b ws.toArray) (hv : vs ≠ [])
 (h1 : ws = [] -> Q (.ref t) s) (h2 : ws ≠ [] -> Q (.ref s.heap.objs.size) { s with heap := s.heap.push { cls := .type "tuple", data := .seq (vs ++ ws).toArray } })
 (hsz : vs.length + ws.length <= sizeLine) : wpAny (model prog w) A (binaryOp .Add (.ref t) (.ref b)) Q E s := by
 obtain ⟨⟨cls, dd, data, sl⟩, ho, hc, n, hd⟩ := id ht
 obtain ⟨⟨cls2, dd2, data2, sl2⟩, ho2, hc2, n2, hd2⟩ := id hb
 simp only at hc hd hc2 hd2
 subst hc hd hc2 hd2
 have e : vs.toArray ++ ws.toArray = (vs ++ ws).toArray := by simp
 by_cases hw : ws = []
 · exact concat_meets ⟨_, ho, rfl⟩ ⟨_, ho2, rfl⟩ noFill_tuple_add seq_tuple_add PySem.F.slot_tuple_add PySem.F.entry_tuple_add (PySem.F.args_tuple_add_2 _ _)
    (tuple_addW1 t b vs.toArray ws.toArray n n2 dd dd2 sl sl2 (by simpa using hv) (by simp [hw])) ⟨ho, ho2, h1 hw⟩
 · refine concat_meets ⟨_, ho, rfl⟩ ⟨_, ho2, rfl⟩ noFill_tuple_add seq_tuple_add PySem.F.slot_tuple_add PySem.F.entry_tuple_add (PySem.F.args_tuple_add_2 _ _)
    (tuple_addW2 t b vs.toArray ws.toArray n n2 dd dd2 sl sl2 (by simpa using hv) (by simpa using hw) (by rw [zzE, zzE]; exact hsz)) ⟨ho, ho2, ?_⟩
   rw [e]
   exact h2 hw
def sIx (n d : Nat) : Option Int -> Nat
 | none => d
 | some v => if v < 0 then (v + (n : Int)).toNat else min v.toNat n
theorem zfI (n d : Nat) : sIx n d none = d := rfl
theorem zhM (n d k : Nat) : sIx n d (some (k : Int)) = min k n := by
 show (if (k : Int) < 0 then ((k : Int) + (n : Int)).toNat else min (k : Int).toNat n) = min k n
 rw [if_neg (by omega), Int.toNat_natCast]
theorem zoo (n d : Nat) (hd : d <= n) (o : Option Int) : sIx n d o <= n := by
 cases o with
 | none => exact hd
 | some v =>
  show (if v < 0 then (v + (n : Int)).toNat else min v.toNat n) <= n
  by_cases hv : v < 0
  · rw [if_pos hv]; omega
  · rw [if_neg hv]; exact Nat.min_le_right _ _
theorem zib (v : Int) (n d : Nat) : (if v < 0 then max (v + (n : Int)) 0 else min v (n : Int)) = ((sIx n d (some v) : Nat) : Int) := by
 show (if v < 0 then max (v + (n : Int)) 0 else min v (n : Int)) = (((if v < 0 then (v + (n : Int)).toNat else min v.toNat n) : Nat) : Int)
 by_cases hv : v < 0
 · simp only [if_pos hv]; omega
 · simp only [if_neg hv]; omega
theorem zhr (lo hi : Option Int) (n : Nat) : Builtin.Slice.sliceAdjust lo hi 1 (n : Int) = (((sIx n 0 lo : Nat) : Int), ((sIx n n hi : Nat) : Int)) := by
 have h1 : ¬ ((1 : Int) < 0) := by omega
 unfold Builtin.Slice.sliceAdjust
 simp only [h1, if_false]
 refine Prod.ext ?_ ?_
 · cases lo with
   | none => rfl
   | some v => exact zib v n 0
 · cases hi with
   | none => rfl
   | some v => exact zib v n n
theorem zhB (i j : Nat) : Builtin.Slice.slicePlaces (i : Int) (j : Int) 1 = j - i := by
 unfold Builtin.Slice.slicePlaces
 have h1 : (1 : Int) > 0 := by omega
 simp only [h1, if_true, Int.ediv_one]
 split <;> omega
theorem zcO {v : Value} {o : Option Int} {Q : Option Int -> Shared -> Prop} (p : IsPart v o) (h : Q o s) : wpAny (model prog w) A (Builtin.Slice.slicePartIndex v) Q E s := by
 cases p with
 | none => exact slicePart_none h
 | int i t => exact slicePart_int h
theorem zbt {sl : Addr} {vl vu : Value} {lo hi : Option Int} {n : Nat} {Q : Int × Int × Nat -> Shared -> Prop} (hs : s.heap.IsSliceOf sl vl vu .none) (pl : IsPart vl lo) (pu : IsPart vu hi)
 (h : Q (((sIx n 0 lo : Nat) : Int), 1, sIx n n hi - sIx n 0 lo) s) : wpAny (model prog w) A (Builtin.Slice.sliceApplied (.ref sl) (pure (n : Int))) Q E s := by
 obtain ⟨os, hos, hcs, hds⟩ := id hs
 unfold Builtin.Slice.sliceApplied Builtin.Slice.sliceFields
 refine wpAny_bind (wpAny_bind (wpAny_field hos hds (x := vl) rfl (wpAny_bind (wpAny_field hos hds (x := vu) rfl (wpAny_bind (wpAny_field hos hds (x := .none) rfl (wpAny_pure ?_)))))))
 refine wpAny_bind (slicePart_none ?_)
 show wpAny _ _ (if ((1 : Int) == 0) = true then _ else _) _ _ s
 rw [if_neg (by decide)]
 refine wpAny_bind (zcO pl (wpAny_bind (zcO pu (wpAny_bind (wpAny_pure ?_)))))
 show wpAny _ _ (match Builtin.Slice.sliceAdjust lo hi 1 (n : Int) with | (lo, hi) => pure (lo, (1 : Int), Builtin.Slice.slicePlaces lo hi 1)) _ _ s
 rw [zhr lo hi n]
 show wpAny _ _ (pure (((sIx n 0 lo : Nat) : Int), (1 : Int), Builtin.Slice.slicePlaces ((sIx n 0 lo : Nat) : Int) ((sIx n n hi : Nat) : Int) 1)) _ _ s
 rw [zhB]
 exact wpAny_pure h
theorem zlP (xs : Array Value) (i k : Nat) : ((List.range k).filterMap λ (m : Nat) => xs[((i : Int) + (m : Int) * 1).toNat]?).toArray = ((xs.toList.drop i).take k).toArray := by
 have e : (λ (m : Nat) => xs[((i : Int) + (m : Int) * 1).toNat]?) = λ m => xs[i + m]? := by
  funext m
  have : ((i : Int) + (m : Int) * 1).toNat = i + m := by omega
  rw [this]
 rw [e]
 have := pick_run xs i k
 rw [List.filterMap_map] at this
 have e2 : ((λ x => xs[x]?) ∘ λ x => i + x) = λ m => xs[i + m]? := rfl
 rw [e2] at this
 rw [this]
theorem zaG {t sl : Addr} {items : Array Value} {vl vu : Value} {lo hi : Option Int} {Q : Value -> Shared -> Prop} (ht : IsTup s.heap t items) (hs : s.heap.IsSliceOf sl vl vu .none) (pl : IsPart vl lo) (pu : IsPart vu hi)
 (hw : ¬ (sIx items.size 0 lo = 0 /\ sIx items.size items.size hi = items.size))
 (h : Q (.ref s.heap.objs.size) { s with heap := s.heap.push { cls := .type "tuple", data := .seq ((items.toList.drop (sIx items.size 0 lo)).take (sIx items.size items.size hi - sIx items.size 0 lo)).toArray } })
 (hsz : items.size <= sizeLine) : wpAny (model prog w) A (getItem (.ref t) (.ref sl)) Q E s := by
 have htake : sizeOk (.seq ((items.toList.drop (sIx items.size 0 lo)).take (sIx items.size items.size hi - sIx items.size 0 lo)).toArray) := by
  show ((items.toList.drop (sIx items.size 0 lo)).take (sIx items.size items.size hi - sIx items.size 0 lo)).toArray.size <= sizeLine
  rw [zzE, zzP, List.length_drop, Array.length_toList]
  omega
 have hj : sIx items.size items.size hi <= items.size := zoo _ _ (zzK _) hi
 obtain ⟨os, hos, hcs, hds⟩ := id hs
 have hTs : s.TypeIs (.ref sl) "slice" := ⟨os, hos, hcs⟩
 unfold getItem
 try with_reducible refine wpAny_holding ?_
 first | refine wpAny_bind (wpAny_pure ?_) | skip
 refine wpAny_bind (wpAny_sequenceKey ht.typeIs (by decide) ?_)
 refine wpAny_bind (wpAny_callSpecial?_slot (name := Str.ofString "__getitem__") ht.typeIs PyProof.Rows.slot_tuple_getitem
  (wpAny_call_entry PyProof.Rows.slot_tuple_getitem ht.typeIs entry_tuple_getitem ?_ (args_tuple_getitem _ _)))
 show wpAny _ _ (Builtin.Tuple.tupleItemsOf (.ref t) >>= _) _ _ s
 refine wpAny_bind (tupleItemsOf_ ht ?_)
 refine wpAny_bind (wpAny_typeOf hTs ?_)
 rw [if_pos (by decide)]
 refine wpAny_bind (zbt hs pl pu ?_)
 have hno : ¬ ((((sIx items.size 0 lo : Nat) : Int) == 0 && (1 : Int) == 1 && (sIx items.size items.size hi - sIx items.size 0 lo) == items.size) = true) := by
  intro q
  rw [Bool.and_eq_true, Bool.and_eq_true] at q
  have q1 : ((sIx items.size 0 lo : Nat) : Int) = 0 := eq_of_beq q.1.1
  have q2 : sIx items.size items.size hi - sIx items.size 0 lo = items.size := eq_of_beq q.2
  exact hw ⟨by omega, by omega⟩
 show wpAny _ _ (if (((sIx items.size 0 lo : Nat) : Int) == 0 && (1 : Int) == 1 && (sIx items.size items.size hi - sIx items.size 0 lo) == items.size) = true then _ else _) _ _ s
 rw [if_neg hno, zlP]
 first
  | exact wpAny_bind (m := Builtin.Tuple.tupleExact _) (wpAny_newObj_type (wpAny_pure ⟨_, rfl, wpAny_pure h⟩) htake)
  | exact wpAny_bind (m := Builtin.Tuple.tupleExact _) (wpAny_newObj_type (wpAny_bind (wpAny_pure (wpAny_pure ⟨_, rfl, wpAny_pure h⟩))) htake)
  | exact wpAny_bind (wpAny_bind (m := Builtin.Tuple.tupleExact _) (wpAny_newObj_type (wpAny_pure (wpAny_pure ⟨_, rfl, wpAny_pure h⟩)) htake))
  | exact wpAny_bind (wpAny_bind (m := Builtin.Tuple.tupleExact _) (wpAny_newObj_type (wpAny_pure ⟨_, rfl, wpAny_pure h⟩) htake))
end
end HT
namespace L2
open PySem PySem.Spec PyProof.Rows
abbrev TO := St -> Hp -> (Option Int -> Hp -> Prop) -> Prop
def PO (X : Cx) (e : Option Expr) (t : TO) : Prop :=
 ∀ (pins : List (Addr × Obj)) (s : Shared) (σ : St) (H : Hp) (Q : Option Int -> Hp -> Prop), Inv X pins σ H s -> t σ H Q ->
  wpAny (model X.prog X.w) X.A (evalPart e X.env) (λ u s' => ∃ o H', Inv X pins σ H' s' /\ IsPart u o /\ Q o H') X.xe s
def ziO : TO := λ _ H Q => Q none H
def zre (t : TE) : TO := λ σ H Q => t σ H λ x H1 => ∃ i, x = .int i /\ Q (some i) H1
theorem intsAre_of {ns : List Int} : ∀ {us : List Value}, Vals (ns.map V.int) us -> IntsAre us ns := by
 induction ns with
 | nil => intro us r; rw [List.map_nil] at r; cases r; exact .nil
 | cons n ns ih =>
  intro us r
  rw [List.map_cons] at r
  cases r with
  | cons r1 r2 =>
   obtain ⟨t, e⟩ := r1
   subst e
   exact .cons n t (ih r2)
section
variable {X : Cx} {e : Expr} {te : TE} {lo hi : Option Expr} {tl th : TO} {pos p2 : Pos}
theorem zlY : PO X none ziO := by
 intro pins s σ H Q I h
 rw [evalPart_none]
 exact wpAny_pure ⟨none, H, I, .none, h⟩
theorem zmN (h : PE X e te) : PO X (some e) (zre te) := by
 intro pins s σ H Q I hw
 rw [evalPart_some]
 refine thn (h pins s σ H _ I hw) λ u s1 ⟨x, H1, I1, r1, q1⟩ => ?_
 obtain ⟨i, rfl, q⟩ := q1
 obtain ⟨t, rfl⟩ := r1
 exact ⟨some i, H1, I1, .int i t, q⟩
def SlR (X : Cx) (r : V -> Option Int -> Option Int -> Hp -> VK -> Prop) : Prop :=
 ∀ (pins : List (Addr × Obj)) (s : Shared) (σ : St) (H : Hp) (x : V) (v vl vu : Value) (lo hi : Option Int) (sl : Addr) (Q : VK), Inv X pins σ H s -> RelV x v -> s.heap.IsSliceOf sl vl vu .none -> IsPart vl lo -> IsPart vu hi -> r x lo hi H Q ->
  ∃ T id, typeLookup (.type T) "__getitem__" = pure (some (.builtin id)) /\ s.TypeIs v T /\ wpAny (model X.prog X.w) X.A (getItem v (.ref sl)) (EP X pins σ Q) X.xe s
def tSl (r : V -> Option Int -> Option Int -> Hp -> VK -> Prop) (te : TE) (tl th : TO) : TE := λ σ H Q => te σ H λ x H1 => tl σ H1 λ l H2 => th σ H2 λ u H3 => r x l u H3 Q
theorem zkY {r : V -> Option Int -> Option Int -> Hp -> VK -> Prop} (hr : SlR X r) (he : PE X e te) (hl : PO X lo tl) (hu : PO X hi th) : PE X (.Subscript e (.Slice lo hi none p2) pos) (tSl r te tl th) := by
 intro pins s σ H Q I h
 refine Subscript_ (thn (he pins s σ H _ I h) λ v s1 ⟨x, H1, I1, r1, q1⟩ => ?_)
 refine wpAny_Slice (thn (hl pins s1 σ H1 _ I1 q1) λ vl s2 ⟨l, H2, I2, pl, q2⟩ => thn (hu pins s2 σ H2 _ I2 q2) λ vu s3 ⟨u, H3, I3, pu, q3⟩ => ?_)
 rw [evalPart_none]
 refine wpAny_pure ?_
 have I4 : Inv X pins σ H3 { s3 with heap := s3.heap.push { cls := .type "slice", data := .fields #[vl, vu, .none] } } := I3.kept (t' := s3.toks) λ b ob q => Heap.get?_push_of_some _ q
 obtain ⟨T, id, hT, ht, hg⟩ := hr pins { s3 with heap := s3.heap.push { cls := .type "slice", data := .fields #[vl, vu, .none] } } σ H3 x v vl vu l u s3.heap.objs.size Q I4 r1 (Heap.IsSliceOf.new ..) pl pu q3
 show wpAny (model X.prog X.w) X.A (subscriptTail e (.Slice lo hi none p2) v (.ref s3.heap.objs.size)) (EP X pins σ Q) X.xe { s3 with heap := s3.heap.push { cls := .type "slice", data := .fields #[vl, vu, .none] } }
 exact tail_any (ops := [.ref s3.heap.objs.size, v]) ht hT hg (by with_unfolding_all rfl)
def zgi (xs : List V) (lo hi : Option Int) : List V := (xs.drop (HT.sIx xs.length 0 lo)).take (HT.sIx xs.length xs.length hi - HT.sIx xs.length 0 lo)
theorem zbP (xs : List V) (lo hi : Option Int) : (zgi xs lo hi).length <= xs.length := by
 unfold zgi
 rw [zzP, List.length_drop]
 omega
def zrG (K : zC) : V -> Option Int -> Option Int -> Hp -> VK -> Prop := λ x lo hi H Q => ∃ a xs, x = .ref a /\ SqT K H a xs /\
 ¬ (HT.sIx xs.length 0 lo = 0 /\ HT.sIx xs.length xs.length hi = xs.length) /\ ∀ p, H p = none -> Q (.ref p) (upd H p (.tup (zgi xs lo hi)))
theorem zow : SlR X (zrG X.K) := by
 intro pins s σ H x v vl vu lo hi sl Q I rx hs pl pu h
 obtain ⟨a, xs, rfl, hx, hw, q⟩ := h
 cases rx
 obtain ⟨its, r, ht, hz⟩ := I.tuple hx
 have hlen : its.toArray.size = xs.length := by rw [zzE]; exact r.length.symm
 refine ⟨"tuple", _, PyProof.Rows.slot_tuple_getitem.lookup, ht.typeIs, ?_⟩
 refine HT.zaG ht hs pl pu (by rw [hlen]; exact hw) ?_ (by rw [hlen]; exact hz)
 rw [hlen]
 refine ⟨.ref s.heap.objs.size, _, I.laid (t' := s.toks) (o := .tup (zgi xs lo hi)) (λ b ob q => Heap.get?_push_of_some _ q) (zzK _) ?_, rfl, q _ (I.hok.fresh (zzK _))⟩
 exact ⟨zzL (zbP xs lo hi) hz, _, (r.drop (HT.sIx xs.length 0 lo)).take (HT.sIx xs.length xs.length hi - HT.sIx xs.length 0 lo), IsTup.new _ _⟩
def zro (K : zC) : R2 := λ x y H Q => ∃ a b xs ys, x = .ref a /\ y = .ref b /\ SqT K H a xs /\ SqT K H b ys /\ xs ≠ [] /\ xs.length + ys.length <= sizeLine /\
 (ys = [] -> Q (.ref a) H) /\ (ys ≠ [] -> ∀ p, H p = none -> Q (.ref p) (upd H p (.tup (xs ++ ys))))
theorem Vals.nil_iff {xs : List V} {us : List Value} (r : Vals xs us) : us = [] ↔ xs = [] := by
 cases r with
 | nil => simp
 | cons _ _ => simp
theorem zmG : OpR X (binaryOp .Add) (zro X.K) := by
 intro pins s σ H x y v u Q I rx ry h
 obtain ⟨a, b, xs, ys, rfl, rfl, ha, hb, hx, hz, q1, q2⟩ := h
 cases rx
 cases ry
 obtain ⟨its, r1, p1, _⟩ := I.tuple ha
 obtain ⟨its2, r2, p2, _⟩ := I.tuple hb
 refine HT.zmQ p1 p2 (λ z => hx (r1.nil_iff.mp z)) (λ z => ⟨.ref a, H, I, rfl, q1 (r2.nil_iff.mp z)⟩) (λ z => ?_) (by rw [<- r1.length, <- r2.length]; exact hz)
 refine ⟨.ref s.heap.objs.size, _, I.laid (t' := s.toks) (o := .tup (xs ++ ys)) (λ b ob q => Heap.get?_push_of_some _ q) (zzK _) ?_, rfl, q2 (λ w => z (r2.nil_iff.mpr w)) _ (I.hok.fresh (zzK _))⟩
 exact ⟨by rw [zzG]; exact hz, _, r1.append r2, IsTup.new _ _⟩
end
end L2
namespace L2
open PySem PySem.Spec PyProof.Rows
def ixN (n : Nat) (i : Int) : Option Nat := if 0 <= i then (if i < n then some i.toNat else none) else if -(n : Int) <= i then some (i + n).toNat else none
def atI {α : Type} (xs : List α) (i : Int) : Option α := (ixN xs.length i).bind λ j => xs[j]?
theorem ziI {n : Nat} {i : Int} {j : Nat} (h : ixN n i = some j) : seqIndex? i n = some j /\ j < n /\ -(n : Int) <= i /\ i < n := by
 unfold ixN at h
 by_cases h0 : 0 <= i
 · rw [if_pos h0] at h
   by_cases h1 : i < n
   · rw [if_pos h1] at h
     have e : i.toNat = j := Option.some.inj h
     exact ⟨by rw [seqIndex_of h0 h1, e], by omega, by omega, h1⟩
   · rw [if_neg h1] at h; cases h
 · rw [if_neg h0] at h
   by_cases h1 : -(n : Int) <= i
   · rw [if_pos h1] at h
     have e : (i + n).toNat = j := Option.some.inj h
     exact ⟨by rw [seqIndex_neg (by omega) h1, e], by omega, h1, by omega⟩
   · rw [if_neg h1] at h; cases h
theorem zeE {α : Type} {xs : List α} {i : Int} {v : α} (h : atI xs i = some v) : ∃ j, seqIndex? i xs.length = some j /\ xs[j]? = some v /\ j < xs.length /\ -(xs.length : Int) <= i /\ i < xs.length := by
 unfold atI at h
 cases e : ixN xs.length i with
 | none => rw [e] at h; cases h
 | some j =>
  rw [e] at h
  obtain ⟨h1, h2, h3, h4⟩ := ziI e
  exact ⟨j, h1, h, h2, h3, h4⟩
theorem Xy {α : Type} {xs : List α} {j : Nat} {v : α} (h : xs[j]? = some v) : atI xs (j : Int) = some v := by
 have hj : j < xs.length := (zzD.mp h).1
 have e : ixN xs.length (j : Int) = some j := by
  unfold ixN
  rw [if_pos (by omega), if_pos (by omega)]; simp
 unfold atI; rw [e]; exact h
def zaL (b : Expr) : Prop := ∀ o i, subscripted b false o i = operate [o, i] (getItem o i)
def IxR (X : Cx) (r : R2) : Prop :=
 ∀ (value slice : Expr) (pins : List (Addr × Obj)) (s : Shared) (σ : St) (H : Hp) (x y : V) (v u : Value) (Q : VK), Inv X pins σ H s -> RelV x v -> RelV y u -> r x y H Q ->
  subscripted slice false v u = operate [v, u] (getItem v u) -> wpAny (model X.prog X.w) X.A (subscriptTail value slice v u) (EP X pins σ Q) X.xe s
def MtR (X : Cx) (id : String) (r : V -> List V -> Hp -> VK -> Prop) : Prop :=
 ∀ (pins : List (Addr × Obj)) (s : Shared) (σ : St) (H : Hp) (x : V) (xs : List V) (v : Value) (us : List Value) (Q : VK), Inv X pins σ H s -> RelV x v -> Vals xs us -> r x xs H Q ->
  wpAny (model X.prog X.w) X.A (call (.builtin id) (v :: us)) (EP X pins σ Q) X.xe s
section
variable {X : Cx} {a b : Expr} {ta tb : TE} {pos : Pos}
theorem zjQ {r : R2} (hr : IxR X r) (ha : PE X a ta) (hb : PE X b tb) (hs : zaL b) : PE X (.Subscript a b pos) (tOp r ta tb) := by
 intro pins s σ H Q I h
 exact Subscript_ (zph ha hb I h λ v u s2 x y H2 I2 rx ry q => hr a b pins s2 σ H2 x y v u Q I2 rx ry q (hs _ _))
def zrB (K : zC) : R2 := λ x y H Q => ∃ p xs i v, x = .ref p /\ y = .int i /\ SqL K H p xs /\ atI xs i = some v /\ Q v H
def zrU (K : zC) : R2 := λ x y H Q => ∃ p xs i v, x = .ref p /\ y = .int i /\ SqT K H p xs /\ atI xs i = some v /\ Q v H
def zrD : R2 := λ x y H Q => ∃ z i c, x = .str z /\ y = .int i /\ z.length <= sizeLine /\ atI z.cps.toList i = some c /\ Q (.str ⟨#[c]⟩) H
theorem zfi : IxR X (zrB X.K) := by
 intro value slice pins s σ H x y v u Q I rx ry h hs
 obtain ⟨p, xs, i, z, rfl, rfl, hq, he, q⟩ := h
 cases rx
 obtain ⟨t, rfl⟩ := ry
 obtain ⟨its, r, pl, hz⟩ := I.list hq
 obtain ⟨j, h1, h2, h3, h4, h5⟩ := zeE he
 obtain ⟨w, ew, rw'⟩ := r.get h2
 have hl := r.length
 have hn := V7
 have fin : EP X pins σ Q w s := ⟨z, H, I, rw', q⟩
 by_cases h0 : 0 <= i
 · have hj : i.toNat = j := by
    rw [seqIndex_of h0 h5] at h1
    exact Option.some.inj h1
   exact item_listR pl.isList h0 (by omega) (by rw [hj]; simpa using ew) fin hs
 · have hj : (i + (its.toArray.size : Int)).toNat = j := by
    rw [seqIndex_neg (by omega) h4] at h1
    rw [zzE, <- hl]
    exact Option.some.inj h1
   exact subscriptTail_builtinR (x := w) pl.isList.typeIs slot_list_getitem.lookup
    (wpAny_getItem_list_neg (Q := λ r s' => r = w /\ EP X pins σ Q r s') pl.isList (by omega) (by rw [zzE] <;> omega) (by omega) (by rw [hj]; simpa using ew) ⟨rfl, fin⟩) hs
theorem zoB : IxR X (zrU X.K) := by
 intro value slice pins s σ H x y v u Q I rx ry h hs
 obtain ⟨p, xs, i, z, rfl, rfl, hq, he, q⟩ := h
 cases rx
 obtain ⟨t, rfl⟩ := ry
 obtain ⟨its, r, pl, hz⟩ := I.tuple hq
 obtain ⟨j, h1, h2, h3, h4, h5⟩ := zeE he
 obtain ⟨w, ew, rw'⟩ := r.get h2
 have hl := r.length
 have hn := V7
 have fin : EP X pins σ Q w s := ⟨z, H, I, rw', q⟩
 exact subscriptTail_builtinR (x := w) pl.typeIs slot_tuple_getitem.lookup
  (getItem_tuple (j := j) (Q := λ r s' => r = w /\ EP X pins σ Q r s') pl (by omega) (by omega) (by rw [zzE, <- hl]; exact h1) (by simpa using ew) ⟨rfl, fin⟩) hs
theorem zpz : IxR X zrD := by
 intro value slice pins s σ H x y v u Q I rx ry h hs
 obtain ⟨z, i, c, rfl, rfl, hz, he, q⟩ := h
 obtain ⟨t, rfl⟩ := rx
 obtain ⟨t', rfl⟩ := ry
 obtain ⟨j, h1, h2, h3, h4, h5⟩ := zeE he
 have hl : z.cps.toList.length = z.length := by simp [Str.length]
 rw [hl] at h1 h4 h5
 have hn := V7
 exact tail_any (typeIs_str s z t) slot_str_getitem.lookup (getItem_str (c := c) (by
  have e1 : decide (i < -(2 ^ 63 : Int)) = false := decide_eq_false (by omega)
  have e2 : decide (i ≥ 2 ^ 63) = false := decide_eq_false (by omega)
  rw [e1, e2, Bool.or_false]) (by rw [h1]; simpa using h2) ⟨.str ⟨#[c]⟩, H, I.tok _, ⟨_, rfl⟩, q⟩) hs
theorem zgY (its : List Value) (n j : Nat) (u : Value) : Obj.mapSeq (·.setIfInBounds j u) { cls := .type "list", data := .seq its.toArray n } = { cls := .type "list", data := .seq (its.set j u).toArray n } := by
 simp [Obj.mapSeq]
theorem Inv.lst {pins : List (Addr × Obj)} {σ : St} {H : Hp} {s : Shared} {p : Addr} {xs : List V} (I : Inv X pins σ H s) (h : H p = some (.lst xs)) :
 ∃ (its : List Value) (n : Nat), Vals xs its /\ s.heap.get? p = some { cls := .type "list", data := .seq its.toArray n } /\ xs.length <= sizeLine := by
 obtain ⟨z, its, n, r, e⟩ := I.hok p _ h
 exact ⟨its, n, r, e, z⟩
theorem Inv.lstUpd {pins : List (Addr × Obj)} {σ : St} {H : Hp} {s : Shared} {p : Addr} {xs ys : List V} {its its' : List Value} {n n' : Nat} {f : Obj -> Obj} (I : Inv X pins σ H s) (h : H p = some (.lst xs))
 (ho : s.heap.get? p = some { cls := .type "list", data := .seq its.toArray n }) (hf : f { cls := .type "list", data := .seq its.toArray n } = { cls := .type "list", data := .seq its'.toArray n' }) (r : Vals ys its') (hz : ys.length <= sizeLine) (t : Nat) :
 Inv X pins σ (upd H p (.lst ys)) { s with heap := s.heap.update p f, toks := t } := by
 have e : (s.heap.update p f).get? p = some { cls := .type "list", data := .seq its'.toArray n' } := by
  rw [Heap.get?_update_self f ho (by rw [hf] <;> rfl), hf]
 refine I.write (x := p) (e := p) (by rw [h]; trivial) (.inl rfl) (λ b u hb q => (Heap.get?_update_other _ _ (Ne.symm hb)).trans q) ⟨_, e⟩ ?_
 exact ⟨hz, its', n', r, e⟩
def zrp : V -> V -> V -> Hp -> (Hp -> Prop) -> Prop := λ o i v H Q => ∃ p xs k j, o = .ref p /\ i = .int k /\ H p = some (.lst xs) /\ ixN xs.length k = some j /\ Q (upd H p (.lst (xs.set j v)))
theorem set_list : zqY X zrp := by
 intro pins s σ H o i v ov iv u Q I ro ri rv h
 obtain ⟨p, xs, k, j, rfl, rfl, hp, hj, q⟩ := h
 cases ro
 obtain ⟨t, rfl⟩ := ri
 obtain ⟨its, n, r, ho, hz⟩ := I.lst hp
 obtain ⟨h1, h2, h3, h4⟩ := ziI hj
 have hl := r.length
 have hn := V7
 have I' : Inv X pins σ (upd H p (.lst (xs.set j v))) { s with heap := s.heap.update p (Obj.mapSeq (·.setIfInBounds j u)) } :=
  I.lstUpd hp ho (zgY its n j u) (r.set rv j) (by rw [zzR]; exact hz) s.toks
 by_cases h0 : 0 <= k
 · have hk : k.toNat = j := by
    rw [seqIndex_of h0 h4] at h1
    exact Option.some.inj h1
   exact PySem.W.ki_setAt ho h0 (by omega) (by rw [zzE, <- hl]; exact h4) (by rw [hk]; exact ⟨_, I', q⟩)
 · have hk : (k + (its.toArray.size : Int)).toNat = j := by
    rw [seqIndex_neg (by omega) h3] at h1
    rw [zzE, <- hl]
    exact Option.some.inj h1
   exact PySem.W.ki_setBack ho (by omega) (by rw [zzE, <- hl]; exact h3) (by omega) (by rw [hk]; exact ⟨_, I', q⟩)
theorem zfe (lo hi : Option Int) (n : Nat) : (sliceBounds lo hi none n).1 = ((HT.sIx n 0 lo : Nat) : Int) /\ (sliceBounds lo hi none n).2.1 = ((HT.sIx n n hi : Nat) : Int) /\ (sliceBounds lo hi none n).2.2 = 1 := by
 refine ⟨?_, ?_, rfl⟩
 · cases lo with
   | none => simp [sliceBounds, HT.sIx]
   | some i =>
    simp only [sliceBounds, HT.sIx, Option.getD_none, show (1 : Int) > 0 by decide, if_true]
    by_cases h : i < 0
    · simp only [h, if_true] <;> omega
    · simp only [h, if_false] <;> omega
 · cases hi with
   | none => simp [sliceBounds, HT.sIx]
   | some i =>
    simp only [sliceBounds, HT.sIx, Option.getD_none, show (1 : Int) > 0 by decide, if_true]
    by_cases h : i < 0
    · simp only [h, if_true] <;> omega
    · simp only [h, if_false] <;> omega
theorem zdX (its : List Value) (lo hi : Option Int) : slicePick its.toArray lo hi none = ((its.drop (HT.sIx its.length 0 lo)).take (HT.sIx its.length its.length hi - HT.sIx its.length 0 lo)).toArray := by
 obtain ⟨h1, h2, h3⟩ := zfe lo hi its.toArray.size
 unfold slicePick
 rw [h1, h2, h3]
 simp only [sliceRange_one, pick_run, zzE] <;> rfl
def zrE (K : zC) : V -> Option Int -> Option Int -> Hp -> VK -> Prop := λ x lo hi H Q => ∃ a xs, x = .ref a /\ SqL K H a xs /\ ∀ p, H p = none -> Q (.ref p) (upd H p (.lst (zgi xs lo hi)))
theorem znn : SlR X (zrE X.K) := by
 intro pins s σ H x v vl vu lo hi sl Q I rx hs pl pu h
 obtain ⟨a, xs, rfl, hx, q⟩ := h
 cases rx
 obtain ⟨its, r, ht, hz⟩ := I.list hx
 have hlen := r.length
 refine ⟨"list", _, slot_list_getitem.lookup, ht.isList.typeIs, ?_⟩
 refine wpAny_getItem_list_slice ht.isList hs pl pu .none (by simp) ?_ (by rw [zzE] <;> omega)
 rw [zdX, <- hlen]
 refine ⟨.ref s.heap.objs.size, _, I.laid (t' := s.toks) (o := .lst (zgi xs lo hi)) (λ b ob q => Heap.get?_push_of_some _ q) (zzK _) ?_, rfl, q _ (I.hok.fresh (zzK _))⟩
 exact ⟨zzL (zbP xs lo hi) hz, _, 0, (r.drop (HT.sIx xs.length 0 lo)).take (HT.sIx xs.length xs.length hi - HT.sIx xs.length 0 lo), Heap.get?_push_size _ rfl⟩
theorem zaH : VJ X (.builtin "len") (λ xs H Q => ∃ p ys, xs = [.ref p] /\ (SqL X.K H p ys \/ SqT X.K H p ys) /\ Q (.int ys.length) H) := by
 intro pins s σ H xs us Q I r h
 obtain ⟨p, ys, rfl, hq, q⟩ := h
 obtain ⟨u, rfl, rx⟩ := vals1 r
 cases rx
 have hn := V7
 rcases hq with hq | hq
 · obtain ⟨its, r', pl, hz⟩ := I.list hq
   have hlen := r'.length
   exact Calls.call_len_list pl.isList (by simp only [zzE] <;> omega) ⟨.int ys.length, H, I.tok _, ⟨s.toks + 1, by rw [zzE, hlen]⟩, q⟩
 · obtain ⟨its, r', pl, hz⟩ := I.tuple hq
   have hlen := r'.length
   exact len_tuple pl (by simp only [zzE] <;> omega) ⟨.int ys.length, H, I.tok _, ⟨s.toks + 1, by rw [zzE, hlen]⟩, q⟩
theorem zfb : VJ X (.builtin "len") (λ xs H Q => ∃ z, xs = [.str z] /\ z.length <= sizeLine /\ Q (.int z.length) H) := by
 intro pins s σ H xs us Q I r h
 obtain ⟨z, rfl, hz, q⟩ := h
 obtain ⟨u, rfl, t, rfl⟩ := vals1 r
 have hn := V7
 exact len_str (by omega) ⟨.int z.length, H, I.tok _, ⟨_, rfl⟩, q⟩
theorem zaO : VJ X (.type "list") (λ xs H Q => ∃ p ys, xs = [.ref p] /\ (SqL X.K H p ys \/ SqT X.K H p ys) /\ ∀ l, H l = none -> Q (.ref l) (upd H l (.lst ys))) := by
 intro pins s σ H xs us Q I r h
 obtain ⟨p, ys, rfl, hq, q⟩ := h
 obtain ⟨u, rfl, rx⟩ := vals1 r
 cases rx
 have fin : ∀ (its : List Value), Vals ys its -> ys.length <= sizeLine -> ∀ (h' : Heap) (c' : Nat), (∀ b o', s.heap.get? b = some o' -> h'.get? b = some o') ->
  h'.get? s.heap.objs.size = some { cls := .type "list", dict := none, data := .seq its.toArray c', slots := #[] } -> EP X pins σ Q (.ref s.heap.objs.size) { s with heap := h' } := λ its r' hz h' c' kp e =>
  ⟨.ref s.heap.objs.size, _, I.laid (t' := s.toks) kp (zzK _) (show wG X.prog X.w _ h' _ (.lst ys) from ⟨hz, its, c', r', e⟩), rfl, q _ (I.hok.fresh (zzK _))⟩
 rcases hq with hq | hq
 · obtain ⟨its, r', pl, hz⟩ := I.list hq
   have hlen := r'.length
   obtain ⟨o, ho, hc, n, hd⟩ := pl.isList
   exact call_list_seq p (.inl rfl) ho hc hd (λ h' c' kp e => fin its r' hz h' c' kp e) (by simp only [zzE] <;> omega)
 · obtain ⟨its, r', pl, hz⟩ := I.tuple hq
   have hlen := r'.length
   obtain ⟨o, ho, hc, n, hd⟩ := pl
   exact call_list_seq p (.inr rfl) ho hc hd (λ h' c' kp e => fin its r' hz h' c' kp e) (by simp only [zzE] <;> omega)
theorem VN : VJ X (.type "tuple") (λ xs H Q => ∃ p ys, xs = [.ref p] /\ ((SqL X.K H p ys /\ ∀ l, H l = none -> Q (.ref l) (upd H l (.tup ys))) \/ (SqT X.K H p ys /\ Q (.ref p) H))) := by
 intro pins s σ H xs us Q I r h
 obtain ⟨p, ys, rfl, h⟩ := h
 obtain ⟨u, rfl, rx⟩ := vals1 r
 cases rx
 rcases h with ⟨hq, q⟩ | ⟨hq, q⟩
 · obtain ⟨its, r', pl, hz⟩ := I.list hq
   have hlen := r'.length
   refine call_tuple_list pl.isList (λ h' kp => ?_) (by simp only [zzE] <;> omega)
   have I1 : Inv X pins σ H { s with heap := h' } := I.kept (t' := s.toks) kp
   have I2 : Inv X pins σ (upd H h'.objs.size (.tup ys)) { s with heap := h'.push { cls := .type "tuple", data := .seq its.toArray } } :=
    I1.laid (t' := s.toks) (λ b o e => Heap.get?_push_of_some _ e) (zzK _) (show wG X.prog X.w _ _ _ (.tup ys) from ⟨hz, its, r', IsTup.new _ _⟩)
   exact ⟨.ref h'.objs.size, _, I2, rfl, q _ (I1.hok.fresh (zzK _))⟩
 · obtain ⟨its, r', pl, hz⟩ := I.tuple hq
   exact call_tuple_same pl ⟨.ref p, H, I, rfl, q⟩
def tyV (K : zC) (T : String) (x : V) (H : Hp) : Prop := match x with
 | .str _ => T = "str"
 | .int _ => T = "int"
 | .ref p => (T = "list" /\ ∃ xs, SqL K H p xs) \/ (T = "tuple" /\ ∃ o, K.lookup p = some o /\ o.cls = .type "tuple" /\ o.dict = none) \/
  (T = "dict" /\ ((∃ kvs, H p = some (.dK kvs)) \/ ∃ kvs, H p = some (.dT kvs))) \/ (T = "set" /\ ∃ S n, H p = some (.set S n))
 | _ => False
theorem zov {pins : List (Addr × Obj)} {σ : St} {H : Hp} {s : Shared} {T : String} {x : V} {v : Value} (I : Inv X pins σ H s) (r : RelV x v) (ty : tyV X.K T x H) :
 s.TypeIs v T /\ ∀ a, v = .ref a -> ∃ ob, s.heap.get? a = some ob /\ ob.dict = none := by
 cases x with
 | str z =>
  obtain ⟨t, rfl⟩ := r
  cases (show T = "str" from ty)
  exact ⟨typeIs_str s z t, λ _ e => nomatch e⟩
 | int i =>
  obtain ⟨t, rfl⟩ := r
  cases (show T = "int" from ty)
  exact ⟨typeIs_int s i t, λ _ e => nomatch e⟩
 | ref p =>
  cases r
  rcases ty with ⟨rfl, xs, hq⟩ | ⟨rfl, o, hk, hc, hd⟩ | ⟨rfl, hk⟩ | ⟨rfl, S, n, hk⟩
  · obtain ⟨its, _, pl, _⟩ := I.list hq
    refine ⟨pl.isList.typeIs, λ a e => ?_⟩
    cases e
    obtain ⟨o, n, e, c, hd, _⟩ := pl
    exact ⟨o, e, hd⟩
  · refine ⟨⟨o, I.kIn p o hk, hc⟩, λ a e => ?_⟩
    cases e
    exact ⟨o, I.kIn _ o hk, hd⟩
  · have z : ∃ o, s.heap.get? p = some o /\ o.ExactDict := by
     rcases hk with ⟨kvs, hk⟩ | ⟨kvs, hk⟩
     · obtain ⟨_, _, _, _, o, _, _, e, ex, _⟩ := I.hok p _ hk
       exact ⟨o, e, ex⟩
     · obtain ⟨_, _, _, _, o, _, _, e, ex, _⟩ := I.hok p _ hk
       exact ⟨o, e, ex⟩
    obtain ⟨o, e, ex⟩ := z
    refine ⟨⟨o, e, ex.1⟩, λ a e2 => ?_⟩
    cases e2
    exact ⟨o, e, ex.2.1⟩
  · obtain ⟨o, _, _, _, e, ex, _⟩ := I.hok p _ hk
    refine ⟨⟨o, e, ex.1⟩, λ a e2 => ?_⟩
    cases e2
    exact ⟨o, e, ex.2.1⟩
 | _ => exact False.elim ty
def tBM (K : zC) (T : String) (r : V -> List V -> Hp -> VK -> Prop) (to : TE) (t : TA) : TE := λ σ H Q => to σ H λ x H1 => tyV K T x H1 /\ t σ H1 λ xs H2 => r x xs H2 Q
variable {o e : Expr} {es : List Expr} {to : TE} {t : TA} {name : Str} {apos cpos : Pos} {T id : String} {r : V -> List V -> Hp -> VK -> Prop}
theorem zqL (pa : PlainAttrs T) (slot : Slot T name id) (hty : typeOf (.builtin id) = pure (.type "method_descriptor")) (hm : MtR X id r) (ho : PE X o to) (ha : PA X (e :: es) t)
 (hbase : attributeBase o name X.env (eval o X.env) = eval o X.env := by rfl)
 (hfew : ((backTo cpos (starEach (e :: es) X.env)).all (λ x => !x.1) && (backToKw cpos (keywordEach [] X.env)).all (λ x => x.1.isSome)
  && decide ((e :: es).length + ([] : List Keyword).length + (if ([] : List Keyword).isEmpty then 0 else 1) < 30)) = true := by rfl)
 (hline : (apos.endLine == cpos.line) = true := by rfl) (hs : starEach (e :: es) X.env = (false, eval e X.env) :: starEach es X.env := by rfl) (hplain : (backTo cpos (starEach es X.env)).any (·.1) = false := by rfl) :
 PE X (.Call (.Attribute o name apos) (e :: es) [] cpos) (tBM X.K T r to t) := by
 intro pins s σ H Q I h
 refine wpAny_Call_method_late hbase hfew hline rfl (thn (ho pins s σ H _ I h) λ v s1 ⟨x, H1, I1, r1, ty, q1⟩ => ?_)
 obtain ⟨h1, h2⟩ := zov I1 r1 ty
 refine ⟨T, id, pa, slot, hty, h1, h2, ?_⟩
 have hA := ha cpos pins s1 σ H1 _ I1 q1
 rw [hs] at hA ⊢
 refine Calls.callWith_builtin (by show (false || (backTo cpos (starEach es X.env)).any (·.1)) = false; rw [hplain] <;> rfl) (Calls.evalArgs_plain ?_)
 exact thn hA λ us s2 ⟨vs, H2, I2, r2, q2⟩ => hm pins s2 σ H2 x vs v us Q I2 r1 r2 q2
end
end L2
namespace L2
open PySem PySem.Spec PyProof.Rows
def MtM (X : Cx) (id : String) (r : V -> List V -> Hp -> VK -> Prop) : Prop :=
 ∀ (pins : List (Addr × Obj)) (s : Shared) (σ : St) (H : Hp) (x : V) (xs : List V) (v : Value) (us : List Value) (Q : VK), Inv X pins σ H s -> RelV x v -> Vals xs us -> r x xs H Q ->
  wpAny (model X.prog X.w) X.A (call (.builtin id) (v :: us)) (EP X pins σ Q) X.xe s
theorem Vals.one : ∀ {x : V} {us : List Value}, Vals [x] us -> ∃ u, us = [u] /\ RelV x u
 | _, _, .cons r .nil => ⟨_, rfl, r⟩
theorem Vals.eraseIdx : ∀ {xs : List V} {us : List Value} (i : Nat), Vals xs us -> Vals (xs.eraseIdx i) (us.eraseIdx i)
 | _, _, _, .nil => .nil
 | _, _, 0, .cons _ t => t
 | _, _, i + 1, .cons r t => .cons r (Vals.eraseIdx i t)
theorem Vals.reverse {xs : List V} {us : List Value} (h : Vals xs us) : Vals xs.reverse us.reverse := by
 induction h with
 | nil => exact .nil
 | cons r t ih => rw [List.reverse_cons, List.reverse_cons]; exact Vals.append ih (.cons r .nil)
theorem Vals.rep {xs : List V} {us : List Value} (h : Vals xs us) : ∀ k : Nat, Vals (List.replicate k xs).flatten (List.replicate k us).flatten
 | 0 => .nil
 | k + 1 => by
  rw [List.replicate_succ, List.replicate_succ, List.flatten_cons, List.flatten_cons]
  exact Vals.append h (Vals.rep h k)
theorem zeu {α : Type} : ∀ (l : List α) (i : Nat), (l.eraseIdx i).length <= l.length
 | [], _ => zzK _
 | _ :: _, 0 => Nat.le_succ _
 | _ :: r, i + 1 => Nat.succ_le_succ (zeu r i)
theorem foldl_rep (its : List Value) : ∀ (k : Nat) (acc : List Value),
 List.foldl (λ x1 x2 => x1 ++ x2) acc.toArray (List.replicate k its.toArray) = (acc ++ (List.replicate k its).flatten).toArray
 | 0, acc => by simp
 | k + 1, acc => by
  have e : acc.toArray ++ its.toArray = (acc ++ its).toArray := by simp
  have e2 : (acc ++ its) ++ (List.replicate k its).flatten = acc ++ (List.replicate (k + 1) its).flatten := by
   rw [List.replicate_succ, List.flatten_cons, List.append_assoc]
  rw [<- e2, <- foldl_rep its k (acc ++ its), <- e, List.replicate_succ, List.foldl_cons]
section
variable {X : Cx} {pins : List (Addr × Obj)} {σ : St} {H : Hp} {s : Shared} {l b : Addr} {xs ys zs : List V}
theorem Inv.lset {its its' : List Value} {n : Nat} {f : Array Value -> Array Value} {t' : Nat} (I : Inv X pins σ H s) (hH : H l = some (.lst xs))
 (e : s.heap.get? l = some { cls := .type "list", data := .seq its.toArray n }) (hf : f its.toArray = its'.toArray) (hv : Vals ys its') (hz : ys.length <= sizeLine) :
 Inv X pins σ (upd H l (.lst ys)) { s with heap := s.heap.update l (Obj.mapSeq f), toks := t' } := by
 have q := PySem.IsL.update e f
 rw [hf] at q
 refine I.write (x := l) (e := l) (by rw [hH]; exact trivial) (.inl rfl) (λ b' u hb hu => (Heap.get?_update_other s.heap (Obj.mapSeq f) (Ne.symm hb)).trans hu) ⟨_, q⟩ ?_
 exact ⟨hz, its', _, hv, q⟩
theorem Inv.lnew {its : List Value} {t' : Nat} (I : Inv X pins σ H s) (hv : Vals ys its) (hz : ys.length <= sizeLine) :
 Inv X pins σ (upd H s.heap.objs.size (.lst ys)) { s with heap := s.heap.push { cls := .type "list", data := .seq its.toArray }, toks := t' } :=
 I.laid (λ _ _ q => Heap.get?_push_of_some _ q) (zzK _) ⟨hz, its, 0, hv, Heap.get?_push_size _ rfl⟩
theorem Inv.fresh (I : Inv X pins σ H s) : H s.heap.objs.size = none := I.hok.fresh (zzK _)
theorem Inv.lstM (I : Inv X pins σ H s) (hH : H l = some (.lst xs)) : xs.length <= sizeLine /\ ∃ (its : List Value) (n : Nat), Vals xs its /\ xs.length = its.length /\ s.heap.get? l = some { cls := .type "list", data := .seq its.toArray n } := by
 obtain ⟨z, its, n, r, e⟩ := I.hok l _ hH
 exact ⟨z, its, n, r, r.length, e⟩
theorem zkx {n : Nat} (h : n <= sizeLine) : Builtin.List.listTooLong n = false := by
 unfold Builtin.List.listTooLong
 exact decide_eq_false (by omega)
end
section
variable {X : Cx}
def zhN : V -> List V -> Hp -> VK -> Prop := λ x vs H Q => ∃ l xs y, x = .ref l /\ vs = [y] /\ H l = some (.lst xs) /\ xs.length < sizeLine /\ Q .non (upd H l (.lst (xs ++ [y])))
theorem wK : MtM X "list.append" zhN := by
 intro pins s σ H x vs v us Q I rx rv h
 obtain ⟨l, xs, y, rfl, rfl, hH, hz, q⟩ := h
 cases rx
 obtain ⟨u, rfl, ru⟩ := rv.one
 obtain ⟨z, its, n, r, hl, e⟩ := I.lstM hH
 refine call_meets F.slot_list_append ⟨_, e, rfl⟩ F.entry_list_append (F.args_list_append_2 _ _) (PySem.list_append l its.toArray n u (by rw [zzE]; omega)) ⟨e, ?_⟩
 refine ⟨.non, _, I.lset (its' := its ++ [u]) hH e (by simp) (r.append (.cons ru .nil)) ?_, rfl, q⟩
 rw [zzG, List.length_singleton]
 omega
def zlk : V -> List V -> Hp -> VK -> Prop := λ x vs H Q => ∃ l xs i k y, x = .ref l /\ vs = [.int i] /\ H l = some (.lst xs) /\ -(2 ^ 63) <= i /\ i < 2 ^ 63 /\ seqIndex? i xs.length = some k /\ xs[k]? = some y /\ Q y (upd H l (.lst (xs.eraseIdx k)))
theorem zlS : MtM X "list.pop" zlk := by
 intro pins s σ H x vs v us Q I rx rv h
 obtain ⟨l, xs, i, k, y, rfl, rfl, hH, h1, h2, hk, hy, q⟩ := h
 cases rx
 obtain ⟨u, rfl, ru⟩ := rv.one
 obtain ⟨t, rfl⟩ := ru
 obtain ⟨z, its, n, r, hl, e⟩ := I.lstM hH
 obtain ⟨w, hw, rw'⟩ := r.get hy
 refine call_meets F.slot_list_pop ⟨_, e, rfl⟩ F.entry_list_pop (F.args_list_pop_2 _ _)
  (MeetsSeq.list_pop_at l its.toArray n i t k w (fitsIndex_both h1 h2) (by rw [zzE, <- hl]; exact hk) (by rw [<- Array.getElem?_toList]; exact hw) (by rw [zzE]; omega)) ⟨e, ?_⟩
 refine ⟨y, _, I.lset (its' := its.eraseIdx k) hH e ?_ (r.eraseIdx k) ?_, rw', q⟩
 · show its.toArray.eraseIdxIfInBounds k = (its.eraseIdx k).toArray
   rw [List.eraseIdxIfInBounds_toArray]
 · have := zeu xs k
   omega
theorem len_rep {α : Type} (xs : List α) (k : Nat) : (List.replicate k xs).flatten.length = k * xs.length := by
 induction k with
 | zero => simp
 | succ k ih => rw [List.replicate_succ, List.flatten_cons, zzG, ih, Nat.succ_mul, Nat.add_comm]
end
end L2
namespace Att
open PySem PySem.W PySem.Calls PyProof.Rows
theorem zcq {P : Params} {h : Heap} : ∀ (ns : List Int) (vs : List Value), WellAll P h vs (ns.map WData.int) -> IntsAre vs ns := by
 intro ns
 induction ns with
 | nil =>
  intro vs w
  rw [List.map_nil] at w
  cases w
  exact .nil
 | cons n ns ih =>
  intro vs w
  rw [List.map_cons] at w
  cases w with
  | cons a b =>
   cases a
   exact .cons _ _ (ih _ b)
theorem zjy {l : OpenLaw} {n : Nat} (hn : l.most = some n) {P : Params} {h : Heap} {args : List WData} {vals : List Value}
 (hpre : l.row.toRowW.claim.pre args = true) (hwl : WellAll P h vals args) :
 ∃ a vs ns, vals = [Value.ref a] /\ args = [WData.list (ns.map WData.int)] /\ h.get? a = some { cls := .type "list", data := .seq vs.toArray } /\ IntsAre vs ns /\ ns.length <= n := by
 have hsh : WShape.hasAll [] args [.list .int] = true := (pre_splitW hpre).1
 have hc : l.pre.holds [] { args := args } = true := (pre_splitW hpre).2
 obtain ⟨d, r, rfl, h1, h2⟩ := hasAllW_cons hsh
 obtain rfl := hasAllW_nil h2
 obtain ⟨xs, rfl, h3⟩ := hasW_list h1
 obtain ⟨ns, rfl⟩ := items_int h3
 have hlen : ns.length <= n := by
  unfold OpenLaw.pre at hc
  have h4 : (WTm.not (.lt (.lit (.int (n : Int))) (.len (.arg 0)))).holds [] { args := [.list (ns.map .int)] } = true := by
   have h4 := (holds_andW hc).1
   rw [hn] at h4
   exact h4
  have h5 := condW_of h4 (w_not (w_lt w_lit (w_len_list (w_arg rfl))))
  rw [zD] at h5
  refine Nat.le_of_not_lt λ q => ?_
  have q' : (n : Int) < ((ns.length : Nat) : Int) := by omega
  first
   | (rw [decide_eq_true q'] at h5; exact absurd h5 (by decide))
   | (simp at h5; omega)
 cases hwl with
 | cons w1 w2 =>
  cases w2
  cases w1 with
  | list ho hall => exact ⟨_, _, ns, rfl, rfl, ho, zcq ns _ hall, hlen⟩
theorem zjE (l : OpenLaw) (args : List WData) : l.row.toRowW.claim.post args (.bool true) args = true :=
 postW_of (r := l.row.toRowW) (X := (true == true))
  (show WShape.has [] (.bool true) .bool = true by first | rfl | decide | simp [WShape.has, WShape.arms, WShape.armsAll])
  (show (WTm.eq .res (.lit (.bool true))).value [] { args := args, res := some (.bool true), after := args } = some (.bool (true == true)) from w_eq_bool (w_res rfl) w_lit) rfl
theorem zgq {l : OpenLaw} {n : Nat} {q : Program} {loose : List Str} {XP : (Str -> Option Value) -> Heap -> Prop} {YP : World -> Heap -> Prop} {d : DefRec}
 (hn : l.most = some n) (hdf : d.params.defaults = [])
 (call : ∀ (w : World) (s₀ s₁ : Shared) (mg mb : Str -> Option Value) (fa : Addr) (o : Obj) (pm cd doc : Value) (a : Addr) (vs : List Value) (ns : List Int),
  Ground q loose [] XP w s₀ mg mb s₁.heap -> YP w s₁.heap ->
  s₁.heap.get? fa = some o -> o.data = .func (docDef d.name d.params d.body d.scope pm cd doc) -> s₁.heap.CodeRec cd d.name -> mg d.name = some (.ref fa) ->
  s₁.heap.get? a = some { cls := .type "list", data := .seq vs.toArray } -> IntsAre vs ns -> ns.length <= n -> s₁.gens = #[] ->
  codeAny (model l.prog w) callerA (.call (.ref fa) ⟨[.ref a], []⟩) (λ r s' => r = .ok (.ret (.bool true)) /\ OldK s₁.heap s'.heap /\ s'.os = s₁.os /\ AllBare s'.gens) s₁) :
 WalkO q loose XP YP l.row.toRowW d [] (λ f vs => PySem.call f vs) := by
 intro w s₀ s₁ mg mb G Y fa o pm cd doc dV kV ho hd hcd hD hmg hg args vals as hpre hlay hrd hwl hlo
 obtain rfl : dV = .none := Dflts.none hD hdf
 obtain rfl : kV = .none := Dflts.noKw hD
 obtain ⟨a, vs, ns, rfl, rfl, hobj, hints, hlen⟩ := zjy hn hpre hwl
 refine enter_call (codeAny_mono (call w s₀ s₁ mg mb fa o pm cd doc a vs ns G Y ho (fd_plain hd) hcd hmg hobj hints hlen hg) λ r s' hq => ?_)
 obtain ⟨rfl, h2, h3, h4⟩ := hq
 exact ⟨.inl ⟨.bool true, .bool true, [], rfl, λ _ => rfl, .bool true, zjE l _, λ _ => ⟨List.Pairwise.nil, λ _ hm => (nomatch hm)⟩⟩, h2, h3, h4⟩
end Att
namespace L2
open PySem PySem.Spec PyProof.Rows
theorem Xj : ∀ {vs : List Value} {ns : List Int}, IntsAre vs ns -> Vals (ns.map V.int) vs
 | _, _, .nil => .nil
 | _, _, .cons n t h => .cons ⟨t, rfl⟩ (Xj h)
def Only (H : Hp) : Prop := ∀ b, H b = none \/ ∃ o xs, H b = some (.frz o (.lst xs))
theorem zlL {P : Program} {w : World} {K : zC} {mg mb : Str -> Option Value} {CX : CXT} {k : Nat} {fa a : Addr} {fd : FuncData} {x : Str} {sp : Sp} {s₁ : Shared} {vs : List Value} {ns : List Int}
 (KX : K.In s₁.heap) (hns : s₁.heap.Ns mainGlobals mg) (hb : s₁.heap.Ns builtinsNs mb) (hbb : ∀ x : Str, x ≠ "__name__" -> mb x = bootBuiltins x) (hlim : s₁.heap.NoLimit) (hg : s₁.gens = #[])
 (ha : s₁.heap.get? a = some { cls := .type "list", data := .seq vs.toArray }) (hi : IntsAre vs ns) (hl : ns.length <= sizeLine) (hr : Room k callerA)
 (F : ∀ base : Heap, K.In base -> base.Ns mainGlobals mg -> FnOk P w K mg base CX k fa fd [x] sp) (hbind : ∀ (s : Shared) (u : Value), BindsTo s fd ⟨[u], []⟩ [(x, u)])
 (hsp : ∀ H : Hp, Only H -> RdL K H a (ns.map V.int) -> sp [.ref a] H (λ v _ => v = .bl true) λ _ _ _ => False)
 (hCX : ∀ H e s', CX [] H s₁ (λ _ _ _ => False) e s' -> False) :
 codeAny (model P w) callerA (.call (.ref fa) ⟨[.ref a], []⟩) (λ r s' => r = .ok (.ret (.bool true)) /\ OldK s₁.heap s'.heap /\ s'.os = s₁.os /\ AllBare s'.gens) s₁ := by
 have rv := Xj hi
 have lenV := hi.length
 have core : ∀ H : Hp, Only H -> RdL K H a (ns.map V.int) -> HOk P w H s₁.heap -> (∀ b, H b ≠ none -> b = a) -> (H a ≠ none -> K.lookup a = none) ->
  codeAny (model P w) callerA (.call (.ref fa) ⟨[.ref a], []⟩) (λ r s' => r = .ok (.ret (.bool true)) /\ OldK s₁.heap s'.heap /\ s'.os = s₁.os /\ AllBare s'.gens) s₁ := by
  intro H hO hS hok hA hK
  have base_of : ∀ {b : Addr} {o : Obj}, s₁.heap.get? b = some o -> H b = none -> (zfE s₁.heap H).get? b = some o := λ e n => zla e n
  have noA : ∀ {b : Addr} {o : Obj} {es : Array DictEntry} {ep : Nat}, s₁.heap.get? b = some o -> o.data = .dict es ep -> H b = none := λ {b o es ep} e d => by
   cases q : H b with
   | none => rfl
   | some u =>
    have e' : b = a := hA b (by rw [q]; simp)
    subst e'
    rw [ha] at e; cases e
    have d' : Data.seq vs.toArray _ = Data.dict es ep := d
    cases d'
  have nsK : ∀ {b : Addr} {m : Str -> Option Value}, s₁.heap.Ns b m -> (zfE s₁.heap H).Ns b m := λ {b m} ⟨o, es, ep, e, d, r⟩ => ⟨o, es, ep, base_of e (noA e d), d, r⟩
  have hKb : K.In (zfE s₁.heap H) := λ b o e => base_of (KX b o e) (by
   cases q : H b with
   | none => rfl
   | some u =>
    have e' : b = a := hA b (by rw [q]; simp)
    subst e'
    rw [hK (by rw [q]; simp)] at e; cases e)
  have hM : Mod K mg (zfE s₁.heap H) := ⟨hKb, nsK hns, ⟨mb, nsK hb, hbb⟩, let ⟨mc, h1, h2⟩ := hlim; ⟨mc, nsK h1, h2⟩⟩
  have e0 : Env0 P w K mg (zfE s₁.heap H) callerA [] s₁ H := ⟨rfl, hM, λ b o e => zml e, Nat.le_of_eq (zjs _ _), trivial, λ b hb => absurd (show b ∈ ([] : List Addr) from hb) (by simp), hok, .of_eq hg⟩
  refine codeAny_mono ((F _ hKb (nsK hns)).run callerA [] s₁ H ⟨[.ref a], []⟩ [.ref a] [.ref a] _ _ hr e0 (hbind s₁ (.ref a)) (.cons rfl .nil) (hsp H hO hS)) λ r s' h => ?_
  cases r with
  | error e => exact (hCX H e s' h).elim
  | ok fl =>
   cases fl with
   | next => exact False.elim h
   | brk => exact False.elim h
   | cont => exact False.elim h
   | ret u =>
    obtain ⟨v, H', os, bare, un, hok', r', q⟩ := h
    have q' : v = .bl true := q
    subst q'
    obtain rfl : u = Value.bool true := r'
    refine ⟨rfl, OldK.of_keep λ b o e => ?_, os, bare⟩
    cases q : H b with
    | none => exact un.keep b o e q (by intro z; exact absurd (show b ∈ ([] : List Addr) from z) (by simp)) (by simp)
    | some u =>
     rcases hO b with z | ⟨ob, xs, z⟩
     · rw [q] at z; cases z
     · have z2 := un.frzs b ob _ z
       obtain ⟨e1, _⟩ := hok b _ z
       obtain ⟨e2, _⟩ := hok' b _ z2
       rw [e] at e1; cases e1
       exact e2
 cases hk : K.lookup a with
 | some o =>
  have e := KX a o hk
  rw [ha] at e
  cases e
  refine core (λ _ => none) (λ _ => .inl rfl) (.inr ⟨vs.toArray, _, hk, by rw [zzE, lenV]; exact hl, by simpa using rv⟩) (λ b u z => by have z' : (none : Option HO) = some u := z; cases z') (λ b z => absurd rfl z) λ z => absurd rfl z
 | none =>
  refine core (λ b => if b = a then some (.frz { cls := .type "list", data := .seq vs.toArray } (.lst (ns.map V.int))) else none) (λ b => ?_) (.inl (.inr ⟨{ cls := .type "list", data := .seq vs.toArray }, if_pos rfl⟩)) (λ b u z => ?_) (λ b z => ?_) λ _ => hk
  · by_cases hb : b = a
    · exact .inr ⟨_, _, if_pos hb⟩
    · exact .inl (if_neg hb)
  · by_cases hb : b = a
    · have z' := (if_pos hb).symm.trans z
      cases z'
      subst hb
      exact ⟨ha, by rw [zD]; exact hl, vs, _, rv, ha⟩
    · have z' := (if_neg hb).symm.trans z
      cases z'
  · by_cases hb : b = a
    · exact hb
    · exact absurd (if_neg hb) z
end L2
namespace L2
open PySem PySem.Spec PyProof.Rows
theorem walk_of {l : PySem.W.OpenLaw} {n k : Nat} {q : Program} {loose : List Str} {XP : (Str -> Option Value) -> Heap -> Prop} {YP : World -> Heap -> Prop} {d : DefRec} {K : Params -> zC} {CX : World -> CXT} {sp : World -> Sp} {x : Str}
 (hn : l.most = some n) (hn2 : n <= sizeLine) (hdf : d.params.defaults = []) (hr : Room k callerA)
 (hY : ∀ (w : World) (h : Heap), YP w h -> (K w.params).In h)
 (F : ∀ (w : World) (mg : Str -> Option Value) (fa : Addr) (h : Heap), (K w.params).In h -> h.Ns mainGlobals mg -> mg d.name = some (.ref fa) ->
  ∃ fd : FuncData, (∀ (s : Shared) (u : Value), BindsTo s fd ⟨[u], []⟩ [(x, u)]) /\
   ∀ base : Heap, (K w.params).In base -> base.Ns mainGlobals mg -> FnOk l.prog w (K w.params) mg base (CX w) k fa fd [x] (sp w))
 (hsp : ∀ (w : World) (H : Hp) (a : Addr) (ns : List Int), ns.length <= n -> Only H -> RdL (K w.params) H a (ns.map V.int) -> sp w [.ref a] H (λ v _ => v = .bl true) λ _ _ _ => False)
 (hCX : ∀ (w : World) (H : Hp) (s : Shared) (e : Value) (s' : Shared), CX w [] H s (λ _ _ _ => False) e s' -> False) :
 PySem.W.WalkO q loose XP YP l.row.toRowW d [] (λ f vs => PySem.call f vs) := by
 refine Att.zgq hn hdf λ w s₀ s₁ mg mb fa o pm cd doc a vs ns G Y ho hd hcd hmg hobj hints hlen hg => ?_
 have KX := hY w _ Y
 obtain ⟨fd, hb, hF⟩ := F w mg fa _ KX G.T.g hmg
 exact zlL KX G.T.g G.T.b G.T.builtins G.T.nolimit hg hobj hints (zzL hlen hn2) hr hF hb (λ H hO hS => hsp w H a ns hlen hO hS) λ H e s' => hCX w H s₁ e s'
end L2
namespace L2
open PySem PySem.Spec PyProof.Rows
def inClass (s : Stmt) (j : Nat) : Stmt := match s with
 | .ClassDef _ _ _ body _ _ _ _ _ _ _ => body.getD j (.Pass ⟨0, 0, 0, 0⟩)
 | _ => .Pass ⟨0, 0, 0, 0⟩
def zeI (s : Stmt) : Arguments := match s with
 | .FunctionDef _ a _ _ _ _ _ _ _ _ => a
 | _ => { posonlyargs := [], args := [], vararg := none, kwonlyargs := [], kw_defaults := [], kwarg := none, defaults := [] }
def Vr (s : Stmt) : List Stmt := match s with
 | .FunctionDef _ _ b _ _ _ _ _ _ _ => b
 | _ => []
def zA (s : Stmt) : Scope := match s with
 | .FunctionDef _ _ _ _ _ _ sc _ _ _ => sc
 | _ => { kind := .function, names := [], isGenerator := false, isCoroutine := false }
abbrev CX0 : CXT := λ _ _ _ _ _ _ => False
abbrev E0 : XK := λ _ _ _ => False
theorem yp {X : Cx} : Yu CX0 X E0 := λ _ _ _ _ _ _ _ h => h.elim
structure Fun (K : zC) (x qual : Str) (st : Stmt) (f : Addr) (fd : FuncData) : Prop where
 ex : ∃ (oc : Value) (od : Option Addr) (kV doc pm : Value) (an : Option Addr) (cdv ct : Value) (osl : Array (Option Value)),
  fd = PySem.W.fnOf x qual (zeI st) (Vr st) (zA st) .none kV doc pm an cdv ct /\ K.lookup f = some ⟨oc, od, .func fd, osl⟩ /\ PySem.W.codeIn K cdv qual = true
 kp : PySem.W.keepIn K (.ref f) = true
section
variable {P : Program} {w : World} {K : zC} {mg : Str -> Option Value} {base : Heap}
theorem Fun.ok {x qual : Str} {st : Stmt} {f : Addr} {fd : FuncData} {N ps : List Str} {k : Nat} {sp : Sp} (F : Fun K x qual st f fd) (S : FnScope N ps (zA st)) (len : ∀ vs H Q E, sp vs H Q E -> vs.length = ps.length)
 (hbody : ∀ (cdv : Value) (A : Around) (outer : List Env) (s : Shared) (H : Hp) (vs : List V) (Q : VK) (E : XK), Room k (A.deeper (envOfC qual (zA st) s.heap.objs.size f cdv)) -> sp vs H Q E ->
  ∃ t, PSs (zfL CX0 P w K mg base N qual (zA st) f cdv A outer s H E).nox (Vr st) t /\ t { nx := λ _ H' => Q .non H', rt := Q } (start N vs) H) : FnOk P w K mg base CX0 (k + 1) f fd ps sp := by
 obtain ⟨oc, od, kV, doc, pm, an, cdv, ct, osl, rfl, lk, hcd⟩ := F.ex
 refine zqG lk hcd S len λ A outer s H vs Q E hr hsp => ?_
 obtain ⟨t, h, q⟩ := hbody cdv A outer s H vs Q E hr hsp
 exact ⟨t, h.nox, q⟩
theorem Fun.binds {x qual : Str} {st : Stmt} {f : Addr} {fd : FuncData} {ps : List Str} (F : Fun K x qual st f fd)
 (h : ∀ (kV doc pm : Value) (an : Option Addr) (cdv ct : Value) (us : List Value), us.length = ps.length -> bindArgs (PySem.W.fnOf x qual (zeI st) (Vr st) (zA st) .none kV doc pm an cdv ct) ⟨us, []⟩ = pure (ps.zip us)) : Binds K fd ps [] := by
 obtain ⟨oc, od, kV, doc, pm, an, cdv, ct, osl, rfl, lk, hcd⟩ := F.ex
 exact .all (h kV doc pm an cdv ct)
end
theorem ym {n : Nat} (h : n <= 1000) : n < sizeLine := Nat.lt_of_le_of_lt h (by decide)
section
variable {X : Cx}
theorem pv (i : Nat) {x : Str} {pos : Pos} (hN : X.N[i]? = some x := by rfl) (hv : Vis X.env.scope x := by first | exact Or.inl rfl | exact Or.inr (Or.inl rfl) | exact Or.inr (Or.inr rfl)) (hd : (x == ("__debug__" : Str)) = false := by decide)
 (hcd : (x == ("__classdict__" : Str)) = false := by decide) : PE X (.Name x pos) (zfa i) := zkG hN hv hd hcd
end
end L2
end
section
namespace PF
open PySem PySem.Spec PyProof.Rows L2
abbrev St := L2.St
structure KD where
 d : Addr -> List (Key × V) -> Prop
 c : Str -> Addr
instance : CoeFun KD (λ _ => Addr -> List (Key × V) -> Prop) := ⟨KD.d⟩
inductive D where
 | non | bl (b : Bool) | int (i : Int) | str (x : Str) | tup (ds : List D) | lst (ds : List D) | dct (kvs : List (Key × D)) | cl (c : Str) | ob (c : Str) (ns : List Str) (ds : List D)
mutual
inductive Rp (K : zC) (kd : KD) (O : Addr -> Prop) (H : Hp) : V -> D -> Prop
 | non : Rp K kd O H .non .non
 | bl (b : Bool) : Rp K kd O H (.bl b) (.bl b)
 | int (i : Int) : Rp K kd O H (.int i) (.int i)
 | str (x : Str) : Rp K kd O H (.str x) (.str x)
 | tup {a : Addr} {vs : List V} {ds : List D} : ¬ O a -> Rd H a (.tup vs) -> RpL K kd O H vs ds -> Rp K kd O H (.ref a) (.tup ds)
 | tupK {a : Addr} {o : Obj} {its : Array Value} {n : Nat} {vs : List V} {ds : List D} : K.lookup a = some o -> o.cls = .type "tuple" -> o.data = .seq its n -> its.size <= sizeLine -> Vals vs its.toList -> RpL K kd O H vs ds -> Rp K kd O H (.ref a) (.tup ds)
 | lst {a : Addr} {vs : List V} {ds : List D} : ¬ O a -> Rd H a (.lst vs) -> RpL K kd O H vs ds -> Rp K kd O H (.ref a) (.lst ds)
 | lstK {a : Addr} {its : Array Value} {n : Nat} {vs : List V} {ds : List D} : K.lookup a = some { cls := .type "list", data := .seq its n } -> its.size <= sizeLine -> Vals vs its.toList -> RpL K kd O H vs ds -> Rp K kd O H (.ref a) (.lst ds)
 | dct {a : Addr} {kvs : List (Key × V)} {ds : List (Key × D)} : ¬ O a -> Rd H a (.dK kvs) -> RpM K kd O H kvs ds -> Rp K kd O H (.ref a) (.dct ds)
 | dctK {a : Addr} {kvs : List (Key × V)} {ds : List (Key × D)} : kd a kvs -> RpM K kd O H kvs ds -> Rp K kd O H (.ref a) (.dct ds)
 | cl (c : Str) : Rp K kd O H (.ref (kd.c c)) (.cl c)
 | ob {a dx : Addr} {c : Str} {ns : List Str} {vs : List V} {ds : List D} : ¬ O a -> H a = some (.ins (kd.c c) dx (ns.zip vs)) -> ns.length = vs.length -> RpL K kd O H vs ds -> Rp K kd O H (.ref a) (.ob c ns ds)
inductive RpL (K : zC) (kd : KD) (O : Addr -> Prop) (H : Hp) : List V -> List D -> Prop
 | nil : RpL K kd O H [] []
 | cons {v : V} {d : D} {vs : List V} {ds : List D} : Rp K kd O H v d -> RpL K kd O H vs ds -> RpL K kd O H (v :: vs) (d :: ds)
inductive RpM (K : zC) (kd : KD) (O : Addr -> Prop) (H : Hp) : List (Key × V) -> List (Key × D) -> Prop
 | nil : RpM K kd O H [] []
 | cons {k : Key} {v : V} {d : D} {vs : List (Key × V)} {ds : List (Key × D)} : Rp K kd O H v d -> RpM K kd O H vs ds -> RpM K kd O H ((k, v) :: vs) ((k, d) :: ds)
end
structure Grow (W : Addr -> Prop) (H : Hp) (W' : Addr -> Prop) (H' : Hp) : Prop where
 keep : ∀ b o, H b = some o -> ¬ W b -> H' b = some o
 own : ∀ b, W' b -> W b \/ H b = none
theorem Grow.refl {W : Addr -> Prop} {H : Hp} : Grow W H W H := ⟨λ _ _ h _ => h, λ _ h => .inl h⟩
theorem Grow.trans {W W1 W2 : Addr -> Prop} {H H1 H2 : Hp} (a : Grow W H W1 H1) (b : Grow W1 H1 W2 H2) : Grow W H W2 H2 where
 keep := λ x o h n => b.keep x o (a.keep x o h n) λ q => (a.own x q).elim n λ z => by rw [z] at h; cases h
 own := λ x q => by
  rcases b.own x q with h | h
  · exact a.own x h
  · cases e : H x with
    | none => exact .inr rfl
    | some o =>
     refine .inl (Classical.byContradiction λ n => ?_)
     rw [a.keep x o e n] at h
     cases h
theorem Grow.less {W W' : Addr -> Prop} {H : Hp} (h : ∀ a, W' a -> W a) : Grow W H W' H := ⟨λ _ _ q _ => q, λ b q => .inl (h b q)⟩
abbrev Un2 (F W : Addr -> Prop) : Addr -> Prop := λ a => F a \/ W a
section
variable {K : zC} {kd : KD} {F W W' : Addr -> Prop} {H H' : Hp}
theorem Vx {a : Addr} {u : HO} (g : Grow W H W' H') (n : ¬ W a) (h : Rd H a u) : Rd H' a u := by
 rcases h with h | ⟨o, h⟩
 · exact .inl (g.keep _ _ h n)
 · exact .inr ⟨o, g.keep _ _ h n⟩
theorem zmu {a : Addr} {u : HO} (h : Rd H a u) : H a ≠ none := by
 rcases h with h | ⟨o, h⟩ <;> (rw [h]; simp)
theorem zaD {a : Addr} {u : HO} (g : Grow W H W' H') (n : ¬ Un2 F W a) (h : Rd H a u) : ¬ Un2 F W' a := λ q =>
 q.elim (λ z => n (.inl z)) λ z => (g.own a z).elim (λ y => n (.inr y)) λ y => zmu h y
theorem Rp.grow (g : Grow W H W' H') {v : V} {d : D} (h : Rp K kd (Un2 F W) H v d) : Rp K kd (Un2 F W') H' v d :=
 Rp.rec (motive_1 := λ v d _ => Rp K kd (Un2 F W') H' v d) (motive_2 := λ vs ds _ => RpL K kd (Un2 F W') H' vs ds) (motive_3 := λ vs ds _ => RpM K kd (Un2 F W') H' vs ds) .non .bl .int .str (λ n h _ r => .tup (zaD g n h) (Vx g (λ z => n (.inr z)) h) r) (λ a b c e f _ r => .tupK a b c e f r) (λ n h _ r => .lst (zaD g n h) (Vx g (λ z => n (.inr z)) h) r) (λ a e f _ r => .lstK a e f r) (λ n h _ r => .dct (zaD g n h) (Vx g (λ z => n (.inr z)) h) r) (λ h _ r => .dctK h r) .cl (λ n h l _ r => .ob (zaD g n (.inl h)) (g.keep _ _ h λ z => n (.inr z)) l r) .nil (λ _ _ h r => .cons h r) .nil (λ _ _ h r => .cons h r) h
theorem RpL.ind {O : Addr -> Prop} {P : List V -> List D -> Prop} (h0 : P [] []) (h1 : ∀ {v d vs ds}, Rp K kd O H v d -> RpL K kd O H vs ds -> P vs ds -> P (v :: vs) (d :: ds)) {vs : List V} {ds : List D} (h : RpL K kd O H vs ds) : P vs ds :=
 RpL.rec (motive_1 := λ _ _ _ => True) (motive_2 := λ vs ds _ => P vs ds) (motive_3 := λ _ _ _ => True) ⟨⟩ (λ _ => ⟨⟩) (λ _ => ⟨⟩) (λ _ => ⟨⟩) (λ _ _ _ _ => ⟨⟩) (λ _ _ _ _ _ _ _ => ⟨⟩) (λ _ _ _ _ => ⟨⟩) (λ _ _ _ _ _ => ⟨⟩) (λ _ _ _ _ => ⟨⟩) (λ _ _ _ => ⟨⟩) (λ _ => ⟨⟩) (λ _ _ _ _ _ => ⟨⟩) h0 (λ a r _ ih => h1 a r ih) ⟨⟩ (λ _ _ _ _ => ⟨⟩) h
theorem RpM.ind {O : Addr -> Prop} {P : List (Key × V) -> List (Key × D) -> Prop} (h0 : P [] []) (h1 : ∀ {k v d vs ds}, Rp K kd O H v d -> RpM K kd O H vs ds -> P vs ds -> P ((k, v) :: vs) ((k, d) :: ds)) {vs : List (Key × V)} {ds : List (Key × D)} (h : RpM K kd O H vs ds) : P vs ds :=
 RpM.rec (motive_1 := λ _ _ _ => True) (motive_2 := λ _ _ _ => True) (motive_3 := λ vs ds _ => P vs ds) ⟨⟩ (λ _ => ⟨⟩) (λ _ => ⟨⟩) (λ _ => ⟨⟩) (λ _ _ _ _ => ⟨⟩) (λ _ _ _ _ _ _ _ => ⟨⟩) (λ _ _ _ _ => ⟨⟩) (λ _ _ _ _ _ => ⟨⟩) (λ _ _ _ _ => ⟨⟩) (λ _ _ _ => ⟨⟩) (λ _ => ⟨⟩) (λ _ _ _ _ _ => ⟨⟩) ⟨⟩ (λ _ _ _ _ => ⟨⟩) h0 (λ a r _ ih => h1 a r ih) h
theorem RpL.grow (g : Grow W H W' H') {vs : List V} {ds : List D} (h : RpL K kd (Un2 F W) H vs ds) : RpL K kd (Un2 F W') H' vs ds := RpL.ind .nil (λ a _ r => .cons (Rp.grow g a) r) h
theorem RpM.grow (g : Grow W H W' H') {vs : List (Key × V)} {ds : List (Key × D)} (h : RpM K kd (Un2 F W) H vs ds) : RpM K kd (Un2 F W') H' vs ds := RpM.ind .nil (λ a _ r => .cons (Rp.grow g a) r) h
theorem Rp.less {O O' : Addr -> Prop} (g : ∀ a, O' a -> O a) {v : V} {d : D} (h : Rp K kd O H v d) : Rp K kd O' H v d :=
 Rp.rec (motive_1 := λ v d _ => Rp K kd O' H v d) (motive_2 := λ vs ds _ => RpL K kd O' H vs ds) (motive_3 := λ vs ds _ => RpM K kd O' H vs ds) .non .bl .int .str (λ n h _ r => .tup (λ z => n (g _ z)) h r) (λ a b c e f _ r => .tupK a b c e f r) (λ n h _ r => .lst (λ z => n (g _ z)) h r) (λ a e f _ r => .lstK a e f r) (λ n h _ r => .dct (λ z => n (g _ z)) h r) (λ h _ r => .dctK h r) .cl (λ n h l _ r => .ob (λ z => n (g _ z)) h l r) .nil (λ _ _ h r => .cons h r) .nil (λ _ _ h r => .cons h r) h
theorem RpL.less {O O' : Addr -> Prop} (g : ∀ a, O' a -> O a) {vs : List V} {ds : List D} (h : RpL K kd O H vs ds) : RpL K kd O' H vs ds := RpL.ind .nil (λ a _ r => .cons (Rp.less g a) r) h
theorem RpM.less {O O' : Addr -> Prop} (g : ∀ a, O' a -> O a) {vs : List (Key × V)} {ds : List (Key × D)} (h : RpM K kd O H vs ds) : RpM K kd O' H vs ds := RpM.ind .nil (λ a _ r => .cons (Rp.less g a) r) h
theorem RpL.length {O : Addr -> Prop} {vs : List V} {ds : List D} (h : RpL K kd O H vs ds) : vs.length = ds.length := RpL.ind (P := λ vs ds => vs.length = ds.length) rfl (λ _ _ r => congrArg (· + 1) r) h
theorem RpM.length {O : Addr -> Prop} {vs : List (Key × V)} {ds : List (Key × D)} (h : RpM K kd O H vs ds) : vs.length = ds.length := RpM.ind (P := λ vs ds => vs.length = ds.length) rfl (λ _ _ r => congrArg (· + 1) r) h
theorem RpL.get {O : Addr -> Prop} {vs : List V} {ds : List D} {i : Nat} {d : D} (h : RpL K kd O H vs ds) (e : ds[i]? = some d) : ∃ v, vs[i]? = some v /\ Rp K kd O H v d :=
 RpL.ind (P := λ vs ds => ∀ i, ds[i]? = some d -> ∃ v, vs[i]? = some v /\ Rp K kd O H v d) (λ i e => by rw [List.getElem?_nil] at e; cases e) (λ a _ ih i e => by
  cases i with
  | zero => cases e; exact ⟨_, rfl, a⟩
  | succ i => exact ih i e) h i e
theorem RpL.append {O : Addr -> Prop} {vs ws : List V} {ds es : List D} (h : RpL K kd O H vs ds) (r : RpL K kd O H ws es) : RpL K kd O H (vs ++ ws) (ds ++ es) := RpL.ind (P := λ vs ds => RpL K kd O H (vs ++ ws) (ds ++ es)) r (λ a _ t => .cons a t) h
theorem RpL.take {O : Addr -> Prop} {vs : List V} {ds : List D} (n : Nat) (h : RpL K kd O H vs ds) : RpL K kd O H (vs.take n) (ds.take n) :=
 RpL.ind (P := λ vs ds => ∀ n, RpL K kd O H (vs.take n) (ds.take n)) (λ n => by rw [List.take_nil, List.take_nil]; exact .nil) (λ a _ ih n => by
  cases n with
  | zero => exact .nil
  | succ n => exact .cons a (ih n)) h n
theorem RpL.drop {O : Addr -> Prop} {vs : List V} {ds : List D} (n : Nat) (h : RpL K kd O H vs ds) : RpL K kd O H (vs.drop n) (ds.drop n) :=
 RpL.ind (P := λ vs ds => ∀ n, RpL K kd O H (vs.drop n) (ds.drop n)) (λ n => by rw [List.drop_nil, List.drop_nil]; exact .nil) (λ a b ih n => by
  cases n with
  | zero => exact .cons a b
  | succ n => exact ih n) h n
theorem RpL.rep {O : Addr -> Prop} {vs : List V} {ds : List D} (h : RpL K kd O H vs ds) : ∀ k : Nat, RpL K kd O H (List.replicate k vs).flatten (List.replicate k ds).flatten
 | 0 => .nil
 | k + 1 => by
  rw [List.replicate_succ, List.replicate_succ, List.flatten_cons, List.flatten_cons]
  exact h.append (RpL.rep h k)
end
inductive Vw (K : zC) (kd : KD) (O : Addr -> Prop) (H : Hp) : V -> D -> Prop
 | non : Vw K kd O H .non .non
 | bl (b : Bool) : Vw K kd O H (.bl b) (.bl b)
 | int (i : Int) : Vw K kd O H (.int i) (.int i)
 | str (x : Str) : Vw K kd O H (.str x) (.str x)
 | tup {a : Addr} {vs : List V} {ds : List D} : Rp K kd O H (.ref a) (.tup ds) -> SqT K H a vs -> RpL K kd O H vs ds -> Vw K kd O H (.ref a) (.tup ds)
 | lst {a : Addr} {vs : List V} {ds : List D} : RdL K H a vs -> RpL K kd O H vs ds -> Vw K kd O H (.ref a) (.lst ds)
 | dct {a : Addr} {kvs : List (Key × V)} {ds : List (Key × D)} : (Rd H a (.dK kvs) \/ kd a kvs) -> RpM K kd O H kvs ds -> Vw K kd O H (.ref a) (.dct ds)
 | cl (c : Str) : Vw K kd O H (.ref (kd.c c)) (.cl c)
 | ob {a dx : Addr} {c : Str} {ns : List Str} {vs : List V} {ds : List D} : H a = some (.ins (kd.c c) dx (ns.zip vs)) -> ns.length = vs.length -> RpL K kd O H vs ds -> Vw K kd O H (.ref a) (.ob c ns ds)
theorem Rp.vw {K : zC} {kd : KD} {O : Addr -> Prop} {H : Hp} {v : V} {d : D} (h : Rp K kd O H v d) : Vw K kd O H v d := by
 cases h with
 | non => exact .non
 | bl b => exact .bl b
 | int i => exact .int i
 | str x => exact .str x
 | tup n h r => exact .tup (.tup n h r) (.inl h) r
 | tupK a b c e f r => exact .tup (.tupK a b c e f r) (.inr ⟨_, _, _, a, b, c, e, f⟩) r
 | lst n h r => exact .lst (.inl h) r
 | lstK a e f r => exact .lst (.inr ⟨_, _, a, e, f⟩) r
 | dct n h r => exact .dct (.inl h) r
 | dctK h r => exact .dct (.inr h) r
 | cl c => exact .cl c
 | ob n h l r => exact .ob h l r
theorem _root_.L2.RdL.sq {K : zC} {H : Hp} {a : Addr} {xs : List V} (h : RdL K H a xs) : SqL K H a xs := by
 rcases h with h | ⟨its, n, k, z, r⟩
 · exact .inl h
 · exact .inr ⟨_, its, n, k, rfl, rfl, rfl, z, r⟩
theorem zhJ {X : Cx} {pins : List (Addr × Obj)} {σ : St} {H : Hp} {s : Shared} {a : Addr} {xs : List V} (I : Inv X pins σ H s) (h : RdL X.K H a xs) :
 xs.length <= sizeLine /\ ∃ (its : List Value) (n : Nat), Vals xs its /\ s.heap.get? a = some { cls := .type "list", data := .seq its.toArray n } := by
 rcases h with h | ⟨its, n, k, z, r⟩
 · exact h.ok I.hok
 · refine ⟨by rw [r.length]; simpa using z, its.toList, n, r, by simpa using I.kIn _ _ k⟩
theorem Rp.cl_eq {K : zC} {kd : KD} {O : Addr -> Prop} {H : Hp} {C : Addr} {c : Str} (h : Rp K kd O H (.ref C) (.cl c)) : C = kd.c c := by
 cases h; rfl
def zU : D -> Bool
 | .non => true | .bl _ => true | .int _ => true | .str _ => true | _ => false
theorem Rp.flat {K : zC} {kd : KD} {O O' : Addr -> Prop} {H H' : Hp} {v : V} {d : D} (h : Rp K kd O H v d) (e : zU d = true) : Rp K kd O' H' v d := by
 cases h with
 | non => exact .non
 | bl b => exact .bl b
 | int i => exact .int i
 | str x => exact .str x
 | _ => cases e
inductive Kind where
 | ls | tp | dc (ks : List Key) | ob (c : Str) (ns : List Str)
inductive O where
 | lf (st : Bool) (d : D) | nd (k : Kind) (os : List O)
abbrev lfs (st : Bool) (d : D) : O := .lf (zU d || st) d
mutual
inductive Ro (L : Bool -> V -> D -> Prop) (N : Addr -> Prop) (H : Hp) : V -> O -> List Addr -> Prop
 | lf {st : Bool} {v : V} {d : D} : L st v d -> Ro L N H v (.lf st d) []
 | ls {a : Addr} {vs : List V} {os : List O} {fp : List Addr} : H a = some (.lst vs) -> RoL L N H vs os fp -> Ro L N H (.ref a) (.nd .ls os) (a :: fp)
 | dc {a : Addr} {ks : List Key} {vs : List V} {os : List O} {fp : List Addr} : H a = some (.dK (ks.zip vs)) -> ks.length = vs.length -> RoL L N H vs os fp -> Ro L N H (.ref a) (.nd (.dc ks) os) (a :: fp)
 | ob {a dx C : Addr} {c : Str} {ns : List Str} {vs : List V} {os : List O} {fp : List Addr} : L true (.ref C) (.cl c) -> H a = some (.ins C dx (ns.zip vs)) -> ns.length = vs.length -> RoL L N H vs os fp -> Ro L N H (.ref a) (.nd (.ob c ns) os) (a :: fp)
 | tp {a : Addr} {vs : List V} {os : List O} {fp : List Addr} : N a -> H a = some (.tup vs) -> RoL L N H vs os fp -> Ro L N H (.ref a) (.nd .tp os) fp
inductive RoL (L : Bool -> V -> D -> Prop) (N : Addr -> Prop) (H : Hp) : List V -> List O -> List Addr -> Prop
 | nil : RoL L N H [] [] []
 | cons {v : V} {o : O} {vs : List V} {os : List O} {fp fq : List Addr} : Ro L N H v o fp -> RoL L N H vs os fq -> RoL L N H (v :: vs) (o :: os) (fp ++ fq)
end
mutual
def O.toD : O -> D
 | .lf _ d => d
 | .nd .ls os => .lst (O.toDs os)
 | .nd .tp os => .tup (O.toDs os)
 | .nd (.dc ks) os => .dct (ks.zip (O.toDs os))
 | .nd (.ob c ns) os => .ob c ns (O.toDs os)
def O.toDs : List O -> List D
 | [] => []
 | o :: r => o.toD :: O.toDs r
end
mutual
def O.str : O -> Bool
 | .lf st _ => st
 | .nd _ os => O.strs os
def O.strs : List O -> Bool
 | [] => true
 | o :: r => o.str && O.strs r
end
section
variable {L L' : Bool -> V -> D -> Prop} {N N' : Addr -> Prop} {H H' : Hp} {K : zC} {kd : KD} {Ob : Addr -> Prop}
theorem Ro.mono (hL : ∀ st v d, L st v d -> L' st v d) (hN : ∀ a vs, N a -> H a = some (.tup vs) -> N' a /\ H' a = some (.tup vs)) {v : V} {o : O} {fp : List Addr} (k : ∀ a ∈ fp, ∀ u, H a = some u -> H' a = some u) (h : Ro L N H v o fp) : Ro L' N' H' v o fp :=
 Ro.rec (motive_1 := λ v o fp _ => (∀ a ∈ fp, ∀ u, H a = some u -> H' a = some u) -> Ro L' N' H' v o fp) (motive_2 := λ vs os fp _ => (∀ a ∈ fp, ∀ u, H a = some u -> H' a = some u) -> RoL L' N' H' vs os fp)
  (λ h _ => .lf (hL _ _ _ h)) (λ h _ r k => .ls (k _ zzC _ h) (r λ a m => k a (zzA _ m))) (λ h l _ r k => .dc (k _ zzC _ h) l (r λ a m => k a (zzA _ m))) (λ c h l _ r k => .ob (hL _ _ _ c) (k _ zzC _ h) l (r λ a m => k a (zzA _ m))) (λ n h _ r k => .tp (hN _ _ n h).1 (hN _ _ n h).2 (r k))
  (λ _ => .nil) (λ _ _ h r k => .cons (h λ a m => k a (zzM _ m)) (r λ a m => k a (zzI _ m))) h k
theorem RoL.ind {P : List V -> List O -> List Addr -> Prop} (h0 : P [] [] []) (h1 : ∀ {v o vs os fp fq}, Ro L N H v o fp -> RoL L N H vs os fq -> P vs os fq -> P (v :: vs) (o :: os) (fp ++ fq)) {vs : List V} {os : List O} {fp : List Addr} (h : RoL L N H vs os fp) : P vs os fp :=
 RoL.rec (motive_1 := λ _ _ _ _ => True) (motive_2 := λ vs os fp _ => P vs os fp) (λ _ => ⟨⟩) (λ _ _ _ => ⟨⟩) (λ _ _ _ _ => ⟨⟩) (λ _ _ _ _ _ => ⟨⟩) (λ _ _ _ _ => ⟨⟩) h0 (λ a r _ ih => h1 a r ih) h
theorem RoL.mono (hL : ∀ st v d, L st v d -> L' st v d) (hN : ∀ a vs, N a -> H a = some (.tup vs) -> N' a /\ H' a = some (.tup vs)) {vs : List V} {os : List O} {fp : List Addr} (k : ∀ a ∈ fp, ∀ u, H a = some u -> H' a = some u) (h : RoL L N H vs os fp) : RoL L' N' H' vs os fp :=
 RoL.ind (P := λ vs os fp => (∀ a ∈ fp, ∀ u, H a = some u -> H' a = some u) -> RoL L' N' H' vs os fp) (λ _ => .nil) (λ h _ r k => .cons (Ro.mono hL hN (λ a m => k a (zzM _ m)) h) (r λ a m => k a (zzI _ m))) h k
theorem zcx : ∀ {ks : List Key} {vs : List V} {ds : List D}, RpL K kd Ob H vs ds -> ks.length = vs.length -> RpM K kd Ob H (ks.zip vs) (ks.zip ds)
 | [], _, _, _, _ => .nil
 | _ :: _, _, _, .nil, e => by simp at e
 | _ :: _, _, _, .cons h r, e => .cons h (zcx r (by simpa using e))
theorem Ro.rp (b : Bool) (hL : ∀ st v d, (b = true -> st = true) -> L st v d -> Rp K kd Ob H v d) (hN : ∀ a, N a -> ¬ Ob a) {v : V} {o : O} {fp : List Addr} (s : b = true -> o.str = true) (k : ∀ a ∈ fp, ¬ Ob a) (h : Ro L N H v o fp) : Rp K kd Ob H v o.toD :=
 Ro.rec (motive_1 := λ v o fp _ => (b = true -> o.str = true) -> (∀ a ∈ fp, ¬ Ob a) -> Rp K kd Ob H v o.toD) (motive_2 := λ vs os fp _ => (b = true -> O.strs os = true) -> (∀ a ∈ fp, ¬ Ob a) -> RpL K kd Ob H vs (O.toDs os))
  (λ h s _ => hL _ _ _ s h) (λ h _ r s k => .lst (k _ zzC) (.inl h) (r s λ a m => k a (zzA _ m))) (λ h l _ r s k => .dct (k _ zzC) (.inl h) (zcx (r s λ a m => k a (zzA _ m)) l)) (λ c h l _ r s k => by
   have e := (hL _ _ _ (λ _ => rfl) c).cl_eq
   subst e
   exact .ob (k _ zzC) h l (r s λ a m => k a (zzA _ m))) (λ n h _ r s k => .tup (hN _ n) (.inl h) (r s k))
  (λ _ _ => .nil) (λ _ _ h r s k => .cons (h (λ z => ((Bool.and_eq_true _ _).mp (s z)).1) λ a m => k a (zzM _ m)) (r (λ z => ((Bool.and_eq_true _ _).mp (s z)).2) λ a m => k a (zzI _ m))) h s k
theorem RoL.rp (b : Bool) (hL : ∀ st v d, (b = true -> st = true) -> L st v d -> Rp K kd Ob H v d) (hN : ∀ a, N a -> ¬ Ob a) {vs : List V} {os : List O} {fp : List Addr} (s : b = true -> O.strs os = true) (k : ∀ a ∈ fp, ¬ Ob a) (h : RoL L N H vs os fp) : RpL K kd Ob H vs (O.toDs os) :=
 RoL.ind (P := λ vs os fp => (b = true -> O.strs os = true) -> (∀ a ∈ fp, ¬ Ob a) -> RpL K kd Ob H vs (O.toDs os)) (λ _ _ => .nil) (λ h _ r s k => .cons (Ro.rp b hL hN (λ z => ((Bool.and_eq_true _ _).mp (s z)).1) (λ a m => k a (zzM _ m)) h) (r (λ z => ((Bool.and_eq_true _ _).mp (s z)).2) λ a m => k a (zzI _ m))) h s k
theorem RoL.length {vs : List V} {os : List O} {fp : List Addr} (h : RoL L N H vs os fp) : vs.length = os.length := RoL.ind (P := λ vs os _ => vs.length = os.length) rfl (λ _ _ r => congrArg (· + 1) r) h
theorem zbJ : ∀ os : List O, (O.toDs os).length = os.length
 | [] => rfl
 | _ :: r => congrArg (· + 1) (zbJ r)
theorem RoL.append {vs ws : List V} {os ps : List O} {f g : List Addr} (h : RoL L N H vs os f) (r : RoL L N H ws ps g) : RoL L N H (vs ++ ws) (os ++ ps) (f ++ g) := RoL.ind (P := λ vs os f => RoL L N H (vs ++ ws) (os ++ ps) (f ++ g)) r (λ h _ t => by rw [List.append_assoc]; exact .cons h t) h
theorem RoL.one {v : V} {o : O} {f : List Addr} (h : Ro L N H v o f) : RoL L N H [v] [o] f := by
 have := RoL.cons h (RoL.nil (L := L) (N := N) (H := H))
 rw [List.append_nil] at this
 exact this
theorem RoL.at_ {k : Nat} {o : O} : ∀ {vs : List V} {os : List O} {fp : List Addr}, RoL L N H vs os fp -> os[k]? = some o -> ∃ v f fo g, vs[k]? = some v /\ fp = f ++ (fo ++ g) /\ Ro L N H v o fo /\ RoL L N H (vs.take k) (os.take k) f /\ RoL L N H (vs.drop (k + 1)) (os.drop (k + 1)) g := by
 induction k with
 | zero =>
  intro vs os fp h e
  cases h with
  | nil => cases e
  | cons h r =>
   rw [List.getElem?_cons_zero] at e
   cases e
   exact ⟨_, [], _, _, rfl, rfl, h, .nil, r⟩
 | succ k ih =>
  intro vs os fp h e
  cases h with
  | nil => cases e
  | cons h r =>
   rw [List.getElem?_cons_succ] at e
   obtain ⟨v, f, fo, g, e1, e2, h1, h2, h3⟩ := ih r e
   subst e2
   exact ⟨v, _, fo, g, by rw [List.getElem?_cons_succ]; exact e1, (List.append_assoc _ _ _).symm, h1, .cons h h2, h3⟩
theorem zca {α : Type} (l : List α) (k : Nat) : l.eraseIdx k = l.take k ++ l.drop (k + 1) := List.eraseIdx_eq_take_drop_succ l k
end
abbrev AS := List (Option O)
abbrev Ad := Nat -> List Addr
def Gw (T : List Addr) (ad : Ad) : Addr -> Prop := λ a => a ∈ T \/ ∃ i, a ∈ ad i
abbrev Lv (F B G : Addr -> Prop) (st : Bool) : Addr -> Prop := Un2 (λ a => (st = true /\ F a) \/ B a) G
abbrev Lf (K : zC) (kd : KD) (F B G : Addr -> Prop) (H : Hp) : Bool -> V -> D -> Prop := λ st v d => Rp K kd (Lv F B G st) H v d
abbrev Nf (F B G : Addr -> Prop) : Addr -> Prop := λ a => ¬ Lv F B G true a
abbrev RoS (K : zC) (kd : KD) (F B G : Addr -> Prop) (H : Hp) : V -> O -> List Addr -> Prop := Ro (Lf K kd F B G H) (Nf F B G) H
abbrev Zb (K : zC) (kd : KD) (F B G : Addr -> Prop) (H : Hp) : List V -> List O -> List Addr -> Prop := RoL (Lf K kd F B G H) (Nf F B G) H
def zdk (K : zC) (kd : KD) (F B G : Addr -> Prop) (H : Hp) : Option O -> Option (Option V) -> List Addr -> Prop
 | none, _, fp => fp = []
 | some o, s, fp => ∃ v, s = some (some v) /\ RoS K kd F B G H v o fp
structure Rel (K : zC) (kd : KD) (F B : Addr -> Prop) (T : List Addr) (ad : Ad) (as : AS) (σ : St) (H : Hp) : Prop where
 len : as.length = σ.length
 out : ∀ i, as.length <= i -> ad i = []
 nd : ∀ i, (ad i).Nodup
 inj : ∀ i j a, a ∈ ad i -> a ∈ ad j -> i = j
 tnd : T.Nodup
 dis : ∀ i a, a ∈ ad i -> a ∉ T
 ftr : ∀ a, F a -> H a ≠ none
 btr : ∀ a, B a -> H a ≠ none /\ ¬ F a /\ ¬ Gw T ad a
 gtr : ∀ a, Gw T ad a -> H a ≠ none /\ ¬ F a
 sl : ∀ i s, as[i]? = some s -> zdk K kd F B (Gw T ad) H s σ[i]? (ad i)
inductive RV where
 | ow (o : O) | bo (i : Nat)
def wI (K : zC) (kd : KD) (F B : Addr -> Prop) (T : List Addr) (ad : Ad) (σ : St) (H : Hp) (v : V) : RV -> Prop
 | .ow o => RoS K kd F B (Gw T ad) H v o T
 | .bo i => T = [] /\ σ[i]? = some (some v)
def O.frz (o : O) : O := .lf o.str o.toD
def RV.frz : RV -> RV
 | .ow o => .ow o.frz
 | .bo i => .bo i
def O.isLf : O -> Bool
 | .lf _ _ => true
 | _ => false
def O.kl : O -> Option Bool
 | .lf st _ => some st
 | .nd _ os => if os.all O.isLf = true then some (O.strs os) else none
def RV.view (as : AS) : RV -> Option (D × Option Bool)
 | .ow o => some (o.toD, some o.str)
 | .bo i => match as[i]? with
  | some (some o) => some (o.toD, o.kl)
  | _ => none
def Obl (F B G : Addr -> Prop) : Option Bool -> Addr -> Prop
 | some st => Lv F B G st
 | none => λ _ => False
section
variable {K : zC} {kd : KD} {F B F' B' : Addr -> Prop} {G G' : Addr -> Prop} {T T' : List Addr} {ad ad1 : Ad} {as as1 : AS} {σ : St} {H H1 H' : Hp} {v : V} {r : RV} {o : O} {fp : List Addr} {vs : List V} {os : List O}
theorem RoS.grow (g : Grow G H G' H') (k : ∀ a ∈ fp, ∀ u, H a = some u -> H' a = some u) (h : RoS K kd F B G H v o fp) : RoS K kd F B G' H' v o fp :=
 Ro.mono (λ st v d r => Rp.grow g r) (λ a vs n e => ⟨λ z => z.elim (λ y => n (.inl y)) λ y => (g.own a y).elim (λ w => n (.inr w)) λ w => (by rw [w] at e; cases e), g.keep a _ e (λ w => n (.inr w))⟩) k h
theorem Zb.grow (g : Grow G H G' H') (k : ∀ a ∈ fp, ∀ u, H a = some u -> H' a = some u) (h : Zb K kd F B G H vs os fp) : Zb K kd F B G' H' vs os fp :=
 RoL.mono (λ st v d r => Rp.grow g r) (λ a vs n e => ⟨λ z => z.elim (λ y => n (.inl y)) λ y => (g.own a y).elim (λ w => n (.inr w)) λ w => (by rw [w] at e; cases e), g.keep a _ e (λ w => n (.inr w))⟩) k h
theorem RoS.lv (g : ∀ st a, Lv F' B' G' st a -> Lv F B G st a) (h : RoS K kd F B G H v o fp) : RoS K kd F' B' G' H v o fp :=
 Ro.mono (λ st v d r => r.less (g st)) (λ a vs n e => ⟨λ z => n (g true a z), e⟩) (λ _ _ _ e => e) h
theorem Zb.lv (g : ∀ st a, Lv F' B' G' st a -> Lv F B G st a) (h : Zb K kd F B G H vs os fp) : Zb K kd F' B' G' H vs os fp :=
 RoL.mono (λ st v d r => r.less (g st)) (λ a vs n e => ⟨λ z => n (g true a z), e⟩) (λ _ _ _ e => e) h
theorem RoS.less (g : ∀ a, G' a -> G a) (h : RoS K kd F B G H v o fp) : RoS K kd F B G' H v o fp := RoS.lv (λ _ a z => z.elim .inl λ y => .inr (g a y)) h
theorem Gw.drop : ∀ a, Gw [] ad a -> Gw T ad a := λ _ h => h.elim (λ z => nomatch z) .inr
theorem Rel.trk (R : Rel K kd F B T ad as σ H) (st : Bool) : ∀ a, Lv F B (Gw T ad) st a -> H a ≠ none := λ a h => by
 rcases h with (h | h) | h
 · exact R.ftr a h.2
 · exact (R.btr a h).1
 · exact (R.gtr a h).1
theorem Rel.tr (R : Rel K kd F B T ad as σ H) (lv : Option Bool) : ∀ a, Obl F B (Gw T ad) lv a -> H a ≠ none := λ a h => by
 cases lv with
 | none => exact h.elim
 | some st => exact R.trk st a h
theorem zdk.lv {s : Option O} {x : Option (Option V)} (g : ∀ st a, Lv F' B' G' st a -> Lv F B G st a) (h : zdk K kd F B G H s x fp) : zdk K kd F' B' G' H s x fp := by
 cases s with
 | none => exact h
 | some o => obtain ⟨v, e, r⟩ := h; exact ⟨v, e, RoS.lv g r⟩
theorem zdk.less {s : Option O} {x : Option (Option V)} (g : ∀ a, G' a -> G a) (h : zdk K kd F B G H s x fp) : zdk K kd F B G' H s x fp := h.lv (λ _ a z => z.elim .inl λ y => .inr (g a y))
theorem zdk.grow {s : Option O} {x : Option (Option V)} (g : Grow G H G' H') (k : ∀ a ∈ fp, ∀ u, H a = some u -> H' a = some u) (h : zdk K kd F B G H s x fp) : zdk K kd F B G' H' s x fp := by
 cases s with
 | none => exact h
 | some o => obtain ⟨v, e, r⟩ := h; exact ⟨v, e, RoS.grow g k r⟩
theorem Rel.drop (R : Rel K kd F B T ad as σ H) : Rel K kd F B [] ad as σ H where
 len := R.len
 out := R.out
 nd := R.nd
 inj := R.inj
 tnd := List.nodup_nil
 dis := λ _ _ _ z => nomatch z
 ftr := R.ftr
 btr := λ a h => let ⟨h1, h2, h3⟩ := R.btr a h; ⟨h1, h2, λ z => h3 (Gw.drop a z)⟩
 gtr := λ a h => R.gtr a (Gw.drop a h)
 sl := λ i s e => (R.sl i s e).less Gw.drop
theorem zhl (R : Rel K kd F B T ad as σ H) (h : RoS K kd F B (Gw T ad) H v o T) : Rp K kd (Lv F B (Gw [] ad) o.str) H v o.toD :=
 Ro.rp o.str (λ st v d hs r => r.less λ a z => z.elim (λ y => .inl (y.elim (λ x => .inl ⟨hs x.1, x.2⟩) .inr)) λ y => .inr (Gw.drop a y))
  (λ a n z => n (z.elim (λ y => .inl (y.elim (λ x => .inl ⟨rfl, x.2⟩) .inr)) λ y => .inr (Gw.drop a y))) id
  (λ a m z => by
   rcases z with (z | z) | z | ⟨i, z⟩
   · exact (R.gtr a (.inl m)).2 z.2
   · exact (R.btr a z).2.2 (.inl m)
   · cases z
   · exact R.dis i a z m) h
theorem wI.drop (R : Rel K kd F B T ad as σ H) (h : wI K kd F B T ad σ H v r) : wI K kd F B [] ad σ H v r.frz := by
 cases r with
 | ow o => exact .lf (zhl R h)
 | bo i => exact ⟨rfl, h.2⟩
theorem wI.grow (g : Grow (Gw [] ad) H (Gw [] ad1) H1) (h : wI K kd F B [] ad σ H v r) : wI K kd F B [] ad1 σ H1 v r := by
 cases r with
 | ow o => exact RoS.grow g (λ _ m => nomatch m) h
 | bo i => exact h
theorem zjO {vs : List V} {os : List O} {fp : List Addr} (h : Zb K kd F B G H vs os fp) : os.all O.isLf = true -> fp = [] :=
 RoL.ind (P := λ _ os fp => os.all O.isLf = true -> fp = []) (λ _ => rfl) (λ h _ ih e => by
  rw [List.all_cons, Bool.and_eq_true] at e
  rw [ih e.2, List.append_nil]
  cases h with
  | lf => rfl
  | ls => cases e.1
  | dc => cases e.1
  | ob => cases e.1
  | tp => cases e.1) h
theorem zcI {st : Bool} {b : Bool} (hs : b = true -> st = true) : ∀ a, Lv F B G b a -> Lv F B G st a := λ a z => z.elim (λ y => .inl (y.elim (λ x => .inl ⟨hs x.1, x.2⟩) .inr)) .inr
theorem zdf (h : Zb K kd F B G H vs os fp) (e : os.all O.isLf = true) : RpL K kd (Lv F B G (O.strs os)) H vs (O.toDs os) := by
 have := zjO h e
 subst this
 exact RoL.rp (O.strs os) (λ st v d hs r => r.less (zcI hs)) (λ a n z => n (zcI (λ _ => rfl) a z)) id (by intro a m; cases m) h
theorem zah (h : Zb K kd F B G H vs os fp) : RpL K kd (λ _ => False) H vs (O.toDs os) := RoL.rp false (λ st v d _ r => r.less λ _ z => z.elim) (λ _ _ z => z) (λ z => Bool.noConfusion z) (λ _ _ z => z) h
theorem zfx (h : RoS K kd F B G H v o fp) : Rp K kd (λ _ => False) H v o.toD := Ro.rp false (λ st v d _ r => r.less λ _ z => z.elim) (λ _ _ z => z) (λ z => Bool.noConfusion z) (λ _ _ z => z) h
theorem zfj (h : RoS K kd F B G H v o []) : Rp K kd (Lv F B G o.str) H v o.toD :=
 Ro.rp o.str (λ st v d hs r => r.less (zcI hs)) (λ a n z => n (zcI (λ _ => rfl) a z)) id (by intro a m; cases m) h
theorem RoS.vw (h : RoS K kd F B G H v o fp) : Vw K kd (Obl F B G o.kl) H v o.toD := by
 cases h with
 | lf h => exact h.vw
 | ls hH r =>
  rename_i a vs' os' fp'
  show Vw K kd (Obl F B G (if os'.all O.isLf = true then some (O.strs os') else none)) H _ (.lst (O.toDs os'))
  by_cases e : os'.all O.isLf = true
  · rw [if_pos e]; exact .lst (.inl (.inl hH)) (zdf r e)
  · rw [if_neg e]; exact .lst (.inl (.inl hH)) (zah r)
 | dc hH l r =>
  rename_i a ks vs' os' fp'
  show Vw K kd (Obl F B G (if os'.all O.isLf = true then some (O.strs os') else none)) H _ (.dct (ks.zip (O.toDs os')))
  by_cases e : os'.all O.isLf = true
  · rw [if_pos e]; exact .dct (.inl (.inl hH)) (zcx (zdf r e) l)
  · rw [if_neg e]; exact .dct (.inl (.inl hH)) (zcx (zah r) l)
 | ob hc hH l r =>
  rename_i a dx C c ns vs' os' fp'
  have ec : C = kd.c c := hc.cl_eq
  subst ec
  show Vw K kd (Obl F B G (if os'.all O.isLf = true then some (O.strs os') else none)) H _ (.ob c ns (O.toDs os'))
  by_cases e : os'.all O.isLf = true
  · rw [if_pos e]; exact .ob hH l (zdf r e)
  · rw [if_neg e]; exact .ob hH l (zah r)
 | tp n hH r =>
  rename_i a vs' os'
  show Vw K kd (Obl F B G (if os'.all O.isLf = true then some (O.strs os') else none)) H _ (.tup (O.toDs os'))
  by_cases e : os'.all O.isLf = true
  · rw [if_pos e]
    have rl := zdf r e
    exact .tup (.tup (λ z => n (zcI (λ _ => rfl) _ z)) (.inl hH) rl) (.inl (.inl hH)) rl
  · rw [if_neg e]; exact .tup (.tup (λ z => z) (.inl hH) (zah r)) (.inl (.inl hH)) (zah r)
theorem wI.vw (R : Rel K kd F B [] ad as σ H) (h : wI K kd F B [] ad σ H v r) {d : D} {lv : Option Bool} (e : r.view as = some (d, lv)) : Vw K kd (Obl F B (Gw [] ad) lv) H v d := by
 cases r with
 | ow o =>
  cases e
  exact (zfj h).vw
 | bo i =>
  have e : (match as[i]? with | some (some o) => some (o.toD, o.kl) | _ => none) = some (d, lv) := e
  cases k : as[i]? with
  | none => rw [k] at e; cases e
  | some s =>
   cases s with
   | none => rw [k] at e; cases e
   | some o =>
    rw [k] at e
    cases e
    obtain ⟨w, hw, ro⟩ := R.sl i _ k
    rw [h.2] at hw
    cases hw
    exact ro.vw
theorem Rel.add {N : List Addr} (R : Rel K kd F B T ad as σ H) (hn : N.Nodup) (hl : ∀ a ∈ N, H a = none) (k : ∀ b u, H b = some u -> H' b = some u) (h1 : ∀ a ∈ N, H' a ≠ none) : Rel K kd F B (N ++ T) ad as σ H' /\ Grow (Gw T ad) H (Gw (N ++ T) ad) H' := by
 have g : Grow (Gw T ad) H (Gw (N ++ T) ad) H' := ⟨λ b u h _ => k b u h, λ b h => by
  rcases h with h | h
  · rcases zzJ.mp h with h | h
    · exact .inr (hl b h)
    · exact .inl (.inl h)
  · exact .inl (.inr h)⟩
 have kn : ∀ a, H a ≠ none -> H' a ≠ none := λ a z => by
  cases e : H a with
  | none => exact absurd e z
  | some u => rw [k a u e]; simp
 refine ⟨⟨R.len, R.out, R.nd, R.inj, ?_, λ i a m z => ?_, λ a z => kn a (R.ftr a z), λ a z => ?_, λ a z => ?_, λ i s e => (R.sl i s e).grow g λ a _ u h => k a u h⟩, g⟩
 · refine List.nodup_append.mpr ⟨hn, R.tnd, λ a m b m' e => ?_⟩
   subst e
   exact (R.gtr a (.inl m')).1 (hl a m)
 · rcases zzJ.mp z with z | z
   · exact (R.gtr a (.inr ⟨i, m⟩)).1 (hl a z)
   · exact R.dis i a m z
 · obtain ⟨b1, b2, b3⟩ := R.btr a z
   refine ⟨kn a b1, b2, λ y => ?_⟩
   rcases y with y | y
   · rcases zzJ.mp y with y | y
     · exact b1 (hl a y)
     · exact b3 (.inl y)
   · exact b3 (.inr y)
 · rcases z with z | z
   · rcases zzJ.mp z with z | z
     · exact ⟨h1 a z, λ f => R.ftr a f (hl a z)⟩
     · exact ⟨kn a (R.gtr a (.inl z)).1, (R.gtr a (.inl z)).2⟩
   · exact ⟨kn a (R.gtr a (.inr z)).1, (R.gtr a (.inr z)).2⟩
theorem Rel.more (R : Rel K kd F B T ad as σ H) (k : ∀ b u, H b = some u -> H' b = some u) : Rel K kd F B T ad as σ H' /\ Grow (Gw T ad) H (Gw T ad) H' :=
 R.add (N := []) List.nodup_nil (λ _ m => nomatch m) k (λ _ m => nomatch m)
theorem Rel.news (R : Rel K kd F B [] ad as σ H) (hn : T'.Nodup) (hl : ∀ a ∈ T', H a = none) (k : ∀ b u, H b = some u -> H' b = some u) (h1 : ∀ a ∈ T', H' a ≠ none) : Rel K kd F B T' ad as σ H' /\ Grow (Gw [] ad) H (Gw T' ad) H' := by
 have := R.add hn hl k h1
 rw [List.append_nil] at this
 exact this
end
inductive R0 where
 | im (d : D) | fl (ds : List D) | fd (kvs : List (Key × D))
def RQ (K : zC) (kd : KD) (O : Addr -> Prop) (H : Hp) (Q : VK) : R0 -> Prop
 | .im d => ∀ v H', (∀ b o, H b = some o -> H' b = some o) -> Rp K kd O H' v d -> Q v H'
 | .fl ds => ∀ l vs H', H l = none -> (∀ b o, H b = some o -> H' b = some o) -> H' l = some (.lst vs) -> RpL K kd (Un2 O (· = l)) H' vs ds -> Q (.ref l) H'
 | .fd ds => ∀ l vs H', H l = none -> (∀ b o, H b = some o -> H' b = some o) -> H' l = some (.dK vs) -> RpM K kd (Un2 O (· = l)) H' vs ds -> Q (.ref l) H'
def wrap (lv : Option Bool) : R0 -> Option RV
 | .im d => if (zU d || lv.isSome) = true then some (.ow (lfs (lv.getD false) d)) else none
 | .fl ds => if (ds.all zU || lv.isSome) = true then some (.ow (.nd .ls (ds.map (lfs (lv.getD false))))) else none
 | .fd kvs => if ((kvs.map (·.2)).all zU || lv.isSome) = true then some (.ow (.nd (.dc (kvs.map (·.1))) ((kvs.map (·.2)).map (lfs (lv.getD false))))) else none
theorem bS_ {α β : Type} {o : Option α} {f : α -> Option β} {b : β} (h : o.bind f = some b) : ∃ a, o = some a /\ f a = some b := by
 cases o with
 | none => cases h
 | some a => exact ⟨a, rfl, h⟩
theorem ite_some' {α : Type} {c : Prop} [Decidable c] {a : Option α} {b : α} (h : (if c then a else none) = some b) : c /\ a = some b := by
 by_cases hc : c
 · rw [if_pos hc] at h; exact ⟨hc, h⟩
 · rw [if_neg hc] at h; cases h
theorem zM {α : Type} {c : Prop} [Decidable c] {a b : α} (h : (if c then some a else none) = some b) : c /\ a = b := by
 by_cases hc : c
 · rw [if_pos hc] at h; cases h; exact ⟨hc, rfl⟩
 · rw [if_neg hc] at h; cases h
section
variable {K : zC} {kd : KD} {F B : Addr -> Prop} {G : Addr -> Prop} {ad : Ad} {as : AS} {σ : St} {H H' : Hp} {v : V} {r : R0} {rv : RV} {Q : VK} {lv : Option Bool}
theorem znT {Ob : Addr -> Prop} {d : D} (h : zU d = true \/ lv.isSome = true) (hO : ∀ st, lv = some st -> ∀ a, Lv F B G st a -> Ob a) (rp : Rp K kd Ob H v d) : Lf K kd F B G H (zU d || lv.getD false) v d := by
 cases e : zU d with
 | true => exact rp.flat e
 | false =>
  rw [e] at h
  cases lv with
  | none => rcases h with h | h <;> cases h
  | some st => exact rp.less (hO st rfl)
theorem zli {Ob : Addr -> Prop} {N : Addr -> Prop} (hO : ∀ st, lv = some st -> ∀ a, Lv F B G st a -> Ob a) {vs : List V} {ds : List D} (e : (ds.all zU || lv.isSome) = true) (h : RpL K kd Ob H vs ds) : RoL (Lf K kd F B G H) N H vs (ds.map (lfs (lv.getD false))) [] :=
 RpL.ind (P := λ vs ds => (ds.all zU || lv.isSome) = true -> RoL (Lf K kd F B G H) N H vs (ds.map (lfs (lv.getD false))) []) (λ _ => .nil) (λ {v d vs ds} h _ ih e => by
  rw [List.all_cons] at e
  have e1 : zU d = true \/ lv.isSome = true := by
   cases h1 : lv.isSome <;> cases h2 : zU d <;> simp [h1, h2] at e ⊢
  have e2 : (ds.all zU || lv.isSome) = true := by
   cases h1 : lv.isSome with
   | true => simp
   | false =>
    rw [h1, Bool.or_false, Bool.and_eq_true] at e
    rw [Bool.or_false]; exact e.2
  exact RoL.cons (.lf (znT e1 hO h)) (ih e2)) h e
theorem zjr {O : Addr -> Prop} {vs : List (Key × V)} {ds : List (Key × D)} (h : RpM K kd O H vs ds) : vs = (ds.map (·.1)).zip (vs.map (·.2)) /\ RpL K kd O H (vs.map (·.2)) (ds.map (·.2)) :=
 RpM.ind (P := λ vs ds => vs = (ds.map (·.1)).zip (vs.map (·.2)) /\ RpL K kd O H (vs.map (·.2)) (ds.map (·.2))) ⟨rfl, .nil⟩ (λ h _ ih => by
  obtain ⟨h1, h2⟩ := ih
  refine ⟨?_, .cons h h2⟩
  conv => lhs; rw [h1]
  rfl) h
theorem Z1 (R : Rel K kd F B [] ad as σ H) (e : wrap lv r = some rv) (q : ∀ v T' H', Rel K kd F B T' ad as σ H' -> wI K kd F B T' ad σ H' v rv -> Grow (Gw [] ad) H (Gw T' ad) H' -> Q v H') : RQ K kd (Obl F B (Gw [] ad) lv) H Q r := by
 have hO : ∀ (l : List Addr) st, lv = some st -> ∀ a, Lv F B (Gw l ad) st a -> Un2 (Obl F B (Gw [] ad) lv) (· ∈ l) a := by
  intro l st e a z
  subst e
  rcases z with z | z | z
  · exact .inl (.inl z)
  · exact .inr z
  · exact .inl (.inr (.inr z))
 cases r with
 | im d =>
  obtain ⟨c, rfl⟩ := zM e
  intro v H' k rp
  obtain ⟨R', g⟩ := R.more k
  refine q v [] H' R' (.lf (znT ((Bool.or_eq_true _ _).mp c) (λ st e a z => ?_) rp)) g
  exact (hO [] st e a z).elim id λ m => nomatch m
 | fl ds =>
  obtain ⟨c, rfl⟩ := zM e
  intro l vs H' hl k hl' rp
  obtain ⟨R', g⟩ := R.news (T' := [l]) (by simp) (λ a m => by rw [zzO.mp m]; exact hl) k (λ a m => by rw [zzO.mp m, hl']; simp)
  exact q _ [l] H' R' (.ls hl' (zli (λ st e a z => (hO [l] st e a z).elim .inl λ m => .inr (zzO.mp m)) c rp)) g
 | fd ds =>
  obtain ⟨c, rfl⟩ := zM e
  intro l vs H' hl k hl' rp
  obtain ⟨R', g⟩ := R.news (T' := [l]) (by simp) (λ a m => by rw [zzO.mp m]; exact hl) k (λ a m => by rw [zzO.mp m, hl']; simp)
  obtain ⟨e1, r1⟩ := zjr rp
  refine q _ [l] H' R' (.dc (vs := vs.map (·.2)) (by rw [hl', <- e1]) (by rw [zD, zD, rp.length]) (zli (λ st e a z => (hO [l] st e a z).elim .inl λ m => .inr (zzO.mp m)) c r1)) g
end
abbrev EF := AS -> Option (RV × AS)
def al (K : zC) (kd : KD) (f : EF) : TE := λ σ H Q => ∃ F B ad as r as', Rel K kd F B [] ad as σ H /\ f as = some (r, as') /\
 ∀ v T' ad' H', Rel K kd F B T' ad' as' σ H' -> wI K kd F B T' ad' σ H' v r -> Grow (Gw [] ad) H (Gw T' ad') H' -> Q v H'
@[irreducible] def AE (X : Cx) (kd : KD) (e : Expr) (f : EF) : Prop := PE X e (al X.K kd f)
theorem yK {X : Cx} {e : Expr} {t t' : TE} (h : PE X e t) (k : ∀ σ H Q, t' σ H Q -> t σ H Q) : PE X e t' := λ pins s σ H Q I q => h pins s σ H Q I (k σ H Q q)
section
variable {K : zC} {kd : KD} {F B : Addr -> Prop} {ad : Ad} {as as1 : AS} {σ : St} {H : Hp} {r : RV} {f : EF} {P : VK}
theorem Yi (R : Rel K kd F B [] ad as σ H) (e : f as = some (r, as1)) (k : ∀ v ad1 H1, Rel K kd F B [] ad1 as1 σ H1 -> wI K kd F B [] ad1 σ H1 v r.frz -> Grow (Gw [] ad) H (Gw [] ad1) H1 -> P v H1) : al K kd f σ H P :=
 ⟨F, B, ad, as, r, as1, R, e, λ v T' ad' H' R' rv g => k v ad' H' R'.drop (wI.drop R' rv) (g.trans (Grow.less Gw.drop))⟩
end
def OpD (X : Cx) (kd : KD) (f : Value -> Value -> Sem Value) (g : D -> D -> Option R0) : Prop :=
 OpR X f (λ x y H Q => ∃ O d e r, (∀ a, O a -> H a ≠ none) /\ Vw X.K kd O H x d /\ Vw X.K kd O H y e /\ g d e = some r /\ RQ X.K kd O H Q r)
def UnD (X : Cx) (kd : KD) (f : Value -> Sem Value) (g : D -> Option R0) : Prop :=
 UnR X f (λ x H Q => ∃ O d r, (∀ a, O a -> H a ≠ none) /\ Vw X.K kd O H x d /\ g d = some r /\ RQ X.K kd O H Q r)
inductive VwL (K : zC) (kd : KD) (O : Addr -> Prop) (H : Hp) : List V -> List D -> Prop
 | nil : VwL K kd O H [] []
 | cons {v : V} {d : D} {vs : List V} {ds : List D} : Vw K kd O H v d -> VwL K kd O H vs ds -> VwL K kd O H (v :: vs) (d :: ds)
def CallD (X : Cx) (kd : KD) (f : Value) (g : List D -> Option R0) : Prop :=
 VJ X f (λ xs H Q => ∃ O ds r, (∀ a, O a -> H a ≠ none) /\ VwL X.K kd O H xs ds /\ g ds = some r /\ RQ X.K kd O H Q r)
def IxD (X : Cx) (kd : KD) (g : D -> D -> Option R0) : Prop :=
 IxR X (λ x y H Q => ∃ O d e r, (∀ a, O a -> H a ≠ none) /\ Vw X.K kd O H x d /\ Vw X.K kd O H y e /\ g d e = some r /\ RQ X.K kd O H Q r)
def meet : Option Bool -> Option Bool -> Option Bool
 | some a, some b => some (a && b)
 | _, _ => none
theorem Obl.meet1 {F B G : Addr -> Prop} {a b : Option Bool} : ∀ x, Obl F B G (meet a b) x -> Obl F B G a x := λ x h => by
 cases a with
 | none => cases b <;> exact h.elim
 | some p =>
  cases b with
  | none => exact h.elim
  | some q => exact zcI (λ z => ((Bool.and_eq_true _ _).mp z).1) x h
theorem Obl.meet2 {F B G : Addr -> Prop} {a b : Option Bool} : ∀ x, Obl F B G (meet a b) x -> Obl F B G b x := λ x h => by
 cases a with
 | none => cases b <;> exact h.elim
 | some p =>
  cases b with
  | none => exact h.elim
  | some q => exact zcI (λ z => ((Bool.and_eq_true _ _).mp z).2) x h
theorem Vw.less {K : zC} {kd : KD} {O O' : Addr -> Prop} {H : Hp} {v : V} {d : D} (g : ∀ a, O' a -> O a) (h : Vw K kd O H v d) : Vw K kd O' H v d := by
 cases h with
 | non => exact .non
 | bl b => exact .bl b
 | int i => exact .int i
 | str x => exact .str x
 | tup r s l => exact .tup (r.less g) s (l.less g)
 | lst h l => exact .lst h (l.less g)
 | dct h l => exact .dct h (l.less g)
 | cl c => exact .cl c
 | ob h k l => exact .ob h k (l.less g)
def f2 (fa fb : EF) (g : D -> D -> Option R0) : EF := λ as => (fa as).bind λ p => (fb p.2).bind λ q => (p.1.frz.view q.2).bind λ x => (q.1.frz.view q.2).bind λ y => (g x.1 y.1).bind λ r => (wrap (meet x.2 y.2) r).bind λ z => some (z, q.2)
theorem ziy {fa fb : EF} {g : D -> D -> Option R0} {as as' : AS} {rv : RV} (h : f2 fa fb g as = some (rv, as')) :
 ∃ p as1 q x y lx ly r, fa as = some (p, as1) /\ fb as1 = some (q, as') /\ p.frz.view as' = some (x, lx) /\ q.frz.view as' = some (y, ly) /\ g x y = some r /\ wrap (meet lx ly) r = some rv := by
 unfold f2 at h
 obtain ⟨⟨p, as1⟩, h1, h⟩ := bS_ h
 obtain ⟨⟨q, as2⟩, h2, h⟩ := bS_ h
 obtain ⟨⟨x, lx⟩, h3, h⟩ := bS_ h
 obtain ⟨⟨y, ly⟩, h4, h⟩ := bS_ h
 obtain ⟨r, h5, h⟩ := bS_ h
 obtain ⟨z, h6, h⟩ := bS_ h
 cases h
 exact ⟨p, as1, q, x, y, lx, ly, r, h1, h2, h3, h4, h5, h6⟩
section
variable {X : Cx} {kd : KD} {a b c : Expr} {fa fb fc : EF} {pos : Pos}
theorem al2 {g : D -> D -> Option R0} {R2' : R2} (hr : ∀ x y H Q, (∃ O d e r, (∀ a, O a -> H a ≠ none) /\ Vw X.K kd O H x d /\ Vw X.K kd O H y e /\ g d e = some r /\ RQ X.K kd O H Q r) -> R2' x y H Q)
 {σ : St} {H : Hp} {Q : VK} (h : al X.K kd (f2 fa fb g) σ H Q) : tOp R2' (al X.K kd fa) (al X.K kd fb) σ H Q := by
 obtain ⟨F, B, ad, as, r, as', R, e, q⟩ := h
 obtain ⟨p, as1, z, x, y, lx, ly, r0, h1, h2, h3, h4, h5, h6⟩ := ziy e
 refine Yi R h1 λ v ad1 H1 R1 rv1 g1 => Yi R1 h2 λ u ad2 H2 R2 rv2 g2 => hr _ _ _ _ ?_
 exact ⟨_, x, y, r0, R2.tr _, (wI.vw R2 (rv1.grow g2) h3).less Obl.meet1, (wI.vw R2 rv2 h4).less Obl.meet2, h5, Z1 R2 h6 λ w T' H' R' rv' g' => q w T' ad2 H' R' rv' ((g1.trans g2).trans g')⟩
theorem zp {op : Operator} {g : D -> D -> Option R0} (ho : OpD X kd (binaryOp op) g) (ha : AE X kd a fa) (hb' : AE X kd b fb) : AE X kd (.BinOp a op b pos) (f2 fa fb g) := by with_unfolding_all exact (yK (zqI ho ha hb') λ σ H Q h => al2 (λ _ _ _ _ z => z) h)
theorem zbj {op : CmpOp} {g : D -> D -> Option R0} (ho : OpD X kd (compareOp op) g) (ha : AE X kd a fa) (hb' : AE X kd b fb) (hm : behindInMarks op b = false) : AE X kd (.Compare a [op] [b] pos) (f2 fa fb g) := by with_unfolding_all exact (yK (zmM ho ha hb' hm) λ σ H Q h => al2 (λ _ _ _ _ z => z) h)
theorem zqU {g : D -> D -> Option R0} (ho : IxD X kd g) (ha : AE X kd a fa) (hb' : AE X kd b fb) (hm : zaL b) : AE X kd (.Subscript a b pos) (f2 fa fb g) := by with_unfolding_all exact (yK (zjQ ho ha hb' hm) λ σ H Q h => al2 (λ _ _ _ _ z => z) h)
def fC (d : D) : EF := λ as => some (.ow (.lf true d), as)
def fV (i : Nat) : EF := λ as => match as[i]? with
 | some (some (.lf st d)) => some (.ow (.lf st d), as)
 | some (some (.nd _ _)) => some (.bo i, as)
 | _ => none
theorem zff {v : V} {d : D} (h : PE X a (tC v)) (hr : ∀ O H, Rp X.K kd O H v d) : AE X kd a (fC d) := by with_unfolding_all exact (yK h λ σ H Q h => by
 obtain ⟨F, B, ad, as, r, as', R, e, q⟩ := h
 cases e
 exact q v [] ad H R (.lf (hr _ _)) Grow.refl)
theorem zpE {i : Nat} (h : PE X a (zfa i)) : AE X kd a (fV i) := by with_unfolding_all exact (yK h λ σ H Q h => by
 obtain ⟨F, B, ad, as, r, as', R, e, q⟩ := h
 unfold fV at e
 cases k : as[i]? with
 | none => rw [k] at e; cases e
 | some s =>
  rw [k] at e
  cases s with
  | none => cases e
  | some o =>
   obtain ⟨v, h1, h2⟩ := R.sl i _ k
   cases o with
   | lf st d =>
    cases e
    have e0 : ad i = [] := by
     generalize hfp : ad i = fp at h2
     cases h2
     rfl
    rw [e0] at h2
    exact ⟨v, h1, q v [] ad H R h2 Grow.refl⟩
   | nd kk os =>
    cases e
    exact ⟨_, h1, q _ [] ad H R ⟨rfl, h1⟩ Grow.refl⟩)
end
def YF (ad : Ad) (i : Nat) (x : List Addr) : Ad := λ j => if j = i then x else ad j
section
variable {K : zC} {kd : KD} {F B : Addr -> Prop} {T T1 T2 : List Addr} {ad ad1 : Ad} {as as1 : AS} {σ : St} {H H1 : Hp} {v : V} {r : RV} {o : O} {i : Nat}
theorem yj {x : List Addr} : YF ad i x i = x := if_pos rfl
theorem yq {j : Nat} {x : List Addr} (h : j ≠ i) : YF ad i x j = ad j := if_neg h
theorem xg : ∀ a, Gw T (YF ad i []) a -> Gw T ad a := λ a h => by
 rcases h with h | ⟨j, h⟩
 · exact .inl h
 · by_cases e : j = i
   · subst e; rw [yj] at h; cases h
   · rw [yq e] at h; exact .inr ⟨j, h⟩
theorem XM : ∀ a, Gw [] (YF ad i T) a -> Gw T ad a := λ a h => by
 rcases h with h | ⟨j, h⟩
 · cases h
 · by_cases e : j = i
   · subst e; rw [yj] at h; exact .inl h
   · rw [yq e] at h; exact .inr ⟨j, h⟩
theorem zhU : ∀ st a, Lv F (λ a => B a \/ a ∈ T) (Gw [] ad) st a -> Lv F B (Gw T ad) st a := λ st a z => by
 rcases z with (z | z | z) | z
 · exact .inl (.inl z)
 · exact .inl (.inr z)
 · exact .inr (.inl z)
 · exact .inr (Gw.drop a z)
theorem zbv : ∀ st a, Lv F B (Gw (T1 ++ T2) ad) st a -> Lv F (λ a => B a \/ a ∈ T1) (Gw T2 ad) st a := λ st a z => by
 rcases z with (z | z) | z | z
 · exact .inl (.inl z)
 · exact .inl (.inr (.inl z))
 · rcases zzJ.mp z with z | z
   · exact .inl (.inr (.inr z))
   · exact .inr (.inl z)
 · exact .inr (.inr z)
theorem Rel.hide (R : Rel K kd F B T ad as σ H) : Rel K kd F (λ a => B a \/ a ∈ T) [] ad as σ H where
 len := R.len
 out := R.out
 nd := R.nd
 inj := R.inj
 tnd := List.nodup_nil
 dis := λ _ _ _ z => nomatch z
 ftr := R.ftr
 btr := λ a h => by
  rcases h with h | h
  · obtain ⟨h1, h2, h3⟩ := R.btr a h
    exact ⟨h1, h2, λ z => h3 (Gw.drop a z)⟩
  · exact ⟨(R.gtr a (.inl h)).1, (R.gtr a (.inl h)).2, λ z => z.elim (λ m => nomatch m) λ ⟨j, y⟩ => R.dis j a y h⟩
 gtr := λ a h => R.gtr a (Gw.drop a h)
 sl := λ i s e => (R.sl i s e).lv zhU
theorem Rel.unhide (hn : T1.Nodup) (hb : ∀ a ∈ T1, ¬ B a) (R : Rel K kd F (λ a => B a \/ a ∈ T1) T2 ad as σ H) : Rel K kd F B (T1 ++ T2) ad as σ H where
 len := R.len
 out := R.out
 nd := R.nd
 inj := R.inj
 tnd := List.nodup_append.mpr ⟨hn, R.tnd, λ a m b m' e => by subst e; exact (R.btr a (.inr m)).2.2 (.inl m')⟩
 dis := λ i a m z => by
  rcases zzJ.mp z with z | z
  · exact (R.btr a (.inr z)).2.2 (.inr ⟨i, m⟩)
  · exact R.dis i a m z
 ftr := R.ftr
 btr := λ a h => by
  obtain ⟨h1, h2, h3⟩ := R.btr a (.inl h)
  refine ⟨h1, h2, λ z => ?_⟩
  rcases z with z | z
  · rcases zzJ.mp z with z | z
    · exact hb a z h
    · exact h3 (.inl z)
  · exact h3 (.inr z)
 gtr := λ a h => by
  rcases h with h | h
  · rcases zzJ.mp h with h | h
    · exact ⟨(R.btr a (.inr h)).1, (R.btr a (.inr h)).2.1⟩
    · exact R.gtr a (.inl h)
  · exact R.gtr a (.inr h)
 sl := λ i s e => (R.sl i s e).lv zbv
theorem Rel.frz (R : Rel K kd F B T ad as σ H) (h : as[i]? = some (some o)) :
 Rel K kd F B T (YF ad i []) (as.set i (some o.frz)) σ H /\ ∃ v, σ[i]? = some (some v) /\ Rp K kd (Lv F B (Gw T (YF ad i [])) o.str) H v o.toD := by
 obtain ⟨v, hv, ro⟩ := R.sl i _ h
 have rp : Rp K kd (Lv F B (Gw T (YF ad i [])) o.str) H v o.toD :=
  Ro.rp o.str (λ st v d hs r => r.less λ a z => z.elim (λ y => .inl (y.elim (λ x => .inl ⟨hs x.1, x.2⟩) .inr)) λ y => .inr (xg a y))
   (λ a n z => n (z.elim (λ y => .inl (y.elim (λ x => .inl ⟨rfl, x.2⟩) .inr)) λ y => .inr (xg a y))) id
   (λ a m z => by
    rcases z with (z | z) | z | ⟨j, z⟩
    · exact (R.gtr a (.inr ⟨i, m⟩)).2 z.2
    · exact (R.btr a z).2.2 (.inr ⟨i, m⟩)
    · exact R.dis i a m z
    · by_cases e : j = i
      · subst e; rw [yj] at z; cases z
      · rw [yq e] at z; exact e (R.inj j i a z m)) ro
 have hi : i < as.length := (zzD.mp h).1
 refine ⟨⟨by rw [zzR]; exact R.len, λ j hj => ?_, λ j => ?_, λ j k a h1 h2 => ?_, R.tnd, λ j a h1 => ?_, R.ftr, λ a h1 => ?_, λ a h1 => R.gtr a (xg a h1), λ j s e => ?_⟩, v, hv, rp⟩
 · rw [zzR] at hj
   rw [yq (by omega)]; exact R.out j hj
 · by_cases e : j = i
   · subst e; rw [yj]; exact List.nodup_nil
   · rw [yq e]; exact R.nd j
 · by_cases e : j = i
   · subst e; rw [yj] at h1; cases h1
   · by_cases e' : k = i
     · subst e'; rw [yj] at h2; cases h2
     · rw [yq e] at h1; rw [yq e'] at h2; exact R.inj j k a h1 h2
 · by_cases e : j = i
   · subst e; rw [yj] at h1; cases h1
   · rw [yq e] at h1; exact R.dis j a h1
 · obtain ⟨b1, b2, b3⟩ := R.btr a h1
   exact ⟨b1, b2, λ z => b3 (xg a z)⟩
 · by_cases q : j = i
   · subst q
     rw [List.getElem?_set_self hi] at e
     cases e
     rw [yj]
     exact ⟨v, hv, .lf rp⟩
   · rw [zzV (Ne.symm q)] at e
     rw [yq q]
     exact (R.sl j s e).less xg
theorem Rel.put (R : Rel K kd F B T ad as σ H) (hi : i < as.length) (h : RoS K kd F B (Gw T ad) H v o T) : Rel K kd F B [] (YF ad i T) (as.set i (some o)) (σ.set i (some v)) H := by
 have hi' : i < σ.length := by rw [<- R.len]; exact hi
 refine ⟨by rw [zzR, zzR]; exact R.len, λ j hj => ?_, λ j => ?_, λ j k a h1 h2 => ?_, List.nodup_nil, (λ _ _ _ z => nomatch z), R.ftr, λ a h1 => ?_, λ a h1 => R.gtr a (XM a h1), λ j s e => ?_⟩
 · rw [zzR] at hj
   rw [yq (by omega)]; exact R.out j hj
 · by_cases e : j = i
   · subst e; rw [yj]; exact R.tnd
   · rw [yq e]; exact R.nd j
 · by_cases e : j = i
   · subst e
     rw [yj] at h1
     by_cases e' : k = j
     · exact e'.symm
     · rw [yq e'] at h2
       exact (R.dis k a h2 h1).elim
   · rw [yq e] at h1
     by_cases e' : k = i
     · subst e'
       rw [yj] at h2
       exact (R.dis j a h1 h2).elim
     · rw [yq e'] at h2
       exact R.inj j k a h1 h2
 · obtain ⟨b1, b2, b3⟩ := R.btr a h1
   exact ⟨b1, b2, λ z => b3 (XM a z)⟩
 · by_cases q : j = i
   · subst q
     rw [List.getElem?_set_self hi] at e
     cases e
     rw [yj, List.getElem?_set_self hi']
     exact ⟨v, rfl, h.less XM⟩
   · rw [zzV (Ne.symm q)] at e
     rw [yq q, zzV (Ne.symm q)]
     exact (R.sl j s e).less XM
def toO (as : AS) : RV -> Option (O × AS)
 | .ow o => some (o, as)
 | .bo i => match as[i]? with
  | some (some o) => some (o.frz, as.set i (some o.frz))
  | _ => none
theorem zdr {as' : AS} (R : Rel K kd F B T ad as σ H) (h : wI K kd F B T ad σ H v r) (e : toO as r = some (o, as')) : ∃ ad', Rel K kd F B T ad' as' σ H /\ RoS K kd F B (Gw T ad') H v o T /\ ∀ a, Gw T ad' a -> Gw T ad a := by
 cases r with
 | ow o' => cases e; exact ⟨ad, R, h, λ _ z => z⟩
 | bo i =>
  have e : (match as[i]? with | some (some o) => some (o.frz, as.set i (some o.frz)) | _ => none) = some (o, as') := e
  cases k : as[i]? with
  | none => rw [k] at e; cases e
  | some s =>
   cases s with
   | none => rw [k] at e; cases e
   | some o1 =>
    rw [k] at e
    cases e
    obtain ⟨hT, hs⟩ := h
    subst hT
    obtain ⟨R', w, hw, rp⟩ := R.frz k
    rw [hs] at hw
    cases hw
    exact ⟨_, R', .lf rp, xg⟩
end
abbrev TF := AS -> Option (Bool × AS)
def alT (K : zC) (kd : KD) (f : TF) : TT := λ σ H Q => ∃ F B ad as b as', Rel K kd F B [] ad as σ H /\ f as = some (b, as') /\
 ∀ ad' H', Rel K kd F B [] ad' as' σ H' -> Grow (Gw [] ad) H (Gw [] ad') H' -> Q b H'
@[irreducible] def AT (X : Cx) (kd : KD) (e : Expr) (f : TF) : Prop := PT X e (alT X.K kd f)
@[irreducible] def AW (X : Cx) (kd : KD) (e : Expr) (f : TF) : Prop := PW X e (alT X.K kd f)
def truth : D -> Option Bool
 | .non => some false
 | .bl b => some b
 | .int i => some (i != 0)
 | .str x => if x.length <= sizeLine then some ((x.length : Int) != 0) else none
 | .tup ds => some (!ds.isEmpty)
 | .lst ds => some (!ds.isEmpty)
 | _ => none
def fT (f : EF) : TF := λ as => (f as).bind λ p => (p.1.frz.view p.2).bind λ x => (truth x.1).bind λ b => some (b, p.2)
def zdY (f g : TF) : TF := λ as => (f as).bind λ p => if p.1 = true then some (true, p.2) else g p.2
def zgE (f : TF) : TF := λ as => (f as).bind λ p => some (!p.1, p.2)
def asI : D -> Option Int
 | .int i => some i
 | _ => none
def asS : D -> Option Str
 | .str i => some i
 | _ => none
def asL : D -> Option (List D)
 | .lst i => some i
 | _ => none
def asT : D -> Option (List D)
 | .tup i => some i
 | _ => none
theorem zdn {d : D} {i : List D} (e : asL d = some i) : d = .lst i := by
 cases d with
 | lst j => cases e; rfl
 | _ => cases e
theorem zkZ {d : D} {i : List D} (e : asT d = some i) : d = .tup i := by
 cases d with
 | tup j => cases e; rfl
 | _ => cases e
theorem zfB {d : D} {c : Int} (h : asI d = some c) : d = .int c := by
 cases d with
 | int i => cases h; rfl
 | _ => cases h
def asB : D -> Option Bool
 | .bl i => some i
 | _ => none
theorem zpW {d : D} {c : Bool} (h : asB d = some c) : d = .bl c := by
 cases d with
 | bl i => cases h; rfl
 | _ => cases h
def rvD : RV -> Option D
 | .ow (.lf _ d) => some d
 | _ => none
theorem zkH {r : RV} {d : D} (h : rvD r = some d) : ∃ st, r = .ow (.lf st d) := by
 cases r with
 | bo i => cases h
 | ow o =>
  cases o with
  | nd k os => cases h
  | lf st d => cases h; exact ⟨st, rfl⟩
def rvB (r : RV) : Option Bool := (rvD r).bind asB
theorem zkA {r : RV} {c : Bool} (h : rvB r = some c) : ∃ st, r = .ow (.lf st (.bl c)) := by
 obtain ⟨d, h1, h⟩ := bS_ h
 cases zpW h
 exact zkH h1
def rvI (r : RV) : Option Int := (rvD r).bind asI
theorem zqd {r : RV} {c : Int} (h : rvI r = some c) : ∃ st, r = .ow (.lf st (.int c)) := by
 obtain ⟨d, h1, h⟩ := bS_ h
 cases zfB h
 exact zkH h1
def zmW {α : Type} : List α -> Option (α × α)
 | [a, b] => some (a, b)
 | _ => none
theorem zeF {α : Type} {os : List α} {p : α × α} (h : zmW os = some p) : os = [p.1, p.2] := by
 cases os with
 | nil => cases h
 | cons x r =>
  cases r with
  | nil => cases h
  | cons y r =>
   cases r with
   | nil => cases h; rfl
   | cons _ _ => cases h
def zmi (f g : EF) : EF := λ as => (f as).bind λ p => (rvB p.1).bind λ c => if c = true then g p.2 else some (.ow (.lf true (.bl false)), p.2)
def znF (f : EF) : EF := λ as => (f as).bind λ p => (rvB p.1).bind λ c => some (.ow (.lf true (.bl (!c))), p.2)
def f1 (fa : EF) (g : D -> Option R0) : EF := λ as => (fa as).bind λ p => (p.1.frz.view p.2).bind λ x => (g x.1).bind λ r => (wrap x.2 r).bind λ z => some (z, p.2)
section
variable {X : Cx} {kd : KD} {a b c : Expr} {fa fb : EF} {ta tb : TF} {pos : Pos} {es rest : List Expr}
theorem zhx {e : Expr} {t t' : TT} (h : PT X e t) (k : ∀ σ H Q, t' σ H Q -> t σ H Q) : PT X e t' := λ pins s σ H Q I q => h pins s σ H Q I (k σ H Q q)
theorem zpt {e : Expr} {t t' : TT} (h : PW X e t) (k : ∀ σ H Q, t' σ H Q -> t σ H Q) : PW X e t' := λ w pins s σ H Q I q => h w pins s σ H Q I (k σ H Q q)
theorem zoH {O : Addr -> Prop} {H : Hp} {v : V} {d : D} {k : Bool} (h : Vw X.K kd O H v d) (e : truth d = some k) : zpv X.K v H k := by
 cases h with
 | non => cases e; rfl
 | bl b => cases e; rfl
 | int i => cases e; rfl
 | str x =>
  have e : (if x.length <= sizeLine then some ((x.length : Int) != 0) else none) = some k := e
  by_cases hl : x.length <= sizeLine
  · rw [if_pos hl] at e; cases e; exact ⟨hl, rfl⟩
  · rw [if_neg hl] at e; cases e
 | tup r hs hr =>
  cases e
  refine .inr (.inl ⟨_, hs, ?_⟩)
  cases hr <;> rfl
 | lst hs hr =>
  cases e
  refine .inl ⟨_, hs.sq, ?_⟩
  cases hr <;> rfl
 | dct => cases e
 | cl => cases e
 | ob => cases e
theorem zpN (ha : AE X kd a fa) (he : ∀ whole, isTrue a X.env whole = (do let v <- whole; standAt a.pos; holding [v] (truthy v))) : AT X kd a (fT fa) := by with_unfolding_all exact (zhx (zjY ha he) λ σ H Q h => by
 obtain ⟨F, B, ad, as, bb, as', R, e, q⟩ := h
 obtain ⟨⟨p, as1⟩, h1, e⟩ := bS_ (show (fa as).bind _ = _ from e)
 obtain ⟨⟨d, lv⟩, h2, e⟩ := bS_ e
 obtain ⟨k, h3, e⟩ := bS_ e
 cases e
 exact Yi R h1 λ v ad1 H1 R1 rv1 g1 => ⟨_, zoH (wI.vw R1 rv1 h2) h3, q ad1 H1 R1 g1⟩)
theorem yV {op : CmpOp} {g : D -> D -> Option R0} (ho : OpD X kd (compareOp op) g) (hg : ∀ x y r, g x y = some r -> ∃ k, r = .im (.bl k)) (ha : AE X kd a fa) (hb : AE X kd b fb) (hm : behindInMarks op b = false) :
 AT X kd (.Compare a [op] [b] pos) (fT (f2 fa fb g)) := by with_unfolding_all exact (zhx (znf ho ha hb hm) λ σ H Q h => by
 obtain ⟨F, B, ad, as, bb, as', R, e, q⟩ := h
 obtain ⟨⟨p, as1⟩, h1, e⟩ := bS_ (show (f2 fa fb g as).bind _ = _ from e)
 obtain ⟨⟨d, lv⟩, h2, e⟩ := bS_ e
 obtain ⟨k, h3, e⟩ := bS_ e
 cases e
 obtain ⟨_, _, _, x, y, _, _, r0, _, _, _, _, hp, hw⟩ := ziy h1
 obtain ⟨k', rfl⟩ := hg _ _ _ hp
 cases hw
 cases h2
 cases h3
 refine al2 (λ _ _ _ _ z => z) ⟨F, B, ad, as, _, _, R, h1, λ v T' ad' H' R' rv g' => ?_⟩
 generalize hT : T' = T2 at rv R' g'
 cases rv with
 | lf rp =>
  cases rp
  exact ⟨_, rfl, q ad' H' R' g'⟩)
theorem zpx (ha : AT X kd a ta) : AT X kd (.UnaryOp .Not a pos) (zgE ta) := by with_unfolding_all exact (zhx (zpJ ha) λ σ H Q h => by
 obtain ⟨F, B, ad, as, bb, as', R, e, q⟩ := h
 obtain ⟨⟨p, as1⟩, h1, e⟩ := bS_ (show (ta as).bind _ = _ from e)
 cases e
 exact ⟨F, B, ad, as, p, _, R, h1, λ ad' H' R' g => q ad' H' R' g⟩)
theorem zbl (ha : AT X kd a ta) : AW X kd (.BoolOp .Or [a] pos) ta := by with_unfolding_all exact (zpP ha)
theorem zkF (ha : AT X kd a ta) (hb : AW X kd (.BoolOp .Or (b :: rest) pos) tb) : AW X kd (.BoolOp .Or (a :: b :: rest) pos) (zdY ta tb) := by with_unfolding_all exact (zpt (zqv ha hb) λ σ H Q h => by
 obtain ⟨F, B, ad, as, bb, as', R, e, q⟩ := h
 obtain ⟨⟨p, as1⟩, h1, e⟩ := bS_ (show (ta as).bind _ = _ from e)
 refine ⟨F, B, ad, as, p, as1, R, h1, λ ad' H' R' g => ?_⟩
 cases p with
 | false => exact ⟨F, B, ad', as1, bb, as', R', e, λ ad2 H2 R2 g2 => q ad2 H2 R2 (g.trans g2)⟩
 | true => cases e; exact q ad' H' R' g)
theorem AW.at_ {e : Expr} (h : AW X kd e ta) : AT X kd e ta := by with_unfolding_all exact (PW.pt h)
theorem znL {K : zC} {F B : Addr -> Prop} {T : List Addr} {ad : Ad} {σ : St} {H : Hp} {v : V} {st c : Bool} (h : wI K kd F B T ad σ H v (.ow (.lf st (.bl c)))) : T = [] /\ v = .bl c := by
 have h : RoS K kd F B (Gw T ad) H v (.lf st (.bl c)) T := h
 generalize hT : Gw T ad = G at h
 cases h with
 | lf rp => cases rp; exact ⟨rfl, rfl⟩
theorem zpl {op} (ha : AE X kd a fa) : AE X kd (.BoolOp op [a] pos) fa := by with_unfolding_all exact (zqa ha)
theorem zpG (ha : AE X kd a fa) (hb : AE X kd (.BoolOp .And (b :: rest) pos) fb) : AE X kd (.BoolOp .And (a :: b :: rest) pos) (zmi fa fb) := by with_unfolding_all exact (yK (zoW ha hb) λ σ H Q h => by
 obtain ⟨F, B, ad, as, r, as', R, e, q⟩ := h
 obtain ⟨⟨p, as1⟩, h1, e⟩ := bS_ (show (fa as).bind _ = _ from e)
 refine ⟨F, B, ad, as, p, as1, R, h1, λ v T' ad' H' R' rv g => ?_⟩
 obtain ⟨k, e1, e⟩ := bS_ e
 obtain ⟨st, rfl⟩ := zkA e1
 obtain ⟨rfl, rfl⟩ := znL rv
 cases k with
 | true => exact ⟨true, rfl, ⟨F, B, ad', as1, r, as', R', e, λ v T2 ad2 H2 R2 rv g2 => q v T2 ad2 H2 R2 rv (g.trans g2)⟩⟩
 | false =>
  cases e
  exact ⟨false, rfl, q _ [] ad' H' R' (.lf (.bl false)) g⟩)
theorem zqf (ha : AE X kd a fa) : AE X kd (.UnaryOp .Not a pos) (znF fa) := by with_unfolding_all exact (yK (zpC ha) λ σ H Q h => by
 obtain ⟨F, B, ad, as, r, as', R, e, q⟩ := h
 obtain ⟨⟨p, as1⟩, h1, e⟩ := bS_ (show (fa as).bind _ = _ from e)
 refine ⟨F, B, ad, as, p, as1, R, h1, λ v T' ad' H' R' rv g => ?_⟩
 obtain ⟨k, e1, e⟩ := bS_ e
 obtain ⟨st, rfl⟩ := zkA e1
 obtain ⟨rfl, rfl⟩ := znL rv
 cases e
 exact ⟨k, rfl, q _ [] ad' H' R' (.lf (.bl _)) g⟩)
theorem znR {op : UnaryOp} {g : D -> Option R0} (ho : UnD X kd (unaryOp op) g) (ha : AE X kd a fa) : AE X kd (.UnaryOp op a pos) (f1 fa g) := by with_unfolding_all exact (yK (zqS ho ha) λ σ H Q h => by
 obtain ⟨F, B, ad, as, r, as', R, e, q⟩ := h
 obtain ⟨⟨p, as1⟩, h1, e⟩ := bS_ (show (fa as).bind _ = _ from e)
 obtain ⟨⟨x, lv⟩, h2, e⟩ := bS_ e
 obtain ⟨z, h3, e⟩ := bS_ e
 obtain ⟨y, h4, e⟩ := bS_ e
 cases e
 refine Yi R h1 λ v ad1 H1 R1 rv1 g1 => ⟨_, x, z, R1.tr _, wI.vw R1 rv1 h2, h3, Z1 R1 h4 λ w T' H' R' rv' g' => q w T' ad1 H' R' rv' (g1.trans g')⟩)
end
abbrev AF := AS -> Option (List RV × AS)
inductive RVs (K : zC) (kd : KD) (F B : Addr -> Prop) (ad : Ad) (σ : St) (H : Hp) : List V -> List RV -> Prop
 | nil : RVs K kd F B ad σ H [] []
 | cons {v : V} {r : RV} {vs : List V} {rs : List RV} : wI K kd F B [] ad σ H v r -> RVs K kd F B ad σ H vs rs -> RVs K kd F B ad σ H (v :: vs) (r :: rs)
def alA (K : zC) (kd : KD) (f : AF) : TA := λ σ H Q => ∃ F B ad as rs as', Rel K kd F B [] ad as σ H /\ f as = some (rs, as') /\
 ∀ vs ad' H', Rel K kd F B [] ad' as' σ H' -> RVs K kd F B ad' σ H' vs rs -> Grow (Gw [] ad) H (Gw [] ad') H' -> Q vs H'
@[irreducible] def AA (X : Cx) (kd : KD) (es : List Expr) (f : AF) : Prop := PA X es (alA X.K kd f)
def aN : AF := λ as => some ([], as)
def aC (fa : EF) (fr : AF) : AF := λ as => (fa as).bind λ p => (fr p.2).bind λ q => some (p.1.frz :: q.1, q.2)
theorem zfF {X : Cx} {e : List Expr} {t t' : TA} (h : PA X e t) (k : ∀ σ H Q, t' σ H Q -> t σ H Q) : PA X e t' := λ pos pins s σ H Q I q => h pos pins s σ H Q I (k σ H Q q)
abbrev DF := AS -> Option (List O × AS)
def alD (K : zC) (kd : KD) (f : DF) : TA := λ σ H Q => ∃ F B ad as os as', Rel K kd F B [] ad as σ H /\ f as = some (os, as') /\
 ∀ vs T' ad' H', Rel K kd F B T' ad' as' σ H' -> Zb K kd F B (Gw T' ad') H' vs os T' -> Grow (Gw [] ad) H (Gw T' ad') H' -> Q vs H'
@[irreducible] def AD (X : Cx) (kd : KD) (es : List Expr) (f : DF) : Prop := PA X es (alD X.K kd f)
def dN : DF := λ as => some ([], as)
def dC (fa : EF) (fr : DF) : DF := λ as => (fa as).bind λ p => (toO p.2 p.1).bind λ x => (fr x.2).bind λ q => some (x.1 :: q.1, q.2)
def views (as : AS) : List RV -> Option (List D × Option Bool)
 | [] => some ([], some true)
 | r :: rs => (r.view as).bind λ x => (views as rs).bind λ y => some (x.1 :: y.1, meet x.2 y.2)
def fP (fr : AF) (g : List D -> Option R0) : EF := λ as => (fr as).bind λ p => (views p.2 p.1).bind λ x => (g x.1).bind λ r => (wrap x.2 r).bind λ z => some (z, p.2)
def zkT (as : AS) : RV -> Option (Bool × D)
 | .ow o => some (zU o.toD || o.str, o.toD)
 | .bo i => match as[i]? with
  | some (some o) => some (false, o.toD)
  | _ => none
def Xh (as : AS) : List RV -> Option (List (Bool × D))
 | [] => some []
 | r :: rs => (zkT as r).bind λ x => (Xh as rs).bind λ y => some (x :: y)
def zH (fr : AF) (g : List (Bool × D) -> Option O) : EF := λ as => (fr as).bind λ p => (Xh p.2 p.1).bind λ x => (g x).bind λ o => some (.ow o, p.2)
def RQO (K : zC) (kd : KD) (F : Addr -> Prop) (H : Hp) (Q : VK) (o : O) : Prop :=
 ∀ v T H', T.Nodup -> (∀ a ∈ T, H a = none) -> (∀ b u, H b = some u -> H' b = some u) -> (∀ a ∈ T, H' a ≠ none) -> Ro (λ _ v d => Rp K kd (Un2 F (· ∈ T)) H' v d) (λ a => ¬ Un2 F (· ∈ T) a) H' v o T -> Q v H'
inductive RpA (K : zC) (kd : KD) (F : Addr -> Prop) (H : Hp) : List V -> List (Bool × D) -> Prop
 | nil : RpA K kd F H [] []
 | cons {v : V} {st : Bool} {d : D} {vs : List V} {ds : List (Bool × D)} : Rp K kd (λ a => st = true /\ F a) H v d -> RpA K kd F H vs ds -> RpA K kd F H (v :: vs) ((st, d) :: ds)
def spD (K : zC) (kd : KD) (g : List (Bool × D) -> Option O) : Sp := λ vs H Q _ => ∃ F ds o, (∀ a, F a -> H a ≠ none) /\ RpA K kd F H vs ds /\ g ds = some o /\ RQO K kd F H Q o
def Yq (os : List O) : O := if os.all O.isLf = true then .lf (O.strs os) (.tup (O.toDs os)) else .nd .tp os
def wR (fr : DF) : EF := λ as => (fr as).bind λ p => if p.1.length <= sizeLine then some (.ow (Yq p.1), p.2) else none
def Zm (fr : DF) : EF := λ as => (fr as).bind λ p => if p.1.length <= sizeLine then some (.ow (.nd .ls p.1), p.2) else none
section
variable {X : Cx} {kd : KD} {a b c : Expr} {fa fb : EF} {ta tb : TF} {pos : Pos} {es rest : List Expr} {fr : AF} {fd : DF}
theorem RpA.length {K : zC} {F : Addr -> Prop} {H : Hp} {vs : List V} {ds : List (Bool × D)} (h : RpA K kd F H vs ds) : vs.length = ds.length := by
 induction h with
 | nil => rfl
 | cons _ _ ih => exact congrArg (· + 1) ih
theorem zr : AA X kd [] aN := by with_unfolding_all exact (zfF zdc λ σ H Q h => by
 obtain ⟨F, B, ad, as, rs, as', R, e, q⟩ := h
 cases e
 exact q [] ad H R .nil Grow.refl)
theorem zc (ha : AE X kd a fa) (hr : AA X kd es fr) (hs : starEach (a :: es) X.env = (false, eval a X.env) :: starEach es X.env) : AA X kd (a :: es) (aC fa fr) := by with_unfolding_all exact (zfF (VB ha hr hs) λ σ H Q h => by
 obtain ⟨F, B, ad, as, rs, as', R, e, q⟩ := h
 obtain ⟨⟨p, as1⟩, h1, e⟩ := bS_ (show (fa as).bind _ = _ from e)
 obtain ⟨⟨z, as2⟩, h2, e⟩ := bS_ e
 cases e
 refine Yi R h1 λ v ad1 H1 R1 rv1 g1 => ⟨F, B, ad1, as1, z, _, R1, h2, λ vs ad2 H2 R2 rv2 g2 => ?_⟩
 exact q _ ad2 H2 R2 (.cons (rv1.grow g2) rv2) (g1.trans g2))
theorem yh : AD X kd [] dN := by with_unfolding_all exact (zfF zdc λ σ H Q h => by
 obtain ⟨F, B, ad, as, rs, as', R, e, q⟩ := h
 cases e
 exact q [] [] ad H R .nil Grow.refl)
theorem zF (ha : AE X kd a fa) (hr : AD X kd es fd) (hs : starEach (a :: es) X.env = (false, eval a X.env) :: starEach es X.env) : AD X kd (a :: es) (dC fa fd) := by with_unfolding_all exact (zfF (VB ha hr hs) λ σ H Q h => by
 obtain ⟨F, B, ad, as, rs, as', R, e, q⟩ := h
 obtain ⟨⟨p, as1⟩, h1, e⟩ := bS_ (show (fa as).bind _ = _ from e)
 obtain ⟨⟨o, as2⟩, h2, e⟩ := bS_ e
 obtain ⟨⟨os, as3⟩, h3, e⟩ := bS_ e
 cases e
 refine ⟨F, B, ad, as, p, as1, R, h1, λ v T1 ad1 H1 R1 rv1 g1 => ?_⟩
 obtain ⟨ad2, R2, ro2, le2⟩ := zdr R1 rv1 h2
 refine ⟨F, _, ad2, as2, os, _, R2.hide, h3, λ vs T3 ad3 H3 R3 ro3 g3 => ?_⟩
 have kT : ∀ a ∈ T1, ∀ u, H1 a = some u -> H3 a = some u := λ a m u e => g3.keep a u e λ z => z.elim (λ y => nomatch y) λ ⟨i, y⟩ => R2.dis i a y m
 have r1 : RoS X.K kd F B (Gw (T1 ++ T3) ad3) H3 v o T1 := RoS.lv zbv (RoS.grow g3 kT (RoS.lv zhU ro2))
 have r3 : Zb X.K kd F B (Gw (T1 ++ T3) ad3) H3 vs os T3 := Zb.lv zbv ro3
 refine q _ (T1 ++ T3) ad3 H3 (R3.unhide R2.tnd λ a m z => (R2.btr a z).2.2 (.inl m)) (.cons r1 r3) ((g1.trans (Grow.less le2)).trans ⟨λ b u e n => g3.keep b u e λ z => n (Gw.drop b z), λ b z => ?_⟩)
 rcases z with z | z
 · rcases zzJ.mp z with z | z
   · exact .inl (.inl z)
   · exact (g3.own b (.inl z)).elim (λ y => .inl (Gw.drop b y)) .inr
 · exact (g3.own b (.inr z)).elim (λ y => .inl (Gw.drop b y)) .inr)
theorem Yl {x1} (h : AD X kd es fd) : AE X kd (.Tuple es x1 pos) (wR fd) := by with_unfolding_all exact (yK (zpO h) λ σ H Q h => by
 obtain ⟨F, B, ad, as, r, as', R, e, q⟩ := h
 obtain ⟨⟨os, as1⟩, h1, e⟩ := bS_ (show (fd as).bind _ = _ from e)
 obtain ⟨hz, e⟩ := zM e
 cases e
 refine ⟨F, B, ad, as, os, _, R, h1, λ vs T1 ad1 H1 R1 ro1 g1 => ⟨by rw [ro1.length]; exact hz, λ p hp => ?_⟩⟩
 have k : ∀ b o, H1 b = some o -> upd H1 p (.tup vs) b = some o := λ b o hb => by rw [zO (yd hb hp)]; exact hb
 obtain ⟨R2, g2⟩ := R1.more k
 have ro2 := Zb.grow g2 (λ a _ u h => k a u h) ro1
 have np : ∀ st, ¬ Lv F B (Gw T1 ad1) st p := λ st z => R1.trk st p z hp
 refine q _ T1 ad1 _ R2 ?_ (g1.trans g2)
 show RoS X.K kd F B (Gw T1 ad1) _ _ (Yq os) T1
 unfold Yq
 by_cases hl : os.all O.isLf = true
 · rw [if_pos hl]
   have := zjO ro2 hl
   subst this
   exact .lf (.tup (np _) (.inl yc) (zdf ro2 hl))
 · rw [if_neg hl]
   exact .tp (np _) yc ro2)
theorem vH (h : AD X kd es fd) : AE X kd (.List es pos) (Zm fd) := by with_unfolding_all exact (yK (zoF h) λ σ H Q h => by
 obtain ⟨F, B, ad, as, r, as', R, e, q⟩ := h
 obtain ⟨⟨os, as1⟩, h1, e⟩ := bS_ (show (fd as).bind _ = _ from e)
 obtain ⟨hz, e⟩ := zM e
 cases e
 refine ⟨F, B, ad, as, os, _, R, h1, λ vs T1 ad1 H1 R1 ro1 g1 => ⟨by rw [ro1.length]; exact hz, λ p hp => ?_⟩⟩
 have k : ∀ b o, H1 b = some o -> upd H1 p (.lst vs) b = some o := λ b o hb => by rw [zO (yd hb hp)]; exact hb
 obtain ⟨R2, g2⟩ := R1.add (N := [p]) (by simp) (λ a m => by rw [zzO.mp m]; exact hp) k (λ a m => by rw [zzO.mp m, yc]; simp)
 exact q _ _ ad1 _ R2 (.ls yc (Zb.grow g2 (λ a _ u h => k a u h) ro1)) (g1.trans g2))
theorem VwL.less {K : zC} {O O' : Addr -> Prop} {H : Hp} (g : ∀ a, O' a -> O a) {vs : List V} {ds : List D} (h : VwL K kd O H vs ds) : VwL K kd O' H vs ds := by
 induction h with
 | nil => exact .nil
 | cons h _ ih => exact .cons (h.less g) ih
theorem XS {K : zC} {F B : Addr -> Prop} {ad : Ad} {as : AS} {σ : St} {H : Hp} (R : Rel K kd F B [] ad as σ H) {vs : List V} {rs : List RV} {ds : List D} {lv : Option Bool} (h : RVs K kd F B ad σ H vs rs) (e : views as rs = some (ds, lv)) : VwL K kd (Obl F B (Gw [] ad) lv) H vs ds := by
 induction h generalizing ds lv with
 | nil => cases e; exact .nil
 | cons h t ih =>
  obtain ⟨⟨d, l⟩, h1, e⟩ := bS_ (show (RV.view as _).bind _ = _ from e)
  obtain ⟨⟨ds, l2⟩, h2, e⟩ := bS_ e
  cases e
  exact .cons ((wI.vw R h h1).less Obl.meet1) ((ih h2).less Obl.meet2)
theorem alP {g : List D -> Option R0} {σ : St} {H : Hp} {Q : VK} {R' : List V -> Hp -> VK -> Prop} (hr : ∀ vs H Q, (∃ O ds r, (∀ a, O a -> H a ≠ none) /\ VwL X.K kd O H vs ds /\ g ds = some r /\ RQ X.K kd O H Q r) -> R' vs H Q)
 (h : al X.K kd (fP fr g) σ H Q) : alA X.K kd fr σ H λ vs H1 => R' vs H1 Q := by
 obtain ⟨F, B, ad, as, r, as', R, e, q⟩ := h
 obtain ⟨⟨p, as1⟩, h1, e⟩ := bS_ (show (fr as).bind _ = _ from e)
 obtain ⟨⟨ds, lv⟩, h2, e⟩ := bS_ e
 obtain ⟨z, h3, e⟩ := bS_ e
 obtain ⟨y, h4, e⟩ := bS_ e
 cases e
 exact ⟨F, B, ad, as, p, _, R, h1, λ vs ad1 H1 R1 rv1 g1 => hr _ _ _ ⟨_, ds, z, R1.tr _, XS R1 rv1 h2, h3, Z1 R1 h4 λ w T' H' R' rv' g' => q w T' ad1 H' R' rv' (g1.trans g')⟩⟩
theorem zeX {K : zC} {F B : Addr -> Prop} {ad : Ad} {as : AS} {σ : St} {H : Hp} (R : Rel K kd F B [] ad as σ H) {vs : List V} {rs : List RV} {ds : List (Bool × D)} (h : RVs K kd F B ad σ H vs rs) (e : Xh as rs = some ds) : RpA K kd (Lv F B (Gw [] ad) true) H vs ds := by
 induction h generalizing ds with
 | nil => cases e; exact .nil
 | cons h t ih =>
  rename_i v r vs rs
  obtain ⟨⟨st, d⟩, h1, e⟩ := bS_ (show (zkT as r).bind _ = _ from e)
  obtain ⟨ds, h2, e⟩ := bS_ e
  cases e
  refine .cons ?_ (ih h2)
  cases r with
  | ow o =>
   cases h1
   cases hf : zU o.toD with
   | true => exact (zfx h).flat hf
   | false =>
    refine (zfj h).less λ a z => ?_
    have zs : o.str = true := z.1
    rw [zs]
    exact z.2
  | bo i =>
   have e : (match as[i]? with | some (some o) => some (false, o.toD) | _ => none) = some (st, d) := h1
   cases k : as[i]? with
   | none => rw [k] at e; cases e
   | some s =>
    cases s with
    | none => rw [k] at e; cases e
    | some o =>
     rw [k] at e
     cases e
     obtain ⟨w, hw, ro⟩ := R.sl i _ k
     rw [h.2] at hw
     cases hw
     exact (zfx ro).less λ a z => nomatch z.1
theorem zhe {K : zC} {F B : Addr -> Prop} {ad : Ad} {as : AS} {σ : St} {H : Hp} {Q : VK} {o : O} (R : Rel K kd F B [] ad as σ H) (q : ∀ v T' H', Rel K kd F B T' ad as σ H' -> wI K kd F B T' ad σ H' v (.ow o) -> Grow (Gw [] ad) H (Gw T' ad) H' -> Q v H') :
 RQO K kd (Lv F B (Gw [] ad) true) H Q o := λ v T H' hn hl k h1 ro => by
 obtain ⟨R', g⟩ := R.news hn hl k h1
 have le : ∀ st a, Lv F B (Gw T ad) st a -> Un2 (Lv F B (Gw [] ad) true) (· ∈ T) a := λ st a z => by
  rcases z with (z | z) | z | z
  · exact .inl (.inl (.inl ⟨rfl, z.2⟩))
  · exact .inl (.inl (.inr z))
  · exact .inr z
  · exact .inl (.inr (.inr z))
 exact q v T H' R' (Ro.mono (λ st v d r => r.less (le st)) (λ a vs n e => ⟨λ z => n (le true a z), e⟩) (λ _ _ _ e => e) ro) g
theorem zoz {g : List (Bool × D) -> Option O} {σ : St} {H : Hp} {Q : VK} {E : XK} (h : al X.K kd (zH fr g) σ H Q) : znN (spD X.K kd g) [] E (alA X.K kd fr) σ H Q := by
 obtain ⟨F, B, ad, as, r, as', R, e, q⟩ := h
 obtain ⟨⟨p, as1⟩, h1, e⟩ := bS_ (show (fr as).bind _ = _ from e)
 obtain ⟨ds, h2, e⟩ := bS_ e
 obtain ⟨o, h3, e⟩ := bS_ e
 cases e
 refine ⟨F, B, ad, as, p, _, R, h1, λ vs ad1 H1 R1 rv1 g1 => ?_⟩
 show spD X.K kd g (vs ++ []) H1 Q E
 rw [List.append_nil]
 exact ⟨_, ds, o, R1.trk true, zeX R1 rv1 h2, h3, zhe R1 λ w T' H' R' rv' g' => q w T' ad1 H' R' rv' (g1.trans g')⟩
end
inductive Out where
 | nx (as : AS) | rt (o : O) | bk (as : AS) | ct (as : AS)
abbrev SF := AS -> Option Out
structure RetOk (K : zC) (kd : KD) (F : Addr -> Prop) (T : List Addr) (H : Hp) (v : V) (o : O) : Prop where
 nd : T.Nodup
 tr : ∀ a ∈ T, H a ≠ none
 ro : Ro (λ _ v d => Rp K kd (Un2 F (· ∈ T)) H v d) (λ a => ¬ Un2 F (· ∈ T) a) H v o T
def zeh (K : zC) (kd : KD) (F B : Addr -> Prop) (ad : Ad) (H : Hp) (D : Ends) : Out -> Prop
 | .nx as' => ∀ σ' ad' H', Rel K kd F B [] ad' as' σ' H' -> Grow (Gw [] ad) H (Gw [] ad') H' -> D.nx σ' H'
 | .bk as' => ∀ σ' ad' H', Rel K kd F B [] ad' as' σ' H' -> Grow (Gw [] ad) H (Gw [] ad') H' -> D.bk σ' H'
 | .ct as' => ∀ σ' ad' H', Rel K kd F B [] ad' as' σ' H' -> Grow (Gw [] ad) H (Gw [] ad') H' -> D.ct σ' H'
 | .rt o => ∀ v T H', RetOk K kd F T H' v o -> Grow (Gw [] ad) H (· ∈ T) H' -> D.rt v H'
def be (K : zC) (kd : KD) (f : SF) : TS := λ D σ H => ∃ F B ad as o, Rel K kd F B [] ad as σ H /\ f as = some o /\ zeh K kd F B ad H D o
@[irreducible] def ASt (X : Cx) (kd : KD) (st : Stmt) (f : SF) : Prop := PS X st (be X.K kd f)
@[irreducible] def ASs (X : Cx) (kd : KD) (st : List Stmt) (f : SF) : Prop := PSs X st (be X.K kd f)
theorem ZJ {X : Cx} {e : Stmt} {t t' : TS} (h : PS X e t) (k : ∀ D σ H, t' D σ H -> t D σ H) : PS X e t' := λ pins s σ H D I q => h pins s σ H D I (k D σ H q)
theorem zcG {X : Cx} {e : List Stmt} {t t' : TS} (h : PSs X e t) (k : ∀ D σ H, t' D σ H -> t D σ H) : PSs X e t' := λ pins s σ H D I q => h pins s σ H D I (k D σ H q)
theorem zeh.pre {K : zC} {kd : KD} {F B : Addr -> Prop} {ad ad1 : Ad} {H H1 : Hp} {D : Ends} {o : Out} (g : Grow (Gw [] ad) H (Gw [] ad1) H1) (h : zeh K kd F B ad H D o) : zeh K kd F B ad1 H1 D o := by
 cases o with
 | nx as => exact λ σ' ad' H' R g' => h σ' ad' H' R (g.trans g')
 | bk as => exact λ σ' ad' H' R g' => h σ' ad' H' R (g.trans g')
 | ct as => exact λ σ' ad' H' R g' => h σ' ad' H' R (g.trans g')
 | rt r => exact λ v T H' R g' => h v T H' R (g.trans g')
def sNx : SF := λ as => some (.nx as)
def zE (f g : SF) : SF := λ as => (f as).bind λ o => match o with | .nx as' => g as' | o => some o
def sIf (c : TF) (f g : SF) : SF := λ as => (c as).bind λ p => if p.1 = true then f p.2 else g p.2
def wu (f : EF) : SF := λ as => (f as).bind λ p => some (.nx p.2)
def zkW (as : AS) : RV -> Option O
 | .ow o => if o.str = true then some o else none
 | .bo i => match as[i]? with
  | some (some o) => if o.str = true then some o else none
  | _ => none
def yu (f : EF) : SF := λ as => (f as).bind λ p => (zkW p.2 p.1).bind λ o => some (.rt o)
def zJ (z : Bool) (i : Nat) (f : EF) : SF := λ as => (f as).bind λ p => (toO p.2 (if z = true then p.1.frz else p.1)).bind λ x => if i < x.2.length then some (.nx (x.2.set i (some x.1))) else none
theorem Ro.strong {L : Bool -> V -> D -> Prop} {N : Addr -> Prop} {H : Hp} {v : V} {o : O} {fp : List Addr} (h : Ro L N H v o fp) (e : o.str = true) : Ro (λ st v d => st = true /\ L st v d) N H v o fp :=
 Ro.rec (motive_1 := λ v o fp _ => o.str = true -> Ro (λ st v d => st = true /\ L st v d) N H v o fp) (motive_2 := λ vs os fp _ => O.strs os = true -> RoL (λ st v d => st = true /\ L st v d) N H vs os fp)
  (λ h e => .lf ⟨e, h⟩) (λ h _ r e => .ls h (r e)) (λ h l _ r e => .dc h l (r e)) (λ c h l _ r e => .ob ⟨rfl, c⟩ h l (r e)) (λ n h _ r e => .tp n h (r e)) (λ _ => .nil) (λ _ _ h r e => .cons (h ((Bool.and_eq_true _ _).mp e).1) (r ((Bool.and_eq_true _ _).mp e).2)) h e
section
variable {K : zC} {kd : KD} {F B : Addr -> Prop} {T : List Addr} {ad ad1 : Ad} {as as1 : AS} {σ : St} {H H1 : Hp} {v : V} {r : RV} {o : O}
theorem zeH {T' : List Addr} (R : Rel K kd F B T ad as σ H) (hn : T'.Nodup) (hs : ∀ a ∈ T', Gw T ad a) (h : RoS K kd F B (Gw T ad) H v o T') (e : o.str = true) : RetOk K kd F T' H v o := by
 have le : ∀ a, Un2 F (· ∈ T') a -> Lv F B (Gw T ad) true a := λ a z => z.elim (λ y => .inl (.inl ⟨rfl, y⟩)) λ y => .inr (hs a y)
 exact ⟨hn, λ a m => (R.gtr a (hs a m)).1, Ro.mono (λ st v d r => by obtain ⟨rfl, r⟩ := r; exact r.less le) (λ a vs n e => ⟨λ z => n (le a z), e⟩) (λ _ _ _ e => e) (Ro.strong h e)⟩
theorem Rel.ret (R : Rel K kd F B T ad as σ H) (hr : wI K kd F B T ad σ H v r) (e : zkW as r = some o) : ∃ T', RetOk K kd F T' H v o /\ ∀ b ∈ T', Gw T ad b := by
 cases r with
 | ow o' =>
  obtain ⟨hs, rfl⟩ := zM e
  exact ⟨T, zeH R R.tnd (λ a m => .inl m) hr hs, λ a m => .inl m⟩
 | bo i =>
  have e : (match as[i]? with | some (some o) => if o.str = true then some o else none | _ => none) = some o := e
  cases k : as[i]? with
  | none => rw [k] at e; cases e
  | some s =>
   cases s with
   | none => rw [k] at e; cases e
   | some o1 =>
    rw [k] at e
    obtain ⟨hs, rfl⟩ := zM e
    obtain ⟨w, hw, ro⟩ := R.sl i _ k
    rw [hr.2] at hw
    cases hw
    exact ⟨ad i, zeH R (R.nd i) (λ a m => .inr ⟨i, m⟩) ro hs, λ a m => .inr ⟨i, m⟩⟩
end
section
variable {X : Cx} {kd : KD} {st : Stmt} {sts rest : List Stmt} {a b c e : Expr} {fa fb : EF} {ta : TF} {pos : Pos} {f g : SF}
theorem yW : ASs X kd [] sNx := by with_unfolding_all exact (zcG zmI λ D σ H h => by
 obtain ⟨F, B, ad, as, o, R, e, q⟩ := h
 cases e
 exact q σ ad H R Grow.refl)
theorem zj (h1 : ASt X kd st f) (h2 : ASs X kd rest g) : ASs X kd (st :: rest) (zE f g) := by with_unfolding_all exact (zcG (zgH h1 h2) λ D σ H h => by
 obtain ⟨F, B, ad, as, o, R, e, q⟩ := h
 obtain ⟨o1, e1, e⟩ := bS_ (show (f as).bind _ = _ from e)
 refine ⟨F, B, ad, as, o1, R, e1, ?_⟩
 cases o1 with
 | nx as1 => exact λ σ' ad' H' R' g' => ⟨F, B, ad', as1, o, R', e, q.pre g'⟩
 | bk as1 => cases e; exact q
 | ct as1 => cases e; exact q
 | rt r => cases e; exact q)
theorem zx (h1 : ASt X kd st f) : ASs X kd [st] f := by with_unfolding_all exact (zih h1)
def sNo : SF := λ _ => none
theorem zqy : ASt X kd st sNo := by with_unfolding_all exact (λ pins s σ H D I h => by obtain ⟨F, B, ad, as, o, R, e, q⟩ := h; cases e)
theorem vI (hc : AT X kd c ta) (ha : ASs X kd sts f) (hb : ASs X kd rest g) : ASt X kd (.If c sts rest pos) (sIf ta f g) := by with_unfolding_all exact (ZJ (zqR hc ha hb) λ D σ H h => by
 obtain ⟨F, B, ad, as, o, R, e, q⟩ := h
 obtain ⟨⟨p, as1⟩, h1, e⟩ := bS_ (show (ta as).bind _ = _ from e)
 refine ⟨F, B, ad, as, p, as1, R, h1, λ ad' H' R' g => ?_⟩
 cases p with
 | true => exact ⟨F, B, ad', as1, o, R', e, q.pre g⟩
 | false => exact ⟨F, B, ad', as1, o, R', e, q.pre g⟩)
theorem Z3 (he : AE X kd e fa) (hs : swapsWith e none pos.line X.env = pure false) : ASt X kd (.Expr e pos) (wu fa) := by with_unfolding_all exact (ZJ (ziJ he hs) λ D σ H h => by
 obtain ⟨F, B, ad, as, o, R, e, q⟩ := h
 obtain ⟨⟨p, as1⟩, h1, e⟩ := bS_ (show (fa as).bind _ = _ from e)
 cases e
 exact ⟨F, B, ad, as, p, as1, R, h1, λ v T' ad' H' R' rv g => q σ ad' H' R'.drop (g.trans (Grow.less Gw.drop))⟩)
theorem yf (he : AE X kd e fa) : ASt X kd (.Return (some e) pos) (yu fa) := by with_unfolding_all exact (ZJ (zoK he) λ D σ H h => by
 obtain ⟨F, B, ad, as, o, R, e, q⟩ := h
 obtain ⟨⟨p, as1⟩, h1, e⟩ := bS_ (show (fa as).bind _ = _ from e)
 obtain ⟨r, h2, e⟩ := bS_ e
 cases e
 refine ⟨F, B, ad, as, p, as1, R, h1, λ v T' ad' H' R' rv g => ?_⟩
 obtain ⟨T2, ro, le⟩ := R'.ret rv h2
 exact q v T2 H' ro (g.trans (Grow.less le)))
theorem zkJ {K : zC} {F B : Addr -> Prop} {T : List Addr} {ad : Ad} {as as2 : AS} {σ : St} {H : Hp} {v : V} {r : RV} {z : Bool} {o : O} {i : Nat} (R : Rel K kd F B T ad as σ H) (rv : wI K kd F B T ad σ H v r)
 (h2 : toO as (if z = true then r.frz else r) = some (o, as2)) (hl : i < as2.length) : ∃ ad', Rel K kd F B [] ad' (as2.set i (some o)) (σ.set i (some v)) H /\ ∀ a, Gw [] ad' a -> Gw T ad a := by
 cases z with
 | true =>
  obtain ⟨ad1, R1, ro, le⟩ := zdr R.drop (wI.drop R rv) h2
  exact ⟨_, R1.put hl ro, λ a y => Gw.drop a (le a (XM a y))⟩
 | false =>
  obtain ⟨ad1, R1, ro, le⟩ := zdr R rv h2
  exact ⟨_, R1.put hl ro, λ a y => le a (XM a y)⟩
theorem zpY {z : Bool} {i : Nat} {x : Str} {pos' : Pos} (hN : X.N.Nodup) (hi : X.N[i]? = some x) (hx : Loc X.env.scope x) (he : AE X kd e fa) (hs : swapsWith e (some (.Name x pos')) pos.line X.env = pure false) (hf : X.fn x = true \/ X.env.scope.names.lookup x = some .local) :
 ASt X kd (.Assign [.Name x pos'] e pos) (zJ z i fa) := by with_unfolding_all exact (ZJ (zos hN hi hx he hs hf) λ D σ H h => by
 obtain ⟨F, B, ad, as, o, R, e, q⟩ := h
 obtain ⟨⟨p, as1⟩, h1, e⟩ := bS_ (show (fa as).bind _ = _ from e)
 obtain ⟨⟨y, as2⟩, h2, e⟩ := bS_ e
 obtain ⟨hl, e⟩ := zM e
 cases e
 refine ⟨F, B, ad, as, p, as1, R, h1, λ v T' ad' H' R' rv g => ?_⟩
 obtain ⟨ad2, R2, le⟩ := zkJ R' rv h2 hl
 exact q _ ad2 H' R2 (g.trans (Grow.less le)))
end
def vG (n : Nat) (ds : List (Bool × D)) : AS := ds.map (λ x => some (.lf x.1 x.2)) ++ List.replicate (n - ds.length) none
def zrK : Out -> Option O
 | .nx _ => some (.lf true .non)
 | .rt o => some o
 | _ => none
def fnR (n m : Nat) (f : SF) (ds : List (Bool × D)) : Option O := if ds.length = m then (f (vG n ds)).bind zrK else none
theorem RpA.get {K : zC} {kd : KD} {F : Addr -> Prop} {H : Hp} : ∀ {vs : List V} {ds : List (Bool × D)} {i : Nat} {x : Bool × D}, RpA K kd F H vs ds -> ds[i]? = some x -> ∃ v, vs[i]? = some v /\ Rp K kd (λ a => x.1 = true /\ F a) H v x.2
 | _, _, _, _, .nil, e => by simp at e
 | _, _, 0, _, .cons h _, e => by simp at e; subst e; exact ⟨_, rfl, h⟩
 | _, _, i + 1, _, .cons _ r, e => by
  obtain ⟨v, h1, h2⟩ := RpA.get (i := i) r (by simpa using e)
  exact ⟨v, by simpa using h1, h2⟩
theorem zja {K : zC} {kd : KD} {F : Addr -> Prop} {H : Hp} {N : List Str} {vs : List V} {ds : List (Bool × D)} (ht : ∀ a, F a -> H a ≠ none) (rp : RpA K kd F H vs ds) :
 Rel K kd F (λ _ => False) [] (λ _ => []) (vG N.length ds) (L2.start N vs) H := by
 have hl := rp.length
 have no : ∀ a, ¬ Gw [] (λ _ => []) a := λ a z => z.elim (λ y => nomatch y) λ ⟨_, y⟩ => nomatch y
 refine ⟨by unfold vG L2.start; simp [hl], λ _ _ => rfl, λ _ => List.nodup_nil, (λ _ _ _ z => nomatch z), List.nodup_nil, (λ _ _ _ z => nomatch z), ht, (λ _ z => z.elim), λ a z => (no a z).elim, λ i s e => ?_⟩
 unfold vG at e
 unfold L2.start
 by_cases hi : i < ds.length
 · rw [List.getElem?_append_left (by rw [zD]; exact hi), zzF] at e
   obtain ⟨d, hd, ea⟩ := zzU.mp e
   subst ea
   obtain ⟨v, hv, rv⟩ := rp.get hd
   rw [List.getElem?_append_left (by rw [zD, hl]; exact hi), zzF, hv]
   refine ⟨v, rfl, .lf (rv.less λ a z => ?_)⟩
   rcases z with (z | z) | z
   · exact z
   · exact z.elim
   · exact (no a z).elim
 · rw [List.getElem?_append_right (by rw [zD]; omega)] at e
   have := List.mem_of_getElem? e
   have ea : s = none := (List.mem_replicate.mp this).2
   subst ea
   rfl
section
variable {P : Program} {w : World} {K : zC} {mg : Str -> Option Value} {base : Heap}
theorem zkI {kd : KD} {F : Addr -> Prop} {H H' : Hp} {Q : VK} {o : O} {v : V} {T : List Addr} (q : RQO K kd F H Q o) (ro : RetOk K kd F T H' v o) (g : Grow (Gw [] λ _ => []) H (· ∈ T) H') : Q v H' := by
 have no : ∀ a, ¬ Gw [] (λ _ => []) a := λ a z => z.elim (λ y => nomatch y) λ ⟨_, y⟩ => nomatch y
 exact q v T H' ro.nd (λ a m => (g.own a m).resolve_left (no a)) (λ b u h => g.keep b u h (no b)) ro.tr ro.ro
theorem xW {kd : KD} {x qual : Str} {st : Stmt} {f : Addr} {fd : FuncData} {N ps : List Str} {k : Nat} {c : SF} (Fn : Fun K x qual st f fd) (S : FnScope N ps (zA st))
 (hb : ∀ (cdv : Value) (A : Around) (outer : List Env) (s : Shared) (H : Hp) (E : XK), Room k (A.deeper (envOfC qual (zA st) s.heap.objs.size f cdv)) -> ASs (zfL CX0 P w K mg base N qual (zA st) f cdv A outer s H E).nox kd (Vr st) c) :
 FnOk P w K mg base CX0 (k + 1) f fd ps (spD K kd (fnR N.length ps.length c)) := by
 with_unfolding_all (
 refine Fn.ok S (λ vs H Q E h => ?_) (λ cdv A outer s H vs Q E hr h => ⟨_, hb cdv A outer s H E hr, ?_⟩)
 · obtain ⟨F, ds, r, _, rp, e, _⟩ := h
   unfold fnR at e
   by_cases hl : ds.length = ps.length
   · rw [rp.length, hl]
   · rw [if_neg hl] at e; cases e
 · obtain ⟨F, ds, r, ht, rp, e, q⟩ := h
   unfold fnR at e
   by_cases hl : ds.length = ps.length
   · rw [if_pos hl] at e
     obtain ⟨o, e1, e⟩ := bS_ e
     refine ⟨F, λ _ => False, λ _ => [], vG N.length ds, o, zja ht rp, e1, ?_⟩
     cases o with
     | nx as => cases e; exact λ σ' ad' H' R g => zkI q (T := []) ⟨List.nodup_nil, (λ _ m => nomatch m), .lf .non⟩ (g.trans (Grow.less (λ _ z => nomatch z)))
     | rt o => cases e; exact λ v T H' ro g => zkI q ro g
     | bk => cases e
     | ct => cases e
   · rw [if_neg hl] at e; cases e)
end
abbrev It1 := Bool × D
abbrev GF := It1 -> AS -> Option AS
abbrev GFs := List It1 -> AS -> Option AS
def kids (st : Bool) (ds : List D) : List It1 := ds.map λ d => (zU d || st, d)
inductive RpI (K : zC) (kd : KD) (F B G : Addr -> Prop) (H : Hp) : List V -> List It1 -> Prop
 | nil : RpI K kd F B G H [] []
 | cons {v : V} {x : It1} {vs : List V} {ds : List It1} : Rp K kd (Lv F B G x.1) H v x.2 -> RpI K kd F B G H vs ds -> RpI K kd F B G H (v :: vs) (x :: ds)
def alG (K : zC) (kd : KD) (S : List Nat) (g : GF) : TG := λ v σ H Q => ∃ F B ad as x as', Rel K kd F B [] ad as σ H /\ Rp K kd (Lv F B (Gw [] ad) x.1) H v x.2 /\ g x as = some as' /\
 ∀ σ' ad' H', Rel K kd F B [] ad' as' σ' H' -> Grow (Gw [] ad) H (Gw [] ad') H' -> (∀ j, j ∉ S -> σ'[j]? = σ[j]?) -> Q σ' H'
def zrV (K : zC) (kd : KD) (S : List Nat) (g : GFs) : TGs := λ vs σ H Q => ∃ F B ad as ds as', Rel K kd F B [] ad as σ H /\ RpI K kd F B (Gw [] ad) H vs ds /\ g ds as = some as' /\
 ∀ σ' ad' H', Rel K kd F B [] ad' as' σ' H' -> Grow (Gw [] ad) H (Gw [] ad') H' -> (∀ j, j ∉ S -> σ'[j]? = σ[j]?) -> Q σ' H'
@[irreducible] def AG (X : Cx) (kd : KD) (tg : Expr) (S : List Nat) (g : GF) : Prop := PG X tg (alG X.K kd S g)
@[irreducible] def AGs (X : Cx) (kd : KD) (tg : List Expr) (S : List Nat) (g : GFs) : Prop := PGs X tg (zrV X.K kd S g)
theorem zqe {X : Cx} {e : Expr} {t t' : TG} (h : PG X e t) (k : ∀ v σ H Q, t' v σ H Q -> t v σ H Q) : PG X e t' := λ pins s σ H v u Q I r q => h pins s σ H v u Q I r (k v σ H Q q)
theorem zif {X : Cx} {e : List Expr} {t t' : TGs} (h : PGs X e t) (k : ∀ v σ H Q, t' v σ H Q -> t v σ H Q) : PGs X e t' := λ pins s σ H v u Q I r q => h pins s σ H v u Q I r (k v σ H Q q)
def gN (i : Nat) : GF := λ x as => if i < as.length then some (as.set i (some (.lf x.1 x.2))) else none
def gsN : GFs := λ ds as => match ds with | [] => some as | _ :: _ => none
def gsC (g : GF) (gs : GFs) : GFs := λ ds as => match ds with | [] => none | d :: r => (g d as).bind λ as1 => gs r as1
def gT (n : Nat) (gs : GFs) : GF := λ x as => match x.2 with
 | .tup ds => if ds.length = n then gs (kids x.1 ds) as else none
 | .lst ds => if ds.length = n then gs (kids x.1 ds) as else none
 | _ => none
section
variable {K : zC} {kd : KD} {F B G G' : Addr -> Prop} {H H' : Hp}
theorem RpI.length {vs : List V} {ds : List It1} (h : RpI K kd F B G H vs ds) : vs.length = ds.length := by
 induction h with
 | nil => rfl
 | cons _ _ ih => exact congrArg (· + 1) ih
theorem RpI.grow (g : Grow G H G' H') {vs : List V} {ds : List It1} (h : RpI K kd F B G H vs ds) : RpI K kd F B G' H' vs ds := by
 induction h with
 | nil => exact .nil
 | cons h _ ih => exact .cons (Rp.grow g h) ih
theorem RpI.get {vs : List V} {ds : List It1} {i : Nat} {x : It1} (h : RpI K kd F B G H vs ds) (e : ds[i]? = some x) : ∃ v, vs[i]? = some v /\ Rp K kd (Lv F B G x.1) H v x.2 := by
 induction h generalizing i with
 | nil => simp at e
 | cons h r ih =>
  cases i with
  | zero => simp at e; subst e; exact ⟨_, rfl, h⟩
  | succ i =>
   obtain ⟨v, h1, h2⟩ := ih (i := i) (by simpa using e)
   exact ⟨v, by simpa using h1, h2⟩
theorem Vv {st : Bool} {vs : List V} {ds : List D} (h : RpL K kd (Lv F B G st) H vs ds) : RpI K kd F B G H vs (kids st ds) :=
 RpL.ind (P := λ vs ds => RpI K kd F B G H vs (kids st ds)) .nil (λ {v d vs ds} h _ ih => by
  refine .cons (x := (zU d || st, d)) ?_ ih
  cases e : zU d with
  | true => exact h.flat e
  | false => exact h) h
end
section
variable {prog : Program} {w : World} {A : Around} {E : Value -> Shared -> Prop} {s : Shared}
theorem zet {it l : Addr} {items : Array Value} (hne : l ≠ it) : ∀ (n i : Nat) (s : Shared) (Q : List Value -> Shared -> Prop), s.heap.IsListIter it l i -> s.heap.IsList l items -> i + n <= items.size ->
 (∀ h', h'.IsListIter it l (i + n) -> Heap.SameBut it s.heap h' -> Q ((items.toList.drop i).take n) { s with heap := h' }) -> wpAny (model prog w) A (draw (.ref it) n) Q E s
 | 0, i, s, Q, hit, _, _, hQ => by
  show wpAny _ _ (pure []) Q E s
  exact wpAny_pure (by simpa using hQ s.heap hit (Heap.SameBut.refl ..))
 | n + 1, i, s, Q, hit, ht, hle, hQ => by
  have hlt : i < items.size := by omega
  show wpAny _ _ (pyNext (.ref it) >>= _) Q E s
  refine wpAny_bind (wpAny_pyNext_list_item hit ht (x := items[i]) (by simp [hlt]) λ h₁ hit₁ hs₁ => ?_)
  refine wpAny_bind (wpAny_holding (zet hne n (i + 1) _ _ hit₁ (ht.extBut hs₁.extBut hne) (by omega) λ h₂ hit₂ hs₂ => wpAny_pure ?_))
  have hd : items.toList.drop i = items[i] :: items.toList.drop (i + 1) := by simp [List.drop_eq_getElem_cons, hlt]
  have := hQ h₂ (by rw [show i + (n + 1) = i + 1 + n by omega]; exact hit₂) (hs₁.trans hs₂)
  rw [hd, List.take_succ_cons] at this
  exact this
theorem zgp {l : Addr} {items : Array Value} {targets : List (Bool × (Value -> Sem Unit))} {Q : Unit -> Shared -> Prop} (hh : A.handled = none) (ht : s.heap.IsList l items)
 (hn : targets.length = items.size) (hstar : targets.findIdx? (·.1) = none)
 (h : ∀ h', Heap.ExtBut s.heap.objs.size s.heap h' -> wpAny (model prog w) A (assignInOrder (targets.map (·.2)) items.toList) Q E { s with heap := h' }) :
 wpAny (model prog w) A (unpack (.ref l) targets) Q E s := by
 unfold unpack
 rw [hn, hstar]
 refine wpAny_bind (wpAny_holding ?_)
 have hlt : l ≠ s.heap.objs.size := by obtain ⟨o, ho, _⟩ := ht; exact zzN (Heap.lt_size ho)
 unfold unpackItems
 refine wpAny_bind ?_
 unfold notIterableAtAll
 refine wpAny_bind (wpAny_specialOf ht.typeIs PySem.F.slot_list_iter.lookup ?_)
 refine wpAny_pure ?_
 simp only [Bool.false_eq_true, if_false]
 refine wpAny_bind (wpAny_holding (wpAny_pyIter_list ht ?_))
 refine wpAny_bind (wpAny_holding (zet hlt items.size 0 _ _ ⟨_, Heap.get?_push_size _ rfl, rfl, rfl⟩ (ht.push _) (by omega) λ h₁ hit₁ hs₁ => ?_))
 have hall : List.take items.size (List.drop 0 items.toList) = items.toList := by
  rw [List.drop_zero]; exact List.take_of_length_le (by simp)
 rw [hall]
 rw [if_neg (by simp)]
 have ht₁ : h₁.IsList l items := (ht.push _).extBut hs₁.extBut hlt
 refine wpAny_bind (wpAny_holding (wpAny_pyNext_list_end hh hit₁ ht₁ (by simp) λ h₂ he₂ => ?_))
 simp only [Option.isSome_none, Bool.false_eq_true, if_false]
 exact wpAny_pure (h h₂ λ b o hb e => he₂ b o hb (hs₁.extBut b o hb (Heap.get?_push_of_some _ e)))
end
section
variable {X : Cx} {kd : KD} {a b c e tg iter : Expr} {es : List Expr} {body : List Stmt} {fa fb : EF} {pos : Pos} {g : GF} {gs : GFs} {f : SF} {ta : TF} {S S1 S2 : List Nat}
def zrA (K : zC) (n : Nat) (t : TGs) : TG := λ v σ H Q => ∃ a xs, v = .ref a /\ SqL K H a xs /\ xs.length = n /\ t xs σ H Q
theorem zjU {es : List Expr} {k : Nat} {t : TGs} {n : Nat} (hc : X.calm = true) (h : PGs X es t) (hn : (assignEach es X.env).length = n) (hst : (assignEach es X.env).findIdx? (·.1) = none) : PG X (.Tuple es k pos) (zrA X.K n t) := by
 intro pins s σ H v u Q I r hw
 obtain ⟨a, xs, e1, hq, hl, hw⟩ := hw
 subst e1
 cases r
 obtain ⟨its, rv, ht, hz⟩ := I.list hq
 rw [assign_Tuple]
 refine wpAny_bind (wpAny_standAt (zgp (I.ok.hd hc) ht.isList (by simp [hn, <- hl, rv.length]) hst λ h' hx => ?_))
 have I1 : Inv X pins σ H { s with heap := h' } := I.kept (t' := s.toks) λ b o e => hx b o (zzN (Heap.lt_size e)) e
 exact h pins _ σ H xs _ Q I1 (by simpa using rv) hw
theorem zmn {i : Nat} {x : Str} (hN : X.N.Nodup) (hi : X.N[i]? = some x) (hx : Loc X.env.scope x) (hf : X.fn x = true \/ X.env.scope.names.lookup x = some .local) : AG X kd (.Name x pos) [i] (gN i) := by with_unfolding_all exact (zqe (zmm hN hi hx hf) λ v σ H Q h => by
 obtain ⟨F, B, ad, as, y, as', R, rp, e, q⟩ := h
 obtain ⟨hl, e⟩ := zM e
 cases e
 exact q _ _ H (R.put hl (o := .lf y.1 y.2) (.lf rp)) (Grow.less XM) λ j hj => zzV (λ z => hj (by rw [z]; simp)))
theorem Vn : AGs X kd [] [] gsN := by with_unfolding_all exact (zif znx λ vs σ H Q h => by
 obtain ⟨F, B, ad, as, ds, as', R, rp, e, q⟩ := h
 cases rp with
 | nil => cases e; exact ⟨rfl, q σ ad H R Grow.refl λ _ _ => rfl⟩
 | cons => cases e)
theorem xM (h1 : AG X kd a S1 g) (h2 : AGs X kd es S2 gs) (hs : (assignEach (a :: es) X.env).map (·.2) = assign a X.env :: (assignEach es X.env).map (·.2)) : AGs X kd (a :: es) (S1 ++ S2) (gsC g gs) := by with_unfolding_all exact (zif (zln h1 h2 hs) λ vs σ H Q h => by
 obtain ⟨F, B, ad, as, ds, as', R, rp, e, q⟩ := h
 cases rp with
 | nil => cases e
 | cons r rr =>
  obtain ⟨as1, e1, e⟩ := bS_ (show (g _ as).bind _ = _ from e)
  refine ⟨_, _, rfl, F, B, ad, as, _, as1, R, r, e1, λ σ' ad' H' R' g' k' => ?_⟩
  exact ⟨F, B, ad', as1, _, as', R', rr.grow g', e, λ σ2 ad2 H2 R2 g2 k2 => q σ2 ad2 H2 R2 (g'.trans g2) λ j hj => (k2 j λ z => hj (zzI _ z)).trans (k' j λ z => hj (zzM _ z))⟩)
theorem zbD {k n : Nat} (hc : X.calm = true) (h : AGs X kd es S gs) (hn : (assignEach es X.env).length = n) (hst : (assignEach es X.env).findIdx? (·.1) = none) : AG X kd (.Tuple es k pos) S (gT n gs) := by
 with_unfolding_all (
 intro pins s σ H v u Q I r hw
 obtain ⟨F, B, ad, as, ⟨st, d⟩, as', R, rp, e, q⟩ := hw
 cases d with
 | tup ds =>
  have e : (if ds.length = n then gs (kids st ds) as else none) = some as' := e
  by_cases hl : ds.length = n
  · rw [if_pos hl] at e
    have go : ∃ a xs, v = .ref a /\ SqT X.K H a xs /\ RpL X.K kd (Lv F B (Gw [] ad) st) H xs ds := by
     cases rp with
     | tup n h r => exact ⟨_, _, rfl, .inl h, r⟩
     | tupK a b c e f r => exact ⟨_, _, rfl, .inr ⟨_, _, _, a, b, c, e, f⟩, r⟩
    obtain ⟨a, xs, rfl, hs, rl⟩ := go
    exact zpZ hc h hn hst pins s σ H _ u Q I r ⟨a, xs, rfl, hs, by rw [rl.length, hl], F, B, ad, as, _, as', R, Vv rl, e, q⟩
  · rw [if_neg hl] at e; cases e
 | lst ds =>
  have e : (if ds.length = n then gs (kids st ds) as else none) = some as' := e
  by_cases hl : ds.length = n
  · rw [if_pos hl] at e
    cases rp with
    | lstK a b c r' => exact zjU hc h hn hst pins s σ H _ u Q I r ⟨_, _, rfl, .inr ⟨_, _, _, a, rfl, rfl, rfl, b, c⟩, by rw [r'.length, hl], F, B, ad, as, _, as', R, Vv r', e, q⟩
    | lst n h' r' => exact zjU hc h hn hst pins s σ H _ u Q I r ⟨_, _, rfl, .inl h', by rw [r'.length, hl], F, B, ad, as, _, as', R, Vv r', e, q⟩
  · rw [if_neg hl] at e; cases e
 | _ => cases e)
def zdt (as : AS) (r : RV) : Option (It1 × AS) := (toO as r.frz).bind λ x => match x.1 with | .lf st d => some ((st, d), x.2) | _ => none
theorem VD {K : zC} {F B : Addr -> Prop} {T : List Addr} {ad : Ad} {as as' : AS} {σ : St} {H : Hp} {v : V} {r : RV} {x : It1} (R : Rel K kd F B T ad as σ H) (h : wI K kd F B T ad σ H v r) (e : zdt as r = some (x, as')) :
 ∃ ad', Rel K kd F B [] ad' as' σ H /\ Rp K kd (Lv F B (Gw [] ad') x.1) H v x.2 /\ ∀ a, Gw [] ad' a -> Gw T ad a := by
 obtain ⟨⟨o, as1⟩, h1, e⟩ := bS_ e
 obtain ⟨ad1, R1, ro, le⟩ := zdr R.drop (wI.drop R h) h1
 cases o with
 | lf st d =>
  cases e
  refine ⟨ad1, R1, ?_, λ a y => Gw.drop a (le a y)⟩
  have := zfj ro
  exact this
 | nd k os => cases e
def zfD (f : EF) (g : GF) : SF := λ as => (f as).bind λ p => (zdt p.2 p.1).bind λ q => (g q.1 q.2).bind λ as' => some (.nx as')
theorem zlr (he : AE X kd e fa) (hg : AG X kd tg S g) (hs : swapsWithSole [tg] e pos.line X.env = pure false) (hw : swappedStores [tg] e X.env = pure none) (h1 : (assignEach [tg] X.env).map (·.2) = [assign tg X.env]) :
 ASt X kd (.Assign [tg] e pos) (zfD fa g) := by with_unfolding_all exact (ZJ (zjR he hg hs hw h1) λ D σ H h => by
 obtain ⟨F, B, ad, as, o, R, e, q⟩ := h
 obtain ⟨⟨p, as1⟩, h1, e⟩ := bS_ (show (fa as).bind _ = _ from e)
 obtain ⟨⟨x, as2⟩, h2, e⟩ := bS_ e
 obtain ⟨as3, h3, e⟩ := bS_ e
 cases e
 refine ⟨F, B, ad, as, p, as1, R, h1, λ v T' ad' H' R' rv g1 => ?_⟩
 obtain ⟨ad2, R2, rp, le⟩ := VD R' rv h2
 exact ⟨F, B, ad2, as2, _, as3, R2, rp, h3, λ σ' ad' H' R' g' _ => q σ' ad' H' R' ((g1.trans (Grow.less le)).trans g')⟩)
structure ItOk (K : zC) (kd : KD) (F B : Addr -> Prop) (ad : Ad) (H : Hp) (J : It) (ds : List It1) : Prop where
 all : ∀ (ad2 : Ad) (H2 : Hp), Grow (Gw [] ad) H (Gw [] ad2) H2 -> (∀ st a, Lv F B (Gw [] ad2) st a -> H2 a ≠ none) -> ∀ i, (i < ds.length -> J.go i H2) /\ (ds.length <= i -> J.stop i H2) /\
  ∀ v H3, J.yld i H2 v H3 -> (∀ b o, H2 b = some o -> H3 b = some o) /\ ∀ x, ds[i]? = some x -> Rp K kd (Lv F B (Gw [] ad2) x.1) H3 v x.2
abbrev IF := AS -> Option (List It1 × AS)
def alI (K : zC) (kd : KD) (f : IF) : TI := λ σ H R => ∃ F B ad as ds as', Rel K kd F B [] ad as σ H /\ f as = some (ds, as') /\
 ∀ J ad' H', Rel K kd F B [] ad' as' σ H' -> Grow (Gw [] ad) H (Gw [] ad') H' -> ItOk K kd F B ad' H' J ds -> R J H'
@[irreducible] def AI (X : Cx) (kd : KD) (tg iter : Expr) (f : IF) : Prop := PI X tg iter (alI X.K kd f)
def forL (g : GF) (f : SF) : List It1 -> AS -> Option Out
 | [], as => some (.nx as)
 | d :: r, as => (g d as).bind λ as1 => (f as1).bind λ o => match o with
  | .nx as' => forL g f r as'
  | .ct as' => forL g f r as'
  | .bk as' => some (.nx as')
  | .rt r => some (.rt r)
def yZ (fi : IF) (g : GF) (f : SF) : SF := λ as => (fi as).bind λ p => forL g f p.1 p.2
theorem yU {fi : IF} (hp : PassesOwn (model X.prog X.w) X.A X.env X.xe) (hc : X.calm = true) (hi : AI X kd tg iter fi) (hg : AG X kd tg S g) (hb : ASs X kd body f) (hs : ∀ x, foldedSetIterable iter X.env x = pure x) :
 ASt X kd (.For tg iter body [] pos) (yZ fi g f) := by with_unfolding_all exact (ZJ (zon hp hc hi hg hb hs) λ D σ H h => by
 obtain ⟨F, B, ad, as, o, R, e, q⟩ := h
 obtain ⟨⟨ds, as1⟩, h1, e⟩ := bS_ (show (fi as).bind _ = _ from e)
 refine ⟨F, B, ad, as, ds, as1, R, h1, λ J ad1 H1 R1 g1 it => ?_⟩
 refine ⟨λ i m σ2 H2 => m + i = ds.length /\ ∃ ad2 as2, Rel X.K kd F B [] ad2 as2 σ2 H2 /\ Grow (Gw [] ad1) H1 (Gw [] ad2) H2 /\ forL g f (ds.drop i) as2 = some o, ⟨ds.length, rfl, ad1, as1, R1, Grow.refl, e⟩, ?_⟩
 rintro i m σ2 H2 ⟨hm, ad2, as2, R2, g2, e2⟩
 obtain ⟨k1, k2, k3⟩ := it.all ad2 H2 g2 R2.trk i
 by_cases hi : i < ds.length
 · refine .inr ⟨k1 hi, λ σ3 H3 => ∃ ad3 as3, Rel X.K kd F B [] ad3 as3 σ3 H3 /\ Grow (Gw [] ad1) H1 (Gw [] ad3) H3 /\ forL g f (ds.drop (i + 1)) as3 = some o, λ σ3 H3 ⟨ad3, as3, R3, g3, e3⟩ => ⟨m - 1, by omega, by omega, ad3, as3, R3, g3, e3⟩, λ v H3 hy => ?_⟩
   obtain ⟨kp, rp⟩ := k3 v H3 hy
   rw [List.drop_eq_getElem_cons hi] at e2
   obtain ⟨as3, e3, e2⟩ := bS_ (show (g _ as2).bind _ = _ from e2)
   obtain ⟨o3, e4, e2⟩ := bS_ e2
   obtain ⟨R3, g3⟩ := R2.more kp
   refine ⟨F, B, ad2, as2, _, as3, R3, rp _ (zzB hi), e3, λ σ4 ad4 H4 R4 g4 _ => ?_⟩
   refine ⟨F, B, ad4, as3, o3, R4, e4, ?_⟩
   have gg := (g2.trans g3).trans g4
   cases o3 with
   | nx as5 => exact λ σ5 ad5 H5 R5 g5 => ⟨ad5, as5, R5, gg.trans g5, e2⟩
   | ct as5 => exact λ σ5 ad5 H5 R5 g5 => ⟨ad5, as5, R5, gg.trans g5, e2⟩
   | bk as5 =>
    cases e2
    exact λ σ5 ad5 H5 R5 g5 => q σ5 ad5 H5 R5 (g1.trans (gg.trans g5))
   | rt r =>
    cases e2
    exact λ v T H5 ro g5 => q v T H5 ro (g1.trans (gg.trans g5))
 · refine .inl ⟨k2 (by omega), ?_⟩
   rw [List.drop_eq_nil_of_le (by omega)] at e2
   cases e2
   exact q σ2 ad2 H2 R2 (g1.trans g2))
def whL (c : TF) (f : SF) : Nat -> AS -> Option Out
 | 0, _ => none
 | n + 1, as => (c as).bind λ p => if p.1 = true then (f p.2).bind λ o => match o with
  | .nx as' => whL c f n as'
  | .ct as' => whL c f n as'
  | .bk as' => some (.nx as')
  | .rt r => some (.rt r) else some (.nx p.2)
theorem zjW {n : Nat} (hp : PassesOwn (model X.prog X.w) X.A X.env X.xe) (hc : AT X kd c ta) (hb : ASs X kd body f) : ASt X kd (.While c body [] pos) (whL ta f n) := by with_unfolding_all exact (ZJ (zkM hp hc hb) λ D σ H h => by
 obtain ⟨F, B, ad, as, o, R, e, q⟩ := h
 refine ⟨λ m σ2 H2 => ∃ ad2 as2, Rel X.K kd F B [] ad2 as2 σ2 H2 /\ Grow (Gw [] ad) H (Gw [] ad2) H2 /\ whL ta f m as2 = some o, ⟨n, ad, as, R, Grow.refl, e⟩, ?_⟩
 rintro m σ2 H2 ⟨ad2, as2, R2, g2, e2⟩
 cases m with
 | zero => cases e2
 | succ m =>
  obtain ⟨⟨p, as3⟩, e3, e2⟩ := bS_ (show (ta as2).bind _ = _ from e2)
  refine ⟨F, B, ad2, as2, p, as3, R2, e3, λ ad3 H3 R3 g3 => ?_⟩
  cases p with
  | true =>
   rw [if_pos rfl] at e2 ⊢
   obtain ⟨o3, e4, e2⟩ := bS_ e2
   refine ⟨λ σ3 H3 => ∃ ad3 as3, Rel X.K kd F B [] ad3 as3 σ3 H3 /\ Grow (Gw [] ad) H (Gw [] ad3) H3 /\ whL ta f m as3 = some o, λ σ3 H3 h => ⟨m, by omega, h⟩, F, B, ad3, as3, o3, R3, e4, ?_⟩
   have gg := g2.trans g3
   cases o3 with
   | nx as5 => exact λ σ5 ad5 H5 R5 g5 => ⟨ad5, as5, R5, gg.trans g5, e2⟩
   | ct as5 => exact λ σ5 ad5 H5 R5 g5 => ⟨ad5, as5, R5, gg.trans g5, e2⟩
   | bk as5 =>
    cases e2
    exact λ σ5 ad5 H5 R5 g5 => q σ5 ad5 H5 R5 (gg.trans g5)
   | rt r =>
    cases e2
    exact λ v T H5 ro g5 => q v T H5 ro (gg.trans g5)
  | false =>
   rw [if_neg Bool.false_ne_true] at e2 ⊢
   cases e2
   exact q σ2 ad3 H3 R3 (g2.trans g3))
def zfQ : It1 -> Option (List It1)
 | (st, .lst ds) => some (kids st ds)
 | (st, .tup ds) => some (kids st ds)
 | _ => none
def ziV (f : EF) : IF := λ as => (f as).bind λ p => (zdt p.2 p.1).bind λ q => (zfQ q.1).bind λ ds => some (ds, q.2)
theorem ziS {K : zC} {F B : Addr -> Prop} {ad : Ad} {H : Hp} {a : Addr} {vs : List V} {ds : List It1} (hs : ∀ (ad3 : Ad) (H3 : Hp), Grow (Gw [] ad) H (Gw [] ad3) H3 -> SqL K H3 a vs) (r : RpI K kd F B (Gw [] ad) H vs ds) : ItOk K kd F B ad H (Itl K a) ds := ⟨λ ad3 H3 g3 _ i => by
 have hr3 := hs ad3 H3 g3
 have rl3 := r.grow g3
 refine ⟨λ hi => ?_, λ hi => ⟨_, hr3, by rw [r.length]; exact hi⟩, λ v H4 hy => ?_⟩
 · obtain ⟨u, hu, _⟩ := r.get (zzB hi)
   exact ⟨_, u, hr3, hu⟩
 · obtain ⟨rfl, hv⟩ := hy
   refine ⟨λ _ _ z => z, λ d hd => ?_⟩
   obtain ⟨u, hu, ru⟩ := rl3.get hd
   have := hv _ hr3
   rw [hu] at this
   cases this
   exact ru⟩
theorem zpw {K : zC} {F B : Addr -> Prop} {ad : Ad} {H : Hp} {a : Addr} {vs : List V} {ds : List It1} (hs : ∀ (ad3 : Ad) (H3 : Hp), Grow (Gw [] ad) H (Gw [] ad3) H3 -> SqT K H3 a vs) (r : RpI K kd F B (Gw [] ad) H vs ds) : ItOk K kd F B ad H (Itt K a) ds := ⟨λ ad3 H3 g3 _ i => by
 have hr3 := hs ad3 H3 g3
 have rl3 := r.grow g3
 refine ⟨λ hi => ?_, λ hi => ⟨_, hr3, by rw [r.length]; exact hi⟩, λ v H4 hy => ?_⟩
 · obtain ⟨u, hu, _⟩ := r.get (zzB hi)
   exact ⟨_, u, hr3, hu⟩
 · obtain ⟨rfl, hv⟩ := hy
   refine ⟨λ _ _ z => z, λ d hd => ?_⟩
   obtain ⟨u, hu, ru⟩ := rl3.get hd
   have := hv _ hr3
   rw [hu] at this
   cases this
   exact ru⟩
theorem zha (he : AE X kd e fa) : AI X kd tg e (ziV fa) := by
 with_unfolding_all (
 intro pins s σ H R I h
 obtain ⟨F, B, ad, as, ds, as', Rl, e, q⟩ := h
 obtain ⟨⟨p, as1⟩, h1, e⟩ := bS_ (show (fa as).bind _ = _ from e)
 obtain ⟨⟨⟨st, x⟩, as2⟩, h2, e⟩ := bS_ e
 obtain ⟨ys, h3, e⟩ := bS_ e
 cases e
 cases x with
 | lst xs =>
  cases h3
  refine zfc he pins s σ H R I ⟨F, B, ad, as, p, as1, Rl, h1, λ v T1 ad1 H1 R1 rv1 g1 => ?_⟩
  obtain ⟨ad2, R2, rp, le⟩ := VD R1 rv1 h2
  cases rp with
  | lst hn hr rl => exact ⟨_, rfl, ⟨_, .inl hr⟩, q _ ad2 H1 R2 (g1.trans (Grow.less le)) (ziS (λ ad3 H3 g3 => .inl (Vx g3 (λ z => hn (.inr z)) hr)) (Vv rl))⟩
  | lstK a b c rl => exact ⟨_, rfl, ⟨_, .inr ⟨_, _, _, a, rfl, rfl, rfl, b, c⟩⟩, q _ ad2 H1 R2 (g1.trans (Grow.less le)) (ziS (λ ad3 H3 g3 => .inr ⟨_, _, _, a, rfl, rfl, rfl, b, c⟩) (Vv rl))⟩
 | tup xs =>
  cases h3
  refine zhD he pins s σ H R I ⟨F, B, ad, as, p, as1, Rl, h1, λ v T1 ad1 H1 R1 rv1 g1 => ?_⟩
  obtain ⟨ad2, R2, rp, le⟩ := VD R1 rv1 h2
  have go : ∃ a ys, v = .ref a /\ (∀ (ad3 : Ad) (H3 : Hp), Grow (Gw [] ad2) H1 (Gw [] ad3) H3 -> SqT X.K H3 a ys) /\ RpL X.K kd (Lv F B (Gw [] ad2) st) H1 ys xs := by
   cases rp with
   | tup n h r => exact ⟨_, _, rfl, λ ad3 H3 g3 => .inl (Vx g3 (λ z => n (.inr z)) h), r⟩
   | tupK a b c e f r => exact ⟨_, _, rfl, λ ad3 H3 g3 => .inr ⟨_, _, _, a, b, c, e, f⟩, r⟩
  obtain ⟨a, ys, rfl, hs, rl⟩ := go
  exact ⟨_, rfl, ⟨_, hs ad2 H1 Grow.refl⟩, q _ ad2 H1 R2 (g1.trans (Grow.less le)) (zpw hs (Vv rl))⟩
 | _ => cases h3)
def yR (lo : Int) (n : Nat) : List It1 := (List.range n).map λ (i : Nat) => (true, D.int (lo + (i : Int)))
theorem zlu {K : zC} {F B : Addr -> Prop} {ad : Ad} {H : Hp} (lo : Int) (n : Nat) : ItOk K kd F B ad H (Itr lo n) (yR lo n) := ⟨λ ad2 H2 g _ i => by
 have hl : (yR lo n).length = n := by unfold yR; simp
 refine ⟨λ hi => by rw [hl] at hi; exact hi, λ hi => by rw [hl] at hi; exact hi, λ v H3 hy => ?_⟩
 obtain ⟨rfl, rfl⟩ := hy
 refine ⟨λ _ _ z => z, λ d hd => ?_⟩
 have hi : i < n := by rw [<- hl]; exact (zzD.mp hd).1
 unfold yR at hd
 rw [zzF, List.getElem?_range hi] at hd
 cases hd
 exact .int _⟩
def zqW : List D -> Option D
 | [x] => some x
 | _ => none
theorem znc {ds : List D} {d : D} (h : zqW ds = some d) : ds = [d] := by
 cases ds with
 | nil => cases h
 | cons x r =>
  cases r with
  | nil => cases h; rfl
  | cons _ _ => cases h
def yC (ds : List D) : Option (List It1) := ((zqW ds).bind asI).bind λ j => if -(2 ^ 62) <= j /\ j < 2 ^ 62 then some (yR 0 j.toNat) else none
theorem ziF {ds : List D} {xs : List It1} (h : yC ds = some xs) : ∃ j, ds = [.int j] /\ (if -(2 ^ 62) <= j /\ j < 2 ^ 62 then some (yR 0 j.toNat) else none) = some xs := by
 obtain ⟨j, h1, h⟩ := bS_ h
 obtain ⟨d, h2, h1⟩ := bS_ h1
 cases zfB h1
 exact ⟨j, znc h2, h⟩
def zog : List D -> Option (List It1)
 | [.int i, .int j] => if -(2 ^ 62) <= i /\ i < 2 ^ 62 /\ -(2 ^ 62) <= j /\ j < 2 ^ 62 then some (yR i (j - i).toNat) else none
 | _ => none
def yx (fr : AF) (h : List D -> Option (List It1)) : IF := λ as => (fr as).bind λ p => (views p.2 p.1).bind λ ds => (h ds.1).bind λ xs => some (xs, p.2)
theorem yo {fr : AF} {p : Pos} (hg : Gl X "range") (hm : X.mg "range" = none) (ha : AA X kd [a] fr) (hs : starEach [a] X.env = [(false, eval a X.env)]) : AI X kd tg (.Call (.Name "range" p) [a] [] pos) (yx fr yC) := by
 with_unfolding_all (
 intro pins s σ H R I h
 obtain ⟨F, B, ad, as, ds, as', Rl, e, q⟩ := h
 obtain ⟨⟨ps, as1⟩, h1, e⟩ := bS_ (show (fr as).bind _ = _ from e)
 obtain ⟨⟨xs, lv⟩, h2, e⟩ := bS_ e
 obtain ⟨ys, h3, e⟩ := bS_ e
 cases e
 obtain ⟨j, rfl, h3⟩ := ziF h3
 · obtain ⟨hj, e3⟩ := zM h3
   cases e3
   refine zeo hg hm ha hs pins s σ H R I ⟨F, B, ad, as, ps, _, Rl, h1, λ vs ad1 H1 R1 rv1 g1 => ?_⟩
   have vl := XS R1 rv1 h2
   cases vl with
   | cons v1 v2 =>
    cases v2
    cases v1
    exact ⟨j, rfl, hj.1, hj.2, q _ ad1 H1 R1 g1 (zlu 0 _)⟩)
theorem zjw {fr : AF} {p : Pos} (hg : Gl X "range") (hm : X.mg "range" = none) (ha : AA X kd [a, b] fr) (hs : starEach [a, b] X.env = [(false, eval a X.env), (false, eval b X.env)]) (hs2 : starEach [b] X.env = [(false, eval b X.env)]) : AI X kd tg (.Call (.Name "range" p) [a, b] [] pos) (yx fr zog) := by
 with_unfolding_all (
 intro pins s σ H R I h
 obtain ⟨F, B, ad, as, ds, as', Rl, e, q⟩ := h
 obtain ⟨⟨ps, as1⟩, h1, e⟩ := bS_ (show (fr as).bind _ = _ from e)
 obtain ⟨⟨xs, lv⟩, h2, e⟩ := bS_ e
 obtain ⟨ys, h3, e⟩ := bS_ e
 cases e
 match xs, h3, h2 with
 | [.int i, .int j], h3, h2 =>
  obtain ⟨hj, e3⟩ := zM (show (if -(2 ^ 62) <= i /\ i < 2 ^ 62 /\ -(2 ^ 62) <= j /\ j < 2 ^ 62 then some (yR i (j - i).toNat) else none) = some ds from h3)
  cases e3
  refine zjk hg hm ha hs hs2 pins s σ H R I ⟨F, B, ad, as, ps, _, Rl, h1, λ vs ad1 H1 R1 rv1 g1 => ?_⟩
  have vl := XS R1 rv1 h2
  cases vl with
  | cons v1 v2 =>
   cases v2 with
   | cons v2 v3 =>
    cases v3
    cases v1
    cases v2
    exact ⟨i, j, rfl, hj, q _ ad1 H1 R1 g1 (zlu i _)⟩)
theorem Rel.mut {K : zC} {F B : Addr -> Prop} {T fo : List Addr} {ad : Ad} {as : AS} {σ : St} {H : Hp} {i : Nat} {l : Addr} {fp fp' : List Addr} {n : O} {u : HO} (R : Rel K kd F B T ad as σ H) (hi : i < as.length) (hl : ad i = l :: fp) (hs : σ[i]? = some (some (.ref l)))
 (hsub : ∀ a ∈ fp' ++ fo, a ∈ fp ++ T) (hnd : (fp' ++ fo).Nodup) (hu : H l ≠ none)
 (ro : ∀ (H' : Hp) (G' : Addr -> Prop), H' l = some u -> Grow (Gw T ad) H G' H' -> (∀ a ∈ fp', ∀ w, H a = some w -> H' a = some w) -> RoS K kd F B G' H' (.ref l) n (l :: fp')) :
 Rel K kd F B fo (YF ad i (l :: fp')) (as.set i (some n)) σ (upd H l u) /\ Grow (Gw T ad) H (Gw fo (YF ad i (l :: fp'))) (upd H l u) := by
 have hli : l ∈ ad i := by rw [hl]; exact zzC
 have lT : l ∉ T := R.dis i l hli
 have lfp : l ∉ fp := by have := R.nd i; rw [hl] at this; exact (zzT.mp this).1
 have lsub : ∀ a ∈ fp' ++ fo, a ≠ l := λ a m e => by
  subst e
  rcases zzJ.mp (hsub _ m) with z | z
  · exact lfp z
  · exact lT z
 have sub : ∀ a ∈ fp' ++ fo, Gw T ad a := λ a m => by
  rcases zzJ.mp (hsub a m) with z | z
  · exact .inr ⟨i, by rw [hl]; exact zzA _ z⟩
  · exact .inl z
 have gsub : ∀ a, Gw fo (YF ad i (l :: fp')) a -> Gw T ad a := λ a z => by
  rcases z with z | ⟨j, z⟩
  · exact sub a (zzI _ z)
  · by_cases e : j = i
    · subst e
      rw [yj] at z
      rcases zS.mp z with z | z
      · subst z; exact .inr ⟨j, hli⟩
      · exact sub a (zzM _ z)
    · rw [yq e] at z; exact .inr ⟨j, z⟩
 have g : Grow (Gw T ad) H (Gw fo (YF ad i (l :: fp'))) (upd H l u) := ⟨λ b w h n => by rw [zO (λ e => n (by subst e; exact .inr ⟨i, hli⟩))]; exact h, λ b z => .inl (gsub b z)⟩
 have kn : ∀ a, H a ≠ none -> upd H l u a ≠ none := λ a z => by
  by_cases e : a = l
  · subst e; rw [yc]; simp
  · rw [zO e]; exact z
 obtain ⟨hnd1, hnd2, hnd3⟩ := List.nodup_append.mp hnd
 have inT : ∀ j a, j ≠ i -> a ∈ ad j -> a ∈ fp' ++ fo -> False := λ j a hj m m' => by
  rcases zzJ.mp (hsub a m') with z | z
  · exact hj (R.inj j i a m (by rw [hl]; exact zzA _ z))
  · exact R.dis j a m z
 refine ⟨⟨by rw [zzR]; exact R.len, λ j hj => ?_, λ j => ?_, λ j k a h1 h2 => ?_, hnd2, λ j a h1 h2 => ?_, λ a z => kn a (R.ftr a z), λ a z => ?_, λ a z => ⟨kn a (R.gtr a (gsub a z)).1, (R.gtr a (gsub a z)).2⟩, λ j s e => ?_⟩, g⟩
 · rw [zzR] at hj
   rw [yq (by omega)]; exact R.out j hj
 · by_cases e : j = i
   · subst e; rw [yj]
     exact zzT.mpr ⟨λ m => lsub l (zzM _ m) rfl, hnd1⟩
   · rw [yq e]; exact R.nd j
 · by_cases e : j = i
   · subst e
     by_cases e' : k = j
     · exact e'.symm
     · rw [yj] at h1
       rw [yq e'] at h2
       rcases zS.mp h1 with z | z
       · subst z; exact R.inj j k a hli h2
       · exact (inT k a e' h2 (zzM _ z)).elim
   · rw [yq e] at h1
     by_cases e' : k = i
     · subst e'
       rw [yj] at h2
       rcases zS.mp h2 with z | z
       · subst z; exact R.inj j k a h1 hli
       · exact (inT j a e h1 (zzM _ z)).elim
     · rw [yq e'] at h2
       exact R.inj j k a h1 h2
 · by_cases e : j = i
   · subst e
     rw [yj] at h1
     rcases zS.mp h1 with z | z
     · subst z; exact lsub a (zzI _ h2) rfl
     · exact hnd3 a z a h2 rfl
   · rw [yq e] at h1
     exact inT j a e h1 (zzI _ h2)
 · obtain ⟨b1, b2, b3⟩ := R.btr a z
   exact ⟨kn a b1, b2, λ y => b3 (gsub a y)⟩
 · by_cases q : j = i
   · subst q
     rw [List.getElem?_set_self hi] at e
     cases e
     rw [yj]
     refine ⟨_, hs, ro _ _ yc g λ a m w h => ?_⟩
     rw [zO (lsub a (zzM _ m))]; exact h
   · rw [zzV (Ne.symm q)] at e
     rw [yq q]
     refine (R.sl j s e).grow g λ a m w h => ?_
     rw [zO (λ z => q (R.inj j i l (by rw [<- z]; exact m) hli))]; exact h
abbrev MG := List O -> List O -> Option (List O × O)
def wX (i : Nat) (fr : DF) (g : MG) : EF := λ as => match as[i]? with
 | some (some (.nd .ls _)) => (fr as).bind λ p => match p.2[i]? with
  | some (some (.nd .ls os)) => (g os p.1).bind λ z => some (.ow z.2, p.2.set i (some (.nd .ls z.1)))
  | _ => none
 | _ => none
def MuD (X : Cx) (kd : KD) (r : V -> List V -> Hp -> VK -> Prop) (g : MG) : Prop :=
 ∀ (F B G : Addr -> Prop) (l : Addr) (vs ws : List V) (os es os' : List O) (o : O) (fp fq : List Addr) (H : Hp) (Q : VK), H l = some (.lst vs) -> Zb X.K kd F B G H vs os fp -> Zb X.K kd F B G H ws es fq -> (fp ++ fq).Nodup -> g os es = some (os', o) ->
  (∀ v vs' fp' fo, Zb X.K kd F B G H vs' os' fp' -> RoS X.K kd F B G H v o fo -> (∀ a ∈ fp' ++ fo, a ∈ fp ++ fq) -> (fp' ++ fo).Nodup -> Q v (upd H l (.lst vs'))) -> r (.ref l) ws H Q
theorem zqM {i : Nat} {fr : DF} {g : MG} {r : V -> List V -> Hp -> VK -> Prop} (hr : MuD X kd r g)
 {σ : St} {H : Hp} {Q : VK} (h : al X.K kd (wX i fr g) σ H Q) : tBM X.K "list" r (zfa i) (alD X.K kd fr) σ H Q := by
 obtain ⟨F, B, ad, as, z, as', R, e, q⟩ := h
 unfold wX at e
 cases k : as[i]? with
 | none => rw [k] at e; cases e
 | some a0 =>
  rw [k] at e
  match a0, e, k with
  | some (.nd .ls os0), e, k =>
   obtain ⟨⟨es, as1⟩, h1, e⟩ := bS_ (show (fr as).bind _ = _ from e)
   obtain ⟨v0, hs0, ro0⟩ := R.sl i _ k
   generalize hfp0 : ad i = fp0 at ro0
   cases ro0 with
   | ls hH0 rl0 =>
   rename_i l vs0 fp00
   refine ⟨_, hs0, .inl ⟨rfl, _, .inl (.inl hH0)⟩, F, B, ad, as, es, as1, R, h1, λ ws T1 ad1 H1 R1 ro1 g1 => ?_⟩
   cases k2 : as1[i]? with
   | none => rw [k2] at e; cases e
   | some a2 =>
    rw [k2] at e
    match a2, e, k2 with
    | some (.nd .ls os), e, k2 =>
     obtain ⟨⟨os', o⟩, h3, e⟩ := bS_ (show (g os es).bind _ = _ from e)
     cases e
     obtain ⟨v1, hs1, ro2⟩ := R1.sl i _ k2
     rw [hs0] at hs1
     cases hs1
     generalize hfp : ad1 i = fp1 at ro2
     cases ro2 with
     | ls hH rl =>
     rename_i vs fp
     have hnd : (fp ++ T1).Nodup := List.nodup_append.mpr ⟨by have := R1.nd i; rw [hfp] at this; exact (zzT.mp this).2, R1.tnd, λ a m b m' e => by
          subst e; exact R1.dis i a (by rw [hfp]; exact zzA _ m) m'⟩
     refine hr F B (Gw T1 ad1) _ vs ws os es os' o fp T1 H1 Q hH rl ro1 hnd h3 λ v vs' fp' fo rl' ro' hsub hnd' => ?_
     obtain ⟨R3, g3⟩ := R1.mut (n := .nd .ls os') (u := .lst vs') (zzD.mp k2).1 hfp hs0 hsub hnd' (by rw [hH]; simp) λ H' G' hl' gr kp => .ls hl' (Zb.grow gr kp rl')
     have lno : ∀ a ∈ fo, ∀ w, H1 a = some w -> upd H1 l (.lst vs') a = some w := λ a m w h => by
          rw [zO (λ e => ?_)]
          · exact h
          · subst e
            rcases zzJ.mp (hsub _ (zzI _ m)) with z | z
            · have := R1.nd i; rw [hfp] at this; exact (zzT.mp this).1 z
            · exact R1.dis i _ (by rw [hfp]; exact zzC) z
     exact q v fo _ _ R3 (RoS.grow g3 lno ro') (g1.trans g3)
end
end PF
end
section
set_option exponentiation.threshold 5000
namespace PF
open PySem PySem.Spec PyProof.Rows L2
section
variable {K : zC} {kd : KD} {O : Addr -> Prop} {H : Hp} {Q : VK}
theorem yr {d : D} {v : V} (q : RQ K kd O H Q (.im d)) (r : Rp K kd O H v d) : Q v H := q v H (λ _ _ z => z) r
theorem ziL {vs : List V} {ds : List D} {p : Addr} {o : HO} (hp : H p = none) (r : RpL K kd O H vs ds) : RpL K kd (Un2 O (· = p)) (upd H p o) vs ds :=
 RpL.grow (F := O) (W := λ _ => False) ⟨λ b u q _ => by rw [zO (yd q hp)]; exact q, λ b z => .inr (by rw [z]; exact hp)⟩ (r.less λ a z => z.elim id False.elim)
theorem zmT {vs : List (Key × V)} {ds : List (Key × D)} {p : Addr} {o : HO} (hp : H p = none) (r : RpM K kd O H vs ds) : RpM K kd (Un2 O (· = p)) (upd H p o) vs ds :=
 RpM.grow (F := O) (W := λ _ => False) ⟨λ b u q _ => by rw [zO (yd q hp)]; exact q, λ b z => .inr (by rw [z]; exact hp)⟩ (r.less λ a z => z.elim id False.elim)
theorem v6 {p : Addr} {o : HO} (hp : H p = none) : ∀ b u, H b = some u -> upd H p o b = some u := λ b u q => by rw [zO (yd q hp)]; exact q
theorem V8 {vs : List V} {ds : List D} (q : RQ K kd O H Q (.fl ds)) (r : RpL K kd O H vs ds) : ∀ p, H p = none -> Q (.ref p) (upd H p (.lst vs)) := λ p hp =>
 q p vs _ hp (v6 hp) yc (ziL hp r)
theorem zlz {vs : List (Key × V)} {ds : List (Key × D)} (q : RQ K kd O H Q (.fd ds)) (r : RpM K kd O H vs ds) : ∀ p, H p = none -> Q (.ref p) (upd H p (.dK vs)) := λ p hp =>
 q p vs _ hp (v6 hp) yc (zmT hp r)
theorem zfG {vs : List V} {ds : List D} (ht : ∀ a, O a -> H a ≠ none) (q : RQ K kd O H Q (.im (.tup ds))) (r : RpL K kd O H vs ds) : ∀ p, H p = none -> Q (.ref p) (upd H p (.tup vs)) := λ p hp =>
 q _ _ (v6 hp) (.tup (λ z => ht p z hp) (.inl yc) ((ziL hp r).less λ a z => .inl z))
end
def big : Nat := 2 ^ 4000
theorem zfU {i : Int} (h : i.natAbs < big) : Builtin.Int.intBits i <= 2 ^ 20 := by
 unfold Builtin.Int.intBits
 split
 · exact Nat.zero_le _
 · have : i.natAbs.log2 < 4000 := by
    rcases Nat.eq_zero_or_pos i.natAbs with h0 | hp
    · rw [h0]; decide
    · exact (Nat.log2_lt (Nat.ne_of_gt hp)).mpr h
   have e : (2 : Nat) ^ 20 = 1048576 := by decide
   omega
def onI (f : Int -> Int -> Option R0) (x y : D) : Option R0 := (asI x).bind λ i => (asI y).bind λ j => f i j
def zrv (x y : D) : Option R0 := match x with
 | .int i => (asI y).bind λ j => some (.im (.int (i + j)))
 | .str x => (asS y).bind λ y => if x.length + y.length <= sizeLine then some (.im (.str (x ++ y))) else none
 | .lst xs => (asL y).bind λ ys => if xs.length + ys.length <= sizeLine then some (.fl (xs ++ ys)) else none
 | .tup xs => (asT y).bind λ ys => if xs.length + ys.length <= sizeLine then some (.im (.tup (xs ++ ys))) else none
 | _ => none
def zrT (x y : D) : Option R0 := match x with
 | .int i => (asI y).bind λ j => if i.natAbs < big /\ j.natAbs < big then some (.im (.int (i * j))) else none
 | .lst xs => (asI y).bind λ k => if -(2 ^ 63) <= k /\ k < 2 ^ 63 /\ xs.length * k.toNat <= sizeLine then some (.fl (List.replicate k.toNat xs).flatten) else none
 | .tup xs => (asI y).bind λ k => if 1 <= k /\ k < 2 ^ 63 /\ xs.length ≠ 0 /\ xs.length * k.toNat <= sizeLine then some (.im (.tup (List.replicate k.toNat xs).flatten)) else none
 | _ => none
def zm (o : Operator) (x y : D) : Option R0 := match o with
 | .Add => zrv x y
 | .Sub => onI (λ i j => some (.im (.int (i - j)))) x y
 | .Mult => zrT x y
 | .FloorDiv => onI (λ i j => if 0 < j /\ j.natAbs < big then some (.im (.int (i / j))) else none) x y
 | .Mod => onI (λ i j => if 0 < j then some (.im (.int (i % j))) else none) x y
 | .Pow => onI (λ i j => if 0 <= j /\ j <= 1000000 /\ i.natAbs < 2 ^ 64 then some (.im (.int (i ^ j.toNat))) else none) x y
 | _ => none
theorem Xf {K : zC} {kd : KD} {O : Addr -> Prop} {H : Hp} {v : V} {d : D} {i : Int} (h : Vw K kd O H v d) (e : asI d = some i) : d = .int i /\ v = .int i := by
 cases h with
 | int j => cases e; exact ⟨rfl, rfl⟩
 | _ => cases e
theorem zpo {K : zC} {kd : KD} {O : Addr -> Prop} {H : Hp} {v : V} {d : D} {i : Str} (h : Vw K kd O H v d) (e : asS d = some i) : d = .str i /\ v = .str i := by
 cases h with
 | str j => cases e; exact ⟨rfl, rfl⟩
 | _ => cases e
theorem Xb {K : zC} {kd : KD} {O : Addr -> Prop} {H : Hp} {v w : V} {d e : D} {f : Int -> Int -> Option R0} {r : R0} (vx : Vw K kd O H v d) (vy : Vw K kd O H w e) (h : onI f d e = some r) : ∃ i j, v = .int i /\ w = .int j /\ f i j = some r := by
 obtain ⟨i, h1, h⟩ := bS_ (show (asI d).bind _ = _ from h)
 obtain ⟨j, h2, h⟩ := bS_ h
 exact ⟨i, j, (Xf vx h1).2, (Xf vy h2).2, h⟩
section
variable {X : Cx} {kd : KD}
theorem zmq : OpR X (binaryOp .Add) (λ x y H Q => ∃ l b xs zs, x = .ref l /\ y = .ref b /\ RdL X.K H l xs /\ RdL X.K H b zs /\ xs.length + zs.length <= sizeLine /\ ∀ p, H p = none -> Q (.ref p) (upd H p (.lst (xs ++ zs)))) := by
 intro pins s σ H x y v u Q I rx ry h
 obtain ⟨l, b, xs, zs, rfl, rfl, hH, hB, hz, q⟩ := h
 cases rx
 cases ry
 obtain ⟨z, its, n, r, e⟩ := zhJ I hH
 obtain ⟨z2, its2, n2, r2, e2⟩ := zhJ I hB
 have hl := r.length
 have hl2 := r2.length
 refine PySem.P.add_list e e2 ?_ (by rw [zzE, zzE]; omega)
 have ea : its.toArray ++ its2.toArray = (its ++ its2).toArray := by simp
 rw [ea]
 exact ⟨.ref _, _, I.lnew (t' := s.toks) (r.append r2) (by rw [zzG]; omega), rfl, q _ I.fresh⟩
theorem zmV : OpR X (binaryOp .Mult) (λ x y H Q => ∃ l k xs, x = .ref l /\ y = .int k /\ RdL X.K H l xs /\ -(2 ^ 63) <= k /\ k < 2 ^ 63 /\ xs.length * k.toNat <= sizeLine /\
 ∀ p, H p = none -> Q (.ref p) (upd H p (.lst (List.replicate k.toNat xs).flatten))) := by
 intro pins s σ H x y v u Q I rx ry h
 obtain ⟨l, k, xs, rfl, rfl, hH, h1, h2, hz, q⟩ := h
 cases rx
 obtain ⟨t, rfl⟩ := ry
 obtain ⟨z, its, n, r, e⟩ := zhJ I hH
 have hl := r.length
 have hlen : its.toArray.size * k.toNat <= sizeLine := by rw [zzE, <- hl]; exact hz
 have hcap : ¬ its.toArray.size * k.toNat > (2 ^ 63 - 1) / 8 := by
  have : (sizeLine : Nat) <= (2 ^ 63 - 1) / 8 := by decide
  omega
 have hfit : ¬ (!Builtin.List.listFitsIndex k) = true := by
  rw [fitsIndex_both h1 h2]
  exact Bool.false_ne_true
 have hlong : ¬ Builtin.List.listTooLong (its.toArray.size * k.toNat) = true := by
  rw [zkx hlen]
  exact Bool.false_ne_true
 have hnew : List.foldl (λ x1 x2 => x1 ++ x2) #[] (List.replicate (if its.toArray.isEmpty = true then 0 else k.toNat) its.toArray) = (List.replicate k.toNat its).flatten.toArray := by
  have f0 : ∀ m : Nat, List.foldl (λ x1 x2 => x1 ++ x2) #[] (List.replicate m its.toArray) = (List.replicate m its).flatten.toArray := λ m => by
   have := foldl_rep its m []
   rw [List.nil_append] at this
   exact this
  rw [f0]
  cases its with
  | nil => simp
  | cons a r' => rw [if_neg (by simp)]
 refine wpAny_binaryOp_repeat_ref (T := "list") (U := "int") (by decide) ⟨_, e, rfl⟩ (λ s' => typeIs_int s' k t) noFill_list_mul F.fills_int_mul F.slot_int_rmul repeat_list F.slot_int_index.lookup
  (call_meets F.slot_int_rmul (typeIs_int s k t) F.entry_int_rmul (F.args_int_rmul_2 _ _) (int___rmul___int_list k t l its.toArray n)
   ⟨e, rfl, ⟨_, e, rfl⟩, call_meets F.slot_list_mul ⟨_, e, rfl⟩ F.entry_list_mul (F.args_list_mul_2 _ _) (AutoListH.list___mul___list_int_3 l its.toArray n k t hfit hcap hlong) ⟨e, ?_⟩⟩)
 rw [hnew]
 refine ⟨.ref _, _, I.lnew (t' := s.toks) (r.rep k.toNat) ?_, rfl, q _ I.fresh⟩
 rw [len_rep, Nat.mul_comm]
 exact hz
theorem tuple_addW0 (l b : Addr) (items items2 : Array Value) (n n2 : Nat) (dd dd2 : Option Addr) (sl sl2 : Array (Option Value)) (h0 : items.isEmpty = true) :
 Meets (Builtin.«tuple.__add__» { pos := [.ref l, .ref b] }) (λ _ R s => s.heap.get? l = some { cls := .type "tuple", dict := dd, data := .seq items n, slots := sl } /\ s.heap.get? b = some { cls := .type "tuple", dict := dd2, data := .seq items2 n2, slots := sl2 } /\ R (.ok (.ret (.ref b))) s) :=
 .of_wp λ prog w A R s h => by
  obtain ⟨hp, g, d, tk, os⟩ := s; obtain ⟨hl, hb, h⟩ := h
  have f2 := AutoSeq1.sub_tuple_tuple
  wp_walk using wpAny_loadPart' hl, wpAny_loadPart' hb
  exact ⟨_, rfl, h⟩
theorem zgM (l : Addr) (items : Array Value) (n : Nat) (dd : Option Addr) (sl : Array (Option Value)) (u : Tok) :
 Meets (Builtin.«tuple.__mul__» { pos := [.ref l, .int 1 u] }) (λ _ R s => s.heap.get? l = some { cls := .type "tuple", dict := dd, data := .seq items n, slots := sl } /\ R (.ok (.ret (.ref l))) s) :=
 .of_wp λ prog w A R s h => by
  obtain ⟨hp, g, d, tk, os⟩ := s; obtain ⟨hl, h⟩ := h
  have f2 := AutoSeq1.sub_tuple_tuple
  wp_walk using wpAny_loadPart' hl
  exact ⟨_, rfl, h⟩
theorem zgF (l : Addr) (items its2 : Array Value) (n : Nat) (dd : Option Addr) (sl : Array (Option Value)) (x : Int) (u : Tok) (c1 : ¬ (decide (x < -2 ^ 63) || decide (x ≥ 2 ^ 63)) = true) (c2 : ¬ (items.isEmpty || x == 1) = true) (c3 : ¬ (decide (x <= 0) || items.isEmpty) = true)
 (hcap : ¬ (items.size : Int) * x > (2 ^ 63 - 1) / 8) (ht : ¬ Builtin.Tuple.tupleTooMany (items.size * x) = true) (hz : ¬ (List.foldl (λ x1 x2 => x1 ++ x2) #[] (List.replicate x.toNat items)).size > sizeLine) :
 Meets (Builtin.«tuple.__mul__» { pos := [.ref l, .int x u] }) (λ _ R s => s.heap.get? l = some { cls := .type "tuple", dict := dd, data := .seq items n, slots := sl } /\ R (.ok (.ret (.ref s.heap.objs.size))) { s with heap := s.heap.push { cls := .type "tuple", data := .seq (List.foldl (λ x1 x2 => x1 ++ x2) #[] (List.replicate x.toNat items)) } }) :=
 .of_wp λ prog w A R s h => by
  obtain ⟨hp, g, d, tk, os⟩ := s; obtain ⟨hl, h⟩ := h
  have f2 := AutoSeq1.sub_tuple_tuple
  wp_walk using wpAny_loadPart' hl
  rw [if_neg c1]
  wp_walk using wpAny_loadPart' hl
  rw [if_neg hcap]
  wp_walk
  exact ⟨_, rfl, h⟩
theorem zbi : fillsNumberSlot (Value.type "tuple") "mul" = pure false := PySem.fillsNumberSlot_seq rfl rfl rfl rfl
theorem zfq : seqRepeat? (Value.type "tuple") = pure (some (Value.builtin "tuple.__mul__")) := W.of_pureOf rfl
theorem zcJ (a : Int) (t : Tok) (l : Addr) (items : Array Value) (n : Nat) (dd : Option Addr) (sl : Array (Option Value)) :
 Meets (Builtin.«int.__rmul__» { pos := [.int a t, .ref l] }) (λ _ R s => s.heap.get? l = some { cls := .type "tuple", dict := dd, data := .seq items n, slots := sl } /\ R (.ok (.ret .notImplemented)) s) :=
 .of_wp λ prog w A R s h => by
  obtain ⟨hp, g, d, tk, os⟩ := s; obtain ⟨hl, h⟩ := h
  wp_walk using wpAny_load' hl, wpAny_loadPart' hl
  exact ⟨_, rfl, h⟩
theorem znk : OpR X (binaryOp .Add) (λ x y H Q => ∃ a b ys, x = .ref a /\ y = .ref b /\ SqT X.K H a [] /\ SqT X.K H b ys /\ Q (.ref b) H) := by
 intro pins s σ H x y v u Q I rx ry h
 obtain ⟨a, b, ys, rfl, rfl, ha, hb, q⟩ := h
 cases rx
 cases ry
 obtain ⟨its, r1, p1, _⟩ := I.tuple ha
 obtain ⟨its2, r2, p2, _⟩ := I.tuple hb
 cases r1
 obtain ⟨⟨cls, dd, data, sl⟩, ho, hc, n, hd⟩ := id p1
 obtain ⟨⟨cls2, dd2, data2, sl2⟩, ho2, hc2, n2, hd2⟩ := id p2
 simp only at hc hd hc2 hd2
 subst hc hd hc2 hd2
 exact concat_meets ⟨_, ho, rfl⟩ ⟨_, ho2, rfl⟩ noFill_tuple_add seq_tuple_add PySem.F.slot_tuple_add PySem.F.entry_tuple_add (PySem.F.args_tuple_add_2 _ _) (tuple_addW0 a b _ _ n n2 dd dd2 sl sl2 rfl) ⟨ho, ho2, ⟨.ref b, H, I, rfl, q⟩⟩
theorem zmw : OpR X (binaryOp .Mult) (λ x y H Q => ∃ l k xs, x = .ref l /\ y = .int k /\ SqT X.K H l xs /\ xs ≠ [] /\ 1 <= k /\ k < 2 ^ 63 /\ xs.length * k.toNat <= sizeLine /\ (k = 1 -> Q (.ref l) H) /\
 (2 <= k -> ∀ p, H p = none -> Q (.ref p) (upd H p (.tup (List.replicate k.toNat xs).flatten)))) := by
 intro pins s σ H x y v u Q I rx ry h
 obtain ⟨l, k, xs, rfl, rfl, hH, hne, h1, h2, hz, q1, q2⟩ := h
 cases rx
 obtain ⟨t, rfl⟩ := ry
 obtain ⟨its, r, p, _⟩ := I.tuple hH
 have hl := r.length
 have hlen : its.toArray.size * k.toNat <= sizeLine := by rw [zzE, <- hl]; exact hz
 have hki : ((its.toArray.size : Int) * k) = ((its.toArray.size * k.toNat : Nat) : Int) := by
  rw [zzS, Int.toNat_of_nonneg (by omega)]
 have he : its.toArray.isEmpty = false := by
  cases its with
  | nil => rw [List.length_nil] at hl; exact absurd (List.length_eq_zero_iff.mp hl) hne
  | cons a r' => rfl
 have hnew : List.foldl (λ x1 x2 => x1 ++ x2) #[] (List.replicate k.toNat its.toArray) = (List.replicate k.toNat its).flatten.toArray := by
  have := foldl_rep its k.toNat []
  rw [List.nil_append] at this
  exact this
 obtain ⟨⟨cls, dd, data, sl⟩, ho, hc, n, hd⟩ := id p
 simp only at hc hd
 subst hc hd
 refine wpAny_binaryOp_repeat_ref (T := "tuple") (U := "int") (by decide) ⟨_, ho, rfl⟩ (λ s' => typeIs_int s' k t) zbi F.fills_int_mul F.slot_int_rmul zfq F.slot_int_index.lookup
  (call_meets F.slot_int_rmul (typeIs_int s k t) F.entry_int_rmul (F.args_int_rmul_2 _ _) (zcJ k t l its.toArray n dd sl) ⟨ho, rfl, ⟨_, ho, rfl⟩, ?_⟩)
 by_cases hk : k = 1
 · subst hk
   exact call_meets F.slot_tuple_mul ⟨_, ho, rfl⟩ F.entry_tuple_mul (F.args_tuple_mul_2 _ _) (zgM l its.toArray n dd sl t) ⟨ho, ⟨.ref l, H, I, rfl, q1 rfl⟩⟩
 · have hfl : (List.replicate k.toNat xs).flatten.length <= sizeLine := by rw [len_rep, Nat.mul_comm]; exact hz
   refine call_meets F.slot_tuple_mul ⟨_, ho, rfl⟩ F.entry_tuple_mul (F.args_tuple_mul_2 _ _) (zgF l its.toArray #[] n dd sl k t (by simp; omega) (by rw [he]; simpa using hk) (by rw [he]; simp; omega) ?_ ?_ ?_) ⟨ho, ?_⟩
   · rw [hki]
     have : ((sizeLine : Nat) : Int) <= (2 ^ 63 - 1) / 8 := by decide
     omega
   · unfold Builtin.Tuple.tupleTooMany
     rw [hki]
     simp only [gt_iff_lt, decide_eq_true_eq]
     omega
   · rw [hnew, zzE, len_rep, Nat.mul_comm]
     rw [zzE] at hlen
     omega
   · rw [hnew]
     refine ⟨.ref s.heap.objs.size, _, I.laid (t' := s.toks) (o := .tup (List.replicate k.toNat xs).flatten) (λ b ob q => Heap.get?_push_of_some _ q) (zzK _) ?_, rfl, q2 (by omega) _ (I.hok.fresh (zzK _))⟩
     exact ⟨hfl, _, r.rep k.toNat, IsTup.new _ _⟩
theorem zq (op : Operator) : OpD X kd (binaryOp op) (zm op) := by
 intro pins s σ H x y v u Q I rx ry h
 obtain ⟨O, d, e, r, ht, vx, vy, he, q⟩ := h
 cases op with
 | Add =>
  cases vx with
  | int i =>
   obtain ⟨j, h1, he⟩ := bS_ (show (asI e).bind _ = _ from he)
   obtain ⟨rfl, rfl⟩ := Xf vy h1
   cases he
   exact zpI pins s σ H _ _ v u Q I rx ry ⟨_, _, rfl, rfl, yr q (.int _)⟩
  | str i =>
   obtain ⟨j, h1, he⟩ := bS_ (show (asS e).bind _ = _ from he)
   obtain ⟨rfl, rfl⟩ := zpo vy h1
   obtain ⟨c, rfl⟩ := zM he
   exact zhf pins s σ H _ _ v u Q I rx ry ⟨_, _, rfl, rfl, c, yr q (.str _)⟩
  | lst hx rx' =>
   obtain ⟨j, h1, he⟩ := bS_ (show (asL e).bind _ = _ from he)
   cases zdn h1
   obtain ⟨c, rfl⟩ := zM he
   cases vy with
   | lst hy ry' => exact zmq pins s σ H _ _ v u Q I rx ry ⟨_, _, _, _, rfl, rfl, hx, hy, by rw [rx'.length, ry'.length]; exact c, V8 q (rx'.append ry')⟩
  | @tup a1 vs1 ds1 r1 hx rx' =>
   obtain ⟨j, h1, he⟩ := bS_ (show (asT e).bind _ = _ from he)
   cases zkZ h1
   obtain ⟨c, rfl⟩ := zM he
   cases vy with
   | tup r2 hy ry' =>
    by_cases h0 : vs1 = ([] : List V)
    · subst h0
      cases rx'
      exact znk pins s σ H _ _ v u Q I rx ry ⟨_, _, _, rfl, rfl, hx, hy, yr q r2⟩
    refine zmG pins s σ H _ _ v u Q I rx ry ⟨_, _, _, _, rfl, rfl, hx, hy, h0, by rw [rx'.length, ry'.length]; exact c, λ hn => ?_, λ hn => zfG ht q (rx'.append ry')⟩
    · subst hn
      cases ry'
      rw [List.append_nil] at q
      exact yr q r1
  | _ => cases he
 | Sub =>
  obtain ⟨i, j, rfl, rfl, he⟩ := Xb vx vy he
  cases he
  exact zpu pins s σ H _ _ v u Q I rx ry ⟨_, _, rfl, rfl, yr q (.int _)⟩
 | Mult =>
  cases vx with
  | int i =>
   obtain ⟨j, h1, he⟩ := bS_ (show (asI e).bind _ = _ from he)
   obtain ⟨rfl, rfl⟩ := Xf vy h1
   obtain ⟨c, rfl⟩ := zM he
   obtain ⟨t, rfl⟩ := rx
   obtain ⟨t', rfl⟩ := ry
   exact mul_int ⟨.int _, H, I.tok _, ⟨_, rfl⟩, yr q (.int _)⟩ (IntMulOk.of_bits (zfU c.1) (zfU c.2))
  | lst hx rx' =>
   obtain ⟨j, h1, he⟩ := bS_ (show (asI e).bind _ = _ from he)
   obtain ⟨rfl, rfl⟩ := Xf vy h1
   obtain ⟨c, rfl⟩ := zM he
   exact zmV pins s σ H _ _ v u Q I rx ry ⟨_, _, _, rfl, rfl, hx, c.1, c.2.1, by rw [rx'.length]; exact c.2.2, V8 q (rx'.rep _)⟩
  | tup r1 hx rx' =>
   obtain ⟨j, h1, he⟩ := bS_ (show (asI e).bind _ = _ from he)
   obtain ⟨rfl, rfl⟩ := Xf vy h1
   obtain ⟨c, rfl⟩ := zM he
   refine zmw pins s σ H _ _ v u Q I rx ry ⟨_, _, _, rfl, rfl, hx, λ e => ?_, c.1, c.2.1, by rw [rx'.length]; exact c.2.2.2, λ e => ?_, λ _ => zfG ht q (rx'.rep _)⟩
   · have := rx'.length
     rw [e] at this
     exact c.2.2.1 this.symm
   · subst e
     refine yr q ?_
     rw [show (1 : Int).toNat = 1 from rfl, List.replicate_one, List.flatten_cons, List.flatten_nil, List.append_nil]
     exact r1
  | _ => cases he
 | FloorDiv =>
  obtain ⟨i, j, rfl, rfl, he⟩ := Xb vx vy he
  obtain ⟨c, rfl⟩ := zM he
  obtain ⟨t, rfl⟩ := rx
  obtain ⟨t', rfl⟩ := ry
  refine floordiv_int (by omega) ?_ (.inl (PyProof.noPylong_of_log2 ?_))
  · rw [Int.fdiv_eq_ediv_of_nonneg _ (by omega)]
    exact ⟨.int _, H, I.tok _, ⟨_, rfl⟩, yr q (.int _)⟩
  · exact zzH ((Nat.log2_lt (by have := c.1; omega)).mpr (show _ < 2 ^ 4000 from c.2)) (by decide)
 | Mod =>
  obtain ⟨i, j, rfl, rfl, he⟩ := Xb vx vy he
  obtain ⟨c, rfl⟩ := zM he
  exact zpi pins s σ H _ _ v u Q I rx ry ⟨_, _, rfl, rfl, c, yr q (.int _)⟩
 | Pow =>
  obtain ⟨i, j, rfl, rfl, he⟩ := Xb vx vy he
  obtain ⟨c, rfl⟩ := zM he
  exact zpn pins s σ H _ _ v u Q I rx ry ⟨_, _, rfl, rfl, c, yr q (.int _)⟩
 | _ => cases he
end
def eqL (f : D -> D -> Option Bool) : List D -> List D -> Option Bool
 | [], [] => some true
 | x :: r, y :: t => (f x y).bind λ b => (eqL f r t).bind λ c => some (b && c)
 | _, _ => some false
def eqF : Nat -> D -> D -> Option Bool
 | 0, _, _ => none
 | _ + 1, .non, .non => some true
 | _ + 1, .bl a, .bl b => some (a == b)
 | _ + 1, .int a, .int b => some (a == b)
 | _ + 1, .str a, .str b => some (a == b)
 | _ + 1, .bl a, .int b => some ((if a then 1 else 0) == b)
 | _ + 1, .int a, .bl b => some (a == (if b then 1 else 0))
 | n + 1, .lst xs, .lst ys => eqL (eqF n) xs ys
 | n + 1, .tup xs, .tup ys => eqL (eqF n) xs ys
 | _ + 1, .dct _, _ => none
 | _ + 1, .cl _, _ => none
 | _ + 1, .ob _ _ _, _ => none
 | _ + 1, _, .dct _ => none
 | _ + 1, _, .cl _ => none
 | _ + 1, _, .ob _ _ _ => none
 | _ + 1, _, _ => some false
def eqJ (f : D -> D -> Option Bool) (xs ys : List D) (j : Nat) : Bool := match xs[j]?, ys[j]? with
 | some d, some e => (f d e).getD false
 | _, _ => false
theorem zdb {f : D -> D -> Option Bool} : ∀ {xs ys : List D} {b : Bool}, eqL f xs ys = some b -> (∀ (j : Nat) d e, xs[j]? = some d -> ys[j]? = some e -> ∃ c, f d e = some c) /\
 b = ((List.range (min xs.length ys.length)).all (eqJ f xs ys) && xs.length == ys.length)
 | [], [], b, h => by cases h; exact ⟨λ j d e h => by simp at h, by simp⟩
 | [], y :: t, b, h => by cases h; exact ⟨λ j d e h => by simp at h, by simp⟩
 | x :: r, [], b, h => by cases h; exact ⟨λ j d e _ h => by simp at h, by simp⟩
 | x :: r, y :: t, b, h => by
  obtain ⟨b1, h1, h⟩ := bS_ (show (f x y).bind _ = _ from h)
  obtain ⟨c1, h2, h⟩ := bS_ h
  cases h
  obtain ⟨k1, k2⟩ := zdb h2
  refine ⟨λ j d e hd he => ?_, ?_⟩
  · cases j with
    | zero => simp at hd he; subst hd he; exact ⟨b1, h1⟩
    | succ j => exact k1 j d e (by simpa using hd) (by simpa using he)
  · have e0 : min (x :: r).length (y :: t).length = min r.length t.length + 1 := by simp only [zzQ]; omega
    rw [e0, List.range_succ_eq_map, List.all_cons, List.all_map, k2]
    have e1 : eqJ f (x :: r) (y :: t) 0 = b1 := by show (f x y).getD false = b1; rw [h1]; rfl
    have e2 : (eqJ f (x :: r) (y :: t) ∘ Nat.succ) = eqJ f r t := by
     funext j
     show eqJ f (x :: r) (y :: t) (j + 1) = _
     unfold eqJ
     simp
    have e3 : ((x :: r).length == (y :: t).length) = (r.length == t.length) := by
     by_cases hh : r.length = t.length <;> simp [hh]
    rw [e1, e2, e3, Bool.and_assoc]
structure EqAll (A : Around) (s : Shared) (u v : Value) (b : Bool) : Prop where
 rc : SeqAt.RcAt A s u v b
 ne : SeqAt.RcNeAt A s u v (!b)
 eq : SeqAt.EqAt A s u v b
section
variable {X : Cx} {kd : KD} {pins : List (Addr × Obj)} {σ : St} {H : Hp} {s : Shared} {O : Addr -> Prop}
theorem zhO (I : Inv X pins σ H s) {a : Addr} {xs ys : List V} (h : SqT X.K H a xs) (h' : SqL X.K H a ys) : False := by
 obtain ⟨_, _, ⟨o, e, c, _⟩, _⟩ := I.tuple h
 obtain ⟨_, _, ⟨o', n, e', c', _⟩, _⟩ := I.list h'
 rw [e] at e'
 cases e'
 rw [c] at c'
 exact absurd c' (by decide)
theorem zhZ (I : Inv X pins σ H s) : ∀ (n : Nat) (v : V) (d e : D) (b : Bool), Vw X.K kd O H v d -> Vw X.K kd O H v e -> eqF n d e = some b -> b = true
 | 0, _, _, _, _, _, _, h => by cases h
 | n + 1, v, d, e, b, h1, h2, h => by
  have lst : ∀ (vs : List V) (ds es : List D) (b : Bool), RpL X.K kd O H vs ds -> RpL X.K kd O H vs es -> eqL (eqF n) ds es = some b -> b = true := by
   intro vs
   induction vs with
   | nil => intro ds es b r1 r2 h; cases r1; cases r2; cases h; rfl
   | cons v vs ih =>
    intro ds es b r1 r2 h
    cases r1 with
    | cons a1 r1 =>
     cases r2 with
     | cons a2 r2 =>
      obtain ⟨b1, k1, h⟩ := bS_ (show (eqF n _ _).bind _ = _ from h)
      obtain ⟨c1, k2, h⟩ := bS_ h
      cases h
      rw [zhZ I n _ _ _ _ a1.vw a2.vw k1, ih _ _ _ r1 r2 k2]
      rfl
  cases h1 with
  | non => cases h2; cases h; rfl
  | bl x => cases h2; cases h; simp
  | int x => cases h2; cases h; simp
  | str x => cases h2; cases h; simp
  | tup r1 s1 l1 =>
   cases h2 with
   | tup r2 s2 l2 =>
    have := I.tuple_inj s1 s2
    subst this
    exact lst _ _ _ _ l1 l2 h
   | lst s2 l2 => exact (zhO I s1 s2.sq).elim
   | _ => cases h
  | lst s1 l1 =>
   cases h2 with
   | tup r2 s2 l2 => exact (zhO I s2 s1.sq).elim
   | lst s2 l2 =>
    have := I.list_inj s1.sq s2.sq
    subst this
    exact lst _ _ _ _ l1 l2 h
   | _ => cases h
  | _ => cases h
theorem zfA (I : Inv X pins σ H s) : ∀ (n : Nat) (A : Around) (x y : V) (d e : D) (u v : Value) (b : Bool), A.units + n < cLine -> Vw X.K kd O H x d -> Vw X.K kd O H y e -> RelV x u -> RelV y v -> eqF n d e = some b -> EqAll A s u v b
 | 0, _, _, _, _, _, _, _, _, _, _, _, _, _, h => by cases h
 | n + 1, A, x, y, d, e, u, v, b, hu, h1, h2, r1, r2, h => by
  have hu0 : A.units < cLine := by omega
  have itm : ∀ {vs ws : List V} {its its2 : List Value} {ds es : List D}, RpL X.K kd O H vs ds -> RpL X.K kd O H ws es -> Vals vs its -> Vals ws its2 -> (∀ (j : Nat) d e, ds[j]? = some d -> es[j]? = some e -> ∃ c, eqF n d e = some c) ->
   ∀ j (h1 : j < its.toArray.size) (h2 : j < its2.toArray.size), SeqAt.EqAt A.in1 s its.toArray[j] its2.toArray[j] (eqJ (eqF n) ds es j) := by
   intro vs ws its its2 ds es l1 l2 v1 v2 hd j j1 j2
   have q1 : j < ds.length := by rw [<- l1.length, v1.length]; simpa using j1
   have q2 : j < es.length := by rw [<- l2.length, v2.length]; simpa using j2
   obtain ⟨a1, ha1, ra1⟩ := l1.get (zzB q1)
   obtain ⟨a2, ha2, ra2⟩ := l2.get (zzB q2)
   obtain ⟨u1, hu1, ru1⟩ := v1.get ha1
   obtain ⟨u2, hu2, ru2⟩ := v2.get ha2
   obtain ⟨c, hc⟩ := hd j _ _ (zzB q1) (zzB q2)
   have e1 : its.toArray[j] = u1 := by
    have := (zzD.mp hu1).2
    simpa using this
   have e2 : its2.toArray[j] = u2 := by
    have := (zzD.mp hu2).2
    simpa using this
   rw [e1, e2]
   have e3 : eqJ (eqF n) ds es j = c := by
    unfold eqJ
    rw [zzB q1, zzB q2]
    show (eqF n _ _).getD false = c
    rw [hc]; rfl
   rw [e3]
   exact (zfA I n A.in1 a1 a2 _ _ u1 u2 c (by show A.units + 1 + n < cLine; omega) ra1.vw ra2.vw ru1 ru2 hc).eq
  have same : ∀ {a a' : Addr}, x = .ref a -> y = .ref a' -> a = a' -> b = true := by
   intro a a' e1 e2 e3
   subst e1 e2 e3
   exact zhZ I (n + 1) _ _ _ _ h1 h2 h
  cases h1 with
  | non =>
   cases r1
   cases h2 with
   | non => cases r2; cases h; exact ⟨SeqAt.RcAt.none_none, SeqAt.RcNeAt.none_none, SeqAt.EqAt.same _⟩
   | bl => cases r2; cases h; exact ⟨SeqAt.RcAt.none_bool _, SeqAt.RcNeAt.none_bool _, SeqAt.EqAt.none_bool _⟩
   | int => obtain ⟨t, rfl⟩ := r2; cases h; exact ⟨SeqAt.RcAt.none_int _ _, SeqAt.RcNeAt.none_int _ _, SeqAt.EqAt.none_int _ _⟩
   | str => obtain ⟨t, rfl⟩ := r2; cases h; exact ⟨SeqAt.RcAt.none_str _ _, SeqAt.RcNeAt.none_str _ _, SeqAt.EqAt.none_str _ _⟩
   | tup r s2 l2 =>
    cases r2; cases h
    obtain ⟨its, rv, p, _⟩ := I.tuple s2
    exact ⟨SeqAt.RcAt.none_tuple p hu0, SeqAt.RcNeAt.none_tuple p hu0, SeqAt.EqAt.none_tuple p hu0⟩
   | lst s2 l2 =>
    cases r2; cases h
    obtain ⟨its, rv, p, _⟩ := I.list s2.sq
    exact ⟨SeqAt.RcAt.none_list p.isList hu0, SeqAt.RcNeAt.none_list p.isList hu0, SeqAt.EqAt.none_list p.isList hu0⟩
   | _ => cases h
  | bl c =>
   cases r1
   cases h2 with
   | non => cases r2; cases h; exact ⟨SeqAt.RcAt.bool_none _, SeqAt.RcNeAt.bool_none _, SeqAt.EqAt.bool_none _⟩
   | bl => cases r2; cases h; exact ⟨SeqAt.RcAt.bool_bool _ _, SeqAt.RcNeAt.bool_bool _ _, SeqAt.EqAt.bool_bool _ _⟩
   | int => obtain ⟨t, rfl⟩ := r2; cases h; exact ⟨SeqAt.RcAt.bool_int _ _ _, SeqAt.RcNeAt.bool_int _ _ _, SeqAt.EqAt.bool_int _ _ _⟩
   | str => obtain ⟨t, rfl⟩ := r2; cases h; exact ⟨SeqAt.RcAt.bool_str _ _ _, SeqAt.RcNeAt.bool_str _ _ _, SeqAt.EqAt.bool_str _ _ _⟩
   | tup r s2 l2 =>
    cases r2; cases h
    obtain ⟨its, rv, p, _⟩ := I.tuple s2
    exact ⟨SeqAt.RcAt.bool_tuple _ p hu0, SeqAt.RcNeAt.bool_tuple _ p hu0, SeqAt.EqAt.bool_tuple _ p hu0⟩
   | lst s2 l2 =>
    cases r2; cases h
    obtain ⟨its, rv, p, _⟩ := I.list s2.sq
    exact ⟨SeqAt.RcAt.bool_list _ p.isList hu0, SeqAt.RcNeAt.bool_list _ p.isList hu0, SeqAt.EqAt.bool_list _ p.isList hu0⟩
   | _ => cases h
  | int c =>
   obtain ⟨t0, rfl⟩ := r1
   cases h2 with
   | non => cases r2; cases h; exact ⟨SeqAt.RcAt.int_none _ _, SeqAt.RcNeAt.int_none _ _, SeqAt.EqAt.int_none _ _⟩
   | bl => cases r2; cases h; exact ⟨SeqAt.RcAt.int_bool _ _ _, SeqAt.RcNeAt.int_bool _ _ _, SeqAt.EqAt.int_bool _ _ _⟩
   | int => obtain ⟨t, rfl⟩ := r2; cases h; exact ⟨SeqAt.RcAt.int_int _ _ _ _, SeqAt.RcNeAt.int_int _ _ _ _, SeqAt.EqAt.int_int _ _ _ _⟩
   | str => obtain ⟨t, rfl⟩ := r2; cases h; exact ⟨SeqAt.RcAt.int_str _ _ _ _, SeqAt.RcNeAt.int_str _ _ _ _, SeqAt.EqAt.int_str _ _ _ _⟩
   | tup r s2 l2 =>
    cases r2; cases h
    obtain ⟨its, rv, p, _⟩ := I.tuple s2
    exact ⟨SeqAt.RcAt.int_tuple _ _ p hu0, SeqAt.RcNeAt.int_tuple _ _ p hu0, SeqAt.EqAt.int_tuple _ _ p hu0⟩
   | lst s2 l2 =>
    cases r2; cases h
    obtain ⟨its, rv, p, _⟩ := I.list s2.sq
    exact ⟨SeqAt.RcAt.int_list _ _ p.isList hu0, SeqAt.RcNeAt.int_list _ _ p.isList hu0, SeqAt.EqAt.int_list _ _ p.isList hu0⟩
   | _ => cases h
  | str c =>
   obtain ⟨t0, rfl⟩ := r1
   cases h2 with
   | non => cases r2; cases h; exact ⟨SeqAt.RcAt.str_none _ _, SeqAt.RcNeAt.str_none _ _, SeqAt.EqAt.str_none _ _⟩
   | bl => cases r2; cases h; exact ⟨SeqAt.RcAt.str_bool _ _ _, SeqAt.RcNeAt.str_bool _ _ _, SeqAt.EqAt.str_bool _ _ _⟩
   | int => obtain ⟨t, rfl⟩ := r2; cases h; exact ⟨SeqAt.RcAt.str_int _ _ _ _, SeqAt.RcNeAt.str_int _ _ _ _, SeqAt.EqAt.str_int _ _ _ _⟩
   | str => obtain ⟨t, rfl⟩ := r2; cases h; exact ⟨SeqAt.RcAt.str_str _ _ _ _, SeqAt.RcNeAt.str_str _ _ _ _, SeqAt.EqAt.str_str _ _ _ _⟩
   | tup r s2 l2 =>
    cases r2; cases h
    obtain ⟨its, rv, p, _⟩ := I.tuple s2
    exact ⟨SeqAt.RcAt.str_tuple _ _ p hu0, SeqAt.RcNeAt.str_tuple _ _ p hu0, SeqAt.EqAt.str_tuple _ _ p hu0⟩
   | lst s2 l2 =>
    cases r2; cases h
    obtain ⟨its, rv, p, _⟩ := I.list s2.sq
    exact ⟨SeqAt.RcAt.str_list _ _ p.isList hu0, SeqAt.RcNeAt.str_list _ _ p.isList hu0, SeqAt.EqAt.str_list _ _ p.isList hu0⟩
   | _ => cases h
  | @tup a1 vs1 ds1 r s1 l1 =>
   cases r1
   obtain ⟨its1, rv1, p1, _⟩ := I.tuple s1
   cases h2 with
   | non => cases r2; cases h; exact ⟨SeqAt.RcAt.tuple_none p1 hu0, SeqAt.RcNeAt.tuple_none p1 hu0, SeqAt.EqAt.tuple_none p1 hu0⟩
   | bl => cases r2; cases h; exact ⟨SeqAt.RcAt.tuple_bool _ p1 hu0, SeqAt.RcNeAt.tuple_bool _ p1 hu0, SeqAt.EqAt.tuple_bool _ p1 hu0⟩
   | int => obtain ⟨t, rfl⟩ := r2; cases h; exact ⟨SeqAt.RcAt.tuple_int _ _ p1 hu0, SeqAt.RcNeAt.tuple_int _ _ p1 hu0, SeqAt.EqAt.tuple_int _ _ p1 hu0⟩
   | str => obtain ⟨t, rfl⟩ := r2; cases h; exact ⟨SeqAt.RcAt.tuple_str _ _ p1 hu0, SeqAt.RcNeAt.tuple_str _ _ p1 hu0, SeqAt.EqAt.tuple_str _ _ p1 hu0⟩
   | @tup a2 vs2 ds2 r' s2 l2 =>
    cases r2
    obtain ⟨its2, rv2, p2, _⟩ := I.tuple s2
    obtain ⟨k1, k2⟩ := zdb h
    have he := itm l1 l2 rv1 rv2 k1
    have eb : ((List.range (min its1.toArray.size its2.toArray.size)).all (eqJ (eqF n) ds1 ds2) && its1.toArray.size == its2.toArray.size) = b := by
     rw [k2, zzE, zzE, <- rv1.length, <- rv2.length, l1.length, l2.length]
    have b1 := SeqAt.RcAt.tuples p1 p2 hu0 he
    have b2 := SeqAt.RcNeAt.tuples p1 p2 hu0 he
    rw [eb] at b1 b2
    refine ⟨b1, b2, ?_⟩
    by_cases ha : a1 = a2
    · have hb := same rfl rfl ha
      subst ha
      rw [hb]
      exact SeqAt.EqAt.same _
    · exact SeqAt.EqAt.of_refs ha b1
   | lst s2 l2 =>
    cases r2; cases h
    obtain ⟨its, rv, p, _⟩ := I.list s2.sq
    exact ⟨SeqAt.RcAt.tuple_list p1 p.isList hu0, SeqAt.RcNeAt.tuple_list p1 p.isList hu0, SeqAt.EqAt.tuple_list p1 p.isList hu0⟩
   | _ => cases h
  | @lst a1 vs1 ds1 s1 l1 =>
   cases r1
   obtain ⟨its1, rv1, p1, _⟩ := I.list s1.sq
   cases h2 with
   | non => cases r2; cases h; exact ⟨SeqAt.RcAt.list_none p1.isList hu0, SeqAt.RcNeAt.list_none p1.isList hu0, SeqAt.EqAt.list_none p1.isList hu0⟩
   | bl => cases r2; cases h; exact ⟨SeqAt.RcAt.list_bool _ p1.isList hu0, SeqAt.RcNeAt.list_bool _ p1.isList hu0, SeqAt.EqAt.list_bool _ p1.isList hu0⟩
   | int => obtain ⟨t, rfl⟩ := r2; cases h; exact ⟨SeqAt.RcAt.list_int _ _ p1.isList hu0, SeqAt.RcNeAt.list_int _ _ p1.isList hu0, SeqAt.EqAt.list_int _ _ p1.isList hu0⟩
   | str => obtain ⟨t, rfl⟩ := r2; cases h; exact ⟨SeqAt.RcAt.list_str _ _ p1.isList hu0, SeqAt.RcNeAt.list_str _ _ p1.isList hu0, SeqAt.EqAt.list_str _ _ p1.isList hu0⟩
   | tup r' s2 l2 =>
    cases r2; cases h
    obtain ⟨its2, rv2, p2, _⟩ := I.tuple s2
    exact ⟨SeqAt.RcAt.list_tuple p1.isList p2 hu0, SeqAt.RcNeAt.list_tuple p1.isList p2 hu0, SeqAt.EqAt.list_tuple p1.isList p2 hu0⟩
   | @lst a2 vs2 ds2 s2 l2 =>
    cases r2
    obtain ⟨its2, rv2, p2, _⟩ := I.list s2.sq
    obtain ⟨k1, k2⟩ := zdb h
    have he := itm l1 l2 rv1 rv2 k1
    have ez1 : its1.toArray.size = _ := zzE.trans (rv1.length.symm.trans l1.length)
    have ez2 : its2.toArray.size = _ := zzE.trans (rv2.length.symm.trans l2.length)
    have both : SeqAt.RcAt A s (.ref a1) (.ref a2) b /\ SeqAt.RcNeAt A s (.ref a1) (.ref a2) (!b) := by
     by_cases hz : its1.toArray.size = its2.toArray.size
     · have b1 := SeqAt.RcAt.lists p1.isList p2.isList hz hu0 he
       have b2 := SeqAt.RcNeAt.lists p1.isList p2.isList hz hu0 he
       have eb : (List.range its1.toArray.size).all (eqJ (eqF n) ds1 ds2) = b := by
        rw [k2, <- ez1, <- ez2, <- hz, Nat.min_self]
        simp
       rw [eb] at b1 b2
       exact ⟨b1, b2⟩
     · have hz' : (its1.toArray.size != its2.toArray.size) = true := by simpa using hz
       have eb : b = false := by
        rw [k2, <- ez1, <- ez2]
        have : (its1.toArray.size == its2.toArray.size) = false := by simpa using hz
        rw [this, Bool.and_false]
       rw [eb]
       exact ⟨SeqAt.RcAt.lists_lengths p1.isList p2.isList hz' hu0, SeqAt.RcNeAt.lists_lengths p1.isList p2.isList hz' hu0⟩
    refine ⟨both.1, both.2, ?_⟩
    by_cases ha : a1 = a2
    · have hb := same rfl rfl ha
      subst ha
      rw [hb]
      exact SeqAt.EqAt.same _
    · exact SeqAt.EqAt.of_refs ha both.1
   | _ => cases h
  | _ => cases h
end
structure DkAt (P : Program) (w : World) (h : Heap) (a : Addr) (kvs : List (Key × V)) : Prop where
 le : kvs.length <= sizeLine
 ns : (a == sysModules) = false
 ex : ∃ vs, KV kvs vs /\ h.DictOf (wC P w) a vs
structure KdOk (X : Cx) (kd : KD) : Prop where
 inj : ∀ a k k', kd a k -> kd a k' -> k = k'
 inK : ∀ a k, kd a k -> ∃ o, X.K.lookup a = some o
 at_ : ∀ a k h, kd a k -> X.K.In h -> DkAt X.prog X.w h a k
section
variable {X : Cx} {kd : KD} {pins : List (Addr × Obj)} {σ : St} {H : Hp} {s : Shared} {O : Addr -> Prop}
theorem zda (I : Inv X pins σ H s) (hk : KdOk X kd) {a : Addr} {kvs : List (Key × V)} (h : Rd H a (.dK kvs) \/ kd a kvs) : DkAt X.prog X.w s.heap a kvs := by
 rcases h with h | h
 · obtain ⟨z, hd, vs, rel, dd⟩ := zrr I.hok h
   exact ⟨z, hd, vs, rel, dd⟩
 · exact hk.at_ _ _ _ h I.kIn
theorem zll (I : Inv X pins σ H s) : ∀ (n : Nat) (v : V) (d e x : D) (b c : Bool), Vw X.K kd O H v d -> Vw X.K kd O H v e -> eqF n d x = some b -> eqF n e x = some c -> b = c
 | 0, _, _, _, _, _, _, _, _, h, _ => by cases h
 | n + 1, v, d, e, x, b, c, h1, h2, h, h' => by
  have lst : ∀ (vs : List V) (ds es xs : List D) (b c : Bool), RpL X.K kd O H vs ds -> RpL X.K kd O H vs es -> eqL (eqF n) ds xs = some b -> eqL (eqF n) es xs = some c -> b = c := by
   intro vs
   induction vs with
   | nil => intro ds es xs b c r1 r2 h h'; cases r1; cases r2; exact Option.some.inj (h.symm.trans h')
   | cons v vs ih =>
    intro ds es xs b c r1 r2 h h'
    cases r1 with
    | cons a1 r1 =>
     cases r2 with
     | cons a2 r2 =>
      cases xs with
      | nil => cases h; cases h'; rfl
      | cons x xs =>
       obtain ⟨b1, k1, h⟩ := bS_ (show (eqF n _ _).bind _ = _ from h)
       obtain ⟨c1, k2, h⟩ := bS_ h
       obtain ⟨b2, k3, h'⟩ := bS_ (show (eqF n _ _).bind _ = _ from h')
       obtain ⟨c2, k4, h'⟩ := bS_ h'
       cases h; cases h'
       rw [zll I n _ _ _ _ _ _ a1.vw a2.vw k1 k3, ih _ _ _ _ _ r1 r2 k2 k4]
  cases h1 with
  | tup r1 s1 l1 =>
   cases h2 with
   | tup r2 s2 l2 =>
    have := I.tuple_inj s1 s2
    subst this
    cases x with
    | tup xs => exact lst _ _ _ _ _ _ l1 l2 h h'
    | _ => exact Option.some.inj (h.symm.trans h')
   | lst s2 l2 => exact (zhO I s1 s2.sq).elim
   | _ => cases h'
  | lst s1 l1 =>
   cases h2 with
   | tup r2 s2 l2 => exact (zhO I s2 s1.sq).elim
   | lst s2 l2 =>
    have := I.list_inj s1.sq s2.sq
    subst this
    cases x with
    | lst xs => exact lst _ _ _ _ _ _ l1 l2 h h'
    | _ => exact Option.some.inj (h.symm.trans h')
   | _ => cases h'
  | dct s1 l1 => cases h
  | cl => cases h
  | ob => cases h
  | _ => cases h2; exact Option.some.inj (h.symm.trans h')
end
def zku : D -> Option Key
 | .int i => some (.inl i)
 | .str x => some (.inr x)
 | _ => none
def zbu (kvs : List (Key × D)) (k : Key) : Option D := (kvs.find? λ kv => decide (kv.1 = k)).map (·.2)
theorem zfu {K : zC} {kd : KD} {O : Addr -> Prop} {H : Hp} (k : Key) {vs : List (Key × V)} {ds : List (Key × D)} (h : RpM K kd O H vs ds) : (∃ v d, zbd vs k = some v /\ zbu ds k = some d /\ Rp K kd O H v d) \/ (zbd vs k = none /\ zbu ds k = none) :=
 RpM.ind (P := λ vs ds => (∃ v d, zbd vs k = some v /\ zbu ds k = some d /\ Rp K kd O H v d) \/ (zbd vs k = none /\ zbu ds k = none)) (.inr ⟨rfl, rfl⟩) (λ {k' v d vs ds} a _ ih => by
  by_cases e : k' = k
  · left
    refine ⟨_, _, ?_, ?_, a⟩
    · unfold zbd; simp [e]
    · unfold zbu; simp [e]
  · rcases ih with ⟨v, d, h1, h2, h3⟩ | ⟨h1, h2⟩
    · left
      refine ⟨v, d, ?_, ?_, h3⟩
      · unfold zbd at h1 ⊢; simpa [e] using h1
      · unfold zbu at h2 ⊢; simpa [e] using h2
    · right
      refine ⟨?_, ?_⟩
      · unfold zbd at h1 ⊢; simpa [e] using h1
      · unfold zbu at h2 ⊢; simpa [e] using h2) h
def anyF (f : D -> Option Bool) : List D -> Option Bool
 | [] => some false
 | x :: r => (f x).bind λ b => (anyF f r).bind λ c => some (b || c)
def blR (b : Bool) : R0 := .im (.bl b)
def inP (x : D) : D -> Option Bool
 | .lst ys => anyF (λ y => eqF 50 y x) ys
 | .tup ys => anyF (λ y => eqF 50 y x) ys
 | .str y => match x with | .str i => some (!(Builtin.Str.occurrences y i 0 y.length 1).isEmpty) | _ => none
 | .dct kvs => (zku x).bind λ k => some (zbu kvs k).isSome
 | _ => none
def isP : D -> D -> Option Bool
 | d, .non => some (match d with | .non => true | _ => false)
 | d, .bl b => match d with | .bl c => some (c == b) | _ => some false
 | _, _ => none
def zls (f : Int -> Int -> Bool) : D -> D -> Option R0 := onI λ i j => some (blR (f i j))
def yt (o : CmpOp) (d e : D) : Option R0 := match o with
 | .Eq => (eqF 60 d e).bind λ b => some (blR b)
 | .NotEq => (eqF 60 d e).bind λ b => some (blR !b)
 | .Lt => zls (λ i j => decide (i < j)) d e
 | .LtE => zls (λ i j => decide (i <= j)) d e
 | .Gt => zls (λ i j => decide (j < i)) d e
 | .GtE => zls (λ i j => decide (j <= i)) d e
 | .In => (inP d e).bind λ b => some (blR b)
 | .NotIn => (inP d e).bind λ b => some (blR !b)
 | .Is => (isP d e).bind λ b => some (blR b)
 | .IsNot => (isP d e).bind λ b => some (blR !b)
theorem Vs {o : Option Bool} {f : Bool -> Bool} {r : R0} (h : (o.bind λ b => some (blR (f b))) = some r) : ∃ k, r = .im (.bl k) := by
 obtain ⟨b, _, h⟩ := bS_ h
 cases h
 exact ⟨_, rfl⟩
theorem zct {x y : D} {f : Int -> Int -> Bool} {r : R0} (h : zls f x y = some r) : ∃ k, r = .im (.bl k) := by
 obtain ⟨i, _, h⟩ := bS_ (show (asI x).bind _ = _ from h)
 obtain ⟨j, _, h⟩ := bS_ h
 cases h
 exact ⟨_, rfl⟩
theorem yD (op : CmpOp) (x y : D) (r : R0) (h : yt op x y = some r) : ∃ k, r = .im (.bl k) := by
 cases op with
 | Eq => exact Vs (f := id) h
 | NotEq => exact Vs (f := not) h
 | Lt => exact zct h
 | LtE => exact zct h
 | Gt => exact zct h
 | GtE => exact zct h
 | In => exact Vs (f := id) h
 | NotIn => exact Vs (f := not) h
 | Is => exact Vs (f := id) h
 | IsNot => exact Vs (f := not) h
section
variable {X : Cx} {kd : KD} {pins : List (Addr × Obj)} {σ : St} {H : Hp} {s : Shared} {O : Addr -> Prop}
noncomputable def eqW (K : zC) (kd : KD) (O : Addr -> Prop) (H : Hp) (n : Nat) (x : D) (u : Value) : Bool := @decide (∃ v d, RelV v u /\ Rp K kd O H v d /\ eqF n d x = some true) (Classical.propDecidable _)
theorem zld (I : Inv X pins σ H s) (hk : KdOk X kd) {n : Nat} {x d : D} {v : V} {u : Value} {b : Bool} (r : RelV v u) (p : Rp X.K kd O H v d) (e : eqF n d x = some b) : eqW X.K kd O H n x u = b := by
 unfold eqW
 cases b with
 | true => exact @decide_eq_true _ (Classical.propDecidable _) ⟨v, d, r, p, e⟩
 | false =>
  refine @decide_eq_false _ (Classical.propDecidable _) λ ⟨v', d', r', p', e'⟩ => ?_
  have := r.inj r'
  subst this
  exact Bool.noConfusion (zll I n _ _ _ _ _ _ p.vw p'.vw e e')
theorem zcB (I : Inv X pins σ H s) (hk : KdOk X kd) {n : Nat} {x : D} {vs : List V} {us : List Value} {ds : List D} {b : Bool} (hv : Vals vs us) (h : RpL X.K kd O H vs ds) (e : anyF (λ y => eqF n y x) ds = some b) : us.any (eqW X.K kd O H n x) = b :=
 RpL.ind (P := λ vs ds => ∀ us b, Vals vs us -> anyF (λ y => eqF n y x) ds = some b -> us.any (eqW X.K kd O H n x) = b) (λ us b hv e => by cases e; cases hv; rfl) (λ {v d vs ds} a _ ih us b hv h => by
  cases hv with
  | cons r t =>
   obtain ⟨b1, h1, h⟩ := bS_ (show (eqF n _ x).bind _ = _ from h)
   obtain ⟨c1, h2, h⟩ := bS_ h
   cases h
   rw [List.any_cons, zld I hk r a h1, ih _ _ t h2]) h us b hv e
theorem W4 {f : D -> Option Bool} : ∀ {ds : List D} {b : Bool}, anyF f ds = some b -> ∀ d ∈ ds, ∃ c, f d = some c
 | [], _, _, d, hd => by simp at hd
 | x :: r, b, h, d, hd => by
  obtain ⟨b1, h1, h⟩ := bS_ (show (f x).bind _ = _ from h)
  obtain ⟨c1, h2, h⟩ := bS_ h
  rcases zS.mp hd with e | e
  · subst e; exact ⟨b1, h1⟩
  · exact W4 h2 d e
theorem zcu (I : Inv X pins σ H s) (hk : KdOk X kd) {n : Nat} {A : Around} (hu : A.units + n < cLine) {x : V} {v : Value} {d : D} (vx : Vw X.K kd O H x d) (rx : RelV x v) {vs : List V} {us : List Value} {ds : List D} (hv : Vals vs us) (h : RpL X.K kd O H vs ds) (k : ∀ e ∈ ds, ∃ c, eqF n e d = some c) : ∀ u ∈ us, SeqAt.EqAt A s u v (eqW X.K kd O H n d u) :=
 RpL.ind (P := λ vs ds => ∀ us, Vals vs us -> (∀ e ∈ ds, ∃ c, eqF n e d = some c) -> ∀ u ∈ us, SeqAt.EqAt A s u v (eqW X.K kd O H n d u)) (λ us hv _ u hu => by cases hv; simp at hu) (λ a q ih us hv h u hm => by
  cases hv with
  | cons r t =>
   rcases zS.mp hm with e | e
   · subst e
     obtain ⟨c, hc⟩ := h _ zzC
     rw [zld I hk r a hc]
     exact (zfA I n A _ _ _ _ _ _ _ hu a.vw vx r rx hc).eq
   · exact ih _ t (λ e he => h e (zzA _ he)) u e) h us hv k
theorem zdd {A : Around} {E : Value -> Shared -> Prop} {x : V} {v : Value} {b c : Bool} {d : D} {Q : Bool -> Shared -> Prop} (vx : Vw X.K kd O H x d) (rx : RelV x v) (e : isP d (.bl b) = some c) (h : Q c s) : wpAny (model X.prog X.w) A (isSame v (.bool b)) Q E s := by
 cases vx with
 | non => cases rx; cases e; exact wpAny_pure h
 | bl k =>
  cases rx
  have e : some (k == b) = some c := e
  cases e
  refine wpAny_pure ?_
  cases k <;> cases b <;> exact h
 | int => obtain ⟨t, rfl⟩ := rx; cases e; exact wpAny_pure h
 | str => obtain ⟨t, rfl⟩ := rx; cases e; exact wpAny_pure h
 | tup => cases rx; cases e; exact wpAny_pure h
 | lst => cases rx; cases e; exact wpAny_pure h
 | dct => cases rx; cases e; exact wpAny_pure h
 | cl => cases rx; cases e; exact wpAny_pure h
 | ob => cases rx; cases e; exact wpAny_pure h
theorem yE (hk : KdOk X kd) (hu : X.A.units + 100 < cLine) (op : CmpOp) : OpD X kd (compareOp op) (yt op) := by
 intro pins s σ H x y v u Q I rx ry h
 obtain ⟨O, d, e, r, ht, vx, vy, he, q⟩ := h
 cases op with
 | Eq =>
  obtain ⟨b, h1, he⟩ := bS_ (show (eqF 60 d e).bind _ = _ from he)
  cases he
  exact (zfA I 60 X.A x y d e v u b (by omega) vx vy rx ry h1).rc _ _ _ _ (wU I (yr q (.bl _)) rfl)
 | NotEq =>
  obtain ⟨b, h1, he⟩ := bS_ (show (eqF 60 d e).bind _ = _ from he)
  cases he
  exact (zfA I 60 X.A x y d e v u b (by omega) vx vy rx ry h1).ne _ _ _ _ (wU I (yr q (.bl _)) rfl)
 | Lt =>
  obtain ⟨i, j, rfl, rfl, he⟩ := Xb vx vy he
  cases he
  exact zrl pins s σ H _ _ v u Q I rx ry ⟨_, _, rfl, rfl, yr q (.bl _)⟩
 | LtE =>
  obtain ⟨i, j, rfl, rfl, he⟩ := Xb vx vy he
  cases he
  exact zqu pins s σ H _ _ v u Q I rx ry ⟨_, _, rfl, rfl, yr q (.bl _)⟩
 | Gt =>
  obtain ⟨i, j, rfl, rfl, he⟩ := Xb vx vy he
  cases he
  exact zqn pins s σ H _ _ v u Q I rx ry ⟨_, _, rfl, rfl, yr q (.bl _)⟩
 | GtE =>
  obtain ⟨i, j, rfl, rfl, he⟩ := Xb vx vy he
  cases he
  exact zqN pins s σ H _ _ v u Q I rx ry ⟨_, _, rfl, rfl, yr q (.bl _)⟩
 | In =>
  obtain ⟨b, h1, he⟩ := bS_ (show (inP d e).bind _ = _ from he)
  cases he
  cases vy with
  | lst hs rl =>
   cases ry
   obtain ⟨its, rv, p, _⟩ := I.list hs.sq
   refine SeqAt.in_listAt (eqW X.K kd O H 50 d) p.isList (λ w hw => zcu I hk (by show X.A.units + 1 + 50 < cLine; omega) vx rx rv rl (W4 h1) w (by simpa using hw)) ?_
   have := zcB I hk rv rl h1
   rw [show its.toArray.any (eqW X.K kd O H 50 d) = b by rw [<- this]; simp]
   exact wU (I) (yr q (.bl _)) rfl
  | tup rp hs rl =>
   cases ry
   obtain ⟨its, rv, p, _⟩ := I.tuple hs
   refine SeqAt.in_tupleAt (eqW X.K kd O H 50 d) p (λ w hw => zcu I hk (by show X.A.units + 1 + 50 < cLine; omega) vx rx rv rl (W4 h1) w (by simpa using hw)) ?_
   have := zcB I hk rv rl h1
   rw [show its.toArray.any (eqW X.K kd O H 50 d) = b by rw [<- this]; simp]
   exact wU (I) (yr q (.bl _)) rfl
  | str z =>
   cases vx with
   | str i => cases h1; exact zjH pins s σ H _ _ v u Q I rx ry ⟨_, _, rfl, rfl, yr q (.bl _)⟩
   | _ => cases h1
  | dct hs rm =>
   cases ry
   obtain ⟨k, k1, h1⟩ := bS_ h1
   cases h1
   obtain ⟨z, hd, vs, rel, dd⟩ := zda I hk hs
   have ek : x = kV k := by
    cases vx with
    | int i => cases k1; rfl
    | str i => cases k1; rfl
    | _ => cases k1
   subst ek
   refine wpAny_in_of (zie rx) hd dd.mapOf ?_
   rw [<- (rel.val k).isSome_eq]
   rcases zfu k rm with ⟨v1, d1, e1, e2, _⟩ | ⟨e1, e2⟩
   · rw [e1]; rw [e2] at q; exact wU (I.tok _) (yr q (.bl _)) rfl
   · rw [e1]; rw [e2] at q; exact wU (I.tok _) (yr q (.bl _)) rfl
  | _ => cases h1
 | NotIn =>
  obtain ⟨b, h1, he⟩ := bS_ (show (inP d e).bind _ = _ from he)
  cases he
  cases vy with
  | lst hs rl =>
   cases ry
   obtain ⟨its, rv, p, _⟩ := I.list hs.sq
   refine SeqAt.notIn_listAt (eqW X.K kd O H 50 d) p.isList (λ w hw => zcu I hk (by show X.A.units + 1 + 50 < cLine; omega) vx rx rv rl (W4 h1) w (by simpa using hw)) ?_
   have := zcB I hk rv rl h1
   rw [show its.toArray.any (eqW X.K kd O H 50 d) = b by rw [<- this]; simp]
   exact wU (I) (yr q (.bl _)) rfl
  | tup rp hs rl =>
   cases ry
   obtain ⟨its, rv, p, _⟩ := I.tuple hs
   refine SeqAt.notIn_tupleAt (eqW X.K kd O H 50 d) p (λ w hw => zcu I hk (by show X.A.units + 1 + 50 < cLine; omega) vx rx rv rl (W4 h1) w (by simpa using hw)) ?_
   have := zcB I hk rv rl h1
   rw [show its.toArray.any (eqW X.K kd O H 50 d) = b by rw [<- this]; simp]
   exact wU (I) (yr q (.bl _)) rfl
  | str z =>
   cases vx with
   | str i => cases h1; exact zfv pins s σ H _ _ v u Q I rx ry ⟨_, _, rfl, rfl, yr q (.bl _)⟩
   | _ => cases h1
  | dct hs rm =>
   cases ry
   obtain ⟨k, k1, h1⟩ := bS_ h1
   cases h1
   obtain ⟨z, hd, vs, rel, dd⟩ := zda I hk hs
   have ek : x = kV k := by
    cases vx with
    | int i => cases k1; rfl
    | str i => cases k1; rfl
    | _ => cases k1
   subst ek
   refine wpAny_notIn_of (zie rx) hd dd.mapOf ?_
   rw [<- (rel.val k).isSome_eq]
   rcases zfu k rm with ⟨v1, d1, e1, e2, _⟩ | ⟨e1, e2⟩
   · rw [e1]; rw [e2] at q; exact wU (I.tok _) (yr q (.bl _)) rfl
   · rw [e1]; rw [e2] at q; exact wU (I.tok _) (yr q (.bl _)) rfl
  | _ => cases h1
 | Is =>
  obtain ⟨b, h1, he⟩ := bS_ (show (isP d e).bind _ = _ from he)
  cases he
  cases vy with
  | non =>
   refine zoN pins s σ H _ _ v u Q I rx ry ⟨rfl, ?_⟩
   have : decide (x = V.non) = b := by cases vx <;> (cases h1; rfl)
   rw [this]
   exact yr q (.bl b)
  | bl c =>
   cases ry
   exact wpAny_bind (zdd vx rx h1 (wpAny_pure (wU I (yr q (.bl _)) rfl)))
  | _ => cases h1
 | IsNot =>
  obtain ⟨b, h1, he⟩ := bS_ (show (isP d e).bind _ = _ from he)
  cases he
  cases vy with
  | non =>
   refine zmR pins s σ H _ _ v u Q I rx ry ⟨rfl, ?_⟩
   have : decide (x = V.non) = b := by cases vx <;> (cases h1; rfl)
   rw [this]
   exact yr q (.bl _)
  | bl c =>
   cases ry
   exact wpAny_bind (zdd vx rx h1 (wpAny_pure (wU I (yr q (.bl _)) rfl)))
  | _ => cases h1
end
theorem zio {K : zC} {kd : KD} {O : Addr -> Prop} {H : Hp} {vs : List V} {ds : List D} {i : Int} {d : D} (r : RpL K kd O H vs ds) (h : atI ds i = some d) : ∃ v, atI vs i = some v /\ Rp K kd O H v d := by
 unfold atI at h ⊢
 obtain ⟨j, h1, h2⟩ := bS_ h
 rw [r.length, h1]
 exact r.get h2
def imR (o : Option D) : Option R0 := o.bind λ d => some (.im d)
def ixP (x y : D) : Option R0 := match x with
 | .lst xs => (asI y).bind λ i => imR (atI xs i)
 | .tup xs => (asI y).bind λ i => imR (atI xs i)
 | .str x => (asI y).bind λ i => if x.length <= sizeLine then (atI x.cps.toList i).bind λ c => some (.im (.str ⟨#[c]⟩)) else none
 | .dct kvs => (zku y).bind λ k => imR (zbu kvs k)
 | _ => none
theorem zdz {o : Option D} {r : R0} (h : imR o = some r) : ∃ d, o = some d /\ r = .im d := by
 obtain ⟨d, h1, h2⟩ := bS_ (show o.bind _ = _ from h)
 cases h2
 exact ⟨d, h1, rfl⟩
section
variable {X : Cx} {kd : KD}
theorem zlF {K : zC} {O : Addr -> Prop} {H : Hp} {x : V} {d : D} {k : Key} (vx : Vw K kd O H x d) (e : zku d = some k) : x = kV k := by
 cases vx with
 | int i => cases e; rfl
 | str i => cases e; rfl
 | _ => cases e
theorem zry (hk : KdOk X kd) : IxD X kd ixP := by
 intro value slice pins s σ H x y v u Q I rx ry h hs
 obtain ⟨O, d, e, r, ht, vx, vy, he, q⟩ := h
 cases vx with
 | lst hr rl =>
  obtain ⟨i, h0, he⟩ := bS_ (show (asI e).bind _ = _ from he)
  obtain ⟨rfl, rfl⟩ := Xf vy h0
  obtain ⟨d, h1, rfl⟩ := zdz he
  obtain ⟨w, hw, rw'⟩ := zio rl h1
  exact zfi value slice pins s σ H _ _ v u Q I rx ry ⟨_, _, _, w, rfl, rfl, hr.sq, hw, yr q rw'⟩ hs
 | tup rp hr rl =>
  obtain ⟨i, h0, he⟩ := bS_ (show (asI e).bind _ = _ from he)
  obtain ⟨rfl, rfl⟩ := Xf vy h0
  obtain ⟨d, h1, rfl⟩ := zdz he
  obtain ⟨w, hw, rw'⟩ := zio rl h1
  exact zoB value slice pins s σ H _ _ v u Q I rx ry ⟨_, _, _, w, rfl, rfl, hr, hw, yr q rw'⟩ hs
 | str z =>
  obtain ⟨i, h0, he⟩ := bS_ (show (asI e).bind _ = _ from he)
  obtain ⟨rfl, rfl⟩ := Xf vy h0
  obtain ⟨hz, he⟩ := ite_some' he
  obtain ⟨c, h1, he⟩ := bS_ he
  cases he
  exact zpz value slice pins s σ H _ _ v u Q I rx ry ⟨_, _, c, rfl, rfl, hz, h1, yr q (.str _)⟩ hs
 | dct hr rm =>
  obtain ⟨k, h1, he⟩ := bS_ (show (zku e).bind _ = _ from he)
  obtain ⟨d, h2, rfl⟩ := zdz he
  cases rx
  obtain ⟨z, hd, vs, rel, dd⟩ := zda I hk hr
  have := zlF vy h1
  subst this
  rcases zfu k rm with ⟨v1, d1, e1, e2, rp⟩ | ⟨e1, e2⟩
  · rw [h2] at e2
    cases e2
    obtain ⟨w', hw, rw'⟩ := zaJ.some_of (v := v1) (o := valueAt vs k) (by rw [<- e1]; exact rel.val k)
    exact tail_any dd.typeIs PySem.F.slot_dict_getitem.lookup (wpAny_getItem_of (zie ry) dd.mapOf hw ⟨v1, H, I.tok _, rw', yr q rp⟩) hs
  · rw [h2] at e2; cases e2
 | _ => cases he
def cutD (xs : List D) (lo hi : Option Int) : List D := (xs.drop (HT.sIx xs.length 0 lo)).take (HT.sIx xs.length xs.length hi - HT.sIx xs.length 0 lo)
theorem ziK {K : zC} {O : Addr -> Prop} {H : Hp} {vs : List V} {ds : List D} (r : RpL K kd O H vs ds) (lo hi : Option Int) : RpL K kd O H (zgi vs lo hi) (cutD ds lo hi) := by
 unfold zgi cutD
 rw [r.length]
 exact (r.drop _).take _
def slP (x : D) (lo hi : Option Int) : Option R0 := match x with
 | .lst xs => some (.fl (cutD xs lo hi))
 | .tup xs => if HT.sIx xs.length 0 lo = 0 /\ HT.sIx xs.length xs.length hi = xs.length then none else some (.im (.tup (cutD xs lo hi)))
 | _ => none
abbrev OF := AS -> Option (Option Int × AS)
def oN : OF := λ as => some (none, as)
def oS (f : EF) : OF := λ as => (f as).bind λ p => (rvI p.1).bind λ i => some (some i, p.2)
def fSl (fa : EF) (fl fh : OF) (g : D -> Option Int -> Option Int -> Option R0) : EF := λ as => (fa as).bind λ p => (fl p.2).bind λ l => (fh l.2).bind λ h => (p.1.frz.view h.2).bind λ x => (g x.1 l.1 h.1).bind λ r => (wrap x.2 r).bind λ z => some (z, h.2)
def alO (K : zC) (kd : KD) (f : OF) : TO := λ σ H Q => ∃ F B ad as o as', Rel K kd F B [] ad as σ H /\ f as = some (o, as') /\
 ∀ ad' H', Rel K kd F B [] ad' as' σ H' -> Grow (Gw [] ad) H (Gw [] ad') H' -> Q o H'
@[irreducible] def AO (X : Cx) (kd : KD) (e : Option Expr) (f : OF) : Prop := PO X e (alO X.K kd f)
theorem zkl {e : Option Expr} {t t' : TO} (h : PO X e t) (k : ∀ σ H Q, t' σ H Q -> t σ H Q) : PO X e t' := λ pins s σ H Q I q => h pins s σ H Q I (k σ H Q q)
theorem zcC : AO X kd none oN := by with_unfolding_all exact (zkl zlY λ σ H Q h => by
 obtain ⟨F, B, ad, as, o, as', R, e, q⟩ := h
 cases e
 exact q ad H R Grow.refl)
theorem zoc {K : zC} {F B : Addr -> Prop} {T : List Addr} {ad : Ad} {σ : St} {H : Hp} {v : V} {st : Bool} {c : Int} (h : wI K kd F B T ad σ H v (.ow (.lf st (.int c)))) : T = [] /\ v = .int c := by
 have h : RoS K kd F B (Gw T ad) H v (.lf st (.int c)) T := h
 generalize hT : Gw T ad = G at h
 cases h with
 | lf rp => cases rp; exact ⟨rfl, rfl⟩
theorem zal {a : Expr} {fa : EF} (ha : AE X kd a fa) : AO X kd (some a) (oS fa) := by with_unfolding_all exact (zkl (zmN ha) λ σ H Q h => by
 obtain ⟨F, B, ad, as, o, as', R, e, q⟩ := h
 obtain ⟨⟨p, as1⟩, h1, e⟩ := bS_ (show (fa as).bind _ = _ from e)
 obtain ⟨i, e1, e⟩ := bS_ e
 obtain ⟨st, rfl⟩ := zqd e1
 cases e
 refine ⟨F, B, ad, as, _, _, R, h1, λ v T' ad1 H1 R1 rv1 g1 => ?_⟩
 obtain ⟨rfl, rfl⟩ := zoc rv1
 exact ⟨i, rfl, q ad1 H1 R1 g1⟩)
theorem zrP : SlR X (λ x lo hi H Q => ∃ O d r, (∀ a, O a -> H a ≠ none) /\ Vw X.K kd O H x d /\ slP d lo hi = some r /\ RQ X.K kd O H Q r) := by
 intro pins s σ H x v vl vu lo hi sl Q I rx hs pl pu h
 obtain ⟨O, d, r, ht, vx, he, q⟩ := h
 cases vx with
 | lst hr rl => cases he; exact znn pins s σ H _ v vl vu lo hi sl Q I rx hs pl pu ⟨_, _, rfl, hr.sq, V8 q (ziK rl lo hi)⟩
 | tup rp hr rl =>
  have he : (if _ then none else some _ : Option R0) = _ := he
  split at he
  · cases he
  · rename_i hw
    cases he
    exact zow pins s σ H _ v vl vu lo hi sl Q I rx hs pl pu ⟨_, _, rfl, hr, by rw [rl.length]; exact hw, zfG ht q (ziK rl lo hi)⟩
 | _ => cases he
theorem zaP {a : Expr} {lo hi : Option Expr} {fa : EF} {fl fh : OF} {pos p2 : Pos} (ha : AE X kd a fa) (hl : AO X kd lo fl) (hh : AO X kd hi fh) : AE X kd (.Subscript a (.Slice lo hi none p2) pos) (fSl fa fl fh slP) := by with_unfolding_all exact (yK (zkY zrP ha hl hh) λ σ H Q h => by
 obtain ⟨F, B, ad, as, r, as', R, e, q⟩ := h
 obtain ⟨⟨p, as1⟩, h1, e⟩ := bS_ (show (fa as).bind _ = _ from e)
 obtain ⟨⟨l, as2⟩, h2, e⟩ := bS_ e
 obtain ⟨⟨u, as3⟩, h3, e⟩ := bS_ e
 obtain ⟨⟨d, lv⟩, h4, e⟩ := bS_ e
 obtain ⟨r', h5, e⟩ := bS_ e
 obtain ⟨z, h6, e⟩ := bS_ e
 cases e
 refine Yi R h1 λ v ad1 H1 R1 rv1 g1 => ⟨F, B, ad1, as1, l, as2, R1, h2, λ ad2 H2 R2 g2 => ⟨F, B, ad2, as2, u, _, R2, h3, λ ad3 H3 R3 g3 => ?_⟩⟩
 exact ⟨_, d, r', R3.tr _, wI.vw R3 ((rv1.grow g2).grow g3) h4, h5, Z1 R3 h6 λ w T' H' R' rv' g' => q w T' ad3 H' R' rv' (((g1.trans g2).trans g3).trans g')⟩)
def zhv : D -> Option R0
 | .int i => some (.im (.int (-i)))
 | _ => none
theorem zqX : UnD X kd (unaryOp .USub) zhv := by
 intro pins s σ H x v Q I rx h
 obtain ⟨O, d, r, ht, vx, he, q⟩ := h
 cases vx with
 | int i => cases he; exact zoY pins s σ H _ v Q I rx ⟨i, rfl, yr q (.int _)⟩
 | _ => cases he
def tyD : D -> String
 | .non => "NoneType" | .bl _ => "bool" | .int _ => "int" | .str _ => "str" | .tup _ => "tuple" | .lst _ => "list" | .dct _ => "dict" | _ => ""
def zhE : D -> Bool
 | .cl _ => false | .ob _ _ _ => false | _ => true
def zez (t c : String) : Bool := t == c || (t == "bool" && c == "int")
def zaM (c : String) : Bool := c == "int" || c == "bool" || c == "str" || c == "list" || c == "tuple" || c == "dict"
theorem zoC (K : zC) (d : D) (c : String) (h : zaM c = true) (ho : zhE d = true) : PySem.W.kitOne K (.type (tyD d)) (.type c) = some (zez (tyD d) c) := by
 have : c = "int" \/ c = "bool" \/ c = "str" \/ c = "list" \/ c = "tuple" \/ c = "dict" := by
  unfold zaM at h
  simp only [Bool.or_eq_true, beq_iff_eq] at h
  rcases h with ((((h | h) | h) | h) | h) | h <;> simp [h]
 rcases this with rfl | rfl | rfl | rfl | rfl | rfl <;> cases d <;> first | rfl | cases ho
theorem zqg (hk : KdOk X kd) {pins : List (Addr × Obj)} {σ : St} {H : Hp} {s : Shared} {O : Addr -> Prop} {A : Around} {E : Value -> Shared -> Prop} {Q : Value -> Shared -> Prop} {c : String} {x : V} {u : Value} {d : D} (I : Inv X pins σ H s) (rx : RelV x u) (vx : Vw X.K kd O H x d) (hc : zaM c = true) (ho : zhE d = true)
 (h : ∀ tk, Q (.bool (zez (tyD d) c)) { s with toks := tk }) : wpAny (model X.prog X.w) A (call (.builtin "isinstance") [u, .type c]) Q E s := by
 have e := zoC X.K d c hc ho
 cases vx with
 | non => cases rx; exact PySem.W.kia_one PySem.W.kitx_none I.kIn True.intro e (λ z => nomatch z) h
 | bl y => cases rx; exact PySem.W.kia_one PySem.W.kitx_bool I.kIn True.intro e (λ z => nomatch z) h
 | int i => obtain ⟨t, rfl⟩ := rx; exact PySem.W.kia_one PySem.W.kitx_int I.kIn True.intro e (λ z => nomatch z) h
 | str y => obtain ⟨t, rfl⟩ := rx; exact PySem.W.kia_one PySem.W.kitx_str I.kIn True.intro e (λ z => nomatch z) h
 | lst hr rl =>
  cases rx
  obtain ⟨its, rv, ⟨o, n, h1, h2, _⟩, _⟩ := I.list hr.sq
  exact PySem.W.kia_one PySem.W.kitx_list I.kIn ⟨o, h1, h2⟩ e (λ z => nomatch z) h
 | tup rp hr rl =>
  cases rx
  obtain ⟨its, rv, ⟨o, h1, h2, _⟩, _⟩ := I.tuple hr
  exact PySem.W.kia_one PySem.W.kitx_tuple I.kIn ⟨o, h1, h2⟩ e (λ z => nomatch z) h
 | dct hr rm =>
  cases rx
  obtain ⟨z, hd, vs, rel, ⟨o, es, ep, h1, h2, _⟩⟩ := zda I hk hr
  exact PySem.W.kia_one PySem.W.kitx_dict I.kIn ⟨o, h1, h2.1⟩ e (λ z => nomatch z) h
 | cl => cases ho
 | ob => cases ho
end
def Wi : List D -> Option (List Int)
 | [] => some []
 | .int i :: r => (Wi r).bind λ s => some (i :: s)
 | _ :: _ => none
def zoD : List Int -> Int
 | [] => 0
 | x :: r => r.foldl (λ a b => if a < b then b else a) x
theorem zes : ∀ (r : List Int) (x : Int), r.foldl (λ a b => if a < b then b else a) x ∈ x :: r /\ ∀ a ∈ x :: r, a <= r.foldl (λ a b => if a < b then b else a) x
 | [], x => ⟨by simp, by simp⟩
 | y :: r, x => by
  rw [List.foldl_cons]
  obtain ⟨h1, h2⟩ := zes r (if x < y then y else x)
  refine ⟨?_, λ a ha => ?_⟩
  · rcases zS.mp h1 with e | e
    · rw [e]; split <;> simp
    · exact zzA _ (zzA _ e)
  · have h3 := h2 _ zzC
    rcases zS.mp ha with e | e
    · subst e; exact Int.le_trans (by split <;> omega) h3
    · rcases zS.mp e with e | e
      · subst e; exact Int.le_trans (by split <;> omega) h3
      · exact h2 a (zzA _ e)
theorem zmg {ns : List Int} {M : Int} (h1 : M ∈ ns) (h2 : ∀ a ∈ ns, a <= M) : zoD ns = M := by
 cases ns with
 | nil => simp at h1
 | cons x r =>
  obtain ⟨k1, k2⟩ := zes r x
  have a1 := k2 M h1
  have a2 := h2 _ k1
  show r.foldl _ x = M
  omega
def on1 (f : D -> Option R0) (ds : List D) : Option R0 := match ds with
 | [x] => f x
 | _ => none
theorem zbC {K : zC} {kd : KD} {O : Addr -> Prop} {H : Hp} {f : D -> Option R0} {xs : List V} {ds : List D} {r : R0} (vl : VwL K kd O H xs ds) (h : on1 f ds = some r) : ∃ x d, xs = [x] /\ Vw K kd O H x d /\ f d = some r := by
 cases vl with
 | nil => cases h
 | cons a b =>
  cases b with
  | nil => exact ⟨_, _, rfl, a, h⟩
  | cons _ _ => cases h
def zrX : D -> Option R0
 | .lst ds => some (.im (.int ds.length))
 | .tup ds => some (.im (.int ds.length))
 | .str x => if x.length <= sizeLine then some (.im (.int x.length)) else none
 | .dct kvs => some (.im (.int kvs.length))
 | _ => none
def Y9 : List D -> Option R0 := on1 zrX
def zse : D -> Option R0
 | .int i => some (.im (.int i))
 | .bl b => some (.im (.int (if b then 1 else 0)))
 | _ => none
def tupP : List D -> Option R0
 | [.lst ds] => some (.im (.tup ds))
 | [.tup ds] => some (.im (.tup ds))
 | _ => none
def zrQ : D -> Option R0
 | .lst ds => some (.fl ds)
 | .tup ds => some (.fl ds)
 | _ => none
def lstP : List D -> Option R0 := on1 zrQ
def dctP : List D -> Option R0
 | [.dct kvs] => some (.fd kvs)
 | _ => none
def zrj (ds : List D) : Option R0 := match ds with
 | [x, y] => onI (λ i j => some (.im (.int (if j > i then j else i)))) x y
 | [x] => (asL x).bind λ ds => (Wi ds).bind λ ns => if 0 < ns.length then some (.im (.int (zoD ns))) else none
 | _ => none
theorem zcw {K : zC} {kd : KD} {O : Addr -> Prop} {H : Hp} {xs : List V} {d : D} (h : VwL K kd O H xs [d]) : ∃ x, xs = [x] /\ Vw K kd O H x d := by
 cases h with
 | cons a b => cases b; exact ⟨_, rfl, a⟩
theorem zkn {K : zC} {kd : KD} {O : Addr -> Prop} {H : Hp} {vs : List V} {ds : List D} {ns : List Int} (h : RpL K kd O H vs ds) (e : Wi ds = some ns) : vs = ns.map V.int :=
 RpL.ind (P := λ vs ds => ∀ ns, Wi ds = some ns -> vs = ns.map V.int) (λ ns e => by cases e; rfl) (λ {v d vs ds} a _ ih ns e => by
  cases d with
  | int i =>
   obtain ⟨s, h1, h2⟩ := bS_ (show (Wi _).bind _ = _ from e)
   cases h2
   cases a
   rw [ih _ h1]
   rfl
  | _ => cases e) h ns e
section
variable {X : Cx} {kd : KD}
theorem Zg (hk : KdOk X kd) : CallD X kd (.builtin "len") Y9 := by
 intro pins s σ H xs us Q I r h
 obtain ⟨O, ds, z, ht, vl, he, q⟩ := h
 obtain ⟨x, d, rfl, vx, he⟩ := zbC vl he
 cases vx with
 | lst hr rl => cases he; exact zaH pins s σ H _ us Q I r ⟨_, _, rfl, .inl hr.sq, by rw [rl.length]; exact yr q (.int _)⟩
 | tup rp hr rl => cases he; exact zaH pins s σ H _ us Q I r ⟨_, _, rfl, .inr hr, by rw [rl.length]; exact yr q (.int _)⟩
 | str y =>
  obtain ⟨c, rfl⟩ := zM he
  exact zfb pins s σ H _ us Q I r ⟨_, rfl, c, yr q (.int _)⟩
 | dct hr rm =>
  cases he
  obtain ⟨u, rfl, ru⟩ := vals1 r
  cases ru
  obtain ⟨z, hd, vs, rel, dd⟩ := zda I hk hr
  refine call_len_dict hd dd (by rw [<- rel.length]; rw [sizeLine_eq] at z; omega) ?_
  rw [<- rel.length, rm.length]
  exact ⟨.int _, H, I.tok _, ⟨_, rfl⟩, yr q (.int _)⟩
 | _ => cases he
theorem Xu : CallD X kd (.type "tuple") tupP := by
 intro pins s σ H xs us Q I r h
 obtain ⟨O, ds, z, ht, vl, he, q⟩ := h
 unfold tupP at he
 split at he
 · cases he
   obtain ⟨x, rfl, vx⟩ := zcw vl
   cases vx with
   | lst hr rl => exact VN pins s σ H _ us Q I r ⟨_, _, rfl, .inl ⟨hr.sq, zfG ht q rl⟩⟩
 · cases he
   obtain ⟨x, rfl, vx⟩ := zcw vl
   cases vx with
   | tup rp hr rl => exact VN pins s σ H _ us Q I r ⟨_, _, rfl, .inr ⟨hr, yr q rp⟩⟩
 · cases he
theorem ziZ : CallD X kd (.type "list") lstP := by
 intro pins s σ H xs us Q I r h
 obtain ⟨O, ds, z, ht, vl, he, q⟩ := h
 obtain ⟨x, d, rfl, vx, he⟩ := zbC vl he
 cases vx with
 | lst hr rl => cases he; exact zaO pins s σ H _ us Q I r ⟨_, _, rfl, .inl hr.sq, V8 q rl⟩
 | tup rp hr rl => cases he; exact zaO pins s σ H _ us Q I r ⟨_, _, rfl, .inr hr, V8 q rl⟩
 | _ => cases he
theorem zjA (hk : KdOk X kd) : CallD X kd (.type "dict") dctP := by
 intro pins s σ H xs us Q I r h
 obtain ⟨O, ds, z, ht, vl, he, q⟩ := h
 unfold dctP at he
 split at he
 · cases he
   obtain ⟨x, rfl, vx⟩ := zcw vl
   cases vx with
   | dct hr rm =>
    obtain ⟨u, rfl, ru⟩ := vals1 r
    cases ru
    obtain ⟨z, hd, vs, rel, dd⟩ := zda I hk hr
    refine kt_call_dict hd dd (by rw [<- rel.length]; exact z) λ h' dd' hs => ?_
    refine ⟨.ref _, _, (I.laid (a := s.heap.objs.size) (o := .dK _) (t' := s.toks) (λ b q hq => ?_) (zzK _) (zlA z (beq_eq_false_iff_ne.mpr (Ne.symm (zzN I.big))) rel dd')), rfl, zlz q rm _ (I.hok.fresh (zzK _))⟩
    exact (hs.2 b (zzN (Heap.lt_size hq))).trans (Heap.get?_push_of_some _ hq)
 · cases he
theorem zjd (hc : X.calm = true) : CallD X kd (.builtin "max") zrj := by
 intro pins s σ H xs us Q I r h
 obtain ⟨O, ds, z, ht, vl, he, q⟩ := h
 cases vl with
 | nil => cases he
 | cons vx vl =>
  cases vl with
  | nil =>
   obtain ⟨ds, h0, he⟩ := bS_ (show (asL _).bind _ = _ from he)
   cases zdn h0
   obtain ⟨ns, h1, he⟩ := bS_ he
   obtain ⟨c, rfl⟩ := zM he
   cases vx with
   | lst hr rl =>
    obtain ⟨u, rfl, ru⟩ := vals1 r
    cases ru
    obtain ⟨its, rv, p, _⟩ := I.list hr.sq
    rw [zkn rl h1] at rv
    have hi := intsAre_of rv
    obtain ⟨ys, e⟩ := hi.allInts.items
    have hns : ns = ys.toList.map (·.1) := by rw [<- hi.numsOf, <- nums_intItems, <- e]
    have hsz : 0 < ys.size := by
     have h3 := c; rw [hns, zD, Array.length_toList] at h3; exact h3
    have hl := p.isList
    rw [e] at hl
    refine max_intList (I.ok.hd hc) hl hsz λ v h' tk hv kp => ?_
    obtain ⟨t, rfl⟩ := intItems_at hv
    obtain ⟨k1, k2⟩ := argBest_gt (numAt ys) (ys.size - 1)
    refine ⟨.int (zoD ns), H, I.kept kp, ⟨t, ?_⟩, yr q (.int _)⟩
    congr 1
    refine (zmg ?_ λ a ha => ?_).symm
    · rw [hns, numAt_eq]
      have hlt : argBest (λ i j => decide (numAt ys i > numAt ys j)) (ys.size - 1) < (ys.toList.map (·.1)).length := by rw [zD, Array.length_toList]; omega
      rw [List.getD_eq_getElem?_getD, zzB hlt]
      exact List.getElem_mem hlt
    · rw [hns] at ha
      obtain ⟨j, hj, rfl⟩ := List.getElem_of_mem ha
      have hj' := hj
      rw [zD, Array.length_toList] at hj
      have := k2 j (by omega)
      rw [numAt_eq ys j, List.getD_eq_getElem?_getD, zzB hj'] at this
      exact this
  | cons vy vl =>
   cases vl with
   | nil =>
    obtain ⟨i, j, rfl, rfl, he⟩ := Xb vx vy he
    cases he
    exact zjn hc pins s σ H _ us Q I r ⟨_, _, rfl, yr q (.int _)⟩
   | cons _ _ => cases he
end
def wQ (env : Env) : List (Str × NameKind) -> List (Str × Addr) -> List (Str × Addr)
 | [], cs => cs
 | (n, k) :: r, cs => wQ env r (if k == .free then ((n, (env.cells.lookup n).getD 0) :: cs) else cs)
theorem VG {scope : Scope} {env : Env} (h : ∀ x ∈ scope.names, x.2 = .free -> ∃ c, env.cells.lookup x.1 = some c) : closureFor scope env = pure (wQ env scope.names []) := by
 have go : ∀ (names : List (Str × NameKind)) (cs : List (Str × Addr)) (f : Str × NameKind -> List (Str × Addr) -> Sem (ForInStep (List (Str × Addr)))),
  (∀ name kind cs, f (name, kind) cs = if kind == .free then (do let a <- cellOf env name; pure (.yield ((name, a) :: cs))) else pure (.yield cs)) ->
  (∀ x ∈ names, x.2 = .free -> ∃ c, env.cells.lookup x.1 = some c) -> (forIn names cs f : Sem (List (Str × Addr))) = pure (wQ env names cs) := by
  intro names
  induction names with
  | nil => intro cs f _ _; rfl
  | cons x r ih =>
   intro cs f hf hx
   obtain ⟨n, k⟩ := x
   rw [List.forIn_cons, hf]
   unfold wQ
   by_cases hk : (k == .free) = true
   · obtain ⟨c, hc⟩ := hx (n, k) zzC (by simpa using hk)
     rw [if_pos hk, if_pos hk]
     have e : cellOf env n = pure c := by unfold cellOf; rw [hc]
     rw [e, hc]
     exact ih _ f hf λ y hy => hx y (zzA _ hy)
   · rw [if_neg hk, if_neg hk]
     exact ih _ f hf λ y hy => hx y (zzA _ hy)
 simp only [closureFor]
 rw [go scope.names [] _ (λ name kind cs => ?_) h]
 · rfl
 · rfl
theorem zer {env : Env} : ∀ (names : List (Str × NameKind)) (cs : List (Str × Addr)) (p : Str × Addr), p ∈ wQ env names cs -> p ∈ cs \/ ((p.1, NameKind.free) ∈ names /\ p.2 = (env.cells.lookup p.1).getD 0)
 | [], _, _, h => .inl h
 | (n, k) :: r, cs, p, h => by
  unfold wQ at h
  rcases zer r _ p h with h | h
  · by_cases hk : (k == .free) = true
    · rw [if_pos hk] at h
      rcases zS.mp h with e | h
      · subst e
        have : k = .free := by simpa using hk
        subst this
        exact .inr ⟨zzC, rfl⟩
      · exact .inl h
    · rw [if_neg hk] at h; exact .inl h
  · exact .inr ⟨zzA _ h.1, h.2⟩
theorem zdx {env : Env} : ∀ (names : List (Str × NameKind)) (cs : List (Str × Addr)) (p : Str × Addr), p ∈ cs -> p ∈ wQ env names cs
 | [], _, _, h => h
 | (n, k) :: r, cs, p, h => by
  unfold wQ
  refine zdx r _ p ?_
  split
  · exact zzA _ h
  · exact h
theorem zeB {env : Env} : ∀ (names : List (Str × NameKind)) (cs : List (Str × Addr)) (x : Str), (x, NameKind.free) ∈ names -> (x, (env.cells.lookup x).getD 0) ∈ wQ env names cs
 | (n, k) :: r, cs, x, h => by
  unfold wQ
  rcases zS.mp h with e | h
  · cases e
    exact zdx r _ _ (by simp)
  · exact zeB r _ x h
theorem YX {α : Type} {x : Str} {a : α} : ∀ {l : List (Str × α)}, (∀ p ∈ l, p.1 = x -> p.2 = a) -> (∃ b, (x, b) ∈ l) -> l.lookup x = some a
 | [], _, h => by obtain ⟨_, h⟩ := h; cases h
 | (k, v) :: r, u, h => by
  rw [List.lookup_cons]
  cases hb : x == k with
  | true =>
   have := u (k, v) zzC (beq_iff_eq.mp hb).symm
   exact congrArg some this
  | false =>
   refine YX (λ p hp => u p (zzA _ hp)) ?_
   obtain ⟨b, h⟩ := h
   rcases zS.mp h with e | h
   · cases e; simp at hb
   · exact ⟨b, h⟩
theorem zbr : ∀ (names : List (Str × NameKind)) (h : Heap) (acc : List (Str × Addr)) (p : Str × Addr), p ∈ cellsFrom h.objs.size names acc ->
 p ∈ acc \/ ((p.1, NameKind.cell) ∈ names /\ (pushCells h names).IsCell p.2 none /\ h.objs.size <= p.2)
 | [], _, _, _, m => .inl m
 | (n, k) :: r, h, acc, p, m => by
  unfold cellsFrom at m
  unfold pushCells
  split at m
  · rename_i hk
    rw [if_pos hk]
    have e : (h.push { cls := .type "cell", data := .cell none }).objs.size = h.objs.size + 1 := Heap.size_push ..
    rw [<- e] at m
    rcases zbr r _ _ p m with m | ⟨m1, m2, m3⟩
    · rcases zS.mp m with e2 | m
      · subst e2
        have : k = .cell := by simpa using hk
        subst this
        refine .inr ⟨zzC, ?_, zzK _⟩
        have z : (h.push { cls := .type "cell", data := .cell none }).IsCell h.objs.size none := ⟨_, Heap.get?_push_size _ rfl, rfl⟩
        exact z.keeps (pushCells_keeps r _)
      · exact .inl m
    · exact .inr ⟨zzA _ m1, m2, by rw [e] at m3; omega⟩
  · rename_i hk
    rw [if_neg hk]
    rcases zbr r h acc p m with m | ⟨m1, m2, m3⟩
    · exact .inl m
    · exact .inr ⟨zzA _ m1, m2, m3⟩
theorem X4 : ∀ (names : List (Str × NameKind)) (n : Nat) (acc : List (Str × Addr)) (p : Str × Addr), p ∈ acc -> p ∈ cellsFrom n names acc
 | [], _, _, _, m => m
 | (_, k) :: r, n, acc, p, m => by
  unfold cellsFrom
  split
  · exact X4 r _ _ p (zzA _ m)
  · exact X4 r _ _ p m
theorem zba : ∀ (names : List (Str × NameKind)) (n : Nat) (acc : List (Str × Addr)) (x : Str), (x, NameKind.cell) ∈ names -> ∃ c, (x, c) ∈ cellsFrom n names acc
 | (y, k) :: r, n, acc, x, m => by
  unfold cellsFrom
  rcases zS.mp m with e | m
  · cases e
    rw [if_pos (by decide)]
    exact ⟨n, X4 r _ _ _ zzC⟩
  · split
    · exact zba r _ _ x m
    · exact zba r _ _ x m
theorem zbh : ∀ (names : List (Str × NameKind)) (n : Nat) (acc : List (Str × Addr)), (∀ p ∈ acc, p.2 < n) -> (∀ p ∈ acc, ∀ q ∈ acc, p.2 = q.2 -> p.1 = q.1) -> ∀ p ∈ cellsFrom n names acc, ∀ q ∈ cellsFrom n names acc, p.2 = q.2 -> p.1 = q.1
 | [], _, _, _, h => h
 | (y, k) :: r, n, acc, lt, h => by
  unfold cellsFrom
  split
  · refine zbh r (n + 1) _ (λ p m => ?_) (λ p m q m' e => ?_)
    · rcases zS.mp m with z | m
      · subst z; exact Nat.lt_succ_self _
      · exact Nat.lt_succ_of_lt (lt p m)
    · rcases zS.mp m with z | m
      · rcases zS.mp m' with z' | m'
        · rw [z, z']
        · subst z; have := lt q m'; rw [<- e] at this; exact absurd this (Nat.lt_irrefl _)
      · rcases zS.mp m' with z' | m'
        · subst z'; have := lt p m; rw [e] at this; exact absurd this (Nat.lt_irrefl _)
        · exact h p m q m' e
  · exact zbh r n acc lt h
section
variable {M : Model} {A : Around} {E : Value -> Shared -> Prop} {s : Shared}
def Ww (scope : Scope) (env : Env) (cl : List (Str × Addr)) (L : Addr) : Env :=
 { scope := relabel scope env, locals := L, globals := env.globals, cells := cellsFrom (L + 1) scope.names cl, qual := env.qual, func := none, code := env.code, frame := env.frame, builtins := env.builtins }
theorem zeU {scope : Scope} {env : Env} {cl : List (Str × Addr)} {Q : Env -> Shared -> Prop}
 (h : ∀ h' env', { env' with scope := relabel scope env } = Ww scope env cl s.heap.objs.size -> env'.locals = s.heap.objs.size -> (∀ b o, s.heap.get? b = some o -> h'.get? b = some o) -> h'.Ns s.heap.objs.size (λ _ => none) ->
  (∀ p ∈ cellsFrom (s.heap.objs.size + 1) scope.names cl, p ∈ cl \/ ((p.1, NameKind.cell) ∈ scope.names /\ h'.IsCell p.2 none /\ s.heap.objs.size + 1 <= p.2)) -> Q env' { s with heap := h' }) :
 wpAny M A (newFunctionEnv scope env.globals cl [] env.qual none .none (some env)) Q E s := by
 simp only [newFunctionEnv, Option.isSome_some, if_true]
 refine wpAny_bind (wpAny_alloc ?_)
 refine wpAny_bind (wpAny_layCells _ (λ name kind cells => by cases hkc : kind == NameKind.cell <;> simp [hkc]) _ _ _ _ ?_)
 have e : (s.heap.push { cls := .type "dict", data := .dict #[] }).objs.size = s.heap.objs.size + 1 := Heap.size_push ..
 refine wpAny_bind (wpAny_pure (wpAny_pure (h _ _ ?_ rfl (λ b o q => pushCells_keeps _ _ b o (Heap.get?_push_of_some _ q)) ((Heap.Ns.new s.heap (.type "dict")).keeps (pushCells_keeps _ _)) λ p m => ?_)))
 · unfold Ww
   rw [<- e]
 · rw [<- e] at m
   rcases zbr _ _ _ p m with m | ⟨m1, m2, m3⟩
   · exact .inl m
   · exact .inr ⟨m1, m2, by rw [e] at m3; exact m3⟩
end
abbrev wD (X : Cx) (N : List Str) (scope : Scope) (cl : List (Str × Addr)) (s : Shared) (H : Hp) (fp : List Addr) : Cx :=
 { X with N := N, s₀ := s, H₀ := H, env := Ww scope X.env cl (s.heap.objs.size + 1), outer := X.stack, ex := fp, fn := λ x => scope.names.lookup x == some .cell, pn := [], xe := λ _ _ => False }
def zqr (σ : St) : Option Nat -> Option V
 | none => none
 | some j => (σ[j]?).getD none
def vR (cap : List (Option Nat)) (σ : St) : St := cap.map (zqr σ)
def Zc (N XN : List Str) (names : List (Str × NameKind)) (envNames : List (Str × NameKind)) (cap : List (Option Nat)) : Bool :=
 N.length == cap.length && (N.zip cap).all (λ p => match p.2 with | none => true | some j => XN[j]? == some p.1 && names.contains (p.1, NameKind.free)) &&
 names.all (λ p => p.2 != .free || envNames.lookup p.1 == some .cell || envNames.lookup p.1 == some .free) && decide (names.map (·.1)).Nodup
def PTs (X : Cx) (ifs : List Expr) (t : TT) : Prop :=
 ∀ (pins : List (Addr × Obj)) (s : Shared) (σ : St) (H : Hp) (Q : Bool -> Hp -> Prop), Inv X pins σ H s -> t σ H Q ->
  wpAny (model X.prog X.w) X.A (forIn ifs true λ c r => if r = true then do let ok <- isTrue c X.env (eval c X.env); pure (ForInStep.yield ok) else pure (ForInStep.yield r)) (TP X pins σ Q) X.xe s
theorem znr {X : Cx} : PTs X [] (λ _ H Q => Q true H) := λ pins s σ H Q I h => wpAny_tests_nil ⟨H, I, h⟩
theorem zms {X : Cx} {c : Expr} {t : TT} (h : PT X c t) : PTs X [c] t := λ pins s σ H Q I q => wpAny_tests_one (h pins s σ H Q I q)
def zkt (wi : TI) (cap : List (Option Nat)) (g : TG) (tt : TT) (te : TE) : TE := λ σ H Q => wi σ H λ J H1 => ∃ W : Nat -> Nat -> List V -> Hp -> Prop, (∃ m, W 0 m [] H1) /\ ∀ i m ys H, W i m ys H -> ys.length <= sizeLine /\
 ((J.stop i H /\ ∀ p, H p = none -> Q (.ref p) (upd H p (.lst ys))) \/ (J.go i H /\ ∀ x H', J.yld i H x H' -> g x (vR cap σ) H' λ σ2 H2 => (∀ (j : Nat) v, (vR cap σ)[j]? = some (some v) -> σ2[j]? = some (some v)) /\
   tt σ2 H2 λ b H3 => if b = true then ys.length < sizeLine /\ te σ2 H3 λ y H4 => ∃ m', m' < m /\ W (i + 1) m' (ys ++ [y]) H4 else ∃ m', m' < m /\ W (i + 1) m' ys H3))
section
variable {prog : Program} {w : World} {A : Around} {E : Value -> Shared -> Prop} {R : Result -> Shared -> Prop} {s : Shared}
theorem zeM {elt target iter : Expr} {ifs : List Expr} {scope : Scope} {pos : Pos} {it acc : Value} {env : Env} (I : Nat -> Shared -> Prop)
 (turn : ∀ n s (E : Value -> Shared -> Prop), I n s -> wpAny (model prog w) A (pyNext it) (λ r s₁ => match r with
  | none => R (.ok .next) s₁
  | some v => wpAny (model prog w) A (letOwnedTupleGo target it v) (λ _ s₁ => wpAny (model prog w) A (assign target env v) (λ _ s₂ =>
   wpAny (model prog w) A (forIn ifs true λ c r => if r = true then do let ok <- isTrue c env (eval c env); pure (ForInStep.yield ok) else pure (ForInStep.yield r)) (λ ok s₃ =>
    if ok = true then wpAny (model prog w) A (eval elt env) (λ x s₄ =>
     wpAny (model prog w) A (call (.builtin "list.append") [acc, x]) (λ _ s₅ => ∃ m, m < n /\ I m s₅) E s₄) E s₃
    else ∃ m, m < n /\ I m s₃) E s₂) E s₁) E s₁) E s)
 (n : Nat) (h : I n s) :
 codeAny (model prog w) A (.compLoop (.ListComp elt [⟨target, iter, ifs, 0⟩] scope pos) 0 it acc env) R s := by
 refine codeAny_loop rfl I (λ n s hI => ?_) n h
 show wpAny _ A ((compTurn (.ListComp elt [⟨target, iter, ifs, 0⟩] scope pos) 0 it acc env).onRaise (λ x => do noteFrame x env; theTreesLotGoes x)) _ _ s
 refine wpAny_noted ?_
 rw [compTurn_list]
 refine wpAny_bind (wpAny_standAt (wpAny_bind (wpAny_mono (turn n s _ hI) (λ r s₁ h₁ => ?_) λ _ _ h' => h')))
 cases r with
 | none => exact wpAny_pure h₁
 | some v =>
  refine wpAny_bind (wpAny_mono h₁ (λ _ s₁ h₁ => ?_) λ _ _ h' => h')
  refine wpAny_bind (wpAny_mono h₁ (λ _ s₂ h₂ => wpAny_bind (wpAny_mono h₂ (λ ok s₃ h₃ => ?_) λ _ _ h' => h')) λ _ _ h' => h')
  cases ok with
  | false => exact wpAny_pure ⟨rfl, h₃⟩
  | true =>
   exact wpAny_bind (wpAny_bind (wpAny_mono h₃ (λ x s₄ h₄ => wpAny_bind (wpAny_mono h₄ (λ _ s₅ h₅ => wpAny_pure (wpAny_pure ⟨rfl, h₅⟩)) λ _ _ h' => h')) λ _ _ h' => h'))
end
structure CapOk (N XN : List Str) (names : List (Str × NameKind)) (envNames : List (Str × NameKind)) (cap : List (Option Nat)) : Prop where
 len : N.length = cap.length
 at_ : ∀ (i : Nat) x (j : Nat), N[i]? = some x -> cap[i]? = some (some j) -> XN[j]? = some x /\ (x, NameKind.free) ∈ names
 fr : ∀ p ∈ names, p.2 = .free -> envNames.lookup p.1 = some .cell \/ envNames.lookup p.1 = some .free
 nd : (names.map (·.1)).Nodup
theorem zgJ {N XN : List Str} {names envNames : List (Str × NameKind)} {cap : List (Option Nat)} (h : Zc N XN names envNames cap = true) : CapOk N XN names envNames cap := by
 unfold Zc at h
 simp only [Bool.and_eq_true, beq_iff_eq, List.all_eq_true, decide_eq_true_eq] at h
 obtain ⟨⟨⟨h1, h2⟩, h3⟩, h4⟩ := h
 refine ⟨h1, λ i x j e1 e2 => ?_, λ p hp e => ?_, h4⟩
 · have m : (x, some j) ∈ N.zip cap := List.mem_of_getElem? (i := i) (by rw [List.getElem?_zip_eq_some]; exact ⟨e1, e2⟩)
   have := h2 _ m
   simp only [Bool.and_eq_true, beq_iff_eq] at this
   exact ⟨this.1, by simpa using this.2⟩
 · have := h3 p hp
   rw [e] at this
   simpa using this
theorem zfh {names : List (Str × NameKind)} (h : (names.map (·.1)).Nodup) {x : Str} {k k' : NameKind} (m : (x, k) ∈ names) (m' : (x, k') ∈ names) : k = k' := by
 induction names with
 | nil => cases m
 | cons p r ih =>
  obtain ⟨h1, h2⟩ := zzT.mp (show (p.1 :: r.map (·.1)).Nodup from h)
  rcases zS.mp m with e | m
  · rcases zS.mp m' with e' | m'
    · rw [<- e] at e'; cases e'; rfl
    · exact absurd (List.mem_map.mpr ⟨_, m', by rw [<- e]⟩) h1
  · rcases zS.mp m' with e' | m'
    · exact absurd (List.mem_map.mpr ⟨_, m, by rw [<- e']⟩) h1
    · exact ih h2 m m'
theorem zbo {names : List (Str × NameKind)} (h : (names.map (·.1)).Nodup) {x : Str} {k : NameKind} (m : (x, k) ∈ names) : names.lookup x = some k :=
 YX (λ p hp e => by obtain ⟨y, k'⟩ := p; cases (show y = x from e); exact zfh h hp m) ⟨k, m⟩
theorem Vi {env : Env} {scope : Scope} (x : Str) : (relabel scope env).names.lookup x = (scope.names.lookup x).map λ k => if (k == .free && env.scope.kind == .function && env.kindOf x == some .cell) = true then NameKind.cell else k := by
 unfold relabel
 show (scope.names.map _).lookup x = _
 generalize scope.names = names
 induction names with
 | nil => rfl
 | cons p r ih =>
  obtain ⟨n, k⟩ := p
  rw [List.map_cons, List.lookup_cons (k := n) (as := r)]
  cases hb : x == n with
  | true =>
   have e : x = n := beq_iff_eq.mp hb
   subst e
   show List.lookup x ((if (k == NameKind.free && env.scope.kind == .function && env.kindOf x == some .cell) = true then (x, NameKind.cell) else (x, k)) :: _) = _
   show _ = some (if (k == NameKind.free && env.scope.kind == .function && env.kindOf x == some .cell) = true then NameKind.cell else k)
   split
   · rw [List.lookup_cons, hb]
   · rw [List.lookup_cons, hb]
  | false =>
   show List.lookup x ((if (k == NameKind.free && env.scope.kind == .function && env.kindOf n == some .cell) = true then (n, NameKind.cell) else (n, k)) :: _) = _
   split
   · rw [List.lookup_cons, hb]; exact ih
   · rw [List.lookup_cons, hb]; exact ih
theorem zhb {X : Cx} {pins : List (Addr × Obj)} {σ : St} {H : Hp} {s : Shared} {N : List Str} {scope : Scope} {cap : List (Option Nat)} {fp : List Addr} {h' : Heap} (I : Inv X pins σ H s) (C : CapOk N X.N scope.names X.env.scope.names cap) (hk : scope.kind = .function)
 (hf : ∀ b ∈ fp, zch X pins H b) (ho : ∀ b ∈ fp, ∃ o, s.heap.get? b = some o)
 (old : ∀ b o, s.heap.get? b = some o -> h'.get? b = some o) (ns : h'.Ns (s.heap.objs.size + 1) (λ _ => none))
 (hc : ∀ p ∈ cellsFrom (s.heap.objs.size + 1 + 1) scope.names (wQ X.env scope.names []), p ∈ wQ X.env scope.names [] \/ ((p.1, NameKind.cell) ∈ scope.names /\ h'.IsCell p.2 none /\ s.heap.objs.size + 1 + 1 <= p.2)) :
 Inv (wD X N scope (wQ X.env scope.names []) s H fp) [] (vR cap σ) H { s with heap := h' } := by
 have has : ∀ x, (x, NameKind.free) ∈ scope.names -> ∃ c, X.env.cells.lookup x = some c := λ x m => I.ok.has x (C.fr _ m rfl)
 have clo : ∀ p ∈ wQ X.env scope.names [], X.env.cells.lookup p.1 = some p.2 /\ (p.1, NameKind.free) ∈ scope.names := λ p m => by
  rcases zer _ _ p m with z | ⟨z1, z2⟩
  · cases z
  · obtain ⟨c, e⟩ := has _ z1
    rw [e] at z2
    exact ⟨by rw [e]; exact congrArg some z2.symm, z1⟩
 have look : ∀ x c, (cellsFrom (s.heap.objs.size + 1 + 1) scope.names (wQ X.env scope.names [])).lookup x = some c -> (X.env.cells.lookup x = some c /\ (x, NameKind.free) ∈ scope.names) \/ ((x, NameKind.cell) ∈ scope.names /\ h'.IsCell c none /\ s.heap.objs.size + 1 + 1 <= c) := λ x c e => by
  rcases hc _ (mem_of_lookup e) with m | m
  · exact .inl (clo _ m)
  · exact .inr m
 have lt : ∀ x c, X.env.cells.lookup x = some c -> c < s.heap.objs.size := λ x c e => by obtain ⟨v, z⟩ := I.cell x c e; exact z.lt
 have lookF : ∀ x, (x, NameKind.free) ∈ scope.names -> ∃ c, (cellsFrom (s.heap.objs.size + 1 + 1) scope.names (wQ X.env scope.names [])).lookup x = some c /\ X.env.cells.lookup x = some c := λ x m => by
  obtain ⟨c, e⟩ := has x m
  have m1 := X4 scope.names (s.heap.objs.size + 1 + 1) _ _ (zeB (env := X.env) scope.names [] x m)
  refine ⟨c, YX (λ p hp ep => ?_) ⟨_, m1⟩, e⟩
  rcases hc p hp with z | z
  · have := (clo p z).1
    rw [ep, e] at this
    exact (Option.some.inj this).symm
  · rw [ep] at z
    exact absurd (zfh C.nd z.1 m) (by decide)
 have kinds : ∀ x, ((relabel scope X.env).names.lookup x = some .cell \/ (relabel scope X.env).names.lookup x = some .free) -> (x, NameKind.free) ∈ scope.names \/ (x, NameKind.cell) ∈ scope.names := λ x h => by
  rw [Vi] at h
  cases e : scope.names.lookup x with
  | none => rw [e] at h; rcases h with h | h <;> cases h
  | some k =>
   have m := mem_of_lookup e
   cases k with
   | free => exact .inl m
   | cell => exact .inr m
   | _ => rw [e] at h; rcases h with h | h <;> (simp at h)
 have lsz : s.heap.objs.size + 1 < h'.objs.size := ns.lt
 refine ⟨⟨I.ok.mod, hk, I.ok.glob, I.ok.blt, Nat.le_succ _, ?_, ?_, ?_, I.ok.hd, I.ok.frames, .inl rfl, ?_, I.bs, zzL I.ok.bsz I.sz, ?_, ?_, I.stack, I.stkFree⟩, rfl, I.bare, (Un.kept old), ⟨_, ns, ?_⟩, ?_, I.hok.fresh (Nat.le_succ _), ?_, (λ _ z => nomatch z), I.hok.kept old, ?_⟩
 · intro x y c e1 e2
   refine zbh scope.names (s.heap.objs.size + 1 + 1) _ (λ p m => ?_) (λ p m q m' e => ?_) (x, c) (mem_of_lookup e1) (y, c) (mem_of_lookup e2) rfl
   · exact Nat.lt_succ_of_lt (Nat.lt_succ_of_lt (lt _ _ (clo p m).1))
   · refine I.ok.inj _ _ _ (clo p m).1 ?_
     rw [e]; exact (clo q m').1
 · intro x h
   rcases kinds x h with m | m
   · obtain ⟨c, e, _⟩ := lookF x m; exact ⟨c, e⟩
   · obtain ⟨c, e⟩ := zba scope.names (s.heap.objs.size + 1 + 1) (wQ X.env scope.names []) x m
     cases q : (cellsFrom (s.heap.objs.size + 1 + 1) scope.names (wQ X.env scope.names [])).lookup x with
     | some c' => exact ⟨c', q⟩
     | none =>
      exfalso
      have := List.lookup_eq_none_iff.mp q (x, c) e
      simp at this
 · intro x c hx e
   have hx : (scope.names.lookup x == some .cell) = true := hx
   have m := mem_of_lookup (beq_iff_eq.mp hx)
   rcases look x c e with z | z
   · exact absurd (zfh C.nd z.2 m) (by decide)
   · exact zzL (zzL (Nat.le_succ _) (Nat.le_succ _)) z.2.2
 · intro b hb
   obtain ⟨o, e⟩ := ho b hb
   refine ⟨zzN (Nat.lt_succ_of_lt (Heap.lt_size e)), λ x c ec => ?_⟩
   rcases look x c ec with z | z
   · exact (hf b hb).2.2.2.2.1 x c z.1
   · have := Heap.lt_size e
     intro q; subst q
     exact absurd (zzH this (zzL (zzL (Nat.le_succ _) (Nat.le_succ _)) z.2.2)) (Nat.lt_irrefl _)
 · intro b o e hb
   rcases (hf b hb).2.2.2.1 with z | z
   · exact I.ok.noex b o e z
   · exact absurd (zzH (Heap.lt_size e) (zzL I.ok.bsz z)) (Nat.lt_irrefl _)
 · intro b hb hm
   rcases zS.mp (I.stkSub b hm) with z | z
   · exact (hf b hb).2.1 z
   · exact (hf b hb).2.2.1 z
 · intro i x v e1 e2 e3
   have e2 : (vR cap σ)[i]? = some (some v) := e2
   unfold vR at e2
   rw [zzF] at e2
   cases ec : cap[i]? with
   | none => rw [ec] at e2; cases e2
   | some c =>
    cases c with
    | none => rw [ec] at e2; cases e2
    | some j =>
     rw [ec] at e2
     have e2 : (σ[j]?).getD none = some v := Option.some.inj e2
     obtain ⟨xn, m⟩ := C.at_ i x j e1 ec
     have es : σ[j]? = some (some v) := by
      cases q : σ[j]? with
      | none => rw [q] at e2; cases e2
      | some y => rw [q] at e2; exact congrArg some e2
     have kf := C.fr _ m rfl
     obtain ⟨mm, hn, hl⟩ := I.loc
     obtain ⟨u, r, l⟩ := hl j x v xn es (by rcases kf with k | k; exact .inr (.inl k); exact .inr (.inr k))
     refine ⟨u, r, .inr ⟨?_, ?_⟩⟩
     · show (relabel scope X.env).names.lookup x = some .cell \/ (relabel scope X.env).names.lookup x = some .free
       rw [Vi, zbo C.nd m]
       show some (if _ then _ else _) = _ \/ some (if _ then _ else _) = _
       split
       · exact .inl rfl
       · exact .inr rfl
     · obtain ⟨c, ec, eo⟩ := lookF x m
       refine ⟨c, ec, ?_⟩
       rcases l with ⟨k1, _⟩ | ⟨_, c2, e4, z⟩
       · have k1 : X.env.scope.names.lookup x = some .local := k1
         rcases kf with k | k <;> (rw [k1] at k; cases k)
       · rw [eo] at e4; cases e4
         exact z.keeps old
 · intro x c e
   rcases look x c e with z | z
   · obtain ⟨v, q⟩ := I.cell x c z.1; exact ⟨v, q.keeps old⟩
   · exact ⟨none, z.2.1⟩
 · intro x c e
   rcases look x c e with z | z
   · exact I.freeC x c z.1
   · exact I.hok.fresh (zzL (zzL (Nat.le_succ _) (Nat.le_succ _)) z.2.2)
 · show (vR cap σ).length = N.length
   unfold vR
   rw [zD, C.len]
abbrev lobj (its : List Value) : Obj := { cls := .type "list", data := .seq its.toArray its.length }
section
variable {X : Cx} {pins : List (Addr × Obj)} {σ : St} {H2 : Hp} {s2 : Shared} {elt tg iter : Expr} {ifs : List Expr} {scope : Scope} {pos : Pos} {N : List Str} {cap : List (Option Nat)} {g : TG} {tt : TT} {te : TE} {wi : TI}
set_option maxHeartbeats 1000000
theorem zdy {J : It} {it : Addr} {fp : List Addr} {tn : Nat -> Heap -> Prop} {Q : VK} {R : Value -> Addr -> Result -> Shared -> Prop} {E : Value -> Shared -> Prop}
 (hc : X.calm = true) (C : CapOk N X.N scope.names X.env.scope.names cap) (hk : scope.kind = .function)
 (hg : ∀ cl s H fp, PG (wD X N scope cl s H fp) tg g) (ht : ∀ cl s H fp, PTs (wD X N scope cl s H fp) ifs tt) (he : ∀ cl s H fp, PE (wD X N scope cl s H fp) elt te)
 (I2 : Inv X pins σ H2 s2) (T : Turn X.prog X.w X.K tg J fp it tn) (st2 : tn 0 s2.heap) (f2 : ∀ b ∈ fp, zch X pins H2 b)
 (W : Nat -> Nat -> List V -> Hp -> Prop) (m0 : Nat) (w0 : W 0 m0 [] H2)
 (turn : ∀ i m ys H, W i m ys H -> ys.length <= sizeLine /\ ((J.stop i H /\ ∀ p, H p = none -> Q (.ref p) (upd H p (.lst ys))) \/ (J.go i H /\ ∀ x H', J.yld i H x H' -> g x (vR cap σ) H' λ σ2 H2 => (∀ (j : Nat) v, (vR cap σ)[j]? = some (some v) -> σ2[j]? = some (some v)) /\
  tt σ2 H2 λ b H3 => if b = true then ys.length < sizeLine /\ te σ2 H3 λ y H4 => ∃ m', m' < m /\ W (i + 1) m' (ys ++ [y]) H4 else ∃ m', m' < m /\ W (i + 1) m' ys H3)))
 (fin : ∀ ys H3 s1 m, Inv X pins σ (upd H3 s2.heap.objs.size (.lst ys)) s1 -> s1.heap.Ns (s2.heap.objs.size + 1) m -> zch X pins (upd H3 s2.heap.objs.size (.lst ys)) (s2.heap.objs.size + 1) ->
  Q (.ref s2.heap.objs.size) (upd H3 s2.heap.objs.size (.lst ys)) -> R (.ref s2.heap.objs.size) (s2.heap.objs.size + 1) (.ok .next) s1) :
 wpAny (model X.prog X.w) X.A (newList []) (λ acc s₃ => wpAny (model X.prog X.w) X.A (newFunctionEnv scope X.env.globals (wQ X.env scope.names []) [] X.env.qual none .none (some X.env)) (λ cenv s₄ =>
  codeAny (model X.prog X.w) X.A (.compStart (.ListComp elt [⟨tg, iter, ifs, 0⟩] scope pos) 0 (.ref it) acc { cenv with scope := relabel scope X.env }) (R acc cenv.locals) s₄) E s₃) E s2 := by
 refine wpAny_newObj_type (zeU λ h' env' eE eL old hns hcells => ?_)
 have e1 : (s2.heap.push { cls := .type "list", dict := none, data := .seq ([] : List Value).toArray }).objs.size = s2.heap.objs.size + 1 := Heap.size_push ..
 dsimp only at eE eL old hns hcells
 rw [e1] at eE eL hns hcells
 have hD0 : (s2.heap.push { cls := .type "list", dict := none, data := .seq ([] : List Value).toArray }).get? s2.heap.objs.size = some (lobj []) := Heap.get?_push_size _ rfl
 have hD : h'.get? s2.heap.objs.size = some (lobj []) := old _ _ hD0
 have old' : ∀ b o, s2.heap.get? b = some o -> h'.get? b = some o := λ b o q => old b o (Heap.get?_push_of_some _ q)
 have fex : ∀ b ∈ fp, ∃ o, s2.heap.get? b = some o := λ b hb => by obtain ⟨o, e, _⟩ := T.obj _ _ st2 b hb; exact ⟨o, e⟩
 have flt : ∀ b ∈ fp, b < s2.heap.objs.size := λ b hb => by obtain ⟨o, e⟩ := fex b hb; exact Heap.lt_size e
 have I' := zhb I2 C hk f2 fex old' hns hcells
 rw [eE, eL]
 generalize hX : wD X N scope (wQ X.env scope.names []) s2 H2 fp = X' at I'
 have xP : X'.prog = X.prog := by rw [<- hX]
 have xw : X'.w = X.w := by rw [<- hX]
 have xK : X'.K = X.K := by rw [<- hX]
 have xA : X'.A = X.A := by rw [<- hX]
 have xe : X'.env = Ww scope X.env (wQ X.env scope.names []) (s2.heap.objs.size + 1) := by rw [<- hX]
 have xL : X'.env.locals = s2.heap.objs.size + 1 := by rw [xe]; rfl
 have xfs : X'.fs = frs X.stack := by rw [<- hX]
 have xex : X'.ex = fp := by rw [<- hX]
 have xs : X'.s₀ = s2 := by rw [<- hX]
 have xH : X'.H₀ = H2 := by rw [<- hX]
 have xpn : X'.pn = [] := by rw [<- hX]
 have xc : X'.calm = true := by rw [<- hX]; exact hc
 have xE : X'.xe = λ _ _ => False := by rw [<- hX]
 have hg' : PG X' tg g := by rw [<- hX]; exact hg _ _ _ _
 have ht' : PTs X' ifs tt := by rw [<- hX]; exact ht _ _ _ _
 have he' : PE X' elt te := by rw [<- hX]; exact he _ _ _ _
 have H2D : H2 s2.heap.objs.size = none := I2.hok.fresh (zzK _)
 have Dfs : s2.heap.objs.size ∉ X'.fs := by
  rw [xfs]
  intro hm
  rcases zS.mp (I2.stkSub _ hm) with z | z
  · exact absurd I2.lt (by rw [<- z]; exact Nat.lt_irrefl _)
  · exact I2.nofs (zzK _) z
 have DL : s2.heap.objs.size ≠ X'.env.locals := by rw [xL]; exact zzN (Nat.lt_succ_self _)
 have pinD : ∀ {σ' : St} {H' : Hp} {s' : Shared} {its : List Value} {ps : List (Addr × Obj)}, Inv X' ps σ' H' s' -> s'.heap.get? s2.heap.objs.size = some (lobj its) -> H' s2.heap.objs.size = none -> Inv X' [(s2.heap.objs.size, lobj its)] σ' H' s' := λ I e n =>
  I.pins_of λ p hp => by
   cases zzO.mp hp
   exact ⟨e, n, DL, Dfs, λ v z => by cases z⟩
 have stat : ∀ {H' : Hp} {its : List Value}, (∀ b ∈ fp, H' b = none) -> ∀ b ∈ fp, zch X' [(s2.heap.objs.size, lobj its)] H' b := λ hn b hb => by
  refine ⟨hn b hb, ?_, ?_, .inl (by rw [xex]; exact hb), (I'.ok.exf b (by rw [xex]; exact hb)).2, λ p hp => ?_⟩
  · exact (I'.ok.exf b (by rw [xex]; exact hb)).1
  · exact I'.ok.exfs b (by rw [xex]; exact hb)
  · rw [xpn, List.nil_append] at hp
    cases zzO.mp hp
    exact Nat.ne_of_gt (flt b hb)
 have loop : ∀ (n : Nat) (s' : Shared), (∃ i ys its H3, Inv X' [(s2.heap.objs.size, lobj its)] (vR cap σ) H3 s' /\ tn i s'.heap /\ (∀ b ∈ fp, H3 b = none) /\ Vals ys its /\ W i n ys H3) ->
  codeAny (model X.prog X.w) X.A (.compLoop (.ListComp elt [⟨tg, iter, ifs, 0⟩] scope pos) 0 (.ref it) (.ref s2.heap.objs.size) (Ww scope X.env (wQ X.env scope.names []) (s2.heap.objs.size + 1)))
   (R (.ref s2.heap.objs.size) (s2.heap.objs.size + 1)) s' := by
  intro n s' h0
  refine zeM (λ n s' => ∃ i ys its H3, Inv X' [(s2.heap.objs.size, lobj its)] (vR cap σ) H3 s' /\ tn i s'.heap /\ (∀ b ∈ fp, H3 b = none) /\ Vals ys its /\ W i n ys H3) ?_ n h0
  clear h0 n s'
  rintro n s3 E' ⟨i, ys, its, H3, I3, st3, fr3, rv3, w3⟩
  obtain ⟨hz, hstep⟩ := turn i n ys H3 w3
  rcases hstep with ⟨stop, qn⟩ | ⟨go, step⟩
  · have := T.done X' xP xw xK xc i _ s3 _ H3 E' I3 (stat fr3) st3 stop
    rw [xA] at this
    refine wpAny_mono this (λ r s4 ⟨hr, I4⟩ => ?_) λ _ _ z => z
    subst hr
    obtain ⟨gD, nD, _⟩ := I4.pin (s2.heap.objs.size, lobj its) (by rw [xpn]; simp)
    obtain ⟨m, hn, _⟩ := I4.loc
    rw [xL] at hn
    have b4 := I4.base
    rw [xfs, xex, xH, xs] at b4
    have nL : H3 (s2.heap.objs.size + 1) = none := by have := I4.free; rw [xL] at this; exact this
    have neD : ∀ b o, s2.heap.get? b = some o -> b ≠ s2.heap.objs.size := λ b o e => zzN (Heap.lt_size e)
    have neH : ∀ b u, H2 b = some u -> b ≠ s2.heap.objs.size := λ b u e z => by rw [z, H2D] at e; cases e
    have ne3 : ∀ b u, H3 b = some u -> b ≠ s2.heap.objs.size := λ b u e z => by rw [z, nD] at e; cases e
    have hok4 := I4.hok
    rw [xP, xw] at hok4
    refine fin ys H3 s4 m (I2.call' (ch := fp) ?_ ⟨b4.keep, b4.slot, λ b o e n hx => ?_, b4.there, λ b xs e => ?_, λ b o u e => ?_, λ b ps e => ?_⟩ ?_ I4.bare λ b hb => ?_) hn (I2.fpOk (Nat.le_succ _) (by rw [zO (Nat.ne_of_gt (Nat.lt_succ_self _))]; exact nL)) (qn _ nD)
    · have := I4.os; rw [xs] at this; exact this
    · rw [zO (neD b o e)]; exact b4.free b o e n hx
    · rw [zO (neH b _ e)]; exact b4.tups b xs e
    · rw [zO (neH b _ e)]; exact b4.frzs b o u e
    · rw [zO (neH b _ e)]; exact b4.tbls b ps e
    · intro b u e
      by_cases hb : b = s2.heap.objs.size
      · subst hb
        rw [yc] at e
        cases e
        exact ⟨hz, its, its.length, rv3, gD⟩
      · rw [zO hb] at e
        exact (hok4 b u e).stay (λ c v _ q => q) (λ c q => by rw [zO (ne3 c _ q)]; exact q) λ c xs q => by rw [zO (ne3 c _ q)]; exact q
    · obtain ⟨f0, f1, f3, f4, f5, f6⟩ := f2 b hb
      exact ⟨f4, f1, f5, f6⟩
  · have := T.item X' xP xw xK xc i _ s3 _ H3 E' I3 (stat fr3) st3 go
    rw [xA] at this
    refine wpAny_mono this (λ r s4 ⟨u, hr, h4⟩ => ?_) λ _ _ z => z
    subst hr
    refine wpAny_mono h4 (λ _ s5 ⟨x, H5, I5, r5, y5, st5, fr5⟩ => ?_) λ _ _ z => z
    have I5' := I5.pinned (stat fr5) (T.obj _ _ st5)
    have h6 := hg' _ s5 _ H5 x u _ I5' r5 (step x H5 y5)
    rw [xP, xw, xA, xe, xE] at h6
    refine wpAny_mono h6 (λ _ s6 ⟨σ6, H6, I6, cap6, q6⟩ => ?_) λ _ _ z => z.elim
    have h7 := ht' _ s6 σ6 H6 _ I6 q6
    rw [xP, xw, xA, xe, xE] at h7
    refine wpAny_mono h7 (λ b s7 ⟨H7, I7, q7⟩ => ?_) λ _ _ z => z.elim
    have keep : ∀ {H8 : Hp} {s8 : Shared}, Inv X' ([(s2.heap.objs.size, lobj its)] ++ zcY fp s5.heap) σ6 H8 s8 -> Inv X' [(s2.heap.objs.size, lobj its)] (vR cap σ) H8 s8 /\ tn (i + 1) s8.heap /\ ∀ b ∈ fp, H8 b = none := λ {H8 s8} I8 => by
     refine ⟨I8.unpinned.weak ?_ cap6, T.keep _ _ _ st5 λ b hb o e => (I8.pin (b, o) (zzI _ (zzI _ (X7 hb e)))).1, λ b hb => ?_⟩
     · rw [I3.len]; exact I8.len.symm
     · obtain ⟨o, e, d⟩ := T.obj _ _ st5 b hb
       exact (I8.pin (b, o) (zzI _ (zzI _ (X7 hb e)))).2.1
    cases b with
    | false =>
     obtain ⟨m', hm, w7⟩ := q7
     obtain ⟨k1, k2, k3⟩ := keep I7
     exact ⟨m', hm, i + 1, ys, its, H7, k1, k2, k3, rv3, w7⟩
    | true =>
     obtain ⟨hz2, q7⟩ := q7
     have h8 := he' _ s7 σ6 H7 _ I7 q7
     rw [xP, xw, xA, xe, xE] at h8
     show wpAny _ _ _ _ _ _
     refine wpAny_mono h8 (λ yv s8 ⟨y, H8, I8, ry, m', hm, w8⟩ => ?_) λ _ _ z => z.elim
     obtain ⟨k1, k2, k3⟩ := keep I8
     obtain ⟨gD, nD, _⟩ := k1.pin (s2.heap.objs.size, lobj its) (by rw [xpn]; simp)
     have hl := rv3.length
     refine append_at gD (λ h9 sb gD9 => ?_) (by rw [zzE]; omega)
     have I9 : Inv X' [] (vR cap σ) H8 { s8 with heap := h9 } := (k1.pins_of (pins' := []) (λ _ z => nomatch z)).turned (t' := s8.toks) (it := s2.heap.objs.size) (λ b o hb e => (sb.2 b hb).trans e) nD DL (.inr (by rw [xs]; exact zzK _)) (λ x c ec z => by
      obtain ⟨v, o, ho, hd⟩ := k1.cell x c ec
      rw [z, gD] at ho
      cases ho
      cases hd) (λ p hp => by rw [xpn] at hp; cases hp)
     have gD9' : h9.get? s2.heap.objs.size = some (lobj (its ++ [yv])) := by
      rw [gD9]
      congr 1
      show ({ cls := .type "list", data := .seq (its.toArray.push yv) (its.length + 1) } : Obj) = { cls := .type "list", data := .seq (its ++ [yv]).toArray (its ++ [yv]).length }
      rw [zzG, List.length_singleton, List.push_toArray]
     refine ⟨m', hm, i + 1, ys ++ [y], its ++ [yv], H8, pinD I9 gD9' nD, T.keep _ _ _ k2 λ b hb o e => (sb.2 b (zzN (flt b hb))).trans e, k3, rv3.append (.cons ry .nil), w8⟩
 have start : ∃ i ys its H3, Inv X' [(s2.heap.objs.size, lobj its)] (vR cap σ) H3 { s2 with heap := h' } /\ tn i h' /\ (∀ b ∈ fp, H3 b = none) /\ Vals ys its /\ W i m0 ys H3 :=
  ⟨0, [], [], H2, pinD I' hD H2D, T.keep _ _ _ st2 λ b hb o e => old' b o e, λ b hb => (f2 b hb).1, .nil, w0⟩
 exact codeAny_compStart_list (loop m0 _ start) (T.self _ 0 _ _ _ (T.keep _ _ _ st2 λ b hb o e => old' b o e) (loop m0 _ start))
theorem zng (hc : X.calm = true) (hi : PI X tg iter wi) (hk : scope.kind = .function) (hcap : Zc N X.N scope.names X.env.scope.names cap = true)
 (hg : ∀ cl s H fp, PG (wD X N scope cl s H fp) tg g) (ht : ∀ cl s H fp, PTs (wD X N scope cl s H fp) ifs tt) (he : ∀ cl s H fp, PE (wD X N scope cl s H fp) elt te)
 (hs : ∀ x, foldedSetIterable iter X.env x = pure x) : PE X (.ListComp elt [⟨tg, iter, ifs, 0⟩] scope pos) (zkt wi cap g tt te) := by
 intro pins s σ H Q I h
 have C := zgJ hcap
 rw [eval_ListComp]
 refine wpAny_comprehension_free (use := none) rfl hs (VG λ x m e => I.ok.has x.1 (C.fr x m e)) hk (λ y m e => zbo C.nd (by rw [<- e]; exact m)) ?_
 refine thn (hi pins s σ H _ I h) λ v s1 h1 => thn h1 λ itv s2 h2 => ?_
 obtain ⟨it, fp, tn, J, H2, e, I2, T, st2, f2, W, ⟨m0, w0⟩, turn⟩ := h2
 subst e
 refine zdy (R := λ acc C r s' => compPost (model X.prog X.w) X.A X.xe none (EP X pins σ Q) acc C r s') hc C hk hg ht he I2 T st2 f2 W m0 w0 turn λ ys H3 s3 m I3 hn fl q => ?_
 refine ⟨m, hn, λ h' sb => ?_⟩
 obtain ⟨f0, f1, f3, f4, f5, f6⟩ := fl
 exact ⟨.ref s2.heap.objs.size, _, I3.turned (t' := s3.toks) (λ b o hb e => (sb.2 b hb).trans e) f0 f1 f4 f5 f6, rfl, q⟩
theorem zno {i : Nat} {y : Str} {py spos : Pos} (hN : X.N.Nodup) (hiy : X.N[i]? = some y) (hy : Loc X.env.scope y) (hf : X.fn y = true \/ X.env.scope.names.lookup y = some .local)
 (hsw : swapsWith (.ListComp elt [⟨tg, iter, ifs, 0⟩] scope pos) (some (.Name y py)) spos.line X.env = pure true)
 (hc : X.calm = true) (hi : PI X tg iter wi) (hk : scope.kind = .function) (hcap : Zc N X.N scope.names X.env.scope.names cap = true)
 (hg : ∀ cl s H fp, PG (wD X N scope cl s H fp) tg g) (ht : ∀ cl s H fp, PTs (wD X N scope cl s H fp) ifs tt) (he : ∀ cl s H fp, PE (wD X N scope cl s H fp) elt te)
 (hs : ∀ x, foldedSetIterable iter X.env x = pure x) : PS X (.Assign [.Name y py] (.ListComp elt [⟨tg, iter, ifs, 0⟩] scope pos) spos) (zoI (zkt wi cap g tt te) (zgI i)) := by
 intro pins s σ H D I h
 have C := zgJ hcap
 rw [exec_Assign_Name_used _ _ _ _ hsw]
 refine wpAny_bind (wpAny_standAt (wpAny_bind ?_))
 show wpAny _ X.A (do let _ <- comprehension (.ListComp elt [⟨tg, iter, ifs, 0⟩] scope pos) scope X.env _ (newList []) false (eval iter X.env) (some (assign (.Name y py) X.env))) _ _ s
 refine wpAny_bind (wpAny_mono (wpAny_comprehension_free (use := some (assign (.Name y py) X.env)) (Q := λ _ s' => SP X pins D .next s') rfl hs (VG λ x m e => I.ok.has x.1 (C.fr x m e)) hk (λ y m e => zbo C.nd (by rw [<- e]; exact m)) ?_) (λ _ s' hq => wpAny_pure (wpAny_pure hq)) λ _ _ e => e)
 refine thn (hi pins s σ H _ I h) λ v s1 h1 => thn h1 λ itv s2 h2 => ?_
 obtain ⟨it, fp, tn, J, H2, e, I2, T, st2, f2, W, ⟨m0, w0⟩, turn⟩ := h2
 subst e
 refine zdy (Q := λ x H1 => zgI i x σ H1 D.nx) (R := λ acc C r s' => compPost (model X.prog X.w) X.A X.xe (some (assign (.Name y py) X.env)) (λ _ s' => SP X pins D .next s') acc C r s') hc C hk hg ht he I2 T st2 f2 W m0 w0 turn λ ys H3 s3 m I3 hn fl q => ?_
 obtain ⟨f0, f1, f3, f4, f5, f6⟩ := fl
 refine wpAny_assign_Name (zdZ I3 hN hiy hy (v := .ref s2.heap.objs.size) rfl (λ s4 I4 ⟨a, sb, ha⟩ => ?_) hf)
 refine ⟨m, hn.sameBut sb (λ z => ?_), λ h' sb' => ?_⟩
 · rcases ha with ha | ha
   · exact f1 (z.trans ha)
   · exact f5 y a ha z.symm
 · exact ⟨_, _, I4.turned (t' := s4.toks) (λ b o hb e => (sb'.2 b hb).trans e) f0 f1 f4 f5 f6, q⟩
end
structure ItC (K : zC) (kd : KD) (F : Addr -> Prop) (H : Hp) (J : It) (ds : List It1) : Prop where
 all : ∀ (H2 : Hp) (T : Addr -> Prop), (∀ b u, H b = some u -> H2 b = some u) -> (∀ a, T a -> H a = none /\ H2 a ≠ none) -> ∀ i, (i < ds.length -> J.go i H2) /\ (ds.length <= i -> J.stop i H2) /\
  ∀ v H3, J.yld i H2 v H3 -> (∀ b o, H2 b = some o -> H3 b = some o) /\ ∀ x, ds[i]? = some x -> Rp K kd (λ a => x.1 = true /\ (F a \/ T a)) H3 v x.2
def alC (K : zC) (kd : KD) (f : IF) : TI := λ σ H R => ∃ F B ad as ds as', Rel K kd F B [] ad as σ H /\ f as = some (ds, as') /\
 ∀ J ad' H', Rel K kd F B [] ad' as' σ H' -> Grow (Gw [] ad) H (Gw [] ad') H' -> ItC K kd (Lv F B (Gw [] ad') true) H' J ds -> R J H'
@[irreducible] def AIc (X : Cx) (kd : KD) (tg iter : Expr) (f : IF) : Prop := PI X tg iter (alC X.K kd f)
def zbk (os : List O) : List It1 := os.map λ o => match o with | .lf st d => (st, d) | o => (false, o.toD)
def zrw (as : AS) : RV -> Option (List It1)
 | .ow o => zfQ (o.str, o.toD)
 | .bo i => match as[i]? with
  | some (some (.nd .ls os)) => some (zbk os)
  | some (some (.nd .tp os)) => some (zbk os)
  | _ => none
def Yx (f : EF) : IF := λ as => (f as).bind λ p => (zrw p.2 p.1).bind λ ds => some (ds, p.2)
section
variable {K : zC} {kd : KD} {F B : Addr -> Prop} {G : Addr -> Prop} {T : List Addr} {ad : Ad} {as : AS} {σ : St} {H H' : Hp}
inductive RpC (K : zC) (kd : KD) (F : Addr -> Prop) (H : Hp) : List V -> List It1 -> Prop
 | nil : RpC K kd F H [] []
 | cons {v : V} {x : It1} {vs : List V} {ds : List It1} : Rp K kd (λ a => x.1 = true /\ F a) H v x.2 -> RpC K kd F H vs ds -> RpC K kd F H (v :: vs) (x :: ds)
theorem RpC.length {vs : List V} {ds : List It1} (h : RpC K kd F H vs ds) : vs.length = ds.length := by
 induction h with
 | nil => rfl
 | cons _ _ ih => exact congrArg (· + 1) ih
theorem RpC.get {vs : List V} {ds : List It1} {i : Nat} {x : It1} (h : RpC K kd F H vs ds) (e : ds[i]? = some x) : ∃ v, vs[i]? = some v /\ Rp K kd (λ a => x.1 = true /\ F a) H v x.2 := by
 induction h generalizing i with
 | nil => simp at e
 | cons h r ih =>
  cases i with
  | zero => simp at e; subst e; exact ⟨_, rfl, h⟩
  | succ i =>
   obtain ⟨v, h1, h2⟩ := ih (i := i) (by simpa using e)
   exact ⟨v, by simpa using h1, h2⟩
theorem Rp.since {Ob : Addr -> Prop} {v : V} {d : D} {T : Addr -> Prop} (k : ∀ b u, H b = some u -> H' b = some u) (hT : ∀ a, T a -> H a = none) (h : Rp K kd Ob H v d) : Rp K kd (Un2 Ob T) H' v d :=
 Rp.grow (F := Ob) (W := λ _ => False) (W' := T) (H' := H') ⟨λ b u q _ => k b u q, λ b z => .inr (hT b z)⟩ (h.less λ a z => z.elim id False.elim)
theorem zcV {st : Bool} {vs : List V} {ds : List D} (h : RpL K kd (Lv F B G st) H vs ds) : RpC K kd (Lv F B G true) H vs (kids st ds) :=
 RpL.ind (P := λ vs ds => RpC K kd (Lv F B G true) H vs (kids st ds)) .nil (λ {v d vs ds} h _ ih => by
  refine .cons (x := (zU d || st, d)) ?_ ih
  cases e : zU d with
  | true => exact h.flat e
  | false =>
   refine h.less λ a z => ?_
   have zs : st = true := z.1
   rw [zs]; exact z.2) h
theorem znY {vs : List V} {os : List O} {fp : List Addr} (h : Zb K kd F B G H vs os fp) : RpC K kd (Lv F B G true) H vs (zbk os) :=
 RoL.ind (P := λ vs os _ => RpC K kd (Lv F B G true) H vs (zbk os)) .nil (λ {v o vs os fp fq} h _ ih => by
  have ha := zfx h
  refine .cons ?_ ih
  cases h with
  | lf rp => exact rp.less λ a z => (by have zs := z.1; dsimp only at zs; rw [zs]; exact z.2)
  | ls => exact ha.less λ a z => nomatch z.1
  | dc => exact ha.less λ a z => nomatch z.1
  | ob => exact ha.less λ a z => nomatch z.1
  | tp => exact ha.less λ a z => nomatch z.1) h
theorem zdg {a : Addr} {vs : List V} {ds : List It1} (h : SqL K H a vs) (r : RpC K kd F H vs ds) : ItC K kd F H (Itl K a) ds := ⟨λ H3 T k hT i => by
 have hr3 : SqL K H3 a vs := by
  rcases h with (h | ⟨o, h⟩) | h
  · exact .inl (.inl (k _ _ h))
  · exact .inl (.inr ⟨o, k _ _ h⟩)
  · exact .inr h
 refine ⟨λ hi => ?_, λ hi => ⟨_, hr3, by rw [r.length]; exact hi⟩, λ v H4 hy => ?_⟩
 · obtain ⟨u, hu, _⟩ := r.get (zzB hi)
   exact ⟨_, u, hr3, hu⟩
 · obtain ⟨rfl, hv⟩ := hy
   refine ⟨λ _ _ z => z, λ d hd => ?_⟩
   obtain ⟨u, hu, ru⟩ := r.get hd
   have := hv _ hr3
   rw [hu] at this
   cases this
   exact (ru.since k λ a z => (hT a z).1).less λ a z => z.2.elim (λ y => .inl ⟨z.1, y⟩) .inr⟩
theorem ziD {a : Addr} {vs : List V} {ds : List It1} (h : SqT K H a vs) (r : RpC K kd F H vs ds) : ItC K kd F H (Itt K a) ds := ⟨λ H3 T k hT i => by
 have hr3 : SqT K H3 a vs := by
  rcases h with (h | ⟨o, h⟩) | h
  · exact .inl (.inl (k _ _ h))
  · exact .inl (.inr ⟨o, k _ _ h⟩)
  · exact .inr h
 refine ⟨λ hi => ?_, λ hi => ⟨_, hr3, by rw [r.length]; exact hi⟩, λ v H4 hy => ?_⟩
 · obtain ⟨u, hu, _⟩ := r.get (zzB hi)
   exact ⟨_, u, hr3, hu⟩
 · obtain ⟨rfl, hv⟩ := hy
   refine ⟨λ _ _ z => z, λ d hd => ?_⟩
   obtain ⟨u, hu, ru⟩ := r.get hd
   have := hv _ hr3
   rw [hu] at this
   cases this
   exact (ru.since k λ a z => (hT a z).1).less λ a z => z.2.elim (λ y => .inl ⟨z.1, y⟩) .inr⟩
theorem znl (lo : Int) (n : Nat) : ItC K kd F H (Itr lo n) (yR lo n) := ⟨λ H2 T k hT i => by
 have hl : (yR lo n).length = n := by unfold yR; simp
 refine ⟨λ hi => by rw [hl] at hi; exact hi, λ hi => by rw [hl] at hi; exact hi, λ v H3 hy => ?_⟩
 obtain ⟨rfl, rfl⟩ := hy
 refine ⟨λ _ _ z => z, λ d hd => ?_⟩
 have hi : i < n := by rw [<- hl]; exact (zzD.mp hd).1
 unfold yR at hd
 rw [zzF, List.getElem?_range hi] at hd
 cases hd
 exact .int _⟩
end
theorem WY {X : Cx} {kd : KD} {tg e : Expr} {fa : EF} (he : AE X kd e fa) : AIc X kd tg e (Yx fa) := by
 with_unfolding_all (
 intro pins s σ H R I h
 obtain ⟨F, B, ad, as, ds, as', Rl, e, q⟩ := h
 obtain ⟨⟨p, as1⟩, h1, e⟩ := bS_ (show (fa as).bind _ = _ from e)
 obtain ⟨ys, h2, e⟩ := bS_ e
 cases e
 cases p with
 | ow o =>
  have h2 : zfQ (o.str, o.toD) = some ds := h2
  generalize hd : o.toD = d at h2
  cases d with
  | lst xs =>
   cases h2
   refine zfc he pins s σ H R I ⟨F, B, ad, as, _, as1, Rl, h1, λ v T1 ad1 H1 R1 rv1 g1 => ?_⟩
   have rp := zhl R1 rv1
   rw [hd] at rp
   cases rp with
   | lst hn hr rl => exact ⟨_, rfl, ⟨_, .inl hr⟩, q _ ad1 H1 R1.drop (g1.trans (Grow.less Gw.drop)) (zdg (.inl hr) (zcV rl))⟩
   | lstK a b c rl => exact ⟨_, rfl, ⟨_, .inr ⟨_, _, _, a, rfl, rfl, rfl, b, c⟩⟩, q _ ad1 H1 R1.drop (g1.trans (Grow.less Gw.drop)) (zdg (.inr ⟨_, _, _, a, rfl, rfl, rfl, b, c⟩) (zcV rl))⟩
  | tup xs =>
   cases h2
   refine zhD he pins s σ H R I ⟨F, B, ad, as, _, as1, Rl, h1, λ v T1 ad1 H1 R1 rv1 g1 => ?_⟩
   have rp := zhl R1 rv1
   rw [hd] at rp
   have go : ∃ a ys, v = .ref a /\ SqT X.K H1 a ys /\ RpL X.K kd (Lv F B (Gw [] ad1) o.str) H1 ys xs := by
    cases rp with
    | tup n h r => exact ⟨_, _, rfl, .inl h, r⟩
    | tupK a b c e f r => exact ⟨_, _, rfl, .inr ⟨_, _, _, a, b, c, e, f⟩, r⟩
   obtain ⟨a, ys, rfl, hs, rl⟩ := go
   exact ⟨_, rfl, ⟨_, hs⟩, q _ ad1 H1 R1.drop (g1.trans (Grow.less Gw.drop)) (ziD hs (zcV rl))⟩
  | _ => cases h2
 | bo i =>
  have h2 : (match as1[i]? with | some (some (.nd .ls os)) => some (zbk os) | some (some (.nd .tp os)) => some (zbk os) | _ => none) = some ds := h2
  cases k : as1[i]? with
  | none => rw [k] at h2; cases h2
  | some s0 =>
   rw [k] at h2
   match s0, h2, k with
   | some (.nd .ls os), h2, k =>
    cases h2
    refine zfc he pins s σ H R I ⟨F, B, ad, as, _, as1, Rl, h1, λ v T1 ad1 H1 R1 rv1 g1 => ?_⟩
    obtain ⟨rfl, hs⟩ := rv1
    obtain ⟨w, hw, ro⟩ := R1.sl i _ k
    rw [hs] at hw
    cases hw
    generalize hfp : ad1 i = fp at ro
    cases ro with
    | ls hH rl => exact ⟨_, rfl, ⟨_, .inl (.inl hH)⟩, q _ ad1 H1 R1 g1 (zdg (.inl (.inl hH)) (znY rl))⟩
   | some (.nd .tp os), h2, k =>
    cases h2
    refine zhD he pins s σ H R I ⟨F, B, ad, as, _, as1, Rl, h1, λ v T1 ad1 H1 R1 rv1 g1 => ?_⟩
    obtain ⟨rfl, hs⟩ := rv1
    obtain ⟨w, hw, ro⟩ := R1.sl i _ k
    rw [hs] at hw
    cases hw
    generalize hfp : ad1 i = fp at ro
    cases ro with
    | tp n hH rl => exact ⟨_, rfl, ⟨_, .inl (.inl hH)⟩, q _ ad1 H1 R1 g1 (ziD (.inl (.inl hH)) (znY rl))⟩)
theorem Zh {X : Cx} {kd : KD} {tg a : Expr} {pos : Pos} {fr : AF} {p : Pos} (hg : Gl X "range") (hm : X.mg "range" = none) (ha : AA X kd [a] fr) (hs : starEach [a] X.env = [(false, eval a X.env)]) : AIc X kd tg (.Call (.Name "range" p) [a] [] pos) (yx fr yC) := by
 with_unfolding_all (
 intro pins s σ H R I h
 obtain ⟨F, B, ad, as, ds, as', Rl, e, q⟩ := h
 obtain ⟨⟨ps, as1⟩, h1, e⟩ := bS_ (show (fr as).bind _ = _ from e)
 obtain ⟨⟨xs, lv⟩, h2, e⟩ := bS_ e
 obtain ⟨ys, h3, e⟩ := bS_ e
 cases e
 obtain ⟨j, rfl, h3⟩ := ziF h3
 · obtain ⟨hj, e3⟩ := zM h3
   cases e3
   refine zeo hg hm ha hs pins s σ H R I ⟨F, B, ad, as, ps, _, Rl, h1, λ vs ad1 H1 R1 rv1 g1 => ?_⟩
   have vl := XS R1 rv1 h2
   cases vl with
   | cons v1 v2 =>
    cases v2
    cases v1
    exact ⟨j, rfl, hj.1, hj.2, q _ ad1 H1 R1 g1 (znl 0 _)⟩)
def zsg (as : AS) : Option Nat -> Option O
 | none => none
 | some j => match as[j]? with
  | some (some (.lf st d)) => some (.lf st d)
  | some (some o) => some (.lf false o.toD)
  | _ => none
def Yy (cap : List (Option Nat)) (as : AS) : AS := cap.map (zsg as)
def xx (g : GF) (tt : TF) (fe : EF) (as0 : AS) : List It1 -> Option (List O)
 | [] => some []
 | x :: r => (g x as0).bind λ as1 => (tt as1).bind λ b => if b.1 = true then (fe b.2).bind λ p => (toO p.2 p.1).bind λ q => if q.1.str = true then (xx g tt fe as0 r).bind λ os => some (q.1 :: os) else none
  else xx g tt fe as0 r
def yw (fi : IF) (cap : List (Option Nat)) (g : GF) (tt : TF) (fe : EF) : EF := λ as => (fi as).bind λ p => if p.1.length <= sizeLine then (xx g tt fe (Yy cap p.2) p.1).bind λ os => some (.ow (.nd .ls os), p.2) else none
def xG : TF := λ as => some (true, as)
section
variable {K : zC} {kd : KD} {F B : Addr -> Prop} {T : List Addr} {ad : Ad} {as : AS} {σ : St} {H H' : Hp} {cap : List (Option Nat)}
theorem zni (R : Rel K kd F B [] ad as σ H) (k : ∀ b u, H b = some u -> H' b = some u) (hT : ∀ a ∈ T, H a = none) (hT' : ∀ a ∈ T, H' a ≠ none) :
 Rel K kd (Un2 (Lv F B (Gw [] ad) true) (· ∈ T)) (λ _ => False) [] (λ _ => []) (Yy cap as) (vR cap σ) H' := by
 have no : ∀ a, ¬ Gw [] (λ _ => []) a := λ a z => z.elim (λ y => nomatch y) λ ⟨_, y⟩ => nomatch y
 have kn : ∀ a, H a ≠ none -> H' a ≠ none := λ a z => by
  cases e : H a with
  | none => exact absurd e z
  | some u => rw [k a u e]; simp
 have up : ∀ {st : Bool} {v : V} {d : D}, Rp K kd (λ a => st = true /\ Lv F B (Gw [] ad) true a) H v d -> Rp K kd (Lv (Un2 (Lv F B (Gw [] ad) true) (· ∈ T)) (λ _ => False) (Gw [] λ _ => []) st) H' v d := λ {st v d} h => by
  have := Rp.grow (F := λ a => st = true /\ Lv F B (Gw [] ad) true a) (W := λ _ => False) (W' := (· ∈ T)) (H' := H') ⟨λ b u q _ => k b u q, λ b z => .inr (hT b z)⟩ (h.less λ a z => z.elim id False.elim)
  refine this.less λ a z => ?_
  rcases z with (⟨z1, z2⟩ | z) | z
  · rcases z2 with z2 | z2
    · exact .inl ⟨z1, z2⟩
    · exact .inr z2
  · exact z.elim
  · exact (no a z).elim
 refine ⟨by unfold Yy vR; rw [zD, zD], λ _ _ => rfl, λ _ => List.nodup_nil, (λ _ _ _ z => nomatch z), List.nodup_nil, (λ _ _ _ z => nomatch z), λ a z => z.elim (λ y => kn a (R.trk true a y)) (hT' a), (λ _ z => z.elim), λ a z => (no a z).elim, λ i s e => ?_⟩
 unfold Yy at e
 rw [zzF] at e
 obtain ⟨c, hc, rfl⟩ := zzU.mp e
 have es : (vR cap σ)[i]? = some (zqr σ c) := by
  unfold vR
  rw [zzF, hc]
  rfl
 rw [es]
 cases c with
 | none => rfl
 | some j =>
  show zdk _ _ _ _ _ _ (match as[j]? with | some (some (.lf st d)) => some (.lf st d) | some (some o) => some (.lf false o.toD) | _ => none) _ _
  cases k2 : as[j]? with
  | none => rfl
  | some s0 =>
   cases s0 with
   | none => rfl
   | some o =>
    obtain ⟨v, hv, ro⟩ := R.sl j _ k2
    cases o with
    | lf st d =>
     have e0 : ad j = [] := by
      generalize hfp : ad j = fp at ro
      cases ro
      rfl
     rw [e0] at ro
     refine ⟨v, by show some ((σ[j]?).getD none) = _; rw [hv]; rfl, .lf (up ?_)⟩
     exact (zfj ro).less λ a z => by have zs : st = true := z.1; show Lv F B (Gw [] ad) st a; rw [zs]; exact z.2
    | nd kk os => exact ⟨v, by show some ((σ[j]?).getD none) = _; rw [hv]; rfl, .lf (up ((zfx ro).less λ a z => nomatch z.1))⟩
theorem zkS {S : List Nat} {fi : IF} {g : GF} {tt : TF} {fe : EF} {Q : VK} (hS : ∀ i ∈ S, cap[i]? = some none) (h : al K kd (yw fi cap g tt fe) σ H Q) :
 zkt (alC K kd fi) cap (alG K kd S g) (alT K kd tt) (al K kd fe) σ H Q := by
 obtain ⟨F, B, ad, as, r, as', R, e, q⟩ := h
 obtain ⟨⟨ds, as1⟩, h1, e⟩ := bS_ (show (fi as).bind _ = _ from e)
 by_cases hz : ds.length <= sizeLine
 · have e : (if ds.length <= sizeLine then (xx g tt fe (Yy cap as1) ds).bind λ os => some (RV.ow (.nd .ls os), as1) else none) = some (r, as') := e
   rw [if_pos hz] at e
   obtain ⟨os, h2, e⟩ := bS_ e
   cases e
   refine ⟨F, B, ad, as, ds, as', R, h1, λ J ad1 H1 R1 g1 it => ?_⟩
   refine ⟨λ i m ys H3 => m + i = ds.length /\ ∃ T os1 os2, os = os1 ++ os2 /\ xx g tt fe (Yy cap as') (ds.drop i) = some os2 /\ os1.length <= i /\ T.Nodup /\ (∀ a ∈ T, H1 a = none /\ H3 a ≠ none) /\ (∀ b u, H1 b = some u -> H3 b = some u) /\
    RoL (λ _ v d => Rp K kd (Un2 (Lv F B (Gw [] ad1) true) (· ∈ T)) H3 v d) (λ a => ¬ Un2 (Lv F B (Gw [] ad1) true) (· ∈ T) a) H3 ys os1 T, ⟨ds.length, rfl, [], [], os, rfl, h2, zzK _, List.nodup_nil, (λ _ m => nomatch m), (λ _ _ z => z), .nil⟩, ?_⟩
   rintro i m ys H3 ⟨hm, T, os1, os2, eo, ec, hl, tnd, tf, k3, rl⟩
   obtain ⟨i1, i2, i3⟩ := it.all H3 (· ∈ T) k3 tf i
   have yl := rl.length
   refine ⟨by omega, ?_⟩
   by_cases hi : i < ds.length
   · refine .inr ⟨i1 hi, λ v H4 hy => ?_⟩
     obtain ⟨k4, rp⟩ := i3 v H4 hy
     rw [List.drop_eq_getElem_cons hi] at ec
     obtain ⟨as2, e2, ec⟩ := bS_ (show (g _ _).bind _ = _ from ec)
     obtain ⟨⟨b, as3⟩, e3, ec⟩ := bS_ ec
     have k14 : ∀ b u, H1 b = some u -> H4 b = some u := λ b u h => k4 b u (k3 b u h)
     have kn4 : ∀ a, H3 a ≠ none -> H4 a ≠ none := λ a z => by
      cases e : H3 a with
      | none => exact absurd e z
      | some u => rw [k4 a u e]; simp
     have R4 := zni (cap := cap) (T := T) R1 k14 (λ a z => (tf a z).1) (λ a z => kn4 a (tf a z).2)
     have no : ∀ a, ¬ Gw [] (λ _ => []) a := λ a z => z.elim (λ y => nomatch y) λ ⟨_, y⟩ => nomatch y
     refine ⟨_, _, _, _, ds[i], as2, R4, (rp _ (zzB hi)).less λ a z => ?_, e2, λ σ5 ad5 H5 R5 g5 keep5 => ⟨λ j w hw => ?_, _, _, ad5, as2, b, as3, R5, e3, λ ad6 H6 R6 g6 => ?_⟩⟩
     · rcases z with (z | z) | z
       · exact z
       · exact z.elim
       · exact (no a z).elim
     · rw [keep5 j λ z => ?_]
       · exact hw
       · have := hS j z
         unfold vR at hw
         rw [zzF, this] at hw
         cases hw
     · -- what stood is kept
       have g46 := g5.trans g6
       have k46 : ∀ b u, H4 b = some u -> H6 b = some u := λ b u h => g46.keep b u h (no b)
       have k36 : ∀ b u, H3 b = some u -> H6 b = some u := λ b u h => k46 b u (k4 b u h)
       have kn6 : ∀ a, H3 a ≠ none -> H6 a ≠ none := λ a z => by
        cases e : H3 a with
        | none => exact absurd e z
        | some u => rw [k36 a u e]; simp
       have up : ∀ {H7 : Hp} {T2 : List Addr}, (∀ b u, H3 b = some u -> H7 b = some u) -> (∀ a ∈ T2, H3 a = none) -> RoL (λ _ v d => Rp K kd (Un2 (Lv F B (Gw [] ad1) true) (· ∈ T ++ T2)) H7 v d) (λ a => ¬ Un2 (Lv F B (Gw [] ad1) true) (· ∈ T ++ T2) a) H7 ys os1 T := λ {H7 T2} k7 f7 =>
        RoL.mono (λ st v d r => (r.since k7 f7).less λ a z => z.elim (λ y => .inl (.inl y)) λ y => (zzJ.mp y).elim (λ x => .inl (.inr x)) .inr)
         (λ a vs n e => ⟨λ z => z.elim (λ y => n (.inl y)) λ y => (zzJ.mp y).elim (λ x => n (.inr x)) λ x => (by have := f7 a x; rw [this] at e; cases e), k7 _ _ e⟩) (λ a _ u h => k7 a u h) rl
       cases b with
       | false =>
        have := up (T2 := []) k36 (λ _ m => nomatch m)
        rw [List.append_nil] at this
        exact ⟨m - 1, by omega, by omega, T, os1, os2, eo, ec, Nat.le_succ_of_le hl, tnd, λ a z => ⟨(tf a z).1, kn6 a (tf a z).2⟩, λ b u h => k36 b u (k3 b u h), this⟩
       | true =>
        rw [if_pos rfl] at ec
        obtain ⟨⟨p, as7⟩, e7, ec⟩ := bS_ ec
        obtain ⟨⟨o, as8⟩, e8, ec⟩ := bS_ ec
        by_cases hs : o.str = true
        · have ec : (if o.str = true then (xx g tt fe (Yy cap as') (ds.drop (i + 1))).bind λ os => some (o :: os) else none) = some os2 := ec
          rw [if_pos hs] at ec
          obtain ⟨os3, e9, ec⟩ := bS_ ec
          cases ec
          refine ⟨by omega, _, _, ad6, as3, p, as7, R6, e7, λ y T2 ad7 H7 R7 rv7 g7 => ?_⟩
          obtain ⟨ad8, R8, ro8, le8⟩ := zdr R7 rv7 e8
          have g47 := g46.trans g7
          have k47 : ∀ b u, H4 b = some u -> H7 b = some u := λ b u h => g47.keep b u h (no b)
          have k37 : ∀ b u, H3 b = some u -> H7 b = some u := λ b u h => k47 b u (k4 b u h)
          have f42 : ∀ a ∈ T2, H4 a = none := λ a z => (g47.own a (.inl z)).resolve_left (no a)
          have f32 : ∀ a ∈ T2, H3 a = none := λ a z => by
             cases e : H3 a with
             | none => rfl
             | some u => have := k4 a u e; rw [f42 a z] at this; cases this
          have rt := zeH R8 R8.tnd (λ a z => .inl z) ro8 hs
          have ro9 : Ro (λ _ v d => Rp K kd (Un2 (Lv F B (Gw [] ad1) true) (· ∈ T ++ T2)) H7 v d) (λ a => ¬ Un2 (Lv F B (Gw [] ad1) true) (· ∈ T ++ T2) a) H7 y o T2 :=
             Ro.mono (λ st v d r => r.less λ a z => z.elim (λ y => .inl (.inl y)) λ y => (zzJ.mp y).elim (λ x => .inl (.inr x)) .inr)
              (λ a vs n e => ⟨λ z => n (z.elim (λ y => .inl (.inl y)) λ y => (zzJ.mp y).elim (λ x => .inl (.inr x)) .inr), e⟩) (λ _ _ _ h => h) rt.ro
          refine ⟨m - 1, by omega, by omega, T ++ T2, os1 ++ [o], os3, by rw [eo, List.append_assoc]; rfl, e9, by rw [zzG, List.length_singleton]; omega, List.nodup_append.mpr ⟨tnd, rt.nd, λ a z b z' e => ?_⟩, λ a z => ?_, λ b u h => k37 b u (k3 b u h), (up k37 f32).append (RoL.one ro9)⟩
          · subst e
            exact (tf a z).2 (f32 a z')
          · rcases zzJ.mp z with z | z
            · refine ⟨(tf a z).1, ?_⟩
              cases e : H3 a with
              | none => exact absurd e (tf a z).2
              | some u => rw [k37 a u e]; simp
            · refine ⟨?_, rt.tr a z⟩
              cases e : H1 a with
              | none => rfl
              | some u => have := k3 a u e; rw [f32 a z] at this; cases this
        · have ec : (if o.str = true then (xx g tt fe (Yy cap as') (ds.drop (i + 1))).bind λ os => some (o :: os) else none) = some os2 := ec
          rw [if_neg hs] at ec
          cases ec
   · refine .inl ⟨i2 (by omega), λ p hp => ?_⟩
     rw [List.drop_eq_nil_of_le (by omega)] at ec
     cases ec
     rw [List.append_nil] at eo
     subst eo
     have pT : p ∉ T := λ z => (tf p z).2 hp
     have H1p : H1 p = none := by
      cases e : H1 p with
      | none => rfl
      | some u => have := k3 p u e; rw [hp] at this; cases this
     have kp : ∀ b u, H3 b = some u -> upd H3 p (.lst ys) b = some u := λ b u h => by rw [zO (yd h hp)]; exact h
     obtain ⟨R9, g9⟩ := R1.news (T' := p :: T) (H' := upd H3 p (.lst ys)) (zzT.mpr ⟨pT, tnd⟩) (λ a z => (zS.mp z).elim (λ e => by rw [e]; exact H1p) λ z => (tf a z).1) (λ b u h => kp b u (k3 b u h)) (λ a z => by
      rcases zS.mp z with e | z
      · rw [e, yc]; simp
      · cases e : H3 a with
        | none => exact absurd e (tf a z).2
        | some u => rw [kp a u e]; simp)
     refine q _ (p :: T) ad1 _ R9 (.ls yc ?_) (g1.trans g9)
     have le : ∀ st a, Lv F B (Gw (p :: T) ad1) st a -> Un2 (Un2 (Lv F B (Gw [] ad1) true) (· ∈ T)) (· = p) a := λ st a z => by
      rcases z with (z | z) | z | z
      · exact .inl (.inl (.inl (.inl ⟨rfl, z.2⟩)))
      · exact .inl (.inl (.inl (.inr z)))
      · exact (zS.mp z).elim .inr λ y => .inl (.inr y)
      · exact .inl (.inl (.inr (.inr z)))
     exact RoL.mono (λ st v d r => (r.since kp (T := (· = p)) λ a z => by rw [z]; exact hp).less (le st)) (λ a vs n e => ⟨λ z => (le true a z).elim n λ y => (by rw [y, hp] at e; cases e), kp _ _ e⟩) (λ a _ u h => kp a u h) rl
 · have e : (if ds.length <= sizeLine then (xx g tt fe (Yy cap as1) ds).bind λ os => some (RV.ow (.nd .ls os), as1) else none) = some (r, as') := e
   rw [if_neg hz] at e
   cases e
end
section
variable {X : Cx} {kd : KD} {elt tg iter e a b c : Expr} {es ifs : List Expr} {scope : Scope} {pos : Pos} {N : List Str} {cap : List (Option Nat)} {g : GF} {tt : TF} {fe fa fb : EF} {fi : IF} {S : List Nat} {fr : AF} {fd : DF}
theorem xX : PTs X [] (alT X.K kd xG) := λ pins s σ H Q I h => by
 obtain ⟨F, B, ad, as, b, as', R, e, q⟩ := h
 cases e
 exact znr pins s σ H Q I (q ad H R Grow.refl)
theorem znA (h : AT X kd c tt) : PTs X [c] (alT X.K kd tt) := by with_unfolding_all exact (zms h)
theorem Za (hc : X.calm = true) (hi : AIc X kd tg iter fi) (hk : scope.kind = .function) (hcap : Zc N X.N scope.names X.env.scope.names cap = true) (hS : S.all (λ i => cap[i]? == some none) = true)
 (hg : ∀ cl s H fp, AG (wD X N scope cl s H fp) kd tg S g) (ht : ∀ cl s H fp, PTs (wD X N scope cl s H fp) ifs (alT X.K kd tt)) (he : ∀ cl s H fp, AE (wD X N scope cl s H fp) kd elt fe)
 (hs : ∀ x, foldedSetIterable iter X.env x = pure x) : AE X kd (.ListComp elt [⟨tg, iter, ifs, 0⟩] scope pos) (yw fi cap g tt fe) := by with_unfolding_all exact (yK (zng (g := alG X.K kd S g) (te := al X.K kd fe) hc hi hk hcap hg ht he hs) λ σ H Q h => zkS (λ i m => by simpa using List.all_eq_true.mp hS i m) h)
theorem zaI {z : Bool} {i : Nat} {y : Str} {py spos : Pos} (hN : X.N.Nodup) (hiy : X.N[i]? = some y) (hy : Loc X.env.scope y) (hf : X.fn y = true \/ X.env.scope.names.lookup y = some .local)
 (hsw : swapsWith (.ListComp elt [⟨tg, iter, ifs, 0⟩] scope pos) (some (.Name y py)) spos.line X.env = pure true)
 (hc : X.calm = true) (hi : AIc X kd tg iter fi) (hk : scope.kind = .function) (hcap : Zc N X.N scope.names X.env.scope.names cap = true) (hS : S.all (λ i => cap[i]? == some none) = true)
 (hg : ∀ cl s H fp, AG (wD X N scope cl s H fp) kd tg S g) (ht : ∀ cl s H fp, PTs (wD X N scope cl s H fp) ifs (alT X.K kd tt)) (he : ∀ cl s H fp, AE (wD X N scope cl s H fp) kd elt fe)
 (hs : ∀ x, foldedSetIterable iter X.env x = pure x) : ASt X kd (.Assign [.Name y py] (.ListComp elt [⟨tg, iter, ifs, 0⟩] scope pos) spos) (zJ z i (yw fi cap g tt fe)) := by with_unfolding_all exact (ZJ (zno (g := alG X.K kd S g) (te := al X.K kd fe) hN hiy hy hf hsw hc hi hk hcap hg ht he hs) λ D σ H h => by
 obtain ⟨F, B, ad, as, o, R, e, q⟩ := h
 obtain ⟨⟨p, as1⟩, h1, e⟩ := bS_ (show (yw fi cap g tt fe as).bind _ = _ from e)
 obtain ⟨⟨y, as2⟩, h2, e⟩ := bS_ e
 obtain ⟨hl, e⟩ := zM e
 cases e
 refine zkS (Q := λ x H1 => zgI i x σ H1 D.nx) (λ i m => by simpa using List.all_eq_true.mp hS i m) ⟨F, B, ad, as, p, as1, R, h1, λ v T' ad' H' R' rv g => ?_⟩
 obtain ⟨ad2, R2, le⟩ := zkJ R' rv h2 hl
 exact q _ ad2 H' R2 (g.trans (Grow.less le)))
theorem zQ {k : Nat} {f : Addr} {fdt : FuncData} {ps : List Str} {gg : List (Bool × D) -> Option O} {x : Str} {p : Pos} (F : FnOk X.prog X.w X.K X.mg X.base CX0 k f fdt ps (spD X.K kd gg)) (hr : Room k X.A) (hg : Gl X x) (hm : X.mg x = some (.ref f)) (hk : PySem.W.keepIn X.K (.ref f) = true)
 (hb : Binds X.K fdt ps []) (hx : Yu CX0 X (λ _ _ _ => False)) (ha : AA X kd (e :: es) fr) (hdb : (x == ("__debug__" : Str)) = false) (he : starEach (e :: es) X.env = (false, eval e X.env) :: starEach es X.env) (hpl : (backTo pos (starEach es X.env)).any (·.1) = false) :
 AE X kd (.Call (.Name x p) (e :: es) [] pos) (zH fr gg) := by with_unfolding_all exact (yK (znC F hr hg hm hk hb .nil hx ha hdb he hpl) λ σ H Q h => zoz h)
theorem XX {id : String} {gg : List D -> Option R0} {x : Str} {p : Pos} (hc : CallD X kd (.builtin id) gg) (hg : Gl X x) (hm : X.mg x = none) (hv : bootBuiltins x = some (.builtin id)) (ha : AA X kd (e :: es) fr) (hn : x ≠ "__name__") (hdb : (x == ("__debug__" : Str)) = false)
 (he : starEach (e :: es) X.env = (false, eval e X.env) :: starEach es X.env) (hpl : (backTo pos (starEach es X.env)).any (·.1) = false) : AE X kd (.Call (.Name x p) (e :: es) [] pos) (fP fr gg) := by with_unfolding_all exact (yK (zgK hc hg hm hv ha hn hdb he hpl) λ σ H Q h => alP (λ _ _ _ z => z) h)
theorem Zn {T : String} {gg : List D -> Option R0} {x : Str} {p : Pos} (hc : CallD X kd (.type T) gg) (hg : Gl X x) (hm : X.mg x = none) (hv : bootBuiltins x = some (.type T)) (ha : AA X kd (e :: es) fr) (hn : x ≠ "__name__") (hdb : (x == ("__debug__" : Str)) = false)
 (he : starEach (e :: es) X.env = (false, eval e X.env) :: starEach es X.env) (hpl : (backTo pos (starEach es X.env)).any (·.1) = false) : AE X kd (.Call (.Name x p) (e :: es) [] pos) (fP fr gg) := by with_unfolding_all exact (yK (zjB hc hg hm hv ha hn hdb he hpl) λ σ H Q h => alP (λ _ _ _ z => z) h)
def ziX (fa : EF) (c : String) : EF := λ as => (fa as).bind λ p => (p.1.frz.view p.2).bind λ x => if zhE x.1 = true then some (.ow (.lf true (.bl (zez (tyD x.1) c))), p.2) else none
theorem zkV (hk : KdOk X kd) : VJ X (.builtin "isinstance") (λ xs H Q => ∃ x c O d, xs = [x, .ty c] /\ zaM c = true /\ Vw X.K kd O H x d /\ zhE d = true /\ Q (.bl (zez (tyD d) c)) H) := by
 intro pins s σ H xs us Q I r h
 obtain ⟨x, c, O, d, rfl, hc, vx, ho, q⟩ := h
 cases r with
 | cons r1 r2 =>
  cases r2 with
  | cons r2 r3 =>
   cases r3
   cases (show _ = Value.type c from r2)
   exact zqg hk I r1 vx hc ho λ tk => ⟨.bl _, H, I.tok tk, rfl, q⟩
theorem zjS {c : String} {x y : Str} {p p2 : Pos} (hkd : KdOk X kd) (hc : zaM c = true) (hg : Gl X x) (hm : X.mg x = none) (hv : bootBuiltins x = some (.builtin "isinstance")) (hg2 : Gl X y) (hm2 : X.mg y = none) (hv2 : bootBuiltins y = some (.type c)) (ha : AE X kd a fa)
 (hn : x ≠ "__name__") (hdb : (x == ("__debug__" : Str)) = false) (hn2 : y ≠ "__name__") (hdb2 : (y == ("__debug__" : Str)) = false)
 (he : starEach [a, .Name y p2] X.env = (false, eval a X.env) :: starEach [.Name y p2] X.env) (he2 : starEach [.Name y p2] X.env = (false, eval (.Name y p2) X.env) :: starEach [] X.env) (hpl : (backTo pos (starEach [.Name y p2] X.env)).any (·.1) = false) :
 AE X kd (.Call (.Name x p) [a, .Name y p2] [] pos) (ziX fa c) := by with_unfolding_all exact (yK (zgK (zkV hkd) hg hm hv (VB ha (VB (znb (v := .ty c) hg2 hm2 hv2 rfl hn2 hdb2) zdc he2) he) hn hdb he hpl) λ σ H Q h => by
 obtain ⟨F, B, ad, as, r, as', R, e, q⟩ := h
 obtain ⟨⟨p, as1⟩, h1, e⟩ := bS_ (show (fa as).bind _ = _ from e)
 obtain ⟨⟨d, lv⟩, h2, e⟩ := bS_ e
 obtain ⟨ho, e⟩ := zM e
 cases e
 exact Yi R h1 λ v ad1 H1 R1 rv1 g1 => ⟨v, c, _, d, rfl, hc, wI.vw R1 rv1 h2, ho, q _ [] ad1 H1 R1 (.lf (.bl _)) g1⟩)
def vN : MG := λ os es => match es with | [o] => if os.length < sizeLine then some (os ++ [o], .lf true .non) else none | _ => none
def We : MG := λ os es => match es with | [.lf _ (.int i)] => if -(2 ^ 63) <= i /\ i < 2 ^ 63 then (seqIndex? i os.length).bind λ k => (os[k]?).bind λ o => some (os.eraseIdx k, o) else none | _ => none
theorem znj {l f fo g : List Addr} (h : l.Nodup) (e : l = f ++ (fo ++ g)) : ((f ++ g) ++ fo).Nodup /\ ∀ a ∈ (f ++ g) ++ fo, a ∈ l := by
 subst e
 have p : (f ++ (fo ++ g)).Perm ((f ++ g) ++ fo) := by
  rw [List.append_assoc]
  exact (List.perm_append_comm).append_left f
 exact ⟨p.nodup_iff.mp h, λ a m => p.mem_iff.mpr m⟩
theorem X3 : MuD X kd zhN vN := by
 intro F B G l vs ws os es os' o fp fq H Q hH rl rw' hn e k
 unfold vN at e
 split at e
 · obtain ⟨hz, e⟩ := zM e
   cases e
   cases rw' with
   | cons h1 h2 =>
    cases h2
    rw [List.append_nil] at hn k
    exact ⟨l, vs, _, rfl, rfl, hH, by rw [rl.length]; exact hz, k _ _ _ [] (rl.append (RoL.one h1)) (.lf .non) (λ a m => by rwa [List.append_nil] at m) (by rw [List.append_nil]; exact hn)⟩
 · cases e
theorem zjT : MuD X kd zlk We := by
 intro F B G l vs ws os es os' o fp fq H Q hH rl rw' hn e k
 unfold We at e
 split at e
 · rename_i st i
   split at e
   · rename_i hi
     obtain ⟨j, hj, e⟩ := bS_ e
     obtain ⟨o1, ho, e⟩ := bS_ e
     cases e
     obtain ⟨v, f, fo, gg, hv, hf, ro, r1, r2⟩ := rl.at_ ho
     cases rw' with
     | cons h1 h2 =>
      cases h2
      cases h1 with
      | lf rp =>
       cases rp
       rw [List.append_nil, List.append_nil] at hn k
       obtain ⟨n1, n2⟩ := znj hn hf
       refine ⟨l, vs, i, j, v, rfl, rfl, hH, hi.1, hi.2, by rw [rl.length]; exact hj, hv, k v _ (f ++ gg) fo ?_ ro n2 n1⟩
       rw [zca, zca]
       exact r1.append r2
   · cases e
 · cases e
theorem Y0 {i : Nat} {x : Str} {gg : MG} {r : V -> List V -> Hp -> VK -> Prop} {name : Str} {id : String} {apos cpos p : Pos} (hm : MtM X id r) (hr : MuD X kd r gg) (slot : Slot "list" name id) (hty : typeOf (.builtin id) = pure (.type "method_descriptor")) (ho : PE X (.Name x p) (zfa i)) (ha : AD X kd (e :: es) fd)
 (hbase : attributeBase (.Name x p) name X.env (eval (.Name x p) X.env) = eval (.Name x p) X.env)
 (hfew : ((backTo cpos (starEach (e :: es) X.env)).all (λ x => !x.1) && (backToKw cpos (keywordEach [] X.env)).all (λ x => x.1.isSome)
  && decide ((e :: es).length + ([] : List Keyword).length + (if ([] : List Keyword).isEmpty then 0 else 1) < 30)) = true)
 (hline : (apos.endLine == cpos.line) = true) (hs : starEach (e :: es) X.env = (false, eval e X.env) :: starEach es X.env) (hplain : (backTo cpos (starEach es X.env)).any (·.1) = false) :
 AE X kd (.Call (.Attribute (.Name x p) name apos) (e :: es) [] cpos) (wX i fd gg) := by with_unfolding_all exact (yK (zqL PySem.F.plainAttrs_list slot hty hm ho ha hbase hfew hline hs hplain) λ σ H Q h => zqM hr h)
end
inductive Ty where
 | str | lst | dct | int
def Ty.nm : Ty -> String
 | .str => "str" | .lst => "list" | .dct => "dict" | .int => "int"
def zna : Ty -> D -> Bool
 | .str, .str _ => true
 | .lst, .lst _ => true
 | .dct, .dct _ => true
 | .int, .int _ => true
 | _, _ => false
def tyS (X : Cx) (T : String) (x : V) (H : Hp) : Prop := ∀ (pins : List (Addr × Obj)) (σ : St) (s : Shared) (v : Value), Inv X pins σ H s -> RelV x v -> s.TypeIs v T /\ ∀ a, v = .ref a -> ∃ ob, s.heap.get? a = some ob /\ ob.dict = none
def tMD (X : Cx) (T : String) (r : V -> List V -> Hp -> VK -> Prop) (to : TE) (t : TA) : TE := λ σ H Q => to σ H λ x H1 => tyS X T x H1 /\ t σ H1 λ xs H2 => r x xs H2 Q
section
variable {X : Cx} {kd : KD} {o e : Expr} {es : List Expr} {to : TE} {t : TA} {name : Str} {apos cpos : Pos} {T id : String} {r : V -> List V -> Hp -> VK -> Prop}
theorem zqp (pa : PlainAttrs T) (slot : Slot T name id) (hty : typeOf (.builtin id) = pure (.type "method_descriptor")) (hm : MtR X id r) (ho : PE X o to) (ha : PA X (e :: es) t)
 (hbase : attributeBase o name X.env (eval o X.env) = eval o X.env)
 (hfew : ((backTo cpos (starEach (e :: es) X.env)).all (λ x => !x.1) && (backToKw cpos (keywordEach [] X.env)).all (λ x => x.1.isSome)
  && decide ((e :: es).length + ([] : List Keyword).length + (if ([] : List Keyword).isEmpty then 0 else 1) < 30)) = true)
 (hline : (apos.endLine == cpos.line) = true) (hs : starEach (e :: es) X.env = (false, eval e X.env) :: starEach es X.env) (hplain : (backTo cpos (starEach es X.env)).any (·.1) = false) :
 PE X (.Call (.Attribute o name apos) (e :: es) [] cpos) (tMD X T r to t) := by
 intro pins s σ H Q I h
 refine wpAny_Call_method_late hbase hfew hline rfl (thn (ho pins s σ H _ I h) λ v s1 ⟨x, H1, I1, r1, ty, q1⟩ => ?_)
 obtain ⟨h1, h2⟩ := ty _ _ _ _ I1 r1
 refine ⟨T, id, pa, slot, hty, h1, h2, ?_⟩
 have hA := ha cpos pins s1 σ H1 _ I1 q1
 rw [hs] at hA ⊢
 refine Calls.callWith_builtin (by show (false || (backTo cpos (starEach es X.env)).any (·.1)) = false; rw [hplain] <;> rfl) (Calls.evalArgs_plain ?_)
 exact thn hA λ us s2 ⟨vs, H2, I2, r2, q2⟩ => hm pins s2 σ H2 x vs v us Q I2 r1 r2 q2
def MtD (X : Cx) (kd : KD) (id : String) (g : D -> List D -> Option R0) : Prop :=
 MtR X id (λ x xs H Q => ∃ O d ds r, (∀ a, O a -> H a ≠ none) /\ Vw X.K kd O H x d /\ VwL X.K kd O H xs ds /\ g d ds = some r /\ RQ X.K kd O H Q r)
theorem zqD (hk : KdOk X kd) {O : Addr -> Prop} {H : Hp} {x : V} {d : D} {ty : Ty} (h : Vw X.K kd O H x d) (e : zna ty d = true) : tyS X ty.nm x H := by
 intro pins σ s v I rx
 cases h with
 | str z =>
  obtain ⟨t, rfl⟩ := rx
  cases ty <;> first | (cases e; done) | exact ⟨typeIs_str s z t, λ _ e => nomatch e⟩
 | int z =>
  obtain ⟨t, rfl⟩ := rx
  cases ty <;> first | (cases e; done) | exact ⟨typeIs_int s z t, λ _ e => nomatch e⟩
 | lst hr rl =>
  cases rx
  obtain ⟨its, _, pl, _⟩ := I.list hr.sq
  cases ty <;> first | (cases e; done) | skip
  refine ⟨pl.isList.typeIs, λ a e => ?_⟩
  cases e
  obtain ⟨o, n, e, c, hd, _⟩ := pl
  exact ⟨o, e, hd⟩
 | dct hr rm =>
  cases rx
  obtain ⟨z, hd, vs, rel, dd⟩ := zda I hk hr
  cases ty <;> first | (cases e; done) | skip
  refine ⟨dd.typeIs, λ b q => ?_⟩
  cases q
  obtain ⟨ob, _, _, h1, h2, _⟩ := dd
  exact ⟨ob, h1, h2.2.1⟩
 | non => cases ty <;> cases e
 | bl => cases ty <;> cases e
 | tup => cases ty <;> cases e
 | cl => cases ty <;> cases e
 | ob => cases ty <;> cases e
def zcU (ty : Ty) (fa : EF) (fr : AF) (g : D -> List D -> Option R0) : EF := λ as => (fa as).bind λ p => (p.1.frz.view p.2).bind λ w => if zna ty w.1 = true then (fr p.2).bind λ q => (p.1.frz.view q.2).bind λ x => (views q.2 q.1).bind λ y => (g x.1 y.1).bind λ r => (wrap (meet x.2 y.2) r).bind λ z => some (z, q.2) else none
theorem zod (hk : KdOk X kd) {ty : Ty} {fa : EF} {fr : AF} {g : D -> List D -> Option R0} {σ : St} {H : Hp} {Q : VK} (h : al X.K kd (zcU ty fa fr g) σ H Q) :
 tMD X ty.nm (λ x xs H Q => ∃ O d ds r, (∀ a, O a -> H a ≠ none) /\ Vw X.K kd O H x d /\ VwL X.K kd O H xs ds /\ g d ds = some r /\ RQ X.K kd O H Q r) (al X.K kd fa) (alA X.K kd fr) σ H Q := by
 obtain ⟨F, B, ad, as, r, as', R, e, q⟩ := h
 obtain ⟨⟨p, as1⟩, h1, e⟩ := bS_ (show (fa as).bind _ = _ from e)
 obtain ⟨⟨d0, l0⟩, h0, e⟩ := bS_ e
 obtain ⟨hty, e⟩ := ite_some' e
 obtain ⟨⟨ps, as2⟩, h2, e⟩ := bS_ e
 obtain ⟨⟨d, lv⟩, h3, e⟩ := bS_ e
 obtain ⟨⟨ds, lv2⟩, h4, e⟩ := bS_ e
 obtain ⟨r0, h5, e⟩ := bS_ e
 obtain ⟨z, h6, e⟩ := bS_ e
 cases e
 refine Yi R h1 λ v ad1 H1 R1 rv1 g1 => ⟨zqD hk (wI.vw R1 rv1 h0) hty, F, B, ad1, as1, ps, _, R1, h2, λ vs ad2 H2 R2 rv2 g2 => ?_⟩
 exact ⟨_, d, ds, r0, R2.tr _, (wI.vw R2 (rv1.grow g2) h3).less Obl.meet1, (XS R2 rv2 h4).less Obl.meet2, h5, Z1 R2 h6 λ w T' H' R' rv' g' => q w T' ad2 H' R' rv' ((g1.trans g2).trans g')⟩
theorem zmP {ty : Ty} {a : Expr} {fa : EF} {fr : AF} {g : D -> List D -> Option R0} (hk : KdOk X kd) (hm : MtD X kd id g) (pa : PlainAttrs ty.nm) (slot : Slot ty.nm name id) (hty : typeOf (.builtin id) = pure (.type "method_descriptor")) (ho : AE X kd a fa) (ha : AA X kd (e :: es) fr)
 (hbase : attributeBase a name X.env (eval a X.env) = eval a X.env)
 (hfew : ((backTo cpos (starEach (e :: es) X.env)).all (λ x => !x.1) && (backToKw cpos (keywordEach [] X.env)).all (λ x => x.1.isSome)
  && decide ((e :: es).length + ([] : List Keyword).length + (if ([] : List Keyword).isEmpty then 0 else 1) < 30)) = true)
 (hline : (apos.endLine == cpos.line) = true) (hs : starEach (e :: es) X.env = (false, eval e X.env) :: starEach es X.env) (hplain : (backTo cpos (starEach es X.env)).any (·.1) = false) :
 AE X kd (.Call (.Attribute a name apos) (e :: es) [] cpos) (zcU ty fa fr g) := by with_unfolding_all exact (yK (zqp pa slot hty hm ho ha hbase hfew hline hs hplain) λ σ H Q h => zod hk h)
end
section
variable {K : zC} {kd : KD} {F B G : Addr -> Prop} {T : List Addr} {ad : Ad} {as : AS} {σ : St} {H H' : Hp}
inductive RPs (K : zC) (kd : KD) (F B G : Addr -> Prop) (H : Hp) : List (V × V) -> List (Key × O) -> Prop
 | nil : RPs K kd F B G H [] []
 | cons {k : Key} {v : V} {o : O} {ps : List (V × V)} {kos : List (Key × O)} : RoS K kd F B G H v o [] -> RPs K kd F B G H ps kos -> RPs K kd F B G H ((kV k, v) :: ps) ((k, o) :: kos)
end
abbrev Fn := List (Bool × D) -> Option O
section
variable {P : Program} {w : World} {K : zC} {mg : Str -> Option Value} {base : Heap} {kd : KD}
theorem xr {A : Around} {k : Nat} (hr : Room k A) : A.units + 100 < cLine := by have := hr.un; omega
def KD1 (P : Program) (w : World) (K : zC) (kd : KD) : Prop := ∀ X : Cx, X.prog = P -> X.w = w -> X.K = K -> KdOk X kd
theorem Wx {O : Addr -> Prop} {H : Hp} : ∀ ns : List Int, RpL K kd O H (ns.map V.int) (ns.map D.int)
 | [] => .nil
 | _ :: r => .cons (.int _) (Wx r)
theorem zoP {H : Hp} {a : Addr} {ns : List Int} {g : Fn} {E : XK} (hg : g [(true, .lst (ns.map D.int))] = some (.lf true (.bl true))) (hS : RdL K H a (ns.map V.int)) : spD K kd g [.ref a] H (λ v _ => v = .bl true) E := by
 refine ⟨λ _ => False, [(true, .lst (ns.map D.int))], .lf true (.bl true), (λ _ z => z.elim), .cons ?_ .nil, hg, λ v T H' _ _ _ _ ro => ?_⟩
 · rcases hS with h | ⟨its, n, k, z, r⟩
   · exact .lst (λ z => z.2) h (Wx ns)
   · exact .lstK k z r (Wx ns)
 · cases ro with
   | lf rp => cases rp; rfl
end
namespace Bt
theorem len : bootBuiltins "len" = some (.builtin "len") := by decide +kernel
theorem max : bootBuiltins "max" = some (.builtin "max") := by decide +kernel
theorem sorted : bootBuiltins "sorted" = some (.builtin "sorted") := by decide +kernel
theorem isinstance : bootBuiltins "isinstance" = some (.builtin "isinstance") := by decide +kernel
theorem int : bootBuiltins "int" = some (.type "int") := by decide +kernel
theorem bool : bootBuiltins "bool" = some (.type "bool") := by decide +kernel
theorem list : bootBuiltins "list" = some (.type "list") := by decide +kernel
theorem tuple : bootBuiltins "tuple" = some (.type "tuple") := by decide +kernel
theorem dict : bootBuiltins "dict" = some (.type "dict") := by decide +kernel
theorem n (x : Str) (h : (x == ("__name__" : Str)) = false) : x ≠ "__name__" := λ e => by subst e; simp at h
end Bt
def WD (f : EF) (as : AS) (st : Bool) (d : D) : Prop := f as = some (.ow (.lf st d), as)
def WT (f : TF) (as : AS) (b : Bool) : Prop := f as = some (b, as)
def WA (f : AF) (as : AS) (rs : List (Bool × D)) : Prop := f as = some (rs.map (λ x => .ow (.lf x.1 x.2)), as)
def WO (f : DF) (as : AS) (os : List O) : Prop := f as = some (os, as)
section
variable {as : AS} {f a b : EF} {s t : Bool} {x y z : D} {i j : Int}
theorem zg : WD (fC x) as true x := rfl
theorem zb {i : Nat} (h : as[i]? = some (some (.lf s x))) : WD (fV i) as s x := by unfold WD fV; rw [h]
theorem znQ {g : D -> D -> Option R0} (ha : WD a as s x) (hb : WD b as t y) (hg : g x y = some (.im z)) : WD (f2 a b g) as (zU z || (s && t)) z := by
 unfold WD f2 at *
 rw [ha]; show ((b as).bind _) = _
 rw [hb]; show ((g x y).bind _) = _
 rw [hg]
 show (if (zU z || (meet (some s) (some t)).isSome) = true then _ else _ : Option RV).bind _ = _
 rw [if_pos (by unfold meet; simp)]
 rfl
theorem zrm {g : D -> D -> Option R0} {oa ob : O} (ha : a as = some (.ow oa, as)) (hb : b as = some (.ow ob, as)) (hg : g oa.toD ob.toD = some (.im z)) : WD (f2 a b g) as (zU z || (oa.str && ob.str)) z := by
 unfold WD f2 at *
 rw [ha]; show ((b as).bind _) = _
 rw [hb]; show ((g oa.toD ob.toD).bind _) = _
 rw [hg]
 show (if (zU z || (meet (some oa.str) (some ob.str)).isSome) = true then _ else _ : Option RV).bind _ = _
 rw [if_pos (by unfold meet; simp)]
 rfl
theorem yG {g : D -> D -> Option R0} (ha : WD a as s x) (hb : WD b as t y) (hg : g x y = some (.im z)) (e : zU z = true) : WD (f2 a b g) as true z := by
 have := znQ ha hb hg; rw [e] at this; exact this
theorem yF (ha : WD a as s (.int i)) (hb : WD b as t (.int j)) : WD (f2 a b (zm .Add)) as true (.int (i + j)) := yG ha hb rfl rfl
theorem zds (ha : WD a as s (.int i)) (hb : WD b as t (.int j)) : WD (f2 a b (zm .Sub)) as true (.int (i - j)) := yG ha hb rfl rfl
theorem xZ (ha : WD a as s (.int i)) (hb : WD b as t (.int j)) (h1 : i.natAbs < big) (h2 : j.natAbs < big) : WD (f2 a b (zm .Mult)) as true (.int (i * j)) := yG ha hb (by show (if _ then _ else _) = _; rw [if_pos ⟨h1, h2⟩]) rfl
theorem xR (ha : WD a as s (.int i)) (hb : WD b as t (.int j)) (h1 : 0 < j) (h2 : j.natAbs < big) : WD (f2 a b (zm .FloorDiv)) as true (.int (i / j)) := yG ha hb (by show (if _ then _ else _) = _; rw [if_pos ⟨h1, h2⟩]) rfl
theorem zY (ha : WD a as s (.int i)) (hb : WD b as t (.int j)) (h1 : 0 < j) : WD (f2 a b (zm .Mod)) as true (.int (i % j)) := yG ha hb (by show (if _ then _ else _) = _; rw [if_pos h1]) rfl
theorem zdh {c : Bool} (ha : WD a as s x) (hb : WD b as t y) (h : eqF 60 x y = some c) : WD (f2 a b (yt .Eq)) as true (.bl c) := yG ha hb (by show (eqF 60 x y).bind _ = _; rw [h]; rfl) rfl
theorem zqs {c : Bool} (ha : WD a as s x) (hb : WD b as t y) (h : eqF 60 x y = some c) : WD (f2 a b (yt .NotEq)) as true (.bl (!c)) := yG ha hb (by show (eqF 60 x y).bind _ = _; rw [h]; rfl) rfl
theorem znU (ha : WD a as s (.int i)) (hb : WD b as t (.int j)) : WD (f2 a b (yt .Lt)) as true (.bl (decide (i < j))) := yG ha hb rfl rfl
theorem zgR (ha : WD a as s (.int i)) (hb : WD b as t (.int j)) : WD (f2 a b (yt .Gt)) as true (.bl (decide (j < i))) := yG ha hb rfl rfl
theorem zox (ha : WD a as s (.int i)) : WD (f1 a zhv) as true (.int (-i)) := by
 unfold WD f1 at *
 rw [ha]
 rfl
theorem Zw {c : Bool} (h : WD f as s x) (e : truth x = some c) : WT (fT f) as c := by
 unfold WT fT; unfold WD at h
 rw [h]; show ((truth x).bind _) = _
 rw [e]; rfl
theorem zpe {c : TF} {k : Bool} (h : WT c as k) : WT (zgE c) as (!k) := by unfold WT zgE at *; rw [h]; rfl
theorem zlW {c e : TF} {k l : Bool} (h : WT c as k) (h2 : k = false -> WT e as l) (h3 : k = true -> l = true) : WT (zdY c e) as l := by
 unfold WT zdY at *; rw [h]
 cases k with
 | false => exact h2 rfl
 | true => rw [h3 rfl]; rfl
theorem zof {k l : Bool} (h : WD a as s (.bl k)) (h2 : k = true -> WD b as true (.bl l)) (h3 : k = false -> l = false) : WD (zmi a b) as true (.bl l) := by
 unfold WD zmi at *; rw [h]
 cases k with
 | true => exact h2 rfl
 | false => rw [h3 rfl]; rfl
theorem zL : WA aN as [] := rfl
theorem zB {fr : AF} {rs : List (Bool × D)} (ha : WD a as s x) (hr : WA fr as rs) : WA (aC a fr) as ((s, x) :: rs) := by
 unfold WA aC at *; unfold WD at ha
 rw [ha]; show ((fr as).bind _) = _
 rw [hr]; rfl
theorem Vu : ∀ rs : List (Bool × D), Xh as (rs.map (λ x => .ow (.lf x.1 x.2))) = some (rs.map λ x => (zU x.2 || x.1, x.2))
 | [] => rfl
 | r :: rs => by
  show (zkT as (.ow (.lf r.1 r.2))).bind _ = _
  show (Xh as (rs.map _)).bind _ = _
  rw [Vu rs]; rfl
theorem Yc : ∀ rs : List (Bool × D), views as (rs.map (λ x => .ow (.lf x.1 x.2))) = some (rs.map (·.2), some (rs.all (·.1)))
 | [] => rfl
 | r :: rs => by
  show (views as (rs.map _)).bind _ = _
  rw [Yc rs]; rfl
theorem v4 {fr : AF} {rs : List (Bool × D)} {g : List (Bool × D) -> Option O} (ha : WA fr as rs) (hg : g (rs.map λ x => (zU x.2 || x.1, x.2)) = some (.lf s x)) : WD (zH fr g) as s x := by
 unfold WD zH; unfold WA at ha
 rw [ha]; show (Xh as _).bind _ = _
 rw [Vu]; show (g _).bind _ = _
 rw [hg]; rfl
theorem zan {fr : AF} {rs : List (Bool × D)} {o : O} {g : List (Bool × D) -> Option O} (ha : WA fr as rs) (hg : g (rs.map λ x => (zU x.2 || x.1, x.2)) = some o) : zH fr g as = some (.ow o, as) := by
 unfold zH; unfold WA at ha
 rw [ha]; show (Xh as _).bind _ = _
 rw [Vu]; show (g _).bind _ = _
 rw [hg]; rfl
theorem ziE {fr : AF} {rs : List (Bool × D)} {g : List D -> Option R0} (ha : WA fr as rs) (hg : g (rs.map (·.2)) = some (.im x)) : WD (fP fr g) as (zU x || rs.all (·.1)) x := by
 unfold WD fP; unfold WA at ha
 rw [ha]; show (views as _).bind _ = _
 rw [Yc]; show (g _).bind _ = _
 rw [hg]
 show (if (zU x || (some (rs.all (·.1))).isSome) = true then _ else _ : Option RV).bind _ = _
 rw [if_pos (by simp)]; rfl
theorem vo {fr : AF} {rs : List (Bool × D)} {g : List D -> Option R0} (ha : WA fr as rs) (hg : g (rs.map (·.2)) = some (.im x)) (e : zU x = true) : WD (fP fr g) as true x := by
 have := ziE ha hg; rw [e] at this; exact this
theorem yO : WO dN as [] := rfl
theorem zV {fr : DF} {os : List O} (ha : WD a as s x) (hr : WO fr as os) : WO (dC a fr) as (.lf s x :: os) := by
 unfold WO dC at *; unfold WD at ha
 rw [ha]; show ((fr as).bind _) = _
 rw [hr]; rfl
theorem Xd {fr : DF} {os : List O} (h : WO fr as os) (hl : os.length <= sizeLine) : Zm fr as = some (.ow (.nd .ls os), as) := by
 unfold Zm; unfold WO at h
 rw [h]; show (if os.length <= sizeLine then _ else _) = _
 rw [if_pos hl]
theorem zW {f g : SF} {as1 : AS} {o : Option Out} (h1 : f as = some (.nx as1)) (h2 : g as1 = o) : zE f g as = o := by unfold zE; rw [h1]; exact h2
theorem Vq {f g : SF} {o : O} (h1 : f as = some (.rt o)) : zE f g as = some (.rt o) := by unfold zE; rw [h1]; rfl
theorem ZQ {c : TF} {f g : SF} {o : Option Out} (h : WT c as true) (h1 : f as = o) : sIf c f g as = o := by unfold sIf; unfold WT at h; rw [h]; exact h1
theorem wH {c : TF} {f g : SF} {o : Option Out} (h : WT c as false) (h1 : g as = o) : sIf c f g as = o := by unfold sIf; unfold WT at h; rw [h]; exact h1
theorem yz {i : Nat} {st : Bool} (h : WD f as s x) (hi : i < as.length) : zJ st i f as = some (.nx (as.set i (some (.lf s x)))) := by
 unfold zJ; unfold WD at h
 rw [h]
 cases st <;> exact if_pos hi
theorem wM {i : Nat} {o : O} (h : f as = some (.ow o, as)) (hi : i < as.length) : zJ false i f as = some (.nx (as.set i (some o))) := by
 unfold zJ
 rw [h]
 exact if_pos hi
theorem znH {i : Nat} {o : O} (h : f as = some (.ow o, as)) (hi : i < as.length) : zJ true i f as = some (.nx (as.set i (some o.frz))) := by
 unfold zJ
 rw [h]
 exact if_pos hi
theorem ZG (h : WD f as true x) : yu f as = some (.rt (.lf true x)) := by unfold yu; unfold WD at h; rw [h]; rfl
theorem Xl {n m : Nat} {c : SF} {ds : List (Bool × D)} {o : O} (hl : ds.length = m) (h : c (vG n ds) = some (.rt o)) : fnR n m c ds = some o := by unfold fnR; rw [if_pos hl, h]; rfl
theorem xq {g : GF} {f : SF} (I : Nat -> AS -> Prop) : ∀ (xs : List It1) (k : Nat) (as : AS), (∀ i x as, xs[i]? = some x -> I (k + i) as -> ∃ as1, g x as = some as1 /\ ∃ as2, f as1 = some (.nx as2) /\ I (k + i + 1) as2) -> I k as -> ∃ as', forL g f xs as = some (.nx as') /\ I (k + xs.length) as'
 | [], k, as, _, h => ⟨as, rfl, h⟩
 | x :: r, k, as, st, h => by
  obtain ⟨as1, h1, as2, h2, h3⟩ := st 0 x as rfl h
  obtain ⟨as', h4, h5⟩ := xq I r (k + 1) as2 (λ i y as e q => by
   obtain ⟨u, k1, v, k2, k3⟩ := st (i + 1) y as e (by rw [show k + (i + 1) = k + 1 + i by omega]; exact q)
   exact ⟨u, k1, v, k2, by rw [show k + 1 + i + 1 = k + (i + 1) + 1 by omega]; exact k3⟩) h3
  refine ⟨as', ?_, by rw [zzQ, show k + (r.length + 1) = k + 1 + r.length by omega]; exact h5⟩
  show (g x as).bind _ = _
  rw [h1]; show (f as1).bind _ = _
  rw [h2]; exact h4
theorem wV {fi : IF} {g : GF} {f : SF} {xs : List It1} {as' : AS} {o : Option Out} (h : fi as = some (xs, as')) (h2 : forL g f xs as' = o) : yZ fi g f as = o := by unfold yZ; rw [h]; exact h2
theorem xJ {lo : Int} {n i : Nat} {x : It1} (h : (yR lo n)[i]? = some x) : x = (true, .int (lo + i)) /\ i < n := by
 unfold yR at h
 rw [zzF] at h
 cases e : (List.range n)[i]? with
 | none => rw [e] at h; cases h
 | some k =>
  rw [e] at h
  obtain ⟨h1, h2⟩ := zzD.mp e
  rw [List.length_range] at h1
  rw [List.getElem_range] at h2
  subst h2
  exact ⟨(Option.some.inj h).symm, h1⟩
theorem xT {fr : AF} {j : Int} {u : Bool} (h : WA fr as [(u, .int j)]) (h0 : 0 <= j) (h1 : j < 1000000) : yx fr yC as = some (yR 0 j.toNat, as) := by
 unfold yx; unfold WA at h
 rw [h]
 simp only [Option.bind_some, Yc]
 show ((if -(2 ^ 62) <= j /\ j < 2 ^ 62 then some (yR 0 j.toNat) else none).bind _) = _
 rw [if_pos ⟨by omega, by omega⟩]; rfl
theorem zkD {fr : AF} {rs : List (Bool × D)} {o : O} (ha : a as = some (.ow o, as)) (hr : WA fr as rs) : WA (aC a fr) as ((o.str, o.toD) :: rs) := by
 unfold WA aC at *
 rw [ha]; show ((fr as).bind _) = _
 rw [hr]; rfl
theorem zcE {i : Nat} {o : O} (h : as[i]? = some (some o)) : RV.view as (.bo i) = some (o.toD, o.kl) := by simp only [RV.view, h]
theorem zpM {i : Nat} {o : O} (h : as[i]? = some (some o)) : toO as (.bo i) = some (o.frz, as.set i (some o.frz)) := by simp only [toO, h]
theorem zme {i : Nat} {o : O} (h : as[i]? = some (some o)) (hs : o.str = true) : zkW as (.bo i) = some o := by simp only [zkW, h, hs, if_true]
theorem zef {i : Nat} {k : Kind} {os : List O} (h : as[i]? = some (some (.nd k os))) : fV i as = some (.bo i, as) := by unfold fV; rw [h]
theorem zrW {i : Nat} {os : List O} (h : as[i]? = some (some (.nd .ls os))) : WD (fP (aC (fV i) aN) Y9) as true (.int os.length) := by
 have e : views as [.bo i] = some ([.lst (O.toDs os)], meet (O.nd .ls os).kl (some true)) := by
  show (RV.view as (.bo i)).bind _ = _
  rw [zcE h]; rfl
 unfold WD fP aC
 rw [zef h]
 simp only [Option.bind_some, aN, RV.frz, e]
 rw [show Y9 [.lst (O.toDs os)] = some (.im (.int os.length)) by show some (R0.im (.int ((O.toDs os).length : Nat))) = _; rw [zbJ]]
 rfl
theorem zem {g : GF} {f : SF} {d : It1} {r : List It1} {as1 as2 : AS} {o : Option Out} (h1 : g d as = some as1) (h2 : f as1 = some (.nx as2)) (h3 : forL g f r as2 = o) : forL g f (d :: r) as = o := by
 show (g d as).bind _ = _
 rw [h1]; show (f as1).bind _ = _
 rw [h2]; exact h3
theorem zkC {g : GF} {f : SF} {d : It1} {r : List It1} {as1 : AS} {o : O} (h1 : g d as = some as1) (h2 : f as1 = some (.rt o)) : forL g f (d :: r) as = some (.rt o) := by
 show (g d as).bind _ = _
 rw [h1]; show (f as1).bind _ = _
 rw [h2]; rfl
theorem zhc {i : Nat} {os : List O} (h : as[i]? = some (some (.nd .ls os))) (hl : os.length < sizeLine) (ha : WD a as s x) : wu (wX i (dC a dN) vN) as = some (.nx (as.set i (some (.nd .ls (os ++ [.lf s x]))))) := by
 unfold wu wX; rw [h]
 have e : dC a dN as = some ([.lf s x], as) := zV ha yO
 show ((dC a dN as).bind _).bind _ = _
 rw [e]; show (Option.bind (match as[i]? with | some (some (.nd .ls os)) => _ | _ => none) _) = _
 rw [h]; show ((vN os [.lf s x]).bind _).bind _ = _
 have e2 : vN os [.lf s x] = some (os ++ [.lf s x], .lf true .non) := by unfold vN; exact if_pos hl
 rw [e2]; rfl
theorem zlU {i : Nat} {os : List O} {k : Int} {o : O} (h : as[i]? = some (some (.nd .ls os))) (ha : WD a as s (.int k)) (h0 : 0 <= k) (h1 : k < os.length) (hs : os.length < 2 ^ 60) (ho : os[k.toNat]? = some o) : wX i (dC a dN) We as = some (.ow o, as.set i (some (.nd .ls (os.eraseIdx k.toNat)))) := by
 unfold wX; rw [h]
 have e : dC a dN as = some ([.lf s (.int k)], as) := zV ha yO
 show ((dC a dN as).bind _) = _
 rw [e]; show (match as[i]? with | some (some (.nd .ls os)) => _ | _ => none) = _
 rw [h]; show ((We os [.lf s (.int k)]).bind _) = _
 have e2 : We os [.lf s (.int k)] = some (os.eraseIdx k.toNat, o) := by
  unfold We
  show (if -(2 ^ 63) <= k /\ k < 2 ^ 63 then _ else _) = _
  rw [if_pos ⟨by omega, by omega⟩]
  have e3 : seqIndex? k os.length = some k.toNat := by unfold seqIndex?; simp; omega
  rw [e3]; show ((os[k.toNat]?).bind _) = _
  rw [ho]; rfl
 rw [e2]; rfl
theorem zpf {g : GF} {o : O} {as' : AS} (h : f as = some (.ow o, as)) (hg : g (o.str, o.toD) as = some as') : zfD f g as = some (.nx as') := by
 unfold zfD; rw [h]
 show (g (o.str, o.toD) as).bind _ = _
 rw [hg]; rfl
theorem ziA {i : Nat} {o : O} (h : as[i]? = some (some o)) (hs : o.str = true) : yu (fV i) as = some (.rt o) := by
 cases o with
 | lf st d => unfold yu fV; rw [h]; have : st = true := hs; subst this; rfl
 | nd k os =>
  unfold yu; rw [zef h]; show (zkW as (.bo i)).bind _ = _
  rw [zme h hs]; rfl
theorem wF {g : D -> D -> Option R0} (ha : WD a as true x) (hb : WD b as true y) (hg : g x y = some (.im z)) : WD (f2 a b g) as true z := by
 have := znQ ha hb hg
 rw [show (zU z || (true && true)) = true by simp] at this
 exact this
theorem Wd : ∀ zs : List D, zs.map (lfs true) = zs.map (O.lf true)
 | [] => rfl
 | z :: r => by
  show lfs true z :: r.map (lfs true) = _
  rw [Wd r]; unfold lfs; rw [Bool.or_true]; rfl
theorem Yv {fr : DF} {o : O} {os : List O} {as1 as2 : AS} (ha : a as = some (.ow o, as1)) (hr : fr as1 = some (os, as2)) : dC a fr as = some (o :: os, as2) := by
 unfold dC
 rw [ha]; show ((fr as1).bind _) = _
 rw [hr]; rfl
theorem add_lists {xs ys : List D} (h : xs.length + ys.length <= sizeLine) : zm .Add (.lst xs) (.lst ys) = some (.fl (xs ++ ys)) := if_pos h
theorem zex (lo : Int) (n : Nat) : yR lo (n + 1) = (true, .int lo) :: yR (lo + 1) n := by
 unfold yR
 rw [List.range_succ_eq_map, List.map_cons, List.map_map]
 congr 1
 · simp
 · apply List.map_congr_left
   intro i _
   show (true, D.int _) = (true, D.int _)
   congr 2
   show lo + ((i + 1 : Nat) : Int) = _
   omega
theorem zlv {fr : AF} {rs : List (Bool × D)} {g : List D -> Option R0} (ha : WA fr as rs) (hg : g (rs.map (·.2)) = some (.im x)) (e : rs.all (·.1) = true) : WD (fP fr g) as true x := by
 have := ziE ha hg; rw [e, Bool.or_true] at this; exact this
theorem zmy {ty : Ty} {fr : AF} {rs : List (Bool × D)} {g : D -> List D -> Option R0} (ha : WD a as s y) (ht : zna ty y = true) (hr : WA fr as rs) (hg : g y (rs.map (·.2)) = some (.im x)) (e : zU x = true) : WD (zcU ty a fr g) as true x := by
 unfold WD zcU; unfold WD at ha; unfold WA at hr
 rw [ha]
 show (if zna ty y = true then _ else _ : Option (RV × AS)) = _
 rw [if_pos ht, hr]
 simp only [Option.bind_some, Yc]
 show ((g y (rs.map (·.2))).bind _) = _
 rw [hg]
 show (if (zU x || _) = true then _ else _ : Option RV).bind _ = _
 rw [if_pos (by rw [e]; rfl)]
 show some (RV.ow (.lf (zU x || _) x), as) = _
 rw [e]; rfl
theorem zjo {g : GF} {fe : EF} {as0 as1 : AS} {y : It1} {r : List It1} {os : List O} (h1 : g y as0 = some as1) (h2 : WD fe as1 true x) (h3 : xx g xG fe as0 r = some os) : xx g xG fe as0 (y :: r) = some (.lf true x :: os) := by
 show (g y as0).bind _ = _
 rw [h1]; show (fe as1).bind _ = _
 unfold WD at h2
 rw [h2]; show (xx g xG fe as0 r).bind _ = _
 rw [h3]; rfl
theorem zeD {fi : IF} {cap : List (Option Nat)} {g : GF} {tt : TF} {fe : EF} {xs : List It1} {os : List O} (h1 : fi as = some (xs, as)) (hl : xs.length <= sizeLine) (h2 : xx g tt fe (Yy cap as) xs = some os) : yw fi cap g tt fe as = some (.ow (.nd .ls os), as) := by
 unfold yw
 rw [h1]; show (if xs.length <= sizeLine then _ else _) = _
 rw [if_pos hl]; show (xx g tt fe (Yy cap as) xs).bind _ = _
 rw [h2]; rfl
end
theorem szl {n : Nat} (h : Nat.ble n 1000 = true) : n <= sizeLine := Nat.le_of_lt (ym (Nat.le_of_ble_eq_true h))
theorem zG {a b : Nat} (h : Nat.ble (a + 1) b = true) : a < b := Nat.le_of_ble_eq_true h
theorem zP {i : Int} (h0 : -(10 ^ 200) < i) (h1 : i < 10 ^ 200) : i.natAbs < big := by
 have : (10 : Nat) ^ 200 < big := by unfold big; decide +kernel
 have e : ((10 ^ 200 : Nat) : Int) = (10 : Int) ^ 200 := by norm_cast
 have : (i.natAbs : Int) < ((10 ^ 200 : Nat) : Int) := by rw [e]; omega
 omega
theorem zmb {ns : List Int} {k : Int} (h0 : 0 <= k) (h1 : k < ns.length) : ∃ x, ixP (.lst (ns.map D.int)) (.int k) = some (.im (.int x)) := by
 have hk : k.toNat < ns.length := by omega
 refine ⟨ns[k.toNat], ?_⟩
 have h := Xy (xs := ns.map D.int) (j := k.toNat) (v := D.int ns[k.toNat]) (by rw [zzF, zzB hk]; rfl)
 rw [show ((k.toNat : Nat) : Int) = k by omega] at h
 show imR (atI _ _) = _
 rw [h]; rfl
section
variable {X : Cx} {kd : KD} {K : zC} {mg : Str -> Option Value}
def spL (K : zC) (g : Fn) : Sp := λ vs H Q E => ∀ kd : KD, spD K kd g vs H Q E
end
def lfO : O -> Option (Bool × D)
 | .lf s d => some (s, d)
 | _ => none
theorem zkc {o : O} {p : Bool × D} (h : lfO o = some p) : o = .lf p.1 p.2 := by
 cases o with
 | lf s d => cases h; rfl
 | nd k os => cases h
def zkm (i j : Nat) (fd : DF) : SF := λ as => (fd as).bind λ p => (zmW p.1).bind λ o => (lfO o.1).bind λ a => (lfO o.2).bind λ b => if i < p.2.length /\ j < p.2.length then some (.nx ((p.2.set i (some (.lf a.1 a.2))).set j (some (.lf b.1 b.2)))) else none
section
variable {X : Cx} {kd : KD} {a b : Expr} {fd : DF} {pos : Pos}
theorem zpX {i j : Nat} {x y : Str} {px py pt : Pos} {kt k2 pt2} (hc : X.calm = true) (hN : X.N.Nodup) (hi : X.N[i]? = some x) (hj : X.N[j]? = some y) (hij : i ≠ j)
 (hx : X.env.scope.names.lookup x = some .local) (hy : X.env.scope.names.lookup y = some .local) (ha : AD X kd [a, b] fd)
 (hw : swappedStores [.Tuple [.Name x px, .Name y py] kt pt] (.Tuple [a, b] k2 pt2) X.env = pure (some [x, y]))
 (hs : swapsWithSole [.Tuple [.Name x px, .Name y py] kt pt] (.Tuple [a, b] k2 pt2) pos.line X.env = pure false) :
 ASt X kd (.Assign [.Tuple [.Name x px, .Name y py] kt pt] (.Tuple [a, b] k2 pt2) pos) (zkm i j fd) := by with_unfolding_all exact (ZJ (zpb hc hN hi hj hij hx hy ha hw hs) λ D σ H h => by
 obtain ⟨F, B, ad, as, o, R, e, q⟩ := h
 obtain ⟨⟨os, as1⟩, h1, e⟩ := bS_ (show (fd as).bind _ = _ from e)
 obtain ⟨⟨o1, o2⟩, e1, e⟩ := bS_ e
 obtain ⟨⟨s1, d1⟩, e2, e⟩ := bS_ e
 obtain ⟨⟨s2, d2⟩, e3, e⟩ := bS_ e
 cases zeF e1
 cases zkc e2
 cases zkc e3
 · obtain ⟨⟨l1, l2⟩, e⟩ := zM e
   cases e
   refine ⟨F, B, ad, as, _, as1, R, h1, λ vs T' ad' H' R' rl g => ?_⟩
   cases rl with
   | cons ra rb =>
    cases rb with
    | cons rb rn =>
     cases rn
     cases ra with
     | lf ra =>
      cases rb with
      | lf rb =>
       refine ⟨_, _, rfl, ?_⟩
       have R2 := R'.put (T := []) (i := i) (o := .lf s1 d1) l1 (.lf ra)
       have R3 := R2.put (T := []) (i := j) (o := .lf s2 d2) (by rw [zzR]; exact l2) (RoS.less xg (.lf rb))
       exact q _ _ _ R3 (g.trans (Grow.less λ a z => xg a (xg a z))))
end
inductive Ents (w : World) : List DictEntry -> List (Key × V) -> Prop
 | nil : Ents w [] []
 | str {x : Str} {t : Tok} {v : V} {u : Value} {r : List DictEntry} {s : List (Key × V)} : RelV v u -> Ents w r s -> Ents w (⟨PyData.keyHash w.params x, .str x t, u⟩ :: r) ((.inr x, v) :: s)
theorem Ents.keys {P : Program} {w : World} : ∀ {es : List DictEntry} {kvs : List (Key × V)}, Ents w es kvs -> ∀ e ∈ es, ∃ k, (wC P w).is k e.key = true /\ e.hash = (wC P w).hash k
 | _, _, .nil, _, m => nomatch m
 | _, _, .str (x := x) (t := t) _ r, e, m => by
  rcases zS.mp m with rfl | m
  · exact ⟨.inr x, Wy P w x t, rfl⟩
  · exact r.keys e m
theorem Ents.pairs {P : Program} {w : World} : ∀ {es : List DictEntry} {kvs : List (Key × V)}, Ents w es kvs -> ∃ vs, KV kvs vs /\ Pairs (wC P w) es vs /\ vs.map (·.1) = kvs.map (·.1)
 | _, _, .nil => ⟨[], .nil, .nil, rfl⟩
 | _, _, .str (x := x) (t := t) (u := u) h r => by
  obtain ⟨vs, h1, h2, h3⟩ := r.pairs (P := P)
  exact ⟨(.inr x, u) :: vs, .cons ⟨rfl, h⟩ h1, .cons (Wy P w x t) rfl h2, by rw [List.map_cons, List.map_cons, h3]⟩
structure DctAt (w : World) (K : zC) (a : Addr) (kvs : List (Key × V)) : Prop where
 ex : ∃ es ep, K.lookup a = some { cls := .type "dict", data := .dict es ep } /\ Ents w es.toList kvs
 nd : (kvs.map (·.1)).Nodup
 le : kvs.length <= sizeLine
 ns : (a == sysModules) = false
def kdL (l : List (Addr × List (Key × V))) (c : Str -> Addr := λ _ => 0) : KD := ⟨λ a k => l.lookup a = some k, c⟩
theorem lookup_mem {l : List (Addr × List (Key × V))} {a : Addr} {k : List (Key × V)} (h : l.lookup a = some k) : (a, k) ∈ l := by
 induction l with
 | nil => cases h
 | cons p r ih =>
  rw [List.lookup_cons] at h
  by_cases e : a = p.1
  · subst e
    rw [beq_self_eq_true] at h
    cases h
    exact zzC
  · rw [show (a == p.1) = false from beq_eq_false_iff_ne.mpr e] at h
    exact zzA _ (ih h)
theorem zoL {P : Program} {w : World} {K : zC} {l : List (Addr × List (Key × V))} {c : Str -> Addr} (h : ∀ p ∈ l, DctAt w K p.1 p.2) : KD1 P w K (kdL l c) := λ X e1 e2 e3 => by
 subst e1; subst e2; subst e3
 refine ⟨λ a k k' h1 h2 => Option.some.inj (h1.symm.trans h2), λ a k h1 => ?_, λ a k hp h1 hin => ?_⟩
 · obtain ⟨es, ep, e, _⟩ := (h _ (lookup_mem h1)).ex
   exact ⟨_, e⟩
 · have q := h _ (lookup_mem h1)
   obtain ⟨es, ep, e, en⟩ := q.ex
   obtain ⟨vs, h2, h3, h4⟩ := en.pairs (P := X.prog)
   refine ⟨q.le, q.ns, vs, h2, _, es, ep, hin _ _ e, ⟨rfl, rfl, rfl⟩, rfl, λ x m => en.keys x (by simpa using m), h3, by rw [h4]; exact q.nd⟩
def isStar : Expr -> Bool
 | .Starred .. => true
 | _ => false
theorem za {a : Expr} {es : List Expr} {env : Env} (h : isStar a = false) : starEach (a :: es) env = (false, eval a env) :: starEach es env := by
 cases a <;> first | rfl | cases h
section
variable {as : AS} {f a b c : EF} {s t u : Bool} {x y z : D} {i j k : Int}
theorem zpm {cl : String} (h : WD f as s x) (ho : zhE x = true := by rfl) : WD (ziX f cl) as true (.bl (zez (tyD x) cl)) := by
 unfold WD ziX at *; rw [h]; show (if zhE x = true then _ else _) = _; rw [if_pos ho]; rfl
theorem zlt {cl : String} {q : Bool} (h : WD f as s x) (e : zez (tyD x) cl = q) (ho : zhE x = true := by rfl) : WD (ziX f cl) as true (.bl q) := by subst e; exact zpm h ho
theorem zoa {q : Bool} (h : WD f as s (.bl q)) : WD (znF f) as true (.bl (!q)) := by
 unfold WD znF at *; rw [h]; rfl
theorem zpq {cc : TF} {g : SF} {n : Nat} {as1 : AS} {o : Option Out} (h : WT cc as true) (h1 : g as = some (.nx as1)) (h2 : whL cc g n as1 = o) : whL cc g (n + 1) as = o := by
 unfold WT at h
 show (cc as).bind _ = _
 rw [h]; show (g as).bind _ = _
 rw [h1]; exact h2
theorem zqi {cc : TF} {g : SF} {n : Nat} (h : WT cc as false) : whL cc g (n + 1) as = some (.nx as) := by
 unfold WT at h
 show (cc as).bind _ = _
 rw [h]; rfl
theorem zpd {p q : Nat} {fd : DF} (h : WO fd as [.lf s x, .lf t y]) (hi : p < as.length) (hj : q < as.length) : zkm p q fd as = some (.nx ((as.set p (some (.lf s x))).set q (some (.lf t y)))) := by
 unfold zkm; unfold WO at h
 rw [h]; show (if _ then _ else _) = _
 rw [if_pos ⟨hi, hj⟩]
theorem ziU {g : GF} {tt : TF} {fe : EF} {as0 as1 : AS} {w : It1} {r : List It1} {o : Option (List O)} (h1 : g w as0 = some as1) (h2 : WT tt as1 false) (h3 : xx g tt fe as0 r = o) : xx g tt fe as0 (w :: r) = o := by
 unfold WT at h2
 show (g w as0).bind _ = _
 rw [h1]; show (tt as1).bind _ = _
 rw [h2]; exact h3
def WE (f : EF) (as : AS) (x : D) : Prop := ∃ o, f as = some (.ow o, as) /\ o.str = true /\ o.toD = x
def RE (r : Option O) (x : D) : Prop := ∃ o, r = some o /\ o.str = true /\ o.toD = x
theorem WD.e (h : WD f as true x) : WE f as x := ⟨_, h, rfl, rfl⟩
theorem Wf {fr : DF} {os : List O} (h : WO fr as os) (hl : os.length <= sizeLine) (hs : O.strs os = true) (e : D.lst (O.toDs os) = x) : WE (Zm fr) as x := ⟨_, Xd h hl, hs, e⟩
theorem Yk {fr : AF} {rs : List (Bool × D)} (h : WE a as x) (hr : WA fr as rs) : WA (aC a fr) as ((true, x) :: rs) := by
 obtain ⟨o, h1, h2, rfl⟩ := h
 have := zkD h1 hr
 rw [h2] at this
 exact this
theorem XR {g : List (Bool × D) -> Option O} (ha : WE a as x) (hg : RE (g [(true, x)]) z) : WE (zH (aC a aN) g) as z := by
 obtain ⟨o, h1, h2, h3⟩ := hg
 exact ⟨o, zan (Yk ha zL) (by show g [(zU x || true, x)] = _; rw [Bool.or_true]; exact h1), h2, h3⟩
theorem zlG {g : List (Bool × D) -> Option O} (ha : WE a as x) (hb : WE b as y) (hg : RE (g [(true, x), (true, y)]) z) : WE (zH (aC a (aC b aN)) g) as z := by
 obtain ⟨o, h1, h2, h3⟩ := hg
 exact ⟨o, zan (Yk ha (Yk hb zL)) (by show g [(zU x || true, x), (zU y || true, y)] = _; rw [Bool.or_true, Bool.or_true]; exact h1), h2, h3⟩
theorem zfp {w : D} {g : List (Bool × D) -> Option O} (ha : WE a as x) (hb : WE b as y) (hc : WE c as w) (hg : RE (g [(true, x), (true, y), (true, w)]) z) : WE (zH (aC a (aC b (aC c aN))) g) as z := by
 obtain ⟨o, h1, h2, h3⟩ := hg
 exact ⟨o, zan (Yk ha (Yk hb (Yk hc zL))) (by show g [(zU x || true, x), (zU y || true, y), (zU w || true, w)] = _; rw [Bool.or_true, Bool.or_true, Bool.or_true]; exact h1), h2, h3⟩
theorem zac {g : List (Bool × D) -> Option O} (ha : WE a as x) (hb : WE b as y) (hg : g [(true, x), (true, y)] = some (.lf s z)) : WD (zH (aC a (aC b aN)) g) as s z := zan (Yk ha (Yk hb zL)) (by show g [(zU x || true, x), (zU y || true, y)] = _; rw [Bool.or_true, Bool.or_true]; exact hg)
theorem f2E {g : D -> D -> Option R0} (ha : WE a as x) (hb : WE b as y) (hg : g x y = some (.im z)) : WD (f2 a b g) as true z := by
 obtain ⟨o, h1, h2, rfl⟩ := ha
 obtain ⟨p, h3, h4, rfl⟩ := hb
 have := zrm h1 h3 hg
 rw [h2, h4, Bool.and_true, Bool.or_true] at this
 exact this
theorem zfW : ∀ zs : List D, O.strs (zs.map (O.lf true)) = true
 | [] => rfl
 | _ :: r => zfW r
theorem zfH : ∀ zs : List D, O.toDs (zs.map (O.lf true)) = zs
 | [] => rfl
 | z :: r => congrArg (z :: ·) (zfH r)
theorem Yh {p : Nat} (h : WE f as x) (hi : p < as.length) : zJ true p f as = some (.nx (as.set p (some (.lf true x)))) := by
 obtain ⟨o, h1, h2, rfl⟩ := h
 have := znH h1 hi
 rw [show o.frz = .lf true o.toD by unfold O.frz; rw [h2]] at this
 exact this
theorem zpg {q : Bool} (ha : WE a as x) (hb : WE b as y) (h : eqF 60 x y = some q) : WD (f2 a b (yt .Eq)) as true (.bl q) := f2E ha hb (by show (eqF 60 x y).bind _ = _; rw [h]; rfl)
theorem zkL {q : Bool} (ha : WE a as x) (hb : WE b as y) (h : eqF 60 x y = some q) : WD (f2 a b (yt .NotEq)) as true (.bl (!q)) := f2E ha hb (by show (eqF 60 x y).bind _ = _; rw [h]; rfl)
theorem zor {g : List D -> Option R0} (ha : WE a as x) (hg : g [x] = some (.im z)) : WD (fP (aC a aN) g) as true z := zlv (Yk ha zL) hg rfl
theorem zpF {fr : DF} {o : O} {os : List O} (ha : a as = some (.ow o, as)) (hr : WO fr as os) : WO (dC a fr) as (o :: os) := Yv ha hr
theorem zhm {fr : DF} {os : List O} (h : WO fr as os) (hl : os.length <= sizeLine) : wR fr as = some (.ow (Yq os), as) := by
 unfold wR; unfold WO at h
 rw [h]; show (if os.length <= sizeLine then some (RV.ow (Yq os), as) else _) = _
 rw [if_pos hl]
theorem zeQ {fl fh : OF} {lo hi : Option Int} {g : D -> Option Int -> Option Int -> Option R0} {zs : List D} (ha : WE a as y) (hl : fl as = some (lo, as)) (hh : fh as = some (hi, as)) (hg : g y lo hi = some (.fl zs)) : WE (fSl a fl fh g) as (.lst zs) := by
 obtain ⟨o, h1, h2, rfl⟩ := ha
 refine ⟨.nd .ls (zs.map (O.lf true)), ?_, zfW zs, congrArg D.lst (zfH zs)⟩
 unfold fSl
 rw [h1]; show ((fl as).bind _) = _
 rw [hl]; show ((fh as).bind _) = _
 rw [hh]; show ((g o.toD lo hi).bind _) = _
 rw [hg]
 show (if (zs.all zU || (some o.str).isSome) = true then some (RV.ow (.nd .ls (zs.map (lfs ((some o.str).getD false))))) else none : Option RV).bind _ = _
 rw [if_pos (by simp), h2]
 show some (RV.ow (.nd .ls (zs.map (lfs true))), as) = _
 rw [Wd]
theorem zlE {xs ys : List D} : slP (.lst (xs ++ ys)) (some (xs.length : Int)) none = some (.fl ys) := by
 show some (R0.fl (cutD (xs ++ ys) (some (xs.length : Int)) none)) = _
 congr 2
 unfold cutD
 rw [HT.zhM, HT.zfI, zzG, Nat.min_eq_left (by omega), List.drop_left, List.take_of_length_le (by omega)]
theorem zfs : ∀ ds : List D, kids true ds = ds.map λ d => (true, d)
 | [] => rfl
 | d :: r => by show (zU d || true, d) :: kids true r = _; rw [zfs r, Bool.or_true]; rfl
theorem zlN {ds : List D} (h : WE f as (.lst ds)) : Yx f as = some (ds.map λ d => (true, d), as) := by
 obtain ⟨o, h1, h2, h3⟩ := h
 unfold Yx
 rw [h1]; show (zfQ (o.str, o.toD)).bind _ = _
 rw [h2, h3]; show some (kids true ds, as) = _
 rw [zfs]
theorem zkd {ds : List D} (h : WD f as true (.lst ds)) : ziV f as = some (ds.map λ d => (true, d), as) := by
 unfold ziV; unfold WD at h
 rw [h]; show some (kids true ds, as) = _
 rw [zfs]
end
def zbO : List D -> Option (List Str)
 | [] => some []
 | .str x :: r => (zbO r).bind λ s => some (x :: s)
 | _ :: _ => none
theorem zmJ {K : zC} {kd : KD} {O : Addr -> Prop} {H : Hp} {vs : List V} {us : List Value} {ds : List D} {ns : List Str} (h : RpL K kd O H vs ds) (hv : Vals vs us) (e : zbO ds = some ns) : StrsAre us ns :=
 RpL.ind (P := λ vs ds => ∀ us ns, Vals vs us -> zbO ds = some ns -> StrsAre us ns) (λ us ns hv e => by cases e; cases hv; exact .nil) (λ {v d vs ds} a _ ih us ns hv e => by
  cases hv with
  | cons b t =>
   cases a with
   | str x =>
    obtain ⟨ys, h1, h2⟩ := bS_ (show (zbO _).bind _ = _ from e)
    cases h2
    obtain ⟨tk, rfl⟩ := b
    exact .cons _ _ (ih _ _ t h1)
   | _ => cases e) h us ns hv e
def zgh : D -> List D -> Option R0
 | .str sep, [.lst ds] => (zbO ds).bind λ ys => if (ys.map (·.length)).sum + ys.length * sep.length <= 16777216 then some (.im (.str (Txt.join sep ys))) else none
 | _, _ => none
section
variable {X : Cx} {kd : KD}
theorem zmh : MtD X kd "str.join" zgh := by
 intro pins s σ H x xs v us Q I rx r h
 obtain ⟨O, d, ds, r0, ht, vx, vl, he, q⟩ := h
 unfold zgh at he
 split at he
 · rename_i sep es
   obtain ⟨ys, h1, he⟩ := bS_ he
   obtain ⟨hz, he⟩ := zM he
   cases he
   cases vx
   obtain ⟨t, rfl⟩ := rx
   obtain ⟨y, rfl, vy⟩ := zcw vl
   cases vy with
   | lst hr rl =>
    obtain ⟨u, rfl, ru⟩ := vals1 r
    cases ru
    obtain ⟨its, rv, pl, _⟩ := I.list hr.sq
    exact join_list pl.isList (zmJ rl (by simpa using rv) h1) hz λ t' k => ⟨.str _, H, I.tok _, ⟨t', rfl⟩, yr q (.str _)⟩
 · cases he
def zsh : D -> Option R0
 | .str x => if x.length <= 640 then (PySem.intText? x).bind λ n => some (.im (.int n)) else none
 | d => zse d
def Xp : List D -> Option R0 := on1 zsh
theorem Yr : CallD X kd (.type "int") Xp := by
 intro pins s σ H xs us Q I r h
 obtain ⟨O, ds, z, ht, vl, he, q⟩ := h
 obtain ⟨x, d, rfl, vx, he⟩ := zbC vl he
 cases vx with
 | str y =>
  obtain ⟨hl, he⟩ := ite_some' he
  obtain ⟨n, hn, he⟩ := bS_ he
  cases he
  obtain ⟨u, rfl, ru⟩ := vals1 r
  obtain ⟨t, rfl⟩ := ru
  exact PySem.W.KIN.call_text hn hl ⟨.int _, H, I.tok _, ⟨_, rfl⟩, yr q (.int _)⟩
 | int i => cases he; exact zeb pins s σ H _ us Q I r (.inl ⟨_, rfl, yr q (.int _)⟩)
 | bl b => cases he; exact zeb pins s σ H _ us Q I r (.inr ⟨_, rfl, yr q (.int _)⟩)
 | _ => cases he
end
section
variable {X : Cx} {pins : List (Addr × Obj)} {σ : List (Option V)} {H : Hp} {s : Shared} {h' : Heap}
theorem zeZ {t' : Nat} {ch : List Addr} {T : Addr} {o : HO} (I : Inv X pins σ H s) (hf : ∀ b ∈ ch, zch X pins H b) (k : ∀ b u, b ∉ ch -> s.heap.get? b = some u -> h'.get? b = some u) (hp : s.heap.objs.size <= T)
 (new : wG X.prog X.w (upd H T o) h' T o) : Inv X pins σ (upd H T o) { s with heap := h', toks := t' } := by
 have hn : H T = none := I.hok.fresh hp
 have nT : ∀ b u, s.heap.get? b = some u -> b ≠ T := λ b u e z => absurd (zzH (Heap.lt_size e) (by rw [z]; exact hp)) (Nat.lt_irrefl _)
 have nc : ∀ b u, H b = some u -> b ∉ ch := λ b u e z => by have := (hf b z).1; rw [e] at this; cases this
 refine I.step (g' := s.gens) (d' := s.drawn) (ch := ch) (λ b hb => ?_) (λ b o _ _ hc e _ => k b o hc e) (λ b o _ _ hc e _ => ⟨o.slots, k b o hc e⟩) (λ b o _ e n => by rw [zO (nT b o e)]; exact n)
  (λ b o hc e => ⟨o, k b o hc e⟩) (λ b xs e => by rw [zO (yd e hn)]; exact e) (λ b o u e => by rw [zO (yd e hn)]; exact e) (λ b ps e => ⟨#[], by rw [zO (yd e hn), e]; simp⟩) (λ m hm => ?_) (λ b u e => ?_) I.bare
 · obtain ⟨f0, f1, f2, f3, f4, f5⟩ := hf b hb
   exact ⟨f3, f1, f4, f5⟩
 · obtain ⟨o, es, ep, ho, r⟩ := hm
   exact ⟨o, es, ep, k _ o (λ z => (hf _ z).2.1 rfl) ho, r⟩
 · by_cases hb : b = T
   · subst hb; rw [yc] at e; cases e; exact new
   · rw [zO hb] at e
     refine (I.hok b u e).stay (λ c v hc q => k c v ?_ q) (λ c q => by rw [zO (yd q hn)]; exact q) λ c xs q => by rw [zO (yd q hn)]; exact q
     rcases hc with z | z
     · rw [z]; exact nc b u e
     · exact nc c _ z
end
theorem zkj (sep : Str) (ys : List Str) : Txt.join sep ys = Str.join sep ys := StrLaws.glued_eq_join sep ys
section
variable {as : AS} {f a b : EF} {s t : Bool} {x y z : D}
theorem zps {ds : List D} (h : WE f as (.tup ds)) : Yx f as = some (ds.map λ d => (true, d), as) := by
 obtain ⟨o, h1, h2, h3⟩ := h
 unfold Yx
 rw [h1]; show (zfQ (o.str, o.toD)).bind _ = _
 rw [h2, h3]; show some (kids true ds, as) = _
 rw [zfs]
theorem zlf {xs ys : List D} : slP (.lst (xs ++ ys)) none (some (xs.length : Int)) = some (.fl xs) := by
 show some (R0.fl (cutD (xs ++ ys) none (some (xs.length : Int)))) = _
 congr 2
 unfold cutD
 rw [HT.zhM, HT.zfI, zzG, Nat.min_eq_left (by omega), List.drop_zero, Nat.sub_zero, List.take_left]
end
theorem zhy {X : Cx} {pins : List (Addr × Obj)} {σ : List (Option V)} {H : Hp} {s : Shared} {h' : Heap} {t' : Nat} {ch : List Addr} (I : Inv X pins σ H s) (hf : ∀ b ∈ ch, zch X pins H b) (k : ∀ b u, b ∉ ch -> s.heap.get? b = some u -> h'.get? b = some u) : Inv X pins σ H { s with heap := h', toks := t' } := by
 have nc : ∀ b u, H b = some u -> b ∉ ch := λ b u e z => by have := (hf b z).1; rw [e] at this; cases this
 refine I.step (g' := s.gens) (d' := s.drawn) (ch := ch) (λ b hb => ?_) (λ b o _ _ hc e _ => k b o hc e) (λ b o _ _ hc e _ => ⟨o.slots, k b o hc e⟩) (λ b o _ e n => n)
  (λ b o hc e => ⟨o, k b o hc e⟩) (λ b xs e => e) (λ b o u e => e) (λ b ps e => ⟨#[], by rw [e]; simp⟩) (λ m hm => ?_) (λ b u e => ?_) I.bare
 · obtain ⟨f0, f1, f2, f3, f4, f5⟩ := hf b hb
   exact ⟨f3, f1, f4, f5⟩
 · obtain ⟨o, es, ep, ho, r⟩ := hm
   exact ⟨o, es, ep, k _ o (λ z => (hf _ z).2.1 rfl) ho, r⟩
 · refine (I.hok b u e).stay (λ c v hc q => k c v ?_ q) (λ c q => q) λ c xs q => q
   rcases hc with z | z
   · rw [z]; exact nc b u e
   · exact nc c _ z
section
variable {X : Cx} {tg : Expr}
theorem zjC (I l1 l2 : Nat) (h1 : l1 < I) (h2 : l2 < I) : ZipApart (I + 4) (I + 2) (I + 3) I (I + 1) l1 l2 := by
 constructor <;> (show (_ : Nat) ≠ _; omega)
end
section
variable {X : Cx} {kd : KD} {tg e : Expr} {fa : EF}
def zbe (st : Bool) : List D -> List D -> List It1
 | x :: r, y :: t => (st, .tup [x, y]) :: zbe st r t
 | _, _ => []
theorem zgn (st : Bool) : ∀ (xs ys : List D), (zbe st xs ys).length = min xs.length ys.length
 | [], _ => by simp [zbe]
 | _ :: _, [] => by simp [zbe]
 | _ :: r, _ :: t => by simp only [zbe, zzQ, zgn st r t]; omega
theorem zgg {st : Bool} : ∀ {xs ys : List D} {i : Nat} {y : It1}, (zbe st xs ys)[i]? = some y -> ∃ d e, xs[i]? = some d /\ ys[i]? = some e /\ y = (st, .tup [d, e])
 | [], _, _, _, h => by simp [zbe] at h
 | _ :: _, [], _, _, h => by simp [zbe] at h
 | x :: r, y :: t, 0, z, h => by
  simp only [zbe, List.getElem?_cons_zero] at h
  cases h
  exact ⟨x, y, rfl, rfl, rfl⟩
 | x :: r, y :: t, i + 1, z, h => by
  simp only [zbe, List.getElem?_cons_succ] at h
  obtain ⟨d, e, h1, h2, h3⟩ := zgg h
  exact ⟨d, e, by simpa using h1, by simpa using h2, h3⟩
theorem zns {K : zC} {F B : Addr -> Prop} {ad : Ad} {H : Hp} {v : V} {st q : Bool} {ds : List D} (rp : Rp K kd (Lv F B (Gw [] ad) st) H v (.lst ds)) (hq : q = true -> st = true) : ∃ a vs, v = .ref a /\ (∀ (ad3 : Ad) (H3 : Hp), Grow (Gw [] ad) H (Gw [] ad3) H3 -> SqL K H3 a vs) /\ RpL K kd (Lv F B (Gw [] ad) q) H vs ds := by
 have le : ∀ a, Lv F B (Gw [] ad) q a -> Lv F B (Gw [] ad) st a := λ a z => z.imp (λ y => y.imp (λ x => ⟨hq x.1, x.2⟩) id) id
 cases rp with
 | lst hn hr rl => exact ⟨_, _, rfl, λ ad3 H3 g3 => .inl (Vx g3 (λ z => hn (.inr z)) hr), rl.less le⟩
 | lstK a b c rl => exact ⟨_, _, rfl, λ ad3 H3 g3 => .inr ⟨_, _, _, a, rfl, rfl, rfl, b, c⟩, rl.less le⟩
end
def insI (x : Int) : List Int -> List Int
 | [] => [x]
 | y :: r => if x <= y then x :: y :: r else y :: insI x r
def sortI : List Int -> List Int
 | [] => []
 | x :: r => insI x (sortI r)
theorem insI_perm (x : Int) : ∀ l : List Int, (insI x l).Perm (x :: l)
 | [] => List.Perm.refl _
 | y :: r => by
  unfold insI
  split
  · exact List.Perm.refl _
  · exact ((insI_perm x r).cons y).trans (List.Perm.swap x y r)
theorem sortI_perm : ∀ l : List Int, (sortI l).Perm l
 | [] => List.Perm.refl _
 | x :: r => (insI_perm x (sortI r)).trans ((sortI_perm r).cons x)
theorem zbT (x : Int) : ∀ l : List Int, l.Pairwise (· <= ·) -> (insI x l).Pairwise (· <= ·)
 | [], _ => by simp [insI]
 | y :: r, h => by
  unfold insI
  rw [List.pairwise_cons] at h
  split
  · rename_i hxy
    rw [List.pairwise_cons, List.pairwise_cons]
    refine ⟨λ z hz => ?_, h⟩
    rcases zS.mp hz with rfl | hz
    · exact hxy
    · exact Int.le_trans hxy (h.1 z hz)
  · rename_i hxy
    rw [List.pairwise_cons]
    refine ⟨λ z hz => ?_, zbT x r h.2⟩
    rcases zS.mp ((insI_perm x r).mem_iff.mp hz) with rfl | hz
    · omega
    · exact h.1 z hz
theorem X5 : ∀ l : List Int, (sortI l).Pairwise (· <= ·)
 | [] => List.Pairwise.nil
 | x :: r => zbT x _ (X5 r)
theorem zec : ∀ (a b : List Int), a.Perm b -> a.Pairwise (· <= ·) -> b.Pairwise (· <= ·) -> a = b
 | [], b, p, _, _ => by rw [List.nil_perm] at p; exact p.symm
 | x :: r, [], p, _, _ => by rw [List.perm_nil] at p; cases p
 | x :: r, y :: t, p, ha, hb => by
  rw [List.pairwise_cons] at ha hb
  have hxy : x = y := by
   have h1 : x ∈ y :: t := p.mem_iff.mp (zzC ..)
   have h2 : y ∈ x :: r := p.mem_iff.mpr (zzC ..)
   rcases zS.mp h1 with e | e
   · exact e
   · rcases zS.mp h2 with e' | e'
     · exact e'.symm
     · have := hb.1 x e
       have := ha.1 y e'
       omega
  subst hxy
  rw [zec r t (List.Perm.cons_inv p) ha.2 hb.2]
theorem ints_of {K : zC} {kd : KD} {O : Addr -> Prop} {H : Hp} {vs : List V} {us : List Value} {ds : List D} {ns : List Int} (h : RpL K kd O H vs ds) (hv : Vals vs us) (e : Wi ds = some ns) : IntsAre us ns :=
 RpL.ind (P := λ vs ds => ∀ us ns, Vals vs us -> Wi ds = some ns -> IntsAre us ns) (λ us ns hv e => by cases e; cases hv; exact .nil) (λ {v d vs ds} a _ ih us ns hv e => by
  cases hv with
  | cons b t =>
   cases a with
   | int x =>
    obtain ⟨ys, h1, h2⟩ := bS_ (show (Wi _).bind _ = _ from e)
    cases h2
    obtain ⟨tk, rfl⟩ := b
    exact .cons _ _ (ih _ _ t h1)
   | _ => cases e) h us ns hv e
theorem Xj : ∀ {us : List Value} {ns : List Int}, IntsAre us ns -> Vals (ns.map V.int) us
 | _, _, .nil => .nil
 | _, _, .cons n t r => .cons ⟨t, rfl⟩ (Xj r)
theorem zgS {K : zC} {kd : KD} {O : Addr -> Prop} {H : Hp} : ∀ ns : List Int, RpL K kd O H (ns.map V.int) (ns.map D.int)
 | [] => .nil
 | y :: r => .cons (.int y) (zgS r)
def zke : List D -> Option R0 := on1 λ x => (asL x).bind λ ds => (Wi ds).bind λ ns => if ns.length < 64 then some (.fl ((sortI ns).map .int)) else none
section
variable {X : Cx} {kd : KD}
theorem zhu : CallD X kd (.builtin "sorted") zke := by
 intro pins s σ H xs us Q I r h
 obtain ⟨O, ds, z, ht, vl, he, q⟩ := h
 obtain ⟨x, d, rfl, vx, he⟩ := zbC vl he
 obtain ⟨ds, h0, he2⟩ := bS_ (show (asL d).bind _ = _ from he)
 cases zdn h0
 · obtain ⟨ns, h1, he⟩ := bS_ he2
   obtain ⟨hz, he⟩ := zM he
   cases he
   cases vx with
   | lst hr rl =>
    obtain ⟨u, rfl, ru⟩ := vals1 r
    cases ru
    obtain ⟨its, rv, pl, _⟩ := I.list hr.sq
    have hI := ints_of rl rv h1
    have hl := hI.length
    refine sorted_ints pl.isList hI (by omega) λ out ns' a1 a2 a3 => ?_
    have e : ns' = sortI ns := zec _ _ (a2.trans (sortI_perm ns).symm) a3 (X5 ns)
    subst e
    obtain ⟨ee, hob⟩ := sortedAll_at s.heap its out
    have hn : H (s.heap.objs.size + 1) = none := I.hok.fresh (Nat.le_succ _)
    refine ⟨.ref (s.heap.objs.size + 1), _, I.laid (t' := s.toks) (λ b o e => sortedAll_old e) (Nat.le_succ _) (show wG X.prog X.w _ _ _ (.lst ((sortI ns).map V.int)) from ⟨?_, out.toList, ee, Xj a1, by simpa [seqObj] using hob⟩), rfl, V8 q (zgS _) _ hn⟩
    rw [zD, (sortI_perm ns).length_eq]
    exact Nat.le_of_lt (ym (by omega))
end
theorem WL : ∀ {vs : List V} {us : List Value}, vs.length = us.length -> (∀ (i : Nat) v u, vs[i]? = some v -> us[i]? = some u -> RelV v u) -> Vals vs us
 | [], [], _, _ => .nil
 | [], _ :: _, h, _ => by simp at h
 | _ :: _, [], h, _ => by simp at h
 | v :: vs, u :: us, h, k => .cons (k 0 v u rfl rfl) (WL (by simpa using h) λ i a b x y => k (i + 1) a b (by simpa using x) (by simpa using y))
section
variable {X : Cx} {tg : Expr}
def zqh (ta : TA) : TE := λ σ H Q => ta σ H λ vs H1 => ∃ j : Int, vs = [.int j] /\ -(2 ^ 62) <= j /\ j < 2 ^ 62 /\ ∀ r, H1 r = none -> Q (.ref r) (upd H1 r (.rng 0 j))
theorem zfT {a : Expr} {ta : TA} {p pos : Pos} (hg : Gl X "range") (hm : X.mg "range" = none) (ha : PA X [a] ta) (hs : starEach [a] X.env = [(false, eval a X.env)]) : PE X (.Call (.Name "range" p) [a] [] pos) (zqh ta) := by
 intro pins s σ H Q I h
 refine Call_ (XD I hg hm boot_range (PyProof.Rows.callWith_type1 (thn (ha pos pins s σ H _ I h) λ us s1 ⟨vs, H1, I1, r1, q1⟩ => ?_) hs rfl))
 obtain ⟨j, e, b1, b2, q⟩ := q1
 subst e
 cases r1 with
 | cons r rr =>
  cases rr
  obtain ⟨t, rfl⟩ := r
  exact call_range_1 ⟨.ref s1.heap.objs.size, _, I1.laid (λ b o e => Heap.get?_push_of_some _ e) (zzK _) (show wG X.prog X.w _ _ _ (.rng 0 j) from ⟨_, _, _, Heap.get?_push_size _ rfl⟩), rfl, q _ (I1.hok.fresh (zzK _))⟩
def tLR (ta : TA) : TE := λ σ H Q => zkE (zqh ta) zmc σ H λ vs H2 => ∃ r H1, ∃ j : Int, vs = [.ref r] /\ H1 r = none /\ H2 = upd H1 r (.rng 0 j) /\ 0 <= j /\ j <= 100000 /\ ∀ l, H2 l = none -> Q (.ref l) (upd H2 l (.lst ((List.range j.toNat).map λ (i : Nat) => V.int i)))
theorem zjJ {a : Expr} {ta : TA} {p p' pos pos' : Pos} (hc : X.calm = true) (hg : Gl X "range") (hm : X.mg "range" = none) (hgl : Gl X "list") (hml : X.mg "list" = none) (ha : PA X [a] ta) (hs : starEach [a] X.env = [(false, eval a X.env)])
 (hs' : starEach [.Call (.Name "range" p) [a] [] pos] X.env = [(false, eval (.Call (.Name "range" p) [a] [] pos) X.env)]) : PE X (.Call (.Name "list" p') [.Call (.Name "range" p) [a] [] pos] [] pos') (tLR ta) := by
 intro pins s σ H Q I h
 refine Call_ (XD I hgl hml Bt.list (PyProof.Rows.callWith_type1 (thn ((VB (zfT hg hm ha hs) zdc hs') pos' pins s σ H (λ vs H2 => ∃ r H1, ∃ j : Int, vs = [.ref r] /\ H1 r = none /\ H2 = upd H1 r (.rng 0 j) /\ 0 <= j /\ j <= 100000 /\ ∀ l, H2 l = none -> Q (.ref l) (upd H2 l (.lst ((List.range j.toNat).map λ (i : Nat) => V.int i)))) I ?_) λ us s1 ⟨vs, H2, I2, r1, q1⟩ => ?_) hs' rfl))
 · exact h
 obtain ⟨r, H1, j, rfl, hn, rfl, h0, h1, q⟩ := q1
 cases r1 with
 | cons rr rs =>
  cases rs
  cases rr
  obtain ⟨t, u, v, ho⟩ := I2.hok r _ (yc ..)
  have hsz : Builtin.Range.rangeSize 0 j 1 = (j.toNat : Nat) := by rw [rangeSize_one]; split <;> omega
  refine call_list_range (I2.ok.hd hc) ho (small_one (by omega) (by omega) (by omega) (by omega)) (n := j.toNat) (by exact_mod_cast hsz) (by omega) λ h' tk acc c' hk hob hit => ?_
  refine ⟨.ref s1.heap.objs.size, _, I2.laid hk (zzK _) (show wG X.prog X.w _ _ _ (.lst ((List.range j.toNat).map λ (i : Nat) => V.int i)) from ⟨?_, acc.toList, c', ?_, by simpa using hob⟩), rfl, q _ (I2.hok.fresh (zzK _))⟩
  · rw [zD, List.length_range]; exact zzL (show j.toNat <= 100000 by omega) (by decide)
  · refine WL (by rw [zD, List.length_range]; simpa using hit.1.symm) λ i x y hx hy => ?_
    rw [zzF] at hx
    obtain ⟨tk', e⟩ := hit.2 i y (by simpa using hy)
    cases hr : (List.range j.toNat)[i]? with
    | none => rw [hr] at hx; cases hx
    | some k =>
     rw [hr] at hx
     obtain ⟨_, hk'⟩ := zzD.mp hr
     rw [List.getElem_range] at hk'
     subst hk'
     cases hx
     exact ⟨tk', by rw [e]; simp⟩
end
section
variable {X : Cx} {kd : KD}
def lrP : List D -> Option R0
 | [.int j] => if 0 <= j /\ j <= 100000 then some (.fl ((List.range j.toNat).map λ (i : Nat) => .int i)) else none
 | _ => none
theorem zfo {K : zC} {O : Addr -> Prop} {H : Hp} : ∀ l : List Nat, RpL K kd O H (l.map λ (i : Nat) => V.int i) (l.map λ (i : Nat) => D.int i)
 | [] => .nil
 | y :: r => .cons (.int y) (zfo r)
theorem ziW {a : Expr} {fr : AF} {p p' pos pos' : Pos} (hc : X.calm = true) (hg : Gl X "range") (hm : X.mg "range" = none) (hgl : Gl X "list") (hml : X.mg "list" = none) (ha : AA X kd [a] fr) (hs : starEach [a] X.env = [(false, eval a X.env)])
 (hs' : starEach [.Call (.Name "range" p) [a] [] pos] X.env = [(false, eval (.Call (.Name "range" p) [a] [] pos) X.env)]) : AE X kd (.Call (.Name "list" p') [.Call (.Name "range" p) [a] [] pos] [] pos') (fP fr lrP) := by
 with_unfolding_all exact (yK (zjJ hc hg hm hgl hml ha hs hs') λ σ H Q h => by
  obtain ⟨F, B, ad, as, r, as', R, e, q⟩ := h
  obtain ⟨⟨rs, as1⟩, h1, e⟩ := bS_ (show (fr as).bind _ = _ from e)
  obtain ⟨⟨ds, lv⟩, h2, e⟩ := bS_ e
  obtain ⟨r0, h3, e⟩ := bS_ e
  obtain ⟨z, h4, e⟩ := bS_ e
  cases e
  match ds, h3, h2 with
  | [.int j], h3, h2 =>
   obtain ⟨⟨b1, b2⟩, e3⟩ := zM (show (if 0 <= j /\ j <= 100000 then some (R0.fl ((List.range j.toNat).map λ (i : Nat) => .int i)) else none) = some r0 from h3)
   cases e3
   refine (show alA X.K kd fr σ H _ from ⟨F, B, ad, as, rs, as1, R, h1, λ vs ad1 H1 R1 rv1 g1 => ?_⟩)
   have vl := XS R1 rv1 h2
   have rq := Z1 R1 h4 (Q := Q) λ w T' H' R' rv' g' => q w T' ad1 H' R' rv' (g1.trans g')
   cases vl with
   | cons v1 v2 =>
    cases v2
    cases v1
    refine ⟨j, rfl, by omega, by omega, λ r hr => ⟨r, H1, j, rfl, hr, rfl, b1, b2, λ l hl => ?_⟩⟩
    have hlr : l ≠ r := λ e => by rw [e, yc] at hl; cases hl
    have hl1 : H1 l = none := by rw [zO hlr] at hl; exact hl
    exact rq l _ _ hl1 (λ b o q => v6 hl b o (v6 hr b o q)) yc (zfo _))
end
def zbF (n : Nat) (os : List O) : AS := os.map some ++ List.replicate (n - os.length) none
theorem ziP {L : Bool -> V -> D -> Prop} {N : Addr -> Prop} {H : Hp} : ∀ (ls : List O) {vs : List V} {fp : List Addr}, ls.all O.isLf = true -> RoL L N H vs ls fp -> fp = []
 | [], _, _, _, r => by cases r; rfl
 | o :: ls, _, _, h, r => by
  rw [List.all_cons, Bool.and_eq_true] at h
  cases r with
  | cons a r =>
   cases a with
   | lf _ => rw [ziP ls h.2 r]; rfl
   | _ => exact absurd h.1 (by simp [O.isLf])
theorem ziR {L : Bool -> V -> D -> Prop} {N : Addr -> Prop} {H : Hp} {vs : List V} {ls : List O} {fp : List Addr} (h : RoL L N H vs ls fp) : vs.length = ls.length := RoL.length h
theorem zin {L : Bool -> V -> D -> Prop} {N : Addr -> Prop} {H : Hp} : ∀ (ls : List O) {vs : List V} {fp : List Addr} {i : Nat} {o : O}, ls.all O.isLf = true -> RoL L N H vs ls fp -> ls[i]? = some o -> ∃ v, vs[i]? = some v /\ Ro L N H v o []
 | [], _, _, _, _, _, _, e => by simp at e
 | o' :: ls, _, _, i, o, h, r, e => by
  rw [List.all_cons, Bool.and_eq_true] at h
  cases r with
  | cons a r =>
   cases i with
   | zero =>
    simp at e
    subst e
    cases a with
    | lf z => exact ⟨_, rfl, .lf z⟩
    | _ => exact absurd h.1 (by simp [O.isLf])
   | succ i =>
    obtain ⟨v, h1, h2⟩ := zin ls (i := i) h.2 r (by simpa using e)
    exact ⟨v, by simpa using h1, h2⟩
theorem zhK {K : zC} {kd : KD} {F : Addr -> Prop} {T : List Addr} {H : Hp} {N : List Str} {vs : List V} {o : O} {ls : List O} (ht : ∀ a, F a -> H a ≠ none) (hn : T.Nodup) (hT : ∀ a ∈ T, H a ≠ none /\ ¬ F a) (hl : ls.all O.isLf = true) (hN : (o :: ls).length <= N.length) (ro : Zb K kd F (λ _ => False) (· ∈ T) H vs (o :: ls) T) :
 Rel K kd F (λ _ => False) [] (λ i => if i = 0 then T else []) (zbF N.length (o :: ls)) (L2.start N vs) H := by
 have hlen := ziR ro
 have gw : ∀ a, Gw [] (λ i => if i = 0 then T else []) a ↔ a ∈ T := λ a => ⟨λ z => z.elim (λ y => nomatch y) λ ⟨i, y⟩ => by
  by_cases e : i = 0
  · subst e; simpa using y
  · simp [e] at y, λ z => .inr ⟨0, by simpa using z⟩⟩
 have lv : ∀ st a, Lv F (λ _ => False) (Gw [] (λ i => if i = 0 then T else [])) st a -> Lv F (λ _ => False) (· ∈ T) st a := λ st a z => z.imp id (gw a).mp
 refine ⟨by unfold zbF L2.start; simp [hlen]; omega, λ i hi => ?_, λ i => ?_, λ i j a x y => ?_, List.nodup_nil, (λ _ _ _ z => nomatch z), ht, (λ _ z => z.elim), λ a z => hT a ((gw a).mp z), λ i s e => ?_⟩
 · have : i ≠ 0 := λ z => by subst z; unfold zbF at hi; simp at hi
   simp [this]
 · by_cases e : i = 0
   · subst e; simpa using hn
   · simp [e]
 · have h1 : i = 0 := by
    by_cases e : i = 0
    · exact e
    · simp [e] at x
   have h2 : j = 0 := by
    by_cases e : j = 0
    · exact e
    · simp [e] at y
   rw [h1, h2]
 · unfold zbF at e
   unfold L2.start
   by_cases hi : i < (o :: ls).length
   · rw [List.getElem?_append_left (by rw [zD]; exact hi), zzF] at e
     obtain ⟨d, hd, ea⟩ := zzU.mp e
     subst ea
     rw [List.getElem?_append_left (by rw [zD, hlen]; exact hi), zzF]
     cases ro with
     | cons a r =>
      rename_i v vs' fp fq
      have e0 : fq = [] := ziP ls hl r
      subst e0
      cases i with
      | zero =>
       simp at hd
       subst hd
       exact ⟨v, rfl, by simpa using RoS.lv lv a⟩
      | succ i =>
       obtain ⟨w, h1, h2⟩ := zin ls hl r (show ls[i]? = some d by simpa using hd)
       exact ⟨w, by simp [h1], by simpa using RoS.lv lv h2⟩
   · rw [List.getElem?_append_right (by rw [zD]; omega)] at e
     have := List.mem_of_getElem? e
     have ea : s = none := (List.mem_replicate.mp this).2
     subst ea
     have hi0 : i ≠ 0 := λ z => by subst z; exact hi (by simp)
     show (if i = 0 then T else []) = []
     rw [if_neg hi0]
def zdT (i : Nat) (f : SF) : SF := λ as => match as[i]? with
 | some (some o) => f (as.set i (some o.frz))
 | _ => none
theorem zlp {K : zC} {kd : KD} {F B : Addr -> Prop} {ad : Ad} {i : Nat} {H : Hp} {D : Ends} : ∀ {o : Out}, zeh K kd F B ad H D o -> zeh K kd F B (YF ad i []) H D o
 | .nx _, q => λ σ' ad' H' R g => q σ' ad' H' R ((Grow.less xg).trans g)
 | .ct _, q => λ σ' ad' H' R g => q σ' ad' H' R ((Grow.less xg).trans g)
 | .bk _, q => λ σ' ad' H' R g => q σ' ad' H' R ((Grow.less xg).trans g)
 | .rt _, q => λ v T H' ro g => q v T H' ro ((Grow.less xg).trans g)
theorem zfg {X : Cx} {kd : KD} {i : Nat} {body : List Stmt} {f : SF} (h : ASs X kd body f) : ASs X kd body (zdT i f) := by
 with_unfolding_all exact (zcG h λ D σ H h => by
  obtain ⟨F, B, ad, as, o, R, e, q⟩ := h
  unfold zdT at e
  cases k : as[i]? with
  | none => rw [k] at e; cases e
  | some s =>
   rw [k] at e
   cases s with
   | none => cases e
   | some oo =>
    exact ⟨F, B, YF ad i [], _, o, (R.frz k).1, e, zlp q⟩)
section
variable {K : zC} {kd : KD} {F B G : Addr -> Prop} {H : Hp}
theorem zaV {p : Addr} {u : HO} (hp : G p) : Grow G H G (upd H p u) := ⟨λ b w h n => by rw [zO (λ e => n (by subst e; exact hp))]; exact h, λ b z => .inl z⟩
theorem ziv : ∀ (os : List O) {vs : List V} {fp : List Addr} {n : Nat} {o : O}, Zb K kd F B G H vs os fp -> fp.Nodup -> (∀ a ∈ fp, G a) -> os[n]? = some o ->
 ∃ v f, vs[n]? = some v /\ RoS K kd F B G H v o f /\ f.Nodup /\ (∀ a ∈ f, a ∈ fp) /\ ∀ (p : Addr) (u : HO) (o' : O), p ∈ f -> RoS K kd F B G (upd H p u) v o' f -> Zb K kd F B G (upd H p u) vs (os.set n o') fp
 | [], _, _, _, _, _, _, _, e => by simp at e
 | o1 :: os, _, _, n, o, r, hn, hG, e => by
  cases r with
  | cons a r =>
   rename_i v vs fp fq
   obtain ⟨n1, n2, n3⟩ := List.nodup_append.mp hn
   cases n with
   | zero =>
    simp at e
    subst e
    exact ⟨v, fp, rfl, a, n1, λ x m => zzM _ m, λ p u o' hp ro => .cons ro (Zb.grow (zaV (hG p (zzM _ hp))) (λ x m w h => by rw [zO (λ e => n3 p hp x m e.symm)]; exact h) r)⟩
   | succ n =>
    obtain ⟨v', f, h1, h2, h3, h4, h5⟩ := ziv os (n := n) (o := o) r n2 (λ x m => hG x (zzI _ m)) (by simpa using e)
    exact ⟨v', f, by simpa using h1, h2, h3, λ x m => zzI _ (h4 x m), λ p u o' hp ro => .cons (RoS.grow (zaV (hG p (zzI _ (h4 p hp)))) (λ x m w h => by rw [zO (λ e => n3 x m p (h4 p hp) e)]; exact h) a) (h5 p u o' hp ro)⟩
theorem zed {L : Bool -> V -> D -> Prop} {N : Addr -> Prop} {v : V} {st' : Bool} {d' : D} (h : L st' v d') : ∀ (os : List O) {vs : List V} {fp : List Addr} {n : Nat} {st : Bool} {d : D}, RoL L N H vs os fp -> os[n]? = some (.lf st d) -> RoL L N H (vs.set n v) (os.set n (.lf st' d')) fp
 | [], _, _, _, _, _, _, e => by simp at e
 | o1 :: os, _, _, n, st, d, r, e => by
  cases r with
  | cons a r =>
   cases n with
   | zero =>
    simp at e
    subst e
    cases a with
    | lf _ => exact .cons (.lf h) r
   | succ n => exact .cons a (zed h os (n := n) (st := st) (d := d) r (by simpa using e))
theorem zmE {v : V} {inner : List O} {fp : List Addr} {n : Nat} {st : Bool} {d : D} (c : Int) (r : RoS K kd F B G H v (.nd .ls inner) fp) (hn : fp.Nodup) (hG : ∀ a ∈ fp, G a) (e : inner[n]? = some (.lf st d)) :
 ∃ p ivs, v = .ref p /\ p ∈ fp /\ H p = some (.lst ivs) /\ n < ivs.length /\ RoS K kd F B G (upd H p (.lst (ivs.set n (.int c)))) v (.nd .ls (inner.set n (.lf true (.int c)))) fp := by
 cases r with
 | ls hp ir =>
  rename_i p ivs ifp
  have hpfp : p ∉ ifp := (zzT.mp hn).1
  refine ⟨p, ivs, rfl, zzC .., hp, by rw [ziR ir]; exact (zzD.mp e).1, .ls yc (zed (.int c) inner (Zb.grow (zaV (hG p (zzC ..))) (λ x m w h => by rw [zO (λ e => hpfp (by subst e; exact m))]; exact h) ir) e)⟩
theorem zoh {v : V} {os : List O} {fp : List Addr} {n : Nat} {o : O} (r : RoS K kd F B G H v (.nd .ls os) fp) (hn : fp.Nodup) (hG : ∀ a ∈ fp, G a) (e : os[n]? = some o) :
 ∃ l vs w f, v = .ref l /\ H l = some (.lst vs) /\ vs[n]? = some w /\ RoS K kd F B G H w o f /\ f.Nodup /\ (∀ a ∈ f, a ∈ fp) /\ ∀ (p : Addr) (u : HO) (o' : O), p ∈ f -> RoS K kd F B G (upd H p u) w o' f -> RoS K kd F B G (upd H p u) v (.nd .ls (os.set n o')) fp := by
 cases r with
 | ls hp ir =>
  rename_i l vs ifp
  obtain ⟨w, f, h1, h2, h3, h4, h5⟩ := ziv os ir (zzT.mp hn).2 (λ a m => hG a (zzA _ m)) e
  exact ⟨l, vs, w, f, rfl, hp, h1, h2, h3, λ a m => zzA _ (h4 a m), λ p u o' hpf ro => .ls (by rw [zO (λ e => (zzT.mp hn).1 (by rw [e]; exact h4 p hpf))]; exact hp) (h5 p u o' hpf ro)⟩
end
section
variable {K : zC} {kd : KD} {F B : Addr -> Prop} {ad : Ad} {as : AS} {σ : St} {H : Hp} {i : Nat} {o : O}
theorem Rel.slotU (R : Rel K kd F B [] ad as σ H) (k : as[i]? = some (some o)) :
 ∃ v, σ[i]? = some (some v) /\ RoS K kd F B (Gw [] ad) H v o (ad i) /\ (ad i).Nodup /\ (∀ a ∈ ad i, Gw [] ad a) /\
  ∀ (p : Addr) (u : HO) (o' : O), p ∈ ad i -> RoS K kd F B (Gw [] ad) (upd H p u) v o' (ad i) -> Rel K kd F B [] ad (as.set i (some o')) σ (upd H p u) /\ Grow (Gw [] ad) H (Gw [] ad) (upd H p u) := by
 obtain ⟨v, hv, ro⟩ := R.sl i _ k
 have hi : i < as.length := (zzD.mp k).1
 refine ⟨v, hv, ro, R.nd i, λ a m => .inr ⟨i, m⟩, λ p u o' hp ro' => ?_⟩
 have g : Grow (Gw [] ad) H (Gw [] ad) (upd H p u) := zaV (.inr ⟨i, hp⟩)
 have kn : ∀ a, H a ≠ none -> upd H p u a ≠ none := λ a z => by
  by_cases e : a = p
  · subst e; rw [yc]; simp
  · rw [zO e]; exact z
 refine ⟨⟨by rw [zzR]; exact R.len, λ j hj => R.out j (by rw [zzR] at hj; exact hj), R.nd, R.inj, R.tnd, R.dis, λ a z => kn a (R.ftr a z), λ a z => ⟨kn a (R.btr a z).1, (R.btr a z).2⟩, λ a z => ⟨kn a (R.gtr a z).1, (R.gtr a z).2⟩, λ j s e => ?_⟩, g⟩
 by_cases q : j = i
 · subst q
   rw [List.getElem?_set_self hi] at e
   cases e
   exact ⟨v, hv, ro'⟩
 · rw [zzV (Ne.symm q)] at e
   exact (R.sl j s e).grow g λ a m u h => by rw [zO (λ e => q (R.inj j i a m (by rw [e]; exact hp)))]; exact h
end
abbrev IXF := AS -> Option Int
def tSt (K : zC) (kd : KD) (f : IXF) : TE := λ σ H Q => ∃ F B ad as k, Rel K kd F B [] ad as σ H /\ f as = some k /\ Q (.int k) H
@[irreducible] def AK (X : Cx) (kd : KD) (e : Expr) (f : IXF) : Prop := PE X e (tSt X.K kd f)
def zhi : O -> Option (List O)
 | .nd .ls os => some os
 | _ => none
def zdE : O -> Option D
 | .lf _ d => some d
 | _ => none
def atO {α : Type} (f : O -> Option α) (os : List O) (k : Nat) : Option α := os[k]?.bind f
def slO {α : Type} (f : O -> Option α) (as : AS) (i : Nat) : Option α := as[i]?.bind λ s => s.bind f
theorem ziq {o : O} {os : List O} (h : zhi o = some os) : o = .nd .ls os := by
 cases o with
 | lf s d => cases h
 | nd k os => cases k <;> cases h; rfl
theorem zic {o : O} {d : D} (h : zdE o = some d) : ∃ st, o = .lf st d := by
 cases o with
 | lf s d => cases h; exact ⟨s, rfl⟩
 | nd k os => cases h
theorem zlo {α : Type} {f : O -> Option α} {os : List O} {k : Nat} {a : α} (h : atO f os k = some a) : ∃ o, os[k]? = some o /\ f o = some a := bS_ h
theorem zlV {α : Type} {f : O -> Option α} {as : AS} {k : Nat} {a : α} (h : slO f as k = some a) : ∃ o, as[k]? = some (some o) /\ f o = some a := by
 obtain ⟨s, h1, h⟩ := bS_ h
 obtain ⟨o, rfl, h⟩ := bS_ h
 exact ⟨o, h1, h⟩
theorem zrF {os inner : List O} {k : Nat} (h : atO zhi os k = some inner) : os[k]? = some (.nd .ls inner) := by
 obtain ⟨o, h1, h⟩ := zlo h
 cases ziq h
 exact h1
theorem zrR {os : List O} {d : D} {k : Nat} (h : atO zdE os k = some d) : ∃ st, os[k]? = some (.lf st d) := by
 obtain ⟨o, h1, h⟩ := zlo h
 obtain ⟨st, rfl⟩ := zic h
 exact ⟨st, h1⟩
theorem zsb {as : AS} {inner : List O} {k : Nat} (h : slO zhi as k = some inner) : as[k]? = some (some (.nd .ls inner)) := by
 obtain ⟨o, h1, h⟩ := zlV h
 cases ziq h
 exact h1
theorem zqJ {as : AS} {d : D} {k : Nat} (h : slO zdE as k = some d) : ∃ st, as[k]? = some (some (.lf st d)) := by
 obtain ⟨o, h1, h⟩ := zlV h
 obtain ⟨st, rfl⟩ := zic h
 exact ⟨st, h1⟩
theorem zij {α : Type} {f : O -> Option α} {os : List O} {k : Nat} {o : O} {a : α} (h : os[k]? = some o) (e : f o = some a) : atO f os k = some a := by unfold atO; rw [h]; exact e
theorem zhQ {α : Type} {f : O -> Option α} {as : AS} {k : Nat} {o : O} {a : α} (h : as[k]? = some (some o)) (e : f o = some a) : slO f as k = some a := by unfold slO; rw [h]; exact e
def xV (i : Nat) : IXF := λ as => (slO zdE as i).bind asI
def xAt (i : Nat) (f : IXF) : IXF := λ as => (f as).bind λ k => if 0 <= k then (slO zdE as i).bind λ d => (asL d).bind λ ds => ds[k.toNat]?.bind asI else none
section
variable {X : Cx} {kd : KD} {f g : IXF} {a b : Expr}
theorem zbs {i : Nat} {x : Str} {p : Pos} (hv : PE X (.Name x p) (zfa i)) : AK X kd (.Name x p) (xV i) := by
 with_unfolding_all exact (yK hv λ σ H Q h => by
  obtain ⟨F, B, ad, as, k, R, e, q⟩ := h
  obtain ⟨d, e1, e⟩ := bS_ (show (slO zdE as i).bind _ = _ from e)
  cases zfB e
  obtain ⟨st, k1⟩ := zqJ e1
  obtain ⟨v, hv, ro⟩ := R.sl i _ k1
  generalize ad i = fp at ro
  cases ro with
  | lf rp => cases rp; exact ⟨_, hv, q⟩)
theorem zfK {i : Nat} {x : Str} {p pos : Pos} (hv : PE X (.Name x p) (zfa i)) (hb : AK X kd b f) (hs : zaL b) : AK X kd (.Subscript (.Name x p) b pos) (xAt i f) := by
 with_unfolding_all exact (yK (zjQ zfi hv hb hs) λ σ H Q h => by
  obtain ⟨F, B, ad, as, c, R, e, q⟩ := h
  obtain ⟨k, h1, e⟩ := bS_ (show (f as).bind _ = _ from e)
  obtain ⟨hk, e⟩ := ite_some' e
  obtain ⟨d0, e1, e3⟩ := bS_ e
  obtain ⟨ds, e2, e4⟩ := bS_ e3
  obtain ⟨d, k2, e5⟩ := bS_ e4
  cases zdn e2
  cases zfB e5
  obtain ⟨st, k1⟩ := zqJ e1
  obtain ⟨v, hv, ro⟩ := R.sl i _ k1
  generalize ad i = fp at ro
  cases ro with
  | lf rp =>
   obtain ⟨l, vs, rfl, hq, rl⟩ := zns (ad := ad) (q := st) rp (λ z => z)
   obtain ⟨w, hw, rw'⟩ := rl.get k2
   cases rw'
   refine ⟨_, hv, F, B, ad, as, k, R, h1, l, vs, k, _, rfl, rfl, hq ad H Grow.refl, ?_, q⟩
   have := Xy hw
   rw [Int.toNat_of_nonneg hk] at this
   exact this)
end
def VV (i : Nat) (f1 f2 fv : IXF) : SF := λ as => (f1 as).bind λ k1 => (f2 as).bind λ k2 => (fv as).bind λ c => if 0 <= k1 /\ 0 <= k2 then (slO zhi as i).bind λ os => (atO zhi os k1.toNat).bind λ inner => (atO zdE inner k2.toNat).bind λ _ => some (.nx (as.set i (some (.nd .ls (os.set k1.toNat (.nd .ls (inner.set k2.toNat (.lf true (.int c))))))))) else none
theorem znD {n j : Nat} (h : j < n) : ixN n (j : Int) = some j := by
 unfold ixN
 rw [if_pos (by omega), if_pos (by omega)]; simp
theorem znE {n : Nat} {k : Int} (h0 : 0 <= k) (h : k.toNat < n) : ixN n k = some k.toNat := by
 have := znD h
 rw [show ((k.toNat : Nat) : Int) = k by omega] at this
 exact this
theorem znm {α : Type} {xs : List α} {k : Int} {v : α} (h0 : 0 <= k) (h : xs[k.toNat]? = some v) : atI xs k = some v := by
 have := Xy h
 rw [show ((k.toNat : Nat) : Int) = k by omega] at this
 exact this
section
variable {X : Cx} {kd : KD} {f f1 f2 f3 fv : IXF} {e1 e2 e3 ev : Expr} {i y : Nat}
theorem zhV {x : Str} {p p1 tpos pos : Pos} (ho : PE X (.Name x p) (zfa i)) (h1 : AK X kd e1 f1) (hp1 : zaL e1) (h2 : AK X kd e2 f2) (hv : AK X kd ev fv)
 (ha : ∀ v, assign (.Subscript (.Subscript (.Name x p) e1 p1) e2 tpos) X.env v = (do
  let ov <- holding [v] (eval (.Subscript (.Name x p) e1 p1) X.env)
  let iv <- holding [v, ov] (eval e2 X.env)
  standAt tpos
  holding [v, ov, iv] (setItem ov iv v)
  release [v, ov, iv] []))
 (hs : swapsWithSole [.Subscript (.Subscript (.Name x p) e1 p1) e2 tpos] ev pos.line X.env = pure false) (hw : swappedStores [.Subscript (.Subscript (.Name x p) e1 p1) e2 tpos] ev X.env = pure none)
 (hm : (assignEach [.Subscript (.Subscript (.Name x p) e1 p1) e2 tpos] X.env).map (·.2) = [assign (.Subscript (.Subscript (.Name x p) e1 p1) e2 tpos) X.env]) :
 ASt X kd (.Assign [.Subscript (.Subscript (.Name x p) e1 p1) e2 tpos] ev pos) (VV i f1 f2 fv) := by
 with_unfolding_all exact (ZJ (zjR hv (zpT (zjQ zfi ho h1 hp1) h2 set_list ha) hs hw hm) λ D σ H h => by
  obtain ⟨F, B, ad, as, o, R, e, q⟩ := h
  obtain ⟨n1, j1, e⟩ := bS_ (show (f1 as).bind _ = _ from e)
  obtain ⟨n2, j2, e⟩ := bS_ e
  obtain ⟨c, j3, e⟩ := bS_ e
  obtain ⟨⟨hk1, hk2⟩, e⟩ := ite_some' e
  obtain ⟨os, e1, e⟩ := bS_ e
  obtain ⟨inner, e2, e⟩ := bS_ e
  obtain ⟨d, e3, e⟩ := bS_ e
  have k1 := zsb e1
  have k2 := zrF e2
  obtain ⟨st, k3⟩ := zrR e3
  cases e
  obtain ⟨v, sv, ro, hn, hG, up⟩ := R.slotU k1
  obtain ⟨l, vs, w, fw, rfl, hH, hvs, rw1, fn, fs, up1⟩ := zoh ro hn hG k2
  obtain ⟨p, ivs, rfl, hp, hHp, hl, ro'⟩ := zmE c rw1 fn (λ a m => hG a (fs a m)) k3
  obtain ⟨R2, g2⟩ := up p _ _ (fs p hp) (up1 p _ _ hp ro')
  exact ⟨F, B, ad, as, c, R, j3, _, sv, F, B, ad, as, n1, R, j1, l, vs, n1, _, rfl, rfl, .inl (.inl hH), znm hk1 hvs, F, B, ad, as, n2, R, j2, p, ivs, n2, n2.toNat, rfl, rfl, hHp, znE hk2 hl, q σ ad _ R2 g2⟩)
end
theorem zfz : typeLookup (.type "list") "keys" = pure none := am_miss_of_fast (by decide +kernel)
theorem zhp {prog : Program} {w : World} {A : Around} {E : Value -> Shared -> Prop} {s : Shared} {a : Addr} {o : Obj} {xs : Array Value} {k : Nat} {Q : Option Value -> Shared -> Prop}
 (hx : s.heap.get? a = some o) (hc : o.cls = .type "list") (hdat : o.data = .seq xs k) (hd : o.dict = none) (hA : A.handled = none)
 (h : ∀ h' tk, (∀ b o, s.heap.get? b = some o -> h'.get? b = some o) -> Q none { s with heap := h', toks := tk }) :
 wpAny (model prog w) A (getAttr? (.ref a) "keys") Q E s := by
 obtain ⟨c, dct, dat, sl⟩ := o
 simp only at hc hdat hd
 subst hc hdat hd
 obtain ⟨hp, g, d, tk, os⟩ := s
 have hT : ∀ tk', (⟨hp, g, d, tk', os⟩ : Shared).TypeIs (.ref a) "list" := λ _ => ⟨_, hx, rfl⟩
 have f1 := sub_AttributeError
 have f3 := F.slot_list_getattribute.lookup
 have f4 := F.slot_list_getattribute.bind (.ref a)
 have f5 := am_list_getattr_none
 unfold getAttr? getAttrBy? getAttrBy
 repeat (any_goals (first | assumption | exact hT _ | ((with_reducible show wpAny _ _ (call (Value.builtin "list.__getattribute__") _ _) _ _ _); refine call_meets F.slot_list_getattribute (hT _) am_entry_list_getattribute (F.args_list_getattribute_2 _ _) (meets_getattribute_miss_list a xs k sl "keys" _ zfz (by decide +kernel)) ⟨hx, hA, λ h' tk' e hx' => ?_⟩) | wp_step))
 obtain ⟨t', u', he⟩ := hx'.there
 show wpAny _ _ (getattributeRaised _ _ _ _ _ _ _) _ _ _
 unfold getattributeRaised
 repeat (any_goals (first | assumption | wp_step))
 exact h _ _ hx'.keeps
theorem v8 : plainId "dict.update.loop" = true := by decide +kernel
theorem WR : entryFor table "dict.update.loop" = some Builtin.«dict.update.loop» := entryFor_of_fast (by kernel_rfl)
section
variable {prog : Program} {w : World} {κ : Type} [DecidableEq κ] {knd : KeyKind prog w κ} {A : Around} {R : Result -> Shared -> Prop} {d I l : Addr} {items : Array Value} {N : Nat}
def putAll (kvs : List (κ × Value)) : List (κ × Value) -> List (κ × Value)
 | [] => kvs
 | p :: r => putAll (stored kvs p.1 p.2) r
theorem zhq (kvs : List (κ × Value)) (k : κ) (v : Value) : (stored kvs k v).length <= kvs.length + 1 := by
 unfold stored
 split
 · rw [zD]; omega
 · rw [zzG]; exact zzK _
theorem zkO (hh : A.handled = none) (hdN : N <= d) (hIN : N <= I) (hdI : d ≠ I) (hlN : l < N) : ∀ (rest : List (κ × Value)) (i : Nat) (s : Shared) (kvs : List (κ × Value)), s.heap.IsListIter I l i -> s.heap.IsList l items -> s.heap.DictOf knd d kvs -> kvs.length + rest.length <= sizeLine ->
 (∀ j p, rest[j]? = some p -> ∃ q key, items[i + j]? = some (.ref q) /\ q < N /\ IsTup s.heap q #[key, p.2] /\ knd.is p.1 key = true) -> items[i + rest.length]? = none ->
 (∀ h' tk, h'.DictOf knd d (putAll kvs rest) -> (∀ b o, b < N -> s.heap.get? b = some o -> h'.get? b = some o) -> R (.ok (.ret .none)) { s with heap := h', toks := tk }) ->
 codeAny (model prog w) A (.builtin "dict.update.loop" ⟨[.ref d, .ref I, rawInt i, .none], []⟩) R s := by
 intro rest
 induction rest with
 | nil =>
  intro i s kvs hit hl hm hz hp he hR
  refine codeAny_builtin WR ?_
  rw [Around.under_plainId v8 _]
  show wpAny _ A.in1 (pyNext (.ref I) >>= _) _ _ s
  refine wpAny_bind (wpAny_pyNext_list_end hh hit hl he λ h' hx => ?_)
  show wpAny _ _ (Builtin.Dict.addKeywords d [] >>= _) _ _ _
  refine wpAny_bind (wpAny_pure (wpAny_pure ?_))
  obtain ⟨o, es, ep, ho, r⟩ := hm
  exact hR h' s.toks ⟨o, es, ep, hx d o hdI ho, r⟩ λ b o hb e => hx b o (zzN (zzH hb hIN)) e
 | cons p rest ih =>
  intro i s kvs hit hl hm hz hp he hR
  obtain ⟨q, key, hq, hqN, ht, hkey⟩ := hp 0 p rfl
  refine codeAny_builtin WR ?_
  rw [Around.under_plainId v8 _]
  show wpAny _ A.in1 (pyNext (.ref I) >>= _) _ _ s
  refine wpAny_bind (wpAny_pyNext_list_item hit hl hq λ h' hit' hs => ?_)
  have sm : ∀ b o, b ≠ I -> s.heap.get? b = some o -> h'.get? b = some o := λ b o hb e => (hs.2 b hb).trans e
  obtain ⟨oq, hoq, hcq, nq, hdq⟩ := ht
  have hoq' := sm q oq (zzN (zzH hqN hIN)) hoq
  have hm' : h'.DictOf knd d kvs := let ⟨o, es, ep, ho, r⟩ := hm; ⟨o, es, ep, sm d o hdI ho, r⟩
  have hl' : h'.IsList l items := let ⟨o, ho, r⟩ := hl; ⟨o, sm l o (zzN (zzH hlN hIN)) ho, r⟩
  have hT : ({ s with heap := h' } : Shared).TypeIs (.ref q) "tuple" := ⟨oq, hoq', hcq⟩
  show wpAny _ _ (holding [.ref q] _ >>= _) _ _ _
  refine wpAny_bind (wpAny_holding (wpAny_bind (wpAny_tryCatch ?_)))
  unfold Builtin.Dict.pairItems
  refine wpAny_bind (wpAny_typeOf hT ?_)
  show wpAny _ _ (if (Value.type "tuple" == Value.type "list" || Value.type "tuple" == Value.type "tuple") = true then _ else _) _ _ _
  rw [if_pos (by decide)]
  refine wpAny_bind (wpAny_seqItems hoq' hdq (wpAny_pure ?_))
  show wpAny _ _ (holding [key, p.2] (dictSet d key p.2)) _ _ _
  refine wpAny_holding (wpAny_dictSet_pairs (hsz := by simp only [zzQ] at hz; omega) hkey hm' λ h'' hm'' hs'' => ?_)
  have sm2 : ∀ b o, b ≠ d -> h'.get? b = some o -> h''.get? b = some o := λ b o hb e => (hs''.2 b hb).trans e
  refine wpAny_pure ⟨plainId_quiet v8 _, ?_⟩
  have hit'' : h''.IsListIter I l (i + 1) := let ⟨o, ho, r⟩ := hit'; ⟨o, sm2 I o (Ne.symm hdI) ho, r⟩
  have hl'' : h''.IsList l items := let ⟨o, ho, r⟩ := hl'; ⟨o, sm2 l o (zzN (zzH hlN hdN)) ho, r⟩
  have keep : ∀ b o, b < N -> s.heap.get? b = some o -> h''.get? b = some o := λ b o hb e => sm2 b o (zzN (zzH hb hdN)) (sm b o (zzN (zzH hb hIN)) e)
  have := ih (i + 1) { s with heap := h'', toks := s.toks + 1 } (stored kvs p.1 p.2) hit'' hl'' hm'' (by have := zhq kvs p.1 p.2; simp only [zzQ] at hz; omega)
   (λ j p' hj => by
    obtain ⟨q', key', a1, a2, ⟨o', a3, a4⟩, a5⟩ := hp (j + 1) p' (by simpa using hj)
    exact ⟨q', key', by rw [show i + 1 + j = i + (j + 1) by omega]; exact a1, a2, ⟨o', keep q' o' a2 a3, a4⟩, a5⟩)
   (by rw [show i + 1 + rest.length = i + (p :: rest).length by simp only [zzQ]; omega]; exact he)
   (λ h3 tk hm3 k3 => hR h3 tk hm3 λ b o hb e => k3 b o hb (keep b o hb e))
  exact this
end
theorem zdB {prog : Program} {w : World} {κ : Type} [DecidableEq κ] {knd : KeyKind prog w κ} {A : Around} {E : Value -> Shared -> Prop} {s : Shared} {l : Addr} {o : Obj} {items : Array Value} {n : Nat} {ps : List (κ × Value)} {Q : Value -> Shared -> Prop} (hh : A.handled = none)
 (ho : s.heap.get? l = some o) (hc : o.cls = .type "list") (hd : o.data = .seq items n) (hn : o.dict = none) (hsz : ps.length <= sizeLine)
 (hp : ∀ (j : Nat) (p : κ × Value), ps[j]? = some p -> ∃ (q : Addr) (key : Value), items[j]? = some (Value.ref q) /\ IsTup s.heap q #[key, p.2] /\ knd.is p.1 key = true) (he : items[ps.length]? = none)
 (h : ∀ h' tk, h'.DictOf knd s.heap.objs.size (putAll [] ps) -> (∀ b o, s.heap.get? b = some o -> h'.get? b = some o) -> Q (.ref s.heap.objs.size) { s with heap := h', toks := tk }) : wpAny (model prog w) A (call (.type "dict") [.ref l]) Q E s := by
 refine callType_codes (Q₁ := λ obj s₁ => obj = .ref s.heap.objs.size /\ s₁ = { s with heap := s.heap.push { cls := .type "dict", data := .dict #[] } }) F.kt_called_dict (F.kt_typeCall_dict_1 _) F.entry_dict_init (kt_code_dict_new _ ⟨rfl, rfl⟩) ?_
 rintro obj s₁ ⟨rfl, rfl⟩
 have hnew : (s.heap.push { cls := .type "dict", data := .dict #[] }).DictOf knd s.heap.objs.size [] := Heap.DictOf.new s.heap
 have k1 : ∀ b o, s.heap.get? b = some o -> (s.heap.push { cls := .type "dict", data := .dict #[] }).get? b = some o := λ b o e => Heap.get?_push_of_some _ e
 have hT : ({ s with heap := s.heap.push { cls := .type "dict", data := .dict #[] } } : Shared).TypeIs (.ref l) "list" := ⟨o, k1 l o ho, hc⟩
 refine ⟨hnew.typeIs, F.args_dict_init_2 _ _, ?_⟩
 unfold Builtin.«dict.__init__»
 refine wpAny_bind ?_
 unfold Builtin.Dict.selfAndRest
 refine wpAny_bind (wpAny_notOrdered_dict hnew.typeIs ?_)
 show wpAny _ _ (pure (s.heap.objs.size, [Value.ref l])) _ _ _
 refine wpAny_pure ?_
 show wpAny _ _ (Builtin.Dict.updateFrom "dict.__init__" s.heap.objs.size (.ref l) [] .none) _ _ _
 unfold Builtin.Dict.updateFrom
 refine wpAny_bind (wpAny_typeOf hT ?_)
 rw [if_pos (by decide)]
 refine wpAny_bind (zhp (k1 l o ho) hc hd hn hh λ h2 tk2 k2 => ?_)
 rw [if_pos (by decide)]
 refine wpAny_bind (wpAny_rule ?_)
 have ho2 := k2 l o (k1 l o ho)
 have hl2 : h2.IsList l items := ⟨o, ho2, hc, n, hd⟩
 refine wpAny_bind (wpAny_pyIter_list hl2 ?_)
 have k3 : ∀ b o, h2.get? b = some o -> (h2.push { cls := .type "list_iterator", data := .fields #[.ref l, .int 0 0] }).get? b = some o := λ b o e => Heap.get?_push_of_some _ e
 have hd2 : s.heap.objs.size < h2.objs.size := by
  obtain ⟨o', _, _, ho', _⟩ := hnew
  exact Heap.lt_size (k2 _ _ ho')
 refine wpAny_pure ⟨plainId_quiet v8 _, ?_⟩
 refine zkO (A := A.in1) (N := s.heap.objs.size) (knd := knd) (items := items) hh (zzK _) (Nat.le_of_lt hd2) (zzN hd2) (Heap.lt_size ho) ps 0 { s with heap := h2.push { cls := .type "list_iterator", data := .fields #[.ref l, .int 0 0] }, toks := tk2 } [] ⟨_, Heap.get?_push_size _ rfl, rfl, rfl⟩ ⟨o, k3 l o ho2, hc, n, hd⟩ ?_ (by rw [List.length_nil]; omega) (λ j p hj => ?_) (by rw [Nat.zero_add]; exact he) (λ h' tk dd kk => ?_)
 · obtain ⟨o', es, ep, ho', r⟩ := hnew
   exact ⟨o', es, ep, k3 _ _ (k2 _ _ ho'), r⟩
 · obtain ⟨q, key, a1, ⟨o', a3, a4⟩, a5⟩ := hp j p hj
   exact ⟨q, key, by rw [Nat.zero_add]; exact a1, Heap.lt_size a3, ⟨o', k3 _ _ (k2 _ _ (k1 _ _ a3)), a4⟩, a5⟩
 · exact ⟨rfl, h h' tk dd λ b o e => kk b o (Heap.lt_size e) (k3 _ _ (k2 _ _ (k1 _ _ e)))⟩
def zad : List D -> Option (List (Key × D))
 | [] => some []
 | d :: r => (asT d).bind λ l => (zmW l).bind λ p => (zku p.1).bind λ k => (zad r).bind λ t => some ((k, p.2) :: t)
def zrt : D -> Option R0
 | .dct kvs => some (.fd kvs)
 | .lst ds => (zad ds).bind λ kvs => if (kvs.map (·.1)).Nodup then some (.fd kvs) else none
 | _ => none
def zbS : List D -> Option R0 := on1 zrt
theorem zdl {κ : Type} [DecidableEq κ] : ∀ (ps acc : List (κ × Value)), ((acc ++ ps).map (·.1)).Nodup -> putAll acc ps = acc ++ ps
 | [], acc, _ => (List.append_nil acc).symm
 | p :: r, acc, h => by
  have hs : stored acc p.1 p.2 = acc ++ [p] := by
   unfold stored
   rw [if_neg]
   rw [List.map_append, List.map_cons] at h
   obtain ⟨_, _, n3⟩ := List.nodup_append.mp h
   intro z
   obtain ⟨q, m, e⟩ := List.any_eq_true.mp z
   exact n3 q.1 (List.mem_map_of_mem m) p.1 (zzC ..) (of_decide_eq_true e)
  show putAll (stored acc p.1 p.2) r = _
  rw [hs, zdl r (acc ++ [p]) (by rw [List.append_assoc]; exact h), List.append_assoc]; rfl
section
variable {X : Cx} {kd : KD} {O : Addr -> Prop} {pins : List (Addr × Obj)} {σ : St} {H : Hp} {s : Shared}
theorem zcQ (I : Inv X pins σ H s) : ∀ {vs : List V} {us : List Value} {ds : List D} {dk : List (Key × D)}, RpL X.K kd O H vs ds -> Vals vs us -> zad ds = some dk ->
 ∃ (kvs : List (Key × V)) (ps : List (Key × Value)), KV kvs ps /\ RpM X.K kd O H kvs dk /\ ps.length = us.length /\ ps.map (·.1) = dk.map (·.1) /\ kvs.length = ps.length /\
  ∀ (j : Nat) (p : Key × Value), ps[j]? = some p -> ∃ (q : Addr) (key : Value), us[j]? = some (Value.ref q) /\ IsTup s.heap q #[key, p.2] /\ (wC X.prog X.w).is p.1 key = true
 | _, _, [], _, rl, r, e => by
  cases rl
  cases r
  cases e
  exact ⟨[], [], .nil, .nil, rfl, rfl, rfl, λ j p h => by simp at h⟩
 | _, _, d :: ds, dk, rl, r, e => by
  cases rl with
  | cons rp rl =>
   rename_i v vs
   cases r with
   | cons r0 r =>
    rename_i u us
    obtain ⟨l0, e0, e2⟩ := bS_ (show (asT d).bind _ = _ from e)
    obtain ⟨⟨k, dv⟩, e1, e3⟩ := bS_ e2
    cases zkZ e0
    cases zeF e1
    · obtain ⟨kk, h1, e⟩ := bS_ e3
      obtain ⟨t, h2, e⟩ := bS_ e
      cases e
      obtain ⟨kvs, ps, a1, a2, a3, a4, a5, a6⟩ := zcQ I (ds := ds) (dk := t) rl r h2
      cases rp.vw with
      | tup rp' hq rl' =>
       rename_i q ws
       cases rl' with
       | cons k1 rl' =>
        cases rl' with
        | cons k2 rl' =>
         cases rl'
         rename_i kv' vv'
         have ek := zlF k1.vw h1
         subst ek
         obtain ⟨its, rv, ht, _⟩ := I.tuple hq
         obtain ⟨u1, u2, rfl, r1, r2⟩ := vals2 rv
         cases r0
         refine ⟨(kk, vv') :: kvs, (kk, u2) :: ps, .cons ⟨rfl, r2⟩ a1, .cons k2 a2, congrArg (· + 1) a3, congrArg (kk :: ·) a4, congrArg (· + 1) a5, λ j p h => ?_⟩
         cases j with
         | zero =>
          simp at h
          subst h
          exact ⟨q, u1, rfl, ht, zie r1⟩
         | succ j => simpa using a6 j p (by simpa using h)
theorem zdu (hc : X.calm = true) (hk : KdOk X kd) : CallD X kd (.type "dict") zbS := by
 intro pins s σ H xs us Q I r h
 obtain ⟨O, ds, z, ht, vl, he, q⟩ := h
 obtain ⟨x, d, rfl, vx, he⟩ := zbC vl he
 cases vx with
 | dct hr rm => exact zjA hk pins s σ H _ us Q I r ⟨O, [.dct _], z, ht, .cons (.dct hr rm) .nil, he, q⟩
 | lst hr rl =>
  obtain ⟨dk, h1, he⟩ := bS_ (show (zad _).bind _ = _ from he)
  obtain ⟨hn, he⟩ := zM he
  cases he
  obtain ⟨u, rfl, ru⟩ := vals1 r
  cases ru
  obtain ⟨its, rv, ⟨o, n, ho, hcl, hdi, hda⟩, hz⟩ := I.list hr.sq
  obtain ⟨kvs, ps, a1, a2, a3, a4, a5, a6⟩ := zcQ I rl rv h1
  have hlen := rv.length
  refine zdB (knd := wC X.prog X.w) (ps := ps) (I.ok.hd hc) ho hcl hda hdi (by omega) (λ j p hj => ?_) (by rw [a3]; simp) λ h' tk dd kp => ?_
  · obtain ⟨q', key, b1, b2, b3⟩ := a6 j p hj
    exact ⟨q', key, by simpa using b1, b2, b3⟩
  · rw [zdl ps [] (by rw [List.nil_append, a4]; exact hn), List.nil_append] at dd
    exact ⟨.ref _, _, I.laid (a := s.heap.objs.size) (o := .dK kvs) (t' := tk) kp (zzK _) (zlA (by omega) (beq_eq_false_iff_ne.mpr (Ne.symm (zzN I.big))) a1 dd), rfl, zlz q a2 _ (I.hok.fresh (zzK _))⟩
 | _ => cases he
end
theorem l1_ {α : Type} {P : List α -> Prop} (h : ∀ a, P [a]) : ∀ us : List α, us.length = 1 -> P us
 | [a], _ => h a
theorem l2_ {α : Type} {P : List α -> Prop} (h : ∀ a b, P [a, b]) : ∀ us : List α, us.length = 2 -> P us
 | [a, b], _ => h a b
theorem l3_ {α : Type} {P : List α -> Prop} (h : ∀ a b c, P [a, b, c]) : ∀ us : List α, us.length = 3 -> P us
 | [a, b, c], _ => h a b c
theorem l4_ {α : Type} {P : List α -> Prop} (h : ∀ a b c d, P [a, b, c, d]) : ∀ us : List α, us.length = 4 -> P us
 | [a, b, c, d], _ => h a b c d
section
variable {X : Cx} {kd : KD}
theorem aI {c : Int} {j pos} : AE X kd (.Constant (.int c) j pos) (fC (.int c)) := zff zqb λ _ _ => .int _
theorem aS {c : Str} {j pos} : AE X kd (.Constant (.str c) j pos) (fC (.str c)) := zff zpA λ _ _ => .str _
theorem aZ {j pos} : AE X kd (.Constant .none j pos) (fC .non) := zff zoO λ _ _ => .non
theorem aB {c : Bool} {j pos} : AE X kd (.Constant (.bool c) j pos) (fC (.bl c)) := zff zrn λ _ _ => .bl _
theorem ax {P : Program} {w : World} {K : zC} {a b : Expr} {fa fb : EF} {pos : Pos} (hkd : KD1 P w K kd) (ha : AE X kd a fa) (hb : AE X kd b fb) (h1 : X.prog = P := by rfl) (h2 : X.w = w := by rfl) (h3 : X.K = K := by rfl) (hm : zaL b := by exact λ _ _ => rfl) : AE X kd (.Subscript a b pos) (f2 fa fb ixP) := zqU (zry (hkd _ h1 h2 h3)) ha hb hm
theorem sv (z : Bool) (i : Nat) {x : Str} {pos pos' : Pos} {e : Expr} {fa : EF} (hN : X.N.Nodup) (he : AE X kd e fa) (hi : X.N[i]? = some x := by rfl) (hx : Loc X.env.scope x := by first | exact Or.inl rfl | exact Or.inr rfl) (hs : swapsWith e (some (.Name x pos')) pos.line X.env = pure false := by rfl) (hf : X.fn x = true \/ X.env.scope.names.lookup x = some .local := by first | exact Or.inl rfl | exact Or.inr rfl) :
 ASt X kd (.Assign [.Name x pos'] e pos) (zJ z i fa) := zpY hN hi hx he hs hf
theorem an (i : Nat) {x : Str} {pos : Pos} (hN : X.N.Nodup) (hi : X.N[i]? = some x := by rfl) (hx : Loc X.env.scope x := by first | exact Or.inl rfl | exact Or.inr rfl) (hf : X.fn x = true \/ X.env.scope.names.lookup x = some .local := by first | exact Or.inl rfl | exact Or.inr rfl) : AG X kd (.Name x pos) [i] (gN i) := zmn hN hi hx hf
theorem av (i : Nat) {x : Str} {pos : Pos} (hN : X.N[i]? = some x := by rfl) (hv : Vis X.env.scope x := by first | exact Or.inl rfl | exact Or.inr (Or.inl rfl) | exact Or.inr (Or.inr rfl)) (hd : (x == ("__debug__" : Str)) = false := by decide)
 (hcd : (x == ("__classdict__" : Str)) = false := by decide) : AE X kd (.Name x pos) (fV i) := zpE (zkG hN hv hd hcd)
end
def lkp {α : Type} : List Str -> List α -> Str -> Option α
 | [], _, _ => none
 | _, [], _ => none
 | n :: ns, a :: as, f => if f = n then some a else lkp ns as f
theorem zae (f : Str) : ∀ (ns : List Str) (vs : List V), (ns.zip vs).lookup f = lkp ns vs f
 | [], _ => rfl
 | _ :: _, [] => rfl
 | n :: ns, v :: vs => by
  show List.lookup f ((n, v) :: ns.zip vs) = if f = n then some v else lkp ns vs f
  rw [List.lookup_cons]
  by_cases h : f = n
  · rw [if_pos h, beq_iff_eq.mpr h]
  · rw [if_neg h, beq_eq_false_iff_ne.mpr h]
    exact zae f ns vs
theorem zlO {K : zC} {kd : KD} {O : Addr -> Prop} {H : Hp} {f : Str} {d : D} : ∀ {ns : List Str} {vs : List V} {ds : List D}, RpL K kd O H vs ds -> lkp ns ds f = some d -> ∃ v, lkp ns vs f = some v /\ Rp K kd O H v d
 | [], _, _, _, e => by cases e
 | _ :: _, _, _, .nil, e => by cases e
 | n :: ns, _, _, .cons (v := v) (d := d') (vs := vs) (ds := ds) h r, e => by
  have e : (if f = n then some d' else lkp ns ds f) = some d := e
  show ∃ w, (if f = n then some v else lkp ns vs f) = some w /\ _
  by_cases q : f = n
  · rw [if_pos q] at e ⊢; cases e; exact ⟨v, rfl, h⟩
  · rw [if_neg q] at e ⊢; exact zlO r e
theorem zfO {α : Type} {f : Str} : ∀ {ns : List Str} {vs : List α}, f ∉ ns -> lkp ns vs f = none
 | [], _, _ => rfl
 | _ :: _, [], _ => rfl
 | n :: ns, v :: vs, h => by
  show (if f = n then some v else lkp ns vs f) = none
  rw [if_neg λ e => h (by rw [e]; exact zzC)]
  exact zfO λ m => h (zzA _ m)
theorem zgB {f : Str} {v : V} : ∀ {ns : List Str} {vs : List V}, ns.length = vs.length -> f ∉ ns -> Wt f v (ns.zip vs) = (ns ++ [f]).zip (vs ++ [v])
 | [], [], _, _ => rfl
 | [], _ :: _, h, _ => by cases h
 | _ :: _, [], h, _ => by cases h
 | n :: ns, w :: vs, h, hf => by
  show (if n = f then (n, v) :: ns.zip vs else (n, w) :: Wt f v (ns.zip vs)) = (n, w) :: (ns ++ [f]).zip (vs ++ [v])
  rw [if_neg λ e => hf (by rw [e]; exact zzC), zgB (Nat.succ.inj h) λ m => hf (zzA _ m)]
def zai (cs : List Str) (f : Str) : D -> Option R0
 | .ob c ns ds => if c ∈ cs then (lkp ns ds f).bind λ d => some (.im d) else none
 | _ => none
def CF (K : zC) (kd : KD) (cs : List Str) (f : Str) : Prop := ∀ c ∈ cs, Cls K (kd.c c) /\ v9 K (kd.c c) f
section
variable {X : Cx} {kd : KD} {a e o : Expr} {es : List Expr} {fa fo fe : EF} {fr : AF} {pos pos' apos : Pos} {m f : Str} {cs : List Str}
theorem zdF (hc : CF X.K kd cs f) (ha : AE X kd a fa) (hb : attributeBase a f X.env (eval a X.env) = eval a X.env) : AE X kd (.Attribute a f pos) (f1 fa (zai cs f)) := by
 with_unfolding_all exact (yK (zpS ha hb) λ σ H Q h => by
  obtain ⟨F, B, ad, as, r, as', R, e, q⟩ := h
  obtain ⟨⟨p, as1⟩, h1, e⟩ := bS_ (show (fa as).bind _ = _ from e)
  obtain ⟨⟨x, lv⟩, h2, e⟩ := bS_ e
  obtain ⟨z, h3, e⟩ := bS_ e
  obtain ⟨y, h4, e⟩ := bS_ e
  cases e
  refine Yi R h1 λ v ad1 H1 R1 rv1 g1 => ?_
  have vw := wI.vw R1 rv1 h2
  have rq := Z1 R1 h4 λ w T' H' R' rv' g' => q w T' ad1 H' R' rv' (g1.trans g')
  cases vw with
  | ob hH hl rl =>
   obtain ⟨hm, h3⟩ := ite_some' h3
   obtain ⟨d, hd, h3⟩ := bS_ h3
   cases h3
   obtain ⟨w, hw, rw'⟩ := zlO rl hd
   exact ⟨_, _, _, _, w, rfl, hH, (hc _ hm).1, (hc _ hm).2, (zae _ _ _).trans hw, rq w H1 (λ _ _ z => z) rw'⟩
  | _ => cases h3)
def zop (X : Cx) (m : Str) (ta : TE) (t : TA) : TE := λ σ H Q => ta σ H λ x H1 => ∃ a C dx fs k f fd ps sp, x = .ref a /\ H1 a = some (.ins C dx fs) /\ Cls X.K C /\ Meth X.K C m f /\ fs.lookup m = none /\
 FnOk X.prog X.w X.K X.mg X.base CX0 k f fd ps sp /\ Room k X.A /\ Binds X.K fd ps [] /\ t σ H1 λ vs H2 => sp (x :: vs) H2 Q λ _ _ _ => False
theorem zoG {pl : Sem Bool} {ta : TE} {t : TA} (he : PE X o ta) (hx : Yu CX0 X λ _ _ _ => False) (ha : PA X (e :: es) t)
 (hst : starEach (e :: es) X.env = (false, eval e X.env) :: starEach es X.env) (hpl : (backTo pos (starEach es X.env)).any (·.1) = false)
 (ht : eval (.Call (.Attribute o m apos) (e :: es) [] pos) X.env = (do
  let ov <- eval o X.env
  standAt apos.atName
  let (f, first) <- holding [ov] (getMethod ov m pl)
  callWith pos f first (backTo pos (starEach (e :: es) X.env)) (backToKw pos (keywordEach [] X.env)))) :
 PE X (.Call (.Attribute o m apos) (e :: es) [] pos) (zop X m ta t) := by
 intro pins s σ H Q I h
 refine PySem.W.methodCall_KW (pl := pl) (thn (he pins s σ H _ I h) λ u s1 ⟨x, H1, I1, rx, a, C, dx, fs, k, f, fd, ps, sp, ex, ea, c, hm, l, F, hr, hb, q⟩ => ?_) ht
 subst ex
 obtain rfl : u = Value.ref a := rx
 refine zdA I1 ea c hm l ?_
 refine PySem.W.callWith_K (first := [.ref a]) (h₀ := X.base) I.ok.mod.kin hm.kp (thn (ha pos pins s1 σ H1 _ I1 q) λ us s2 ⟨vs, H2, I2, r, q2⟩ => ⟨I2.kIn, ?_⟩) hst hpl
 refine zgU (us := .ref a :: us) (vs := .ref a :: vs) F hr hb .nil hx I2 (.cons rfl r) ?_
 rw [List.append_nil]
 exact q2
theorem znq {pl : Sem Bool} {ta : TE} (he : PE X o ta) (hx : Yu CX0 X λ _ _ _ => False)
 (ht : eval (.Call (.Attribute o m apos) [] [] pos) X.env = (do
  let ov <- eval o X.env
  standAt apos.atName
  let (f, first) <- holding [ov] (getMethod ov m pl)
  callWith pos f first (backTo pos (starEach [] X.env)) (backToKw pos (keywordEach [] X.env)))) :
 PE X (.Call (.Attribute o m apos) [] [] pos) (zop X m ta zmc) := by
 intro pins s σ H Q I h
 refine PySem.W.methodCall_KW (pl := pl) (thn (he pins s σ H _ I h) λ u s1 ⟨x, H1, I1, rx, a, C, dx, fs, k, f, fd, ps, sp, ex, ea, c, hm, l, F, hr, hb, q⟩ => ?_) ht
 subst ex
 obtain rfl : u = Value.ref a := rx
 refine zdA I1 ea c hm l ?_
 exact PySem.W.callWith_K0 (first := [.ref a]) I1.kIn hm.kp (zgU (us := [.ref a]) (vs := [.ref a]) F hr hb .nil hx I1 (.cons rfl .nil) q)
end
def lkT : List (Str × Fn) -> Str -> Option Fn
 | [], _ => none
 | p :: r, c => if c = p.1 then some p.2 else lkT r c
def MT (P : Program) (w : World) (K : zC) (mg : Str -> Option Value) (base : Heap) (kd : KD) (m : Str) (k : Nat) (tbl : List (Str × Fn)) : Prop :=
 ∀ c g, lkT tbl c = some g -> ∃ k' f fd ps, k' <= k /\ Cls K (kd.c c) /\ Meth K (kd.c c) m f /\ FnOk P w K mg base CX0 k' f fd ps (spD K kd g) /\ Binds K fd ps []
section
variable {P : Program} {w : World} {K : zC} {mg : Str -> Option Value} {base : Heap} {kd : KD} {m : Str} {k : Nat} {tbl : List (Str × Fn)}
theorem zcH : MT P w K mg base kd m k [] := λ c g h => by cases h
theorem zmz {c : Str} {g : Fn} {k' : Nat} {f : Addr} {fd : FuncData} {ps : List Str} (hk : k' <= k) (cl : Cls K (kd.c c)) (me : Meth K (kd.c c) m f) (F : FnOk P w K mg base CX0 k' f fd ps (spD K kd g)) (b : Binds K fd ps []) (h : MT P w K mg base kd m k tbl) : MT P w K mg base kd m k ((c, g) :: tbl) := λ c' g' e => by
 have e : (if c' = c then some g else lkT tbl c') = some g' := e
 by_cases q : c' = c
 · rw [if_pos q] at e; cases e; subst q; exact ⟨k', f, fd, ps, hk, cl, me, F, b⟩
 · rw [if_neg q] at e; exact h c' g' e
end
def obC (m : Str) : D -> Option Str
 | .ob c ns _ => if m ∈ ns then none else some c
 | _ => none
def ZC (tbl : List (Str × Fn)) (m : Str) (fo : EF) (fr : AF) : EF := λ as => (fo as).bind λ p => (p.1.frz.view p.2).bind λ w => (obC m w.1).bind λ c => (lkT tbl c).bind λ g => (fr p.2).bind λ q => (Xh q.2 (p.1.frz :: q.1)).bind λ x => (g x).bind λ o => some (.ow o, q.2)
section
variable {X : Cx} {kd : KD} {a e o : Expr} {es : List Expr} {fa fo fe : EF} {fr : AF} {pos pos' apos : Pos} {m f : Str} {cs : List Str} {tbl : List (Str × Fn)} {k : Nat}
theorem znP (hT : MT X.prog X.w X.K X.mg X.base kd m k tbl) (hr : Room k X.A) {σ : St} {H : Hp} {Q : VK} {t : TA} (ht : ∀ σ H Q, alA X.K kd fr σ H Q -> t σ H Q) (h : al X.K kd (ZC tbl m fo fr) σ H Q) : zop X m (al X.K kd fo) t σ H Q := by
 obtain ⟨F, B, ad, as, r, as', R, e, q⟩ := h
 obtain ⟨⟨p, as1⟩, h1, e⟩ := bS_ (show (fo as).bind _ = _ from e)
 obtain ⟨⟨w, lv⟩, h2, e⟩ := bS_ e
 obtain ⟨c, h3, e⟩ := bS_ e
 obtain ⟨g, h4, e⟩ := bS_ e
 obtain ⟨⟨rs, as2⟩, h5, e⟩ := bS_ e
 obtain ⟨ds, h6, e⟩ := bS_ e
 obtain ⟨o, h7, e⟩ := bS_ e
 cases e
 refine Yi R h1 λ v ad1 H1 R1 rv1 g1 => ?_
 have vw := wI.vw R1 rv1 h2
 cases vw with
 | @ob a' dx c' ns vs0 ds0 hH hl rl =>
  have h3 : (if m ∈ ns then none else some c') = some c := h3
  by_cases hn : m ∈ ns
  · rw [if_pos hn] at h3; cases h3
  · rw [if_neg hn] at h3
    cases h3
    obtain ⟨k', f, fd, ps, hk', cl, me, F1, b⟩ := hT _ _ h4
    refine ⟨_, _, _, _, k', f, fd, ps, _, rfl, hH, cl, me, (zae _ _ _).trans (zfO hn), F1, hr.mono hk', b, ht _ _ _ ⟨F, B, ad1, as1, rs, as2, R1, h5, λ vs ad2 H2 R2 rv2 g2 => ?_⟩⟩
    exact ⟨_, ds, o, R2.trk true, zeX R2 (.cons (rv1.grow g2) rv2) h6, h7, zhe R2 λ w T' H' R' rv' g' => q w T' ad2 H' R' rv' ((g1.trans g2).trans g')⟩
 | _ => cases h3
theorem V6 {pl : Sem Bool} (hT : MT X.prog X.w X.K X.mg X.base kd m k tbl) (hr : Room k X.A) (hx : Yu CX0 X λ _ _ _ => False) (ho : AE X kd o fo) (ha : AA X kd (e :: es) fr)
 (hst : starEach (e :: es) X.env = (false, eval e X.env) :: starEach es X.env) (hpl : (backTo pos (starEach es X.env)).any (·.1) = false)
 (ht : eval (.Call (.Attribute o m apos) (e :: es) [] pos) X.env = (do
  let ov <- eval o X.env
  standAt apos.atName
  let (f, first) <- holding [ov] (getMethod ov m pl)
  callWith pos f first (backTo pos (starEach (e :: es) X.env)) (backToKw pos (keywordEach [] X.env)))) :
 AE X kd (.Call (.Attribute o m apos) (e :: es) [] pos) (ZC tbl m fo fr) := by
 with_unfolding_all exact (yK (zoG ho hx ha hst hpl ht) λ σ H Q h => znP hT hr (λ _ _ _ z => z) h)
theorem zmU {pl : Sem Bool} (hT : MT X.prog X.w X.K X.mg X.base kd m k tbl) (hr : Room k X.A) (hx : Yu CX0 X λ _ _ _ => False) (ho : AE X kd o fo)
 (ht : eval (.Call (.Attribute o m apos) [] [] pos) X.env = (do
  let ov <- eval o X.env
  standAt apos.atName
  let (f, first) <- holding [ov] (getMethod ov m pl)
  callWith pos f first (backTo pos (starEach [] X.env)) (backToKw pos (keywordEach [] X.env)))) :
 AE X kd (.Call (.Attribute o m apos) [] [] pos) (ZC tbl m fo aN) := by
 with_unfolding_all exact (yK (znq ho hx ht) λ σ H Q h => znP hT hr (λ σ H Q z => by
  obtain ⟨F, B, ad, as, rs, as', R, e, q⟩ := z
  cases e
  exact q [] ad H R .nil Grow.refl) h)
end
abbrev IFn := AS -> Option AS
def bf (K : zC) (kd : KD) (f : IFn) : TS := λ D σ H => ∃ F B ad as as', Rel K kd F B [] ad as σ H /\ f as = some as' /\ ∀ ad' H', Rel K kd F B [] ad' as' σ H' -> Grow (Gw [] ad) H (Gw [] ad') H' -> D.nx σ H'
@[irreducible] def AFs (X : Cx) (kd : KD) (st : List Stmt) (f : IFn) : Prop := PSs X st (bf X.K kd f)
@[irreducible] def AFt (X : Cx) (kd : KD) (st : Stmt) (f : IFn) : Prop := PS X st (bf X.K kd f)
def zfC (i : Nat) (cs : List Str) (f : Str) (fe : EF) : IFn := λ as => (fe as).bind λ p => (zdt p.2 p.1).bind λ x => match x.2[i]? with
 | some (some (.nd (.ob c ns) os)) => if c ∈ cs /\ f ∉ ns /\ ns.length < 1000 then some (x.2.set i (some (.nd (.ob c (ns ++ [f])) (os ++ [.lf x.1.1 x.1.2])))) else none
 | _ => none
def znh (fe : EF) : IFn := λ as => (fe as).bind λ p => some p.2
def zaq (f g : IFn) : IFn := λ as => (f as).bind g
section
variable {X : Cx} {kd : KD} {e o : Expr} {st : Stmt} {rest : List Stmt} {fe : EF} {f g : IFn} {pos pos' : Pos} {cs : List Str} {n : Str}
theorem znK (he : AE X kd e fe) (hs : swapsWith e none pos.line X.env = pure false) : AFt X kd (.Expr e pos) (znh fe) := by
 with_unfolding_all exact (ZJ (ziJ he hs) λ D σ H h => by
  obtain ⟨F, B, ad, as, o, R, e, q⟩ := h
  obtain ⟨⟨p, as1⟩, h1, e⟩ := bS_ (show (fe as).bind _ = _ from e)
  cases e
  exact ⟨F, B, ad, as, p, as1, R, h1, λ v T' ad' H' R' rv g => q ad' H' R'.drop (g.trans (Grow.less Gw.drop))⟩)
theorem Vp {j : Nat} (hc : CF X.K kd cs n) (ho : PE X o (zfa j)) (he : AE X kd e fe) (hs : swapsWith e (some (.Attribute o n pos')) pos.line X.env = pure false) : AFt X kd (.Assign [.Attribute o n pos'] e pos) (zfC j cs n fe) := by
 with_unfolding_all exact (ZJ (zoe ho he hs) λ D σ H h => by
  obtain ⟨F, B, ad, as, o, R, e, q⟩ := h
  obtain ⟨⟨p, as1⟩, h1, e⟩ := bS_ (show (fe as).bind _ = _ from e)
  obtain ⟨⟨⟨st, d⟩, as2⟩, h2, e⟩ := bS_ e
  cases k1 : as2[j]? with
  | none => rw [k1] at e; cases e
  | some a0 =>
   rw [k1] at e
   match a0, e, k1 with
   | some (.nd (.ob c ns) os), e, k1 =>
    obtain ⟨⟨hm, hf, hz⟩, e⟩ := zM e
    cases e
    refine ⟨F, B, ad, as, p, as1, R, h1, λ v T1 ad1 H1 R1 rv1 g1 => ?_⟩
    obtain ⟨ad2, R2, rp, le⟩ := VD R1 rv1 h2
    obtain ⟨v0, hs0, ro0⟩ := R2.sl j _ k1
    refine ⟨v0, hs0, ?_⟩
    generalize hfp : ad2 j = fp1 at ro0
    cases ro0 with
    | ob hC hH hl rl =>
     rename_i l dx C vs fp
     have ec : C = kd.c c := hC.cl_eq
     subst ec
     have hnd := R2.nd j
     rw [hfp] at hnd
     have rl' : Zb X.K kd F B (Gw [] ad2) H1 (vs ++ [v]) (os ++ [.lf st d]) fp := by
      have := rl.append (RoL.one (Ro.lf (N := Nf F B (Gw [] ad2)) (H := H1) rp))
      rw [List.append_nil] at this
      exact this
     refine ⟨l, _, dx, _, rfl, hH, (hc _ hm).1, (hc _ hm).2, by rw [List.length_zip, hl, Nat.min_self, <- hl]; exact hz, ?_⟩
     rw [zgB hl hf]
     obtain ⟨R4, g4⟩ := R2.mut (fo := []) (n := .nd (.ob c (ns ++ [n])) (os ++ [.lf st d])) (u := .ins (kd.c c) dx ((ns ++ [n]).zip (vs ++ [v]))) (zzD.mp k1).1 hfp hs0 (fp' := fp) (λ a m => by
      rw [List.append_nil] at m ⊢; exact m) (by rw [List.append_nil]; exact (zzT.mp hnd).2) (by rw [hH]; simp) λ H' G' hl' gr kp => .ob (.cl c) hl' (by rw [zzG, zzG, hl]; rfl) (Zb.grow gr kp rl')
     exact q _ _ R4 ((g1.trans (Grow.less le)).trans g4))
theorem znG (h : AFt X kd st f) : AFs X kd [st] f := by
 with_unfolding_all exact (zih h)
theorem Xo (h1 : AFt X kd st f) (h2 : AFs X kd rest g) : AFs X kd (st :: rest) (zaq f g) := by
 with_unfolding_all exact (zcG (zgH h1 h2) λ D σ H h => by
  obtain ⟨F, B, ad, as, o, R, e, q⟩ := h
  obtain ⟨o1, e1, e⟩ := bS_ (show (f as).bind _ = _ from e)
  exact ⟨F, B, ad, as, o1, R, e1, λ ad' H' R' g' => ⟨F, B, ad', o1, o, R', e, λ ad2 H2 R2 g2 => q ad2 H2 R2 (g'.trans g2)⟩⟩)
end
def ob0 (c : Str) : O := .nd (.ob c []) []
def lfD (x : Bool × D) : O := .lf x.1 x.2
def slot0 : AS -> Option O
 | some o :: _ => if o.str = true then some o else none
 | _ => none
def fnI (c : Str) (n m : Nat) (f : IFn) (ds : List (Bool × D)) : Option O := if ds.length + 1 = m then (f (zbF n (ob0 c :: ds.map lfD))).bind slot0 else none
def spI (K : zC) (kd : KD) (c : Str) (g : Fn) : Sp := λ vs H Q _ => ∃ F x dx vs' ds o, vs = .ref x :: vs' /\ H x = some (.ins (kd.c c) dx []) /\ (∀ a, F a -> H a ≠ none) /\ ¬ F x /\ RpI K kd F (λ _ => False) (· = x) H vs' ds /\ g ds = some o /\
 ∀ T H', T.Nodup -> (∀ a ∈ T, a = x \/ H a = none) -> (∀ b u, H b = some u -> b ≠ x -> H' b = some u) -> (∀ a ∈ T, H' a ≠ none) -> Ro (λ _ v d => Rp K kd (Un2 F (· ∈ T)) H' v d) (λ a => ¬ Un2 F (· ∈ T) a) H' (.ref x) o T -> Q .non H'
theorem zpL {K : zC} {kd : KD} {F B G : Addr -> Prop} {H : Hp} {vs : List V} {ds : List (Bool × D)} (h : RpI K kd F B G H vs ds) : Zb K kd F B G H vs (ds.map lfD) [] := by
 induction h with
 | nil => exact .nil
 | cons a _ ih => exact RoL.cons (Ro.lf a) ih
theorem znd (ds : List (Bool × D)) : (ds.map lfD).all O.isLf = true := by
 induction ds with
 | nil => rfl
 | cons x r ih => exact ih
section
variable {P : Program} {w : World} {K : zC} {mg : Str -> Option Value} {base : Heap}
theorem zpK {kd : KD} {x qual : Str} {st : Stmt} {f : Addr} {fd : FuncData} {N ps : List Str} {k : Nat} {c : Str} {b : IFn} (Fn : Fun K x qual st f fd) (S : FnScope N ps (zA st)) (hps : ps.length <= N.length)
 (hb : ∀ (cdv : Value) (A : Around) (outer : List Env) (s : Shared) (H : Hp) (E : XK), Room k (A.deeper (envOfC qual (zA st) s.heap.objs.size f cdv)) -> AFs (zfL CX0 P w K mg base N qual (zA st) f cdv A outer s H E).nox kd (Vr st) b) :
 FnOk P w K mg base CX0 (k + 1) f fd ps (spI K kd c (fnI c N.length ps.length b)) := by
 with_unfolding_all (
 refine Fn.ok S (λ vs H Q E h => ?_) (λ cdv A outer s H vs Q E hr h => ⟨_, hb cdv A outer s H E hr, ?_⟩)
 · obtain ⟨F, x, dx, vs', ds, o, rfl, _, _, _, rp, e, _⟩ := h
   obtain ⟨hl, _⟩ := ite_some' (show (if ds.length + 1 = ps.length then _ else none) = _ from e)
   rw [zzQ, rp.length, hl]
 · obtain ⟨F, x, dx, vs', ds, o, rfl, hx, ht, hF, rp, e, q⟩ := h
   obtain ⟨hl, e⟩ := ite_some' (show (if ds.length + 1 = ps.length then _ else none) = _ from e)
   obtain ⟨as', e1, e2⟩ := bS_ e
   have ro : Zb K kd F (λ _ => False) (· ∈ [x]) H (V.ref x :: vs') (ob0 c :: ds.map lfD) [x] := by
    have e0 : (λ a => a ∈ [x]) = (λ a => a = x) := by funext a; exact propext zzO
    rw [e0]
    exact RoL.cons (fq := []) (Ro.ob (C := kd.c c) (vs := []) (.cl c) hx rfl .nil) (zpL rp)
   have R0 := zhK (N := N) ht (T := [x]) (by simp) (λ a m => by rw [zzO.mp m, hx]; exact ⟨by simp, hF⟩) (znd ds) (by rw [zzQ, zD]; omega) ro
   have gw : ∀ a, Gw [] (λ i => if i = 0 then [x] else []) a -> a = x := λ a z => z.elim (λ y => nomatch y) λ ⟨i, y⟩ => by
    by_cases e : i = 0
    · subst e; simpa using y
    · simp [e] at y
   refine ⟨F, λ _ => False, _, _, as', R0, e1, λ ad' H' R' g' => ?_⟩
   match as', e2, R' with
   | some o' :: r, e2, R' =>
    obtain ⟨hs, e2⟩ := zM (show (if o'.str = true then some o' else none) = some o from e2)
    subst e2
    obtain ⟨v, hv, ro'⟩ := R'.sl 0 (some o') rfl
    have hv0 : (L2.start N (V.ref x :: vs'))[0]? = some (some (V.ref x)) := rfl
    rw [hv0] at hv
    cases hv
    have rt := zeH R' (R'.nd 0) (λ a m => .inr ⟨0, m⟩) ro' hs
    exact q (ad' 0) H' rt.nd (λ a m => (g'.own a (.inr ⟨0, m⟩)).imp (gw a) id) (λ b u h hb => g'.keep b u h λ z => hb (gw b z)) rt.tr rt.ro)
end
section
variable {X : Cx} {kd : KD} {e : Expr} {es : List Expr} {fr : AF} {pos p : Pos} {g : Fn}
theorem zpk {c : Str} {σ : St} {H : Hp} {Q : VK} {E : XK} (h : al X.K kd (zH fr g) σ H Q) : znO (kd.c c) (spI X.K kd c g) [] E (alA X.K kd fr) σ H Q := by
 obtain ⟨F, B, ad, as, r, as', R, e, q⟩ := h
 obtain ⟨⟨p, as1⟩, h1, e⟩ := bS_ (show (fr as).bind _ = _ from e)
 obtain ⟨ds, h2, e⟩ := bS_ e
 obtain ⟨o, h3, e⟩ := bS_ e
 cases e
 refine ⟨F, B, ad, as, p, _, R, h1, λ vs ad1 H1 R1 rv1 g1 x dx hx hdx hne => ?_⟩
 rw [List.append_nil]
 have k : ∀ b u, H1 b = some u -> upd (upd H1 dx (.own x)) x (.ins (kd.c c) dx []) b = some u := λ b u h => by rw [zO (yd h hx), zO (yd h hdx)]; exact h
 have kn : ∀ b, upd (upd H1 dx (.own x)) x (.ins (kd.c c) dx []) b = none -> H1 b = none := λ b h => by
  cases e : H1 b with
  | none => rfl
  | some u => rw [k b u e] at h; cases h
 refine ⟨Lv F B (Gw [] ad1) true, x, dx, vs, ds, o, rfl, yc, λ a z y => R1.trk true a z (kn a y), λ z => R1.trk true x z hx, ?_, h3, λ T H' hn hl kp ht ro => ⟨rfl, ?_⟩⟩
 · have ra := zeX R1 rv1 h2
   clear e h3 h2 rv1
   induction ra with
   | nil => exact .nil
   | cons h _ ih =>
    refine .cons ?_ ih
    exact Rp.grow (W := λ _ => False) (W' := (· = x)) ⟨λ b u h _ => k b u h, λ b e => .inr (by rw [e]; exact hx)⟩ (h.less λ a z => z.elim (λ y => y.elim id λ y => y.elim) λ y => y.elim)
 · exact zhe R1 (λ w T' H' R' rv' g' => q w T' ad1 H' R' rv' (g1.trans g')) (.ref x) T H' hn (λ a m => (hl a m).elim (λ e => by rw [e]; exact hx) (kn a)) (λ b u h => kp b u (k b u h) (yd h hx)) ht ro
theorem zmO {c x : Str} {k : Nat} {f C : Addr} {fdt : FuncData} {ps : List Str} (hC : kd.c c = C) (M : Mk X.K C f) (F : FnOk X.prog X.w X.K X.mg X.base CX0 k f fdt ps (spI X.K kd c g)) (hr : Room (k + 1) X.A) (hg : Gl X x) (hm : X.mg x = some (.ref C)) (hb : Binds X.K fdt ps []) (hx : Yu CX0 X λ _ _ _ => False)
 (ha : AA X kd (e :: es) fr) (hdb : (x == ("__debug__" : Str)) = false) (he : starEach (e :: es) X.env = (false, eval e X.env) :: starEach es X.env) (hpl : (backTo pos (starEach es X.env)).any (·.1) = false) :
 AE X kd (.Call (.Name x p) (e :: es) [] pos) (zH fr g) := by
 subst hC
 with_unfolding_all exact (yK (zmC M F hr hg hm hb .nil hx ha hdb he hpl) λ σ H Q h => zpk h)
end
def zmS (mg : Str -> Option Value) : Str -> Addr := λ x => match mg x with
 | some (.ref a) => a
 | _ => 0
theorem zmv {mg : Str -> Option Value} {x : Str} {a : Addr} (h : mg x = some (.ref a)) : zmS mg x = a := by
 unfold zmS; rw [h]
structure CI (K : zC) (kd : KD) (mg : Str -> Option Value) (c : Str) (C : Addr) : Prop where
 eq : kd.c c = C
 cl : Cls K C
 mks : PySem.W.makesIn K C = true
 kp : PySem.W.keepIn K (.ref C) = true
 mg : mg c = some (.ref C)
section
variable {P : Program} {w : World} {K : zC} {mg : Str -> Option Value} {base : Heap} {kd : KD} {m f : Str} {k : Nat} {tbl : List (Str × Fn)} {cs : List Str} {c : Str} {C : Addr}
theorem zcT {g : Fn} {k' : Nat} {f : Addr} {fd : FuncData} {ps : List Str} (ci : CI K kd mg c C) (me : Meth K C m f) (F : FnOk P w K mg base CX0 k' f fd ps (spD K kd g)) (hk : k' <= k) (b : Binds K fd ps []) (h : MT P w K mg base kd m k tbl) : MT P w K mg base kd m k ((c, g) :: tbl) := by
 have e := ci.eq
 subst e
 exact zmz hk ci.cl me F b h
theorem zaZ : CF K kd [] f := λ c h => nomatch h
theorem zbf (ci : CI K kd mg c C) (n : v9 K C f) (h : CF K kd cs f) : CF K kd (c :: cs) f := λ c' hm => by
 have e := ci.eq
 subst e
 rcases zS.mp hm with rfl | hm
 · exact ⟨ci.cl, n⟩
 · exact h c' hm
theorem CI.mk' {f : Addr} (ci : CI K kd mg c C) (me : Meth K C "__init__" f) : Mk K C f := ⟨ci.mks, me.at_, me.fn, ci.kp⟩
end
theorem zaN {prog : Program} {w : World} {A : Around} {E : Value -> Shared -> Prop} {s : Shared} {it l : Addr} {i : Nat} {items : Array Value} {x : Value} {Q : Value -> Shared -> Prop} (hit : s.heap.IsTupleIter it l i) (hl : s.heap.IsTuple l items) (hx : items[i]? = some x)
 (h : ∀ h' : Heap, h'.IsTupleIter it l (i + 1) -> Heap.SameBut it s.heap h' -> Q x { s with heap := h' }) : wpAny (model prog w) A (Builtin.SmallTypes.nextOf (.ref it)) Q E s := by
 obtain ⟨o, ho, hc, hd⟩ := id hit
 obtain ⟨ol, hol, hcl, nl, hdl⟩ := hl
 refine wpAny_bind (wpAny_callSpecial?_slot hit.typeIs F.slot_tuple_iterator_next (wpAny_call_entry F.slot_tuple_iterator_next hit.typeIs F.entry_tuple_iterator_next ?_))
 unfold Builtin.«tuple_iterator.__next__»
 wp_walk using wpAny_field ho hd rfl, wpAny_seqItems hol hdl
 rw [hdl]
 wp_walk
 rw [Int.toNat_natCast, hx]
 refine wpAny_bind (wpAny_setField ho hd (by simp) ?_)
 refine wpAny_pure ⟨x, rfl, wpAny_pure (h _ ⟨_, Heap.get?_update_self _ ho (Obj.isFreed_of_fields (Obj.data_mapFields hd _)), (Obj.cls_mapFields o _).trans hc, (Obj.data_mapFields hd _).trans (by simp [rawInt])⟩ (Heap.SameBut.update _ _ _))⟩
theorem zbw {prog : Program} {w : World} {A : Around} {E : Value -> Shared -> Prop} {s : Shared} {it l : Addr} {i : Nat} {items : Array Value} {Q : Value -> Shared -> Prop} (hh : A.handled = none) (hit : s.heap.IsTupleIter it l i) (hl : s.heap.IsTuple l items) (hx : items[i]? = none)
 (h : ∀ (h' : Heap) (e : Addr), Heap.ExtBut it s.heap h' -> (∃ o, h'.get? e = some o /\ o.cls = .type "StopIteration") -> E (.ref e) { s with heap := h' }) : wpAny (model prog w) A (Builtin.SmallTypes.nextOf (.ref it)) Q E s := by
 obtain ⟨o, ho, hc, hd⟩ := id hit
 obtain ⟨ol, hol, hcl, nl, hdl⟩ := hl
 refine wpAny_bind (wpAny_callSpecial?_slot hit.typeIs F.slot_tuple_iterator_next (wpAny_call_entry F.slot_tuple_iterator_next hit.typeIs F.entry_tuple_iterator_next ?_))
 unfold Builtin.«tuple_iterator.__next__»
 wp_walk using wpAny_field ho hd rfl, wpAny_seqItems hol hdl
 rw [hdl]
 wp_walk
 rw [Int.toNat_natCast, hx]
 refine wpAny_bind (wpAny_rule (wpAny_bind (wpAny_setField ho hd (by simp) ?_)))
 wp_walk
 refine wpAny_raiseNew_none hh (h _ _ (((Heap.SameBut.update _ _ _).extBut.push _).push _) ⟨_, Heap.get?_push_size _ rfl, rfl⟩)
def SIt (b : Bool) (h : Heap) (it l : Addr) (k : Nat) : Prop := if b = true then h.IsTupleIter it l k else h.IsListIter it l k
def SSq (b : Bool) (h : Heap) (l : Addr) (xs : Array Value) : Prop := if b = true then h.IsTuple l xs else h.IsList l xs
theorem vJ {prog : Program} {w : World} {A : Around} {E : Value -> Shared -> Prop} {s : Shared} {it l : Addr} {i : Nat} {items : Array Value} {x : Value} {Q : Value -> Shared -> Prop} : ∀ {b : Bool}, SIt b s.heap it l i -> SSq b s.heap l items -> items[i]? = some x ->
 (∀ h' : Heap, SIt b h' it l (i + 1) -> Heap.SameBut it s.heap h' -> Q x { s with heap := h' }) -> wpAny (model prog w) A (Builtin.SmallTypes.nextOf (.ref it)) Q E s
 | true, h1, h2, h3, h4 => zaN h1 h2 h3 h4
 | false, h1, h2, h3, h4 => wpAny_nextOf_list_item h1 h2 h3 h4
theorem XH {prog : Program} {w : World} {A : Around} {E : Value -> Shared -> Prop} {s : Shared} {it l : Addr} {i : Nat} {items : Array Value} {Q : Value -> Shared -> Prop} (hh : A.handled = none) : ∀ {b : Bool}, SIt b s.heap it l i -> SSq b s.heap l items -> items[i]? = none ->
 (∀ (h' : Heap) (e : Addr), Heap.ExtBut it s.heap h' -> (∃ o, h'.get? e = some o /\ o.cls = .type "StopIteration") -> E (.ref e) { s with heap := h' }) -> wpAny (model prog w) A (Builtin.SmallTypes.nextOf (.ref it)) Q E s
 | true, h1, h2, h3, h4 => zbw hh h1 h2 h3 h4
 | false, h1, h2, h3, h4 => wpAny_nextOf_list_end hh h1 h2 h3 h4
theorem SIt.ext {a : Addr} {h h' : Heap} {it l : Addr} {k : Nat} : ∀ {b : Bool}, SIt b h it l k -> Heap.ExtBut a h h' -> it ≠ a -> SIt b h' it l k
 | true, x, e, n => Heap.IsTupleIter.extBut x e n
 | false, x, e, n => Heap.IsListIter.extBut x e n
theorem SSq.ext {a : Addr} {h h' : Heap} {l : Addr} {xs : Array Value} : ∀ {b : Bool}, SSq b h l xs -> Heap.ExtBut a h h' -> l ≠ a -> SSq b h' l xs
 | true, x, e, n => Heap.IsTuple.extBut x e n
 | false, x, e, n => Heap.IsList.extBut x e n
theorem SIt.at {h h' : Heap} {it l : Addr} {k : Nat} (k' : ∀ o, h.get? it = some o -> h'.get? it = some o) : ∀ {b : Bool}, SIt b h it l k -> SIt b h' it l k
 | true, ⟨o, e, c⟩ => ⟨o, k' o e, c⟩
 | false, ⟨o, e, c⟩ => ⟨o, k' o e, c⟩
theorem SIt.push {h : Heap} {it l : Addr} {k : Nat} {o : Obj} {b : Bool} (x : SIt b h it l k) : SIt b (h.push o) it l k := x.at λ _ e => Heap.get?_push_of_some _ e
theorem zdW {M : Model} {A : Around} {E : Value -> Shared -> Prop} {s : Shared} {a : Addr} {Q : Option Obj -> Shared -> Prop} (h : Q (s.heap.get? a) s) : wpAny M A (loadIfAlive a) Q E s := λ Γ p hΓ => by
 unfold loadIfAlive
 rw [Sem.wp_loadIfAlive]
 exact wpAny_pure (M := M) (A := A) (E := E) h Γ p hΓ
def IsZ (h : Heap) (z TI TO : Addr) (f0 : Value) (f1 : Bool) : Prop := h.get? z = some { cls := .type "zip", data := .fields #[f0, .bool f1, .bool false, .ref TI, .ref TO] }
def Zf (f0 : Value) : Prop := f0 = .none \/ ∃ n : Int, f0 = rawInt n
theorem zit {prog : Program} {w : World} {A : Around} {E : Value -> Shared -> Prop} {s : Shared} {z TI TO : Addr} {f0 : Value} {f1 : Bool} {Q : Bool -> Shared -> Prop} (hz : IsZ s.heap z TI TO f0 f1) (hf : Zf f0) (h1 : Q true s) (h2 : ∀ h' f1', IsZ h' z TI TO f0 f1' -> Heap.SameBut z s.heap h' -> Q false { s with heap := h' }) :
 wpAny (model prog w) A (Builtin.SmallTypes.ownedTupleIsFree (.ref z)) Q E s := by
 rcases hf with rfl | ⟨n, rfl⟩
 · exact wpAny_bind (wpAny_field hz rfl rfl (wpAny_pure h1))
 · refine wpAny_bind (wpAny_field hz rfl rfl ?_)
   change wpAny (model prog w) A (bind (loadIfAlive n.toNat) _) Q E s
   refine wpAny_bind (zdW ?_)
   cases e : s.heap.get? n.toNat with
   | none => exact wpAny_pure h1
   | some o =>
    rw [if_neg (by simp)]
    refine wpAny_bind (wpAny_field hz rfl rfl ?_)
    cases f1 with
    | true => exact wpAny_pure (h2 s.heap true hz (Heap.SameBut.refl _ _))
    | false => exact wpAny_bind (wpAny_setField_rec hz (by simp) λ h' hz' hs => wpAny_pure (h2 h' true hz' hs))
theorem zkp {b1 b2 : Bool} {prog : Program} {w : World} {A : Around} {E : Value -> Shared -> Prop} {s : Shared} {z TI TO i1 i2 l1 l2 : Addr} {k1 k2 : Nat} {xs ys : Array Value} {x y a b f0 : Value} {f1 : Bool} {Q : Value -> Shared -> Prop} (D : ZipApart z TI TO i1 i2 l1 l2)
 (hz : IsZ s.heap z TI TO f0 f1) (hf : Zf f0) (hTI : IsPair s.heap TI (.ref i1) (.ref i2)) (hTO : IsPair s.heap TO a b) (h1 : SIt b1 s.heap i1 l1 k1) (h2 : SIt b2 s.heap i2 l2 k2) (q1 : SSq b1 s.heap l1 xs) (q2 : SSq b2 s.heap l2 ys) (hx : xs[k1]? = some x) (hy : ys[k2]? = some y)
 (h : ∀ (h' : Heap) (g0 : Value) (g1 : Bool), IsZ h' z TI TO g0 g1 -> Zf g0 -> (∃ p q, IsPair h' TO p q) -> SIt b1 h' i1 l1 (k1 + 1) -> SIt b2 h' i2 l2 (k2 + 1) -> IsPair h' s.heap.objs.size x y -> (∀ c o, c ≠ z -> c ≠ TO -> c ≠ i1 -> c ≠ i2 -> s.heap.get? c = some o -> h'.get? c = some o) -> Q (.ref s.heap.objs.size) { s with heap := h' }) :
 wpAny (model prog w) A (Builtin.«zip.__next__» { pos := [.ref z] }) (λ fin s' => ∃ v, fin = Fin.done (Flow.ret v) /\ Q v s') E s := by
 change wpAny (model prog w) A (bind (field (.ref z) 2) _) _ E s
 refine wpAny_bind (wpAny_field hz rfl rfl ?_)
 change wpAny (model prog w) A (bind (field (.ref z) 3) _) _ E s
 refine wpAny_bind (wpAny_field hz rfl rfl (wpAny_bind (wpAny_seqItems hTI rfl ?_)))
 change wpAny (model prog w) A (bind (Builtin.SmallTypes.ownedTupleIsFree (.ref z)) _) _ E s
 refine wpAny_bind (zit hz hf ?_ λ h₁ g1 z1 hs₁ => ?_)
 · rw [if_pos rfl]
   refine wpAny_bind (wpAny_rule (wpAny_bind (wpAny_field hz rfl rfl ?_)))
   refine wpAny_bind (wpAny_setField_rec hz (by simp) λ h₁ hz₁ hs₁ => ?_)
   refine wpAny_bind ?_
   rw [show (#[Value.ref i1, Value.ref i2].toList.zipIdx) = [(Value.ref i1, 0), (Value.ref i2, 1)] from rfl, List.forIn_cons]
   have x1 := h1.ext hs₁.extBut D.i1z
   have y1 := q1.ext hs₁.extBut D.l1z
   refine wpAny_bind (wpAny_bind (wpAny_onRaise ?_))
   change wpAny (model prog w) A (bind (Builtin.SmallTypes.nextOf (.ref i1)) _) _ _ _
   refine wpAny_bind (vJ x1 y1 hx λ h₂ x2 hs₂ => wpAny_pure ?_)
   have t2 : IsPair h₂ TO a b := hs₂.extBut TO _ D.TOi1 (hs₁.extBut TO _ D.TOz hTO)
   refine wpAny_bind (wpAny_seqItems t2 rfl (wpAny_bind (wpAny_updateSeq_pair t2 λ h₃ t3 hs₃ => ?_)))
   refine wpAny_bind (wpAny_letGo (wpAny_pure ?_))
   have x3 := ((h2.ext hs₁.extBut D.i2z).ext hs₂.extBut D.i12.symm).ext hs₃.extBut D.TOi2.symm
   have y3 := ((q2.ext hs₁.extBut D.l2z).ext hs₂.extBut D.l2i1).ext hs₃.extBut D.l2TO
   change wpAny (model prog w) A (forIn [(Value.ref i2, 1)] _ _) _ E _
   rw [List.forIn_cons]
   refine wpAny_bind (wpAny_bind (wpAny_onRaise ?_))
   change wpAny (model prog w) A (bind (Builtin.SmallTypes.nextOf (.ref i2)) _) _ _ _
   refine wpAny_bind (vJ x3 y3 hy λ h₄ x4 hs₄ => wpAny_pure ?_)
   have t4 : IsPair h₄ TO x b := hs₄.extBut TO _ D.TOi2 t3
   refine wpAny_bind (wpAny_seqItems t4 rfl (wpAny_bind (wpAny_updateSeq_pair t4 λ h₅ t5 hs₅ => ?_)))
   refine wpAny_bind (wpAny_letGo (wpAny_pure ?_))
   change wpAny (model prog w) A (forIn [] _ _) _ E _
   rw [List.forIn_nil]
   refine wpAny_pure ?_
   have t5 : IsPair h₅ TO x y := t5
   refine wpAny_bind (wpAny_seqItems t5 rfl (wpAny_bind (wpAny_newTuple ?_)))
   have e5 : h₅.objs.size = s.heap.objs.size := hs₅.1.trans (hs₄.1.trans (hs₃.1.trans (hs₂.1.trans hs₁.1)))
   have z1 : IsZ h₁ z TI TO .ellipsis f1 := hz₁
   have z5 : IsZ h₅ z TI TO .ellipsis f1 := hs₅.extBut z _ D.TOz.symm (hs₄.extBut z _ D.i2z.symm (hs₃.extBut z _ D.TOz.symm (hs₂.extBut z _ D.i1z.symm z1)))
   refine wpAny_bind ?_
   change wpAny (model prog w) A (bind (setField (.ref z) 0 (rawInt (h₅.objs.size : Int))) λ _ => setField (.ref z) 1 (.bool false)) _ E { s with heap := h₅.push { cls := .type "tuple", data := .seq #[x, y] } }
   refine wpAny_bind (wpAny_setField_rec (s := { s with heap := h₅.push { cls := .type "tuple", data := .seq #[x, y] } }) (Heap.get?_push_of_some _ z5) (by simp) λ h₇ z7 hs₇ => ?_)
   refine wpAny_setField_rec z7 (by simp) λ h₆ z6 hs₆' => wpAny_pure ⟨_, rfl, ?_⟩
   have hs₆ := hs₇.trans hs₆'
   have lt : ∀ c o, h₅.get? c = some o -> c ≠ z -> h₆.get? c = some o := λ c o q n => hs₆.extBut c o n (Heap.get?_push_of_some _ q)
   have nz : h₅.objs.size ≠ z := λ e => by
    have := Heap.lt_size z5
    rw [<- e] at this
    exact Nat.lt_irrefl _ this
   show Q (.ref h₅.objs.size) { s with heap := h₆ }
   rw [e5]
   refine h h₆ (rawInt (h₅.objs.size : Int)) false z6 (.inr ⟨_, rfl⟩) ⟨_, _, lt TO _ t5 D.TOz⟩ ?_ ?_ ?_ λ c o c1 c2 c3 c4 q => ?_
   · have := ((x2.ext hs₃.extBut D.TOi1.symm).ext hs₄.extBut D.i12).ext hs₅.extBut D.TOi1.symm
     exact (SIt.push this).ext hs₆.extBut D.i1z
   · exact (SIt.push (x4.ext hs₅.extBut D.TOi2.symm)).ext hs₆.extBut D.i2z
   · rw [<- e5]
     exact hs₆.extBut _ _ nz (Heap.get?_push_size _ rfl)
   · exact lt c o (hs₅.extBut c o c2 (hs₄.extBut c o c4 (hs₃.extBut c o c2 (hs₂.extBut c o c3 (hs₁.extBut c o c1 q))))) c1
 · rw [if_neg (by simp)]
   change wpAny (model prog w) A (bind (forIn #[Value.ref i1, Value.ref i2] _ _) _) _ E _
   rw [<- Array.forIn_toList, show #[Value.ref i1, Value.ref i2].toList = [Value.ref i1, Value.ref i2] from rfl, List.forIn_cons]
   have x1 := h1.ext hs₁.extBut D.i1z
   have y1 := q1.ext hs₁.extBut D.l1z
   refine wpAny_bind (wpAny_bind (wpAny_bind (wpAny_holding ?_)))
   change wpAny (model prog w) A (bind (Builtin.SmallTypes.nextOf (.ref i1)) _) _ _ _
   refine wpAny_bind (vJ x1 y1 hx λ h₂ x2 hs₂ => wpAny_pure (wpAny_pure ?_))
   change wpAny (model prog w) A (forIn [Value.ref i2] _ _) _ E _
   rw [List.forIn_cons]
   have x3 := (h2.ext hs₁.extBut D.i2z).ext hs₂.extBut D.i12.symm
   have y3 := (q2.ext hs₁.extBut D.l2z).ext hs₂.extBut D.l2i1
   refine wpAny_bind (wpAny_bind (wpAny_holding ?_))
   change wpAny (model prog w) A (bind (Builtin.SmallTypes.nextOf (.ref i2)) _) _ _ _
   refine wpAny_bind (vJ x3 y3 hy λ h₄ x4 hs₄ => wpAny_pure (wpAny_pure ?_))
   change wpAny (model prog w) A (forIn [] _ _) _ E _
   rw [List.forIn_nil]
   refine wpAny_pure (wpAny_bind (wpAny_newTuple ?_ (show 2 <= sizeLine by decide)))
   refine wpAny_pure ⟨_, rfl, ?_⟩
   have e4 : h₄.objs.size = s.heap.objs.size := hs₄.1.trans (hs₂.1.trans hs₁.1)
   show Q (.ref h₄.objs.size) { s with heap := h₄.push { cls := .type "tuple", data := .seq #[x, y] } }
   have z4 : IsZ h₄ z TI TO f0 g1 := hs₄.extBut z _ D.i2z.symm (hs₂.extBut z _ D.i1z.symm z1)
   have t4 : IsPair h₄ TO a b := hs₄.extBut TO _ D.TOi2 (hs₂.extBut TO _ D.TOi1 (hs₁.extBut TO _ D.TOz hTO))
   rw [e4]
   refine h _ f0 g1 (Heap.get?_push_of_some _ z4) hf ⟨_, _, Heap.get?_push_of_some _ t4⟩ (SIt.push (x2.ext hs₄.extBut D.i12)) (SIt.push x4) ?_ λ c o c1 c2 c3 c4 q => Heap.get?_push_of_some _ (hs₄.extBut c o c4 (hs₂.extBut c o c3 (hs₁.extBut c o c1 q)))
   rw [<- e4]
   exact Heap.get?_push_size _ rfl
theorem zne {b1 b2 : Bool} {prog : Program} {w : World} {A : Around} {E : Value -> Shared -> Prop} {s : Shared} {z TI TO i1 i2 l1 l2 : Addr} {k1 k2 : Nat} {xs ys : Array Value} {a b f0 : Value} {f1 : Bool} {Q : PySem.Fin -> Shared -> Prop} (hh : A.handled = none) (D : ZipApart z TI TO i1 i2 l1 l2)
 (hz : IsZ s.heap z TI TO f0 f1) (hf : Zf f0) (hTI : IsPair s.heap TI (.ref i1) (.ref i2)) (hTO : IsPair s.heap TO a b) (h1 : SIt b1 s.heap i1 l1 k1) (h2 : SIt b2 s.heap i2 l2 k2) (q1 : SSq b1 s.heap l1 xs) (q2 : SSq b2 s.heap l2 ys) (hx : xs[k1]? = none \/ ys[k2]? = none)
 (h : ∀ (h' : Heap) (e : Addr), (∀ c o, c ≠ z -> c ≠ TO -> c ≠ i1 -> c ≠ i2 -> s.heap.get? c = some o -> h'.get? c = some o) -> (∃ o, h'.get? e = some o /\ o.cls = .type "StopIteration") -> E (.ref e) { s with heap := h' }) :
 wpAny (model prog w) A (Builtin.«zip.__next__» { pos := [.ref z] }) Q E s := by
 have fin : ∀ (h' : Heap) (e : Addr), (∃ f g, IsZ h' z TI TO f g) -> (∀ c o, c ≠ z -> c ≠ TO -> c ≠ i1 -> c ≠ i2 -> s.heap.get? c = some o -> h'.get? c = some o) -> (∃ o, h'.get? e = some o /\ o.cls = .type "StopIteration") ->
  wpAny (model prog w) A (setField (.ref z) 0 Value.none) (λ _ s'' => E (.ref e) s'') E { s with heap := h' } := λ h' e ⟨f, g, hf⟩ kk ⟨o, ho, hc⟩ => by
  refine wpAny_setField_rec (s := { s with heap := h' }) hf (by simp) λ h'' z'' hs => ?_
  have ne : e ≠ z := λ e' => by
   subst e'
   have := (show h'.get? e = some _ from hf).symm.trans ho
   cases this
   exact absurd (show Value.type "zip" = Value.type "StopIteration" from hc) (by decide)
  exact h h'' e (λ c o c1 c2 c3 c4 q => hs.extBut c o c1 (kk c o c1 c2 c3 c4 q)) ⟨o, hs.extBut e o ne ho, hc⟩
 change wpAny (model prog w) A (bind (field (.ref z) 2) _) _ E s
 refine wpAny_bind (wpAny_field hz rfl rfl ?_)
 change wpAny (model prog w) A (bind (field (.ref z) 3) _) _ E s
 refine wpAny_bind (wpAny_field hz rfl rfl (wpAny_bind (wpAny_seqItems hTI rfl ?_)))
 change wpAny (model prog w) A (bind (Builtin.SmallTypes.ownedTupleIsFree (.ref z)) _) _ E s
 refine wpAny_bind (zit hz hf ?_ λ h₁ g1 z1 hs₁ => ?_)
 · rw [if_pos rfl]
   refine wpAny_bind (wpAny_rule (wpAny_bind (wpAny_field hz rfl rfl ?_)))
   refine wpAny_bind (wpAny_setField_rec hz (by simp) λ h₁ hz₁ hs₁ => ?_)
   refine wpAny_bind ?_
   rw [show (#[Value.ref i1, Value.ref i2].toList.zipIdx) = [(Value.ref i1, 0), (Value.ref i2, 1)] from rfl, List.forIn_cons]
   have z1 : IsZ h₁ z TI TO .ellipsis f1 := hz₁
   have x1 := h1.ext hs₁.extBut D.i1z
   have y1 := q1.ext hs₁.extBut D.l1z
   refine wpAny_bind (wpAny_bind (wpAny_onRaise ?_))
   change wpAny (model prog w) A (bind (Builtin.SmallTypes.nextOf (.ref i1)) _) _ _ _
   cases e1 : xs[k1]? with
   | none => exact wpAny_bind (XH hh x1 y1 e1 λ h' e ex ho => fin h' e ⟨_, _, ex z _ D.i1z.symm z1⟩ (λ c o c1 c2 c3 c4 q => ex c o c3 (hs₁.extBut c o c1 q)) ho)
   | some x =>
    have hy : ys[k2]? = none := hx.resolve_left (by rw [e1]; simp)
    refine wpAny_bind (vJ x1 y1 e1 λ h₂ x2 hs₂ => wpAny_pure ?_)
    have t2 : IsPair h₂ TO a b := hs₂.extBut TO _ D.TOi1 (hs₁.extBut TO _ D.TOz hTO)
    refine wpAny_bind (wpAny_seqItems t2 rfl (wpAny_bind (wpAny_updateSeq_pair t2 λ h₃ t3 hs₃ => ?_)))
    refine wpAny_bind (wpAny_letGo (wpAny_pure ?_))
    have x3 := ((h2.ext hs₁.extBut D.i2z).ext hs₂.extBut D.i12.symm).ext hs₃.extBut D.TOi2.symm
    have y3 := ((q2.ext hs₁.extBut D.l2z).ext hs₂.extBut D.l2i1).ext hs₃.extBut D.l2TO
    change wpAny (model prog w) A (forIn [(Value.ref i2, 1)] _ _) _ E _
    rw [List.forIn_cons]
    refine wpAny_bind (wpAny_bind (wpAny_onRaise ?_))
    change wpAny (model prog w) A (bind (Builtin.SmallTypes.nextOf (.ref i2)) _) _ _ _
    exact wpAny_bind (XH hh x3 y3 hy λ h' e ex ho => fin h' e ⟨_, _, ex z _ D.i2z.symm (hs₃.extBut z _ D.TOz.symm (hs₂.extBut z _ D.i1z.symm z1))⟩
     (λ c o c1 c2 c3 c4 q => ex c o c4 (hs₃.extBut c o c2 (hs₂.extBut c o c3 (hs₁.extBut c o c1 q)))) ho)
 · rw [if_neg (by simp)]
   change wpAny (model prog w) A (bind (forIn #[Value.ref i1, Value.ref i2] _ _) _) _ E _
   rw [<- Array.forIn_toList, show #[Value.ref i1, Value.ref i2].toList = [Value.ref i1, Value.ref i2] from rfl, List.forIn_cons]
   have x1 := h1.ext hs₁.extBut D.i1z
   have y1 := q1.ext hs₁.extBut D.l1z
   refine wpAny_bind (wpAny_bind (wpAny_bind (wpAny_holding ?_)))
   change wpAny (model prog w) A (bind (Builtin.SmallTypes.nextOf (.ref i1)) _) _ _ _
   cases e1 : xs[k1]? with
   | none => exact wpAny_bind (XH hh x1 y1 e1 λ h' e ex ho => h h' e (λ c o c1 c2 c3 c4 q => ex c o c3 (hs₁.extBut c o c1 q)) ho)
   | some x =>
    have hy : ys[k2]? = none := hx.resolve_left (by rw [e1]; simp)
    refine wpAny_bind (vJ x1 y1 e1 λ h₂ x2 hs₂ => wpAny_pure (wpAny_pure ?_))
    change wpAny (model prog w) A (forIn [Value.ref i2] _ _) _ E _
    rw [List.forIn_cons]
    have x3 := (h2.ext hs₁.extBut D.i2z).ext hs₂.extBut D.i12.symm
    have y3 := (q2.ext hs₁.extBut D.l2z).ext hs₂.extBut D.l2i1
    refine wpAny_bind (wpAny_bind (wpAny_holding ?_))
    change wpAny (model prog w) A (bind (Builtin.SmallTypes.nextOf (.ref i2)) _) _ _ _
    exact wpAny_bind (XH hh x3 y3 hy λ h' e ex ho => h h' e (λ c o c1 c2 c3 c4 q => ex c o c4 (hs₂.extBut c o c3 (hs₁.extBut c o c1 q))) ho)
theorem zgm {b1 b2 : Bool} {prog : Program} {w : World} {A : Around} {E : Value -> Shared -> Prop} {s : Shared} {z TI TO i1 i2 l1 l2 : Addr} {k1 k2 : Nat} {xs ys : Array Value} {x y a b f0 : Value} {f1 : Bool} {Q : Option Value -> Shared -> Prop} (D : ZipApart z TI TO i1 i2 l1 l2)
 (hz : IsZ s.heap z TI TO f0 f1) (hf : Zf f0) (hTI : IsPair s.heap TI (.ref i1) (.ref i2)) (hTO : IsPair s.heap TO a b) (h1 : SIt b1 s.heap i1 l1 k1) (h2 : SIt b2 s.heap i2 l2 k2) (q1 : SSq b1 s.heap l1 xs) (q2 : SSq b2 s.heap l2 ys) (hx : xs[k1]? = some x) (hy : ys[k2]? = some y)
 (h : ∀ (h' : Heap) (g0 : Value) (g1 : Bool), IsZ h' z TI TO g0 g1 -> Zf g0 -> (∃ p q, IsPair h' TO p q) -> SIt b1 h' i1 l1 (k1 + 1) -> SIt b2 h' i2 l2 (k2 + 1) -> IsPair h' s.heap.objs.size x y -> (∀ c o, c ≠ z -> c ≠ TO -> c ≠ i1 -> c ≠ i2 -> s.heap.get? c = some o -> h'.get? c = some o) -> Q (some (.ref s.heap.objs.size)) { s with heap := h' }) :
 wpAny (model prog w) A (pyNext (.ref z)) Q E s := by
 have hT : s.TypeIs (.ref z) "zip" := ⟨_, hz, rfl⟩
 exact wpAny_bind (wpAny_attempt (wpAny_callSpecial?_slot hT F.slot_zip_next (wpAny_call_entry F.slot_zip_next hT F.entry_zip_next (zkp D hz hf hTI hTO h1 h2 q1 q2 hx hy λ h' g0 g1 a1 a2 a3 a4 a5 a6 a7 => wpAny_pure (h h' g0 g1 a1 a2 a3 a4 a5 a6 a7)) (F.args_zip_next_1 _))))
theorem zfN {b1 b2 : Bool} {prog : Program} {w : World} {A : Around} {E : Value -> Shared -> Prop} {s : Shared} {z TI TO i1 i2 l1 l2 : Addr} {k1 k2 : Nat} {xs ys : Array Value} {a b f0 : Value} {f1 : Bool} {Q : Option Value -> Shared -> Prop} (hh : A.handled = none) (D : ZipApart z TI TO i1 i2 l1 l2)
 (hz : IsZ s.heap z TI TO f0 f1) (hf : Zf f0) (hTI : IsPair s.heap TI (.ref i1) (.ref i2)) (hTO : IsPair s.heap TO a b) (h1 : SIt b1 s.heap i1 l1 k1) (h2 : SIt b2 s.heap i2 l2 k2) (q1 : SSq b1 s.heap l1 xs) (q2 : SSq b2 s.heap l2 ys) (hx : xs[k1]? = none \/ ys[k2]? = none)
 (h : ∀ h' : Heap, (∀ c o, c ≠ z -> c ≠ TO -> c ≠ i1 -> c ≠ i2 -> s.heap.get? c = some o -> h'.get? c = some o) -> Q none { s with heap := h' }) : wpAny (model prog w) A (pyNext (.ref z)) Q E s := by
 have hT : s.TypeIs (.ref z) "zip" := ⟨_, hz, rfl⟩
 exact wpAny_bind (wpAny_attempt (wpAny_callSpecial?_slot hT F.slot_zip_next (wpAny_call_entry F.slot_zip_next hT F.entry_zip_next (zne hh D hz hf hTI hTO h1 h2 q1 q2 hx λ h' e hk ⟨o, ho, hc⟩ => wpAny_bind (wpAny_isInstance ⟨o, ho, hc⟩ isSubtype_stop (wpAny_pure (h h' hk)))) (F.args_zip_next_1 _))))
theorem zjf {prog : Program} {w : World} {A : Around} {E : Value -> Shared -> Prop} {s : Shared} {z TI TO T : Addr} {f0 : Value} {f1 : Bool} {Q : Unit -> Shared -> Prop} (tg : Expr) (hz : IsZ s.heap z TI TO f0 f1) (hf : Zf f0)
 (h : ∀ (h' : Heap) (g0 : Value), IsZ h' z TI TO g0 f1 -> Zf g0 -> Heap.SameBut z s.heap h' -> Q () { s with heap := h' }) : wpAny (model prog w) A (letOwnedTupleGo tg (.ref z) (.ref T)) Q E s := by
 have no : wpAny (model prog w) A (pure ()) Q E s := wpAny_pure (h s.heap f0 hz hf (Heap.SameBut.refl _ _))
 have go : wpAny (model prog w) A (bind (load z) λ o => match o.cls, o.data with
  | Value.type n, Data.fields vs => if (["enumerate", "zip", "dict_itemiterator", "dict_reverseitemiterator", "odict_iterator", "itertools.zip_longest", "itertools.pairwise"].contains n && vs[0]? == some (rawInt (T : Int))) = true then (do rule "for.unpacks-the-owned-tuple"; updateField z 0 Value.none) else pure ()
  | _, _ => pure ()) Q E s := by
  refine wpAny_bind (wpAny_load hz ?_)
  show wpAny (model prog w) A (if _ then _ else _) Q E s
  split
  · refine wpAny_bind (wpAny_rule ?_)
    exact wpAny_setField_rec hz (by simp) λ h' z' hs => h h' .none z' (.inl rfl) hs
  · exact no
 cases tg with
 | Tuple elts k pos => exact go
 | List elts pos => exact go
 | _ => exact no
def Yz (b : Bool) (l : Addr) : Obj := { cls := .type (if b = true then "tuple_iterator" else "list_iterator"), data := .fields #[.ref l, .int 0 0] }
theorem zgb {prog : Program} {w : World} {A : Around} {E : Value -> Shared -> Prop} {s : Shared} {l : Addr} {xs : Array Value} {Q : Value -> Shared -> Prop} : ∀ {b : Bool}, SSq b s.heap l xs -> Q (.ref s.heap.objs.size) { s with heap := s.heap.push (Yz b l) } -> wpAny (model prog w) A (pyIter (.ref l)) Q E s
 | true, h1, h2 => wpAny_pyIter_tuple h1 h2
 | false, h1, h2 => wpAny_pyIter_list h1 h2
theorem SSq.at {h h' : Heap} {l : Addr} {xs : Array Value} (k : ∀ o, h.get? l = some o -> h'.get? l = some o) : ∀ {b : Bool}, SSq b h l xs -> SSq b h' l xs
 | true, ⟨o, e, c⟩ => ⟨o, k o e, c⟩
 | false, ⟨o, e, c⟩ => ⟨o, k o e, c⟩
theorem zlJ {b1 b2 : Bool} (l1 l2 : Addr) (xs ys : Array Value) : Meets (Builtin.«zip.__new__» { pos := [.type "zip", .ref l1, .ref l2] }) λ _ R s => SSq b1 s.heap l1 xs /\ SSq b2 s.heap l2 ys /\
 ∀ h' : Heap, IsZ h' (s.heap.objs.size + 4) (s.heap.objs.size + 2) (s.heap.objs.size + 3) .none false -> IsPair h' (s.heap.objs.size + 2) (.ref s.heap.objs.size) (.ref (s.heap.objs.size + 1)) -> IsPair h' (s.heap.objs.size + 3) .none .none -> SIt b1 h' s.heap.objs.size l1 0 -> SIt b2 h' (s.heap.objs.size + 1) l2 0 ->
  (∀ c o, s.heap.get? c = some o -> h'.get? c = some o) -> R (.ok (.ret (.ref (s.heap.objs.size + 4)))) { s with heap := h' } :=
 .of_wp λ prog w A R s h => by
  obtain ⟨hp, g, d, tk, os⟩ := s; obtain ⟨hl1, hl2, h⟩ := h
  have hsub := sub_zip
  have p1 : ∀ {Q : Value -> Shared -> Prop} {E : Value -> Shared -> Prop} {A : Around}, Q (.ref hp.objs.size) ⟨hp.push (Yz b1 l1), g, d, tk, os⟩ -> wpAny (model prog w) A (pyIter (.ref l1)) Q E ⟨hp, g, d, tk, os⟩ := λ h => zgb hl1 h
  have p2 : ∀ {Q : Value -> Shared -> Prop} {E : Value -> Shared -> Prop} {A : Around}, Q (.ref (hp.push (Yz b1 l1)).objs.size) ⟨(hp.push (Yz b1 l1)).push (Yz b2 l2), g, d, tk, os⟩ -> wpAny (model prog w) A (pyIter (.ref l2)) Q E ⟨hp.push (Yz b1 l1), g, d, tk, os⟩ := λ h => zgb (s := ⟨hp.push (Yz b1 l1), g, d, tk, os⟩) (hl2.at λ o e => Heap.get?_push_of_some _ e) h
  wp_walk using p1, p2
  refine ⟨_, rfl, ?_⟩
  have s1 : (hp.push (Yz b1 l1)).objs.size = hp.objs.size + 1 := Heap.size_push _ _
  have s2 : ((hp.push (Yz b1 l1)).push (Yz b2 l2)).objs.size = hp.objs.size + 2 := (Heap.size_push _ _).trans (congrArg (· + 1) s1)
  generalize hh2 : (hp.push (Yz b1 l1)).push (Yz b2 l2) = h2 at s2 ⊢
  have i1 : SIt b1 h2 hp.objs.size l1 0 := by
   have : h2.get? hp.objs.size = some (Yz b1 l1) := by rw [<- hh2]; exact Heap.get?_push_of_some _ (Heap.get?_push_size _ rfl)
   cases b1 <;> exact ⟨_, this, rfl, rfl⟩
  have i2 : SIt b2 h2 (hp.objs.size + 1) l2 0 := by
   have : h2.get? (hp.objs.size + 1) = some (Yz b2 l2) := by rw [<- hh2, <- s1]; exact Heap.get?_push_size _ rfl
   cases b2 <;> exact ⟨_, this, rfl, rfl⟩
  have kp : ∀ c o, hp.get? c = some o -> h2.get? c = some o := λ c o q => by rw [<- hh2]; exact Heap.get?_push_of_some _ (Heap.get?_push_of_some _ q)
  rw [s1]
  change R (.ok (.ret (.ref ((h2.push { cls := .type "tuple", data := .seq #[.ref hp.objs.size, .ref (hp.objs.size + 1)] }).push { cls := .type "tuple", data := .seq #[.none, .none] }).objs.size)))
   ⟨((h2.push { cls := .type "tuple", data := .seq #[.ref hp.objs.size, .ref (hp.objs.size + 1)] }).push { cls := .type "tuple", data := .seq #[.none, .none] }).push { cls := .type "zip", data := .fields #[.none, .bool false, .bool false, .ref h2.objs.size, .ref (h2.push { cls := .type "tuple", data := .seq #[.ref hp.objs.size, .ref (hp.objs.size + 1)] }).objs.size] }, g, d, tk, os⟩
  have g3 := Heap.get?_push_size h2 (o := { cls := .type "tuple", data := .seq #[.ref hp.objs.size, .ref (hp.objs.size + 1)] }) rfl
  have s3 : (h2.push { cls := .type "tuple", data := .seq #[.ref hp.objs.size, .ref (hp.objs.size + 1)] }).objs.size = hp.objs.size + 3 := (Heap.size_push _ _).trans (congrArg (· + 1) s2)
  rw [s2] at g3
  rw [s2, s3]
  have k3 : ∀ c o, h2.get? c = some o -> (h2.push { cls := .type "tuple", data := .seq #[.ref hp.objs.size, .ref (hp.objs.size + 1)] }).get? c = some o := λ c o q => Heap.get?_push_of_some _ q
  generalize (h2.push { cls := .type "tuple", data := .seq #[.ref hp.objs.size, .ref (hp.objs.size + 1)] }) = h3 at *
  have g4 := Heap.get?_push_size h3 (o := { cls := .type "tuple", data := .seq #[.none, .none] }) rfl
  have s4 : (h3.push { cls := .type "tuple", data := .seq #[.none, .none] }).objs.size = hp.objs.size + 4 := (Heap.size_push _ _).trans (congrArg (· + 1) s3)
  have k4 : ∀ c o, h3.get? c = some o -> (h3.push { cls := .type "tuple", data := .seq #[.none, .none] }).get? c = some o := λ c o q => Heap.get?_push_of_some _ q
  rw [s3] at g4
  rw [s4]
  generalize (h3.push { cls := .type "tuple", data := .seq #[.none, .none] }) = h4 at *
  have g5 := Heap.get?_push_size h4 (o := { cls := .type "zip", data := .fields #[.none, .bool false, .bool false, .ref (hp.objs.size + 2), .ref (hp.objs.size + 3)] }) rfl
  rw [s4] at g5
  exact h _ g5 (Heap.get?_push_of_some _ (k4 _ _ g3)) (Heap.get?_push_of_some _ g4) (i1.at λ o e => Heap.get?_push_of_some _ (k4 _ _ (k3 _ _ e))) (i2.at λ o e => Heap.get?_push_of_some _ (k4 _ _ (k3 _ _ e))) λ c o q => Heap.get?_push_of_some _ (k4 _ _ (k3 _ _ (kp c o q)))
theorem zjg {b1 b2 : Bool} {prog : Program} {w : World} {A : Around} {E : Value -> Shared -> Prop} {s : Shared} {l1 l2 : Addr} {xs ys : Array Value} {Q : Value -> Shared -> Prop} (hl1 : SSq b1 s.heap l1 xs) (hl2 : SSq b2 s.heap l2 ys)
 (h : ∀ h' : Heap, IsZ h' (s.heap.objs.size + 4) (s.heap.objs.size + 2) (s.heap.objs.size + 3) .none false -> IsPair h' (s.heap.objs.size + 2) (.ref s.heap.objs.size) (.ref (s.heap.objs.size + 1)) -> IsPair h' (s.heap.objs.size + 3) .none .none -> SIt b1 h' s.heap.objs.size l1 0 -> SIt b2 h' (s.heap.objs.size + 1) l2 0 ->
  (∀ c o, s.heap.get? c = some o -> h'.get? c = some o) -> Q (.ref (s.heap.objs.size + 4)) { s with heap := h' }) : wpAny (model prog w) A (call (.type "zip") [.ref l1, .ref l2]) Q E s :=
 callType_new F.called_zip (by decide) (F.typeCall_zip_2 _ _) (F.newCall_zip_2 _ _) (λ obj => F.args_object_init_3 obj _ _) F.entry_zip_new (zlJ (b1 := b1) (b2 := b2) l1 l2 xs ys)
  ⟨hl1, hl2, λ h' a1 a2 a3 a4 a5 a6 => ⟨⟨_, a1, rfl⟩, h h' a1 a2 a3 a4 a5 a6⟩⟩
theorem zbU {prog : Program} {w : World} {A : Around} {E : Value -> Shared -> Prop} {s : Shared} {z TI TO : Addr} {f0 : Value} {f1 : Bool} {Q : Value -> Shared -> Prop} (hz : IsZ s.heap z TI TO f0 f1) (h : Q (.ref z) s) : wpAny (model prog w) A (pyIter (.ref z)) Q E s := by
 have hT : s.TypeIs (.ref z) "zip" := ⟨_, hz, rfl⟩
 exact wpAny_pyIter_slot hT F.slot_zip_iter (wpAny_call_entry F.slot_zip_iter hT F.entry_zip_iter (wpAny_pure ⟨.ref z, rfl, "zip", .builtin "zip.__next__", hT, F.slot_zip_next.lookup, h⟩) (F.args_zip_iter_1 _))
def SqB (K : zC) (H : Hp) : Bool -> Addr -> List V -> Prop
 | true, a, xs => SqT K H a xs
 | false, a, xs => SqL K H a xs
theorem SqB.ok {X : Cx} {pins : List (Addr × Obj)} {σ : St} {H : Hp} {s : Shared} (I : Inv X pins σ H s) : ∀ {b : Bool} {a : Addr} {xs : List V}, SqB X.K H b a xs -> ∃ its : List Value, Vals xs its /\ SSq b s.heap a its.toArray
 | true, a, xs, h => by obtain ⟨its, rv, p, _⟩ := I.tuple h; exact ⟨its, rv, p⟩
 | false, a, xs, h => by obtain ⟨its, rv, p, _⟩ := I.list h; exact ⟨its, rv, p.isList⟩
theorem SqB.inj {X : Cx} {pins : List (Addr × Obj)} {σ : St} {H : Hp} {s : Shared} (I : Inv X pins σ H s) : ∀ {b : Bool} {a : Addr} {xs ys : List V}, SqB X.K H b a xs -> SqB X.K H b a ys -> xs = ys
 | true, _, _, _, h, h' => I.tuple_inj h h'
 | false, _, _, _, h, h' => I.list_inj h h'
theorem SSq.ex {h : Heap} {l : Addr} {xs : Array Value} : ∀ {b : Bool}, SSq b h l xs -> ∃ o, h.get? l = some o
 | true, ⟨o, e, _⟩ => ⟨o, e⟩
 | false, ⟨o, e, _⟩ => ⟨o, e⟩
theorem SIt.ex {h : Heap} {it l : Addr} {k : Nat} : ∀ {b : Bool}, SIt b h it l k -> ∃ o, h.get? it = some o /\ ∀ v, o.data ≠ .cell v
 | true, ⟨o, e, _, d⟩ => ⟨o, e, λ v z => by rw [d] at z; cases z⟩
 | false, ⟨o, e, _, d⟩ => ⟨o, e, λ v z => by rw [d] at z; cases z⟩
def zoR (K : zC) (b1 b2 : Bool) (a b : Addr) : It :=
 ⟨λ i H => ∃ xs ys x y, SqB K H b1 a xs /\ SqB K H b2 b ys /\ xs[i]? = some x /\ ys[i]? = some y,
  λ i H v H' => ∃ T x y, H T = none /\ v = .ref T /\ H' = upd H T (.tup [x, y]) /\ (∀ xs, SqB K H b1 a xs -> xs[i]? = some x) /\ ∀ ys, SqB K H b2 b ys -> ys[i]? = some y,
  λ i H => ∃ xs ys, SqB K H b1 a xs /\ SqB K H b2 b ys /\ (xs.length <= i \/ ys.length <= i)⟩
theorem zjM {P : Program} {w : World} {K : zC} {tg : Expr} {b1 b2 : Bool} (a b z TI TO i1 i2 : Addr) (D : ZipApart z TI TO i1 i2 a b) : Turn P w K tg (zoR K b1 b2 a b) [z, TI, TO, i1, i2] z
 (λ i h => (∃ f0 f1, IsZ h z TI TO f0 f1 /\ Zf f0) /\ IsPair h TI (.ref i1) (.ref i2) /\ (∃ p q, IsPair h TO p q) /\ SIt b1 h i1 a i /\ SIt b2 h i2 b i) where
 mem := by simp
 obj := λ i h st c hc => by
  obtain ⟨⟨f0, f1, hz, _⟩, hTI, ⟨p, q, hTO⟩, h1, h2⟩ := st
  simp only [zS, List.not_mem_nil, or_false] at hc
  rcases hc with rfl | rfl | rfl | rfl | rfl
  · exact ⟨_, hz, λ v z => by cases z⟩
  · exact ⟨_, hTI, λ v z => by cases z⟩
  · exact ⟨_, hTO, λ v z => by cases z⟩
  · exact h1.ex
  · exact h2.ex
 keep := λ i h h' st kk => by
  obtain ⟨⟨f0, f1, hz, hf⟩, hTI, ⟨p, q, hTO⟩, h1, h2⟩ := st
  exact ⟨⟨f0, f1, kk z (by simp) _ hz, hf⟩, kk TI (by simp) _ hTI, ⟨p, q, kk TO (by simp) _ hTO⟩, h1.at λ o e => kk i1 (by simp) o e, h2.at λ o e => kk i2 (by simp) o e⟩
 item := by
  intro X hP hw hK hc i pins s σ H E I hf st hg
  subst hP hw hK
  obtain ⟨xs, ys, x, y, hq, hr, hx, hy⟩ := hg
  obtain ⟨its, rv, p⟩ := hq.ok I
  obtain ⟨jts, rw', p'⟩ := hr.ok I
  obtain ⟨u, hu, ru⟩ := rv.get hx
  obtain ⟨u', hu', ru'⟩ := rw'.get hy
  obtain ⟨⟨f0, f1, hz, zf⟩, hTI, ⟨pp, qq, hTO⟩, h1, h2⟩ := st
  refine zgm D hz zf hTI hTO h1 h2 p p' (x := u) (y := u') (by simpa using hu) (by simpa using hu') λ h' g0 g1 z' zf' to' i1' i2' pr kk => ⟨_, rfl, zjf tg z' zf' λ h9 e0 z2 zf2 hs => ?_⟩
  have hn : H s.heap.objs.size = none := I.hok.fresh (zzK _)
  have fr : ∀ c o, s.heap.get? c = some o -> c ≠ s.heap.objs.size := λ c o e z => by
   have := Heap.lt_size e
   rw [z] at this
   exact Nat.lt_irrefl _ this
  have nz : s.heap.objs.size ≠ z := (fr z _ hz).symm
  have k2 : ∀ c o, c ∉ [z, TI, TO, i1, i2] -> s.heap.get? c = some o -> h9.get? c = some o := λ c o hb q => by
   simp only [zS, List.not_mem_nil, or_false, not_or] at hb
   exact hs.extBut c o hb.1 (kk c o hb.1 hb.2.2.1 hb.2.2.2.1 hb.2.2.2.2 q)
  have hTI2 : IsPair h9 TI (.ref i1) (.ref i2) := hs.extBut TI _ D.TIz (kk TI _ D.TIz D.TITO D.TIi1 D.TIi2 hTI)
  obtain ⟨p1, q1, to1⟩ := to'
  refine ⟨.ref s.heap.objs.size, upd H s.heap.objs.size (.tup [x, y]), zeZ (s := s) (t' := s.toks) (ch := [z, TI, TO, i1, i2]) I hf k2 (zzK _) ⟨by show 2 <= sizeLine; decide, [u, u'], .cons ru (.cons ru' .nil), ⟨_, hs.extBut _ _ nz pr, rfl, _, rfl⟩⟩, rfl,
   ⟨_, x, y, hn, rfl, rfl, λ q hq' => by rw [SqB.inj I hq' hq]; exact hx, λ q hq' => by rw [SqB.inj I hq' hr]; exact hy⟩, ⟨⟨e0, g1, z2, zf2⟩, hTI2, ⟨p1, q1, hs.extBut TO _ D.TOz to1⟩, i1'.ext hs.extBut D.i1z, i2'.ext hs.extBut D.i2z⟩, λ c hc => ?_⟩
  have hcT : c ≠ s.heap.objs.size := by
   simp only [zS, List.not_mem_nil, or_false] at hc
   rcases hc with rfl | rfl | rfl | rfl | rfl
   · exact fr _ _ hz
   · exact fr _ _ hTI
   · exact fr _ _ hTO
   · obtain ⟨o, e, _⟩ := h1.ex; exact fr _ _ e
   · obtain ⟨o, e, _⟩ := h2.ex; exact fr _ _ e
  rw [zO hcT]
  exact (hf c hc).1
 done := by
  intro X hP hw hK hc i pins s σ H E I hf st hg
  subst hP hw hK
  obtain ⟨xs, ys, hq, hr, hx⟩ := hg
  obtain ⟨its, rv, p⟩ := hq.ok I
  obtain ⟨jts, rw', p'⟩ := hr.ok I
  have hl := rv.length
  have hl' := rw'.length
  obtain ⟨⟨f0, f1, hz, zf⟩, hTI, ⟨pp, qq, hTO⟩, h1, h2⟩ := st
  refine zfN (I.ok.hd hc) D hz zf hTI hTO h1 h2 p p' (hx.imp (λ h => by simp; omega) (λ h => by simp; omega)) λ h' eb => ⟨rfl, zhy (t' := s.toks) (ch := [z, TI, TO, i1, i2]) I hf λ c o hc q => ?_⟩
  simp only [zS, List.not_mem_nil, or_false, not_or] at hc
  exact eb c o hc.1 hc.2.2.1 hc.2.2.2.1 hc.2.2.2.2 q
 self := λ _ _ _ _ _ st h => let ⟨⟨_, _, hz, _⟩, _⟩ := st; zbU hz h
section
variable {X : Cx} {tg : Expr}
def zpH (K : zC) (ta : TA) : TI := λ σ H R => ta σ H λ vs H1 => ∃ a b b1 b2, vs = [.ref a, .ref b] /\ (∃ xs, SqB K H1 b1 a xs) /\ (∃ ys, SqB K H1 b2 b ys) /\ R (zoR K b1 b2 a b) H1
theorem znt {l l' : Expr} {ta : TA} {p pos : Pos} (hg : Gl X "zip") (hm : X.mg "zip" = none) (ha : PA X [l, l'] ta) (hs : starEach [l, l'] X.env = [(false, eval l X.env), (false, eval l' X.env)]) (hs2 : starEach [l'] X.env = [(false, eval l' X.env)]) :
 PI X tg (.Call (.Name "zip" p) [l, l'] [] pos) (zpH X.K ta) := by
 intro pins s σ H R I h
 refine Call_ (XD I hg hm boot_zip (PyProof.Rows.callWith_type1 (thn (ha pos pins s σ H _ I h) λ us s1 ⟨vs, H1, I1, r1, q1⟩ => ?_) (by rw [hs, hs2]) (by rw [hs2]; rfl)))
 obtain ⟨a, b, b1, b2, rfl, ⟨xs, hq⟩, ⟨ys, hr⟩, q⟩ := q1
 cases r1 with
 | cons r rr =>
  cases rr with
  | cons r' rr =>
   cases rr
   cases r
   cases r'
   obtain ⟨its, rv, pl⟩ := hq.ok I1
   obtain ⟨jts, rw', pl'⟩ := hr.ok I1
   obtain ⟨o1, ho1⟩ := pl.ex
   obtain ⟨o2, ho2⟩ := pl'.ex
   refine zjg pl pl' λ h' hZ hTI hTO hi1 hi2 hk => ?_
   refine zbU hZ ⟨s1.heap.objs.size + 4, [s1.heap.objs.size + 4, s1.heap.objs.size + 2, s1.heap.objs.size + 3, s1.heap.objs.size, s1.heap.objs.size + 1], _, _, H1, rfl, I1.kept (t' := s1.toks) hk, zjM a b _ _ _ _ _ (zjC _ _ _ (Heap.lt_size ho1) (Heap.lt_size ho2)), ⟨⟨_, _, hZ, .inl rfl⟩, hTI, ⟨_, _, hTO⟩, hi1, hi2⟩, λ c hc => ?_, q⟩
   have hb' : s1.heap.objs.size <= c := by
    simp only [zS, List.not_mem_nil, or_false] at hc
    rcases hc with rfl | rfl | rfl | rfl | rfl <;> first | exact zzK _ | exact Nat.le_add_right _ _
   exact I1.fpOk hb' (I1.hok.fresh hb')
end
section
variable {X : Cx} {kd : KD} {tg e : Expr} {fa : EF}
theorem zma {K : zC} {F : Addr -> Prop} {H : Hp} {a b : Addr} {b1 b2 : Bool} {vs ws : List V} {st : Bool} {ds es : List D} (ft : ∀ a, F a -> H a ≠ none) (hs : ∀ H3 : Hp, (∀ b u, H b = some u -> H3 b = some u) -> SqB K H3 b1 a vs) (hs' : ∀ H3 : Hp, (∀ b u, H b = some u -> H3 b = some u) -> SqB K H3 b2 b ws)
 (r : RpL K kd (λ a => st = true /\ F a) H vs ds) (r' : RpL K kd (λ a => st = true /\ F a) H ws es) : ItC K kd F H (zoR K b1 b2 a b) (zbe st ds es) := ⟨λ H3 T k hT i => by
 have hr3 := hs H3 k
 have hr4 := hs' H3 k
 have hlen := zgn st ds es
 have l1 : vs.length = ds.length := r.length
 have l2 : ws.length = es.length := r'.length
 refine ⟨λ hi => ?_, λ hi => ⟨_, _, hr3, hr4, by omega⟩, λ v H4 hy => ?_⟩
 · obtain ⟨u, hu, _⟩ := r.get (zzB (show i < ds.length by omega))
   obtain ⟨u', hu', _⟩ := r'.get (zzB (show i < es.length by omega))
   exact ⟨_, _, u, u', hr3, hr4, hu, hu'⟩
 · obtain ⟨A, x, y, hn, rfl, rfl, hv, hv'⟩ := hy
   have hnH : H A = none := by
    cases e : H A with
    | none => rfl
    | some u => rw [k A u e] at hn; cases hn
   refine ⟨v6 hn, λ q hq => ?_⟩
   obtain ⟨d, e, hd, he, rfl⟩ := zgg hq
   obtain ⟨u, hu, ru⟩ := r.get hd
   obtain ⟨u', hu', ru'⟩ := r'.get he
   have := hv _ hr3
   rw [hu] at this
   cases this
   have := hv' _ hr4
   rw [hu'] at this
   cases this
   have up : ∀ {v : V} {d : D}, Rp K kd (λ a => st = true /\ F a) H v d -> Rp K kd (λ a => st = true /\ (F a \/ T a)) (upd H3 A (.tup [x, y])) v d := λ rp =>
    (rp.since (λ b o q => v6 hn b o (k b o q)) λ a z => (hT a z).1).less λ a z => z.2.elim (λ y => .inl ⟨z.1, y⟩) .inr
   exact .tup (λ z => z.2.elim (λ y => ft A y hnH) λ y => (hT A y).2 hn) (.inl yc) (.cons (up ru) (.cons (up ru') .nil))⟩
def zoQ : RV -> Option (Bool × Bool × List D)
 | .ow (.lf s (.lst l)) => some (s, false, l)
 | .ow (.lf s (.tup l)) => some (s, true, l)
 | _ => none
def zei (fr : AF) : IF := λ as => (fr as).bind λ p => (zmW p.1).bind λ o => (zoQ o.1).bind λ a => (zoQ o.2).bind λ b => some (zbe (a.1 && b.1) a.2.2 b.2.2, p.2)
theorem ziM {K : zC} {F B : Addr -> Prop} {ad : Ad} {σ : St} {H : Hp} {v : V} {r : RV} {x : Bool × Bool × List D} (e : zoQ r = some x) (rv : wI K kd F B [] ad σ H v r) : ∃ a vs, v = .ref a /\ SqB K H x.2.1 a vs /\ (∀ H3 : Hp, (∀ b u, ¬ Gw [] ad b -> H b = some u -> H3 b = some u) -> SqB K H3 x.2.1 a vs) /\ RpL K kd (Lv F B (Gw [] ad) x.1) H vs x.2.2 := by
 cases r with
 | bo i => cases e
 | ow o =>
  cases o with
  | nd k os => cases e
  | lf s d =>
   cases rv with
   | lf rp =>
    cases rp with
    | lst hn hr rl =>
     cases e
     refine ⟨_, _, rfl, .inl hr, λ H3 k => ?_, rl⟩
     rcases hr with hr | ⟨o, hr⟩
     · exact .inl (.inl (k _ _ (λ z => hn (.inr z)) hr))
     · exact .inl (.inr ⟨o, k _ _ (λ z => hn (.inr z)) hr⟩)
    | lstK a b c rl => cases e; exact ⟨_, _, rfl, .inr ⟨_, _, _, a, rfl, rfl, rfl, b, c⟩, λ H3 k => .inr ⟨_, _, _, a, rfl, rfl, rfl, b, c⟩, rl⟩
    | tup hn hr rl =>
     cases e
     refine ⟨_, _, rfl, .inl hr, λ H3 k => ?_, rl⟩
     rcases hr with hr | ⟨o, hr⟩
     · exact .inl (.inl (k _ _ (λ z => hn (.inr z)) hr))
     · exact .inl (.inr ⟨o, k _ _ (λ z => hn (.inr z)) hr⟩)
    | tupK a b c e' f rl => cases e; exact ⟨_, _, rfl, .inr ⟨_, _, _, a, b, c, e', f⟩, λ H3 k => .inr ⟨_, _, _, a, b, c, e', f⟩, rl⟩
    | _ => cases e
theorem zmt {l l' : Expr} {fr : AF} {p pos : Pos} (hg : Gl X "zip") (hm : X.mg "zip" = none) (ha : AA X kd [l, l'] fr) (hs : starEach [l, l'] X.env = [(false, eval l X.env), (false, eval l' X.env)]) (hs2 : starEach [l'] X.env = [(false, eval l' X.env)]) :
 AIc X kd tg (.Call (.Name "zip" p) [l, l'] [] pos) (zei fr) := by
 with_unfolding_all (
 intro pins s σ H R I h
 obtain ⟨F, B, ad, as, ds, as', Rl, e', q⟩ := h
 obtain ⟨⟨rs, as1⟩, h1, e'⟩ := bS_ (show (fr as).bind _ = _ from e')
 obtain ⟨⟨o1, o2⟩, e1, e'⟩ := bS_ e'
 obtain ⟨x1, e2, e'⟩ := bS_ e'
 obtain ⟨x2, e3, e'⟩ := bS_ e'
 cases zeF e1
 cases e'
 refine znt hg hm ha hs hs2 pins s σ H R I ⟨F, B, ad, as, _, as1, Rl, h1, λ vs ad1 H1 R1 rv1 g1 => ?_⟩
 cases rv1 with
 | cons r1 rr =>
  cases rr with
  | cons r2 rr =>
   cases rr
   obtain ⟨a, vs, rfl, sa, ka, ra⟩ := ziM e2 r1
   obtain ⟨b, ws, rfl, sb, kb, rb⟩ := ziM e3 r2
   refine ⟨a, b, _, _, rfl, ⟨_, sa⟩, ⟨_, sb⟩, q _ ad1 H1 R1 g1 (zma (R1.trk true) (λ H3 k => ka H3 λ b u n h => k b u h) (λ H3 k => kb H3 λ b u n h => k b u h) (ra.less λ a z => ?_) (rb.less λ a z => ?_))⟩
   · have z1 := (Bool.and_eq_true_iff.mp z.1).1
     rw [z1]; exact z.2
   · have z1 := (Bool.and_eq_true_iff.mp z.1).2
     rw [z1]; exact z.2)
end
theorem szs {n : Nat} (h : n <= 1000000) : n <= sizeLine := zzL h (by decide)
section
variable {as : AS} {f fo a b : EF} {fr : AF} {s t : Bool} {x y z d : D} {c m : Str} {ns cs : List Str} {ds : List D} {tbl : List (Str × Fn)} {g : Fn} {o : O}
theorem zmp {n : Str} (h : WD fo as s (.ob c ns ds)) (hc : c ∈ cs) (hl : lkp ns ds n = some d) : WD (f1 fo (zai cs n)) as (zU d || s) d := by
 unfold WD f1 at *
 rw [h]
 show (if c ∈ cs then (lkp ns ds n).bind λ d => some (R0.im d) else none : Option R0).bind _ = _
 rw [if_pos hc, hl]
 show (if (zU d || (some s).isSome) = true then _ else _ : Option RV).bind _ = _
 rw [if_pos (by simp)]; rfl
theorem zcD {rs : List (Bool × D)} (ho : WD fo as s (.ob c ns ds)) (hm : m ∉ ns) (ht : lkT tbl c = some g) (hr : WA fr as rs) (hg : g ((s, .ob c ns ds) :: rs.map λ x => (zU x.2 || x.1, x.2)) = some o) : ZC tbl m fo fr as = some (.ow o, as) := by
 unfold ZC; unfold WD at ho; unfold WA at hr
 rw [ho]
 show (if m ∈ ns then none else some c : Option Str).bind _ = _
 rw [if_neg hm]
 show (lkT tbl c).bind _ = _
 rw [ht]
 show (fr as).bind _ = _
 rw [hr]
 show (Xh as (.ow (.lf s (.ob c ns ds)) :: rs.map _)).bind _ = _
 show ((Xh as (rs.map _)).bind _ : Option (List (Bool × D))).bind _ = _
 rw [Vu]
 show (g ((s, .ob c ns ds) :: _)).bind _ = _
 rw [hg]; rfl
theorem zqz (ho : WD fo as true (.ob c ns ds)) (hm : m ∉ ns) (ht : lkT tbl c = some g) (hg : RE (g [(true, .ob c ns ds)]) z) : WE (ZC tbl m fo aN) as z := by
 obtain ⟨o, h1, h2, h3⟩ := hg
 exact ⟨o, zcD ho hm ht zL h1, h2, h3⟩
theorem zqo (ho : WD fo as true (.ob c ns ds)) (hm : m ∉ ns) (ht : lkT tbl c = some g) (ha : WE a as x) (hg : RE (g [(true, .ob c ns ds), (true, x)]) z) : WE (ZC tbl m fo (aC a aN)) as z := by
 obtain ⟨o, h1, h2, h3⟩ := hg
 exact ⟨o, zcD ho hm ht (Yk ha zL) (by show g [_, (zU x || true, x)] = _; rw [Bool.or_true]; exact h1), h2, h3⟩
theorem znW (ho : WD fo as true (.ob c ns ds)) (hm : m ∉ ns) (ht : lkT tbl c = some g) (ha : WE a as x) (hb : WE b as y) (hg : RE (g [(true, .ob c ns ds), (true, x), (true, y)]) z) : WE (ZC tbl m fo (aC a (aC b aN))) as z := by
 obtain ⟨o, h1, h2, h3⟩ := hg
 exact ⟨o, zcD ho hm ht (Yk ha (Yk hb zL)) (by show g [_, (zU x || true, x), (zU y || true, y)] = _; rw [Bool.or_true, Bool.or_true]; exact h1), h2, h3⟩
theorem ziH {e : EF} {w : D} (ho : WD fo as true (.ob c ns ds)) (hm : m ∉ ns) (ht : lkT tbl c = some g) (ha : WE a as x) (hb : WE b as y) (he : WE e as w) (hg : RE (g [(true, .ob c ns ds), (true, x), (true, y), (true, w)]) z) : WE (ZC tbl m fo (aC a (aC b (aC e aN)))) as z := by
 obtain ⟨o, h1, h2, h3⟩ := hg
 exact ⟨o, zcD ho hm ht (Yk ha (Yk hb (Yk he zL))) (by show g [_, (zU x || true, x), (zU y || true, y), (zU w || true, w)] = _; rw [Bool.or_true, Bool.or_true, Bool.or_true]; exact h1), h2, h3⟩
inductive SqD : D -> List D -> Prop
 | l (ds : List D) : SqD (.lst ds) ds
 | t (ds : List D) : SqD (.tup ds) ds
theorem zfV (st : Bool) : ∀ (xs ys : List D), zbe st xs ys = (xs.zip ys).map λ q => (st, .tup [q.1, q.2])
 | [], _ => rfl
 | _ :: _, [] => rfl
 | x :: r, y :: t => congrArg (_ :: ·) (zfV st r t)
theorem zlg {xs ys : List D} (ha : WE a as x) (hb : WE b as y) (hx : SqD x xs) (hy : SqD y ys) : zei (aC a (aC b aN)) as = some ((xs.zip ys).map λ q => (true, .tup [q.1, q.2]), as) := by
 have h : WA (aC a (aC b aN)) as [(true, x), (true, y)] := Yk ha (Yk hb zL)
 unfold WA at h
 unfold zei
 rw [h, <- zfV]
 cases hx <;> cases hy <;> rfl
theorem zeC {α : Type} {h : α -> D} {it : α -> It1} {gg : GF} {fe : EF} {as0 : AS} : ∀ (l : List α), (∀ q ∈ l, ∃ as1, gg (it q) as0 = some as1 /\ WE fe as1 (h q)) -> ∃ os, xx gg xG fe as0 (l.map it) = some os /\ O.strs os = true /\ O.toDs os = l.map h
 | [], _ => ⟨[], rfl, rfl, rfl⟩
 | q :: l, H => by
  obtain ⟨os, e1, e2, e3⟩ := zeC l λ p m => H p (zzA _ m)
  obtain ⟨as1, h1, o, h2, h3, h4⟩ := H q zzC
  refine ⟨o :: os, ?_, by show (o.str && O.strs os) = true; rw [h3, e2]; rfl, by show o.toD :: O.toDs os = _; rw [h4, e3]; rfl⟩
  show xx gg xG fe as0 (it q :: l.map it) = _
  unfold xx
  rw [h1]; show ((fe as1).bind _) = _
  rw [h2]; show (if o.str = true then _ else _) = _
  rw [if_pos h3, e1]; rfl
theorem zek {α : Type} {h : α -> D} {p : α -> Bool} {it : α -> It1} {gg : GF} {tt : TF} {fe : EF} {as0 : AS} : ∀ (l : List α), (∀ q ∈ l, ∃ as1, gg (it q) as0 = some as1 /\ WT tt as1 (p q) /\ (p q = true -> WE fe as1 (h q))) -> ∃ os, xx gg tt fe as0 (l.map it) = some os /\ O.strs os = true /\ O.toDs os = (l.filter p).map h
 | [], _ => ⟨[], rfl, rfl, rfl⟩
 | q :: l, H => by
  obtain ⟨os, e1, e2, e3⟩ := zek l λ p m => H p (zzA _ m)
  obtain ⟨as1, h1, h2, h3⟩ := H q zzC
  cases hp : p q with
  | false =>
   rw [hp] at h2
   refine ⟨os, ziU h1 h2 e1, e2, ?_⟩
   rw [List.filter_cons_of_neg (by simp [hp])]; exact e3
  | true =>
   rw [hp] at h2
   obtain ⟨o, k1, k2, k3⟩ := h3 hp
   refine ⟨o :: os, ?_, by show (o.str && O.strs os) = true; rw [k2, e2]; rfl, ?_⟩
   · unfold WT at h2
     show xx gg tt fe as0 (it q :: l.map it) = _
     unfold xx
     rw [h1]; show (tt as1).bind _ = _
     rw [h2]; show ((fe as1).bind _) = _
     rw [k1]; show (if o.str = true then _ else _) = _
     rw [if_pos k2, e1]; rfl
   · rw [List.filter_cons_of_pos hp]
     show o.toD :: O.toDs os = _
     rw [k3, e3]; rfl
theorem zgl {fi : IF} {cap : List (Option Nat)} {gg : GF} {tt : TF} {fe : EF} {xs : List It1} {os : List O} {zs : List D} (h1 : fi as = some (xs, as)) (hl : xs.length <= 1000000) (h2 : xx gg tt fe (Yy cap as) xs = some os) (hs : O.strs os = true) (e : O.toDs os = zs) : WE (yw fi cap gg tt fe) as (.lst zs) := by
 refine ⟨.nd .ls os, ?_, hs, congrArg D.lst e⟩
 unfold yw
 rw [h1]; show (if xs.length <= sizeLine then _ else _) = _
 rw [if_pos (szs hl), h2]; rfl
theorem zbn {α : Type} {h : α -> D} {it : α -> It1} {fi : IF} {cap : List (Option Nat)} {gg : GF} {fe : EF} (l : List α) (h1 : fi as = some (l.map it, as)) (hl : l.length <= 1000000) (H : ∀ q ∈ l, ∃ as1, gg (it q) (Yy cap as) = some as1 /\ WE fe as1 (h q)) : WE (yw fi cap gg xG fe) as (.lst (l.map h)) := by
 obtain ⟨os, e1, e2, e3⟩ := zeC l H
 exact zgl h1 (by rw [zD]; exact hl) e1 e2 e3
theorem zoU {α : Type} {h : α -> D} {p : α -> Bool} {it : α -> It1} {fi : IF} {cap : List (Option Nat)} {gg : GF} {tt : TF} {fe : EF} (l : List α) (h1 : fi as = some (l.map it, as)) (hl : l.length <= 1000000) (H : ∀ q ∈ l, ∃ as1, gg (it q) (Yy cap as) = some as1 /\ WT tt as1 (p q) /\ (p q = true -> WE fe as1 (h q))) : WE (yw fi cap gg tt fe) as (.lst ((l.filter p).map h)) := by
 obtain ⟨os, e1, e2, e3⟩ := zek l H
 exact zgl h1 (by rw [zD]; exact hl) e1 e2 e3
def Rt (r : Option Out) (x : D) : Prop := ∃ o, r = some (.rt o) /\ o.str = true /\ o.toD = x
theorem Zd {n m : Nat} {c : SF} {ds : List (Bool × D)} {x : D} (hl : ds.length = m) (h : Rt (c (vG n ds)) x) : RE (fnR n m c ds) x := by
 obtain ⟨o, h1, h2, h3⟩ := h
 exact ⟨o, Xl hl h1, h2, h3⟩
theorem zR {f g : SF} {as as1 : AS} {x : D} (h1 : f as = some (.nx as1)) (h2 : Rt (g as1) x) : Rt (zE f g as) x := by
 obtain ⟨o, e, h⟩ := h2
 exact ⟨o, zW h1 e, h⟩
theorem ziQ {f g : SF} {as : AS} {x : D} (h1 : Rt (f as) x) : Rt (zE f g as) x := by
 obtain ⟨o, e, h⟩ := h1
 exact ⟨o, Vq e, h⟩
theorem zlQ {c : TF} {f g : SF} {as : AS} {x : D} (h : WT c as true) (h1 : Rt (f as) x) : Rt (sIf c f g as) x := by
 obtain ⟨o, e, h2⟩ := h1
 exact ⟨o, ZQ h e, h2⟩
theorem v5 {f : EF} {as : AS} {x : D} (h : WE f as x) : Rt (yu f as) x := by
 obtain ⟨o, h1, h2, h3⟩ := h
 refine ⟨o, ?_, h2, h3⟩
 unfold yu; rw [h1]
 show ((if o.str = true then some o else none).bind _) = _
 rw [if_pos h2]; rfl
theorem RE.lf {r : Option O} {x : D} (h : r = some (.lf true x)) : RE r x := ⟨_, h, rfl, rfl⟩
theorem Vy {g : List D -> Option R0} (ha : WE a as x) (hg : g [x] = some (.im z)) : WE (fP (aC a aN) g) as z := WD.e (zor ha hg)
theorem zkh {fd : DF} {os : List O} {zs : List D} (h : WO fd as os) (hl : os.length <= 1000000) (hs : O.strs os = true) (e : O.toDs os = zs) : WE (wR fd) as (.tup zs) := by
 refine ⟨Yq os, zhm h (szs hl), ?_, ?_⟩
 · unfold Yq; split
   · exact hs
   · exact hs
 · subst e
   unfold Yq; split
   · rfl
   · rfl
theorem zpy {fd : DF} {os : List O} (h : WE a as x) (hr : WO fd as os) : ∃ o, o.str = true /\ o.toD = x /\ WO (dC a fd) as (o :: os) := by
 obtain ⟨o, h1, h2, h3⟩ := h
 exact ⟨o, h2, h3, zpF h1 hr⟩
theorem zmX (ha : WE a as x) : WE (wR (dC a dN)) as (.tup [x]) := by
 obtain ⟨o, h1, rfl, h3⟩ := zpy ha yO
 exact zkh h3 (by show 1 <= _; omega) (by show (o.str && true) = true; rw [h1]; rfl) rfl
theorem zig (ha : WE a as x) (hb : WE b as y) : WE (wR (dC a (dC b dN))) as (.tup [x, y]) := by
 obtain ⟨p, k1, rfl, k3⟩ := zpy hb yO
 obtain ⟨o, h1, rfl, h3⟩ := zpy ha k3
 exact zkh h3 (by show 2 <= _; omega) (by show (o.str && (p.str && true)) = true; rw [h1, k1]; rfl) rfl
theorem V3 {g : D -> D -> Option R0} (ha : WE a as x) (hb : WE b as y) (hg : g x y = some (.im z)) : WE (f2 a b g) as z := WD.e (f2E ha hb hg)
end
open AutoSeq1 (wpAny_loadPart')
section
variable {X : Cx} {kd : KD}
def ziT (x y : D) : Option R0 := onI (λ i j => if 0 <= j /\ j <= 1000000 /\ i.natAbs < 2 ^ 64 then some (.im (.int (i * 2 ^ j.toNat))) else none) x y
theorem zmj : OpD X kd (binaryOp .LShift) ziT := by
 intro pins s σ H x y v u Q I rx ry h
 obtain ⟨O, d, e, r, ht, vx, vy, he, q⟩ := h
 obtain ⟨i, j, rfl, rfl, he⟩ := Xb vx vy he
 obtain ⟨c, rfl⟩ := zM he
 exact zqk pins s σ H _ _ v u Q I rx ry ⟨_, _, rfl, rfl, c, yr q (.int _)⟩
end
def zqB (s : Shared) (n : Nat) (a c : Int) (s' : Shared) : Prop := ∃ h' tk acc c', s' = { s with heap := h', toks := tk } /\ (∀ b o, s.heap.get? b = some o -> h'.get? b = some o) /\ h'.get? s.heap.objs.size = some { cls := .type "list", dict := none, data := .seq acc c', slots := #[] } /\ ItemsOf (λ i v => ∃ t, v = .int (a + i * c) t) acc n
section
variable {prog : Program} {w : World} {A : Around} {E : Value -> Shared -> Prop} {s : Shared}
theorem zdS {Q : List Value -> Shared -> Prop} {r : Addr} {a b c : Int} {t u v : Tok} {n : Nat} (hh : A.handled = none) (hr : IsRange s.heap r a b c t u v) (hsmall : Builtin.Range.small a b c = true)
 (hn : Builtin.Range.rangeSize a b c = n) (hlen : n <= 2 ^ 24)
 (hQ : ∀ h' tk (acc' : Array Value), (∀ b o, s.heap.get? b = some o -> h'.get? b = some o) -> ItemsOf (λ i v => ∃ t, v = .int (a + i * c) t) acc' n -> Q acc'.toList { s with heap := h', toks := tk }) :
 wpAny (model prog w) A (collect (.ref r)) Q E s := by
 unfold collect
 refine wpAny_bind (wpAny_runValue (codeAny_builtin F.entry_proto_collect ?_))
 rw [Around.under_plainId F.plain_proto_collect _]
 show wpAny _ A.in1 (newList [] >>= λ l => again (.builtin "list.__iadd__" ⟨[l, .ref r], []⟩)) _ _ s
 refine wpAny_bind (wpAny_newObj_type ?_)
 refine wpAny_pure ⟨plainId_quiet F.plain_list_iadd _, codeAny_builtin F.entry_list_iadd ?_⟩
 rw [Around.under_plainId F.plain_list_iadd _]
 show wpAny _ A.in1 (Builtin.List.listExtendWith (.ref s.heap.objs.size) (.ref r) (.ref s.heap.objs.size)) _ _ _
 have hS : (s.heap.push { cls := .type "list", data := .seq ([] : List Value).toArray }).get? s.heap.objs.size = some { cls := .type "list", data := .seq #[] 0 } := Heap.get?_push_size _ rfl
 have fin' : ∀ s', zqB s n a c s' -> wpAny (model prog w) A (match Value.ref s.heap.objs.size with
  | Value.ref a => do
   match (<- load a).data with
    | Data.seq xs _ => pure xs.toList
    | _ => unsupported "internal:collect"
  | _ => unsupported "internal:collect") Q E s' := by
  intro s' h
  obtain ⟨h', tk, acc, c', rfl, hk, hS', hacc⟩ := h
  show wpAny _ A (load s.heap.objs.size >>= _) _ _ _
  refine wpAny_bind (wpAny_load hS' ?_)
  exact wpAny_pure (hQ h' tk acc hk hacc)
 refine wpAny_mono (wpAny_extend_range (A := A) (s := { s with heap := s.heap.push { cls := .type "list", data := .seq ([] : List Value).toArray } }) (R := λ r s' => r = .ok (.ret (.ref s.heap.objs.size)) /\ zqB s n a c s') hh (Heap.get?_push_of_some _ hr) hsmall hn hlen _ _ 0 hS ?_) (λ fin s' h => ?_) (λ e s' h => ?_)
 · intro h' tk acc c' hk hS' hacc
   exact ⟨rfl, h', tk, acc, c', rfl, λ b o e => hk b o (zzN (Heap.lt_size e)) (Heap.get?_push_of_some _ e), hS', hacc⟩
 · cases fin with
   | done f =>
    obtain ⟨e, h⟩ := h
    cases e
    exact fin' _ h
   | again c' => exact ⟨h.1, codeAny_mono h.2 λ r s'' hr => by obtain ⟨rfl, hr⟩ := hr; exact fin' _ hr⟩
 · exact absurd h.1 (by simp)
end
theorem zcj (r : Addr) {b : Int} {t u v : Tok} {n : Nat} (hsmall : Builtin.Range.small 0 b 1 = true) (hn : Builtin.Range.rangeSize 0 b 1 = n) (hlen : n <= 2 ^ 24) :
 Meets (Builtin.«tuple.__new__» ⟨[.type "tuple", .ref r], []⟩) (λ A R s => A.handled = none /\ IsRange s.heap r 0 b 1 t u v /\ ∀ (h' : Heap) (tk : Nat) (acc' : Array Value), (∀ b o, s.heap.get? b = some o -> h'.get? b = some o) -> ItemsOf (λ i v => ∃ t, v = .int (0 + i * 1) t) acc' n -> R (.ok (.ret (.ref h'.objs.size))) { s with heap := h'.push { cls := .type "tuple", data := .seq acc' }, toks := tk }) :=
 .of_wp λ prog w A R s h => by
  obtain ⟨hp, g, d, tk, os⟩ := s; obtain ⟨hh, hr, h⟩ := h
  have hsub := sub_tuple_self
  have hinit := init_tuple_lookup
  have hmh := madeHere_tuple
  have hT : Shared.TypeIs ⟨hp, g, d, tk, os⟩ (.ref r) "range" := ⟨_, hr, rfl⟩
  wp_walk using wpAny_loadPart' hr, wpAny_typeOf hT, zdS (A := A.in1) hh hr hsmall hn hlen
  intro h' tk' acc hk hacc
  show wpAny _ _ (Builtin.Tuple.tupleExact acc.toList.toArray >>= λ v => ret v) _ _ _
  unfold Builtin.Tuple.tupleExact
  refine wpAny_bind (wpAny_newObj_type ?_ (by show acc.toList.toArray.size <= sizeLine; simp only [Array.toArray_toList]; rw [hacc.1]; exact hlen))
  refine wpAny_pure ⟨_, rfl, ?_⟩
  have e : acc.toList.toArray = acc := by simp
  rw [e]
  exact h h' tk' acc hk hacc
section
variable {prog : Program} {w : World} {A : Around} {E : Value -> Shared -> Prop} {s : Shared}
theorem zcZ {r : Addr} {b : Int} {t u v : Tok} {n : Nat} {Q : Value -> Shared -> Prop} (hh : A.handled = none) (hr : IsRange s.heap r 0 b 1 t u v) (hsmall : Builtin.Range.small 0 b 1 = true) (hn : Builtin.Range.rangeSize 0 b 1 = n) (hlen : n <= 2 ^ 24)
 (h : ∀ (h' : Heap) (tk : Nat) (acc' : Array Value), (∀ b o, s.heap.get? b = some o -> h'.get? b = some o) -> ItemsOf (λ i v => ∃ t, v = .int (0 + i * 1) t) acc' n -> Q (.ref h'.objs.size) { s with heap := h'.push { cls := .type "tuple", data := .seq acc' }, toks := tk }) :
 wpAny (model prog w) A (call (.type "tuple") [.ref r]) Q E s :=
 callType_new F.called_tuple (by decide) (F.typeCall_tuple_1 _) (F.newCall_tuple_1 _) (λ obj => F.args_object_init_2 obj _) F.entry_tuple_new
  (zcj r hsmall hn hlen) ⟨hh, hr, λ h' tk acc hk hacc => ⟨⟨_, Heap.get?_push_size _ rfl, rfl⟩, h h' tk acc hk hacc⟩⟩
end
section
variable {X : Cx} {tg : Expr}
def tTR (ta : TA) : TE := λ σ H Q => zkE (zqh ta) zmc σ H λ vs H2 => ∃ r H1, ∃ j : Int, vs = [.ref r] /\ H1 r = none /\ H2 = upd H1 r (.rng 0 j) /\ 0 <= j /\ j <= 100000 /\ ∀ l, H2 l = none -> Q (.ref l) (upd H2 l (.tup ((List.range j.toNat).map λ (i : Nat) => V.int i)))
theorem zji {a : Expr} {ta : TA} {p p' pos pos' : Pos} (hc : X.calm = true) (hg : Gl X "range") (hm : X.mg "range" = none) (hgl : Gl X "tuple") (hml : X.mg "tuple" = none) (ha : PA X [a] ta) (hs : starEach [a] X.env = [(false, eval a X.env)])
 (hs' : starEach [.Call (.Name "range" p) [a] [] pos] X.env = [(false, eval (.Call (.Name "range" p) [a] [] pos) X.env)]) : PE X (.Call (.Name "tuple" p') [.Call (.Name "range" p) [a] [] pos] [] pos') (tTR ta) := by
 intro pins s σ H Q I h
 refine Call_ (XD I hgl hml Bt.tuple (PyProof.Rows.callWith_type1 (thn ((VB (zfT hg hm ha hs) zdc hs') pos' pins s σ H (λ vs H2 => ∃ r H1, ∃ j : Int, vs = [.ref r] /\ H1 r = none /\ H2 = upd H1 r (.rng 0 j) /\ 0 <= j /\ j <= 100000 /\ ∀ l, H2 l = none -> Q (.ref l) (upd H2 l (.tup ((List.range j.toNat).map λ (i : Nat) => V.int i)))) I ?_) λ us s1 ⟨vs, H2, I2, r1, q1⟩ => ?_) hs' rfl))
 · exact h
 obtain ⟨r, H1, j, rfl, hn, rfl, h0, h1, q⟩ := q1
 cases r1 with
 | cons rr rs =>
  cases rs
  cases rr
  obtain ⟨t, u, v, ho⟩ := I2.hok r _ (yc ..)
  have hsz : Builtin.Range.rangeSize 0 j 1 = (j.toNat : Nat) := by rw [rangeSize_one]; split <;> omega
  refine zcZ (I2.ok.hd hc) ho (small_one (by omega) (by omega) (by omega) (by omega)) (n := j.toNat) (by exact_mod_cast hsz) (by omega) λ h' tk acc hk hit => ?_
  have I3 := I2.kept (t' := tk) hk
  refine ⟨.ref h'.objs.size, _, I3.laid (t' := tk) (λ b o e => Heap.get?_push_of_some _ e) (zzK _) (show wG X.prog X.w _ _ _ (.tup ((List.range j.toNat).map λ (i : Nat) => V.int i)) from ⟨?_, acc.toList, ?_, ?_⟩), rfl, q _ (I3.hok.fresh (zzK _))⟩
  · rw [zD, List.length_range]; exact zzL (show j.toNat <= 100000 by omega) (by decide)
  · refine WL (by rw [zD, List.length_range]; simpa using hit.1.symm) λ i x y hx hy => ?_
    rw [zzF] at hx
    obtain ⟨tk', e⟩ := hit.2 i y (by simpa using hy)
    cases hr : (List.range j.toNat)[i]? with
    | none => rw [hr] at hx; cases hx
    | some k =>
     rw [hr] at hx
     obtain ⟨_, hk'⟩ := zzD.mp hr
     rw [List.getElem_range] at hk'
     subst hk'
     cases hx
     exact ⟨tk', by rw [e]; simp⟩
  · have e : acc.toList.toArray = acc := by simp
    rw [e]
    exact IsTup.new _ _
end
section
variable {X : Cx} {kd : KD}
def trP : List D -> Option R0 := on1 λ d => (asI d).bind λ j => if 0 <= j /\ j <= 100000 then some (.im (.tup ((List.range j.toNat).map λ (i : Nat) => .int i))) else none
theorem zjv {a : Expr} {fr : AF} {p p' pos pos' : Pos} (hc : X.calm = true) (hg : Gl X "range") (hm : X.mg "range" = none) (hgl : Gl X "tuple") (hml : X.mg "tuple" = none) (ha : AA X kd [a] fr) (hs : starEach [a] X.env = [(false, eval a X.env)])
 (hs' : starEach [.Call (.Name "range" p) [a] [] pos] X.env = [(false, eval (.Call (.Name "range" p) [a] [] pos) X.env)]) : AE X kd (.Call (.Name "tuple" p') [.Call (.Name "range" p) [a] [] pos] [] pos') (fP fr trP) := by
 with_unfolding_all exact (yK (zji hc hg hm hgl hml ha hs hs') λ σ H Q h => by
  obtain ⟨F, B, ad, as, r, as', R, e, q⟩ := h
  obtain ⟨⟨rs, as1⟩, h1, e⟩ := bS_ (show (fr as).bind _ = _ from e)
  obtain ⟨⟨ds, lv⟩, h2, e⟩ := bS_ e
  obtain ⟨r0, h3, e⟩ := bS_ e
  obtain ⟨z, h4, e⟩ := bS_ e
  cases e
  refine (show alA X.K kd fr σ H _ from ⟨F, B, ad, as, rs, as1, R, h1, λ vs ad1 H1 R1 rv1 g1 => ?_⟩)
  have vl := XS R1 rv1 h2
  have rq := Z1 R1 h4 (Q := Q) λ w T' H' R' rv' g' => q w T' ad1 H' R' rv' (g1.trans g')
  obtain ⟨x, d, rfl, v1, h3⟩ := zbC vl h3
  obtain ⟨j, h6, h3⟩ := bS_ h3
  obtain ⟨⟨b1, b2⟩, e3⟩ := zM h3
  cases e3
  obtain ⟨rfl, rfl⟩ := Xf v1 h6
  refine ⟨j, rfl, by omega, by omega, λ r hr => ⟨r, H1, j, rfl, hr, rfl, b1, b2, λ l hl => ?_⟩⟩
  have hlr : l ≠ r := λ e => by rw [e, yc] at hl; cases hl
  have hl1 : H1 l = none := by rw [zO hlr] at hl; exact hl
  exact rq (.ref l) _ (λ b o q => v6 hl b o (v6 hr b o q)) (.tup (λ z => R1.tr _ l z hl1) (.inl yc) (zfo _)))
def rvP (x : D) (lo hi : Option Int) : Option R0 := (asL x).bind λ xs => if lo = none /\ hi = some (-1) then some (.fl xs.reverse) else none
theorem zgz : ∀ r : List Value, (List.range r.length).filterMap (λ k => r[k]?) = r
 | [] => rfl
 | a :: r => by
  rw [zzQ, List.range_succ_eq_map, List.filterMap_cons, List.filterMap_map]
  show a :: (List.range r.length).filterMap (λ k => r[k]?) = _
  rw [zgz r]
theorem WN {α β : Type} {f g : α -> Option β} : ∀ {l : List α}, (∀ a ∈ l, f a = g a) -> l.filterMap f = l.filterMap g
 | [], _ => rfl
 | a :: l, h => by rw [List.filterMap_cons, List.filterMap_cons, h a zzC, WN λ b hb => h b (zzA _ hb)]
theorem zlm (l : List Value) : slicePick l.toArray none none (some (-1)) = l.reverse.toArray := by
 have e : sliceBounds none none (some (-1)) l.toArray.size = ((l.length : Int) - 1, -1, -1) := by
  rw [zzE]
  rfl
 unfold slicePick
 rw [e]
 have e2 : (sliceRange ((l.length : Int) - 1) (-1) (-1)) = (List.range l.length).map λ k => l.length - 1 - k := by
  unfold sliceRange
  rw [if_neg (by decide)]
  rcases Nat.eq_zero_or_pos l.length with h | h
  · rw [h]; rfl
  · rw [if_pos (by omega), Int.neg_neg, Int.ediv_one]
    have : ((l.length : Int) - 1 - -1 - -1 - 1).toNat = l.length := by omega
    show List.map _ (List.range ((l.length : Int) - 1 - -1 - -1 - 1).toNat) = _
    rw [this]
    refine List.map_congr_left λ k hk => ?_
    have := List.mem_range.mp hk
    omega
 show ((sliceRange ((l.length : Int) - 1) (-1) (-1)).filterMap (l.toArray[·]?)).toArray = _
 rw [e2]
 congr 1
 rw [List.filterMap_map]
 have e3 : (List.range l.length).filterMap (λ k => l.toArray[l.length - 1 - k]?) = (List.range l.reverse.length).filterMap (λ k => l.reverse[k]?) := by
  rw [List.length_reverse]
  refine WN λ k hk => ?_
  rw [List.getElem?_reverse (List.mem_range.mp hk)]
  simp
 exact e3.trans (zgz _)
theorem zmY {K : zC} {O : Addr -> Prop} {H : Hp} {vs : List V} {ds : List D} (r : RpL K kd O H vs ds) : RpL K kd O H vs.reverse ds.reverse := RpL.ind (P := λ vs ds => RpL K kd O H vs.reverse ds.reverse) .nil (λ a _ ih => by
 rw [List.reverse_cons, List.reverse_cons]
 exact ih.append (.cons a .nil)) r
theorem zoX {e st : Expr} {te : TE} {th : TO} {p2 pos : Pos} (he : PE X e te) (hst : PO X (some st) th) : PE X (.Subscript e (.Slice none none (some st) p2) pos)
 (tSl (λ x lo u H Q => ∃ a xs, x = .ref a /\ SqL X.K H a xs /\ u = some (-1) /\ ∀ p, H p = none -> Q (.ref p) (upd H p (.lst xs.reverse))) te ziO th) := by
 intro pins s σ H Q I h
 refine Subscript_ (thn (he pins s σ H _ I h) λ v s1 ⟨x, H1, I1, r1, q1⟩ => ?_)
 refine wpAny_Slice ?_
 rw [evalPart_none]
 refine wpAny_pure (wpAny_pure (thn (hst pins s1 σ H1 _ I1 q1) λ vu s3 ⟨u, H3, I3, pu, q3⟩ => ?_))
 have I4 : Inv X pins σ H3 { s3 with heap := s3.heap.push { cls := .type "slice", data := .fields #[.none, .none, vu] } } := I3.kept (t' := s3.toks) λ b ob q => Heap.get?_push_of_some _ q
 obtain ⟨a, xs, rfl, hx, rfl, q⟩ := q3
 cases r1
 obtain ⟨its, r', pl, hz⟩ := I4.list hx
 have hlen := r'.length
 show wpAny (model X.prog X.w) X.A (subscriptTail e (.Slice none none (some st) p2) (.ref a) (.ref s3.heap.objs.size)) (EP X pins σ Q) X.xe { s3 with heap := s3.heap.push { cls := .type "slice", data := .fields #[.none, .none, vu] } }
 refine tail_any (ops := [.ref a, .ref s3.heap.objs.size]) pl.isList.typeIs slot_list_getitem.lookup (wpAny_getItem_list_slice pl.isList (Heap.IsSliceOf.new ..) .none .none pu (by decide) ?_ (by rw [zzE]; omega)) (by with_unfolding_all rfl)
 rw [zlm]
 exact ⟨.ref _, _, I4.lnew (t' := s3.toks) r'.reverse (by rw [List.length_reverse]; exact hz), rfl, q _ I4.fresh⟩
theorem zkf {a st : Expr} {fa fs : EF} {pos p2 : Pos} (ha : AE X kd a fa) (hs : AE X kd st fs) : AE X kd (.Subscript a (.Slice none none (some st) p2) pos) (fSl fa oN (oS fs) rvP) := by with_unfolding_all exact (yK (zoX ha (zal hs)) λ σ H Q h => by
 obtain ⟨F, B, ad, as, r, as', R, e, q⟩ := h
 obtain ⟨⟨p, as1⟩, h1, e⟩ := bS_ (show (fa as).bind _ = _ from e)
 obtain ⟨⟨l, as2⟩, h2, e⟩ := bS_ e
 cases h2
 obtain ⟨⟨u, as3⟩, h3, e⟩ := bS_ e
 obtain ⟨⟨d, lv⟩, h4, e⟩ := bS_ e
 obtain ⟨r', h5, e⟩ := bS_ e
 obtain ⟨z, h6, e⟩ := bS_ e
 cases e
 obtain ⟨xs, h7, h5⟩ := bS_ (show (asL d).bind _ = _ from h5)
 obtain ⟨c, e5⟩ := zM h5
 cases e5
 refine Yi R h1 λ v ad1 H1 R1 rv1 g1 => ⟨F, B, ad1, as1, u, _, R1, h3, λ ad3 H3 R3 g3 => ?_⟩
 have vx := wI.vw R3 (rv1.grow g3) h4
 have rq := Z1 R3 h6 (Q := Q) λ w T' H' R' rv' g' => q w T' ad3 H' R' rv' ((g1.trans g3).trans g')
 cases zdn h7
 cases vx with
 | lst hr rl => exact ⟨_, _, rfl, hr.sq, c.2, V8 rq (zmY rl)⟩)
end
abbrev InR (n : Nat) (x : Int) : Prop := 0 <= x /\ x < (n : Int)
structure LJ (n : Nat) (j : Int -> Int -> Int) (e : Int) : Prop where
 cl : ∀ a b, InR n a -> InR n b -> InR n (j a b)
 ce : InR n e
 ul : ∀ a, InR n a -> j e a = a
 ur : ∀ a, InR n a -> j a e = a
 as : ∀ a b c, InR n a -> InR n b -> InR n c -> j (j a b) c = j a (j b c)
structure LD (n m : Nat) (j : Int -> Int -> Int) (e : Int) (d : Int -> Int -> Int) : Prop where
 cl : ∀ c a, InR m c -> InR n a -> InR n (d c a)
 em : d 0 e = e
 dn : ∀ a i b k, InR n a -> InR m i -> InR n b -> InR m k -> d ((i + k) % m) (j a b) = j (d i a) (d k b)
theorem Vb {x : Int} {n : Nat} (hn : 0 < n) : InR n (x % n) := ⟨Int.emod_nonneg _ (by omega), Int.emod_lt_of_pos _ (by omega)⟩
theorem LD.congr {n m : Nat} {j j' : Int -> Int -> Int} {e : Int} {d d' : Int -> Int -> Int} (hm : 0 < m) (hj : LJ n j e) (h : LD n m j e d) (q : ∀ a b, InR n a -> InR n b -> j' a b = j a b) (p : ∀ c a, InR m c -> InR n a -> d' c a = d c a) : LD n m j' e d' := by
 refine ⟨λ c a hc ha => by rw [p c a hc ha]; exact h.cl c a hc ha, by rw [p 0 e ⟨by omega, by omega⟩ hj.ce]; exact h.em, λ a i b k ha hi hb hk => ?_⟩
 rw [q a b ha hb, p _ _ (Vb hm) (hj.cl a b ha hb), p i a hi ha, p k b hk hb, q _ _ (h.cl i a hi ha) (h.cl k b hk hb)]
 exact h.dn a i b k ha hi hb hk
def jS (n : Nat) (a b : Int) : Int := (a + b) % n
def jM (a b : Int) : Int := if b > a then b else a
def jL (a b : Int) : Int := if b = 0 then a else b
theorem ljS {n : Nat} (hn : 0 < n) : LJ n (jS n) 0 := by
 refine ⟨λ a b _ _ => Vb hn, ⟨by omega, by omega⟩, λ a ha => ?_, λ a ha => ?_, λ a b c _ _ _ => ?_⟩
 · unfold jS; rw [Int.zero_add, Int.emod_eq_of_lt ha.1 ha.2]
 · unfold jS; rw [Int.add_zero, Int.emod_eq_of_lt ha.1 ha.2]
 · unfold jS; rw [Int.emod_add_emod, Int.add_emod_emod, Int.add_assoc]
theorem ljM {n : Nat} (hn : 0 < n) : LJ n jM 0 := by
 refine ⟨λ a b ha hb => ?_, ⟨by omega, by omega⟩, λ a ha => ?_, λ a ha => ?_, λ a b c _ _ _ => ?_⟩ <;> unfold jM <;> (try unfold jM) <;> grind
theorem ljL {n : Nat} (hn : 0 < n) : LJ n jL 0 := by
 refine ⟨λ a b ha hb => ?_, ⟨by omega, by omega⟩, λ a ha => ?_, λ a ha => ?_, λ a b c _ _ _ => ?_⟩ <;> unfold jL <;> grind
theorem four {P : Int -> Prop} (h0 : P 0) (h1 : P 1) (h2 : P 2) (h3 : P 3) {a : Int} (h : InR 4 a) : P a := by
 rcases (show a = 0 \/ a = 1 \/ a = 2 \/ a = 3 by have := h.1; have := h.2; omega) with rfl | rfl | rfl | rfl <;> assumption
theorem f4 {P : Int -> Prop} (h : ∀ a ∈ ([0, 1, 2, 3] : List Int), P a) {a : Int} (ha : InR 4 a) : P a := four (h 0 (by decide)) (h 1 (by decide)) (h 2 (by decide)) (h 3 (by decide)) ha
theorem ldS {n m : Nat} {g x0 x1 : Int} (hn : 0 < n) (hm : 0 < m) (g0 : 0 < g) (gn : g ∣ n) (gm : g ∣ m) : LD n m (jS n) 0 (λ c a => (a * x0 + c * ((n : Int) / g) * x1) % n) := by
 refine ⟨λ c a _ _ => Vb hn, by simp, λ a i b k _ _ _ _ => ?_⟩
 obtain ⟨t, ht⟩ := gm
 have h : (m : Int) * ((n : Int) / g) = n * t := by
  obtain ⟨s, hs⟩ := gn
  rw [hs, Int.mul_ediv_cancel_left _ (by omega), ht]; grind
 show (_ : Int) = jS n _ _
 unfold jS
 rw [<- Int.add_emod]
 generalize (n : Int) / g = st at h
 rw [Int.emod_def (i + k) m, Int.emod_def (a + b) n]
 generalize (i + k) / (m : Int) = q
 generalize (a + b) / (n : Int) = p
 rw [show ((a+b) - (n : Int)*p)*x0 + ((i+k) - (m : Int)*q)*st*x1 = (a*x0 + i*st*x1 + (b*x0 + k*st*x1)) + (n : Int)*(-(p*x0) - t*q*x1) by grind, Int.add_mul_emod_self_left]
theorem ldM {n m : Nat} {r : Int -> Int} (hm : 0 < m) (h0 : r 0 = 0) (hc : ∀ a, InR n a -> InR n (r a)) (hr : ∀ a b, InR n a -> InR n b -> a <= b -> r a <= r b) : LD n m jM 0 (λ _ a => r a) := by
 refine ⟨λ c a _ ha => hc a ha, h0, λ a i b k ha _ hb _ => ?_⟩
 show r (jM a b) = jM (r a) (r b)
 unfold jM
 have h1 := hr a b ha hb
 have h2 := hr b a hb ha
 split <;> split <;> grind
theorem ldL {n m : Nat} {r : Int -> Int} (h0 : r 0 = 0) (hc : ∀ a, InR n a -> InR n (r a)) (hr : ∀ a, InR n a -> a ≠ 0 -> r a ≠ 0) : LD n m jL 0 (λ _ a => r a) := by
 refine ⟨λ c a _ ha => hc a ha, h0, λ a i b k ha _ hb _ => ?_⟩
 show r (jL a b) = jL (r a) (r b)
 unfold jL
 have h2 := hr b hb
 split <;> split <;> grind
theorem zoZ {n1 n2 : Nat} {x y : Int} (hx : InR n1 x) (hy : InR n2 y) : InR (n1 * n2) (x * n2 + y) := by
 have h1 : 0 <= x * n2 := Int.mul_nonneg hx.1 (by omega)
 have h2 : x * n2 <= ((n1 : Int) - 1) * n2 := Int.mul_le_mul_of_nonneg_right (by have := hx.2; omega) (by omega)
 rw [Int.sub_mul, Int.one_mul] at h2
 refine ⟨by have := hy.1; omega, ?_⟩
 rw [zzS]
 have := hy.2
 omega
theorem ye {n1 n2 : Nat} {p : Int} (h2 : 0 < n2) (h : InR (n1 * n2) p) : InR n1 (p / n2) /\ InR n2 (p % n2) :=
 ⟨⟨Int.ediv_nonneg h.1 (by omega), Int.ediv_lt_of_lt_mul (by omega) (by have := h.2; rw [zzS] at this; exact this)⟩, Vb h2⟩
theorem VF {n2 : Nat} {x y : Int} (hy : InR n2 y) : (x * n2 + y) / n2 = x /\ (x * n2 + y) % n2 = y := by
 have h0 : (n2 : Int) ≠ 0 := by have := hy.1; have := hy.2; omega
 constructor
 · rw [Int.add_comm, Int.add_mul_ediv_right _ _ h0, Int.ediv_eq_zero_of_lt hy.1 hy.2, Int.zero_add]
 · rw [Int.add_comm, Int.add_mul_emod_self_right, Int.emod_eq_of_lt hy.1 hy.2]
theorem zqT {n2 : Nat} {p : Int} : (p / n2) * n2 + p % n2 = p := by rw [Int.mul_comm]; exact Int.mul_ediv_add_emod p n2
def jB (n2 : Nat) (j1 j2 : Int -> Int -> Int) (p q : Int) : Int := j1 (p / n2) (q / n2) * n2 + j2 (p % n2) (q % n2)
def dB (n2 : Nat) (d1 d2 : Int -> Int -> Int) (c p : Int) : Int := d1 c (p / n2) * n2 + d2 c (p % n2)
theorem leN {n k : Nat} (h : n <= 8) (hk : 8 <= k := by decide) : n <= k := zzL h hk
theorem np1 {n : Nat} (h : 1 <= n) : (0 : Int) < n := Int.natCast_pos.mpr h
theorem tS {a : Int} {n : Nat} (h0 : 0 <= a) (h1 : a < n) : a.toNat < n := Int.ofNat_lt.mp (by rw [Int.toNat_of_nonneg h0]; exact h1)
theorem mU {n : Nat} {k : Int} (h : n <= 8) (hk : 8 < k := by decide) : (n : Int) < k := Int.lt_of_le_of_lt (Int.ofNat_le.mpr h) hk
theorem iT {n : Nat} {x : Int} (h : InR n x) : x.toNat < n := Int.ofNat_lt.mp (by rw [Int.toNat_of_nonneg h.1]; exact h.2)
theorem iC {n : Nat} {x : Int} (h : InR n x) : ((x.toNat : Nat) : Int) = x := Int.toNat_of_nonneg h.1
theorem zI (i : Nat) : (0 : Int) <= 0 + i := by rw [Int.zero_add]; exact Int.natCast_nonneg i
def rAt (r : List Int) (v : Int) : Int := (r[v.toNat]?).getD 0
def jAt (J : List (List Int)) (w v : Int) : Int := rAt ((J[w.toNat]?).getD []) v
def jnA (J : List (List Int)) (e : Int) : List Int -> Int
 | [] => e
 | x :: t => t.foldl (jAt J) x
section
variable {n m : Nat} {J T : List (List Int)} {e : Int}
theorem zdj (h : LJ n (jAt J) e) : ∀ (t : List Int) (w : Int), InR n w -> (∀ x ∈ t, InR n x) -> InR n (t.foldl (jAt J) w)
 | [], w, hw, _ => hw
 | v :: t, w, hw, k => zdj h t (jAt J w v) (h.cl w v hw (k v (zzC ..))) λ x m => k x (zzA _ m)
theorem YT (h : LJ n (jAt J) e) {r : List Int} (k : ∀ x ∈ r, InR n x) : InR n (jnA J e r) := by
 cases r with
 | nil => exact h.ce
 | cons x t => exact zdj h t x (k x (zzC ..)) λ y m => k y (zzA _ m)
theorem zaQ (h : LJ n (jAt J) e) : ∀ (t : List Int) (w : Int), InR n w -> (∀ x ∈ t, InR n x) -> t.foldl (jAt J) w = jAt J w (jnA J e t)
 | [], w, hw, _ => (h.ur w hw).symm
 | x :: t, w, hw, k => by
  have hx := k x (zzC ..)
  have ht : ∀ y ∈ t, InR n y := λ y m => k y (zzA _ m)
  show t.foldl (jAt J) (jAt J w x) = jAt J w (t.foldl (jAt J) x)
  rw [zaQ h t _ (h.cl w x hw hx) ht, zaQ h t x hx ht, h.as _ _ _ hw hx (YT h ht)]
theorem zol (h : LJ n (jAt J) e) {l l' : List Int} (k : ∀ x ∈ l, InR n x) (k' : ∀ x ∈ l', InR n x) : jnA J e (l ++ l') = jAt J (jnA J e l) (jnA J e l') := by
 cases l with
 | nil => exact (h.ul _ (YT h k')).symm
 | cons x t =>
  show (t ++ l').foldl (jAt J) x = _
  rw [List.foldl_append]
  exact zaQ h l' _ (YT h k) k'
theorem zau (hm : 0 < m) (h : LJ n (jAt J) e) (d : LD n m (jAt J) e (jAt T)) : ∀ r : List Int, (∀ x ∈ r, InR n x) -> jnA J e (r.map (jAt T (1 % (m : Int)))) = jAt T ((r.length : Int) % m) (jnA J e r)
 | [], _ => by
  show e = jAt T ((0 : Int) % m) e
  rw [Int.zero_emod, d.em]
 | x :: t, k => by
  have hx := k x (zzC ..)
  have ht : ∀ y ∈ t, InR n y := λ y m => k y (zzA _ m)
  have i1 : InR m (1 % (m : Int)) := Vb hm
  have hd : ∀ y ∈ t.map (jAt T (1 % (m : Int))), InR n y := λ y my => by
   obtain ⟨z, mz, rfl⟩ := List.mem_map.mp my
   exact d.cl _ _ i1 (ht z mz)
  have e1 : jnA J e (x :: t) = jAt J x (jnA J e t) := zaQ h t x hx ht
  have e2 : jnA J e ((x :: t).map (jAt T (1 % (m : Int)))) = jAt J (jAt T (1 % (m : Int)) x) (jnA J e (t.map (jAt T (1 % (m : Int))))) := zaQ h _ _ (d.cl _ _ i1 hx) hd
  rw [e2, zau hm h d t ht, e1, <- d.dn _ _ _ _ hx i1 (YT h ht) (Vb hm), <- Int.add_emod, zzQ, Int.natCast_add, Int.add_comm (t.length : Int)]
  rfl
end
local macro_rules | `(tactic| trivial) => `(tactic| first | with_reducible first | assumption | exact Int.natCast_nonneg _ | exact Nat.le_refl _ | exact Int.le_refl _ | exact rfl | exact leN (by assumption) | exact np1 (by assumption) | exact np2 (by assumption) | exact nq1 (by assumption) | exact nq2 (by assumption) | exact Int.natCast_pos.mpr (by assumption) | exact Nat.le_trans (by assumption) (by decide) | exact bgL _ | exact bgU (by assumption) | exact mU (by assumption) | exact zI _ | exact bL0 (by assumption) | exact bU0 (by assumption) (by assumption) | exact iL (by assumption) | exact iU (by assumption) (by assumption) | exact iC (by assumption) | exact iT (by assumption) | exact stL (by assumption) | exact stU (by assumption) | exact lnK (by assumption) (by assumption) (by assumption) | exact zi1 _ | exact lnE (by assumption) | exact ltL (by assumption) | exact Int.toNat_of_nonneg (by assumption) | exact tS (by assumption) (by assumption) | exact b6 (by assumption) | exact Int.emod_nonneg _ (by decide) | exact Int.emod_lt_of_pos _ (by decide) | decide | omega)
abbrev lfI (x : Int) : O := .lf true (.int x)
abbrev sI (x : Int) : Option O := some (lfI x)
abbrev sT (d : D) : Option O := some (.lf true d)
abbrev sN (os : List O) : Option O := some (.nd .ls os)
abbrev TZ : Type := List (List Int)
abbrev DD : Type := List (Str × TZ)
abbrev SS : Type := List (Str × List Int)
theorem zhR {f : EF} {as as1 : AS} {o : O} (h : f as = some (.ow o, as1)) (hs : o.str = true) : yu f as = some (.rt o) := by
 unfold yu; rw [h]
 show ((if o.str = true then some o else none).bind _) = _
 rw [if_pos hs]; rfl
theorem vd : ∀ xs : List Int, (xs.map lfI).all O.isLf = true /\ O.strs (xs.map lfI) = true /\ O.toDs (xs.map lfI) = xs.map D.int
 | [] => ⟨rfl, rfl, rfl⟩
 | x :: r => ⟨(vd r).1, (vd r).2.1, congrArg (D.int x :: ·) (vd r).2.2⟩
theorem zia (xs : List Int) : (xs.map D.int).map (O.lf true) = xs.map lfI := by rw [List.map_map]; rfl
theorem zar (ys : List Int) (w : Int) : (ys ++ [w]).map lfI = ys.map lfI ++ [O.lf true (.int w)] := by rw [List.map_append]; rfl
theorem zax (xs : List Int) : (O.nd .ls (xs.map lfI)).str = true /\ (O.nd .ls (xs.map lfI)).toD = .lst (xs.map D.int) := ⟨(vd xs).2.1, congrArg D.lst (vd xs).2.2⟩
abbrev zaa (r : List Int) : O := .nd .ls (r.map lfI)
abbrev zT (r : List Int) : D := .lst (r.map D.int)
theorem zcA : ∀ T : TZ, O.strs (T.map zaa) = true /\ O.toDs (T.map zaa) = T.map zT
 | [] => ⟨rfl, rfl⟩
 | r :: T => ⟨by show (O.strs (r.map lfI) && O.strs (T.map zaa)) = true; rw [(vd r).2.1, (zcA T).1]; rfl, by
  show D.lst (O.toDs (r.map lfI)) :: O.toDs (T.map zaa) = _
  rw [(vd r).2.2, (zcA T).2]; rfl⟩
theorem zgs {g : GF} {fe : EF} {as0 as1 : AS} {y : It1} {r : List It1} {o : O} {os : List O} (h1 : g y as0 = some as1) (h2 : fe as1 = some (.ow o, as1)) (hs : o.str = true) (h3 : xx g xG fe as0 r = some os) : xx g xG fe as0 (y :: r) = some (o :: os) := by
 unfold xx
 rw [h1]; show ((fe as1).bind _) = _
 rw [h2]; show (if o.str = true then _ else _) = _
 rw [if_pos hs, h3]; rfl
theorem yJ : ∀ (n : Nat) (k : Int), (yR k n).length = n
 | 0, _ => rfl
 | n + 1, k => by rw [zex]; exact congrArg (· + 1) (yJ n (k + 1))
theorem zkQ {f : EF} {as : AS} {x : D} (h : WE f as x) : ∃ o, yu f as = some (.rt o) /\ o.str = true /\ o.toD = x := by
 obtain ⟨o, h1, h2, h3⟩ := h
 exact ⟨o, zhR h1 h2, h2, h3⟩
theorem zcz : ∀ {n : Nat} {k : Int} {y : It1}, y ∈ yR k n -> ∃ b : Int, y = (true, .int b) /\ k <= b /\ b < k + n
 | 0, _, _, h => nomatch h
 | n + 1, k, y, h => by
  rw [zex] at h
  rcases zS.mp h with rfl | h
  · exact ⟨k, rfl, by trivial, by trivial⟩
  · obtain ⟨b, e, h1, h2⟩ := zcz h
    exact ⟨b, e, by trivial, by trivial⟩
def Row (n : Nat) (r : List Int) : Prop := r.length = n /\ ∀ x ∈ r, 0 <= x /\ x < (n : Int)
def Tab (k n : Nat) (T : TZ) : Prop := T.length = k /\ ∀ r ∈ T, Row n r
abbrev zX (T : TZ) : D := .lst (T.map zT)
theorem zpR {r : List Int} {P : Int -> Prop} {k : Int} (h0 : 0 <= k) (h1 : k < r.length) (hp : ∀ x ∈ r, P x) : ∃ x, ixP (zT r) (.int k) = some (.im (.int x)) /\ P x := by
 have hk : k.toNat < r.length := by trivial
 refine ⟨r[k.toNat], ?_, hp _ (List.getElem_mem hk)⟩
 have h := Xy (xs := r.map D.int) (j := k.toNat) (v := D.int r[k.toNat]) (by rw [zzF, zzB hk]; rfl)
 rw [show ((k.toNat : Nat) : Int) = k by trivial] at h
 show imR (atI _ _) = _
 rw [h]; rfl
theorem zcM {α : Type} {f : α -> D} {l : List α} {i : Nat} {p : α} (h : l[i]? = some p) : ixP (.lst (l.map f)) (.int (i : Int)) = some (.im (f p)) := by
 have h := Xy (xs := l.map f) (j := i) (v := f p) (by rw [zzF, h]; rfl)
 show imR (atI _ _) = _
 rw [h]; rfl
theorem zpV {n k : Nat} {r : List Int} {v : Int} (hl : r.length = k) (hr : ∀ x ∈ r, InR n x) (hv : InR k v) : ixP (zT r) (.int v) = some (.im (.int (rAt r v))) /\ InR n (rAt r v) := by
 have hk : v.toNat < r.length := by rw [hl]; have := hv.1; have := hv.2; trivial
 have g := zzB hk
 have e : rAt r v = r[v.toNat] := by unfold rAt; rw [g]; rfl
 rw [e]
 refine ⟨?_, hr _ (List.getElem_mem hk)⟩
 have := zcM (f := D.int) g
 rw [show ((v.toNat : Nat) : Int) = v by have := hv.1; trivial] at this
 exact this
abbrev WM (T : TZ) (w : Int) : List Int := (T[w.toNat]?).getD []
theorem Zo {k n : Nat} {T : TZ} {w : Int} (hT : Tab k n T) (hw : InR k w) : ixP (zX T) (.int w) = some (.im (zT (WM T w))) /\ Row n (WM T w) := by
 have hk : w.toNat < T.length := by rw [hT.1]; have := hw.1; have := hw.2; trivial
 have g := zzB hk
 unfold WM
 rw [g]
 refine ⟨?_, hT.2 _ (List.getElem_mem hk)⟩
 have := zcM (f := zT) g
 rw [show ((w.toNat : Nat) : Int) = w by have := hw.1; trivial] at this
 exact this
theorem rowAt {n : Nat} {r : List Int} {v : Int} (hr : Row n r) (hv : InR n v) : ixP (zT r) (.int v) = some (.im (.int (rAt r v))) /\ InR n (rAt r v) := zpV hr.1 hr.2 hv
theorem zim {α : Type} (toD : α -> D) {Q : Nat -> α -> Prop} {g : GF} {fe : EF} {as0 : AS} : ∀ {xs : List It1} (k : Nat), (∀ i y, xs[i]? = some y -> ∃ as1 a, g y as0 = some as1 /\ WE fe as1 (toD a) /\ Q (k + i) a) -> ∃ (os : List O) (l : List α), xx g xG fe as0 xs = some os /\ O.strs os = true /\ O.toDs os = l.map toD /\ l.length = xs.length /\ ∀ i a, l[i]? = some a -> Q (k + i) a
 | [], k, _ => ⟨[], [], rfl, rfl, rfl, rfl, λ i a h => by simp at h⟩
 | y :: xs, k, H => by
  obtain ⟨as1, a, h1, ⟨o, h2, h3, h4⟩, h5⟩ := H 0 y rfl
  obtain ⟨os, l, a1, a2, a3, a4, a5⟩ := zim toD (Q := Q) (g := g) (fe := fe) (as0 := as0) (xs := xs) (k + 1) λ i z m => by
   have := H (i + 1) z (by simpa using m)
   rwa [show k + (i + 1) = k + 1 + i by trivial] at this
  refine ⟨o :: os, a :: l, zgs h1 h2 h3 a1, by show (o.str && O.strs os) = true; rw [h3, a2]; rfl, by show o.toD :: O.toDs os = _; rw [h4, a3]; rfl, congrArg (· + 1) a4, λ i b m => ?_⟩
  cases i with
  | zero => simp at m; subst m; exact h5
  | succ i =>
   have := a5 i b (by simpa using m)
   rwa [show k + 1 + i = k + (i + 1) by trivial] at this
theorem zki {α : Type} (toD : α -> D) {Q : Nat -> α -> Prop} {fi : IF} {cap : List (Option Nat)} {g : GF} {fe : EF} {as : AS} {xs : List It1} (h1 : fi as = some (xs, as)) (hl : xs.length <= 1000) (H : ∀ i y, xs[i]? = some y -> ∃ as1 a, g y (Yy cap as) = some as1 /\ WE fe as1 (toD a) /\ Q i a) :
 ∃ l : List α, l.length = xs.length /\ (∀ i a, l[i]? = some a -> Q i a) /\ WE (yw fi cap g xG fe) as (.lst (l.map toD)) := by
 obtain ⟨os, l, a1, a2, a3, a4, a5⟩ := zim toD (Q := Q) (g := g) (fe := fe) (as0 := Yy cap as) 0 (λ i y h => by rw [Nat.zero_add]; exact H i y h)
 exact ⟨l, a4, (λ i a h => by have := a5 i a h; rwa [Nat.zero_add] at this), _, zeD h1 (szs (by trivial)) a1, a2, congrArg D.lst a3⟩
abbrev zkB (N n : Nat) (f : Int -> Int) (r : List Int) : Prop := r.length = n /\ (∀ x ∈ r, InR N x) /\ ∀ b, InR n b -> rAt r b = f b
abbrev zoA (k n : Nat) (f : Int -> Int -> Int) (T : TZ) : Prop := Tab k n T /\ ∀ a b, InR k a -> InR n b -> jAt T a b = f a b
theorem zmx {N n : Nat} {f : Int -> Int} {l : List Int} (hl : l.length = n) (h : ∀ (i : Nat) a, l[i]? = some a -> a = f i /\ InR N a) : zkB N n f l := by
 refine ⟨hl, λ x m => ?_, λ b hb => ?_⟩
 · obtain ⟨i, hi⟩ := List.getElem?_of_mem m
   exact (h i x hi).2
 · have hk : b.toNat < l.length := by rw [hl]; have := hb.1; have := hb.2; trivial
   have g := zzB hk
   unfold rAt
   rw [g]
   show l[b.toNat] = _
   rw [(h _ _ g).1, show ((b.toNat : Nat) : Int) = b by have := hb.1; trivial]
theorem zmd {k n : Nat} {f : Int -> Int -> Int} {l : TZ} (hl : l.length = k) (h : ∀ (i : Nat) r, l[i]? = some r -> zkB n n (f i) r) : zoA k n f l := by
 refine ⟨⟨hl, λ x m => ?_⟩, λ a b ha hb => ?_⟩
 · obtain ⟨i, hi⟩ := List.getElem?_of_mem m
   exact ⟨(h i x hi).1, (h i x hi).2.1⟩
 · have hk : a.toNat < l.length := by rw [hl]; have := ha.1; have := ha.2; trivial
   have g := zzB hk
   unfold jAt
   rw [g]
   show rAt l[a.toNat] b = _
   have := (h _ _ g).2.2 b hb
   rw [show ((a.toNat : Nat) : Int) = a by have := ha.1; trivial] at this
   exact this
theorem zix {f : Int -> Int} {N : Nat} {fr : AF} {cap : List (Option Nat)} {fe : EF} {as : AS} {n : Nat} {u : Bool} (h1 : WA fr as [(u, .int n)]) (hl : n <= 1000) (H : ∀ b : Int, InR n b -> ∃ as1, gN 0 (true, .int b) (Yy cap as) = some as1 /\ WE fe as1 (.int (f b)) /\ InR N (f b)) :
 ∃ r : List Int, zkB N n f r /\ WE (yw (yx fr yC) cap (gN 0) xG fe) as (zT r) := by
 obtain ⟨l, a1, a2, a3⟩ := zki D.int (Q := λ i a => a = f i /\ InR N a) (cap := cap) (g := gN 0) (fe := fe) (xT h1 (by trivial) (by trivial)) (by rw [yJ]; trivial) (λ i y m => by
  obtain ⟨rfl, hi⟩ := xJ m
  obtain ⟨as1, b1, b2, b3⟩ := H (0 + i) ⟨by trivial, by trivial⟩
  exact ⟨as1, f (0 + i), b1, b2, by rw [Int.zero_add], b3⟩)
 rw [yJ] at a1
 exact ⟨l, zmx (by trivial) a2, a3⟩
theorem zik {f : Int -> Int -> Int} {n : Nat} {fr : AF} {cap : List (Option Nat)} {fe : EF} {as : AS} {k : Nat} {u : Bool} (h1 : WA fr as [(u, .int k)]) (hl : k <= 1000) (H : ∀ b : Int, InR k b -> ∃ as1 r, gN 0 (true, .int b) (Yy cap as) = some as1 /\ WE fe as1 (zT r) /\ zkB n n (f b) r) :
 ∃ T : TZ, zoA k n f T /\ WE (yw (yx fr yC) cap (gN 0) xG fe) as (zX T) := by
 obtain ⟨l, a1, a2, a3⟩ := zki zT (Q := λ i r => zkB n n (f i) r) (cap := cap) (g := gN 0) (fe := fe) (xT h1 (by trivial) (by trivial)) (by rw [yJ]; trivial) (λ i y m => by
  obtain ⟨rfl, hi⟩ := xJ m
  obtain ⟨as1, r, b1, b2, b3⟩ := H (0 + i) ⟨by trivial, by trivial⟩
  rw [Int.zero_add] at b3
  exact ⟨as1, r, b1, b2, b3⟩)
 rw [yJ] at a1
 exact ⟨l, zmd (by trivial) a2, a3⟩
theorem zhj : ∀ (b : Nat) (a : Int) (f : Nat), b < f -> 0 < a -> a < 1000 -> b < 1000 -> ∃ g e, 0 < g /\ g < 1000 /\ g ∣ a /\ g ∣ (b : Int) /\ whL (fT (f2 (fV 1) (fC (.int 0)) (yt .Gt))) (zkm 0 1 (dC (fV 1) (dC (f2 (fV 0) (fV 1) (zm .Mod)) dN))) f [sI a, sI b] = some (.nx [sI g, e]) := by
 intro b
 induction b using Nat.strongRecOn with
 | ind b ih =>
  intro a f hf ha ha2 hb2
  cases f with
  | zero => trivial
  | succ f =>
   by_cases hb : b = 0
   · subst hb
     exact ⟨a, _, ha, ha2, Int.dvd_refl a, Int.dvd_zero a, zqi (Zw (zgR (zb rfl) zg) rfl)⟩
   · have m0 := Int.emod_nonneg a (show (b : Int) ≠ 0 by trivial)
     have m1 := Int.emod_lt_of_pos a (show (0 : Int) < b by trivial)
     obtain ⟨g, e, g0, g1, d1, d2, hg⟩ := ih (a % b).toNat (by trivial) b f (by trivial) (by trivial) (by trivial) (by trivial)
     rw [show (((a % b).toNat : Nat) : Int) = a % b by trivial] at hg d2
     refine ⟨g, e, g0, g1, ?_, d1, zpq (Zw (zgR (zb rfl) zg) (congrArg some (decide_eq_true (show (0 : Int) < b by trivial)))) (zpd (zV (zb rfl) (zV (zY (zb rfl) (zb rfl) (by trivial)) yO)) (zG rfl) (zG rfl)) hg⟩
     rw [<- Int.mul_ediv_add_emod a b]
     exact Int.dvd_add (Int.dvd_trans d1 (Int.dvd_mul_right _ _)) d2
theorem strs_snoc : ∀ (os : List O) (o : O), O.strs os = true -> o.str = true -> O.strs (os ++ [o]) = true
 | [], o, _, h => by show (o.str && true) = true; rw [h]; rfl
 | p :: r, o, h, h' => by
  have h := (Bool.and_eq_true _ _).mp (show (p.str && O.strs r) = true from h)
  show (p.str && O.strs (r ++ [o])) = true
  rw [h.1, strs_snoc r o h.2 h']; rfl
theorem zep : ∀ (os : List O) (o : O), O.toDs (os ++ [o]) = O.toDs os ++ [o.toD]
 | [], o => rfl
 | p :: r, o => congrArg (p.toD :: ·) (zep r o)
structure Ows {α : Type} (toD : α -> D) (Q : α -> Prop) (os : List O) (l : List α) : Prop where
 st : O.strs os = true
 ds : O.toDs os = l.map toD
 al : ∀ a ∈ l, Q a
 ln : os.length = l.length
theorem Ows.nil {α : Type} {toD : α -> D} {Q : α -> Prop} : Ows toD Q [] [] := ⟨rfl, rfl, (λ _ m => nomatch m), rfl⟩
theorem Ows.snoc {α : Type} {toD : α -> D} {Q : α -> Prop} {os : List O} {l : List α} {o : O} {a : α} (h : Ows toD Q os l) (h1 : o.str = true) (h2 : o.toD = toD a) (h3 : Q a) : Ows toD Q (os ++ [o]) (l ++ [a]) :=
 ⟨strs_snoc os o h.st h1, (by rw [zep, h.ds, h2, List.map_append]; rfl), (λ b m => (zzJ.mp m).elim (h.al b) λ m => (by rw [zzO.mp m]; exact h3)), (by rw [zzG, zzG, h.ln]; rfl)⟩
theorem zcy {as as1 : AS} {a : EF} {i : Nat} {os0 os : List O} {o : O} (h : as[i]? = some (sN os0)) (ha : a as = some (.ow o, as1)) (h1 : as1[i]? = some (sN os)) (hl : os.length < sizeLine) : wu (wX i (dC a dN) vN) as = some (.nx (as1.set i (sN (os ++ [o])))) := by
 unfold wu wX; rw [h]
 have e : dC a dN as = some ([o], as1) := Yv ha rfl
 show ((dC a dN as).bind _).bind _ = _
 rw [e]; show (Option.bind (match as1[i]? with | some (some (.nd .ls os)) => _ | _ => none) _) = _
 rw [h1]; show ((vN os [o]).bind _).bind _ = _
 have e2 : vN os [o] = some (os ++ [o], .lf true .non) := by unfold vN; exact if_pos hl
 rw [e2]; rfl
theorem zot {α : Type} {toD : α -> D} {Q : α -> Prop} {as : AS} {a : EF} {i : Nat} {os : List O} {l : List α} {x : α} (h : as[i]? = some (sN os)) (ho : Ows toD Q os l) (hl : l.length < 1000) (ha : WE a as (toD x)) (hx : Q x) :
 ∃ os', Ows toD Q os' (l ++ [x]) /\ wu (wX i (dC a dN) vN) as = some (.nx (as.set i (sN os'))) := by
 obtain ⟨o, h1, h2, h3⟩ := ha
 exact ⟨os ++ [o], ho.snoc h2 h3 hx, zcy h h1 h (by rw [ho.ln]; exact ym (by trivial))⟩
theorem Ows.retB {α : Type} {toD : α -> D} {Q : α -> Prop} {as : AS} {i : Nat} {os : List O} {l : List α} (h : as[i]? = some (sN os)) (ho : Ows toD Q os l) : Rt (yu (fV i) as) (.lst (l.map toD)) :=
 ⟨_, ziA h ho.st, ho.st, congrArg D.lst ho.ds⟩
structure OwsX {α : Type} (toD : α -> D) (Q : Nat -> α -> Prop) (os : List O) (l : List α) : Prop where
 st : O.strs os = true
 ds : O.toDs os = l.map toD
 al : ∀ i a, l[i]? = some a -> Q i a
 ln : os.length = l.length
theorem znX {fr : AF} {as : AS} {rs : List (Bool × D)} {g : List D -> Option R0} {zs : List D} (ha : WA fr as rs) (hg : g (rs.map (·.2)) = some (.fl zs)) : fP fr g as = some (.ow (.nd .ls (zs.map (lfs (rs.all (·.1))))), as) := by
 unfold fP; unfold WA at ha
 rw [ha]; show (views as _).bind _ = _
 rw [Yc]; show (g _).bind _ = _
 rw [hg]
 show (if (zs.all zU || (some (rs.all (·.1))).isSome) = true then _ else _ : Option RV).bind _ = _
 rw [if_pos (by simp)]; rfl
theorem zql {a : EF} {as : AS} {x : D} {g : List D -> Option R0} {zs : List D} (ha : WE a as x) (hg : g [x] = some (.fl zs)) : fP (aC a aN) g as = some (.ow (.nd .ls (zs.map (O.lf true))), as) := by
 have := znX (g := g) (Yk ha (zL (as := as))) hg
 rw [show ([(true, x)].all (·.1)) = true from rfl, Wd] at this
 exact this
theorem zqP {a : EF} {as : AS} {s : Bool} {r : List Int} (h : WD a as s (zT r)) : fP (aC a aN) lstP as = some (.ow (zaa r), as) := by
 have := znX (g := lstP) (zB h (zL (as := as))) rfl
 rw [List.map_map] at this
 exact this
theorem zpa {a : EF} {as : AS} {s : Bool} {r : List Int} (h : WD a as s (zT r)) : WE (fP (aC a aN) lstP) as (zT r) := ⟨_, zqP h, (zax r).1, (zax r).2⟩
theorem zks {a b c d : EF} {as : AS} {x y z u w : D} {g : List (Bool × D) -> Option O} (ha : WE a as x) (hb : WE b as y) (hc : WE c as z) (hd : WE d as u) (hg : RE (g [(true, x), (true, y), (true, z), (true, u)]) w) : WE (zH (aC a (aC b (aC c (aC d aN)))) g) as w := by
 obtain ⟨o, h1, h2⟩ := hg
 exact ⟨o, zan (Yk ha (Yk hb (Yk hc (Yk hd zL)))) (by show g [(zU x || true, x), (zU y || true, y), (zU z || true, z), (zU u || true, u)] = _; rw [Bool.or_true, Bool.or_true, Bool.or_true, Bool.or_true]; exact h1), h2⟩
theorem znv {fr : DF} {as : AS} {os : List O} {x : D} (h : WO fr as os) (hl : os.length <= sizeLine) (hs : O.strs os = true) (e : D.tup (O.toDs os) = x) : WE (wR fr) as x := by
 refine ⟨_, zhm h hl, ?_, ?_⟩
 · unfold Yq
   split
   · exact hs
   · exact hs
 · unfold Yq
   split
   · exact e
   · exact e
theorem copies {n m : Nat} {fr : AF} {cap : List (Option Nat)} {as : AS} {u s : Bool} {r : List Int} (hr : Row n r) (hm : m <= 8) (h1 : WA fr as [(u, .int m)]) (h2 : ∀ b : Int, ∃ as1, gN 0 (true, .int b) (Yy cap as) = some as1 /\ WD (fV 1) as1 s (zT r)) :
 ∃ T, zoA m n (λ _ a => rAt r a) T /\ WE (yw (yx fr yC) cap (gN 0) xG (fP (aC (fV 1) aN) lstP)) as (zX T) :=
 zik (f := λ _ a => rAt r a) (n := n) (k := m) (cap := cap) (fe := fP (aC (fV 1) aN) lstP) h1 (by trivial) λ b _ => by
  obtain ⟨as1, g1, g2⟩ := h2 b
  exact ⟨as1, r, g1, zpa g2, hr.1, hr.2, λ _ _ => rfl⟩
theorem zjm {l : List Int} (h : l.Pairwise (· <= ·)) {i j : Nat} (hij : i < j) (hj : j < l.length) : l[i] <= l[j] := List.pairwise_iff_getElem.mp h i j (by trivial) hj hij
theorem vV {r : List Int} {a : Int} (h : a.toNat < r.length) : rAt r a = r[a.toNat] := by unfold rAt; rw [zzB h]; rfl
theorem zgG : ∀ l : List Int, Wi (l.map D.int) = some l
 | [] => rfl
 | x :: r => by
  show (Wi (r.map D.int)).bind _ = _
  rw [zgG r]; rfl
theorem zoE {as : AS} {i : Nat} {os : List O} {fl fh : OF} {lo hi : Option Int} (h : as[i]? = some (sN os)) (hl : os.all O.isLf = true) (hs : O.strs os = true) (h1 : fl as = some (lo, as)) (h2 : fh as = some (hi, as)) :
 fSl (fV i) fl fh slP as = some (.ow (.nd .ls ((cutD (O.toDs os) lo hi).map (O.lf true))), as) := by
 unfold fSl
 rw [zef h]; show ((fl as).bind _) = _
 rw [h1]; show ((fh as).bind _) = _
 rw [h2]; show ((RV.view as (.bo i)).bind _) = _
 rw [zcE h]
 have e : (O.nd .ls os).kl = some true := by simp only [O.kl, hl, if_true, hs]
 rw [e]
 show (wrap (some true) (.fl (cutD (O.toDs os) lo hi))).bind _ = _
 show (if ((cutD (O.toDs os) lo hi).all zU || true) = true then some (RV.ow (.nd .ls ((cutD (O.toDs os) lo hi).map (lfs true)))) else none : Option RV).bind _ = _
 rw [if_pos (by simp), Wd]; rfl
theorem Ows.frz {α : Type} {toD : α -> D} {Q : α -> Prop} {os : List O} {l : List α} (h : Ows toD Q os l) : (O.nd .ls os).frz = .lf true (.lst (l.map toD)) := by
 show O.lf (O.strs os) (.lst (O.toDs os)) = _
 rw [h.st, h.ds]
theorem zho {as as2 : AS} {j : Nat} {ps : List O} {fr : DF} {os : List O} (hj : as[j]? = some (sN ps)) (hr : fr (as.set j (some (O.nd .ls ps).frz)) = some (os, as2)) : dC (fV j) fr as = some ((O.nd .ls ps).frz :: os, as2) := by
 unfold dC
 rw [zef hj]
 show ((toO as (.bo j)).bind _) = _
 rw [zpM hj]
 show (fr (as.set j (some (O.nd .ls ps).frz))).bind _ = _
 rw [hr]; rfl
theorem zir {as as1 : AS} {fr : DF} {os : List O} (h : fr as = some (os, as1)) (hl : os.length <= sizeLine) : wR fr as = some (.ow (Yq os), as1) := by
 unfold wR
 rw [h]; show (if os.length <= sizeLine then _ else _) = _
 rw [if_pos hl]
theorem zcK : ∀ (l : List Int) (k : Nat) (h : k < l.length), (l[k] :: l.eraseIdx k).Perm l
 | x :: r, 0, _ => List.Perm.refl _
 | x :: r, k + 1, h => (List.Perm.swap _ _ _).trans ((zcK r k (by simpa using h)).cons x)
abbrev Yw (n : Nat) : List Int := (List.range n).map λ (i : Nat) => (i : Int)
abbrev Xn (p : Str × List Int) : D := .tup [.str p.1, zT p.2]
theorem zkg {x y : Int} {c : Bool} : ixP (.lst [.int x, .int y]) (.int (if c = true then 1 else 0)) = some (.im (.int (if c = true then y else x))) := by cases c <;> rfl
abbrev abc : Str := "abcdefghijklmnopqrstuvwxyz"
theorem zmB : ∀ k, k < 26 -> abc.cps.toList[k]? = some (97 + k) := by decide +kernel
theorem zqc {i : Int} (h0 : 0 <= i) (h1 : i < 26) : ixP (.str abc) (.int i) = some (.im (.str ⟨#[97 + i.toNat]⟩)) := by
 show (if abc.length <= sizeLine then (atI abc.cps.toList i).bind (λ c => some (R0.im (.str ⟨#[c]⟩))) else none) = _
 rw [if_pos (show abc.length <= sizeLine by decide +kernel)]
 have := Xy (zmB i.toNat (by trivial))
 rw [show ((i.toNat : Nat) : Int) = i by trivial] at this
 rw [this]; rfl
theorem zgA : ∀ l : List Str, zbO (l.map D.str) = some l
 | [] => rfl
 | x :: r => by
  show (zbO (r.map D.str)).bind _ = _
  rw [zgA r]; rfl
theorem zrf : ∀ l : List Str, (∀ s ∈ l, s.length = 1) -> (l.map (·.length)).sum = l.length
 | [], _ => rfl
 | x :: r, h => by
  show x.length + (r.map (·.length)).sum = r.length + 1
  rw [h x (zzC ..), zrf r λ s m => h s (zzA _ m)]; trivial
theorem znJ {α : Type} (toD : α -> D) {Q : Nat -> α -> Prop} {fr : AF} {cap : List (Option Nat)} {fe : EF} {as : AS} {n : Nat} {u : Bool} (h1 : WA fr as [(u, .int n)]) (hl : n <= 1000) (H : ∀ i : Nat, i < n -> ∃ as1 a, gN 0 (true, .int (i : Int)) (Yy cap as) = some as1 /\ WE fe as1 (toD a) /\ Q i a) :
 ∃ l : List α, l.length = n /\ (∀ i a, l[i]? = some a -> Q i a) /\ WE (yw (yx fr yC) cap (gN 0) xG fe) as (.lst (l.map toD)) := by
 obtain ⟨l, a1, a2, a3⟩ := zki toD (Q := Q) (cap := cap) (g := gN 0) (fe := fe) (xT h1 (by trivial) (by trivial)) (by rw [yJ]; trivial) (λ i y m => by
  obtain ⟨rfl, hi⟩ := xJ m
  rw [Int.zero_add]
  exact H i (by trivial))
 rw [yJ] at a1
 exact ⟨l, by trivial, a2, a3⟩
theorem Yt {F : List Int} {n : Nat} (h : F.Perm (Yw n)) : Row n F /\ ∀ b : Int, 0 <= b -> b < n -> b ∈ F := by
 refine ⟨⟨by rw [h.length_eq, zD, List.length_range], λ x m => ?_⟩, λ b b0 b1 => h.mem_iff.mpr ?_⟩
 · obtain ⟨i, hi, rfl⟩ := List.mem_map.mp (h.mem_iff.mp m)
   have := List.mem_range.mp hi
   trivial
 · exact List.mem_map.mpr ⟨b.toNat, List.mem_range.mpr (by trivial), by trivial⟩
theorem zgc {F : List Int} {n : Nat} (h : F.Perm (Yw n)) {v w : Int} (hv : InR n v) (hw : InR n w) (e : rAt F v = rAt F w) : v = w := by
 have hl := (Yt h).1.1
 have v0 := hv.1
 have v1 := hv.2
 have w0 := hw.1
 have w1 := hw.2
 have nd : F.Nodup := by
  refine h.nodup_iff.mpr (List.pairwise_map.mpr (List.nodup_range.imp λ z q => z (by trivial)))
 rw [vV (by trivial), vV (by trivial)] at e
 have := (List.getElem_inj nd).mp e
 trivial
theorem zrq {f : EF} {g : GF} {as as' : AS} {x : D} (h : WE f as x) (hg : g (true, x) as = some as') : zfD f g as = some (.nx as') := by
 obtain ⟨o, h1, h2, h3⟩ := h
 exact zpf h1 (by rw [h2, h3]; exact hg)
abbrev Xm (p : Str × TZ) : D := .tup [.str p.1, zX p.2]
structure Alg (n m : Nat) (J : TZ) (e : Int) (Ds : DD) : Prop where
 n1 : 1 <= n
 n8 : n <= 8
 m1 : 1 <= m
 m6 : m <= 6
 j : Tab n n J
 e0 : 0 <= e
 en : e < n
 dl : Ds.length <= 6
 ds : ∀ p ∈ Ds, Tab m n p.2
 nd : (Ds.map (·.1)).Nodup
structure LawA (n m : Nat) (J : TZ) (e : Int) (Ds : DD) : Prop where
 lj : LJ n (jAt J) e
 ld : ∀ p ∈ Ds, LD n m (jAt J) e (jAt p.2)
abbrev yI (n m : Nat) (J : TZ) (e : Int) (Ds : DD) (S : SS) : D := .tup [.int n, .int m, zX J, .int e, .lst (Ds.map Xm), .lst (S.map Xn)]
theorem zeV {f : EF} {as : AS} {k : Int} (h : WD f as true (.int k)) : oS f as = some (some k, as) := by
 unfold oS
 unfold WD at h
 rw [h]; rfl
abbrev ZW (T : TZ) : O := .nd .ls (T.map zaa)
theorem zbx {as : AS} {i : Nat} {k : Int} {s : Bool} (h : as[i]? = some (some (.lf s (.int k)))) : xV i as = some k := by
 unfold xV; rw [zhQ (f := zdE) h rfl]; rfl
theorem zqj {r : List Int} {k : Int} (h : k.toNat < r.length) : (r.map lfI)[k.toNat]? = sT (.int r[k.toNat]) := by
 rw [zzF, zzB h]; rfl
theorem zjp {as : AS} {i : Nat} {f1 f2 fv : IXF} {k1 k2 c : Int} {T : TZ} {r : List Int} (h1 : f1 as = some k1) (h2 : f2 as = some k2) (hv : fv as = some c) (p1 : 0 <= k1) (p2 : 0 <= k2) (hi : as[i]? = some (some (ZW T))) (hr : T[k1.toNat]? = some r) (hk : k2.toNat < r.length) :
 VV i f1 f2 fv as = some (.nx (as.set i (some (ZW (T.set k1.toNat (r.set k2.toNat c)))))) := by
 have e1 : (T.map zaa)[k1.toNat]? = sN (r.map lfI) := by rw [zzF, hr]; rfl
 have e2 := zqj hk
 have e3 : (T.map zaa).set k1.toNat (.nd .ls ((r.map lfI).set k2.toNat (.lf true (.int c)))) = (T.set k1.toNat (r.set k2.toNat c)).map zaa := by
  rw [List.map_set]
  show _ = (T.map zaa).set k1.toNat (.nd .ls ((r.set k2.toNat c).map lfI))
  rw [List.map_set]
 unfold VV
 simp only [h1, h2, hv, Option.bind_some, if_pos (show 0 <= k1 /\ 0 <= k2 from ⟨p1, p2⟩), (zhQ hi rfl : slO zhi as i = some (T.map zaa)), (zij e1 rfl : atO zhi _ _ = some (r.map lfI)), (zij e2 rfl : atO zdE _ _ = some (.int r[k2.toNat])), e3]
theorem znu {n i : Nat} {r : List Int} {c : Int} (hr : Row n r) (hc : InR n c) : Row n (r.set i c) := by
 refine ⟨by rw [zzR]; exact hr.1, λ x m => ?_⟩
 rcases List.mem_or_eq_of_mem_set m with m | rfl
 · exact hr.2 x m
 · exact hc
theorem zny {k n i : Nat} {T : TZ} {r : List Int} (hT : Tab k n T) (hr : Row n r) : Tab k n (T.set i r) := by
 refine ⟨by rw [zzR]; exact hT.1, λ x m => ?_⟩
 rcases List.mem_or_eq_of_mem_set m with m | rfl
 · exact hT.2 x m
 · exact hr
theorem zhY (T : TZ) : (ZW T).frz = .lf true (zX T) := by
 show O.lf (O.strs _) (.lst (O.toDs _)) = _
 rw [(zcA T).1, (zcA T).2]
theorem zhI {n : Nat} {J : TZ} {w v : Int} (hJ : Tab n n J) (hw : InR n w) (hv : InR n v) : InR n (jAt J w v) := (rowAt (Zo hJ hw).2 hv).2
theorem Xz {a b c : EF} {as : AS} {n : Nat} {J : TZ} {w v : Int} (hJ : Tab n n J) (hw : InR n w) (hv : InR n v) (ha : WD a as true (zX J)) (hb : WD b as true (.int w)) (hc : WD c as true (.int v)) : WD (f2 (f2 a b ixP) c ixP) as true (.int (jAt J w v)) :=
 yG (wF ha hb (Zo hJ hw).1) hc (rowAt (Zo hJ hw).2 hv).1 rfl
theorem zrk {fr : AF} {as : AS} {rs : List (Bool × D)} {g : List D -> Option R0} {kvs : List (Key × D)} (ha : WA fr as rs) (hg : g (rs.map (·.2)) = some (.fd kvs)) : fP fr g as = some (.ow (.nd (.dc (kvs.map (·.1))) ((kvs.map (·.2)).map (lfs (rs.all (·.1))))), as) := by
 unfold fP; unfold WA at ha
 rw [ha]; show (views as _).bind _ = _
 rw [Yc]; show (g _).bind _ = _
 rw [hg]
 show (if ((kvs.map (·.2)).all zU || (some (rs.all (·.1))).isSome) = true then _ else _ : Option RV).bind _ = _
 rw [if_pos (by simp)]; rfl
abbrev RT (o : O) : Prop := o.str = true /\ ∃ ds, o.toD = .tup ds
theorem ziN {g : GF} {f : SF} (I : AS -> Prop) (P : It1 -> Prop) : ∀ (xs : List It1) (as : AS), (∀ x ∈ xs, ∀ as, I as -> ∃ as1, g x as = some as1 /\ ((∃ as2, f as1 = some (.nx as2) /\ I as2 /\ P x) \/ ∃ o, f as1 = some (.rt o) /\ RT o /\ ¬ P x)) -> I as ->
 (∃ as', forL g f xs as = some (.nx as') /\ I as' /\ ∀ x ∈ xs, P x) \/ ∃ o, forL g f xs as = some (.rt o) /\ RT o /\ ¬ ∀ x ∈ xs, P x
 | [], as, _, h => .inl ⟨as, rfl, h, λ _ m => nomatch m⟩
 | x :: r, as, H, h => by
  obtain ⟨as1, h1, h2⟩ := H x (zzC ..) as h
  rcases h2 with ⟨as2, h2, h3, h4⟩ | ⟨o, h2, h3, h4⟩
  · rcases ziN I P r as2 (λ y m => H y (zzA _ m)) h3 with ⟨as', k1, k2, k3⟩ | ⟨o, k1, k2, k3⟩
    · refine .inl ⟨as', zem h1 h2 k1, k2, λ y m => ?_⟩
      rcases zS.mp m with rfl | m
      · exact h4
      · exact k3 y m
    · exact .inr ⟨o, zem h1 h2 k1, k2, λ z => k3 λ y m => z y (zzA _ m)⟩
  · exact .inr ⟨o, zkC h1 h2, h3, λ z => h4 (z x (zzC ..))⟩
abbrev zcr (r : Option Out) (I : AS -> Prop) (P : Prop) : Prop := (∃ as', r = some (.nx as') /\ I as' /\ P) \/ ∃ o, r = some (.rt o) /\ RT o /\ ¬ P
theorem zcr.imp {r : Option Out} {I : AS -> Prop} {P Q : Prop} (h : zcr r I P) (k : P ↔ Q) : zcr r I Q := by
 rcases h with ⟨a, b, c, d⟩ | ⟨a, b, c, d⟩
 · exact .inl ⟨a, b, c, k.mp d⟩
 · exact .inr ⟨a, b, c, λ z => d (k.mpr z)⟩
theorem Vm {v n : Nat} {f fr : SF} (I : AS -> Prop) (P : Int -> Prop) (H : ∀ b, InR n b -> ∀ as, I as -> ∃ as1, gN v (true, .int b) as = some as1 /\ zcr (f as1) I (P b)) {as : AS} (h : I as) : zcr (forL (gN v) f (yR 0 n) as) I (∀ b, InR n b -> P b) := by
 have k := ziN (g := gN v) (f := f) I (λ x => ∀ b, x = (true, .int b) -> P b) (yR 0 n) as (λ x m as hI => by
  obtain ⟨b, rfl, b0, b1⟩ := zcz m
  obtain ⟨as1, h1, h2⟩ := H b ⟨b0, by trivial⟩ as hI
  exact ⟨as1, h1, h2.imp ⟨λ p c e => by cases e; exact p, λ p => p b rfl⟩⟩) h
 refine zcr.imp k ⟨λ p b hb => p (true, .int b) ?_ b rfl, λ p x m b e => ?_⟩
 · have hb0 := hb.1
   have hb1 := hb.2
   refine List.mem_of_getElem? (i := b.toNat) ?_
   unfold yR
   rw [zzF, List.getElem?_range (by trivial)]
   show some (true, D.int (0 + (b.toNat : Int))) = _
   rw [show (0 : Int) + (b.toNat : Int) = b by trivial]
 · subst e
   obtain ⟨c, e, c0, c1⟩ := zcz m
   cases e
   exact p b ⟨c0, by trivial⟩
theorem Zv {v n : Nat} {g : GF} {f : SF} {as : AS} {s : Bool} (h : as[v]? = some (some (.lf s (.int n)))) (hn : n <= 1000) : yZ (yx (aC (fV v) aN) yC) g f as = forL g f (yR 0 n) as :=
 wV (xT (zB (zb h) zL) (by trivial) (by trivial)) (by rw [Int.toNat_natCast])
theorem zgV {c : TF} {f : EF} {as : AS} {P : Prop} {q : Bool} {ds : List D} {I : AS -> Prop} (ht : WT c as q) (hq : q = true ↔ ¬ P) (hf : WE f as (.tup ds)) (hI : I as) : zcr (sIf c (yu f) sNx as) I P := by
 cases q with
 | false => exact .inl ⟨as, wH ht rfl, hI, Classical.byContradiction λ z => nomatch hq.mpr z⟩
 | true =>
  obtain ⟨o, h1, h2, h3⟩ := zkQ hf
  exact .inr ⟨o, ZQ ht h1, ⟨h2, ds, h3⟩, hq.mp rfl⟩
theorem zjz {a b : EF} {as : AS} {x y : Int} {s t : Bool} (ha : WD a as s (.int x)) (hb : WD b as t (.int y)) : WT (fT (f2 a b (yt .NotEq))) as (!(x == y)) := Zw (zqs (c := x == y) ha hb rfl) rfl
theorem zii {x y : Int} : (!(x == y)) = true ↔ ¬ x = y := by simp
abbrev UnA (n : Nat) (J : TZ) (e : Int) : Prop := ∀ a, InR n a -> jAt J e a = a /\ jAt J a e = a
abbrev As (n : Nat) (J : TZ) : Prop := ∀ a, InR n a -> ∀ b, InR n b -> ∀ c, InR n c -> jAt J (jAt J a b) c = jAt J a (jAt J b c)
section
variable {S : Option O -> Option O -> Option O -> AS} {vj vn ve : Nat} {J : TZ} {n : Nat} {e : Int}
theorem zou {x y z : Option O} (hJ : Tab n n J) (he : InR n e) (hj : ∀ x y z, (S x y z)[vj]? = some (sT (zX J))) (hv : ∀ x y z, (S x y z)[ve]? = some (sI e)) (h3 : ∀ x y z, (S x y z)[3]? = some x) (g3 : ∀ d x y z, gN 3 (true, d) (S x y z) = some (S (sT d) y z)) :
 zcr (forL (gN 3) (sIf (zdY (fT (f2 (f2 (f2 (fV vj) (fV ve) ixP) (fV 3) ixP) (fV 3) (yt .NotEq))) (fT (f2 (f2 (f2 (fV vj) (fV 3) ixP) (fV ve) ixP) (fV 3) (yt .NotEq)))) (yu (wR (dC (fC (.str "nothing")) (dC (fV 3) dN)))) sNx) (yR 0 n) (S x y z)) (λ as => ∃ x, as = S x y z) (UnA n J e) := by
 refine Vm (fr := sNx) (λ as => ∃ x, as = S x y z) (λ a => jAt J e a = a /\ jAt J a e = a) (λ a ha as hI => ?_) ⟨x, rfl⟩
 obtain ⟨x, rfl⟩ := hI
 have w3 : WD (fV 3) (S (sI a) y z) true (.int a) := zb (h3 _ _ _)
 have t1 := zjz (Xz hJ he ha (zb (hj (sI a) y z)) (zb (hv (sI a) y z)) w3) w3
 have t2 := zjz (Xz hJ ha he (zb (hj (sI a) y z)) w3 (zb (hv (sI a) y z))) w3
 refine ⟨S (sI a) y z, g3 _ _ _ _, zgV (q := !(jAt J e a == a) || !(jAt J a e == a)) (ds := [.str "nothing", .int a]) (zlW t1 (λ h => by rw [h, Bool.false_or]; exact t2) (λ h => by rw [h]; rfl)) (by simp; grind) (znv (os := [.lf true (.str "nothing"), lfI a]) (zV zg (zV w3 yO)) (szl rfl) rfl rfl) ⟨_, rfl⟩⟩
abbrev zoq (vj vn : Nat) : SF := yZ (yx (aC (fV vn) aN) yC) (gN 4) (yZ (yx (aC (fV vn) aN) yC) (gN 5) (sIf (fT (f2 (f2 (f2 (fV vj) (f2 (f2 (fV vj) (fV 3) ixP) (fV 4) ixP) ixP) (fV 5) ixP) (f2 (f2 (fV vj) (fV 3) ixP) (f2 (f2 (fV vj) (fV 4) ixP) (fV 5) ixP) ixP) (yt .NotEq))) (yu (wR (dC (fC (.str "parting")) (dC (fV 3) (dC (fV 4) (dC (fV 5) dN)))))) sNx))
theorem zmo {x y z : Option O} (n8 : n <= 8) (hJ : Tab n n J) (hj : ∀ x y z, (S x y z)[vj]? = some (sT (zX J))) (hn : ∀ x y z, (S x y z)[vn]? = some (sI n)) (h3 : ∀ x y z, (S x y z)[3]? = some x) (h4 : ∀ x y z, (S x y z)[4]? = some y) (h5 : ∀ x y z, (S x y z)[5]? = some z)
 (g3 : ∀ d x y z, gN 3 (true, d) (S x y z) = some (S (sT d) y z)) (g4 : ∀ d x y z, gN 4 (true, d) (S x y z) = some (S x (sT d) z)) (g5 : ∀ d x y z, gN 5 (true, d) (S x y z) = some (S x y (sT d))) :
 zcr (forL (gN 3) (zoq vj vn) (yR 0 n) (S x y z)) (λ as => ∃ x y z, as = S x y z) (As n J) := by
 refine Vm (fr := sNx) (λ as => ∃ x y z, as = S x y z) (λ a => ∀ b, InR n b -> ∀ c, InR n c -> jAt J (jAt J a b) c = jAt J a (jAt J b c)) (λ a ha as hI => ?_) ⟨x, y, z, rfl⟩
 obtain ⟨x, y, z, rfl⟩ := hI
 refine ⟨_, g3 _ _ _ _, ?_⟩
 unfold zoq
 rw [Zv (hn _ _ _) (by trivial)]
 have k := Vm (v := 4) (n := n) (fr := sNx) (f := yZ (yx (aC (fV vn) aN) yC) (gN 5) (sIf (fT (f2 (f2 (f2 (fV vj) (f2 (f2 (fV vj) (fV 3) ixP) (fV 4) ixP) ixP) (fV 5) ixP) (f2 (f2 (fV vj) (fV 3) ixP) (f2 (f2 (fV vj) (fV 4) ixP) (fV 5) ixP) ixP) (yt .NotEq))) (yu (wR (dC (fC (.str "parting")) (dC (fV 3) (dC (fV 4) (dC (fV 5) dN)))))) sNx)) (λ as => ∃ y z, as = S (sI a) y z) (λ b => ∀ c, InR n c -> jAt J (jAt J a b) c = jAt J a (jAt J b c)) (λ b hb as hI => by
  obtain ⟨y, z, rfl⟩ := hI
  refine ⟨_, g4 _ _ _ _, ?_⟩
  rw [Zv (hn _ _ _) (by trivial)]
  have k := Vm (v := 5) (n := n) (fr := sNx) (f := sIf (fT (f2 (f2 (f2 (fV vj) (f2 (f2 (fV vj) (fV 3) ixP) (fV 4) ixP) ixP) (fV 5) ixP) (f2 (f2 (fV vj) (fV 3) ixP) (f2 (f2 (fV vj) (fV 4) ixP) (fV 5) ixP) ixP) (yt .NotEq))) (yu (wR (dC (fC (.str "parting")) (dC (fV 3) (dC (fV 4) (dC (fV 5) dN)))))) sNx) (λ as => ∃ z, as = S (sI a) (sI b) z) (λ c => jAt J (jAt J a b) c = jAt J a (jAt J b c)) (λ c hc as hI => by
   obtain ⟨z, rfl⟩ := hI
   have w3 : WD (fV 3) (S (sI a) (sI b) (sI c)) true (.int a) := zb (h3 _ _ _)
   have w4 : WD (fV 4) (S (sI a) (sI b) (sI c)) true (.int b) := zb (h4 _ _ _)
   have w5 : WD (fV 5) (S (sI a) (sI b) (sI c)) true (.int c) := zb (h5 _ _ _)
   have wj : WD (fV vj) (S (sI a) (sI b) (sI c)) true (zX J) := zb (hj _ _ _)
   have ab := zhI hJ ha hb
   have bc := zhI hJ hb hc
   exact ⟨_, g5 _ _ _ _, zgV (ds := [.str "parting", .int a, .int b, .int c]) (zjz (Xz hJ ab hc wj (Xz hJ ha hb wj w3 w4) w5) (Xz hJ ha bc wj w3 (Xz hJ hb hc wj w4 w5))) zii (znv (os := [.lf true (.str "parting"), lfI a, lfI b, lfI c]) (zV zg (zV w3 (zV w4 (zV w5 yO)))) (szl rfl) rfl rfl) ⟨_, rfl⟩⟩) ⟨z, rfl⟩
  rcases k with ⟨as', k1, ⟨z', rfl⟩, k3⟩ | k
  · exact .inl ⟨_, k1, ⟨_, _, rfl⟩, k3⟩
  · exact .inr k) ⟨y, z, rfl⟩
 rcases k with ⟨as', k1, ⟨y', z', rfl⟩, k3⟩ | k
 · exact .inl ⟨_, k1, ⟨_, _, _, rfl⟩, k3⟩
 · exact .inr k
end
abbrev Flt (r : Option O) (P : Prop) : Prop := (RE r .non /\ P) \/ ((∃ ds, RE r (.tup ds)) /\ ¬ P)
theorem zhC {n m : Nat} {c : SF} {ds : List (Bool × D)} {P : Prop} (hl : ds.length = m) (h : (Rt (c (vG n ds)) .non /\ P) \/ ((∃ es, Rt (c (vG n ds)) (.tup es)) /\ ¬ P)) : Flt (fnR n m c ds) P := by
 rcases h with ⟨h, p⟩ | ⟨⟨es, h⟩, p⟩
 · exact .inl ⟨Zd hl h, p⟩
 · exact .inr ⟨⟨es, Zd hl h⟩, p⟩
theorem zeR {f g : SF} {as : AS} {I : AS -> Prop} {P Q : Prop} (h : zcr (f as) I P) (k : ∀ as', I as' -> P -> (Rt (g as') .non /\ Q) \/ ((∃ es, Rt (g as') (.tup es)) /\ ¬ Q)) : (Rt (zE f g as) .non /\ P /\ Q) \/ ((∃ es, Rt (zE f g as) (.tup es)) /\ ¬ (P /\ Q)) := by
 rcases h with ⟨as', h1, h2, p⟩ | ⟨o, h1, ⟨h2, es, h3⟩, p⟩
 · rcases k as' h2 p with ⟨k1, q⟩ | ⟨⟨es, k1⟩, q⟩
   · exact .inl ⟨zR h1 k1, p, q⟩
   · exact .inr ⟨⟨es, zR h1 k1⟩, λ z => q z.2⟩
 · exact .inr ⟨⟨es, o, Vq h1, h2, h3⟩, λ z => p z.1⟩
theorem zeJ {as : AS} : (Rt (yu (fC .non) as) .non /\ True) \/ ((∃ es, Rt (yu (fC .non) as) (.tup es)) /\ ¬ True) := .inl ⟨v5 (WD.e zg), trivial⟩
theorem Flt.imp {r : Option O} {P Q : Prop} (h : Flt r P) (k : P ↔ Q) : Flt r Q := by
 rcases h with ⟨h, p⟩ | ⟨h, p⟩
 · exact .inl ⟨h, k.mp p⟩
 · exact .inr ⟨h, λ z => p (k.mpr z)⟩
section
variable {n m : Nat} {J T : TZ} {e : Int} {Ds : DD} {S : SS}
abbrev Dn (n m : Nat) (J T : TZ) : Prop := ∀ a, InR n a -> ∀ i, InR m i -> ∀ b, InR n b -> ∀ k, InR m k -> jAt T ((i + k) % m) (jAt J a b) = jAt J (jAt T i a) (jAt T k b)
theorem V9 {a b c : EF} {as : AS} {w v : Int} (hT : Tab m n T) (hw : InR m w) (hv : InR n v) (ha : WD a as true (zX T)) (hb : WD b as true (.int w)) (hc : WD c as true (.int v)) : WD (f2 (f2 a b ixP) c ixP) as true (.int (jAt T w v)) /\ InR n (jAt T w v) :=
 ⟨yG (wF ha hb (Zo hT hw).1) hc (rowAt (Zo hT hw).2 hv).1 rfl, (rowAt (Zo hT hw).2 hv).2⟩
abbrev dfI : SF := (sIf (fT (f2 (f2 (f2 (fV 2) (f2 (f2 (fV 7) (fV 9) (zm .Add)) (fV 4) (zm .Mod)) ixP) (f2 (f2 (fV 5) (fV 6) ixP) (fV 8) ixP) ixP) (f2 (f2 (fV 5) (f2 (f2 (fV 2) (fV 7) ixP) (fV 6) ixP) ixP) (f2 (f2 (fV 2) (fV 9) ixP) (fV 8) ixP) ixP) (yt .NotEq))) (yu (wR (dC (fC (.str "doing")) (dC (fV 1) (dC (fV 6) (dC (fV 7) (dC (fV 8) (dC (fV 9) dN)))))))) sNx)
abbrev D10 (n m : Nat) (J T : TZ) (e : Int) (Ds : DD) (S : SS) (s : Str) (x y z w : Option O) : AS := [sT (yI n m J e Ds S), sT (.str s), sT (zX T), sI n, sI m, sT (zX J), x, y, z, w]
theorem df4 {s : Str} {a i b : Int} {w : Option O} (hJ : Tab n n J) (hT : Tab m n T) (m1 : 1 <= m) (ha : InR n a) (hi : InR m i) (hb : InR n b) : zcr (forL (gN 9) dfI (yR 0 m) (D10 n m J T e Ds S s (sI a) (sI i) (sI b) w)) (λ as => ∃ w, as = D10 n m J T e Ds S s (sI a) (sI i) (sI b) w) (∀ k, InR m k -> jAt T ((i + k) % m) (jAt J a b) = jAt J (jAt T i a) (jAt T k b)) := by
 refine Vm (fr := sNx) (λ as => ∃ w, as = D10 n m J T e Ds S s (sI a) (sI i) (sI b) w) (λ k => jAt T ((i + k) % m) (jAt J a b) = jAt J (jAt T i a) (jAt T k b)) (λ k hk as hI => ?_) ⟨w, rfl⟩
 obtain ⟨w, rfl⟩ := hI
 have w2 : WD (fV 2) (D10 n m J T e Ds S s (sI a) (sI i) (sI b) (sI k)) true (zX T) := zb rfl
 have w5 : WD (fV 5) (D10 n m J T e Ds S s (sI a) (sI i) (sI b) (sI k)) true (zX J) := zb rfl
 have w6 : WD (fV 6) (D10 n m J T e Ds S s (sI a) (sI i) (sI b) (sI k)) true (.int a) := zb rfl
 have w7 : WD (fV 7) (D10 n m J T e Ds S s (sI a) (sI i) (sI b) (sI k)) true (.int i) := zb rfl
 have w8 : WD (fV 8) (D10 n m J T e Ds S s (sI a) (sI i) (sI b) (sI k)) true (.int b) := zb rfl
 have w9 : WD (fV 9) (D10 n m J T e Ds S s (sI a) (sI i) (sI b) (sI k)) true (.int k) := zb rfl
 obtain ⟨q1, q2⟩ := V9 hT hi ha w2 w7 w6
 obtain ⟨q3, q4⟩ := V9 hT hk hb w2 w9 w8
 have ab := zhI hJ ha hb
 obtain ⟨q5, q6⟩ := V9 hT (w := (i + k) % m) (Vb m1) ab w2 (zY (yF w7 w9) (zb (i := 4) (x := .int m) (s := true) rfl) (by trivial)) (Xz hJ ha hb w5 w6 w8)
 exact ⟨_, rfl, zgV (ds := [.str "doing", .str s, .int a, .int i, .int b, .int k]) (zjz q5 (Xz hJ q2 q4 w5 q1 q3)) zii (znv (os := [.lf true (.str "doing"), .lf true (.str s), lfI a, lfI i, lfI b, lfI k]) (zV zg (zV (zb (i := 1) rfl) (zV w6 (zV w7 (zV w8 (zV w9 yO)))))) (szl rfl) rfl rfl) ⟨_, rfl⟩⟩
theorem Flt.none {r : Option O} {P : Prop} (h : Flt r P) (p : P) : RE r .non := by
 rcases h with ⟨h, _⟩ | ⟨_, h⟩
 · exact h
 · exact absurd p h
theorem LawA.un (L : LawA n m J e Ds) : UnA n J e := λ a ha => ⟨L.lj.ul a ha, L.lj.ur a ha⟩
theorem LawA.as (L : LawA n m J e Ds) : As n J := λ a ha b hb c hc => L.lj.as a b c ha hb hc
theorem LawA.dn (L : LawA n m J e Ds) {p : Str × TZ} (hp : p ∈ Ds) : Dn n m J p.2 := λ a ha i hi b hb k hk => (L.ld p hp).dn a i b k ha hi hb hk
end
def iP (b k : Int) : Int := if k = 0 then b / 2 else b % 2
def jP (a b : Int) : Int := 2 * iP b (a / 2) + iP b (a % 2)
def sP (a : Int) : Int := 2 * (1 - a % 2) + 1 - a / 2
theorem ljP : LJ 4 jP 1 := by
 refine ⟨λ a b ha hb => ?_, ⟨by decide, by decide⟩, λ a ha => ?_, λ a ha => ?_, λ a b c ha hb hc => ?_⟩
 · revert b; refine f4 (P := λ a => ∀ b, InR 4 b -> InR 4 (jP a b)) ?_ ha
   have : ∀ a ∈ ([0, 1, 2, 3] : List Int), ∀ b ∈ ([0, 1, 2, 3] : List Int), InR 4 (jP a b) := by decide
   exact λ a m b hb => f4 (P := λ b => InR 4 (jP a b)) (this a m) hb
 · exact f4 (P := λ a => jP 1 a = a) (by decide) ha
 · exact f4 (P := λ a => jP a 1 = a) (by decide) ha
 · have : ∀ a ∈ ([0, 1, 2, 3] : List Int), ∀ b ∈ ([0, 1, 2, 3] : List Int), ∀ c ∈ ([0, 1, 2, 3] : List Int), jP (jP a b) c = jP a (jP b c) := by decide
   refine f4 (P := λ a => jP (jP a b) c = jP a (jP b c)) (λ a m => f4 (P := λ b => jP (jP a b) c = jP a (jP b c)) (λ b m' => f4 (P := λ c => jP (jP a b) c = jP a (jP b c)) (this a m b m') hc) hb) ha
theorem ldP {m : Nat} {r : Int -> Int} (h : (∀ a, InR 4 a -> r a = a) \/ (∀ a, InR 4 a -> r a = sP a)) : LD 4 m jP 1 (λ _ a => r a) := by
 rcases h with h | h
 · refine ⟨λ c a _ ha => by show InR 4 (r a); rw [h a ha]; exact ha, h 1 ⟨by decide, by decide⟩, λ a i b k ha _ hb _ => ?_⟩
   show r (jP a b) = jP (r a) (r b)
   rw [h a ha, h b hb, h _ (ljP.cl a b ha hb)]
 · refine ⟨λ c a _ ha => by show InR 4 (r a); rw [h a ha]; exact f4 (P := λ a => InR 4 (sP a)) (by decide) ha, h 1 ⟨by decide, by decide⟩, λ a i b k ha _ hb _ => ?_⟩
   show r (jP a b) = jP (r a) (r b)
   rw [h a ha, h b hb, h _ (ljP.cl a b ha hb)]
   have : ∀ a ∈ ([0, 1, 2, 3] : List Int), ∀ b ∈ ([0, 1, 2, 3] : List Int), sP (jP a b) = jP (sP a) (sP b) := by decide
   exact f4 (P := λ a => sP (jP a b) = jP (sP a) (sP b)) (λ a m => f4 (P := λ b => sP (jP a b) = jP (sP a) (sP b)) (this a m) hb) ha
theorem ljB {n1 n2 : Nat} {j1 j2 : Int -> Int -> Int} {e1 e2 : Int} (h1 : LJ n1 j1 e1) (h2 : LJ n2 j2 e2) (p2 : 0 < n2) : LJ (n1 * n2) (jB n2 j1 j2) (e1 * n2 + e2) := by
 refine ⟨λ a b ha hb => ?_, zoZ h1.ce h2.ce, λ a ha => ?_, λ a ha => ?_, λ a b c ha hb hc => ?_⟩
 · exact zoZ (h1.cl _ _ (ye p2 ha).1 (ye p2 hb).1) (h2.cl _ _ (ye p2 ha).2 (ye p2 hb).2)
 · unfold jB
   rw [(VF h2.ce).1, (VF h2.ce).2, h1.ul _ (ye p2 ha).1, h2.ul _ (ye p2 ha).2, zqT]
 · unfold jB
   rw [(VF h2.ce).1, (VF h2.ce).2, h1.ur _ (ye p2 ha).1, h2.ur _ (ye p2 ha).2, zqT]
 · unfold jB
   rw [(VF (h2.cl _ _ (ye p2 ha).2 (ye p2 hb).2)).1, (VF (h2.cl _ _ (ye p2 ha).2 (ye p2 hb).2)).2, (VF (h2.cl _ _ (ye p2 hb).2 (ye p2 hc).2)).1, (VF (h2.cl _ _ (ye p2 hb).2 (ye p2 hc).2)).2, h1.as _ _ _ (ye p2 ha).1 (ye p2 hb).1 (ye p2 hc).1, h2.as _ _ _ (ye p2 ha).2 (ye p2 hb).2 (ye p2 hc).2]
theorem ldB {n1 n2 m : Nat} {j1 j2 d1 d2 : Int -> Int -> Int} {u1 u2 : Int} (h1 : LJ n1 j1 u1) (h2 : LJ n2 j2 u2) (p2 : 0 < n2) (e1 : LD n1 m j1 u1 d1) (e2 : LD n2 m j2 u2 d2) : LD (n1 * n2) m (jB n2 j1 j2) (u1 * n2 + u2) (dB n2 d1 d2) := by
 refine ⟨λ c a hc ha => zoZ (e1.cl _ _ hc (ye p2 ha).1) (e2.cl _ _ hc (ye p2 ha).2), ?_, λ a i b k ha hi hb hk => ?_⟩
 · unfold dB
   rw [(VF h2.ce).1, (VF h2.ce).2, e1.em, e2.em]
 · unfold jB dB
   rw [(VF (h2.cl _ _ (ye p2 ha).2 (ye p2 hb).2)).1, (VF (h2.cl _ _ (ye p2 ha).2 (ye p2 hb).2)).2, (VF (e2.cl i _ hi (ye p2 ha).2)).1, (VF (e2.cl i _ hi (ye p2 ha).2)).2, (VF (e2.cl k _ hk (ye p2 hb).2)).1, (VF (e2.cl k _ hk (ye p2 hb).2)).2, e1.dn _ _ _ _ (ye p2 ha).1 hi (ye p2 hb).1 hk, e2.dn _ _ _ _ (ye p2 ha).2 hi (ye p2 hb).2 hk]
theorem ljT {n : Nat} {j j' : Int -> Int -> Int} {e : Int} {F B : Int -> Int} (h : LJ n j e) (hF : ∀ a, InR n a -> InR n (F a)) (hB : ∀ a, InR n a -> InR n (B a)) (hFB : ∀ a, InR n a -> F (B a) = a) (q : ∀ a b, InR n a -> InR n b -> j' (F a) (F b) = F (j a b)) : LJ n j' (F e) := by
 have q' : ∀ a b, InR n a -> InR n b -> j' a b = F (j (B a) (B b)) := λ a b ha hb => by
  have := q (B a) (B b) (hB a ha) (hB b hb)
  rw [hFB a ha, hFB b hb] at this
  exact this
 refine ⟨λ a b ha hb => by rw [q' a b ha hb]; exact hF _ (h.cl _ _ (hB a ha) (hB b hb)), hF e h.ce, λ a ha => ?_, λ a ha => ?_, λ a b c ha hb hc => ?_⟩
 · have := q e (B a) h.ce (hB a ha)
   rw [hFB a ha, h.ul _ (hB a ha), hFB a ha] at this
   exact this
 · have := q (B a) e (hB a ha) h.ce
   rw [hFB a ha, h.ur _ (hB a ha), hFB a ha] at this
   exact this
 · have a' := hB a ha
   have b' := hB b hb
   have c' := hB c hc
   rw [q' a b ha hb, q' b c hb hc]
   have x := q (j (B a) (B b)) (B c) (h.cl _ _ a' b') c'
   have y := q (B a) (j (B b) (B c)) a' (h.cl _ _ b' c')
   rw [hFB c hc] at x
   rw [hFB a ha] at y
   rw [x, y, h.as _ _ _ a' b' c']
theorem ldT {n m : Nat} {j j' d d' : Int -> Int -> Int} {e : Int} {F B : Int -> Int} (hm : 0 < m) (h : LJ n j e) (k : LD n m j e d) (hF : ∀ a, InR n a -> InR n (F a)) (hB : ∀ a, InR n a -> InR n (B a)) (hFB : ∀ a, InR n a -> F (B a) = a)
 (q : ∀ a b, InR n a -> InR n b -> j' (F a) (F b) = F (j a b)) (p : ∀ c a, InR m c -> InR n a -> d' c (F a) = F (d c a)) : LD n m j' (F e) d' := by
 refine ⟨λ c a hc ha => ?_, ?_, λ a i b l ha hi hb hl => ?_⟩
 · have := p c (B a) hc (hB a ha)
   rw [hFB a ha] at this
   rw [this]; exact hF _ (k.cl _ _ hc (hB a ha))
 · rw [p 0 e ⟨by omega, by omega⟩ h.ce, k.em]
 · have a' := hB a ha
   have b' := hB b hb
   have x := q (B a) (B b) a' b'
   have y := p i (B a) hi a'
   have z := p l (B b) hl b'
   rw [hFB a ha] at x y
   rw [hFB b hb] at x z
   rw [x, y, z, p _ _ (Vb hm) (h.cl _ _ a' b'), q _ _ (k.cl _ _ hi a') (k.cl _ _ hl b'), k.dn _ _ _ _ a' hi b' hl]
def KN (k : Int) (n : Nat) : Prop := (k = 0 /\ 1 <= n) \/ (k = 1 /\ 1 <= n) \/ (k = 2 /\ 1 <= n) \/ (k = 3 /\ n = 4)
def jK (k : Int) (n : Nat) : Int -> Int -> Int := if k = 0 then jS n else if k = 1 then jM else if k = 2 then jL else jP
def eK (k : Int) : Int := if k = 3 then 1 else 0
theorem ljK {k : Int} {n : Nat} (h : KN k n) : LJ n (jK k n) (eK k) := by
 rcases h with ⟨rfl, h⟩ | ⟨rfl, h⟩ | ⟨rfl, h⟩ | ⟨rfl, rfl⟩
 · exact ljS h
 · exact ljM h
 · exact ljL h
 · exact ljP
theorem KN.n1 {k : Int} {n : Nat} (h : KN k n) : 1 <= n := by rcases h with ⟨_, h⟩ | ⟨_, h⟩ | ⟨_, h⟩ | ⟨_, h⟩ <;> omega
theorem zoT {as : AS} {i : Nat} {xs : List Int} {g : List D -> Option R0} {zs : List D} (h : as[i]? = some (sN (xs.map lfI))) (hg : g [zT xs] = some (.fl zs)) : fP (aC (fV i) aN) g as = some (.ow (.nd .ls (zs.map (O.lf true))), as) := by
 obtain ⟨i1, i2, i3⟩ := vd xs
 have e : views as [.bo i] = some ([zT xs], some true) := by
  show (RV.view as (.bo i)).bind _ = _
  rw [zcE h]
  have k : (O.nd .ls (xs.map lfI)).kl = some true := by simp only [O.kl, i1, if_true, i2]
  rw [k, (zax xs).2]; rfl
 unfold fP aC
 rw [zef h]
 simp only [Option.bind_some, aN, RV.frz, e, hg]
 show (if (zs.all zU || true) = true then some (RV.ow (.nd .ls (zs.map (lfs true)))) else none : Option RV).bind _ = _
 rw [if_pos (by simp), Wd]; rfl
theorem znM {a : EF} {as : AS} {i : Nat} {xs : List Int} {ds : List D} (ha : WE a as (.lst ds)) (h : as[i]? = some (sN (xs.map lfI))) (hl : ds.length + xs.length <= 1000) : WE (f2 a (fV i) (zm .Add)) as (.lst (ds ++ xs.map D.int)) := by
 obtain ⟨i1, i2, i3⟩ := vd xs
 obtain ⟨o, h1, h2, h3⟩ := ha
 have k : (O.nd .ls (xs.map lfI)).kl = some true := by simp only [O.kl, i1, if_true, i2]
 have e : f2 a (fV i) (zm .Add) as = some (.ow (.nd .ls ((ds ++ xs.map D.int).map (O.lf true))), as) := by
  have e1 : RV.view as (.ow o.frz) = some (.lst ds, some true) := by
   show some (o.toD, some o.str) = _
   rw [h2, h3]
  have e2 : RV.view as (.bo i) = some (.lst (xs.map D.int), some true) := by rw [zcE h, k, (zax xs).2]
  unfold f2
  simp only [h1, zef h, Option.bind_some, RV.frz, e1, e2]
  show ((zm .Add (.lst ds) (.lst (xs.map D.int))).bind _) = _
  rw [add_lists (by rw [zD]; exact szs (by omega))]
  show (if ((ds ++ xs.map D.int).all zU || true) = true then some (RV.ow (.nd .ls ((ds ++ xs.map D.int).map (lfs true)))) else none : Option RV).bind _ = _
  rw [if_pos (by simp), Wd]; rfl
 exact ⟨_, e, zfW _, congrArg D.lst (zfH _)⟩
theorem zgd {as : AS} {fr : AF} {i j : Int} {u v : Bool} (h : WA fr as [(u, .int i), (v, .int j)]) (h0 : 0 <= i) (h1 : i <= 1000) (h2 : 0 <= j) (h3 : j <= 1000) : yx fr zog as = some (yR i (j - i).toNat, as) := by
 unfold yx; unfold WA at h
 rw [h]
 simp only [Option.bind_some, Yc]
 show ((if -(2 ^ 62) <= i /\ i < 2 ^ 62 /\ -(2 ^ 62) <= j /\ j < 2 ^ 62 then some (yR i (j - i).toNat) else none).bind _) = _
 rw [if_pos ⟨by omega, by omega, by omega, by omega⟩]; rfl
theorem zjK {x p q : Int} : ixP (.lst [.int p, .int q]) (.int (x % 2)) = some (.im (.int (if x % 2 = 0 then p else q))) := by
 rcases Int.emod_two_eq x with h | h <;> rw [h] <;> rfl
def put (T : TZ) (p q c : Int) : TZ := T.set p.toNat ((WM T p).set q.toNat c)
theorem zmZ {k n : Nat} {T : TZ} {p q c : Int} (hT : Tab k n T) (hp : InR k p) (hc : InR n c) : Tab k n (put T p q c) := zny hT (znu (Zo hT hp).2 hc)
theorem zhW {k n : Nat} {T : TZ} {p q c a b : Int} (hT : Tab k n T) (hp : InR k p) (hq : InR n q) (ha : InR k a) (hb : InR n b) : jAt (put T p q c) a b = if a = p /\ b = q then c else jAt T a b := by
 have hp' := iT hp
 have ha' := iT ha
 have hq' := iT hq
 have hb' := iT hb
 have hl := (Zo hT hp).2.1
 unfold jAt put
 by_cases e : a = p
 · subst e
   rw [List.getElem?_set_self (by rw [hT.1]; exact hp')]
   show rAt ((WM T a).set q.toNat c) b = _
   unfold rAt
   by_cases e2 : b = q
   · subst e2
     rw [List.getElem?_set_self (by rw [hl]; exact hq'), if_pos ⟨rfl, rfl⟩]; rfl
   · rw [zzV (λ z => e2 (by have := hb.1; have := hq.1; omega)), if_neg (λ z => e2 z.2)]
 · rw [zzV (λ z => e (by have := ha.1; have := hp.1; omega)), if_neg (λ z => e z.1)]
theorem zkb {v K n L : Nat} {f : SF} {S : TZ -> Option O -> Option O -> AS} {p : Int} {g w : Int -> Int} (hp : InR K p) (hg : ∀ b, InR L b -> InR n (g b)) (gi : ∀ b b', InR L b -> InR L b' -> g b = g b' -> b = b') (hw : ∀ b, InR L b -> InR n (w b))
 (h1 : ∀ T d x y, gN v (true, d) (S T x y) = some (S T (sT d) y)) (h2 : ∀ T b y, Tab K n T -> InR L b -> ∃ y', f (S T (sI b) y) = some (.nx (S (put T p (g b) (w b)) (sI b) y'))) {T0 : TZ} {x0 y0 : Option O} (hT : Tab K n T0) :
 ∃ T' x y, forL (gN v) f (yR 0 L) (S T0 x0 y0) = some (.nx (S T' x y)) /\ Tab K n T' /\ (∀ b, InR L b -> jAt T' p (g b) = w b) /\ (∀ a b, InR K a -> InR n b -> a ≠ p -> jAt T' a b = jAt T0 a b) := by
 obtain ⟨as', hf, T', x, y, rfl, t1, t2, t3⟩ := xq (g := gN v) (f := f)
  (λ i as => ∃ (T : TZ) (x y : Option O), as = S T x y /\ Tab K n T /\ (∀ b, InR L b -> b < i -> jAt T p (g b) = w b) /\ (∀ a b, InR K a -> InR n b -> a ≠ p -> jAt T a b = jAt T0 a b))
  (yR 0 L) 0 (S T0 x0 y0) (λ i y as hx hI => by
   obtain ⟨T, x, z, rfl, t1, t2, t3⟩ := hI
   obtain ⟨rfl, hi⟩ := xJ hx
   have hb : InR L (0 + (i : Int)) := ⟨by omega, by omega⟩
   obtain ⟨y', h⟩ := h2 T (0 + i) z t1 hb
   refine ⟨_, h1 _ _ _ _, _, h, _, _, _, rfl, zmZ t1 hp (hw _ hb), λ b hb' hlt => ?_, λ a b ha hb' hne => ?_⟩
   · rw [zhW t1 hp (hg _ hb) hp (hg _ hb')]
     by_cases e : g b = g (0 + i)
     · have := gi _ _ hb' hb e
       subst this
       rw [if_pos ⟨rfl, rfl⟩]
     · rw [if_neg (λ z => e z.2)]
       refine t2 b hb' ?_
       have : b ≠ 0 + i := λ z => e (by rw [z])
       omega
   · rw [zhW t1 hp (hg _ hb) ha hb', if_neg (λ z => hne z.1)]
     exact t3 a b ha hb' hne)
  ⟨T0, x0, y0, rfl, hT, λ b hb h => absurd h (by have := hb.1; omega), λ _ _ _ _ _ => rfl⟩
 rw [yJ] at t2
 exact ⟨T', x, y, hf, t1, λ b hb => t2 b hb (by have := hb.2; omega), t3⟩
theorem ziu {v K n L M : Nat} {F : SF} {S : TZ -> Option O -> Option O -> Option O -> AS} {f g : Int -> Int} {w : Int -> Int -> Int} (hf' : ∀ a, InR M a -> InR K (f a)) (fi : ∀ a a', InR M a -> InR M a' -> f a = f a' -> a = a') (hg : ∀ b, InR L b -> InR n (g b))
 (h1 : ∀ T d x y z, gN v (true, d) (S T x y z) = some (S T (sT d) y z)) (h2 : ∀ T a y z, Tab K n T -> InR M a -> ∃ T' y' z', F (S T (sI a) y z) = some (.nx (S T' (sI a) y' z')) /\ Tab K n T' /\ (∀ b, InR L b -> jAt T' (f a) (g b) = w a b) /\ (∀ a' b, InR K a' -> InR n b -> a' ≠ f a -> jAt T' a' b = jAt T a' b)) {T0 : TZ} {x0 y0 z0 : Option O} (hT : Tab K n T0) :
 ∃ T' x y z, forL (gN v) F (yR 0 M) (S T0 x0 y0 z0) = some (.nx (S T' x y z)) /\ Tab K n T' /\ ∀ a b, InR M a -> InR L b -> jAt T' (f a) (g b) = w a b := by
 obtain ⟨as', hf, T', x, y, z, rfl, t1, t2⟩ := xq (g := gN v) (f := F)
  (λ i as => ∃ (T : TZ) (x y z : Option O), as = S T x y z /\ Tab K n T /\ ∀ a b, InR M a -> a < i -> InR L b -> jAt T (f a) (g b) = w a b)
  (yR 0 M) 0 (S T0 x0 y0 z0) (λ i y as hx hI => by
   obtain ⟨T, x, y, z, rfl, t1, t2⟩ := hI
   obtain ⟨rfl, hi⟩ := xJ hx
   have ha : InR M (0 + (i : Int)) := ⟨by omega, by omega⟩
   obtain ⟨T', y', z', h, q1, q2, q3⟩ := h2 T (0 + i) y z t1 ha
   refine ⟨_, h1 _ _ _ _ _, _, h, _, _, _, _, rfl, q1, λ a b ha' hlt hb => ?_⟩
   by_cases e : a = 0 + i
   · subst e; exact q2 b hb
   · rw [q3 (f a) (g b) (hf' a ha') (hg b hb) (λ z => e (fi _ _ ha' ha z))]
     exact t2 a b ha' (by omega) hb)
  ⟨T0, x0, y0, z0, rfl, hT, λ a b ha h => absurd h (by have := ha.1; omega)⟩
 rw [yJ] at t2
 exact ⟨T', x, y, z, hf, t1, λ a b ha hb => t2 a b ha (by have := ha.2; omega) hb⟩
theorem zka {as : AS} {i : Nat} {f : IXF} {n : Nat} {r : List Int} {k : Int} {s : Bool} (h : as[i]? = some (some (.lf s (zT r)))) (hf : f as = some k) (hr : Row n r) (hk : InR n k) : xAt i f as = some (rAt r k) := by
 have e := (rowAt hr hk).1
 unfold xAt
 rw [hf]
 show (if 0 <= k then (slO zdE as i).bind λ d => (asL d).bind λ ds => ds[k.toNat]?.bind asI else none) = _
 rw [if_pos hk.1]
 have e1 : slO zdE as i = some (zT r) := by unfold slO; rw [h]; rfl
 rw [e1]
 show ((r.map D.int)[k.toNat]?).bind asI = _
 have hl := iT hk
 rw [zzF, zzB (by rw [hr.1]; exact hl), vV (by rw [hr.1]; exact hl)]
 rfl
theorem zhT {as : AS} {i k n : Nat} {f1 f2 fv : IXF} {p q c : Int} {T : TZ} (hT : Tab k n T) (hp : InR k p) (hq : InR n q) (h1 : f1 as = some p) (h2 : f2 as = some q) (hv : fv as = some c) (hi : as[i]? = some (some (ZW T))) : VV i f1 f2 fv as = some (.nx (as.set i (some (ZW (put T p q c))))) := by
 have hl := iT hp
 have hq' := iT hq
 refine zjp h1 h2 hv hp.1 hq.1 hi (r := WM T p) ?_ (by rw [(Zo hT hp).2.1]; exact hq')
 unfold WM
 rw [zzB (by rw [hT.1]; exact hl)]; rfl
theorem zgP {as0 : AS} : ∀ (ds : List D), (∀ d, ∃ as1, gN 0 (true, d) as0 = some as1) -> xx (gN 0) xG (fC (.int 0)) as0 (ds.map λ d => (true, d)) = some ((List.replicate ds.length (0 : Int)).map lfI)
 | [], _ => rfl
 | d :: r, H => by
  obtain ⟨as1, h1⟩ := H d
  show xx _ _ _ _ ((true, d) :: r.map λ d => (true, d)) = some (lfI 0 :: (List.replicate r.length (0 : Int)).map lfI)
  exact zjo h1 zg (zgP r H)
theorem zgD {g : GF} {fe : EF} {as0 : AS} {r : List Int} : ∀ (xs : List It1), (∀ y ∈ xs, ∃ as1, g y as0 = some as1 /\ fe as1 = some (.ow (zaa r), as1)) -> xx g xG fe as0 xs = some ((List.replicate xs.length r).map zaa)
 | [], _ => rfl
 | y :: xs, H => by
  obtain ⟨as1, h1, h2⟩ := H y (zzC ..)
  exact zgs h1 h2 (zax r).1 (zgD xs λ z m => H z (zzA _ m))
theorem zgo {k n : Nat} (hn : 1 <= n) : Tab k n (List.replicate k (List.replicate n (0 : Int))) :=
 ⟨List.length_replicate .., λ r m => by rw [List.eq_of_mem_replicate m]; exact ⟨List.length_replicate .., λ x m => by rw [List.eq_of_mem_replicate m]; omega⟩⟩
abbrev Ze (r : List Int) : D := .tup (r.map D.int)
abbrev yQ (T : TZ) : D := .tup (T.map Ze)
theorem ziw {α : Type} {f : α -> D} {l : List α} {i : Nat} {p : α} (h : l[i]? = some p) : ixP (.tup (l.map f)) (.int (i : Int)) = some (.im (f p)) := by
 have h := Xy (xs := l.map f) (j := i) (v := f p) (by rw [zzF, h]; rfl)
 show imR (atI _ _) = _
 rw [h]; rfl
theorem zrC {k n : Nat} {T : TZ} {w : Int} (hT : Tab k n T) (hw : InR k w) : ixP (yQ T) (.int w) = some (.im (Ze (WM T w))) := by
 have hk : w.toNat < T.length := by rw [hT.1]; exact iT hw
 have g := zzB hk
 unfold WM
 rw [g]
 have := ziw (f := Ze) g
 rw [iC hw] at this
 exact this
theorem zqF {n : Nat} {r : List Int} {v : Int} (hr : Row n r) (hv : InR n v) : ixP (Ze r) (.int v) = some (.im (.int (rAt r v))) := by
 have hk : v.toNat < r.length := by rw [hr.1]; exact iT hv
 have g := zzB hk
 rw [vV hk]
 have := ziw (f := D.int) g
 rw [iC hv] at this
 exact this
theorem zkq {a b c : EF} {as : AS} {m n : Nat} {T : TZ} {w v : Int} (hT : Tab m n T) (hw : InR m w) (hv : InR n v) (ha : WD a as true (yQ T)) (hb : WD b as true (.int w)) (hc : WD c as true (.int v)) : WD (f2 (f2 a b ixP) c ixP) as true (.int (jAt T w v)) :=
 yG (wF ha hb (zrC hT hw)) hc (zqF (Zo hT hw).2 hv) rfl
section
variable {α : Type} {kf : α -> Str} {vf : α -> D}
theorem zew : ∀ l : List α, zad (l.map λ p => .tup [.str (kf p), vf p]) = some (l.map λ p => (.inr (kf p), vf p))
 | [] => rfl
 | p :: l => by
  show (zad (l.map λ p => .tup [.str (kf p), vf p])).bind _ = _
  rw [zew l]; rfl
theorem zil {p : α} : ∀ {l : List α}, p ∈ l -> (l.map kf).Nodup -> zbu (l.map λ p => (.inr (kf p), vf p)) (.inr (kf p)) = some (vf p)
 | [], h, _ => nomatch h
 | q :: l, h, nd => by
  have nd' := zzT.mp (show (kf q :: l.map kf).Nodup from nd)
  rcases zS.mp h with rfl | h
  · unfold zbu
    simp
  · have e : kf q ≠ kf p := λ e => nd'.1 (e ▸ List.mem_map_of_mem h)
    have ih := zil h nd'.2
    unfold zbu at ih ⊢
    rw [List.map_cons, List.find?_cons_of_neg (by simp [e])]
    exact ih
theorem zkK : ∀ (kvs : List (Key × D)), (kvs.map (·.1)).zip (kvs.map (·.2)) = kvs
 | [] => rfl
 | p :: r => congrArg (p :: ·) (zkK r)
theorem zra {a : EF} {as : AS} {l : List α} (nd : (l.map kf).Nodup) (h : WE a as (.lst (l.map λ p => .tup [.str (kf p), vf p]))) : WE (fP (aC a aN) zbS) as (.dct (l.map λ p => (.inr (kf p), vf p))) := by
 have hg : zbS [.lst (l.map λ p => .tup [.str (kf p), vf p])] = some (.fd (l.map λ p => (.inr (kf p), vf p))) := by
  show (zad (l.map λ p => .tup [.str (kf p), vf p])).bind _ = _
  rw [zew]
  refine if_pos ?_
  rw [List.map_map]
  exact List.pairwise_map.mpr ((List.pairwise_map.mp nd).imp λ h e => h (Sum.inr.inj e))
 have k := zrk (g := zbS) (Yk h (zL (as := as))) hg
 rw [show ([(true, D.lst (l.map λ p => .tup [.str (kf p), vf p]))].all (·.1)) = true from rfl, Wd] at k
 generalize (l.map λ p => ((.inr (kf p), vf p) : Key × D)) = kvs at k
 refine ⟨_, k, zfW _, ?_⟩
 show D.dct ((kvs.map (·.1)).zip (O.toDs ((kvs.map (·.2)).map (O.lf true)))) = _
 rw [zfH, zkK]
end
theorem Xr {as : AS} {i : Nat} {cs : List Str} {f c : Str} {fe : EF} {d : D} {ns : List Str} {os : List O} (h : WE fe as d) (hi : as[i]? = some (some (.nd (.ob c ns) os))) (hc : c ∈ cs) (hn : f ∉ ns) (hl : ns.length < 1000) : zfC i cs f fe as = some (as.set i (some (.nd (.ob c (ns ++ [f])) (os ++ [.lf true d])))) := by
 obtain ⟨o, h1, h2, h3⟩ := h
 unfold zfC
 have e : zdt as (.ow o) = some ((o.str, o.toD), as) := rfl
 simp only [h1, Option.bind_some, e, hi, if_pos (⟨hc, hn, hl⟩ : c ∈ cs /\ f ∉ ns /\ ns.length < 1000), h2, h3]
theorem Z6 {f g : IFn} {as as1 : AS} {o : Option AS} (h : f as = some as1) (h2 : g as1 = o) : zaq f g as = o := by
 unfold zaq
 rw [h]; exact h2
theorem zly {fe : EF} {as : AS} {d : D} (h : WE fe as d) : znh fe as = some as := by
 obtain ⟨o, h1, _, _⟩ := h
 unfold znh
 rw [h1]; rfl
theorem zkR {as : AS} {i : Nat} {cs ns : List Str} {f c : Str} {ds : List D} {d : D} (h : as[i]? = some (sT (.ob c ns ds))) (hc : c ∈ cs) (hl : lkp ns ds f = some d) : WD (f1 (fV i) (zai cs f)) as true d := by
 have := zmp (zb h) hc hl
 rw [Bool.or_true] at this
 exact this
def idT (n m : Nat) : TZ := List.replicate m (Yw n)
def bh (A B : TZ) : TZ := (A.zip B).map λ p => p.1.map (rAt p.2)
theorem zpB {n : Nat} {a : Int} (h : InR n a) : rAt (Yw n) a = a := by
 have hk := iT h
 rw [vV (by rw [zD, List.length_range]; exact hk), List.getElem_map, List.getElem_range]
 exact iC h
theorem zmK (n : Nat) : Row n (Yw n) := ⟨by rw [zD, List.length_range], λ x m => by
 obtain ⟨i, hi, rfl⟩ := List.mem_map.mp m
 have := List.mem_range.mp hi
 exact ⟨Int.natCast_nonneg _, by omega⟩⟩
theorem zoJ (n m : Nat) : Tab m n (idT n m) := ⟨List.length_replicate .., λ r h => by rw [List.eq_of_mem_replicate h]; exact zmK n⟩
theorem zej {n m : Nat} {c a : Int} (hc : InR m c) (ha : InR n a) : jAt (idT n m) c a = a := by
 have hk := iT hc
 unfold jAt idT
 rw [List.getElem?_replicate, if_pos hk]
 exact zpB ha
theorem zpU {m n : Nat} {A B : TZ} (hA : Tab m n A) (hB : Tab m n B) {i : Nat} (hi : i < m) : (bh A B)[i]? = some ((WM A i).map (rAt (WM B i))) := by
 have h1 := zzB (l := A) (i := i) (by rw [hA.1]; exact hi)
 have h2 := zzB (l := B) (i := i) (by rw [hB.1]; exact hi)
 unfold bh WM
 rw [zzF, Int.toNat_natCast, h1, h2]
 have : (A.zip B)[i]? = some (A[i]'(by rw [hA.1]; exact hi), B[i]'(by rw [hB.1]; exact hi)) := List.getElem?_zip_eq_some.mpr ⟨h1, h2⟩
 rw [this]; rfl
theorem zpD {m n : Nat} {A B : TZ} (hA : Tab m n A) (hB : Tab m n B) : Tab m n (bh A B) := by
 refine ⟨by unfold bh; rw [zD, List.length_zip, hA.1, hB.1, Nat.min_self], λ r h => ?_⟩
 obtain ⟨p, hp, rfl⟩ := List.mem_map.mp h
 obtain ⟨h1, h2⟩ := List.of_mem_zip hp
 have r1 := hA.2 _ h1
 have r2 := hB.2 _ h2
 exact ⟨by rw [zD]; exact r1.1, λ x mx => by
  obtain ⟨y, my, rfl⟩ := List.mem_map.mp mx
  exact (rowAt r2 (r1.2 y my)).2⟩
theorem zeA {m n : Nat} {A B : TZ} (hA : Tab m n A) (hB : Tab m n B) {c a : Int} (hc : InR m c) (ha : InR n a) : jAt (bh A B) c a = jAt B c (jAt A c a) := by
 have hk := iT hc
 have g := zpU hA hB hk
 have e : ((c.toNat : Nat) : Int) = c := iC hc
 rw [e] at g
 have r1 := (Zo hA hc).2
 have r2 := (Zo hB hc).2
 show rAt (((bh A B)[c.toNat]?).getD []) a = rAt (WM B c) (rAt (WM A c) a)
 rw [g]
 show rAt ((WM A c).map (rAt (WM B c))) a = _
 have hl : a.toNat < (WM A c).length := by rw [r1.1]; exact iT ha
 rw [vV (by rw [zD]; exact hl), List.getElem_map, vV hl]
end PF
end
section
namespace G23
open PySem PySem.Spec PyProof.Rows L2 PF
def top (i : Nat) : Stmt := PySem.Challenge.pw_stretchdeeds_k23_whole_rows_of_an_algebr.main.body.getD i (.Pass ⟨0, 0, 0, 0⟩)
def zaS : List Str := ["Ways"]
def Z7 : List Str := ["Ways"]
def zaU : List Str := ["Ways"]
def zdm : List Str := ["Ways"]
def zaT : List Str := ["Ways"]
def zcN : List Str := ["Ways"]
abbrev vA : Stmt := top 5
abbrev Ws : List Str := ["algebra", "join", "nothing", "a"]
theorem wO : FnScope Ws ["algebra"] (zA vA) := ⟨rfl, rfl, rfl, by decide +kernel, rfl, by decide +kernel, by decide +kernel⟩
def vp : SF :=
 (zE (zJ true 1 (f2 (fV 0) (fC (.int 2)) ixP))
  (zE (zJ true 2 (f2 (fV 0) (fC (.int 3)) ixP))
  (zE (yZ (yx (aC (f2 (fV 0) (fC (.int 0)) ixP) aN) yC) (gN 3) (sIf (zdY (fT (f2 (f2 (f2 (fV 1) (fV 2) ixP) (fV 3) ixP) (fV 3) (yt .NotEq))) (fT (f2 (f2 (f2 (fV 1) (fV 3) ixP) (fV 2) ixP) (fV 3) (yt .NotEq)))) (yu (wR (dC (fC (.str "nothing")) (dC (fV 3) dN)))) sNx))
  (yu (fC .non)))))
def wg : Fn := fnR 4 1 vp
abbrev vB : Stmt := top 6
abbrev Wj : List Str := ["algebra", "n", "join", "a", "b", "c"]
theorem xf : FnScope Wj ["algebra"] (zA vB) := ⟨rfl, rfl, rfl, by decide +kernel, rfl, by decide +kernel, by decide +kernel⟩
def ZK : SF :=
 (zE (zJ true 1 (f2 (fV 0) (fC (.int 0)) ixP))
  (zE (zJ true 2 (f2 (fV 0) (fC (.int 2)) ixP))
  (zE (yZ (yx (aC (fV 1) aN) yC) (gN 3) (yZ (yx (aC (fV 1) aN) yC) (gN 4) (yZ (yx (aC (fV 1) aN) yC) (gN 5) (sIf (fT (f2 (f2 (f2 (fV 2) (f2 (f2 (fV 2) (fV 3) ixP) (fV 4) ixP) ixP) (fV 5) ixP) (f2 (f2 (fV 2) (fV 3) ixP) (f2 (f2 (fV 2) (fV 4) ixP) (fV 5) ixP) ixP) (yt .NotEq))) (yu (wR (dC (fC (.str "parting")) (dC (fV 3) (dC (fV 4) (dC (fV 5) dN)))))) sNx))))
  (yu (fC .non)))))
def wk : Fn := fnR 6 1 ZK
abbrev Zr : Stmt := top 7
abbrev VP : List Str := ["algebra", "name", "rows", "n", "m", "join", "a", "i", "b", "j"]
theorem yP : FnScope VP ["algebra", "name", "rows"] (zA Zr) := ⟨rfl, rfl, rfl, by decide +kernel, rfl, by decide +kernel, by decide +kernel⟩
def YW : SF :=
 (zE (zJ true 3 (f2 (fV 0) (fC (.int 0)) ixP))
  (zE (zJ true 4 (f2 (fV 0) (fC (.int 1)) ixP))
  (zE (zJ true 5 (f2 (fV 0) (fC (.int 2)) ixP))
  (zE (yZ (yx (aC (fV 3) aN) yC) (gN 6) (yZ (yx (aC (fV 4) aN) yC) (gN 7) (yZ (yx (aC (fV 3) aN) yC) (gN 8) (yZ (yx (aC (fV 4) aN) yC) (gN 9) (sIf (fT (f2 (f2 (f2 (fV 2) (f2 (f2 (fV 7) (fV 9) (zm .Add)) (fV 4) (zm .Mod)) ixP) (f2 (f2 (fV 5) (fV 6) ixP) (fV 8) ixP) ixP) (f2 (f2 (fV 5) (f2 (f2 (fV 2) (fV 7) ixP) (fV 6) ixP) ixP) (f2 (f2 (fV 2) (fV 9) ixP) (fV 8) ixP) ixP) (yt .NotEq))) (yu (wR (dC (fC (.str "doing")) (dC (fV 1) (dC (fV 6) (dC (fV 7) (dC (fV 8) (dC (fV 9) dN)))))))) sNx)))))
  (yu (fC .non))))))
def wA : Fn := fnR 10 3 YW
abbrev Z2 : Stmt := top 8
abbrev zak : List Str := ["algebra", "nothing", "name", "rows", "fault"]
theorem wW : FnScope zak ["algebra"] (zA Z2) := ⟨rfl, rfl, rfl, by decide +kernel, rfl, by decide +kernel, by decide +kernel⟩
def zaK : SF :=
 (zE (zJ true 1 (f2 (fV 0) (fC (.int 3)) ixP))
  (zE (yZ (ziV (f2 (fV 0) (fC (.int 4)) ixP)) (gT 2 (gsC (gN 2) (gsC (gN 3) gsN))) (zE (sIf (fT (f2 (f2 (f2 (fV 3) (fC (.int 0)) ixP) (fV 1) ixP) (fV 1) (yt .NotEq))) (yu (wR (dC (fC (.str "empty")) (dC (fV 2) dN)))) sNx)
  (zE (zJ true 4 (zH (aC (fV 0) (aC (fV 2) (aC (fV 3) aN))) wA))
  (sIf (fT (f2 (fV 4) (fC .non) (yt .IsNot))) (yu (fV 4)) sNx))))
  (yu (fC .non))))
def vZ : Fn := fnR 5 1 zaK
abbrev Z4 : Stmt := top 9
abbrev zaz : List Str := ["algebra", "fault"]
theorem Zt : FnScope zaz ["algebra"] (zA Z4) := ⟨rfl, rfl, rfl, by decide +kernel, rfl, by decide +kernel, by decide +kernel⟩
def zao : SF :=
 (zE (zJ true 1 (zH (aC (fV 0) aN) wg))
  (zE (sIf (fT (f2 (fV 1) (fC .non) (yt .Is))) (zJ true 1 (zH (aC (fV 0) aN) wk)) sNx)
  (zE (sIf (fT (f2 (fV 1) (fC .non) (yt .Is))) (zJ true 1 (zH (aC (fV 0) aN) vZ)) sNx)
  (yu (fV 1)))))
def vQ : Fn := fnR 2 1 zao
abbrev vO : Stmt := top 10
abbrev Va : List Str := ["algebra", "fault"]
theorem Wl : FnScope Va ["algebra"] (zA vO) := ⟨rfl, rfl, rfl, by decide +kernel, rfl, by decide +kernel, by decide +kernel⟩
def Z8 : SF :=
 (zE (zJ true 1 (zH (aC (fV 0) aN) vQ))
  (sIf (fT (f2 (fV 1) (fC .non) (yt .IsNot))) sNo sNx))
def xU : Fn := fnR 2 1 Z8
abbrev zdq : Stmt := top 12
abbrev zhA : List Str := ["rows"]
theorem zmr : FnScope zhA ["rows"] (zA zdq) := ⟨rfl, rfl, rfl, by decide +kernel, rfl, by decide +kernel, by decide +kernel⟩
theorem zjh : (["row"] : List Str).Nodup := by decide +kernel
def zky : SF :=
 (yu (fP (aC (yw (Yx (fV 0)) [none] (gN 0) xG (fP (aC (fV 0) aN) tupP)) aN) tupP))
def Vl : Fn := fnR 1 1 zky
abbrev Zu : Stmt := top 15
abbrev VH : List Str := ["_law_script", "_law_k"]
theorem zcL : FnScope VH ["_law_script", "_law_k"] (zA Zu) := ⟨rfl, rfl, rfl, by decide +kernel, rfl, by decide +kernel, by decide +kernel⟩
def V5 : SF :=
 (zE (sIf (fT (f2 (fV 1) (fP (aC (fV 0) aN) Y9) (yt .Lt))) (yu (f2 (fV 0) (fV 1) ixP)) sNx)
  (yu (fC (.int 0))))
def zK : Fn := fnR 2 2 V5
abbrev YD : Stmt := top 16
abbrev zbQ : List Str := ["_law_cell", "_law_k", "_law_number"]
theorem zay : FnScope zbQ ["_law_cell", "_law_k"] (zA YD) := ⟨rfl, rfl, rfl, by decide +kernel, rfl, by decide +kernel, by decide +kernel⟩
def zcb : SF :=
 (zE (zJ true 2 (f2 (f2 (f2 (f2 (f2 (fV 0) (fC (.int 2147483647)) (zm .Mod)) (fC (.int 48271)) (zm .Mult)) (f2 (f2 (fV 1) (fV 1) (zm .Mult)) (fC (.int 69621)) (zm .Mult)) (zm .Add)) (fC (.int 7919)) (zm .Add)) (fC (.int 2147483647)) (zm .Mod)))
  (yu (f2 (f2 (f2 (f2 (fV 2) (fV 2) (zm .Mult)) (f2 (fC (.int 16807)) (fV 2) (zm .Mult)) (zm .Add)) (fV 1) (zm .Add)) (fC (.int 2147483629)) (zm .Mod))))
def zZ : Fn := fnR 3 2 zcb
abbrev YJ : Stmt := top 17
abbrev zbI : List Str := ["_law_found"]
theorem zfn : FnScope zbI ["_law_found"] (zA YJ) := ⟨rfl, rfl, rfl, by decide +kernel, rfl, by decide +kernel, by decide +kernel⟩
def zbL : SF :=
 (yu (zmi (ziX (fV 0) "int") (znF (ziX (fV 0) "bool"))))
def vL : Fn := fnR 1 1 zbL
abbrev Zx : Stmt := top 18
abbrev Vh : List Str := ["_law_cell", "_law_many", "_law_letters", "_law_size", "_law_at", "_law_words_here", "_law_k", "_law_some"]
theorem xY : FnScope Vh ["_law_cell", "_law_many"] (zA Zx) := ⟨rfl, rfl, rfl, by decide +kernel, rfl, by decide +kernel, by decide +kernel⟩
theorem zdJ : (["_law_j", "_law_letters", "_law_k", "_law_cell", "_law_at"] : List Str).Nodup := by decide +kernel
def zcc : SF :=
 (zE (zJ true 2 (fC (.str "abcdefghijklmnopqrstuvwxyz")))
  (zE (zJ true 3 (f2 (fC (.int 1)) (f2 (fV 0) (fC (.int 8)) (zm .Mod)) (zm .Add)))
  (zE (zJ true 4 (f2 (f2 (fV 0) (fC (.int 8)) (zm .FloorDiv)) (fV 3) (zm .Mod)))
  (zE (zJ false 5 (Zm dN))
  (zE (yZ (yx (aC (fV 1) aN) yC) (gN 6) (zE (zJ true 7 (yw (yx (aC (fV 3) aN) yC) [none, some 2, some 6, some 0, some 4] (gN 0) xG (f2 (fV 1) (f2 (f2 (f2 (zH (aC (fV 3) (aC (fV 0) aN)) zZ) (fC (.int 64)) (zm .FloorDiv)) (f2 (fV 2) (fP (aC (f2 (fV 0) (fV 4) (yt .Eq)) aN) Xp) (zm .Mult)) (zm .Add)) (fC (.int 26)) (zm .Mod)) ixP)))
  (wu (wX 5 (dC (zcU .str (fC (.str "")) (aC (fV 7) aN) zgh) dN) vN))))
  (yu (fV 5)))))))
def vM : Fn := fnR 8 2 zcc
abbrev Z0 : Stmt := top 19
abbrev zaj : List Str := ["_law_n", "_law_m"]
theorem VR : FnScope zaj ["_law_n", "_law_m"] (zA Z0) := ⟨rfl, rfl, rfl, by decide +kernel, rfl, by decide +kernel, by decide +kernel⟩
def zav : SF :=
 (zE (whL (fT (f2 (fV 1) (fC (.int 0)) (yt .Gt))) (zkm 0 1 (dC (fV 1) (dC (f2 (fV 0) (fV 1) (zm .Mod)) dN))) 10000)
  (yu (fV 0)))
def wN : Fn := fnR 2 2 zav
abbrev vz : Stmt := top 20
abbrev Wh : List Str := ["_law_kind", "_law_n", "_law_a", "_law_b", "_law_images_here"]
theorem Xq : FnScope Wh ["_law_kind", "_law_n", "_law_a", "_law_b"] (zA vz) := ⟨rfl, rfl, rfl, by decide +kernel, rfl, by decide +kernel, by decide +kernel⟩
def Wm : SF :=
 (zE (sIf (fT (f2 (fV 0) (fC (.int 0)) (yt .Eq))) (yu (f2 (f2 (fV 2) (fV 3) (zm .Add)) (fV 1) (zm .Mod))) sNx)
  (zE (sIf (fT (f2 (fV 0) (fC (.int 1)) (yt .Eq))) (yu (fP (aC (fV 2) (aC (fV 3) aN)) zrj)) sNx)
  (zE (sIf (fT (f2 (fV 0) (fC (.int 2)) (yt .Eq))) (yu (f2 (Zm (dC (fV 3) (dC (fV 2) dN))) (fP (aC (f2 (fV 3) (fC (.int 0)) (yt .Eq)) aN) Xp) ixP)) sNx)
  (zE (zJ true 4 (Zm (dC (f2 (fV 3) (fC (.int 2)) (zm .FloorDiv)) (dC (f2 (fV 3) (fC (.int 2)) (zm .Mod)) dN))))
  (yu (f2 (f2 (fC (.int 2)) (f2 (fV 4) (f2 (fV 2) (fC (.int 2)) (zm .FloorDiv)) ixP) (zm .Mult)) (f2 (fV 4) (f2 (fV 2) (fC (.int 2)) (zm .Mod)) ixP) (zm .Add)))))))
def zN : Fn := fnR 5 4 Wm
abbrev vP : Stmt := top 21
abbrev XF : List Str := ["_law_kind", "_law_n", "_law_x", "_law_some", "_law_k"]
theorem wY : FnScope XF ["_law_kind", "_law_n", "_law_x"] (zA vP) := ⟨rfl, rfl, rfl, by decide +kernel, rfl, by decide +kernel, by decide +kernel⟩
theorem zci : (["_law_a", "_law_x"] : List Str).Nodup := by decide +kernel
def zaA : SF :=
 (zE (sIf (fT (f2 (fV 0) (fC (.int 3)) (yt .Eq))) (yu (yw (yx (aC (fV 1) aN) yC) [none, some 2] (gN 0) xG (f2 (Zm (dC (fV 0) (dC (f2 (f2 (f2 (fC (.int 2)) (f2 (fC (.int 1)) (f2 (fV 0) (fC (.int 2)) (zm .Mod)) (zm .Sub)) (zm .Mult)) (fC (.int 1)) (zm .Add)) (f2 (fV 0) (fC (.int 2)) (zm .FloorDiv)) (zm .Sub)) dN))) (f2 (fV 1) (fC (.int 2)) (zm .Mod)) ixP))) sNx)
  (zE (zJ false 3 (Zm dN))
  (zE (yZ (yx (aC (fC (.int 1)) (aC (fV 1) aN)) zog) (gN 4) (zE (zJ true 2 (f2 (fV 2) (fV 1) (zm .FloorDiv)))
  (wu (wX 3 (dC (f2 (Zm (dC (f2 (fV 2) (fV 1) (zm .Mod)) (dC (f2 (fC (.int 1)) (f2 (fV 2) (f2 (fV 1) (fC (.int 1)) (zm .Sub)) (zm .Mod)) (zm .Add)) dN))) (f2 (fV 0) (fC (.int 1)) (zm .Sub)) ixP) dN) vN))))
  (zE (sIf (fT (f2 (fV 0) (fC (.int 1)) (yt .Eq))) (zJ false 3 (fP (aC (fV 3) aN) zke)) sNx)
  (yu (f2 (Zm (dC (fC (.int 0)) dN)) (fV 3) (zm .Add)))))))
def vW : Fn := fnR 5 3 zaA
abbrev wz : Stmt := top 22
abbrev Zq : List Str := ["_law_kind", "_law_n", "_law_m", "_law_x", "_law_images_here", "_law_step"]
theorem Yd : FnScope Zq ["_law_kind", "_law_n", "_law_m", "_law_x"] (zA wz) := ⟨rfl, rfl, rfl, by decide +kernel, rfl, by decide +kernel, by decide +kernel⟩
theorem zbq : (["_law_c", "_law_images_here"] : List Str).Nodup := by decide +kernel
theorem zbA : (["_law_c", "_law_n", "_law_step", "_law_x"] : List Str).Nodup := by decide +kernel
theorem zbb : (["_law_a", "_law_n", "_law_step", "_law_c", "_law_x"] : List Str).Nodup := by decide +kernel
def V2 : SF :=
 (zE (sIf (fT (f2 (fV 0) (fC (.int 0)) (yt .Gt))) (zE (zJ true 4 (zH (aC (fV 0) (aC (fV 1) (aC (fV 3) aN))) vW))
  (yu (yw (yx (aC (fV 2) aN) yC) [none, some 4] (gN 0) xG (fP (aC (fV 1) aN) lstP)))) sNx)
  (zE (zJ true 5 (f2 (f2 (fV 1) (zH (aC (fV 1) (aC (fV 2) aN)) wN) (zm .FloorDiv)) (f2 (f2 (fV 3) (fC (.int 8)) (zm .FloorDiv)) (fC (.int 8)) (zm .Mod)) (zm .Mult)))
  (yu (yw (yx (aC (fV 2) aN) yC) [none, some 1, some 5, some 3] (gN 0) xG (yw (yx (aC (fV 1) aN) yC) [none, some 1, some 2, some 0, some 3] (gN 0) xG (f2 (f2 (f2 (f2 (fV 4) (fC (.int 8)) (zm .Mod)) (fV 0) (zm .Mult)) (f2 (fV 2) (fV 3) (zm .Mult)) (zm .Add)) (fV 1) (zm .Mod)))))))
def yM : Fn := fnR 6 4 V2
abbrev YL : Stmt := top 23
abbrev zbR : List Str := ["_law_x", "_law_first", "_law_size", "_law_other"]
theorem wL : FnScope zbR ["_law_x"] (zA YL) := ⟨rfl, rfl, rfl, by decide +kernel, rfl, by decide +kernel, by decide +kernel⟩
def zbX : SF :=
 (zE (zJ true 1 (f2 (fV 0) (fC (.int 4)) (zm .Mod)))
  (zE (zJ true 2 (f2 (Zm (dC (f2 (fC (.int 1)) (f2 (f2 (fV 0) (fC (.int 4)) (zm .FloorDiv)) (fC (.int 5)) (zm .Mod)) (zm .Add)) (dC (f2 (fC (.int 1)) (f2 (f2 (fV 0) (fC (.int 4)) (zm .FloorDiv)) (fC (.int 8)) (zm .Mod)) (zm .Add)) dN))) (fP (aC (f2 (f2 (f2 (fV 0) (fC (.int 40)) (zm .FloorDiv)) (fC (.int 4)) (zm .Mod)) (fC (.int 1)) (yt .Eq)) aN) Xp) ixP))
  (zE (sIf (fT (f2 (fV 1) (fC (.int 3)) (yt .Eq))) (zJ true 2 (fC (.int 4))) sNx)
  (zE (zJ true 3 (f2 (fC (.int 1)) (f2 (f2 (fV 0) (fC (.int 160)) (zm .FloorDiv)) (fC (.int 3)) (zm .Mod)) (zm .Add)))
  (zE (sIf (fT (f2 (f2 (fV 2) (fV 3) (zm .Mult)) (fC (.int 8)) (yt .Gt))) (zJ true 3 (fC (.int 1))) sNx)
  (yu (wR (dC (fV 1) (dC (fV 2) (dC (f2 (f2 (fV 0) (fC (.int 480)) (zm .FloorDiv)) (fC (.int 3)) (zm .Mod)) (dC (fV 3) dN)))))))))))
def vK : Fn := fnR 4 1 zbX
abbrev Z5 : Stmt := top 24
abbrev zaB : List Str := ["_law_cell", "_law_many", "_law_found", "_law_rest", "_law_k"]
theorem vh : FnScope zaB ["_law_cell", "_law_many"] (zA Z5) := ⟨rfl, rfl, rfl, by decide +kernel, rfl, by decide +kernel, by decide +kernel⟩
def zaW : SF :=
 (zE (zJ false 2 (Zm dN))
  (zE (zJ true 3 (f2 (fV 0) (fC (.int 2)) (zm .FloorDiv)))
  (zE (yZ (yx (aC (fV 1) aN) yC) (gN 4) (sIf (fT (f2 (f2 (fV 0) (fC (.int 2)) (zm .Mod)) (fC (.int 0)) (yt .Eq))) (zE (wu (wX 2 (dC (f2 (fV 3) (fC (.int 1000000007)) (zm .Mod)) dN) vN))
  (zJ true 3 (f2 (fV 3) (fC (.int 1000000007)) (zm .FloorDiv)))) (wu (wX 2 (dC (zH (aC (fV 3) (aC (fV 4) aN)) zZ) dN) vN))))
  (yu (fV 2)))))
def yL : Fn := fnR 5 2 zaW
abbrev xN : Stmt := top 25
abbrev vm : List Str := ["_law_cell", "_law_head", "_law_many", "_law_xs", "_law_ys", "_law_kind", "_law_n", "_law_more", "_law_times", "_law_m", "_law_size", "_law_left", "_law_order", "_law_k", "_law_join", "_law_a", "_law_b", "_law_there", "_law_names", "_law_deeds", "_law_rows", "_law_beside", "_law_made", "_law_c", "_law_signs", "_law_bits", "_law_held", "_law_nothing"]
theorem zu : FnScope vm ["_law_cell", "_law_head", "_law_many"] (zA xN) := ⟨rfl, rfl, rfl, by decide +kernel, rfl, by decide +kernel, by decide +kernel⟩
theorem zbz : (["_law_a", "_law_order"] : List Str).Nodup := by decide +kernel
theorem zby : (["_law_b"] : List Str).Nodup := by decide +kernel
theorem zbg : (["_law_c", "_law_order"] : List Str).Nodup := by decide +kernel
theorem zbc : (["_law_a"] : List Str).Nodup := by decide +kernel
theorem zbB : (["_law_a", "_law_bits"] : List Str).Nodup := by decide +kernel
def Y6 : SF :=
 (zE (zJ true 3 (zH (aC (fV 0) (aC (f2 (fC (.int 1)) (f2 (fC (.int 2)) (fV 2) (zm .Mult)) (zm .Add)) aN)) yL))
  (zE (zJ true 4 (zH (aC (fV 1) (aC (fC (.int 13)) aN)) yL))
  (zE (zfD (zH (aC (f2 (fV 3) (fC (.int 0)) ixP) aN) vK) (gT 4 (gsC (gN 5) (gsC (gN 6) (gsC (gN 7) (gsC (gN 8) gsN))))))
  (zE (zJ true 9 (f2 (f2 (fC (.int 1)) (f2 (f2 (fV 4) (fC (.int 0)) ixP) (fC (.int 4)) (zm .Mod)) (zm .Add)) (f2 (fC (.int 2)) (fP (aC (f2 (f2 (f2 (f2 (fV 4) (fC (.int 0)) ixP) (fC (.int 4)) (zm .FloorDiv)) (fC (.int 8)) (zm .Mod)) (fC (.int 5)) (yt .Eq)) aN) Xp) (zm .Mult)) (zm .Add)))
  (zE (zJ true 10 (f2 (fV 6) (fV 8) (zm .Mult)))
  (zE (zJ false 11 (fP (aC (fV 10) aN) lrP))
  (zE (zJ false 12 (Zm dN))
  (zE (yZ (yx (aC (fV 10) aN) yC) (gN 13) (wu (wX 12 (dC (wX 11 (dC (f2 (f2 (fV 4) (f2 (fC (.int 1)) (fV 13) (zm .Add)) ixP) (fP (aC (fV 11) aN) Y9) (zm .Mod)) dN) We) dN) vN)))
  (zdT 12 (zE (zJ false 14 (yw (Yx (fV 12)) [none, some 12] (gN 0) xG (yw (Yx (fV 1)) [none] (gN 0) xG (fC (.int 0)))))
  (zE (yZ (yx (aC (fV 10) aN) yC) (gN 15) (yZ (yx (aC (fV 10) aN) yC) (gN 16) (zE (zJ true 17 (f2 (zH (aC (fV 5) (aC (fV 6) (aC (f2 (fV 15) (fV 8) (zm .FloorDiv)) (aC (f2 (fV 16) (fV 8) (zm .FloorDiv)) aN)))) zN) (fV 8) (zm .Mult)))
  (zE (zJ true 17 (f2 (fV 17) (zH (aC (fV 7) (aC (fV 8) (aC (f2 (fV 15) (fV 8) (zm .Mod)) (aC (f2 (fV 16) (fV 8) (zm .Mod)) aN)))) zN) (zm .Add)))
  (VV 14 (xAt 12 (xV 15)) (xAt 12 (xV 16)) (xAt 12 (xV 17)))))))
  (zE (zJ true 18 (zH (aC (f2 (fV 1) (fC (.int 7)) (zm .FloorDiv)) (aC (fC (.int 10)) aN)) vM))
  (zE (zJ false 19 (Zm dN))
  (zE (yZ (yx (aC (fV 2) aN) yC) (gN 13) (zE (zJ true 20 (zH (aC (fV 5) (aC (fV 6) (aC (fV 9) (aC (f2 (fV 3) (f2 (fC (.int 1)) (f2 (fC (.int 2)) (fV 13) (zm .Mult)) (zm .Add)) ixP) aN)))) yM))
  (zE (zJ true 21 (zH (aC (fV 7) (aC (fV 8) (aC (fV 9) (aC (f2 (fV 3) (f2 (fC (.int 2)) (f2 (fC (.int 2)) (fV 13) (zm .Mult)) (zm .Add)) ixP) aN)))) yM))
  (zE (zJ false 22 (yw (yx (aC (fV 9) aN) yC) [none, some 12] (gN 0) xG (yw (Yx (fV 1)) [none] (gN 0) xG (fC (.int 0)))))
  (zE (yZ (yx (aC (fV 9) aN) yC) (gN 23) (yZ (yx (aC (fV 10) aN) yC) (gN 15) (zE (zJ true 17 (f2 (f2 (fV 20) (fV 23) ixP) (f2 (fV 15) (fV 8) (zm .FloorDiv)) ixP))
  (zE (zJ true 17 (f2 (f2 (fV 17) (fV 8) (zm .Mult)) (f2 (f2 (fV 21) (fV 23) ixP) (f2 (fV 15) (fV 8) (zm .Mod)) ixP) (zm .Add)))
  (VV 22 (xV 23) (xAt 12 (xV 15)) (xAt 12 (xV 17)))))))
  (wu (wX 19 (dC (wR (dC (f2 (fV 18) (fV 13) ixP) (dC (fV 22) dN))) dN) vN)))))))
  (zE (zJ false 24 (Zm dN))
  (zE (yZ (yx (aC (fC (.int 3)) aN) yC) (gN 13) (zE (zJ true 25 (f2 (fV 4) (f2 (fC (.int 9)) (fV 13) (zm .Add)) ixP))
  (zE (zJ true 26 (yw (yx (aC (fV 10) aN) yC) [none, some 25] (gN 0) (fT (f2 (f2 (f2 (fV 1) (f2 (fC (.int 1)) (fV 0) ziT) (zm .FloorDiv)) (fC (.int 2)) (zm .Mod)) (fC (.int 1)) (yt .Eq))) (fV 0)))
  (wu (wX 24 (dC (wR (dC (f2 (fV 18) (f2 (fV 13) (f2 (fC (.int 4)) (f2 (f2 (fV 25) (fC (.int 512)) (zm .FloorDiv)) (fC (.int 2)) (zm .Mod)) (zm .Mult)) (zm .Add)) ixP) (dC (fV 26) dN))) dN) vN)))))
  (zE (zJ true 27 (f2 (fV 12) (f2 (Zm (dC (fC (.int 0)) (dC (fV 8) dN))) (fP (aC (f2 (fV 5) (fC (.int 3)) (yt .Eq)) aN) Xp) ixP) ixP))
  (yu (wR (dC (fV 10) (dC (fV 9) (dC (fV 14) (dC (fV 27) (dC (fV 19) (dC (fSl (fV 24) oN (oS (f2 (f2 (fV 4) (fC (.int 12)) ixP) (fC (.int 4)) (zm .Mod))) slP) dN)))))))))))))))))))))))))
def vg : Fn := fnR 28 3 Y6
abbrev vY : Stmt := top 26
abbrev W6 : List Str := ["_law_algebra_here", "_law_row", "_law_found", "_law_a"]
theorem vD : FnScope W6 ["_law_algebra_here", "_law_row"] (zA vY) := ⟨rfl, rfl, rfl, by decide +kernel, rfl, by decide +kernel, by decide +kernel⟩
def Ve : SF :=
 (zE (zJ true 2 (f2 (fV 0) (fC (.int 3)) ixP))
  (zE (yZ (ziV (fV 1)) (gN 3) (zJ true 2 (f2 (f2 (f2 (fV 0) (fC (.int 2)) ixP) (fV 2) ixP) (fV 3) ixP)))
  (yu (fV 2))))
def zy : Fn := fnR 4 2 Ve
abbrev Yb : Stmt := top 27
abbrev zaf : List Str := ["_law_algebra_here", "_law_deeds", "_law_row", "_law_rows"]
theorem WP : FnScope zaf ["_law_algebra_here", "_law_deeds", "_law_row"] (zA Yb) := ⟨rfl, rfl, rfl, by decide +kernel, rfl, by decide +kernel, by decide +kernel⟩
theorem zdL : (["_law_a", "_law_rows", "_law_algebra_here"] : List Str).Nodup := by decide +kernel
def zdo : SF :=
 (zE (yZ (ziV (fV 1)) (gN 3) (zJ true 2 (yw (Yx (fV 2)) [none, some 3, some 0] (gN 0) xG (f2 (f2 (fV 1) (f2 (fC (.int 1)) (f2 (fV 2) (fC (.int 1)) ixP) (zm .Mod)) ixP) (fV 0) ixP))))
  (yu (fV 2)))
def Zi : Fn := fnR 4 3 zdo
abbrev xu : Stmt := inClass (top 13) 0
abbrev vq : List Str := ["self", "algebra"]
theorem zbm : FnScope vq ["self", "algebra"] (zA xu) := ⟨rfl, rfl, rfl, by decide +kernel, rfl, by decide +kernel, by decide +kernel⟩
theorem Yj : (["name", "rows"] : List Str).Nodup := by decide +kernel
theorem Ym : (["name", "values"] : List Str).Nodup := by decide +kernel
def ZM : IFn :=
 (zaq (znh (zH (aC (fV 1) aN) xU))
  (zaq (zfC 0 zaS "size" (f2 (fV 1) (fC (.int 0)) ixP))
  (zaq (zfC 0 Z7 "around" (f2 (fV 1) (fC (.int 1)) ixP))
  (zaq (zfC 0 zaU "table" (zH (aC (f2 (fV 1) (fC (.int 2)) ixP) aN) Vl))
  (zaq (zfC 0 zdm "neutral" (f2 (fV 1) (fC (.int 3)) ixP))
  (zaq (zfC 0 zaT "waits" (fP (aC (yw (Yx (f2 (fV 1) (fC (.int 4)) ixP)) [none, none] (gT 2 (gsC (gN 0) (gsC (gN 1) gsN))) xG (wR (dC (fV 0) (dC (zH (aC (fV 1) aN) Vl) dN)))) aN) zbS))
  (zfC 0 zcN "holders" (fP (aC (yw (Yx (f2 (fV 1) (fC (.int 5)) ixP)) [none, none] (gT 2 (gsC (gN 0) (gsC (gN 1) gsN))) xG (wR (dC (fV 0) (dC (fP (aC (fV 1) aN) tupP) dN)))) aN) zbS))))))))
def vC (c : Str) : Fn := fnI c 2 2 ZM
abbrev YK : Stmt := inClass (top 13) 7
abbrev zbM : List Str := ["self"]
theorem zeS : FnScope zbM ["self"] (zA YK) := ⟨rfl, rfl, rfl, by decide +kernel, rfl, by decide +kernel, by decide +kernel⟩
def zbV : SF :=
 (yu (f2 (wR (dC (fP (aC (f1 (fV 0) (zai zaS "size")) aN) trP) dN)) (f1 (fV 0) (zai Z7 "around")) (zm .Mult)))
def Vk : Fn := fnR 1 1 zbV
abbrev YB : Stmt := inClass (top 13) 10
abbrev zbH : List Str := ["self", "wait", "value", "many"]
theorem zeW : FnScope zbH ["self", "wait", "value", "many"] (zA YB) := ⟨rfl, rfl, rfl, by decide +kernel, rfl, by decide +kernel, by decide +kernel⟩
def zbG : SF :=
 (yu (f2 (f2 (fV 1) (f2 (fV 3) (f1 (fV 0) (zai Z7 "around")) (zm .Mod)) ixP) (fV 2) ixP))
def WK : Fn := fnR 4 4 zbG
abbrev wZ : Stmt := inClass (top 13) 9
abbrev YM : List Str := ["self", "one", "other"]
theorem zcS : FnScope YM ["self", "one", "other"] (zA wZ) := ⟨rfl, rfl, rfl, by decide +kernel, rfl, by decide +kernel, by decide +kernel⟩
theorem Xk : (["row", "then"] : List Str).Nodup := by decide +kernel
theorem zbE : (["a", "then"] : List Str).Nodup := by decide +kernel
def VM : SF :=
 (yu (fP (aC (yw (zei (aC (fV 1) (aC (fV 2) aN))) [none, none] (gT 2 (gsC (gN 0) (gsC (gN 1) gsN))) xG (fP (aC (yw (Yx (fV 0)) [none, some 1] (gN 0) xG (f2 (fV 1) (fV 0) ixP)) aN) tupP)) aN) tupP))
def Xc : Fn := fnR 3 3 VM
abbrev vX : Stmt := inClass (top 13) 8
abbrev W7 : List Str := ["self", "deed"]
theorem zcl : FnScope W7 ["self", "deed"] (zA vX) := ⟨rfl, rfl, rfl, by decide +kernel, rfl, by decide +kernel, by decide +kernel⟩
def Vc : SF :=
 (yu (f2 (f1 (fV 0) (zai zaT "waits")) (fV 1) ixP))
def Yp : Fn := fnR 2 2 Vc
abbrev YG : Stmt := inClass (top 13) 5
abbrev zbW : List Str := ["self", "one", "other"]
theorem zeG : FnScope zbW ["self", "one", "other"] (zA YG) := ⟨rfl, rfl, rfl, by decide +kernel, rfl, by decide +kernel, by decide +kernel⟩
def zbK : SF :=
 (yu (f2 (f2 (f1 (fV 0) (zai zaU "table")) (fV 1) ixP) (fV 2) ixP))
def Vf : Fn := fnR 3 3 zbK
def ziB : List (Str × Fn) := [("Ways", Vk)]
def Vo : List (Str × Fn) := [("Ways", Xc)]
def X6 : List (Str × Fn) := [("Ways", Yp)]
def vU : List (Str × Fn) := [("Ways", WK)]
def zcv : List (Str × Fn) := [("Ways", Vf)]
abbrev ziG : Stmt := top 28
abbrev znV : List Str := ["_law_script", "_law_algebra_here", "_law_way", "_law_row", "_law_k", "_law_wait", "_law_deeds", "_law_name", "_law_rows", "_law_there", "_law_due", "_law_found", "_law_cut", "_law_one", "_law_other", "_law_back"]
theorem wB : FnScope znV ["_law_script"] (zA ziG) := ⟨rfl, rfl, rfl, by decide +kernel, rfl, by decide +kernel, by decide +kernel⟩
def znS : SF :=
 (zE (zJ true 1 (zH (aC (zH (aC (fV 0) (aC (fC (.int 0)) aN)) zK) (aC (zH (aC (fV 0) (aC (fC (.int 1)) aN)) zK) (aC (f2 (fC (.int 1)) (f2 (zH (aC (fV 0) (aC (fC (.int 2)) aN)) zK) (fC (.int 4)) (zm .Mod)) (zm .Add)) aN))) vg))
  (zE (zJ true 2 (zH (aC (fV 1) aN) (vC "Ways")))
  (zE (zJ false 3 (Zm dN))
  (zE (yZ (yx (aC (f2 (f2 (zH (aC (fV 0) (aC (fC (.int 2)) aN)) zK) (fC (.int 4)) (zm .FloorDiv)) (fC (.int 60)) (zm .Mod)) aN) yC) (gN 4) (wu (wX 3 (dC (f2 (zH (aC (zH (aC (fV 0) (aC (f2 (fC (.int 4)) (fV 4) (zm .Add)) aN)) zK) (aC (f2 (fV 4) (fC (.int 80)) (zm .Add)) aN)) zZ) (f2 (fV 1) (fC (.int 0)) ixP) (zm .Mod)) dN) vN)))
  (zdT 3 (zE (zJ true 5 (ZC ziB "idle" (fV 2) aN))
  (zE (zJ false 6 (Zm dN))
  (zE (yZ (yx (aC (f2 (zH (aC (fV 0) (aC (fC (.int 3)) aN)) zK) (fC (.int 21)) (zm .Mod)) aN) yC) (gN 4) (zE (zfD (f2 (f2 (fV 1) (fC (.int 4)) ixP) (f2 (zH (aC (zH (aC (fV 0) (aC (f2 (fC (.int 43)) (fV 4) (zm .Add)) aN)) zK) (aC (f2 (fV 4) (fC (.int 200)) (zm .Add)) aN)) zZ) (fP (aC (f2 (fV 1) (fC (.int 4)) ixP) aN) Y9) (zm .Mod)) ixP) (gT 2 (gsC (gN 7) (gsC (gN 8) gsN))))
  (zE (zJ true 5 (ZC Vo "behind" (fV 2) (aC (fV 5) (aC (ZC X6 "wait_of" (fV 2) (aC (fV 7) aN)) aN))))
  (wu (wX 6 (dC (fV 8) dN) vN)))))
  (zdT 6 (zE (zJ true 9 (zH (aC (fV 1) (aC (fV 6) (aC (fV 3) aN))) Zi))
  (zE (zJ true 10 (zH (aC (fV 1) (aC (fV 9) aN)) zy))
  (zE (zJ true 11 (ZC vU "made" (fV 2) (aC (fV 5) (aC (zH (aC (fV 1) (aC (fV 3) aN)) zy) (aC (fP (aC (fV 3) aN) Y9) aN)))))
  (zE (sIf (zdY (zgE (fT (zH (aC (fV 11) aN) vL))) (fT (f2 (fV 11) (fV 10) (yt .NotEq)))) (yu (fC (.bl false))) sNx)
  (zE (yZ (yx (aC (f2 (fP (aC (fV 3) aN) Y9) (fC (.int 1)) (zm .Add)) aN) yC) (gN 12) (zE (zJ true 13 (ZC vU "made" (fV 2) (aC (fV 5) (aC (zH (aC (fV 1) (aC (fSl (fV 3) oN (oS (fV 12)) slP) aN)) zy) (aC (fV 12) aN)))))
  (zE (zJ true 14 (ZC vU "made" (fV 2) (aC (fV 5) (aC (zH (aC (fV 1) (aC (fSl (fV 3) (oS (fV 12)) oN slP) aN)) zy) (aC (f2 (fP (aC (fV 3) aN) Y9) (fV 12) (zm .Sub)) aN)))))
  (sIf (zdY (fT (f2 (ZC zcv "join" (fV 2) (aC (fV 13) (aC (fV 14) aN))) (fV 10) (yt .NotEq))) (fT (f2 (fV 13) (zH (aC (fV 1) (aC (fSl (fV 9) oN (oS (fV 12)) slP) aN)) zy) (yt .NotEq)))) (yu (fC (.bl false))) sNx))))
  (zE (zJ true 15 (ZC vU "made" (fV 2) (aC (fV 5) (aC (zH (aC (fV 1) (aC (fSl (fV 3) oN (oS (f1 (fC (.int 1)) zhv)) rvP) aN)) zy) (aC (fP (aC (fV 3) aN) Y9) aN)))))
  (yu (f2 (fV 15) (zH (aC (fV 1) (aC (fSl (fV 9) oN (oS (f1 (fC (.int 1)) zhv)) rvP) aN)) zy) (yt .Eq))))))))))))))))))
def zdH : Fn := fnR 16 1 znS
set_option genInjectivity false in
set_option genSizeOf false in
structure Adr where
 ZD : Addr
 ZX : FuncData
 ZV : Addr
 ZL : FuncData
 Xg : Addr
 YS : FuncData
 XC : Addr
 Xv : FuncData
 XJ : Addr
 Xw : FuncData
 Ys : Addr
 Yg : FuncData
 zhw : Addr
 zhG : FuncData
 Xi : Addr
 Y5 : FuncData
 Vj : Addr
 Vg : FuncData
 Wu : Addr
 W0 : FuncData
 Wv : Addr
 W5 : FuncData
 X8 : Addr
 Wg : FuncData
 ZZ : Addr
 ZF : FuncData
 XQ : Addr
 Wb : FuncData
 YZ : Addr
 Y8 : FuncData
 WF : Addr
 WW : FuncData
 Wc : Addr
 Xx : FuncData
 Y4 : Addr
 YQ : FuncData
 Z9 : Addr
 Yn : FuncData
 zab : Addr
 zag : FuncData
 ZS : Addr
 ZR : FuncData
 W8 : Addr
 WX : FuncData
 WQ : Addr
 W9 : FuncData
 Xe : Addr
 Y7 : FuncData
 Ye : Addr
 Yo : FuncData
 W3 : Addr
 Wz : FuncData
 zkP : Addr
 zlH : FuncData
 Zk : Addr
structure Txt (K : zC) (kd : KD) (mg : Str -> Option Value) (t : Adr) : Prop where
 Wr : Fun K "nothing_fails" "nothing_fails" vA t.ZD t.ZX
 zcs : Binds K t.ZX ["algebra"] []
 wg : mg "nothing_fails" = some (.ref t.ZD)
 Wo : Fun K "parting_fails" "parting_fails" vB t.ZV t.ZL
 zcg : Binds K t.ZL ["algebra"] []
 wk : mg "parting_fails" = some (.ref t.ZV)
 V0 : Fun K "doing_fails" "doing_fails" Zr t.Xg t.YS
 zdK : Binds K t.YS ["algebra", "name", "rows"] []
 wA : mg "doing_fails" = some (.ref t.Xg)
 zaC : Fun K "deeds_fail" "deeds_fail" Z2 t.XC t.Xv
 zfl : Binds K t.Xv ["algebra"] []
 vZ : mg "deeds_fail" = some (.ref t.XC)
 zas : Fun K "what_fails" "what_fails" Z4 t.XJ t.Xw
 zeO : Binds K t.Xw ["algebra"] []
 vQ : mg "what_fails" = some (.ref t.XJ)
 Vd : Fun K "check_let_by" "check_let_by" vO t.Ys t.Yg
 zdD : Binds K t.Yg ["algebra"] []
 xU : mg "check_let_by" = some (.ref t.Ys)
 zhH : Fun K "firm" "firm" zdq t.zhw t.zhG
 zkX : Binds K t.zhG ["rows"] []
 Vl : mg "firm" = some (.ref t.zhw)
 yX : Fun K "_law_cell_at" "_law_cell_at" Zu t.Xi t.Y5
 xO : Binds K t.Y5 ["_law_script", "_law_k"] []
 zK : mg "_law_cell_at" = some (.ref t.Xi)
 Zy : Fun K "_law_mixed" "_law_mixed" YD t.Vj t.Vg
 YH : Binds K t.Vg ["_law_cell", "_law_k"] []
 zZ : mg "_law_mixed" = some (.ref t.Vj)
 zbZ : Fun K "_law_whole" "_law_whole" YJ t.Wu t.W0
 zgw : Binds K t.W0 ["_law_found"] []
 vL : mg "_law_whole" = some (.ref t.Wu)
 zcd : Fun K "_law_words" "_law_words" Zx t.Wv t.W5
 zfP : Binds K t.W5 ["_law_cell", "_law_many"] []
 vM : mg "_law_words" = some (.ref t.Wv)
 zam : Fun K "_law_common" "_law_common" Z0 t.X8 t.Wg
 zft : Binds K t.Wg ["_law_n", "_law_m"] []
 wN : mg "_law_common" = some (.ref t.X8)
 ZP : Fun K "_law_joined_by" "_law_joined_by" vz t.ZZ t.ZF
 Wn : Binds K t.ZF ["_law_kind", "_law_n", "_law_a", "_law_b"] []
 zN : mg "_law_joined_by" = some (.ref t.ZZ)
 zaR : Fun K "_law_images" "_law_images" vP t.XQ t.Wb
 zeT : Binds K t.Wb ["_law_kind", "_law_n", "_law_x"] []
 vW : mg "_law_images" = some (.ref t.XQ)
 Xa : Fun K "_law_done_by" "_law_done_by" wz t.YZ t.Y8
 VL : Binds K t.Y8 ["_law_kind", "_law_n", "_law_m", "_law_x"] []
 yM : mg "_law_done_by" = some (.ref t.YZ)
 zce : Fun K "_law_kinds" "_law_kinds" YL t.WF t.WW
 zgu : Binds K t.WW ["_law_x"] []
 vK : mg "_law_kinds" = some (.ref t.WF)
 Wa : Fun K "_law_stream" "_law_stream" Z5 t.Wc t.Xx
 zaX : Binds K t.Xx ["_law_cell", "_law_many"] []
 yL : mg "_law_stream" = some (.ref t.Wc)
 V4 : Fun K "_law_algebra" "_law_algebra" xN t.Y4 t.YQ
 zdN : Binds K t.YQ ["_law_cell", "_law_head", "_law_many"] []
 vg : mg "_law_algebra" = some (.ref t.Y4)
 yN : Fun K "_law_whole_of" "_law_whole_of" vY t.Z9 t.Yn
 xj : Binds K t.Yn ["_law_algebra_here", "_law_row"] []
 zy : mg "_law_whole_of" = some (.ref t.Z9)
 zcX : Fun K "_law_done" "_law_done" Yb t.zab t.zag
 zgZ : Binds K t.zag ["_law_algebra_here", "_law_deeds", "_law_row"] []
 Zi : mg "_law_done" = some (.ref t.zab)
 zcf : Fun K "__init__" "Ways.__init__" xu t.ZS t.ZR
 zcp : Binds K t.ZR ["self", "algebra"] []
 zgr : Fun K "idle" "Ways.idle" YK t.W8 t.WX
 zfR : Binds K t.WX ["self"] []
 zgy : Fun K "made" "Ways.made" YB t.WQ t.W9
 zfM : Binds K t.W9 ["self", "wait", "value", "many"] []
 zdU : Fun K "behind" "Ways.behind" wZ t.Xe t.Y7
 zdM : Binds K t.Y7 ["self", "one", "other"] []
 zcP : Fun K "wait_of" "Ways.wait_of" vX t.Ye t.Yo
 zcR : Binds K t.Yo ["self", "deed"] []
 zfZ : Fun K "join" "Ways.join" YG t.W3 t.Wz
 zfS : Binds K t.Wz ["self", "one", "other"] []
 zrh : Fun K "law" "law" ziG t.zkP t.zlH
 zsi : Binds K t.zlH ["_law_script"] []
 zdH : mg "law" = some (.ref t.zkP)
 v7 : CI K kd mg "Ways" t.Zk
 zck : Meth K t.Zk "__init__" t.ZS
 zgL : Meth K t.Zk "idle" t.W8
 zdV : Meth K t.Zk "behind" t.Xe
 zdC : Meth K t.Zk "wait_of" t.Ye
 zgN : Meth K t.Zk "made" t.WQ
 zgQ : Meth K t.Zk "join" t.W3
 zgO : v9 K t.Zk "size"
 zdR : v9 K t.Zk "around"
 zeY : v9 K t.Zk "table"
 zdi : v9 K t.Zk "neutral"
 zeN : v9 K t.Zk "waits"
 zdG : v9 K t.Zk "holders"
 zok : mg "bool" = none
 zkU : mg "dict" = none
 zeg : mg "int" = none
 zaF : mg "isinstance" = none
 zcW : mg "len" = none
 zlw : mg "list" = none
 zrb : mg "max" = none
 yg : mg "range" = none
 zjX : mg "sorted" = none
 Vz : mg "tuple" = none
 zqO : mg "zip" = none
set_option maxHeartbeats 8000000
section
variable {P : Program} {w : World} {K : zC} {mg : Str -> Option Value} {base : Heap} {kd : KD} {t : Adr}
theorem zlT (T : Txt K kd mg t) : CF K kd zaS "size" := (zbf T.v7 T.zgO zaZ)
theorem zdw (T : Txt K kd mg t) : CF K kd Z7 "around" := (zbf T.v7 T.zdR zaZ)
theorem zhX (T : Txt K kd mg t) : CF K kd zaU "table" := (zbf T.v7 T.zeY zaZ)
theorem zjb (T : Txt K kd mg t) : CF K kd zdm "neutral" := (zbf T.v7 T.zdi zaZ)
theorem zhP (T : Txt K kd mg t) : CF K kd zaT "waits" := (zbf T.v7 T.zeN zaZ)
theorem zjx (T : Txt K kd mg t) : CF K kd zcN "holders" := (zbf T.v7 T.zdG zaZ)
theorem zcn (T : Txt K kd mg t) (hkd : KD1 P w K kd) : FnOk P w K mg base CX0 1 t.ZD t.ZX ["algebra"] (spD K kd wg) := by
 refine xW (N := Ws) (ps := ["algebra"]) (k := 0) (c := vp) T.Wr wO λ cdv A outer s H E hr => ?_
 exact (by
  refine zj ?_ ?_; exact (by refine sv true 1 wO.nd ?_; exact (ax hkd (av 0) aI))
  refine zj ?_ ?_; exact (by refine sv true 2 wO.nd ?_; exact (ax hkd (av 0) aI))
  refine zj ?_ ?_; exact (yU PassesOwn.never rfl (yo rfl T.yg (zc (ax hkd (av 0) aI) zr (za rfl)) rfl) (an 3 wO.nd) (zx (vI (AW.at_ (zkF (yV (yE (hkd _ rfl rfl rfl) (xr hr) .NotEq) (yD .NotEq) (ax hkd (ax hkd (av 1) (av 2)) (av 3)) (av 3) (yH _)) (zbl (yV (yE (hkd _ rfl rfl rfl) (xr hr) .NotEq) (yD .NotEq) (ax hkd (ax hkd (av 1) (av 3)) (av 2)) (av 3) (yH _))))) (zx (yf (Yl (zF aS (zF (av 3) yh (za rfl)) (za rfl))))) yW)) (λ _ => rfl))
  exact zx (yf aZ))
theorem zcm (T : Txt K kd mg t) (hkd : KD1 P w K kd) : FnOk P w K mg base CX0 1 t.ZV t.ZL ["algebra"] (spD K kd wk) := by
 refine xW (N := Wj) (ps := ["algebra"]) (k := 0) (c := ZK) T.Wo xf λ cdv A outer s H E hr => ?_
 exact (by
  refine zj ?_ ?_; exact (by refine sv true 1 xf.nd ?_; exact (ax hkd (av 0) aI))
  refine zj ?_ ?_; exact (by refine sv true 2 xf.nd ?_; exact (ax hkd (av 0) aI))
  refine zj ?_ ?_; exact (yU PassesOwn.never rfl (yo rfl T.yg (zc (av 1) zr (za rfl)) rfl) (an 3 xf.nd) (zx (yU PassesOwn.never rfl (yo rfl T.yg (zc (av 1) zr (za rfl)) rfl) (an 4 xf.nd) (zx (yU PassesOwn.never rfl (yo rfl T.yg (zc (av 1) zr (za rfl)) rfl) (an 5 xf.nd) (zx (vI (yV (yE (hkd _ rfl rfl rfl) (xr hr) .NotEq) (yD .NotEq) (ax hkd (ax hkd (av 2) (ax hkd (ax hkd (av 2) (av 3)) (av 4))) (av 5)) (ax hkd (ax hkd (av 2) (av 3)) (ax hkd (ax hkd (av 2) (av 4)) (av 5))) (yH _)) (zx (yf (Yl (by refine zF ?_ ?_ ?_; exact aS; refine zF ?_ ?_ ?_; exact (av 3); refine zF ?_ ?_ ?_; exact (av 4); refine zF ?_ ?_ ?_; exact (av 5); exact yh; exact za rfl; exact za rfl; exact za rfl; exact za rfl)))) yW)) (λ _ => rfl))) (λ _ => rfl))) (λ _ => rfl))
  exact zx (yf aZ))
theorem zdO (T : Txt K kd mg t) (hkd : KD1 P w K kd) : FnOk P w K mg base CX0 1 t.Xg t.YS ["algebra", "name", "rows"] (spD K kd wA) := by
 refine xW (N := VP) (ps := ["algebra", "name", "rows"]) (k := 0) (c := YW) T.V0 yP λ cdv A outer s H E hr => ?_
 exact (by
  refine zj ?_ ?_; exact (by refine sv true 3 yP.nd ?_; exact (ax hkd (av 0) aI))
  refine zj ?_ ?_; exact (by refine sv true 4 yP.nd ?_; exact (ax hkd (av 0) aI))
  refine zj ?_ ?_; exact (by refine sv true 5 yP.nd ?_; exact (ax hkd (av 0) aI))
  refine zj ?_ ?_; exact (yU PassesOwn.never rfl (yo rfl T.yg (zc (av 3) zr (za rfl)) rfl) (an 6 yP.nd) (zx (yU PassesOwn.never rfl (yo rfl T.yg (zc (av 4) zr (za rfl)) rfl) (an 7 yP.nd) (zx (yU PassesOwn.never rfl (yo rfl T.yg (zc (av 3) zr (za rfl)) rfl) (an 8 yP.nd) (zx (yU PassesOwn.never rfl (yo rfl T.yg (zc (av 4) zr (za rfl)) rfl) (an 9 yP.nd) (zx (vI (yV (yE (hkd _ rfl rfl rfl) (xr hr) .NotEq) (yD .NotEq) (ax hkd (ax hkd (av 2) (zp (zq .Mod) (zp (zq .Add) (av 7) (av 9)) (av 4))) (ax hkd (ax hkd (av 5) (av 6)) (av 8))) (ax hkd (ax hkd (av 5) (ax hkd (ax hkd (av 2) (av 7)) (av 6))) (ax hkd (ax hkd (av 2) (av 9)) (av 8))) (yH _)) (zx (yf (Yl (by refine zF ?_ ?_ ?_; exact aS; refine zF ?_ ?_ ?_; exact (av 1); refine zF ?_ ?_ ?_; exact (av 6); refine zF ?_ ?_ ?_; exact (av 7); refine zF ?_ ?_ ?_; exact (av 8); refine zF ?_ ?_ ?_; exact (av 9); exact yh; exact za rfl; exact za rfl; exact za rfl; exact za rfl; exact za rfl; exact za rfl)))) yW)) (λ _ => rfl))) (λ _ => rfl))) (λ _ => rfl))) (λ _ => rfl))
  exact zx (yf aZ))
theorem zfm (T : Txt K kd mg t) (hkd : KD1 P w K kd) : FnOk P w K mg base CX0 2 t.XC t.Xv ["algebra"] (spD K kd vZ) := by
 refine xW (N := zak) (ps := ["algebra"]) (k := 1) (c := zaK) T.zaC wW λ cdv A outer s H E hr => ?_
 exact (by
  refine zj ?_ ?_; exact (by refine sv true 1 wW.nd ?_; exact (ax hkd (av 0) aI))
  refine zj ?_ ?_; exact (yU PassesOwn.never rfl (zha (ax hkd (av 0) aI)) (zbD rfl (xM (an 2 wW.nd) (xM (an 3 wW.nd) Vn rfl) rfl) rfl rfl) (by
  refine zj ?_ ?_; exact (vI (yV (yE (hkd _ rfl rfl rfl) (xr hr) .NotEq) (yD .NotEq) (ax hkd (ax hkd (av 3) aI) (av 1)) (av 1) (yH _)) (zx (yf (Yl (zF aS (zF (av 2) yh (za rfl)) (za rfl))))) yW)
  refine zj ?_ ?_; exact (by refine sv true 4 wW.nd ?_; exact (zQ (zdO T hkd) (hr.mono (by omega)) rfl T.wA T.V0.kp T.zdK yp (by refine zc ?_ ?_ ?_; exact (av 0); refine zc ?_ ?_ ?_; exact (av 2); refine zc ?_ ?_ ?_; exact (av 3); exact zr; exact za rfl; exact za rfl; exact za rfl) (by decide) rfl rfl))
  exact zx (vI (yV (yE (hkd _ rfl rfl rfl) (xr hr) .IsNot) (yD .IsNot) (av 4) aZ (yH _)) (zx (yf (av 4))) yW)) (λ _ => rfl))
  exact zx (yf aZ))
theorem zfy (T : Txt K kd mg t) (hkd : KD1 P w K kd) : FnOk P w K mg base CX0 3 t.XJ t.Xw ["algebra"] (spD K kd vQ) := by
 refine xW (N := zaz) (ps := ["algebra"]) (k := 2) (c := zao) T.zas Zt λ cdv A outer s H E hr => ?_
 exact (by
  refine zj ?_ ?_; exact (by refine sv true 1 Zt.nd ?_; exact (zQ (zcn T hkd) (hr.mono (by omega)) rfl T.wg T.Wr.kp T.zcs yp (zc (av 0) zr (za rfl)) (by decide) rfl rfl))
  refine zj ?_ ?_; exact (vI (yV (yE (hkd _ rfl rfl rfl) (xr hr) .Is) (yD .Is) (av 1) aZ (yH _)) (zx (by refine sv true 1 Zt.nd ?_; exact (zQ (zcm T hkd) (hr.mono (by omega)) rfl T.wk T.Wo.kp T.zcg yp (zc (av 0) zr (za rfl)) (by decide) rfl rfl))) yW)
  refine zj ?_ ?_; exact (vI (yV (yE (hkd _ rfl rfl rfl) (xr hr) .Is) (yD .Is) (av 1) aZ (yH _)) (zx (by refine sv true 1 Zt.nd ?_; exact (zQ (zfm T hkd) (hr.mono (by omega)) rfl T.vZ T.zaC.kp T.zfl yp (zc (av 0) zr (za rfl)) (by decide) rfl rfl))) yW)
  exact zx (yf (av 1)))
theorem zdp (T : Txt K kd mg t) (hkd : KD1 P w K kd) : FnOk P w K mg base CX0 4 t.Ys t.Yg ["algebra"] (spD K kd xU) := by
 refine xW (N := Va) (ps := ["algebra"]) (k := 3) (c := Z8) T.Vd Wl λ cdv A outer s H E hr => ?_
 exact (by
  refine zj ?_ ?_; exact (by refine sv true 1 Wl.nd ?_; exact (zQ (zfy T hkd) (hr.mono (by omega)) rfl T.vQ T.zas.kp T.zeO yp (zc (av 0) zr (za rfl)) (by decide) rfl rfl))
  exact zx (vI (yV (yE (hkd _ rfl rfl rfl) (xr hr) .IsNot) (yD .IsNot) (av 1) aZ (yH _)) (zx zqy) yW))
theorem zkk (T : Txt K kd mg t) (hkd : KD1 P w K kd) : FnOk P w K mg base CX0 1 t.zhw t.zhG ["rows"] (spD K kd Vl) := by
 refine xW (N := zhA) (ps := ["rows"]) (k := 0) (c := zky) T.zhH zmr λ cdv A outer s H E hr => ?_
 exact (zx (yf (Zn Xu rfl T.Vz Bt.tuple (zc (Za (N := ["row"]) (cap := [none]) (S := [0]) rfl (WY (av 0)) rfl (by change Zc _ zhA _ (zA zdq).names _ = true; decide +kernel) (by decide) (λ cl s H fp => (an 0 zjh)) (λ cl s H fp => xX) (λ cl s H fp => (Zn Xu rfl T.Vz Bt.tuple (zc (av 0) zr (za rfl)) (Bt.n _ rfl) (by decide) rfl rfl)) (λ _ => rfl)) zr (za rfl)) (Bt.n _ rfl) (by decide) rfl rfl)))
theorem xQ (T : Txt K kd mg t) (hkd : KD1 P w K kd) : FnOk P w K mg base CX0 1 t.Xi t.Y5 ["_law_script", "_law_k"] (spD K kd zK) := by
 refine xW (N := VH) (ps := ["_law_script", "_law_k"]) (k := 0) (c := V5) T.yX zcL λ cdv A outer s H E hr => ?_
 exact (by
  refine zj ?_ ?_; exact (vI (yV (yE (hkd _ rfl rfl rfl) (xr hr) .Lt) (yD .Lt) (av 1) (XX (Zg (hkd _ rfl rfl rfl)) rfl T.zcW Bt.len (zc (av 0) zr (za rfl)) (Bt.n _ rfl) (by decide) rfl rfl) (yH _)) (zx (yf (ax hkd (av 0) (av 1)))) yW)
  exact zx (yf aI))
theorem YC (T : Txt K kd mg t) (hkd : KD1 P w K kd) : FnOk P w K mg base CX0 1 t.Vj t.Vg ["_law_cell", "_law_k"] (spD K kd zZ) := by
 refine xW (N := zbQ) (ps := ["_law_cell", "_law_k"]) (k := 0) (c := zcb) T.Zy zay λ cdv A outer s H E hr => ?_
 exact (by
  refine zj ?_ ?_; exact (by refine sv true 2 zay.nd ?_; exact (zp (zq .Mod) (zp (zq .Add) (zp (zq .Add) (zp (zq .Mult) (zp (zq .Mod) (av 0) aI) aI) (zp (zq .Mult) (zp (zq .Mult) (av 1) (av 1)) aI)) aI) aI))
  exact zx (yf (zp (zq .Mod) (zp (zq .Add) (zp (zq .Add) (zp (zq .Mult) (av 2) (av 2)) (zp (zq .Mult) aI (av 2))) (av 1)) aI)))
theorem zga (T : Txt K kd mg t) (hkd : KD1 P w K kd) : FnOk P w K mg base CX0 1 t.Wu t.W0 ["_law_found"] (spD K kd vL) := by
 refine xW (N := zbI) (ps := ["_law_found"]) (k := 0) (c := zbL) T.zbZ zfn λ cdv A outer s H E hr => ?_
 exact (zx (yf (zpG (zjS (hkd _ rfl rfl rfl) rfl rfl T.zaF Bt.isinstance rfl T.zeg Bt.int (av 0) (Bt.n _ rfl) (by decide) (Bt.n _ rfl) (by decide) rfl rfl rfl) (zpl (zqf (zjS (hkd _ rfl rfl rfl) rfl rfl T.zaF Bt.isinstance rfl T.zok Bt.bool (av 0) (Bt.n _ rfl) (by decide) (Bt.n _ rfl) (by decide) rfl rfl rfl))))))
theorem zgf (T : Txt K kd mg t) (hkd : KD1 P w K kd) : FnOk P w K mg base CX0 2 t.Wv t.W5 ["_law_cell", "_law_many"] (spD K kd vM) := by
 refine xW (N := Vh) (ps := ["_law_cell", "_law_many"]) (k := 1) (c := zcc) T.zcd xY λ cdv A outer s H E hr => ?_
 exact (by
  refine zj ?_ ?_; exact (by refine sv true 2 xY.nd ?_; exact aS)
  refine zj ?_ ?_; exact (by refine sv true 3 xY.nd ?_; exact (zp (zq .Add) aI (zp (zq .Mod) (av 0) aI)))
  refine zj ?_ ?_; exact (by refine sv true 4 xY.nd ?_; exact (zp (zq .Mod) (zp (zq .FloorDiv) (av 0) aI) (av 3)))
  refine zj ?_ ?_; exact (by refine sv false 5 xY.nd ?_; exact (vH yh))
  refine zj ?_ ?_; exact (yU PassesOwn.never rfl (yo rfl T.yg (zc (av 1) zr (za rfl)) rfl) (an 6 xY.nd) (by
  refine zj ?_ ?_; exact (zaI (z := true) (i := 7) (N := ["_law_j", "_law_letters", "_law_k", "_law_cell", "_law_at"]) (cap := [none, some 2, some 6, some 0, some 4]) (S := [0]) xY.nd rfl (by exact Or.inl rfl) (by exact Or.inr rfl) rfl rfl (Zh rfl T.yg (zc (av 3) zr (za rfl)) rfl) rfl (by change Zc _ Vh _ (zA Zx).names _ = true; decide +kernel) (by decide) (λ cl s H fp => (an 0 zdJ)) (λ cl s H fp => xX) (λ cl s H fp => (ax hkd (av 1) (zp (zq .Mod) (zp (zq .Add) (zp (zq .FloorDiv) (zQ (YC T hkd) (hr.mono (by omega)) rfl T.zZ T.Zy.kp T.YH yp (zc (av 3) (zc (av 0) zr (za rfl)) (za rfl)) (by decide) rfl rfl) aI) (zp (zq .Mult) (av 2) (Zn Yr rfl T.zeg Bt.int (zc (zbj (yE (hkd _ rfl rfl rfl) (xr hr) .Eq) (av 0) (av 4) (yH _)) zr (za rfl)) (Bt.n _ rfl) (by decide) rfl rfl))) aI))) (λ _ => rfl))
  exact zx (Z3 (Y0 wK X3 PySem.F.slot_list_append PySem.F.type_list_append (pv 5) (zF (zmP (ty := .str) (hkd _ rfl rfl rfl) zmh PySem.F.plainAttrs_str PySem.F.slot_str_join PySem.F.type_str_join aS (zc (av 7) zr (za rfl)) rfl rfl rfl rfl rfl) yh (za rfl)) rfl rfl rfl rfl rfl) rfl)) (λ _ => rfl))
  exact zx (yf (av 5)))
theorem zfr (T : Txt K kd mg t) (hkd : KD1 P w K kd) : FnOk P w K mg base CX0 1 t.X8 t.Wg ["_law_n", "_law_m"] (spD K kd wN) := by
 refine xW (N := zaj) (ps := ["_law_n", "_law_m"]) (k := 0) (c := zav) T.zam VR λ cdv A outer s H E hr => ?_
 exact (by
  refine zj ?_ ?_; exact (zjW (n := 10000) PassesOwn.never (yV (yE (hkd _ rfl rfl rfl) (xr hr) .Gt) (yD .Gt) (av 1) aI (yH _)) (zx (zpX (i := 0) (j := 1) rfl VR.nd rfl rfl (by decide) rfl rfl (zF (av 1) (zF (zp (zq .Mod) (av 0) (av 1)) yh (za rfl)) (za rfl)) rfl rfl)))
  exact zx (yf (av 0)))
theorem Wq (T : Txt K kd mg t) (hkd : KD1 P w K kd) : FnOk P w K mg base CX0 1 t.ZZ t.ZF ["_law_kind", "_law_n", "_law_a", "_law_b"] (spD K kd zN) := by
 refine xW (N := Wh) (ps := ["_law_kind", "_law_n", "_law_a", "_law_b"]) (k := 0) (c := Wm) T.ZP Xq λ cdv A outer s H E hr => ?_
 exact (by
  refine zj ?_ ?_; exact (vI (yV (yE (hkd _ rfl rfl rfl) (xr hr) .Eq) (yD .Eq) (av 0) aI (yH _)) (zx (yf (zp (zq .Mod) (zp (zq .Add) (av 2) (av 3)) (av 1)))) yW)
  refine zj ?_ ?_; exact (vI (yV (yE (hkd _ rfl rfl rfl) (xr hr) .Eq) (yD .Eq) (av 0) aI (yH _)) (zx (yf (XX (zjd rfl) rfl T.zrb Bt.max (zc (av 2) (zc (av 3) zr (za rfl)) (za rfl)) (Bt.n _ rfl) (by decide) rfl rfl))) yW)
  refine zj ?_ ?_; exact (vI (yV (yE (hkd _ rfl rfl rfl) (xr hr) .Eq) (yD .Eq) (av 0) aI (yH _)) (zx (yf (ax hkd (vH (zF (av 3) (zF (av 2) yh (za rfl)) (za rfl))) (Zn Yr rfl T.zeg Bt.int (zc (zbj (yE (hkd _ rfl rfl rfl) (xr hr) .Eq) (av 3) aI (yH _)) zr (za rfl)) (Bt.n _ rfl) (by decide) rfl rfl)))) yW)
  refine zj ?_ ?_; exact (by refine sv true 4 Xq.nd ?_; exact (vH (zF (zp (zq .FloorDiv) (av 3) aI) (zF (zp (zq .Mod) (av 3) aI) yh (za rfl)) (za rfl))))
  exact zx (yf (zp (zq .Add) (zp (zq .Mult) aI (ax hkd (av 4) (zp (zq .FloorDiv) (av 2) aI))) (ax hkd (av 4) (zp (zq .Mod) (av 2) aI)))))
theorem zfw (T : Txt K kd mg t) (hkd : KD1 P w K kd) : FnOk P w K mg base CX0 1 t.XQ t.Wb ["_law_kind", "_law_n", "_law_x"] (spD K kd vW) := by
 refine xW (N := XF) (ps := ["_law_kind", "_law_n", "_law_x"]) (k := 0) (c := zaA) T.zaR wY λ cdv A outer s H E hr => ?_
 exact (by
  refine zj ?_ ?_; exact (vI (yV (yE (hkd _ rfl rfl rfl) (xr hr) .Eq) (yD .Eq) (av 0) aI (yH _)) (zx (yf (Za (N := ["_law_a", "_law_x"]) (cap := [none, some 2]) (S := [0]) rfl (Zh rfl T.yg (zc (av 1) zr (za rfl)) rfl) rfl (by change Zc _ XF _ (zA vP).names _ = true; decide +kernel) (by decide) (λ cl s H fp => (an 0 zci)) (λ cl s H fp => xX) (λ cl s H fp => (ax hkd (vH (zF (av 0) (zF (zp (zq .Sub) (zp (zq .Add) (zp (zq .Mult) aI (zp (zq .Sub) aI (zp (zq .Mod) (av 0) aI))) aI) (zp (zq .FloorDiv) (av 0) aI)) yh (za rfl)) (za rfl))) (zp (zq .Mod) (av 1) aI))) (λ _ => rfl)))) yW)
  refine zj ?_ ?_; exact (by refine sv false 3 wY.nd ?_; exact (vH yh))
  refine zj ?_ ?_; exact (yU PassesOwn.never rfl (zjw rfl T.yg (zc aI (zc (av 1) zr (za rfl)) (za rfl)) rfl rfl) (an 4 wY.nd) (by
  refine zj ?_ ?_; exact (by refine sv true 2 wY.nd ?_; exact (zp (zq .FloorDiv) (av 2) (av 1)))
  exact zx (Z3 (Y0 wK X3 PySem.F.slot_list_append PySem.F.type_list_append (pv 3) (zF (ax hkd (vH (zF (zp (zq .Mod) (av 2) (av 1)) (zF (zp (zq .Add) aI (zp (zq .Mod) (av 2) (zp (zq .Sub) (av 1) aI))) yh (za rfl)) (za rfl))) (zp (zq .Sub) (av 0) aI)) yh (za rfl)) rfl rfl rfl rfl rfl) rfl)) (λ _ => rfl))
  refine zj ?_ ?_; exact (vI (yV (yE (hkd _ rfl rfl rfl) (xr hr) .Eq) (yD .Eq) (av 0) aI (yH _)) (zx (by refine sv false 3 wY.nd ?_; exact (XX zhu rfl T.zjX Bt.sorted (zc (av 3) zr (za rfl)) (Bt.n _ rfl) (by decide) rfl rfl))) yW)
  exact zx (yf (zp (zq .Add) (vH (zF aI yh (za rfl))) (av 3))))
theorem V1 (T : Txt K kd mg t) (hkd : KD1 P w K kd) : FnOk P w K mg base CX0 2 t.YZ t.Y8 ["_law_kind", "_law_n", "_law_m", "_law_x"] (spD K kd yM) := by
 refine xW (N := Zq) (ps := ["_law_kind", "_law_n", "_law_m", "_law_x"]) (k := 1) (c := V2) T.Xa Yd λ cdv A outer s H E hr => ?_
 exact (by
  refine zj ?_ ?_; exact (vI (yV (yE (hkd _ rfl rfl rfl) (xr hr) .Gt) (yD .Gt) (av 0) aI (yH _)) (by
  refine zj ?_ ?_; exact (by refine sv true 4 Yd.nd ?_; exact (zQ (zfw T hkd) (hr.mono (by omega)) rfl T.vW T.zaR.kp T.zeT yp (by refine zc ?_ ?_ ?_; exact (av 0); refine zc ?_ ?_ ?_; exact (av 1); refine zc ?_ ?_ ?_; exact (av 3); exact zr; exact za rfl; exact za rfl; exact za rfl) (by decide) rfl rfl))
  exact zx (yf (Za (N := ["_law_c", "_law_images_here"]) (cap := [none, some 4]) (S := [0]) rfl (Zh rfl T.yg (zc (av 2) zr (za rfl)) rfl) rfl (by change Zc _ Zq _ (zA wz).names _ = true; decide +kernel) (by decide) (λ cl s H fp => (an 0 zbq)) (λ cl s H fp => xX) (λ cl s H fp => (Zn ziZ rfl T.zlw Bt.list (zc (av 1) zr (za rfl)) (Bt.n _ rfl) (by decide) rfl rfl)) (λ _ => rfl)))) yW)
  refine zj ?_ ?_; exact (by refine sv true 5 Yd.nd ?_; exact (zp (zq .Mult) (zp (zq .FloorDiv) (av 1) (zQ (zfr T hkd) (hr.mono (by omega)) rfl T.wN T.zam.kp T.zft yp (zc (av 1) (zc (av 2) zr (za rfl)) (za rfl)) (by decide) rfl rfl)) (zp (zq .Mod) (zp (zq .FloorDiv) (av 3) aI) aI)))
  exact zx (yf (Za (N := ["_law_c", "_law_n", "_law_step", "_law_x"]) (cap := [none, some 1, some 5, some 3]) (S := [0]) rfl (Zh rfl T.yg (zc (av 2) zr (za rfl)) rfl) rfl (by change Zc _ Zq _ (zA wz).names _ = true; decide +kernel) (by decide) (λ cl s H fp => (an 0 zbA)) (λ cl s H fp => xX) (λ cl s H fp => (Za (N := ["_law_a", "_law_n", "_law_step", "_law_c", "_law_x"]) (cap := [none, some 1, some 2, some 0, some 3]) (S := [0]) rfl (Zh rfl T.yg (zc (av 1) zr (za rfl)) rfl) rfl (by with_unfolding_all rfl) (by decide) (λ cl s H fp => (an 0 zbb)) (λ cl s H fp => xX) (λ cl s H fp => (zp (zq .Mod) (zp (zq .Add) (zp (zq .Mult) (zp (zq .Mod) (av 4) aI) (av 0)) (zp (zq .Mult) (av 2) (av 3))) (av 1))) (λ _ => rfl))) (λ _ => rfl))))
theorem zgk (T : Txt K kd mg t) (hkd : KD1 P w K kd) : FnOk P w K mg base CX0 1 t.WF t.WW ["_law_x"] (spD K kd vK) := by
 refine xW (N := zbR) (ps := ["_law_x"]) (k := 0) (c := zbX) T.zce wL λ cdv A outer s H E hr => ?_
 exact (by
  refine zj ?_ ?_; exact (by refine sv true 1 wL.nd ?_; exact (zp (zq .Mod) (av 0) aI))
  refine zj ?_ ?_; exact (by refine sv true 2 wL.nd ?_; exact (ax hkd (vH (zF (zp (zq .Add) aI (zp (zq .Mod) (zp (zq .FloorDiv) (av 0) aI) aI)) (zF (zp (zq .Add) aI (zp (zq .Mod) (zp (zq .FloorDiv) (av 0) aI) aI)) yh (za rfl)) (za rfl))) (Zn Yr rfl T.zeg Bt.int (zc (zbj (yE (hkd _ rfl rfl rfl) (xr hr) .Eq) (zp (zq .Mod) (zp (zq .FloorDiv) (av 0) aI) aI) aI (yH _)) zr (za rfl)) (Bt.n _ rfl) (by decide) rfl rfl)))
  refine zj ?_ ?_; exact (vI (yV (yE (hkd _ rfl rfl rfl) (xr hr) .Eq) (yD .Eq) (av 1) aI (yH _)) (zx (by refine sv true 2 wL.nd ?_; exact aI)) yW)
  refine zj ?_ ?_; exact (by refine sv true 3 wL.nd ?_; exact (zp (zq .Add) aI (zp (zq .Mod) (zp (zq .FloorDiv) (av 0) aI) aI)))
  refine zj ?_ ?_; exact (vI (yV (yE (hkd _ rfl rfl rfl) (xr hr) .Gt) (yD .Gt) (zp (zq .Mult) (av 2) (av 3)) aI (yH _)) (zx (by refine sv true 3 wL.nd ?_; exact aI)) yW)
  exact zx (yf (Yl (by refine zF ?_ ?_ ?_; exact (av 1); refine zF ?_ ?_ ?_; exact (av 2); refine zF ?_ ?_ ?_; exact (zp (zq .Mod) (zp (zq .FloorDiv) (av 0) aI) aI); refine zF ?_ ?_ ?_; exact (av 3); exact yh; exact za rfl; exact za rfl; exact za rfl; exact za rfl))))
theorem zap (T : Txt K kd mg t) (hkd : KD1 P w K kd) : FnOk P w K mg base CX0 2 t.Wc t.Xx ["_law_cell", "_law_many"] (spD K kd yL) := by
 refine xW (N := zaB) (ps := ["_law_cell", "_law_many"]) (k := 1) (c := zaW) T.Wa vh λ cdv A outer s H E hr => ?_
 exact (by
  refine zj ?_ ?_; exact (by refine sv false 2 vh.nd ?_; exact (vH yh))
  refine zj ?_ ?_; exact (by refine sv true 3 vh.nd ?_; exact (zp (zq .FloorDiv) (av 0) aI))
  refine zj ?_ ?_; exact (yU PassesOwn.never rfl (yo rfl T.yg (zc (av 1) zr (za rfl)) rfl) (an 4 vh.nd) (zx (vI (yV (yE (hkd _ rfl rfl rfl) (xr hr) .Eq) (yD .Eq) (zp (zq .Mod) (av 0) aI) aI (yH _)) (by
  refine zj ?_ ?_; exact (Z3 (Y0 wK X3 PySem.F.slot_list_append PySem.F.type_list_append (pv 2) (zF (zp (zq .Mod) (av 3) aI) yh (za rfl)) rfl rfl rfl rfl rfl) rfl)
  exact zx (by refine sv true 3 vh.nd ?_; exact (zp (zq .FloorDiv) (av 3) aI))) (zx (Z3 (Y0 wK X3 PySem.F.slot_list_append PySem.F.type_list_append (pv 2) (zF (zQ (YC T hkd) (hr.mono (by omega)) rfl T.zZ T.Zy.kp T.YH yp (zc (av 3) (zc (av 4) zr (za rfl)) (za rfl)) (by decide) rfl rfl) yh (za rfl)) rfl rfl rfl rfl rfl) rfl)))) (λ _ => rfl))
  exact zx (yf (av 2)))
theorem zdP (T : Txt K kd mg t) (hkd : KD1 P w K kd) : FnOk P w K mg base CX0 3 t.Y4 t.YQ ["_law_cell", "_law_head", "_law_many"] (spD K kd vg) := by
 refine xW (N := vm) (ps := ["_law_cell", "_law_head", "_law_many"]) (k := 2) (c := Y6) T.V4 zu λ cdv A outer s H E hr => ?_
 exact (by
  refine zj ?_ ?_; exact (by refine sv true 3 zu.nd ?_; exact (zQ (zap T hkd) (hr.mono (by omega)) rfl T.yL T.Wa.kp T.zaX yp (zc (av 0) (zc (zp (zq .Add) aI (zp (zq .Mult) aI (av 2))) zr (za rfl)) (za rfl)) (by decide) rfl rfl))
  refine zj ?_ ?_; exact (by refine sv true 4 zu.nd ?_; exact (zQ (zap T hkd) (hr.mono (by omega)) rfl T.yL T.Wa.kp T.zaX yp (zc (av 1) (zc aI zr (za rfl)) (za rfl)) (by decide) rfl rfl))
  refine zj ?_ ?_; exact (zlr (zQ (zgk T hkd) (hr.mono (by omega)) rfl T.vK T.zce.kp T.zgu yp (zc (ax hkd (av 3) aI) zr (za rfl)) (by decide) rfl rfl) (zbD rfl (xM (an 5 zu.nd) (xM (an 6 zu.nd) (xM (an 7 zu.nd) (xM (an 8 zu.nd) Vn rfl) rfl) rfl) rfl) rfl rfl) rfl rfl rfl)
  refine zj ?_ ?_; exact (by refine sv true 9 zu.nd ?_; exact (zp (zq .Add) (zp (zq .Add) aI (zp (zq .Mod) (ax hkd (av 4) aI) aI)) (zp (zq .Mult) aI (Zn Yr rfl T.zeg Bt.int (zc (zbj (yE (hkd _ rfl rfl rfl) (xr hr) .Eq) (zp (zq .Mod) (zp (zq .FloorDiv) (ax hkd (av 4) aI) aI) aI) aI (yH _)) zr (za rfl)) (Bt.n _ rfl) (by decide) rfl rfl))))
  refine zj ?_ ?_; exact (by refine sv true 10 zu.nd ?_; exact (zp (zq .Mult) (av 6) (av 8)))
  refine zj ?_ ?_; exact (by refine sv false 11 zu.nd ?_; exact (ziW rfl rfl T.yg rfl T.zlw (zc (av 10) zr (za rfl)) rfl rfl))
  refine zj ?_ ?_; exact (by refine sv false 12 zu.nd ?_; exact (vH yh))
  refine zj ?_ ?_; exact (yU PassesOwn.never rfl (yo rfl T.yg (zc (av 10) zr (za rfl)) rfl) (an 13 zu.nd) (zx (Z3 (Y0 wK X3 PySem.F.slot_list_append PySem.F.type_list_append (pv 12) (zF (Y0 zlS zjT PySem.F.slot_list_pop PySem.F.type_list_pop (pv 11) (zF (zp (zq .Mod) (ax hkd (av 4) (zp (zq .Add) aI (av 13))) (XX (Zg (hkd _ rfl rfl rfl)) rfl T.zcW Bt.len (zc (av 11) zr (za rfl)) (Bt.n _ rfl) (by decide) rfl rfl)) yh (za rfl)) rfl rfl rfl rfl rfl) yh (za rfl)) rfl rfl rfl rfl rfl) rfl)) (λ _ => rfl))
  refine zfg ?_
  refine zj ?_ ?_; exact (zaI (z := false) (i := 14) (N := ["_law_a", "_law_order"]) (cap := [none, some 12]) (S := [0]) zu.nd rfl (by exact Or.inl rfl) (by exact Or.inr rfl) rfl rfl (WY (av 12)) rfl (by change Zc _ vm _ (zA xN).names _ = true; decide +kernel) (by decide) (λ cl s H fp => (an 0 zbz)) (λ cl s H fp => xX) (λ cl s H fp => (Za (N := ["_law_b"]) (cap := [none]) (S := [0]) rfl (WY (av 1)) rfl (by with_unfolding_all rfl) (by decide) (λ cl s H fp => (an 0 zby)) (λ cl s H fp => xX) (λ cl s H fp => aI) (λ _ => rfl))) (λ _ => rfl))
  refine zj ?_ ?_; exact (yU PassesOwn.never rfl (yo rfl T.yg (zc (av 10) zr (za rfl)) rfl) (an 15 zu.nd) (zx (yU PassesOwn.never rfl (yo rfl T.yg (zc (av 10) zr (za rfl)) rfl) (an 16 zu.nd) (by
  refine zj ?_ ?_; exact (by refine sv true 17 zu.nd ?_; exact (zp (zq .Mult) (zQ (Wq T hkd) (hr.mono (by omega)) rfl T.zN T.ZP.kp T.Wn yp (by refine zc ?_ ?_ ?_; exact (av 5); refine zc ?_ ?_ ?_; exact (av 6); refine zc ?_ ?_ ?_; exact (zp (zq .FloorDiv) (av 15) (av 8)); refine zc ?_ ?_ ?_; exact (zp (zq .FloorDiv) (av 16) (av 8)); exact zr; exact za rfl; exact za rfl; exact za rfl; exact za rfl) (by decide) rfl rfl) (av 8)))
  refine zj ?_ ?_; exact (by refine sv true 17 zu.nd ?_; exact (zp (zq .Add) (av 17) (zQ (Wq T hkd) (hr.mono (by omega)) rfl T.zN T.ZP.kp T.Wn yp (by refine zc ?_ ?_ ?_; exact (av 7); refine zc ?_ ?_ ?_; exact (av 8); refine zc ?_ ?_ ?_; exact (zp (zq .Mod) (av 15) (av 8)); refine zc ?_ ?_ ?_; exact (zp (zq .Mod) (av 16) (av 8)); exact zr; exact za rfl; exact za rfl; exact za rfl; exact za rfl) (by decide) rfl rfl)))
  exact zx (zhV (pv 14) (zfK (pv 12) (zbs (pv 15)) (λ _ _ => rfl)) (λ _ _ => rfl) (zfK (pv 12) (zbs (pv 16)) (λ _ _ => rfl)) (zfK (pv 12) (zbs (pv 17)) (λ _ _ => rfl)) (λ _ => rfl) rfl rfl rfl)) (λ _ => rfl))) (λ _ => rfl))
  refine zj ?_ ?_; exact (by refine sv true 18 zu.nd ?_; exact (zQ (zgf T hkd) (hr.mono (by omega)) rfl T.vM T.zcd.kp T.zfP yp (zc (zp (zq .FloorDiv) (av 1) aI) (zc aI zr (za rfl)) (za rfl)) (by decide) rfl rfl))
  refine zj ?_ ?_; exact (by refine sv false 19 zu.nd ?_; exact (vH yh))
  refine zj ?_ ?_; exact (yU PassesOwn.never rfl (yo rfl T.yg (zc (av 2) zr (za rfl)) rfl) (an 13 zu.nd) (by
  refine zj ?_ ?_; exact (by refine sv true 20 zu.nd ?_; exact (zQ (V1 T hkd) (hr.mono (by omega)) rfl T.yM T.Xa.kp T.VL yp (by refine zc ?_ ?_ ?_; exact (av 5); refine zc ?_ ?_ ?_; exact (av 6); refine zc ?_ ?_ ?_; exact (av 9); refine zc ?_ ?_ ?_; exact (ax hkd (av 3) (zp (zq .Add) aI (zp (zq .Mult) aI (av 13)))); exact zr; exact za rfl; exact za rfl; exact za rfl; exact za rfl) (by decide) rfl rfl))
  refine zj ?_ ?_; exact (by refine sv true 21 zu.nd ?_; exact (zQ (V1 T hkd) (hr.mono (by omega)) rfl T.yM T.Xa.kp T.VL yp (by refine zc ?_ ?_ ?_; exact (av 7); refine zc ?_ ?_ ?_; exact (av 8); refine zc ?_ ?_ ?_; exact (av 9); refine zc ?_ ?_ ?_; exact (ax hkd (av 3) (zp (zq .Add) aI (zp (zq .Mult) aI (av 13)))); exact zr; exact za rfl; exact za rfl; exact za rfl; exact za rfl) (by decide) rfl rfl))
  refine zj ?_ ?_; exact (zaI (z := false) (i := 22) (N := ["_law_c", "_law_order"]) (cap := [none, some 12]) (S := [0]) zu.nd rfl (by exact Or.inl rfl) (by exact Or.inr rfl) rfl rfl (Zh rfl T.yg (zc (av 9) zr (za rfl)) rfl) rfl (by change Zc _ vm _ (zA xN).names _ = true; decide +kernel) (by decide) (λ cl s H fp => (an 0 zbg)) (λ cl s H fp => xX) (λ cl s H fp => (Za (N := ["_law_a"]) (cap := [none]) (S := [0]) rfl (WY (av 1)) rfl (by with_unfolding_all rfl) (by decide) (λ cl s H fp => (an 0 zbc)) (λ cl s H fp => xX) (λ cl s H fp => aI) (λ _ => rfl))) (λ _ => rfl))
  refine zj ?_ ?_; exact (yU PassesOwn.never rfl (yo rfl T.yg (zc (av 9) zr (za rfl)) rfl) (an 23 zu.nd) (zx (yU PassesOwn.never rfl (yo rfl T.yg (zc (av 10) zr (za rfl)) rfl) (an 15 zu.nd) (by
  refine zj ?_ ?_; exact (by refine sv true 17 zu.nd ?_; exact (ax hkd (ax hkd (av 20) (av 23)) (zp (zq .FloorDiv) (av 15) (av 8))))
  refine zj ?_ ?_; exact (by refine sv true 17 zu.nd ?_; exact (zp (zq .Add) (zp (zq .Mult) (av 17) (av 8)) (ax hkd (ax hkd (av 21) (av 23)) (zp (zq .Mod) (av 15) (av 8)))))
  exact zx (zhV (pv 22) (zbs (pv 23)) (λ _ _ => rfl) (zfK (pv 12) (zbs (pv 15)) (λ _ _ => rfl)) (zfK (pv 12) (zbs (pv 17)) (λ _ _ => rfl)) (λ _ => rfl) rfl rfl rfl)) (λ _ => rfl))) (λ _ => rfl))
  exact zx (Z3 (Y0 wK X3 PySem.F.slot_list_append PySem.F.type_list_append (pv 19) (by refine zF ?_ ?_ ?_; exact (Yl (zF (ax hkd (av 18) (av 13)) (zF (av 22) yh (za rfl)) (za rfl))); exact yh; exact za rfl) rfl rfl rfl rfl rfl) rfl)) (λ _ => rfl))
  refine zj ?_ ?_; exact (by refine sv false 24 zu.nd ?_; exact (vH yh))
  refine zj ?_ ?_; exact (yU PassesOwn.never rfl (yo rfl T.yg (zc aI zr (za rfl)) rfl) (an 13 zu.nd) (by
  refine zj ?_ ?_; exact (by refine sv true 25 zu.nd ?_; exact (ax hkd (av 4) (zp (zq .Add) aI (av 13))))
  refine zj ?_ ?_; exact (zaI (z := true) (i := 26) (N := ["_law_a", "_law_bits"]) (cap := [none, some 25]) (S := [0]) zu.nd rfl (by exact Or.inl rfl) (by exact Or.inr rfl) rfl rfl (Zh rfl T.yg (zc (av 10) zr (za rfl)) rfl) rfl (by change Zc _ vm _ (zA xN).names _ = true; decide +kernel) (by decide) (λ cl s H fp => (an 0 zbB)) (λ cl s H fp => (znA (yV (yE (hkd _ rfl rfl rfl) (xr hr) .Eq) (yD .Eq) (zp (zq .Mod) (zp (zq .FloorDiv) (av 1) (zp zmj aI (av 0))) aI) aI (yH _)))) (λ cl s H fp => (av 0)) (λ _ => rfl))
  exact zx (Z3 (Y0 wK X3 PySem.F.slot_list_append PySem.F.type_list_append (pv 24) (by refine zF ?_ ?_ ?_; exact (Yl (zF (ax hkd (av 18) (zp (zq .Add) (av 13) (zp (zq .Mult) aI (zp (zq .Mod) (zp (zq .FloorDiv) (av 25) aI) aI)))) (zF (av 26) yh (za rfl)) (za rfl))); exact yh; exact za rfl) rfl rfl rfl rfl rfl) rfl)) (λ _ => rfl))
  refine zj ?_ ?_; exact (by refine sv true 27 zu.nd ?_; exact (ax hkd (av 12) (ax hkd (vH (zF aI (zF (av 8) yh (za rfl)) (za rfl))) (Zn Yr rfl T.zeg Bt.int (zc (zbj (yE (hkd _ rfl rfl rfl) (xr hr) .Eq) (av 5) aI (yH _)) zr (za rfl)) (Bt.n _ rfl) (by decide) rfl rfl))))
  exact zx (yf (Yl (by refine zF ?_ ?_ ?_; exact (av 10); refine zF ?_ ?_ ?_; exact (av 9); refine zF ?_ ?_ ?_; exact (av 14); refine zF ?_ ?_ ?_; exact (av 27); refine zF ?_ ?_ ?_; exact (av 19); refine zF ?_ ?_ ?_; exact (zaP (av 24) zcC (zal (zp (zq .Mod) (ax hkd (av 4) aI) aI))); exact yh; exact za rfl; exact za rfl; exact za rfl; exact za rfl; exact za rfl; exact za rfl))))
theorem xm (T : Txt K kd mg t) (hkd : KD1 P w K kd) : FnOk P w K mg base CX0 1 t.Z9 t.Yn ["_law_algebra_here", "_law_row"] (spD K kd zy) := by
 refine xW (N := W6) (ps := ["_law_algebra_here", "_law_row"]) (k := 0) (c := Ve) T.yN vD λ cdv A outer s H E hr => ?_
 exact (by
  refine zj ?_ ?_; exact (by refine sv true 2 vD.nd ?_; exact (ax hkd (av 0) aI))
  refine zj ?_ ?_; exact (yU PassesOwn.never rfl (zha (av 1)) (an 3 vD.nd) (zx (by refine sv true 2 vD.nd ?_; exact (ax hkd (ax hkd (ax hkd (av 0) aI) (av 2)) (av 3)))) (λ _ => rfl))
  exact zx (yf (av 2)))
theorem zhs (T : Txt K kd mg t) (hkd : KD1 P w K kd) : FnOk P w K mg base CX0 1 t.zab t.zag ["_law_algebra_here", "_law_deeds", "_law_row"] (spD K kd Zi) := by
 refine xW (N := zaf) (ps := ["_law_algebra_here", "_law_deeds", "_law_row"]) (k := 0) (c := zdo) T.zcX WP λ cdv A outer s H E hr => ?_
 exact (by
  refine zj ?_ ?_; exact (yU PassesOwn.never rfl (zha (av 1)) (an 3 WP.nd) (zx (zaI (z := true) (i := 2) (N := ["_law_a", "_law_rows", "_law_algebra_here"]) (cap := [none, some 3, some 0]) (S := [0]) WP.nd rfl (by exact Or.inl rfl) (by exact Or.inr rfl) rfl rfl (WY (av 2)) rfl (by change Zc _ zaf _ (zA Yb).names _ = true; decide +kernel) (by decide) (λ cl s H fp => (an 0 zdL)) (λ cl s H fp => xX) (λ cl s H fp => (ax hkd (ax hkd (av 1) (zp (zq .Mod) aI (ax hkd (av 2) aI))) (av 0))) (λ _ => rfl))) (λ _ => rfl))
  exact zx (yf (av 2)))
theorem zco (T : Txt K kd mg t) (hkd : KD1 P w K kd) (c : Str) : FnOk P w K mg base CX0 5 t.ZS t.ZR ["self", "algebra"] (spI K kd c (vC c)) := by
 refine zpK (N := vq) (ps := ["self", "algebra"]) (k := 4) (b := ZM) T.zcf zbm (by decide) λ cdv A outer s H E hr => ?_
 exact (Xo (znK (zQ (zdp T hkd) (hr.mono (by omega)) rfl T.xU T.Vd.kp T.zdD yp (zc (av 1) zr (za rfl)) (by decide) rfl rfl) rfl) (Xo (Vp (zlT T) (pv 0) (ax hkd (av 1) aI) rfl) (Xo (Vp (zdw T) (pv 0) (ax hkd (av 1) aI) rfl) (Xo (Vp (zhX T) (pv 0) (zQ (zkk T hkd) (hr.mono (by omega)) rfl T.Vl T.zhH.kp T.zkX yp (zc (ax hkd (av 1) aI) zr (za rfl)) (by decide) rfl rfl) rfl) (Xo (Vp (zjb T) (pv 0) (ax hkd (av 1) aI) rfl) (Xo (Vp (zhP T) (pv 0) (Zn (zdu rfl (hkd _ rfl rfl rfl)) rfl T.zkU Bt.dict (zc (Za (N := ["name", "rows"]) (cap := [none, none]) (S := [0, 1]) rfl (WY (ax hkd (av 1) aI)) rfl (by change Zc _ vq _ (zA xu).names _ = true; decide +kernel) (by decide) (λ cl s H fp => (zbD rfl (xM (an 0 Yj) (xM (an 1 Yj) Vn rfl) rfl) rfl rfl)) (λ cl s H fp => xX) (λ cl s H fp => (Yl (zF (av 0) (zF (zQ (zkk T hkd) (hr.mono (by omega)) rfl T.Vl T.zhH.kp T.zkX yp (zc (av 1) zr (za rfl)) (by decide) rfl rfl) yh (za rfl)) (za rfl)))) (λ _ => rfl)) zr (za rfl)) (Bt.n _ rfl) (by decide) rfl rfl) rfl) (znG (Vp (zjx T) (pv 0) (Zn (zdu rfl (hkd _ rfl rfl rfl)) rfl T.zkU Bt.dict (zc (Za (N := ["name", "values"]) (cap := [none, none]) (S := [0, 1]) rfl (WY (ax hkd (av 1) aI)) rfl (by change Zc _ vq _ (zA xu).names _ = true; decide +kernel) (by decide) (λ cl s H fp => (zbD rfl (xM (an 0 Ym) (xM (an 1 Ym) Vn rfl) rfl) rfl rfl)) (λ cl s H fp => xX) (λ cl s H fp => (Yl (zF (av 0) (zF (Zn Xu rfl T.Vz Bt.tuple (zc (av 1) zr (za rfl)) (Bt.n _ rfl) (by decide) rfl rfl) yh (za rfl)) (za rfl)))) (λ _ => rfl)) zr (za rfl)) (Bt.n _ rfl) (by decide) rfl rfl) rfl))))))))
theorem zgj (T : Txt K kd mg t) (hkd : KD1 P w K kd) : FnOk P w K mg base CX0 1 t.W8 t.WX ["self"] (spD K kd Vk) := by
 refine xW (N := zbM) (ps := ["self"]) (k := 0) (c := zbV) T.zgr zeS λ cdv A outer s H E hr => ?_
 exact (zx (yf (zp (zq .Mult) (Yl (zF (zjv rfl rfl T.yg rfl T.Vz (zc (zdF (zlT T) (av 0) rfl) zr (za rfl)) rfl rfl) yh (za rfl))) (zdF (zdw T) (av 0) rfl))))
theorem zgt (T : Txt K kd mg t) (hkd : KD1 P w K kd) : FnOk P w K mg base CX0 1 t.WQ t.W9 ["self", "wait", "value", "many"] (spD K kd WK) := by
 refine xW (N := zbH) (ps := ["self", "wait", "value", "many"]) (k := 0) (c := zbG) T.zgy zeW λ cdv A outer s H E hr => ?_
 exact (zx (yf (ax hkd (ax hkd (av 1) (zp (zq .Mod) (av 3) (zdF (zdw T) (av 0) rfl))) (av 2))))
theorem zdQ (T : Txt K kd mg t) (hkd : KD1 P w K kd) : FnOk P w K mg base CX0 1 t.Xe t.Y7 ["self", "one", "other"] (spD K kd Xc) := by
 refine xW (N := YM) (ps := ["self", "one", "other"]) (k := 0) (c := VM) T.zdU zcS λ cdv A outer s H E hr => ?_
 exact (zx (yf (Zn Xu rfl T.Vz Bt.tuple (zc (Za (N := ["row", "then"]) (cap := [none, none]) (S := [0, 1]) rfl (zmt rfl T.zqO (zc (av 1) (zc (av 2) zr (za rfl)) (za rfl)) rfl rfl) rfl (by change Zc _ YM _ (zA wZ).names _ = true; decide +kernel) (by decide) (λ cl s H fp => (zbD rfl (xM (an 0 Xk) (xM (an 1 Xk) Vn rfl) rfl) rfl rfl)) (λ cl s H fp => xX) (λ cl s H fp => (Zn Xu rfl T.Vz Bt.tuple (zc (Za (N := ["a", "then"]) (cap := [none, some 1]) (S := [0]) rfl (WY (av 0)) rfl (by with_unfolding_all rfl) (by decide) (λ cl s H fp => (an 0 zbE)) (λ cl s H fp => xX) (λ cl s H fp => (ax hkd (av 1) (av 0))) (λ _ => rfl)) zr (za rfl)) (Bt.n _ rfl) (by decide) rfl rfl)) (λ _ => rfl)) zr (za rfl)) (Bt.n _ rfl) (by decide) rfl rfl)))
theorem zdI (T : Txt K kd mg t) (hkd : KD1 P w K kd) : FnOk P w K mg base CX0 1 t.Ye t.Yo ["self", "deed"] (spD K kd Yp) := by
 refine xW (N := W7) (ps := ["self", "deed"]) (k := 0) (c := Vc) T.zcP zcl λ cdv A outer s H E hr => ?_
 exact (zx (yf (ax hkd (zdF (zhP T) (av 0) rfl) (av 1))))
theorem zfY (T : Txt K kd mg t) (hkd : KD1 P w K kd) : FnOk P w K mg base CX0 1 t.W3 t.Wz ["self", "one", "other"] (spD K kd Vf) := by
 refine xW (N := zbW) (ps := ["self", "one", "other"]) (k := 0) (c := zbK) T.zfZ zeG λ cdv A outer s H E hr => ?_
 exact (zx (yf (ax hkd (ax hkd (zdF (zhX T) (av 0) rfl) (av 1)) (av 2))))
theorem zoy (T : Txt K kd mg t) (hkd : KD1 P w K kd) : MT P w K mg base kd "idle" 1 ziB := (zcT T.v7 T.zgL (zgj T hkd) (by decide) T.zfR zcH)
theorem zjZ (T : Txt K kd mg t) (hkd : KD1 P w K kd) : MT P w K mg base kd "behind" 1 Vo := (zcT T.v7 T.zdV (zdQ T hkd) (by decide) T.zdM zcH)
theorem ziY (T : Txt K kd mg t) (hkd : KD1 P w K kd) : MT P w K mg base kd "wait_of" 1 X6 := (zcT T.v7 T.zdC (zdI T hkd) (by decide) T.zcR zcH)
theorem zfk (T : Txt K kd mg t) (hkd : KD1 P w K kd) : MT P w K mg base kd "made" 1 vU := (zcT T.v7 T.zgN (zgt T hkd) (by decide) T.zfM zcH)
theorem zoS (T : Txt K kd mg t) (hkd : KD1 P w K kd) : MT P w K mg base kd "join" 1 zcv := (zcT T.v7 T.zgQ (zfY T hkd) (by decide) T.zfS zcH)
theorem o_law (T : Txt K kd mg t) (hkd : KD1 P w K kd) : FnOk P w K mg base CX0 7 t.zkP t.zlH ["_law_script"] (spD K kd zdH) := by
 refine xW (N := znV) (ps := ["_law_script"]) (k := 6) (c := znS) T.zrh wB λ cdv A outer s H E hr => ?_
 exact (by
  refine zj ?_ ?_; exact (by refine sv true 1 wB.nd ?_; exact (zQ (zdP T hkd) (hr.mono (by omega)) rfl T.vg T.V4.kp T.zdN yp (by refine zc ?_ ?_ ?_; exact (zQ (xQ T hkd) (hr.mono (by omega)) rfl T.zK T.yX.kp T.xO yp (zc (av 0) (zc aI zr (za rfl)) (za rfl)) (by decide) rfl rfl); refine zc ?_ ?_ ?_; exact (zQ (xQ T hkd) (hr.mono (by omega)) rfl T.zK T.yX.kp T.xO yp (zc (av 0) (zc aI zr (za rfl)) (za rfl)) (by decide) rfl rfl); refine zc ?_ ?_ ?_; exact (zp (zq .Add) aI (zp (zq .Mod) (zQ (xQ T hkd) (hr.mono (by omega)) rfl T.zK T.yX.kp T.xO yp (zc (av 0) (zc aI zr (za rfl)) (za rfl)) (by decide) rfl rfl) aI)); exact zr; exact za rfl; exact za rfl; exact za rfl) (by decide) rfl rfl))
  refine zj ?_ ?_; exact (by refine sv true 2 wB.nd ?_; exact (zmO T.v7.eq (T.v7.mk' T.zck) (zco T hkd "Ways") (hr.mono (by omega)) rfl T.v7.mg T.zcp yp (zc (av 1) zr (za rfl)) (by decide) rfl rfl))
  refine zj ?_ ?_; exact (by refine sv false 3 wB.nd ?_; exact (vH yh))
  refine zj ?_ ?_; exact (yU PassesOwn.never rfl (yo rfl T.yg (zc (zp (zq .Mod) (zp (zq .FloorDiv) (zQ (xQ T hkd) (hr.mono (by omega)) rfl T.zK T.yX.kp T.xO yp (zc (av 0) (zc aI zr (za rfl)) (za rfl)) (by decide) rfl rfl) aI) aI) zr (za rfl)) rfl) (an 4 wB.nd) (zx (Z3 (Y0 wK X3 PySem.F.slot_list_append PySem.F.type_list_append (pv 3) (zF (zp (zq .Mod) (zQ (YC T hkd) (hr.mono (by omega)) rfl T.zZ T.Zy.kp T.YH yp (zc (zQ (xQ T hkd) (hr.mono (by omega)) rfl T.zK T.yX.kp T.xO yp (zc (av 0) (zc (zp (zq .Add) aI (av 4)) zr (za rfl)) (za rfl)) (by decide) rfl rfl) (zc (zp (zq .Add) (av 4) aI) zr (za rfl)) (za rfl)) (by decide) rfl rfl) (ax hkd (av 1) aI)) yh (za rfl)) rfl rfl rfl rfl rfl) rfl)) (λ _ => rfl))
  refine zfg ?_
  refine zj ?_ ?_; exact (by refine sv true 5 wB.nd ?_; exact (zmU (zoy T hkd) (hr.mono (by omega)) yp (av 2) rfl))
  refine zj ?_ ?_; exact (by refine sv false 6 wB.nd ?_; exact (vH yh))
  refine zj ?_ ?_; exact (yU PassesOwn.never rfl (yo rfl T.yg (zc (zp (zq .Mod) (zQ (xQ T hkd) (hr.mono (by omega)) rfl T.zK T.yX.kp T.xO yp (zc (av 0) (zc aI zr (za rfl)) (za rfl)) (by decide) rfl rfl) aI) zr (za rfl)) rfl) (an 4 wB.nd) (by
  refine zj ?_ ?_; exact (zlr (ax hkd (ax hkd (av 1) aI) (zp (zq .Mod) (zQ (YC T hkd) (hr.mono (by omega)) rfl T.zZ T.Zy.kp T.YH yp (zc (zQ (xQ T hkd) (hr.mono (by omega)) rfl T.zK T.yX.kp T.xO yp (zc (av 0) (zc (zp (zq .Add) aI (av 4)) zr (za rfl)) (za rfl)) (by decide) rfl rfl) (zc (zp (zq .Add) (av 4) aI) zr (za rfl)) (za rfl)) (by decide) rfl rfl) (XX (Zg (hkd _ rfl rfl rfl)) rfl T.zcW Bt.len (zc (ax hkd (av 1) aI) zr (za rfl)) (Bt.n _ rfl) (by decide) rfl rfl))) (zbD rfl (xM (an 7 wB.nd) (xM (an 8 wB.nd) Vn rfl) rfl) rfl rfl) rfl rfl rfl)
  refine zj ?_ ?_; exact (by refine sv true 5 wB.nd ?_; exact (V6 (zjZ T hkd) (hr.mono (by omega)) yp (av 2) (zc (av 5) (zc (V6 (ziY T hkd) (hr.mono (by omega)) yp (av 2) (zc (av 7) zr (za rfl)) rfl rfl rfl) zr (za rfl)) (za rfl)) rfl rfl rfl))
  exact zx (Z3 (Y0 wK X3 PySem.F.slot_list_append PySem.F.type_list_append (pv 6) (zF (av 8) yh (za rfl)) rfl rfl rfl rfl rfl) rfl)) (λ _ => rfl))
  refine zfg ?_
  refine zj ?_ ?_; exact (by refine sv true 9 wB.nd ?_; exact (zQ (zhs T hkd) (hr.mono (by omega)) rfl T.Zi T.zcX.kp T.zgZ yp (by refine zc ?_ ?_ ?_; exact (av 1); refine zc ?_ ?_ ?_; exact (av 6); refine zc ?_ ?_ ?_; exact (av 3); exact zr; exact za rfl; exact za rfl; exact za rfl) (by decide) rfl rfl))
  refine zj ?_ ?_; exact (by refine sv true 10 wB.nd ?_; exact (zQ (xm T hkd) (hr.mono (by omega)) rfl T.zy T.yN.kp T.xj yp (zc (av 1) (zc (av 9) zr (za rfl)) (za rfl)) (by decide) rfl rfl))
  refine zj ?_ ?_; exact (by refine sv true 11 wB.nd ?_; exact (V6 (zfk T hkd) (hr.mono (by omega)) yp (av 2) (by refine zc ?_ ?_ ?_; exact (av 5); refine zc ?_ ?_ ?_; exact (zQ (xm T hkd) (hr.mono (by omega)) rfl T.zy T.yN.kp T.xj yp (zc (av 1) (zc (av 3) zr (za rfl)) (za rfl)) (by decide) rfl rfl); refine zc ?_ ?_ ?_; exact (XX (Zg (hkd _ rfl rfl rfl)) rfl T.zcW Bt.len (zc (av 3) zr (za rfl)) (Bt.n _ rfl) (by decide) rfl rfl); exact zr; exact za rfl; exact za rfl; exact za rfl) rfl rfl rfl))
  refine zj ?_ ?_; exact (vI (AW.at_ (zkF (zpx (zpN (zQ (zga T hkd) (hr.mono (by omega)) rfl T.vL T.zbZ.kp T.zgw yp (zc (av 11) zr (za rfl)) (by decide) rfl rfl) (λ _ => rfl))) (zbl (yV (yE (hkd _ rfl rfl rfl) (xr hr) .NotEq) (yD .NotEq) (av 11) (av 10) (yH _))))) (zx (yf aB)) yW)
  refine zj ?_ ?_; exact (yU PassesOwn.never rfl (yo rfl T.yg (zc (zp (zq .Add) (XX (Zg (hkd _ rfl rfl rfl)) rfl T.zcW Bt.len (zc (av 3) zr (za rfl)) (Bt.n _ rfl) (by decide) rfl rfl) aI) zr (za rfl)) rfl) (an 12 wB.nd) (by
  refine zj ?_ ?_; exact (by refine sv true 13 wB.nd ?_; exact (V6 (zfk T hkd) (hr.mono (by omega)) yp (av 2) (by refine zc ?_ ?_ ?_; exact (av 5); refine zc ?_ ?_ ?_; exact (zQ (xm T hkd) (hr.mono (by omega)) rfl T.zy T.yN.kp T.xj yp (zc (av 1) (zc (zaP (av 3) zcC (zal (av 12))) zr (za rfl)) (za rfl)) (by decide) rfl rfl); refine zc ?_ ?_ ?_; exact (av 12); exact zr; exact za rfl; exact za rfl; exact za rfl) rfl rfl rfl))
  refine zj ?_ ?_; exact (by refine sv true 14 wB.nd ?_; exact (V6 (zfk T hkd) (hr.mono (by omega)) yp (av 2) (by refine zc ?_ ?_ ?_; exact (av 5); refine zc ?_ ?_ ?_; exact (zQ (xm T hkd) (hr.mono (by omega)) rfl T.zy T.yN.kp T.xj yp (zc (av 1) (zc (zaP (av 3) (zal (av 12)) zcC) zr (za rfl)) (za rfl)) (by decide) rfl rfl); refine zc ?_ ?_ ?_; exact (zp (zq .Sub) (XX (Zg (hkd _ rfl rfl rfl)) rfl T.zcW Bt.len (zc (av 3) zr (za rfl)) (Bt.n _ rfl) (by decide) rfl rfl) (av 12)); exact zr; exact za rfl; exact za rfl; exact za rfl) rfl rfl rfl))
  exact zx (vI (AW.at_ (zkF (yV (yE (hkd _ rfl rfl rfl) (xr hr) .NotEq) (yD .NotEq) (V6 (zoS T hkd) (hr.mono (by omega)) yp (av 2) (zc (av 13) (zc (av 14) zr (za rfl)) (za rfl)) rfl rfl rfl) (av 10) (yH _)) (zbl (yV (yE (hkd _ rfl rfl rfl) (xr hr) .NotEq) (yD .NotEq) (av 13) (zQ (xm T hkd) (hr.mono (by omega)) rfl T.zy T.yN.kp T.xj yp (zc (av 1) (zc (zaP (av 9) zcC (zal (av 12))) zr (za rfl)) (za rfl)) (by decide) rfl rfl) (yH _))))) (zx (yf aB)) yW)) (λ _ => rfl))
  refine zj ?_ ?_; exact (by refine sv true 15 wB.nd ?_; exact (V6 (zfk T hkd) (hr.mono (by omega)) yp (av 2) (by refine zc ?_ ?_ ?_; exact (av 5); refine zc ?_ ?_ ?_; exact (zQ (xm T hkd) (hr.mono (by omega)) rfl T.zy T.yN.kp T.xj yp (zc (av 1) (zc (zkf (av 3) (znR zqX aI)) zr (za rfl)) (za rfl)) (by decide) rfl rfl); refine zc ?_ ?_ ?_; exact (XX (Zg (hkd _ rfl rfl rfl)) rfl T.zcW Bt.len (zc (av 3) zr (za rfl)) (Bt.n _ rfl) (by decide) rfl rfl); exact zr; exact za rfl; exact za rfl; exact za rfl) rfl rfl rfl))
  exact zx (yf (zbj (yE (hkd _ rfl rfl rfl) (xr hr) .Eq) (av 15) (zQ (xm T hkd) (hr.mono (by omega)) rfl T.zy T.yN.kp T.xj yp (zc (av 1) (zc (zkf (av 9) (znR zqX aI)) zr (za rfl)) (za rfl)) (by decide) rfl rfl) (yH _))))
end
abbrev NsR (K : zC) (x : Str) (f : Addr) : Prop := PySem.W.nsIn K mainGlobals x = some (some (.ref f))
abbrev FnAt (K : zC) (x q : Str) (s : Stmt) (f : Addr) : Prop := ∃ d, Fun K x q s f d
theorem zob {l : PySem.W.OpenLaw} {w : World} {K : zC} {h : Heap} {mg : Str -> Option Value} {fa : Addr} (X : K.In h) (G : h.Ns mainGlobals mg) (hfa : mg "law" = some (.ref fa))
 {f0 f1 f2 f3 f4 f5 f6 f7 f8 f9 f10 f11 f12 f13 f14 f15 f16 f17 f18 f19 f20 f21 f22 f23 f24 f25 f26 C0 : Addr}
 (aC0 : PySem.W.nsIn K mainGlobals "Ways" = some (some (.ref C0)))
 (e0 : PySem.W.findIn K (.ref C0) "__init__" = some (some (.ref f20))) (ei0 : PySem.W.isFn K (.ref f20) = true) (ek0 : PySem.W.keepIn K (.ref f20) = true)
 (e1 : PySem.W.findIn K (.ref C0) "idle" = some (some (.ref f21))) (ei1 : PySem.W.isFn K (.ref f21) = true) (ek1 : PySem.W.keepIn K (.ref f21) = true)
 (e2 : PySem.W.findIn K (.ref C0) "behind" = some (some (.ref f23))) (ei2 : PySem.W.isFn K (.ref f23) = true) (ek2 : PySem.W.keepIn K (.ref f23) = true)
 (e3 : PySem.W.findIn K (.ref C0) "wait_of" = some (some (.ref f24))) (ei3 : PySem.W.isFn K (.ref f24) = true) (ek3 : PySem.W.keepIn K (.ref f24) = true)
 (e4 : PySem.W.findIn K (.ref C0) "made" = some (some (.ref f22))) (ei4 : PySem.W.isFn K (.ref f22) = true) (ek4 : PySem.W.keepIn K (.ref f22) = true)
 (e5 : PySem.W.findIn K (.ref C0) "join" = some (some (.ref f25))) (ei5 : PySem.W.isFn K (.ref f25) = true) (ek5 : PySem.W.keepIn K (.ref f25) = true)
 (pg0 : PySem.W.plainGet K C0 Str.empty = true) (hd0 : PySem.W.hasDictIn K C0 = true) (po0 : PySem.W.plainOver K C0 = true) (sa0 : PySem.W.findIn K (.ref C0) "__setattr__" = some (some (.builtin "object.__setattr__"))) (mk0 : PySem.W.makesIn K C0 = true) (kc0 : PySem.W.keepIn K (.ref C0) = true)
 (na0 : PySem.W.findIn K (.ref C0) "size" = some none)
 (na1 : PySem.W.findIn K (.ref C0) "around" = some none)
 (na2 : PySem.W.findIn K (.ref C0) "table" = some none)
 (na3 : PySem.W.findIn K (.ref C0) "neutral" = some none)
 (na4 : PySem.W.findIn K (.ref C0) "waits" = some none)
 (na5 : PySem.W.findIn K (.ref C0) "holders" = some none)
 (a0 : NsR K "nothing_fails" f0) (l0 : FnAt K "nothing_fails" "nothing_fails" vA f0)
 (a1 : NsR K "parting_fails" f1) (l1 : FnAt K "parting_fails" "parting_fails" vB f1)
 (a2 : NsR K "doing_fails" f2) (l2 : FnAt K "doing_fails" "doing_fails" Zr f2)
 (a3 : NsR K "deeds_fail" f3) (l3 : FnAt K "deeds_fail" "deeds_fail" Z2 f3)
 (a4 : NsR K "what_fails" f4) (l4 : FnAt K "what_fails" "what_fails" Z4 f4)
 (a5 : NsR K "check_let_by" f5) (l5 : FnAt K "check_let_by" "check_let_by" vO f5)
 (a6 : NsR K "firm" f6) (l6 : FnAt K "firm" "firm" zdq f6)
 (a7 : NsR K "_law_cell_at" f7) (l7 : FnAt K "_law_cell_at" "_law_cell_at" Zu f7)
 (a8 : NsR K "_law_mixed" f8) (l8 : FnAt K "_law_mixed" "_law_mixed" YD f8)
 (a9 : NsR K "_law_whole" f9) (l9 : FnAt K "_law_whole" "_law_whole" YJ f9)
 (a10 : NsR K "_law_words" f10) (l10 : FnAt K "_law_words" "_law_words" Zx f10)
 (a11 : NsR K "_law_common" f11) (l11 : FnAt K "_law_common" "_law_common" Z0 f11)
 (a12 : NsR K "_law_joined_by" f12) (l12 : FnAt K "_law_joined_by" "_law_joined_by" vz f12)
 (a13 : NsR K "_law_images" f13) (l13 : FnAt K "_law_images" "_law_images" vP f13)
 (a14 : NsR K "_law_done_by" f14) (l14 : FnAt K "_law_done_by" "_law_done_by" wz f14)
 (a15 : NsR K "_law_kinds" f15) (l15 : FnAt K "_law_kinds" "_law_kinds" YL f15)
 (a16 : NsR K "_law_stream" f16) (l16 : FnAt K "_law_stream" "_law_stream" Z5 f16)
 (a17 : NsR K "_law_algebra" f17) (l17 : FnAt K "_law_algebra" "_law_algebra" xN f17)
 (a18 : NsR K "_law_whole_of" f18) (l18 : FnAt K "_law_whole_of" "_law_whole_of" vY f18)
 (a19 : NsR K "_law_done" f19) (l19 : FnAt K "_law_done" "_law_done" Yb f19)
 (l20 : FnAt K "__init__" "Ways.__init__" xu f20)
 (l21 : FnAt K "idle" "Ways.idle" YK f21)
 (l22 : FnAt K "made" "Ways.made" YB f22)
 (l23 : FnAt K "behind" "Ways.behind" wZ f23)
 (l24 : FnAt K "wait_of" "Ways.wait_of" vX f24)
 (l25 : FnAt K "join" "Ways.join" YG f25)
 (a26 : NsR K "law" f26) (l26 : FnAt K "law" "law" ziG f26)
 (z0 : PySem.W.nsIn K mainGlobals "bool" = some none) (z1 : PySem.W.nsIn K mainGlobals "dict" = some none) (z2 : PySem.W.nsIn K mainGlobals "int" = some none) (z3 : PySem.W.nsIn K mainGlobals "isinstance" = some none) (z4 : PySem.W.nsIn K mainGlobals "len" = some none) (z5 : PySem.W.nsIn K mainGlobals "list" = some none) (z6 : PySem.W.nsIn K mainGlobals "max" = some none) (z7 : PySem.W.nsIn K mainGlobals "range" = some none) (z8 : PySem.W.nsIn K mainGlobals "sorted" = some none) (z9 : PySem.W.nsIn K mainGlobals "tuple" = some none) (z10 : PySem.W.nsIn K mainGlobals "zip" = some none) :
 ∃ fd : FuncData, (∀ (s : Shared) (v : Value), BindsTo s fd ⟨[v], []⟩ [("_law_script", v)]) /\ ∀ base : Heap, K.In base -> base.Ns mainGlobals mg -> FnOk l.prog w K mg base CX0 7 fa fd ["_law_script"] (spL K zdH) := by
 have e := hfa.symm.trans (PySem.W.mg_of X G a26)
 cases e
 obtain ⟨_, F0⟩ := l0
 have b0 := F0.binds (ps := ["algebra"]) λ _ _ _ _ _ _ => l1_ λ _ => rfl
 obtain ⟨_, F1⟩ := l1
 have b1 := F1.binds (ps := ["algebra"]) λ _ _ _ _ _ _ => l1_ λ _ => rfl
 obtain ⟨_, F2⟩ := l2
 have b2 := F2.binds (ps := ["algebra", "name", "rows"]) λ _ _ _ _ _ _ => l3_ λ _ _ _ => rfl
 obtain ⟨_, F3⟩ := l3
 have b3 := F3.binds (ps := ["algebra"]) λ _ _ _ _ _ _ => l1_ λ _ => rfl
 obtain ⟨_, F4⟩ := l4
 have b4 := F4.binds (ps := ["algebra"]) λ _ _ _ _ _ _ => l1_ λ _ => rfl
 obtain ⟨_, F5⟩ := l5
 have b5 := F5.binds (ps := ["algebra"]) λ _ _ _ _ _ _ => l1_ λ _ => rfl
 obtain ⟨_, F6⟩ := l6
 have b6 := F6.binds (ps := ["rows"]) λ _ _ _ _ _ _ => l1_ λ _ => rfl
 obtain ⟨_, F7⟩ := l7
 have b7 := F7.binds (ps := ["_law_script", "_law_k"]) λ _ _ _ _ _ _ => l2_ λ _ _ => rfl
 obtain ⟨_, F8⟩ := l8
 have b8 := F8.binds (ps := ["_law_cell", "_law_k"]) λ _ _ _ _ _ _ => l2_ λ _ _ => rfl
 obtain ⟨_, F9⟩ := l9
 have b9 := F9.binds (ps := ["_law_found"]) λ _ _ _ _ _ _ => l1_ λ _ => rfl
 obtain ⟨_, F10⟩ := l10
 have b10 := F10.binds (ps := ["_law_cell", "_law_many"]) λ _ _ _ _ _ _ => l2_ λ _ _ => rfl
 obtain ⟨_, F11⟩ := l11
 have b11 := F11.binds (ps := ["_law_n", "_law_m"]) λ _ _ _ _ _ _ => l2_ λ _ _ => rfl
 obtain ⟨_, F12⟩ := l12
 have b12 := F12.binds (ps := ["_law_kind", "_law_n", "_law_a", "_law_b"]) λ _ _ _ _ _ _ => l4_ λ _ _ _ _ => rfl
 obtain ⟨_, F13⟩ := l13
 have b13 := F13.binds (ps := ["_law_kind", "_law_n", "_law_x"]) λ _ _ _ _ _ _ => l3_ λ _ _ _ => rfl
 obtain ⟨_, F14⟩ := l14
 have b14 := F14.binds (ps := ["_law_kind", "_law_n", "_law_m", "_law_x"]) λ _ _ _ _ _ _ => l4_ λ _ _ _ _ => rfl
 obtain ⟨_, F15⟩ := l15
 have b15 := F15.binds (ps := ["_law_x"]) λ _ _ _ _ _ _ => l1_ λ _ => rfl
 obtain ⟨_, F16⟩ := l16
 have b16 := F16.binds (ps := ["_law_cell", "_law_many"]) λ _ _ _ _ _ _ => l2_ λ _ _ => rfl
 obtain ⟨_, F17⟩ := l17
 have b17 := F17.binds (ps := ["_law_cell", "_law_head", "_law_many"]) λ _ _ _ _ _ _ => l3_ λ _ _ _ => rfl
 obtain ⟨_, F18⟩ := l18
 have b18 := F18.binds (ps := ["_law_algebra_here", "_law_row"]) λ _ _ _ _ _ _ => l2_ λ _ _ => rfl
 obtain ⟨_, F19⟩ := l19
 have b19 := F19.binds (ps := ["_law_algebra_here", "_law_deeds", "_law_row"]) λ _ _ _ _ _ _ => l3_ λ _ _ _ => rfl
 obtain ⟨_, F20⟩ := l20
 have b20 := F20.binds (ps := ["self", "algebra"]) λ _ _ _ _ _ _ => l2_ λ _ _ => rfl
 obtain ⟨_, F21⟩ := l21
 have b21 := F21.binds (ps := ["self"]) λ _ _ _ _ _ _ => l1_ λ _ => rfl
 obtain ⟨_, F22⟩ := l22
 have b22 := F22.binds (ps := ["self", "wait", "value", "many"]) λ _ _ _ _ _ _ => l4_ λ _ _ _ _ => rfl
 obtain ⟨_, F23⟩ := l23
 have b23 := F23.binds (ps := ["self", "one", "other"]) λ _ _ _ _ _ _ => l3_ λ _ _ _ => rfl
 obtain ⟨_, F24⟩ := l24
 have b24 := F24.binds (ps := ["self", "deed"]) λ _ _ _ _ _ _ => l2_ λ _ _ => rfl
 obtain ⟨_, F25⟩ := l25
 have b25 := F25.binds (ps := ["self", "one", "other"]) λ _ _ _ _ _ _ => l3_ λ _ _ _ => rfl
 obtain ⟨_, F26⟩ := l26
 obtain ⟨_, _, _, _, _, _, _, _, _, rfl, _, _⟩ := F26.ex
 have b26 := F26.binds (ps := ["_law_script"]) λ _ _ _ _ _ _ => l1_ λ _ => rfl
 let KL : List (Addr × List (Key × V)) := []
 have hkd : KD1 l.prog w K (kdL KL (zmS mg)) := zoL λ p m => by
  exact absurd (show p ∈ ([] : List (Addr × List (Key × V))) from m) List.not_mem_nil
 have T : Txt K (kdL KL (zmS mg)) mg ⟨_, _, _, _, _, _, _, _, _, _, _, _, _, _, _, _, _, _, _, _, _, _, _, _, _, _, _, _, _, _, _, _, _, _, _, _, _, _, _, _, _, _, _, _, _, _, _, _, _, _, _, _, _, _, _⟩ := ⟨F0, b0, PySem.W.mg_of X G a0, F1, b1, PySem.W.mg_of X G a1, F2, b2, PySem.W.mg_of X G a2, F3, b3, PySem.W.mg_of X G a3, F4, b4, PySem.W.mg_of X G a4, F5, b5, PySem.W.mg_of X G a5, F6, b6, PySem.W.mg_of X G a6, F7, b7, PySem.W.mg_of X G a7, F8, b8, PySem.W.mg_of X G a8, F9, b9, PySem.W.mg_of X G a9, F10, b10, PySem.W.mg_of X G a10, F11, b11, PySem.W.mg_of X G a11, F12, b12, PySem.W.mg_of X G a12, F13, b13, PySem.W.mg_of X G a13, F14, b14, PySem.W.mg_of X G a14, F15, b15, PySem.W.mg_of X G a15, F16, b16, PySem.W.mg_of X G a16, F17, b17, PySem.W.mg_of X G a17, F18, b18, PySem.W.mg_of X G a18, F19, b19, PySem.W.mg_of X G a19, F20, b20, F21, b21, F22, b22, F23, b23, F24, b24, F25, b25, F26, b26, PySem.W.mg_of X G a26, ⟨zmv (PySem.W.mg_of X G aC0), ⟨pg0, hd0, po0, sa0⟩, mk0, kc0, PySem.W.mg_of X G aC0⟩, ⟨e0, ei0, ek0⟩, ⟨e1, ei1, ek1⟩, ⟨e2, ei2, ek2⟩, ⟨e3, ei3, ek3⟩, ⟨e4, ei4, ek4⟩, ⟨e5, ei5, ek5⟩, na0, na1, na2, na3, na4, na5, PySem.W.mg_none_of X G z0, PySem.W.mg_none_of X G z1, PySem.W.mg_none_of X G z2, PySem.W.mg_none_of X G z3, PySem.W.mg_none_of X G z4, PySem.W.mg_none_of X G z5, PySem.W.mg_none_of X G z6, PySem.W.mg_none_of X G z7, PySem.W.mg_none_of X G z8, PySem.W.mg_none_of X G z9, PySem.W.mg_none_of X G z10⟩
 exact ⟨_, λ s v => .of_eq rfl, λ base _ _ => (o_law T hkd).imp λ vs H Q E h => h _⟩
theorem walk {l : PySem.W.OpenLaw} {q : Program} {loose : List Str} {XP : (Str -> Option Value) -> Heap -> Prop} {YP : World -> Heap -> Prop} {d : DefRec} {K : Params -> zC} (hn : l.most = some 63) (hdf : d.params.defaults = [])
 (hY : ∀ (w : World) (h : Heap), YP w h -> (K w.params).In h) (hm : ∀ ns : List Int, ns.length <= 63 -> zdH [(true, .lst (ns.map D.int))] = some (.lf true (.bl true)))
 (F : ∀ (w : World) (mg : Str -> Option Value) (fa : Addr) (h : Heap), (K w.params).In h -> h.Ns mainGlobals mg -> mg d.name = some (.ref fa) ->
  ∃ fd : FuncData, (∀ (s : Shared) (u : Value), BindsTo s fd ⟨[u], []⟩ [("_law_script", u)]) /\ ∀ base : Heap, (K w.params).In base -> base.Ns mainGlobals mg -> FnOk l.prog w (K w.params) mg base CX0 7 fa fd ["_law_script"] (spL (K w.params) zdH)) :
 PySem.W.WalkO q loose XP YP l.row.toRowW d [] (λ f vs => PySem.call f vs) :=
 L2.walk_of (n := 63) (k := 7) (x := "_law_script") (CX := λ _ => CX0) (sp := λ w => spL (K w.params) zdH) hn (by decide) hdf ⟨rfl, by decide, by decide, rfl⟩ hY F (λ _ _ a ns hl _ hS kd => zoP (hm ns hl) hS) λ _ _ _ _ _ z => z
local macro_rules | `(tactic| trivial) => `(tactic| first | with_reducible first | assumption | exact Int.natCast_nonneg _ | exact Nat.le_refl _ | exact Int.le_refl _ | exact rfl | exact leN (by assumption) | exact np1 (by assumption) | exact np2 (by assumption) | exact nq1 (by assumption) | exact nq2 (by assumption) | exact Int.natCast_pos.mpr (by assumption) | exact Nat.le_trans (by assumption) (by decide) | exact bgL _ | exact bgU (by assumption) | exact mU (by assumption) | exact zI _ | exact bL0 (by assumption) | exact bU0 (by assumption) (by assumption) | exact iL (by assumption) | exact iU (by assumption) (by assumption) | exact iC (by assumption) | exact iT (by assumption) | exact stL (by assumption) | exact stU (by assumption) | exact lnK (by assumption) (by assumption) (by assumption) | exact zi1 _ | exact lnE (by assumption) | exact ltL (by assumption) | exact Int.toNat_of_nonneg (by assumption) | exact tS (by assumption) (by assumption) | exact b6 (by assumption) | exact Int.emod_nonneg _ (by decide) | exact Int.emod_lt_of_pos _ (by decide) | decide | omega)
section
variable {n m : Nat} {J T : TZ} {e : Int} {Ds : DD} {S : SS}
theorem zgW (n8 : n <= 8) (hJ : Tab n n J) (he : InR n e) : Flt (wg [(true, yI n m J e Ds S)]) (UnA n J e) := by
 refine Flt.imp (P := UnA n J e /\ True) (zhC (n := 4) (m := 1) (c := vp) rfl ?_) ⟨λ z => z.1, λ z => ⟨z, trivial⟩⟩
 have s1 : zJ true 1 (f2 (fV 0) (fC (.int 2)) ixP) [sT (yI n m J e Ds S), none, none, none] = some (.nx [sT (yI n m J e Ds S), sT (zX J), none, none]) := yz (i := 1) (wF (zb (i := 0) rfl) zg rfl) (zG rfl)
 have s2 : zJ true 2 (f2 (fV 0) (fC (.int 3)) ixP) [sT (yI n m J e Ds S), sT (zX J), none, none] = some (.nx [sT (yI n m J e Ds S), sT (zX J), sI e, none]) := yz (i := 2) (wF (zb (i := 0) rfl) zg rfl) (zG rfl)
 have k := zeR (as := [sT (yI n m J e Ds S), sT (zX J), sI e, none]) (g := yu (fC .non)) (Q := True) (zou (S := λ x y z => [sT (yI n m J e Ds S), sT (zX J), sI e, x]) (x := none) (y := none) (z := none) (vj := 1) (ve := 2) hJ he (λ _ _ _ => rfl) (λ _ _ _ => rfl) (λ _ _ _ => rfl) (λ _ _ _ _ => rfl)) λ _ _ _ => zeJ
 have hf : ∀ f : SF, yZ (yx (aC (f2 (fV 0) (fC (.int 0)) ixP) aN) yC) (gN 3) f [sT (yI n m J e Ds S), sT (zX J), sI e, none] = forL (gN 3) f (yR 0 n) [sT (yI n m J e Ds S), sT (zX J), sI e, none] := λ f => wV (xT (j := (n : Int)) (zB (yG (zb (i := 0) rfl) zg rfl rfl) zL) (by trivial) (by trivial)) (by rw [Int.toNat_natCast])
 have fin : ∀ x, Rt (zE (λ as => forL (gN 3) (sIf (zdY (fT (f2 (f2 (f2 (fV 1) (fV 2) ixP) (fV 3) ixP) (fV 3) (yt .NotEq))) (fT (f2 (f2 (f2 (fV 1) (fV 3) ixP) (fV 2) ixP) (fV 3) (yt .NotEq)))) (yu (wR (dC (fC (.str "nothing")) (dC (fV 3) dN)))) sNx) (yR 0 n) as) (yu (fC .non)) [sT (yI n m J e Ds S), sT (zX J), sI e, none]) x -> Rt (vp (vG 4 [(true, yI n m J e Ds S)])) x := λ x h => by
  refine zR s1 (zR s2 ?_)
  obtain ⟨o, a, b⟩ := h
  refine ⟨o, ?_, b⟩
  unfold zE at a ⊢
  rw [hf]
  exact a
 rcases k with ⟨k, p⟩ | ⟨⟨es, k⟩, p⟩
 · exact .inl ⟨fin _ k, p⟩
 · exact .inr ⟨⟨es, fin _ k⟩, p⟩
theorem zhd (n8 : n <= 8) (hJ : Tab n n J) : Flt (wk [(true, yI n m J e Ds S)]) (As n J) := by
 have s1 : zJ true 1 (f2 (fV 0) (fC (.int 0)) ixP) [sT (yI n m J e Ds S), none, none, none, none, none] = some (.nx [sT (yI n m J e Ds S), sI n, none, none, none, none]) := yz (i := 1) (wF (zb (i := 0) rfl) zg rfl) (zG rfl)
 have s2 : zJ true 2 (f2 (fV 0) (fC (.int 2)) ixP) [sT (yI n m J e Ds S), sI n, none, none, none, none] = some (.nx [sT (yI n m J e Ds S), sI n, sT (zX J), none, none, none]) := yz (i := 2) (wF (zb (i := 0) rfl) zg rfl) (zG rfl)
 have k := zmo (S := λ x y z => [sT (yI n m J e Ds S), sI n, sT (zX J), x, y, z]) (x := none) (y := none) (z := none) (vj := 2) (vn := 1) n8 hJ (λ _ _ _ => rfl) (λ _ _ _ => rfl) (λ _ _ _ => rfl) (λ _ _ _ => rfl) (λ _ _ _ => rfl) (λ _ _ _ _ => rfl) (λ _ _ _ _ => rfl) (λ _ _ _ _ => rfl)
 rw [<- Zv (v := 1) (n := n) (g := gN 3) (f := zoq 2 1) (as := [sT (yI n m J e Ds S), sI n, sT (zX J), none, none, none]) rfl (by trivial)] at k
 refine Flt.imp (P := As n J /\ True) (zhC (n := 6) (m := 1) (c := ZK) rfl ?_) ⟨λ z => z.1, λ z => ⟨z, trivial⟩⟩
 rcases zeR (g := yu (fC .non)) (Q := True) k λ _ _ _ => zeJ with ⟨k, p⟩ | ⟨⟨es, k⟩, p⟩
 · exact .inl ⟨zR s1 (zR s2 k), p⟩
 · exact .inr ⟨⟨es, zR s1 (zR s2 k)⟩, p⟩
theorem zlK {s : Str} (n8 : n <= 8) (m1 : 1 <= m) (m6 : m <= 6) (hJ : Tab n n J) (hT : Tab m n T) : Flt (wA [(true, yI n m J e Ds S), (true, .str s), (true, zX T)]) (Dn n m J T) := by
 have k : zcr (forL (gN 6) (yZ (yx (aC (fV 4) aN) yC) (gN 7) (yZ (yx (aC (fV 3) aN) yC) (gN 8) (yZ (yx (aC (fV 4) aN) yC) (gN 9) dfI))) (yR 0 n) (D10 n m J T e Ds S s none none none none)) (λ as => ∃ x y z w, as = D10 n m J T e Ds S s x y z w) (Dn n m J T) := by
  refine Vm (fr := sNx) (λ as => ∃ x y z w, as = D10 n m J T e Ds S s x y z w) _ (λ a ha as hI => ?_) ⟨_, _, _, _, rfl⟩
  obtain ⟨x, y, z, w, rfl⟩ := hI
  refine ⟨D10 n m J T e Ds S s (sI a) y z w, rfl, ?_⟩
  rw [Zv (v := 4) (n := m) rfl (by trivial)]
  have k := Vm (v := 7) (n := m) (fr := sNx) (f := yZ (yx (aC (fV 3) aN) yC) (gN 8) (yZ (yx (aC (fV 4) aN) yC) (gN 9) dfI)) (as := D10 n m J T e Ds S s (sI a) y z w) (λ as => ∃ y z w, as = D10 n m J T e Ds S s (sI a) y z w) (λ i => ∀ b, InR n b -> ∀ k, InR m k -> jAt T ((i + k) % m) (jAt J a b) = jAt J (jAt T i a) (jAt T k b)) (λ i hi as hI => by
   obtain ⟨y, z, w, rfl⟩ := hI
   refine ⟨D10 n m J T e Ds S s (sI a) (sI i) z w, rfl, ?_⟩
   rw [Zv (v := 3) (n := n) rfl (by trivial)]
   have k := Vm (v := 8) (n := n) (fr := sNx) (f := yZ (yx (aC (fV 4) aN) yC) (gN 9) dfI) (as := D10 n m J T e Ds S s (sI a) (sI i) z w) (λ as => ∃ z w, as = D10 n m J T e Ds S s (sI a) (sI i) z w) (λ b => ∀ k, InR m k -> jAt T ((i + k) % m) (jAt J a b) = jAt J (jAt T i a) (jAt T k b)) (λ b hb as hI => by
    obtain ⟨z, w, rfl⟩ := hI
    refine ⟨D10 n m J T e Ds S s (sI a) (sI i) (sI b) w, rfl, ?_⟩
    rw [Zv (v := 4) (n := m) rfl (by trivial)]
    rcases df4 (s := s) (w := w) (e := e) (Ds := Ds) (S := S) hJ hT m1 ha hi hb with ⟨as', k1, ⟨w', rfl⟩, k3⟩ | k
    · exact .inl ⟨_, k1, ⟨_, _, rfl⟩, k3⟩
    · exact .inr k) ⟨_, _, rfl⟩
   rcases k with ⟨as', k1, ⟨z', w', rfl⟩, k3⟩ | k
   · exact .inl ⟨_, k1, ⟨_, _, _, rfl⟩, k3⟩
   · exact .inr k) ⟨_, _, _, rfl⟩
  rcases k with ⟨as', k1, ⟨y', z', w', rfl⟩, k3⟩ | k
  · exact .inl ⟨_, k1, ⟨_, _, _, _, rfl⟩, k3⟩
  · exact .inr k
 rw [<- Zv (v := 3) (n := n) (as := D10 n m J T e Ds S s none none none none) rfl (by trivial)] at k
 have s3 : zJ true 3 (f2 (fV 0) (fC (.int 0)) ixP) [sT (yI n m J e Ds S), sT (.str s), sT (zX T), none, none, none, none, none, none, none] = some (.nx [sT (yI n m J e Ds S), sT (.str s), sT (zX T), sI n, none, none, none, none, none, none]) := yz (i := 3) (wF (zb (i := 0) rfl) zg rfl) (zG rfl)
 have s4 : zJ true 4 (f2 (fV 0) (fC (.int 1)) ixP) [sT (yI n m J e Ds S), sT (.str s), sT (zX T), sI n, none, none, none, none, none, none] = some (.nx [sT (yI n m J e Ds S), sT (.str s), sT (zX T), sI n, sI m, none, none, none, none, none]) := yz (i := 4) (wF (zb (i := 0) rfl) zg rfl) (zG rfl)
 have s5 : zJ true 5 (f2 (fV 0) (fC (.int 2)) ixP) [sT (yI n m J e Ds S), sT (.str s), sT (zX T), sI n, sI m, none, none, none, none, none] = some (.nx (D10 n m J T e Ds S s none none none none)) := yz (i := 5) (wF (zb (i := 0) rfl) zg rfl) (zG rfl)
 refine Flt.imp (P := Dn n m J T /\ True) (zhC (n := 10) (m := 3) (c := YW) rfl ?_) ⟨λ z => z.1, λ z => ⟨z, trivial⟩⟩
 rcases zeR (g := yu (fC .non)) (Q := True) k λ _ _ _ => zeJ with ⟨k, p⟩ | ⟨⟨es, k⟩, p⟩
 · exact .inl ⟨zR s3 (zR s4 (zR s5 k)), p⟩
 · exact .inr ⟨⟨es, zR s3 (zR s4 (zR s5 k))⟩, p⟩
theorem zhh (A : Alg n m J e Ds) (L : LawA n m J e Ds) : RE (vZ [(true, yI n m J e Ds S)]) .non := by
 have n8 := A.n8
 have m1 := A.m1
 have s1 : zJ true 1 (f2 (fV 0) (fC (.int 3)) ixP) [sT (yI n m J e Ds S), none, none, none, none] = some (.nx [sT (yI n m J e Ds S), sI e, none, none, none]) := yz (i := 1) (wF (zb (i := 0) rfl) zg rfl) (zG rfl)
 obtain ⟨as', hf, x, y, z, rfl⟩ := xq (g := gT 2 (gsC (gN 2) (gsC (gN 3) gsN))) (f := (zE (sIf (fT (f2 (f2 (f2 (fV 3) (fC (.int 0)) ixP) (fV 1) ixP) (fV 1) (yt .NotEq))) (yu (wR (dC (fC (.str "empty")) (dC (fV 2) dN)))) sNx)
  (zE (zJ true 4 (zH (aC (fV 0) (aC (fV 2) (aC (fV 3) aN))) wA))
  (sIf (fT (f2 (fV 4) (fC .non) (yt .IsNot))) (yu (fV 4)) sNx))))
  (λ i as => ∃ (x y z : Option O), as = [sT (yI n m J e Ds S), sI e, x, y, z])
  ((Ds.map Xm).map λ d => (true, d)) 0 [sT (yI n m J e Ds S), sI e, none, none, none] (λ i x as hx' hI => by
    obtain ⟨x, y, z, rfl⟩ := hI
    rw [List.map_map, zzF] at hx'
    obtain ⟨p, hp, rfl⟩ := zzU.mp hx'
    have mp := List.mem_of_getElem? hp
    have hT := A.ds p mp
    obtain ⟨q1, _⟩ := V9 (as := [sT (yI n m J e Ds S), sI e, sT (.str p.1), sT (zX p.2), z]) hT (w := 0) (v := e) ⟨by trivial, by trivial⟩ ⟨A.e0, A.en⟩ (zb (i := 3) rfl) (zg (x := .int 0)) (zb (i := 1) rfl)
    have t1 := zjz q1 (zb (i := 1) (x := .int e) (s := true) rfl)
    rw [(L.ld p mp).em, show (!(e == e)) = false by simp] at t1
    have d := (zlK (s := p.1) (e := e) (Ds := Ds) (S := S) n8 m1 A.m6 A.j hT).none (L.dn mp)
    exact ⟨[sT (yI n m J e Ds S), sI e, sT (.str p.1), sT (zX p.2), z], rfl, _, zW (wH t1 rfl) (zW (Yh (p := 4) (zfp (WD.e (zb (i := 0) rfl)) (WD.e (zb (i := 2) rfl)) (WD.e (zb (i := 3) rfl)) d) (zG rfl)) (wH (Zw (yG (zb (i := 4) rfl) zg rfl rfl) rfl) rfl)), _, _, _, rfl⟩)
  ⟨_, _, _, rfl⟩
 exact Zd rfl (zR s1 (zR (wV (zkd (wF (zb (i := 0) rfl) zg rfl)) hf) (v5 (WD.e zg))))
theorem zjl (A : Alg n m J e Ds) (L : LawA n m J e Ds) : RE (vQ [(true, yI n m J e Ds S)]) .non := by
 have r1 := (zgW (m := m) (Ds := Ds) (S := S) A.n8 A.j ⟨A.e0, A.en⟩).none L.un
 have r2 := (zhd (m := m) (e := e) (Ds := Ds) (S := S) A.n8 A.j).none L.as
 have r3 := zhh (S := S) A L
 have tt : WT (fT (f2 (fV 1) (fC .non) (yt .Is))) [sT (yI n m J e Ds S), sT .non] true := Zw (yG (zb (i := 1) rfl) zg rfl rfl) rfl
 exact Zd rfl (zR (Yh (p := 1) (XR (WD.e (zb (i := 0) rfl)) r1) (zG rfl)) (zR (ZQ tt (Yh (p := 1) (XR (WD.e (zb (i := 0) rfl)) r2) (zG rfl))) (zR (ZQ tt (Yh (p := 1) (XR (WD.e (zb (i := 0) rfl)) r3) (zG rfl))) (v5 (WD.e (zb (i := 1) rfl))))))
end
open L2 (ym)
def mx (c k : Int) : Int := ((c % 2147483647 * 48271 + k * k * 69621 + 7919) % 2147483647 * ((c % 2147483647 * 48271 + k * k * 69621 + 7919) % 2147483647) + 16807 * ((c % 2147483647 * 48271 + k * k * 69621 + 7919) % 2147483647) + k) % 2147483629
abbrev St (x : Int) : Prop := 0 <= x /\ x < 2147483647
theorem zqZ (c k : Int) : St (mx c k) := ⟨Int.emod_nonneg _ (by decide), Int.lt_trans (Int.emod_lt_of_pos _ (by decide)) (by decide)⟩
theorem zat {c k : Int} {s t : Bool} (k0 : 0 <= k) (k1 : k <= 1000) : zZ [(s, .int c), (t, .int k)] = sI (mx c k) := by
 have c0 := Int.emod_nonneg c (show (2147483647 : Int) ≠ 0 by decide)
 have c1 := Int.emod_lt_of_pos c (show (0 : Int) < 2147483647 by decide)
 have kk0 : 0 <= k * k := Int.mul_nonneg k0 k0
 have kk1 : k * k <= 1000 * 1000 := Int.mul_le_mul k1 k1 k0 (by decide)
 have u0 := Int.emod_nonneg (c % 2147483647 * 48271 + k * k * 69621 + 7919) (show (2147483647 : Int) ≠ 0 by decide)
 have u1 := Int.emod_lt_of_pos (c % 2147483647 * 48271 + k * k * 69621 + 7919) (show (0 : Int) < 2147483647 by decide)
 have bk : k.natAbs < big := zP (by omega) (by omega)
 have bu : ((c % 2147483647 * 48271 + k * k * 69621 + 7919) % 2147483647).natAbs < big := zP (by omega) (by omega)
 exact Xl rfl (zW (yz (i := 2) (zY (yF (yF (xZ (zY (zb (i := 0) rfl) zg (by decide)) zg (zP (by omega) (by omega)) (zP (by decide) (by decide))) (xZ (xZ (zb (i := 1) rfl) (zb (i := 1) rfl) bk bk) zg (zP (by omega) (by omega)) (zP (by decide) (by decide)))) zg) zg (by decide)) (zG rfl))
  (ZG (zY (yF (yF (xZ (zb (i := 2) rfl) (zb (i := 2) rfl) bu bu) (xZ zg (zb (i := 2) rfl) (zP (by decide) (by decide)) bu)) (zb (i := 1) rfl)) zg (by decide))))
theorem Vt {ns : List Int} {k : Int} {s t : Bool} (hk : 0 <= k) : ∃ x, zK [(s, .lst (ns.map .int)), (t, .int k)] = sT (.int x) := by
 by_cases h : k < ((ns.map D.int).length : Int)
 · obtain ⟨x, hx⟩ := zmb (ns := ns) hk (by rw [zD] at h; exact h)
   exact ⟨x, Xl rfl (Vq (ZQ (Zw (znU (zb rfl) (vo (zB (zb rfl) zL) rfl rfl)) (congrArg some (decide_eq_true h))) (ZG (yG (zb rfl) (zb rfl) hx rfl))))⟩
 · exact ⟨0, Xl rfl (zW (wH (Zw (znU (zb rfl) (vo (zB (zb rfl) zL) rfl rfl)) (congrArg some (decide_eq_false h))) rfl) (ZG zg))⟩
theorem zle {s : Bool} {x : Int} : vL [(s, .int x)] = sT (.bl true) :=
 Xl rfl (ZG (zof (k := true) (zlt (zb rfl) rfl) (λ _ => zoa (q := false) (zlt (zb rfl) rfl)) (λ h => nomatch h)))
theorem zjt {c : Int} {m : Nat} (h1 : m <= 900) : ∃ xs : List Int, xs.length = m /\ (∀ x ∈ xs, St x) /\ RE (yL [(true, .int c), (true, .int m)]) (zT xs) := by
 obtain ⟨as', hf, ys, r, e4, rfl, hl, hy⟩ := xq (g := gN 4) (f := sIf (fT (f2 (f2 (fV 0) (fC (.int 2)) (zm .Mod)) (fC (.int 0)) (yt .Eq))) (zE (wu (wX 2 (dC (f2 (fV 3) (fC (.int 1000000007)) (zm .Mod)) dN) vN)) (zJ true 3 (f2 (fV 3) (fC (.int 1000000007)) (zm .FloorDiv)))) (wu (wX 2 (dC (zH (aC (fV 3) (aC (fV 4) aN)) zZ) dN) vN)))
  (λ i as => ∃ (ys : List Int) (r : Int) (e4 : Option O), as = [sI c, sI m, sN (ys.map lfI), sI r, e4] /\ ys.length = i /\ ∀ y ∈ ys, St y)
  (yR 0 m) 0 [sI c, sI m, sN [], sI (c / 2), none] (λ i x as hx hI => by
   obtain ⟨ys, r, e4, rfl, hl, hy⟩ := hI
   obtain ⟨rfl, hi⟩ := xJ hx
   have tt : WT (fT (f2 (f2 (fV 0) (fC (.int 2)) (zm .Mod)) (fC (.int 0)) (yt .Eq))) [sI c, sI m, sN (ys.map lfI), sI r, sI (0 + i)] (c % 2 == 0) := Zw (zdh (c := c % 2 == 0) (zY (zb (i := 0) rfl) zg (by decide)) zg rfl) rfl
   refine ⟨[sI c, sI m, sN (ys.map lfI), sI r, sI (0 + i)], rfl, ?_⟩
   have fin : ∀ w, St w -> (ys ++ [w]).length = 0 + i + 1 /\ ∀ y ∈ ys ++ [w], St y := λ w hw => ⟨by rw [zzG, hl]; rfl, λ y m => (zzJ.mp m).elim (hy y) λ m => by rw [zzO.mp m]; exact hw⟩
   cases hb : (c % 2 == 0) with
   | true =>
    rw [hb] at tt
    have w0 := Int.emod_nonneg r (show (1000000007 : Int) ≠ 0 by decide)
    have w1 := Int.emod_lt_of_pos r (show (0 : Int) < 1000000007 by decide)
    have ap := zhc (i := 2) (as := [sI c, sI m, sN (ys.map lfI), sI r, sI (0 + i)]) rfl (by rw [zD]; exact ym (by omega)) (zY (zb (i := 3) rfl) (zg (x := .int 1000000007)) (by decide))
    rw [<- zar] at ap
    exact ⟨_, ZQ tt (zW ap (yz (i := 3) (xR (zb (i := 3) rfl) zg (by decide) (zP (by decide) (by decide))) (zG rfl))), ys ++ [r % 1000000007], _, _, rfl, fin _ ⟨w0, by omega⟩⟩
   | false =>
    rw [hb] at tt
    have ap := zhc (i := 2) (as := [sI c, sI m, sN (ys.map lfI), sI r, sI (0 + i)]) rfl (by rw [zD]; exact ym (by omega)) (v4 (zB (zb (i := 3) rfl) (zB (zb (i := 4) rfl) zL)) (zat (c := r) (k := 0 + i) (by omega) (by omega)))
    rw [<- zar] at ap
    exact ⟨_, wH tt ap, ys ++ [mx r (0 + i)], _, _, rfl, fin _ (zqZ _ _)⟩)
  ⟨[], c / 2, none, rfl, rfl, λ _ m => nomatch m⟩
 rw [yJ] at hl
 refine ⟨ys, by omega, hy, Zd rfl (zR (wM (i := 2) (Xd yO (szl rfl)) (zG rfl)) (zR (yz (i := 3) (xR (zb (i := 0) rfl) zg (by decide) (zP (by decide) (by decide))) (zG rfl)) (zR (wV (xT (zB (zb (i := 1) rfl) zL) (by omega) (by omega)) hf) ⟨_, ziA (i := 2) rfl (vd ys).2.1, (zax ys).1, (zax ys).2⟩)))⟩
theorem stE {a b : EF} {as : AS} {c : Int} {m : Nat} (hm : m <= 900) (ha : WE a as (.int c)) (hb : WE b as (.int m)) : ∃ xs : List Int, xs.length = m /\ (∀ x ∈ xs, St x) /\ WE (zH (aC a (aC b aN)) yL) as (zT xs) := by
 obtain ⟨xs, h1, h2, h3⟩ := zjt (c := c) (m := m) hm
 exact ⟨xs, h1, h2, zlG ha hb h3⟩
theorem at2 {xs : List Int} (h : ∀ x ∈ xs, St x) {k : Int} (h0 : 0 <= k) (h1 : k < xs.length) : ∃ x, ixP (zT xs) (.int k) = some (.im (.int x)) /\ St x := zpR h0 h1 h
theorem zjL {n m : Nat} (hn : 0 < n) (hn2 : n <= 8) (hm : m <= 8) : ∃ g : Int, 0 < g /\ g < 1000 /\ g ∣ (n : Int) /\ g ∣ (m : Int) /\ wN [(true, .int n), (true, .int m)] = sI g := by
 obtain ⟨g, e, g0, g1, d1, d2, hg⟩ := zhj m n 10000 (by trivial) (by trivial) (by trivial) (by trivial)
 exact ⟨g, g0, g1, d1, d2, Xl rfl (zW hg (ZG (zb rfl)))⟩
theorem eqT {a b : EF} {as : AS} {x y : Int} {s t q : Bool} (ha : WD a as s (.int x)) (hb : WD b as t (.int y)) (e : (x == y) = q) : WT (fT (f2 a b (yt .Eq))) as q := Zw (zdh (c := q) ha hb (congrArg some e)) rfl
theorem zaY {k : Int} {n : Nat} {a b : Int} (h : KN k n) (ha : InR n a) (hb : InR n b) : zN [(true, .int k), (true, .int n), (true, .int a), (true, .int b)] = sI (jK k n a b) := by
 rcases h with ⟨rfl, hn⟩ | ⟨rfl, hn⟩ | ⟨rfl, hn⟩ | ⟨rfl, rfl⟩
 · exact Xl rfl (Vq (ZQ (eqT (zb (i := 0) rfl) zg rfl) (ZG (zY (yF (zb (i := 2) rfl) (zb (i := 3) rfl)) (zb (i := 1) rfl) (by omega)))))
 · exact Xl rfl (zW (wH (eqT (zb (i := 0) rfl) zg rfl) rfl) (Vq (ZQ (eqT (zb (i := 0) rfl) zg rfl) (ZG (vo (zB (zb (i := 2) rfl) (zB (zb (i := 3) rfl) zL)) rfl rfl)))))
 · exact Xl rfl (zW (wH (eqT (zb (i := 0) rfl) zg rfl) rfl) (zW (wH (eqT (zb (i := 0) rfl) zg rfl) rfl) (Vq (ZQ (eqT (zb (i := 0) rfl) zg rfl) (ZG (f2E (Wf (os := [lfI b, lfI a]) (zV (zb (i := 3) rfl) (zV (zb (i := 2) rfl) yO)) (szl rfl) rfl rfl) (WD.e (vo (zB (zdh (zb (i := 3) rfl) zg rfl) zL) rfl rfl)) (zkg.trans (by show _ = some (R0.im (.int (jL a b))); unfold jL; by_cases h : b = 0 <;> simp [h]))))))))
 · have P : ∀ a ∈ ([0, 1, 2, 3] : List Int), ∀ b ∈ ([0, 1, 2, 3] : List Int), zN [(true, .int 3), (true, .int (4 : Nat)), (true, .int a), (true, .int b)] = sI (jK 3 4 a b) := by
    intro a ma b mb
    simp only [zS, List.not_mem_nil, or_false] at ma mb
    rcases ma with rfl | rfl | rfl | rfl <;> rcases mb with rfl | rfl | rfl | rfl <;> rfl
   exact f4 (P := λ a => zN [(true, .int 3), (true, .int (4 : Nat)), (true, .int a), (true, .int b)] = sI (jK 3 4 a b)) (λ a m => f4 (P := λ b => zN [(true, .int 3), (true, .int (4 : Nat)), (true, .int a), (true, .int b)] = sI (jK 3 4 a b)) (P a m) hb) ha
open L2 (ym)
abbrev imB : SF := (zE (zJ true 2 (f2 (fV 2) (fV 1) (zm .FloorDiv)))
 (wu (wX 3 (dC (f2 (Zm (dC (f2 (fV 2) (fV 1) (zm .Mod)) (dC (f2 (fC (.int 1)) (f2 (fV 2) (f2 (fV 1) (fC (.int 1)) (zm .Sub)) (zm .Mod)) (zm .Add)) dN))) (f2 (fV 0) (fC (.int 1)) (zm .Sub)) ixP) dN) vN)))
theorem zlh {k x : Int} {n : Nat} (hk : k = 1 \/ k = 2) (hn : 1 <= n) (hn2 : n <= 8) : ∃ (ys : List Int) (z : Int) (e4 : Option O), ys.length = n - 1 /\ (∀ y ∈ ys, InR n y /\ (k = 2 -> 1 <= y)) /\ forL (gN 4) imB (yR 1 (n - 1)) [sI k, sI n, sI x, sN [], none] = some (.nx [sI k, sI n, sI z, sN (ys.map lfI), e4]) := by
 obtain ⟨as', hf, ys, z, e4, rfl, hl, hy⟩ := xq (g := gN 4) (f := imB)
  (λ i as => ∃ (ys : List Int) (z : Int) (e4 : Option O), as = [sI k, sI n, sI z, sN (ys.map lfI), e4] /\ ys.length = i /\ ∀ y ∈ ys, InR n y /\ (k = 2 -> 1 <= y))
  (yR 1 (n - 1)) 0 [sI k, sI n, sI x, sN [], none] (λ i y as hx hI => by
   obtain ⟨ys, z, e4, rfl, hl, hy⟩ := hI
   obtain ⟨rfl, hi⟩ := xJ hx
   have m0 := Int.emod_nonneg (z / n) (show (n : Int) ≠ 0 by omega)
   have m1 := Int.emod_lt_of_pos (z / n) (show (0 : Int) < n by omega)
   have q0 := Int.emod_nonneg (z / n) (show (n : Int) - 1 ≠ 0 by omega)
   have q1 := Int.emod_lt_of_pos (z / n) (show (0 : Int) < (n : Int) - 1 by omega)
   have hp : ixP (.lst [.int (z / n % n), .int (1 + z / n % (n - 1))]) (.int (k - 1)) = some (.im (.int (if k = 1 then z / n % n else 1 + z / n % (n - 1)))) := by rcases hk with rfl | rfl <;> rfl
   have ap := zhc (i := 3) (as := [sI k, sI n, sI (z / n), sN (ys.map lfI), sI (1 + i)]) rfl (by rw [zD]; exact ym (by omega)) (f2E (Wf (os := [lfI (z / n % n), lfI (1 + z / n % (n - 1))]) (zV (zY (zb (i := 2) rfl) (zb (i := 1) rfl) (by omega)) (zV (yF zg (zY (zb (i := 2) rfl) (zds (zb (i := 1) rfl) zg) (by omega))) yO)) (szl rfl) rfl rfl) (WD.e (zds (zb (i := 0) rfl) zg)) hp)
   rw [<- zar] at ap
   refine ⟨_, rfl, _, zW (yz (i := 2) (xR (zb (i := 2) rfl) (zb (i := 1) rfl) (by omega) (zP (by omega) (by omega))) (zG rfl)) ap, _, _, _, rfl, by rw [zzG, hl]; rfl, λ y m => (zzJ.mp m).elim (hy y) λ m => ?_⟩
   rw [zzO.mp m]
   rcases hk with rfl | rfl
   · rw [if_pos rfl]; exact ⟨⟨m0, m1⟩, λ h => nomatch h⟩
   · rw [if_neg (by decide)]; exact ⟨⟨by omega, by omega⟩, λ _ => by omega⟩)
  ⟨[], x, none, rfl, rfl, λ _ m => nomatch m⟩
 rw [yJ] at hl
 exact ⟨ys, z, e4, by omega, hy, hf⟩
theorem zju {k x : Int} {n m : Nat} (h : KN k n) (h0 : k ≠ 0) (hn2 : n <= 8) (hm : 0 < m) : ∃ r, Row n r /\ LD n m (jK k n) (eK k) (λ _ a => rAt r a) /\ RE (vW [(true, .int k), (true, .int n), (true, .int x)]) (zT r) := by
 have n1 := h.n1
 rcases h with ⟨rfl, hn⟩ | ⟨rfl, hn⟩ | ⟨rfl, hn⟩ | ⟨rfl, rfl⟩
 · exact absurd rfl h0
 · obtain ⟨ys, z, e4, l1, l2, hf⟩ := zlh (k := 1) (x := x) (n := n) (.inl rfl) hn hn2
   have hp := sortI_perm ys
   have hlen : (sortI ys).length = n - 1 := by rw [hp.length_eq, l1]
   have hr : Row n (0 :: sortI ys) := ⟨by rw [zzQ, hlen]; omega, λ y m => by
    rcases zS.mp m with rfl | m
    · omega
    · exact (l2 y (hp.mem_iff.mp m)).1⟩
   have s3 := wM (i := 3) (as := [sI 1, sI n, sI z, sN (ys.map lfI), e4]) (zoT (i := 3) (g := zke) (zs := (sortI ys).map D.int) rfl (by
    show (Wi (ys.map D.int)).bind _ = _
    rw [zgG]
    show (if ys.length < 64 then _ else _) = _
    rw [if_pos (by omega)])) (zG rfl)
   rw [zia] at s3
   refine ⟨_, hr, ldM hm rfl (λ a ha => (rowAt hr ha).2) λ a b ha hb hab => ?_, Zd rfl (zR (wH (eqT (zb (i := 0) rfl) zg rfl) rfl) (zR (wM (i := 3) (Xd yO (szl rfl)) (zG rfl)) (zR (wV (zgd (i := 1) (j := n) (zB zg (zB (zb (i := 1) rfl) zL)) (by omega) (by omega) (by omega) (by omega)) (by rw [show ((n : Int) - 1).toNat = n - 1 by omega]; exact hf)) (zR (ZQ (eqT (zb (i := 0) rfl) zg rfl) s3) (v5 (znM (i := 3) (xs := sortI ys) (ds := [.int 0]) (Wf (os := [lfI 0]) (zV zg yO) (szl rfl) rfl rfl) rfl (by rw [hlen]; show 1 + _ <= _; omega)))))))⟩
   by_cases he : a = b
   · rw [he]; exact Int.le_refl _
   have a0 := ha.1
   have b1 := hb.2
   have hs : (0 :: sortI ys).Pairwise (· <= ·) := List.pairwise_cons.mpr ⟨λ y m => (l2 y (hp.mem_iff.mp m)).1.1, X5 ys⟩
   rw [vV (by rw [hr.1]; omega), vV (by rw [hr.1]; omega)]
   exact zjm hs (by omega) (by rw [hr.1]; omega)
 · obtain ⟨ys, z, e4, l1, l2, hf⟩ := zlh (k := 2) (x := x) (n := n) (.inr rfl) hn hn2
   have hr : Row n (0 :: ys) := ⟨by rw [zzQ, l1]; omega, λ y m => by
    rcases zS.mp m with rfl | m
    · omega
    · exact (l2 y m).1⟩
   refine ⟨_, hr, ldL rfl (λ a ha => (rowAt hr ha).2) λ a ha ha0 => ?_, Zd rfl (zR (wH (eqT (zb (i := 0) rfl) zg rfl) rfl) (zR (wM (i := 3) (Xd yO (szl rfl)) (zG rfl)) (zR (wV (zgd (i := 1) (j := n) (zB zg (zB (zb (i := 1) rfl) zL)) (by omega) (by omega) (by omega) (by omega)) (by rw [show ((n : Int) - 1).toNat = n - 1 by omega]; exact hf)) (zR (wH (eqT (zb (i := 0) rfl) zg rfl) rfl) (v5 (znM (i := 3) (xs := ys) (ds := [.int 0]) (Wf (os := [lfI 0]) (zV zg yO) (szl rfl) rfl rfl) rfl (by rw [l1]; show 1 + _ <= _; omega)))))))⟩
   have a0 := ha.1
   have a1 := ha.2
   have hk : a.toNat < (0 :: ys).length := by rw [hr.1]; omega
   rw [vV hk]
   obtain ⟨j, ek⟩ : ∃ j, a.toNat = j + 1 := ⟨a.toNat - 1, by omega⟩
   have : (0 :: ys)[a.toNat] = ys[j]'(by rw [zzQ] at hk; omega) := by simp only [ek, List.getElem_cons_succ]
   rw [this]
   have := (l2 _ (List.getElem_mem (show j < ys.length by rw [zzQ] at hk; omega))).2 rfl
   omega
 · obtain ⟨r, r1, r2⟩ := zix (f := λ a => if x % 2 = 0 then a else sP a) (N := 4) (n := 4) (u := true) (as := [sI 3, sI (4 : Nat), sI x, none, none]) (cap := [none, some 2]) (fr := aC (fV 1) aN) (fe := f2 (Zm (dC (fV 0) (dC (f2 (f2 (f2 (fC (.int 2)) (f2 (fC (.int 1)) (f2 (fV 0) (fC (.int 2)) (zm .Mod)) (zm .Sub)) (zm .Mult)) (fC (.int 1)) (zm .Add)) (f2 (fV 0) (fC (.int 2)) (zm .FloorDiv)) (zm .Sub)) dN))) (f2 (fV 1) (fC (.int 2)) (zm .Mod)) ixP) (zB (zb rfl) zL) (by omega) λ b hb => by
    have b0 := hb.1
    have b1 := hb.2
    refine ⟨[sI b, sI x], rfl, V3 (Wf (os := [lfI b, lfI (2 * (1 - b % 2) + 1 - b / 2)]) (zV (zb (i := 0) rfl) (zV (zds (yF (xZ zg (zds zg (zY (zb (i := 0) rfl) zg (by decide))) (zP (by decide) (by decide)) (zP (by omega) (by omega))) zg) (xR (zb (i := 0) rfl) zg (by decide) (zP (by decide) (by decide)))) yO)) (szl rfl) rfl rfl) (WD.e (zY (zb (i := 1) rfl) zg (by decide))) zjK, ?_⟩
    show InR 4 (if x % 2 = 0 then b else sP b)
    split
    · exact hb
    · exact f4 (P := λ a => InR 4 (sP a)) (by decide) hb
   refine ⟨r, ⟨r1.1, r1.2.1⟩, ldP ?_, Zd rfl (ziQ (zlQ (eqT (zb (i := 0) rfl) zg rfl) (v5 r2)))⟩
   by_cases hx : x % 2 = 0
   · exact .inl λ a ha => (r1.2.2 a ha).trans (if_pos hx)
   · exact .inr λ a ha => (r1.2.2 a ha).trans (if_neg hx)
theorem zde {k x : Int} {n m : Nat} (h : KN k n) (hn2 : n <= 8) (hm0 : 0 < m) (hm : m <= 8) (hx : St x) : ∃ T, Tab m n T /\ LD n m (jK k n) (eK k) (jAt T) /\ RE (yM [(true, .int k), (true, .int n), (true, .int m), (true, .int x)]) (zX T) := by
 have n1 := h.n1
 have hJ := ljK h
 by_cases h0 : k = 0
 · subst h0
   obtain ⟨g, g0, g1, gn, gm, hg⟩ := zjL (n := n) (m := m) n1 hn2 hm
   have q0 : 0 <= (n : Int) / g := Int.ediv_nonneg (by omega) (by omega)
   have q1 : (n : Int) / g <= n := Int.ediv_le_self _ (by omega)
   have hLD := ldS (x0 := x % 8) (x1 := x / 8 % 8) n1 hm0 g0 gn gm
   have hd : WD (f2 (fV 1) (zH (aC (fV 1) (aC (fV 2) aN)) wN) (zm .FloorDiv)) [sI 0, sI n, sI m, sI x, none, none] true (.int ((n : Int) / g)) := xR (zb (i := 1) rfl) (v4 (zB (zb (i := 1) rfl) (zB (zb (i := 2) rfl) zL)) hg) g0 (zP (by omega) (by omega))
   generalize (n : Int) / g = q at q0 q1 hLD hd
   have y0 := Int.emod_nonneg (x / 8) (show (8 : Int) ≠ 0 by decide)
   have y1 := Int.emod_lt_of_pos (x / 8) (show (0 : Int) < 8 by decide)
   have z0 := Int.emod_nonneg x (show (8 : Int) ≠ 0 by decide)
   have z1 := Int.emod_lt_of_pos x (show (0 : Int) < 8 by decide)
   have s5 := yz (st := true) (i := 5) (as := [sI 0, sI n, sI m, sI x, none, none]) (xZ hd (zY (xR (zb (i := 3) rfl) (zg (x := .int 8)) (by decide) (zP (by decide) (by decide))) (zg (x := .int 8)) (by decide)) (zP (by omega) (by omega)) (zP (by omega) (by omega))) (zG rfl)
   have st0 : 0 <= q * (x / 8 % 8) := Int.mul_nonneg q0 y0
   have st1 : q * (x / 8 % 8) <= 8 * 8 := Int.mul_le_mul (by omega) (by omega) y0 (by decide)
   obtain ⟨T, t1, t2⟩ := zik (f := λ c a => (x % 8 * a + q * (x / 8 % 8) * c) % n) (n := n) (k := m) (u := true) (as := [sI 0, sI n, sI m, sI x, none, sI (q * (x / 8 % 8))]) (cap := [none, some 1, some 5, some 3]) (fr := aC (fV 2) aN)
    (fe := yw (yx (aC (fV 1) aN) yC) [none, some 1, some 2, some 0, some 3] (gN 0) xG (f2 (f2 (f2 (f2 (fV 4) (fC (.int 8)) (zm .Mod)) (fV 0) (zm .Mult)) (f2 (fV 2) (fV 3) (zm .Mult)) (zm .Add)) (fV 1) (zm .Mod))) (zB (zb rfl) zL) (by omega) λ c hc => by
     have c0 := hc.1
     have c1 := hc.2
     obtain ⟨r, r1, r2⟩ := zix (f := λ a => (x % 8 * a + q * (x / 8 % 8) * c) % n) (N := n) (n := n) (u := true) (as := [sI c, sI n, sI (q * (x / 8 % 8)), sI x]) (cap := [none, some 1, some 2, some 0, some 3]) (fr := aC (fV 1) aN) (fe := f2 (f2 (f2 (f2 (fV 4) (fC (.int 8)) (zm .Mod)) (fV 0) (zm .Mult)) (f2 (fV 2) (fV 3) (zm .Mult)) (zm .Add)) (fV 1) (zm .Mod)) (zB (zb rfl) zL) (by omega) λ b hb => by
      have b0 := hb.1
      have b1 := hb.2
      exact ⟨[sI b, sI n, sI (q * (x / 8 % 8)), sI c, sI x], rfl, WD.e (zY (yF (xZ (zY (zb (i := 4) rfl) zg (by decide)) (zb (i := 0) rfl) (zP (by omega) (by omega)) (zP (by omega) (by omega))) (xZ (zb (i := 2) rfl) (zb (i := 3) rfl) (zP (by omega) (by omega)) (zP (by omega) (by omega)))) (zb (i := 1) rfl) (by omega)), Vb n1⟩
     exact ⟨[sI c, sI n, sI (q * (x / 8 % 8)), sI x], r, rfl, r2, r1⟩
   refine ⟨T, t1.1, hLD.congr hm0 (ljS n1) (λ _ _ _ _ => rfl) (λ c a hc ha => ?_), Zd rfl (zR (wH (Zw (zgR (zb (i := 0) rfl) zg) rfl) rfl) (zR s5 (v5 t2)))⟩
   rw [t1.2 c a hc ha]
   show (x % 8 * a + q * (x / 8 % 8) * c) % (n : Int) = (a * (x % 8) + c * q * (x / 8 % 8)) % (n : Int)
   rw [Int.mul_comm (x % 8) a, Int.mul_comm (q * (x / 8 % 8)) c, Int.mul_assoc c q]
 · have hk : 0 < k := by rcases h with ⟨rfl, _⟩ | ⟨rfl, _⟩ | ⟨rfl, _⟩ | ⟨rfl, _⟩ <;> omega
   obtain ⟨r, hr, hd, hi⟩ := zju (x := x) h h0 hn2 hm0
   obtain ⟨T, t1, t2⟩ := copies (n := n) (m := m) (s := true) (u := true) (cap := [none, some 4]) (as := [sI k, sI n, sI m, sI x, sT (zT r), none]) (fr := aC (fV 2) aN) hr hm (zB (zb rfl) zL) (λ b => ⟨[sI b, sT (zT r)], rfl, zb rfl⟩)
   exact ⟨T, t1.1, hd.congr hm0 hJ (λ _ _ _ _ => rfl) t1.2, Zd rfl (ziQ (zlQ (Zw (zgR (zb (i := 0) rfl) zg) (congrArg some (decide_eq_true hk))) (zR (Yh (p := 4) (zfp (WD.e (zb (i := 0) rfl)) (WD.e (zb (i := 1) rfl)) (WD.e (zb (i := 3) rfl)) hi) (zG rfl)) (v5 t2))))⟩
open L2 (ym)
theorem kinds_ok {x : Int} : ∃ (k : Int) (n : Nat) (k2 : Int) (n2 : Nat), KN k n /\ KN k2 n2 /\ n * n2 <= 8 /\ eK k2 = 0 /\ RE (vK [(true, .int x)]) (.tup [.int k, .int n, .int k2, .int n2]) := by
 have s1 : zJ true 1 (f2 (fV 0) (fC (.int 4)) (zm .Mod)) [sI x, none, none, none] = some (.nx [sI x, sI (x % 4), none, none]) := yz (i := 1) (zY (zb (i := 0) rfl) zg (by decide)) (zG rfl)
 obtain ⟨sz, z1, z8, s2⟩ : ∃ sz : Int, 1 <= sz /\ sz <= 8 /\ zJ true 2 (f2 (Zm (dC (f2 (fC (.int 1)) (f2 (f2 (fV 0) (fC (.int 4)) (zm .FloorDiv)) (fC (.int 5)) (zm .Mod)) (zm .Add)) (dC (f2 (fC (.int 1)) (f2 (f2 (fV 0) (fC (.int 4)) (zm .FloorDiv)) (fC (.int 8)) (zm .Mod)) (zm .Add)) dN))) (fP (aC (f2 (f2 (f2 (fV 0) (fC (.int 40)) (zm .FloorDiv)) (fC (.int 4)) (zm .Mod)) (fC (.int 1)) (yt .Eq)) aN) Xp) ixP) [sI x, sI (x % 4), none, none] = some (.nx [sI x, sI (x % 4), sI sz, none]) := by
  have w5 := yF (as := [sI x, sI (x % 4), none, none]) (zg (x := .int 1)) (zY (xR (zb (i := 0) rfl) (zg (x := .int 4)) (by decide) (zP (by decide) (by decide))) (zg (x := .int 5)) (by decide))
  have w8 := yF (as := [sI x, sI (x % 4), none, none]) (zg (x := .int 1)) (zY (xR (zb (i := 0) rfl) (zg (x := .int 4)) (by decide) (zP (by decide) (by decide))) (zg (x := .int 8)) (by decide))
  refine ⟨if (x / 40 % 4 == 1) = true then 1 + x / 4 % 8 else 1 + x / 4 % 5, by split <;> omega, by split <;> omega, yz (i := 2) (f2E (Wf (os := [lfI (1 + x / 4 % 5), lfI (1 + x / 4 % 8)]) (zV w5 (zV w8 yO)) (szl rfl) rfl rfl) (WD.e (vo (zB (zdh (c := x / 40 % 4 == 1) (zY (xR (zb (i := 0) rfl) (zg (x := .int 40)) (by decide) (zP (by decide) (by decide))) (zg (x := .int 4)) (by decide)) (zg (x := .int 1)) rfl) zL) rfl rfl)) zkg) (zG rfl)⟩
 obtain ⟨n, hk, n8, s3⟩ : ∃ n : Nat, KN (x % 4) n /\ n <= 8 /\ sIf (fT (f2 (fV 1) (fC (.int 3)) (yt .Eq))) (zJ true 2 (fC (.int 4))) sNx [sI x, sI (x % 4), sI sz, none] = some (.nx [sI x, sI (x % 4), sI n, none]) := by
  by_cases h3 : x % 4 = 3
  · exact ⟨4, by rw [h3]; exact .inr (.inr (.inr ⟨rfl, rfl⟩)), by decide, ZQ (eqT (zb (i := 1) rfl) zg (by simp [h3])) (yz (i := 2) zg (zG rfl))⟩
  · refine ⟨sz.toNat, ?_, by omega, (wH (eqT (zb (i := 1) rfl) zg (by simp [h3])) rfl).trans (by rw [show ((sz.toNat : Nat) : Int) = sz by omega]; rfl)⟩
    rcases (show x % 4 = 0 \/ x % 4 = 1 \/ x % 4 = 2 by omega) with h | h | h <;> rw [h]
    · exact .inl ⟨rfl, by omega⟩
    · exact .inr (.inl ⟨rfl, by omega⟩)
    · exact .inr (.inr (.inl ⟨rfl, by omega⟩))
 have s4 : zJ true 3 (f2 (fC (.int 1)) (f2 (f2 (fV 0) (fC (.int 160)) (zm .FloorDiv)) (fC (.int 3)) (zm .Mod)) (zm .Add)) [sI x, sI (x % 4), sI n, none] = some (.nx [sI x, sI (x % 4), sI n, sI (1 + x / 160 % 3)]) := yz (i := 3) (yF zg (zY (xR (zb (i := 0) rfl) zg (by decide) (zP (by decide) (by decide))) zg (by decide))) (zG rfl)
 have n1 := hk.n1
 obtain ⟨n2, p2, q2, s5⟩ : ∃ n2 : Nat, 1 <= n2 /\ n * n2 <= 8 /\ sIf (fT (f2 (f2 (fV 2) (fV 3) (zm .Mult)) (fC (.int 8)) (yt .Gt))) (zJ true 3 (fC (.int 1))) sNx [sI x, sI (x % 4), sI n, sI (1 + x / 160 % 3)] = some (.nx [sI x, sI (x % 4), sI n, sI n2]) := by
  have wm := zgR (xZ (as := [sI x, sI (x % 4), sI n, sI (1 + x / 160 % 3)]) (zb (i := 2) rfl) (zb (i := 3) rfl) (zP (i := (n : Int)) (by omega) (by omega)) (zP (i := 1 + x / 160 % 3) (by omega) (by omega))) (zg (x := .int 8))
  by_cases h : (8 : Int) < (n : Int) * (1 + x / 160 % 3)
  · exact ⟨1, by decide, by omega, ZQ (Zw wm (congrArg some (decide_eq_true h))) (yz (i := 3) zg (zG rfl))⟩
  · have e : (((1 + x / 160 % 3).toNat : Nat) : Int) = 1 + x / 160 % 3 := by omega
    refine ⟨(1 + x / 160 % 3).toNat, by omega, ?_, (wH (Zw wm (congrArg some (decide_eq_false h))) rfl).trans (by rw [e]; rfl)⟩
    have : ((n * (1 + x / 160 % 3).toNat : Nat) : Int) <= 8 := by rw [zzS, e]; omega
    omega
 have w7 := zY (as := [sI x, sI (x % 4), sI n, sI n2]) (xR (zb (i := 0) rfl) (zg (x := .int 480)) (by decide) (zP (by decide) (by decide))) (zg (x := .int 3)) (by decide)
 refine ⟨x % 4, n, x / 480 % 3, n2, hk, ?_, q2, ?_, Zd rfl (zR s1 (zR s2 (zR s3 (zR s4 (zR s5 (v5 (znv (os := [lfI (x % 4), lfI n, lfI (x / 480 % 3), lfI n2]) (zV (zb (i := 1) rfl) (zV (zb (i := 2) rfl) (zV w7 (zV (zb (i := 3) rfl) yO)))) (szl rfl) rfl rfl))))))) ⟩
 · rcases (show x / 480 % 3 = 0 \/ x / 480 % 3 = 1 \/ x / 480 % 3 = 2 by omega) with h | h | h <;> rw [h]
   · exact .inl ⟨rfl, by omega⟩
   · exact .inr (.inl ⟨rfl, by omega⟩)
   · exact .inr (.inr (.inl ⟨rfl, by omega⟩))
 · exact if_neg (by omega)
abbrev ch (c : Nat) : Str := ⟨#[c]⟩
theorem ziz : ∀ cs : List Nat, (Str.join "" (cs.map ch)).cps.toList = cs
 | [] => rfl
 | [x] => rfl
 | x :: y :: r => by
  show (ch x ++ "" ++ Str.join "" ((y :: r).map ch)).cps.toList = _
  rw [Str.cps_append, Str.cps_append, Array.toList_append, Array.toList_append, ziz (y :: r)]
  rfl
def lt (c : Int) (k : Nat) (at_ : Int) (i : Nat) : Nat := 97 + ((mx c i / 64 + (k : Int) * (if ((i : Int) == at_) = true then 1 else 0)) % 26).toNat
def wd (c : Int) (n : Nat) (at_ : Int) (k : Nat) : Str := Str.join "" (((List.range n).map (lt c k at_)).map ch)
theorem zpp {c at_ : Int} {n k j : Nat} (h0 : 0 <= at_) (h1 : at_ < n) (hk : k < 10) (hj : j < 10) (h : wd c n at_ k = wd c n at_ j) : k = j := by
 have h := congrArg (λ s : Str => s.cps.toList[at_.toNat]?) h
 simp only [wd, ziz, zzF] at h
 rw [List.getElem?_range (by omega)] at h
 have h : some (lt c k at_ at_.toNat) = some (lt c j at_ at_.toNat) := h
 injection h with h
 unfold lt at h
 rw [show ((at_.toNat : Nat) : Int) = at_ by omega] at h
 simp only [beq_self_eq_true, if_true, Int.mul_one] at h
 omega
theorem zkr {c : Int} : ∃ ss : List Str, ss.length = 10 /\ ss.Nodup /\ RE (vM [(true, .int c), (true, .int (10 : Nat))]) (.lst (ss.map D.str)) := by
 have z0 := Int.emod_nonneg c (show (8 : Int) ≠ 0 by decide)
 have z1 := Int.emod_lt_of_pos c (show (0 : Int) < 8 by decide)
 obtain ⟨n, hn, hn1, hn8⟩ : ∃ n : Nat, (n : Int) = 1 + c % 8 /\ 1 <= n /\ n <= 8 := ⟨(1 + c % 8).toNat, by omega, by omega, by omega⟩
 have t0 := Int.emod_nonneg (c / 8) (show (n : Int) ≠ 0 by omega)
 have t1 := Int.emod_lt_of_pos (c / 8) (show (0 : Int) < n by omega)
 have s3 := yz (st := true) (i := 3) (as := [sI c, sI (10 : Nat), sT (.str abc), none, none, none, none, none]) (yF (zg (x := .int 1)) (zY (zb (i := 0) rfl) (zg (x := .int 8)) (by decide))) (zG rfl)
 rw [<- hn] at s3
 have s4 := yz (st := true) (i := 4) (as := [sI c, sI (10 : Nat), sT (.str abc), sI n, none, none, none, none]) (zY (xR (zb (i := 0) rfl) (zg (x := .int 8)) (by decide) (zP (by decide) (by decide))) (zb (i := 3) (x := .int n) (s := true) rfl) (by omega)) (zG rfl)
 generalize hat : c / 8 % (n : Int) = at_ at t0 t1 s4
 obtain ⟨as', hf, os, e6, e7, rfl, ho⟩ := xq (g := gN 6) (f := (zE (zJ true 7 (yw (yx (aC (fV 3) aN) yC) [none, some 2, some 6, some 0, some 4] (gN 0) xG (f2 (fV 1) (f2 (f2 (f2 (zH (aC (fV 3) (aC (fV 0) aN)) zZ) (fC (.int 64)) (zm .FloorDiv)) (f2 (fV 2) (fP (aC (f2 (fV 0) (fV 4) (yt .Eq)) aN) Xp) (zm .Mult)) (zm .Add)) (fC (.int 26)) (zm .Mod)) ixP)))
  (wu (wX 5 (dC (zcU .str (fC (.str "")) (aC (fV 7) aN) zgh) dN) vN))))
  (λ i as => ∃ (os : List O) (e6 e7 : Option O), as = [sI c, sI (10 : Nat), sT (.str abc), sI n, sI at_, sN os, e6, e7] /\ Ows D.str (λ _ => True) os ((List.range i).map (wd c n at_)))
  (yR 0 10) 0 [sI c, sI (10 : Nat), sT (.str abc), sI n, sI at_, sN [], none, none] (λ i x as hx' hI => by
   obtain ⟨os, e6, e7, rfl, ho⟩ := hI
   obtain ⟨rfl, hi⟩ := xJ hx'
   rw [Nat.zero_add] at ho
   rw [Int.zero_add]
   obtain ⟨l, l1, l2, l3⟩ := znJ (λ c => D.str (ch c)) (Q := λ j a => a = lt c i at_ j) (n := n) (u := true) (as := [sI c, sI (10 : Nat), sT (.str abc), sI n, sI at_, sN os, sI i, e7]) (cap := [none, some 2, some 6, some 0, some 4]) (fr := aC (fV 3) aN) (fe := f2 (fV 1) (f2 (f2 (f2 (zH (aC (fV 3) (aC (fV 0) aN)) zZ) (fC (.int 64)) (zm .FloorDiv)) (f2 (fV 2) (fP (aC (f2 (fV 0) (fV 4) (yt .Eq)) aN) Xp) (zm .Mult)) (zm .Add)) (fC (.int 26)) (zm .Mod)) ixP) (zB (zb rfl) zL) (by omega) λ j hj => by
    have q0 := Int.emod_nonneg (mx c j / 64 + (i : Int) * (if ((j : Int) == at_) = true then 1 else 0)) (show (26 : Int) ≠ 0 by decide)
    have q1 := Int.emod_lt_of_pos (mx c j / 64 + (i : Int) * (if ((j : Int) == at_) = true then 1 else 0)) (show (0 : Int) < 26 by decide)
    refine ⟨[sI j, sT (.str abc), sI i, sI c, sI at_], _, rfl, WD.e (yG (zb (i := 1) rfl) (zY (yF (xR (v4 (zB (zb (i := 3) rfl) (zB (zb (i := 0) rfl) zL)) (zat (by omega) (by omega))) zg (by decide) (zP (by decide) (by decide))) (xZ (zb (i := 2) rfl) (vo (x := .int (if ((j : Int) == at_) = true then 1 else 0)) (zB (zdh (c := (j : Int) == at_) (zb (i := 0) rfl) (zb (i := 4) rfl) rfl) zL) rfl rfl) (zP (by omega) (by omega)) (by split <;> exact zP (by decide) (by decide)))) zg (by decide)) (zqc q0 q1) rfl), rfl⟩
   have el : l = (List.range n).map (lt c i at_) := by
    refine List.ext_getElem? λ j => ?_
    rw [zzF]
    by_cases hj : j < n
    · rw [List.getElem?_range hj, zzB (by omega), l2 j _ (zzB (by omega))]; rfl
    · rw [List.getElem?_eq_none (by omega), List.getElem?_eq_none (by rw [List.length_range]; omega)]; rfl
   have hm : WE (zcU .str (fC (.str "")) (aC (fV 7) aN) zgh) [sI c, sI (10 : Nat), sT (.str abc), sI n, sI at_, sN os, sI i, sT (.lst (l.map λ c => D.str (ch c)))] (.str (wd c n at_ i)) := by
    refine WD.e (zmy zg rfl (zB (zb (i := 7) rfl) zL) ?_ rfl)
    have e1 : l.map (λ c => D.str (ch c)) = (l.map ch).map D.str := by rw [List.map_map]; rfl
    rw [e1]
    show (zbO ((l.map ch).map D.str)).bind _ = _
    rw [zgA]
    show (if ((l.map ch).map (·.length)).sum + (l.map ch).length * 0 <= 16777216 then some (R0.im (.str (Txt.join "" (l.map ch)))) else none) = _
    have e2 := zrf (l.map ch) λ s m => by
     obtain ⟨a, _, rfl⟩ := List.mem_map.mp m
     rfl
    rw [if_pos (by rw [e2, zD]; omega), zkj, el]; rfl
   obtain ⟨os', o1, o2⟩ := zot (i := 5) (toD := D.str) (Q := λ _ => True) rfl ho (by rw [zD, List.length_range]; omega) hm trivial
   refine ⟨[sI c, sI (10 : Nat), sT (.str abc), sI n, sI at_, sN os, sI i, e7], rfl, _, zW (Yh (p := 7) l3 (zG rfl)) o2, os', _, _, rfl, ?_⟩
   rw [show 0 + i + 1 = i + 1 by omega, List.range_succ, List.map_append]
   exact o1)
  ⟨[], none, none, rfl, Ows.nil⟩
 rw [yJ, Nat.zero_add] at ho
 refine ⟨(List.range 10).map (wd c n at_), by rw [zD, List.length_range], ?_, Zd rfl (zR (yz (i := 2) zg (zG rfl)) (zR s3 (zR s4 (zR (wM (i := 5) (Xd yO (szl rfl)) (zG rfl)) (zR (wV (xT (zB (zb (i := 1) rfl) zL) (by decide) (by decide)) hf) (Ows.retB (i := 5) rfl ho))))))⟩
 exact List.pairwise_map.mpr ((List.nodup_range (n := 10)).imp_of_mem λ ha hb hne he => hne (zpp t0 t1 (List.mem_range.mp ha) (List.mem_range.mp hb) he))
open L2 (ym)
structure Par where
 c : Int
 h : Int
 w : Nat
 xs : List Int
 ys : List Int
 k : Int
 n : Nat
 k2 : Int
 n2 : Nat
 m : Nat
structure POk (P : Par) : Prop where
 k1 : KN P.k P.n
 k2 : KN P.k2 P.n2
 n8 : P.n * P.n2 <= 8
 e2 : eK P.k2 = 0
 m1 : 1 <= P.m
 m6 : P.m <= 6
 w4 : P.w <= 4
 xl : P.xs.length = 1 + 2 * P.w
 xS : ∀ x ∈ P.xs, St x
 yl : P.ys.length = 13
 yS : ∀ x ∈ P.ys, St x
abbrev Par.N (P : Par) : Nat := P.n * P.n2
theorem POk.n1 {P : Par} (h : POk P) : 1 <= P.n := h.k1.n1
theorem POk.p2 {P : Par} (h : POk P) : 1 <= P.n2 := h.k2.n1
theorem POk.a8 {P : Par} (h : POk P) : P.n <= 8 := zzL (Nat.le_mul_of_pos_right _ h.p2) h.n8
theorem POk.b8 {P : Par} (h : POk P) : P.n2 <= 8 := zzL (Nat.le_mul_of_pos_left _ h.n1) h.n8
theorem POk.N1 {P : Par} (h : POk P) : 1 <= P.N := Nat.mul_pos h.n1 h.p2
abbrev Z (P : Par) (e11 e12 e13 e14 e15 e16 e17 e18 e19 e20 e21 e22 e23 e24 e25 e26 e27 : Option O) : AS :=
 [sI P.c, sI P.h, sI P.w, sT (zT P.xs), sT (zT P.ys), sI P.k, sI P.n, sI P.k2, sI P.n2, sI P.m, sI P.N, e11, e12, e13, e14, e15, e16, e17, e18, e19, e20, e21, e22, e23, e24, e25, e26, e27]
def Rq (r : Option Out) (Q : D -> Prop) : Prop := ∃ x, Rt r x /\ Q x
theorem Zj {f g : SF} {as as1 : AS} {Q : D -> Prop} (h1 : f as = some (.nx as1)) (h2 : Rq (g as1) Q) : Rq (zE f g as) Q := by
 obtain ⟨x, h, q⟩ := h2
 exact ⟨x, zR h1 h, q⟩
theorem zoi {f : SF} {as : AS} {i : Nat} {o : O} {Q : D -> Prop} (h : as[i]? = some (some o)) (k : Rq (f (as.set i (some o.frz))) Q) : Rq (zdT i f as) Q := by
 unfold zdT
 rw [h]; exact k
theorem znp {c h : Int} {w : Nat} (hw : w <= 4) {f : SF} {Q : D -> Prop} (K : ∀ P : Par, POk P -> P.w = w -> P.h = h -> Rq (f (Z P none none none none none none none none none none none none none none none none none)) Q) :
 Rq ((zE (zJ true 3 (zH (aC (fV 0) (aC (f2 (fC (.int 1)) (f2 (fC (.int 2)) (fV 2) (zm .Mult)) (zm .Add)) aN)) yL))
 (zE (zJ true 4 (zH (aC (fV 1) (aC (fC (.int 13)) aN)) yL))
 (zE (zfD (zH (aC (f2 (fV 3) (fC (.int 0)) ixP) aN) vK) (gT 4 (gsC (gN 5) (gsC (gN 6) (gsC (gN 7) (gsC (gN 8) gsN))))))
 (zE (zJ true 9 (f2 (f2 (fC (.int 1)) (f2 (f2 (fV 4) (fC (.int 0)) ixP) (fC (.int 4)) (zm .Mod)) (zm .Add)) (f2 (fC (.int 2)) (fP (aC (f2 (f2 (f2 (f2 (fV 4) (fC (.int 0)) ixP) (fC (.int 4)) (zm .FloorDiv)) (fC (.int 8)) (zm .Mod)) (fC (.int 5)) (yt .Eq)) aN) Xp) (zm .Mult)) (zm .Add)))
 (zE (zJ true 10 (f2 (fV 6) (fV 8) (zm .Mult))) f))))) (vG 28 [(true, .int c), (true, .int h), (true, .int w)])) Q := by
 have w1 := yF (as := vG 28 [(true, .int c), (true, .int h), (true, .int w)]) (zg (x := .int 1)) (xZ (zg (x := .int 2)) (zb (i := 2) (s := true) (x := .int w) rfl) (zP (by decide) (by decide)) (zP (by omega) (by omega)))
 rw [show (1 : Int) + 2 * (w : Int) = ((1 + 2 * w : Nat) : Int) by omega] at w1
 obtain ⟨xs, xl, xS, wx⟩ := stE (m := 1 + 2 * w) (by omega) (WD.e (zb (i := 0) (as := vG 28 [(true, .int c), (true, .int h), (true, .int w)]) rfl)) (WD.e w1)
 obtain ⟨ys, yl, yS, wy⟩ := stE (m := 13) (as := [sI c, sI h, sI w, sT (zT xs), none, none, none, none, none, none, none, none, none, none, none, none, none, none, none, none, none, none, none, none, none, none, none, none]) (b := fC (.int 13)) (by omega) (WD.e (zb (i := 1) rfl)) (WD.e zg)
 obtain ⟨x0, a0, b0⟩ := at2 xS (k := 0) (by omega) (by omega)
 obtain ⟨y0, c0, d0⟩ := at2 yS (k := 0) (by omega) (by omega)
 obtain ⟨k, n, k2, n2, h1, h2, h3, h4, h5⟩ := kinds_ok (x := x0)
 have hm0 : 1 <= 1 + y0 % 4 + 2 * (if (y0 / 4 % 8 == 5) = true then 1 else 0) /\ 1 + y0 % 4 + 2 * (if (y0 / 4 % 8 == 5) = true then 1 else 0) <= 6 := by split <;> omega
 obtain ⟨m, hm⟩ : ∃ m : Nat, (m : Int) = 1 + y0 % 4 + 2 * (if (y0 / 4 % 8 == 5) = true then 1 else 0) := ⟨(1 + y0 % 4 + 2 * (if (y0 / 4 % 8 == 5) = true then 1 else 0)).toNat, by omega⟩
 have P1 : POk ⟨c, h, w, xs, ys, k, n, k2, n2, m⟩ := ⟨h1, h2, h3, h4, by show 1 <= m; omega, by show m <= 6; omega, hw, xl, xS, yl, yS⟩
 have A8 : n <= 8 := P1.a8
 have B8 : n2 <= 8 := P1.b8
 have y4 : WD (f2 (fV 4) (fC (.int 0)) ixP) [sI c, sI h, sI w, sT (zT xs), sT (zT ys), sI k, sI n, sI k2, sI n2, none, none, none, none, none, none, none, none, none, none, none, none, none, none, none, none, none, none, none] true (.int y0) := yG (zb (i := 4) rfl) zg c0 rfl
 have s9 := yz (st := true) (i := 9) (yF (yF (zg (x := .int 1)) (zY y4 (zg (x := .int 4)) (by decide))) (xZ (zg (x := .int 2)) (vo (g := Xp) (x := .int (if (y0 / 4 % 8 == 5) = true then 1 else 0)) (zB (zdh (c := y0 / 4 % 8 == 5) (zY (xR y4 (zg (x := .int 4)) (by decide) (zP (by decide) (by decide))) (zg (x := .int 8)) (by decide)) (zg (x := .int 5)) rfl) zL) rfl rfl) (zP (by decide) (by decide)) (by split <;> exact zP (by decide) (by decide)))) (zG rfl)
 rw [<- hm] at s9
 have s10 := yz (st := true) (i := 10) (as := [sI c, sI h, sI w, sT (zT xs), sT (zT ys), sI k, sI n, sI k2, sI n2, sI m, none, none, none, none, none, none, none, none, none, none, none, none, none, none, none, none, none, none]) (xZ (zb (i := 6) rfl) (zb (i := 8) rfl) (zP (i := (n : Int)) (by omega) (by omega)) (zP (i := (n2 : Int)) (by omega) (by omega))) (zG rfl)
 rw [<- zzS] at s10
 exact Zj (Yh (p := 3) wx (zG rfl)) (Zj (Yh (p := 4) wy (zG rfl)) (Zj (zrq (XR (V3 (WD.e (zb (i := 3) rfl)) (WD.e zg) a0) h5) rfl) (Zj s9 (Zj s10 (K ⟨c, h, w, xs, ys, k, n, k2, n2, m⟩ P1 rfl rfl)))))
theorem zlI {P : Par} (h : POk P) {f : SF} {Q : D -> Prop} (K : ∀ (F : List Int) (e11 e13 : Option O), F.Perm (Yw P.N) -> Rq (f (Z P e11 (sT (zT F)) e13 none none none none none none none none none none none none none none)) Q) :
 Rq ((zE (zJ false 11 (fP (aC (fV 10) aN) lrP))
 (zE (zJ false 12 (Zm dN))
 (zE (yZ (yx (aC (fV 10) aN) yC) (gN 13) (wu (wX 12 (dC (wX 11 (dC (f2 (f2 (fV 4) (f2 (fC (.int 1)) (fV 13) (zm .Add)) ixP) (fP (aC (fV 11) aN) Y9) (zm .Mod)) dN) We) dN) vN)))
 (zdT 12 f)))) (Z P none none none none none none none none none none none none none none none none none)) Q := by
 have N8 := h.n8
 obtain ⟨as', hf, L, F, e13, rfl, hp, hlen⟩ := xq (g := gN 13) (f := wu (wX 12 (dC (wX 11 (dC (f2 (f2 (fV 4) (f2 (fC (.int 1)) (fV 13) (zm .Add)) ixP) (fP (aC (fV 11) aN) Y9) (zm .Mod)) dN) We) dN) vN))
  (λ i as => ∃ (L F : List Int) (e13 : Option O), as = Z P (sN (L.map lfI)) (sN (F.map lfI)) e13 none none none none none none none none none none none none none none /\ (L ++ F).Perm (Yw P.N) /\ L.length + i = P.N)
  (yR 0 P.N) 0 (Z P (sN ((Yw P.N).map lfI)) (sN []) none none none none none none none none none none none none none none none) (λ i x as hx' hI => by
   obtain ⟨L, F, e13, rfl, hp, hlen⟩ := hI
   obtain ⟨rfl, hi⟩ := xJ hx'
   obtain ⟨y, a1, b1⟩ := at2 h.yS (k := 1 + (0 + i)) (by omega) (by rw [h.yl]; have : i < P.n * P.n2 := hi; omega)
   have hL0 : 0 < L.length := by have : i < P.N := hi; omega
   have hL8 : L.length <= 8 := zzL (show L.length <= P.N by omega) N8
   have l0 : (0 : Int) < ((L.map lfI).length : Int) := by rw [zD]; omega
   have z0 := Int.emod_nonneg y (show ((L.map lfI).length : Int) ≠ 0 by omega)
   have z1 := Int.emod_lt_of_pos y l0
   have hk : (y % ((L.map lfI).length : Int)).toNat < L.length := by rw [zD] at z0 z1 ⊢; omega
   generalize hkk : (y % ((L.map lfI).length : Int)).toNat = k at hk
   have pop := zlU (as := Z P (sN (L.map lfI)) (sN (F.map lfI)) (sI (0 + i)) none none none none none none none none none none none none none none) (i := 11) (os := L.map lfI) (o := lfI L[k]) rfl (zY (yG (zb (i := 4) rfl) (yF zg (zb (i := 13) rfl)) a1 rfl) (zrW (i := 11) rfl) l0) z0 z1 (by rw [zD]; exact Nat.lt_of_le_of_lt hL8 (by decide)) (by rw [hkk, zzF, zzB hk]; rfl)
   rw [hkk, show (L.map lfI).eraseIdx k = (L.eraseIdx k).map lfI by rw [List.eraseIdx_eq_take_drop_succ, List.eraseIdx_eq_take_drop_succ, List.map_append, List.map_take, List.map_drop]] at pop
   have hF : F.length <= 8 := by
    have e := hp.length_eq
    rw [zzG, zD, List.length_range] at e
    have : P.N <= 8 := N8
    omega
   have ap := zcy (i := 12) (os := F.map lfI) (as := Z P (sN (L.map lfI)) (sN (F.map lfI)) (sI (0 + i)) none none none none none none none none none none none none none none) rfl pop rfl (by rw [zD]; exact ym (by omega))
   rw [<- zar] at ap
   refine ⟨Z P (sN (L.map lfI)) (sN (F.map lfI)) (sI (0 + i)) none none none none none none none none none none none none none none, rfl, _, ap, L.eraseIdx k, F ++ [L[k]], _, rfl, ?_, by rw [List.length_eraseIdx_of_lt hk]; omega⟩
   rw [<- List.append_assoc]
   refine (List.perm_append_singleton _ _).trans ?_
   rw [<- List.cons_append]
   exact ((zcK L k hk).append_right F).trans hp)
  ⟨Yw P.N, [], none, rfl, by rw [List.append_nil], by rw [zD, List.length_range]; rfl⟩
 rw [yJ] at hlen
 have hL : L = [] := List.eq_nil_of_length_eq_zero (by omega)
 subst hL
 have s2 := wM (i := 11) (as := Z P none none none none none none none none none none none none none none none none none) (zql (a := fV 10) (x := .int P.N) (g := lrP) (zs := (Yw P.N).map D.int) (WD.e (zb (i := 10) rfl)) (by
  show (if (0 : Int) <= P.N /\ (P.N : Int) <= 100000 then _ else _) = _
  rw [if_pos ⟨by omega, by have : P.N <= 8 := N8; omega⟩, List.map_map]; rfl)) (zG rfl)
 rw [zia] at s2
 have hfz : (O.nd .ls (F.map lfI)).frz = .lf true (zT F) := by
  show O.lf (O.nd .ls (F.map lfI)).str (O.nd .ls (F.map lfI)).toD = _
  rw [(zax F).1, (zax F).2]
 refine Zj s2 (Zj (wM (i := 12) (Xd yO (szl rfl)) (zG rfl)) (Zj (wV (xT (zB (zb (i := 10) rfl) zL) (by omega) (by have : P.N <= 8 := N8; omega)) (by rw [Int.toNat_natCast]; exact hf)) (zoi (i := 12) rfl ?_)))
 rw [hfz]
 exact K F _ _ hp
open L2 (ym)
abbrev Par.j (P : Par) : Int -> Int -> Int := jB P.n2 (jK P.k P.n) (jK P.k2 P.n2)
abbrev Par.e (P : Par) : Int := eK P.k * P.n2 + eK P.k2
theorem POk.lj {P : Par} (h : POk P) : LJ P.N P.j P.e := ljB (ljK h.k1) (ljK h.k2) h.p2
theorem zen {as : AS} {F : List Int} {i : Nat} {fi : IF} {xs : List It1} (hF : F.length <= 8) (hx : xs.length <= 8) (h1 : fi as = some (xs, as)) (h2 : ∀ y ∈ xs, ∃ d, y = (true, d)) (hc : ∀ d : D, gN 0 (true, d) (Yy [none, some i] as) = some [sT d, sT (zT F)]) :
 yw fi [none, some i] (gN 0) xG (yw (Yx (fV 1)) [none] (gN 0) xG (fC (.int 0))) as = some (.ow (ZW (List.replicate xs.length (List.replicate F.length (0 : Int)))), as) := by
 refine zeD h1 (szs (by omega)) (zgD xs λ y m => ?_)
 obtain ⟨d, rfl⟩ := h2 y m
 refine ⟨_, hc d, ?_⟩
 have e := zgP (as0 := [none]) (F.map D.int) (λ d => ⟨[sT d], rfl⟩)
 rw [zD] at e
 exact zeD (zlN (WD.e (zb (i := 1) rfl))) (szs (by rw [zD, zD]; omega)) e
theorem zmA {P : Par} (h : POk P) {F : List Int} (hF : F.Perm (Yw P.N)) {e11 e13 : Option O} {f : SF} {Q : D -> Prop} (K : ∀ (J : TZ) (e15 e16 e17 : Option O), Tab P.N P.N J -> (∀ a b, InR P.N a -> InR P.N b -> jAt J (rAt F a) (rAt F b) = rAt F (P.j a b)) -> Rq (f (Z P e11 (sT (zT F)) e13 (some (ZW J)) e15 e16 e17 none none none none none none none none none none)) Q) :
 Rq ((zE (zJ false 14 (yw (Yx (fV 12)) [none, some 12] (gN 0) xG (yw (Yx (fV 1)) [none] (gN 0) xG (fC (.int 0)))))
 (zE (yZ (yx (aC (fV 10) aN) yC) (gN 15) (yZ (yx (aC (fV 10) aN) yC) (gN 16) (zE (zJ true 17 (f2 (zH (aC (fV 5) (aC (fV 6) (aC (f2 (fV 15) (fV 8) (zm .FloorDiv)) (aC (f2 (fV 16) (fV 8) (zm .FloorDiv)) aN)))) zN) (fV 8) (zm .Mult)))
 (zE (zJ true 17 (f2 (fV 17) (zH (aC (fV 7) (aC (fV 8) (aC (f2 (fV 15) (fV 8) (zm .Mod)) (aC (f2 (fV 16) (fV 8) (zm .Mod)) aN)))) zN) (zm .Add)))
 (VV 14 (xAt 12 (xV 15)) (xAt 12 (xV 16)) (xAt 12 (xV 17)))))))
 f)) (Z P e11 (sT (zT F)) e13 none none none none none none none none none none none none none none)) Q := by
 have N8 : P.N <= 8 := h.n8
 have N1 := h.N1
 have p2 := h.p2
 have b8 := h.b8
 have a8 := h.a8
 obtain ⟨hR, _⟩ := Yt hF
 have hl := hR.1
 have hz := zen (as := Z P e11 (sT (zT F)) e13 none none none none none none none none none none none none none none) (F := F) (i := 12) (xs := (F.map D.int).map λ d => (true, d)) (by omega) (by rw [zD, zD]; omega) (zlN (WD.e (zb (i := 12) rfl))) (λ y m => by
  obtain ⟨d, _, rfl⟩ := List.mem_map.mp m
  exact ⟨d, rfl⟩) (λ d => rfl)
 rw [zD, zD, hl] at hz
 have lj := h.lj
 have lk1 := ljK h.k1
 have lk2 := ljK h.k2
 have pN : ∀ a, InR P.N a -> InR P.N (rAt F a) := λ a ha => (rowAt hR ha).2
 have pi : ∀ a a', InR P.N a -> InR P.N a' -> rAt F a = rAt F a' -> a = a' := λ a a' ha ha' e => zgc hF ha ha' e
 obtain ⟨J, e15, e16, e17, hf, t1, t2⟩ := ziu (v := 15) (K := P.N) (n := P.N) (L := P.N) (M := P.N) (S := λ T x y z => Z P e11 (sT (zT F)) e13 (some (ZW T)) x y z none none none none none none none none none none) (f := rAt F) (g := rAt F) (w := λ a b => rAt F (P.j a b)) (F := yZ (yx (aC (fV 10) aN) yC) (gN 16) (zE (zJ true 17 (f2 (zH (aC (fV 5) (aC (fV 6) (aC (f2 (fV 15) (fV 8) (zm .FloorDiv)) (aC (f2 (fV 16) (fV 8) (zm .FloorDiv)) aN)))) zN) (fV 8) (zm .Mult)))
  (zE (zJ true 17 (f2 (fV 17) (zH (aC (fV 7) (aC (fV 8) (aC (f2 (fV 15) (fV 8) (zm .Mod)) (aC (f2 (fV 16) (fV 8) (zm .Mod)) aN)))) zN) (zm .Add)))
  (VV 14 (xAt 12 (xV 15)) (xAt 12 (xV 16)) (xAt 12 (xV 17)))))) (x0 := none) (y0 := none) (z0 := none) pN pi pN (λ _ _ _ _ _ => rfl) (λ T a y z hT ha => by
   obtain ⟨T', y', z', k1, k2, k3, k4⟩ := zkb (v := 16) (K := P.N) (n := P.N) (L := P.N) (S := λ T y z => Z P e11 (sT (zT F)) e13 (some (ZW T)) (sI a) y z none none none none none none none none none none) (p := rAt F a) (g := rAt F) (w := λ b => rAt F (P.j a b)) (f := (zE (zJ true 17 (f2 (zH (aC (fV 5) (aC (fV 6) (aC (f2 (fV 15) (fV 8) (zm .FloorDiv)) (aC (f2 (fV 16) (fV 8) (zm .FloorDiv)) aN)))) zN) (fV 8) (zm .Mult)))
  (zE (zJ true 17 (f2 (fV 17) (zH (aC (fV 7) (aC (fV 8) (aC (f2 (fV 15) (fV 8) (zm .Mod)) (aC (f2 (fV 16) (fV 8) (zm .Mod)) aN)))) zN) (zm .Add)))
  (VV 14 (xAt 12 (xV 15)) (xAt 12 (xV 16)) (xAt 12 (xV 17)))))) (x0 := y) (y0 := z) (pN a ha) pN pi (λ b hb => pN _ (lj.cl a b ha hb)) (λ _ _ _ _ => rfl) (λ T b z hT hb => by
   have ua := ye p2 ha
   have ub := ye p2 hb
   have c1 := lk1.cl _ _ ua.1 ub.1
   have j1 := zaY h.k1 ua.1 ub.1
   have j2 := zaY h.k2 ua.2 ub.2
   have b2 : (P.n2 : Int).natAbs < big := zP (by omega) (by omega)
   have s1 := yz (st := true) (i := 17) (as := Z P e11 (sT (zT F)) e13 (some (ZW T)) (sI a) (sI b) z none none none none none none none none none none) (xZ (v4 (zB (zb (i := 5) rfl) (zB (zb (i := 6) rfl) (zB (xR (zb (i := 15) rfl) (zb (i := 8) rfl) (by omega) b2) (zB (xR (zb (i := 16) rfl) (zb (i := 8) rfl) (by omega) b2) zL)))) j1) (zb (i := 8) rfl) (zP (by have := c1.1; omega) (by have := c1.2; omega)) b2) (zG rfl)
   have s2 := yz (st := true) (i := 17) (as := Z P e11 (sT (zT F)) e13 (some (ZW T)) (sI a) (sI b) (sI (jK P.k P.n (a / P.n2) (b / P.n2) * P.n2)) none none none none none none none none none none) (yF (zb (i := 17) rfl) (v4 (zB (zb (i := 7) rfl) (zB (zb (i := 8) rfl) (zB (zY (zb (i := 15) rfl) (zb (i := 8) rfl) (by omega)) (zB (zY (zb (i := 16) rfl) (zb (i := 8) rfl) (by omega)) zL)))) j2)) (zG rfl)
   exact ⟨_, zW s1 (zW s2 (zhT (i := 14) (T := T) hT (pN a ha) (pN b hb) (zka (i := 12) rfl (zbx (i := 15) rfl) hR ha) (zka (i := 12) rfl (zbx (i := 16) rfl) hR hb) (zka (i := 12) rfl (zbx (i := 17) rfl) hR (lj.cl a b ha hb)) rfl))⟩) hT
   refine ⟨T', y', z', ?_, k2, k3, k4⟩
   rw [Zv (v := 10) (n := P.N) rfl (by omega)]
   exact k1) (zgo N1)
 refine Zj (wM (i := 14) hz (zG rfl)) (Zj (wV (xT (zB (zb (i := 10) rfl) zL) (by omega) (by omega)) (by rw [Int.toNat_natCast]; exact hf)) (K J e15 e16 e17 t1 t2))
open L2 (ym)
theorem perm_back {F : List Int} {n : Nat} (h : F.Perm (Yw n)) : ∃ B : Int -> Int, (∀ a, InR n a -> InR n (B a)) /\ ∀ a, InR n a -> rAt F (B a) = a := by
 obtain ⟨hR, hm⟩ := Yt h
 refine ⟨λ a => (F.idxOf a : Nat), λ a ha => ?_, λ a ha => ?_⟩
 · have := List.idxOf_lt_length_of_mem (hm a ha.1 ha.2)
   rw [hR.1] at this
   exact ⟨Int.natCast_nonneg _, Int.ofNat_lt.mpr this⟩
 · have hl := List.idxOf_lt_length_of_mem (hm a ha.1 ha.2)
   rw [vV (by rw [Int.toNat_natCast]; exact hl)]
   simp only [Int.toNat_natCast]
   exact List.getElem_idxOf hl
abbrev Good (P : Par) (F : List Int) (J : TZ) (p : Str × TZ) : Prop := Tab P.m P.N p.2 /\ LD P.N P.m (jAt J) (rAt F P.e) (jAt p.2)
abbrev Y (P : Par) (F : List Int) (J : TZ) (e11 e16 : Option O) (ss : List Str) (os : List O) (e13 e15 e17 e20 e21 e22 e23 : Option O) : AS := Z P e11 (sT (zT F)) e13 (some (ZW J)) e15 e16 e17 (sT (.lst (ss.map D.str))) (sN os) e20 e21 e22 e23 none none none none
abbrev mdI : SF := (zE (zJ true 17 (f2 (f2 (fV 20) (fV 23) ixP) (f2 (fV 15) (fV 8) (zm .FloorDiv)) ixP))
 (zE (zJ true 17 (f2 (f2 (fV 17) (fV 8) (zm .Mult)) (f2 (f2 (fV 21) (fV 23) ixP) (f2 (fV 15) (fV 8) (zm .Mod)) ixP) (zm .Add)))
 (VV 22 (xV 23) (xAt 12 (xV 15)) (xAt 12 (xV 17)))))
theorem zlj {P : Par} (h : POk P) {F : List Int} (hF : F.Perm (Yw P.N)) {J T1 T2 : TZ} {e11 e16 : Option O} {ss : List Str} {os : List O} {e13 e15 e17 e23 : Option O} (t1 : Tab P.m P.n T1) (t2 : Tab P.m P.n2 T2) (l1 : LD P.n P.m (jK P.k P.n) (eK P.k) (jAt T1)) (l2 : LD P.n2 P.m (jK P.k2 P.n2) (eK P.k2) (jAt T2)) :
 ∃ (T : TZ) (x y z : Option O), forL (gN 23) (yZ (yx (aC (fV 10) aN) yC) (gN 15) mdI) (yR 0 P.m) (Y P F J e11 e16 ss os e13 e15 e17 (sT (zX T1)) (sT (zX T2)) (some (ZW (List.replicate P.m (List.replicate P.N 0)))) e23) = some (.nx (Y P F J e11 e16 ss os e13 y z (sT (zX T1)) (sT (zX T2)) (some (ZW T)) x)) /\ Tab P.m P.N T /\ ∀ c a, InR P.m c -> InR P.N a -> jAt T c (rAt F a) = rAt F (dB P.n2 (jAt T1) (jAt T2) c a) := by
 have N8 : P.N <= 8 := h.n8
 have N1 := h.N1
 have p2 := h.p2
 have b8 := h.b8
 have a8 := h.a8
 obtain ⟨hR, _⟩ := Yt hF
 have ld := ldB (ljK h.k1) (ljK h.k2) p2 l1 l2
 have pN : ∀ a, InR P.N a -> InR P.N (rAt F a) := λ a ha => (rowAt hR ha).2
 have pi : ∀ a a', InR P.N a -> InR P.N a' -> rAt F a = rAt F a' -> a = a' := λ a a' ha ha' e => zgc hF ha ha' e
 exact ziu (v := 23) (K := P.m) (n := P.N) (L := P.N) (M := P.m) (S := λ T x y z => Y P F J e11 e16 ss os e13 y z (sT (zX T1)) (sT (zX T2)) (some (ZW T)) x) (f := λ c => c) (g := rAt F) (w := λ c a => rAt F (dB P.n2 (jAt T1) (jAt T2) c a)) (λ _ ha => ha) (λ _ _ _ _ e => e) pN (λ _ _ _ _ _ => rfl) (λ T c y z hT hc => by
  obtain ⟨T', y', z', k1, k2, k3, k4⟩ := zkb (v := 15) (K := P.m) (n := P.N) (L := P.N) (S := λ T y z => Y P F J e11 e16 ss os e13 y z (sT (zX T1)) (sT (zX T2)) (some (ZW T)) (sI c)) (p := c) (g := rAt F) (w := λ a => rAt F (dB P.n2 (jAt T1) (jAt T2) c a)) (f := mdI) (x0 := y) (y0 := z) hc pN pi (λ a ha => pN _ (ld.cl c a hc ha)) (λ _ _ _ _ => rfl) (λ T a z hT ha => by
   have ua := ye p2 ha
   have b2 : (P.n2 : Int).natAbs < big := zP (by omega) (by omega)
   obtain ⟨q1, r1⟩ := V9 (as := Y P F J e11 e16 ss os e13 (sI a) z (sT (zX T1)) (sT (zX T2)) (some (ZW T)) (sI c)) t1 hc ua.1 (zb (i := 20) rfl) (zb (i := 23) rfl) (xR (zb (i := 15) rfl) (zb (i := 8) rfl) (by omega) b2)
   have s1 := yz (st := true) (i := 17) q1 (zG rfl)
   obtain ⟨q2, r2⟩ := V9 (as := Y P F J e11 e16 ss os e13 (sI a) (sI (jAt T1 c (a / P.n2))) (sT (zX T1)) (sT (zX T2)) (some (ZW T)) (sI c)) t2 hc ua.2 (zb (i := 21) rfl) (zb (i := 23) rfl) (zY (zb (i := 15) rfl) (zb (i := 8) rfl) (by omega))
   have s2 := yz (st := true) (i := 17) (yF (xZ (zb (i := 17) rfl) (zb (i := 8) rfl) (zP (i := jAt T1 c (a / P.n2)) (by have := r1.1; omega) (by have := r1.2; omega)) b2) q2) (zG rfl)
   exact ⟨_, zW s1 (zW s2 (zhT (i := 22) (T := T) hT hc (pN a ha) (zbx (i := 23) rfl) (zka (i := 12) rfl (zbx (i := 15) rfl) hR ha) (zka (i := 12) rfl (zbx (i := 17) rfl) hR (ld.cl c a hc ha)) rfl))⟩) hT
  refine ⟨T', y', z', ?_, k2, k3, k4⟩
  rw [Zv (v := 10) (n := P.N) rfl (by omega)]
  exact k1) (zgo N1)
abbrev ddB : SF := (zE (zJ true 20 (zH (aC (fV 5) (aC (fV 6) (aC (fV 9) (aC (f2 (fV 3) (f2 (fC (.int 1)) (f2 (fC (.int 2)) (fV 13) (zm .Mult)) (zm .Add)) ixP) aN)))) yM))
 (zE (zJ true 21 (zH (aC (fV 7) (aC (fV 8) (aC (fV 9) (aC (f2 (fV 3) (f2 (fC (.int 2)) (f2 (fC (.int 2)) (fV 13) (zm .Mult)) (zm .Add)) ixP) aN)))) yM))
 (zE (zJ false 22 (yw (yx (aC (fV 9) aN) yC) [none, some 12] (gN 0) xG (yw (Yx (fV 1)) [none] (gN 0) xG (fC (.int 0)))))
 (zE (yZ (yx (aC (fV 9) aN) yC) (gN 23) (yZ (yx (aC (fV 10) aN) yC) (gN 15) mdI))
 (wu (wX 19 (dC (wR (dC (f2 (fV 18) (fV 13) ixP) (dC (fV 22) dN))) dN) vN))))))
theorem take_snoc {α : Type} {l : List α} {i : Nat} {a : α} (h : l[i]? = some a) : l.take (i + 1) = l.take i ++ [a] := by rw [List.take_succ, h]; rfl
theorem zlD {P : Par} (h : POk P) {F : List Int} (hF : F.Perm (Yw P.N)) {J : TZ} (hJ : ∀ a b, InR P.N a -> InR P.N b -> jAt J (rAt F a) (rAt F b) = rAt F (P.j a b)) {e11 e16 : Option O} {ss : List Str} (hs : ss.length = 10) {i : Nat} (hi : i < P.w) {os : List O} {Ds : DD} (ho : Ows Xm (Good P F J) os Ds) (hD : Ds.map (·.1) = ss.take i) {e15 e17 e20 e21 e22 e23 : Option O} :
 ∃ (os' : List O) (Ds' : DD) (e15' e17' e20' e21' e22' e23' : Option O), ddB (Y P F J e11 e16 ss os (sI i) e15 e17 e20 e21 e22 e23) = some (.nx (Y P F J e11 e16 ss os' (sI i) e15' e17' e20' e21' e22' e23')) /\ Ows Xm (Good P F J) os' Ds' /\ Ds'.map (·.1) = ss.take (i + 1) := by
 have N8 : P.N <= 8 := h.n8
 have w4 := h.w4
 have m1 := h.m1
 have m6 := h.m6
 obtain ⟨hR, _⟩ := Yt hF
 have hxl := h.xl
 obtain ⟨x1, a1, b1⟩ := at2 h.xS (k := 1 + 2 * i) (by omega) (by omega)
 obtain ⟨x2, a2, b2⟩ := at2 h.xS (k := 2 + 2 * i) (by omega) (by omega)
 obtain ⟨T1, t1, l1, r1⟩ := zde h.k1 h.a8 m1 (by omega) b1
 obtain ⟨T2, t2, l2, r2⟩ := zde h.k2 h.b8 m1 (by omega) b2
 have bi : ((i : Nat) : Int).natAbs < big := zP (by omega) (by omega)
 have s20 := Yh (p := 20) (as := Y P F J e11 e16 ss os (sI i) e15 e17 e20 e21 e22 e23) (zks (WD.e (zb (i := 5) rfl)) (WD.e (zb (i := 6) rfl)) (WD.e (zb (i := 9) rfl)) (WD.e (yG (zb (i := 3) rfl) (yF (zg (x := .int 1)) (xZ (zg (x := .int 2)) (zb (i := 13) rfl) (zP (by decide) (by decide)) bi)) a1 rfl)) r1) (zG rfl)
 have s21 := Yh (p := 21) (as := Y P F J e11 e16 ss os (sI i) e15 e17 (sT (zX T1)) e21 e22 e23) (zks (WD.e (zb (i := 7) rfl)) (WD.e (zb (i := 8) rfl)) (WD.e (zb (i := 9) rfl)) (WD.e (yG (zb (i := 3) rfl) (yF (zg (x := .int 2)) (xZ (zg (x := .int 2)) (zb (i := 13) rfl) (zP (by decide) (by decide)) bi)) a2 rfl)) r2) (zG rfl)
 have hz := zen (as := Y P F J e11 e16 ss os (sI i) e15 e17 (sT (zX T1)) (sT (zX T2)) e22 e23) (F := F) (i := 12) (xs := yR 0 P.m) (by rw [hR.1]; exact N8) (by rw [yJ]; omega) (by
  have := xT (as := Y P F J e11 e16 ss os (sI i) e15 e17 (sT (zX T1)) (sT (zX T2)) e22 e23) (zB (zb (i := 9) (x := .int P.m) (s := true) rfl) zL) (by omega) (by omega)
  rw [Int.toNat_natCast] at this
  exact this) (λ y m => by
  obtain ⟨b, rfl, _, _⟩ := zcz m
  exact ⟨_, rfl⟩) (λ d => rfl)
 rw [yJ, hR.1] at hz
 have s22 := wM (i := 22) hz (zG rfl)
 obtain ⟨T, x, y, z, hf, q1, q2⟩ := zlj h hF (J := J) (e11 := e11) (e16 := e16) (ss := ss) (os := os) (e13 := sI i) (e15 := e15) (e17 := e17) (e23 := e23) t1 t2 l1 l2
 rw [<- Zv (v := 9) (n := P.m) rfl (by omega)] at hf
 obtain ⟨s, hsi⟩ : ∃ s, ss[i]? = some s := ⟨ss[i]'(by omega), zzB (by omega)⟩
 have wn : WD (f2 (fV 18) (fV 13) ixP) (Y P F J e11 e16 ss os (sI i) y z (sT (zX T1)) (sT (zX T2)) (some (ZW T)) x) true (.str s) := wF (zb (i := 18) rfl) (zb (i := 13) rfl) (zcM hsi)
 have hb := zho (j := 22) (as := Y P F J e11 e16 ss os (sI i) y z (sT (zX T1)) (sT (zX T2)) (some (ZW T)) x) (ps := T.map zaa) (fr := dN) (os := []) rfl rfl
 have ap := zcy (i := 19) (os0 := os) (os := os) (as := Y P F J e11 e16 ss os (sI i) y z (sT (zX T1)) (sT (zX T2)) (some (ZW T)) x) rfl (zir (Yv wn hb) (szl rfl)) rfl (by
  rw [ho.ln]
  have := congrArg List.length hD
  rw [zD, zzP] at this
  exact ym (by omega))
 rw [zhY] at ap
 obtain ⟨B, b1', b2'⟩ := perm_back hF
 have ld := ldB (ljK h.k1) (ljK h.k2) h.p2 l1 l2
 have hg : Good P F J (s, T) := ⟨q1, ldT h.m1 h.lj ld (λ a ha => (rowAt hR ha).2) b1' b2' hJ q2⟩
 refine ⟨_, Ds ++ [(s, T)], _, _, _, _, _, _, zW s20 (zW s21 (zW s22 (zW hf ap))), ho.snoc rfl rfl hg, ?_⟩
 rw [List.map_append, hD, take_snoc hsi]; rfl
theorem zlB {P : Par} (h : POk P) {F : List Int} (hF : F.Perm (Yw P.N)) {J : TZ} (hJ : ∀ a b, InR P.N a -> InR P.N b -> jAt J (rAt F a) (rAt F b) = rAt F (P.j a b)) {e11 e13 e15 e16 e17 : Option O} {f : SF} {Q : D -> Prop}
 (K : ∀ (ss : List Str) (os : List O) (Ds : DD) (e13 e15 e17 e20 e21 e22 e23 : Option O), ss.length = 10 -> ss.Nodup -> Ows Xm (Good P F J) os Ds -> Ds.map (·.1) = ss.take P.w -> Rq (f (Y P F J e11 e16 ss os e13 e15 e17 e20 e21 e22 e23)) Q) :
 Rq ((zE (zJ true 18 (zH (aC (f2 (fV 1) (fC (.int 7)) (zm .FloorDiv)) (aC (fC (.int 10)) aN)) vM))
 (zE (zJ false 19 (Zm dN))
 (zE (yZ (yx (aC (fV 2) aN) yC) (gN 13) ddB)
 f))) (Z P e11 (sT (zT F)) e13 (some (ZW J)) e15 e16 e17 none none none none none none none none none none)) Q := by
 have w4 := h.w4
 obtain ⟨ss, s1, s2, s3⟩ := zkr (c := P.h / 7)
 obtain ⟨as', hf, os, Ds, e13', e15', e17', e20', e21', e22', e23', rfl, ho, hD⟩ := xq (g := gN 13) (f := ddB)
  (λ i as => ∃ (os : List O) (Ds : DD) (e13 e15 e17 e20 e21 e22 e23 : Option O), as = Y P F J e11 e16 ss os e13 e15 e17 e20 e21 e22 e23 /\ Ows Xm (Good P F J) os Ds /\ Ds.map (·.1) = ss.take i)
  (yR 0 P.w) 0 (Y P F J e11 e16 ss [] e13 e15 e17 none none none none) (λ i x as hx hI => by
   obtain ⟨os, Ds, e13, e15, e17, e20, e21, e22, e23, rfl, ho, hD⟩ := hI
   obtain ⟨rfl, hi⟩ := xJ hx
   rw [Nat.zero_add] at hD
   rw [Int.zero_add, Nat.zero_add]
   obtain ⟨os', Ds', a15, a17, a20, a21, a22, a23, k1, k2, k3⟩ := zlD (e11 := e11) (e16 := e16) (e15 := e15) (e17 := e17) (e20 := e20) (e21 := e21) (e22 := e22) (e23 := e23) h hF hJ s1 hi ho hD
   exact ⟨_, rfl, _, k1, os', Ds', _, _, _, _, _, _, _, rfl, k2, k3⟩)
  ⟨[], [], _, _, _, _, _, _, _, rfl, Ows.nil, rfl⟩
 rw [yJ, Nat.zero_add] at hD
 exact Zj (Yh (p := 18) (zlG (WD.e (xR (zb (i := 1) rfl) (zg (x := .int 7)) (by decide) (zP (by decide) (by decide)))) (WD.e (zg (x := .int 10))) s3) (zG rfl)) (Zj (wM (i := 19) (Xd yO (szl rfl)) (zG rfl)) (Zj (wV (xT (zB (zb (i := 2) rfl) zL) (by omega) (by omega)) (by rw [Int.toNat_natCast]; exact hf)) (K ss os Ds _ _ _ _ _ _ _ s1 s2 ho hD)))
open L2 (ym)
def held (n : Nat) (b : Int) : List Int := ((List.range n).filter λ i => b / 2 ^ i % 2 == 1).map λ (i : Nat) => (i : Int)
abbrev sgO (p : Str × List Int) : O := .lf true (Xn p)
theorem zeK : ∀ S : SS, (S.map sgO).all O.isLf = true /\ O.strs (S.map sgO) = true /\ O.toDs (S.map sgO) = S.map Xn
 | [] => ⟨rfl, rfl, rfl⟩
 | p :: r => ⟨(zeK r).1, (zeK r).2.1, congrArg (Xn p :: ·) (zeK r).2.2⟩
theorem zkw {os : List O} (hs : O.strs os = true) : (Yq os).str = true /\ (Yq os).toD = .tup (O.toDs os) := by
 unfold Yq
 split
 · exact ⟨hs, rfl⟩
 · exact ⟨hs, rfl⟩
theorem zqm {P : Par} (h : POk P) {b : Int} {as : AS} (h1 : as[10]? = some (sI P.N)) (h2 : ∀ d : D, gN 0 (true, d) (Yy [none, some 25] as) = some [sT d, sI b]) :
 WE (yw (yx (aC (fV 10) aN) yC) [none, some 25] (gN 0) (fT (f2 (f2 (f2 (fV 1) (f2 (fC (.int 1)) (fV 0) ziT) (zm .FloorDiv)) (fC (.int 2)) (zm .Mod)) (fC (.int 1)) (yt .Eq))) (fV 0)) as (zT (held P.N b)) := by
 have N8 : P.N <= 8 := h.n8
 have := zoU (as := as) (h := λ (i : Nat) => D.int i) (p := λ i => b / 2 ^ i % 2 == 1) (it := λ (i : Nat) => (true, D.int (0 + (i : Int)))) (fi := yx (aC (fV 10) aN) yC) (cap := [none, some 25]) (gg := gN 0) (tt := fT (f2 (f2 (f2 (fV 1) (f2 (fC (.int 1)) (fV 0) ziT) (zm .FloorDiv)) (fC (.int 2)) (zm .Mod)) (fC (.int 1)) (yt .Eq))) (fe := fV 0) (List.range P.N) (by
  have := xT (zB (zb (i := 10) h1) zL) (show (0 : Int) <= P.N by omega) (by omega)
  rw [Int.toNat_natCast] at this
  exact this) (by rw [List.length_range]; omega) (λ i hi => by
   have hi := List.mem_range.mp hi
   rw [Int.zero_add]
   have p0 : (0 : Int) < 2 ^ i := Int.pow_pos (by decide)
   have p1 : (2 : Int) ^ i < 1000 := by
    rcases (show i = 0 \/ i = 1 \/ i = 2 \/ i = 3 \/ i = 4 \/ i = 5 \/ i = 6 \/ i = 7 by omega) with rfl | rfl | rfl | rfl | rfl | rfl | rfl | rfl <;> decide
   have ws : WD (f2 (fC (.int 1)) (fV 0) ziT) [sI i, sI b] true (.int (2 ^ i)) := yG zg (zb (i := 0) rfl) (by
    show (if (0 : Int) <= i /\ (i : Int) <= 1000000 /\ (1 : Int).natAbs < 2 ^ 64 then some (R0.im (.int (1 * 2 ^ (i : Int).toNat))) else none) = _
    rw [if_pos ⟨by omega, by omega, by decide⟩, Int.toNat_natCast, Int.one_mul]) rfl
   exact ⟨[sI i, sI b], h2 _, eqT (zY (xR (zb (i := 1) rfl) ws p0 (zP (by omega) (by omega))) zg (by decide)) zg rfl, λ _ => WD.e (zb (i := 0) rfl)⟩)
 unfold held
 rw [show D.lst (((List.range P.N).filter λ i => b / 2 ^ i % 2 == 1).map λ (i : Nat) => D.int i) = zT (((List.range P.N).filter λ i => b / 2 ^ i % 2 == 1).map λ (i : Nat) => (i : Int)) by show _ = D.lst _; rw [List.map_map]; rfl] at this
 exact this
abbrev V (P : Par) (F : List Int) (J : TZ) (ss : List Str) (os : List O) (e11 e15 e16 e17 e20 e21 e22 e23 : Option O) (S : SS) (e13 e25 e26 e27 : Option O) : AS := Z P e11 (sT (zT F)) e13 (some (ZW J)) e15 e16 e17 (sT (.lst (ss.map D.str))) (sN os) e20 e21 e22 e23 (sN (S.map sgO)) e25 e26 e27
abbrev sgB : SF := (zE (zJ true 25 (f2 (fV 4) (f2 (fC (.int 9)) (fV 13) (zm .Add)) ixP))
 (zE (zJ true 26 (yw (yx (aC (fV 10) aN) yC) [none, some 25] (gN 0) (fT (f2 (f2 (f2 (fV 1) (f2 (fC (.int 1)) (fV 0) ziT) (zm .FloorDiv)) (fC (.int 2)) (zm .Mod)) (fC (.int 1)) (yt .Eq))) (fV 0)))
 (wu (wX 24 (dC (wR (dC (f2 (fV 18) (f2 (fV 13) (f2 (fC (.int 4)) (f2 (f2 (fV 25) (fC (.int 512)) (zm .FloorDiv)) (fC (.int 2)) (zm .Mod)) (zm .Mult)) (zm .Add)) ixP) (dC (fV 26) dN))) dN) vN))))
abbrev SgI (P : Par) (ss : List Str) (i : Nat) (S : SS) : Prop := S.length = i /\ (S.map (·.1)).Nodup /\ ∀ p ∈ S, (∃ b, p.2 = held P.N b) /\ ∃ j, j % 4 < i /\ j < 7 /\ ss[j]? = some p.1
theorem zlc {P : Par} (h : POk P) {F : List Int} {J : TZ} {ss : List Str} (hs : ss.length = 10) (hn : ss.Nodup) {os : List O} {e11 e15 e16 e17 e20 e21 e22 e23 e25 e26 e27 : Option O} {S : SS} {i : Nat} (hi : i < 3) (hI : SgI P ss i S) :
 ∃ (S' : SS) (e25' e26' : Option O), sgB (V P F J ss os e11 e15 e16 e17 e20 e21 e22 e23 S (sI i) e25 e26 e27) = some (.nx (V P F J ss os e11 e15 e16 e17 e20 e21 e22 e23 S' (sI i) e25' e26' e27)) /\ SgI P ss (i + 1) S' := by
 obtain ⟨i1, i2, i3⟩ := hI
 obtain ⟨b, a1, b1⟩ := at2 h.yS (k := 9 + i) (by omega) (by rw [h.yl]; omega)
 have q0 := Int.emod_nonneg (b / 512) (show (2 : Int) ≠ 0 by decide)
 have q1 := Int.emod_lt_of_pos (b / 512) (show (0 : Int) < 2 by decide)
 have hw := zqm h (b := b) (as := V P F J ss os e11 e15 e16 e17 e20 e21 e22 e23 S (sI i) (sI b) e26 e27) rfl (λ d => rfl)
 obtain ⟨j, ej⟩ : ∃ j : Nat, (j : Int) = (i : Int) + 4 * (b / 512 % 2) := ⟨((i : Int) + 4 * (b / 512 % 2)).toNat, by omega⟩
 have hj : ss[j]? = some (ss[j]'(by omega)) := zzB (by omega)
 have wi := yF (as := V P F J ss os e11 e15 e16 e17 e20 e21 e22 e23 S (sI i) (sI b) (sT (zT (held P.N b))) e27) (zb (i := 13) (x := .int i) (s := true) rfl) (xZ (zg (x := .int 4)) (zY (xR (zb (i := 25) rfl) (zg (x := .int 512)) (by decide) (zP (by decide) (by decide))) (zg (x := .int 2)) (by decide)) (zP (by decide) (by decide)) (zP (by omega) (by omega)))
 rw [<- ej] at wi
 have ap := zcy (i := 24) (os0 := S.map sgO) (os := S.map sgO) (as := V P F J ss os e11 e15 e16 e17 e20 e21 e22 e23 S (sI i) (sI b) (sT (zT (held P.N b))) e27) rfl (zhm (zV (wF (zb (i := 18) rfl) wi (zcM hj)) (zV (zb (i := 26) rfl) yO)) (szl rfl)) rfl (by rw [zD, i1]; exact ym (by omega))
 rw [show S.map sgO ++ [Yq [O.lf true (.str (ss[j]'(by omega))), O.lf true (zT (held P.N b))]] = (S ++ [((ss[j]'(by omega)), held P.N b)]).map sgO by rw [List.map_append]; rfl] at ap
 refine ⟨_, _, _, zW (yz (i := 25) (yG (zb (i := 4) rfl) (yF zg (zb (i := 13) rfl)) a1 rfl) (zG rfl)) (zW (Yh (p := 26) hw (zG rfl)) ap), by rw [zzG, i1]; rfl, ?_, λ p m => ?_⟩
 · rw [List.map_append]
   refine List.nodup_append.mpr ⟨i2, zzT.mpr ⟨List.not_mem_nil, List.nodup_nil⟩, λ x mx y my e => ?_⟩
   obtain ⟨p, mp, rfl⟩ := List.mem_map.mp mx
   obtain ⟨_, j', j1, j2, j3⟩ := i3 p mp
   have my := zzO.mp my
   subst my
   have hj' := zzD.mp j3
   obtain ⟨l', e'⟩ := hj'
   have : ss[j'] = ss[j]'(by omega) := e'.trans e
   have := (List.getElem_inj hn).mp this
   omega
 · rcases zzJ.mp m with m | m
   · obtain ⟨z1, j', j1, j2, j3⟩ := i3 p m
     exact ⟨z1, j', by omega, j2, j3⟩
   · rw [zzO.mp m]
     exact ⟨⟨b, rfl⟩, j, by omega, by omega, hj⟩
theorem zkv {P : Par} (h : POk P) {F : List Int} (hF : F.Perm (Yw P.N)) {J : TZ} {ss : List Str} (hs : ss.length = 10) (hn : ss.Nodup) {os : List O} {Ds : DD} (ho : Ows Xm (Good P F J) os Ds) {e11 e13 e15 e16 e17 e20 e21 e22 e23 : Option O} :
 ∃ S : SS, S.length <= 3 /\ (S.map (·.1)).Nodup /\ (∀ p ∈ S, ∃ b, p.2 = held P.N b) /\ Rt ((zE (zJ false 24 (Zm dN))
 (zE (yZ (yx (aC (fC (.int 3)) aN) yC) (gN 13) sgB)
 (zE (zJ true 27 (f2 (fV 12) (f2 (Zm (dC (fC (.int 0)) (dC (fV 8) dN))) (fP (aC (f2 (fV 5) (fC (.int 3)) (yt .Eq)) aN) Xp) ixP) ixP))
 (yu (wR (dC (fV 10) (dC (fV 9) (dC (fV 14) (dC (fV 27) (dC (fV 19) (dC (fSl (fV 24) oN (oS (f2 (f2 (fV 4) (fC (.int 12)) ixP) (fC (.int 4)) (zm .Mod))) slP) dN)))))))))))
 (Y P F J e11 e16 ss os e13 e15 e17 e20 e21 e22 e23)) (yI P.N P.m J (rAt F P.e) Ds S) := by
 obtain ⟨hR, _⟩ := Yt hF
 obtain ⟨as', hf, S, a13, a25, a26, rfl, i1, i2, i3⟩ := xq (g := gN 13) (f := sgB)
  (λ i as => ∃ (S : SS) (e13 e25 e26 : Option O), as = V P F J ss os e11 e15 e16 e17 e20 e21 e22 e23 S e13 e25 e26 none /\ SgI P ss i S)
  (yR 0 3) 0 (V P F J ss os e11 e15 e16 e17 e20 e21 e22 e23 [] e13 none none none) (λ i x as hx hI => by
   obtain ⟨S, e13, e25, e26, rfl, hI⟩ := hI
   obtain ⟨rfl, hi⟩ := xJ hx
   rw [Nat.zero_add] at hI
   rw [Int.zero_add, Nat.zero_add]
   obtain ⟨S', a, b, k1, k2⟩ := zlc (F := F) (J := J) (os := os) (e11 := e11) (e15 := e15) (e16 := e16) (e17 := e17) (e20 := e20) (e21 := e21) (e22 := e22) (e23 := e23) (e25 := e25) (e26 := e26) (e27 := none) h hs hn hi hI
   exact ⟨_, rfl, _, k1, S', _, _, _, rfl, k2⟩)
  ⟨[], _, _, _, rfl, rfl, List.nodup_nil, λ _ m => nomatch m⟩
 rw [yJ] at i1
 obtain ⟨y, y1, y2⟩ := at2 h.yS (k := 12) (by omega) (by rw [h.yl]; omega)
 have q0 := Int.emod_nonneg y (show (4 : Int) ≠ 0 by decide)
 have q1 := Int.emod_lt_of_pos y (show (0 : Int) < 4 by decide)
 obtain ⟨g1, g2, g3⟩ := zeK S
 have ce := h.lj.ce
 have ee : (if (P.k == 3) = true then (P.n2 : Int) else 0) = P.e := by
  show _ = eK P.k * P.n2 + eK P.k2
  rw [h.e2]
  unfold eK
  by_cases hk : P.k = 3 <;> simp [hk]
 have wE : WD (f2 (Zm (dC (fC (.int 0)) (dC (fV 8) dN))) (fP (aC (f2 (fV 5) (fC (.int 3)) (yt .Eq)) aN) Xp) ixP) (V P F J ss os e11 e15 e16 e17 e20 e21 e22 e23 S a13 a25 a26 none) true (.int P.e) := by
  rw [<- ee]
  exact f2E (Wf (os := [lfI 0, lfI P.n2]) (zV zg (zV (zb (i := 8) rfl) yO)) (szl rfl) rfl rfl) (WD.e (vo (x := .int (if (P.k == 3) = true then 1 else 0)) (zB (zdh (c := P.k == 3) (zb (i := 5) rfl) zg rfl) zL) rfl rfl)) zkg
 have s27 := yz (st := true) (i := 27) (yG (zb (i := 12) rfl) wE (rowAt hR ce).1 rfl) (zG rfl)
 have hfJ := zhY J
 have hfD := ho.frz
 have wy : oS (f2 (f2 (fV 4) (fC (.int 12)) ixP) (fC (.int 4)) (zm .Mod)) ((V P F (J) ss os e11 e15 e16 e17 e20 e21 e22 e23 S a13 a25 a26 (sI (rAt F P.e))).set 14 (some (ZW J).frz) |>.set 19 (some (O.nd .ls os).frz)) = some (some (y % 4), _) := zeV (zY (yG (zb (i := 4) rfl) zg y1 rfl) zg (by decide))
 have sl := zoE (as := (V P F (J) ss os e11 e15 e16 e17 e20 e21 e22 e23 S a13 a25 a26 (sI (rAt F P.e))).set 14 (some (ZW J).frz) |>.set 19 (some (O.nd .ls os).frz)) (i := 24) (os := S.map sgO) (fl := oN) (lo := none) rfl g1 g2 rfl wy
 have ct := zlf (xs := (S.take (y % 4).toNat).map Xn) (ys := (S.drop (y % 4).toNat).map Xn)
 rw [<- List.map_append, List.take_append_drop, zD, zzP, Nat.min_eq_left (by omega), show (((y % 4).toNat : Nat) : Int) = y % 4 by omega] at ct
 have ct : cutD (S.map Xn) none (some (y % 4)) = (S.take (y % 4).toNat).map Xn := by
  injection ct with ct
  injection ct
 rw [g3, ct] at sl
 have w0 : (dC (fV 10) (dC (fV 9) (dC (fV 14) (dC (fV 27) (dC (fV 19) (dC (fSl (fV 24) oN (oS (f2 (f2 (fV 4) (fC (.int 12)) ixP) (fC (.int 4)) (zm .Mod))) slP) dN)))))) (V P F J ss os e11 e15 e16 e17 e20 e21 e22 e23 S a13 a25 a26 (sI (rAt F P.e))) = some (_, _) :=
  Yv (zb (i := 10) rfl) (Yv (zb (i := 9) rfl) (zho (j := 14) (ps := J.map zaa) rfl (Yv (zb (i := 27) rfl) (zho (j := 19) (ps := os) rfl (Yv sl rfl)))))
 have hfin := zir w0 (szl rfl)
 rw [hfJ, hfD] at hfin
 have ms := zkw (os := [lfI P.N, lfI P.m, .lf true (zX J), lfI (rAt F P.e), .lf true (.lst (Ds.map Xm)), .nd .ls (((S.take (y % 4).toNat).map Xn).map (O.lf true))]) (by
  show (O.strs (((S.take (y % 4).toNat).map Xn).map (O.lf true)) && true) = true
  rw [zfW]; rfl)
 have rt := zhR hfin ms.1
 refine ⟨S.take (y % 4).toNat, by rw [zzP]; omega, ?_, λ p m => (i3 p (List.mem_of_mem_take m)).1, zR (wM (i := 24) (Xd yO (szl rfl)) (zG rfl)) (zR (wV (xT (j := 3) (zB zg zL) (by decide) (by decide)) hf) (zR s27 ⟨_, rt, ms.1, ms.2.trans ?_⟩))⟩
 · rw [List.map_take]; exact i2.sublist (List.take_sublist _ _)
 · show D.tup [.int P.N, .int P.m, zX J, .int (rAt F P.e), .lst (Ds.map Xm), .lst (O.toDs (((S.take (y % 4).toNat).map Xn).map (O.lf true)))] = _
   rw [zfH]
structure Made (n m : Nat) (J : TZ) (e : Int) (Ds : DD) (S : SS) : Prop where
 al : Alg n m J e Ds
 la : LawA n m J e Ds
 s3 : S.length <= 3
 sn : (S.map (·.1)).Nodup
 sh : ∀ p ∈ S, ∃ b, p.2 = held n b
theorem zhz {c h : Int} {w : Nat} (hw : w <= 4) : ∃ n m J e Ds S, Made n m J e Ds S /\ Ds.length = w /\ RE (vg [(true, .int c), (true, .int h), (true, .int w)]) (yI n m J e Ds S) := by
 obtain ⟨x, hr, n, m, J, e, Ds, S, h1, h2, rfl⟩ : Rq (Y6 (vG 28 [(true, .int c), (true, .int h), (true, .int w)])) (λ x => ∃ n m J e Ds S, Made n m J e Ds S /\ Ds.length = w /\ x = yI n m J e Ds S) := by
  refine znp hw λ P hP hw' hh => zlI hP λ F e11 e13 hF => zmA hP hF λ J e15 e16 e17 hJ hJ2 => zlB hP hF hJ2 λ ss os Ds e13 e15 e17 e20 e21 e22 e23 s1 s2 ho hD => ?_
  obtain ⟨S, q1, q2, q3, q4⟩ := zkv hP hF (J := J) s1 s2 ho (e11 := e11) (e13 := e13) (e15 := e15) (e16 := e16) (e17 := e17) (e20 := e20) (e21 := e21) (e22 := e22) (e23 := e23)
  obtain ⟨hR, _⟩ := Yt hF
  obtain ⟨B, b1, b2⟩ := perm_back hF
  have hl : Ds.length = P.w := by
   have := congrArg List.length hD
   rw [zD, zzP, s1] at this
   have := hP.w4
   omega
  have ce := (rowAt hR hP.lj.ce).2
  exact ⟨_, q4, P.N, P.m, J, rAt F P.e, Ds, S, ⟨⟨hP.N1, hP.n8, hP.m1, hP.m6, hJ, ce.1, ce.2, by have := hP.w4; omega, λ p m => (ho.al p m).1, by rw [hD]; exact s2.sublist (List.take_sublist _ _)⟩, ⟨ljT hP.lj (λ a ha => (rowAt hR ha).2) b1 b2 hJ2, λ p m => (ho.al p m).2⟩, q1, q2, q3⟩, by omega, rfl⟩
 exact ⟨n, m, J, e, Ds, S, h1, h2, Zd rfl hr⟩
open L2 (ym)
abbrev kvW (p : Str × TZ) : L2.Key × D := (Sum.inr p.1, yQ p.2)
abbrev kvS (p : Str × List Int) : L2.Key × D := (Sum.inr p.1, Ze p.2)
abbrev zgx : List Str := ["size", "around", "table", "neutral", "waits", "holders"]
abbrev zaE (n m : Nat) (J : TZ) (e : Int) (Ds : DD) (S : SS) : D := .ob "Ways" zgx [.int n, .int m, yQ J, .int e, .dct (Ds.map kvW), .dct (S.map kvS)]
theorem zid {α : Type} {f : EF} {as : AS} {g : α -> D} {l : List α} (h : WE f as (.lst (l.map g))) : Yx f as = some (l.map λ a => (true, g a), as) := by
 have := zlN h
 rw [List.map_map] at this
 exact this
theorem zis {T : TZ} (hl : T.length <= 1000) : RE (Vl [(true, zX T)]) (yQ T) :=
 Zd rfl (v5 (Vy (zbn (h := Ze) (it := λ r => (true, zT r)) T (zid (WD.e (zb (i := 0) rfl))) (by omega) λ r _ => ⟨[sT (zT r)], rfl, Vy (WD.e (zb (i := 0) rfl)) rfl⟩) rfl))
section
variable {n m : Nat} {J : TZ} {e : Int} {Ds : DD} {S : SS}
theorem zlC (A : Alg n m J e Ds) (L : LawA n m J e Ds) : RE (xU [(true, yI n m J e Ds S)]) .non := by
 have h : Z8 (vG 2 [(true, yI n m J e Ds S)]) = some (.nx [sT (yI n m J e Ds S), sT .non]) := zW (Yh (p := 1) (XR (WD.e (zb (i := 0) rfl)) (zjl A L)) (zG rfl)) (wH (Zw (yG (zb (i := 1) rfl) zg rfl rfl) rfl) rfl)
 refine ⟨.lf true .non, ?_, rfl, rfl⟩
 unfold xU fnR
 rw [if_pos (by rfl), h]; rfl
theorem znw (A : Alg n m J e Ds) (L : LawA n m J e Ds) (sl : S.length <= 3) (sn : (S.map (·.1)).Nodup) : RE (vC "Ways" [(true, yI n m J e Ds S)]) (zaE n m J e Ds S) := by
 have dl := A.dl
 have n8 := A.n8
 have m6 := A.m6
 have w1 : ∀ o, WD (fV 1) [o, sT (yI n m J e Ds S)] true (yI n m J e Ds S) := λ o => zb (i := 1) rfl
 have h4 : ∀ o, WE (fP (aC (yw (Yx (f2 (fV 1) (fC (.int 4)) ixP)) [none, none] (gT 2 (gsC (gN 0) (gsC (gN 1) gsN))) xG (wR (dC (fV 0) (dC (zH (aC (fV 1) aN) Vl) dN)))) aN) zbS) [o, sT (yI n m J e Ds S)] (.dct (Ds.map kvW)) := λ o =>
  zra (kf := λ p : Str × TZ => p.1) (vf := λ p => yQ p.2) A.nd (zbn (h := λ p : Str × TZ => .tup [.str p.1, yQ p.2]) (it := λ p => (true, Xm p)) Ds (zid (g := Xm) (V3 (WD.e (w1 o)) (WD.e zg) rfl)) (by omega) λ p mp => ⟨[sT (.str p.1), sT (zX p.2)], rfl, zig (WD.e (zb (i := 0) rfl)) (XR (WD.e (zb (i := 1) rfl)) (zis (by rw [(A.ds p mp).1]; omega)))⟩)
 have h5 : ∀ o, WE (fP (aC (yw (Yx (f2 (fV 1) (fC (.int 5)) ixP)) [none, none] (gT 2 (gsC (gN 0) (gsC (gN 1) gsN))) xG (wR (dC (fV 0) (dC (fP (aC (fV 1) aN) tupP) dN)))) aN) zbS) [o, sT (yI n m J e Ds S)] (.dct (S.map kvS)) := λ o =>
  zra (kf := λ p : Str × List Int => p.1) (vf := λ p => Ze p.2) sn (zbn (h := λ p : Str × List Int => .tup [.str p.1, Ze p.2]) (it := λ p => (true, Xn p)) S (zid (g := Xn) (V3 (WD.e (w1 o)) (WD.e zg) rfl)) (by omega) λ p mp => ⟨[sT (.str p.1), sT (zT p.2)], rfl, zig (WD.e (zb (i := 0) rfl)) (Vy (WD.e (zb (i := 1) rfl)) rfl)⟩)
 have h : ZM (zbF 2 (ob0 "Ways" :: [(true, yI n m J e Ds S)].map lfD)) = some [some (.nd (.ob "Ways" zgx) [.lf true (.int n), .lf true (.int m), .lf true (yQ J), .lf true (.int e), .lf true (.dct (Ds.map kvW)), .lf true (.dct (S.map kvS))]), sT (yI n m J e Ds S)] :=
  Z6 (zly (XR (WD.e (w1 _)) (zlC A L))) (Z6 (Xr (c := "Ways") (i := 0) (ns := []) (os := []) (V3 (WD.e (w1 _)) (WD.e zg) rfl) rfl (by decide +kernel) (by decide +kernel) (by decide)) (Z6 (Xr (c := "Ways") (i := 0) (V3 (WD.e (w1 _)) (WD.e zg) rfl) rfl (by decide +kernel) (by decide +kernel) (by decide)) (Z6 (Xr (c := "Ways") (i := 0) (XR (V3 (WD.e (w1 _)) (WD.e zg) rfl) (zis (by rw [A.j.1]; omega))) rfl (by decide +kernel) (by decide +kernel) (by decide)) (Z6 (Xr (c := "Ways") (i := 0) (V3 (WD.e (w1 _)) (WD.e zg) rfl) rfl (by decide +kernel) (by decide +kernel) (by decide)) (Z6 (Xr (c := "Ways") (i := 0) (h4 _) rfl (by decide +kernel) (by decide +kernel) (by decide)) (Xr (c := "Ways") (i := 0) (h5 _) rfl (by decide +kernel) (by decide +kernel) (by decide)))))))
 refine ⟨.nd (.ob "Ways" zgx) [.lf true (.int n), .lf true (.int m), .lf true (yQ J), .lf true (.int e), .lf true (.dct (Ds.map kvW)), .lf true (.dct (S.map kvS))], ?_, rfl, rfl⟩
 unfold vC fnI
 rw [if_pos (by rfl), h]; rfl
theorem zmk (m1 : 1 <= m) (m6 : m <= 6) (n8 : n <= 8) : RE (Vk [(true, zaE n m J e Ds S)]) (yQ (idT n m)) := by
 have ws : WD (f1 (fV 0) (zai zaS "size")) [sT (zaE n m J e Ds S)] true (.int n) := zkR (c := "Ways") (ns := zgx) rfl (by decide +kernel) rfl
 have wa : WD (f1 (fV 0) (zai Z7 "around")) [sT (zaE n m J e Ds S)] true (.int m) := zkR (c := "Ways") (ns := zgx) rfl (by decide +kernel) rfl
 have wt : WE (wR (dC (fP (aC (f1 (fV 0) (zai zaS "size")) aN) trP) dN)) [sT (zaE n m J e Ds S)] (.tup [Ze (Yw n)]) := zmX (Vy (WD.e ws) (by
  show (if (0 : Int) <= n /\ (n : Int) <= 100000 then some (R0.im (.tup ((List.range (n : Int).toNat).map λ (i : Nat) => .int i))) else none) = _
  rw [if_pos ⟨by omega, by omega⟩, Int.toNat_natCast]
  show _ = some (R0.im (.tup ((Yw n).map D.int)))
  rw [List.map_map]; rfl))
 refine Zd rfl (v5 (V3 wt (WD.e wa) ?_))
 show (if 1 <= (m : Int) /\ (m : Int) < 2 ^ 63 /\ ([Ze (Yw n)] : List D).length ≠ 0 /\ ([Ze (Yw n)] : List D).length * (m : Int).toNat <= sizeLine then some (R0.im (.tup (List.replicate (m : Int).toNat [Ze (Yw n)]).flatten)) else none) = _
 rw [if_pos ⟨by omega, by omega, Nat.one_ne_zero, by show 1 * _ <= _; exact szs (by omega)⟩, Int.toNat_natCast, List.flatten_replicate_singleton]
 show _ = some (R0.im (.tup ((List.replicate m (Yw n)).map Ze)))
 rw [List.map_replicate]
theorem zjD {W1 W2 : TZ} {x : D} (h1 : Tab m n W1) (h2 : Tab m n W2) (m6 : m <= 6) (n8 : n <= 8) : RE (Xc [(true, x), (true, yQ W1), (true, yQ W2)]) (yQ (bh W1 W2)) := by
 have hz : zei (aC (fV 1) (aC (fV 2) aN)) [sT x, sT (yQ W1), sT (yQ W2)] = some ((W1.zip W2).map λ q => (true, .tup [Ze q.1, Ze q.2]), [sT x, sT (yQ W1), sT (yQ W2)]) := by
  have := zlg (as := [sT x, sT (yQ W1), sT (yQ W2)]) (WD.e (zb (i := 1) rfl)) (WD.e (zb (i := 2) rfl)) (xs := W1.map Ze) (ys := W2.map Ze) (.t _) (.t _)
  rw [this, List.zip_map, List.map_map]; rfl
 have := zbn (as := [sT x, sT (yQ W1), sT (yQ W2)]) (h := λ q : List Int × List Int => Ze (q.1.map (rAt q.2))) (it := λ q => (true, .tup [Ze q.1, Ze q.2])) (fi := zei (aC (fV 1) (aC (fV 2) aN))) (cap := [none, none]) (gg := gT 2 (gsC (gN 0) (gsC (gN 1) gsN))) (fe := fP (aC (yw (Yx (fV 0)) [none, some 1] (gN 0) xG (f2 (fV 1) (fV 0) ixP)) aN) tupP) (W1.zip W2) hz (by rw [List.length_zip, h1.1]; omega) (λ q mq => by
  obtain ⟨q1, q2⟩ := List.of_mem_zip mq
  have r1 := h1.2 _ q1
  have r2 := h2.2 _ q2
  refine ⟨[sT (Ze q.1), sT (Ze q.2)], rfl, Vy (zbn (h := λ a => D.int (rAt q.2 a)) (it := λ a => (true, D.int a)) q.1 ?_ (by rw [r1.1]; omega) λ a ma => ⟨[sI a, sT (Ze q.2)], rfl, WD.e (yG (zb (i := 1) rfl) (zb (i := 0) rfl) (zqF r2 (r1.2 a ma)) rfl)⟩) ?_⟩
  · have := zps (as := [sT (Ze q.1), sT (Ze q.2)]) (WD.e (zb (i := 0) rfl)) (ds := q.1.map D.int)
    rw [List.map_map] at this
    exact this
  · show some (R0.im (.tup (q.1.map λ a => D.int (rAt q.2 a)))) = some (R0.im (.tup ((q.1.map (rAt q.2)).map D.int)))
    rw [List.map_map]; rfl)
 refine Zd rfl (v5 (Vy this ?_))
 show some (R0.im (.tup ((W1.zip W2).map λ q : List Int × List Int => Ze (q.1.map (rAt q.2))))) = some (R0.im (.tup (((W1.zip W2).map λ p => p.1.map (rAt p.2)).map Ze)))
 rw [List.map_map]; rfl
theorem zhg {p : Str × TZ} (nd : (Ds.map (·.1)).Nodup) (hp : p ∈ Ds) : RE (Yp [(true, zaE n m J e Ds S), (true, .str p.1)]) (yQ p.2) := by
 have ww : WD (f1 (fV 0) (zai zaT "waits")) [sT (zaE n m J e Ds S), sT (.str p.1)] true (.dct (Ds.map kvW)) := zkR (c := "Ways") (ns := zgx) rfl (by decide +kernel) rfl
 refine Zd rfl (v5 (V3 (WD.e ww) (WD.e (zb (i := 1) rfl)) ?_))
 show imR (zbu (Ds.map kvW) (.inr p.1)) = _
 rw [zil (kf := λ p : Str × TZ => p.1) (vf := λ p => yQ p.2) hp nd]; rfl
theorem zcF {W : TZ} {v k : Int} (m1 : 1 <= m) (h1 : Tab m n W) (hv : InR n v) : WK [(true, zaE n m J e Ds S), (true, yQ W), (true, .int v), (true, .int k)] = sI (jAt W (k % m) v) := by
 have wa : WD (f1 (fV 0) (zai Z7 "around")) [sT (zaE n m J e Ds S), sT (yQ W), sI v, sI k] true (.int m) := zkR (c := "Ways") (ns := zgx) rfl (by decide +kernel) rfl
 exact Xl rfl (ZG (zkq h1 (Vb m1) hv (zb (i := 1) rfl) (zY (zb (i := 3) rfl) wa (by omega)) (zb (i := 2) rfl)))
end
open L2 (ym)
theorem zlb {f : SF} {as : AS} {i : Nat} {o : O} {r : Option Out} (h : as[i]? = some (some o)) (k : f (as.set i (some o.frz)) = r) : zdT i f as = r := by
 unfold zdT
 rw [h]; exact k
section
variable {n m : Nat} {J : TZ} {e : Int} {Ds : DD} {S : SS}
theorem zqK (hm : 0 < m) (h : LJ n (jAt J) e) : LD n m (jAt J) e (jAt (idT n m)) :=
 ⟨λ c a hc ha => by rw [zej hc ha]; exact ha, zej ⟨Int.le_refl _, by omega⟩ h.ce, λ a i b k ha hi hb hk => by rw [zej (Vb hm) (h.cl a b ha hb), zej hi ha, zej hk hb]⟩
theorem zqH {A B : TZ} (hm : 0 < m) (h : LJ n (jAt J) e) (hA : Tab m n A) (hB : Tab m n B) (a : LD n m (jAt J) e (jAt A)) (b : LD n m (jAt J) e (jAt B)) : LD n m (jAt J) e (jAt (bh A B)) := by
 refine ⟨λ c x hc hx => by rw [zeA hA hB hc hx]; exact b.cl _ _ hc (a.cl _ _ hc hx), ?_, λ x i y k hx hi hy hk => ?_⟩
 · rw [zeA hA hB ⟨Int.le_refl _, by omega⟩ h.ce, a.em, b.em]
 · rw [zeA hA hB (Vb hm) (h.cl _ _ hx hy), a.dn _ _ _ _ hx hi hy hk, b.dn _ _ _ _ (a.cl _ _ hi hx) hi (a.cl _ _ hk hy) hk, zeA hA hB hi hx, zeA hA hB hk hy]
theorem zrx (h : LJ n (jAt J) e) {r : List Int} (k : ∀ x ∈ r, InR n x) : r.foldl (jAt J) e = jnA J e r := by
 cases r with
 | nil => rfl
 | cons x t => show t.foldl (jAt J) (jAt J e x) = t.foldl (jAt J) x; rw [h.ul x (k x (zzC ..))]
theorem zqE {k : Nat} {W : TZ} {c a : Int} (hW : Tab k n W) (hc : InR k c) (ha : InR n a) : InR n (jAt W c a) := (rowAt (Zo hW hc).2 ha).2
theorem zlx {v w : Int} (hJ : Tab n n J) (hv : InR n v) (hw : InR n w) : Vf [(true, zaE n m J e Ds S), (true, .int v), (true, .int w)] = sI (jAt J v w) := by
 have wt : WD (f1 (fV 0) (zai zaU "table")) [sT (zaE n m J e Ds S), sI v, sI w] true (yQ J) := zkR (c := "Ways") (ns := zgx) rfl (by decide +kernel) rfl
 exact Xl rfl (ZG (zkq hJ hv hw wt (zb (i := 1) rfl) (zb (i := 2) rfl)))
abbrev whB : SF := (zJ true 2 (f2 (f2 (f2 (fV 0) (fC (.int 2)) ixP) (fV 2) ixP) (fV 3) ixP))
theorem wJ (A : Alg n m J e Ds) (L : LawA n m J e Ds) {r : List Int} (hr : ∀ x ∈ r, InR n x) : zy [(true, yI n m J e Ds S), (true, zT r)] = sI (jnA J e r) := by
 obtain ⟨as', hf, e3, rfl⟩ := xq (g := gN 3) (f := whB)
  (λ i as => ∃ (e3 : Option O), as = [sT (yI n m J e Ds S), sT (zT r), sI ((r.take i).foldl (jAt J) e), e3])
  ((r.map D.int).map λ d => (true, d)) 0 [sT (yI n m J e Ds S), sT (zT r), sI e, none] (λ i x as hx hI => by
    obtain ⟨e3, rfl⟩ := hI
    rw [List.map_map, zzF] at hx
    obtain ⟨a, ho, rfl⟩ := zzU.mp hx
    have ha := hr a (List.mem_of_getElem? ho)
    have hin : InR n ((r.take (0 + i)).foldl (jAt J) e) := zdj L.lj _ _ L.lj.ce λ x mx => hr x (List.mem_of_mem_take mx)
    refine ⟨_, rfl, _, yz (i := 2) (Xz A.j hin ha (wF (zb (i := 0) rfl) zg rfl) (zb (i := 2) rfl) (zb (i := 3) rfl)) (zG rfl), sI a, ?_⟩
    rw [Nat.zero_add, take_snoc ho, List.foldl_append]; rfl)
  ⟨none, rfl⟩
 rw [zD, zD, Nat.zero_add, List.take_length, zrx L.lj hr] at hf
 exact Xl rfl (zW (yz (i := 2) (yG (zb (i := 0) rfl) zg rfl rfl) (zG rfl)) (zW (wV (zkd (zb (i := 1) rfl)) hf) (ZG (zb (i := 2) rfl))))
abbrev dnR (m : Nat) (Ts : List TZ) (r : List Int) : List Int := Ts.foldl (λ r T => r.map (jAt T (1 % (m : Int)))) r
theorem zfd (m1 : 1 <= m) : ∀ (Ts : List TZ) (r : List Int), (∀ T ∈ Ts, Tab m n T) -> (∀ x ∈ r, InR n x) -> ∀ x ∈ dnR m Ts r, InR n x
 | [], r, _, hr => hr
 | T :: Ts, r, hT, hr => zfd m1 Ts _ (λ T m => hT T (zzA _ m)) λ x mx => by
  obtain ⟨y, my, rfl⟩ := List.mem_map.mp mx
  exact zqE (hT T (zzC ..)) (Vb m1) (hr y my)
theorem zeP : ∀ (Ts : List TZ) (r : List Int), (dnR m Ts r).length = r.length
 | [], r => rfl
 | T :: Ts, r => (zeP Ts _).trans (zD ..)
abbrev doB : SF := (zJ true 2 (yw (Yx (fV 2)) [none, some 3, some 0] (gN 0) xG (f2 (f2 (fV 1) (f2 (fC (.int 1)) (f2 (fV 2) (fC (.int 1)) ixP) (zm .Mod)) ixP) (fV 0) ixP)))
theorem zmF (m1 : 1 <= m) {Ts : List TZ} {r : List Int} (hT : ∀ T ∈ Ts, Tab m n T) (hr : ∀ x ∈ r, InR n x) (hl : r.length <= 1000) : RE (Zi [(true, yI n m J e Ds S), (true, .lst (Ts.map zX)), (true, zT r)]) (zT (dnR m Ts r)) := by
 obtain ⟨as', hf, e3, rfl⟩ := xq (g := gN 3) (f := doB)
  (λ i as => ∃ (e3 : Option O), as = [sT (yI n m J e Ds S), sT (.lst (Ts.map zX)), sT (zT (dnR m (Ts.take i) r)), e3])
  ((Ts.map zX).map λ d => (true, d)) 0 [sT (yI n m J e Ds S), sT (.lst (Ts.map zX)), sT (zT r), none] (λ i x as hx hI => by
    obtain ⟨e3, rfl⟩ := hI
    rw [List.map_map, zzF] at hx
    obtain ⟨T, ho, rfl⟩ := zzU.mp hx
    have tT := hT T (List.mem_of_getElem? ho)
    have hin := zfd m1 (Ts.take (0 + i)) r (λ T mT => hT T (List.mem_of_mem_take mT)) hr
    have hlen : (dnR m (Ts.take (0 + i)) r).length = r.length := zeP _ _
    have ib := zid (g := D.int) (l := dnR m (Ts.take (0 + i)) r) (WD.e (zb (as := [sT (yI n m J e Ds S), sT (.lst (Ts.map zX)), sT (zT (dnR m (Ts.take (0 + i)) r)), sT (zX T)]) (i := 2) rfl))
    have w := zbn (cap := [none, some 3, some 0]) (gg := gN 0) (fe := f2 (f2 (fV 1) (f2 (fC (.int 1)) (f2 (fV 2) (fC (.int 1)) ixP) (zm .Mod)) ixP) (fV 0) ixP) (h := λ a => D.int (jAt T (1 % (m : Int)) a)) (it := λ a => (true, D.int a)) (dnR m (Ts.take (0 + i)) r) ib (by rw [hlen]; omega) λ a ma => ⟨[sI a, sT (zX T), sT (yI n m J e Ds S)], rfl, WD.e (V9 tT (Vb m1) (hin a ma) (zb (i := 1) rfl) (zY zg (yG (zb (i := 2) rfl) zg rfl rfl) (by omega)) (zb (i := 0) rfl)).1⟩
    refine ⟨_, rfl, _, Yh (p := 2) w (zG rfl), sT (zX T), ?_⟩
    rw [Nat.zero_add, take_snoc ho]
    show _ = [_, _, sT (.lst (((Ts.take i ++ [T]).foldl (λ r T => r.map (jAt T (1 % (m : Int)))) r).map D.int)), _]
    rw [List.foldl_append]
    show _ = [_, _, sT (.lst (((dnR m (Ts.take i) r).map (jAt T (1 % (m : Int)))).map D.int)), _]
    rw [List.map_map]; rfl)
  ⟨none, rfl⟩
 rw [zD, zD, Nat.zero_add, List.take_length] at hf
 exact Zd rfl (zR (wV (zkd (zb (i := 1) rfl)) hf) (v5 (WD.e (zb (i := 2) rfl))))
end
open L2 (ym)
section
variable {n m : Nat} {J : TZ} {e : Int} {Ds : DD} {S : SS} {ns : List Int}
abbrev c16 (ns : List Int) (n m : Nat) (J : TZ) (e : Int) (Ds : DD) (S : SS) (e3 e4 e5 e6 e7 e8 e9 e10 e11 e12 e13 e14 e15 : Option O) : AS := [sT (.lst (ns.map .int)), sT (yI n m J e Ds S), sT (zaE n m J e Ds S), e3, e4, e5, e6, e7, e8, e9, e10, e11, e12, e13, e14, e15]
abbrev rwB : SF := (wu (wX 3 (dC (f2 (zH (aC (zH (aC (fV 0) (aC (f2 (fC (.int 4)) (fV 4) (zm .Add)) aN)) zK) (aC (f2 (fV 4) (fC (.int 80)) (zm .Add)) aN)) zZ) (f2 (fV 1) (fC (.int 0)) ixP) (zm .Mod)) dN) vN))
theorem zmL (n1 : 1 <= n) {k : Nat} (hk : k <= 60) : ∃ (os : List O) (r : List Int) (e4 : Option O), Ows D.int (InR n) os r /\ r.length = k /\ forL (gN 4) rwB (yR 0 k) (c16 ns n m J e Ds S (sN []) none none none none none none none none none none none none) = some (.nx (c16 ns n m J e Ds S (sN os) e4 none none none none none none none none none none none)) := by
 obtain ⟨as', hf, os, r, e4, rfl, ho, hl⟩ := xq (g := gN 4) (f := rwB)
  (λ i as => ∃ (os : List O) (r : List Int) (e4 : Option O), as = c16 ns n m J e Ds S (sN os) e4 none none none none none none none none none none none /\ Ows D.int (InR n) os r /\ r.length = i)
  (yR 0 k) 0 (c16 ns n m J e Ds S (sN []) none none none none none none none none none none none none) (λ i x as hx hI => by
   obtain ⟨os, r, e4, rfl, ho, hl⟩ := hI
   obtain ⟨rfl, hi⟩ := xJ hx
   obtain ⟨c, hc⟩ := Vt (ns := ns) (k := 4 + (0 + i)) (s := true) (t := true) (by omega)
   have wm := zY (v4 (as := c16 ns n m J e Ds S (sN os) (sI (0 + i)) none none none none none none none none none none none) (zB (v4 (zB (zb (i := 0) rfl) (zB (yF (zg (x := .int 4)) (zb (i := 4) rfl)) zL)) hc) (zB (yF (zb (i := 4) rfl) (zg (x := .int 80))) zL)) (zat (by omega) (by omega))) (yG (g := ixP) (z := .int n) (zb (i := 1) rfl) (zg (x := .int 0)) rfl rfl) (show (0 : Int) < n by omega)
   obtain ⟨os', o1, o2⟩ := zot (i := 3) (toD := D.int) (Q := InR n) rfl ho (by omega) (WD.e wm) (Vb n1)
   exact ⟨_, rfl, _, o2, os', r ++ [_], _, rfl, o1, by rw [zzG, hl]; rfl⟩)
  ⟨[], [], none, rfl, Ows.nil, rfl⟩
 rw [yJ] at hl
 exact ⟨os, r, e4, ho, by omega, hf⟩
abbrev wtB : SF := (zE (zfD (f2 (f2 (fV 1) (fC (.int 4)) ixP) (f2 (zH (aC (zH (aC (fV 0) (aC (f2 (fC (.int 43)) (fV 4) (zm .Add)) aN)) zK) (aC (f2 (fV 4) (fC (.int 200)) (zm .Add)) aN)) zZ) (fP (aC (f2 (fV 1) (fC (.int 4)) ixP) aN) Y9) (zm .Mod)) ixP) (gT 2 (gsC (gN 7) (gsC (gN 8) gsN))))
 (zE (zJ true 5 (ZC Vo "behind" (fV 2) (aC (fV 5) (aC (ZC X6 "wait_of" (fV 2) (aC (fV 7) aN)) aN))))
 (wu (wX 6 (dC (fV 8) dN) vN))))
structure Wk (n m : Nat) (J : TZ) (e : Int) (W : TZ) (Ts : List TZ) : Prop where
 t : Tab m n W
 ld : LD n m (jAt J) e (jAt W)
 ts : ∀ T ∈ Ts, Tab m n T
 eq : ∀ r : List Int, (∀ x ∈ r, InR n x) -> dnR m Ts r = r.map (jAt W (1 % (m : Int)))
theorem zoV (m1 : 1 <= m) (L : LawA n m J e Ds) : Wk n m J e (idT n m) [] := ⟨zoJ n m, zqK m1 L.lj, (λ _ h => nomatch h), λ r hr => by
 show r = _
 refine (List.ext_getElem? λ i => ?_)
 rw [zzF]
 cases h : r[i]? with
 | none => rfl
 | some x => exact congrArg some (zej (Vb m1) (hr x (List.mem_of_getElem? h))).symm⟩
theorem znI (A : Alg n m J e Ds) (L : LawA n m J e Ds) {W : TZ} {Ts : List TZ} {p : Str × TZ} (hp : p ∈ Ds) (k : Wk n m J e W Ts) : Wk n m J e (bh W p.2) (Ts ++ [p.2]) := by
 have tp := A.ds p hp
 refine ⟨zpD k.t tp, zqH A.m1 L.lj k.t tp k.ld (L.ld p hp), λ T mT => ?_, λ r hr => ?_⟩
 · rcases zzJ.mp mT with h | h
   · exact k.ts T h
   · rw [zzO.mp h]; exact tp
 · show (Ts ++ [p.2]).foldl (λ r T => r.map (jAt T (1 % (m : Int)))) r = _
   rw [List.foldl_append]
   show (dnR m Ts r).map (jAt p.2 (1 % (m : Int))) = _
   rw [k.eq r hr, List.map_map]
   exact List.map_congr_left λ x mx => (zeA k.t tp (Vb A.m1) (hr x mx)).symm
theorem zjq (A : Alg n m J e Ds) (L : LawA n m J e Ds) (d1 : 1 <= Ds.length) {k : Nat} (hk : k <= 20) {e3 e4 : Option O} : ∃ (os : List O) (Ts : List TZ) (W : TZ) (e4' e7 e8 : Option O), Ows zX (λ _ => True) os Ts /\ Wk n m J e W Ts /\ forL (gN 4) wtB (yR 0 k) (c16 ns n m J e Ds S e3 e4 (sT (yQ (idT n m))) (sN []) none none none none none none none none none) = some (.nx (c16 ns n m J e Ds S e3 e4' (sT (yQ W)) (sN os) e7 e8 none none none none none none none)) := by
 have dl := A.dl
 have n8 := A.n8
 have m6 := A.m6
 obtain ⟨as', hf, os, Ts, W, e4', e7, e8, rfl, ho, hl, hw⟩ := xq (g := gN 4) (f := wtB)
  (λ i as => ∃ (os : List O) (Ts : List TZ) (W : TZ) (e4 e7 e8 : Option O), as = c16 ns n m J e Ds S e3 e4 (sT (yQ W)) (sN os) e7 e8 none none none none none none none /\ Ows zX (λ _ => True) os Ts /\ Ts.length = i /\ Wk n m J e W Ts)
  (yR 0 k) 0 (c16 ns n m J e Ds S e3 e4 (sT (yQ (idT n m))) (sN []) none none none none none none none none none) (λ i x as hx hI => by
   obtain ⟨os, Ts, W, e4, e7, e8, rfl, ho, hl, hw⟩ := hI
   obtain ⟨rfl, hi⟩ := xJ hx
   obtain ⟨c, hc⟩ := Vt (ns := ns) (k := 43 + (0 + i)) (s := true) (t := true) (by omega)
   have wa : WD (f2 (fV 1) (fC (.int 4)) ixP) (c16 ns n m J e Ds S e3 (sI (0 + i)) (sT (yQ W)) (sN os) e7 e8 none none none none none none none) true (.lst (Ds.map Xm)) := wF (zb (i := 1) rfl) zg rfl
   have wl : WD (fP (aC (f2 (fV 1) (fC (.int 4)) ixP) aN) Y9) (c16 ns n m J e Ds S e3 (sI (0 + i)) (sT (yQ W)) (sN os) e7 e8 none none none none none none none) true (.int ((Ds.length : Nat) : Int)) := vo (zB wa zL) (by
    show some (R0.im (.int ((Ds.map Xm).length : Nat))) = _
    rw [zD]) rfl
   have q0 := Int.emod_nonneg (mx c (0 + i + 200)) (show ((Ds.length : Nat) : Int) ≠ 0 by omega)
   have q1 := Int.emod_lt_of_pos (mx c (0 + i + 200)) (show (0 : Int) < ((Ds.length : Nat) : Int) by omega)
   have wm := zY (v4 (as := c16 ns n m J e Ds S e3 (sI (0 + i)) (sT (yQ W)) (sN os) e7 e8 none none none none none none none) (zB (v4 (zB (zb (i := 0) rfl) (zB (yF (zg (x := .int 43)) (zb (i := 4) rfl)) zL)) hc) (zB (yF (zb (i := 4) rfl) (zg (x := .int 200))) zL)) (zat (by omega) (by omega))) wl (by omega)
   obtain ⟨j, ej⟩ : ∃ j : Nat, (j : Int) = mx c (0 + i + 200) % ((Ds.length : Nat) : Int) := ⟨(mx c (0 + i + 200) % ((Ds.length : Nat) : Int)).toNat, by omega⟩
   rw [<- ej] at wm
   have hj : j < Ds.length := by omega
   have hp := List.getElem_mem hj
   have g := zzB hj
   generalize Ds[j] = p at hp g
   have wy : ∀ e4 e5 e6 e7 e8, WD (fV 2) (c16 ns n m J e Ds S e3 e4 e5 e6 e7 e8 none none none none none none none) true (zaE n m J e Ds S) := λ _ _ _ _ _ => zb (i := 2) rfl
   have s1 : zfD (f2 (f2 (fV 1) (fC (.int 4)) ixP) (f2 (zH (aC (zH (aC (fV 0) (aC (f2 (fC (.int 43)) (fV 4) (zm .Add)) aN)) zK) (aC (f2 (fV 4) (fC (.int 200)) (zm .Add)) aN)) zZ) (fP (aC (f2 (fV 1) (fC (.int 4)) ixP) aN) Y9) (zm .Mod)) ixP) (gT 2 (gsC (gN 7) (gsC (gN 8) gsN))) (c16 ns n m J e Ds S e3 (sI (0 + i)) (sT (yQ W)) (sN os) e7 e8 none none none none none none none) = some (.nx (c16 ns n m J e Ds S e3 (sI (0 + i)) (sT (yQ W)) (sN os) (sT (.str p.1)) (sT (zX p.2)) none none none none none none none)) := zrq (WD.e (wF wa wm (zcM g))) rfl
   have s2 := Yh (p := 5) (znW (tbl := Vo) (m := "behind") (wy (sI (0 + i)) (sT (yQ W)) (sN os) (sT (.str p.1)) (sT (zX p.2))) (by decide +kernel) rfl (WD.e (zb (i := 5) rfl)) (zqo (tbl := X6) (m := "wait_of") (wy (sI (0 + i)) (sT (yQ W)) (sN os) (sT (.str p.1)) (sT (zX p.2))) (by decide +kernel) rfl (WD.e (zb (i := 7) rfl)) (zhg A.nd hp)) (zjD hw.t (A.ds p hp) m6 n8)) (zG rfl)
   obtain ⟨os', o1, o2⟩ := zot (as := c16 ns n m J e Ds S e3 (sI (0 + i)) (sT (yQ (bh W p.2))) (sN os) (sT (.str p.1)) (sT (zX p.2)) none none none none none none none) (a := fV 8) (i := 6) (toD := zX) (Q := λ _ => True) (x := p.2) rfl ho (by omega) (WD.e (zb (i := 8) rfl)) True.intro
   exact ⟨_, rfl, _, zW s1 (zW s2 o2), os', Ts ++ [p.2], bh W p.2, _, _, _, rfl, o1, by rw [zzG, hl]; rfl, znI A L hp hw⟩)
  ⟨[], [], _, _, _, _, rfl, Ows.nil, rfl, zoV A.m1 L⟩
 exact ⟨os, Ts, W, e4', e7, e8, ho, hw, hf⟩
end
open L2 (ym)
section
variable {n m : Nat} {J : TZ} {e : Int} {Ds : DD} {S : SS} {ns : List Int}
theorem zhS {f : EF} {as : AS} {r : List Int} {c : Nat} {fc : EF} (hc : c <= r.length) (h : WD f as true (zT r)) (h2 : WD fc as true (.int c)) : WE (fSl f oN (oS fc) slP) as (zT (r.take c)) := by
 have ct := zlf (xs := (r.take c).map D.int) (ys := (r.drop c).map D.int)
 rw [<- List.map_append, List.take_append_drop, zD, zzP, Nat.min_eq_left hc] at ct
 exact zeQ (WD.e h) rfl (zeV h2) ct
theorem znB {f : EF} {as : AS} {r : List Int} {c : Nat} {fc : EF} (hc : c <= r.length) (h : WD f as true (zT r)) (h2 : WD fc as true (.int c)) : WE (fSl f (oS fc) oN slP) as (zT (r.drop c)) := by
 have ct := zlE (xs := (r.take c).map D.int) (ys := (r.drop c).map D.int)
 rw [<- List.map_append, List.take_append_drop, zD, zzP, Nat.min_eq_left hc] at ct
 exact zeQ (WD.e h) (zeV h2) rfl ct
theorem zjP {f : EF} {as : AS} {r : List Int} (h : WD f as true (zT r)) : WE (fSl f oN (oS (f1 (fC (.int 1)) zhv)) rvP) as (zT r.reverse) := by
 refine zeQ (lo := none) (hi := some (-1)) (WD.e h) rfl (zeV (zox zg)) ?_
 show (if (none : Option Int) = none /\ some (-1 : Int) = some (-1) then some (R0.fl (r.map D.int).reverse) else none) = _
 rw [if_pos ⟨rfl, rfl⟩, List.map_reverse]
theorem zmH {i : Nat} {as : AS} {r : List Int} (h : as[i]? = some (sT (zT r))) : WD (fP (aC (fV i) aN) Y9) as true (.int (r.length : Nat)) := vo (zB (zb h) zL) (by
 show some (R0.im (.int ((r.map D.int).length : Nat))) = _
 rw [zD]) rfl
abbrev cuB : SF := (zE (zJ true 13 (ZC vU "made" (fV 2) (aC (fV 5) (aC (zH (aC (fV 1) (aC (fSl (fV 3) oN (oS (fV 12)) slP) aN)) zy) (aC (fV 12) aN)))))
 (zE (zJ true 14 (ZC vU "made" (fV 2) (aC (fV 5) (aC (zH (aC (fV 1) (aC (fSl (fV 3) (oS (fV 12)) oN slP) aN)) zy) (aC (f2 (fP (aC (fV 3) aN) Y9) (fV 12) (zm .Sub)) aN)))))
 (sIf (zdY (fT (f2 (ZC zcv "join" (fV 2) (aC (fV 13) (aC (fV 14) aN))) (fV 10) (yt .NotEq))) (fT (f2 (fV 13) (zH (aC (fV 1) (aC (fSl (fV 9) oN (oS (fV 12)) slP) aN)) zy) (yt .NotEq)))) (yu (fC (.bl false))) sNx)))
theorem zlZ (A : Alg n m J e Ds) (L : LawA n m J e Ds) {W : TZ} {Ts : List TZ} (k : Wk n m J e W Ts) {r : List Int} (hr : ∀ x ∈ r, InR n x) {e4 e6 e7 e8 e11 : Option O} :
 ∃ e12 e13 e14, forL (gN 12) cuB (yR 0 (r.length + 1)) (c16 ns n m J e Ds S (sT (zT r)) e4 (sT (yQ W)) e6 e7 e8 (sT (zT (dnR m Ts r))) (sI (jnA J e (dnR m Ts r))) e11 none none none none) = some (.nx (c16 ns n m J e Ds S (sT (zT r)) e4 (sT (yQ W)) e6 e7 e8 (sT (zT (dnR m Ts r))) (sI (jnA J e (dnR m Ts r))) e11 e12 e13 e14 none)) := by
 have m1 := A.m1
 have ed := k.eq r hr
 have dl : (dnR m Ts r).length = r.length := zeP Ts r
 have hd := zfd m1 Ts r k.ts hr
 obtain ⟨as', hf, e12, e13, e14, rfl⟩ := xq (g := gN 12) (f := cuB)
  (λ i as => ∃ (e12 e13 e14 : Option O), as = c16 ns n m J e Ds S (sT (zT r)) e4 (sT (yQ W)) e6 e7 e8 (sT (zT (dnR m Ts r))) (sI (jnA J e (dnR m Ts r))) e11 e12 e13 e14 none)
  (yR 0 (r.length + 1)) 0 (c16 ns n m J e Ds S (sT (zT r)) e4 (sT (yQ W)) e6 e7 e8 (sT (zT (dnR m Ts r))) (sI (jnA J e (dnR m Ts r))) e11 none none none none) (λ i x as hx hI => by
   obtain ⟨e12, e13, e14, rfl⟩ := hI
   obtain ⟨rfl, hi⟩ := xJ hx
   rw [Int.zero_add]
   have hc : i <= r.length := by omega
   have ht : ∀ x ∈ r.take i, InR n x := λ x mx => hr x (List.mem_of_mem_take mx)
   have hp : ∀ x ∈ r.drop i, InR n x := λ x mx => hr x (List.mem_of_mem_drop mx)
   have et := zau m1 L.lj k.ld (r.take i) ht
   have ep := zau m1 L.lj k.ld (r.drop i) hp
   have dt : (r.take i).map (jAt W (1 % (m : Int))) = (dnR m Ts r).take i := by rw [ed, List.map_take]
   have dp : (r.drop i).map (jAt W (1 % (m : Int))) = (dnR m Ts r).drop i := by rw [ed, List.map_drop]
   rw [dt, zzP, Nat.min_eq_left hc] at et
   rw [dp, List.length_drop, Int.ofNat_sub hc] at ep
   have jt := YT L.lj ht
   have jp := YT L.lj hp
   have hdt : ∀ x ∈ (dnR m Ts r).take i, InR n x := λ x mx => hd x (List.mem_of_mem_take mx)
   have hdp : ∀ x ∈ (dnR m Ts r).drop i, InR n x := λ x mx => hd x (List.mem_of_mem_drop mx)
   have ap := zol L.lj hdt hdp
   rw [List.take_append_drop] at ap
   have m13 := zcF (J := J) (e := e) (Ds := Ds) (S := S) (k := (i : Int)) m1 k.t jt
   rw [<- et] at m13
   have m14 := zcF (J := J) (e := e) (Ds := Ds) (S := S) (k := (r.length : Int) - i) m1 k.t jp
   rw [<- ep] at m14
   have s13 : zJ true 13 (ZC vU "made" (fV 2) (aC (fV 5) (aC (zH (aC (fV 1) (aC (fSl (fV 3) oN (oS (fV 12)) slP) aN)) zy) (aC (fV 12) aN)))) (c16 ns n m J e Ds S (sT (zT r)) e4 (sT (yQ W)) e6 e7 e8 (sT (zT (dnR m Ts r))) (sI (jnA J e (dnR m Ts r))) e11 (sI i) e13 e14 none) = some (.nx (c16 ns n m J e Ds S (sT (zT r)) e4 (sT (yQ W)) e6 e7 e8 (sT (zT (dnR m Ts r))) (sI (jnA J e (dnR m Ts r))) e11 (sI i) (sI (jnA J e ((dnR m Ts r).take i))) e14 none)) :=
    Yh (p := 13) (ziH (zb (i := 2) rfl) (by decide +kernel) rfl (WD.e (zb (i := 5) rfl)) (WD.e (zac (WD.e (zb (i := 1) rfl)) (zhS hc (zb (i := 3) rfl) (zb (i := 12) rfl)) (wJ A L ht))) (WD.e (zb (i := 12) rfl)) (RE.lf m13)) (zG rfl)
   have s14 : zJ true 14 (ZC vU "made" (fV 2) (aC (fV 5) (aC (zH (aC (fV 1) (aC (fSl (fV 3) (oS (fV 12)) oN slP) aN)) zy) (aC (f2 (fP (aC (fV 3) aN) Y9) (fV 12) (zm .Sub)) aN)))) (c16 ns n m J e Ds S (sT (zT r)) e4 (sT (yQ W)) e6 e7 e8 (sT (zT (dnR m Ts r))) (sI (jnA J e (dnR m Ts r))) e11 (sI i) (sI (jnA J e ((dnR m Ts r).take i))) e14 none) = some (.nx (c16 ns n m J e Ds S (sT (zT r)) e4 (sT (yQ W)) e6 e7 e8 (sT (zT (dnR m Ts r))) (sI (jnA J e (dnR m Ts r))) e11 (sI i) (sI (jnA J e ((dnR m Ts r).take i))) (sI (jnA J e ((dnR m Ts r).drop i))) none)) :=
    Yh (p := 14) (ziH (zb (i := 2) rfl) (by decide +kernel) rfl (WD.e (zb (i := 5) rfl)) (WD.e (zac (WD.e (zb (i := 1) rfl)) (znB hc (zb (i := 3) rfl) (zb (i := 12) rfl)) (wJ A L hp))) (WD.e (zds (zmH rfl) (zb (i := 12) rfl))) (RE.lf m14)) (zG rfl)
   have t1 := Zw (zkL (znW (as := c16 ns n m J e Ds S (sT (zT r)) e4 (sT (yQ W)) e6 e7 e8 (sT (zT (dnR m Ts r))) (sI (jnA J e (dnR m Ts r))) e11 (sI i) (sI (jnA J e ((dnR m Ts r).take i))) (sI (jnA J e ((dnR m Ts r).drop i))) none) (tbl := zcv) (m := "join") (zb (i := 2) (x := zaE n m J e Ds S) rfl) (by decide +kernel) rfl (WD.e (zb (i := 13) rfl)) (WD.e (zb (i := 14) rfl)) (RE.lf (zlx A.j (YT L.lj hdt) (YT L.lj hdp)))) (WD.e (zb (i := 10) rfl)) (q := jAt J (jnA J e ((dnR m Ts r).take i)) (jnA J e ((dnR m Ts r).drop i)) == jnA J e (dnR m Ts r)) rfl) rfl
   have t2 := Zw (zkL (WD.e (zb (as := c16 ns n m J e Ds S (sT (zT r)) e4 (sT (yQ W)) e6 e7 e8 (sT (zT (dnR m Ts r))) (sI (jnA J e (dnR m Ts r))) e11 (sI i) (sI (jnA J e ((dnR m Ts r).take i))) (sI (jnA J e ((dnR m Ts r).drop i))) none) (i := 13) rfl)) (WD.e (zac (WD.e (zb (i := 1) rfl)) (zhS (by rw [dl]; exact hc) (zb (i := 9) rfl) (zb (i := 12) rfl)) (wJ A L hdt))) (q := jnA J e ((dnR m Ts r).take i) == jnA J e ((dnR m Ts r).take i)) rfl) rfl
   rw [<- ap] at t1
   rw [show (!(jnA J e (dnR m Ts r) == jnA J e (dnR m Ts r))) = false by simp] at t1
   rw [show (!(jnA J e ((dnR m Ts r).take i) == jnA J e ((dnR m Ts r).take i))) = false by simp] at t2
   exact ⟨_, rfl, _, zW s13 (zW s14 (wH (zlW (l := false) t1 (λ _ => t2) (λ h => nomatch h)) rfl)), _, _, _, rfl⟩)
  ⟨_, _, _, rfl⟩
 exact ⟨_, _, _, hf⟩
theorem zom (A : Alg n m J e Ds) (L : LawA n m J e Ds) {W : TZ} {Ts : List TZ} (k : Wk n m J e W Ts) {r : List Int} (hr : ∀ x ∈ r, InR n x) (hl : r.length <= 100) {e4 e7 e8 : Option O} :
 (zE (zJ true 9 (zH (aC (fV 1) (aC (fV 6) (aC (fV 3) aN))) Zi))
 (zE (zJ true 10 (zH (aC (fV 1) (aC (fV 9) aN)) zy))
 (zE (zJ true 11 (ZC vU "made" (fV 2) (aC (fV 5) (aC (zH (aC (fV 1) (aC (fV 3) aN)) zy) (aC (fP (aC (fV 3) aN) Y9) aN)))))
 (zE (sIf (zdY (zgE (fT (zH (aC (fV 11) aN) vL))) (fT (f2 (fV 11) (fV 10) (yt .NotEq)))) (yu (fC (.bl false))) sNx)
 (zE (yZ (yx (aC (f2 (fP (aC (fV 3) aN) Y9) (fC (.int 1)) (zm .Add)) aN) yC) (gN 12) cuB)
 (zE (zJ true 15 (ZC vU "made" (fV 2) (aC (fV 5) (aC (zH (aC (fV 1) (aC (fSl (fV 3) oN (oS (f1 (fC (.int 1)) zhv)) rvP) aN)) zy) (aC (fP (aC (fV 3) aN) Y9) aN)))))
 (yu (f2 (fV 15) (zH (aC (fV 1) (aC (fSl (fV 9) oN (oS (f1 (fC (.int 1)) zhv)) rvP) aN)) zy) (yt .Eq))))))))) (c16 ns n m J e Ds S (sT (zT r)) e4 (sT (yQ W)) (sT (.lst (Ts.map zX))) e7 e8 none none none none none none none) = some (.rt (.lf true (.bl true))) := by
 have m1 := A.m1
 have ed := k.eq r hr
 have hd := zfd m1 Ts r k.ts hr
 obtain ⟨e12, e13, e14, hf⟩ := zlZ (S := S) (ns := ns) A L k hr (e4 := e4) (e6 := sT (.lst (Ts.map zX))) (e7 := e7) (e8 := e8) (e11 := sI (jnA J e (dnR m Ts r)))
 have ew := zau m1 L.lj k.ld r hr
 rw [<- ed] at ew
 have m11 := zcF (J := J) (e := e) (Ds := Ds) (S := S) (k := (r.length : Int)) m1 k.t (YT L.lj hr)
 rw [<- ew] at m11
 have hv : ∀ x ∈ r.reverse, InR n x := λ x mx => hr x (List.mem_reverse.mp mx)
 have hdv : ∀ x ∈ (dnR m Ts r).reverse, InR n x := λ x mx => hd x (List.mem_reverse.mp mx)
 have ev := zau m1 L.lj k.ld r.reverse hv
 rw [List.map_reverse, <- ed, List.length_reverse] at ev
 have m15 := zcF (J := J) (e := e) (Ds := Ds) (S := S) (k := (r.length : Int)) m1 k.t (YT L.lj hv)
 rw [<- ev] at m15
 refine zW (Yh (p := 9) (zfp (WD.e (zb (i := 1) rfl)) (WD.e (zb (i := 6) rfl)) (WD.e (zb (i := 3) rfl)) (zmF m1 k.ts hr (by omega))) (zG rfl)) (zW (yz (i := 10) (zac (WD.e (zb (i := 1) rfl)) (WD.e (zb (i := 9) rfl)) (wJ A L hd)) (zG rfl)) (zW (Yh (p := 11) (ziH (zb (i := 2) rfl) (by decide +kernel) rfl (WD.e (zb (i := 5) rfl)) (WD.e (zac (WD.e (zb (i := 1) rfl)) (WD.e (zb (i := 3) rfl)) (wJ A L hr))) (WD.e (zmH rfl)) (RE.lf m11)) (zG rfl)) ?_))
 have t1 := zpe (Zw (c := true) (v4 (as := c16 ns n m J e Ds S (sT (zT r)) e4 (sT (yQ W)) (sT (.lst (Ts.map zX))) e7 e8 (sT (zT (dnR m Ts r))) (sI (jnA J e (dnR m Ts r))) (sI (jnA J e (dnR m Ts r))) none none none none) (zB (zb (i := 11) rfl) zL) zle) rfl)
 have t2 := zjz (as := c16 ns n m J e Ds S (sT (zT r)) e4 (sT (yQ W)) (sT (.lst (Ts.map zX))) e7 e8 (sT (zT (dnR m Ts r))) (sI (jnA J e (dnR m Ts r))) (sI (jnA J e (dnR m Ts r))) none none none none) (zb (i := 11) (s := true) (x := .int (jnA J e (dnR m Ts r))) rfl) (zb (i := 10) (s := true) (x := .int (jnA J e (dnR m Ts r))) rfl)
 rw [show (!(jnA J e (dnR m Ts r) == jnA J e (dnR m Ts r))) = false by simp] at t2
 refine zW (wH (zlW (l := false) t1 (λ _ => t2) (λ h => nomatch h)) rfl) (zW (wV (xT (zB (yF (zmH rfl) (zg (x := .int 1))) zL) (by omega) (by omega)) (by rw [show ((r.length : Int) + 1).toNat = r.length + 1 by omega]; exact hf)) (zW (Yh (p := 15) (ziH (zb (i := 2) rfl) (by decide +kernel) rfl (WD.e (zb (i := 5) rfl)) (WD.e (zac (WD.e (zb (i := 1) rfl)) (zjP (zb (i := 3) rfl)) (wJ A L hv))) (WD.e (zmH rfl)) (RE.lf m15)) (zG rfl)) ?_))
 have q := zpg (as := c16 ns n m J e Ds S (sT (zT r)) e4 (sT (yQ W)) (sT (.lst (Ts.map zX))) e7 e8 (sT (zT (dnR m Ts r))) (sI (jnA J e (dnR m Ts r))) (sI (jnA J e (dnR m Ts r))) e12 e13 e14 (sI (jnA J e (dnR m Ts r).reverse))) (WD.e (zb (i := 15) rfl)) (WD.e (zac (WD.e (zb (i := 1) rfl)) (zjP (zb (i := 9) rfl)) (wJ A L hdv))) (q := jnA J e (dnR m Ts r).reverse == jnA J e (dnR m Ts r).reverse) rfl
 rw [beq_self_eq_true] at q
 exact ZG q
end
theorem zlR (ns : List Int) (hns : ns.length <= 63) : zdH [(true, .lst (ns.map .int))] = some (.lf true (.bl true)) := by
 obtain ⟨c0, h0⟩ := Vt (ns := ns) (k := 0) (s := true) (t := true) (by omega)
 obtain ⟨c1, h1⟩ := Vt (ns := ns) (k := 1) (s := true) (t := true) (by omega)
 obtain ⟨c2, h2⟩ := Vt (ns := ns) (k := 2) (s := true) (t := true) (by omega)
 obtain ⟨c3, h3⟩ := Vt (ns := ns) (k := 3) (s := true) (t := true) (by omega)
 have z0 := Int.emod_nonneg c2 (show (4 : Int) ≠ 0 by decide)
 have z1 := Int.emod_lt_of_pos c2 (show (0 : Int) < 4 by decide)
 obtain ⟨w, ew⟩ : ∃ w : Nat, (w : Int) = 1 + c2 % 4 := ⟨(1 + c2 % 4).toNat, by omega⟩
 obtain ⟨n, m, J, e, Ds, S, M, hw, ha⟩ := zhz (c := c0) (h := c1) (w := w) (by omega)
 rw [ew] at ha
 have y0 := Int.emod_nonneg (c2 / 4) (show (60 : Int) ≠ 0 by decide)
 have y1 := Int.emod_lt_of_pos (c2 / 4) (show (0 : Int) < 60 by decide)
 obtain ⟨k, ek⟩ : ∃ k : Nat, (k : Int) = c2 / 4 % 60 := ⟨(c2 / 4 % 60).toNat, by omega⟩
 have x0 := Int.emod_nonneg c3 (show (21 : Int) ≠ 0 by decide)
 have x1 := Int.emod_lt_of_pos c3 (show (0 : Int) < 21 by decide)
 obtain ⟨q, eq⟩ : ∃ q : Nat, (q : Int) = c3 % 21 := ⟨(c3 % 21).toNat, by omega⟩
 obtain ⟨os, r, e4, ho, hl, hf⟩ := zmL (ns := ns) (n := n) (m := m) (J := J) (e := e) (Ds := Ds) (S := S) M.al.n1 (k := k) (by omega)
 obtain ⟨ps, Ts, W, e4', e7, e8, hp, hk, hg⟩ := zjq (ns := ns) (S := S) M.al M.la (by omega) (k := q) (by omega) (e3 := sT (zT r)) (e4 := e4)
 have cl : ∀ (as : AS) (k : Int) (x : Int), as[0]? = some (sT (.lst (ns.map .int))) -> zK [(true, .lst (ns.map .int)), (true, .int k)] = sT (.int x) -> WD (zH (aC (fV 0) (aC (fC (.int k)) aN)) zK) as true (.int x) := λ as k x h hh => v4 (zB (zb h) (zB zg zL)) hh
 have wr := xT (zB (zY (xR (cl (c16 ns n m J e Ds S (sN []) none none none none none none none none none none none none) 2 c2 rfl h2) (zg (x := .int 4)) (by decide) (zP (by decide) (by decide))) (zg (x := .int 60)) (by decide)) zL) y0 (by omega)
 rw [<- ek, Int.toNat_natCast] at wr
 have wq := xT (zB (zY (cl (c16 ns n m J e Ds S (sT (zT r)) e4 (sT (yQ (idT n m))) (sN []) none none none none none none none none none) 3 c3 rfl h3) (zg (x := .int 21)) (by decide)) zL) x0 (by omega)
 rw [<- eq, Int.toNat_natCast] at wq
 have f3 := ho.frz
 have f6 := hp.frz
 refine Xl rfl (zW (Yh (p := 1) (zfp (WD.e (cl _ 0 c0 rfl h0)) (WD.e (cl _ 1 c1 rfl h1)) (WD.e (yF zg (zY (cl _ 2 c2 rfl h2) zg (by decide)))) ha) (zG rfl)) (zW (Yh (p := 2) (XR (WD.e (zb (i := 1) rfl)) (znw M.al M.la M.s3 M.sn)) (zG rfl)) (zW (wM (i := 3) (Xd yO (szl rfl)) (zG rfl)) (zW (wV wr hf) (zlb (i := 3) (o := .nd .ls os) rfl ?_)))))
 rw [f3]
 refine zW (Yh (p := 5) (zqz (zb (i := 2) rfl) (by decide +kernel) rfl (zmk M.al.m1 M.al.m6 M.al.n8)) (zG rfl)) (zW (wM (i := 6) (Xd yO (szl rfl)) (zG rfl)) (zW (wV wq hg) (zlb (i := 6) (o := .nd .ls ps) rfl ?_)))
 rw [f6]
 exact zom M.al M.la hk ho.al (by omega)
end G23
end
namespace G23
open PySem PySem.W PyProof.Rows L2
abbrev kF (n q : Str) (s : Stmt) (pm cd : Value) : Obj := ⟨.type "function", none, .func (fnOf n q (zeI s) (Vr s) (zA s) .none .none .none pm none cd .none), #[]⟩
abbrev kC (n : Str) (a : Nat) (q : Str) (b c : Nat) (i3 i4 i5 i6 i7 : Int) (r8 : Addr) (b9 : Bool) (i10 : Int) (r11 r13 r14 r15 : Addr) (i16 i17 : Int) (d : Nat) : Obj := ⟨.type "code", none, .fields #[.str n a, .str q b, .str "/claim/cut.py" c, .int i3 0, .int i4 0, .int i5 0, .int i6 0, .int i7 0, .ref r8, .bool b9, .int i10 0, .ref r11, .none, .ref r13, .ref r14, .ref r15, .int i16 0, .int i17 0, .str "/claim/cut.py" d], #[]⟩
abbrev kD (es : List DictEntry) (n : Nat) : Obj := ⟨.type "dict", none, .dict es.toArray n, #[]⟩
abbrev kE (P : Params) (x : Str) (t : Nat) (v : Value) : DictEntry := ⟨PyData.keyHash P x, .str x t, v⟩
abbrev kR (P : Params) (x : Str) (t : Nat) (a : Addr) : DictEntry := kE P x t (.ref a)
def K (P : Params) : Frag :=
 (nat_lit 3, kD [kE P "__name__" 165 (.str "law_stretchdeeds_k23_whole_rows_of_an_algebr" 426), kE P "__doc__" 166 .none, kE P "__package__" 167 .none, kE P "__loader__" 168 (.builtin "__main__.__loader__#opaque"), kE P "__spec__" 169 .none, kR P "__annotations__" 170 6, kR P "__builtins__" 171 4, kE P "__file__" 173 (.str "/claim/cut.py" 172), kE P "__cached__" 174 .none, kR P "_wall" 193 21, kR P "StretchError" 213 31, kR P "NotLetBy" 238 51, kR P "nothing_fails" 250 60, kR P "parting_fails" 262 67, kR P "doing_fails" 278 74, kR P "deeds_fail" 289 81, kR P "what_fails" 297 88, kR P "check_let_by" 305 95, kR P "firm" 313 100, kR P "Ways" 425 183, kR P "_law_cell_at" 435 194, kR P "_law_mixed" 444 201, kR P "_law_whole" 451 208, kR P "_law_words" 457 213, kR P "_law_common" 465 220, kR P "_law_joined_by" 476 227, kR P "_law_images" 482 232, kR P "_law_done_by" 488 237, kR P "_law_kinds" 498 244, kR P "_law_stream" 509 251, kR P "_law_algebra" 515 256, kR P "_law_whole_of" 525 263, kR P "_law_done" 531 268, kR P "law" 553 275] 34) ::
 (nat_lit 59, kC "nothing_fails" 241 "nothing_fails" 242 243 13 1 0 0 3 54 true 181 55 56 57 58 248 13 249) ::
 (nat_lit 60, kF "nothing_fails" "nothing_fails" vA (.str "stretchdeeds.algebras" 239) (.ref 59)) ::
 (nat_lit 66, kC "parting_fails" 251 "parting_fails" 252 253 20 1 0 0 3 61 true 181 62 63 64 65 260 20 261) ::
 (nat_lit 67, kF "parting_fails" "parting_fails" vB (.str "stretchdeeds.algebras" 239) (.ref 66)) ::
 (nat_lit 73, kC "doing_fails" 263 "doing_fails" 264 265 29 3 0 0 3 68 true 181 69 70 71 72 276 29 277) ::
 (nat_lit 74, kF "doing_fails" "doing_fails" Zr (.str "stretchdeeds.algebras" 239) (.ref 73)) ::
 (nat_lit 80, kC "deeds_fail" 279 "deeds_fail" 280 281 40 1 0 0 3 75 true 181 76 77 78 79 287 40 288) ::
 (nat_lit 81, kF "deeds_fail" "deeds_fail" Z2 (.str "stretchdeeds.algebras" 239) (.ref 80)) ::
 (nat_lit 87, kC "what_fails" 290 "what_fails" 291 292 49 1 0 0 3 82 true 181 83 84 85 86 295 49 296) ::
 (nat_lit 88, kF "what_fails" "what_fails" Z4 (.str "stretchdeeds.algebras" 239) (.ref 87)) ::
 (nat_lit 94, kC "check_let_by" 298 "check_let_by" 299 300 56 1 0 0 3 89 true 181 90 91 92 93 303 56 304) ::
 (nat_lit 95, kF "check_let_by" "check_let_by" vO (.str "stretchdeeds.algebras" 239) (.ref 94)) ::
 (nat_lit 99, ⟨.type "code", none, .fields #[(.str "firm" 308), (.str "firm" 309), (.str "/claim/cut.py" 310), (.int (61) 0), (.int (1) 0), (.int (0) 0), (.int (0) 0), (.int (3) 0), (.ref 96), (.bool true), (.int (181) 0), (.ref 97), .none, .none, .none, (.ref 98), (.int (311) 0), (.int (61) 0), (.str "/claim/cut.py" 312)], #[]⟩) ::
 (nat_lit 100, kF "firm" "firm" zdq (.str "stretchdeeds.ways" 306) (.ref 99)) ::
 (nat_lit 111, ⟨.type "code", none, .fields #[(.str "__init__" 326), (.str "Ways.__init__" 327), (.str "/claim/cut.py" 328), (.int (65) 0), (.int (2) 0), (.int (0) 0), (.int (0) 0), (.int (3) 0), (.ref 108), (.bool true), (.int (181) 0), (.ref 109), .none, .none, .none, (.ref 110), (.int (329) 0), (.int (65) 0), (.str "/claim/cut.py" 330)], #[]⟩) ::
 (nat_lit 112, kF "__init__" "Ways.__init__" xu (.str "stretchdeeds.ways" 306) (.ref 111)) ::
 (nat_lit 146, kC "join" 363 "Ways.join" 364 365 86 3 0 0 3 141 true 181 142 143 144 145 369 86 370) ::
 (nat_lit 147, kF "join" "Ways.join" YG (.str "stretchdeeds.ways" 306) (.ref 146)) ::
 (nat_lit 160, kC "idle" 381 "Ways.idle" 382 383 92 1 0 0 3 155 true 181 156 157 158 159 385 92 386) ::
 (nat_lit 161, kF "idle" "Ways.idle" YK (.str "stretchdeeds.ways" 306) (.ref 160)) ::
 (nat_lit 167, kC "wait_of" 388 "Ways.wait_of" 389 390 95 2 0 0 3 162 true 181 163 164 165 166 393 95 394) ::
 (nat_lit 168, kF "wait_of" "Ways.wait_of" vX (.str "stretchdeeds.ways" 306) (.ref 167)) ::
 (nat_lit 172, ⟨.type "code", none, .fields #[(.str "behind" 396), (.str "Ways.behind" 397), (.str "/claim/cut.py" 398), (.int (98) 0), (.int (3) 0), (.int (0) 0), (.int (0) 0), (.int (3) 0), (.ref 169), (.bool true), (.int (181) 0), (.ref 170), .none, .none, .none, (.ref 171), (.int (399) 0), (.int (98) 0), (.str "/claim/cut.py" 400)], #[]⟩) ::
 (nat_lit 173, kF "behind" "Ways.behind" wZ (.str "stretchdeeds.ways" 306) (.ref 172)) ::
 (nat_lit 179, kC "made" 402 "Ways.made" 403 404 101 4 0 0 3 174 true 181 175 176 177 178 409 101 410) ::
 (nat_lit 180, kF "made" "Ways.made" YB (.str "stretchdeeds.ways" 306) (.ref 179)) ::
 (nat_lit 182, kD [kE P "__module__" 321 (.str "stretchdeeds.ways" 306), kE P "__firstlineno__" 325 (.int (63) 324), kR P "__init__" 331 112, kR P "is_value" 339 119, kR P "is_deed" 347 126, kR P "is_sign" 355 133, kR P "nothing" 362 140, kR P "join" 371 147, kR P "has_sign" 380 154, kR P "idle" 387 161, kR P "wait_of" 395 168, kR P "behind" 401 173, kR P "made" 411 180, kR P "__static_attributes__" 418 181, kR P "__dict__" 420 184, kR P "__weakref__" 422 185, kE P "__doc__" 423 .none] 4) ::
 (nat_lit 183, ⟨(.type "type"), none, .cls { name := "Ways", bases := [(.type "object")], mro := [(.ref 183), (.type "object")], ns := 182, qualname := "Ways", hasDict := true, slotNames := [], subclasses := [], abstract := false, collection := none, hasDel := false }, #[none, none, some (.str "Ways" 314), some (.str "Ways" 322), some (.builtin "object.__new__"), some (.bool true)]⟩) ::
 (nat_lit 193, kC "_law_cell_at" 428 "_law_cell_at" 429 430 104 2 0 0 3 188 true 181 189 190 191 192 433 104 434) ::
 (nat_lit 194, kF "_law_cell_at" "_law_cell_at" Zu (.str "law_stretchdeeds_k23_whole_rows_of_an_algebr" 426) (.ref 193)) ::
 (nat_lit 200, kC "_law_mixed" 436 "_law_mixed" 437 438 108 2 0 0 3 195 true 181 196 197 198 199 442 108 443) ::
 (nat_lit 201, kF "_law_mixed" "_law_mixed" YD (.str "law_stretchdeeds_k23_whole_rows_of_an_algebr" 426) (.ref 200)) ::
 (nat_lit 207, kC "_law_whole" 445 "_law_whole" 446 447 111 1 0 0 3 202 true 181 203 204 205 206 449 111 450) ::
 (nat_lit 208, kF "_law_whole" "_law_whole" YJ (.str "law_stretchdeeds_k23_whole_rows_of_an_algebr" 426) (.ref 207)) ::
 (nat_lit 212, ⟨.type "code", none, .fields #[(.str "_law_words" 452), (.str "_law_words" 453), (.str "/claim/cut.py" 454), (.int (113) 0), (.int (2) 0), (.int (0) 0), (.int (0) 0), (.int (3) 0), (.ref 209), (.bool true), (.int (181) 0), (.ref 210), .none, .none, .none, (.ref 211), (.int (455) 0), (.int (113) 0), (.str "/claim/cut.py" 456)], #[]⟩) ::
 (nat_lit 213, kF "_law_words" "_law_words" Zx (.str "law_stretchdeeds_k23_whole_rows_of_an_algebr" 426) (.ref 212)) ::
 (nat_lit 219, kC "_law_common" 458 "_law_common" 459 460 122 2 0 0 3 214 true 181 215 216 217 218 463 122 464) ::
 (nat_lit 220, kF "_law_common" "_law_common" Z0 (.str "law_stretchdeeds_k23_whole_rows_of_an_algebr" 426) (.ref 219)) ::
 (nat_lit 226, kC "_law_joined_by" 466 "_law_joined_by" 467 468 126 4 0 0 3 221 true 181 222 223 224 225 474 126 475) ::
 (nat_lit 227, kF "_law_joined_by" "_law_joined_by" vz (.str "law_stretchdeeds_k23_whole_rows_of_an_algebr" 426) (.ref 226)) ::
 (nat_lit 231, ⟨.type "code", none, .fields #[(.str "_law_images" 477), (.str "_law_images" 478), (.str "/claim/cut.py" 479), (.int (135) 0), (.int (3) 0), (.int (0) 0), (.int (0) 0), (.int (3) 0), (.ref 228), (.bool true), (.int (181) 0), (.ref 229), .none, .none, .none, (.ref 230), (.int (480) 0), (.int (135) 0), (.str "/claim/cut.py" 481)], #[]⟩) ::
 (nat_lit 232, kF "_law_images" "_law_images" vP (.str "law_stretchdeeds_k23_whole_rows_of_an_algebr" 426) (.ref 231)) ::
 (nat_lit 236, ⟨.type "code", none, .fields #[(.str "_law_done_by" 483), (.str "_law_done_by" 484), (.str "/claim/cut.py" 485), (.int (145) 0), (.int (4) 0), (.int (0) 0), (.int (0) 0), (.int (3) 0), (.ref 233), (.bool true), (.int (181) 0), (.ref 234), .none, .none, .none, (.ref 235), (.int (486) 0), (.int (145) 0), (.str "/claim/cut.py" 487)], #[]⟩) ::
 (nat_lit 237, kF "_law_done_by" "_law_done_by" wz (.str "law_stretchdeeds_k23_whole_rows_of_an_algebr" 426) (.ref 236)) ::
 (nat_lit 243, kC "_law_kinds" 489 "_law_kinds" 490 491 151 1 0 0 3 238 true 181 239 240 241 242 496 151 497) ::
 (nat_lit 244, kF "_law_kinds" "_law_kinds" YL (.str "law_stretchdeeds_k23_whole_rows_of_an_algebr" 426) (.ref 243)) ::
 (nat_lit 250, kC "_law_stream" 499 "_law_stream" 500 501 160 2 0 0 3 245 true 181 246 247 248 249 507 160 508) ::
 (nat_lit 251, kF "_law_stream" "_law_stream" Z5 (.str "law_stretchdeeds_k23_whole_rows_of_an_algebr" 426) (.ref 250)) ::
 (nat_lit 255, ⟨.type "code", none, .fields #[(.str "_law_algebra" 510), (.str "_law_algebra" 511), (.str "/claim/cut.py" 512), (.int (170) 0), (.int (3) 0), (.int (0) 0), (.int (0) 0), (.int (3) 0), (.ref 252), (.bool true), (.int (181) 0), (.ref 253), .none, .none, .none, (.ref 254), (.int (513) 0), (.int (170) 0), (.str "/claim/cut.py" 514)], #[]⟩) ::
 (nat_lit 256, kF "_law_algebra" "_law_algebra" xN (.str "law_stretchdeeds_k23_whole_rows_of_an_algebr" 426) (.ref 255)) ::
 (nat_lit 262, kC "_law_whole_of" 516 "_law_whole_of" 517 518 205 2 0 0 3 257 true 181 258 259 260 261 523 205 524) ::
 (nat_lit 263, kF "_law_whole_of" "_law_whole_of" vY (.str "law_stretchdeeds_k23_whole_rows_of_an_algebr" 426) (.ref 262)) ::
 (nat_lit 267, ⟨.type "code", none, .fields #[(.str "_law_done" 526), (.str "_law_done" 527), (.str "/claim/cut.py" 528), (.int (210) 0), (.int (3) 0), (.int (0) 0), (.int (0) 0), (.int (3) 0), (.ref 264), (.bool true), (.int (181) 0), (.ref 265), .none, .none, .none, (.ref 266), (.int (529) 0), (.int (210) 0), (.str "/claim/cut.py" 530)], #[]⟩) ::
 (nat_lit 268, kF "_law_done" "_law_done" Yb (.str "law_stretchdeeds_k23_whole_rows_of_an_algebr" 426) (.ref 267)) ::
 (nat_lit 274, kC "law" 532 "law" 533 534 214 1 0 0 3 269 true 181 270 271 272 273 551 214 552) ::
 (nat_lit 275, kF "law" "law" ziG (.str "law_stretchdeeds_k23_whole_rows_of_an_algebr" 426) (.ref 274)) ::
 []
def kA : List Addr := [3, 59, 60, 66, 67, 73, 74, 80, 81, 87, 88, 94, 95, 99, 100, 111, 112, 146, 147, 160, 161, 167, 168, 172, 173, 179, 180, 182, 183, 193, 194, 200, 201, 207, 208, 212, 213, 219, 220, 226, 227, 231, 232, 236, 237, 243, 244, 250, 251, 255, 256, 262, 263, 267, 268, 274, 275]
def qv : Program := { PySem.Challenge.pw_stretchdeeds_k23_whole_rows_of_an_algebr with main := { PySem.Challenge.pw_stretchdeeds_k23_whole_rows_of_an_algebr.main with body := [0, 2, 3, 5, 6, 7, 8, 9, 10, 12, 13, 15, 16, 17, 18, 19, 20, 21, 22, 23, 24, 25, 26, 27, 28].map top } }
theorem kAe (P : Params) : kA = (K P).map (·.1) := by kernel_rfl
set_option maxRecDepth 100000
theorem ws : PySem.Challenge.rw_stretchdeeds_k23_whole_rows_of_an_algebr.wellSaid = true := by kernel_rfl
abbrev Xt (s : Shared) : Bool := xlAt qv [] s && recOk (RowW.records (OpenRow.toRowW PySem.Challenge.rw_stretchdeeds_k23_whole_rows_of_an_algebr.row)) s
abbrev hk : Hook := kHook K kA kAe
theorem hl : LeftO PySem.Challenge.pw_stretchdeeds_k23_whole_rows_of_an_algebr qv [] Xt hk.obs hk.val 3546 := λ w => by kernel_rfl
end G23
open PySem PySem.W PyProof.Rows
set_option maxRecDepth 100000 in
set_option maxHeartbeats 0 in
theorem PySem.Challenge.cw_stretchdeeds_k23_whole_rows_of_an_algebr_holds : PySem.Challenge.rw_stretchdeeds_k23_whole_rows_of_an_algebr.Holds := by
 w_on; refine holds_law G23.ws λ said => ?_
 refine holds_open (q := G23.qv) (loose := []) (Xt := G23.Xt) (XP := XL G23.qv []) (Yf := Hook.obs (kHook G23.K G23.kA G23.kAe)) (Ya := Hook.val (kHook G23.K G23.kA G23.kAe)) (YP := Hook.says (kHook G23.K G23.kA G23.kAe)) (N := 3546) G23.hl (Hook.of (kHook G23.K G23.kA G23.kAe)) (Hook.keeps (kHook G23.K G23.kA G23.kAe)) (λ s e => xl_of s (Bool.and_eq_true_iff.mp e).1) XL.keeps (by rfl) (by rfl) (by rfl) (λ s e => recFacts_of (Bool.and_eq_true_iff.mp e).2) (by rfl) (by first | assumption | decide +kernel) (by decide +kernel) ⟨rfl, rfl, rfl, rfl, rfl, by decide +kernel⟩ ?hw ?hc
 (case hw => w_witness2)
 k_fill
 refine G23.walk (l := PySem.Challenge.rw_stretchdeeds_k23_whole_rows_of_an_algebr) rfl rfl (λ w h Y => PySem.W.kIn_of Y) G23.zlR ?F
 case F =>
  intro w mg fa h KX G hmg
  refine' G23.zob KX G hmg ?_ ?_ ?_ ?_ ?_ ?_ ?_ ?_ ?_ ?_ ?_ ?_ ?_ ?_ ?_ ?_ ?_ ?_ ?_ ?_ ?_ ?_ ?_ ?_ ?_ ?_ ?_ ?_ ?_ ?_ ?_ ?_ ?_ ?_ ?_ ?_ ?_ ?_ ?_ ?_ ?_ ?_ ?_ ?_ ?_ ?_ ?_ ?_ ?_ ?_ ?_ ?_ ?_ ?_ ?_ ?_ ?_ ?_ ?_ ?_ ?_ ?_ ?_ ?_ ?_ ?_ ?_ ?_ ?_ ?_ ?_ ?_ ?_ ?_ ?_ ?_ ?_ ?_ ?_ ?_ ?_ ?_ ?_ ?_ ?_ ?_ ?_ ?_ ?_ ?_
  all_goals try first | k_is | (change _ = _; k_is) | exact ⟨_, ⟨_, _, _, _, _, _, _, _, _, rfl, by k_is, by k_is⟩, by k_is⟩ | rfl
#print axioms PySem.Challenge.cw_stretchdeeds_k23_whole_rows_of_an_algebr_holds
